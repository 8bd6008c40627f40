/- Texts of one's own, merged: from: Layer 1 on data: Put,Get,Same,Join,Hex: what they return. Own work. -/
import Derived.Test.YtofonnokanoflaaGreatProg
import Derived.Test.YtofonnokanoflaaGreatMz27
set_option linter.unusedVariables false
set_option linter.unusedSimpArgs false
namespace Go.Proofs.YtofonnokanoflaaGreat
open Go.RowKit IntWalk
set_option maxHeartbeats 400000
theorem eo {l:List UInt8} {i:Nat} {x:D} (hi:i<l.length) (hx:x.one=true):kv .sc (.c (.d x)) i 0 (.row 1 (l.map bD))=some (.row 1 ((l.map bD).set i x)):=by
  simp[kv,aD,abF hi,bD,gU,hx]
theorem MD {l:List UInt32} {i:Nat} {x:D} (hi:i<l.length) (hx:x.one=true):kv .sc (.c (.d x)) i 0 (.row 1 (l.map wD))=some (.row 1 ((l.map wD).set i x)):=by
  simp[kv,aD,abF hi,wD,gU,hx]
theorem ft (l:List UInt8) (i:Nat) (x:UInt8):(l.map bD).set i (bD x)=(l.set i x).map bD:=nI bD l i x
theorem ME (l:List UInt32) (i:Nat) (x:UInt32):(l.map wD).set i (wD x)=(l.set i x).map wD:=nI wD l i x
theorem OL (n:Nat):List.replicate n (D.int .u8 0)=(List.replicate n (0:UInt8)).map bD:=by simp[bD]
def au (v n:Nat):List UInt8:=(List.range n).map fun i=>UInt8.ofNat (v / 256^(n-1-i))
def jj (v n m:Nat):List UInt8:=List.replicate m 0++(au v n).drop m
def ol (v:Nat) (n:Int):List UInt8:=if 0≤n∧n≤64 then au v n.toNat else []
theorem bP (v n:Nat):(au v n).length=n:=by simp[au]
theorem yf (v n m:Nat) (h:m≤n):(jj v n m).length=n:=by simp[jj,bP]; omega
theorem Fl (v n:Nat):jj v n 0=au v n:=by simp[jj]
theorem Fo (v n:Nat):jj v n n=List.replicate n 0:=by simp[jj,bP]
theorem Fp (v n i:Nat) (h:i+1≤n):jj v n i=(jj v n (i+1)).set i (UInt8.ofNat (v / 256^(n-(i+1)))):=by
  apply ac3;intro j;rw[List.getElem?_set];have hl:i<(au v n).length:=by rw[bP]; omega
  by_cases hj:i=j
  ·subst hj;rw[if_pos rfl,if_pos (by rw[yf _ _ _ h]; omega)];simp only[jj,List.getElem?_append,ab3,Nat.lt_irrefl,if_false,Nat.sub_self,ach,acD];rw[abF hl];simp[au,Nat.sub_sub,Nat.add_comm 1 i]
  ·rw[if_neg hj];simp only[jj,List.getElem?_append,ab3,List.getElem?_replicate,ach];by_cases h1:j<i
   ·rw[if_pos h1,if_pos h1,if_pos (by omega),if_pos (by omega)]
   ·rw[if_neg h1,if_neg (by omega)]
    congr 1; omega
theorem byte_of (v:Nat):D.int .u8 (IntKind.u8.wrap (v:Int))=bD (UInt8.ofNat v):=by
  rw[IntKind.wrap_u8];simp[bD]
def qc (v n m:Nat):St:=⟨aT [(0,.w (.c (.d (.int .u64 ((v / 256^(n-m):Nat):Int))))),(5,.w (.c (.own 1 1 0 n))),(6,.w (.c (.d (.int .i64 ((m:Int)-1)))))],hL [(1,.row 1 ((jj v n m).map bD))],uL [1]⟩
def zH:aS := .seq (.seq (.reg [oM 17 6,oO 18 (.bin .geq (.t 17) (kI 0))]) (.cond (.t 18) (.skip) (.exit 0))) (.seq (.block 1 (.seq (.reg [oM 21 5,oM 22 6,oM 23 0,oO 24 (.conv .u8 (.t 23)),oO 25 (.idxSl 1 (.t 21) (.t 22)),oN (.store .sc (.t 25) (.t 24))]) (.reg [oM 26 0,oO 27 (.bin .shr (.t 26) (.k (.c (.d (.int .u64 8))))),oM 0 27]))) (.reg [oM 19 6,oO 20 (.bin .sub (.t 19) (kI 1)),oM 6 20]))
def wb:aG:=⟨2,29,.seq (.reg [oO 4 (.mv (.k (.c .nil)))]) (.seq (.seq (.reg [oM 7 1,oO 8 (.bin .lss (.t 7) (kI 0)),oM 9 8,oG 10 (.mv (.t 1)) 9 false,oG 11 (.bin .gtr (.t 10) (kI 64)) 9 false,oO 12 (.pick (.t 9) (.k (.c (.d (.bool true)))) (.t 11))]) (.cond (.t 12) (.seq (.reg [oO 4 (.mv (.k (.c .nil)))]) (.ret)) (.skip))) (.seq (.reg [oM 13 1,oO 14 (.make true 1 1 (.int .u8 0) (.t 13) (.t 13)),oM 5 14]) (.seq (.seq (.reg [oM 15 1,oO 16 (.bin .sub (.t 15) (kI 1)),oM 6 16]) (.block 0 (.loop zH))) (.seq (.reg [oM 28 5,oM 4 28]) (.ret))))),[(4,none)]⟩
theorem MF:aF Tryz.prog { own:=[],comp:=[],frz:=[],nils:=[] } Tryz.f81=some wb:=by kernel_rfl
theorem Bf (G:ah) (v n:Nat) (hn:n≤64):aB Tryz.prog G 81 [.int .u64 v,.int .i64 n] (.w (.c (.fr 1 ((au v n).map bD)))):=by
  refine aI Tryz.func81 MF rfl rfl ?_;have e1:IntKind.i64.wrap ((n:Int)-1)=(n:Int)-1:=IntWalk.i64_in _ (by omega);simp only[wb,af,wx,aa,seval,iteOmega,toNatUp,e1];refine ba (qc v n) (fun m=>m) (fun m=>m≤n) n (abR _) ?_ ?_
  ·refine ap (fun _=>112) ?_ ?_ rfl rfl <;> simp only[wx,aj,aa,seval,iteOmega,toNatUp,Fo,OL,Nat.sub_self,Nat.pow_zero,Nat.div_one]
  ·intro m hm;rcases acM m with rfl | hpos
   ·simp only[zH,qc,wx,aa,seval,iteOmega,toNatUp,Fl];refine eI (id:=1) (n:=n) (s:=1) ?_ ?_ ?_ <;> simp only[wx,aa,seval,iteOmega,toNatUp,bP]
   ·obtain⟨i,rfl⟩:∃ i,m=i+1:=⟨m-1,by omega⟩
    have e2:((i+1:Nat):Int)-1=(i:Int):=by omega
    have hlt:i<(jj v n (i+1)).length:=by rw[yf _ _ _ hm]; omega
    have e3:IntKind.i64.wrap ((i:Int)-1)=(i:Int)-1:=IntWalk.i64_in _ (by omega);simp only[zH,qc,wx,aa,seval,iteOmega,toNatUp,e2,e3,acR,acD,byte_of,eo hlt (d8 _),ft,← Fp _ _ _ hm,IntKind.bits];refine aU i (by omega) (by omega) (ap id ?_ ?_ rfl rfl) <;> simp only[wx,aj,aa,seval,iteOmega,toNatUp];have e4:v / 256^(n-(i+1)) / 256=v / 256^(n-i):=by
      rw[show n-i=n-(i+1)+1 by omega,adH,← adu]
    simpa using congrArg (Nat.cast:Nat→Int) e4
theorem OM (G:ah) (v:Nat) (n:Int):aB Tryz.prog G 81 [.int .u64 v,.int .i64 n] (.w (.c (.fr 1 ((ol v n).map bD)))):=by
  unfold ol;by_cases h:0≤n∧n≤64
  ·rw[if_pos h];obtain⟨n,rfl⟩:=acB h.1;exact Bf G v n (by omega)
  ·rw[if_neg h];refine aI Tryz.func81 MF rfl rfl ?_;by_cases h0:n<0
   ·simp only[wb,af,wx,aa,seval,iteOmega,toNatUp];exact rM (by simp[wx,aa,seval,iteOmega,toNatUp])
   ·have h1:64<n:=by omega
    simp only[wb,af,wx,aa,seval,iteOmega,toNatUp];exact rM (by simp[wx,aa,seval,iteOmega,toNatUp])
def yG:aS := .seq (.seq (.reg [oM 17 6,oO 18 (.bin .geq (.t 17) (kI 0))]) (.cond (.t 18) (.skip) (.exit 0))) (.seq (.block 1 (.seq (.reg [oM 21 5,oM 22 6,oM 23 0,oO 24 (.conv .u8 (.t 23)),oO 25 (.idxSl 1 (.t 21) (.t 22)),oN (.store .sc (.t 25) (.t 24))]) (.reg [oM 26 0,oO 27 (.bin .shr (.t 26) (.k (.c (.d (.int .u64 8))))),oM 0 27]))) (.reg [oM 19 6,oO 20 (.bin .sub (.t 19) (kI 1)),oM 6 20]))
def vz:aG:=⟨2,29,.seq (.reg [oO 4 (.mv (.k (.c .nil)))]) (.seq (.seq (.reg [oM 7 1,oO 8 (.bin .lss (.t 7) (kI 0)),oM 9 8,oG 10 (.mv (.t 1)) 9 false,oG 11 (.bin .gtr (.t 10) (kI 64)) 9 false,oO 12 (.pick (.t 9) (.k (.c (.d (.bool true)))) (.t 11))]) (.cond (.t 12) (.seq (.reg [oO 4 (.mv (.k (.c .nil)))]) (.ret)) (.skip))) (.seq (.reg [oM 13 1,oO 14 (.make true 1 1 (.int .u8 0) (.t 13) (.t 13)),oM 5 14]) (.seq (.seq (.reg [oM 15 1,oO 16 (.bin .sub (.t 15) (kI 1)),oM 6 16]) (.block 0 (.loop yG))) (.seq (.reg [oM 28 5,oM 4 28]) (.ret))))),[(4,none)]⟩
theorem JD:aF Tryz.prog { own:=[],comp:=[],frz:=[],nils:=[] } Tryz.f42=some vz:=by kernel_rfl
theorem rO (G:ah) (v n:Nat) (hn:n≤64):aB Tryz.prog G 42 [.int .u64 v,.int .i64 n] (.w (.c (.fr 1 ((au v n).map bD)))):=by
  refine aI Tryz.func42 JD rfl rfl ?_;have e1:IntKind.i64.wrap ((n:Int)-1)=(n:Int)-1:=IntWalk.i64_in _ (by omega);simp only[vz,af,wx,aa,seval,iteOmega,toNatUp,e1];refine ba (qc v n) (fun m=>m) (fun m=>m≤n) n (abR _) ?_ ?_
  ·refine ap (fun _=>112) ?_ ?_ rfl rfl <;> simp only[wx,aj,aa,seval,iteOmega,toNatUp,Fo,OL,Nat.sub_self,Nat.pow_zero,Nat.div_one]
  ·intro m hm;rcases acM m with rfl | hpos
   ·simp only[yG,qc,wx,aa,seval,iteOmega,toNatUp,Fl];refine eI (id:=1) (n:=n) (s:=1) ?_ ?_ ?_ <;> simp only[wx,aa,seval,iteOmega,toNatUp,bP]
   ·obtain⟨i,rfl⟩:∃ i,m=i+1:=⟨m-1,by omega⟩
    have e2:((i+1:Nat):Int)-1=(i:Int):=by omega
    have hlt:i<(jj v n (i+1)).length:=by rw[yf _ _ _ hm]; omega
    have e3:IntKind.i64.wrap ((i:Int)-1)=(i:Int)-1:=IntWalk.i64_in _ (by omega);simp only[yG,qc,wx,aa,seval,iteOmega,toNatUp,e2,e3,acR,acD,byte_of,eo hlt (d8 _),ft,← Fp _ _ _ hm,IntKind.bits];refine aU i (by omega) (by omega) (ap id ?_ ?_ rfl rfl) <;> simp only[wx,aj,aa,seval,iteOmega,toNatUp];have e4:v / 256^(n-(i+1)) / 256=v / 256^(n-i):=by
      rw[show n-i=n-(i+1)+1 by omega,adH,← adu]
    simpa using congrArg (Nat.cast:Nat→Int) e4
theorem Xn (G:ah) (v:Nat) (n:Int):aB Tryz.prog G 42 [.int .u64 v,.int .i64 n] (.w (.c (.fr 1 ((ol v n).map bD)))):=by
  unfold ol;by_cases h:0≤n∧n≤64
  ·rw[if_pos h];obtain⟨n,rfl⟩:=acB h.1;exact rO G v n (by omega)
  ·rw[if_neg h];refine aI Tryz.func42 JD rfl rfl ?_;by_cases h0:n<0
   ·simp only[vz,af,wx,aa,seval,iteOmega,toNatUp];exact rM (by simp[wx,aa,seval,iteOmega,toNatUp])
   ·have h1:64<n:=by omega
    simp only[vz,af,wx,aa,seval,iteOmega,toNatUp];exact rM (by simp[wx,aa,seval,iteOmega,toNatUp])
theorem toList_mk (l:List UInt8):(⟨l.toArray⟩:ByteArray).toList=l:=Go.ByteArray.toList_mk l
theorem Fq (l m:List UInt8):m7 .eql ⟨l.toArray⟩ ⟨m.toArray⟩=some (.bool (l==m)):=by
  simp only[m7,toList_mk]
def HA:aG:=⟨2,10,.seq (.reg [oO 4 (.mv (.k (.c (.d (.bool false)))))]) (.seq (.reg [oM 5 0,oO 6 (.b2s (.t 5)),oM 7 1,oO 8 (.b2s (.t 7)),oO 9 (.bin .eql (.t 6) (.t 8)),oM 4 9]) (.ret)),[(4,none)]⟩
theorem SV:aF Tryz.prog { own:=[],comp:=[],frz:=[],nils:=[] } Tryz.f12=some HA:=by kernel_rfl
theorem rP (G:ah) (l m:List UInt8):aB Tryz.prog G 12 [.sl (l.map bD),.sl (m.map bD)] (.w (.c (.d (.bool (l==m))))):=by
  refine aI Tryz.func12 SV rfl rfl ?_;simp only[HA,af,wx,aa,seval,iteOmega,toNatUp,zG,Fq];exact qb (by simp only[wx,aa,seval,iteOmega,toNatUp])
theorem fP (ls:List (List UInt8)):eT 1 (ls.map fun l=>D.sl (l.map bD))=true:=uk _ (fun _=>rfl) ls
def An (ls:List (List UInt8)) (i:Nat):St:=⟨aT [(0,.w (.c (.d (.sl (ls.map fun l=>D.sl (l.map bD)))))),(3,.w (.c (.own 1 1 0 ((ls.take i).flatten).length))),(4,.w (.c (.d (.int .i64 (i:Int)))))],hL [(1,.row 1 (((ls.take i).flatten).map bD))],uL [1]⟩
theorem uq {α:Type} (ls:List (List α)) (i:Nat) (h:i<ls.length):(ls.take (i+1)).flatten=(ls.take i).flatten++ls[i]:=by
  rw[acN h,List.flatten_append]; simp
theorem Ao {α:Type} (ls:List (List α)) (i:Nat) (h:i<ls.length):(ls.take i).flatten.length+ls[i].length≤ls.flatten.length:=by
  have h1:=uq ls i h;have h2:ls.flatten=(ls.take (i+1)).flatten++(ls.drop (i+1)).flatten:=by rw[← List.flatten_append,acl]
  have h3:=congrArg List.length h2;rw[abJ,h1,abJ] at h3;omega
def yr:aS := .seq (.seq (.reg [oM 6 4,oM 7 0,oO 8 (.len (.t 7)),oO 9 (.bin .lss (.t 6) (.t 8))]) (.cond (.t 9) (.skip) (.exit 0))) (.seq (.block 1 (.reg [oM 12 3,oM 13 0,oM 14 4,oO 15 (.idxSl 1 (.t 13) (.t 14)),oO 16 (.load .sc (.t 15)),oO 17 (.app false 1 1 (.t 12) (.t 16)),oM 3 17])) (.reg [oM 10 4,oO 11 (.bin .add (.t 10) (kI 1)),oM 4 11]))
def HB:aG:=⟨1,19,.seq (.reg [oO 2 (.mv (.k (.c .nil)))]) (.seq (.reg [oO 5 (.bldSl true 0 1 (.int .u8 0) []),oM 3 5]) (.seq (.seq (.reg [oO 4 (.mv (kI 0))]) (.block 0 (.loop yr))) (.seq (.reg [oM 18 3,oM 2 18]) (.ret)))),[(2,none)]⟩
theorem SY:aF Tryz.prog { own:=[5],comp:=[],frz:=[],nils:=[] } Tryz.f41=some HB:=by kernel_rfl
theorem fR (G:ah) (ls:List (List UInt8)) (hl:ls.length≤9223372036854775807) (hf:ls.flatten.length≤140737488355328):aB Tryz.prog G 41 [.sl (ls.map fun l=>D.sl (l.map bD))] (.w (.c (.fr 1 (ls.flatten.map bD)))):=by
  refine aI Tryz.func41 SY rfl rfl ?_;simp only[HB,af,wx,aa,seval,iteOmega,toNatUp];refine ba (An ls) (fun i=>ls.length-i) (fun i=>i≤ls.length) 0 (abM _) ?_ ?_
  ·refine ap (fun _=>40) ?_ ?_ rfl rfl <;> simp only[wx,aj,aa,seval,iteOmega,toNatUp]
  ·intro i hi;by_cases hlt:i<ls.length
   ·have e2:ls[i]?=some ls[i]:=abF hlt;have e4:IntKind.i64.wrap ((i:Int)+1)=((i+1:Nat):Int):=by rw[IntWalk.i64_in _ (by omega)]; rfl
    have h5:=Ao ls i hlt;simp only[yr,An,wx,aa,seval,iteOmega,toNatUp,aD,e2,e4,adc,bQ];refine aU (i+1) (by omega) (by omega) (ap (fun _=>136) ?_ ?_ rfl rfl) <;> simp only[wx,aj,aa,seval,iteOmega,toNatUp,uq ls i hlt]
   ·have:ls.take i=ls:=abH (by omega);simp only[yr,An,wx,aa,seval,iteOmega,toNatUp,this];refine eI (id:=1) (n:=ls.flatten.length) (s:=1) ?_ ?_ ?_ <;> simp only[wx,aa,seval,iteOmega,toNatUp]
def Ap (ls:List (List UInt8)) (i:Nat):St:=⟨aT [(0,.w (.c (.d (.sl (ls.map fun l=>D.sl (l.map bD)))))),(3,.w (.c (.d (.int .i64 (((ls.take i).flatten).length:Int))))),(9,.w (.c (.d (.sl (ls.map fun l=>D.sl (l.map bD)))))),(10,.w (.c (.d (.int .i64 (ls.length:Int))))),(11,.w (.c (.d (.int .i64 (i:Int)))))],hL [],uL []⟩
def Aq (ls:List (List UInt8)) (i:Nat):St:=⟨aT [(6,.w (.c (.own 1 1 0 ((ls.take i).flatten).length))),(22,.w (.c (.d (.sl (ls.map fun l=>D.sl (l.map bD)))))),(23,.w (.c (.d (.int .i64 (ls.length:Int))))),(24,.w (.c (.d (.int .i64 (i:Int)))))],hL [(1,.row 1 (((ls.take i).flatten).map bD))],uL [1]⟩
def yH:aS := .seq (.reg [oO 12 (.bin .lss (.t 11) (.t 10))]) (.seq (.cond (.t 12) (.skip) (.exit 0)) (.seq (.block 1 (.seq (.reg [oO 13 (.idxSl 1 (.t 9) (.t 11)),oO 14 (.load .sc (.t 13)),oM 5 14]) (.reg [oM 15 3,oM 16 5,oO 17 (.len (.t 16)),oO 18 (.bin .add (.t 15) (.t 17)),oM 3 18]))) (.reg [oO 19 (.bin .add (.t 11) (kI 1)),oM 11 19])))
def yI:aS := .seq (.reg [oO 25 (.bin .lss (.t 24) (.t 23))]) (.seq (.cond (.t 25) (.skip) (.exit 2)) (.seq (.block 3 (.seq (.reg [oO 26 (.idxSl 1 (.t 22) (.t 24)),oO 27 (.load .sc (.t 26)),oM 8 27]) (.reg [oM 28 6,oM 29 8,oO 30 (.app false 1 1 (.t 28) (.t 29)),oM 6 30]))) (.reg [oO 31 (.bin .add (.t 24) (kI 1)),oM 24 31])))
def JE:aG:=⟨1,33,.seq (.reg [oO 2 (.mv (.k (.c .nil)))]) (.seq (.reg [oO 3 (.mv (kI 0))]) (.seq (.seq (.reg [oM 9 0,oO 10 (.len (.t 9)),oO 11 (.mv (kI 0))]) (.block 0 (.loop yH))) (.seq (.reg [oM 20 3,oO 21 (.make true 1 1 (.int .u8 0) (kI 0) (.t 20)),oM 6 21]) (.seq (.seq (.reg [oM 22 0,oO 23 (.len (.t 22)),oO 24 (.mv (kI 0))]) (.block 2 (.loop yI))) (.seq (.reg [oM 32 6,oM 2 32]) (.ret)))))),[(2,none)]⟩
theorem UA:aF Tryz.prog { own:=[],comp:=[],frz:=[],nils:=[] } Tryz.f50=some JE:=by kernel_rfl
theorem fc (G:ah) (ls:List (List UInt8)) (hl:ls.length≤9223372036854775807) (hf:ls.flatten.length≤140737488355328):aB Tryz.prog G 50 [.sl (ls.map fun l=>D.sl (l.map bD))] (.w (.c (.fr 1 (ls.flatten.map bD)))):=by
  refine aI Tryz.func50 UA rfl rfl ?_;simp only[JE,af,wx,aa,seval,iteOmega,toNatUp];refine ba (Ap ls) (fun i=>ls.length-i) (fun i=>i≤ls.length) 0 (abM _) ?_ ?_
  ·refine ap id ?_ ?_ rfl rfl <;> simp only[wx,aj,aa,seval,iteOmega,toNatUp]
  ·intro i hi;by_cases hlt:i<ls.length
   ·have e2:ls[i]?=some ls[i]:=abF hlt;have e4:IntKind.i64.wrap ((i:Int)+1)=((i+1:Nat):Int):=by rw[IntWalk.i64_in _ (by omega)]; rfl
    have h5:=Ao ls i hlt;have e5:IntKind.i64.wrap (((ls.take i).flatten.length:Int)+(ls[i].length:Int))=(((ls.take (i+1)).flatten.length:Nat):Int):=by
      rw[uq ls i hlt,abJ,IntWalk.i64_in _ (by omega)]; rfl
    simp only[yH,Ap,wx,aa,seval,iteOmega,toNatUp,aD,e2,e4,e5];refine aU (i+1) (by omega) (by omega) (ap id ?_ ?_ rfl rfl) <;> simp only[wx,aj,aa,seval,iteOmega,toNatUp]
   ·have:ls.take i=ls:=abH (by omega);simp only[yH,Ap,wx,aa,seval,iteOmega,toNatUp,this,adc];refine ba (Aq ls) (fun i=>ls.length-i) (fun i=>i≤ls.length) 0 (abM _) ?_ ?_
    ·refine ap (fun _=>168) ?_ ?_ rfl rfl <;> simp only[wx,aj,aa,seval,iteOmega,toNatUp]
    ·intro i hi;by_cases hlt:i<ls.length
     ·have e2:ls[i]?=some ls[i]:=abF hlt;have e4:IntKind.i64.wrap ((i:Int)+1)=((i+1:Nat):Int):=by rw[IntWalk.i64_in _ (by omega)]; rfl
      have h5:=Ao ls i hlt;simp only[yI,Aq,wx,aa,seval,iteOmega,toNatUp,aD,e2,e4,adc,bQ];refine aU (i+1) (by omega) (by omega) (ap (fun _=>240) ?_ ?_ rfl rfl) <;> simp only[wx,aj,aa,seval,iteOmega,toNatUp,uq ls i hlt]
     ·have:ls.take i=ls:=abH (by omega);simp only[yI,Aq,wx,aa,seval,iteOmega,toNatUp,this];refine eI (id:=1) (n:=ls.flatten.length) (s:=1) ?_ ?_ ?_ <;> simp only[wx,aa,seval,iteOmega,toNatUp]
def be (l:List UInt8):Nat:=l.foldl (fun a x=>(a*256+x.toNat)%18446744073709551616) 0
theorem JF (l:List UInt8):be l<18446744073709551616:=by
  unfold be;rcases List.eq_nil_or_concat l with rfl | ⟨a,x,rfl⟩
  ·simp
  ·simp only[List.concat_eq_append,List.foldl_append,acK,acX]; omega
theorem u64_in (n:Int) (h₀:0≤n) (h₁:n<2^64):IntKind.u64.wrap n=n:=by rw[IntKind.wrap_u64]; omega
theorem RI (a:List UInt8) (x:UInt8):bits .or .u64 (IntKind.u64.wrap ((be a:Int)*256)) (x.toNat:Int)=(be (a++[x]):Int):=by
  have hx:x.toNat<256:=x.toNat_lt
  have h1:=bits_join .u64 64 (by decide) u64_in 8 (IntKind.u64.wrap ((be a:Int)*256)) (x.toNat:Int)
    (by rw[IntKind.wrap_u64]; omega) (by rw[IntKind.wrap_u64]; omega) (by rw[IntKind.wrap_u64]; omega) (by omega) (by omega) (by omega)
  rw[h1,IntKind.wrap_u64];simp only[be,List.foldl_append,acK,acX];omega
theorem Fs (l:List UInt8) (j:Nat) (h:j<l.length):bits .or .u64 (IntKind.u64.wrap ((be (l.take j):Int)*256)) (l[j].toNat:Int)=(be (l.take (j+1)):Int):=by
  rw[RI,acN h]
theorem SZ (a b:List UInt8):be (a++b)=(be a*256^b.length+be b)%18446744073709551616:=by
  have key:∀ (n:Nat) (b:List UInt8),b.length=n→be (a++b)=(be a*256^n+be b)%18446744073709551616:=by
    intro n
    induction n with
    | zero =>
      intro b hb;have:b=[]:=acs hb;subst this;have h0:be []=0:=rfl;rw[abP,Nat.pow_zero,h0];have:=JF a;omega
    | succ n ih =>
      intro b hb;rcases List.eq_nil_or_concat b with rfl | ⟨c,x,rfl⟩
      ·simp at hb
      ·rw[List.concat_eq_append] at hb ⊢;rw[← abV];have h1:∀ l:List UInt8,be (l++[x])=(be l*256+x.toNat)%18446744073709551616:=fun l=>by simp[be]
       rw[h1,h1,ih c (by simpa using hb),adH];generalize be a=p;generalize be c=q;generalize 256^n=r;have e:p*(r*256)=p*r*256:=by rw[Nat.mul_assoc]
       rw[e];generalize p*r=z;omega
  exact key _ b rfl
theorem RJ (l:List UInt8) (h:8<l.length):be (l.drop (l.length-8))=be l:=by
  have h1:=SZ (l.take (l.length-8)) (l.drop (l.length-8));rw[acl] at h1;have h2:(l.drop (l.length-8)).length=8:=by rw[abO]; omega
  rw[h2] at h1;have h3:=JF (l.drop (l.length-8));rw[h1];have:(256:Nat)^8=18446744073709551616:=by decide
  rw[this];omega
def wX (l:List UInt8) (i:Nat):St:=⟨aT [(3,.w (.c (.d (.int .u64 (be (l.take i)))))),(14,.w (.c (.d (.sl (l.map bD))))),(15,.w (.c (.d (.int .i64 (l.length:Int))))),(16,.w (.c (.d (.int .i64 (i:Int)))))],hL [],uL []⟩
def uZ:aS := .seq (.reg [oO 17 (.bin .lss (.t 16) (.t 15))]) (.seq (.cond (.t 17) (.skip) (.exit 0)) (.seq (.block 1 (.seq (.reg [oO 18 (.idxSl 1 (.t 14) (.t 16)),oO 19 (.load .sc (.t 18)),oM 5 19]) (.reg [oM 20 3,oO 21 (.bin .shl (.t 20) (.k (.c (.d (.int .u64 8))))),oM 22 5,oO 23 (.conv .u64 (.t 22)),oO 24 (.bin .or (.t 21) (.t 23)),oM 3 24]))) (.reg [oO 25 (.bin .add (.t 16) (kI 1)),oM 16 25])))
def Bg:aG:=⟨1,27,.seq (.reg [oO 2 (.mv (.k (.c (.d (.int .u64 0)))))]) (.seq (.seq (.reg [oM 6 0,oO 7 (.len (.t 6)),oO 8 (.bin .gtr (.t 7) (kI 8))]) (.cond (.t 8) (.reg [oM 9 0,oM 10 0,oO 11 (.len (.t 10)),oO 12 (.bin .sub (.t 11) (kI 8)),oO 13 (.slice 1 (.t 9) (some (.t 12)) none none),oM 0 13]) (.skip))) (.seq (.reg [oO 3 (.mv (.k (.c (.d (.int .u64 0)))))]) (.seq (.seq (.reg [oM 14 0,oO 15 (.len (.t 14)),oO 16 (.mv (kI 0))]) (.block 0 (.loop uZ))) (.seq (.reg [oM 26 3,oM 2 26]) (.ret))))),[(2,none)]⟩
theorem Xo:aF Tryz.prog { own:=[],comp:=[],frz:=[],nils:=[] } Tryz.f93=some Bg:=by kernel_rfl
theorem ON (G:ah) (Q:AX→St→Prop) (l:List UInt8) (hl:l.length≤8) (σ:St) (he:fi σ (wX l 0)) (hq:∀ f,f 3=.w (.c (.d (.int .u64 (be l))))→Q (.ex 0) ⟨f,hN,uN⟩):bL Tryz.prog G (.loop uZ) Q σ:=by
  refine ba (wX l) (fun i=>l.length-i) (fun i=>i≤l.length) 0 (abM _) he ?_;intro i hi;by_cases hlt:i<l.length
  ·have hb:=l[i].toNat_lt;have e2:l[i]?=some l[i]:=abF hlt;have e3:IntKind.u64.wrap (l[i].toNat:Int)=(l[i].toNat:Int):=u64_in _ (by omega) (by omega);have e4:IntKind.i64.wrap ((i:Int)+1)=((i+1:Nat):Int):=by rw[IntWalk.i64_in _ (by omega)]; rfl
   have e5:=Fs l i hlt;simp only[uZ,wX,wx,aa,seval,iteOmega,toNatUp,aD,e2,IntKind.bits,e3,e4];refine aU (i+1) (by omega) (by omega) (ap id ?_ ?_ rfl rfl) <;> simp only[wx,aj,aa,seval,iteOmega,toNatUp,← e5]
  ·have:l.take i=l:=abH (by omega);simp only[uZ,wX,wx,aa,seval,iteOmega,toNatUp,this];exact hq _ (by simp only[wx,aa,seval,iteOmega,toNatUp])
theorem qd (G:ah) (l:List UInt8) (hl:l.length≤9223372036854775807):aB Tryz.prog G 93 [.sl (l.map bD)] (.w (.c (.d (.int .u64 (be l))))):=by
  refine aI Tryz.func93 Xo rfl rfl ?_;by_cases h8:8<l.length
  ·have e0:IntKind.i64.wrap ((l.length:Int)-8)=((l.length-8:Nat):Int):=by rw[IntWalk.i64_in _ (by omega)]; omega
   have e1:(l.drop (l.length-8)).take (l.length-(l.length-8))=l.drop (l.length-8):=abH (by rw[abO]; omega);simp only[Bg,af,wx,aa,seval,iteOmega,toNatUp,e0,e1];refine ON G _ (l.drop (l.length-8)) (by rw[abO]; omega) _ ?_ fun f hf=>?_
   ·refine ap id ?_ ?_ rfl rfl <;> simp only[wx,aj,aa,seval,iteOmega,toNatUp] <;> rfl
   ·rw[RJ l h8] at hf;simp only[wx,aa,seval,iteOmega,toNatUp,hf];exact qb (by simp only[wx,aa,seval,iteOmega,toNatUp])
  ·simp only[Bg,af,wx,aa,seval,iteOmega,toNatUp];refine ON G _ l (by omega) _ ?_ fun f hf=>?_
   ·refine ap id ?_ ?_ rfl rfl <;> simp only[wx,aj,aa,seval,iteOmega,toNatUp] <;> rfl
   ·simp only[wx,aa,seval,iteOmega,toNatUp,hf];exact qb (by simp only[wx,aa,seval,iteOmega,toNatUp])
theorem UG (y:UInt8) (i:Nat):(gB (cv y i) 1==1)=gG y i:=by
  have h:(gB (cv y i) 1).toNat=y.toNat / 2^i%2:=by
    have h2:y.toNat / 2^i<256:=acT (Nat.div_le_self _ _) (fH y);unfold gB cv;rw[UInt8.toNat_and,UInt8.toNat_ofNat_of_lt' (by simpa [UInt8.size] using h2)];exact Nat.and_one_is_mod _
  unfold gG;rw[Nat.testBit_eq_decide_div_mod_eq,Bool.eq_iff_iff,beq_iff_eq,decide_eq_true_iff,← UInt8.toNat_inj,h];rfl
theorem RQ (y:UInt8) (i:Nat):cv (cv y i) 1=cv y (i+1):=by
  have h2:y.toNat / 2^i<256:=acT (Nat.div_le_self _ _) (fH y);unfold cv;rw[UInt8.toNat_ofNat_of_lt' (by simpa [UInt8.size] using h2),adu,Nat.pow_one,adH]
theorem RR (y:UInt8):cv y 0=y:=by
  unfold cv; simp
theorem UH (x y:UInt8) (i:Nat):ak (ip x y i) (iW (gG y i) (im x i))=ip x y (i+1):=rfl
theorem S7 (x:UInt8):gM x=if cv x 7==1 then ak (cT x 1) 27 else cT x 1:=by
  have:=kf (p:=fun x=>gM x==if cv x 7==1 then ak (cT x 1) 27 else cT x 1) (by decide +kernel) x
  simpa using this
theorem MH (x:UInt8):fu x 2=gM x:=by
  have:=kf (p:=fun x=>fu x 2==gM x) (by decide +kernel) x
  simpa using this
def Bj:aG:=⟨1,11,.seq (.reg [oO 2 (.mv (.k (.c (.d (.int .u8 0)))))]) (.seq (.seq (.reg [oM 3 0,oO 4 (.bin .shr (.t 3) (.k (.c (.d (.int .u64 7))))),oO 5 (.bin .eql (.t 4) (.k (.c (.d (.int .u8 1)))))]) (.cond (.t 5) (.seq (.reg [oM 6 0,oO 7 (.bin .shl (.t 6) (.k (.c (.d (.int .u64 1))))),oO 8 (.bin .xor (.t 7) (.k (.c (.d (.int .u8 27))))),oM 2 8]) (.ret)) (.skip))) (.seq (.reg [oM 9 0,oO 10 (.bin .shl (.t 9) (.k (.c (.d (.int .u64 1))))),oM 2 10]) (.ret))),[(2,none)]⟩
theorem Xu:aF Tryz.prog { own:=[],comp:=[],frz:=[],nils:=[] } Tryz.f136=some Bj:=by kernel_rfl
theorem OR (G:ah) (x:UInt8):aB Tryz.prog G 136 [bD x] (.w (.c (.d (bD (gM x))))):=by
  refine aI Tryz.func136 Xu rfl rfl ?_;have h1:=pK x .u64 7 7 rfl (by decide);have h2:=Bc (cv x 7) 1 1 rfl;have h3:=sw x .u64 1 1 rfl (by decide);have h4:=v8 (cT x 1) 27 27 rfl;rw[S7];cases h5:cv x 7==1
  ·rw[h5] at h2;simp only[Bj,af,h1,h2,h3,h4,ae,aa,seval,iteOmega,toNatUp,if_false,adv];exact aM
  ·rw[h5] at h2;simp only[Bj,af,h1,h2,h3,h4,ae,aa,seval,iteOmega,toNatUp,if_true];exact aM
theorem S8 (x:UInt8):im x 0=x:=rfl
theorem S9 (x y:UInt8):ip x y 0=0:=rfl
def PR:List UInt8:=[99,124,119,123,242,107,111,197,48,1,103,43,254,215,171,118,202,130,201,125,250,89,71,240,173,212,162,175,156,164,114,192,183,253,147,38,54,63,247,204,52,165,229,241,113,216,49,21,4,199,35,195,24,150,5,154,7,18,128,226,235,39,178,117,9,131,44,26,27,110,90,160,82,59,214,179,41,227,47,132,83,209,0,237,32,252,177,91,106,203,190,57,74,76,88,207,208,239,170,251,67,77,51,133,69,249,2,127,80,60,159,168,81,163,64,143,146,157,56,245,188,182,218,33,16,255,243,210,205,12,19,236,95,151,68,23,196,167,126,61,100,93,25,115,96,129,79,220,34,42,144,136,70,238,184,20,222,94,11,219,224,50,58,10,73,6,36,92,194,211,172,98,145,149,228,121,231,200,55,109,141,213,78,169,108,86,244,234,101,122,174,8,186,120,37,46,28,166,180,198,232,221,116,31,75,189,139,138,112,62,181,102,72,3,246,14,97,53,87,185,134,193,29,158,225,248,152,17,105,217,142,148,155,30,135,233,206,85,40,223,140,161,137,13,191,230,66,104,65,153,45,15,176,84,187,22]
theorem UI:PR=kq:=by decide +kernel
def qe (x y:UInt8) (i:Nat):St:=⟨aT [(0,.w (.c (.d (bD (im x i))))),(1,.w (.c (.d (bD (cv y i))))),(5,.w (.c (.d (bD (ip x y i))))),(6,.w (.c (.d (.int .i64 (i:Int)))))],hL [],uL []⟩
theorem UJ (x:UInt8):gM x=if gB x 128 != 0 then ak (cT x 1) 27 else cT x 1:=by
  have:=kf (p:=fun x=>gM x==if gB x 128 != 0 then ak (cT x 1) 27 else cT x 1) (by decide +kernel) x
  simpa using this
def oS:aS := .seq (.seq (.reg [oM 8 6,oO 9 (.bin .lss (.t 8) (kI 8))]) (.cond (.t 9) (.skip) (.exit 0))) (.seq (.block 1 (.seq (.seq (.reg [oM 12 1,oO 13 (.bin .and (.t 12) (.k (.c (.d (.int .u8 1))))),oO 14 (.bin .eql (.t 13) (.k (.c (.d (.int .u8 1)))))]) (.cond (.t 14) (.reg [oM 15 5,oM 16 0,oO 17 (.bin .xor (.t 15) (.t 16)),oM 5 17]) (.skip))) (.seq (.reg [oM 18 0,oO 19 (.bin .and (.t 18) (.k (.c (.d (.int .u8 128))))),oM 7 19]) (.seq (.reg [oM 20 0,oO 21 (.bin .shl (.t 20) (.k (.c (.d (.int .u64 1))))),oM 0 21]) (.seq (.seq (.reg [oM 22 7,oO 23 (.bin .neq (.t 22) (.k (.c (.d (.int .u8 0)))))]) (.cond (.t 23) (.reg [oM 24 0,oO 25 (.bin .xor (.t 24) (.k (.c (.d (.int .u8 27))))),oM 0 25]) (.skip))) (.reg [oM 26 1,oO 27 (.bin .shr (.t 26) (.k (.c (.d (.int .u64 1))))),oM 1 27]))))))
 (.reg [oM 10 6,oO 11 (.bin .add (.t 10) (kI 1)),oM 6 11]))
def JI:aG:=⟨2,29,.seq (.reg [oO 4 (.mv (.k (.c (.d (.int .u8 0)))))]) (.seq (.reg [oO 5 (.mv (.k (.c (.d (.int .u8 0)))))]) (.seq (.seq (.reg [oO 6 (.mv (kI 0))]) (.block 0 (.loop oS))) (.seq (.reg [oM 28 5,oM 4 28]) (.ret)))),[(4,none)]⟩
theorem UK:aF Tryz.prog { own:=[],comp:=[],frz:=[],nils:=[] } Tryz.f130=some JI:=by kernel_rfl
set_option maxHeartbeats 1600000 in
theorem wc (G:ah) (x y:UInt8):aB Tryz.prog G 130 [bD x,bD y] (.w (.c (.d (bD (fu x y))))):=by
  refine aI Tryz.func130 UK rfl rfl ?_;simp only[JI,af,ae,aa,seval,iteOmega,toNatUp];refine ba (qe x y) (fun i=>8-i) (fun i=>i≤8) 0 (abM _) ?_ ?_
  ·refine ap (fun _=>0) ?_ ?_ rfl rfl <;> simp only[wx,aj,ar,aa,seval,iteOmega,toNatUp,RR,S8,S9] <;> rfl
  ·intro i hi;by_cases hlt:i<8
   ·have h1:=pJ (cv y i) 1 1 rfl;have h2:=Bc (gB (cv y i) 1) 1 1 rfl;have h3:=pK (cv y i) .u64 1 1 rfl (by decide);have h4:=dv (ip x y i) (im x i);have h5:=UH x y i;rw[RQ] at h3;rw[UG] at h2;have h7:gM (im x i)=im x (i+1):=rfl;rw[UJ] at h7;have g1:=pJ (im x i) 128 128 rfl;have g2:=Be (gB (im x i) 128) 0 0 rfl;have g3:=sw (im x i) .u64 1 1 rfl (by decide);have g4:=v8 (cT (im x i) 1) 27 27 rfl;cases hb:gG y i <;> cases hh:gB (im x i) 128 != 0 <;> rw[hb] at h2 h5 <;> rw[hh] at g2 h7
    ·have h8:ip x y i=ip x y (i+1):=by rw[← h5]; exact (oR _).symm
     simp only[if_false,adv] at h7;simp only[oS,qe,h1,h2,h3,h4,g1,g2,g3,ae,aa,seval,iteOmega,toNatUp,h7];refine aU (i+1) (by omega) (by omega) (ap (fun _=>0) ?_ ?_ rfl rfl) <;> simp only[wx,aj,ar,aa,seval,iteOmega,toNatUp,h8]
    ·have h8:ip x y i=ip x y (i+1):=by rw[← h5]; exact (oR _).symm
     simp only[if_true] at h7;simp only[oS,qe,h1,h2,h3,h4,g1,g2,g3,g4,ae,aa,seval,iteOmega,toNatUp,h7];refine aU (i+1) (by omega) (by omega) (ap (fun _=>0) ?_ ?_ rfl rfl) <;> simp only[wx,aj,ar,aa,seval,iteOmega,toNatUp,h8]
    ·have h8:ak (ip x y i) (im x i)=ip x y (i+1):=h5;simp only[if_false,adv] at h7;simp only[oS,qe,h1,h2,h3,h4,g1,g2,g3,ae,aa,seval,iteOmega,toNatUp,h7];refine aU (i+1) (by omega) (by omega) (ap (fun _=>0) ?_ ?_ rfl rfl) <;> simp only[wx,aj,ar,aa,seval,iteOmega,toNatUp,h8]
    ·have h8:ak (ip x y i) (im x i)=ip x y (i+1):=h5;simp only[if_true] at h7;simp only[oS,qe,h1,h2,h3,h4,g1,g2,g3,g4,ae,aa,seval,iteOmega,toNatUp,h7];refine aU (i+1) (by omega) (by omega) (ap (fun _=>0) ?_ ?_ rfl rfl) <;> simp only[wx,aj,ar,aa,seval,iteOmega,toNatUp,h8]
   ·obtain rfl:i=8:=by omega
    have e:fu x y=ip x y 8:=rfl;simp only[oS,qe,ae,aa,seval,iteOmega,toNatUp,e];exact aM
def HG:aG:=⟨2,15,.seq (.reg [oO 4 (.mv (.k (.c (.d (.int .u8 0)))))]) (.seq (.reg [oM 5 0,oM 6 1,oO 7 (.conv .u64 (.t 6)),oO 8 (.bin .shl (.t 5) (.t 7)),oM 9 0,oM 10 1,oO 11 (.bin .sub (kI 8) (.t 10)),oO 12 (.conv .u64 (.t 11)),oO 13 (.bin .shr (.t 9) (.t 12)),oO 14 (.bin .or (.t 8) (.t 13)),oM 4 14]) (.ret)),[(4,none)]⟩
theorem Ta:aF Tryz.prog { own:=[],comp:=[],frz:=[],nils:=[] } Tryz.f141=some HG:=by kernel_rfl
theorem vA (G:ah) (x:UInt8) (j:Nat) (h1:1≤j) (h2:j≤4):aB Tryz.prog G 141 [bD x,.int .i64 (j:Int)] (.w (.c (.d (bD (eV x j))))):=by
  refine aI Tryz.func141 Ta rfl rfl ?_;have g1:=sw x .u64 j (j:Int) rfl (by omega);have g2:=pK x .u64 (8-j) (8-(j:Int)) (by omega) (by omega);have g3:=rA (cT x j) (cv x (8-j));have e:eV x j=jK (cT x j) (cv x (8-j)):=rfl;simp only[HG,af,ae,aa,seval,iteOmega,toNatUp,g1,g2,g3,e];exact aM
theorem Xv (y:UInt8):ak (ak (ak (ak (ak y (eV y 1)) (eV y 2)) (eV y 3)) (eV y 4)) 99=qy y:=rfl
set_option maxRecDepth 100000 in
theorem Tb:ByteArray.size ⟨#[99,124,119,123,242,107,111,197,48,1,103,43,254,215,171,118,202,130,201,125,250,89,71,240,173,212,162,175,156,164,114,192,183,253,147,38,54,63,247,204,52,165,229,241,113,216,49,21,4,199,35,195,24,150,5,154,7,18,128,226,235,39,178,117,9,131,44,26,27,110,90,160,82,59,214,179,41,227,47,132,83,209,0,237,32,252,177,91,106,203,190,57,74,76,88,207,208,239,170,251,67,77,51,133,69,249,2,127,80,60,159,168,81,163,64,143,146,157,56,245,188,182,218,33,16,255,243,210,205,12,19,236,95,151,68,23,196,167,126,61,100,93,25,115,96,129,79,220,34,42,144,136,70,238,184,20,222,94,11,219,224,50,58,10,73,6,36,92,194,211,172,98,145,149,228,121,231,200,55,109,141,213,78,169,108,86,244,234,101,122,174,8,186,120,37,46,28,166,180,198,232,221,116,31,75,189,139,138,112,62,181,102,72,3,246,14,97,53,87,185,134,193,29,158,225,248,152,17,105,217,142,148,155,30,135,233,206,85,40,223,140,161,137,13,191,230,66,104,65,153,45,15,176,84,187,22]⟩=256:=rfl
set_option maxRecDepth 100000 in
theorem Xw (x:UInt8):(ByteArray.data ⟨#[99,124,119,123,242,107,111,197,48,1,103,43,254,215,171,118,202,130,201,125,250,89,71,240,173,212,162,175,156,164,114,192,183,253,147,38,54,63,247,204,52,165,229,241,113,216,49,21,4,199,35,195,24,150,5,154,7,18,128,226,235,39,178,117,9,131,44,26,27,110,90,160,82,59,214,179,41,227,47,132,83,209,0,237,32,252,177,91,106,203,190,57,74,76,88,207,208,239,170,251,67,77,51,133,69,249,2,127,80,60,159,168,81,163,64,143,146,157,56,245,188,182,218,33,16,255,243,210,205,12,19,236,95,151,68,23,196,167,126,61,100,93,25,115,96,129,79,220,34,42,144,136,70,238,184,20,222,94,11,219,224,50,58,10,73,6,36,92,194,211,172,98,145,149,228,121,231,200,55,109,141,213,78,169,108,86,244,234,101,122,174,8,186,120,37,46,28,166,180,198,232,221,116,31,75,189,139,138,112,62,181,102,72,3,246,14,97,53,87,185,134,193,29,158,225,248,152,17,105,217,142,148,155,30,135,233,206,85,40,223,140,161,137,13,191,230,66,104,65,153,45,15,176,84,187,22]⟩).toList[x.toNat]?=some (dA x):=by
  have e:(ByteArray.data ⟨#[99,124,119,123,242,107,111,197,48,1,103,43,254,215,171,118,202,130,201,125,250,89,71,240,173,212,162,175,156,164,114,192,183,253,147,38,54,63,247,204,52,165,229,241,113,216,49,21,4,199,35,195,24,150,5,154,7,18,128,226,235,39,178,117,9,131,44,26,27,110,90,160,82,59,214,179,41,227,47,132,83,209,0,237,32,252,177,91,106,203,190,57,74,76,88,207,208,239,170,251,67,77,51,133,69,249,2,127,80,60,159,168,81,163,64,143,146,157,56,245,188,182,218,33,16,255,243,210,205,12,19,236,95,151,68,23,196,167,126,61,100,93,25,115,96,129,79,220,34,42,144,136,70,238,184,20,222,94,11,219,224,50,58,10,73,6,36,92,194,211,172,98,145,149,228,121,231,200,55,109,141,213,78,169,108,86,244,234,101,122,174,8,186,120,37,46,28,166,180,198,232,221,116,31,75,189,139,138,112,62,181,102,72,3,246,14,97,53,87,185,134,193,29,158,225,248,152,17,105,217,142,148,155,30,135,233,206,85,40,223,140,161,137,13,191,230,66,104,65,153,45,15,176,84,187,22]⟩).toList=PR:=rfl;rw[e,UI]; exact zI x
set_option maxRecDepth 100000
def Fv:ByteArray:=⟨#[99,124,119,123,242,107,111,197,48,1,103,43,254,215,171,118,202,130,201,125,250,89,71,240,173,212,162,175,156,164,114,192,183,253,147,38,54,63,247,204,52,165,229,241,113,216,49,21,4,199,35,195,24,150,5,154,7,18,128,226,235,39,178,117,9,131,44,26,27,110,90,160,82,59,214,179,41,227,47,132,83,209,0,237,32,252,177,91,106,203,190,57,74,76,88,207,208,239,170,251,67,77,51,133,69,249,2,127,80,60,159,168,81,163,64,143,146,157,56,245,188,182,218,33,16,255,243,210,205,12,19,236,95,151,68,23,196,167,126,61,100,93,25,115,96,129,79,220,34,42,144,136,70,238,184,20,222,94,11,219,224,50,58,10,73,6,36,92,194,211,172,98,145,149,228,121,231,200,55,109,141,213,78,169,108,86,244,234,101,122,174,8,186,120,37,46,28,166,180,198,232,221,116,31,75,189,139,138,112,62,181,102,72,3,246,14,97,53,87,185,134,193,29,158,225,248,152,17,105,217,142,148,155,30,135,233,206,85,40,223,140,161,137,13,191,230,66,104,65,153,45,15,176,84,187,22]⟩
def MI:aG:=⟨1,5,.seq (.reg [oO 2 (.mv (.k (.c (.d (.int .u8 0)))))]) (.seq (.reg [oM 3 0,oO 4 (.idxStr (.k (.c (.d (.str Fv)))) (.t 3)),oM 2 4]) (.ret)),[(2,none)]⟩
theorem Xx:aF Tryz.prog { own:=[],comp:=[],frz:=[],nils:=[] } Tryz.f147=some MI:=by kernel_rfl
theorem sV (G:ah) (x:UInt8):aB Tryz.prog G 147 [bD x] (.w (.c (.d (bD (dA x))))):=by
  refine aI Tryz.func147 Xx rfl rfl ?_;have h:=fH x;have e:=Xw x;simp only[MI,Fv,af,ae,aa,seval,iteOmega,toNatUp,Tb,e];exact aM
def bo (f:Nat→UInt8) (l:List UInt8) (i:Nat):List UInt8:=(List.range i).map f++l.drop i
theorem jY (f:Nat→UInt8) (l:List UInt8) {i:Nat} (h:i≤l.length):(bo f l i).length=l.length:=by
  unfold bo; rw[abJ,abY,acV,abO]; omega
theorem kH (f:Nat→UInt8) (l:List UInt8):bo f l 0=l:=by simp[bo]
theorem u4 (f:Nat→UInt8) (l:List UInt8) {i:Nat} (h:l.length≤i):bo f l i=(List.range i).map f:=by
  unfold bo; rw[acw h,abP]
theorem JJ (f:Nat→UInt8) (l:List UInt8) {i j:Nat} (hj:i≤j):(bo f l i)[j]?=l[j]?:=by
  unfold bo;rw[acx (by simpa using hj),ach,abY,acV,show i+(j-i)=j by omega]
theorem Tc (f:Nat→UInt8) (l:List UInt8) {i j:Nat} (hj:j<i):(bo f l i)[j]?=some (f j):=by
  unfold bo;rw[acg (by simpa using hj)];simp[hj]
theorem kJ (f:Nat→UInt8) (l:List UInt8) {i:Nat} (h:i<l.length):(bo f l i).set i (f i)=bo f l (i+1):=by
  unfold bo;rw[adk _ _ (by simp),abY,acV,Nat.sub_self,List.drop_eq_getElem_cons h,List.set_cons_zero,ac8,abT,abV];rfl
theorem db {l:List UInt8} {j:Nat} (h:j<l.length):l[j]?=some (l.getD j 0):=by
  rw[abI,abF h]; rfl
def jG:Nat→List UInt8
  | 0=>(aQ 256 0).set 0 99
  | n+1=>(jG n).set (gH 3 n).toNat (qy (gH 246 n))
theorem HH:∀ n,(jG n).length=256
  | 0=>by rw[jG,acJ,bf]
  | n+1=>by rw[jG,acJ,HH n]
set_option maxRecDepth 100000 in
theorem JK:jG 255=kq:=by decide +kernel
theorem abv (x:UInt8):gH x 0=1:=rfl
theorem Dj:bD 1=.int .u8 1:=rfl
def BS (i:Nat):St:=⟨aT [(0,.w (.c (.pa 2 1))),(1,.w (.c (.pa 1 1))),(2,.w (.c (.d (bD (gH 3 i))))),(3,.w (.c (.d (bD (gH 246 i))))),(4,.w (.c (.d (.int .i64 (i:Int)))))],hL [(1,.row 1 ((jG i).map bD)),(2,.row 1 ((aQ 256 (0:UInt8)).map bD))],uL [1,2]⟩
def yO:aS := .seq (.seq (.reg [oM 6 4,oO 7 (.bin .lss (.t 6) (kI 255))]) (.cond (.t 7) (.skip) (.exit 0))) (.seq (.block 1 (.seq (.reg [oM 10 2,oM 11 3,oM 12 3,oO 13 (.call 141 [(.t 12),(kI 1)] none),oO 14 (.bin .xor (.t 11) (.t 13)),oM 15 3,oO 16 (.call 141 [(.t 15),(kI 2)] none),oO 17 (.bin .xor (.t 14) (.t 16)),oM 18 3,oO 19 (.call 141 [(.t 18),(kI 3)] none),oO 20 (.bin .xor (.t 17) (.t 19)),oM 21 3,oO 22 (.call 141 [(.t 21),(kI 4)] none),oO 23 (.bin .xor (.t 20) (.t 22)),oO 24 (.bin .xor (.t 23) (.k (.c (.d (.int .u8 99))))),oO 25 (.idxPa 1 256 (.t 1) (.t 10)),oN (.store .sc (.t 25) (.t 24))]) (.reg [oM 26 2,oO 27 (.call 130 [(.t 26),(.k (.c (.d (.int .u8 3))))] none),oM 28 3,oO 29 (.call 130 [(.t 28),(.k (.c (.d (.int .u8 246))))] none),oM 2 27,oM 3 29]))) (.reg [oM 8 4,oO 9 (.bin .add (.t 8) (kI 1)),
 oM 4 9]))
def JL:aG:=⟨0,31,.seq (.reg [oO 0 (.allocArr (aQ 256 (.int .u8 0)))]) (.seq (.reg [oO 1 (.allocArr (aQ 256 (.int .u8 0)))]) (.seq (.reg [oO 5 (.idxPa 1 256 (.t 1) (kI 0)),oN (.store .sc (.t 5) (.k (.c (.d (.int .u8 99)))))]) (.seq (.reg [oO 2 (.mv (.k (.c (.d (.int .u8 1))))),oO 3 (.mv (.k (.c (.d (.int .u8 1)))))]) (.seq (.seq (.reg [oO 4 (.mv (kI 0))]) (.block 0 (.loop yO))) (.seq (.reg [oO 30 (.load (.ag 256) (.t 1)),oN (.store (.ag 256) (.t 0) (.t 30))]) (.ret)))))),[(0,(some (.ag 256)))]⟩
theorem UL:aF Tryz.prog { own:=[],comp:=[],frz:=[],nils:=[] } Tryz.f129=some JL:=by kernel_rfl
set_option maxHeartbeats 1600000 in
theorem Xy (G:ah):aB Tryz.prog G 129 [] (.w (.c (.d (.agg (kq.map bD))))):=by
  refine aI Tryz.func129 UL rfl rfl ?_;have e0:((aQ 256 (0:UInt8)).map bD).set 0 (.int .u8 99)=(jG 0).map bD:=nI bD _ 0 99;have e1:0<(aQ 256 (0:UInt8)).length:=by rw[bf]; decide
  have e2:=SR (n:=256) (i:=0) (0:UInt8) (by decide);simp only[JL,af,ae,aa,seval,iteOmega,toNatUp,Uw,e0,e1,e2,aD,bf];refine ba BS (fun i=>255-i) (fun i=>i≤255) 0 (abM _) ?_ ?_
  ·refine ap (fun i=>if i=1 then 8 else 0) ?_ ?_ rfl rfl <;> simp only[wx,aj,ar,aa,seval,iteOmega,toNatUp,abv,Dj]
  ·intro i hi;have hl:=HH i;by_cases hlt:i<255
   ·have hp:=fH (gH 3 i);have h3:(gH 3 i).toNat<(jG i).length:=by omega
    have hs:(jG i).set (gH 3 i).toNat (qy (gH 246 i))=jG (i+1):=rfl;have p3:fu (gH 3 i) 3=gH 3 (i+1):=rfl;have p4:fu (gH 246 i) 246=gH 246 (i+1):=rfl;have hset:((jG i).map bD).set (gH 3 i).toNat (bD (qy (gH 246 i)))=(jG (i+1)).map bD:=by rw[nI,hs]
    simp only[yO,BS,ae,aa,seval,iteOmega,toNatUp];generalize gH 246 i=y at *
    rw[← Xv] at hset;have g1:=dv y (eV y 1);have g2:=dv (ak y (eV y 1)) (eV y 2);have g3:=dv (ak (ak y (eV y 1)) (eV y 2)) (eV y 3);have g4:=dv (ak (ak (ak y (eV y 1)) (eV y 2)) (eV y 3)) (eV y 4);have g5:=v8 (ak (ak (ak (ak y (eV y 1)) (eV y 2)) (eV y 3)) (eV y 4)) 99 99 rfl;refine sC (vA G y 1 (by decide) (by decide)) ?_;simp only[g1,ae,aa,seval,iteOmega,toNatUp];refine sC (vA G y 2 (by decide) (by decide)) ?_;simp only[g2,ae,aa,seval,iteOmega,toNatUp];refine sC (vA G y 3 (by decide) (by decide)) ?_;simp only[g3,ae,aa,seval,iteOmega,toNatUp];refine sC (vA G y 4 (by decide) (by decide)) ?_;simp only[g4,g5,hl,aD,eo h3 (d8 _),hset,ae,aa,seval,iteOmega,toNatUp];refine sC (wc G (gH 3 i) 3) ?_;simp only[p3,ae,aa,seval,iteOmega,toNatUp];refine sC (wc G y 246) ?_;simp only[p4,ae,aa,seval,iteOmega,toNatUp];refine aU (i+1) (by omega) (by omega) (ap (fun i=>i) ?_ ?_ rfl rfl) <;> simp only[wx,aj,ar,aa,seval,iteOmega,toNatUp]
   ·obtain rfl:i=255:=by omega
    rw[JK] at hl;simp only[yO,BS,JK,ae,aa,seval,iteOmega,toNatUp,hl,iO,bf];exact aM
set_option maxHeartbeats 1600000
def oo (s k:List UInt8):List UInt8:=bM (eD (aO s) (aO k))
def iE (s:List UInt8):List UInt8:=bM (cc (aO s))
def tp (s:List UInt8):List UInt8:=bM (ig (aO s))
theorem Td (s k:List UInt8):(oo s k).length=16:=gR _
theorem u5 (s:List UInt8):(iE s).length=16:=gR _
theorem HI (s:List UInt8):(tp s).length=16:=gR _
theorem jz (f:dQ):OQ (aO (bM f)) f:=fun j hj=>by
  unfold aO; rw[abI,rR f hj]; rfl
theorem zK (f g:dQ):oo (bM f) (bM g)=bM (eD f g):=uv fun j hj=>by
  unfold eD; rw[jz f j hj,jz g j hj]
theorem HJ (f:dQ):iE (bM f)=bM (cc f):=uv fun j hj=>by
  unfold cc; rw[jz f _ (by omega)]
theorem Te (f:dQ):tp (bM f)=bM (ig f):=uv fun j hj=>by
  unfold ig; rw[jz f _ (by omega),jz f _ (by omega),jz f _ (by omega),jz f _ (by omega)]
theorem eX:[D.int .u8 0,.int .u8 0,.int .u8 0,.int .u8 0,.int .u8 0,.int .u8 0,.int .u8 0,.int .u8 0,.int .u8 0,.int .u8 0,.int .u8 0,.int .u8 0,.int .u8 0,.int .u8 0,.int .u8 0,.int .u8 0]=(aQ 16 (0:UInt8)).map bD:=rfl
theorem nJ (f:dQ) {l:List UInt8} (h:l.length=16):bo f l 16=bM f:=u4 f l (by omega)
theorem jE (a b:Nat):Int.tmod (a:Int) (b:Int)=((a%b:Nat):Int):=rfl
def BU (s k:List UInt8) (i:Nat):St:=⟨aT [(2,.w (.c (.pa 1 1))),(4,.w (.c (.pa 2 1))),(7,.w (.c (.d (.agg (k.map bD))))),(8,.w (.c (.d (.int .i64 (i:Int)))))],hL [(1,.row 1 ((bo (eD (aO s) (aO k)) s i).map bD)),(2,.row 1 ((aQ 16 (0:UInt8)).map bD))],uL [1,2]⟩
def zL:aS := .seq (.reg [oO 9 (.bin .lss (.t 8) (kI 16))]) (.seq (.cond (.t 9) (.skip) (.exit 0)) (.seq (.block 1 (.seq (.reg [oM 10 8,oO 11 (.idxArr 1 16 .sc (.t 7) (.t 8)),oM 5 10,oM 6 11]) (.reg [oM 12 5,oO 13 (.idxPa 1 16 (.t 2) (.t 12)),oO 14 (.load .sc (.t 13)),oM 15 6,oO 16 (.bin .xor (.t 14) (.t 15)),oO 17 (.idxPa 1 16 (.t 2) (.t 12)),oN (.store .sc (.t 17) (.t 16))]))) (.reg [oO 18 (.bin .add (.t 8) (kI 1)),oM 8 18])))
def MJ:aG:=⟨2,20,.seq (.reg [oO 2 (.box .ownArr (.t 0)),oO 3 (.box .roArr (.t 1)),oO 4 (.allocArr [(.int .u8 0),(.int .u8 0),(.int .u8 0),(.int .u8 0),(.int .u8 0),(.int .u8 0),(.int .u8 0),(.int .u8 0),(.int .u8 0),(.int .u8 0),(.int .u8 0),(.int .u8 0),(.int .u8 0),(.int .u8 0),(.int .u8 0),(.int .u8 0)])]) (.seq (.seq (.reg [oO 7 (.load (.ag 16) (.t 3)),oO 8 (.mv (kI 0))]) (.block 0 (.loop zL))) (.seq (.reg [oO 19 (.load (.ag 16) (.t 2)),oN (.store (.ag 16) (.t 4) (.t 19))]) (.ret))),[(4,(some (.ag 16)))]⟩
theorem Xz:aF Tryz.prog { own:=[2],comp:=[],frz:=[],nils:=[] } Tryz.f138=some MJ:=by kernel_rfl
theorem BV (G:ah) (s k:List UInt8) (hs:s.length=16) (hk:k.length=16):aB Tryz.prog G 138 [.agg (s.map bD),.agg (k.map bD)] (.w (.c (.d (.agg ((oo s k).map bD))))):=by
  refine aI Tryz.func138 Xz rfl rfl ?_;simp only[MJ,af,ae,aa,seval,iteOmega,toNatUp,eX,iO,hk];refine ba (BU s k) (fun i=>16-i) (fun i=>i≤16) 0 (abM _) ?_ ?_
  ·refine ap (fun i=>if i=1 then 16 else 32) ?_ ?_ rfl rfl <;> simp only[wx,aj,ar,aa,seval,iteOmega,toNatUp,kH]
  ·intro i hi;have hl:(bo (eD (aO s) (aO k)) s i).length=16:=by rw[jY _ _ (by omega)]; exact hs
   by_cases hlt:i<16
   ·have g1:k[i]?=some (k.getD i 0):=db (by omega);have g2:(bo (eD (aO s) (aO k)) s i)[i]?=some (s.getD i 0):=by rw[JJ _ _ (abR i)]; exact db (by omega)
    have h3:i<(bo (eD (aO s) (aO k)) s i).length:=by omega
    have h4:=dv (s.getD i 0) (k.getD i 0);have h5:(bo (eD (aO s) (aO k)) s i).set i (ak (s.getD i 0) (k.getD i 0))=bo (eD (aO s) (aO k)) s (i+1):=kJ (eD (aO s) (aO k)) s (by omega);simp only[zL,BU,ae,aa,seval,iteOmega,toNatUp,aD,g1,g2,h4,eo h3 (d8 _),ft,h5];refine aU (i+1) (by omega) (by omega) (ap (fun i=>i) ?_ ?_ rfl rfl) <;> simp only[wx,aj,ar,aa,seval,iteOmega,toNatUp]
   ·obtain rfl:i=16:=by omega
    have e:bo (eD (aO s) (aO k)) s 16=oo s k:=nJ _ hs;have e2:=Td s k;simp only[zL,BU,e,ae,aa,seval,iteOmega,toNatUp,e2,iO,bf];exact aM
def BW (s:List UInt8) (i:Nat):St:=⟨aT [(1,.w (.c (.ra (s.map bD)))),(2,.w (.c (.pa 2 1))),(3,.w (.c (.pa 1 1))),(6,.w (.c (.d (.int .i64 (i:Int)))))],hL [(1,.row 1 ((bo (cc (aO s)) (aQ 16 (0:UInt8)) i).map bD)),(2,.row 1 ((aQ 16 (0:UInt8)).map bD))],uL [1,2]⟩
def yQ:aS := .seq (.reg [oO 7 (.bin .lss (.t 6) (kI 16))]) (.seq (.cond (.t 7) (.skip) (.exit 0)) (.seq (.block 1 (.seq (.reg [oM 8 6,oM 4 8]) (.seq (.reg [oM 9 4,oO 10 (.bin .rem (.t 9) (kI 4)),oM 5 10]) (.reg [oM 11 4,oM 12 4,oM 13 5,oO 14 (.bin .mul (.t 13) (kI 4)),oO 15 (.bin .add (.t 12) (.t 14)),oO 16 (.bin .rem (.t 15) (kI 16)),oO 17 (.idxPa 1 16 (.t 1) (.t 16)),oO 18 (.load .sc (.t 17)),oO 19 (.call 147 [(.t 18)] none),oO 20 (.idxPa 1 16 (.t 3) (.t 11)),oN (.store .sc (.t 20) (.t 19))])))) (.reg [oO 21 (.bin .add (.t 6) (kI 1)),oM 6 21])))
def JM:aG:=⟨1,23,.seq (.reg [oO 1 (.box .roArr (.t 0)),oO 2 (.allocArr [(.int .u8 0),(.int .u8 0),(.int .u8 0),(.int .u8 0),(.int .u8 0),(.int .u8 0),(.int .u8 0),(.int .u8 0),(.int .u8 0),(.int .u8 0),(.int .u8 0),(.int .u8 0),(.int .u8 0),(.int .u8 0),(.int .u8 0),(.int .u8 0)])]) (.seq (.reg [oO 3 (.allocArr [(.int .u8 0),(.int .u8 0),(.int .u8 0),(.int .u8 0),(.int .u8 0),(.int .u8 0),(.int .u8 0),(.int .u8 0),(.int .u8 0),(.int .u8 0),(.int .u8 0),(.int .u8 0),(.int .u8 0),(.int .u8 0),(.int .u8 0),(.int .u8 0)])]) (.seq (.seq (.reg [oO 6 (.mv (kI 0))]) (.block 0 (.loop yQ))) (.seq (.reg [oO 22 (.load (.ag 16) (.t 3)),oN (.store (.ag 16) (.t 2) (.t 22))]) (.ret)))),[(2,(some (.ag 16)))]⟩
theorem UM:aF Tryz.prog { own:=[],comp:=[],frz:=[],nils:=[] } Tryz.f140=some JM:=by kernel_rfl
theorem MK (G:ah) (s:List UInt8) (hs:s.length=16):aB Tryz.prog G 140 [.agg (s.map bD)] (.w (.c (.d (.agg ((iE s).map bD))))):=by
  refine aI Tryz.func140 UM rfl rfl ?_;simp only[JM,af,ae,aa,seval,iteOmega,toNatUp,eX];refine ba (BW s) (fun i=>16-i) (fun i=>i≤16) 0 (abM _) ?_ ?_
  ·refine ap (fun i=>if i=1 then 24 else 16) ?_ ?_ rfl rfl <;> simp only[wx,aj,ar,aa,seval,iteOmega,toNatUp,kH]
  ·intro i hi;have hl:(bo (cc (aO s)) (aQ 16 (0:UInt8)) i).length=16:=by rw[jY _ _ (by rw[bf]; omega),bf]
   by_cases hlt:i<16
   ·have hm:(i+i%4*4)%16=i%4+4*((i / 4+i%4)%4):=by omega
    have hm2:(i+i%4*4)%16<16:=by omega
    have g1:s[(i+i%4*4)%16]?=some (aO s (i%4+4*((i / 4+i%4)%4))):=by rw[← hm]; exact db (by omega)
    have h3:i<(bo (cc (aO s)) (aQ 16 (0:UInt8)) i).length:=by omega
    have h5:(bo (cc (aO s)) (aQ 16 (0:UInt8)) i).set i (dA (aO s (i%4+4*((i / 4+i%4)%4))))=bo (cc (aO s)) (aQ 16 (0:UInt8)) (i+1):=kJ (cc (aO s)) _ (by rw[bf]; omega);have t1:Int.tmod (i:Int) 4=((i%4:Nat):Int):=jE i 4;have t2:Int.tmod ((i:Int)+((i%4:Nat):Int)*4) 16=(((i+i%4*4)%16:Nat):Int):=jE (i+i%4*4) 16;have hb:(i%4:Nat)<4:=acH _ (by decide);generalize hq:i%4=q at *
    generalize hp:(i+q*4)%16=p at *
    simp only[yQ,BW,ae,aa,seval,iteOmega,toNatUp,aD,t1,t2,g1];refine sC (sV G (aO s (q+4*((i / 4+q)%4)))) ?_;simp only[eo h3 (d8 _),ft,h5,aD,hl,ae,aa,seval,iteOmega,toNatUp];refine aU (i+1) (by omega) (by omega) (ap (fun i=>i) ?_ ?_ rfl rfl) <;> simp only[wx,aj,ar,aa,seval,iteOmega,toNatUp]
   ·obtain rfl:i=16:=by omega
    have e:bo (cc (aO s)) (aQ 16 (0:UInt8)) 16=iE s:=nJ _ (bf _ _);have e2:=u5 s;simp only[yQ,BW,e,ae,aa,seval,iteOmega,toNatUp,e2,iO,bf];exact aM
theorem XB (a b c d:UInt8):ak (ak (ak (gM (ak a b)) b) c) d=qz a b c d:=by
  unfold qz hO;rw[UF a b,MH,MH]
def Bl (s:List UInt8) (i:Nat):St:=⟨aT [(1,.w (.c (.ra (s.map bD)))),(2,.w (.c (.pa 2 1))),(3,.w (.c (.pa 1 1))),(8,.w (.c (.d (.int .i64 (i:Int)))))],hL [(1,.row 1 ((bo (ig (aO s)) (aQ 16 (0:UInt8)) i).map bD)),(2,.row 1 ((aQ 16 (0:UInt8)).map bD))],uL [1,2]⟩
def yR:aS := .seq (.reg [oO 9 (.bin .lss (.t 8) (kI 16))]) (.seq (.cond (.t 9) (.skip) (.exit 0)) (.seq (.block 1 (.seq (.reg [oM 10 8,oM 4 10]) (.seq (.reg [oM 11 4,oO 12 (.bin .rem (.t 11) (kI 4)),oM 5 12]) (.seq (.reg [oM 13 4,oM 14 5,oO 15 (.bin .sub (.t 13) (.t 14)),oM 16 4,oM 17 5,oO 18 (.bin .sub (.t 16) (.t 17)),oO 19 (.bin .add (.t 18) (kI 4)),oO 20 (.sliceArr 1 16 (.t 1) (some (.t 15)) (some (.t 19))),oM 6 20]) (.seq (.reg [oM 21 6,oM 22 5,oO 23 (.bin .add (.t 22) (kI 1)),oO 24 (.bin .rem (.t 23) (kI 4)),oO 25 (.idxSl 1 (.t 21) (.t 24)),oO 26 (.load .sc (.t 25)),oM 7 26]) (.reg [oM 27 4,oM 28 4,oO 29 (.idxPa 1 16 (.t 1) (.t 28)),oO 30 (.load .sc (.t 29)),oM 31 7,oO 32 (.bin .xor (.t 30) (.t 31)),oO 33 (.call 136 [(.t 32)] none),oM 34 7,oO 35 (.bin .xor (.t 33) (.t 34)),
 oM 36 6,oM 37 5,oO 38 (.bin .add (.t 37) (kI 2)),oO 39 (.bin .rem (.t 38) (kI 4)),oO 40 (.idxSl 1 (.t 36) (.t 39)),oO 41 (.load .sc (.t 40)),oO 42 (.bin .xor (.t 35) (.t 41)),oM 43 6,oM 44 5,oO 45 (.bin .add (.t 44) (kI 3)),oO 46 (.bin .rem (.t 45) (kI 4)),oO 47 (.idxSl 1 (.t 43) (.t 46)),oO 48 (.load .sc (.t 47)),oO 49 (.bin .xor (.t 42) (.t 48)),oO 50 (.idxPa 1 16 (.t 3) (.t 27)),oN (.store .sc (.t 50) (.t 49))])))))) (.reg [oO 51 (.bin .add (.t 8) (kI 1)),oM 8 51])))
def JN:aG:=⟨1,53,.seq (.reg [oO 1 (.box .roArr (.t 0)),oO 2 (.allocArr [(.int .u8 0),(.int .u8 0),(.int .u8 0),(.int .u8 0),(.int .u8 0),(.int .u8 0),(.int .u8 0),(.int .u8 0),(.int .u8 0),(.int .u8 0),(.int .u8 0),(.int .u8 0),(.int .u8 0),(.int .u8 0),(.int .u8 0),(.int .u8 0)])]) (.seq (.reg [oO 3 (.allocArr [(.int .u8 0),(.int .u8 0),(.int .u8 0),(.int .u8 0),(.int .u8 0),(.int .u8 0),(.int .u8 0),(.int .u8 0),(.int .u8 0),(.int .u8 0),(.int .u8 0),(.int .u8 0),(.int .u8 0),(.int .u8 0),(.int .u8 0),(.int .u8 0)])]) (.seq (.seq (.reg [oO 8 (.mv (kI 0))]) (.block 0 (.loop yR))) (.seq (.reg [oO 52 (.load (.ag 16) (.t 3)),oN (.store (.ag 16) (.t 2) (.t 52))]) (.ret)))),[(2,(some (.ag 16)))]⟩
theorem UN:aF Tryz.prog { own:=[],comp:=[],frz:=[],nils:=[] } Tryz.f139=some JN:=by kernel_rfl
theorem XC (G:ah) (s:List UInt8) (hs:s.length=16):aB Tryz.prog G 139 [.agg (s.map bD)] (.w (.c (.d (.agg ((tp s).map bD))))):=by
  refine aI Tryz.func139 UN rfl rfl ?_;simp only[JN,af,ae,aa,seval,iteOmega,toNatUp,eX];refine ba (Bl s) (fun i=>16-i) (fun i=>i≤16) 0 (abM _) ?_ ?_
  ·refine ap (fun i=>if i=1 then 24 else 16) ?_ ?_ rfl rfl <;> simp only[wx,aj,ar,aa,seval,iteOmega,toNatUp,kH]
  ·intro i hi;have hl:(bo (ig (aO s)) (aQ 16 (0:UInt8)) i).length=16:=by rw[jY _ _ (by rw[bf]; omega),bf]
   by_cases hlt:i<16
   ·have h3:i<(bo (ig (aO s)) (aQ 16 (0:UInt8)) i).length:=by omega
    have h5:(bo (ig (aO s)) (aQ 16 (0:UInt8)) i).set i (ig (aO s) i)=bo (ig (aO s)) (aQ 16 (0:UInt8)) (i+1):=kJ (ig (aO s)) _ (by rw[bf]; omega);have g0:s[i]?=some (aO s i):=db (by omega);obtain⟨q,r,hr,rfl⟩:∃ q r,r<4∧i=4*q+r:=⟨i / 4,i%4,acH _ (by decide),by omega⟩
    have hq:q<4:=by omega
    have col:∀ j,j<4→((s.drop (4*q)).take 4)[j]?=some (aO s (4*q+j)):=fun j hj=>by
      rw[ab6,if_pos hj,ach]; exact db (by omega)
    have g1:=col ((r+1)%4) (acH _ (by decide));have g2:=col ((r+2)%4) (acH _ (by decide));have g3:=col ((r+3)%4) (acH _ (by decide));have t0:Int.tmod (4*(q:Int)+(r:Int)) 4=(r:Int):=by
      show Int.tmod ((4*q+r:Nat):Int) ((4:Nat):Int)=_
      rw[jE]; congr 1; omega
    have t1:Int.tmod ((r:Int)+1) 4=(((r+1)%4:Nat):Int):=jE (r+1) 4;have t2:Int.tmod ((r:Int)+2) 4=(((r+2)%4:Nat):Int):=jE (r+2) 4;have t3:Int.tmod ((r:Int)+3) 4=(((r+3)%4:Nat):Int):=jE (r+3) 4;have b1:(r+1)%4<4:=acH _ (by decide);have b2:(r+2)%4<4:=acH _ (by decide);have b3:(r+3)%4<4:=acH _ (by decide);have em:ig (aO s) (4*q+r)=qz (aO s (4*q+r)) (aO s (4*q+(r+1)%4)) (aO s (4*q+(r+2)%4)) (aO s (4*q+(r+3)%4)):=by
      unfold ig;rw[show (4*q+r) / 4=q by omega,show (4*q+r)%4=r by omega]
    rw[em,← XB] at h5;have s1:4*q+r-r=4*q:=by omega
    have s2:4*q+4-4*q=4:=by omega
    have s3:((s.drop (4*q)).take 4).length=4:=by rw[abN,abO]; omega
    generalize (r+1)%4=r1 at *
    generalize (r+2)%4=r2 at *
    generalize (r+3)%4=r3 at *
    generalize aO s (4*q+r)=a at *
    generalize aO s (4*q+r1)=b at *
    generalize aO s (4*q+r2)=c at *
    generalize aO s (4*q+r3)=d at *
    have x1:=dv a b;have x2:=dv (gM (ak a b)) b;have x3:=dv (ak (gM (ak a b)) b) c;have x4:=dv (ak (ak (gM (ak a b)) b) c) d;simp only[yR,Bl,ae,aa,seval,iteOmega,toNatUp,aD,t0,t1,t2,t3,g0,g1,g2,g3,s1,s2,s3,x1];refine sC (OR G (ak a b)) ?_;simp only[aD,t0,t1,t2,t3,g0,g1,g2,g3,s1,s2,s3,x2,x3,x4,eo h3 (d8 _),ft,h5,hl,ae,aa,seval,iteOmega,toNatUp];refine aU (4*q+r+1) (by omega) (by omega) (ap (fun i=>i) ?_ ?_ rfl rfl) <;> simp only[wx,aj,ar,aa,seval,iteOmega,toNatUp]
   ·obtain rfl:i=16:=by omega
    have e:bo (ig (aO s)) (aQ 16 (0:UInt8)) 16=tp s:=nJ _ (bf _ _);have e2:=HI s;simp only[yR,Bl,e,ae,aa,seval,iteOmega,toNatUp,e2,iO,bf];exact aM
def wV0 (l:List UInt8) (c:UInt8) (j:Nat):UInt8:=if j=0 then ak (dA (l.getD 13 0)) c else if j=1 then dA (l.getD 14 0) else if j=2 then dA (l.getD 15 0) else dA (l.getD 12 0)
def wV (l:List UInt8) (c:UInt8):Nat→Nat→UInt8
  | 0,j=>wV0 l c j
  | n+1,j=>if j=n%4 then ak (l.getD n 0) (wV l c n (n%4)) else wV l c n j
def iF (l:List UInt8) (c:UInt8) (n:Nat):UInt8:=ak (l.getD n 0) (wV l c n (n%4))
def ni (l:List UInt8) (c:UInt8):List UInt8:=bM (iF l c)
theorem u6 (l:List UInt8) (c:UInt8):(ni l c).length=16:=gR _
def wL (l:List UInt8) (c:UInt8) (i:Nat):List UInt8:=(List.range 4).map (wV l c i)
theorem pM (l:List UInt8) (c:UInt8) (i:Nat):(wL l c i).length=4:=by simp[wL]
theorem Bm (l:List UInt8) (c:UInt8) (i:Nat) {j:Nat} (h:j<4):(wL l c i)[j]?=some (wV l c i j):=by simp[wL,h]
theorem UO (l:List UInt8) (c:UInt8) (i:Nat):(wL l c i).set (i%4) (iF l c i)=wL l c (i+1):=by
  apply ac3;intro j;by_cases hj:j<4
  ·rw[Bm _ _ _ hj,List.getElem?_set];by_cases e:i%4=j
   ·rw[if_pos e,if_pos (by rw[pM]; omega),wV,if_pos e.symm]; rfl
   ·rw[if_neg e,Bm _ _ _ hj,wV,if_neg (fun h=>e h.symm)]
  ·rw[acr (by rw[acJ,pM]; omega),acr (by rw[pM]; omega)]
theorem UP (l:List UInt8) (c:UInt8):[ak (dA (l.getD 13 0)) c,dA (l.getD 14 0),dA (l.getD 15 0),dA (l.getD 12 0)]=wL l c 0:=rfl
def BX (l:List UInt8) (c:UInt8) (i:Nat):St:=⟨aT [(2,.w (.c (.pa 1 1))),(4,.w (.c (.pa 2 1))),(5,.w (.c (.pa 3 1))),(22,.w (.c (.d (.int .i64 (i:Int)))))],hL [(1,.row 1 ((bo (iF l c) l i).map bD)),(2,.row 1 ((aQ 16 (0:UInt8)).map bD)),(3,.row 1 ((wL l c i).map bD))],uL [1,2,3]⟩
def zM:aS := .seq (.reg [oO 23 (.bin .lss (.t 22) (kI 16))]) (.seq (.cond (.t 23) (.skip) (.exit 0)) (.seq (.block 1 (.seq (.reg [oM 24 22,oM 6 24]) (.seq (.reg [oM 25 6,oO 26 (.idxPa 1 16 (.t 2) (.t 25)),oO 27 (.load .sc (.t 26)),oM 28 6,oO 29 (.bin .rem (.t 28) (kI 4)),oO 30 (.idxPa 1 4 (.t 5) (.t 29)),oO 31 (.load .sc (.t 30)),oO 32 (.bin .xor (.t 27) (.t 31)),oO 33 (.idxPa 1 16 (.t 2) (.t 25)),oN (.store .sc (.t 33) (.t 32))]) (.reg [oM 34 6,oO 35 (.bin .rem (.t 34) (kI 4)),oM 36 6,oO 37 (.idxPa 1 16 (.t 2) (.t 36)),oO 38 (.load .sc (.t 37)),oO 39 (.idxPa 1 4 (.t 5) (.t 35)),oN (.store .sc (.t 39) (.t 38))])))) (.reg [oO 40 (.bin .add (.t 22) (kI 1)),oM 22 40])))
def ML:aG:=⟨2,42,.seq (.reg [oO 2 (.box .ownArr (.t 0)),oO 4 (.allocArr [(.int .u8 0),(.int .u8 0),(.int .u8 0),(.int .u8 0),(.int .u8 0),(.int .u8 0),(.int .u8 0),(.int .u8 0),(.int .u8 0),(.int .u8 0),(.int .u8 0),(.int .u8 0),(.int .u8 0),(.int .u8 0),(.int .u8 0),(.int .u8 0)])]) (.seq (.reg [oO 7 (.idxPa 1 16 (.t 2) (kI 13)),oO 8 (.load .sc (.t 7)),oO 9 (.call 147 [(.t 8)] none),oM 10 1,oO 11 (.bin .xor (.t 9) (.t 10)),oO 12 (.idxPa 1 16 (.t 2) (kI 14)),oO 13 (.load .sc (.t 12)),oO 14 (.call 147 [(.t 13)] none),oO 15 (.idxPa 1 16 (.t 2) (kI 15)),oO 16 (.load .sc (.t 15)),oO 17 (.call 147 [(.t 16)] none),oO 18 (.idxPa 1 16 (.t 2) (kI 12)),oO 19 (.load .sc (.t 18)),oO 20 (.call 147 [(.t 19)] none),oO 21 (.build [(.d (.int .u8 0)),(.d (.int .u8 0)),(.d (.int .u8 0)),(.d (.int .u8 0))] [(0,1,(.t 11)),(1,1,(.t 14)),(2,1,(.t 17)),(3,1,(.t 20))]),
 oO 5 (.allocArr [(.int .u8 0),(.int .u8 0),(.int .u8 0),(.int .u8 0)]),oN (.store (.ag 4) (.t 5) (.t 21))]) (.seq (.seq (.reg [oO 22 (.mv (kI 0))]) (.block 0 (.loop zM))) (.seq (.reg [oO 41 (.load (.ag 16) (.t 2)),oN (.store (.ag 16) (.t 4) (.t 41))]) (.ret)))),[(4,(some (.ag 16)))]⟩
theorem XD:aF Tryz.prog { own:=[2],comp:=[],frz:=[],nils:=[] } Tryz.f135=some ML:=by kernel_rfl
set_option maxHeartbeats 3200000 in
theorem Z9 (G:ah) (l:List UInt8) (c:UInt8) (hl:l.length=16):aB Tryz.prog G 135 [.agg (l.map bD),bD c] (.w (.c (.d (.agg ((ni l c).map bD))))):=by
  refine aI Tryz.func135 XD rfl rfl ?_;have a13:l[13]?=some (l.getD 13 0):=db (by omega);have a14:l[14]?=some (l.getD 14 0):=db (by omega);have a15:l[15]?=some (l.getD 15 0):=db (by omega);have a12:l[12]?=some (l.getD 12 0):=db (by omega);have x0:=dv (dA (l.getD 13 0)) c;have w0:=congrArg (List.map bD) (UP l c);have wl:=pM l c 0;simp only[abK,abS] at w0;simp only[ML,af,ae,aa,seval,iteOmega,toNatUp,eX,hl,aD,a13];refine sC (sV G (l.getD 13 0)) ?_;simp only[x0,aD,a14,hl,ae,aa,seval,iteOmega,toNatUp];refine sC (sV G (l.getD 14 0)) ?_;simp only[aD,a15,hl,ae,aa,seval,iteOmega,toNatUp];refine sC (sV G (l.getD 15 0)) ?_;simp only[aD,a12,hl,ae,aa,seval,iteOmega,toNatUp];refine sC (sV G (l.getD 12 0)) ?_;simp only[w0,ae,aa,seval,iteOmega,toNatUp];refine ba (BX l c) (fun i=>16-i) (fun i=>i≤16) 0 (abM _) ?_ ?_
  ·refine ap (fun i=>if i=1 then 16 else if i=2 then 32 else 40) ?_ ?_ rfl rfl <;> simp only[wx,aj,ar,aa,seval,iteOmega,toNatUp,kH]
  ·intro i hi;have hu:(bo (iF l c) l i).length=16:=by rw[jY _ _ (by omega)]; exact hl
   by_cases hlt:i<16
   ·have hm:i%4<4:=acH _ (by decide);have t1:Int.tmod (i:Int) 4=((i%4:Nat):Int):=jE i 4;have g1:(bo (iF l c) l i)[i]?=some (l.getD i 0):=by rw[JJ _ _ (abR i)]; exact db (by omega)
    have g2:=Bm l c i hm;have x1:=dv (l.getD i 0) (wV l c i (i%4));have h3:i<(bo (iF l c) l i).length:=by omega
    have h4:i%4<(wL l c i).length:=by rw[pM]; exact hm
    have h5:(bo (iF l c) l i).set i (iF l c i)=bo (iF l c) l (i+1):=kJ (iF l c) l (by omega);have h6:=UO l c i;have g3:(bo (iF l c) l (i+1))[i]?=some (iF l c i):=Tc _ _ (Nat.lt_succ_self i);have hf:ak (l.getD i 0) (wV l c i (i%4))=iF l c i:=rfl;have hwl:=pM l c i;have hu2:(bo (iF l c) l (i+1)).length=16:=by rw[jY _ _ (by omega)]; exact hl
    generalize hq:i%4=q at *
    simp only[zM,BX,ae,aa,seval,iteOmega,toNatUp,aD,t1,g1,g2,x1,hf,eo h3 (d8 _),eo h4 (d8 _),ft,h5,h6,g3,hu,hu2,hwl];refine aU (i+1) (by omega) (by omega) (ap (fun i=>i) ?_ ?_ rfl rfl) <;> simp only[wx,aj,ar,aa,seval,iteOmega,toNatUp]
   ·obtain rfl:i=16:=by omega
    have e:bo (iF l c) l 16=ni l c:=nJ _ hl;have e2:=u6 l c;simp only[zM,BX,e,ae,aa,seval,iteOmega,toNatUp,e2,iO,bf];exact aM
theorem RS {P Q:List UInt8} {k n:Nat} (h:P.length=n):(P++Q).getD (n+k) 0=Q.getD k 0:=by
  rw[abI,abI,acx (by omega),h,acC]
theorem Tf {P Q:List UInt8} {k n:Nat} (h:P.length=n):(P++Q).drop (n+k)=Q.drop k:=by
  rw[← h,List.drop_append,acw (by omega),acE,acC]
theorem uw {P Q:List UInt8} {n:Nat} (h:P.length=4*n):jd (P++Q) n=(List.range 4).map fun k=>ak (Q.getD k 0) ((jD (Q.drop 12) n).getD k 0):=by
  unfold jd;refine aco fun k _=>?_
  rw[RS h,show 12+4*n=4*n+12 by omega,Tf h]
theorem aaa (b0 b1 b2 b3 b4 b5 b6 b7 b8 b9 b10 b11 b12 b13 b14 b15 c:UInt8):∃ f0 f1 f2 f3,
    f0=ak b0 (ak (dA b13) c)∧f1=ak b1 (dA b14)∧f2=ak b2 (dA b15)∧f3=ak b3 (dA b12) ∧
    ni [b0,b1,b2,b3,b4,b5,b6,b7,b8,b9,b10,b11,b12,b13,b14,b15] c =
      [f0,f1,f2,f3,ak b4 f0,ak b5 f1,ak b6 f2,ak b7 f3,ak b8 (ak b4 f0),ak b9 (ak b5 f1),ak b10 (ak b6 f2),ak b11 (ak b7 f3),
       ak b12 (ak b8 (ak b4 f0)),ak b13 (ak b9 (ak b5 f1)),ak b14 (ak b10 (ak b6 f2)),ak b15 (ak b11 (ak b7 f3))] :=
  ⟨_,_,_,_,rfl,rfl,rfl,rfl,rfl⟩
theorem u7 (f:Nat→UInt8):(List.range 4).map f=[f 0,f 1,f 2,f 3]:=rfl
theorem Tg {P:List UInt8} {r:Nat} (hP:P.length=16*r) (b0 b1 b2 b3 b4 b5 b6 b7 b8 b9 b10 b11 b12 b13 b14 b15:UInt8) (key:List UInt8)
    (h:br key (4*r)=P++[b0,b1,b2,b3,b4,b5,b6,b7,b8,b9,b10,b11,b12,b13,b14,b15]) :
    br key (4*(r+1))=br key (4*r)++ni [b0,b1,b2,b3,b4,b5,b6,b7,b8,b9,b10,b11,b12,b13,b14,b15] (fJ r):=by
  obtain⟨f0,f1,f2,f3,e0,e1,e2,e3,ef⟩:=aaa b0 b1 b2 b3 b4 b5 b6 b7 b8 b9 b10 b11 b12 b13 b14 b15 (fJ r);have m0:4*r%4=0:=by omega
  have m1:(4*r+1)%4≠0:=by omega
  have m2:(4*r+2)%4≠0:=by omega
  have m3:(4*r+3)%4≠0:=by omega
  have d0:4*r / 4=r:=by omega
  have n0:jd (br key (4*r)) (4*r)=[f0,f1,f2,f3]:=by
    rw[h,uw (by omega),u7];unfold jD;rw[if_pos m0,d0,e0,e1,e2,e3]; rfl
  have s1:br key (4*r+1)=(P++[b0,b1,b2,b3])++[b4,b5,b6,b7,b8,b9,b10,b11,b12,b13,b14,b15,f0,f1,f2,f3]:=by
    rw[br,n0,h]; simp
  have n1:jd (br key (4*r+1)) (4*r+1)=[ak b4 f0,ak b5 f1,ak b6 f2,ak b7 f3]:=by
    rw[s1,uw (by simp; omega),u7];unfold jD;rw[if_neg m1]; rfl
  have s2:br key (4*r+2)=(P++[b0,b1,b2,b3,b4,b5,b6,b7])++[b8,b9,b10,b11,b12,b13,b14,b15,f0,f1,f2,f3,ak b4 f0,ak b5 f1,ak b6 f2,ak b7 f3]:=by
    rw[show 4*r+2=(4*r+1)+1 from rfl,br,n1,s1]; simp
  have n2:jd (br key (4*r+2)) (4*r+2)=[ak b8 (ak b4 f0),ak b9 (ak b5 f1),ak b10 (ak b6 f2),ak b11 (ak b7 f3)]:=by
    rw[s2,uw (by simp; omega),u7];unfold jD;rw[if_neg m2]; rfl
  have s3:br key (4*r+3)=(P++[b0,b1,b2,b3,b4,b5,b6,b7,b8,b9,b10,b11])++[b12,b13,b14,b15,f0,f1,f2,f3,ak b4 f0,ak b5 f1,ak b6 f2,ak b7 f3,ak b8 (ak b4 f0),ak b9 (ak b5 f1),ak b10 (ak b6 f2),ak b11 (ak b7 f3)]:=by
    rw[show 4*r+3=(4*r+2)+1 from rfl,br,n2,s2]; simp
  have n3:jd (br key (4*r+3)) (4*r+3)=[ak b12 (ak b8 (ak b4 f0)),ak b13 (ak b9 (ak b5 f1)),ak b14 (ak b10 (ak b6 f2)),ak b15 (ak b11 (ak b7 f3))]:=by
    rw[s3,uw (by simp; omega),u7];unfold jD;rw[if_neg m3]; rfl
  rw[show 4*(r+1)=(4*r+3)+1 by omega,br,n3,s3,ef,h];simp
def kb (key:List UInt8) (r:Nat):List UInt8:=(br key (4*r)).drop (16*r)
theorem Bn {key:List UInt8} (h:key.length=16) (r:Nat):(kb key r).length=16:=by
  unfold kb; rw[abO,jX h]; omega
theorem XE {l:List UInt8} (h:l.length=16):∃ b0 b1 b2 b3 b4 b5 b6 b7 b8 b9 b10 b11 b12 b13 b14 b15,l=[b0,b1,b2,b3,b4,b5,b6,b7,b8,b9,b10,b11,b12,b13,b14,b15]:=by
  rcases l with _ | ⟨b0,l⟩ <;> simp at h
  rcases l with _ | ⟨b1,l⟩ <;> simp at h
  rcases l with _ | ⟨b2,l⟩ <;> simp at h
  rcases l with _ | ⟨b3,l⟩ <;> simp at h
  rcases l with _ | ⟨b4,l⟩ <;> simp at h
  rcases l with _ | ⟨b5,l⟩ <;> simp at h
  rcases l with _ | ⟨b6,l⟩ <;> simp at h
  rcases l with _ | ⟨b7,l⟩ <;> simp at h
  rcases l with _ | ⟨b8,l⟩ <;> simp at h
  rcases l with _ | ⟨b9,l⟩ <;> simp at h
  rcases l with _ | ⟨b10,l⟩ <;> simp at h
  rcases l with _ | ⟨b11,l⟩ <;> simp at h
  rcases l with _ | ⟨b12,l⟩ <;> simp at h
  rcases l with _ | ⟨b13,l⟩ <;> simp at h
  rcases l with _ | ⟨b14,l⟩ <;> simp at h
  rcases l with _ | ⟨b15,l⟩ <;> simp at h
  subst h;exact⟨_,_,_,_,_,_,_,_,_,_,_,_,_,_,_,_,rfl⟩
theorem UQ {key:List UInt8} (h:key.length=16) (r:Nat):br key (4*(r+1))=br key (4*r)++ni (kb key r) (fJ r):=by
  obtain⟨b0,b1,b2,b3,b4,b5,b6,b7,b8,b9,b10,b11,b12,b13,b14,b15,e⟩:=XE (Bn h r);rw[e];refine Tg (P:=(br key (4*r)).take (16*r)) ?_ _ _ _ _ _ _ _ _ _ _ _ _ _ _ _ _ key ?_
  ·rw[abN,jX h]; omega
  ·rw[← e]; exact (acl _ _).symm
def hY (key:List UInt8) (i:Nat):List UInt8:=br key (4*i)++aQ (160-16*i) 0
theorem UR {key:List UInt8} (h:key.length=16) {i:Nat} (hi:i≤10):(hY key i).length=176:=by
  unfold hY; rw[abJ,jX h,bf]; omega
theorem Ti {key:List UInt8} (h:key.length=16):cW (aQ 176 (0:UInt8)) 0 key=hY key 0:=by
  unfold cW hY aQ;rw[ac1,acE,List.drop_replicate,h]; rfl
theorem Tj {key:List UInt8} (h:key.length=16) {i:Nat} (hi:i≤10):((hY key i).drop (i*16)).take 16=kb key i:=by
  unfold hY;rw[adm,adp (by rw[jX h]; omega)];exact List.take_left' (Bn h i)
theorem Tk {key:List UInt8} (h:key.length=16) {i:Nat} (hi:i<10):cW (hY key i) ((i+1)*16) (ni (kb key i) (fJ i))=hY key (i+1):=by
  have hl:(br key (4*i)).length=(i+1)*16:=by rw[jX h]; omega
  unfold cW hY;rw[UQ h,acz (by omega),abH (by omega),u6,List.drop_append,acw (by omega),acE,hl]
  congr 1
  unfold aQ;rw[List.drop_replicate]
  congr 1
  omega
theorem Tl (key:List UInt8):hY key 10=am key:=by
  unfold hY aQ am; rw[show 160-16*10=0 from rfl,acO,abP]
set_option maxHeartbeats 3200000
def Bo (key:List UInt8) (i:Nat):St:=⟨aT [(2,.w (.c (.ptr 2 1 0 0))),(3,.w (.c (.ptr 1 1 0 0))),(4,.w (.c (.d (bD (fJ i))))),(5,.w (.c (.d (.int .i64 ((i+1:Nat):Int)))))],hL [(1,.box ((hY key i).map bC)),(2,.box ((aQ 176 (0:UInt8)).map bC))],uL [1,2]⟩
theorem PT:fJ 0=1:=rfl
def yS:aS := .seq (.seq (.reg [oM 10 5,oO 11 (.bin .leq (.t 10) (kI 10))]) (.cond (.t 11) (.skip) (.exit 0))) (.seq (.block 1 (.seq (.reg [oM 14 5,oM 15 5,oO 16 (.bin .sub (.t 15) (kI 1)),oO 17 (.idxPa 16 11 (.t 3) (.t 16)),oO 18 (.load (.ag 16) (.t 17)),oM 19 4,oO 20 (.call 135 [(.t 18),(.t 19)] none),oO 21 (.idxPa 16 11 (.t 3) (.t 14)),oN (.store (.ag 16) (.t 21) (.t 20))]) (.reg [oM 22 4,oO 23 (.call 136 [(.t 22)] none),oM 4 23]))) (.reg [oM 12 5,oO 13 (.bin .add (.t 12) (kI 1)),oM 5 13]))
def JO:aG:=⟨1,25,.seq (.reg [oO 2 (.alloc (aQ 176 (.d (.int .u8 0))))]) (.seq (.reg [oO 3 (.alloc (aQ 176 (.d (.int .u8 0))))]) (.seq (.reg [oO 6 (.idxPa 16 11 (.t 3) (kI 0)),oO 7 (.sliceArr 1 16 (.t 6) none none),oM 8 0,oO 9 (.copy 1 (.t 7) (.t 8))]) (.seq (.reg [oO 4 (.mv (.k (.c (.d (.int .u8 1)))))]) (.seq (.seq (.reg [oO 5 (.mv (kI 1))]) (.block 0 (.loop yS))) (.seq (.reg [oO 24 (.load (.ag 176) (.t 3)),oN (.store (.ag 176) (.t 2) (.t 24))]) (.ret)))))),[(2,(some (.ag 176)))]⟩
theorem US:aF Tryz.prog { own:=[],comp:=[],frz:=[],nils:=[] } Tryz.f122=some JO:=by kernel_rfl
theorem MM (G:ah) (key:List UInt8) (h:key.length=16):aB Tryz.prog G 122 [.sl (key.map bD)] (.w (.c (.d (.agg ((am key).map bD))))):=by
  refine aI Tryz.func122 US rfl rfl ?_;have ht:key.take 16=key:=abH (by omega);have h0:key++List.drop key.length (aQ 176 (0:UInt8))=hY key 0:=by rw[← Ti h]; simp[cW]
  have hid:=cb (hY key 0);have hid2:=cb (aQ 176 (0:UInt8));simp only[JO,af,ae,aa,seval,iteOmega,toNatUp,rN,cy,bf,bw,ht,iO,jC,SQ,h0];refine ba (Bo key) (fun i=>10-i) (fun i=>i≤10) 0 (abM _) ?_ ?_
  ·refine ap (fun i=>if i=1 then 24 else 16) ?_ ?_ rfl (by simp[V.ids,W.ids,C.ids,Ob.ids,cb]) <;> simp only[wx,aj,ar,aa,seval,iteOmega,toNatUp,PT,Dj,fq,cb]
  ·intro i hi;have hl:=UR h hi;by_cases hlt:i<10
   ·have g1:=Tj h hi;have h5:List.take ((i+1)*16) (hY key i)++ni (kb key i) (fJ i)++List.drop ((i+1)*16+16) (hY key i)=hY key (i+1):=by
      rw[← Tk h hlt]; unfold cW; rw[u6]
    have hf:=u6 (kb key i) (fJ i);have hx:gM (fJ i)=fJ (i+1):=rfl;have s1:((i:Int)+1-1).toNat=i:=by omega
    simp only[yS,Bo,ae,aa,seval,iteOmega,toNatUp,cy,hl,bw,eS,g1,iy];refine sC (Z9 G (kb key i) (fJ i) (Bn h i)) ?_;simp only[cy,hl,jC,hf,bw,eS,ic,h5,ae,aa,seval,iteOmega,toNatUp];refine sC (OR G (fJ i)) ?_;simp only[hx,ae,aa,seval,iteOmega,toNatUp];refine aU (i+1) (by omega) (by omega) (ap (fun i=>i) ?_ ?_ rfl (by simp[V.ids,W.ids,C.ids,Ob.ids,cb])) <;> simp only[wx,aj,ar,aa,seval,iteOmega,toNatUp,fq,cb]
   ·obtain rfl:i=10:=by omega
    have e:=Tl key;have e2:=rQ h;rw[e] at hl;have t1:(am key).take 176=am key:=abH (by omega);have t2:List.drop 176 (aQ 176 (0:UInt8))=[]:=acw (by rw[bf]; omega);have t3:am key++List.drop (am key).length (aQ 176 (0:UInt8))=am key:=by rw[e2,t2,abP]
    simp only[yS,Bo,e,ae,aa,seval,iteOmega,toNatUp,cy,hl,e2,t1,t2,t3,iy,jC,bf,bw,eS,ic,abP];exact pI (by simp only[ae,aa,seval,iteOmega,toNatUp,cy,hl,e2,t1,t2,t3,iy,jC,bf,bw,eS,ic,abP])
theorem zN (l:List UInt8):d6 ((l.map bD).map C.d)=some (l.map bD):=by
  induction l with
  | nil=>rfl
  | cons x l ih =>
    show d6 (C.d (bD x)::(l.map bD).map C.d)=_
    simp only[d6,ih,abK,ac7]
theorem Tm (rk b:List UInt8) (hb:b.length=16):oo b (bM (cz rk 0))=bM (gC (cz rk) (aO b) 0):=by
  have:=zK (aO b) (cz rk 0);rw[Xt hb] at this;exact this
theorem UT (rk b:List UInt8) {n:Nat} (h:n+1<10):oo (tp (iE (bM (gC (cz rk) (aO b) n)))) (bM (cz rk (n+1)))=bM (gC (cz rk) (aO b) (n+1)):=by
  rw[HJ,Te,zK]
  show _=bM (lY _ _ _)
  unfold lY;rw[if_pos h]
theorem Tn (rk b:List UInt8):oo (iE (bM (gC (cz rk) (aO b) 9))) (bM (cz rk 10))=dt rk b:=by
  rw[HJ,zK];rfl
def BZ (rk b:List UInt8) (i:Nat):St:=⟨aT [(2,.w (.c (.rp (rk.map bD)))),(4,.w (.c (.pa 2 1))),(5,.w (.c (.pa 1 1))),(6,.w (.c (.d (.int .i64 ((i+1:Nat):Int)))))],hL [(1,.row 1 ((bM (gC (cz rk) (aO b) i)).map bD)),(2,.row 1 ((aQ 16 (0:UInt8)).map bD))],uL [1,2]⟩
def yT:aS := .seq (.seq (.reg [oM 14 6,oO 15 (.bin .lss (.t 14) (kI 10))]) (.cond (.t 15) (.skip) (.exit 0))) (.seq (.block 1 (.reg [oO 18 (.load (.ag 16) (.t 5)),oO 19 (.call 140 [(.t 18)] none),oO 20 (.call 139 [(.t 19)] none),oM 21 6,oO 22 (.idxPa 16 11 (.t 2) (.t 21)),oO 23 (.load (.ag 16) (.t 22)),oO 24 (.call 138 [(.t 20),(.t 23)] none),oN (.store (.ag 16) (.t 5) (.t 24))])) (.reg [oM 16 6,oO 17 (.bin .add (.t 16) (kI 1)),oM 6 17]))
def JP:aG:=⟨2,30,.seq (.reg [oO 2 (.box .roBox (.t 0)),oO 4 (.allocArr [(.int .u8 0),(.int .u8 0),(.int .u8 0),(.int .u8 0),(.int .u8 0),(.int .u8 0),(.int .u8 0),(.int .u8 0),(.int .u8 0),(.int .u8 0),(.int .u8 0),(.int .u8 0),(.int .u8 0),(.int .u8 0),(.int .u8 0),(.int .u8 0)])]) (.seq (.reg [oO 5 (.allocArr [(.int .u8 0),(.int .u8 0),(.int .u8 0),(.int .u8 0),(.int .u8 0),(.int .u8 0),(.int .u8 0),(.int .u8 0),(.int .u8 0),(.int .u8 0),(.int .u8 0),(.int .u8 0),(.int .u8 0),(.int .u8 0),(.int .u8 0),(.int .u8 0)])]) (.seq (.reg [oO 7 (.sliceArr 1 16 (.t 5) none none),oM 8 1,oO 9 (.copy 1 (.t 7) (.t 8))]) (.seq (.reg [oO 10 (.load (.ag 16) (.t 5)),oO 11 (.idxPa 16 11 (.t 2) (kI 0)),oO 12 (.load (.ag 16) (.t 11)),oO 13 (.call 138 [(.t 10),(.t 12)] none),oN (.store (.ag 16) (.t 5) (.t 13))])
 (.seq (.seq (.reg [oO 6 (.mv (kI 1))]) (.block 0 (.loop yT))) (.seq (.reg [oO 25 (.load (.ag 16) (.t 5)),oO 26 (.call 140 [(.t 25)] none),oO 27 (.idxPa 16 11 (.t 2) (kI 10)),oO 28 (.load (.ag 16) (.t 27)),oO 29 (.call 138 [(.t 26),(.t 28)] none),oN (.store (.ag 16) (.t 4) (.t 29))]) (.ret)))))),[(4,(some (.ag 16)))]⟩
theorem UU:aF Tryz.prog { own:=[],comp:=[],frz:=[],nils:=[] } Tryz.f124=some JP:=by kernel_rfl
theorem MN (G:ah) (rk b:List UInt8) (hk:rk.length=176) (hb:b.length=16):aB Tryz.prog G 124 [.agg (rk.map bD),.sl (b.map bD)] (.w (.c (.d (.agg ((dt rk b).map bD))))):=by
  refine aI Tryz.func124 UU rfl rfl ?_;have ht:b.take 16=b:=abH (by omega);have key:∀ r,r≤10→(rk.drop (16*r)).take 16=bM (cz rk r):=fun r hr=>by
    apply ac3;intro j;by_cases hj:j<16
    ·rw[rR _ hj,ab6,if_pos hj,ach]; exact db (by omega)
    ·rw[acr (by rw[abN]; omega),acr (by rw[gR]; omega)]
  have d1:b++List.drop b.length (aQ 16 (0:UInt8))=b:=by rw[hb,acw (by rw[bf]; omega),abP]
  have d2:List.drop 16 (aQ 16 (0:UInt8))=[]:=acw (by rw[bf]; omega);have k0:=key 0 (by decide);have l0:(bM (cz rk 0)).length=16:=gR _;have t0:(bM (cz rk 0)).take 16=bM (cz rk 0):=abH (by rw[gR]; omega);have a0:=Tm rk b hb;have la:=gR (gC (cz rk) (aO b) 0);simp only[ady,acW] at k0;simp only[JP,af,ae,aa,seval,iteOmega,toNatUp,eX,zN,bf,bw,ht,eS,ic,d1,d2,k0,iO,hb,l0,t0,abP,adh];refine sC (BV G b (bM (cz rk 0)) hb l0) ?_;simp only[a0,la,bf,ae,aa,seval,iteOmega,toNatUp];refine ba (BZ rk b) (fun i=>9-i) (fun i=>i≤9) 0 (abM _) ?_ ?_
  ·refine ap (fun i=>if i=1 then 40 else 32) ?_ ?_ rfl rfl <;> simp only[wx,aj,ar,aa,seval,iteOmega,toNatUp]
  ·intro i hi;have le:=gR (gC (cz rk) (aO b) i);have hr:i+1≤10:=by omega
   have k1:=key (i+1) hr;rw[adm] at k1;have l1:(bM (cz rk (i+1))).length=16:=gR _;have t1:(bM (cz rk (i+1))).take 16=bM (cz rk (i+1)):=abH (by rw[gR]; omega);by_cases hlt:i<9
   ·have h5:=UT rk b (n:=i) (by omega);have le2:=gR (gC (cz rk) (aO b) (i+1));simp only[yT,BZ,ae,aa,seval,iteOmega,toNatUp,le,iO];refine sD (MK G (bM (gC (cz rk) (aO b) i)) le) ?_;refine sC (XC G _ (u5 _)) ?_;simp only[bw,eS,k1,l1,t1,ae,aa,seval,iteOmega,toNatUp];refine sC (BV G _ _ (HI _) l1) ?_;simp only[h5,le2,le,ae,aa,seval,iteOmega,toNatUp];refine aU (i+1) (by omega) (by omega) (ap (fun i=>i) ?_ ?_ rfl rfl) <;> simp only[wx,aj,ar,aa,seval,iteOmega,toNatUp]
   ·obtain rfl:i=9:=by omega
    have h5:=Tn rk b;have le2:=iN rk b;simp only[yT,BZ,ae,aa,seval,iteOmega,toNatUp,le,iO];refine sC (MK G (bM (gC (cz rk) (aO b) 9)) le) ?_;simp only[bw,eS,k1,l1,t1,ae,aa,seval,iteOmega,toNatUp];refine sC (BV G _ _ (u5 _) l1) ?_;simp only[h5,le2,bf,ae,aa,seval,iteOmega,toNatUp];exact pI (by simp only[ae,aa,seval,iteOmega,toNatUp,le2,iO])
def mB (a b c:List UInt8):List UInt8:=a++b++c
theorem vB {a b c:List UInt8} (ha:a.length=176) (_:b.length=256) {j:Nat} (h:j<176):(mB a b c)[j]?=a[j]?:=by
  unfold mB; rw[abV,acg (by omega)]
theorem JQ {a b c:List UInt8} (ha:a.length=176) (hb:b.length=256) {j:Nat} (h:j<256):(mB a b c)[176+j]?=b[j]?:=by
  unfold mB; rw[abV,acx (by omega),ha,acC,acg (by omega)]
theorem UV {a b c:List UInt8} (ha:a.length=176) (hb:b.length=256) (j:Nat):(mB a b c)[432+j]?=c[j]?:=by
  unfold mB; rw[acx (by rw[abJ]; omega),abJ,ha,hb,acC]
theorem JR {a b c:List UInt8} (ha:a.length=176) (_:b.length=256) {j:Nat} (h:j<176) (x:UInt8):(mB a b c).set j x=mB (a.set j x) b c:=by
  unfold mB; rw[abV,abV,List.set_append_left _ _ (by omega)]
theorem UW {a b c:List UInt8} (ha:a.length=176) (hb:b.length=256) (j:Nat) (x:UInt8):(mB a b c).set (432+j) x=mB a b (c.set j x):=by
  unfold mB; rw[adk _ _ (by rw[abJ]; omega),abJ,ha,hb,acC]
theorem Bp {a b c:List UInt8} (ha:a.length=176) (hb:b.length=256) (hc:c.length=256):(mB a b c).length=688:=by unfold mB; rw[abJ,abJ,ha,hb,hc]
def Dk (i:Nat):UInt8:=hO (UInt8.ofNat i)
def qN:List UInt8:=(List.range 256).map Dk
theorem JS:qN.length=256:=by unfold qN; rw[abY,acV]
theorem UX (x:UInt8):qN[x.toNat]?=some (hO x):=by
  have h:=fH x;unfold qN;rw[acG,adr h]
  show some (hO (UInt8.ofNat x.toNat))=_
  rw[UInt8.ofNat_toNat]
def dd (key:List UInt8):List UInt8:=mB (am key) kq qN
theorem UY {i:Nat} (h:i<256):bD (UInt8.ofNat i)=.int .u8 (i:Int):=by
  unfold bD; rw[UInt8.toNat_ofNat_of_lt' (by simpa [UInt8.size] using h)]
def kZ (i:Nat):List UInt8:=mB (aQ 176 0) kq (bo Dk (aQ 256 0) i)
theorem Fw {i:Nat} (h:i≤256):(kZ i).length=688:=Bp (bf _ _) iM (by rw[jY _ _ (by rw[bf]; omega),bf])
def i7 (key:List UInt8) (n k:Nat):List UInt8:=br key n++(jd (br key n) n).take k++aQ (160-4*n-k) 0
def dM (key:List UInt8) (n k:Nat):List UInt8:=mB (i7 key n k) kq qN
theorem nK {key:List UInt8} (h:key.length=16) {n k:Nat} (hk:k≤4) (hn:4*n+k≤160):(i7 key n k).length=176:=by
  unfold i7; rw[abJ,abJ,jX h,abN,uu,bf]; omega
theorem As {key:List UInt8} (h:key.length=16) {n k j:Nat} (hj:j<16+4*n):(i7 key n k)[j]?=some ((br key n).getD j 0):=by
  unfold i7;rw[abV,acg (by rw[jX h]; exact hj)];exact db (by rw[jX h]; exact hj)
theorem RU (l:List UInt8) (n:Nat) {k:Nat} (hk:k<4):(jd l n)[k]?=some (ak (l.getD (4*n+k) 0) ((jD (l.drop (12+4*n)) n).getD k 0)):=by
  unfold jd; rw[acG,adr hk]; rfl
theorem HK {key:List UInt8} (h:key.length=16) {n k:Nat} (hk:k<4) (hn:4*n+k<160) :
    (i7 key n k).set (16+4*n+k) (ak ((br key n).getD (4*n+k) 0) ((jD ((br key n).drop (12+4*n)) n).getD k 0))=i7 key n (k+1):=by
  have hl:(br key n++(jd (br key n) n).take k).length=16+4*n+k:=by rw[abJ,jX h,abN,uu]; omega
  unfold i7;rw[adk _ _ (by omega),hl,Nat.sub_self];obtain⟨m,hm⟩:∃ m,160-4*n-k=m+1:=⟨160-4*n-k-1,by omega⟩
  rw[show 160-4*n-(k+1)=m by omega,hm];unfold aQ;rw[List.replicate_succ,List.set_cons_zero,adg,RU _ _ hk];simp
theorem HL (key:List UInt8) (n:Nat):i7 key n 4=i7 key (n+1) 0:=by
  unfold i7;rw[ac1,abP,br,abH (by rw[uu]; omega),show 160-4*n-4=160-4*(n+1)-0 by omega]
theorem To (key:List UInt8):i7 key 40 0=am key:=by
  unfold i7 aQ am; rw[show 160-4*40-0=0 from rfl,acO,abP,ac1,abP]
theorem ux {key:List UInt8} (h:key.length=16) {n k:Nat} (hk:k≤4) (hn:4*n+k≤160):(dM key n k).length=688:=Bp (nK h hk hn) iM JS
theorem Dl {l:List UInt8} {j:Nat} (x:UInt8) (h:j<l.length):List.take j l++[x]++List.drop (j+1) l=l.set j x:=by
  rw[List.set_eq_take_append_cons_drop,if_pos h,abV]; rfl
theorem tq (x:UInt8):bC x=C.d (bD x):=rfl
theorem CY (a b:List UInt8) (x:UInt8):a.map bC++[C.d (bD x)]++b.map bC=(a++[x]++b).map bC:=by rw[abT,abT]; rfl
def wZ (key:List UInt8) (n:Nat):St:=⟨aT [(2,.w (.c (.ptr 2 1 0 0))),(3,.w (.c (.ptr 1 1 0 0))),(5,.w (.c (.d (bD (fJ ((n+3) / 4)))))),(6,.w (.c (.d (.int .i64 ((16+4*n:Nat):Int)))))],hL [(1,.box ((dM key n 0).map bC)),(2,.box ((aQ 688 (0:UInt8)).map bC))],uL [1,2]⟩
def iG (key:List UInt8) (n:Nat):List UInt8:=jD ((br key n).drop (12+4*n)) n
theorem zO (key:List UInt8) (n:Nat):(iG key n).length=4:=by unfold iG jD; split <;> rfl
def qf (key:List UInt8) (n k:Nat):St:=⟨aT [(2,.w (.c (.ptr 2 1 0 0))),(3,.w (.c (.ptr 1 1 0 0))),(5,.w (.c (.d (bD (fJ ((n+4) / 4)))))),(6,.w (.c (.d (.int .i64 ((16+4*n:Nat):Int))))),(7,.w (.c (.pa 3 1))),(8,.w (.c (.d (.int .i64 (k:Int)))))],hL [(1,.box ((dM key n k).map bC)),(2,.box ((aQ 688 (0:UInt8)).map bC)),(3,.row 1 ((iG key n).map bD))],uL [1,2,3]⟩
def Ca (key:List UInt8) (i:Nat):St:=⟨aT [(0,.w (.c (.d (.sl (key.map bD))))),(2,.w (.c (.ptr 2 1 0 0))),(3,.w (.c (.ptr 1 1 0 0))),(4,.w (.c (.d (.int .i64 (i:Int)))))],hL [(1,.box ((kZ i).map bC)),(2,.box ((aQ 688 (0:UInt8)).map bC))],uL [1,2]⟩
def yU:aS := .seq (.seq (.reg [oM 11 4,oO 12 (.bin .lss (.t 11) (kI 256))]) (.cond (.t 12) (.skip) (.exit 0))) (.seq (.block 1 (.reg [oM 15 4,oM 16 4,oO 17 (.conv .u8 (.t 16)),oO 18 (.call 130 [(.t 17),(.k (.c (.d (.int .u8 2))))] none),oO 19 (.fieldAddr 432 (.t 3)),oO 20 (.idxPa 1 256 (.t 19) (.t 15)),oN (.store .sc (.t 20) (.t 18))])) (.reg [oM 13 4,oO 14 (.bin .add (.t 13) (kI 1)),oM 4 14]))
def re:aS := .seq (.seq (.reg [oM 78 8,oO 79 (.bin .lss (.t 78) (kI 4))]) (.cond (.t 79) (.skip) (.exit 4))) (.seq (.block 5 (.reg [oM 82 6,oM 83 8,oO 84 (.bin .add (.t 82) (.t 83)),oM 85 6,oO 86 (.bin .sub (.t 85) (kI 16)),oM 87 8,oO 88 (.bin .add (.t 86) (.t 87)),oO 89 (.fieldAddr 0 (.t 3)),oO 90 (.idxPa 1 176 (.t 89) (.t 88)),oO 91 (.load .sc (.t 90)),oM 92 8,oO 93 (.idxPa 1 4 (.t 7) (.t 92)),oO 94 (.load .sc (.t 93)),oO 95 (.bin .xor (.t 91) (.t 94)),oO 96 (.fieldAddr 0 (.t 3)),oO 97 (.idxPa 1 176 (.t 96) (.t 84)),oN (.store .sc (.t 97) (.t 95))])) (.reg [oM 80 8,oO 81 (.bin .add (.t 80) (kI 1)),oM 8 81]))
def uz:aS := .seq (.seq (.reg [oM 25 6,oO 26 (.bin .lss (.t 25) (kI 176))]) (.cond (.t 26) (.skip) (.exit 2))) (.seq (.block 3 (.seq (.reg [oM 29 6,oO 30 (.bin .sub (.t 29) (kI 4)),oO 31 (.fieldAddr 0 (.t 3)),oO 32 (.idxPa 1 176 (.t 31) (.t 30)),oO 33 (.load .sc (.t 32)),oM 34 6,oO 35 (.bin .sub (.t 34) (kI 3)),oO 36 (.fieldAddr 0 (.t 3)),oO 37 (.idxPa 1 176 (.t 36) (.t 35)),oO 38 (.load .sc (.t 37)),oM 39 6,oO 40 (.bin .sub (.t 39) (kI 2)),oO 41 (.fieldAddr 0 (.t 3)),oO 42 (.idxPa 1 176 (.t 41) (.t 40)),oO 43 (.load .sc (.t 42)),oM 44 6,oO 45 (.bin .sub (.t 44) (kI 1)),oO 46 (.fieldAddr 0 (.t 3)),oO 47 (.idxPa 1 176 (.t 46) (.t 45)),oO 48 (.load .sc (.t 47)),oO 49 (.build [(.d (.int .u8 0)),(.d (.int .u8 0)),(.d (.int .u8 0)),(.d (.int .u8 0))] [(0,1,(.t 33)),(1,1,(.t 38)),(2,1,(.t 43)),(3,1,(.t 48))]),
 oO 7 (.allocArr [(.int .u8 0),(.int .u8 0),(.int .u8 0),(.int .u8 0)]),oN (.store (.ag 4) (.t 7) (.t 49))]) (.seq (.seq (.reg [oM 50 6,oO 51 (.bin .rem (.t 50) (kI 16)),oO 52 (.bin .eql (.t 51) (kI 0))]) (.cond (.t 52) (.seq (.reg [oO 53 (.idxPa 1 4 (.t 7) (kI 1)),oO 54 (.load .sc (.t 53)),oO 55 (.fieldAddr 176 (.t 3)),oO 56 (.idxPa 1 256 (.t 55) (.t 54)),oO 57 (.load .sc (.t 56)),oM 58 5,oO 59 (.bin .xor (.t 57) (.t 58)),oO 60 (.idxPa 1 4 (.t 7) (kI 2)),oO 61 (.load .sc (.t 60)),oO 62 (.fieldAddr 176 (.t 3)),oO 63 (.idxPa 1 256 (.t 62) (.t 61)),oO 64 (.load .sc (.t 63)),oO 65 (.idxPa 1 4 (.t 7) (kI 3)),oO 66 (.load .sc (.t 65)),oO 67 (.fieldAddr 176 (.t 3)),oO 68 (.idxPa 1 256 (.t 67) (.t 66)),oO 69 (.load .sc (.t 68)),oO 70 (.idxPa 1 4 (.t 7) (kI 0)),oO 71 (.load .sc (.t 70)),oO 72 (.fieldAddr 176 (.t 3)),
 oO 73 (.idxPa 1 256 (.t 72) (.t 71)),oO 74 (.load .sc (.t 73)),oO 75 (.build [(.d (.int .u8 0)),(.d (.int .u8 0)),(.d (.int .u8 0)),(.d (.int .u8 0))] [(0,1,(.t 59)),(1,1,(.t 64)),(2,1,(.t 69)),(3,1,(.t 74))]),oN (.store (.ag 4) (.t 7) (.t 75))]) (.reg [oM 76 5,oO 77 (.call 130 [(.t 76),(.k (.c (.d (.int .u8 2))))] none),oM 5 77])) (.skip))) (.seq (.reg [oO 8 (.mv (kI 0))]) (.block 4 (.loop re)))))) (.reg [oM 27 6,oO 28 (.bin .add (.t 27) (kI 4)),oM 6 28]))
def JU:aG:=⟨1,99,.seq (.reg [oO 2 (.alloc (aQ 688 (.d (.int .u8 0))))]) (.seq (.reg [oO 9 (.call 129 [] none),oO 10 (.build (aQ 688 (.d (.int .u8 0))) [(176,256,(.t 9))]),oO 3 (.alloc (aQ 688 (.d (.int .u8 0)))),oN (.store (.ag 688) (.t 3) (.t 10))]) (.seq (.seq (.reg [oO 4 (.mv (kI 0))]) (.block 0 (.loop yU))) (.seq (.reg [oO 21 (.fieldAddr 0 (.t 3)),oO 22 (.sliceArr 1 176 (.t 21) none none),oM 23 0,oO 24 (.copy 1 (.t 22) (.t 23))]) (.seq (.reg [oO 5 (.mv (.k (.c (.d (.int .u8 1)))))]) (.seq (.seq (.reg [oO 6 (.mv (kI 16))]) (.block 2 (.loop uz))) (.seq (.reg [oO 98 (.load (.ag 688) (.t 3)),oN (.store (.ag 688) (.t 2) (.t 98))]) (.ret))))))),[(2,(some (.ag 688)))]⟩
theorem UZ:aF Tryz.prog { own:=[],comp:=[],frz:=[],nils:=[] } Tryz.f110=some JU:=by kernel_rfl
set_option maxRecDepth 20000 in
set_option maxHeartbeats 6400000 in
theorem Bq (G:ah) (key:List UInt8) (h:key.length=16):aB Tryz.prog G 110 [.sl (key.map bD)] (.w (.c (.d (.agg ((dd key).map bD))))):=by
  refine aI Tryz.func110 UZ rfl rfl ?_;simp only[JU,af,ae,aa,seval,iteOmega,toNatUp];have q0:List.take 176 (aQ 688 (0:UInt8))++kq++List.drop 432 (aQ 688 (0:UInt8))=kZ 0:=by
    unfold kZ mB; rw[kH]; unfold aQ; rw[List.take_replicate,List.drop_replicate]; rfl
  have r1:(List.take 176 (aQ 688 (0:UInt8))).length=176:=by rw[abN,bf]; rfl
  have r2:(List.drop 432 (aQ 688 (0:UInt8))).length=256:=by rw[abO,bf]
  have r4:List.drop 688 (aQ 688 (0:UInt8))=[]:=acw (by rw[bf]; omega);have q0l:=Fw (abM 256);refine sC (Xy G) ?_;simp only[rN,cy,bf,iM,bw,eS,jC,ic,iy,r1,r2,r4,q0,q0l,abP,ae,aa,seval,iteOmega,toNatUp];refine ba (Ca key) (fun i=>256-i) (fun i=>i≤256) 0 (abM _) ?_ ?_
  ·refine ap (fun i=>if i=1 then 24 else 16) ?_ ?_ rfl (by simp[V.ids,W.ids,C.ids,Ob.ids,cb]) <;> simp only[wx,aj,ar,aa,seval,iteOmega,toNatUp,fq,cb]
  ·intro i hi;have hl:=Fw hi;by_cases hlt:i<256
   ·have h1:UInt8.ofNat i*1=UInt8.ofNat i:=by simp
    have hc:=wc G (UInt8.ofNat i) 2;rw[UY hlt] at hc;have hs:List.take (432+i) (kZ i)++[fu (UInt8.ofNat i) 2]++List.drop (432+i+1) (kZ i)=kZ (i+1):=by
      rw[Dl _ (by omega)];unfold kZ;rw[UW (bf _ _) iM]
      congr 1
      exact kJ Dk _ (by rw[bf]; exact hlt)
    simp only[yU,Ca,ae,aa,seval,iteOmega,toNatUp];refine sC (hc) ?_;simp only[cy,hl,bw,eS,CY,hs,ae,aa,seval,iteOmega,toNatUp];refine aU (i+1) (by omega) (by omega) (ap (fun i=>i) ?_ ?_ rfl (by simp[V.ids,W.ids,C.ids,Ob.ids,cb])) <;> simp only[wx,aj,ar,aa,seval,iteOmega,toNatUp,fq,cb]
   ·obtain rfl:i=256:=by omega
    have ht:key.take 176=key:=abH (by omega);have e0:key++List.drop 16 (kZ 256)=dM key 0 0:=by
      unfold kZ dM mB i7;rw[u4 _ _ (by rw[bf]; omega),abV,adp (by rw[bf]; decide)];unfold aQ;rw[List.drop_replicate,ac1,abP]
      show key++(_++_)=key++_++_++_
      simp only[abV];rfl
    simp only[yU,Ca,ae,aa,seval,iteOmega,toNatUp,cy,hl,h,ht,iO,jC,bw,eS,ic,e0];have hp0:=ux h (n:=0) (k:=0) (by decide) (by decide);refine ba (wZ key) (fun n=>40-n) (fun n=>n≤40) 0 (abM _) ?_ ?_
    ·refine ap (fun i=>i) ?_ ?_ rfl (by simp[V.ids,W.ids,C.ids,Ob.ids,cb]) <;> simp only[wx,aj,ar,aa,seval,iteOmega,toNatUp,fq,cb,PT,Dj]
    ·intro n hn;have hl2:=ux h (n:=n) (k:=0) (by decide) (by omega);by_cases hlt2:n<40
     ·have old:∀ j,j<16+4*n→(dM key n 0)[j]?=some ((br key n).getD j 0):=fun j hj=>by
        unfold dM;rw[vB (nK h (by decide) (by omega)) iM (by omega),As h hj]
      have o0:=old (12+4*n) (by omega);have o1:=old (13+4*n) (by omega);have o2:=old (14+4*n) (by omega);have o3:=old (15+4*n) (by omega);have e0:16+4*n-4=12+4*n:=by omega
      have e1:16+4*n-3=13+4*n:=by omega
      have e2:16+4*n-2=14+4*n:=by omega
      have e3:16+4*n-1=15+4*n:=by omega
      have htl0:=zO key n;have tm:Int.tmod (16+4*(n:Int)) 16=(((16+4*n)%16:Nat):Int):=jE (16+4*n) 16;by_cases hm:n%4=0
      ·have m16:(16+4*n)%16=0:=by omega
       rw[m16] at tm;have ecn:(n+3) / 4=n / 4:=by omega
       have box:∀ x:UInt8,(dM key n 0)[176+x.toNat]?=some (dA x):=fun x=>by
         unfold dM;rw[JQ (nK h (by decide) (by omega)) iM (fH x)]; exact zI x
       have hT:[bD (ak (dA ((br key n).getD (13+4*n) 0)) (fJ (n / 4))),bD (dA ((br key n).getD (14+4*n) 0)),bD (dA ((br key n).getD (15+4*n) 0)),bD (dA ((br key n).getD (12+4*n) 0))]=(iG key n).map bD:=by
         unfold iG jD;rw[if_pos hm];have g:∀ j,((br key n).drop (12+4*n)).getD j 0=(br key n).getD (12+4*n+j) 0:=fun j=>by simp[abI]
         simp only[g,abK,abS];rw[show 12+4*n+1=13+4*n by omega,show 12+4*n+2=14+4*n by omega,show 12+4*n+3=15+4*n by omega];rfl
       have l0:=fH ((br key n).getD (12+4*n) 0);have l1:=fH ((br key n).getD (13+4*n) 0);have l2:=fH ((br key n).getD (14+4*n) 0);have l3:=fH ((br key n).getD (15+4*n) 0);have b0:=box ((br key n).getD (12+4*n) 0);have b1:=box ((br key n).getD (13+4*n) 0);have b2:=box ((br key n).getD (14+4*n) 0);have b3:=box ((br key n).getD (15+4*n) 0);have x0:=dv (dA ((br key n).getD (13+4*n) 0)) (fJ (n / 4));have cs:=RP (n / 4);have ec4:(n+4) / 4=n / 4+1:=by omega
       simp only[uz,wZ,ecn,ae,aa,seval,iteOmega,toNatUp,cy,hl2,aD,e0,e1,e2,e3,o0,o1,o2,o3,tq,tm,b0,b1,b2,b3,x0,hT,htl0];refine sC (wc G (fJ (n / 4)) 2) ?_;simp only[cs,ae,aa,seval,iteOmega,toNatUp];refine ba (qf key n) (fun k=>4-k) (fun k=>k≤4) 0 (abM _) ?_ ?_
       ·refine ap (fun i=>if i=3 then 56 else i) ?_ ?_ rfl (by simp[V.ids,W.ids,C.ids,Ob.ids,cb]) <;> simp only[wx,aj,ar,aa,seval,iteOmega,toNatUp,fq,cb,ec4]
       ·intro k hk;have hl3:=ux h (n:=n) (k:=k) hk (by omega);have htl:=zO key n;by_cases hlt3:k<4
        ·have p1:(dM key n k)[4*n+k]?=some ((br key n).getD (4*n+k) 0):=by
           unfold dM;rw[vB (nK h hk (by omega)) iM (by omega),As h (by omega)]
         have p2:(iG key n)[k]?=some ((iG key n).getD k 0):=db (by omega);have x1:=dv ((br key n).getD (4*n+k) 0) ((iG key n).getD k 0);have e4:16+4*n-16+k=4*n+k:=by omega
         have hs:List.take (16+4*n+k) (dM key n k)++[ak ((br key n).getD (4*n+k) 0) ((iG key n).getD k 0)]++List.drop (16+4*n+k+1) (dM key n k)=dM key n (k+1):=by
           rw[Dl _ (by omega)];unfold dM;rw[JR (nK h hk (by omega)) iM (by omega)]
           congr 1
           exact HK h hlt3 (by omega)
         simp only[re,qf,ae,aa,seval,iteOmega,toNatUp,cy,hl3,htl,aD,e4,p1,p2,tq,x1,bw,eS,CY,hs];refine aU (k+1) (by omega) (by omega) (ap (fun i=>i) ?_ ?_ rfl (by simp[V.ids,W.ids,C.ids,Ob.ids,cb])) <;> simp only[wx,aj,ar,aa,seval,iteOmega,toNatUp,fq,cb]
        ·obtain rfl:k=4:=by omega
         have e5:dM key n 4=dM key (n+1) 0:=by unfold dM; rw[HL]
         have e6:(n+4) / 4=(n+1+3) / 4:=by omega
         simp only[re,qf,e5,e6,ae,aa,seval,iteOmega,toNatUp];refine aU (n+1) (by omega) (by omega) (ap (fun i=>i) ?_ ?_ rfl (by simp[V.ids,W.ids,C.ids,Ob.ids,cb])) <;> simp only[wx,aj,ar,aa,seval,iteOmega,toNatUp,fq,cb]
         all_goals rw[show (16+4*(n:Int)+4)=16+4*((n:Int)+1) by omega]
      ·have m16:(16+4*n)%16≠0:=by omega
       have hb16:(16+4*n)%16<16:=acH _ (by decide);generalize (16+4*n)%16=z at *
       have hT:[bD ((br key n).getD (12+4*n) 0),bD ((br key n).getD (13+4*n) 0),bD ((br key n).getD (14+4*n) 0),bD ((br key n).getD (15+4*n) 0)]=(iG key n).map bD:=by
         unfold iG jD;rw[if_neg hm];have g:∀ j,((br key n).drop (12+4*n)).getD j 0=(br key n).getD (12+4*n+j) 0:=fun j=>by simp[abI]
         simp only[g,abK,abS];rw[show 12+4*n+1=13+4*n by omega,show 12+4*n+2=14+4*n by omega,show 12+4*n+3=15+4*n by omega];rfl
       have ecn:(n+3) / 4=(n+4) / 4:=by omega
       simp only[uz,wZ,ecn,ae,aa,seval,iteOmega,toNatUp,cy,hl2,aD,e0,e1,e2,e3,o0,o1,o2,o3,tq,tm,hT,htl0];refine ba (qf key n) (fun k=>4-k) (fun k=>k≤4) 0 (abM _) ?_ ?_
       ·refine ap (fun i=>if i=3 then 56 else i) ?_ ?_ rfl (by simp[V.ids,W.ids,C.ids,Ob.ids,cb]) <;> simp only[wx,aj,ar,aa,seval,iteOmega,toNatUp,fq,cb]
       ·intro k hk;have hl3:=ux h (n:=n) (k:=k) hk (by omega);have htl:=zO key n;by_cases hlt3:k<4
        ·have p1:(dM key n k)[4*n+k]?=some ((br key n).getD (4*n+k) 0):=by
           unfold dM;rw[vB (nK h hk (by omega)) iM (by omega),As h (by omega)]
         have p2:(iG key n)[k]?=some ((iG key n).getD k 0):=db (by omega);have x1:=dv ((br key n).getD (4*n+k) 0) ((iG key n).getD k 0);have e4:16+4*n-16+k=4*n+k:=by omega
         have hs:List.take (16+4*n+k) (dM key n k)++[ak ((br key n).getD (4*n+k) 0) ((iG key n).getD k 0)]++List.drop (16+4*n+k+1) (dM key n k)=dM key n (k+1):=by
           rw[Dl _ (by omega)];unfold dM;rw[JR (nK h hk (by omega)) iM (by omega)]
           congr 1
           exact HK h hlt3 (by omega)
         simp only[re,qf,ae,aa,seval,iteOmega,toNatUp,cy,hl3,htl,aD,e4,p1,p2,tq,x1,bw,eS,CY,hs];refine aU (k+1) (by omega) (by omega) (ap (fun i=>i) ?_ ?_ rfl (by simp[V.ids,W.ids,C.ids,Ob.ids,cb])) <;> simp only[wx,aj,ar,aa,seval,iteOmega,toNatUp,fq,cb]
        ·obtain rfl:k=4:=by omega
         have e5:dM key n 4=dM key (n+1) 0:=by unfold dM; rw[HL]
         have e6:(n+4) / 4=(n+1+3) / 4:=by omega
         simp only[re,qf,e5,e6,ae,aa,seval,iteOmega,toNatUp];refine aU (n+1) (by omega) (by omega) (ap (fun i=>i) ?_ ?_ rfl (by simp[V.ids,W.ids,C.ids,Ob.ids,cb])) <;> simp only[wx,aj,ar,aa,seval,iteOmega,toNatUp,fq,cb]
         all_goals rw[show (16+4*(n:Int)+4)=16+4*((n:Int)+1) by omega]
     ·obtain rfl:n=40:=by omega
      have e:dM key 40 0=dd key:=by unfold dM dd; rw[To]
      rw[e] at hl2;have u1:List.take 688 (dd key)=dd key:=abH (by omega);have r4:List.drop 688 (aQ 688 (0:UInt8))=[]:=acw (by rw[bf]; omega);have r5:dd key++List.drop (dd key).length (aQ 688 (0:UInt8))=dd key:=by rw[hl2,r4,abP]
      simp only[uz,wZ,e,ae,aa,seval,iteOmega,toNatUp,cy,hl2,u1,r4,r5,iy,jC,bf,bw,eS,ic,abP];exact pI (by simp only[ae,aa,seval,iteOmega,toNatUp,cy,hl2,u1,r4,r5,iy,jC,bf,bw,eS,ic,abP])
theorem uA {key:List UInt8} (h:key.length=16):(dd key).length=688:=Bp (rQ h) iM JS
def Cb (key b:List UInt8) (i:Nat):St:=⟨aT [(1,.w (.c (.d (.sl (b.map bD))))),(2,.w (.c (.rp ((dd key).map bD)))),(5,.w (.c (.pa 1 1))),(6,.w (.c (.d (.int .i64 (i:Int)))))],hL [(1,.row 1 ((bo (eD (aO b) (cz (am key) 0)) (aQ 16 (0:UInt8)) i).map bD))],uL [1]⟩
def Cc (key b:List UInt8) (n:Nat):St:=⟨aT [(2,.w (.c (.rp ((dd key).map bD)))),(5,.w (.c (.pa 1 1))),(7,.w (.c (.d (.int .i64 ((n+1:Nat):Int)))))],hL [(1,.row 1 ((bM (gC (cz (am key)) (aO b) n)).map bD))],uL [1]⟩
def Cd (key s:List UInt8) (n c:Nat):St:=⟨aT [(2,.w (.c (.rp ((dd key).map bD)))),(5,.w (.c (.pa 1 1))),(7,.w (.c (.d (.int .i64 ((n+1:Nat):Int))))),(8,.w (.c (.pa 2 1))),(9,.w (.c (.d (.int .i64 (c:Int)))))],hL [(1,.row 1 (s.map bD)),(2,.row 1 ((bo (cc (aO s)) (aQ 16 (0:UInt8)) (4*c)).map bD))],uL [1,2]⟩
def Ce (key s:List UInt8) (n c r:Nat):St:=⟨aT [(2,.w (.c (.rp ((dd key).map bD)))),(5,.w (.c (.pa 1 1))),(7,.w (.c (.d (.int .i64 ((n+1:Nat):Int))))),(8,.w (.c (.pa 2 1))),(9,.w (.c (.d (.int .i64 (c:Int))))),(10,.w (.c (.d (.int .i64 (r:Int)))))],hL [(1,.row 1 (s.map bD)),(2,.row 1 ((bo (cc (aO s)) (aQ 16 (0:UInt8)) (4*c+r)).map bD))],uL [1,2]⟩
def jH (key s:List UInt8) (n:Nat):dQ:=lY (cz (am key)) (aO s) (n+1)
def Cf (key s:List UInt8) (n c:Nat):St:=⟨aT [(2,.w (.c (.rp ((dd key).map bD)))),(5,.w (.c (.pa 1 1))),(7,.w (.c (.d (.int .i64 ((n+1:Nat):Int))))),(8,.w (.c (.pa 2 1))),(11,.w (.c (.d (.int .i64 (c:Int)))))],hL [(1,.row 1 ((bo (jH key s n) s (4*c)).map bD)),(2,.row 1 ((iE s).map bD))],uL [1,2]⟩
def xa (key s:List UInt8) (n c r:Nat):St:=⟨aT [(2,.w (.c (.rp ((dd key).map bD)))),(5,.w (.c (.pa 1 1))),(7,.w (.c (.d (.int .i64 ((n+1:Nat):Int))))),(8,.w (.c (.pa 2 1))),(11,.w (.c (.d (.int .i64 (c:Int))))),(12,.w (.c (.pa 3 1))),(13,.w (.c (.d (.int .i64 (r:Int)))))],hL [(1,.row 1 ((bo (jH key s n) s (4*c+r)).map bD)),(2,.row 1 ((iE s).map bD)),(3,.row 1 ((((iE s).drop (4*c)).take 4).map bD))],uL [1,2,3]⟩
theorem U0 (k:Nat→dQ) (f:dQ) (n:Nat):bM (lY k (aO (bM f)) (n+1))=bM (lY k f (n+1)):=uv fun j hj=>by
  unfold lY;split
  ·unfold eD ig cc;rw[jz f _ (by omega),jz f _ (by omega),jz f _ (by omega),jz f _ (by omega)]
  ·unfold eD cc;rw[jz f _ (by omega)]
def yV:aS := .seq (.seq (.reg [oM 15 6,oO 16 (.bin .lss (.t 15) (kI 16))]) (.cond (.t 16) (.skip) (.exit 0))) (.seq (.block 1 (.reg [oM 19 6,oM 20 1,oM 21 6,oO 22 (.idxSl 1 (.t 20) (.t 21)),oO 23 (.load .sc (.t 22)),oM 24 6,oO 25 (.fieldAddr 0 (.t 2)),oO 26 (.idxPa 1 176 (.t 25) (.t 24)),oO 27 (.load .sc (.t 26)),oO 28 (.bin .xor (.t 23) (.t 27)),oO 29 (.idxPa 1 16 (.t 5) (.t 19)),oN (.store .sc (.t 29) (.t 28))])) (.reg [oM 17 6,oO 18 (.bin .add (.t 17) (kI 1)),oM 6 18]))
def yW:aS := .seq (.seq (.reg [oM 38 10,oO 39 (.bin .lss (.t 38) (kI 4))]) (.cond (.t 39) (.skip) (.exit 6))) (.seq (.block 7 (.reg [oM 42 10,oM 43 9,oO 44 (.bin .mul (kI 4) (.t 43)),oO 45 (.bin .add (.t 42) (.t 44)),oM 46 10,oM 47 9,oM 48 10,oO 49 (.bin .add (.t 47) (.t 48)),oO 50 (.bin .rem (.t 49) (kI 4)),oO 51 (.bin .mul (kI 4) (.t 50)),oO 52 (.bin .add (.t 46) (.t 51)),oO 53 (.idxPa 1 16 (.t 5) (.t 52)),oO 54 (.load .sc (.t 53)),oO 55 (.fieldAddr 176 (.t 2)),oO 56 (.idxPa 1 256 (.t 55) (.t 54)),oO 57 (.load .sc (.t 56)),oO 58 (.idxPa 1 16 (.t 8) (.t 45)),oN (.store .sc (.t 58) (.t 57))])) (.reg [oM 40 10,oO 41 (.bin .add (.t 40) (kI 1)),oM 10 41]))
def yX:aS := .seq (.seq (.reg [oM 34 9,oO 35 (.bin .lss (.t 34) (kI 4))]) (.cond (.t 35) (.skip) (.exit 4))) (.seq (.block 5 (.seq (.reg [oO 10 (.mv (kI 0))]) (.block 6 (.loop yW)))) (.reg [oM 36 9,oO 37 (.bin .add (.t 36) (kI 1)),oM 9 37]))
def uB:aS := .seq (.seq (.reg [oM 83 13,oO 84 (.bin .lss (.t 83) (kI 4))]) (.cond (.t 84) (.skip) (.exit 10))) (.seq (.block 11 (.seq (.reg [oM 87 13,oO 88 (.idxPa 1 4 (.t 12) (.t 87)),oO 89 (.load .sc (.t 88)),oM 14 89]) (.seq (.seq (.reg [oM 90 7,oO 91 (.bin .lss (.t 90) (kI 10))]) (.cond (.t 91) (.reg [oM 92 13,oO 93 (.idxPa 1 4 (.t 12) (.t 92)),oO 94 (.load .sc (.t 93)),oO 95 (.fieldAddr 432 (.t 2)),oO 96 (.idxPa 1 256 (.t 95) (.t 94)),oO 97 (.load .sc (.t 96)),oM 98 13,oO 99 (.bin .add (.t 98) (kI 1)),oO 100 (.bin .rem (.t 99) (kI 4)),oO 101 (.idxPa 1 4 (.t 12) (.t 100)),oO 102 (.load .sc (.t 101)),oO 103 (.fieldAddr 432 (.t 2)),oO 104 (.idxPa 1 256 (.t 103) (.t 102)),oO 105 (.load .sc (.t 104)),oO 106 (.bin .xor (.t 97) (.t 105)),oM 107 13,oO 108 (.bin .add (.t 107) (kI 1)),
 oO 109 (.bin .rem (.t 108) (kI 4)),oO 110 (.idxPa 1 4 (.t 12) (.t 109)),oO 111 (.load .sc (.t 110)),oO 112 (.bin .xor (.t 106) (.t 111)),oM 113 13,oO 114 (.bin .add (.t 113) (kI 2)),oO 115 (.bin .rem (.t 114) (kI 4)),oO 116 (.idxPa 1 4 (.t 12) (.t 115)),oO 117 (.load .sc (.t 116)),oO 118 (.bin .xor (.t 112) (.t 117)),oM 119 13,oO 120 (.bin .add (.t 119) (kI 3)),oO 121 (.bin .rem (.t 120) (kI 4)),oO 122 (.idxPa 1 4 (.t 12) (.t 121)),oO 123 (.load .sc (.t 122)),oO 124 (.bin .xor (.t 118) (.t 123)),oM 14 124]) (.skip))) (.reg [oM 125 13,oM 126 11,oO 127 (.bin .mul (kI 4) (.t 126)),oO 128 (.bin .add (.t 125) (.t 127)),oM 129 14,oM 130 7,oO 131 (.bin .mul (kI 16) (.t 130)),oM 132 13,oO 133 (.bin .add (.t 131) (.t 132)),oM 134 11,oO 135 (.bin .mul (kI 4) (.t 134)),oO 136 (.bin .add (.t 133) (.t 135)),
 oO 137 (.fieldAddr 0 (.t 2)),oO 138 (.idxPa 1 176 (.t 137) (.t 136)),oO 139 (.load .sc (.t 138)),oO 140 (.bin .xor (.t 129) (.t 139)),oO 141 (.idxPa 1 16 (.t 5) (.t 128)),oN (.store .sc (.t 141) (.t 140))])))) (.reg [oM 85 13,oO 86 (.bin .add (.t 85) (kI 1)),oM 13 86]))
def yY:aS := .seq (.seq (.reg [oM 59 11,oO 60 (.bin .lss (.t 59) (kI 4))]) (.cond (.t 60) (.skip) (.exit 8))) (.seq (.block 9 (.seq (.reg [oM 63 11,oO 64 (.bin .mul (kI 4) (.t 63)),oO 65 (.idxPa 1 16 (.t 8) (.t 64)),oO 66 (.load .sc (.t 65)),oM 67 11,oO 68 (.bin .mul (kI 4) (.t 67)),oO 69 (.bin .add (.t 68) (kI 1)),oO 70 (.idxPa 1 16 (.t 8) (.t 69)),oO 71 (.load .sc (.t 70)),oM 72 11,oO 73 (.bin .mul (kI 4) (.t 72)),oO 74 (.bin .add (.t 73) (kI 2)),oO 75 (.idxPa 1 16 (.t 8) (.t 74)),oO 76 (.load .sc (.t 75)),oM 77 11,oO 78 (.bin .mul (kI 4) (.t 77)),oO 79 (.bin .add (.t 78) (kI 3)),oO 80 (.idxPa 1 16 (.t 8) (.t 79)),oO 81 (.load .sc (.t 80)),oO 82 (.build [(.d (.int .u8 0)),(.d (.int .u8 0)),(.d (.int .u8 0)),(.d (.int .u8 0))] [(0,1,(.t 66)),(1,1,(.t 71)),(2,1,(.t 76)),(3,1,(.t 81))]),
 oO 12 (.allocArr [(.int .u8 0),(.int .u8 0),(.int .u8 0),(.int .u8 0)]),oN (.store (.ag 4) (.t 12) (.t 82))]) (.seq (.reg [oO 13 (.mv (kI 0))]) (.block 10 (.loop uB))))) (.reg [oM 61 11,oO 62 (.bin .add (.t 61) (kI 1)),oM 11 62]))
def yZ:aS := .seq (.seq (.reg [oM 30 7,oO 31 (.bin .leq (.t 30) (kI 10))]) (.cond (.t 31) (.skip) (.exit 2))) (.seq (.block 3 (.seq (.reg [oO 8 (.allocArr [(.int .u8 0),(.int .u8 0),(.int .u8 0),(.int .u8 0),(.int .u8 0),(.int .u8 0),(.int .u8 0),(.int .u8 0),(.int .u8 0),(.int .u8 0),(.int .u8 0),(.int .u8 0),(.int .u8 0),(.int .u8 0),(.int .u8 0),(.int .u8 0)])]) (.seq (.seq (.reg [oO 9 (.mv (kI 0))]) (.block 4 (.loop yX))) (.seq (.reg [oO 11 (.mv (kI 0))]) (.block 8 (.loop yY)))))) (.reg [oM 32 7,oO 33 (.bin .add (.t 32) (kI 1)),oM 7 33]))
def JV:aG:=⟨2,145,.seq (.reg [oO 2 (.box .roBox (.t 0)),oO 4 (.mv (.k (.c .nil)))]) (.seq (.reg [oO 5 (.allocArr [(.int .u8 0),(.int .u8 0),(.int .u8 0),(.int .u8 0),(.int .u8 0),(.int .u8 0),(.int .u8 0),(.int .u8 0),(.int .u8 0),(.int .u8 0),(.int .u8 0),(.int .u8 0),(.int .u8 0),(.int .u8 0),(.int .u8 0),(.int .u8 0)])]) (.seq (.seq (.reg [oO 6 (.mv (kI 0))]) (.block 0 (.loop yV))) (.seq (.seq (.reg [oO 7 (.mv (kI 1))]) (.block 2 (.loop yZ))) (.seq (.reg [oO 142 (.bldSl false 0 1 (.int .u8 0) []),oO 143 (.sliceArr 1 16 (.t 5) none none),oO 144 (.appN false 1 1 (.t 142) (.t 143)),oM 4 144]) (.ret))))),[(4,none)]⟩
theorem U1:aF Tryz.prog { own:=[],comp:=[],frz:=[],nils:=[144] } Tryz.f111=some JV:=by kernel_rfl
set_option maxRecDepth 20000 in
set_option maxHeartbeats 6400000 in
theorem sy (G:ah) (key b:List UInt8) (h:key.length=16) (hb:b.length=16):aB Tryz.prog G 111 [.agg ((dd key).map bD),.sl (b.map bD)] (.w (.c (.fr 1 ((j8 key b).map bD)))):=by
  refine aI Tryz.func111 U1 rfl rfl ?_;have hM:=uA h;have hrk:=rQ h;have kat:∀ j,j<176→(((dd key).drop j).take 1)[0]?=some ((am key).getD j 0):=fun j hj=>by
    rw[ab6,if_pos (by decide),ach];unfold dd;rw[vB hrk iM (by omega),db (by omega)]; rfl
  have bat:∀ x:UInt8,((((dd key).drop 176).drop x.toNat).take 1)[0]?=some (dA x):=fun x=>by
    rw[ab6,if_pos (by decide),ach,ach];unfold dd;rw[acD,JQ hrk iM (fH x)]; exact zI x
  have tat:∀ x:UInt8,((((dd key).drop 432).drop x.toNat).take 1)[0]?=some (hO x):=fun x=>by
    rw[ab6,if_pos (by decide),ach,ach];unfold dd;rw[acD,UV hrk iM]; exact UX x
  simp only[JV,af,ae,aa,seval,iteOmega,toNatUp,eX,zN];refine ba (Cb key b) (fun i=>16-i) (fun i=>i≤16) 0 (abM _) ?_ ?_
  ·refine ap (fun i=>40) ?_ ?_ rfl rfl <;> simp only[wx,aj,ar,aa,seval,iteOmega,toNatUp,kH]
  ·intro i hi;have hl:(bo (eD (aO b) (cz (am key) 0)) (aQ 16 (0:UInt8)) i).length=16:=by rw[jY _ _ (by rw[bf]; omega),bf]
   by_cases hlt:i<16
   ·have g1:b[i]?=some (b.getD i 0):=db (by omega);have g2:=kat i (by omega);have x1:=dv (b.getD i 0) ((am key).getD i 0);have h3:i<(bo (eD (aO b) (cz (am key) 0)) (aQ 16 (0:UInt8)) i).length:=by omega
    have h5:(bo (eD (aO b) (cz (am key) 0)) (aQ 16 (0:UInt8)) i).set i (ak (b.getD i 0) ((am key).getD i 0))=bo (eD (aO b) (cz (am key) 0)) (aQ 16 (0:UInt8)) (i+1):=by
      rw[← kJ (eD (aO b) (cz (am key) 0)) (aQ 16 (0:UInt8)) (by rw[bf]; omega)];unfold eD cz aO;rw[ady,acR]
    simp only[yV,Cb,ae,aa,seval,iteOmega,toNatUp,cy,hM,aD,bw,eS,g1,g2,x1,eo h3 (d8 _),ft,h5,hl];refine aU (i+1) (by omega) (by omega) (ap (fun i=>i) ?_ ?_ rfl rfl) <;> simp only[wx,aj,ar,aa,seval,iteOmega,toNatUp]
   ·obtain rfl:i=16:=by omega
    have e:bo (eD (aO b) (cz (am key) 0)) (aQ 16 (0:UInt8)) 16=bM (gC (cz (am key)) (aO b) 0):=nJ _ (bf _ _);simp only[yV,Cb,e,ae,aa,seval,iteOmega,toNatUp];refine ba (Cc key b) (fun n=>10-n) (fun n=>n≤10) 0 (abM _) ?_ ?_
    ·refine ap (fun i=>i) ?_ ?_ rfl rfl <;> simp only[wx,aj,ar,aa,seval,iteOmega,toNatUp]
    ·intro n hn;by_cases hlt2:n<10
     ·simp only[yZ,Cc,ae,aa,seval,iteOmega,toNatUp,eX];have hs:(bM (gC (cz (am key)) (aO b) n)).length=16:=gR _;have hnext:bM (jH key (bM (gC (cz (am key)) (aO b) n)) n)=bM (gC (cz (am key)) (aO b) (n+1)):=U0 _ _ _;generalize bM (gC (cz (am key)) (aO b) n)=s at *
      refine ba (Cd key s n) (fun c=>4-c) (fun c=>c≤4) 0 (abM _) ?_ ?_
      ·refine ap (fun i=>if i=1 then 1 else 64) ?_ ?_ rfl rfl <;> simp only[wx,aj,ar,aa,seval,iteOmega,toNatUp,kH]
      ·intro c hc;by_cases hlt3:c<4
       ·simp only[yX,Cd,ae,aa,seval,iteOmega,toNatUp];refine ba (Ce key s n c) (fun r=>4-r) (fun r=>r≤4) 0 (abM _) ?_ ?_
        ·refine ap (fun i=>i) ?_ ?_ rfl rfl <;> simp only[wx,aj,ar,aa,seval,iteOmega,toNatUp,acD]
        ·intro r hr;by_cases hlt4:r<4
         ·have hl:(bo (cc (aO s)) (aQ 16 (0:UInt8)) (4*c+r)).length=16:=by rw[jY _ _ (by rw[bf]; omega),bf]
          have t1:Int.tmod ((c:Int)+(r:Int)) 4=(((c+r)%4:Nat):Int):=jE (c+r) 4;have hm:(c+r)%4<4:=acH _ (by decide);have g1:s[r+4*((c+r)%4)]?=some (aO s (r+4*((c+r)%4))):=db (by omega);have eidx:r+4*c=4*c+r:=by omega
          have h3:4*c+r<(bo (cc (aO s)) (aQ 16 (0:UInt8)) (4*c+r)).length:=by omega
          have hsh:cc (aO s) (4*c+r)=dA (aO s (r+4*((c+r)%4))):=by
            unfold cc;rw[show (4*c+r)%4=r by omega,show (4*c+r) / 4=c by omega]
          have h5:=kJ (cc (aO s)) (aQ 16 (0:UInt8)) (i:=4*c+r) (by rw[bf]; omega);rw[hsh] at h5;have b1:=bat (aO s (r+4*((c+r)%4)));have hx:=fH (aO s (r+4*((c+r)%4)));generalize (c+r)%4=q at *
          generalize aO s (r+4*q)=x at *
          simp only[yW,Ce,ae,aa,seval,iteOmega,toNatUp,t1,hs,aD,g1,bw,eS,b1,eidx,eo h3 (d8 _),ft,h5,hl];refine aU (r+1) (by omega) (by omega) (ap (fun i=>i) ?_ ?_ rfl rfl) <;> simp only[wx,aj,ar,aa,seval,iteOmega,toNatUp,ac0]
         ·obtain rfl:r=4:=by omega
          have e4:4*c+4=4*(c+1):=by omega
          simp only[yW,Ce,e4,ae,aa,seval,iteOmega,toNatUp];refine aU (c+1) (by omega) (by omega) (ap (fun i=>i) ?_ ?_ rfl rfl) <;> simp only[wx,aj,ar,aa,seval,iteOmega,toNatUp]
       ·obtain rfl:c=4:=by omega
        have e:bo (cc (aO s)) (aQ 16 (0:UInt8)) (4*4)=iE s:=nJ _ (bf _ _);simp only[yX,Cd,e,ae,aa,seval,iteOmega,toNatUp];refine ba (Cf key s n) (fun c=>4-c) (fun c=>c≤4) 0 (abM _) ?_ ?_
        ·refine ap (fun i=>i) ?_ ?_ rfl rfl <;> simp only[wx,aj,ar,aa,seval,iteOmega,toNatUp,kH,ady]
        ·intro c hc;have hsl:=u5 s;have sat:∀ j,j<16→(iE s)[j]?=some (cc (aO s) j):=fun j hj=>rR _ hj
         by_cases hlt3:c<4
         ·have a0:=sat (4*c) (by omega);have a1:=sat (4*c+1) (by omega);have a2:=sat (4*c+2) (by omega);have a3:=sat (4*c+3) (by omega);have hcol:∀ j,j<4→(((iE s).drop (4*c)).take 4)[j]?=some (cc (aO s) (4*c+j)):=fun j hj=>by
            rw[ab6,if_pos hj,ach]; exact sat _ (by omega)
          have hcl:(((iE s).drop (4*c)).take 4).length=4:=by rw[abN,abO]; omega
          have hA:[bD (cc (aO s) (4*c)),bD (cc (aO s) (4*c+1)),bD (cc (aO s) (4*c+2)),bD (cc (aO s) (4*c+3))]=(((iE s).drop (4*c)).take 4).map bD:=by
            have:((iE s).drop (4*c)).take 4=[cc (aO s) (4*c),cc (aO s) (4*c+1),cc (aO s) (4*c+2),cc (aO s) (4*c+3)]:=by
              apply ac3;intro j;rcases ab1 j 4 with hj | hj
              ·rw[hcol j hj];rcases j with _ | _ | _ | _ | j <;> first | rfl | omega
              ·rw[acr (by omega),acr (by simpa using hj)]
            rw[this]; rfl
          simp only[yY,Cf,ae,aa,seval,iteOmega,toNatUp,aD,hsl,a0,a1,a2,a3,tq,hA,hcl];refine ba (xa key s n c) (fun r=>4-r) (fun r=>r≤4) 0 (abM _) ?_ ?_
          ·refine ap (fun i=>if i=3 then 96 else i) ?_ ?_ rfl rfl <;> simp only[wx,aj,ar,aa,seval,iteOmega,toNatUp,acD]
          ·intro r hr;by_cases hlt4:r<4
           ·have hl:(bo (jH key s n) s (4*c+r)).length=16:=by rw[jY _ _ (by omega)]; exact hs
            have t1:Int.tmod ((r:Int)+1) 4=(((r+1)%4:Nat):Int):=jE (r+1) 4;have t2:Int.tmod ((r:Int)+2) 4=(((r+2)%4:Nat):Int):=jE (r+2) 4;have t3:Int.tmod ((r:Int)+3) 4=(((r+3)%4:Nat):Int):=jE (r+3) 4;have b1:(r+1)%4<4:=acH _ (by decide);have b2:(r+2)%4<4:=acH _ (by decide);have b3:(r+3)%4<4:=acH _ (by decide);have c0:=hcol r hlt4;have c1:=hcol _ b1;have c2:=hcol _ b2;have c3:=hcol _ b3;have hk:=kat (16*(n+1)+r+4*c) (by omega);have eidx:r+4*c=4*c+r:=by omega
            have h3:4*c+r<(bo (jH key s n) s (4*c+r)).length:=by omega
            have h5:=kJ (jH key s n) s (i:=4*c+r) (by omega);by_cases hn9:n+1<10
            ·have hr2:jH key s n (4*c+r)=ak (qz (cc (aO s) (4*c+r)) (cc (aO s) (4*c+(r+1)%4)) (cc (aO s) (4*c+(r+2)%4)) (cc (aO s) (4*c+(r+3)%4))) ((am key).getD (16*(n+1)+r+4*c) 0):=by
               unfold jH lY;rw[if_pos hn9];unfold eD ig cz;rw[show (4*c+r) / 4=c by omega,show (4*c+r)%4=r by omega,show 16*(n+1)+(4*c+r)=16*(n+1)+r+4*c by omega]
             rw[hr2] at h5;unfold qz at h5;have w0:=tat (cc (aO s) (4*c+r));have w1:=tat (cc (aO s) (4*c+(r+1)%4));have l0:=fH (cc (aO s) (4*c+r));have l1:=fH (cc (aO s) (4*c+(r+1)%4));generalize (r+1)%4=r1 at *
             generalize (r+2)%4=r2 at *
             generalize (r+3)%4=r3 at *
             generalize cc (aO s) (4*c+r)=y0 at *
             generalize cc (aO s) (4*c+r1)=y1 at *
             generalize cc (aO s) (4*c+r2)=y2 at *
             generalize cc (aO s) (4*c+r3)=y3 at *
             generalize (am key).getD (16*(n+1)+r+4*c) 0=kk at *
             have x1:=dv (hO y0) (hO y1);have x2:=dv (ak (hO y0) (hO y1)) y1;have x3:=dv (ak (ak (hO y0) (hO y1)) y1) y2;have x4:=dv (ak (ak (ak (hO y0) (hO y1)) y1) y2) y3;have x5:=dv (ak (ak (ak (ak (hO y0) (hO y1)) y1) y2) y3) kk;simp only[uB,xa,ae,aa,seval,iteOmega,toNatUp,t1,t2,t3,aD,hcl,c0,c1,c2,c3,bw,eS,w0,w1,x1,x2,x3,x4,hk,x5,eidx,eo h3 (d8 _),ft,h5,hl];refine aU (r+1) (by omega) (by omega) (ap (fun i=>i) ?_ ?_ rfl rfl) <;> simp only[wx,aj,ar,aa,seval,iteOmega,toNatUp,ac0]
            ·have hr2:jH key s n (4*c+r)=ak (cc (aO s) (4*c+r)) ((am key).getD (16*(n+1)+r+4*c) 0):=by
               unfold jH lY;rw[if_neg hn9];unfold eD cz;rw[show 16*(n+1)+(4*c+r)=16*(n+1)+r+4*c by omega]
             rw[hr2] at h5;generalize cc (aO s) (4*c+r)=y0 at *
             generalize (am key).getD (16*(n+1)+r+4*c) 0=kk at *
             have x5:=dv y0 kk;simp only[uB,xa,ae,aa,seval,iteOmega,toNatUp,aD,hcl,c0,bw,eS,hk,x5,eidx,eo h3 (d8 _),ft,h5,hl];refine aU (r+1) (by omega) (by omega) (ap (fun i=>i) ?_ ?_ rfl rfl) <;> simp only[wx,aj,ar,aa,seval,iteOmega,toNatUp,ac0]
           ·obtain rfl:r=4:=by omega
            have e4:4*c+4=4*(c+1):=by omega
            simp only[uB,xa,e4,ae,aa,seval,iteOmega,toNatUp];refine aU (c+1) (by omega) (by omega) (ap (fun i=>i) ?_ ?_ rfl rfl) <;> simp only[wx,aj,ar,aa,seval,iteOmega,toNatUp]
         ·obtain rfl:c=4:=by omega
          have e:bo (jH key s n) s (4*4)=bM (jH key s n):=nJ _ hs;simp only[yY,Cf,e,hnext,ae,aa,seval,iteOmega,toNatUp];refine aU (n+1) (by omega) (by omega) (ap (fun i=>i) ?_ ?_ rfl rfl) <;> simp only[wx,aj,ar,aa,seval,iteOmega,toNatUp]
     ·obtain rfl:n=10:=by omega
      have e:bM (gC (cz (am key)) (aO b) 10)=j8 key b:=rfl;have hl:(j8 key b).length=16:=iN _ _;have ht:(j8 key b).take 16=j8 key b:=abH (by omega);simp only[yZ,Cc,e,ae,aa,seval,iteOmega,toNatUp,hl,cy,bw,ht];exact v6 (by simp only[St.put,km,ae,aa,seval,iteOmega,toNatUp,hl,ht,cy])
theorem HM:∀ a b:List UInt8,dW (a++b)=if (dW b).2 then ((dW a).1++(dW b).1,(dW a).2) else (a++(dW b).1,false)
  | [],b=>by
    show dW b=if (dW b).2 then ([]++(dW b).1,true) else ([]++(dW b).1,false)
    rcases dW b with ⟨s,_ | _⟩ <;> rfl
  | x::a,b=>by
    have ih:=HM a b;simp only[acF,dW,ih];cases h:(dW b).2
    ·simp
    ·simp only[if_true];cases h2:(dW a).2 <;> simp
def carry (c:List UInt8) (m:Nat):Prop:=(dW (c.drop m)).2=true
def eW (c:List UInt8) (m:Nat):List UInt8:=c.take m++(dW (c.drop m)).1
theorem u9 (c:List UInt8) (m:Nat):(eW c m).length=c.length:=by
  unfold eW; rw[abJ,zJ,← abJ,acl]
theorem Ek (c:List UInt8):eW c c.length=c:=by unfold eW; simp[dW]
theorem DX (c:List UInt8):carry c c.length:=by unfold carry; simp[dW]
theorem Fx (c:List UInt8):eW c 0=kg c:=by unfold eW kg; simp
theorem JW {c:List UInt8} {m:Nat} (h:m<c.length):(eW c (m+1))[m]?=some (c.getD m 0):=by
  unfold eW;rw[acg (by rw[abN]; omega),ab6,if_pos (by omega)];exact db h
theorem Fy {c:List UInt8} {m:Nat} (h:m<c.length):c.drop m=c.getD m 0::c.drop (m+1):=by
  rw[List.drop_eq_getElem_cons h,abI,abF h]; rfl
theorem JX {c:List UInt8} {m:Nat} (h:m<c.length) (hc:carry c (m+1)):(eW c (m+1)).set m (c.getD m 0+1)=eW c m:=by
  have e:(dW (c.drop m)).1=(c.getD m 0+1)::(dW (c.drop (m+1))).1:=by
    rw[Fy h];unfold carry at hc;simp only[dW,hc,if_true]
  have e2:c.take (m+1)=c.take m++[c.getD m 0]:=by
    rw[adg,db h]; rfl
  unfold eW;rw[e,e2,abV,adk _ _ (by rw[abN]; omega),abN,show m-min m c.length=0 by omega];rfl
theorem El {c:List UInt8} {m:Nat} (h:m<c.length) (hc:carry c (m+1)):(dW (c.drop m)).2=(c.getD m 0+1==0):=by
  rw[Fy h];unfold carry at hc;simp only[dW,hc,if_true]
theorem JY {c:List UInt8} {m:Nat} (h:(dW (c.drop m)).2=false):eW c m=kg c:=by
  have:=HM (c.take m) (c.drop m);rw[acl,h] at this;unfold kg eW;rw[this]; rfl
theorem MO (x c:UInt8) (n:Int) (h:n=(c.toNat:Int)):bW .add (.w (.c (.d (bD x)))) (.w (.c (.d (.int .u8 n))))=some (bD (x+c)):=by
  subst h
  show bI .add .u8 (x.toNat:Int) .u8 (c.toNat:Int)=_
  rw[uR,IntKind.wrap_u8]
  show some (D.int .u8 (((x.toNat:Int)+(c.toNat:Int))%256))=_
  have:((x.toNat:Int)+(c.toNat:Int))%256=((x+c).toNat:Int):=by
    rw[UInt8.toNat_add]; simp
  rw[this]; rfl
def qA (c:List UInt8):List UInt8:=if c.length=16 then kg c else []
def nj (c:List UInt8) (m:Nat):St:=⟨aT [(3,.w (.c (.own 1 1 0 16))),(4,.w (.c (.d (.int .i64 ((m:Int)-1)))))],hL [(1,.row 1 ((eW c m).map bD))],uL [1]⟩
def va:aS := .seq (.seq (.reg [oM 14 4,oO 15 (.bin .geq (.t 14) (kI 0))]) (.cond (.t 15) (.skip) (.exit 0))) (.seq (.block 1 (.seq (.reg [oM 18 3,oM 19 4,oO 20 (.idxSl 1 (.t 18) (.t 19)),oO 21 (.load .sc (.t 20)),oO 22 (.bin .add (.t 21) (.k (.c (.d (.int .u8 1))))),oO 23 (.idxSl 1 (.t 18) (.t 19)),oN (.store .sc (.t 23) (.t 22))]) (.seq (.reg [oM 24 3,oM 25 4,oO 26 (.idxSl 1 (.t 24) (.t 25)),oO 27 (.load .sc (.t 26)),oO 28 (.bin .neq (.t 27) (.k (.c (.d (.int .u8 0)))))]) (.cond (.t 28) (.exit 0) (.skip))))) (.reg [oM 16 4,oO 17 (.bin .sub (.t 16) (kI 1)),oM 4 17]))
def Br:aG:=⟨1,30,.seq (.reg [oO 2 (.mv (.k (.c .nil)))]) (.seq (.seq (.reg [oM 5 0,oO 6 (.len (.t 5)),oO 7 (.bin .neq (.t 6) (kI 16))]) (.cond (.t 7) (.seq (.reg [oO 2 (.mv (.k (.c .nil)))]) (.ret)) (.skip))) (.seq (.reg [oM 8 0,oO 9 (.bldSl false 1 1 (.sl []) [(0,(.t 8))]),oO 10 (.call 50 [(.t 9)] (some (0,1))),oM 3 10]) (.seq (.seq (.reg [oM 11 3,oO 12 (.len (.t 11)),oO 13 (.bin .sub (.t 12) (kI 1)),oM 4 13]) (.block 0 (.loop va))) (.seq (.reg [oM 29 3,oM 2 29]) (.ret))))),[(2,none)]⟩
theorem XF:aF Tryz.prog { own:=[10],comp:=[],frz:=[],nils:=[] } Tryz.f125=some Br:=by kernel_rfl
theorem aab (G:ah) (c:List UInt8) (hc:c.length≤140737488355328):aB Tryz.prog G 125 [.sl (c.map bD)] (.w (.c (.fr 1 ((qA c).map bD)))):=by
  refine aI Tryz.func125 XF rfl rfl ?_;unfold qA;by_cases h:c.length=16
  ·rw[if_pos h];have hj:=fc G [c] (by simp) (by simp; omega);have hf:[c].flatten=c:=by simp
   rw[hf] at hj;have hs:=Ek c;rw[h] at hs;simp only[Br,af,ae,aa,seval,iteOmega,toNatUp,h];refine sD (hj) ?_;refine ba (nj c) (fun m=>m) (fun m=>m≤16∧carry c m) 16 ⟨abR _,by have:=DX c; rwa [h] at this⟩ ?_ ?_
   ·refine ap (fun i=>80) ?_ ?_ rfl rfl <;> simp only[wx,aj,ar,aa,seval,iteOmega,toNatUp,hs,h] <;> rfl
   ·rintro m ⟨hm,hcar⟩;rcases m with _ | q
    ·have e0:=Fx c;have hl:(kg c).length=16:=by rw[yN]; exact h
     simp only[va,nj,e0,adj,Int.zero_sub,ae,aa,seval,iteOmega,toNatUp];exact eI (id:=1) (n:=16) (s:=1) (by simp only[wx,aa,seval,iteOmega,toNatUp]) (by simp only[wx,aa,seval,iteOmega,toNatUp]) (by simp[hl])
    ·have hq:q<c.length:=by omega
     have hl1:(eW c (q+1)).length=16:=by rw[u9]; exact h
     have hl0:(eW c q).length=16:=by rw[u9]; exact h
     have g1:=JW hq;have h3:q<(eW c (q+1)).length:=by omega
     have h5:=JX hq hcar;have g2:(eW c q)[q]?=some (c.getD q 0+1):=by
       rw[← h5,List.getElem?_set_self (by omega)]
     have x1:=MO (c.getD q 0) 1 1 rfl;have x2:=Be (c.getD q 0+1) 0 0 rfl;have hcs:=El hq hcar;have sub:((q:Int)+1-1)=(q:Int):=by omega
     by_cases hz:c.getD q 0+1=0
     ·have hz2:(c.getD q 0+1 != 0)=false:=by rw[hz]; rfl
      rw[hz2] at x2;have hcar2:carry c q:=by unfold carry; rw[hcs,hz]; rfl
      simp only[va,nj,ae,aa,seval,iteOmega,toNatUp,sub,aD,g1,x1,eo h3 (d8 _),ft,h5,g2,x2,hl1,hl0];refine aU q (by omega) ⟨by omega,hcar2⟩ (ap (fun i=>i) ?_ ?_ rfl rfl) <;> simp only[wx,aj,ar,aa,seval,iteOmega,toNatUp]
     ·have hz2:(c.getD q 0+1 != 0)=true:=bne_iff_ne.2 hz;rw[hz2] at x2;have e0:eW c q=kg c:=JY (by rw[hcs]; exact beq_eq_false_iff_ne.2 hz);rw[e0] at hl0 g2 h5;simp only[va,nj,ae,aa,seval,iteOmega,toNatUp,sub,aD,g1,x1,eo h3 (d8 _),ft,h5,g2,x2,hl1,e0];exact eI (id:=1) (n:=16) (s:=1) (by simp only[wx,aa,seval,iteOmega,toNatUp]) (by simp only[wx,aa,seval,iteOmega,toNatUp]) (by simp[hl0])
  ·rw[if_neg h];simp only[Br,af,ae,aa,seval,iteOmega,toNatUp];exact fM
def uC:aS := .seq (.seq (.reg [oM 11 4,oO 12 (.bin .geq (.t 11) (kI 0))]) (.cond (.t 12) (.skip) (.exit 0))) (.seq (.block 1 (.seq (.reg [oM 15 3,oM 16 4,oO 17 (.idxSl 1 (.t 15) (.t 16)),oO 18 (.load .sc (.t 17)),oO 19 (.bin .add (.t 18) (.k (.c (.d (.int .u8 1))))),oO 20 (.idxSl 1 (.t 15) (.t 16)),oN (.store .sc (.t 20) (.t 19))]) (.seq (.reg [oM 21 3,oM 22 4,oO 23 (.idxSl 1 (.t 21) (.t 22)),oO 24 (.load .sc (.t 23)),oO 25 (.bin .neq (.t 24) (.k (.c (.d (.int .u8 0)))))]) (.cond (.t 25) (.exit 0) (.skip))))) (.reg [oM 13 4,oO 14 (.bin .sub (.t 13) (kI 1)),oM 4 14]))
def Au:aG:=⟨1,27,.seq (.reg [oO 2 (.mv (.k (.c .nil)))]) (.seq (.seq (.reg [oM 5 0,oO 6 (.len (.t 5)),oO 7 (.bin .neq (.t 6) (kI 16))]) (.cond (.t 7) (.seq (.reg [oO 2 (.mv (.k (.c .nil)))]) (.ret)) (.skip))) (.seq (.reg [oM 8 0,oO 9 (.bldSl false 1 1 (.sl []) [(0,(.t 8))]),oO 10 (.call 41 [(.t 9)] (some (0,1))),oM 3 10]) (.seq (.seq (.reg [oO 4 (.mv (kI 15))]) (.block 0 (.loop uC))) (.seq (.reg [oM 26 3,oM 2 26]) (.ret))))),[(2,none)]⟩
theorem U2:aF Tryz.prog { own:=[10],comp:=[],frz:=[],nils:=[] } Tryz.f112=some Au:=by kernel_rfl
theorem XG (G:ah) (c:List UInt8) (hc:c.length≤140737488355328):aB Tryz.prog G 112 [.sl (c.map bD)] (.w (.c (.fr 1 ((qA c).map bD)))):=by
  refine aI Tryz.func112 U2 rfl rfl ?_;unfold qA;by_cases h:c.length=16
  ·rw[if_pos h];have hj:=fR G [c] (by simp) (by simp; omega);have hf:[c].flatten=c:=by simp
   rw[hf] at hj;have hs:=Ek c;rw[h] at hs;simp only[Au,af,ae,aa,seval,iteOmega,toNatUp,h];refine sD (hj) ?_;refine ba (nj c) (fun m=>m) (fun m=>m≤16∧carry c m) 16 ⟨abR _,by have:=DX c; rwa [h] at this⟩ ?_ ?_
   ·refine ap (fun i=>80) ?_ ?_ rfl rfl <;> simp only[wx,aj,ar,aa,seval,iteOmega,toNatUp,hs,h] <;> rfl
   ·rintro m ⟨hm,hcar⟩;rcases m with _ | q
    ·have e0:=Fx c;have hl:(kg c).length=16:=by rw[yN]; exact h
     simp only[uC,nj,e0,adj,Int.zero_sub,ae,aa,seval,iteOmega,toNatUp];exact eI (id:=1) (n:=16) (s:=1) (by simp only[wx,aa,seval,iteOmega,toNatUp]) (by simp only[wx,aa,seval,iteOmega,toNatUp]) (by simp[hl])
    ·have hq:q<c.length:=by omega
     have hl1:(eW c (q+1)).length=16:=by rw[u9]; exact h
     have hl0:(eW c q).length=16:=by rw[u9]; exact h
     have g1:=JW hq;have h3:q<(eW c (q+1)).length:=by omega
     have h5:=JX hq hcar;have g2:(eW c q)[q]?=some (c.getD q 0+1):=by
       rw[← h5,List.getElem?_set_self (by omega)]
     have x1:=MO (c.getD q 0) 1 1 rfl;have x2:=Be (c.getD q 0+1) 0 0 rfl;have hcs:=El hq hcar;have sub:((q:Int)+1-1)=(q:Int):=by omega
     by_cases hz:c.getD q 0+1=0
     ·have hz2:(c.getD q 0+1 != 0)=false:=by rw[hz]; rfl
      rw[hz2] at x2;have hcar2:carry c q:=by unfold carry; rw[hcs,hz]; rfl
      simp only[uC,nj,ae,aa,seval,iteOmega,toNatUp,sub,aD,g1,x1,eo h3 (d8 _),ft,h5,g2,x2,hl1,hl0];refine aU q (by omega) ⟨by omega,hcar2⟩ (ap (fun i=>i) ?_ ?_ rfl rfl) <;> simp only[wx,aj,ar,aa,seval,iteOmega,toNatUp]
     ·have hz2:(c.getD q 0+1 != 0)=true:=bne_iff_ne.2 hz;rw[hz2] at x2;have e0:eW c q=kg c:=JY (by rw[hcs]; exact beq_eq_false_iff_ne.2 hz);rw[e0] at hl0 g2 h5;simp only[uC,nj,ae,aa,seval,iteOmega,toNatUp,sub,aD,g1,x1,eo h3 (d8 _),ft,h5,g2,x2,hl1,e0];exact eI (id:=1) (n:=16) (s:=1) (by simp only[wx,aa,seval,iteOmega,toNatUp]) (by simp only[wx,aa,seval,iteOmega,toNatUp]) (by simp[hl0])
  ·rw[if_neg h];simp only[Au,af,ae,aa,seval,iteOmega,toNatUp];exact fM
def tw (key b:List UInt8):Int:=if key.length≠16 then 5 else if b.length≠16 then 3 else 0
def xJ (key b:List UInt8):List UInt8:=if key.length=16∧b.length=16 then j8 key b else []
def wd:aG:=⟨2,18,.seq (.reg [oO 4 (.mv (.k (.c .nil))),oO 5 (.mv (kI 0))]) (.seq (.seq (.reg [oM 7 0,oO 8 (.len (.t 7)),oO 9 (.bin .neq (.t 8) (kI 16))]) (.cond (.t 9) (.seq (.reg [oO 4 (.mv (.k (.c .nil))),oO 5 (.mv (kI 5))]) (.ret)) (.skip))) (.seq (.seq (.reg [oM 10 1,oO 11 (.len (.t 10)),oO 12 (.bin .neq (.t 11) (kI 16))]) (.cond (.t 12) (.seq (.reg [oO 4 (.mv (.k (.c .nil))),oO 5 (.mv (kI 3))]) (.ret)) (.skip))) (.seq (.reg [oM 13 0,oO 14 (.call 122 [(.t 13)] none),oM 15 1,oO 16 (.call 124 [(.t 14),(.t 15)] none),oO 6 (.allocArr [(.int .u8 0),(.int .u8 0),(.int .u8 0),(.int .u8 0),(.int .u8 0),(.int .u8 0),(.int .u8 0),(.int .u8 0),(.int .u8 0),(.int .u8 0),(.int .u8 0),(.int .u8 0),(.int .u8 0),(.int .u8 0),(.int .u8 0),(.int .u8 0)]),oN (.store (.ag 16) (.t 6) (.t 16))]) (.seq (.reg [oO 17 (.sliceArr 1 16 (.t 6) none none),
 oM 4 17,oO 5 (.mv (kI 0))]) (.ret))))),[(4,none),(5,none)]⟩
theorem XH:aF Tryz.prog { own:=[],comp:=[],frz:=[],nils:=[] } Tryz.f142=some wd:=by kernel_rfl
theorem Cg (G:ah) (key b:List UInt8) (hk:key.length≤9223372036854775807) (hb:b.length≤9223372036854775807):aB Tryz.prog G 142 [.sl (key.map bD),.sl (b.map bD)] (.tup [.c (.fr 1 ((xJ key b).map bD)),.c (.d (.int .i64 (tw key b)))]):=by
  refine aI Tryz.func142 XH rfl rfl ?_;unfold xJ tw;by_cases h:key.length=16
  ·by_cases h2:b.length=16
   ·have hr:=rQ h;have hl:(j8 key b).length=16:=iN _ _;have ht:(j8 key b).take 16=j8 key b:=abH (by omega);rw[if_pos ⟨h,h2⟩,if_neg (by simp[h]),if_neg (by simp[h2])];simp only[wd,af,ae,aa,seval,iteOmega,toNatUp,h,h2,eX];refine sD (MM G key h) ?_;refine sC (MN G (am key) b hr h2) ?_;simp only[iN,bf,hl,ae,aa,seval,iteOmega,toNatUp];exact v7 (by simp only[ae,aa,seval,iteOmega,toNatUp,km,iN,hl,cy]; rfl) (by simp only[ae,aa,seval,iteOmega,toNatUp])
   ·rw[if_neg (fun k=>h2 k.2),if_neg (by simp[h]),if_pos h2];simp only[wd,af,ae,aa,seval,iteOmega,toNatUp,h];exact cm
  ·rw[if_neg (fun k=>h k.1),if_pos h];simp only[wd,af,ae,aa,seval,iteOmega,toNatUp];exact cm
def oq (key:List UInt8):Int:=if key.length≠16 then 5 else 0
def eJ (r n:Nat):Nat:=(n-r%n)%n
def dl (b:List UInt8) (n:Int):List UInt8:=if 1≤n∧n≤64 then b++List.replicate (eJ b.length n.toNat) 0 else b
theorem Av (b:List UInt8) {n:Nat} (h:1≤n∧n≤64):dl b (n:Int)=b++List.replicate (eJ b.length n) 0:=by
  unfold dl; rw[if_pos (by omega),Int.toNat_natCast]
theorem HO (b:List UInt8) {n:Int} (h:¬ (1≤n∧n≤64)):dl b n=b:=if_neg h
theorem HP (r:Nat) {n:Nat} (h:1≤n):eJ r n<n:=acH _ (by omega)
theorem U3 (n:Nat):au 0 n=List.replicate n 0:=by
  unfold au;simp only[Nat.zero_div]
  induction n with
  | zero=>rfl
  | succ n ih=>rw[ac8,abT,ih,adf]; rfl
theorem Tq {r n i:Nat} (hn:1≤n) (h:i<eJ r n):(r+i)%n≠0:=by
  unfold eJ at h;have hr:r%n<n:=acH _ (by omega);have hm:=Nat.mod_le (n-r%n) n;have hz:r%n≠0:=fun e=>by rw[e,Nat.sub_zero,Nat.mod_self] at h; omega
  have e:(r+i)%n=(r%n+i)%n:=by rw[Nat.add_mod,Nat.add_mod (r%n) i,Nat.mod_mod]
  rw[e,ac9 (by omega)];omega
theorem Ts {r n:Nat} (hn:1≤n):(r+eJ r n)%n=0:=by
  unfold eJ;have hr:r%n<n:=acH _ (by omega);by_cases hz:r%n=0
  ·rw[hz,Nat.sub_zero,Nat.mod_self,acD,hz]
  ·rw[ac9 (show n-r%n<n by omega),Nat.add_mod,ac9 (show n-r%n<n by omega),Nat.add_sub_cancel' (by omega),Nat.mod_self]
theorem MP (a b:Nat):Int.tmod (a:Int) (b:Int)=((a%b:Nat):Int):=rfl
def we:aG:=⟨2,28,.seq (.reg [oO 4 (.mv (.k (.c .nil)))]) (.seq (.seq (.reg [oM 6 1,oO 7 (.bin .lss (.t 6) (kI 1)),oM 8 7,oG 9 (.mv (.t 1)) 8 false,oG 10 (.bin .gtr (.t 9) (kI 64)) 8 false,oO 11 (.pick (.t 8) (.k (.c (.d (.bool true)))) (.t 10))]) (.cond (.t 11) (.seq (.reg [oM 12 0,oO 13 (.bldSl false 1 1 (.sl []) [(0,(.t 12))]),oO 14 (.call 50 [(.t 13)] (some (0,1))),oM 4 14]) (.ret)) (.skip))) (.seq (.reg [oM 15 1,oM 16 0,oO 17 (.len (.t 16)),oM 18 1,oO 19 (.bin .rem (.t 17) (.t 18)),oO 20 (.bin .sub (.t 15) (.t 19)),oM 21 1,oO 22 (.bin .rem (.t 20) (.t 21)),oM 5 22]) (.seq (.reg [oM 23 0,oM 24 5,oO 25 (.call 81 [(.k (.c (.d (.int .u64 0)))),(.t 24)] none),oO 26 (.bldSl false 2 1 (.sl []) [(0,(.t 23)),(1,(.t 25))]),oO 27 (.call 50 [(.t 26)] (some (0,1))),oM 4 27]) (.ret)))),[(4,none)]⟩
theorem XJ:aF Tryz.prog { own:=[14,27],comp:=[],frz:=[],nils:=[] } Tryz.f82=some we:=by kernel_rfl
theorem xb (G:ah) (b:List UInt8) (n:Int) (hb:b.length≤70368744177664):aB Tryz.prog G 82 [.sl (b.map bD),.int .i64 n] (.w (.c (.fr 1 ((dl b n).map bD)))):=by
  refine aI Tryz.func82 XJ rfl rfl ?_;by_cases hc:1≤n∧n≤64
  ·obtain⟨m,rfl⟩:=acB (show 0≤n by omega);rw[Av b (by omega)];have hr:b.length%m<m:=acH _ (by omega);have hk:eJ b.length m=(m-b.length%m)%m:=rfl;have hlt:=HP b.length (n:=m) (by omega);have e1:=MP b.length m;have e2:Int.tmod ((m:Int)-((b.length%m:Nat):Int)) (m:Int)=((eJ b.length m:Nat):Int):=by
     rw[show (m:Int)-((b.length%m:Nat):Int)=((m-b.length%m:Nat):Int) by omega,MP,hk]
   have hm:((m:Int)=0)=False:=eq_false (by omega);have hp:=Bf G 0 (eJ b.length m) (by omega);have hj:=fc G [b,au 0 (eJ b.length m)] (by simp) (by simp[bP]; omega);have hf:[b,au 0 (eJ b.length m)].flatten=b++List.replicate (eJ b.length m) 0:=by rw[U3]; simp
   rw[hf] at hj;generalize eJ b.length m=k at *
   simp only[we,af,ae,aa,seval,iteOmega,toNatUp,e1,e2,hm];refine sD (hp) ?_;refine sD (hj) ?_;exact fM
  ·rw[HO b hc];have hj:=fc G [b] (by simp) (by simp; omega);have hf:[b].flatten=b:=by simp
   rw[hf] at hj;by_cases h1:n<1
   ·simp only[we,af,ae,aa,seval,iteOmega,toNatUp];refine sD (hj) ?_;exact fM
   ·have h2:64<n:=by omega
    simp only[we,af,ae,aa,seval,iteOmega,toNatUp];refine sD (hj) ?_;exact fM
theorem U4 (b:List UInt8) (i:Nat):b++List.replicate i 0++[0]=b++List.replicate (i+1) 0:=by rw[adf,abV]
def ll (b:List UInt8) (i:Nat):List UInt8:=b++List.replicate i 0
theorem HQ (b:List UInt8) (i:Nat):(ll b i).length=b.length+i:=by unfold ll; rw[abJ,ab3]
theorem RX (b:List UInt8) (i:Nat):(ll b i).map bD++[D.int .u8 0]=(ll b (i+1)).map bD:=by unfold ll; rw[← U4,abT (l₂:=[0])]; rfl
def pN (b:List UInt8) (n:Int) (i:Nat):St:=⟨aT [(1,.w (.c (.d (.int .i64 n)))),(5,.w (.c (.own 1 1 0 (ll b i).length)))],hL [(1,.row 1 ((ll b i).map bD))],uL [1]⟩
def rh:aS := .seq (.seq (.reg [oM 9 1,oO 10 (.bin .geq (.t 9) (kI 1)),oM 11 10,oG 12 (.mv (.t 1)) 11 true,oG 13 (.bin .leq (.t 12) (kI 64)) 11 true,oO 14 (.pick (.t 11) (.t 13) (.k (.c (.d (.bool false))))),oM 15 14,oG 16 (.mv (.t 5)) 15 true,oG 17 (.len (.t 16)) 15 true,oG 18 (.mv (.t 1)) 15 true,oG 19 (.bin .rem (.t 17) (.t 18)) 15 true,oG 20 (.bin .neq (.t 19) (kI 0)) 15 true,oO 21 (.pick (.t 15) (.t 20) (.k (.c (.d (.bool false)))))]) (.cond (.t 21) (.skip) (.exit 0))) (.block 1 (.reg [oM 22 5,oO 23 (.bldSl false 1 1 (.int .u8 0) [(0,(.k (.c (.d (.int .u8 0)))))]),oO 24 (.app false 1 1 (.t 22) (.t 23)),oM 5 24]))
def Aw:aG:=⟨2,26,.seq (.reg [oO 4 (.mv (.k (.c .nil)))]) (.seq (.reg [oM 6 0,oO 7 (.bldSl false 1 1 (.sl []) [(0,(.t 6))]),oO 8 (.call 41 [(.t 7)] (some (0,1))),oM 5 8]) (.seq (.block 0 (.loop rh)) (.seq (.reg [oM 25 5,oM 4 25]) (.ret)))),[(4,none)]⟩
theorem U5:aF Tryz.prog { own:=[8],comp:=[],frz:=[],nils:=[] } Tryz.f90=some Aw:=by kernel_rfl
theorem sA (G:ah) (b:List UInt8) (n:Int) (hb:b.length≤70368744177664):aB Tryz.prog G 90 [.sl (b.map bD),.int .i64 n] (.w (.c (.fr 1 ((dl b n).map bD)))):=by
  refine aI Tryz.func90 U5 rfl rfl ?_;have hj:=fR G [b] (by simp) (by simp; omega);have hf:[b].flatten=b:=by simp
  rw[hf] at hj;have h0:ll b 0=b:=by simp[ll]
  by_cases hc:1≤n∧n≤64
  ·obtain⟨m,rfl⟩:=acB (show 0≤n by omega);rw[Av b (by omega)];have hlt:=HP b.length (n:=m) (by omega);have hm:((m:Int)=0)=False:=eq_false (by omega);have more:∀ i,i<eJ b.length m→(b.length+i)%m≠0:=fun i h=>Tq (by omega) h
   have done:(b.length+eJ b.length m)%m=0:=Ts (by omega);simp only[Aw,af,ae,aa,seval,iteOmega,toNatUp];refine sD (hj) ?_;refine ba (pN b m) (fun i=>eJ b.length m-i) (fun i=>i≤eJ b.length m) 0 (abM _) ?_ ?_
   ·refine ap (fun _=>64) ?_ ?_ rfl rfl <;> simp only[wx,aj,ar,aa,seval,iteOmega,toNatUp,h0]
   ·intro i hi;have hl:=HQ b i;have hl1:=HQ b (i+1);have e1:Int.tmod ((b.length:Int)+(i:Int)) (m:Int)=(((b.length+i)%m:Nat):Int):=rfl;have hs:=RX b i;by_cases hk:i<eJ b.length m
    ·have hne:=more i hk;generalize (b.length+i)%m=q at *
     simp only[rh,pN,ae,aa,seval,iteOmega,toNatUp,hl,e1,hm,bQ,hs];refine aU (i+1) (by omega) (by omega) (ap (fun _=>192) ?_ ?_ rfl rfl) <;> simp only[wx,aj,ar,aa,seval,iteOmega,toNatUp,hl1]
    ·have hik:i=eJ b.length m:=by omega
     rw[← hik] at done ⊢;simp only[done,adj,adx] at e1;have hd:b++List.replicate i 0=ll b i:=rfl;rw[hd];simp only[rh,pN,ae,aa,seval,iteOmega,toNatUp,hl,e1,hm];exact eI (id:=1) (n:=b.length+i) (s:=1) (by simp only[wx,aa,seval,iteOmega,toNatUp]) (by simp only[wx,aa,seval,iteOmega,toNatUp]) (by simp[hl])
  ·rw[HO b hc];simp only[Aw,af,ae,aa,seval,iteOmega,toNatUp];refine sD (hj) ?_;refine ba (pN b n) (fun i=>0-i) (fun i=>i=0) 0 rfl ?_ ?_
   ·refine ap (fun _=>64) ?_ ?_ rfl rfl <;> simp only[wx,aj,ar,aa,seval,iteOmega,toNatUp,h0]
   ·rintro i rfl;by_cases h1:n<1
    ·simp only[rh,pN,h0,ae,aa,seval,iteOmega,toNatUp];exact eI (id:=1) (n:=b.length) (s:=1) (by simp only[wx,aa,seval,iteOmega,toNatUp]) (by simp only[wx,aa,seval,iteOmega,toNatUp]) (by simp)
    ·have h2:64<n:=by omega
     simp only[rh,pN,h0,ae,aa,seval,iteOmega,toNatUp];exact eI (id:=1) (n:=b.length) (s:=1) (by simp only[wx,aa,seval,iteOmega,toNatUp]) (by simp only[wx,aa,seval,iteOmega,toNatUp]) (by simp)
def dG (b:List UInt8) (j:Nat):UInt8:=if j<15 then jK (cT (b.getD j 0) 1) (cv (b.getD (j+1) 0) 7) else cT (b.getD j 0) 1
def ia (b:List UInt8):List UInt8:=(List.range 16).map (dG b)
theorem vC (b:List UInt8):(ia b).length=16:=by simp[ia]
theorem vD (b:List UInt8) {j:Nat} (h:j<16):(ia b)[j]?=some (dG b j):=by simp[ia,h]
def qB (b:List UInt8):UInt8:=iW (gG (b.getD 0 0) 7) 135
theorem HR {b:List UInt8} (h:b.length=16):(ia b).set 15 (ak (dG b 15) (qB b))=dN b:=by
  unfold dN;rw[if_pos h];apply ac3;intro j;rw[List.getElem?_set];by_cases hj:j<16
  ·rw[rR _ hj];have hd:∀ k,aO b k=b.getD k 0:=fun _=>rfl
   by_cases h15:15=j
   ·subst h15;rw[if_pos rfl,if_pos (by rw[vC]; decide)];simp only[dG,CZ,hd,qB,Nat.lt_irrefl,if_false,if_true,oR]
   ·rw[if_neg h15,vD _ hj];have:j<15:=by omega
    simp only[dG,CZ,hd,if_pos this,if_neg (show ¬ j=15 by omega),oR,XI]
  ·rw[if_neg (by omega),acr (by rw[vC]; omega),acr (by rw[gR]; omega)]
theorem Tt (b:List UInt8):bW .mul (.w (.c (.d (bD (cv (b.getD 0 0) 7))))) (.w (.c (.d (.int .u8 135))))=some (bD (qB b)):=by
  have key:=kf (p:=fun x=>(cv x 7).toNat*135%256==(iW (gG x 7) 135).toNat) (by decide +kernel) (b.getD 0 0);rw[beq_iff_eq] at key
  show bI .mul .u8 _ .u8 _=_
  rw[zE,IntKind.wrap_u8];unfold qB bD;rw[← key]
  congr 2
theorem U6 (b:List UInt8):(cv (b.getD 0 0) 7==1)=gG (b.getD 0 0) 7:=by
  have key:=kf (p:=fun x=>(cv x 7==1)==gG x 7) (by decide +kernel) (b.getD 0 0);rw[beq_iff_eq] at key;exact key
theorem Tu (x:UInt8):jK x 0=x:=by
  have key:=kf (p:=fun x=>jK x 0==x) (by decide +kernel) x;rw[beq_iff_eq] at key;exact key
theorem bD0:bD 0=.int .u8 0:=rfl
def oA (b:List UInt8) (m:Nat):UInt8:=if m<16 then cv (b.getD m 0) 7 else 0
theorem Tv (b:List UInt8) {q:Nat} (h:q<16):jK (cT (b.getD q 0) 1) (oA b (q+1))=dG b q:=by
  unfold oA dG;by_cases h2:q<15
  ·rw[if_pos (by omega),if_pos h2]
  ·rw[if_neg (by omega),if_neg h2,Tu]
theorem XK (b:List UInt8) {q:Nat} (h:q<16):cv (b.getD q 0) 7=oA b q:=(if_pos h).symm
def jL (l:List UInt8) (m:Nat):List UInt8:=List.replicate m 0++l.drop m
theorem U7 {l:List UInt8} {m:Nat} (h:m≤l.length):(jL l m).length=l.length:=by
  unfold jL; rw[abJ,ab3,abO]; omega
theorem Tw (l:List UInt8):jL l 0=l:=by simp[jL]
theorem Tx {l:List UInt8} {m:Nat} (h:l.length=m):jL l m=List.replicate m 0:=by
  unfold jL; rw[acw (by omega),abP]
theorem Ty {l:List UInt8} {q:Nat} (h:q<l.length):(jL l (q+1)).set q (l.getD q 0)=jL l q:=by
  unfold jL;rw[adf,abV,adk _ _ (by simp),ab3,Nat.sub_self,List.drop_eq_getElem_cons h,abI,abF h];rfl
def C0 (b:List UInt8) (m:Nat):St:=⟨aT [(0,.w (.c (.d (.sl (b.map bD))))),(3,.w (.c (.own 1 1 0 16))),(4,.w (.c (.d (bD (oA b m))))),(5,.w (.c (.d (.int .i64 ((m:Int)-1)))))],hL [(1,.row 1 ((jL (ia b) m).map bD))],uL [1]⟩
theorem JZ {b:List UInt8} (h:b.length≠16):dN b=[]:=if_neg h
def zT:aS := .seq (.seq (.reg [oM 10 5,oO 11 (.bin .geq (.t 10) (kI 0))]) (.cond (.t 11) (.skip) (.exit 0))) (.seq (.block 1 (.seq (.reg [oM 14 3,oM 15 5,oM 16 0,oM 17 5,oO 18 (.idxSl 1 (.t 16) (.t 17)),oO 19 (.load .sc (.t 18)),oO 20 (.bin .shl (.t 19) (.k (.c (.d (.int .u64 1))))),oM 21 4,oO 22 (.bin .or (.t 20) (.t 21)),oO 23 (.idxSl 1 (.t 14) (.t 15)),oN (.store .sc (.t 23) (.t 22))]) (.reg [oM 24 0,oM 25 5,oO 26 (.idxSl 1 (.t 24) (.t 25)),oO 27 (.load .sc (.t 26)),oO 28 (.bin .shr (.t 27) (.k (.c (.d (.int .u64 7))))),oM 4 28]))) (.reg [oM 12 5,oO 13 (.bin .sub (.t 12) (kI 1)),oM 5 13]))
def Bs:aG:=⟨1,37,.seq (.reg [oO 2 (.mv (.k (.c .nil)))]) (.seq (.seq (.reg [oM 6 0,oO 7 (.len (.t 6)),oO 8 (.bin .neq (.t 7) (kI 16))]) (.cond (.t 8) (.seq (.reg [oO 2 (.mv (.k (.c .nil)))]) (.ret)) (.skip))) (.seq (.reg [oO 9 (.make true 1 1 (.int .u8 0) (kI 16) (kI 16)),oM 3 9]) (.seq (.reg [oO 4 (.mv (.k (.c (.d (.int .u8 0)))))]) (.seq (.seq (.reg [oO 5 (.mv (kI 15))]) (.block 0 (.loop zT))) (.seq (.reg [oM 29 3,oO 30 (.idxSl 1 (.t 29) (kI 15)),oO 31 (.load .sc (.t 30)),oM 32 4,oO 33 (.bin .mul (.t 32) (.k (.c (.d (.int .u8 135))))),oO 34 (.bin .xor (.t 31) (.t 33)),oO 35 (.idxSl 1 (.t 29) (kI 15)),oN (.store .sc (.t 35) (.t 34))]) (.seq (.reg [oM 36 3,oM 2 36]) (.ret))))))),[(2,none)]⟩
theorem XL:aF Tryz.prog { own:=[],comp:=[],frz:=[],nils:=[] } Tryz.f143=some Bs:=by kernel_rfl
theorem xc (G:ah) (b:List UInt8) (hb:b.length≤9223372036854775807):aB Tryz.prog G 143 [.sl (b.map bD)] (.w (.c (.fr 1 ((dN b).map bD)))):=by
  refine aI Tryz.func143 XL rfl rfl ?_;by_cases h:b.length=16
  ·have hd:=HR h;have hl:=vC b;simp only[Bs,af,ae,aa,seval,iteOmega,toNatUp,h,eX];refine ba (C0 b) (fun m=>m) (fun m=>m≤16) 16 (abR _) ?_ ?_
   ·have e1:jL (ia b) 16=aQ 16 0:=Tx hl;have e2:oA b 16=0:=rfl;refine ap (fun i=>72) ?_ ?_ rfl rfl <;> simp only[wx,aj,ar,aa,seval,iteOmega,toNatUp,e1,e2,bD0]
   ·intro m hm;rcases m with _ | q
    ·have e0:=Tw (ia b);have c0:oA b 0=cv (b.getD 0 0) 7:=rfl;have x1:=Tt b;have g1:=vD b (j:=15) (by decide);have x2:=dv (dG b 15) (qB b);have h3:15<(ia b).length:=by omega
     have hdl:(dN b).length=16:=jU h;simp only[zT,C0,e0,c0,adj,Int.zero_sub,ae,aa,seval,iteOmega,toNatUp,aD,g1,x1,x2,eo h3 (d8 _),ft,hd];exact eI (id:=1) (n:=16) (s:=1) (by simp only[wx,aa,seval,iteOmega,toNatUp]) (by simp only[wx,aa,seval,iteOmega,toNatUp]) (by simp[hdl])
    ·have hq:q<16:=by omega
     have g1:b[q]?=some (b.getD q 0):=db (by omega);have hl1:=U7 (l:=ia b) (m:=q+1) (by omega);have h3:q<(jL (ia b) (q+1)).length:=by omega
     have x1:=sw (b.getD q 0) .u64 1 1 rfl (by decide);have x2:=rA (cT (b.getD q 0) 1) (oA b (q+1));have x3:=pK (b.getD q 0) .u64 7 7 rfl (by decide);have c1:=Tv b hq;have c2:=XK b hq;have hs:=Ty (l:=ia b) (q:=q) (by omega);have hg:(ia b).getD q 0=dG b q:=by rw[abI,vD b hq]; rfl
     rw[hg] at hs;have sub:((q:Int)+1-1)=(q:Int):=by omega
     simp only[zT,C0,ae,aa,seval,iteOmega,toNatUp,sub,aD,g1,x1,x2,x3,c1,c2,h,eo h3 (d8 _),ft,hs];refine aU q (by omega) (by omega) (ap (fun i=>i) ?_ ?_ rfl rfl) <;> simp only[wx,aj,ar,aa,seval,iteOmega,toNatUp]
  ·rw[JZ h];simp only[Bs,af,ae,aa,seval,iteOmega,toNatUp];exact fM
def sW (b:List UInt8) (i:Nat):St:=⟨aT [(0,.w (.c (.d (.sl (b.map bD))))),(3,.w (.c (.own 1 1 0 16))),(4,.w (.c (.d (.int .i64 (i:Int)))))],hL [(1,.row 1 ((bo (dG b) (aQ 16 0) i).map bD))],uL [1]⟩
def rj:aS := .seq (.seq (.reg [oM 9 4,oO 10 (.bin .lss (.t 9) (kI 16))]) (.cond (.t 10) (.skip) (.exit 0))) (.seq (.block 1 (.seq (.reg [oM 13 3,oM 14 4,oM 15 0,oM 16 4,oO 17 (.idxSl 1 (.t 15) (.t 16)),oO 18 (.load .sc (.t 17)),oO 19 (.bin .shl (.t 18) (.k (.c (.d (.int .u64 1))))),oO 20 (.idxSl 1 (.t 13) (.t 14)),oN (.store .sc (.t 20) (.t 19))]) (.seq (.reg [oM 21 4,oO 22 (.bin .lss (.t 21) (kI 15))]) (.cond (.t 22) (.reg [oM 23 3,oM 24 4,oM 25 3,oM 26 4,oO 27 (.idxSl 1 (.t 25) (.t 26)),oO 28 (.load .sc (.t 27)),oM 29 0,oM 30 4,oO 31 (.bin .add (.t 30) (kI 1)),oO 32 (.idxSl 1 (.t 29) (.t 31)),oO 33 (.load .sc (.t 32)),oO 34 (.bin .shr (.t 33) (.k (.c (.d (.int .u64 7))))),oO 35 (.bin .or (.t 28) (.t 34)),oO 36 (.idxSl 1 (.t 23) (.t 24)),oN (.store .sc (.t 36) (.t 35))]) (.skip)))))
 (.reg [oM 11 4,oO 12 (.bin .add (.t 11) (kI 1)),oM 4 12]))
def Ax:aG:=⟨1,49,.seq (.reg [oO 2 (.mv (.k (.c .nil)))]) (.seq (.seq (.reg [oM 5 0,oO 6 (.len (.t 5)),oO 7 (.bin .neq (.t 6) (kI 16))]) (.cond (.t 7) (.seq (.reg [oO 2 (.mv (.k (.c .nil)))]) (.ret)) (.skip))) (.seq (.reg [oO 8 (.make true 1 1 (.int .u8 0) (kI 16) (kI 16)),oM 3 8]) (.seq (.seq (.reg [oO 4 (.mv (kI 0))]) (.block 0 (.loop rj))) (.seq (.seq (.reg [oM 37 0,oO 38 (.idxSl 1 (.t 37) (kI 0)),oO 39 (.load .sc (.t 38)),oO 40 (.bin .shr (.t 39) (.k (.c (.d (.int .u64 7))))),oO 41 (.bin .eql (.t 40) (.k (.c (.d (.int .u8 1)))))]) (.cond (.t 41) (.reg [oM 42 3,oM 43 3,oO 44 (.idxSl 1 (.t 43) (kI 15)),oO 45 (.load .sc (.t 44)),oO 46 (.bin .xor (.t 45) (.k (.c (.d (.int .u8 135))))),oO 47 (.idxSl 1 (.t 42) (kI 15)),oN (.store .sc (.t 47) (.t 46))]) (.skip))) (.seq (.reg [oM 48 3,
 oM 2 48]) (.ret)))))),[(2,none)]⟩
theorem U8:aF Tryz.prog { own:=[],comp:=[],frz:=[],nils:=[] } Tryz.f128=some Ax:=by kernel_rfl
theorem sB (G:ah) (b:List UInt8) (hb:b.length≤9223372036854775807):aB Tryz.prog G 128 [.sl (b.map bD)] (.w (.c (.fr 1 ((dN b).map bD)))):=by
  refine aI Tryz.func128 U8 rfl rfl ?_;by_cases h:b.length=16
  ·have hd:=HR h;have hl:=vC b;have zl:(aQ 16 (0:UInt8)).length=16:=bf _ _;simp only[Ax,af,ae,aa,seval,iteOmega,toNatUp,h,eX];refine ba (sW b) (fun i=>16-i) (fun i=>i≤16) 0 (abM _) ?_ ?_
   ·have e1:=kH (dG b) (aQ 16 0);refine ap (fun i=>64) ?_ ?_ rfl rfl <;> simp only[wx,aj,ar,aa,seval,iteOmega,toNatUp,e1]
   ·intro i hi;by_cases hlt:i<16
    ·have g1:b[i]?=some (b.getD i 0):=db (by omega);have hl1:=jY (dG b) (aQ 16 0) (i:=i) (by omega);have h3:i<(bo (dG b) (aQ 16 0) i).length:=by omega
     have x1:=sw (b.getD i 0) .u64 1 1 rfl (by decide);have hs:=kJ (dG b) (aQ 16 0) (i:=i) (by omega);by_cases h15:i<15
     ·have g2:b[i+1]?=some (b.getD (i+1) 0):=db (by omega);have x2:=pK (b.getD (i+1) 0) .u64 7 7 rfl (by decide);have x3:=rA (cT (b.getD i 0) 1) (cv (b.getD (i+1) 0) 7);have hdg:jK (cT (b.getD i 0) 1) (cv (b.getD (i+1) 0) 7)=dG b i:=(if_pos h15).symm;have h4:i<((bo (dG b) (aQ 16 0) i).set i (cT (b.getD i 0) 1)).length:=by rw[acJ]; omega
      have g3:((bo (dG b) (aQ 16 0) i).set i (cT (b.getD i 0) 1))[i]?=some (cT (b.getD i 0) 1):=List.getElem?_set_self (by omega);have hs2:((bo (dG b) (aQ 16 0) i).set i (cT (b.getD i 0) 1)).set i (dG b i)=bo (dG b) (aQ 16 0) (i+1):=by rw[List.set_set,hs]
      simp only[rj,sW,ae,aa,seval,iteOmega,toNatUp,aD,g1,x1,h,eo h3 (d8 _),ft,g3,g2,x2,x3,eo h4 (d8 _),hdg,hs2];refine aU (i+1) (by omega) (by omega) (ap (fun i=>i) ?_ ?_ rfl rfl) <;> simp only[wx,aj,ar,aa,seval,iteOmega,toNatUp]
     ·have hdg:cT (b.getD i 0) 1=dG b i:=(if_neg h15).symm;rw[hdg] at x1;simp only[rj,sW,ae,aa,seval,iteOmega,toNatUp,aD,g1,x1,h,eo h3 (d8 _),ft,hs];refine aU (i+1) (by omega) (by omega) (ap (fun i=>i) ?_ ?_ rfl rfl) <;> simp only[wx,aj,ar,aa,seval,iteOmega,toNatUp]
    ·obtain rfl:i=16:=by omega
     have e1:bo (dG b) (aQ 16 0) 16=ia b:=u4 _ _ (by rw[bf]; decide);have g0:b[0]?=some (b.getD 0 0):=db (by omega);have x1:=pK (b.getD 0 0) .u64 7 7 rfl (by decide);have x2:=Bc (cv (b.getD 0 0) 7) 1 1 rfl;have hr:=U6 b;rw[hr] at x2;have g1:=vD b (j:=15) (by decide);have h3:15<(ia b).length:=by omega
     have hdl:(dN b).length=16:=jU h;have hrb:qB b=iW (gG (b.getD 0 0) 7) 135:=rfl;cases hb7:gG (b.getD 0 0) 7
     ·rw[hb7] at x2 hrb;rw[hrb,show iW false 135=0 from rfl,oR] at hd;have hs:(ia b).set 15 (dG b 15)=ia b:=by
        apply ac3;intro j;rw[List.getElem?_set];by_cases hj:15=j
        ·subst hj;rw[if_pos rfl,if_pos h3,g1]
        ·rw[if_neg hj]
      rw[hs] at hd;simp only[rj,sW,e1,ae,aa,seval,iteOmega,toNatUp,aD,g0,x1,x2,h,hd];exact eI (id:=1) (n:=16) (s:=1) (by simp only[wx,aa,seval,iteOmega,toNatUp]) (by simp only[wx,aa,seval,iteOmega,toNatUp]) (by simp[hdl])
     ·rw[hb7] at x2 hrb;rw[hrb,show iW true 135=135 from rfl] at hd;have x3:=v8 (dG b 15) 135 135 rfl;simp only[rj,sW,e1,ae,aa,seval,iteOmega,toNatUp,aD,g0,x1,x2,h,g1,x3,eo h3 (d8 _),ft,hd];exact eI (id:=1) (n:=16) (s:=1) (by simp only[wx,aa,seval,iteOmega,toNatUp]) (by simp only[wx,aa,seval,iteOmega,toNatUp]) (by simp[hdl])
  ·rw[JZ h];simp only[Ax,af,ae,aa,seval,iteOmega,toNatUp];exact fM
def mA (a b:List UInt8) (j:Nat):UInt8:=ak (a.getD j 0) (b.getD j 0)
theorem U9 {a b:List UInt8} {n:Nat} (ha:a.length=n) (hb:b.length=n):(List.range n).map (mA a b)=bJ a b:=by
  apply ac3;intro j;by_cases hj:j<n
  ·have:=HN a b j (by omega) (by omega);have hl:j<(bJ a b).length:=by rw[gw]; omega
   rw[db hl,this];simp[hj,mA]
  ·rw[acr (by simpa using hj),acr (by rw[gw]; omega)]
def Ch (a b:List UInt8) (i:Nat):St:=⟨aT [(0,.w (.c (.d (.sl (a.map bD))))),(1,.w (.c (.d (.sl (b.map bD))))),(5,.w (.c (.own 1 1 0 16))),(9,.w (.c (.d (.int .i64 16)))),(10,.w (.c (.d (.int .i64 (i:Int)))))],hL [(1,.row 1 ((bo (mA a b) (aQ 16 0) i).map bD))],uL [1]⟩
def zU:aS := .seq (.reg [oO 11 (.bin .lss (.t 10) (.t 9))]) (.seq (.cond (.t 11) (.skip) (.exit 0)) (.seq (.block 1 (.seq (.reg [oM 12 10,oM 6 12]) (.reg [oM 13 5,oM 14 6,oM 15 0,oM 16 6,oO 17 (.idxSl 1 (.t 15) (.t 16)),oO 18 (.load .sc (.t 17)),oM 19 1,oM 20 6,oO 21 (.idxSl 1 (.t 19) (.t 20)),oO 22 (.load .sc (.t 21)),oO 23 (.bin .xor (.t 18) (.t 22)),oO 24 (.idxSl 1 (.t 13) (.t 14)),oN (.store .sc (.t 24) (.t 23))]))) (.reg [oO 25 (.bin .add (.t 10) (kI 1)),oM 10 25])))
def MQ:aG:=⟨2,27,.seq (.reg [oO 4 (.mv (.k (.c .nil)))]) (.seq (.reg [oO 7 (.make true 1 1 (.int .u8 0) (kI 16) (kI 16)),oM 5 7]) (.seq (.seq (.reg [oM 8 5,oO 9 (.len (.t 8)),oO 10 (.mv (kI 0))]) (.block 0 (.loop zU))) (.seq (.reg [oM 26 5,oM 4 26]) (.ret)))),[(4,none)]⟩
theorem XM:aF Tryz.prog { own:=[],comp:=[],frz:=[],nils:=[] } Tryz.f145=some MQ:=by kernel_rfl
theorem nW (G:ah) (a b:List UInt8) (ha:a.length=16) (hb:b.length=16):aB Tryz.prog G 145 [.sl (a.map bD),.sl (b.map bD)] (.w (.c (.fr 1 ((bJ a b).map bD)))):=by
  refine aI Tryz.func145 XM rfl rfl ?_;have zl:(aQ 16 (0:UInt8)).length=16:=bf _ _;simp only[MQ,af,ae,aa,seval,iteOmega,toNatUp,eX];refine ba (Ch a b) (fun i=>16-i) (fun i=>i≤16) 0 (abM _) ?_ ?_
  ·have e1:=kH (mA a b) (aQ 16 0);refine ap (fun i=>56) ?_ ?_ rfl rfl <;> simp only[wx,aj,ar,aa,seval,iteOmega,toNatUp,e1]
  ·intro i hi;by_cases hlt:i<16
   ·have g1:a[i]?=some (a.getD i 0):=db (by omega);have g2:b[i]?=some (b.getD i 0):=db (by omega);have hl1:=jY (mA a b) (aQ 16 0) (i:=i) (by omega);have h3:i<(bo (mA a b) (aQ 16 0) i).length:=by omega
    have x1:=dv (a.getD i 0) (b.getD i 0);have hx:ak (a.getD i 0) (b.getD i 0)=mA a b i:=rfl;have hs:=kJ (mA a b) (aQ 16 0) (i:=i) (by omega);simp only[zU,Ch,ae,aa,seval,iteOmega,toNatUp,aD,g1,g2,x1,ha,hb,eo h3 (d8 _),ft,hx,hs];refine aU (i+1) (by omega) (by omega) (ap (fun i=>i) ?_ ?_ rfl rfl) <;> simp only[wx,aj,ar,aa,seval,iteOmega,toNatUp]
   ·obtain rfl:i=16:=by omega
    have e1:bo (mA a b) (aQ 16 0) 16=bJ a b:=by rw[u4 _ _ (by rw[bf]; decide),U9 ha hb]
    have hl:(bJ a b).length=16:=by rw[gw]; exact ha
    simp only[zU,Ch,e1,ae,aa,seval,iteOmega,toNatUp];exact eI (id:=1) (n:=16) (s:=1) (by simp only[wx,aa,seval,iteOmega,toNatUp]) (by simp only[wx,aa,seval,iteOmega,toNatUp]) (by simp[hl])
def gI (a b:List UInt8) (i:Nat):List UInt8:=bJ a (b.take i)
theorem Tz (a b:List UInt8) (i:Nat):(gI a b i).length=a.length:=gw _ _
theorem J0:∀ (a b:List UInt8) (i:Nat),i<b.length→(gI a b i)[i]?=a[i]?
  | [],_,_,_=>by simp[gI,bJ]
  | x::a,b,0,_=>by simp[gI,zP]
  | x::a,[],i+1,h=>by simp at h
  | x::a,y::b,i+1,h=>by
    show (gI a b i)[i]?=a[i]?
    exact J0 a b i (by simpa using h)
theorem Fz:∀ (a b:List UInt8) (i:Nat),i<a.length→i<b.length→(gI a b i).set i (ak (a.getD i 0) (b.getD i 0))=gI a b (i+1)
  | [],_,_,h,_=>by simp at h
  | x::a,[],_,_,h=>by simp at h
  | x::a,y::b,0,_,_=>by simp[gI,zP,bJ]
  | x::a,y::b,i+1,h,g=>by
    show ak x y::(gI a b i).set i _=ak x y::gI a b (i+1)
    rw[← Fz a b i (by simpa using h) (by simpa using g)];rfl
theorem zV:∀ (a b:List UInt8) (i:Nat),min a.length b.length≤i→gI a b i=bJ a b
  | [],_,_,_=>by simp[gI,bJ]
  | x::a,[],i,_=>by simp[gI]
  | x::a,y::b,0,h=>by simp at h
  | x::a,y::b,i+1,h=>by
    show ak x y::gI a b i=ak x y::bJ a b
    rw[zV a b i (by simp at h; omega)]
def xe (a b:List UInt8) (i:Nat):St:=⟨aT [(1,.w (.c (.d (.sl (b.map bD))))),(5,.w (.c (.own 1 1 0 a.length))),(6,.w (.c (.d (.int .i64 (i:Int)))))],hL [(1,.row 1 ((gI a b i).map bD))],uL [1]⟩
def uD:aS := .seq (.seq (.reg [oM 10 6,oM 11 5,oO 12 (.len (.t 11)),oO 13 (.bin .lss (.t 10) (.t 12)),oM 14 13,oG 15 (.mv (.t 6)) 14 true,oG 16 (.mv (.t 1)) 14 true,oG 17 (.len (.t 16)) 14 true,oG 18 (.bin .lss (.t 15) (.t 17)) 14 true,oO 19 (.pick (.t 14) (.t 18) (.k (.c (.d (.bool false)))))]) (.cond (.t 19) (.skip) (.exit 0))) (.seq (.block 1 (.reg [oM 22 5,oM 23 6,oM 24 5,oM 25 6,oO 26 (.idxSl 1 (.t 24) (.t 25)),oO 27 (.load .sc (.t 26)),oM 28 1,oM 29 6,oO 30 (.idxSl 1 (.t 28) (.t 29)),oO 31 (.load .sc (.t 30)),oO 32 (.bin .xor (.t 27) (.t 31)),oO 33 (.idxSl 1 (.t 22) (.t 23)),oN (.store .sc (.t 33) (.t 32))])) (.reg [oM 20 6,oO 21 (.bin .add (.t 20) (kI 1)),oM 6 21]))
def J4:aG:=⟨2,35,.seq (.reg [oO 4 (.mv (.k (.c .nil)))]) (.seq (.reg [oM 7 0,oO 8 (.bldSl false 1 1 (.sl []) [(0,(.t 7))]),oO 9 (.call 41 [(.t 8)] (some (0,1))),oM 5 9]) (.seq (.seq (.reg [oO 6 (.mv (kI 0))]) (.block 0 (.loop uD))) (.seq (.reg [oM 34 5,oM 4 34]) (.ret)))),[(4,none)]⟩
theorem Va:aF Tryz.prog { own:=[9],comp:=[],frz:=[],nils:=[] } Tryz.f127=some J4:=by kernel_rfl
theorem kX (G:ah) (a b:List UInt8) (ha:a.length≤140737488355328) (hb:b.length≤9223372036854775807):aB Tryz.prog G 127 [.sl (a.map bD),.sl (b.map bD)] (.w (.c (.fr 1 ((bJ a b).map bD)))):=by
  refine aI Tryz.func127 Va rfl rfl ?_;have hj:=fR G [a] (by simp) (by simp; omega);have hf:[a].flatten=a:=by simp
  rw[hf] at hj;simp only[J4,af,ae,aa,seval,iteOmega,toNatUp];refine sD (hj) ?_;obtain⟨M,hM⟩:∃ M,M=min a.length b.length:=⟨_,rfl⟩
  refine ba (xe a b) (fun i=>M-i) (fun i=>i≤M) 0 (abM _) ?_ ?_
  ·have e1:gI a b 0=a:=by simp[gI,zP]
   refine ap (fun i=>72) ?_ ?_ rfl rfl <;> simp only[wx,aj,ar,aa,seval,iteOmega,toNatUp,e1]
  ·intro i hi;have hl:=Tz a b i;by_cases h1:i<a.length
   ·by_cases h2:i<b.length
    ·have g1:a[i]?=some (a.getD i 0):=db (by omega);have g2:b[i]?=some (b.getD i 0):=db (by omega);have g3:=J0 a b i h2;rw[g1] at g3;have h3:i<(gI a b i).length:=by omega
     have x1:=dv (a.getD i 0) (b.getD i 0);have hs:=Fz a b i h1 h2;simp only[uD,xe,ae,aa,seval,iteOmega,toNatUp,aD,g3,g2,x1,hl,eo h3 (d8 _),ft,hs];refine aU (i+1) (by omega) (by omega) (ap (fun i=>i) ?_ ?_ rfl rfl) <;> simp only[wx,aj,ar,aa,seval,iteOmega,toNatUp]
    ·have e1:=zV a b i (by omega);rw[e1] at hl;simp only[uD,xe,e1,ae,aa,seval,iteOmega,toNatUp];exact eI (id:=1) (n:=a.length) (s:=1) (by simp only[wx,aa,seval,iteOmega,toNatUp]) (by simp only[wx,aa,seval,iteOmega,toNatUp]) (by simp[hl])
   ·have e1:=zV a b i (by omega);rw[e1] at hl;simp only[uD,xe,e1,ae,aa,seval,iteOmega,toNatUp];exact eI (id:=1) (n:=a.length) (s:=1) (by simp only[wx,aa,seval,iteOmega,toNatUp]) (by simp only[wx,aa,seval,iteOmega,toNatUp]) (by simp[hl])
theorem J5 {key b:List UInt8} (h:key.length=16) (hb:b.length=16):xJ key b=dt (am key) b:=if_pos ⟨h,hb⟩
theorem J6 {key b:List UInt8} (h:key.length=16) (hb:b.length=16):tw key b=0:=by unfold tw; rw[if_neg (by omega),if_neg (by omega)]
theorem vE (b:List UInt8):dl b 16=gY b:=rfl
def iq (key:List UInt8):D:=.agg [.sl (key.map bD),.sl ((f8 (am key)).map bD),.sl ((jk (am key)).map bD)]
def tK (key:List UInt8):D:=if key.length=16 then iq key else .agg [.sl [],.sl [],.sl []]
theorem sX (s:Nat) (l:List UInt8) (k:IntKind) (n:Int):V.flat (.tup [.c (.fr s (l.map bD)),.c (.d (.int k n))])=true:=by
  have:=fy s l;simp only[V.flat,W.flat,adB,List.all_nil,adC] at this ⊢;rw[this]; rfl
def J7:aG:=⟨2,15,.seq (.reg [oO 2 (.box .roBox (.t 0)),oO 4 (.mv (.k (.c .nil)))]) (.seq (.reg [oO 8 (.fieldAddr 0 (.t 2)),oO 9 (.load .sc (.t 8)),oM 10 1,oO 11 (.call 142 [(.t 9),(.t 10)] (some (0,1))),oM 7 11,oO 12 (.extract (.t 7) 0),oO 13 (.extract (.t 7) 1),oM 5 12,oM 6 13]) (.seq (.reg [oM 14 5,oM 4 14]) (.ret))),[(4,none)]⟩
theorem Vb:aF Tryz.prog { own:=[],comp:=[(11,0)],frz:=[],nils:=[] } Tryz.f148=some J7:=by kernel_rfl
theorem MR (G:ah) (key b:List UInt8) (h:key.length=16) (hb:b.length=16):aB Tryz.prog G 148 [.agg [.sl (key.map bD)],.sl (b.map bD)] (.w (.c (.fr 1 ((dt (am key) b).map bD)))):=by
  refine aI Tryz.func148 Vb rfl rfl ?_;have hx:=Cg G key b (by omega) (by omega);rw[J5 h hb,J6 h hb] at hx;simp only[J7,af,ae,aa,seval,iteOmega,toNatUp];refine sD (hx) ?_;exact fM
theorem XN (G:ah) (key b:List UInt8) (h:key.length=16) (hb:b.length=16):aB Tryz.prog G 148 [.agg [.sl (key.map bD)],.sl (b.map bD)] (.w (.c (.d (.sl ((dt (am key) b).map bD))))):=kW (MR G key b h hb)
def Ay:aG:=⟨1,25,.seq (.reg [oO 2 (.alloc [.nil,.nil,.nil]),oO 3 (.mv (kI 0))]) (.seq (.reg [oM 8 0,oO 9 (.make true 1 1 (.int .u8 0) (kI 16) (kI 16)),oO 10 (.call 142 [(.t 8),(.t 9)] none),oM 7 10,oO 11 (.extract (.t 7) 0),oO 12 (.extract (.t 7) 1),oM 4 11,oM 5 12]) (.seq (.seq (.reg [oM 13 5,oO 14 (.bin .neq (.t 13) (kI 0))]) (.cond (.t 14) (.seq (.reg [oO 15 (.build [.nil,.nil,.nil] []),oM 16 5,oN (.store (.ag 3) (.t 2) (.t 15)),oM 3 16]) (.ret)) (.skip))) (.seq (.reg [oM 17 4,oO 18 (.call 143 [(.t 17)] none),oM 6 18]) (.seq (.reg [oM 19 0,oO 20 (.build [.nil] [(0,1,(.t 19))]),oM 21 6,oM 22 6,oO 23 (.call 143 [(.t 22)] none),oO 24 (.build [.nil,.nil,.nil] [(0,1,(.t 20)),(1,1,(.t 21)),(2,1,(.t 23))]),oN (.store (.ag 3) (.t 2) (.t 24)),oO 3 (.mv (kI 0))]) (.ret))))),[(2,(some (.ag 3))),(3,none)]⟩
theorem Vd:aF Tryz.prog { own:=[],comp:=[],frz:=[],nils:=[] } Tryz.f133=some Ay:=by kernel_rfl
theorem XO (G:ah) (key:List UInt8) (hk:key.length≤9223372036854775807):aB Tryz.prog G 133 [.sl (key.map bD)] (.tup [.c (.d (tK key)),.c (.d (.int .i64 (oq key)))]):=by
  refine aI Tryz.func133 Vd rfl rfl ?_;have t0:(aQ 16 (0:UInt8)).take 16=dZ:=rfl;by_cases h:key.length=16
  ·have hx:=Cg G key dZ (by omega) (by decide);rw[J5 h (by decide),J6 h (by decide)] at hx;have hv:tK key=iq key:=if_pos h;have he:oq key=0:=by unfold oq; rw[if_neg (by omega)]
   have h1:=xc G (dt (am key) dZ) (by rw[iN]; decide);have h2:=xc G (f8 (am key)) (by rw[nC]; decide);have s1:dN (dt (am key) dZ)=f8 (am key):=rfl;have s2:dN (f8 (am key))=jk (am key):=rfl;rw[s1] at h1;rw[s2] at h2;rw[hv,he];simp only[Ay,af,ae,aa,seval,iteOmega,toNatUp,eX];refine bd hx (by simp only[ae,aa,seval,iteOmega,toNatUp,bw,t0,bf]) (.inr (sX _ _ _ _)) ?_;simp only[ae,aa,seval,iteOmega,toNatUp];refine sD (h1) ?_;refine sD (h2) ?_;exact dk (by simp only[ae,aa,seval,iteOmega,toNatUp,iq]) (by simp only[ae,aa,seval,iteOmega,toNatUp])
  ·have hv:tK key=.agg [.sl [],.sl [],.sl []]:=if_neg h;have he:oq key=5:=if_pos h;have hx:=Cg G key dZ (by omega) (by decide);have v1:xJ key dZ=[]:=if_neg (fun k=>h k.1);have v2:tw key dZ=5:=if_pos h;rw[v1,v2] at hx;rw[hv,he];simp only[Ay,af,ae,aa,seval,iteOmega,toNatUp,eX];refine bd hx (by simp only[ae,aa,seval,iteOmega,toNatUp,bw,t0,bf]) (.inr (sX _ _ _ _)) ?_;simp only[ae,aa,seval,iteOmega,toNatUp];exact cI
def J8:aG:=⟨1,8,.seq (.reg [oO 2 (.mv (.k (.c .nil)))]) (.seq (.reg [oM 3 0,oO 4 (.bldSl false 1 1 (.int .u8 0) [(0,(.k (.c (.d (.int .u8 128)))))]),oO 5 (.bldSl false 2 1 (.sl []) [(0,(.t 3)),(1,(.t 4))]),oO 6 (.call 50 [(.t 5)] none),oO 7 (.call 82 [(.t 6),(kI 16)] none),oM 2 7]) (.ret)),[(2,none)]⟩
theorem Ve:aF Tryz.prog { own:=[],comp:=[],frz:=[],nils:=[] } Tryz.f150=some J8:=by kernel_rfl
theorem MS (G:ah) (b:List UInt8) (hb:b.length≤70000):aB Tryz.prog G 150 [.sl (b.map bD)] (.w (.c (.d (.sl ((gY (b++[128])).map bD))))):=by
  refine aI Tryz.func150 Ve rfl rfl ?_;have hj:=fc G [b,[128]] (by simp) (by simp; omega);have hf:[b,[128]].flatten=b++[128]:=by simp
  rw[hf] at hj;have hp:=xb G (b++[128]) 16 (by simp; omega);rw[vE] at hp;simp only[J8,af,ae,aa,seval,iteOmega,toNatUp];refine sD (hj) ?_;refine sD (hp) ?_;exact aM
theorem y4 (rk:List UInt8) {e:List UInt8} (h:e.length=16):iX rk e=bJ e (f8 rk):=if_pos h
theorem y5 (rk:List UInt8) {e:List UInt8} (h:e.length≠16):iX rk e=bJ (gY (e++[128])) (jk rk):=if_neg h
def zW:aG:=⟨2,17,.seq (.reg [oO 2 (.box .roBox (.t 0)),oO 4 (.mv (.k (.c .nil)))]) (.seq (.seq (.reg [oM 5 1,oO 6 (.len (.t 5)),oO 7 (.bin .eql (.t 6) (kI 16))]) (.cond (.t 7) (.seq (.reg [oM 8 1,oO 9 (.fieldAddr 1 (.t 2)),oO 10 (.load .sc (.t 9)),oO 11 (.call 145 [(.t 8),(.t 10)] none),oM 4 11]) (.ret)) (.skip))) (.seq (.reg [oM 12 1,oO 13 (.call 150 [(.t 12)] none),oO 14 (.fieldAddr 2 (.t 2)),oO 15 (.load .sc (.t 14)),oO 16 (.call 145 [(.t 13),(.t 15)] none),oM 4 16]) (.ret))),[(4,none)]⟩
theorem TA:aF Tryz.prog { own:=[],comp:=[],frz:=[],nils:=[] } Tryz.f149=some zW:=by kernel_rfl
theorem Vf (G:ah) (key b:List UInt8) (hb:b.length≤16):aB Tryz.prog G 149 [iq key,.sl (b.map bD)] (.w (.c (.d (.sl ((iX (am key) b).map bD))))):=by
  refine aI Tryz.func149 TA rfl rfl ?_;by_cases h:b.length=16
  ·rw[y4 _ h];simp only[zW,af,iq,ae,aa,seval,iteOmega,toNatUp,h];refine sD (nW G b (f8 (am key)) h (nC _)) ?_;exact aM
  ·rw[y5 _ h];simp only[zW,af,iq,ae,aa,seval,iteOmega,toNatUp];refine sD (MS G b (by omega)) ?_;refine sD (nW G (gY (b++[128])) (jk (am key)) (oP (by omega)) (zQ _)) ?_;exact aM
def nk (key b:List UInt8):Nat→V
  | 0=>.w (.c (.own 1 1 0 16))
  | i+1=>.w (.c (.d (.sl ((dO (am key) b (i+1)).map bD))))
def sY (key b:List UInt8) (i:Nat):St:=⟨aT [(1,.w (.c (.d (.sl ((b.drop (16*i)).map bD))))),(2,.w (.c (.rp [.sl (key.map bD),.sl ((f8 (am key)).map bD),.sl ((jk (am key)).map bD)]))),(5,nk key b i)],hL [(1,.row 1 ((aQ 16 (0:UInt8)).map bD))],uL [1]⟩
theorem XP (b:List UInt8) (i:Nat):((b.drop (16*i)).drop 16).take ((b.drop (16*i)).length-16)=b.drop (16*(i+1)):=by
  rw[adE,abH (by simp only[abO]; omega)]; rfl
def rl:aS := .seq (.seq (.reg [oM 7 1,oO 8 (.len (.t 7)),oO 9 (.bin .gtr (.t 8) (kI 16))]) (.cond (.t 9) (.skip) (.exit 0))) (.block 1 (.seq (.reg [oO 10 (.fieldAddr 0 (.t 2)),oO 11 (.load (.ag 1) (.t 10)),oM 12 5,oM 13 1,oO 14 (.slice 1 (.t 13) none (some (kI 16)) none),oO 15 (.call 145 [(.t 12),(.t 14)] none),oO 16 (.call 148 [(.t 11),(.t 15)] none),oM 5 16]) (.reg [oM 17 1,oO 18 (.slice 1 (.t 17) (some (kI 16)) none none),oM 1 18])))
def J9:aG:=⟨2,27,.seq (.reg [oO 2 (.box .roBox (.t 0)),oO 4 (.mv (.k (.c .nil)))]) (.seq (.reg [oO 6 (.make true 1 1 (.int .u8 0) (kI 16) (kI 16)),oM 5 6]) (.seq (.block 0 (.loop rl)) (.seq (.reg [oO 19 (.fieldAddr 0 (.t 2)),oO 20 (.load (.ag 1) (.t 19)),oM 21 5,oO 22 (.load (.ag 3) (.t 2)),oM 23 1,oO 24 (.call 149 [(.t 22),(.t 23)] none),oO 25 (.call 145 [(.t 21),(.t 24)] none),oO 26 (.call 148 [(.t 20),(.t 25)] (some (0,1))),oM 4 26]) (.ret)))),[(4,none)]⟩
theorem Vg:aF Tryz.prog { own:=[26],comp:=[],frz:=[],nils:=[] } Tryz.f144=some J9:=by kernel_rfl
theorem wg (G:ah) (key b:List UInt8) (h:key.length=16) (hb:b.length≤70000):aB Tryz.prog G 144 [iq key,.sl (b.map bD)] (.w (.c (.fr 1 ((gg (am key) b).map bD)))):=by
  refine aI Tryz.func144 Vg rfl rfl ?_;have t0:(aQ 16 (0:UInt8)).take 16=dZ:=rfl;have hah:gz b=(b.length+15) / 16-1:=rfl;have hm:∀ i,i=gz b→gg (am key) b=dt (am key) (bJ (dO (am key) b i) (iX (am key) (b.drop (16*i)))):=fun i e=>by rw[e]; rfl
  simp only[J9,af,iq,ae,aa,seval,iteOmega,toNatUp,eX];refine ba (sY key b) (fun i=>gz b-i) (fun i=>i≤gz b) 0 (abM _) ?_ ?_
  ·refine ap (fun i=>48) ?_ ?_ rfl rfl <;> simp only[wx,aj,ar,aa,seval,iteOmega,toNatUp,nk]
  ·intro i hi;have hcl:(b.drop (16*i)).length=b.length-16*i:=abO;have hdr:=XP b i;by_cases hlt:i<gz b
   ·have hT:((b.drop (16*i)).take 16).length=16:=by rw[abN]; omega
    have hstep:dt (am key) (bJ (dO (am key) b i) ((b.drop (16*i)).take 16))=dO (am key) b (i+1):=rfl;have h1:=nW G (dO (am key) b i) ((b.drop (16*i)).take 16) (kK _ _ _) hT;have h2:=XN G key (bJ (dO (am key) b i) ((b.drop (16*i)).take 16)) h (by rw[gw,kK]);rw[hstep] at h2;rcases i with _ | i
    ·have hz:dO (am key) b 0=dZ:=rfl;rw[hz] at h1 h2;simp only[ady,acW,acR,adc] at hdr;simp only[rl,sY,nk,ae,aa,seval,iteOmega,toNatUp];refine bd h1 (by simp only[ae,aa,seval,iteOmega,toNatUp,bw,t0,bf]) (.inr (fy _ _)) ?_;simp only[ae,aa,seval,iteOmega,toNatUp];refine sC (h2) ?_;simp only[hdr,ae,aa,seval,iteOmega,toNatUp];refine aU (0+1) (by omega) (by omega) (ap (fun i=>i) ?_ ?_ rfl rfl) <;> simp only[wx,aj,ar,aa,seval,iteOmega,toNatUp,nk]
    ·simp only[rl,sY,nk,ae,aa,seval,iteOmega,toNatUp];refine sD (h1) ?_;refine sC (h2) ?_;simp only[hdr,ae,aa,seval,iteOmega,toNatUp];refine aU (i+1+1) (by omega) (by omega) (ap (fun i=>i) ?_ ?_ rfl rfl) <;> simp only[wx,aj,ar,aa,seval,iteOmega,toNatUp,nk]
   ·rw[hm i (by omega)];have hl16:(b.drop (16*i)).length≤16:=by omega
    have h1:=Vf G key (b.drop (16*i)) hl16;have h2:=nW G (dO (am key) b i) (iX (am key) (b.drop (16*i))) (kK _ _ _) (zR hl16);have h3:=MR G key (bJ (dO (am key) b i) (iX (am key) (b.drop (16*i)))) h (by rw[gw,kK]);rcases i with _ | i
    ·have hz:dO (am key) b 0=dZ:=rfl;rw[hz] at h2 h3 ⊢;simp only[rl,sY,nk,ae,aa,seval,iteOmega,toNatUp];refine sD (h1) ?_;refine bd h2 (by simp only[ae,aa,seval,iteOmega,toNatUp,bw,t0,bf]) (.inr (fy _ _)) ?_;simp only[ae,aa,seval,iteOmega,toNatUp];refine sD (h3) ?_;exact fM
    ·simp only[rl,sY,nk,ae,aa,seval,iteOmega,toNatUp];refine sD (h1) ?_;refine sD (h2) ?_;refine sD (h3) ?_;exact fM
theorem XQ (G:ah) (key b:List UInt8) (h:key.length=16) (hb:b.length≤70000):aB Tryz.prog G 144 [iq key,.sl (b.map bD)] (.w (.c (.d (.sl ((gg (am key) b).map bD))))):=kW (wg G key b h hb)
def Az:aG:=⟨2,26,.seq (.reg [oO 4 (.mv (.k (.c .nil)))]) (.seq (.reg [oM 6 0,oO 7 (.len (.t 6)),oO 8 (.bin .sub (.t 7) (kI 16)),oM 5 8]) (.seq (.seq (.reg [oM 9 5,oO 10 (.bin .lss (.t 9) (kI 0))]) (.cond (.t 10) (.seq (.reg [oM 11 1,oO 12 (.call 143 [(.t 11)] none),oM 13 0,oO 14 (.call 150 [(.t 13)] none),oO 15 (.call 145 [(.t 12),(.t 14)] none),oM 4 15]) (.ret)) (.skip))) (.seq (.reg [oM 16 0,oM 17 5,oO 18 (.slice 1 (.t 16) none (some (.t 17)) none),oM 19 0,oM 20 5,oO 21 (.slice 1 (.t 19) (some (.t 20)) none none),oM 22 1,oO 23 (.call 145 [(.t 21),(.t 22)] none),oO 24 (.bldSl false 2 1 (.sl []) [(0,(.t 18)),(1,(.t 23))]),oO 25 (.call 50 [(.t 24)] none),oM 4 25]) (.ret)))),[(4,none)]⟩
theorem Vh:aF Tryz.prog { own:=[],comp:=[],frz:=[],nils:=[] } Tryz.f146=some Az:=by kernel_rfl
theorem XR (G:ah) (s d:List UInt8) (hs:s.length≤70000) (hd:d.length=16):aB Tryz.prog G 146 [.sl (s.map bD),.sl (d.map bD)] (.w (.c (.d (.sl ((if 16≤s.length then s.take (s.length-16)++bJ (s.drop (s.length-16)) d else bJ (dN d) (gY (s++[128]))).map bD))))):=by
  refine aI Tryz.func146 Vh rfl rfl ?_;by_cases h:16≤s.length
  ·rw[if_pos h];have hl:(s.drop (s.length-16)).length=16:=by rw[abO]; omega
   have ht:(s.drop (s.length-16)).take (s.length-(s.length-16))=s.drop (s.length-16):=abH (by omega);have hj:=fc G [s.take (s.length-16),bJ (s.drop (s.length-16)) d] (by simp) (by simp[gw]; omega);have hf:[s.take (s.length-16),bJ (s.drop (s.length-16)) d].flatten=s.take (s.length-16)++bJ (s.drop (s.length-16)) d:=by simp
   rw[hf] at hj;have e1:(((s.length:Int)-16).toNat)=s.length-16:=by omega
   simp only[Az,af,ae,aa,seval,iteOmega,toNatUp,e1,ht];refine sD (nW G (s.drop (s.length-16)) d hl hd) ?_;refine sD (hj) ?_;exact aM
  ·rw[if_neg h];simp only[Az,af,ae,aa,seval,iteOmega,toNatUp];refine sD (xc G d (by omega)) ?_;refine sD (MS G s (by omega)) ?_;refine sD (nW G (dN d) (gY (s++[128])) (jU hd) (oP (by omega))) ?_;exact aM
def Ci (key:List UInt8) (l:List (List UInt8)) (i:Nat):St:=⟨aT [(1,.w (.c (.d (.sl (l.map fun l=>D.sl (l.map bD)))))),(2,.w (.c (.rp [.sl (key.map bD),.sl ((f8 (am key)).map bD),.sl ((jk (am key)).map bD)]))),(5,.w (.c (.d (.sl ((fB (am key) l i).map bD))))),(6,.w (.c (.d (.int .i64 ((l.length:Int)-1))))),(23,.w (.c (.d (.sl ((l.take (l.length-1)).map fun l=>D.sl (l.map bD)))))),(24,.w (.c (.d (.int .i64 ((l.length:Int)-1))))),(25,.w (.c (.d (.int .i64 (i:Int)))))],hL [(1,.row 1 ((aQ 16 (0:UInt8)).map bD))],uL [1]⟩
theorem FA (rk:List UInt8) {l:List (List UInt8)} (h:l.length=0):iY rk l=gg rk (au 1 16):=by
  unfold iY; rw[if_pos h]; congr 1
theorem y6 (rk:List UInt8) {l:List (List UInt8)} (h:l.length≠0):iY rk l=gg rk (if 16≤(l.getD (l.length-1) []).length then (l.getD (l.length-1) []).take ((l.getD (l.length-1) []).length-16)++bJ ((l.getD (l.length-1) []).drop ((l.getD (l.length-1) []).length-16)) (fB rk l (l.length-1)) else bJ (dN (fB rk l (l.length-1))) (gY (l.getD (l.length-1) []++[128]))):=by
  unfold iY; rw[if_neg h]; dsimp only; split <;> rfl
theorem pu {l:List (List UInt8)} {j:Nat} (h:j<l.length):l[j]?=some (l.getD j []):=by
  rw[abI,abF h]; rfl
theorem nD {l:List (List UInt8)} {j:Nat} (h:j<l.length):l.getD j []∈l:=by
  rw[abI,abF h]; exact aca h
def y7:aS := .seq (.reg [oO 26 (.bin .lss (.t 25) (.t 24))]) (.seq (.cond (.t 26) (.skip) (.exit 0)) (.seq (.block 1 (.seq (.reg [oO 27 (.idxSl 1 (.t 23) (.t 25)),oO 28 (.load .sc (.t 27)),oM 8 28]) (.reg [oM 29 5,oO 30 (.call 143 [(.t 29)] none),oO 31 (.load (.ag 3) (.t 2)),oM 32 8,oO 33 (.call 144 [(.t 31),(.t 32)] none),oO 34 (.call 145 [(.t 30),(.t 33)] none),oM 5 34]))) (.reg [oO 35 (.bin .add (.t 25) (kI 1)),oM 25 35])))
def AA:aG:=⟨2,44,.seq (.reg [oO 2 (.box .roBox (.t 0)),oO 4 (.mv (.k (.c .nil)))]) (.seq (.seq (.reg [oM 9 1,oO 10 (.len (.t 9)),oO 11 (.bin .eql (.t 10) (kI 0))]) (.cond (.t 11) (.seq (.reg [oO 12 (.load (.ag 3) (.t 2)),oO 13 (.call 81 [(.k (.c (.d (.int .u64 1)))),(kI 16)] none),oO 14 (.call 144 [(.t 12),(.t 13)] (some (0,1))),oM 4 14]) (.ret)) (.skip))) (.seq (.reg [oO 15 (.load (.ag 3) (.t 2)),oO 16 (.make true 1 1 (.int .u8 0) (kI 16) (kI 16)),oO 17 (.call 144 [(.t 15),(.t 16)] none),oM 5 17]) (.seq (.reg [oM 18 1,oO 19 (.len (.t 18)),oO 20 (.bin .sub (.t 19) (kI 1)),oM 6 20]) (.seq (.seq (.reg [oM 21 1,oM 22 6,oO 23 (.slice 1 (.t 21) none (some (.t 22)) none),oO 24 (.len (.t 23)),oO 25 (.mv (kI 0))]) (.block 0 (.loop y7))) (.seq (.reg [oO 36 (.load (.ag 3) (.t 2)),oM 37 1,
 oM 38 6,oO 39 (.idxSl 1 (.t 37) (.t 38)),oO 40 (.load .sc (.t 39)),oM 41 5,oO 42 (.call 146 [(.t 40),(.t 41)] none),oO 43 (.call 144 [(.t 36),(.t 42)] (some (0,1))),oM 4 43]) (.ret)))))),[(4,none)]⟩
theorem Vi:aF Tryz.prog { own:=[14,43],comp:=[],frz:=[],nils:=[] } Tryz.f134=some AA:=by kernel_rfl
theorem XS (G:ah) (key:List UInt8) (l:List (List UInt8)) (h:key.length=16) (hl:l.length≤17) (hb:∀ x∈l,x.length≤65535):aB Tryz.prog G 134 [iq key,.sl (l.map fun l=>D.sl (l.map bD))] (.w (.c (.fr 1 ((iY (am key) l).map bD)))):=by
  refine aI Tryz.func134 Vi rfl rfl ?_;have t0:(aQ 16 (0:UInt8)).take 16=dZ:=rfl;by_cases h0:l.length=0
  ·rw[FA _ h0];simp only[AA,af,iq,ae,aa,seval,iteOmega,toNatUp,h0];refine sD (Bf G 1 16 (by decide)) ?_;refine sD (wg G key (au 1 16) h (by rw[bP]; decide)) ?_;exact fM
  ·rw[y6 _ h0];have e1:(((l.length:Int)-1).toNat)=l.length-1:=by omega
   have e2:(l.take (l.length-1)).length=l.length-1:=by rw[abN]; omega
   have e3:((l.length-1:Nat):Int)=(l.length:Int)-1:=by omega
   simp only[AA,af,iq,ae,aa,seval,iteOmega,toNatUp,eX];refine bd (wg G key dZ h (by decide)) (by simp only[ae,aa,seval,iteOmega,toNatUp,bw,t0,bf,iq]) (.inr (fy _ _)) ?_;simp only[ae,aa,seval,iteOmega,toNatUp,e1,e2,e3,fP];refine ba (Ci key l) (fun i=>l.length-1-i) (fun i=>i≤l.length-1) 0 (abM _) ?_ ?_
   ·refine ap (fun i=>128) ?_ ?_ rfl rfl <;> simp only[wx,aj,ar,aa,seval,iteOmega,toNatUp,fB,e2,e3]
   ·intro i hi;have hd:=zS (am key) l i;by_cases hlt:i<l.length-1
    ·have g1:(l.take (l.length-1))[i]?=some (l.getD i []):=by rw[ab6,if_pos hlt,pu (by omega)]
     have hx:=hb _ (nD (l:=l) (j:=i) (by omega));have hs:bJ (dN (fB (am key) l i)) (gg (am key) (l.getD i []))=fB (am key) l (i+1):=rfl;have h1:=xc G (fB (am key) l i) (by omega);have h2:=XQ G key (l.getD i []) h (by omega);have h3:=nW G (dN (fB (am key) l i)) (gg (am key) (l.getD i [])) (jU hd) (rB _ _);rw[hs] at h3;simp only[y7,Ci,ae,aa,seval,iteOmega,toNatUp,aD,g1,e2,e3];refine sD (h1) ?_;refine sD (h2) ?_;refine sD (h3) ?_;refine aU (i+1) (by omega) (by omega) (ap (fun i=>i) ?_ ?_ rfl rfl) <;> simp only[wx,aj,ar,aa,seval,iteOmega,toNatUp]
    ·obtain rfl:i=l.length-1:=by omega
     have g1:l[l.length-1]?=some (l.getD (l.length-1) []):=pu (by omega);have hx:=hb _ (nD (l:=l) (j:=l.length-1) (by omega));have h1:=XR G (l.getD (l.length-1) []) (fB (am key) l (l.length-1)) (by omega) hd;have hcl:∀ s d:List UInt8,s.length≤65535→d.length=16→(if 16≤s.length then s.take (s.length-16)++bJ (s.drop (s.length-16)) d else bJ (dN d) (gY (s++[128]))).length≤70000:=by
       intro s d h1 h2;split
       ·rw[abJ,gw,← abJ,acl]; omega
       ·rw[gw,jU h2]; decide
     have h2:=wg G key _ h (hcl _ _ hx hd);simp only[y7,Ci,ae,aa,seval,iteOmega,toNatUp,aD,g1,e1,e3];refine sD (h1) ?_;refine sD (h2) ?_;exact fM
def k7 (l:List (List UInt8)):Bool:=l.any fun x=>decide (65535<x.length)
def qC (key:List UInt8) (l:List (List UInt8)):Int:=if key.length≠16 then 5 else if 17<l.length then 8 else if k7 l=true then 2 else 0
def tx (key:List UInt8) (l:List (List UInt8)):List UInt8:=if key.length=16∧l.length≤17∧k7 l=false then iY (am key) l else []
theorem HS {l:List (List UInt8)} (h:∀ j,j<l.length→(l.getD j []).length≤65535):k7 l=false:=by
  unfold k7;rw[ac4];intro x hx;obtain⟨j,hj,rfl⟩:=acj hx;have:=h j hj;rw[abI,abF hj] at this
  simpa using this
theorem FB {l:List (List UInt8)} {j:Nat} (hj:j<l.length) (h:65535<(l.getD j []).length):k7 l=true:=by
  unfold k7;rw[adG];exact⟨_,nD hj,decide_eq_true h⟩
theorem FC {l:List (List UInt8)} (h:k7 l=false):∀ x∈l,x.length≤65535:=by
  unfold k7 at h;rw[ac4] at h;intro x hx;have:=h x hx
  simpa using this
def xf (key:List UInt8) (l:List (List UInt8)) (i:Nat):St:=⟨aT [(1,.w (.c (.d (.sl (l.map fun l=>D.sl (l.map bD)))))),(6,.w (.c (.ptr 1 1 0 0))),(21,.w (.c (.d (.sl (l.map fun l=>D.sl (l.map bD)))))),(22,.w (.c (.d (.int .i64 (l.length:Int))))),(23,.w (.c (.d (.int .i64 (i:Int)))))],hL [(1,.box [.d (.sl (key.map bD)),.d (.sl ((f8 (am key)).map bD)),.d (.sl ((jk (am key)).map bD))])],uL [1]⟩
def uE:aS := .seq (.reg [oO 24 (.bin .lss (.t 23) (.t 22))]) (.seq (.cond (.t 24) (.skip) (.exit 0)) (.seq (.block 1 (.seq (.reg [oO 25 (.idxSl 1 (.t 21) (.t 23)),oO 26 (.load .sc (.t 25)),oM 9 26]) (.seq (.reg [oM 27 9,oO 28 (.len (.t 27)),oO 29 (.bin .gtr (.t 28) (kI 65535))]) (.cond (.t 29) (.seq (.reg [oO 4 (.mv (.k (.c .nil))),oO 5 (.mv (kI 2))]) (.ret)) (.skip))))) (.reg [oO 30 (.bin .add (.t 23) (kI 1)),oM 23 30])))
def vF:aG:=⟨2,34,.seq (.reg [oO 4 (.mv (.k (.c .nil))),oO 5 (.mv (kI 0))]) (.seq (.reg [oM 11 0,oO 12 (.call 133 [(.t 11)] none),oM 10 12,oO 13 (.extract (.t 10) 0),oO 14 (.extract (.t 10) 1),oO 6 (.alloc [.nil,.nil,.nil]),oN (.store (.ag 3) (.t 6) (.t 13)),oM 7 14]) (.seq (.seq (.reg [oM 15 7,oO 16 (.bin .neq (.t 15) (kI 0))]) (.cond (.t 16) (.seq (.reg [oM 17 7,oO 4 (.mv (.k (.c .nil))),oM 5 17]) (.ret)) (.skip))) (.seq (.seq (.reg [oM 18 1,oO 19 (.len (.t 18)),oO 20 (.bin .gtr (.t 19) (kI 17))]) (.cond (.t 20) (.seq (.reg [oO 4 (.mv (.k (.c .nil))),oO 5 (.mv (kI 8))]) (.ret)) (.skip))) (.seq (.seq (.reg [oM 21 1,oO 22 (.len (.t 21)),oO 23 (.mv (kI 0))]) (.block 0 (.loop uE))) (.seq (.reg [oO 31 (.load (.ag 3) (.t 6)),oM 32 1,oO 33 (.call 134 [(.t 31),(.t 32)] (some (0,1))),
 oM 4 33,oO 5 (.mv (kI 0))]) (.ret)))))),[(4,none),(5,none)]⟩
theorem Vj:aF Tryz.prog { own:=[33],comp:=[],frz:=[],nils:=[] } Tryz.f118=some vF:=by kernel_rfl
theorem XT (G:ah) (key:List UInt8) (l:List (List UInt8)) (hk:key.length≤9223372036854775807) (hl:l.length≤9223372036854775807) (hb:∀ x∈l,x.length≤9223372036854775807):aB Tryz.prog G 118 [.sl (key.map bD),.sl (l.map fun l=>D.sl (l.map bD))] (.tup [.c (.fr 1 ((tx key l).map bD)),.c (.d (.int .i64 (qC key l)))]):=by
  refine aI Tryz.func118 Vj rfl rfl ?_;have hx:=XO G key hk;unfold tx qC;by_cases h:key.length=16
  ·have hv:tK key=iq key:=if_pos h;have he:oq key=0:=by unfold oq; rw[if_neg (by omega)]
   rw[hv,he] at hx;by_cases h2:l.length≤17
   ·rw[if_neg (by omega:¬ key.length≠16),if_neg (by omega:¬ 17<l.length)];simp only[vF,af,ae,aa,seval,iteOmega,toNatUp];refine sC (hx) ?_;simp only[iq,ae,aa,seval,iteOmega,toNatUp];refine ba (xf key l) (fun i=>l.length-i) (fun i=>i≤l.length∧∀ j,j<i→(l.getD j []).length≤65535) 0 ⟨abM _,fun j hj=>by omega⟩ ?_ ?_
    ·refine ap (fun i=>48) ?_ ?_ rfl rfl <;> simp only[wx,aj,ar,aa,seval,iteOmega,toNatUp]
    ·rintro i ⟨hi,hok⟩;by_cases hlt:i<l.length
     ·have g1:=pu hlt;have hx:=hb _ (nD hlt);by_cases hlong:65535<(l.getD i []).length
      ·have hL:=FB hlt hlong;rw[hL,if_neg (by simp),if_pos rfl];simp only[uE,xf,ae,aa,seval,iteOmega,toNatUp,aD,g1];exact cm
      ·simp only[uE,xf,ae,aa,seval,iteOmega,toNatUp,aD,g1];refine aU (i+1) (by omega) ⟨by omega,fun j hj=>?_⟩ (ap (fun i=>i) ?_ ?_ rfl rfl)
       ·rcases ab1 j i with h | h
        ·exact hok j h
        ·obtain rfl:j=i:=by omega
         omega
       all_goals simp only[wx,aj,ar,aa,seval,iteOmega,toNatUp]
     ·have hL:=HS (l:=l) (fun j hj=>hok j (by omega));rw[hL,if_pos ⟨h,h2,rfl⟩,if_neg (by simp)];simp only[uE,xf,ae,aa,seval,iteOmega,toNatUp];refine sD (XS G key l h h2 (FC hL)) ?_;exact cm
   ·rw[if_neg (by omega),if_neg (by omega),if_pos (by omega)];have h3:17<l.length:=by omega
    simp only[vF,af,ae,aa,seval,iteOmega,toNatUp];refine sC (hx) ?_;simp only[iq,ae,aa,seval,iteOmega,toNatUp];exact cm
  ·have hv:tK key=.agg [.sl [],.sl [],.sl []]:=if_neg h;have he:oq key=5:=if_pos h;rw[hv,he] at hx;rw[if_neg (by omega),if_pos h];simp only[vF,af,ae,aa,seval,iteOmega,toNatUp];refine sD (hx) ?_;exact cm
set_option maxHeartbeats 6400000
theorem uF (key b:List UInt8):j8 key b=dt (am key) b:=rfl
def jq (key b:List UInt8):Nat→V
  | 0=>.w (.c (.own 1 1 0 16))
  | i+1=>.w (.c (.d (.sl ((dO (am key) b (i+1)).map bD))))
def k9 (key b:List UInt8) (last:Int) (i:Nat):St:=⟨aT [(1,.w (.c (.d (.sl (b.map bD))))),(2,.w (.c (.rp ((dd key).map bD)))),(5,.w (.c (.d (.sl ((f8 (am key)).map bD))))),(6,.w (.c (.d (.int .i64 last)))),(7,jq key b i),(8,.w (.c (.d (.int .i64 ((16*i:Nat):Int)))))],hL [(1,.row 1 ((aQ 16 (0:UInt8)).map bD))],uL [1]⟩
theorem Ka (b:List UInt8) (i:Nat):(b.drop (16*i)).take (16*i+16-16*i)=(b.drop (16*i)).take 16:=by rw[show 16*i+16-16*i=16 by omega]
def lG:aS := .seq (.seq (.reg [oM 24 8,oM 25 6,oO 26 (.bin .lss (.t 24) (.t 25))]) (.cond (.t 26) (.skip) (.exit 0))) (.seq (.block 1 (.reg [oO 29 (.load (.ag 688) (.t 2)),oM 30 7,oM 31 1,oM 32 8,oM 33 8,oO 34 (.bin .add (.t 33) (kI 16)),oO 35 (.slice 1 (.t 31) (some (.t 32)) (some (.t 34)) none),oO 36 (.call 127 [(.t 30),(.t 35)] none),oO 37 (.call 111 [(.t 29),(.t 36)] none),oM 7 37])) (.reg [oM 27 8,oO 28 (.bin .add (.t 27) (kI 16)),oM 8 28]))
def Kb:aG:=⟨2,61,.seq (.reg [oO 2 (.box .roBox (.t 0)),oO 4 (.mv (.k (.c .nil)))]) (.seq (.reg [oO 10 (.load (.ag 688) (.t 2)),oO 11 (.make true 1 1 (.int .u8 0) (kI 16) (kI 16)),oO 12 (.call 111 [(.t 10),(.t 11)] none),oO 13 (.call 128 [(.t 12)] none),oM 5 13]) (.seq (.reg [oM 14 1,oO 15 (.len (.t 14)),oO 16 (.bin .add (.t 15) (kI 15)),oO 17 (.bin .quo (.t 16) (kI 16)),oO 18 (.bin .mul (.t 17) (kI 16)),oO 19 (.bin .sub (.t 18) (kI 16)),oM 6 19]) (.seq (.seq (.reg [oM 20 1,oO 21 (.len (.t 20)),oO 22 (.bin .eql (.t 21) (kI 0))]) (.cond (.t 22) (.reg [oO 6 (.mv (kI 0))]) (.skip))) (.seq (.reg [oO 23 (.make true 1 1 (.int .u8 0) (kI 16) (kI 16)),oM 7 23]) (.seq (.seq (.reg [oO 8 (.mv (kI 0))]) (.block 0 (.loop lG))) (.seq (.reg [oM 38 1,oM 39 6,oO 40 (.slice 1 (.t 38) (some (.t 39)) none none),
 oO 41 (.bldSl false 1 1 (.sl []) [(0,(.t 40))]),oO 42 (.call 41 [(.t 41)] (some (0,1))),oM 9 42]) (.seq (.seq (.reg [oM 43 9,oO 44 (.len (.t 43)),oO 45 (.bin .eql (.t 44) (kI 16))]) (.cond (.t 45) (.reg [oM 46 9,oM 47 5,oO 48 (.call 127 [(.t 46),(.t 47)] none),oM 9 48]) (.reg [oM 49 9,oO 50 (.bldSl false 1 1 (.int .u8 0) [(0,(.k (.c (.d (.int .u8 128)))))]),oO 51 (.app false 1 1 (.t 49) (.t 50)),oO 52 (.call 90 [(.t 51),(kI 16)] none),oM 53 5,oO 54 (.call 128 [(.t 53)] none),oO 55 (.call 127 [(.t 52),(.t 54)] none),oM 9 55]))) (.seq (.reg [oO 56 (.load (.ag 688) (.t 2)),oM 57 7,oM 58 9,oO 59 (.call 127 [(.t 57),(.t 58)] none),oO 60 (.call 111 [(.t 56),(.t 59)] (some (0,1))),oM 4 60]) (.ret))))))))),[(4,none)]⟩
theorem Vk:aF Tryz.prog { own:=[42,60],comp:=[],frz:=[],nils:=[] } Tryz.f126=some Kb:=by kernel_rfl
set_option maxRecDepth 20000 in
theorem sE (G:ah) (key b:List UInt8) (h:key.length=16) (hb:b.length≤70000):aB Tryz.prog G 126 [.agg ((dd key).map bD),.sl (b.map bD)] (.w (.c (.fr 1 ((gg (am key) b).map bD)))):=by
  refine aI Tryz.func126 Vk rfl rfl ?_;have t0:(aQ 16 (0:UInt8)).take 16=dZ:=rfl;have hM:=uA h;have t1:(dd key).take 688=dd key:=abH (by omega);have hah:gz b=(b.length+15) / 16-1:=rfl;have hm:∀ i,i=gz b→gg (am key) b=dt (am key) (bJ (dO (am key) b i) (iX (am key) (b.drop (16*i)))):=fun i e=>by rw[e]; rfl
  have hr0:=sy G key dZ h (by decide);have h1:=sB G (dt (am key) dZ) (by rw[iN]; decide);have s1:dN (dt (am key) dZ)=f8 (am key):=rfl;rw[s1] at h1;rw[uF] at hr0;have td:Int.tdiv ((b.length:Int)+15) 16=(((b.length+15) / 16:Nat):Int):=rfl;have step:∀ i,i<gz b→((b.drop (16*i)).take 16).length=16:=fun i hi=>by rw[abN,abO]; omega
  simp only[Kb,af,ae,aa,seval,iteOmega,toNatUp,eX,zN,cy,hM,bw,t1];refine bd hr0 (by simp only[ae,aa,seval,iteOmega,toNatUp,bw,t0,bf]) (.inr (fy _ _)) ?_;simp only[ae,aa,seval,iteOmega,toNatUp];refine sC (h1) ?_;simp only[td,eX,ae,aa,seval,iteOmega,toNatUp];by_cases hb0:b.length=0
  ·have hz0:gz b=0:=by omega
   simp only[ae,aa,seval,iteOmega,toNatUp,eX];refine ba (k9 key b (0)) (fun i=>gz b-i) (fun i=>i≤gz b) 0 (abM _) ?_ ?_
   ·refine ap (fun i=>184) ?_ ?_ rfl rfl <;> simp only[wx,aj,ar,aa,seval,iteOmega,toNatUp,jq]
   ·intro i hi;have hcl:(b.drop (16*i)).length=b.length-16*i:=abO;have hsl:=Ka b i;by_cases hlt:i<gz b
    ·exact absurd hlt (by omega)
    ·rw[hm i (by omega)];have hie:16*(gz b:Int)=16*(i:Int):=by omega
     have hl16:(b.drop (16*i)).length≤16:=by omega
     have ht:(b.drop (16*i)).take (b.length-16*i)=b.drop (16*i):=abH (by omega);have toN:(0:Int).toNat=16*i:=by omega
     have e1:=fR G [b.drop (16*i)] (by simp) (by simp; omega);have hf:[b.drop (16*i)].flatten=b.drop (16*i):=by simp
     rw[hf] at e1;have k1:=kX G (dO (am key) b i) (iX (am key) (b.drop (16*i))) (by rw[kK]; decide) (by rw[zR hl16]; decide);have k2:=sy G key (bJ (dO (am key) b i) (iX (am key) (b.drop (16*i)))) h (by rw[gw,kK]);rw[uF] at k2;have ht2:(b.drop (16*i)).take b.length=b.drop (16*i):=abH (by omega);generalize hc:b.drop (16*i)=c at *
     have tc:c.take c.length=c:=ab8;by_cases h16:c.length=16
     ·have tc16:c.take 16=c:=by rw[← h16]; exact tc
      have q1:=kX G c (f8 (am key)) (by omega) (by rw[nC]; decide);rw[y4 _ h16] at k1 k2 ⊢;rcases i with _ | i
      ·have hz:dO (am key) b 0=dZ:=rfl;rw[hz] at k1 k2 ⊢;simp only[lG,k9,jq,ae,aa,seval,iteOmega,toNatUp,toN,hc,ht,ht2];refine sC (e1) ?_;simp only[h16,ae,aa,seval,iteOmega,toNatUp];refine bd q1 (by simp only[ae,aa,seval,iteOmega,toNatUp,bw,tc16,h16]) (.inr (fy _ _)) ?_;simp only[ae,aa,seval,iteOmega,toNatUp,cy,hM,bw,t1];refine bd k1 (by simp only[ae,aa,seval,iteOmega,toNatUp,bw,t0,bf]) (.inr (fy _ _)) ?_;simp only[ae,aa,seval,iteOmega,toNatUp];refine sD (k2) ?_;exact fM
      ·exact absurd hi (by omega)
     ·have p1:=sA G (c++[128]) 16 (by simp; omega);rw[vE] at p1;have p2:=sB G (f8 (am key)) (by rw[nC]; decide);have s2:dN (f8 (am key))=jk (am key):=rfl;rw[s2] at p2;have p3:=kX G (gY (c++[128])) (jk (am key)) (by rw[oP (by omega)]; decide) (by rw[zQ]; decide);have b128:c.map bD++[D.int .u8 128]=(c++[128]).map bD:=by rw[abT]; rfl
      have tc2:(c++[128]).take (c.length+1)=c++[128]:=abH (by simp);rw[y5 _ h16] at k1 k2 ⊢;have lc:(c++[(128:UInt8)]).length=c.length+1:=by simp
      rcases i with _ | i
      ·have hz:dO (am key) b 0=dZ:=rfl;rw[hz] at k1 k2 ⊢;simp only[lG,k9,jq,ae,aa,seval,iteOmega,toNatUp,toN,hc,ht,ht2];refine sC (e1) ?_;simp only[bQ,b128,ae,aa,seval,iteOmega,toNatUp];refine bd p1 (by simp only[ae,aa,seval,iteOmega,toNatUp,bw,tc2,lc]) (.inr (fy _ _)) ?_;simp only[ae,aa,seval,iteOmega,toNatUp];refine sD (p2) ?_;refine sC (p3) ?_;simp only[cy,hM,bw,t1,ae,aa,seval,iteOmega,toNatUp];refine bd k1 (by simp only[ae,aa,seval,iteOmega,toNatUp,bw,t0,bf]) (.inr (fy _ _)) ?_;simp only[ae,aa,seval,iteOmega,toNatUp];refine sD (k2) ?_;exact fM
      ·exact absurd hi (by omega)
  ·have hp:0<b.length:=by omega
   simp only[ae,aa,seval,iteOmega,toNatUp,eX];refine ba (k9 key b (((((b.length+15) / 16:Nat):Int)*16-16))) (fun i=>gz b-i) (fun i=>i≤gz b) 0 (abM _) ?_ ?_
   ·refine ap (fun i=>184) ?_ ?_ rfl rfl <;> simp only[wx,aj,ar,aa,seval,iteOmega,toNatUp,jq]
   ·intro i hi;have hcl:(b.drop (16*i)).length=b.length-16*i:=abO;have hsl:=Ka b i;by_cases hlt:i<gz b
    ·have hT:=step i hlt;have hstep:dt (am key) (bJ (dO (am key) b i) ((b.drop (16*i)).take 16))=dO (am key) b (i+1):=rfl;have k1:=kX G (dO (am key) b i) ((b.drop (16*i)).take 16) (by rw[kK]; decide) (by omega);have k2:=sy G key (bJ (dO (am key) b i) ((b.drop (16*i)).take 16)) h (by rw[gw,kK]);rw[uF,hstep] at k2;rcases i with _ | i
     ·have hz:dO (am key) b 0=dZ:=rfl;rw[hz] at k1 k2;simp only[ady,acW,acR,Nat.sub_zero] at hsl;simp only[lG,k9,jq,ae,aa,seval,iteOmega,toNatUp,cy,hM,bw,t1,hsl];refine bd k1 (by simp only[ae,aa,seval,iteOmega,toNatUp,bw,t0,bf]) (.inr (fy _ _)) ?_;simp only[ae,aa,seval,iteOmega,toNatUp];refine sD (k2) ?_;refine aU (0+1) (by omega) (by omega) (ap (fun i=>i) ?_ ?_ rfl rfl) <;> simp only[wx,aj,ar,aa,seval,iteOmega,toNatUp,jq]
     ·simp only[lG,k9,jq,ae,aa,seval,iteOmega,toNatUp,cy,hM,bw,t1,hsl];refine sD (k1) ?_;refine sD (k2) ?_;refine aU (i+1+1) (by omega) (by omega) (ap (fun i=>i) ?_ ?_ rfl rfl) <;> simp only[wx,aj,ar,aa,seval,iteOmega,toNatUp,jq];rw[show (16*((i:Int)+1)+16)=16*((i:Int)+1+1) by omega]
    ·rw[hm i (by omega)];have hie:16*(gz b:Int)=16*(i:Int):=by omega
     have hl16:(b.drop (16*i)).length≤16:=by omega
     have ht:(b.drop (16*i)).take (b.length-16*i)=b.drop (16*i):=abH (by omega);have toN:(((((b.length+15) / 16:Nat):Int)*16-16):Int).toNat=16*i:=by omega
     have e1:=fR G [b.drop (16*i)] (by simp) (by simp; omega);have hf:[b.drop (16*i)].flatten=b.drop (16*i):=by simp
     rw[hf] at e1;have k1:=kX G (dO (am key) b i) (iX (am key) (b.drop (16*i))) (by rw[kK]; decide) (by rw[zR hl16]; decide);have k2:=sy G key (bJ (dO (am key) b i) (iX (am key) (b.drop (16*i)))) h (by rw[gw,kK]);rw[uF] at k2;have ht2:(b.drop (16*i)).take b.length=b.drop (16*i):=abH (by omega);generalize hc:b.drop (16*i)=c at *
     have tc:c.take c.length=c:=ab8;by_cases h16:c.length=16
     ·have tc16:c.take 16=c:=by rw[← h16]; exact tc
      have q1:=kX G c (f8 (am key)) (by omega) (by rw[nC]; decide);rw[y4 _ h16] at k1 k2 ⊢;rcases i with _ | i
      ·have hz:dO (am key) b 0=dZ:=rfl;rw[hz] at k1 k2 ⊢;simp only[lG,k9,jq,ae,aa,seval,iteOmega,toNatUp,toN,hc,ht,ht2];refine sC (e1) ?_;simp only[h16,ae,aa,seval,iteOmega,toNatUp];refine bd q1 (by simp only[ae,aa,seval,iteOmega,toNatUp,bw,tc16,h16]) (.inr (fy _ _)) ?_;simp only[ae,aa,seval,iteOmega,toNatUp,cy,hM,bw,t1];refine bd k1 (by simp only[ae,aa,seval,iteOmega,toNatUp,bw,t0,bf]) (.inr (fy _ _)) ?_;simp only[ae,aa,seval,iteOmega,toNatUp];refine sD (k2) ?_;exact fM
      ·simp only[lG,k9,jq,ae,aa,seval,iteOmega,toNatUp,toN,hc,ht,ht2];refine sC (e1) ?_;simp only[h16,ae,aa,seval,iteOmega,toNatUp];refine bd q1 (by simp only[ae,aa,seval,iteOmega,toNatUp,bw,tc16,h16]) (.inr (fy _ _)) ?_;simp only[ae,aa,seval,iteOmega,toNatUp,cy,hM,bw,t1];refine sD (k1) ?_;refine sD (k2) ?_;exact fM
     ·have p1:=sA G (c++[128]) 16 (by simp; omega);rw[vE] at p1;have p2:=sB G (f8 (am key)) (by rw[nC]; decide);have s2:dN (f8 (am key))=jk (am key):=rfl;rw[s2] at p2;have p3:=kX G (gY (c++[128])) (jk (am key)) (by rw[oP (by omega)]; decide) (by rw[zQ]; decide);have b128:c.map bD++[D.int .u8 128]=(c++[128]).map bD:=by rw[abT]; rfl
      have tc2:(c++[128]).take (c.length+1)=c++[128]:=abH (by simp);rw[y5 _ h16] at k1 k2 ⊢;have lc:(c++[(128:UInt8)]).length=c.length+1:=by simp
      rcases i with _ | i
      ·have hz:dO (am key) b 0=dZ:=rfl;rw[hz] at k1 k2 ⊢;simp only[lG,k9,jq,ae,aa,seval,iteOmega,toNatUp,toN,hc,ht,ht2];refine sC (e1) ?_;simp only[bQ,b128,ae,aa,seval,iteOmega,toNatUp];refine bd p1 (by simp only[ae,aa,seval,iteOmega,toNatUp,bw,tc2,lc]) (.inr (fy _ _)) ?_;simp only[ae,aa,seval,iteOmega,toNatUp];refine sD (p2) ?_;refine sC (p3) ?_;simp only[cy,hM,bw,t1,ae,aa,seval,iteOmega,toNatUp];refine bd k1 (by simp only[ae,aa,seval,iteOmega,toNatUp,bw,t0,bf]) (.inr (fy _ _)) ?_;simp only[ae,aa,seval,iteOmega,toNatUp];refine sD (k2) ?_;exact fM
      ·simp only[lG,k9,jq,ae,aa,seval,iteOmega,toNatUp,toN,hc,ht,ht2];refine sC (e1) ?_;simp only[bQ,b128,ae,aa,seval,iteOmega,toNatUp];refine bd p1 (by simp only[ae,aa,seval,iteOmega,toNatUp,bw,tc2,lc]) (.inr (fy _ _)) ?_;simp only[ae,aa,seval,iteOmega,toNatUp];refine sD (p2) ?_;refine sC (p3) ?_;simp only[cy,hM,bw,t1,ae,aa,seval,iteOmega,toNatUp];refine sD (k1) ?_;refine sD (k2) ?_;exact fM
theorem XU (G:ah) (key b:List UInt8) (h:key.length=16) (hb:b.length≤70000):aB Tryz.prog G 126 [.agg ((dd key).map bD),.sl (b.map bD)] (.w (.c (.d (.sl ((gg (am key) b).map bD))))):=kW (sE G key b h hb)
def xg (key:List UInt8) (l:List (List UInt8)) (i:Nat):St:=⟨aT [(0,.w (.c (.d (.sl (key.map bD))))),(1,.w (.c (.d (.sl (l.map fun l=>D.sl (l.map bD)))))),(6,.w (.c (.d (.int .i64 (i:Int)))))],hL [],uL []⟩
def xh (key:List UInt8) (l:List (List UInt8)) (i:Nat):St:=⟨aT [(1,.w (.c (.d (.sl (l.map fun l=>D.sl (l.map bD)))))),(7,.w (.c (.ptr 2 1 0 0))),(9,.w (.c (.d (.sl ((fB (am key) l i).map bD))))),(10,.w (.c (.d (.int .i64 (i:Int)))))],hL [(1,.row 1 ((aQ 16 (0:UInt8)).map bD)),(2,.box ((dd key).map bC))],uL [1,2]⟩
theorem aac:(aQ 16 (0:UInt8)).set 15 1=au 1 16:=by decide
theorem RY (rk:List UInt8) {l:List (List UInt8)} {s d:List UInt8} (h:l.length≠0) (hs:l.getD (l.length-1) []=s) (hd:fB rk l (l.length-1)=d) (h16:16≤s.length):iY rk l=gg rk (s.take (s.length-16)++bJ (s.drop (s.length-16)) d):=by
  rw[y6 rk h,hs,hd,if_pos h16]
theorem QT (rk:List UInt8) {l:List (List UInt8)} {s d:List UInt8} (h:l.length≠0) (hs:l.getD (l.length-1) []=s) (hd:fB rk l (l.length-1)=d) (h16:s.length<16):iY rk l=gg rk (bJ (dN d) (gY (s++[128]))):=by
  rw[y6 rk h,hs,hd,if_neg (by omega)]
def t8:aS := .seq (.seq (.reg [oM 19 6,oM 20 1,oO 21 (.len (.t 20)),oO 22 (.bin .lss (.t 19) (.t 21))]) (.cond (.t 22) (.skip) (.exit 0))) (.seq (.block 1 (.seq (.reg [oM 25 1,oM 26 6,oO 27 (.idxSl 1 (.t 25) (.t 26)),oO 28 (.load .sc (.t 27)),oO 29 (.len (.t 28)),oO 30 (.bin .gtr (.t 29) (kI 65535))]) (.cond (.t 30) (.seq (.reg [oO 4 (.mv (.k (.c .nil))),oO 5 (.mv (kI 2))]) (.ret)) (.skip)))) (.reg [oM 23 6,oO 24 (.bin .add (.t 23) (kI 1)),oM 6 24]))
def t9:aS := .seq (.seq (.reg [oM 45 10,oM 46 1,oO 47 (.len (.t 46)),oO 48 (.bin .sub (.t 47) (kI 1)),oO 49 (.bin .lss (.t 45) (.t 48))]) (.cond (.t 49) (.skip) (.exit 2))) (.seq (.block 3 (.reg [oM 52 9,oO 53 (.call 128 [(.t 52)] none),oO 54 (.loadB (.ag 688) (.t 7)),oM 55 1,oM 56 10,oO 57 (.idxSl 1 (.t 55) (.t 56)),oO 58 (.load .sc (.t 57)),oO 59 (.call 126 [(.t 54),(.t 58)] none),oO 60 (.call 127 [(.t 53),(.t 59)] none),oM 9 60])) (.reg [oM 50 10,oO 51 (.bin .add (.t 50) (kI 1)),oM 10 51]))
def vf:aG:=⟨2,96,.seq (.reg [oO 4 (.mv (.k (.c .nil))),oO 5 (.mv (kI 0))]) (.seq (.seq (.reg [oM 13 0,oO 14 (.len (.t 13)),oO 15 (.bin .neq (.t 14) (kI 16))]) (.cond (.t 15) (.seq (.reg [oO 4 (.mv (.k (.c .nil))),oO 5 (.mv (kI 5))]) (.ret)) (.skip))) (.seq (.seq (.reg [oM 16 1,oO 17 (.len (.t 16)),oO 18 (.bin .gtr (.t 17) (kI 17))]) (.cond (.t 18) (.seq (.reg [oO 4 (.mv (.k (.c .nil))),oO 5 (.mv (kI 8))]) (.ret)) (.skip))) (.seq (.seq (.reg [oO 6 (.mv (kI 0))]) (.block 0 (.loop t8))) (.seq (.reg [oM 31 0,oO 32 (.call 110 [(.t 31)] none),oO 7 (.alloc (aQ 688 (.d (.int .u8 0)))),oN (.store (.ag 688) (.t 7) (.t 32))]) (.seq (.reg [oO 33 (.make true 1 1 (.int .u8 0) (kI 16) (kI 16)),oM 8 33]) (.seq (.seq (.reg [oM 34 1,oO 35 (.len (.t 34)),oO 36 (.bin .eql (.t 35) (kI 0))]) (.cond (.t 36) (.seq (.reg [oM 37 8,
 oO 38 (.idxSl 1 (.t 37) (kI 15)),oN (.store .sc (.t 38) (.k (.c (.d (.int .u8 1)))))]) (.seq (.reg [oO 39 (.loadB (.ag 688) (.t 7)),oM 40 8,oO 41 (.call 126 [(.t 39),(.t 40)] (some (0,1))),oM 4 41,oO 5 (.mv (kI 0))]) (.ret))) (.skip))) (.seq (.reg [oO 42 (.loadB (.ag 688) (.t 7)),oM 43 8,oO 44 (.call 126 [(.t 42),(.t 43)] none),oM 9 44]) (.seq (.seq (.reg [oO 10 (.mv (kI 0))]) (.block 2 (.loop t9))) (.seq (.reg [oM 61 1,oM 62 1,oO 63 (.len (.t 62)),oO 64 (.bin .sub (.t 63) (kI 1)),oO 65 (.idxSl 1 (.t 61) (.t 64)),oO 66 (.load .sc (.t 65)),oM 11 66]) (.seq (.seq (.reg [oM 67 11,oO 68 (.len (.t 67)),oO 69 (.bin .geq (.t 68) (kI 16))]) (.cond (.t 69) (.seq (.reg [oM 70 11,oO 71 (.len (.t 70)),oO 72 (.bin .sub (.t 71) (kI 16)),oM 12 72]) (.seq (.reg [oO 73 (.loadB (.ag 688) (.t 7)),oM 74 11,
 oM 75 12,oO 76 (.slice 1 (.t 74) none (some (.t 75)) none),oM 77 11,oM 78 12,oO 79 (.slice 1 (.t 77) (some (.t 78)) none none),oM 80 9,oO 81 (.call 127 [(.t 79),(.t 80)] none),oO 82 (.bldSl false 2 1 (.sl []) [(0,(.t 76)),(1,(.t 81))]),oO 83 (.call 41 [(.t 82)] none),oO 84 (.call 126 [(.t 73),(.t 83)] (some (0,1))),oM 4 84,oO 5 (.mv (kI 0))]) (.ret))) (.skip))) (.seq (.reg [oO 85 (.loadB (.ag 688) (.t 7)),oM 86 9,oO 87 (.call 128 [(.t 86)] none),oM 88 11,oO 89 (.bldSl false 1 1 (.sl []) [(0,(.t 88))]),oO 90 (.call 41 [(.t 89)] (some (0,1))),oO 91 (.bldSl false 1 1 (.int .u8 0) [(0,(.k (.c (.d (.int .u8 128)))))]),oO 92 (.app false 1 1 (.t 90) (.t 91)),oO 93 (.call 90 [(.t 92),(kI 16)] none),oO 94 (.call 127 [(.t 87),(.t 93)] none),oO 95 (.call 126 [(.t 85),(.t 94)] (some (0,1))),oM 4 95,oO 5 (.mv (kI 0))])
 (.ret)))))))))))),[(4,none),(5,none)]⟩
theorem TB:aF Tryz.prog { own:=[41,84,90,95],comp:=[],frz:=[],nils:=[],bx:=[39,42,54,73,85] } Tryz.f109=some vf:=by kernel_rfl
set_option maxRecDepth 20000 in
theorem Vl (G:ah) (key:List UInt8) (l:List (List UInt8)) (hk:key.length≤9223372036854775807) (hl:l.length≤9223372036854775807) (hb:∀ x∈l,x.length≤9223372036854775807):aB Tryz.prog G 109 [.sl (key.map bD),.sl (l.map fun l=>D.sl (l.map bD))] (.tup [.c (.fr 1 ((tx key l).map bD)),.c (.d (.int .i64 (qC key l)))]):=by
  refine aI Tryz.func109 TB rfl rfl ?_;unfold tx qC;by_cases h:key.length=16
  ·by_cases h2:l.length≤17
   ·rw[if_neg (by omega:¬ key.length≠16),if_neg (by omega:¬ 17<l.length)];simp only[vf,af,ae,aa,seval,iteOmega,toNatUp];refine ba (xg key l) (fun i=>l.length-i) (fun i=>i≤l.length∧∀ j,j<i→(l.getD j []).length≤65535) 0 ⟨abM _,fun j hj=>by omega⟩ ?_ ?_
    ·refine ap (fun i=>0) ?_ ?_ rfl rfl <;> simp only[wx,aj,ar,aa,seval,iteOmega,toNatUp] <;> rfl
    ·rintro i ⟨hi,hok⟩;by_cases hlt:i<l.length
     ·have g1:=pu hlt;have hx:=hb _ (nD hlt);by_cases hlong:65535<(l.getD i []).length
      ·have hL:=FB hlt hlong;rw[hL,if_neg (by simp),if_pos rfl];simp only[t8,xg,ae,aa,seval,iteOmega,toNatUp,aD,g1];exact cm
      ·simp only[t8,xg,ae,aa,seval,iteOmega,toNatUp,aD,g1];refine aU (i+1) (by omega) ⟨by omega,fun j hj=>?_⟩ (ap (fun i=>i) ?_ ?_ rfl rfl)
       ·rcases ab1 j i with h | h
        ·exact hok j h
        ·obtain rfl:j=i:=by omega
         omega
       all_goals simp only[wx,aj,ar,aa,seval,iteOmega,toNatUp]
     ·have hL:=HS (l:=l) (fun j hj=>hok j (by omega));rw[hL,if_pos ⟨h,h2,rfl⟩,if_neg (by simp)];have hall:=FC hL;have hM:=uA h;have r4:List.drop 688 (aQ 688 (0:UInt8))=[]:=acw (by rw[bf]; omega);have t0:(aQ 16 (0:UInt8)).take 16=dZ:=rfl;have t1:(dd key).take 688=dd key:=abH (by omega);simp only[t8,xg,ae,aa,seval,iteOmega,toNatUp,rN];have k0:=sE G key dZ h (by decide);by_cases h0:l.length=0
      ·rw[FA _ h0];have z3:15<(aQ 16 (0:UInt8)).length:=by rw[bf]; decide
       have z4:((aQ 16 (0:UInt8)).map bD).set 15 (D.int .u8 1)=(au 1 16).map bD:=by rw[← aac]; exact nI bD _ 15 1
       have z5:(au 1 16).take 16=au 1 16:=abH (by rw[bP]; decide);have z6:(au 1 16).length=16:=bP _ _;refine sC (Bq G key h) ?_;simp only[cy,hM,bf,jC,eS,ic,r4,abP,eX,eo z3 (Al _ _),z4,bw,t1,iy,ae,aa,seval,iteOmega,toNatUp];have k1:=sE G key (au 1 16) h (by rw[bP]; decide);refine bd k1 (by simp only[ae,aa,seval,iteOmega,toNatUp,bw,z5,bf]) (.inr (fy _ _)) ?_;simp only[ae,aa,seval,iteOmega,toNatUp];exact cm
      ·refine sC (Bq G key h) ?_;simp only[cy,hM,bf,jC,eS,ic,r4,abP,eX,bw,t1,iy,ae,aa,seval,iteOmega,toNatUp];refine bd k0 (by simp only[ae,aa,seval,iteOmega,toNatUp,bw,t0,bf]) (.inr (fy _ _)) ?_;simp only[ae,aa,seval,iteOmega,toNatUp];refine ba (xh key l) (fun i=>l.length-1-i) (fun i=>i≤l.length-1) 0 (abM _) ?_ ?_
       ·refine ap (fun i=>if i=1 then 264 else 56) ?_ ?_ rfl (by simp[V.ids,W.ids,C.ids,Ob.ids,cb]) <;> simp only[wx,aj,ar,aa,seval,iteOmega,toNatUp,fq,cb,fB] <;> rfl
       ·intro i hi;have hd:=zS (am key) l i;by_cases hlt:i<l.length-1
        ·have g1:=pu (l:=l) (j:=i) (by omega);have hx:=hall _ (nD (l:=l) (j:=i) (by omega));have hs:bJ (dN (fB (am key) l i)) (gg (am key) (l.getD i []))=fB (am key) l (i+1):=rfl;have h1:=sB G (fB (am key) l i) (by omega);have h2:=XU G key (l.getD i []) h (by omega);have h3:=kX G (dN (fB (am key) l i)) (gg (am key) (l.getD i [])) (by rw[jU hd]; decide) (by rw[rB]; decide);rw[hs] at h3;simp only[t9,xh,ae,aa,seval,iteOmega,toNatUp,cy,hM,bw,t1,iy,aD,g1];refine sC (h1) ?_;simp only[cy,hM,bw,t1,iy,aD,g1,ae,aa,seval,iteOmega,toNatUp];refine sD (h2) ?_;refine sD (h3) ?_;refine aU (i+1) (by omega) (by omega) (ap (fun i=>i) ?_ ?_ rfl (by simp[V.ids,W.ids,C.ids,Ob.ids,cb])) <;> simp only[wx,aj,ar,aa,seval,iteOmega,toNatUp,fq,cb]
        ·obtain rfl:i=l.length-1:=by omega
         have g1:=pu (l:=l) (j:=l.length-1) (by omega);have hx:=hall _ (nD (l:=l) (j:=l.length-1) (by omega));have e1:(((l.length:Int)-1).toNat)=l.length-1:=by omega
         generalize hs:l.getD (l.length-1) []=s at *
         generalize hdd:fB (am key) l (l.length-1)=d at *
         have e2:(((s.length:Int)-16).toNat)=s.length-16:=by omega
         by_cases h16:16≤s.length
         ·rw[RY _ h0 hs hdd h16];have hl:(s.drop (s.length-16)).length=16:=by rw[abO]; omega
          have ht:(s.drop (s.length-16)).take (s.length-(s.length-16))=s.drop (s.length-16):=abH (by omega);have hj:=fR G [s.take (s.length-16),bJ (s.drop (s.length-16)) d] (by simp) (by simp[gw]; omega);have hf:[s.take (s.length-16),bJ (s.drop (s.length-16)) d].flatten=s.take (s.length-16)++bJ (s.drop (s.length-16)) d:=by simp
          rw[hf] at hj;have k3:=sE G key (s.take (s.length-16)++bJ (s.drop (s.length-16)) d) h (by rw[abJ,gw,← abJ,acl]; omega);simp only[t9,xh,hdd,ae,aa,seval,iteOmega,toNatUp,cy,hM,bw,t1,iy,aD,g1,e1,e2,ht];refine sD (kX G (s.drop (s.length-16)) d (by omega) (by omega)) ?_;refine sD (hj) ?_;refine sD (k3) ?_;exact cm
         ·have h15:s.length<16:=by omega
          rw[QT _ h0 hs hdd h15];have hj:=fR G [s] (by simp) (by simp; omega);have hf:[s].flatten=s:=by simp
          rw[hf] at hj;have p1:=sA G (s++[128]) 16 (by simp; omega);rw[vE] at p1;have b128:s.map bD++[D.int .u8 128]=(s++[128]).map bD:=by rw[abT]; rfl
          have tc2:(s++[128]).take (s.length+1)=s++[128]:=abH (by simp);have lc:(s++[(128:UInt8)]).length=s.length+1:=by simp
          have p3:=kX G (dN d) (gY (s++[128])) (by rw[jU hd]; decide) (by rw[oP h15]; decide);have k3:=sE G key (bJ (dN d) (gY (s++[128]))) h (by rw[gw,jU hd]; decide);simp only[t9,xh,hdd,ae,aa,seval,iteOmega,toNatUp,cy,hM,bw,t1,iy,aD,g1,e1];refine sD (sB G d (by omega)) ?_;refine sC (hj) ?_;simp only[bQ,b128,ae,aa,seval,iteOmega,toNatUp];refine bd p1 (by simp only[ae,aa,seval,iteOmega,toNatUp,bw,tc2,lc]) (.inr (fy _ _)) ?_;simp only[ae,aa,seval,iteOmega,toNatUp];refine sD (p3) ?_;refine sD (k3) ?_;exact cm
   ·rw[if_neg (by omega),if_neg (by omega),if_pos (by omega)];have h3:17<l.length:=by omega
    simp only[vf,af,ae,aa,seval,iteOmega,toNatUp];exact cm
  ·rw[if_neg (by omega),if_pos h];simp only[vf,af,ae,aa,seval,iteOmega,toNatUp];exact cm
theorem HT (rk c:List UInt8) {n k:Nat} (hk:k<16):∀ {m:Nat},n<m→(om rk c m)[16*n+k]?=(dt rk (dI c n))[k]?
  | 0,h=>by omega
  | m+1,h=>by
    rw[om];by_cases e:n=m
    ·subst e;rw[acx (by rw[pd]; omega),pd,acC]
    ·rw[acg (by rw[pd]; omega)];exact HT rk c hk (by omega)
theorem TC (rk c b:List UInt8) {n k:Nat} (hk:k<16) (h:16*n+k<b.length):(fU rk c b)[16*n+k]?=some (ak (b.getD (16*n+k) 0) ((dt rk (dI c n)).getD k 0)):=by
  unfold fU nh;rw[List.getElem?_zipWith,HT rk c hk (by omega),db h,db (by rw[iN]; exact hk)]
def oT (rk c b:List UInt8) (j:Nat):List UInt8:=(fU rk c b).take j
theorem sF (rk c b:List UInt8) (j:Nat):(oT rk c b j).length=min j b.length:=by unfold oT; rw[abN,rb]
theorem nL (rk c b:List UInt8) {j:Nat} (h:b.length≤j):oT rk c b j=fU rk c b:=abH (by rw[rb]; exact h)
theorem Kc (rk c b:List UInt8) {n k:Nat} (hk:k<16) (h:16*n+k<b.length):oT rk c b (16*n+k)++[ak (b.getD (16*n+k) 0) ((dt rk (dI c n)).getD k 0)]=oT rk c b (16*n+k+1):=by
  unfold oT; rw[adg,TC rk c b hk h]; rfl
theorem rS {c:List UInt8} (h:c.length=16) (n:Nat):(dI c n).length=16:=by rw[HE]; exact h
theorem HU {c:List UInt8} (h:c.length=16) (n:Nat):qA (dI c n)=dI c (n+1):=by unfold qA; rw[if_pos (rS h n)]; rfl
def kh (key c b:List UInt8):Int:=if key.length≠16 then 5 else if c.length≠16 then 3 else if 65535<b.length then 2 else 0
def sZ (key c b:List UInt8):List UInt8:=if key.length=16∧c.length=16∧b.length≤65535 then fU (am key) c b else []
theorem FD {key:List UInt8} (c b:List UInt8) (h:key.length≠16):kh key c b=5:=if_pos h
theorem FE {key c:List UInt8} (b:List UInt8) (h:key.length=16) (h2:c.length≠16):kh key c b=3:=by unfold kh; rw[if_neg (by simp[h]),if_pos h2]
theorem Em {key c b:List UInt8} (h:key.length=16) (h2:c.length=16) (h3:65535<b.length):kh key c b=2:=by unfold kh; rw[if_neg (by simp[h]),if_neg (by simp[h2]),if_pos h3]
theorem HV {key c b:List UInt8} (h:key.length=16) (h2:c.length=16) (h3:b.length≤65535):kh key c b=0:=by unfold kh; rw[if_neg (by simp[h]),if_neg (by simp[h2]),if_neg (by omega)]
theorem HW {key c b:List UInt8} (h:key.length=16) (h2:c.length=16) (h3:b.length≤65535):sZ key c b=fU (am key) c b:=if_pos ⟨h,h2,h3⟩
theorem pf {key c b:List UInt8} (h:¬ (key.length=16∧c.length=16∧b.length≤65535)):sZ key c b=[]:=if_neg h
theorem P9 (rk c b:List UInt8):oT rk c b 0=[]:=ac1
def C1 (key c b:List UInt8) (n:Nat):St:=⟨aT [(1,.w (.c (.d (.sl ((dI c n).map bD))))),(2,.w (.c (.d (.sl (b.map bD))))),(8,.w (.c (.ptr 2 1 0 0))),(9,.w (.c (.own 1 1 0 (oT (am key) c b (16*n)).length))),(10,.w (.c (.d (.int .i64 ((16*n:Nat):Int)))))],hL [(1,.row 1 ((oT (am key) c b (16*n)).map bD)),(2,.box ((dd key).map bC))],uL [1,2]⟩
def xK (key c b:List UInt8) (n k:Nat):St:=⟨aT [(1,.w (.c (.d (.sl ((dI c n).map bD))))),(2,.w (.c (.d (.sl (b.map bD))))),(8,.w (.c (.ptr 2 1 0 0))),(9,.w (.c (.own 1 1 0 (oT (am key) c b (16*n+k)).length))),(10,.w (.c (.d (.int .i64 ((16*n:Nat):Int))))),(11,.w (.c (.d (.sl ((dt (am key) (dI c n)).map bD))))),(12,.w (.c (.d (.int .i64 (k:Int)))))],hL [(1,.row 1 ((oT (am key) c b (16*n+k)).map bD)),(2,.box ((dd key).map bC))],uL [1,2]⟩
def uG:aS := .seq (.seq (.reg [oM 34 12,oO 35 (.bin .lss (.t 34) (kI 16)),oM 36 35,oG 37 (.mv (.t 10)) 36 true,oG 38 (.mv (.t 12)) 36 true,oG 39 (.bin .add (.t 37) (.t 38)) 36 true,oG 40 (.mv (.t 2)) 36 true,oG 41 (.len (.t 40)) 36 true,oG 42 (.bin .lss (.t 39) (.t 41)) 36 true,oO 43 (.pick (.t 36) (.t 42) (.k (.c (.d (.bool false)))))]) (.cond (.t 43) (.skip) (.exit 2))) (.seq (.block 3 (.reg [oM 46 9,oM 47 2,oM 48 10,oM 49 12,oO 50 (.bin .add (.t 48) (.t 49)),oO 51 (.idxSl 1 (.t 47) (.t 50)),oO 52 (.load .sc (.t 51)),oM 53 11,oM 54 12,oO 55 (.idxSl 1 (.t 53) (.t 54)),oO 56 (.load .sc (.t 55)),oO 57 (.bin .xor (.t 52) (.t 56)),oO 58 (.bldSl false 1 1 (.int .u8 0) [(0,(.t 57))]),oO 59 (.app false 1 1 (.t 46) (.t 58)),oM 9 59])) (.reg [oM 44 12,oO 45 (.bin .add (.t 44) (kI 1)),oM 12 45]))
def y8:aS := .seq (.seq (.reg [oM 25 10,oM 26 2,oO 27 (.len (.t 26)),oO 28 (.bin .lss (.t 25) (.t 27))]) (.cond (.t 28) (.skip) (.exit 0))) (.seq (.block 1 (.seq (.reg [oO 31 (.load (.ag 688) (.t 8)),oM 32 1,oO 33 (.call 111 [(.t 31),(.t 32)] none),oM 11 33]) (.seq (.seq (.reg [oO 12 (.mv (kI 0))]) (.block 2 (.loop uG))) (.reg [oM 60 1,oO 61 (.call 112 [(.t 60)] none),oM 1 61])))) (.reg [oM 29 10,oO 30 (.bin .add (.t 29) (kI 16)),oM 10 30]))
def rT:aG:=⟨3,63,.seq (.reg [oO 6 (.mv (.k (.c .nil))),oO 7 (.mv (kI 0))]) (.seq (.seq (.reg [oM 13 0,oO 14 (.len (.t 13)),oO 15 (.bin .neq (.t 14) (kI 16))]) (.cond (.t 15) (.seq (.reg [oO 6 (.mv (.k (.c .nil))),oO 7 (.mv (kI 5))]) (.ret)) (.skip))) (.seq (.seq (.reg [oM 16 1,oO 17 (.len (.t 16)),oO 18 (.bin .neq (.t 17) (kI 16))]) (.cond (.t 18) (.seq (.reg [oO 6 (.mv (.k (.c .nil))),oO 7 (.mv (kI 3))]) (.ret)) (.skip))) (.seq (.seq (.reg [oM 19 2,oO 20 (.len (.t 19)),oO 21 (.bin .gtr (.t 20) (kI 65535))]) (.cond (.t 21) (.seq (.reg [oO 6 (.mv (.k (.c .nil))),oO 7 (.mv (kI 2))]) (.ret)) (.skip))) (.seq (.reg [oM 22 0,oO 23 (.call 110 [(.t 22)] none),oO 8 (.alloc (aQ 688 (.d (.int .u8 0)))),oN (.store (.ag 688) (.t 8) (.t 23))]) (.seq (.reg [oO 24 (.bldSl true 0 1 (.int .u8 0) []),
 oM 9 24]) (.seq (.seq (.reg [oO 10 (.mv (kI 0))]) (.block 0 (.loop y8))) (.seq (.reg [oM 62 9,oM 6 62,oO 7 (.mv (kI 0))]) (.ret)))))))),[(6,none),(7,none)]⟩
theorem Vm:aF Tryz.prog { own:=[24],comp:=[],frz:=[],nils:=[] } Tryz.f88=some rT:=by kernel_rfl
set_option maxRecDepth 20000 in
set_option maxHeartbeats 3200000 in
theorem XV (G:ah) (key c b:List UInt8) (hk:key.length≤9223372036854775807) (hc:c.length≤9223372036854775807) (hb:b.length≤9223372036854775807):aB Tryz.prog G 88 [.sl (key.map bD),.sl (c.map bD),.sl (b.map bD)] (.tup [.c (.fr 1 ((sZ key c b).map bD)),.c (.d (.int .i64 (kh key c b)))]):=by
  refine aI Tryz.func88 Vm rfl rfl ?_;by_cases h:key.length=16
  ·by_cases h2:c.length=16
   ·by_cases h3:b.length≤65535
    ·have hM:=uA h;have r4:List.drop 688 (aQ 688 (0:UInt8))=[]:=acw (by rw[bf]; omega);rw[HV h h2 h3,HW h h2 h3];simp only[rT,af,ae,aa,seval,iteOmega,toNatUp,h,h2,rN];refine sC (Bq G key h) ?_;simp only[cy,hM,bf,jC,eS,ic,r4,abP,ae,aa,seval,iteOmega,toNatUp];refine ba (C1 key c b) (fun n=>(b.length+15) / 16-n) (fun n=>16*n<b.length+16) 0 (by omega) ?_ ?_
     ·refine ap (fun i=>if i=1 then 192 else 64) ?_ ?_ rfl (by simp[V.ids,W.ids,C.ids,Ob.ids,cb]) <;> simp only[wx,aj,ar,aa,seval,iteOmega,toNatUp,fq,cb,ady,P9,adh,abS] <;> rfl
     ·intro n hn;have hT:=sF (am key) c b (16*n);by_cases hlt:16*n<b.length
      ·have t1:(dd key).take 688=dd key:=abH (by omega);simp only[y8,C1,ae,aa,seval,iteOmega,toNatUp,cy,hM,bw,t1,iy];refine sD (sy G key (dI c n) h (rS h2 n)) ?_;have hen:j8 key (dI c n)=dt (am key) (dI c n):=rfl;rw[hen];refine ba (xK key c b n) (fun k=>16-k) (fun k=>k≤16∧16*n+k≤b.length) 0 ⟨by omega,by omega⟩ ?_ ?_
       ·refine ap (fun i=>i) ?_ ?_ rfl (by simp[V.ids,W.ids,C.ids,Ob.ids,cb]) <;> simp only[wx,aj,ar,aa,seval,iteOmega,toNatUp,fq,cb,acD]
       ·rintro k ⟨hk16,hkb⟩;have hTk:=sF (am key) c b (16*n+k);have hTk1:=sF (am key) c b (16*n+k+1);by_cases hgo:k<16∧16*n+k<b.length
        ·obtain⟨hk1,hk2⟩:=hgo;have g1:b[16*n+k]?=some (b.getD (16*n+k) 0):=db hk2;have hel:=iN (am key) (dI c n);have g2:(dt (am key) (dI c n))[k]?=some ((dt (am key) (dI c n)).getD k 0):=db (by omega);have x1:=dv (b.getD (16*n+k) 0) ((dt (am key) (dI c n)).getD k 0);have ho:=Kc (am key) c b hk1 hk2;simp only[uG,xK,ae,aa,seval,iteOmega,toNatUp,aD,g1,g2,x1,hel,bQ];refine aU (k+1) (by omega) ⟨by omega,by omega⟩ (ap (fun i=>if i=1 then 472 else i) ?_ ?_ rfl (by simp[V.ids,W.ids,C.ids,Ob.ids,cb])) <;> simp only[wx,aj,ar,aa,seval,iteOmega,toNatUp,fq,cb]
         ·rw[show 16*n+(k+1)=16*n+k+1 from rfl,hTk,hTk1,show min (16*n+k) b.length+1=min (16*n+k+1) b.length by omega]
         ·rw[← ac0,← ho,abT]; rfl
        ·have e:oT (am key) c b (16*n+k)=oT (am key) c b (16*(n+1)):=by
           by_cases h16:k=16
           ·rw[h16,show 16*n+16=16*(n+1) by omega]
           ·rw[nL _ _ _ (by omega),nL _ _ _ (by omega)]
         have hx:=XG G (dI c n) (by rw[rS h2]; omega);rw[HU h2] at hx;by_cases h16:k<16
         ·have hnl:¬ 16*n+k<b.length:=by omega
          simp only[uG,xK,e,ae,aa,seval,iteOmega,toNatUp];refine sD (hx) ?_;refine aU (n+1) (by omega) (by omega) (ap (fun i=>i) ?_ ?_ rfl (by simp[V.ids,W.ids,C.ids,Ob.ids,cb])) <;> simp only[wx,aj,ar,aa,seval,iteOmega,toNatUp,fq,cb];rw[show (16*(n:Int)+16)=16*((n:Int)+1) by omega]
         ·simp only[uG,xK,e,ae,aa,seval,iteOmega,toNatUp];refine sD (hx) ?_;refine aU (n+1) (by omega) (by omega) (ap (fun i=>i) ?_ ?_ rfl (by simp[V.ids,W.ids,C.ids,Ob.ids,cb])) <;> simp only[wx,aj,ar,aa,seval,iteOmega,toNatUp,fq,cb];rw[show (16*(n:Int)+16)=16*((n:Int)+1) by omega]
      ·have e:=nL (am key) c b (j:=16*n) (by omega);have hl:=rb (am key) c b;simp only[y8,C1,e,ae,aa,seval,iteOmega,toNatUp,hl];have ht:(fU (am key) c b).take b.length=fU (am key) c b:=abH (by omega);exact v7 (by simp only[ae,aa,seval,iteOmega,toNatUp,cy,hl,bw,ht]) (by simp only[ae,aa,seval,iteOmega,toNatUp])
    ·rw[Em h h2 (by omega),pf (by omega)];simp only[rT,af,ae,aa,seval,iteOmega,toNatUp,h,h2];exact cm
   ·rw[FE b h h2,pf (by omega)];simp only[rT,af,ae,aa,seval,iteOmega,toNatUp,h];exact cm
  ·rw[FD c b h,pf (by omega)];simp only[rT,af,ae,aa,seval,iteOmega,toNatUp];exact cm
theorem TE {i:Nat} (h:i<256):bD (UInt8.ofNat i)=.int .u8 (i:Int):=by
  unfold bD; rw[UInt8.toNat_ofNat_of_lt' (by simpa [UInt8.size] using h)]
theorem OS (s:Nat) (l:List UInt8) (k:IntKind) (n:Int):V.flat (.tup [.c (.fr s (l.map bD)),.c (.d (.int k n))])=true:=by
  have:=fy s l;simp only[V.flat,W.flat,adB,List.all_nil,adC] at this ⊢;rw[this]; rfl
def MV:aG:=⟨2,10,.seq (.reg [oO 4 (.mv (.k (.c (.d (.bool false)))))]) (.seq (.reg [oM 5 0,oO 6 (.b2s (.t 5)),oM 7 1,oO 8 (.b2s (.t 7)),oO 9 (.bin .eql (.t 6) (.t 8)),oM 4 9]) (.ret)),[(4,none)]⟩
theorem XZ:aF Tryz.prog { own:=[],comp:=[],frz:=[],nils:=[] } Tryz.f85=some MV:=by kernel_rfl
theorem aae (G:ah) (l m:List UInt8):aB Tryz.prog G 85 [.sl (l.map bD),.sl (m.map bD)] (.w (.c (.d (.bool (l==m))))):=by
  refine aI Tryz.func85 XZ rfl rfl ?_;simp only[MV,af,wx,aa,seval,iteOmega,toNatUp,zG,Fq];exact qb (by simp only[wx,aa,seval,iteOmega,toNatUp])
def Kf:aG:=⟨2,8,.seq (.reg [oO 4 (.mv (.k (.c (.d (.bool false)))))]) (.seq (.reg [oM 5 0,oM 6 1,oO 7 (.call 85 [(.t 5),(.t 6)] none),oM 4 7]) (.ret)),[(4,none)]⟩
theorem Vo:aF Tryz.prog { own:=[],comp:=[],frz:=[],nils:=[] } Tryz.f55=some Kf:=by kernel_rfl
theorem pO (G:ah) (l m:List UInt8):aB Tryz.prog G 55 [.sl (l.map bD),.sl (m.map bD)] (.w (.c (.d (.bool (l==m))))):=by
  refine aI Tryz.func55 Vo rfl rfl ?_;simp only[Kf,af,ae,aa,seval,iteOmega,toNatUp];refine sD (aae G l m) ?_;exact aM
theorem FQ (v k:Nat):au v (k+1)=au (v / 256) k++[UInt8.ofNat v]:=by
  unfold au;rw[ac8,abT]
  congr 1
  ·apply aco;intro i hi;have hi':i<k:=ads.1 hi;rw[show k+1-1-i=(k-1-i)+1 by omega,adH,adm,← adu]
  ·simp
theorem H8 (a:List UInt8) (x:UInt8):be (a++[x])=(be a*256+x.toNat)%18446744073709551616:=by simp[be]
theorem Ko {k:Nat} (h:k≤8):256^k≤18446744073709551616:=acy (Nat.pow_le_pow_right (by decide) h) (by decide)
theorem get_put (k:Nat) (h:k≤8):∀ v,be (au v k)=v%256^k:=by
  induction k with
  | zero=>intro v; rw[Nat.pow_zero,Nat.mod_one]; rfl
  | succ k ih =>
    intro v;have hp:=Ko h;have hv:v%256^(k+1)<256^(k+1):=acH _ (Nat.pow_pos (by decide));have e:v%256^(k+1)=v%256+256*(v / 256%256^k):=by rw[Nat.pow_succ',Nat.mod_mul]
    rw[FQ,H8,ih (by omega),UInt8.toNat_ofNat',ac9 (by omega)];omega
theorem iL:∀ (k:Nat) (l:List UInt8),l.length=k→k≤8→be l<256^k∧au (be l) k=l:=by
  intro k
  induction k with
  | zero=>intro l h _; rw[acs h]; exact⟨by decide,rfl⟩
  | succ k ih =>
    intro l h h8;rcases List.eq_nil_or_concat l with rfl | ⟨a,x,rfl⟩
    ·simp at h
    ·rw[List.concat_eq_append] at *
     obtain⟨a1,a2⟩:=ih a (by simpa using h) (by omega);have hx:x.toNat<256:=x.toNat_lt;have hp:=Ko h8;have e:be (a++[x])=be a*256+x.toNat:=by
       rw[H8,ac9];rw[adH] at hp; omega
     refine⟨by rw[e,adH]; omega,?_⟩;rw[e,FQ,show (be a*256+x.toNat) / 256=be a by omega,a2]
     congr 2
     rw[← UInt8.toNat_inj,UInt8.toNat_ofNat'];omega
structure Hd where
  lp:Int
  vr:Int
  md:Int
  st:Int
  pl:Int
  pr:Int
  rd:Nat
  rp:Nat
  ri:Nat
  rf:Nat
  og:Nat
  rc:Nat
  tr:Nat
def Hd.z:Hd:=⟨0,0,0,0,0,0,0,0,0,0,0,0,0⟩
def ly (h:Hd):Prop:=0≤h.lp∧h.lp≤3∧(h.vr=3∨h.vr=4)∧0≤h.md∧h.md≤7∧0≤h.st∧h.st≤255∧-128≤h.pl∧h.pl≤127∧-128≤h.pr∧h.pr≤127
instance (h:Hd):Decidable (ly h):=by unfold ly; infer_instance
def jl (h:Hd):Bool:=decide (ly h)
def mC (h:Hd):Prop:=h.rd<4294967296∧h.rp<4294967296∧h.ri<4294967296∧h.rf<18446744073709551616∧h.og<18446744073709551616∧h.rc<18446744073709551616∧h.tr<18446744073709551616
def cY (v:Int):UInt8:=UInt8.ofNat (v%256).toNat
def iZ (b:UInt8):Int:=if b.toNat>127 then (b.toNat:Int)-256 else (b.toNat:Int)
def tL (h:Hd):List UInt8:=au h.rd 4++(au h.rp 4++(au h.ri 4++(au h.rf 8++(au h.og 8++(au h.rc 8++au h.tr 8)))))
def dB (h:Hd):List UInt8:=[cY (h.lp*64+h.vr*8+h.md),cY h.st,cY h.pl,cY h.pr]++tL h
theorem Vz (h:Hd):(tL h).length=44:=by simp[tL,bP]
theorem vH (h:Hd):(dB h).length=48:=by unfold dB; rw[abJ,Vz]; rfl
def aK (l:List UInt8) (a n:Nat):List UInt8:=(l.drop a).take n
def bS (l:List UInt8):Hd:=⟨((l.getD 0 0).toNat / 64:Nat),((l.getD 0 0).toNat / 8%8:Nat),((l.getD 0 0).toNat%8:Nat),((l.getD 1 0).toNat:Nat),iZ (l.getD 2 0),iZ (l.getD 3 0),
  be (aK l 4 4),be (aK l 8 4),be (aK l 12 4),be (aK l 16 8),be (aK l 24 8),be (aK l 32 8),be (aK l 40 8)⟩
theorem dj {l:List UInt8} {a n:Nat} (h:a+n≤l.length):(aK l a n).length=n:=by
  unfold aK; rw[abN,abO]; omega
theorem rE (p q r:List UInt8):aK (p++(q++r)) p.length q.length=q:=by
  unfold aK; rw[List.drop_left,List.take_left]
theorem AF (v:Int):((cY v).toNat:Int)=v%256:=by
  unfold cY;rw[UInt8.toNat_ofNat']; omega
theorem Kp {v:Int} (h1:-128≤v) (h2:v≤127):iZ (cY v)=v:=by
  have:=AF v;unfold iZ;split <;> omega
theorem vI (b:UInt8):-128≤iZ b∧iZ b≤127:=by
  have:=b.toNat_lt;unfold iZ;split <;> omega
theorem VA (h:Hd) (r:List UInt8):dB h++r=([cY (h.lp*64+h.vr*8+h.md),cY h.st,cY h.pl,cY h.pr]:List UInt8)++(au h.rd 4++(au h.rp 4++(au h.ri 4++(au h.rf 8++(au h.og 8++(au h.rc 8++(au h.tr 8++r))))))):=by
  unfold dB tL;simp only[abV]
theorem VB (h:Hd) (r:List UInt8):aK (dB h++r) 4 4=au h.rd 4∧aK (dB h++r) 8 4=au h.rp 4∧aK (dB h++r) 12 4=au h.ri 4∧aK (dB h++r) 16 8=au h.rf 8∧aK (dB h++r) 24 8=au h.og 8∧aK (dB h++r) 32 8=au h.rc 8∧aK (dB h++r) 40 8=au h.tr 8:=by
  have key:∀ (p q s:List UInt8) (a n:Nat),dB h++r=p++(q++s)→p.length=a→q.length=n→aK (dB h++r) a n=q:=by
    intro p q s a n e ha hn;rw[e,← ha,← hn]; exact rE p q s
  have e:=VA h r;generalize ([cY (h.lp*64+h.vr*8+h.md),cY h.st,cY h.pl,cY h.pr]:List UInt8)=F at *
  have hF:F.length=4:=by
    have:=vH h;have e':=congrArg List.length e;simp only[abJ,bP,this] at e';omega
  refine⟨key F _ _ _ _ e hF (bP _ _),key (F++au h.rd 4) _ _ _ _ (by rw[e]; simp only[abV] <;> rfl) ?_ (bP _ _),key (F++au h.rd 4++au h.rp 4) _ _ _ _ (by rw[e]; simp only[abV] <;> rfl) ?_ (bP _ _),
    key (F++au h.rd 4++au h.rp 4++au h.ri 4) _ _ _ _ (by rw[e]; simp only[abV] <;> rfl) ?_ (bP _ _),key (F++au h.rd 4++au h.rp 4++au h.ri 4++au h.rf 8) _ _ _ _ (by rw[e]; simp only[abV] <;> rfl) ?_ (bP _ _),
    key (F++au h.rd 4++au h.rp 4++au h.ri 4++au h.rf 8++au h.og 8) _ _ _ _ (by rw[e]; simp only[abV] <;> rfl) ?_ (bP _ _),key (F++au h.rd 4++au h.rp 4++au h.ri 4++au h.rf 8++au h.og 8++au h.rc 8) _ r _ _ (by rw[e]; simp only[abV] <;> rfl) ?_ (bP _ _)⟩ <;>
    simp only[abJ,bP,hF]
theorem VC {h:Hd} (ok:ly h) (fit:mC h) (r:List UInt8):bS (dB h++r)=h:=by
  obtain⟨c1,c2,c3,c4,c5,c6,c7⟩:=VB h r;obtain⟨f1,f2,f3,f4,f5,f6,f7⟩:=fit;obtain⟨o1,o2,o3,o4,o5,o6,o7,o8,o9,o10,o11⟩:=ok;have g0:(dB h++r).getD 0 0=cY (h.lp*64+h.vr*8+h.md):=rfl;have g1:(dB h++r).getD 1 0=cY h.st:=rfl;have g2:(dB h++r).getD 2 0=cY h.pl:=rfl;have g3:(dB h++r).getD 3 0=cY h.pr:=rfl;unfold bS;rw[c1,c2,c3,c4,c5,c6,c7,g0,g1,g2,g3,get_put 4 (by decide),get_put 4 (by decide),get_put 4 (by decide),get_put 8 (by decide),get_put 8 (by decide),get_put 8 (by decide),get_put 8 (by decide),Kp o8 o9,Kp o10 o11];have n0:=AF (h.lp*64+h.vr*8+h.md);have n1:=AF h.st;obtain⟨lp,vr,md,st,pl,pr,rd,rp,ri,rf,og,rc,tr⟩:=h;simp only at *
  congr 1 <;> omega
theorem jA (G:ah) (v:Nat) (k:Int) (hk:0≤k∧k≤64):aB Tryz.prog G 81 [.int .u64 (v:Int),.int .i64 k] (.w (.c (.fr 1 ((au v k.toNat).map bD)))):=by
  have c:=OM G v k;rw[show ol v k=au v k.toNat from if_pos hk] at c;exact c
theorem vJ (G:ah) (v:Nat) (k:Int) (hk:0≤k∧k≤64):aB Tryz.prog G 42 [.int .u64 (v:Int),.int .i64 k] (.w (.c (.fr 1 ((au v k.toNat).map bD)))):=by
  have c:=Xn G v k;rw[show ol v k=au v k.toNat from if_pos hk] at c;exact c
def ww:aG:=⟨2,25,.seq (.reg [oO 4 (.mv (.k (.c .nil))),oO 5 (.mv (.k (.c .nil))),oO 6 (.mv (.k (.c (.d (.bool false)))))]) (.seq (.seq (.reg [oM 7 1,oO 8 (.bin .lss (.t 7) (kI 0)),oM 9 8,oG 10 (.mv (.t 1)) 9 false,oG 11 (.mv (.t 0)) 9 false,oG 12 (.len (.t 11)) 9 false,oG 13 (.bin .gtr (.t 10) (.t 12)) 9 false,oO 14 (.pick (.t 9) (.k (.c (.d (.bool true)))) (.t 13))]) (.cond (.t 14) (.seq (.reg [oO 4 (.mv (.k (.c .nil))),oO 5 (.mv (.k (.c .nil))),oO 6 (.mv (.k (.c (.d (.bool false)))))]) (.ret)) (.skip))) (.seq (.reg [oM 15 0,oM 16 1,oO 17 (.slice 1 (.t 15) none (some (.t 16)) none),oO 18 (.bldSl false 1 1 (.sl []) [(0,(.t 17))]),oO 19 (.call 50 [(.t 18)] none),oM 20 0,oM 21 1,oO 22 (.slice 1 (.t 20) (some (.t 21)) none none),oO 23 (.bldSl false 1 1 (.sl []) [(0,(.t 22))]),oO 24 (.call 50 [(.t 23)] none),
 oM 4 19,oM 5 24,oO 6 (.mv (.k (.c (.d (.bool true)))))]) (.ret))),[(4,none),(5,none),(6,none)]⟩
theorem ND:aF Tryz.prog { own:=[],comp:=[],frz:=[],nils:=[] } Tryz.f92=some ww:=by kernel_rfl
set_option maxHeartbeats 800000 in
theorem wC (G:ah) (b:List UInt8) (n:Nat) (h:n≤b.length) (hb:b.length≤1099511627776):aB Tryz.prog G 92 [.sl (b.map bD),.int .i64 (n:Int)] (.tup [.c (.d (.sl ((b.take n).map bD))),.c (.d (.sl ((b.drop n).map bD))),.c (.d (.bool true))]):=by
  refine aI Tryz.func92 ND rfl rfl ?_;have c1:=fc G [b.take n] (by simp) (by simp; omega);have c2:=fc G [b.drop n] (by simp) (by simp; omega);simp only[abK,abS,acn,acp,abP] at c1 c2;have et:(b.drop n).take (b.length-n)=b.drop n:=abH (by simp);have g:((n:Int)>(b.length:Int))=False:=eq_false (by omega);simp only[ww,af,ae,aa,seval,iteOmega,toNatUp,g];refine sC (c1) ?_;simp only[et,ae,aa,seval,iteOmega,toNatUp];refine sC (c2) ?_;simp only[et,ae,aa,seval,iteOmega,toNatUp];exact cN
theorem wE (G:ah) (b:List UInt8) (n:Int) (h:n<0∨(b.length:Int)<n):aB Tryz.prog G 92 [.sl (b.map bD),.int .i64 n] (.tup [.c (.d (.sl [])),.c (.d (.sl [])),.c (.d (.bool false))]):=by
  refine aI Tryz.func92 ND rfl rfl ?_;rcases Int.lt_or_le n 0 with h1 | h1
  ·simp only[ww,af,ae,aa,seval,iteOmega,toNatUp];exact fT (by simp only[ae,aa,seval,iteOmega,toNatUp] <;> rfl) (by simp only[ae,aa,seval,iteOmega,toNatUp] <;> rfl) (by simp only[ae,aa,seval,iteOmega,toNatUp])
  ·have g:(n>(b.length:Int))=True:=eq_true (by omega);simp only[ww,af,ae,aa,seval,iteOmega,toNatUp,g];exact fT (by simp only[ae,aa,seval,iteOmega,toNatUp] <;> rfl) (by simp only[ae,aa,seval,iteOmega,toNatUp] <;> rfl) (by simp only[ae,aa,seval,iteOmega,toNatUp])
def BK (l:List UInt8) (i:Nat):St:=⟨aT [(0,.w (.c (.d (.sl (l.map bD))))),(3,.w (.c (.d (.int .u64 (be (l.take i)))))),(4,.w (.c (.d (.int .i64 (i:Int)))))],hL [],uL []⟩
def zf:aS := .seq (.seq (.reg [oM 5 4,oM 6 0,oO 7 (.len (.t 6)),oO 8 (.bin .lss (.t 5) (.t 7))]) (.cond (.t 8) (.skip) (.exit 0))) (.seq (.block 1 (.reg [oM 11 3,oO 12 (.bin .shl (.t 11) (.k (.c (.d (.int .u64 8))))),oM 13 0,oM 14 4,oO 15 (.idxSl 1 (.t 13) (.t 14)),oO 16 (.load .sc (.t 15)),oO 17 (.conv .u64 (.t 16)),oO 18 (.bin .or (.t 12) (.t 17)),oM 3 18])) (.reg [oM 9 4,oO 10 (.bin .add (.t 9) (kI 1)),oM 4 10]))
def KY:aG:=⟨1,20,.seq (.reg [oO 2 (.mv (.k (.c (.d (.int .u64 0)))))]) (.seq (.reg [oO 3 (.mv (.k (.c (.d (.int .u64 0)))))]) (.seq (.seq (.reg [oO 4 (.mv (kI 0))]) (.block 0 (.loop zf))) (.seq (.reg [oM 19 3,oM 2 19]) (.ret)))),[(2,none)]⟩
theorem Wj:aF Tryz.prog { own:=[],comp:=[],frz:=[],nils:=[] } Tryz.f100=some KY:=by kernel_rfl
set_option maxHeartbeats 400000 in
theorem ka (G:ah) (l:List UInt8) (hl:l.length≤9223372036854775807):aB Tryz.prog G 100 [.sl (l.map bD)] (.w (.c (.d (.int .u64 (be l))))):=by
  refine aI Tryz.func100 Wj rfl rfl ?_;simp only[KY,af,ae,aa,seval,iteOmega,toNatUp];refine ba (BK l) (fun i=>l.length-i) (fun i=>i≤l.length) 0 (abM _) ?_ ?_
  ·refine ap (fun i=>i) ?_ ?_ rfl rfl <;> simp only[wx,aj,ar,aa,seval,iteOmega,toNatUp] <;> rfl
  ·intro i hi;by_cases hlt:i<l.length
   ·have hb:=l[i].toNat_lt;have e2:l[i]?=some l[i]:=abF hlt;have e3:IntKind.u64.wrap (l[i].toNat:Int)=(l[i].toNat:Int):=u64_in _ (by omega) (by omega);have e4:IntKind.i64.wrap ((i:Int)+1)=((i+1:Nat):Int):=by rw[IntWalk.i64_in _ (by omega)]; rfl
    have e5:=Fs l i hlt;simp only[zf,BK,wx,aa,seval,iteOmega,toNatUp,aD,e2,IntKind.bits,e3,e4];refine aU (i+1) (by omega) (by omega) (ap id ?_ ?_ rfl rfl) <;> simp only[wx,aj,aa,seval,iteOmega,toNatUp,← e5]
   ·have:l.take i=l:=abH (by omega);simp only[zf,BK,wx,aa,seval,iteOmega,toNatUp,this];exact qb (by simp only[wx,aa,seval,iteOmega,toNatUp])
def jb:List UInt32:=[0x6a09e667,0xbb67ae85,0x3c6ef372,0xa54ff53a,0x510e527f,0x9b05688c,0x1f83d9ab,0x5be0cd19]
def dS:List UInt32:=[
  0x428a2f98,0x71374491,0xb5c0fbcf,0xe9b5dba5,0x3956c25b,0x59f111f1,0x923f82a4,0xab1c5ed5,
  0xd807aa98,0x12835b01,0x243185be,0x550c7dc3,0x72be5d74,0x80deb1fe,0x9bdc06a7,0xc19bf174,
  0xe49b69c1,0xefbe4786,0x0fc19dc6,0x240ca1cc,0x2de92c6f,0x4a7484aa,0x5cb0a9dc,0x76f988da,
  0x983e5152,0xa831c66d,0xb00327c8,0xbf597fc7,0xc6e00bf3,0xd5a79147,0x06ca6351,0x14292967,
  0x27b70a85,0x2e1b2138,0x4d2c6dfc,0x53380d13,0x650a7354,0x766a0abb,0x81c2c92e,0x92722c85,
  0xa2bfe8a1,0xa81a664b,0xc24b8b70,0xc76c51a3,0xd192e819,0xd6990624,0xf40e3585,0x106aa070,
  0x19a4c116,0x1e376c08,0x2748774c,0x34b0bcb5,0x391c0cb3,0x4ed8aa4a,0x5b9cca4f,0x682e6ff3,
  0x748f82ee,0x78a5636f,0x84c87814,0x8cc70208,0x90befffa,0xa4506ceb,0xbef9a3f7,0xc67178f2]
theorem Eo:jb.length=8:=rfl
theorem ub:dS.length=64:=rfl
def cS (b:List UInt8) (t:Nat):UInt32 :=
  my (my (my (lj (l9 (b.getD (4*t) 0)) 24) (lj (l9 (b.getD (4*t+1) 0)) 16)) (lj (l9 (b.getD (4*t+2) 0)) 8)) (l9 (b.getD (4*t+3) 0))
def l4 (x:UInt32):UInt32:=fA (fA (jh x 7) (jh x 18)) (mj x 3)
def l5 (y:UInt32):UInt32:=fA (fA (jh y 17) (jh y 19)) (mj y 10)
def od (s:List UInt32) (t:Nat):UInt32 :=
  bE (bE (bE (l5 (s.getD (t-2) 0)) (s.getD (t-7) 0)) (l4 (s.getD (t-15) 0))) (s.getD (t-16) 0)
def jx (b:List UInt8) (n:Nat):List UInt32:=(List.range n).map (cS b)
def dc (b:List UInt8):Nat→List UInt32
  | 0=>jx b 16
  | n+1=>dc b n++[od (dc b n) (16+n)]
def iV (b:List UInt8):List UInt32:=dc b 48
theorem TT (b:List UInt8) (m:Nat) (h:m=48):iV b=dc b m:=by rw[h]; rfl
def lu (e:UInt32):UInt32:=fA (fA (jh e 6) (jh e 11)) (jh e 25)
def mo (a:UInt32):UInt32:=fA (fA (jh a 2) (jh a 13)) (jh a 22)
def lE (e f g:UInt32):UInt32:=fA (li e f) (li (qx e) g)
def mq (a b c:UInt32):UInt32:=fA (fA (li a b) (li a c)) (li b c)
structure cd where
  (a b c d e f g h:UInt32)
def cd.step (s:cd) (k w:UInt32):cd :=
  let t1:=bE (bE (bE (bE s.h (lu s.e)) (lE s.e s.f s.g)) k) w
  let t2:=bE (mo s.a) (mq s.a s.b s.c)
  ⟨bE t1 t2,s.a,s.b,s.c,bE s.d t1,s.e,s.f,s.g⟩
def cd.of (h:List UInt32):cd:=⟨h.getD 0 0,h.getD 1 0,h.getD 2 0,h.getD 3 0,h.getD 4 0,h.getD 5 0,h.getD 6 0,h.getD 7 0⟩
def cd.rounds (s:cd) (k w:List UInt32):Nat→cd
  | 0=>s
  | n+1=>(s.rounds k w n).step (k.getD n 0) (w.getD n 0)
def cd.sum (s:cd) (h:List UInt32):List UInt32 :=
  [bE (h.getD 0 0) s.a,bE (h.getD 1 0) s.b,bE (h.getD 2 0) s.c,bE (h.getD 3 0) s.d,bE (h.getD 4 0) s.e,bE (h.getD 5 0) s.f,bE (h.getD 6 0) s.g,bE (h.getD 7 0) s.h]
def mU (h:List UInt32) (b:List UInt8):List UInt32:=((cd.of h).rounds dS (iV b) 64).sum h
theorem Ep (h:List UInt32) (b:List UInt8):(mU h b).length=8:=rfl
def Ir:aG:=⟨2,15,.seq (.reg [oO 4 (.mv (.k (.c (.d (.int .u32 0)))))]) (.seq (.reg [oM 5 0,oM 6 1,oO 7 (.conv .u64 (.t 6)),oO 8 (.bin .shr (.t 5) (.t 7)),oM 9 0,oM 10 1,oO 11 (.bin .sub (kI 32) (.t 10)),oO 12 (.conv .u64 (.t 11)),oO 13 (.bin .shl (.t 9) (.t 12)),oO 14 (.bin .or (.t 8) (.t 13)),oM 4 14]) (.ret)),[(4,none)]⟩
theorem TU:aF Tryz.prog { own:=[],comp:=[],frz:=[],nils:=[] } Tryz.f103=some Ir:=by kernel_rfl
theorem kQ (G:ah) (x:UInt32) (n:Nat) (h0:0<n) (hn:n<32):aB Tryz.prog G 103 [wD x,.int .i64 n] (.w (.c (.d (wD (jh x n))))):=by
  refine aI Tryz.func103 TU rfl rfl ?_;have e1:IntKind.u64.wrap (n:Int)=(n:Int):=IntWalk.u64_in _ (by omega);have e2:IntKind.i64.wrap (32-(n:Int))=((32-n:Nat):Int):=by rw[IntWalk.i64_in _ (by omega)]; omega
  have e3:IntKind.u64.wrap ((32-n:Nat):Int)=((32-n:Nat):Int):=IntWalk.u64_in _ (by omega);simp only[Ir,af,wx,aa,seval,iteOmega,toNatUp,e1,e2,e3];exact qb (by simp only[wx,aa,seval,iteOmega,toNatUp] <;> rfl)
def K7:aG:=⟨0,2,.seq (.reg [oO 0 (.mv (.k (.c .nil)))]) (.seq (.reg [oO 1 (.bldSl true 8 1 (.int .u32 0) [(0,(.k (.c (.d (.int .u32 1779033703))))),(1,(.k (.c (.d (.int .u32 3144134277))))),(2,(.k (.c (.d (.int .u32 1013904242))))),(3,(.k (.c (.d (.int .u32 2773480762))))),(4,(.k (.c (.d (.int .u32 1359893119))))),(5,(.k (.c (.d (.int .u32 2600822924))))),(6,(.k (.c (.d (.int .u32 528734635))))),(7,(.k (.c (.d (.int .u32 1541459225)))))]),oM 0 1]) (.ret)),[(0,none)]⟩
theorem Wz:aF Tryz.prog { own:=[1],comp:=[],frz:=[],nils:=[] } Tryz.f72=some K7:=by kernel_rfl
theorem Zt (G:ah):aB Tryz.prog G 72 [] (.w (.c (.fr 1 (jb.map wD)))):=by
  refine aI Tryz.func72 Wz rfl rfl ?_;simp only[K7,af,wN,wO,wP,wQ,wR,sx];refine IZ (.w (.c (.own 8 1 0 8)),upd hN 8 (some (.row 1 (jb.map wD))),upd uN 8 true) (by kernel_rfl) ?_;simp only[wx,aa,seval,iteOmega,toNatUp];exact eI (id:=8) (n:=8) (s:=1) (by simp only[wx,aa,seval,iteOmega,toNatUp]) (by simp only[wx,aa,seval,iteOmega,toNatUp]) rfl
def K8:aG:=⟨0,2,.seq (.reg [oO 0 (.mv (.k (.c .nil)))]) (.seq (.reg [oO 1 (.bldSl true 64 1 (.int .u32 0) [(0,(.k (.c (.d (.int .u32 1116352408))))),(1,(.k (.c (.d (.int .u32 1899447441))))),(2,(.k (.c (.d (.int .u32 3049323471))))),(3,(.k (.c (.d (.int .u32 3921009573))))),(4,(.k (.c (.d (.int .u32 961987163))))),(5,(.k (.c (.d (.int .u32 1508970993))))),(6,(.k (.c (.d (.int .u32 2453635748))))),(7,(.k (.c (.d (.int .u32 2870763221))))),(8,(.k (.c (.d (.int .u32 3624381080))))),(9,(.k (.c (.d (.int .u32 310598401))))),(10,(.k (.c (.d (.int .u32 607225278))))),(11,(.k (.c (.d (.int .u32 1426881987))))),(12,(.k (.c (.d (.int .u32 1925078388))))),(13,(.k (.c (.d (.int .u32 2162078206))))),(14,(.k (.c (.d (.int .u32 2614888103))))),(15,(.k (.c (.d (.int .u32 3248222580))))),(16,(.k (.c (.d (.int .u32 3835390401))))),(17,(.k (.c (.d (.int .u32 4022224774))))),(18,(.k (.c (.d (.int .u32 264347078))))),(19,(.k (.c (.d (.int .u32 604807628))))),(20,(.k (.c (.d (.int .u32 770255983))))),(21,(.k (.c (.d (.int .u32 1249150122))))),(22,(.k (.c (.d (.int .u32 1555081692))))),(23,(.k (.c (.d (.int .u32 1996064986))))),(24,(.k (.c (.d (.int .u32 2554220882))))),(25,(.k (.c (.d (.int .u32 2821834349))))),(26,(.k (.c (.d (.int .u32 2952996808))))),(27,(.k (.c (.d (.int .u32 3210313671))))),(28,(.k (.c (.d (.int .u32 3336571891))))),(29,(.k (.c (.d (.int .u32 3584528711))))),(30,(.k (.c (.d (.int .u32 113926993))))),(31,(.k (.c (.d (.int .u32 338241895))))),(32,(.k (.c (.d (.int .u32 666307205))))),(33,(.k (.c (.d (.int .u32 773529912))))),(34,(.k (.c (.d (.int .u32 1294757372))))),(35,(.k (.c (.d (.int .u32 1396182291))))),(36,(.k (.c (.d (.int .u32 1695183700))))),(37,(.k (.c (.d (.int .u32 1986661051))))),(38,(.k (.c (.d (.int .u32 2177026350))))),(39,(.k (.c (.d (.int .u32 2456956037))))),(40,(.k (.c (.d (.int .u32 2730485921))))),(41,(.k (.c (.d (.int .u32 2820302411))))),(42,(.k (.c (.d (.int .u32 3259730800))))),(43,(.k (.c (.d (.int .u32 3345764771))))),(44,(.k (.c (.d (.int .u32 3516065817))))),(45,(.k (.c (.d (.int .u32 3600352804))))),(46,(.k (.c (.d (.int .u32 4094571909))))),(47,(.k (.c (.d (.int .u32 275423344))))),(48,(.k (.c (.d (.int .u32 430227734))))),(49,(.k (.c (.d (.int .u32 506948616))))),(50,(.k (.c (.d (.int .u32 659060556))))),(51,(.k (.c (.d (.int .u32 883997877))))),(52,(.k (.c (.d (.int .u32 958139571))))),(53,(.k (.c (.d (.int .u32 1322822218))))),(54,(.k (.c (.d (.int .u32 1537002063))))),(55,(.k (.c (.d (.int .u32 1747873779))))),(56,(.k (.c (.d (.int .u32 1955562222))))),(57,(.k (.c (.d (.int .u32 2024104815))))),(58,(.k (.c (.d (.int .u32 2227730452))))),(59,(.k (.c (.d (.int .u32 2361852424))))),(60,(.k (.c (.d (.int .u32 2428436474))))),(61,(.k (.c (.d (.int .u32 2756734187))))),(62,(.k (.c (.d (.int .u32 3204031479))))),(63,(.k (.c (.d (.int .u32 3329325298)))))]),
 oM 0 1]) (.ret)),[(0,none)]⟩
theorem WA:aF Tryz.prog { own:=[1],comp:=[],frz:=[],nils:=[] } Tryz.f73=some K8:=by kernel_rfl
theorem NW (G:ah):aB Tryz.prog G 73 [] (.w (.c (.fr 1 (dS.map wD)))):=by
  refine aI Tryz.func73 WA rfl rfl ?_;simp only[K8,af,wN,wO,wP,wQ,wR,sx];refine IZ (.w (.c (.own 8 1 0 64)),upd hN 8 (some (.row 1 (dS.map wD))),upd uN 8 true) (by kernel_rfl) ?_;simp only[wx,aa,seval,iteOmega,toNatUp];exact eI (id:=8) (n:=64) (s:=1) (by simp only[wx,aa,seval,iteOmega,toNatUp]) (by simp only[wx,aa,seval,iteOmega,toNatUp]) rfl
theorem Eq (b:UInt8):(l9 b).toNat=b.toNat:=by have:=E7 b; omega
theorem zi (b:UInt8) (n:Nat) (hn:n≤24):(lj (l9 b) n).toNat=2^n*b.toNat:=by
  have hb:=b.toNat_lt;have h:(2:Nat)^n≤2^24:=Nat.pow_le_pow_right (by decide) hn;have h2:2^n*b.toNat≤2^24*255:=Nat.mul_le_mul h (by omega);unfold lj;rw[Eq,UInt32.toNat_ofNat_of_lt' (by rw[adm]; simp only[UInt32.size]; omega),adm]
theorem AW (x y:UInt32):(my x y).toNat=x.toNat ||| y.toNat:=UInt32.toNat_or x y
theorem uc (b:List UInt8) (t:Nat):(cS b t).toNat=((((b.getD (4*t) 0).toNat*256+(b.getD (4*t+1) 0).toNat)*256+(b.getD (4*t+2) 0).toNat)*256+(b.getD (4*t+3) 0).toNat):=by
  unfold cS;generalize b.getD (4*t) 0=p;generalize b.getD (4*t+1) 0=q;generalize b.getD (4*t+2) 0=r;generalize b.getD (4*t+3) 0=s;have hp:=p.toNat_lt;have hq:=q.toNat_lt;have hr:=r.toNat_lt;have hs:=s.toNat_lt;rw[AW,AW,AW,zi _ _ (by decide),zi _ _ (by decide),zi _ _ (by decide),Eq];have e1:=Nat.two_pow_add_eq_or_of_lt (i:=24) (b:=2^16*q.toNat) (by omega) p.toNat;rw[← e1];have e2:=Nat.two_pow_add_eq_or_of_lt (i:=16) (b:=2^8*r.toNat) (by omega) (2^8*p.toNat+q.toNat);have e3:2^24*p.toNat+2^16*q.toNat=2^16*(2^8*p.toNat+q.toNat):=by omega
  rw[e3,← e2];have e4:=Nat.two_pow_add_eq_or_of_lt (i:=8) (b:=s.toNat) (by omega) (2^8*(2^8*p.toNat+q.toNat)+r.toNat);have e5:2^16*(2^8*p.toNat+q.toNat)+2^8*r.toNat=2^8*(2^8*(2^8*p.toNat+q.toNat)+r.toNat):=by omega
  rw[e5,← e4];omega
theorem yg (b:List UInt8) (n:Nat):(jx b n).length=n:=by simp[jx]
theorem yu (b:List UInt8):∀ n,(dc b n).length=16+n
  | 0=>by simp[dc,yg]
  | n+1=>by rw[dc,abJ,yu b n]; simp; omega
theorem Is {α:Type} (l:List α) (z x:α) (n:Nat) (h:0<n):(l++List.replicate n z).set l.length x=(l++[x])++List.replicate (n-1) z:=by
  obtain⟨k,rfl⟩:∃ k,n=k+1:=⟨n-1,by omega⟩
  rw[adk _ _ (abR _),Nat.sub_self,List.replicate_succ,List.set_cons_zero];simp
theorem Zu {l:List UInt32} {r:List UInt32} {i:Nat} (h:i<l.length):(l++r)[i]?=some (l.getD i 0):=by
  rw[acg h];simp[h]
theorem getD_some {l:List UInt32} {i:Nat} (h:i<l.length):l[i]?=some (l.getD i 0):=by simp[h]
theorem eight {l:List UInt32} (h:l.length=8):∃ a b c d e f g i,l=[a,b,c,d,e,f,g,i]:=by
  match l,h with
  | [a,b,c,d,e,f,g,i],_=>exact⟨a,b,c,d,e,f,g,i,rfl⟩
def cd.list (s:cd):List UInt32:=[s.a,s.b,s.c,s.d,s.e,s.f,s.g,s.h]
theorem Zv (s:cd) (k w:UInt32):(s.step k w).a=bE (bE (bE (bE (bE s.h (lu s.e)) (lE s.e s.f s.g)) k) w) (bE (mo s.a) (mq s.a s.b s.c)):=rfl
theorem Zw (s:cd) (k w:UInt32):(s.step k w).b=s.a:=rfl
theorem Zx (s:cd) (k w:UInt32):(s.step k w).c=s.b:=rfl
theorem Zy (s:cd) (k w:UInt32):(s.step k w).d=s.c:=rfl
theorem Zz (s:cd) (k w:UInt32):(s.step k w).e=bE s.d (bE (bE (bE (bE s.h (lu s.e)) (lE s.e s.f s.g)) k) w):=rfl
theorem ZA (s:cd) (k w:UInt32):(s.step k w).f=s.e:=rfl
theorem ZB (s:cd) (k w:UInt32):(s.step k w).g=s.f:=rfl
theorem ZC (s:cd) (k w:UInt32):(s.step k w).h=s.g:=rfl
theorem QW {l:List UInt8} {i:Nat} (h:i<l.length):l[i]?=some (l.getD i 0):=by simp[h]
def CH (h k:List UInt32) (b:List UInt8) (t:Nat):St:=⟨aT [(0,.w (.c (.d (.sl (h.map wD))))),(1,.w (.c (.d (.sl (k.map wD))))),(2,.w (.c (.d (.sl (b.map bD))))),(7,.w (.c (.pa 1 1))),(8,.w (.c (.d (.int .i64 (t:Int)))))],
  hL [(1,.row 1 ((jx b t++List.replicate (64-t) 0).map wD))],uL [1]⟩
def CI (h k:List UInt32) (b:List UInt8) (n:Nat):St:=⟨aT [(0,.w (.c (.d (.sl (h.map wD))))),(1,.w (.c (.d (.sl (k.map wD))))),(7,.w (.c (.pa 1 1))),(9,.w (.c (.d (.int .i64 ((16+n:Nat):Int)))))],
  hL [(1,.row 1 ((dc b n++List.replicate (48-n) 0).map wD))],uL [1]⟩
def xv (h:List UInt32) (b:List UInt8) (s:cd) (n:Nat):St:=⟨aT [(0,.w (.c (.d (.sl (h.map wD))))),(1,.w (.c (.d (.sl (dS.map wD))))),(7,.w (.c (.pa 1 1))),(12,.w (.c (.d (wD s.a)))),(13,.w (.c (.d (wD s.b)))),(14,.w (.c (.d (wD s.c)))),(15,.w (.c (.d (wD s.d)))),(16,.w (.c (.d (wD s.e)))),(17,.w (.c (.d (wD s.f)))),(18,.w (.c (.d (wD s.g)))),(19,.w (.c (.d (wD s.h)))),(20,.w (.c (.d (.int .i64 (n:Int)))))],
  hL [(1,.row 1 ((iV b).map wD))],uL [1]⟩
def tD (h:List UInt32) (b:List UInt8) (n:Nat):St:=xv h b ((cd.of h).rounds dS (iV b) n) n
def yh:aS := .seq (.seq (.reg [oM 23 8,oO 24 (.bin .lss (.t 23) (kI 16))]) (.cond (.t 24) (.skip) (.exit 0))) (.seq (.block 1 (.reg [oM 27 8,oM 28 2,oM 29 8,oO 30 (.bin .mul (kI 4) (.t 29)),oO 31 (.idxSl 1 (.t 28) (.t 30)),oO 32 (.load .sc (.t 31)),oO 33 (.conv .u32 (.t 32)),oO 34 (.bin .shl (.t 33) (.k (.c (.d (.int .u64 24))))),oM 35 2,oM 36 8,oO 37 (.bin .mul (kI 4) (.t 36)),oO 38 (.bin .add (.t 37) (kI 1)),oO 39 (.idxSl 1 (.t 35) (.t 38)),oO 40 (.load .sc (.t 39)),oO 41 (.conv .u32 (.t 40)),oO 42 (.bin .shl (.t 41) (.k (.c (.d (.int .u64 16))))),oO 43 (.bin .or (.t 34) (.t 42)),oM 44 2,oM 45 8,oO 46 (.bin .mul (kI 4) (.t 45)),oO 47 (.bin .add (.t 46) (kI 2)),oO 48 (.idxSl 1 (.t 44) (.t 47)),oO 49 (.load .sc (.t 48)),oO 50 (.conv .u32 (.t 49)),oO 51 (.bin .shl (.t 50) (.k (.c (.d (.int .u64 8))))),
 oO 52 (.bin .or (.t 43) (.t 51)),oM 53 2,oM 54 8,oO 55 (.bin .mul (kI 4) (.t 54)),oO 56 (.bin .add (.t 55) (kI 3)),oO 57 (.idxSl 1 (.t 53) (.t 56)),oO 58 (.load .sc (.t 57)),oO 59 (.conv .u32 (.t 58)),oO 60 (.bin .or (.t 52) (.t 59)),oO 61 (.idxPa 1 64 (.t 7) (.t 27)),oN (.store .sc (.t 61) (.t 60))])) (.reg [oM 25 8,oO 26 (.bin .add (.t 25) (kI 1)),oM 8 26]))
def yi:aS := .seq (.seq (.reg [oM 62 9,oO 63 (.bin .lss (.t 62) (kI 64))]) (.cond (.t 63) (.skip) (.exit 2))) (.seq (.block 3 (.seq (.reg [oM 66 9,oO 67 (.bin .sub (.t 66) (kI 15)),oO 68 (.idxPa 1 64 (.t 7) (.t 67)),oO 69 (.load .sc (.t 68)),oM 70 9,oO 71 (.bin .sub (.t 70) (kI 2)),oO 72 (.idxPa 1 64 (.t 7) (.t 71)),oO 73 (.load .sc (.t 72)),oM 10 69,oM 11 73]) (.reg [oM 74 9,oM 75 11,oO 76 (.call 103 [(.t 75),(kI 17)] none),oM 77 11,oO 78 (.call 103 [(.t 77),(kI 19)] none),oO 79 (.bin .xor (.t 76) (.t 78)),oM 80 11,oO 81 (.bin .shr (.t 80) (.k (.c (.d (.int .u64 10))))),oO 82 (.bin .xor (.t 79) (.t 81)),oM 83 9,oO 84 (.bin .sub (.t 83) (kI 7)),oO 85 (.idxPa 1 64 (.t 7) (.t 84)),oO 86 (.load .sc (.t 85)),oO 87 (.bin .add (.t 82) (.t 86)),oM 88 10,oO 89 (.call 103 [(.t 88),(kI 7)] none),
 oM 90 10,oO 91 (.call 103 [(.t 90),(kI 18)] none),oO 92 (.bin .xor (.t 89) (.t 91)),oM 93 10,oO 94 (.bin .shr (.t 93) (.k (.c (.d (.int .u64 3))))),oO 95 (.bin .xor (.t 92) (.t 94)),oO 96 (.bin .add (.t 87) (.t 95)),oM 97 9,oO 98 (.bin .sub (.t 97) (kI 16)),oO 99 (.idxPa 1 64 (.t 7) (.t 98)),oO 100 (.load .sc (.t 99)),oO 101 (.bin .add (.t 96) (.t 100)),oO 102 (.idxPa 1 64 (.t 7) (.t 74)),oN (.store .sc (.t 102) (.t 101))]))) (.reg [oM 64 9,oO 65 (.bin .add (.t 64) (kI 1)),oM 9 65]))
def yj:aS := .seq (.seq (.reg [oM 127 20,oO 128 (.bin .lss (.t 127) (kI 64))]) (.cond (.t 128) (.skip) (.exit 4))) (.seq (.block 5 (.seq (.reg [oM 131 19,oM 132 16,oO 133 (.call 103 [(.t 132),(kI 6)] none),oM 134 16,oO 135 (.call 103 [(.t 134),(kI 11)] none),oO 136 (.bin .xor (.t 133) (.t 135)),oM 137 16,oO 138 (.call 103 [(.t 137),(kI 25)] none),oO 139 (.bin .xor (.t 136) (.t 138)),oO 140 (.bin .add (.t 131) (.t 139)),oM 141 16,oM 142 17,oO 143 (.bin .and (.t 141) (.t 142)),oM 144 16,oO 145 (.un .xor (.t 144)),oM 146 18,oO 147 (.bin .and (.t 145) (.t 146)),oO 148 (.bin .xor (.t 143) (.t 147)),oO 149 (.bin .add (.t 140) (.t 148)),oM 150 1,oM 151 20,oO 152 (.idxSl 1 (.t 150) (.t 151)),oO 153 (.load .sc (.t 152)),oO 154 (.bin .add (.t 149) (.t 153)),oM 155 20,oO 156 (.idxPa 1 64 (.t 7) (.t 155)),
 oO 157 (.load .sc (.t 156)),oO 158 (.bin .add (.t 154) (.t 157)),oM 21 158]) (.seq (.reg [oM 159 12,oO 160 (.call 103 [(.t 159),(kI 2)] none),oM 161 12,oO 162 (.call 103 [(.t 161),(kI 13)] none),oO 163 (.bin .xor (.t 160) (.t 162)),oM 164 12,oO 165 (.call 103 [(.t 164),(kI 22)] none),oO 166 (.bin .xor (.t 163) (.t 165)),oM 167 12,oM 168 13,oO 169 (.bin .and (.t 167) (.t 168)),oM 170 12,oM 171 14,oO 172 (.bin .and (.t 170) (.t 171)),oO 173 (.bin .xor (.t 169) (.t 172)),oM 174 13,oM 175 14,oO 176 (.bin .and (.t 174) (.t 175)),oO 177 (.bin .xor (.t 173) (.t 176)),oO 178 (.bin .add (.t 166) (.t 177)),oM 22 178]) (.reg [oM 179 21,oM 180 22,oO 181 (.bin .add (.t 179) (.t 180)),oM 182 12,oM 183 13,oM 184 14,oM 185 15,oM 186 21,oO 187 (.bin .add (.t 185) (.t 186)),oM 188 16,oM 189 17,oM 190 18,oM 12 181,
 oM 13 182,oM 14 183,oM 15 184,oM 16 187,oM 17 188,oM 18 189,oM 19 190])))) (.reg [oM 129 20,oO 130 (.bin .add (.t 129) (kI 1)),oM 20 130]))
def FT:aG:=⟨3,232,.seq (.reg [oO 6 (.mv (.k (.c .nil)))]) (.seq (.reg [oO 7 (.allocArr [(.int .u32 0),(.int .u32 0),(.int .u32 0),(.int .u32 0),(.int .u32 0),(.int .u32 0),(.int .u32 0),(.int .u32 0),(.int .u32 0),(.int .u32 0),(.int .u32 0),(.int .u32 0),(.int .u32 0),(.int .u32 0),(.int .u32 0),(.int .u32 0),(.int .u32 0),(.int .u32 0),(.int .u32 0),(.int .u32 0),(.int .u32 0),(.int .u32 0),(.int .u32 0),(.int .u32 0),(.int .u32 0),(.int .u32 0),(.int .u32 0),(.int .u32 0),(.int .u32 0),(.int .u32 0),(.int .u32 0),(.int .u32 0),(.int .u32 0),(.int .u32 0),(.int .u32 0),(.int .u32 0),(.int .u32 0),(.int .u32 0),(.int .u32 0),(.int .u32 0),(.int .u32 0),(.int .u32 0),(.int .u32 0),(.int .u32 0),(.int .u32 0),(.int .u32 0),(.int .u32 0),(.int .u32 0),(.int .u32 0),(.int .u32 0),(.int .u32 0),(.int .u32 0),(.int .u32 0),(.int .u32 0),(.int .u32 0),(.int .u32 0),(.int .u32 0),(.int .u32 0),(.int .u32 0),(.int .u32 0),(.int .u32 0),(.int .u32 0),(.int .u32 0),(.int .u32 0)])])
 (.seq (.seq (.reg [oO 8 (.mv (kI 0))]) (.block 0 (.loop yh))) (.seq (.seq (.reg [oO 9 (.mv (kI 16))]) (.block 2 (.loop yi))) (.seq (.reg [oM 103 0,oO 104 (.idxSl 1 (.t 103) (kI 0)),oO 105 (.load .sc (.t 104)),oM 106 0,oO 107 (.idxSl 1 (.t 106) (kI 1)),oO 108 (.load .sc (.t 107)),oM 109 0,oO 110 (.idxSl 1 (.t 109) (kI 2)),oO 111 (.load .sc (.t 110)),oM 112 0,oO 113 (.idxSl 1 (.t 112) (kI 3)),oO 114 (.load .sc (.t 113)),oM 115 0,oO 116 (.idxSl 1 (.t 115) (kI 4)),oO 117 (.load .sc (.t 116)),oM 118 0,oO 119 (.idxSl 1 (.t 118) (kI 5)),oO 120 (.load .sc (.t 119)),oM 121 0,oO 122 (.idxSl 1 (.t 121) (kI 6)),oO 123 (.load .sc (.t 122)),oM 124 0,oO 125 (.idxSl 1 (.t 124) (kI 7)),oO 126 (.load .sc (.t 125)),oM 12 105,oM 13 108,oM 14 111,oM 15 114,oM 16 117,oM 17 120,oM 18 123,oM 19 126])
 (.seq (.seq (.reg [oO 20 (.mv (kI 0))]) (.block 4 (.loop yj))) (.seq (.reg [oM 191 0,oO 192 (.idxSl 1 (.t 191) (kI 0)),oO 193 (.load .sc (.t 192)),oM 194 12,oO 195 (.bin .add (.t 193) (.t 194)),oM 196 0,oO 197 (.idxSl 1 (.t 196) (kI 1)),oO 198 (.load .sc (.t 197)),oM 199 13,oO 200 (.bin .add (.t 198) (.t 199)),oM 201 0,oO 202 (.idxSl 1 (.t 201) (kI 2)),oO 203 (.load .sc (.t 202)),oM 204 14,oO 205 (.bin .add (.t 203) (.t 204)),oM 206 0,oO 207 (.idxSl 1 (.t 206) (kI 3)),oO 208 (.load .sc (.t 207)),oM 209 15,oO 210 (.bin .add (.t 208) (.t 209)),oM 211 0,oO 212 (.idxSl 1 (.t 211) (kI 4)),oO 213 (.load .sc (.t 212)),oM 214 16,oO 215 (.bin .add (.t 213) (.t 214)),oM 216 0,oO 217 (.idxSl 1 (.t 216) (kI 5)),oO 218 (.load .sc (.t 217)),oM 219 17,oO 220 (.bin .add (.t 218) (.t 219)),oM 221 0,
 oO 222 (.idxSl 1 (.t 221) (kI 6)),oO 223 (.load .sc (.t 222)),oM 224 18,oO 225 (.bin .add (.t 223) (.t 224)),oM 226 0,oO 227 (.idxSl 1 (.t 226) (kI 7)),oO 228 (.load .sc (.t 227)),oM 229 19,oO 230 (.bin .add (.t 228) (.t 229)),oO 231 (.bldSl true 8 1 (.int .u32 0) [(0,(.t 195)),(1,(.t 200)),(2,(.t 205)),(3,(.t 210)),(4,(.t 215)),(5,(.t 220)),(6,(.t 225)),(7,(.t 230))]),oM 6 231]) (.ret))))))),[(6,none)]⟩
theorem R5:aF Tryz.prog { own:=[231],comp:=[],frz:=[],nils:=[] } Tryz.f74=some FT:=by kernel_rfl
set_option maxHeartbeats 1600000 in
theorem It (G:ah) (h:List UInt32) (b:List UInt8) (hh:h.length=8) (hb:b.length=64):aB Tryz.prog G 74 [.sl (h.map wD),.sl (dS.map wD),.sl (b.map bD)] (.w (.c (.fr 1 ((mU h b).map wD)))):=by
  refine aI Tryz.func74 R5 rfl rfl ?_;have hsl:(iV b).length=64:=yu b 48;have hcl:dS.length=64:=ub;simp only[FT,af,wx,aa,seval,iteOmega,toNatUp];refine ba (CH h dS b) (fun t=>16-t) (fun t=>t≤16) 0 (abM _) ?_ ?_
  ·refine ap (fun _=>56) ?_ ?_ rfl rfl <;> simp only[wx,aj,aa,seval,iteOmega,toNatUp];rfl
  ·intro t ht;by_cases hlt:t<16
   ·have e0:IntKind.i64.wrap (4*(t:Int))=((4*t:Nat):Int):=by rw[IntWalk.i64_in _ (by omega)]; omega
    have e1:IntKind.i64.wrap (((4*t:Nat):Int)+1)=((4*t+1:Nat):Int):=by rw[IntWalk.i64_in _ (by omega)]; omega
    have e2:IntKind.i64.wrap (((4*t:Nat):Int)+2)=((4*t+2:Nat):Int):=by rw[IntWalk.i64_in _ (by omega)]; omega
    have e3:IntKind.i64.wrap (((4*t:Nat):Int)+3)=((4*t+3:Nat):Int):=by rw[IntWalk.i64_in _ (by omega)]; omega
    have e4:IntKind.i64.wrap ((t:Int)+1)=((t+1:Nat):Int):=by rw[IntWalk.i64_in _ (by omega)]; omega
    have g:∀ k,k<64→(b.map bD)[k]?=some (bD (b.getD k 0)):=fun k hk=>by rw[aD,QW (by omega)]; rfl
    have g0:=g (4*t) (by omega);have g1:=g (4*t+1) (by omega);have g2:=g (4*t+2) (by omega);have g3:=g (4*t+3) (by omega);have h1:t<(jx b t++List.replicate (64-t) 0).length:=by rw[abJ,yg,ab3]; omega
    have h2:=Is (jx b t) 0 (cS b t) (64-t) (by omega);rw[yg] at h2;have h3:jx b t++[cS b t]=jx b (t+1):=by simp[jx,ac8]
    have h4:64-t-1=64-(t+1):=by omega
    rw[h3,h4] at h2;simp only[cS] at h2;have m24:min (24:Int).toNat 32=24:=by decide
    have m16:min (16:Int).toNat 32=16:=by decide
    have m8:min (8:Int).toNat 32=8:=by decide
    simp only[yh,CH,wx,aa,seval,iteOmega,toNatUp,e0,e1,e2,e3,e4,g0,g1,g2,g3,acR,MD h1 (wU _),ME,h2];refine aU (t+1) (by omega) (by omega) (ap id ?_ ?_ rfl rfl) <;> simp only[wx,aj,aa,seval,iteOmega,toNatUp]
   ·obtain rfl:t=16:=by omega
    simp only[yh,CH,wx,aa,seval,iteOmega,toNatUp];refine ba (CI h dS b) (fun n=>48-n) (fun n=>n≤48) 0 (abM _) ?_ ?_
    ·have h0:jx b 16=dc b 0:=rfl;refine ap id ?_ ?_ rfl rfl <;> simp only[wx,aj,aa,seval,iteOmega,toNatUp,h0]
    ·intro n hn;by_cases hlt:n<48
     ·have hl:=yu b n;have w1:∀ k:Nat,k≤16→IntKind.i64.wrap (((16+n:Nat):Int)-(k:Int))=((16+n-k:Nat):Int):=fun k hk=>by rw[IntWalk.i64_in _ (by omega)]; omega
      have e15:IntKind.i64.wrap (((16+n:Nat):Int)-15)=((16+n-15:Nat):Int):=w1 15 (by decide);have e2:IntKind.i64.wrap (((16+n:Nat):Int)-2)=((16+n-2:Nat):Int):=w1 2 (by decide);have e7:IntKind.i64.wrap (((16+n:Nat):Int)-7)=((16+n-7:Nat):Int):=w1 7 (by decide);have e16:IntKind.i64.wrap (((16+n:Nat):Int)-16)=((16+n-16:Nat):Int):=w1 16 (by decide);have e0:IntKind.i64.wrap (((16+n:Nat):Int)+1)=((16+(n+1):Nat):Int):=by rw[IntWalk.i64_in _ (by omega)]; omega
      have g:∀ k,k<16+n→((dc b n++List.replicate (48-n) 0).map wD)[k]?=some (wD ((dc b n).getD k 0)):=fun k hk=>by
        rw[acG,Zu (by omega)]; rfl
      have g15:=g (16+n-15) (by omega);have g2:=g (16+n-2) (by omega);have g7:=g (16+n-7) (by omega);have g16:=g (16+n-16) (by omega);simp only[yi,CI,wx,aa,seval,iteOmega,toNatUp,e15,e2,e7,e16,e0,g15,g2,g7,g16];refine bd (kQ G _ 17 (by decide) (by decide)) rfl (.inr rfl) ?_;simp only[wx,aa,seval,iteOmega,toNatUp];refine bd (kQ G _ 19 (by decide) (by decide)) rfl (.inr rfl) ?_;simp only[wx,aa,seval,iteOmega,toNatUp,e15,e2,e7,e16,e0,g15,g2,g7,g16];refine bd (kQ G _ 7 (by decide) (by decide)) rfl (.inr rfl) ?_;simp only[wx,aa,seval,iteOmega,toNatUp];refine bd (kQ G _ 18 (by decide) (by decide)) rfl (.inr rfl) ?_;have h1:16+n<(dc b n++List.replicate (48-n) 0).length:=by rw[abJ,hl,ab3]; omega
      have h2:=Is (dc b n) 0 (od (dc b n) (16+n)) (48-n) (by omega);rw[hl] at h2;have h4:48-n-1=48-(n+1):=by omega
      have h3:dc b n++[od (dc b n) (16+n)]=dc b (n+1):=rfl;rw[h3,h4] at h2;simp only[od,l4,l5] at h2;simp only[wx,aa,seval,iteOmega,toNatUp,e15,e2,e7,e16,e0,g15,g2,g7,g16,MD h1 (wU _),ME,h2];refine aU (n+1) (by omega) (by omega) (ap id ?_ ?_ rfl rfl) <;> simp only[wx,aj,aa,seval,iteOmega,toNatUp]
     ·have hn48:n=48:=by omega
      have h0:48-n=0:=by omega
      obtain⟨h0',h1,h2,h3,h4,h5,h6,h7,rfl⟩:=eight hh;simp only[yi,CI,wx,aa,seval,iteOmega,toNatUp,h0,abP,acO,← TT b n hn48];refine ba (tD [h0',h1,h2,h3,h4,h5,h6,h7] b) (fun n=>64-n) (fun n=>n≤64) 0 (abM _) ?_ ?_
      ·refine ap id ?_ ?_ rfl rfl <;> simp only[tD,xv,wx,aj,aa,seval,iteOmega,toNatUp];exact⟨rfl,rfl,rfl,rfl,rfl,rfl,rfl,rfl⟩
      ·clear hn hlt hn48 h0;intro n hn;by_cases hlt:n<64
       ·have e1:IntKind.i64.wrap ((n:Int)+1)=((n+1:Nat):Int):=by rw[IntWalk.i64_in _ (by omega)]; rfl
        have g1:(dS.map wD)[n]?=some (wD (dS.getD n 0)):=by rw[aD,getD_some (by omega)]; rfl
        have g2:((iV b).map wD)[n]?=some (wD ((iV b).getD n 0)):=by rw[aD,getD_some (by omega)]; rfl
        have hr:(cd.of [h0',h1,h2,h3,h4,h5,h6,h7]).rounds dS (iV b) (n+1)=((cd.of [h0',h1,h2,h3,h4,h5,h6,h7]).rounds dS (iV b) n).step (dS.getD n 0) ((iV b).getD n 0):=rfl;generalize hs:(cd.of [h0',h1,h2,h3,h4,h5,h6,h7]).rounds dS (iV b) n=s at hr;simp only[yj,tD,xv,hs,wx,aa,seval,iteOmega,toNatUp,hcl,hsl,g1,g2,e1];refine bd (kQ G _ 6 (by decide) (by decide)) rfl (.inr rfl) ?_;simp only[wx,aa,seval,iteOmega,toNatUp];refine bd (kQ G _ 11 (by decide) (by decide)) rfl (.inr rfl) ?_;simp only[wx,aa,seval,iteOmega,toNatUp];refine bd (kQ G _ 25 (by decide) (by decide)) rfl (.inr rfl) ?_;simp only[wx,aa,seval,iteOmega,toNatUp,g1,g2,hcl,hsl];refine bd (kQ G _ 2 (by decide) (by decide)) rfl (.inr rfl) ?_;simp only[wx,aa,seval,iteOmega,toNatUp];refine bd (kQ G _ 13 (by decide) (by decide)) rfl (.inr rfl) ?_;simp only[wx,aa,seval,iteOmega,toNatUp];refine bd (kQ G _ 22 (by decide) (by decide)) rfl (.inr rfl) ?_;simp only[wx,aa,seval,iteOmega,toNatUp,e1];refine aU (n+1) (by omega) (by omega) ?_;rw[tD,hr];refine (ap id ?_ ?_ rfl rfl) <;> simp only[wx,aj,aa,seval,iteOmega,toNatUp,Zv,Zw,Zx,Zy,Zz,ZA,ZB,ZC];exact⟨rfl,rfl⟩
       ·obtain rfl:n=64:=by omega
        have hK:mU [h0',h1,h2,h3,h4,h5,h6,h7] b=((cd.of [h0',h1,h2,h3,h4,h5,h6,h7]).rounds dS (iV b) 64).sum [h0',h1,h2,h3,h4,h5,h6,h7]:=rfl;rw[hK];simp only[tD];generalize (cd.of [h0',h1,h2,h3,h4,h5,h6,h7]).rounds dS (iV b) 64=s;have e8:s.sum [h0',h1,h2,h3,h4,h5,h6,h7]=[bE h0' s.a,bE h1 s.b,bE h2 s.c,bE h3 s.d,bE h4 s.e,bE h5 s.f,bE h6 s.g,bE h7 s.h]:=rfl;simp only[yj,xv,e8,wx,aa,seval,iteOmega,toNatUp];exact eI (id:=1848) (n:=8) (s:=1) (by simp only[wx,aa,seval,iteOmega,toNatUp]) (by simp only[wx,aa,seval,iteOmega,toNatUp] <;> rfl) rfl
def ew (h:List UInt32) (b:List UInt8):Nat→List UInt32
  | 0=>h
  | n+1=>mU (ew h b n) ((b.drop (64*n)).take 64)
theorem uM {h:List UInt32} (hh:h.length=8) (b:List UInt8):∀ n,(ew h b n).length=8
  | 0=>hh
  | n+1=>Ep _ _
def jo (rest:List UInt8) (count:Nat):List UInt8:=rest++[128]++List.replicate ((119-rest.length)%64) 0++au (count*8) 8
def iA (ws:List UInt32):List UInt8:=ws.flatMap fun w=>au w.toNat 4
def nm (s:List UInt32) (rest:List UInt8) (count:Nat):List UInt8:=iA (ew s (jo rest count) ((jo rest count).length / 64))
def ow (b:List UInt8):List UInt8:=nm (ew jb b (b.length / 64)) (b.drop (64*(b.length / 64))) b.length
theorem yx:∀ ws:List UInt32,(iA ws).length=4*ws.length
  | []=>rfl
  | w::ws=>by
    have:iA (w::ws)=au w.toNat 4++iA ws:=rfl;rw[this,abJ,bP,yx ws,ada]; omega
theorem TV {s:List UInt32} (hs:s.length=8) (rest:List UInt8) (count:Nat):(nm s rest count).length=32:=by
  unfold nm;rw[yx,uM hs]
theorem Iu (b:List UInt8):(ow b).length=32:=TV (uM Eo _ _) _ _
theorem TW (rest:List UInt8) (count:Nat) (h:rest.length<64):(jo rest count).length=rest.length+9+(119-rest.length)%64∧(jo rest count).length%64=0:=by
  have:(jo rest count).length=rest.length+9+(119-rest.length)%64:=by simp[jo,bP]; omega
  exact⟨this,by omega⟩
theorem Qt (ws:List UInt32) (k:Nat) (h:k<ws.length):iA (ws.take k)++au (ws.getD k 0).toNat 4=iA (ws.take (k+1)):=by
  rw[acN h];unfold iA;rw[ac5];simp[h]
theorem TX {α:Type} (a:α) (j:Nat):List.replicate j a++[a]=List.replicate (j+1) a:=by rw[adf]
def CJ (h:List UInt32) (rest:List UInt8) (count:Nat) (j:Nat):St:=⟨aT [(0,.w (.c (.d (.sl (h.map wD))))),(2,.w (.c (.d (.int .i64 (count:Int))))),(7,.w (.c (.d (.sl (dS.map wD))))),(8,.w (.c (.own 1 1 0 (rest++[128]++List.replicate j 0).length)))],hL [(1,.row 1 ((rest++[128]++List.replicate j 0).map bD))],uL [1]⟩
def CK (h:List UInt32) (p:List UInt8) (n:Nat):St:=⟨aT [(0,.w (.c (.d (.sl ((ew h p n).map wD))))),(7,.w (.c (.d (.sl (dS.map wD))))),(8,.w (.c (.own 1 1 0 p.length))),(9,.w (.c (.d (.int .i64 ((64*n:Nat):Int)))))],hL [(1,.row 1 (p.map bD))],uL [1]⟩
def CL (ws:List UInt32) (k:Nat):St:=⟨aT [(0,.w (.c (.d (.sl (ws.map wD))))),(10,.w (.c (.own 1 1 0 (iA (ws.take k)).length))),(11,.w (.c (.d (.int .i64 (k:Int)))))],hL [(1,.row 1 ((iA (ws.take k)).map bD))],uL [1]⟩
theorem ZD {ws:List UInt32} {k:Nat} (h:k<ws.length):(ws.map wD)[k]?=some (wD (ws.getD k 0)):=by
  simp[h]
theorem aaV:D.int .u8 0=bD 0:=rfl
theorem WB:D.int .u8 128=bD 128:=rfl
theorem Pt (l:List UInt8) (a:UInt8):l.map bD++[bD a]=(l++[a]).map bD:=by simp
def zj:aS := .seq (.seq (.reg [oM 18 8,oO 19 (.len (.t 18)),oO 20 (.bin .rem (.t 19) (kI 64)),oO 21 (.bin .neq (.t 20) (kI 56))]) (.cond (.t 21) (.skip) (.exit 0))) (.block 1 (.reg [oM 22 8,oO 23 (.bldSl false 1 1 (.int .u8 0) [(0,(.k (.c (.d (.int .u8 0)))))]),oO 24 (.app false 1 1 (.t 22) (.t 23)),oM 8 24]))
def zk:aS := .seq (.seq (.reg [oM 31 9,oM 32 8,oO 33 (.len (.t 32)),oO 34 (.bin .lss (.t 31) (.t 33))]) (.cond (.t 34) (.skip) (.exit 2))) (.seq (.block 3 (.reg [oM 37 0,oM 38 7,oM 39 8,oM 40 9,oM 41 9,oO 42 (.bin .add (.t 41) (kI 64)),oO 43 (.slice 1 (.t 39) (some (.t 40)) (some (.t 42)) none),oO 44 (.call 74 [(.t 37),(.t 38),(.t 43)] none),oM 0 44])) (.reg [oM 35 9,oO 36 (.bin .add (.t 35) (kI 64)),oM 9 36]))
def zm:aS := .seq (.seq (.reg [oM 46 11,oO 47 (.bin .lss (.t 46) (kI 8))]) (.cond (.t 47) (.skip) (.exit 4))) (.seq (.block 5 (.reg [oM 50 10,oM 51 0,oM 52 11,oO 53 (.idxSl 1 (.t 51) (.t 52)),oO 54 (.load .sc (.t 53)),oO 55 (.conv .u64 (.t 54)),oO 56 (.call 42 [(.t 55),(kI 4)] none),oO 57 (.app false 1 1 (.t 50) (.t 56)),oM 10 57])) (.reg [oM 48 11,oO 49 (.bin .add (.t 48) (kI 1)),oM 11 49]))
def K9:aG:=⟨3,59,.seq (.reg [oO 6 (.mv (.k (.c .nil)))]) (.seq (.reg [oO 12 (.call 73 [] none),oM 7 12]) (.seq (.reg [oM 13 1,oO 14 (.bldSl false 1 1 (.sl []) [(0,(.t 13))]),oO 15 (.call 41 [(.t 14)] (some (0,1))),oO 16 (.bldSl false 1 1 (.int .u8 0) [(0,(.k (.c (.d (.int .u8 128)))))]),oO 17 (.app false 1 1 (.t 15) (.t 16)),oM 8 17]) (.seq (.block 0 (.loop zj)) (.seq (.reg [oM 25 8,oM 26 2,oO 27 (.conv .u64 (.t 26)),oO 28 (.bin .mul (.t 27) (.k (.c (.d (.int .u64 8))))),oO 29 (.call 42 [(.t 28),(kI 8)] none),oO 30 (.app false 1 1 (.t 25) (.t 29)),oM 8 30]) (.seq (.seq (.reg [oO 9 (.mv (kI 0))]) (.block 2 (.loop zk))) (.seq (.reg [oO 45 (.bldSl true 0 1 (.int .u8 0) []),oM 10 45]) (.seq (.seq (.reg [oO 11 (.mv (kI 0))]) (.block 4 (.loop zm))) (.seq (.reg [oM 58 10,
 oM 6 58]) (.ret))))))))),[(6,none)]⟩
theorem WC:aF Tryz.prog { own:=[15,45],comp:=[],frz:=[],nils:=[] } Tryz.f75=some K9:=by kernel_rfl
theorem ZE (G:ah) (s:List UInt32) (rest:List UInt8) (count:Nat) (hs:s.length=8) (hr:rest.length<64) (hc:count≤140737488355328):aB Tryz.prog G 75 [.sl (s.map wD),.sl (rest.map bD),.int .i64 (count:Int)] (.w (.c (.fr 1 ((nm s rest count).map bD)))):=by
  refine aI Tryz.func75 WC rfl rfl ?_;have hj:=fR G [rest] (by simp) (by simp; omega);have hf:[rest].flatten=rest:=by simp
  rw[hf] at hj;obtain⟨hp1,hp2⟩:=TW rest count hr;simp only[K9,af,ae,aa,seval,iteOmega,toNatUp];refine bd (NW G) rfl (.inl rfl) ?_;simp only[ae,aa,seval,iteOmega,toNatUp];refine bd hj rfl (.inl rfl) ?_;simp only[ae,aa,seval,iteOmega,toNatUp,bQ,WB,Pt];refine ba (CJ s rest count) (fun j=>(119-rest.length)%64-j) (fun j=>j≤(119-rest.length)%64) 0 (abM _) ?_ ?_
  ·refine ap (fun _=>136) ?_ ?_ rfl rfl <;> simp only[wx,aj,ar,aa,seval,iteOmega,toNatUp]
  ·intro j hj;have hl:(rest++[128]++List.replicate j 0).length=rest.length+1+j:=by simp; omega
   have ht:((rest++[128]++List.replicate j 0).length:Int).tmod 64=(((rest.length+1+j)%64:Nat):Int):=by rw[hl]; rfl
   by_cases hlt:j<(119-rest.length)%64
   ·have e1:rest++[128]++List.replicate j 0++[0]=rest++[128]++List.replicate (j+1) 0:=by
      rw[abV,TX]
    generalize hx:rest++[128]++List.replicate j 0=x at *
    simp only[zj,CJ,hx,ae,aa,seval,iteOmega,toNatUp,ht,bQ,aaV,Pt,e1];refine aU (j+1) (by omega) (by omega) (ap (fun _=>192) ?_ ?_ rfl rfl) <;> simp only[wx,aj,ar,aa,seval,iteOmega,toNatUp]
   ·obtain rfl:j=(119-rest.length)%64:=by omega
    generalize hx:rest++[128]++List.replicate ((119-rest.length)%64) 0=x at *
    simp only[zj,CJ,hx,ae,aa,seval,iteOmega,toNatUp,ht];refine bd (rO G (count*8) 8 (by decide)) ?_ (.inl rfl) ?_
    ·simp only[ae,aa,seval,iteOmega,toNatUp]
    have hx2:x++au (count*8) 8=jo rest count:=by rw[← hx]; rfl
    simp only[ae,aa,seval,iteOmega,toNatUp,bQ,ic,hx2,bP];refine ba (CK s (jo rest count)) (fun n=>(jo rest count).length / 64-n) (fun n=>n≤(jo rest count).length / 64) 0 (abM _) ?_ ?_
    ·refine ap (fun _=>240) ?_ ?_ rfl rfl <;> simp only[wx,aj,ar,aa,seval,iteOmega,toNatUp,ew]
    ·generalize hpk:jo rest count=p at *
     intro n hn;have hl8:=uM hs p n;by_cases hlt:n<p.length / 64
     ·have h2:((p.drop (64*n)).take 64).length=64:=by rw[abN,abO]; omega
      have e1:64*n+64-64*n=64:=by omega
      simp only[zk,CK,ae,aa,seval,iteOmega,toNatUp];refine bd (It G (ew s p n) ((p.drop (64*n)).take 64) hl8 h2) ?_ (.inr (abt _ _)) ?_
      ·simp only[ae,aa,seval,iteOmega,toNatUp,eA,e1]
      simp only[ae,aa,seval,iteOmega,toNatUp];have e2:64*(n:Int)+64=64*((n:Int)+1):=by omega
      refine aU (n+1) (by omega) (by omega) (ap id ?_ ?_ rfl rfl) <;> simp only[wx,aj,ar,aa,seval,iteOmega,toNatUp,ew,e2]
     ·obtain rfl:n=p.length / 64:=by omega
      have hfk:nm s rest count=iA (ew s p (p.length / 64)):=by unfold nm; rw[hpk]
      rw[hfk];simp only[CK];generalize ew s p (p.length / 64)=ws at hl8;have h64:¬ ((64*(p.length / 64):Nat):Int)<(p.length:Int):=by omega
      simp only[zk,ae,aa,seval,iteOmega,toNatUp,h64];refine ba (CL ws) (fun k=>8-k) (fun k=>k≤8) 0 (abM _) ?_ ?_
      ·refine ap (fun _=>360) ?_ ?_ rfl rfl <;> simp only[wx,aj,ar,aa,seval,iteOmega,toNatUp,iA]
      ·intro k hk;by_cases hlt:k<8
       ·have hw1:(ws.getD k 0).toNat<4294967296:=word_lt _;have hwl:=yx (ws.take k);rw[abN] at hwl;simp only[zm,CL,ae,aa,seval,iteOmega,toNatUp,ZD (show k<ws.length by omega)];refine bd (rO G (ws.getD k 0).toNat 4 (by decide)) ?_ (.inl rfl) ?_
        ·simp only[ae,aa,seval,iteOmega,toNatUp]
        simp only[ae,aa,seval,iteOmega,toNatUp,bQ,Qt ws k (by omega),bP];refine aU (k+1) (by omega) (by omega) (ap (fun _=>456) ?_ ?_ rfl rfl) <;> simp only[wx,aj,ar,aa,seval,iteOmega,toNatUp]
       ·obtain rfl:k=8:=by omega
        have:ws.take 8=ws:=abH (by omega);simp only[zm,CL,ae,aa,seval,iteOmega,toNatUp,this];exact eI (id:=1) (n:=(iA ws).length) (s:=1) (by simp only[wx,aa,seval,iteOmega,toNatUp]) (by simp only[wx,aa,seval,iteOmega,toNatUp]) (by rw[abY])
def C7 (b:List UInt8) (n:Nat):St:=⟨aT [(0,.w (.c (.d (.sl (b.map bD))))),(3,.w (.c (.d (.sl ((ew jb b n).map wD))))),(4,.w (.c (.d (.sl (dS.map wD))))),(5,.w (.c (.d (.int .i64 ((64*(b.length / 64):Nat):Int))))),(6,.w (.c (.d (.int .i64 ((64*n:Nat):Int)))))],hL [],uL []⟩
def zn:aS := .seq (.seq (.reg [oM 13 6,oM 14 5,oO 15 (.bin .lss (.t 13) (.t 14))]) (.cond (.t 15) (.skip) (.exit 0))) (.seq (.block 1 (.reg [oM 18 3,oM 19 4,oM 20 0,oM 21 6,oM 22 6,oO 23 (.bin .add (.t 22) (kI 64)),oO 24 (.slice 1 (.t 20) (some (.t 21)) (some (.t 23)) none),oO 25 (.call 74 [(.t 18),(.t 19),(.t 24)] none),oM 3 25])) (.reg [oM 16 6,oO 17 (.bin .add (.t 16) (kI 64)),oM 6 17]))
def La:aG:=⟨1,33,.seq (.reg [oO 2 (.mv (.k (.c .nil)))]) (.seq (.reg [oO 7 (.call 72 [] none),oO 8 (.call 73 [] none),oM 3 7,oM 4 8]) (.seq (.reg [oM 9 0,oO 10 (.len (.t 9)),oO 11 (.bin .quo (.t 10) (kI 64)),oO 12 (.bin .mul (.t 11) (kI 64)),oM 5 12]) (.seq (.seq (.reg [oO 6 (.mv (kI 0))]) (.block 0 (.loop zn))) (.seq (.reg [oM 26 3,oM 27 0,oM 28 5,oO 29 (.slice 1 (.t 27) (some (.t 28)) none none),oM 30 0,oO 31 (.len (.t 30)),oO 32 (.call 75 [(.t 26),(.t 29),(.t 31)] (some (0,1))),oM 2 32]) (.ret))))),[(2,none)]⟩
theorem WE:aF Tryz.prog { own:=[32],comp:=[],frz:=[],nils:=[] } Tryz.f40=some La:=by kernel_rfl
theorem ZF (G:ah) (b:List UInt8) (hb:b.length≤140737488355328):aB Tryz.prog G 40 [.sl (b.map bD)] (.w (.c (.fr 1 ((ow b).map bD)))):=by
  refine aI Tryz.func40 WE rfl rfl ?_;have e1:(b.length:Int).tdiv 64=((b.length / 64:Nat):Int):=rfl;have e2:((b.length / 64:Nat):Int)*64=((64*(b.length / 64):Nat):Int):=by omega
  have e3:IntKind.i64.wrap ((64*(b.length / 64):Nat):Int)=((64*(b.length / 64):Nat):Int):=IntWalk.i64_in _ (by omega);have e4:IntKind.i64.wrap ((b.length / 64:Nat):Int)=((b.length / 64:Nat):Int):=IntWalk.i64_in _ (by omega);simp only[La,af,wx,wy,aa,seval,iteOmega,toNatUp];refine bd (Zt G) rfl (.inl rfl) ?_;simp only[wx,wy,aa,seval,iteOmega,toNatUp];refine bd (NW G) rfl (.inl rfl) ?_;simp only[wx,wy,aa,seval,iteOmega,toNatUp,e1,e2,e3,e4];refine ba (C7 b) (fun n=>b.length / 64-n) (fun n=>n≤b.length / 64) 0 (abM _) ?_ ?_
  ·refine ap id ?_ ?_ rfl rfl <;> simp only[wx,aj,aa,seval,iteOmega,toNatUp,ew]
  ·intro n hn;have hl8:=uM Eo b n;by_cases hlt:n<b.length / 64
   ·have h2:((b.drop (64*n)).take 64).length=64:=by rw[abN,abO]; omega
    have e1:64*n+64-64*n=64:=by omega
    have e5:IntKind.i64.wrap (((64*n:Nat):Int)+64)=((64*(n+1):Nat):Int):=by rw[IntWalk.i64_in _ (by omega)]; omega
    have e6:64*(n+1)-64*n=64:=by omega
    simp only[zn,C7,wx,wy,aa,seval,iteOmega,toNatUp,e1,e5,e6];refine bd (It G (ew jb b n) ((b.drop (64*n)).take 64) hl8 h2) ?_ (.inl rfl) ?_
    ·simp only[wx,wy,aa,seval,iteOmega,toNatUp]
    simp only[wx,wy,aa,seval,iteOmega,toNatUp,e5];refine aU (n+1) (by omega) (by omega) (ap id ?_ ?_ rfl rfl) <;> simp only[wx,aj,aa,seval,iteOmega,toNatUp,ew]
   ·obtain rfl:n=b.length / 64:=by omega
    have e1:List.take (b.length-64*(b.length / 64)) (b.drop (64*(b.length / 64)))=b.drop (64*(b.length / 64)):=abH (by rw[abO]; exact abR _);simp only[zn,C7,wx,wy,aa,seval,iteOmega,toNatUp,e1];refine bd (ZE G (ew jb b (b.length / 64)) (b.drop (64*(b.length / 64))) b.length hl8 (by rw[abO]; omega) hb) ?_ (.inl rfl) ?_
    ·simp only[wx,wy,aa,seval,iteOmega,toNatUp]
    simp only[wx,wy,aa,seval,iteOmega,toNatUp];exact eI (id:=256) (n:=(nm (ew jb b (b.length / 64)) (b.drop (64*(b.length / 64))) b.length).length) (s:=1) (by simp only[wx,aa,seval,iteOmega,toNatUp]) (by simp only[wx,aa,seval,iteOmega,toNatUp] <;> rfl) (by rw[abY]; rfl)

def gy (v m:Int):Int:=if m<1 then 0 else v%m
theorem nx (v m:Int) (h:1≤m):0≤gy v m∧gy v m<m:=by
  unfold gy;rw[if_neg (by omega)];exact⟨Int.emod_nonneg _ (by omega),Int.emod_lt_of_pos _ (by omega)⟩
theorem TY {v m:Int} (hm:0<m) (h:v.tmod m<0):v.tmod m+m=v%m:=by
  have h1:=Int.emod_add_mul_ediv v m;have h2:=Int.tmod_add_mul_tdiv v m;have h3:=Int.emod_nonneg v (show m≠0 by omega);have h4:=Int.emod_lt_of_pos v hm;have h5:=Int.lt_tmod_of_pos v hm;have e:m*(v.tdiv m-v / m)=v%m-v.tmod m:=by rw[Int.mul_sub]; omega
  have k1:v.tdiv m-v / m=1:=by
    rcases Int.lt_trichotomy (v.tdiv m-v / m) 1 with hlt | heq | hgt
    ·exfalso;have:v.tdiv m-v / m≤0:=by omega
     have:=adq this (show 0≤m by omega);omega
    ·exact heq
    ·exfalso;have:2≤v.tdiv m-v / m:=by omega
     have:=adq this (show 0≤m by omega);omega
  rw[k1] at e;omega
theorem TZ {v m:Int} (hm:0<m) (h:0≤v.tmod m):v.tmod m=v%m:=by
  have h1:=Int.emod_add_mul_ediv v m;have h2:=Int.tmod_add_mul_tdiv v m;have h3:=Int.emod_nonneg v (show m≠0 by omega);have h4:=Int.emod_lt_of_pos v hm;have h5:=Int.tmod_lt_of_pos v hm;have e:m*(v.tdiv m-v / m)=v%m-v.tmod m:=by rw[Int.mul_sub]; omega
  have k1:v.tdiv m-v / m=0:=by
    rcases Int.lt_trichotomy (v.tdiv m-v / m) 0 with hlt | heq | hgt
    ·exfalso;have:v.tdiv m-v / m ≤ -1:=by omega
     have:=adq this (show 0≤m by omega);omega
    ·exact heq
    ·exfalso;have:1≤v.tdiv m-v / m:=by omega
     have:=adq this (show 0≤m by omega);omega
  rw[k1] at e;omega
def uO:aG:=⟨2,16,.seq (.reg [oO 4 (.mv (kI 0))]) (.seq (.seq (.reg [oM 5 1,oO 6 (.bin .lss (.t 5) (kI 1))]) (.cond (.t 6) (.seq (.reg [oO 4 (.mv (kI 0))]) (.ret)) (.skip))) (.seq (.reg [oM 7 0,oM 8 1,oO 9 (.bin .rem (.t 7) (.t 8)),oM 0 9]) (.seq (.seq (.reg [oM 10 0,oO 11 (.bin .lss (.t 10) (kI 0))]) (.cond (.t 11) (.reg [oM 12 0,oM 13 1,oO 14 (.bin .add (.t 12) (.t 13)),oM 0 14]) (.skip))) (.seq (.reg [oM 15 0,oM 4 15]) (.ret))))),[(4,none)]⟩
theorem R6:aF Tryz.prog { own:=[],comp:=[],frz:=[],nils:=[] } Tryz.f14=some uO:=by kernel_rfl
theorem pm (G:ah) (v m:Int) (hm:m≤9223372036854775807):aB Tryz.prog G 14 [.int .i64 v,.int .i64 m] (.w (.c (.d (.int .i64 (gy v m))))):=by
  refine aI Tryz.func14 R6 rfl rfl ?_;unfold gy;by_cases h:m<1
  ·rw[if_pos h];simp only[uO,af,ae,aa,seval,iteOmega,toNatUp];exact aM
  ·rw[if_neg h];have hne:¬ m=0:=by omega
   have h4:=Int.tmod_lt_of_pos v (show 0<m by omega);by_cases hn:v.tmod m<0
   ·have e:=TY (by omega) hn;have h3:=Int.emod_lt_of_pos v (show 0<m by omega);have h5:=Int.emod_nonneg v (show m≠0 by omega);simp only[uO,af,ae,aa,seval,iteOmega,toNatUp,hne];exact pI (by simp only[ae,aa,seval,iteOmega,toNatUp,e])
   ·have e:=TZ (v:=v) (show 0<m by omega) (by omega);simp only[uO,af,ae,aa,seval,iteOmega,toNatUp,hne];exact pI (by simp only[ae,aa,seval,iteOmega,toNatUp,e])
def nS (s i:Nat):List UInt8:=ow (au s 8++au i 4)
def iQ (s:Nat) (k:Nat):List UInt8:=((List.range k).map (nS s)).flatten
theorem DZ (s k:Nat):iQ s k++nS s k=iQ s (k+1):=by simp[iQ,ac8]
theorem ud (s:Nat):∀ k,(iQ s k).length=32*k
  | 0=>rfl
  | k+1=>by rw[← DZ,abJ,ud s k]; unfold nS; rw[Iu]; omega
def dF (seed n:Int):List UInt8:=(iQ (seed%18446744073709551616).toNat ((n.toNat+31) / 32)).take n.toNat
theorem mH (seed n:Int):(dF seed n).length=n.toNat:=by
  unfold dF; rw[abN,ud]; omega
def xw (seed n:Int) (s:Nat) (k:Nat):St:=⟨aT [(0,.w (.c (.d (.int .i64 seed)))),(1,.w (.c (.d (.int .i64 n)))),(5,.w (.c (.own 1 1 0 (iQ s k).length))),(6,.w (.c (.d (.int .i64 (k:Int)))))],hL [(1,.row 1 ((iQ s k).map bD))],uL [1]⟩
def t6:aS := .seq (.seq (.reg [oM 8 5,oO 9 (.len (.t 8)),oM 10 1,oO 11 (.bin .lss (.t 9) (.t 10))]) (.cond (.t 11) (.skip) (.exit 0))) (.seq (.block 1 (.reg [oM 14 5,oM 15 0,oO 16 (.conv .u64 (.t 15)),oO 17 (.call 42 [(.t 16),(kI 8)] none),oM 18 6,oO 19 (.conv .u64 (.t 18)),oO 20 (.call 42 [(.t 19),(kI 4)] none),oO 21 (.bldSl false 2 1 (.sl []) [(0,(.t 17)),(1,(.t 20))]),oO 22 (.call 41 [(.t 21)] none),oO 23 (.call 40 [(.t 22)] none),oO 24 (.app false 1 1 (.t 14) (.t 23)),oM 5 24])) (.reg [oM 12 6,oO 13 (.bin .add (.t 12) (kI 1)),oM 6 13]))
def FU:aG:=⟨2,29,.seq (.reg [oO 4 (.mv (.k (.c .nil)))]) (.seq (.reg [oO 7 (.bldSl true 0 1 (.int .u8 0) []),oM 5 7]) (.seq (.seq (.reg [oO 6 (.mv (kI 0))]) (.block 0 (.loop t6))) (.seq (.reg [oM 25 5,oM 26 1,oO 27 (.max [(.t 26),(kI 0)]),oO 28 (.slice 1 (.t 25) none (some (.t 27)) none),oM 4 28]) (.ret)))),[(4,none)]⟩
theorem R7:aF Tryz.prog { own:=[7],comp:=[],frz:=[],nils:=[] } Tryz.f16=some FU:=by kernel_rfl
set_option maxHeartbeats 1600000 in
theorem T1 (G:ah) (seed n:Int) (hn:n≤1099511627776):aB Tryz.prog G 16 [.int .i64 seed,.int .i64 n] (.w (.c (.fr 1 ((dF seed n).map bD)))):=by
  refine aI Tryz.func16 R7 rfl rfl ?_;obtain⟨s,hs⟩:∃ s:Nat,(seed%18446744073709551616).toNat=s:=⟨_,rfl⟩
  have hw:IntKind.u64.wrap seed=(s:Int):=by rw[IntKind.wrap_u64,← hs]; omega
  have hs2:s<18446744073709551616:=by omega
  have hK:dF seed n=(iQ s ((n.toNat+31) / 32)).take n.toNat:=by unfold dF; rw[hs]
  rw[hK];simp only[FU,af,ae,aa,seval,iteOmega,toNatUp];refine ba (xw seed n s) (fun k=>(n.toNat+31) / 32-k) (fun k=>k≤(n.toNat+31) / 32) 0 (abM _) ?_ ?_
  ·refine ap (fun _=>56) ?_ ?_ rfl rfl <;> simp only[wx,aj,ar,aa,seval,iteOmega,toNatUp] <;> rfl
  ·intro k hk;have hl:=ud s k;by_cases hlt:k<(n.toNat+31) / 32
   ·have hc:((iQ s k).length:Int)<n:=by omega
    have hj:=fR G [au s 8,au k 4] (by simp) (by simp[bP]);have hf:[au s 8,au k 4].flatten=au s 8++au k 4:=by simp
    rw[hf] at hj;have hb:=DZ s k;have hk2:IntKind.u64.wrap (k:Int)=(k:Int):=u64_in _ (by omega) (by omega);simp only[t6,xw,wx,wy,aa,seval,iteOmega,toNatUp,hw,hk2];refine bd (rO G s 8 (by decide)) rfl (.inl rfl) ?_;simp only[wx,wy,aa,seval,iteOmega,toNatUp,hw,hk2];refine bd (rO G k 4 (by decide)) rfl (.inl rfl) ?_;simp only[wx,wy,aa,seval,iteOmega,toNatUp];refine bd hj rfl (.inl rfl) ?_;simp only[wx,wy,aa,seval,iteOmega,toNatUp];refine bd (ZF G (au s 8++au k 4) (by simp[bP])) rfl (.inl rfl) ?_;have hh:(ow (au s 8++au k 4)).length=32:=Iu _;have hb':iQ s k++ow (au s 8++au k 4)=iQ s (k+1):=hb;simp only[ae,aa,seval,iteOmega,toNatUp,bQ,ic,hb',hh];refine aU (k+1) (by omega) (by omega) (ap (fun _=>192) ?_ ?_ rfl rfl) <;> simp only[wx,aj,ar,aa,seval,iteOmega,toNatUp]
   ·obtain rfl:k=(n.toNat+31) / 32:=by omega
    have hc:¬ ((iQ s ((n.toNat+31) / 32)).length:Int)<n:=by omega
    by_cases h0:n<0
    ·have e0:n.toNat=0:=by omega
     simp only[t6,xw,ae,aa,seval,iteOmega,toNatUp,hc,acK,acX];rw[e0,List.map_take];exact Hp (id:=1) (s:=1) (by simp only[wx,aa,seval,iteOmega,toNatUp]) (by simp only[wx,aa,seval,iteOmega,toNatUp]) (abM _)
    ·simp only[t6,xw,ae,aa,seval,iteOmega,toNatUp,hc,acK,acX];rw[List.map_take];exact Hp (id:=1) (s:=1) (by simp only[wx,aa,seval,iteOmega,toNatUp]) (by simp only[wx,aa,seval,iteOmega,toNatUp]) (by rw[abY,ud]; omega)
theorem pn (G:ah) (seed n:Int) (hn:n≤1099511627776):aB Tryz.prog G 16 [.int .i64 seed,.int .i64 n] (.w (.c (.d (.sl ((dF seed n).map bD))))):=kW (T1 G seed n hn)
end Go.Proofs.YtofonnokanoflaaGreat
