/- Texts of one's own, merged: from: Layer 1 on data: Put,Get,Same,Join,Hex: what they return. Own work. -/
import Derived.Test.YtofonnokanoflaaProg
import Derived.Test.YtofonnokanoflaaMg17
set_option linter.unusedVariables false
set_option linter.unusedSimpArgs false
namespace Go.Proofs.Ytofonnokanoflaa
open Go.RowKit IntWalk
set_option maxHeartbeats 400000
theorem fv {l:List UInt8} {i:Nat} {x:D} (hi:i<l.length) (hx:x.one=true):fZ .sc (.c (.d x)) i 0 (.row 1 (l.map bD))=some (.row 1 ((l.map bD).set i x)):=by
  simp[fZ,aY,Pb hi,bD,dC,hx]
theorem CN {l:List UInt32} {i:Nat} {x:D} (hi:i<l.length) (hx:x.one=true):fZ .sc (.c (.d x)) i 0 (.row 1 (l.map wD))=some (.row 1 ((l.map wD).set i x)):=by
  simp[fZ,aY,Pb hi,wD,dC,hx]
theorem fS (l:List UInt8) (i:Nat) (x:UInt8):(l.map bD).set i (bD x)=(l.set i x).map bD:=rX bD l i x
theorem CO (l:List UInt32) (i:Nat) (x:UInt32):(l.map wD).set i (wD x)=(l.set i x).map wD:=rX wD l i x
theorem D4 (n:Nat):List.replicate n (D.int .u8 0)=(List.replicate n (0:UInt8)).map bD:=by simp[bD]
def au (v n:Nat):List UInt8:=(List.range n).map fun i=>UInt8.ofNat (v / 256^(n-1-i))
def eY (v n m:Nat):List UInt8:=List.replicate m 0++(au v n).drop m
def po (v:Nat) (n:Int):List UInt8:=if 0≤n∧n≤64 then au v n.toNat else []
theorem cL (v n:Nat):(au v n).length=n:=by simp[au]
theorem pZ (v n m:Nat) (h:m≤n):(eY v n m).length=n:=by simp[eY,cL]; omega
theorem wX (v n:Nat):eY v n 0=au v n:=by simp[eY]
theorem wY (v n:Nat):eY v n n=List.replicate n 0:=by simp[eY,cL]
theorem wZ (v n i:Nat) (h:i+1≤n):eY v n i=(eY v n (i+1)).set i (UInt8.ofNat (v / 256^(n-(i+1)))):=by
  apply QG;intro j;rw[List.getElem?_set];have hl:i<(au v n).length:=by rw[cL]; omega
  by_cases hj:i=j
  ·subst hj;rw[if_pos rfl,if_pos (by rw[pZ _ _ _ h]; omega)];simp only[eY,List.getElem?_append,Ps,Nat.lt_irrefl,if_false,Nat.sub_self,PY,Qk];rw[Pb hl];simp[au,Nat.sub_sub,Nat.add_comm 1 i]
  ·rw[if_neg hj];simp only[eY,List.getElem?_append,Ps,List.getElem?_replicate,PY];by_cases h1:j<i
   ·rw[if_pos h1,if_pos h1,if_pos (by omega),if_pos (by omega)]
   ·rw[if_neg h1,if_neg (by omega)]
    congr 1; omega
theorem byte_of (v:Nat):D.int .u8 (IntKind.u8.wrap (v:Int))=bD (UInt8.ofNat v):=by
  rw[IntKind.wrap_u8];simp[bD]
def kx (v n m:Nat):St:=⟨aU [(0,.w (.c (.d (.int .u64 ((v / 256^(n-m):Nat):Int))))),(5,.w (.c (.own 1 1 0 n))),(6,.w (.c (.d (.int .i64 ((m:Int)-1)))))],hL [(1,.row 1 ((eY v n m).map bD))],uL [1]⟩
def rm:aK := .seq (.seq (.reg [oM 17 6,oO 18 (.bin .geq (.t 17) (kI 0))]) (.cond (.t 18) (.skip) (.exit 0))) (.seq (.block 1 (.seq (.reg [oM 21 5,oM 22 6,oM 23 0,oO 24 (.conv .u8 (.t 23)),oO 25 (.idxSl 1 (.t 21) (.t 22)),oN (.store .sc (.t 25) (.t 24))]) (.reg [oM 26 0,oO 27 (.bin .shr (.t 26) (.k (.c (.d (.int .u64 8))))),oM 0 27]))) (.reg [oM 19 6,oO 20 (.bin .sub (.t 19) (kI 1)),oM 6 20]))
def nU:aB:=⟨2,29,.seq (.reg [oO 4 (.mv (.k (.c .nil)))]) (.seq (.seq (.reg [oM 7 1,oO 8 (.bin .lss (.t 7) (kI 0)),oM 9 8,oG 10 (.mv (.t 1)) 9 false,oG 11 (.bin .gtr (.t 10) (kI 64)) 9 false,oO 12 (.pick (.t 9) (.k (.c (.d (.bool true)))) (.t 11))]) (.cond (.t 12) (.seq (.reg [oO 4 (.mv (.k (.c .nil)))]) (.ret)) (.skip))) (.seq (.reg [oM 13 1,oO 14 (.make true 1 1 (.int .u8 0) (.t 13) (.t 13)),oM 5 14]) (.seq (.seq (.reg [oM 15 1,oO 16 (.bin .sub (.t 15) (kI 1)),oM 6 16]) (.block 0 (.loop rm))) (.seq (.reg [oM 28 5,oM 4 28]) (.ret))))),[(4,none)]⟩
theorem CP:aA Try.prog { own:=[],comp:=[],frz:=[],nils:=[] } Try.f71=some nU:=by kernel_rfl
theorem s5 (G:aj) (v n:Nat) (hn:n≤64):ap Try.prog G 71 [.int .u64 v,.int .i64 n] (.w (.c (.fr 1 ((au v n).map bD)))):=by
  refine aD Try.func71 CP rfl rfl ?_;have e1:IntKind.i64.wrap ((n:Int)-1)=(n:Int)-1:=IntWalk.i64_in _ (by omega);simp only[nU,ai,wx,aa,seval,iteOmega,toNatUp,e1];refine bp (kx v n) (fun m=>m) (fun m=>m≤n) n (Pn _) ?_ ?_
  ·refine aF (fun _=>112) ?_ ?_ rfl rfl <;> simp only[wx,aG,aa,seval,iteOmega,toNatUp,wY,D4,Nat.sub_self,Nat.pow_zero,Nat.div_one]
  ·intro m hm;rcases P4 m with rfl | hpos
   ·simp only[rm,kx,wx,aa,seval,iteOmega,toNatUp,wX];refine dY (id:=1) (n:=n) (s:=1) ?_ ?_ ?_ <;> simp only[wx,aa,seval,iteOmega,toNatUp,cL]
   ·obtain⟨i,rfl⟩:∃ i,m=i+1:=⟨m-1,by omega⟩
    have e2:((i+1:Nat):Int)-1=(i:Int):=by omega
    have hlt:i<(eY v n (i+1)).length:=by rw[pZ _ _ _ hm]; omega
    have e3:IntKind.i64.wrap ((i:Int)-1)=(i:Int)-1:=IntWalk.i64_in _ (by omega);simp only[rm,kx,wx,aa,seval,iteOmega,toNatUp,e2,e3,Qj,Qk,byte_of,fv hlt (eC _),fS,← wZ _ _ _ hm,IntKind.bits];refine bd i (by omega) (by omega) (aF id ?_ ?_ rfl rfl) <;> simp only[wx,aG,aa,seval,iteOmega,toNatUp];have e4:v / 256^(n-(i+1)) / 256=v / 256^(n-i):=by
      rw[show n-i=n-(i+1)+1 by omega,Nat.pow_succ,← Nat.div_div_eq_div_mul]
    simpa using congrArg (Nat.cast:Nat→Int) e4
theorem D5 (G:aj) (v:Nat) (n:Int):ap Try.prog G 71 [.int .u64 v,.int .i64 n] (.w (.c (.fr 1 ((po v n).map bD)))):=by
  unfold po;by_cases h:0≤n∧n≤64
  ·rw[if_pos h];obtain⟨n,rfl⟩:=Qb h.1;exact s5 G v n (by omega)
  ·rw[if_neg h];refine aD Try.func71 CP rfl rfl ?_;by_cases h0:n<0
   ·simp only[nU,ai,wx,aa,seval,iteOmega,toNatUp];exact rY (by simp[wx,aa,seval,iteOmega,toNatUp])
   ·have h1:64<n:=by omega
    simp only[nU,ai,wx,aa,seval,iteOmega,toNatUp];exact rY (by simp[wx,aa,seval,iteOmega,toNatUp])
def qB:aK := .seq (.seq (.reg [oM 17 6,oO 18 (.bin .geq (.t 17) (kI 0))]) (.cond (.t 18) (.skip) (.exit 0))) (.seq (.block 1 (.seq (.reg [oM 21 5,oM 22 6,oM 23 0,oO 24 (.conv .u8 (.t 23)),oO 25 (.idxSl 1 (.t 21) (.t 22)),oN (.store .sc (.t 25) (.t 24))]) (.reg [oM 26 0,oO 27 (.bin .shr (.t 26) (.k (.c (.d (.int .u64 8))))),oM 0 27]))) (.reg [oM 19 6,oO 20 (.bin .sub (.t 19) (kI 1)),oM 6 20]))
def AB:aB:=⟨2,29,.seq (.reg [oO 4 (.mv (.k (.c .nil)))]) (.seq (.seq (.reg [oM 7 1,oO 8 (.bin .lss (.t 7) (kI 0)),oM 9 8,oG 10 (.mv (.t 1)) 9 false,oG 11 (.bin .gtr (.t 10) (kI 64)) 9 false,oO 12 (.pick (.t 9) (.k (.c (.d (.bool true)))) (.t 11))]) (.cond (.t 12) (.seq (.reg [oO 4 (.mv (.k (.c .nil)))]) (.ret)) (.skip))) (.seq (.reg [oM 13 1,oO 14 (.make true 1 1 (.int .u8 0) (.t 13) (.t 13)),oM 5 14]) (.seq (.seq (.reg [oM 15 1,oO 16 (.bin .sub (.t 15) (kI 1)),oM 6 16]) (.block 0 (.loop qB))) (.seq (.reg [oM 28 5,oM 4 28]) (.ret))))),[(4,none)]⟩
theorem Jy:aA Try.prog { own:=[],comp:=[],frz:=[],nils:=[] } Try.f26=some AB:=by kernel_rfl
theorem nC (G:aj) (v n:Nat) (hn:n≤64):ap Try.prog G 26 [.int .u64 v,.int .i64 n] (.w (.c (.fr 1 ((au v n).map bD)))):=by
  refine aD Try.func26 Jy rfl rfl ?_;have e1:IntKind.i64.wrap ((n:Int)-1)=(n:Int)-1:=IntWalk.i64_in _ (by omega);simp only[AB,ai,wx,aa,seval,iteOmega,toNatUp,e1];refine bp (kx v n) (fun m=>m) (fun m=>m≤n) n (Pn _) ?_ ?_
  ·refine aF (fun _=>112) ?_ ?_ rfl rfl <;> simp only[wx,aG,aa,seval,iteOmega,toNatUp,wY,D4,Nat.sub_self,Nat.pow_zero,Nat.div_one]
  ·intro m hm;rcases P4 m with rfl | hpos
   ·simp only[qB,kx,wx,aa,seval,iteOmega,toNatUp,wX];refine dY (id:=1) (n:=n) (s:=1) ?_ ?_ ?_ <;> simp only[wx,aa,seval,iteOmega,toNatUp,cL]
   ·obtain⟨i,rfl⟩:∃ i,m=i+1:=⟨m-1,by omega⟩
    have e2:((i+1:Nat):Int)-1=(i:Int):=by omega
    have hlt:i<(eY v n (i+1)).length:=by rw[pZ _ _ _ hm]; omega
    have e3:IntKind.i64.wrap ((i:Int)-1)=(i:Int)-1:=IntWalk.i64_in _ (by omega);simp only[qB,kx,wx,aa,seval,iteOmega,toNatUp,e2,e3,Qj,Qk,byte_of,fv hlt (eC _),fS,← wZ _ _ _ hm,IntKind.bits];refine bd i (by omega) (by omega) (aF id ?_ ?_ rfl rfl) <;> simp only[wx,aG,aa,seval,iteOmega,toNatUp];have e4:v / 256^(n-(i+1)) / 256=v / 256^(n-i):=by
      rw[show n-i=n-(i+1)+1 by omega,Nat.pow_succ,← Nat.div_div_eq_div_mul]
    simpa using congrArg (Nat.cast:Nat→Int) e4
theorem toList_mk (l:List UInt8):(⟨l.toArray⟩:ByteArray).toList=l:=Go.ByteArray.toList_mk l
theorem xa (l m:List UInt8):iU .eql ⟨l.toArray⟩ ⟨m.toArray⟩=some (.bool (l==m)):=by
  simp only[iU,toList_mk]
def y1:aB:=⟨2,10,.seq (.reg [oO 4 (.mv (.k (.c (.d (.bool false)))))]) (.seq (.reg [oM 5 0,oO 6 (.b2s (.t 5)),oM 7 1,oO 8 (.b2s (.t 7)),oO 9 (.bin .eql (.t 6) (.t 8)),oM 4 9]) (.ret)),[(4,none)]⟩
theorem HX:aA Try.prog { own:=[],comp:=[],frz:=[],nils:=[] } Try.f14=some y1:=by kernel_rfl
theorem nD (G:aj) (l m:List UInt8):ap Try.prog G 14 [.sl (l.map bD),.sl (m.map bD)] (.w (.c (.d (.bool (l==m))))):=by
  refine aD Try.func14 HX rfl rfl ?_;simp only[y1,ai,wx,aa,seval,iteOmega,toNatUp,rj,xa];exact tD (by simp only[wx,aa,seval,iteOmega,toNatUp])
theorem iG (ls:List (List UInt8)):cB 1 (ls.map fun l=>D.sl (l.map bD))=true:=mP _ (fun _=>rfl) ls
def r6 (ls:List (List UInt8)) (i:Nat):St:=⟨aU [(0,.w (.c (.d (.sl (ls.map fun l=>D.sl (l.map bD)))))),(3,.w (.c (.own 1 1 0 ((ls.take i).flatten).length))),(4,.w (.c (.d (.int .i64 (i:Int)))))],hL [(1,.row 1 (((ls.take i).flatten).map bD))],uL [1]⟩
theorem mR {α:Type} (ls:List (List α)) (i:Nat) (h:i<ls.length):(ls.take (i+1)).flatten=(ls.take i).flatten++ls[i]:=by
  rw[Qd h,List.flatten_append]; simp
theorem r7 {α:Type} (ls:List (List α)) (i:Nat) (h:i<ls.length):(ls.take i).flatten.length+ls[i].length≤ls.flatten.length:=by
  have h1:=mR ls i h;have h2:ls.flatten=(ls.take (i+1)).flatten++(ls.drop (i+1)).flatten:=by rw[← List.flatten_append,P1]
  have h3:=congrArg List.length h2;rw[Ph,h1,Ph] at h3;omega
def qk:aK := .seq (.seq (.reg [oM 6 4,oM 7 0,oO 8 (.len (.t 7)),oO 9 (.bin .lss (.t 6) (.t 8))]) (.cond (.t 9) (.skip) (.exit 0))) (.seq (.block 1 (.reg [oM 12 3,oM 13 0,oM 14 4,oO 15 (.idxSl 1 (.t 13) (.t 14)),oO 16 (.load .sc (.t 15)),oO 17 (.app false 1 1 (.t 12) (.t 16)),oM 3 17])) (.reg [oM 10 4,oO 11 (.bin .add (.t 10) (kI 1)),oM 4 11]))
def y3:aB:=⟨1,19,.seq (.reg [oO 2 (.mv (.k (.c .nil)))]) (.seq (.reg [oO 5 (.bldSl true 0 1 (.int .u8 0) []),oM 3 5]) (.seq (.seq (.reg [oO 4 (.mv (kI 0))]) (.block 0 (.loop qk))) (.seq (.reg [oM 18 3,oM 2 18]) (.ret)))),[(2,none)]⟩
theorem HY:aA Try.prog { own:=[5],comp:=[],frz:=[],nils:=[] } Try.f25=some y3:=by kernel_rfl
theorem AC (G:aj) (ls:List (List UInt8)) (hl:ls.length≤9223372036854775807) (hf:ls.flatten.length≤140737488355328):ap Try.prog G 25 [.sl (ls.map fun l=>D.sl (l.map bD))] (.w (.c (.fr 1 (ls.flatten.map bD)))):=by
  refine aD Try.func25 HY rfl rfl ?_;simp only[y3,ai,wx,aa,seval,iteOmega,toNatUp];refine bp (r6 ls) (fun i=>ls.length-i) (fun i=>i≤ls.length) 0 (Pu _) ?_ ?_
  ·refine aF (fun _=>40) ?_ ?_ rfl rfl <;> simp only[wx,aG,aa,seval,iteOmega,toNatUp]
  ·intro i hi;by_cases hlt:i<ls.length
   ·have e2:ls[i]?=some ls[i]:=Pb hlt;have e4:IntKind.i64.wrap ((i:Int)+1)=((i+1:Nat):Int):=by rw[IntWalk.i64_in _ (by omega)]; rfl
    have h5:=r7 ls i hlt;simp only[qk,r6,wx,aa,seval,iteOmega,toNatUp,aY,e2,e4,Qn,cp];refine bd (i+1) (by omega) (by omega) (aF (fun _=>136) ?_ ?_ rfl rfl) <;> simp only[wx,aG,aa,seval,iteOmega,toNatUp,mR ls i hlt]
   ·have:ls.take i=ls:=Pk (by omega);simp only[qk,r6,wx,aa,seval,iteOmega,toNatUp,this];refine dY (id:=1) (n:=ls.flatten.length) (s:=1) ?_ ?_ ?_ <;> simp only[wx,aa,seval,iteOmega,toNatUp]
def r8 (ls:List (List UInt8)) (i:Nat):St:=⟨aU [(0,.w (.c (.d (.sl (ls.map fun l=>D.sl (l.map bD)))))),(3,.w (.c (.d (.int .i64 (((ls.take i).flatten).length:Int))))),(9,.w (.c (.d (.sl (ls.map fun l=>D.sl (l.map bD)))))),(10,.w (.c (.d (.int .i64 (ls.length:Int))))),(11,.w (.c (.d (.int .i64 (i:Int)))))],hL [],uL []⟩
def r9 (ls:List (List UInt8)) (i:Nat):St:=⟨aU [(6,.w (.c (.own 1 1 0 ((ls.take i).flatten).length))),(22,.w (.c (.d (.sl (ls.map fun l=>D.sl (l.map bD)))))),(23,.w (.c (.d (.int .i64 (ls.length:Int))))),(24,.w (.c (.d (.int .i64 (i:Int)))))],hL [(1,.row 1 (((ls.take i).flatten).map bD))],uL [1]⟩
def qC:aK := .seq (.reg [oO 12 (.bin .lss (.t 11) (.t 10))]) (.seq (.cond (.t 12) (.skip) (.exit 0)) (.seq (.block 1 (.seq (.reg [oO 13 (.idxSl 1 (.t 9) (.t 11)),oO 14 (.load .sc (.t 13)),oM 5 14]) (.reg [oM 15 3,oM 16 5,oO 17 (.len (.t 16)),oO 18 (.bin .add (.t 15) (.t 17)),oM 3 18]))) (.reg [oO 19 (.bin .add (.t 11) (kI 1)),oM 11 19])))
def qD:aK := .seq (.reg [oO 25 (.bin .lss (.t 24) (.t 23))]) (.seq (.cond (.t 25) (.skip) (.exit 2)) (.seq (.block 3 (.seq (.reg [oO 26 (.idxSl 1 (.t 22) (.t 24)),oO 27 (.load .sc (.t 26)),oM 8 27]) (.reg [oM 28 6,oM 29 8,oO 30 (.app false 1 1 (.t 28) (.t 29)),oM 6 30]))) (.reg [oO 31 (.bin .add (.t 24) (kI 1)),oM 24 31])))
def AD:aB:=⟨1,33,.seq (.reg [oO 2 (.mv (.k (.c .nil)))]) (.seq (.reg [oO 3 (.mv (kI 0))]) (.seq (.seq (.reg [oM 9 0,oO 10 (.len (.t 9)),oO 11 (.mv (kI 0))]) (.block 0 (.loop qC))) (.seq (.reg [oM 20 3,oO 21 (.make true 1 1 (.int .u8 0) (kI 0) (.t 20)),oM 6 21]) (.seq (.seq (.reg [oM 22 0,oO 23 (.len (.t 22)),oO 24 (.mv (kI 0))]) (.block 2 (.loop qD))) (.seq (.reg [oM 32 6,oM 2 32]) (.ret)))))),[(2,none)]⟩
theorem Jz:aA Try.prog { own:=[],comp:=[],frz:=[],nils:=[] } Try.f30=some AD:=by kernel_rfl
theorem dq (G:aj) (ls:List (List UInt8)) (hl:ls.length≤9223372036854775807) (hf:ls.flatten.length≤140737488355328):ap Try.prog G 30 [.sl (ls.map fun l=>D.sl (l.map bD))] (.w (.c (.fr 1 (ls.flatten.map bD)))):=by
  refine aD Try.func30 Jz rfl rfl ?_;simp only[AD,ai,wx,aa,seval,iteOmega,toNatUp];refine bp (r8 ls) (fun i=>ls.length-i) (fun i=>i≤ls.length) 0 (Pu _) ?_ ?_
  ·refine aF id ?_ ?_ rfl rfl <;> simp only[wx,aG,aa,seval,iteOmega,toNatUp]
  ·intro i hi;by_cases hlt:i<ls.length
   ·have e2:ls[i]?=some ls[i]:=Pb hlt;have e4:IntKind.i64.wrap ((i:Int)+1)=((i+1:Nat):Int):=by rw[IntWalk.i64_in _ (by omega)]; rfl
    have h5:=r7 ls i hlt;have e5:IntKind.i64.wrap (((ls.take i).flatten.length:Int)+(ls[i].length:Int))=(((ls.take (i+1)).flatten.length:Nat):Int):=by
      rw[mR ls i hlt,Ph,IntWalk.i64_in _ (by omega)]; rfl
    simp only[qC,r8,wx,aa,seval,iteOmega,toNatUp,aY,e2,e4,e5];refine bd (i+1) (by omega) (by omega) (aF id ?_ ?_ rfl rfl) <;> simp only[wx,aG,aa,seval,iteOmega,toNatUp]
   ·have:ls.take i=ls:=Pk (by omega);simp only[qC,r8,wx,aa,seval,iteOmega,toNatUp,this,Qn];refine bp (r9 ls) (fun i=>ls.length-i) (fun i=>i≤ls.length) 0 (Pu _) ?_ ?_
    ·refine aF (fun _=>168) ?_ ?_ rfl rfl <;> simp only[wx,aG,aa,seval,iteOmega,toNatUp]
    ·intro i hi;by_cases hlt:i<ls.length
     ·have e2:ls[i]?=some ls[i]:=Pb hlt;have e4:IntKind.i64.wrap ((i:Int)+1)=((i+1:Nat):Int):=by rw[IntWalk.i64_in _ (by omega)]; rfl
      have h5:=r7 ls i hlt;simp only[qD,r9,wx,aa,seval,iteOmega,toNatUp,aY,e2,e4,Qn,cp];refine bd (i+1) (by omega) (by omega) (aF (fun _=>240) ?_ ?_ rfl rfl) <;> simp only[wx,aG,aa,seval,iteOmega,toNatUp,mR ls i hlt]
     ·have:ls.take i=ls:=Pk (by omega);simp only[qD,r9,wx,aa,seval,iteOmega,toNatUp,this];refine dY (id:=1) (n:=ls.flatten.length) (s:=1) ?_ ?_ ?_ <;> simp only[wx,aa,seval,iteOmega,toNatUp]
def fX (l:List UInt8):Nat:=l.foldl (fun a x=>(a*256+x.toNat)%18446744073709551616) 0
theorem u64_in (n:Int) (h₀:0≤n) (h₁:n<2^64):IntKind.u64.wrap n=n:=by rw[IntKind.wrap_u64]; omega
theorem H5 (x:UInt8):eL x=if cQ x 7==1 then ak (cP x 1) 27 else cP x 1:=by
  have:=iR (p:=fun x=>eL x==if cQ x 7==1 then ak (cP x 1) 27 else cP x 1) (by decide +kernel) x
  simpa using this
theorem CR (x:UInt8):eo x 2=eL x:=by
  have:=iR (p:=fun x=>eo x 2==eL x) (by decide +kernel) x
  simpa using this
def ta:aB:=⟨1,11,.seq (.reg [oO 2 (.mv (.k (.c (.d (.int .u8 0)))))]) (.seq (.seq (.reg [oM 3 0,oO 4 (.bin .shr (.t 3) (.k (.c (.d (.int .u64 7))))),oO 5 (.bin .eql (.t 4) (.k (.c (.d (.int .u8 1)))))]) (.cond (.t 5) (.seq (.reg [oM 6 0,oO 7 (.bin .shl (.t 6) (.k (.c (.d (.int .u64 1))))),oO 8 (.bin .xor (.t 7) (.k (.c (.d (.int .u8 27))))),oM 2 8]) (.ret)) (.skip))) (.seq (.reg [oM 9 0,oO 10 (.bin .shl (.t 9) (.k (.c (.d (.int .u64 1))))),oM 2 10]) (.ret))),[(2,none)]⟩
theorem LA:aA Try.prog { own:=[],comp:=[],frz:=[],nils:=[] } Try.f93=some ta:=by kernel_rfl
theorem D8 (G:aj) (x:UInt8):ap Try.prog G 93 [bD x] (.w (.c (.d (bD (eL x))))):=by
  refine aD Try.func93 LA rfl rfl ?_;have h1:=CJ x .u64 7 7 rfl (by decide);have h2:=Lo (cQ x 7) 1 1 rfl;have h3:=CK x .u64 1 1 rfl (by decide);have h4:=Lq (cP x 1) 27 27 rfl;rw[H5];cases h5:cQ x 7==1
  ·rw[h5] at h2;simp only[ta,ai,h1,h2,h3,h4,ae,aa,seval,iteOmega,toNatUp,if_false,Bool.false_eq_true];exact aI
  ·rw[h5] at h2;simp only[ta,ai,h1,h2,h3,h4,ae,aa,seval,iteOmega,toNatUp,if_true];exact aI
def EH:List UInt8:=[99,124,119,123,242,107,111,197,48,1,103,43,254,215,171,118,202,130,201,125,250,89,71,240,173,212,162,175,156,164,114,192,183,253,147,38,54,63,247,204,52,165,229,241,113,216,49,21,4,199,35,195,24,150,5,154,7,18,128,226,235,39,178,117,9,131,44,26,27,110,90,160,82,59,214,179,41,227,47,132,83,209,0,237,32,252,177,91,106,203,190,57,74,76,88,207,208,239,170,251,67,77,51,133,69,249,2,127,80,60,159,168,81,163,64,143,146,157,56,245,188,182,218,33,16,255,243,210,205,12,19,236,95,151,68,23,196,167,126,61,100,93,25,115,96,129,79,220,34,42,144,136,70,238,184,20,222,94,11,219,224,50,58,10,73,6,36,92,194,211,172,98,145,149,228,121,231,200,55,109,141,213,78,169,108,86,244,234,101,122,174,8,186,120,37,46,28,166,180,198,232,221,116,31,75,189,139,138,112,62,181,102,72,3,246,14,97,53,87,185,134,193,29,158,225,248,152,17,105,217,142,148,155,30,135,233,206,85,40,223,140,161,137,13,191,230,66,104,65,153,45,15,176,84,187,22]
theorem JF:EH=ui:=by decide +kernel
set_option maxRecDepth 100000 in
theorem H6:ByteArray.size ⟨#[99,124,119,123,242,107,111,197,48,1,103,43,254,215,171,118,202,130,201,125,250,89,71,240,173,212,162,175,156,164,114,192,183,253,147,38,54,63,247,204,52,165,229,241,113,216,49,21,4,199,35,195,24,150,5,154,7,18,128,226,235,39,178,117,9,131,44,26,27,110,90,160,82,59,214,179,41,227,47,132,83,209,0,237,32,252,177,91,106,203,190,57,74,76,88,207,208,239,170,251,67,77,51,133,69,249,2,127,80,60,159,168,81,163,64,143,146,157,56,245,188,182,218,33,16,255,243,210,205,12,19,236,95,151,68,23,196,167,126,61,100,93,25,115,96,129,79,220,34,42,144,136,70,238,184,20,222,94,11,219,224,50,58,10,73,6,36,92,194,211,172,98,145,149,228,121,231,200,55,109,141,213,78,169,108,86,244,234,101,122,174,8,186,120,37,46,28,166,180,198,232,221,116,31,75,189,139,138,112,62,181,102,72,3,246,14,97,53,87,185,134,193,29,158,225,248,152,17,105,217,142,148,155,30,135,233,206,85,40,223,140,161,137,13,191,230,66,104,65,153,45,15,176,84,187,22]⟩=256:=rfl
set_option maxRecDepth 100000 in
theorem LB (x:UInt8):(ByteArray.data ⟨#[99,124,119,123,242,107,111,197,48,1,103,43,254,215,171,118,202,130,201,125,250,89,71,240,173,212,162,175,156,164,114,192,183,253,147,38,54,63,247,204,52,165,229,241,113,216,49,21,4,199,35,195,24,150,5,154,7,18,128,226,235,39,178,117,9,131,44,26,27,110,90,160,82,59,214,179,41,227,47,132,83,209,0,237,32,252,177,91,106,203,190,57,74,76,88,207,208,239,170,251,67,77,51,133,69,249,2,127,80,60,159,168,81,163,64,143,146,157,56,245,188,182,218,33,16,255,243,210,205,12,19,236,95,151,68,23,196,167,126,61,100,93,25,115,96,129,79,220,34,42,144,136,70,238,184,20,222,94,11,219,224,50,58,10,73,6,36,92,194,211,172,98,145,149,228,121,231,200,55,109,141,213,78,169,108,86,244,234,101,122,174,8,186,120,37,46,28,166,180,198,232,221,116,31,75,189,139,138,112,62,181,102,72,3,246,14,97,53,87,185,134,193,29,158,225,248,152,17,105,217,142,148,155,30,135,233,206,85,40,223,140,161,137,13,191,230,66,104,65,153,45,15,176,84,187,22]⟩).toList[x.toNat]?=some (cF x):=by
  have e:(ByteArray.data ⟨#[99,124,119,123,242,107,111,197,48,1,103,43,254,215,171,118,202,130,201,125,250,89,71,240,173,212,162,175,156,164,114,192,183,253,147,38,54,63,247,204,52,165,229,241,113,216,49,21,4,199,35,195,24,150,5,154,7,18,128,226,235,39,178,117,9,131,44,26,27,110,90,160,82,59,214,179,41,227,47,132,83,209,0,237,32,252,177,91,106,203,190,57,74,76,88,207,208,239,170,251,67,77,51,133,69,249,2,127,80,60,159,168,81,163,64,143,146,157,56,245,188,182,218,33,16,255,243,210,205,12,19,236,95,151,68,23,196,167,126,61,100,93,25,115,96,129,79,220,34,42,144,136,70,238,184,20,222,94,11,219,224,50,58,10,73,6,36,92,194,211,172,98,145,149,228,121,231,200,55,109,141,213,78,169,108,86,244,234,101,122,174,8,186,120,37,46,28,166,180,198,232,221,116,31,75,189,139,138,112,62,181,102,72,3,246,14,97,53,87,185,134,193,29,158,225,248,152,17,105,217,142,148,155,30,135,233,206,85,40,223,140,161,137,13,191,230,66,104,65,153,45,15,176,84,187,22]⟩).toList=EH:=rfl;rw[e,JF]; exact H3 x
set_option maxRecDepth 100000
def xf:ByteArray:=⟨#[99,124,119,123,242,107,111,197,48,1,103,43,254,215,171,118,202,130,201,125,250,89,71,240,173,212,162,175,156,164,114,192,183,253,147,38,54,63,247,204,52,165,229,241,113,216,49,21,4,199,35,195,24,150,5,154,7,18,128,226,235,39,178,117,9,131,44,26,27,110,90,160,82,59,214,179,41,227,47,132,83,209,0,237,32,252,177,91,106,203,190,57,74,76,88,207,208,239,170,251,67,77,51,133,69,249,2,127,80,60,159,168,81,163,64,143,146,157,56,245,188,182,218,33,16,255,243,210,205,12,19,236,95,151,68,23,196,167,126,61,100,93,25,115,96,129,79,220,34,42,144,136,70,238,184,20,222,94,11,219,224,50,58,10,73,6,36,92,194,211,172,98,145,149,228,121,231,200,55,109,141,213,78,169,108,86,244,234,101,122,174,8,186,120,37,46,28,166,180,198,232,221,116,31,75,189,139,138,112,62,181,102,72,3,246,14,97,53,87,185,134,193,29,158,225,248,152,17,105,217,142,148,155,30,135,233,206,85,40,223,140,161,137,13,191,230,66,104,65,153,45,15,176,84,187,22]⟩
def CS:aB:=⟨1,5,.seq (.reg [oO 2 (.mv (.k (.c (.d (.int .u8 0)))))]) (.seq (.reg [oM 3 0,oO 4 (.idxStr (.k (.c (.d (.str xf)))) (.t 3)),oM 2 4]) (.ret)),[(2,none)]⟩
theorem LC:aA Try.prog { own:=[],comp:=[],frz:=[],nils:=[] } Try.f103=some CS:=by kernel_rfl
theorem lS (G:aj) (x:UInt8):ap Try.prog G 103 [bD x] (.w (.c (.d (bD (cF x))))):=by
  refine aD Try.func103 LC rfl rfl ?_;have h:=iH x;have e:=LB x;simp only[CS,xf,ai,ae,aa,seval,iteOmega,toNatUp,H6,e];exact aI
def a9 (f:Nat→UInt8) (l:List UInt8) (i:Nat):List UInt8:=(List.range i).map f++l.drop i
theorem j4 (f:Nat→UInt8) (l:List UInt8) {i:Nat} (h:i≤l.length):(a9 f l i).length=l.length:=by
  unfold a9; rw[Ph,Pr,Qs,Pp]; omega
theorem lu (f:Nat→UInt8) (l:List UInt8):a9 f l 0=l:=by simp[a9]
theorem y7 (f:Nat→UInt8) (l:List UInt8) {i:Nat} (h:l.length≤i):a9 f l i=(List.range i).map f:=by
  unfold a9; rw[P8 h,PF]
theorem AG (f:Nat→UInt8) (l:List UInt8) {i j:Nat} (hj:i≤j):(a9 f l i)[j]?=l[j]?:=by
  unfold a9;rw[P3 (by simpa using hj),PY,Pr,Qs,show i+(j-i)=j by omega]
theorem H7 (f:Nat→UInt8) (l:List UInt8) {i j:Nat} (hj:j<i):(a9 f l i)[j]?=some (f j):=by
  unfold a9;rw[PX (by simpa using hj)];simp[hj]
theorem lv (f:Nat→UInt8) (l:List UInt8) {i:Nat} (h:i<l.length):(a9 f l i).set i (f i)=a9 f l (i+1):=by
  unfold a9;rw[List.set_append_right _ _ (by simp),Pr,Qs,Nat.sub_self,List.drop_eq_getElem_cons h,List.set_cons_zero,List.range_succ,P0,Qg];rfl
theorem cT {l:List UInt8} {j:Nat} (h:j<l.length):l[j]?=some (l.getD j 0):=by
  rw[Pg,Pb h]; rfl
theorem OT:bD 1=.int .u8 1:=rfl
set_option maxHeartbeats 1600000
def jA (s k:List UInt8):List UInt8:=bh (eG (aO s) (aO k))
def kL (s:List UInt8):List UInt8:=bh (fw (aO s))
def l5 (s:List UInt8):List UInt8:=bh (eH (aO s))
theorem H8 (s k:List UInt8):(jA s k).length=16:=dK _
theorem rq (s:List UInt8):(kL s).length=16:=dK _
theorem y8 (s:List UInt8):(l5 s).length=16:=dK _
theorem jk (f:ct):D7 (aO (bh f)) f:=fun j hj=>by
  unfold aO; rw[Pg,nE f hj]; rfl
theorem rr (f g:ct):jA (bh f) (bh g)=bh (eG f g):=qG fun j hj=>by
  unfold eG; rw[jk f j hj,jk g j hj]
theorem y9 (f:ct):kL (bh f)=bh (fw f):=qG fun j hj=>by
  unfold fw; rw[jk f _ (by omega)]
theorem H9 (f:ct):l5 (bh f)=bh (eH f):=qG fun j hj=>by
  unfold eH; rw[jk f _ (by omega),jk f _ (by omega),jk f _ (by omega),jk f _ (by omega)]
theorem eh:[D.int .u8 0,.int .u8 0,.int .u8 0,.int .u8 0,.int .u8 0,.int .u8 0,.int .u8 0,.int .u8 0,.int .u8 0,.int .u8 0,.int .u8 0,.int .u8 0,.int .u8 0,.int .u8 0,.int .u8 0,.int .u8 0]=(aV 16 (0:UInt8)).map bD:=rfl
theorem nF (f:ct) {l:List UInt8} (h:l.length=16):a9 f l 16=bh f:=y7 f l (by omega)
theorem js (a b:Nat):Int.tmod (a:Int) (b:Int)=((a%b:Nat):Int):=rfl
def tF (s k:List UInt8) (i:Nat):St:=⟨aU [(2,.w (.c (.pa 1 1))),(4,.w (.c (.pa 2 1))),(7,.w (.c (.d (.agg (k.map bD))))),(8,.w (.c (.d (.int .i64 (i:Int)))))],hL [(1,.row 1 ((a9 (eG (aO s) (aO k)) s i).map bD)),(2,.row 1 ((aV 16 (0:UInt8)).map bD))],uL [1,2]⟩
def rt:aK := .seq (.reg [oO 9 (.bin .lss (.t 8) (kI 16))]) (.seq (.cond (.t 9) (.skip) (.exit 0)) (.seq (.block 1 (.seq (.reg [oM 10 8,oO 11 (.idxArr 1 16 .sc (.t 7) (.t 8)),oM 5 10,oM 6 11]) (.reg [oM 12 5,oO 13 (.idxPa 1 16 (.t 2) (.t 12)),oO 14 (.load .sc (.t 13)),oM 15 6,oO 16 (.bin .xor (.t 14) (.t 15)),oO 17 (.idxPa 1 16 (.t 2) (.t 12)),oN (.store .sc (.t 17) (.t 16))]))) (.reg [oO 18 (.bin .add (.t 8) (kI 1)),oM 8 18])))
def CU:aB:=⟨2,20,.seq (.reg [oO 2 (.box .ownArr (.t 0)),oO 3 (.box .roArr (.t 1)),oO 4 (.allocArr [(.int .u8 0),(.int .u8 0),(.int .u8 0),(.int .u8 0),(.int .u8 0),(.int .u8 0),(.int .u8 0),(.int .u8 0),(.int .u8 0),(.int .u8 0),(.int .u8 0),(.int .u8 0),(.int .u8 0),(.int .u8 0),(.int .u8 0),(.int .u8 0)])]) (.seq (.seq (.reg [oO 7 (.load (.ag 16) (.t 3)),oO 8 (.mv (kI 0))]) (.block 0 (.loop rt))) (.seq (.reg [oO 19 (.load (.ag 16) (.t 2)),oN (.store (.ag 16) (.t 4) (.t 19))]) (.ret))),[(4,(some (.ag 16)))]⟩
theorem LD:aA Try.prog { own:=[2],comp:=[],frz:=[],nils:=[] } Try.f95=some CU:=by kernel_rfl
theorem tG (G:aj) (s k:List UInt8) (hs:s.length=16) (hk:k.length=16):ap Try.prog G 95 [.agg (s.map bD),.agg (k.map bD)] (.w (.c (.d (.agg ((jA s k).map bD))))):=by
  refine aD Try.func95 LD rfl rfl ?_;simp only[CU,ai,ae,aa,seval,iteOmega,toNatUp,eh,fp,hk];refine bp (tF s k) (fun i=>16-i) (fun i=>i≤16) 0 (Pu _) ?_ ?_
  ·refine aF (fun i=>if i=1 then 16 else 32) ?_ ?_ rfl rfl <;> simp only[wx,aG,aP,aa,seval,iteOmega,toNatUp,lu]
  ·intro i hi;have hl:(a9 (eG (aO s) (aO k)) s i).length=16:=by rw[j4 _ _ (by omega)]; exact hs
   by_cases hlt:i<16
   ·have g1:k[i]?=some (k.getD i 0):=cT (by omega);have g2:(a9 (eG (aO s) (aO k)) s i)[i]?=some (s.getD i 0):=by rw[AG _ _ (Pn i)]; exact cT (by omega)
    have h3:i<(a9 (eG (aO s) (aO k)) s i).length:=by omega
    have h4:=eP (s.getD i 0) (k.getD i 0);have h5:(a9 (eG (aO s) (aO k)) s i).set i (ak (s.getD i 0) (k.getD i 0))=a9 (eG (aO s) (aO k)) s (i+1):=lv (eG (aO s) (aO k)) s (by omega);simp only[rt,tF,ae,aa,seval,iteOmega,toNatUp,aY,g1,g2,h4,fv h3 (eC _),fS,h5];refine bd (i+1) (by omega) (by omega) (aF (fun i=>i) ?_ ?_ rfl rfl) <;> simp only[wx,aG,aP,aa,seval,iteOmega,toNatUp]
   ·obtain rfl:i=16:=by omega
    have e:a9 (eG (aO s) (aO k)) s 16=jA s k:=nF _ hs;have e2:=H8 s k;simp only[rt,tF,e,ae,aa,seval,iteOmega,toNatUp,e2,fp,bL];exact aI
def tH (s:List UInt8) (i:Nat):St:=⟨aU [(1,.w (.c (.ra (s.map bD)))),(2,.w (.c (.pa 2 1))),(3,.w (.c (.pa 1 1))),(6,.w (.c (.d (.int .i64 (i:Int)))))],hL [(1,.row 1 ((a9 (fw (aO s)) (aV 16 (0:UInt8)) i).map bD)),(2,.row 1 ((aV 16 (0:UInt8)).map bD))],uL [1,2]⟩
def qH:aK := .seq (.reg [oO 7 (.bin .lss (.t 6) (kI 16))]) (.seq (.cond (.t 7) (.skip) (.exit 0)) (.seq (.block 1 (.seq (.reg [oM 8 6,oM 4 8]) (.seq (.reg [oM 9 4,oO 10 (.bin .rem (.t 9) (kI 4)),oM 5 10]) (.reg [oM 11 4,oM 12 4,oM 13 5,oO 14 (.bin .mul (.t 13) (kI 4)),oO 15 (.bin .add (.t 12) (.t 14)),oO 16 (.bin .rem (.t 15) (kI 16)),oO 17 (.idxPa 1 16 (.t 1) (.t 16)),oO 18 (.load .sc (.t 17)),oO 19 (.call 103 [(.t 18)] none),oO 20 (.idxPa 1 16 (.t 3) (.t 11)),oN (.store .sc (.t 20) (.t 19))])))) (.reg [oO 21 (.bin .add (.t 6) (kI 1)),oM 6 21])))
def AH:aB:=⟨1,23,.seq (.reg [oO 1 (.box .roArr (.t 0)),oO 2 (.allocArr [(.int .u8 0),(.int .u8 0),(.int .u8 0),(.int .u8 0),(.int .u8 0),(.int .u8 0),(.int .u8 0),(.int .u8 0),(.int .u8 0),(.int .u8 0),(.int .u8 0),(.int .u8 0),(.int .u8 0),(.int .u8 0),(.int .u8 0),(.int .u8 0)])]) (.seq (.reg [oO 3 (.allocArr [(.int .u8 0),(.int .u8 0),(.int .u8 0),(.int .u8 0),(.int .u8 0),(.int .u8 0),(.int .u8 0),(.int .u8 0),(.int .u8 0),(.int .u8 0),(.int .u8 0),(.int .u8 0),(.int .u8 0),(.int .u8 0),(.int .u8 0),(.int .u8 0)])]) (.seq (.seq (.reg [oO 6 (.mv (kI 0))]) (.block 0 (.loop qH))) (.seq (.reg [oO 22 (.load (.ag 16) (.t 3)),oN (.store (.ag 16) (.t 2) (.t 22))]) (.ret)))),[(2,(some (.ag 16)))]⟩
theorem JG:aA Try.prog { own:=[],comp:=[],frz:=[],nils:=[] } Try.f97=some AH:=by kernel_rfl
theorem CV (G:aj) (s:List UInt8) (hs:s.length=16):ap Try.prog G 97 [.agg (s.map bD)] (.w (.c (.d (.agg ((kL s).map bD))))):=by
  refine aD Try.func97 JG rfl rfl ?_;simp only[AH,ai,ae,aa,seval,iteOmega,toNatUp,eh];refine bp (tH s) (fun i=>16-i) (fun i=>i≤16) 0 (Pu _) ?_ ?_
  ·refine aF (fun i=>if i=1 then 24 else 16) ?_ ?_ rfl rfl <;> simp only[wx,aG,aP,aa,seval,iteOmega,toNatUp,lu]
  ·intro i hi;have hl:(a9 (fw (aO s)) (aV 16 (0:UInt8)) i).length=16:=by rw[j4 _ _ (by rw[bL]; omega),bL]
   by_cases hlt:i<16
   ·have hm:(i+i%4*4)%16=i%4+4*((i / 4+i%4)%4):=by omega
    have hm2:(i+i%4*4)%16<16:=by omega
    have g1:s[(i+i%4*4)%16]?=some (aO s (i%4+4*((i / 4+i%4)%4))):=by rw[← hm]; exact cT (by omega)
    have h3:i<(a9 (fw (aO s)) (aV 16 (0:UInt8)) i).length:=by omega
    have h5:(a9 (fw (aO s)) (aV 16 (0:UInt8)) i).set i (cF (aO s (i%4+4*((i / 4+i%4)%4))))=a9 (fw (aO s)) (aV 16 (0:UInt8)) (i+1):=lv (fw (aO s)) _ (by rw[bL]; omega);have t1:Int.tmod (i:Int) 4=((i%4:Nat):Int):=js i 4;have t2:Int.tmod ((i:Int)+((i%4:Nat):Int)*4) 16=(((i+i%4*4)%16:Nat):Int):=js (i+i%4*4) 16;have hb:(i%4:Nat)<4:=Qw _ (by decide);generalize hq:i%4=q at *
    generalize hp:(i+q*4)%16=p at *
    simp only[qH,tH,ae,aa,seval,iteOmega,toNatUp,aY,t1,t2,g1];refine sC (lS G (aO s (q+4*((i / 4+q)%4)))) ?_;simp only[fv h3 (eC _),fS,h5,aY,hl,ae,aa,seval,iteOmega,toNatUp];refine bd (i+1) (by omega) (by omega) (aF (fun i=>i) ?_ ?_ rfl rfl) <;> simp only[wx,aG,aP,aa,seval,iteOmega,toNatUp]
   ·obtain rfl:i=16:=by omega
    have e:a9 (fw (aO s)) (aV 16 (0:UInt8)) 16=kL s:=nF _ (bL _ _);have e2:=rq s;simp only[qH,tH,e,ae,aa,seval,iteOmega,toNatUp,e2,fp,bL];exact aI
theorem LE (a b c d:UInt8):ak (ak (ak (eL (ak a b)) b) c) d=pp a b c d:=by
  unfold pp uH;rw[JE a b,CR,CR]
def tc (s:List UInt8) (i:Nat):St:=⟨aU [(1,.w (.c (.ra (s.map bD)))),(2,.w (.c (.pa 2 1))),(3,.w (.c (.pa 1 1))),(8,.w (.c (.d (.int .i64 (i:Int)))))],hL [(1,.row 1 ((a9 (eH (aO s)) (aV 16 (0:UInt8)) i).map bD)),(2,.row 1 ((aV 16 (0:UInt8)).map bD))],uL [1,2]⟩
def qI:aK := .seq (.reg [oO 9 (.bin .lss (.t 8) (kI 16))]) (.seq (.cond (.t 9) (.skip) (.exit 0)) (.seq (.block 1 (.seq (.reg [oM 10 8,oM 4 10]) (.seq (.reg [oM 11 4,oO 12 (.bin .rem (.t 11) (kI 4)),oM 5 12]) (.seq (.reg [oM 13 4,oM 14 5,oO 15 (.bin .sub (.t 13) (.t 14)),oM 16 4,oM 17 5,oO 18 (.bin .sub (.t 16) (.t 17)),oO 19 (.bin .add (.t 18) (kI 4)),oO 20 (.sliceArr 1 16 (.t 1) (some (.t 15)) (some (.t 19))),oM 6 20]) (.seq (.reg [oM 21 6,oM 22 5,oO 23 (.bin .add (.t 22) (kI 1)),oO 24 (.bin .rem (.t 23) (kI 4)),oO 25 (.idxSl 1 (.t 21) (.t 24)),oO 26 (.load .sc (.t 25)),oM 7 26]) (.reg [oM 27 4,oM 28 4,oO 29 (.idxPa 1 16 (.t 1) (.t 28)),oO 30 (.load .sc (.t 29)),oM 31 7,oO 32 (.bin .xor (.t 30) (.t 31)),oO 33 (.call 93 [(.t 32)] none),oM 34 7,oO 35 (.bin .xor (.t 33) (.t 34)),oM 36 6,
 oM 37 5,oO 38 (.bin .add (.t 37) (kI 2)),oO 39 (.bin .rem (.t 38) (kI 4)),oO 40 (.idxSl 1 (.t 36) (.t 39)),oO 41 (.load .sc (.t 40)),oO 42 (.bin .xor (.t 35) (.t 41)),oM 43 6,oM 44 5,oO 45 (.bin .add (.t 44) (kI 3)),oO 46 (.bin .rem (.t 45) (kI 4)),oO 47 (.idxSl 1 (.t 43) (.t 46)),oO 48 (.load .sc (.t 47)),oO 49 (.bin .xor (.t 42) (.t 48)),oO 50 (.idxPa 1 16 (.t 3) (.t 27)),oN (.store .sc (.t 50) (.t 49))])))))) (.reg [oO 51 (.bin .add (.t 8) (kI 1)),oM 8 51])))
def AJ:aB:=⟨1,53,.seq (.reg [oO 1 (.box .roArr (.t 0)),oO 2 (.allocArr [(.int .u8 0),(.int .u8 0),(.int .u8 0),(.int .u8 0),(.int .u8 0),(.int .u8 0),(.int .u8 0),(.int .u8 0),(.int .u8 0),(.int .u8 0),(.int .u8 0),(.int .u8 0),(.int .u8 0),(.int .u8 0),(.int .u8 0),(.int .u8 0)])]) (.seq (.reg [oO 3 (.allocArr [(.int .u8 0),(.int .u8 0),(.int .u8 0),(.int .u8 0),(.int .u8 0),(.int .u8 0),(.int .u8 0),(.int .u8 0),(.int .u8 0),(.int .u8 0),(.int .u8 0),(.int .u8 0),(.int .u8 0),(.int .u8 0),(.int .u8 0),(.int .u8 0)])]) (.seq (.seq (.reg [oO 8 (.mv (kI 0))]) (.block 0 (.loop qI))) (.seq (.reg [oO 52 (.load (.ag 16) (.t 3)),oN (.store (.ag 16) (.t 2) (.t 52))]) (.ret)))),[(2,(some (.ag 16)))]⟩
theorem JH:aA Try.prog { own:=[],comp:=[],frz:=[],nils:=[] } Try.f96=some AJ:=by kernel_rfl
theorem LF (G:aj) (s:List UInt8) (hs:s.length=16):ap Try.prog G 96 [.agg (s.map bD)] (.w (.c (.d (.agg ((l5 s).map bD))))):=by
  refine aD Try.func96 JH rfl rfl ?_;simp only[AJ,ai,ae,aa,seval,iteOmega,toNatUp,eh];refine bp (tc s) (fun i=>16-i) (fun i=>i≤16) 0 (Pu _) ?_ ?_
  ·refine aF (fun i=>if i=1 then 24 else 16) ?_ ?_ rfl rfl <;> simp only[wx,aG,aP,aa,seval,iteOmega,toNatUp,lu]
  ·intro i hi;have hl:(a9 (eH (aO s)) (aV 16 (0:UInt8)) i).length=16:=by rw[j4 _ _ (by rw[bL]; omega),bL]
   by_cases hlt:i<16
   ·have h3:i<(a9 (eH (aO s)) (aV 16 (0:UInt8)) i).length:=by omega
    have h5:(a9 (eH (aO s)) (aV 16 (0:UInt8)) i).set i (eH (aO s) i)=a9 (eH (aO s)) (aV 16 (0:UInt8)) (i+1):=lv (eH (aO s)) _ (by rw[bL]; omega);have g0:s[i]?=some (aO s i):=cT (by omega);obtain⟨q,r,hr,rfl⟩:∃ q r,r<4∧i=4*q+r:=⟨i / 4,i%4,Qw _ (by decide),by omega⟩
    have hq:q<4:=by omega
    have col:∀ j,j<4→((s.drop (4*q)).take 4)[j]?=some (aO s (4*q+j)):=fun j hj=>by
      rw[PC,if_pos hj,PY]; exact cT (by omega)
    have g1:=col ((r+1)%4) (Qw _ (by decide));have g2:=col ((r+2)%4) (Qw _ (by decide));have g3:=col ((r+3)%4) (Qw _ (by decide));have t0:Int.tmod (4*(q:Int)+(r:Int)) 4=(r:Int):=by
      show Int.tmod ((4*q+r:Nat):Int) ((4:Nat):Int)=_
      rw[js]; congr 1; omega
    have t1:Int.tmod ((r:Int)+1) 4=(((r+1)%4:Nat):Int):=js (r+1) 4;have t2:Int.tmod ((r:Int)+2) 4=(((r+2)%4:Nat):Int):=js (r+2) 4;have t3:Int.tmod ((r:Int)+3) 4=(((r+3)%4:Nat):Int):=js (r+3) 4;have b1:(r+1)%4<4:=Qw _ (by decide);have b2:(r+2)%4<4:=Qw _ (by decide);have b3:(r+3)%4<4:=Qw _ (by decide);have em:eH (aO s) (4*q+r)=pp (aO s (4*q+r)) (aO s (4*q+(r+1)%4)) (aO s (4*q+(r+2)%4)) (aO s (4*q+(r+3)%4)):=by
      unfold eH;rw[show (4*q+r) / 4=q by omega,show (4*q+r)%4=r by omega]
    rw[em,← LE] at h5;have s1:4*q+r-r=4*q:=by omega
    have s2:4*q+4-4*q=4:=by omega
    have s3:((s.drop (4*q)).take 4).length=4:=by rw[Pl,Pp]; omega
    generalize (r+1)%4=r1 at *
    generalize (r+2)%4=r2 at *
    generalize (r+3)%4=r3 at *
    generalize aO s (4*q+r)=a at *
    generalize aO s (4*q+r1)=b at *
    generalize aO s (4*q+r2)=c at *
    generalize aO s (4*q+r3)=d at *
    have x1:=eP a b;have x2:=eP (eL (ak a b)) b;have x3:=eP (ak (eL (ak a b)) b) c;have x4:=eP (ak (ak (eL (ak a b)) b) c) d;simp only[qI,tc,ae,aa,seval,iteOmega,toNatUp,aY,t0,t1,t2,t3,g0,g1,g2,g3,s1,s2,s3,x1];refine sC (D8 G (ak a b)) ?_;simp only[aY,t0,t1,t2,t3,g0,g1,g2,g3,s1,s2,s3,x2,x3,x4,fv h3 (eC _),fS,h5,hl,ae,aa,seval,iteOmega,toNatUp];refine bd (4*q+r+1) (by omega) (by omega) (aF (fun i=>i) ?_ ?_ rfl rfl) <;> simp only[wx,aG,aP,aa,seval,iteOmega,toNatUp]
   ·obtain rfl:i=16:=by omega
    have e:a9 (eH (aO s)) (aV 16 (0:UInt8)) 16=l5 s:=nF _ (bL _ _);have e2:=y8 s;simp only[qI,tc,e,ae,aa,seval,iteOmega,toNatUp,e2,fp,bL];exact aI
def OU (l:List UInt8) (c:UInt8) (j:Nat):UInt8:=if j=0 then ak (cF (l.getD 13 0)) c else if j=1 then cF (l.getD 14 0) else if j=2 then cF (l.getD 15 0) else cF (l.getD 12 0)
def wV (l:List UInt8) (c:UInt8):Nat→Nat→UInt8
  | 0,j=>OU l c j
  | n+1,j=>if j=n%4 then ak (l.getD n 0) (wV l c n (n%4)) else wV l c n j
def d9 (l:List UInt8) (c:UInt8) (n:Nat):UInt8:=ak (l.getD n 0) (wV l c n (n%4))
def i4 (l:List UInt8) (c:UInt8):List UInt8:=bh (d9 l c)
theorem ng (l:List UInt8) (c:UInt8):(i4 l c).length=16:=dK _
def wL (l:List UInt8) (c:UInt8) (i:Nat):List UInt8:=(List.range 4).map (wV l c i)
theorem kf (l:List UInt8) (c:UInt8) (i:Nat):(wL l c i).length=4:=by simp[wL]
theorem td (l:List UInt8) (c:UInt8) (i:Nat) {j:Nat} (h:j<4):(wL l c i)[j]?=some (wV l c i j):=by simp[wL,h]
theorem JI (l:List UInt8) (c:UInt8) (i:Nat):(wL l c i).set (i%4) (d9 l c i)=wL l c (i+1):=by
  apply QG;intro j;by_cases hj:j<4
  ·rw[td _ _ _ hj,List.getElem?_set];by_cases e:i%4=j
   ·rw[if_pos e,if_pos (by rw[kf]; omega),wV,if_pos e.symm]; rfl
   ·rw[if_neg e,td _ _ _ hj,wV,if_neg (fun h=>e h.symm)]
  ·rw[PS (by rw[Qi,kf]; omega),PS (by rw[kf]; omega)]
theorem JJ (l:List UInt8) (c:UInt8):[ak (cF (l.getD 13 0)) c,cF (l.getD 14 0),cF (l.getD 15 0),cF (l.getD 12 0)]=wL l c 0:=rfl
def tI (l:List UInt8) (c:UInt8) (i:Nat):St:=⟨aU [(2,.w (.c (.pa 1 1))),(4,.w (.c (.pa 2 1))),(5,.w (.c (.pa 3 1))),(22,.w (.c (.d (.int .i64 (i:Int)))))],hL [(1,.row 1 ((a9 (d9 l c) l i).map bD)),(2,.row 1 ((aV 16 (0:UInt8)).map bD)),(3,.row 1 ((wL l c i).map bD))],uL [1,2,3]⟩
def ru:aK := .seq (.reg [oO 23 (.bin .lss (.t 22) (kI 16))]) (.seq (.cond (.t 23) (.skip) (.exit 0)) (.seq (.block 1 (.seq (.reg [oM 24 22,oM 6 24]) (.seq (.reg [oM 25 6,oO 26 (.idxPa 1 16 (.t 2) (.t 25)),oO 27 (.load .sc (.t 26)),oM 28 6,oO 29 (.bin .rem (.t 28) (kI 4)),oO 30 (.idxPa 1 4 (.t 5) (.t 29)),oO 31 (.load .sc (.t 30)),oO 32 (.bin .xor (.t 27) (.t 31)),oO 33 (.idxPa 1 16 (.t 2) (.t 25)),oN (.store .sc (.t 33) (.t 32))]) (.reg [oM 34 6,oO 35 (.bin .rem (.t 34) (kI 4)),oM 36 6,oO 37 (.idxPa 1 16 (.t 2) (.t 36)),oO 38 (.load .sc (.t 37)),oO 39 (.idxPa 1 4 (.t 5) (.t 35)),oN (.store .sc (.t 39) (.t 38))])))) (.reg [oO 40 (.bin .add (.t 22) (kI 1)),oM 22 40])))
def CW:aB:=⟨2,42,.seq (.reg [oO 2 (.box .ownArr (.t 0)),oO 4 (.allocArr [(.int .u8 0),(.int .u8 0),(.int .u8 0),(.int .u8 0),(.int .u8 0),(.int .u8 0),(.int .u8 0),(.int .u8 0),(.int .u8 0),(.int .u8 0),(.int .u8 0),(.int .u8 0),(.int .u8 0),(.int .u8 0),(.int .u8 0),(.int .u8 0)])]) (.seq (.reg [oO 7 (.idxPa 1 16 (.t 2) (kI 13)),oO 8 (.load .sc (.t 7)),oO 9 (.call 103 [(.t 8)] none),oM 10 1,oO 11 (.bin .xor (.t 9) (.t 10)),oO 12 (.idxPa 1 16 (.t 2) (kI 14)),oO 13 (.load .sc (.t 12)),oO 14 (.call 103 [(.t 13)] none),oO 15 (.idxPa 1 16 (.t 2) (kI 15)),oO 16 (.load .sc (.t 15)),oO 17 (.call 103 [(.t 16)] none),oO 18 (.idxPa 1 16 (.t 2) (kI 12)),oO 19 (.load .sc (.t 18)),oO 20 (.call 103 [(.t 19)] none),oO 21 (.build [(.d (.int .u8 0)),(.d (.int .u8 0)),(.d (.int .u8 0)),(.d (.int .u8 0))] [(0,1,(.t 11)),(1,1,(.t 14)),(2,1,(.t 17)),(3,1,(.t 20))]),
 oO 5 (.allocArr [(.int .u8 0),(.int .u8 0),(.int .u8 0),(.int .u8 0)]),oN (.store (.ag 4) (.t 5) (.t 21))]) (.seq (.seq (.reg [oO 22 (.mv (kI 0))]) (.block 0 (.loop ru))) (.seq (.reg [oO 41 (.load (.ag 16) (.t 2)),oN (.store (.ag 16) (.t 4) (.t 41))]) (.ret)))),[(4,(some (.ag 16)))]⟩
theorem LG:aA Try.prog { own:=[2],comp:=[],frz:=[],nils:=[] } Try.f92=some CW:=by kernel_rfl
set_option maxHeartbeats 3200000 in
theorem Ny (G:aj) (l:List UInt8) (c:UInt8) (hl:l.length=16):ap Try.prog G 92 [.agg (l.map bD),bD c] (.w (.c (.d (.agg ((i4 l c).map bD))))):=by
  refine aD Try.func92 LG rfl rfl ?_;have a13:l[13]?=some (l.getD 13 0):=cT (by omega);have a14:l[14]?=some (l.getD 14 0):=cT (by omega);have a15:l[15]?=some (l.getD 15 0):=cT (by omega);have a12:l[12]?=some (l.getD 12 0):=cT (by omega);have x0:=eP (cF (l.getD 13 0)) c;have w0:=congrArg (List.map bD) (JJ l c);have wl:=kf l c 0;simp only[Pi,PH] at w0;simp only[CW,ai,ae,aa,seval,iteOmega,toNatUp,eh,hl,aY,a13];refine sC (lS G (l.getD 13 0)) ?_;simp only[x0,aY,a14,hl,ae,aa,seval,iteOmega,toNatUp];refine sC (lS G (l.getD 14 0)) ?_;simp only[aY,a15,hl,ae,aa,seval,iteOmega,toNatUp];refine sC (lS G (l.getD 15 0)) ?_;simp only[aY,a12,hl,ae,aa,seval,iteOmega,toNatUp];refine sC (lS G (l.getD 12 0)) ?_;simp only[w0,ae,aa,seval,iteOmega,toNatUp];refine bp (tI l c) (fun i=>16-i) (fun i=>i≤16) 0 (Pu _) ?_ ?_
  ·refine aF (fun i=>if i=1 then 16 else if i=2 then 32 else 40) ?_ ?_ rfl rfl <;> simp only[wx,aG,aP,aa,seval,iteOmega,toNatUp,lu]
  ·intro i hi;have hu:(a9 (d9 l c) l i).length=16:=by rw[j4 _ _ (by omega)]; exact hl
   by_cases hlt:i<16
   ·have hm:i%4<4:=Qw _ (by decide);have t1:Int.tmod (i:Int) 4=((i%4:Nat):Int):=js i 4;have g1:(a9 (d9 l c) l i)[i]?=some (l.getD i 0):=by rw[AG _ _ (Pn i)]; exact cT (by omega)
    have g2:=td l c i hm;have x1:=eP (l.getD i 0) (wV l c i (i%4));have h3:i<(a9 (d9 l c) l i).length:=by omega
    have h4:i%4<(wL l c i).length:=by rw[kf]; exact hm
    have h5:(a9 (d9 l c) l i).set i (d9 l c i)=a9 (d9 l c) l (i+1):=lv (d9 l c) l (by omega);have h6:=JI l c i;have g3:(a9 (d9 l c) l (i+1))[i]?=some (d9 l c i):=H7 _ _ (Nat.lt_succ_self i);have hf:ak (l.getD i 0) (wV l c i (i%4))=d9 l c i:=rfl;have hwl:=kf l c i;have hu2:(a9 (d9 l c) l (i+1)).length=16:=by rw[j4 _ _ (by omega)]; exact hl
    generalize hq:i%4=q at *
    simp only[ru,tI,ae,aa,seval,iteOmega,toNatUp,aY,t1,g1,g2,x1,hf,fv h3 (eC _),fv h4 (eC _),fS,h5,h6,g3,hu,hu2,hwl];refine bd (i+1) (by omega) (by omega) (aF (fun i=>i) ?_ ?_ rfl rfl) <;> simp only[wx,aG,aP,aa,seval,iteOmega,toNatUp]
   ·obtain rfl:i=16:=by omega
    have e:a9 (d9 l c) l 16=i4 l c:=nF _ hl;have e2:=ng l c;simp only[ru,tI,e,ae,aa,seval,iteOmega,toNatUp,e2,fp,bL];exact aI
theorem GR {P Q:List UInt8} {k n:Nat} (h:P.length=n):(P++Q).getD (n+k) 0=Q.getD k 0:=by
  rw[Pg,Pg,P3 (by omega),h,Nat.add_sub_cancel_left]
theorem Ia {P Q:List UInt8} {k n:Nat} (h:P.length=n):(P++Q).drop (n+k)=Q.drop k:=by
  rw[← h,List.drop_append,P8 (by omega),Qa,Nat.add_sub_cancel_left]
theorem mU {P Q:List UInt8} {n:Nat} (h:P.length=4*n):hZ (P++Q) n=(List.range 4).map fun k=>ak (Q.getD k 0) ((kz (Q.drop 12) n).getD k 0):=by
  unfold hZ;refine PW fun k _=>?_
  rw[GR h,show 12+4*n=4*n+12 by omega,Ia h]
theorem Nz (b0 b1 b2 b3 b4 b5 b6 b7 b8 b9 b10 b11 b12 b13 b14 b15 c:UInt8):∃ f0 f1 f2 f3,
    f0=ak b0 (ak (cF b13) c)∧f1=ak b1 (cF b14)∧f2=ak b2 (cF b15)∧f3=ak b3 (cF b12) ∧
    i4 [b0,b1,b2,b3,b4,b5,b6,b7,b8,b9,b10,b11,b12,b13,b14,b15] c =
      [f0,f1,f2,f3,ak b4 f0,ak b5 f1,ak b6 f2,ak b7 f3,ak b8 (ak b4 f0),ak b9 (ak b5 f1),ak b10 (ak b6 f2),ak b11 (ak b7 f3),
       ak b12 (ak b8 (ak b4 f0)),ak b13 (ak b9 (ak b5 f1)),ak b14 (ak b10 (ak b6 f2)),ak b15 (ak b11 (ak b7 f3))] :=
  ⟨_,_,_,_,rfl,rfl,rfl,rfl,rfl⟩
theorem nh (f:Nat→UInt8):(List.range 4).map f=[f 0,f 1,f 2,f 3]:=rfl
theorem Ib {P:List UInt8} {r:Nat} (hP:P.length=16*r) (b0 b1 b2 b3 b4 b5 b6 b7 b8 b9 b10 b11 b12 b13 b14 b15:UInt8) (key:List UInt8)
    (h:cA key (4*r)=P++[b0,b1,b2,b3,b4,b5,b6,b7,b8,b9,b10,b11,b12,b13,b14,b15]) :
    cA key (4*(r+1))=cA key (4*r)++i4 [b0,b1,b2,b3,b4,b5,b6,b7,b8,b9,b10,b11,b12,b13,b14,b15] (eZ r):=by
  obtain⟨f0,f1,f2,f3,e0,e1,e2,e3,ef⟩:=Nz b0 b1 b2 b3 b4 b5 b6 b7 b8 b9 b10 b11 b12 b13 b14 b15 (eZ r);have m0:4*r%4=0:=by omega
  have m1:(4*r+1)%4≠0:=by omega
  have m2:(4*r+2)%4≠0:=by omega
  have m3:(4*r+3)%4≠0:=by omega
  have d0:4*r / 4=r:=by omega
  have n0:hZ (cA key (4*r)) (4*r)=[f0,f1,f2,f3]:=by
    rw[h,mU (by omega),nh];unfold kz;rw[if_pos m0,d0,e0,e1,e2,e3]; rfl
  have s1:cA key (4*r+1)=(P++[b0,b1,b2,b3])++[b4,b5,b6,b7,b8,b9,b10,b11,b12,b13,b14,b15,f0,f1,f2,f3]:=by
    rw[cA,n0,h]; simp
  have n1:hZ (cA key (4*r+1)) (4*r+1)=[ak b4 f0,ak b5 f1,ak b6 f2,ak b7 f3]:=by
    rw[s1,mU (by simp; omega),nh];unfold kz;rw[if_neg m1]; rfl
  have s2:cA key (4*r+2)=(P++[b0,b1,b2,b3,b4,b5,b6,b7])++[b8,b9,b10,b11,b12,b13,b14,b15,f0,f1,f2,f3,ak b4 f0,ak b5 f1,ak b6 f2,ak b7 f3]:=by
    rw[show 4*r+2=(4*r+1)+1 from rfl,cA,n1,s1]; simp
  have n2:hZ (cA key (4*r+2)) (4*r+2)=[ak b8 (ak b4 f0),ak b9 (ak b5 f1),ak b10 (ak b6 f2),ak b11 (ak b7 f3)]:=by
    rw[s2,mU (by simp; omega),nh];unfold kz;rw[if_neg m2]; rfl
  have s3:cA key (4*r+3)=(P++[b0,b1,b2,b3,b4,b5,b6,b7,b8,b9,b10,b11])++[b12,b13,b14,b15,f0,f1,f2,f3,ak b4 f0,ak b5 f1,ak b6 f2,ak b7 f3,ak b8 (ak b4 f0),ak b9 (ak b5 f1),ak b10 (ak b6 f2),ak b11 (ak b7 f3)]:=by
    rw[show 4*r+3=(4*r+2)+1 from rfl,cA,n2,s2]; simp
  have n3:hZ (cA key (4*r+3)) (4*r+3)=[ak b12 (ak b8 (ak b4 f0)),ak b13 (ak b9 (ak b5 f1)),ak b14 (ak b10 (ak b6 f2)),ak b15 (ak b11 (ak b7 f3))]:=by
    rw[s3,mU (by simp; omega),nh];unfold kz;rw[if_neg m3]; rfl
  rw[show 4*(r+1)=(4*r+3)+1 by omega,cA,n3,s3,ef,h];simp
def kb (key:List UInt8) (r:Nat):List UInt8:=(cA key (4*r)).drop (16*r)
theorem te {key:List UInt8} (h:key.length=16) (r:Nat):(kb key r).length=16:=by
  unfold kb; rw[Pp,jh h]; omega
theorem LH {l:List UInt8} (h:l.length=16):∃ b0 b1 b2 b3 b4 b5 b6 b7 b8 b9 b10 b11 b12 b13 b14 b15,l=[b0,b1,b2,b3,b4,b5,b6,b7,b8,b9,b10,b11,b12,b13,b14,b15]:=by
  rcases l with _ | ⟨b0,l⟩ <;> simp at h
  rcases l with _ | ⟨b1,l⟩ <;> simp at h
  rcases l with _ | ⟨b2,l⟩ <;> simp at h
  rcases l with _ | ⟨b3,l⟩ <;> simp at h
  rcases l with _ | ⟨b4,l⟩ <;> simp at h
  rcases l with _ | ⟨b5,l⟩ <;> simp at h
  rcases l with _ | ⟨b6,l⟩ <;> simp at h
  rcases l with _ | ⟨b7,l⟩ <;> simp at h
  rcases l with _ | ⟨b8,l⟩ <;> simp at h
  rcases l with _ | ⟨b9,l⟩ <;> simp at h
  rcases l with _ | ⟨b10,l⟩ <;> simp at h
  rcases l with _ | ⟨b11,l⟩ <;> simp at h
  rcases l with _ | ⟨b12,l⟩ <;> simp at h
  rcases l with _ | ⟨b13,l⟩ <;> simp at h
  rcases l with _ | ⟨b14,l⟩ <;> simp at h
  rcases l with _ | ⟨b15,l⟩ <;> simp at h
  subst h;exact⟨_,_,_,_,_,_,_,_,_,_,_,_,_,_,_,_,rfl⟩
theorem JK {key:List UInt8} (h:key.length=16) (r:Nat):cA key (4*(r+1))=cA key (4*r)++i4 (kb key r) (eZ r):=by
  obtain⟨b0,b1,b2,b3,b4,b5,b6,b7,b8,b9,b10,b11,b12,b13,b14,b15,e⟩:=LH (te h r);rw[e];refine Ib (P:=(cA key (4*r)).take (16*r)) ?_ _ _ _ _ _ _ _ _ _ _ _ _ _ _ _ _ key ?_
  ·rw[Pl,jh h]; omega
  ·rw[← e]; exact (P1 _ _).symm
def dH (key:List UInt8) (i:Nat):List UInt8:=cA key (4*i)++aV (160-16*i) 0
theorem JL {key:List UInt8} (h:key.length=16) {i:Nat} (hi:i≤10):(dH key i).length=176:=by
  unfold dH; rw[Ph,jh h,bL]; omega
theorem Ic {key:List UInt8} (h:key.length=16):bB (aV 176 (0:UInt8)) 0 key=dH key 0:=by
  unfold bB dH aV;rw[List.take_zero,Qa,List.drop_replicate,h]; rfl
theorem Ie {key:List UInt8} (h:key.length=16) {i:Nat} (hi:i≤10):((dH key i).drop (i*16)).take 16=kb key i:=by
  unfold dH;rw[QK,List.drop_append_of_le_length (by rw[jh h]; omega)];exact List.take_left' (te h i)
theorem Ig {key:List UInt8} (h:key.length=16) {i:Nat} (hi:i<10):bB (dH key i) ((i+1)*16) (i4 (kb key i) (eZ i))=dH key (i+1):=by
  have hl:(cA key (4*i)).length=(i+1)*16:=by rw[jh h]; omega
  unfold bB dH;rw[JK h,List.take_append_of_le_length (by omega),Pk (by omega),ng,List.drop_append,P8 (by omega),Qa,hl]
  congr 1
  unfold aV;rw[List.drop_replicate]
  congr 1
  omega
theorem Ih (key:List UInt8):dH key 10=aw key:=by
  unfold dH aV aw; rw[show 160-16*10=0 from rfl,QI,PF]
set_option maxHeartbeats 3200000
def tg (key:List UInt8) (i:Nat):St:=⟨aU [(2,.w (.c (.ptr 2 1 0 0))),(3,.w (.c (.ptr 1 1 0 0))),(4,.w (.c (.d (bD (eZ i))))),(5,.w (.c (.d (.int .i64 ((i+1:Nat):Int)))))],hL [(1,.box ((dH key i).map bC)),(2,.box ((aV 176 (0:UInt8)).map bC))],uL [1,2]⟩
theorem OM:eZ 0=1:=rfl
def qJ:aK := .seq (.seq (.reg [oM 10 5,oO 11 (.bin .leq (.t 10) (kI 10))]) (.cond (.t 11) (.skip) (.exit 0))) (.seq (.block 1 (.seq (.reg [oM 14 5,oM 15 5,oO 16 (.bin .sub (.t 15) (kI 1)),oO 17 (.idxPa 16 11 (.t 3) (.t 16)),oO 18 (.load (.ag 16) (.t 17)),oM 19 4,oO 20 (.call 92 [(.t 18),(.t 19)] none),oO 21 (.idxPa 16 11 (.t 3) (.t 14)),oN (.store (.ag 16) (.t 21) (.t 20))]) (.reg [oM 22 4,oO 23 (.call 93 [(.t 22)] none),oM 4 23]))) (.reg [oM 12 5,oO 13 (.bin .add (.t 12) (kI 1)),oM 5 13]))
def AK:aB:=⟨1,25,.seq (.reg [oO 2 (.alloc (aV 176 (.d (.int .u8 0))))]) (.seq (.reg [oO 3 (.alloc (aV 176 (.d (.int .u8 0))))]) (.seq (.reg [oO 6 (.idxPa 16 11 (.t 3) (kI 0)),oO 7 (.sliceArr 1 16 (.t 6) none none),oM 8 0,oO 9 (.copy 1 (.t 7) (.t 8))]) (.seq (.reg [oO 4 (.mv (.k (.c (.d (.int .u8 1)))))]) (.seq (.seq (.reg [oO 5 (.mv (kI 1))]) (.block 0 (.loop qJ))) (.seq (.reg [oO 24 (.load (.ag 176) (.t 3)),oN (.store (.ag 176) (.t 2) (.t 24))]) (.ret)))))),[(2,(some (.ag 176)))]⟩
theorem JM:aA Try.prog { own:=[],comp:=[],frz:=[],nils:=[] } Try.f84=some AK:=by kernel_rfl
theorem CX (G:aj) (key:List UInt8) (h:key.length=16):ap Try.prog G 84 [.sl (key.map bD)] (.w (.c (.d (.agg ((aw key).map bD))))):=by
  refine aD Try.func84 JM rfl rfl ?_;have ht:key.take 16=key:=Pk (by omega);have h0:key++List.drop key.length (aV 176 (0:UInt8))=dH key 0:=by rw[← Ic h]; simp[bB]
  have hid:=en (dH key 0);have hid2:=en (aV 176 (0:UInt8));simp only[AK,ai,ae,aa,seval,iteOmega,toNatUp,Ay,fO,bL,dw,ht,fp,lQ,HU,h0];refine bp (tg key) (fun i=>10-i) (fun i=>i≤10) 0 (Pu _) ?_ ?_
  ·refine aF (fun i=>if i=1 then 24 else 16) ?_ ?_ rfl (by simp[V.ids,W.ids,C.ids,Ob.ids,en]) <;> simp only[wx,aG,aP,aa,seval,iteOmega,toNatUp,OM,OT,ka,en]
  ·intro i hi;have hl:=JL h hi;by_cases hlt:i<10
   ·have g1:=Ie h hi;have h5:List.take ((i+1)*16) (dH key i)++i4 (kb key i) (eZ i)++List.drop ((i+1)*16+16) (dH key i)=dH key (i+1):=by
      rw[← Ig h hlt]; unfold bB; rw[ng]
    have hf:=ng (kb key i) (eZ i);have hx:eL (eZ i)=eZ (i+1):=rfl;have s1:((i:Int)+1-1).toNat=i:=by omega
    simp only[qJ,tg,ae,aa,seval,iteOmega,toNatUp,fO,hl,dw,gp,g1,lA];refine sC (Ny G (kb key i) (eZ i) (te h i)) ?_;simp only[fO,hl,lQ,hf,dw,gp,gW,h5,ae,aa,seval,iteOmega,toNatUp];refine sC (D8 G (eZ i)) ?_;simp only[hx,ae,aa,seval,iteOmega,toNatUp];refine bd (i+1) (by omega) (by omega) (aF (fun i=>i) ?_ ?_ rfl (by simp[V.ids,W.ids,C.ids,Ob.ids,en])) <;> simp only[wx,aG,aP,aa,seval,iteOmega,toNatUp,ka,en]
   ·obtain rfl:i=10:=by omega
    have e:=Ih key;have e2:=sg h;rw[e] at hl;have t1:(aw key).take 176=aw key:=Pk (by omega);have t2:List.drop 176 (aV 176 (0:UInt8))=[]:=P8 (by rw[bL]; omega);have t3:aw key++List.drop (aw key).length (aV 176 (0:UInt8))=aw key:=by rw[e2,t2,PF]
    simp only[qJ,tg,e,ae,aa,seval,iteOmega,toNatUp,fO,hl,e2,t1,t2,t3,lA,lQ,bL,dw,gp,gW,PF];exact lH (by simp only[ae,aa,seval,iteOmega,toNatUp,fO,hl,e2,t1,t2,t3,lA,lQ,bL,dw,gp,gW,PF])
theorem Ii (l:List UInt8):cu ((l.map bD).map C.d)=some (l.map bD):=by
  induction l with
  | nil=>rfl
  | cons x l ih =>
    show cu (C.d (bD x)::(l.map bD).map C.d)=_
    simp only[cu,ih,Pi,QA]
theorem Ij (rk b:List UInt8) (hb:b.length=16):jA b (bh (cG rk 0))=bh (fA (cG rk) (aO b) 0):=by
  have:=rr (aO b) (cG rk 0);rw[Lz hb] at this;exact this
theorem JN (rk b:List UInt8) {n:Nat} (h:n+1<10):jA (l5 (kL (bh (fA (cG rk) (aO b) n)))) (bh (cG rk (n+1)))=bh (fA (cG rk) (aO b) (n+1)):=by
  rw[y9,H9,rr]
  show _=bh (s9 _ _ _)
  unfold s9;rw[if_pos h]
theorem Ik (rk b:List UInt8):jA (kL (bh (fA (cG rk) (aO b) 9))) (bh (cG rk 10))=cR rk b:=by
  rw[y9,rr];rfl
def tJ (rk b:List UInt8) (i:Nat):St:=⟨aU [(2,.w (.c (.rp (rk.map bD)))),(4,.w (.c (.pa 2 1))),(5,.w (.c (.pa 1 1))),(6,.w (.c (.d (.int .i64 ((i+1:Nat):Int)))))],hL [(1,.row 1 ((bh (fA (cG rk) (aO b) i)).map bD)),(2,.row 1 ((aV 16 (0:UInt8)).map bD))],uL [1,2]⟩
def qK:aK := .seq (.seq (.reg [oM 14 6,oO 15 (.bin .lss (.t 14) (kI 10))]) (.cond (.t 15) (.skip) (.exit 0))) (.seq (.block 1 (.reg [oO 18 (.load (.ag 16) (.t 5)),oO 19 (.call 97 [(.t 18)] none),oO 20 (.call 96 [(.t 19)] none),oM 21 6,oO 22 (.idxPa 16 11 (.t 2) (.t 21)),oO 23 (.load (.ag 16) (.t 22)),oO 24 (.call 95 [(.t 20),(.t 23)] none),oN (.store (.ag 16) (.t 5) (.t 24))])) (.reg [oM 16 6,oO 17 (.bin .add (.t 16) (kI 1)),oM 6 17]))
def AL:aB:=⟨2,30,.seq (.reg [oO 2 (.box .roBox (.t 0)),oO 4 (.allocArr [(.int .u8 0),(.int .u8 0),(.int .u8 0),(.int .u8 0),(.int .u8 0),(.int .u8 0),(.int .u8 0),(.int .u8 0),(.int .u8 0),(.int .u8 0),(.int .u8 0),(.int .u8 0),(.int .u8 0),(.int .u8 0),(.int .u8 0),(.int .u8 0)])]) (.seq (.reg [oO 5 (.allocArr [(.int .u8 0),(.int .u8 0),(.int .u8 0),(.int .u8 0),(.int .u8 0),(.int .u8 0),(.int .u8 0),(.int .u8 0),(.int .u8 0),(.int .u8 0),(.int .u8 0),(.int .u8 0),(.int .u8 0),(.int .u8 0),(.int .u8 0),(.int .u8 0)])]) (.seq (.reg [oO 7 (.sliceArr 1 16 (.t 5) none none),oM 8 1,oO 9 (.copy 1 (.t 7) (.t 8))]) (.seq (.reg [oO 10 (.load (.ag 16) (.t 5)),oO 11 (.idxPa 16 11 (.t 2) (kI 0)),oO 12 (.load (.ag 16) (.t 11)),oO 13 (.call 95 [(.t 10),(.t 12)] none),oN (.store (.ag 16) (.t 5) (.t 13))])
 (.seq (.seq (.reg [oO 6 (.mv (kI 1))]) (.block 0 (.loop qK))) (.seq (.reg [oO 25 (.load (.ag 16) (.t 5)),oO 26 (.call 97 [(.t 25)] none),oO 27 (.idxPa 16 11 (.t 2) (kI 10)),oO 28 (.load (.ag 16) (.t 27)),oO 29 (.call 95 [(.t 26),(.t 28)] none),oN (.store (.ag 16) (.t 4) (.t 29))]) (.ret)))))),[(4,(some (.ag 16)))]⟩
theorem JO:aA Try.prog { own:=[],comp:=[],frz:=[],nils:=[] } Try.f86=some AL:=by kernel_rfl
theorem CY (G:aj) (rk b:List UInt8) (hk:rk.length=176) (hb:b.length=16):ap Try.prog G 86 [.agg (rk.map bD),.sl (b.map bD)] (.w (.c (.d (.agg ((cR rk b).map bD))))):=by
  refine aD Try.func86 JO rfl rfl ?_;have ht:b.take 16=b:=Pk (by omega);have key:∀ r,r≤10→(rk.drop (16*r)).take 16=bh (cG rk r):=fun r hr=>by
    apply QG;intro j;by_cases hj:j<16
    ·rw[nE _ hj,PC,if_pos hj,PY]; exact cT (by omega)
    ·rw[PS (by rw[Pl]; omega),PS (by rw[dK]; omega)]
  have d1:b++List.drop b.length (aV 16 (0:UInt8))=b:=by rw[hb,P8 (by rw[bL]; omega),PF]
  have d2:List.drop 16 (aV 16 (0:UInt8))=[]:=P8 (by rw[bL]; omega);have k0:=key 0 (by decide);have l0:(bh (cG rk 0)).length=16:=dK _;have t0:(bh (cG rk 0)).take 16=bh (cG rk 0):=Pk (by rw[dK]; omega);have a0:=Ij rk b hb;have la:=dK (fA (cG rk) (aO b) 0);simp only[Nat.mul_zero,QQ] at k0;simp only[AL,ai,ae,aa,seval,iteOmega,toNatUp,eh,Ii,bL,dw,ht,gp,gW,d1,d2,k0,fp,hb,l0,t0,PF,QD];refine sC (tG G b (bh (cG rk 0)) hb l0) ?_;simp only[a0,la,bL,ae,aa,seval,iteOmega,toNatUp];refine bp (tJ rk b) (fun i=>9-i) (fun i=>i≤9) 0 (Pu _) ?_ ?_
  ·refine aF (fun i=>if i=1 then 40 else 32) ?_ ?_ rfl rfl <;> simp only[wx,aG,aP,aa,seval,iteOmega,toNatUp]
  ·intro i hi;have le:=dK (fA (cG rk) (aO b) i);have hr:i+1≤10:=by omega
   have k1:=key (i+1) hr;rw[QK] at k1;have l1:(bh (cG rk (i+1))).length=16:=dK _;have t1:(bh (cG rk (i+1))).take 16=bh (cG rk (i+1)):=Pk (by rw[dK]; omega);by_cases hlt:i<9
   ·have h5:=JN rk b (n:=i) (by omega);have le2:=dK (fA (cG rk) (aO b) (i+1));simp only[qK,tJ,ae,aa,seval,iteOmega,toNatUp,le,fp];refine sD (CV G (bh (fA (cG rk) (aO b) i)) le) ?_;refine sC (LF G _ (rq _)) ?_;simp only[dw,gp,k1,l1,t1,ae,aa,seval,iteOmega,toNatUp];refine sC (tG G _ _ (y8 _) l1) ?_;simp only[h5,le2,le,ae,aa,seval,iteOmega,toNatUp];refine bd (i+1) (by omega) (by omega) (aF (fun i=>i) ?_ ?_ rfl rfl) <;> simp only[wx,aG,aP,aa,seval,iteOmega,toNatUp]
   ·obtain rfl:i=9:=by omega
    have h5:=Ik rk b;have le2:=fM rk b;simp only[qK,tJ,ae,aa,seval,iteOmega,toNatUp,le,fp];refine sC (CV G (bh (fA (cG rk) (aO b) 9)) le) ?_;simp only[dw,gp,k1,l1,t1,ae,aa,seval,iteOmega,toNatUp];refine sC (tG G _ _ (rq _) l1) ?_;simp only[h5,le2,bL,ae,aa,seval,iteOmega,toNatUp];exact lH (by simp only[ae,aa,seval,iteOmega,toNatUp,le2,fp])


theorem za:∀ a b:List UInt8,cc (a++b)=if (cc b).2 then ((cc a).1++(cc b).1,(cc a).2) else (a++(cc b).1,false)
  | [],b=>by
    show cc b=if (cc b).2 then ([]++(cc b).1,true) else ([]++(cc b).1,false)
    rcases cc b with ⟨s,_ | _⟩ <;> rfl
  | x::a,b=>by
    have ih:=za a b;simp only[P5,cc,ih];cases h:(cc b).2
    ·simp
    ·simp only[if_true];cases h2:(cc a).2 <;> simp
def carry (c:List UInt8) (m:Nat):Prop:=(cc (c.drop m)).2=true
def dj (c:List UInt8) (m:Nat):List UInt8:=c.take m++(cc (c.drop m)).1
theorem zb (c:List UInt8) (m:Nat):(dj c m).length=c.length:=by
  unfold dj; rw[Ph,rn,← Ph,P1]
theorem FS (c:List UInt8):dj c c.length=c:=by unfold dj; simp[cc]
theorem Ft (c:List UInt8):carry c c.length:=by unfold carry; simp[cc]
theorem GT (c:List UInt8):dj c 0=ia c:=by unfold dj ia; simp
theorem JP {c:List UInt8} {m:Nat} (h:m<c.length):(dj c (m+1))[m]?=some (c.getD m 0):=by
  unfold dj;rw[PX (by rw[Pl]; omega),PC,if_pos (by omega)];exact cT h
theorem xg {c:List UInt8} {m:Nat} (h:m<c.length):c.drop m=c.getD m 0::c.drop (m+1):=by
  rw[List.drop_eq_getElem_cons h,Pg,Pb h]; rfl
theorem JQ {c:List UInt8} {m:Nat} (h:m<c.length) (hc:carry c (m+1)):(dj c (m+1)).set m (c.getD m 0+1)=dj c m:=by
  have e:(cc (c.drop m)).1=(c.getD m 0+1)::(cc (c.drop (m+1))).1:=by
    rw[xg h];unfold carry at hc;simp only[cc,hc,if_true]
  have e2:c.take (m+1)=c.take m++[c.getD m 0]:=by
    rw[QP,cT h]; rfl
  unfold dj;rw[e,e2,Qg,List.set_append_right _ _ (by rw[Pl]; omega),Pl,show m-min m c.length=0 by omega];rfl
theorem FT {c:List UInt8} {m:Nat} (h:m<c.length) (hc:carry c (m+1)):(cc (c.drop m)).2=(c.getD m 0+1==0):=by
  rw[xg h];unfold carry at hc;simp only[cc,hc,if_true]
theorem JR {c:List UInt8} {m:Nat} (h:(cc (c.drop m)).2=false):dj c m=ia c:=by
  have:=za (c.take m) (c.drop m);rw[P1,h] at this;unfold ia dj;rw[this]; rfl
theorem LI (x c:UInt8) (n:Int) (h:n=(c.toNat:Int)):aW .add (.w (.c (.d (bD x)))) (.w (.c (.d (.int .u8 n))))=some (bD (x+c)):=by
  subst h
  show aT .add .u8 (x.toNat:Int) .u8 (c.toNat:Int)=_
  rw[m5,IntKind.wrap_u8]
  show some (D.int .u8 (((x.toNat:Int)+(c.toNat:Int))%256))=_
  have:((x.toNat:Int)+(c.toNat:Int))%256=((x+c).toNat:Int):=by
    rw[UInt8.toNat_add]; simp
  rw[this]; rfl
def pt (c:List UInt8):List UInt8:=if c.length=16 then ia c else []
def pu (c:List UInt8) (m:Nat):St:=⟨aU [(3,.w (.c (.own 1 1 0 16))),(4,.w (.c (.d (.int .i64 ((m:Int)-1)))))],hL [(1,.row 1 ((dj c m).map bD))],uL [1]⟩
def ni:aK := .seq (.seq (.reg [oM 14 4,oO 15 (.bin .geq (.t 14) (kI 0))]) (.cond (.t 15) (.skip) (.exit 0))) (.seq (.block 1 (.seq (.reg [oM 18 3,oM 19 4,oO 20 (.idxSl 1 (.t 18) (.t 19)),oO 21 (.load .sc (.t 20)),oO 22 (.bin .add (.t 21) (.k (.c (.d (.int .u8 1))))),oO 23 (.idxSl 1 (.t 18) (.t 19)),oN (.store .sc (.t 23) (.t 22))]) (.seq (.reg [oM 24 3,oM 25 4,oO 26 (.idxSl 1 (.t 24) (.t 25)),oO 27 (.load .sc (.t 26)),oO 28 (.bin .neq (.t 27) (.k (.c (.d (.int .u8 0)))))]) (.cond (.t 28) (.exit 0) (.skip))))) (.reg [oM 16 4,oO 17 (.bin .sub (.t 16) (kI 1)),oM 4 17]))
def ti:aB:=⟨1,30,.seq (.reg [oO 2 (.mv (.k (.c .nil)))]) (.seq (.seq (.reg [oM 5 0,oO 6 (.len (.t 5)),oO 7 (.bin .neq (.t 6) (kI 16))]) (.cond (.t 7) (.seq (.reg [oO 2 (.mv (.k (.c .nil)))]) (.ret)) (.skip))) (.seq (.reg [oM 8 0,oO 9 (.bldSl false 1 1 (.sl []) [(0,(.t 8))]),oO 10 (.call 30 [(.t 9)] (some (0,1))),oM 3 10]) (.seq (.seq (.reg [oM 11 3,oO 12 (.len (.t 11)),oO 13 (.bin .sub (.t 12) (kI 1)),oM 4 13]) (.block 0 (.loop ni))) (.seq (.reg [oM 29 3,oM 2 29]) (.ret))))),[(2,none)]⟩
theorem LJ:aA Try.prog { own:=[10],comp:=[],frz:=[],nils:=[] } Try.f87=some ti:=by kernel_rfl
theorem NA (G:aj) (c:List UInt8) (hc:c.length≤140737488355328):ap Try.prog G 87 [.sl (c.map bD)] (.w (.c (.fr 1 ((pt c).map bD)))):=by
  refine aD Try.func87 LJ rfl rfl ?_;unfold pt;by_cases h:c.length=16
  ·rw[if_pos h];have hj:=dq G [c] (by simp) (by simp; omega);have hf:[c].flatten=c:=by simp
   rw[hf] at hj;have hs:=FS c;rw[h] at hs;simp only[ti,ai,ae,aa,seval,iteOmega,toNatUp,h];refine sD (hj) ?_;refine bp (pu c) (fun m=>m) (fun m=>m≤16∧carry c m) 16 ⟨Pn _,by have:=Ft c; rwa [h] at this⟩ ?_ ?_
   ·refine aF (fun i=>80) ?_ ?_ rfl rfl <;> simp only[wx,aG,aP,aa,seval,iteOmega,toNatUp,hs,h] <;> rfl
   ·rintro m ⟨hm,hcar⟩;rcases m with _ | q
    ·have e0:=GT c;have hl:(ia c).length=16:=by rw[xe]; exact h
     simp only[ni,pu,e0,QT,Int.zero_sub,ae,aa,seval,iteOmega,toNatUp];exact dY (id:=1) (n:=16) (s:=1) (by simp only[wx,aa,seval,iteOmega,toNatUp]) (by simp only[wx,aa,seval,iteOmega,toNatUp]) (by simp[hl])
    ·have hq:q<c.length:=by omega
     have hl1:(dj c (q+1)).length=16:=by rw[zb]; exact h
     have hl0:(dj c q).length=16:=by rw[zb]; exact h
     have g1:=JP hq;have h3:q<(dj c (q+1)).length:=by omega
     have h5:=JQ hq hcar;have g2:(dj c q)[q]?=some (c.getD q 0+1):=by
       rw[← h5,List.getElem?_set_self (by omega)]
     have x1:=LI (c.getD q 0) 1 1 rfl;have x2:=Lp (c.getD q 0+1) 0 0 rfl;have hcs:=FT hq hcar;have sub:((q:Int)+1-1)=(q:Int):=by omega
     by_cases hz:c.getD q 0+1=0
     ·have hz2:(c.getD q 0+1 != 0)=false:=by rw[hz]; rfl
      rw[hz2] at x2;have hcar2:carry c q:=by unfold carry; rw[hcs,hz]; rfl
      simp only[ni,pu,ae,aa,seval,iteOmega,toNatUp,sub,aY,g1,x1,fv h3 (eC _),fS,h5,g2,x2,hl1,hl0];refine bd q (by omega) ⟨by omega,hcar2⟩ (aF (fun i=>i) ?_ ?_ rfl rfl) <;> simp only[wx,aG,aP,aa,seval,iteOmega,toNatUp]
     ·have hz2:(c.getD q 0+1 != 0)=true:=bne_iff_ne.2 hz;rw[hz2] at x2;have e0:dj c q=ia c:=JR (by rw[hcs]; exact beq_eq_false_iff_ne.2 hz);rw[e0] at hl0 g2 h5;simp only[ni,pu,ae,aa,seval,iteOmega,toNatUp,sub,aY,g1,x1,fv h3 (eC _),fS,h5,g2,x2,hl1,e0];exact dY (id:=1) (n:=16) (s:=1) (by simp only[wx,aa,seval,iteOmega,toNatUp]) (by simp only[wx,aa,seval,iteOmega,toNatUp]) (by simp[hl0])
  ·rw[if_neg h];simp only[ti,ai,ae,aa,seval,iteOmega,toNatUp];exact fe
def l6 (key b:List UInt8):Int:=if key.length≠16 then 5 else if b.length≠16 then 3 else 0
def pv (key b:List UInt8):List UInt8:=if key.length=16∧b.length=16 then nV key b else []
def nW:aB:=⟨2,18,.seq (.reg [oO 4 (.mv (.k (.c .nil))),oO 5 (.mv (kI 0))]) (.seq (.seq (.reg [oM 7 0,oO 8 (.len (.t 7)),oO 9 (.bin .neq (.t 8) (kI 16))]) (.cond (.t 9) (.seq (.reg [oO 4 (.mv (.k (.c .nil))),oO 5 (.mv (kI 5))]) (.ret)) (.skip))) (.seq (.seq (.reg [oM 10 1,oO 11 (.len (.t 10)),oO 12 (.bin .neq (.t 11) (kI 16))]) (.cond (.t 12) (.seq (.reg [oO 4 (.mv (.k (.c .nil))),oO 5 (.mv (kI 3))]) (.ret)) (.skip))) (.seq (.reg [oM 13 0,oO 14 (.call 84 [(.t 13)] none),oM 15 1,oO 16 (.call 86 [(.t 14),(.t 15)] none),oO 6 (.allocArr [(.int .u8 0),(.int .u8 0),(.int .u8 0),(.int .u8 0),(.int .u8 0),(.int .u8 0),(.int .u8 0),(.int .u8 0),(.int .u8 0),(.int .u8 0),(.int .u8 0),(.int .u8 0),(.int .u8 0),(.int .u8 0),(.int .u8 0),(.int .u8 0)]),oN (.store (.ag 16) (.t 6) (.t 16))]) (.seq (.reg [oO 17 (.sliceArr 1 16 (.t 6) none none),
 oM 4 17,oO 5 (.mv (kI 0))]) (.ret))))),[(4,none),(5,none)]⟩
theorem LK:aA Try.prog { own:=[],comp:=[],frz:=[],nils:=[] } Try.f98=some nW:=by kernel_rfl
theorem tK (G:aj) (key b:List UInt8) (hk:key.length≤9223372036854775807) (hb:b.length≤9223372036854775807):ap Try.prog G 98 [.sl (key.map bD),.sl (b.map bD)] (.tup [.c (.fr 1 ((pv key b).map bD)),.c (.d (.int .i64 (l6 key b)))]):=by
  refine aD Try.func98 LK rfl rfl ?_;unfold pv l6;by_cases h:key.length=16
  ·by_cases h2:b.length=16
   ·have hr:=sg h;have hl:(nV key b).length=16:=fM _ _;have ht:(nV key b).take 16=nV key b:=Pk (by omega);rw[if_pos ⟨h,h2⟩,if_neg (by simp[h]),if_neg (by simp[h2])];simp only[nW,ai,ae,aa,seval,iteOmega,toNatUp,h,h2,eh];refine sD (CX G key h) ?_;refine sC (CY G (aw key) b hr h2) ?_;simp only[fM,bL,hl,ae,aa,seval,iteOmega,toNatUp];exact sY (by simp only[ae,aa,seval,iteOmega,toNatUp,gE,fM,hl,fO]; rfl) (by simp only[ae,aa,seval,iteOmega,toNatUp])
   ·rw[if_neg (fun k=>h2 k.2),if_neg (by simp[h]),if_pos h2];simp only[nW,ai,ae,aa,seval,iteOmega,toNatUp,h];exact cr
  ·rw[if_neg (fun k=>h k.1),if_pos h];simp only[nW,ai,ae,aa,seval,iteOmega,toNatUp];exact cr
def jB (key:List UInt8):Int:=if key.length≠16 then 5 else 0
def eT (r n:Nat):Nat:=(n-r%n)%n
def eb (b:List UInt8) (n:Int):List UInt8:=if 1≤n∧n≤64 then b++List.replicate (eT b.length n.toNat) 0 else b
theorem AM (b:List UInt8) {n:Nat} (h:1≤n∧n≤64):eb b (n:Int)=b++List.replicate (eT b.length n) 0:=by
  unfold eb; rw[if_pos (by omega),Int.toNat_natCast]
theorem Ip (b:List UInt8) {n:Int} (h:¬ (1≤n∧n≤64)):eb b n=b:=if_neg h
theorem Iq (r:Nat) {n:Nat} (h:1≤n):eT r n<n:=Qw _ (by omega)
theorem JS (n:Nat):au 0 n=List.replicate n 0:=by
  unfold au;simp only[Nat.zero_div]
  induction n with
  | zero=>rfl
  | succ n ih=>rw[List.range_succ,P0,ih,List.replicate_succ']; rfl
theorem CZ (a b:Nat):Int.tmod (a:Int) (b:Int)=((a%b:Nat):Int):=rfl
def nX:aB:=⟨2,28,.seq (.reg [oO 4 (.mv (.k (.c .nil)))]) (.seq (.seq (.reg [oM 6 1,oO 7 (.bin .lss (.t 6) (kI 1)),oM 8 7,oG 9 (.mv (.t 1)) 8 false,oG 10 (.bin .gtr (.t 9) (kI 64)) 8 false,oO 11 (.pick (.t 8) (.k (.c (.d (.bool true)))) (.t 10))]) (.cond (.t 11) (.seq (.reg [oM 12 0,oO 13 (.bldSl false 1 1 (.sl []) [(0,(.t 12))]),oO 14 (.call 30 [(.t 13)] (some (0,1))),oM 4 14]) (.ret)) (.skip))) (.seq (.reg [oM 15 1,oM 16 0,oO 17 (.len (.t 16)),oM 18 1,oO 19 (.bin .rem (.t 17) (.t 18)),oO 20 (.bin .sub (.t 15) (.t 19)),oM 21 1,oO 22 (.bin .rem (.t 20) (.t 21)),oM 5 22]) (.seq (.reg [oM 23 0,oM 24 5,oO 25 (.call 71 [(.k (.c (.d (.int .u64 0)))),(.t 24)] none),oO 26 (.bldSl false 2 1 (.sl []) [(0,(.t 23)),(1,(.t 25))]),oO 27 (.call 30 [(.t 26)] (some (0,1))),oM 4 27]) (.ret)))),[(4,none)]⟩
theorem LM:aA Try.prog { own:=[14,27],comp:=[],frz:=[],nils:=[] } Try.f57=some nX:=by kernel_rfl
set_option maxHeartbeats 1600000 in
theorem tL (G:aj) (b:List UInt8) (n:Int) (hb:b.length≤70368744177664):ap Try.prog G 57 [.sl (b.map bD),.int .i64 n] (.w (.c (.fr 1 ((eb b n).map bD)))):=by
  refine aD Try.func57 LM rfl rfl ?_;by_cases hc:1≤n∧n≤64
  ·obtain⟨m,rfl⟩:=Qb (show 0≤n by omega);rw[AM b (by omega)];have hr:b.length%m<m:=Qw _ (by omega);have hk:eT b.length m=(m-b.length%m)%m:=rfl;have hlt:=Iq b.length (n:=m) (by omega);have e1:=CZ b.length m;have e2:Int.tmod ((m:Int)-((b.length%m:Nat):Int)) (m:Int)=((eT b.length m:Nat):Int):=by
     rw[show (m:Int)-((b.length%m:Nat):Int)=((m-b.length%m:Nat):Int) by omega,CZ,hk]
   have hm:((m:Int)=0)=False:=eq_false (by omega);have hp:=s5 G 0 (eT b.length m) (by omega);have hj:=dq G [b,au 0 (eT b.length m)] (by simp) (by simp[cL]; omega);have hf:[b,au 0 (eT b.length m)].flatten=b++List.replicate (eT b.length m) 0:=by rw[JS]; simp
   rw[hf] at hj;generalize eT b.length m=k at *
   simp only[nX,ai,ae,aa,seval,iteOmega,toNatUp,e1,e2,hm];refine sD (hp) ?_;refine sD (hj) ?_;exact fe
  ·rw[Ip b hc];have hj:=dq G [b] (by simp) (by simp; omega);have hf:[b].flatten=b:=by simp
   rw[hf] at hj;by_cases h1:n<1
   ·simp only[nX,ai,ae,aa,seval,iteOmega,toNatUp];refine sD (hj) ?_;exact fe
   ·have h2:64<n:=by omega
    simp only[nX,ai,ae,aa,seval,iteOmega,toNatUp];refine sD (hj) ?_;exact fe
def dG (b:List UInt8) (j:Nat):UInt8:=if j<15 then gO (cP (b.getD j 0) 1) (cQ (b.getD (j+1) 0) 7) else cP (b.getD j 0) 1
def fg (b:List UInt8):List UInt8:=(List.range 16).map (dG b)
theorem si (b:List UInt8):(fg b).length=16:=by simp[fg]
theorem sk (b:List UInt8) {j:Nat} (h:j<16):(fg b)[j]?=some (dG b j):=by simp[fg,h]
def l7 (b:List UInt8):UInt8:=gH (gI (b.getD 0 0) 7) 135
theorem Ir {b:List UInt8} (h:b.length=16):(fg b).set 15 (ak (dG b 15) (l7 b))=dk b:=by
  unfold dk;rw[if_pos h];apply QG;intro j;rw[List.getElem?_set];by_cases hj:j<16
  ·rw[nE _ hj];have hd:∀ k,aO b k=b.getD k 0:=fun _=>rfl
   by_cases h15:15=j
   ·subst h15;rw[if_pos rfl,if_pos (by rw[si]; decide)];simp only[dG,uj,hd,l7,Nat.lt_irrefl,if_false,if_true,xc]
   ·rw[if_neg h15,sk _ hj];have:j<15:=by omega
    simp only[dG,uj,hd,if_pos this,if_neg (show ¬ j=15 by omega),xc,LL]
  ·rw[if_neg (by omega),PS (by rw[si]; omega),PS (by rw[dK]; omega)]
theorem Is (b:List UInt8):aW .mul (.w (.c (.d (bD (cQ (b.getD 0 0) 7))))) (.w (.c (.d (.int .u8 135))))=some (bD (l7 b)):=by
  have key:=iR (p:=fun x=>(cQ x 7).toNat*135%256==(gH (gI x 7) 135).toNat) (by decide +kernel) (b.getD 0 0);rw[beq_iff_eq] at key
  show aT .mul .u8 _ .u8 _=_
  rw[rh,IntKind.wrap_u8];unfold l7 bD;rw[← key]
  congr 2
theorem It (x:UInt8):gO x 0=x:=by
  have key:=iR (p:=fun x=>gO x 0==x) (by decide +kernel) x;rw[beq_iff_eq] at key;exact key
theorem OV:bD 0=.int .u8 0:=rfl
def jG (b:List UInt8) (m:Nat):UInt8:=if m<16 then cQ (b.getD m 0) 7 else 0
theorem Iu (b:List UInt8) {q:Nat} (h:q<16):gO (cP (b.getD q 0) 1) (jG b (q+1))=dG b q:=by
  unfold jG dG;by_cases h2:q<15
  ·rw[if_pos (by omega),if_pos h2]
  ·rw[if_neg (by omega),if_neg h2,It]
theorem LN (b:List UInt8) {q:Nat} (h:q<16):cQ (b.getD q 0) 7=jG b q:=(if_pos h).symm
def fG (l:List UInt8) (m:Nat):List UInt8:=List.replicate m 0++l.drop m
theorem JU {l:List UInt8} {m:Nat} (h:m≤l.length):(fG l m).length=l.length:=by
  unfold fG; rw[Ph,Ps,Pp]; omega
theorem Iv (l:List UInt8):fG l 0=l:=by simp[fG]
theorem Iw {l:List UInt8} {m:Nat} (h:l.length=m):fG l m=List.replicate m 0:=by
  unfold fG; rw[P8 (by omega),PF]
theorem Ix {l:List UInt8} {q:Nat} (h:q<l.length):(fG l (q+1)).set q (l.getD q 0)=fG l q:=by
  unfold fG;rw[List.replicate_succ',Qg,List.set_append_right _ _ (by simp),Ps,Nat.sub_self,List.drop_eq_getElem_cons h,Pg,Pb h];rfl
def uk (b:List UInt8) (m:Nat):St:=⟨aU [(0,.w (.c (.d (.sl (b.map bD))))),(3,.w (.c (.own 1 1 0 16))),(4,.w (.c (.d (bD (jG b m))))),(5,.w (.c (.d (.int .i64 ((m:Int)-1)))))],hL [(1,.row 1 ((fG (fg b) m).map bD))],uL [1]⟩
theorem JV {b:List UInt8} (h:b.length≠16):dk b=[]:=if_neg h
def rx:aK := .seq (.seq (.reg [oM 10 5,oO 11 (.bin .geq (.t 10) (kI 0))]) (.cond (.t 11) (.skip) (.exit 0))) (.seq (.block 1 (.seq (.reg [oM 14 3,oM 15 5,oM 16 0,oM 17 5,oO 18 (.idxSl 1 (.t 16) (.t 17)),oO 19 (.load .sc (.t 18)),oO 20 (.bin .shl (.t 19) (.k (.c (.d (.int .u64 1))))),oM 21 4,oO 22 (.bin .or (.t 20) (.t 21)),oO 23 (.idxSl 1 (.t 14) (.t 15)),oN (.store .sc (.t 23) (.t 22))]) (.reg [oM 24 0,oM 25 5,oO 26 (.idxSl 1 (.t 24) (.t 25)),oO 27 (.load .sc (.t 26)),oO 28 (.bin .shr (.t 27) (.k (.c (.d (.int .u64 7))))),oM 4 28]))) (.reg [oM 12 5,oO 13 (.bin .sub (.t 12) (kI 1)),oM 5 13]))
def tj:aB:=⟨1,37,.seq (.reg [oO 2 (.mv (.k (.c .nil)))]) (.seq (.seq (.reg [oM 6 0,oO 7 (.len (.t 6)),oO 8 (.bin .neq (.t 7) (kI 16))]) (.cond (.t 8) (.seq (.reg [oO 2 (.mv (.k (.c .nil)))]) (.ret)) (.skip))) (.seq (.reg [oO 9 (.make true 1 1 (.int .u8 0) (kI 16) (kI 16)),oM 3 9]) (.seq (.reg [oO 4 (.mv (.k (.c (.d (.int .u8 0)))))]) (.seq (.seq (.reg [oO 5 (.mv (kI 15))]) (.block 0 (.loop rx))) (.seq (.reg [oM 29 3,oO 30 (.idxSl 1 (.t 29) (kI 15)),oO 31 (.load .sc (.t 30)),oM 32 4,oO 33 (.bin .mul (.t 32) (.k (.c (.d (.int .u8 135))))),oO 34 (.bin .xor (.t 31) (.t 33)),oO 35 (.idxSl 1 (.t 29) (kI 15)),oN (.store .sc (.t 35) (.t 34))]) (.seq (.reg [oM 36 3,oM 2 36]) (.ret))))))),[(2,none)]⟩
theorem LO:aA Try.prog { own:=[],comp:=[],frz:=[],nils:=[] } Try.f99=some tj:=by kernel_rfl
theorem oH (G:aj) (b:List UInt8) (hb:b.length≤9223372036854775807):ap Try.prog G 99 [.sl (b.map bD)] (.w (.c (.fr 1 ((dk b).map bD)))):=by
  refine aD Try.func99 LO rfl rfl ?_;by_cases h:b.length=16
  ·have hd:=Ir h;have hl:=si b;simp only[tj,ai,ae,aa,seval,iteOmega,toNatUp,h,eh];refine bp (uk b) (fun m=>m) (fun m=>m≤16) 16 (Pn _) ?_ ?_
   ·have e1:fG (fg b) 16=aV 16 0:=Iw hl;have e2:jG b 16=0:=rfl;refine aF (fun i=>72) ?_ ?_ rfl rfl <;> simp only[wx,aG,aP,aa,seval,iteOmega,toNatUp,e1,e2,OV]
   ·intro m hm;rcases m with _ | q
    ·have e0:=Iv (fg b);have c0:jG b 0=cQ (b.getD 0 0) 7:=rfl;have x1:=Is b;have g1:=sk b (j:=15) (by decide);have x2:=eP (dG b 15) (l7 b);have h3:15<(fg b).length:=by omega
     have hdl:(dk b).length=16:=jd h;simp only[rx,uk,e0,c0,QT,Int.zero_sub,ae,aa,seval,iteOmega,toNatUp,aY,g1,x1,x2,fv h3 (eC _),fS,hd];exact dY (id:=1) (n:=16) (s:=1) (by simp only[wx,aa,seval,iteOmega,toNatUp]) (by simp only[wx,aa,seval,iteOmega,toNatUp]) (by simp[hdl])
    ·have hq:q<16:=by omega
     have g1:b[q]?=some (b.getD q 0):=cT (by omega);have hl1:=JU (l:=fg b) (m:=q+1) (by omega);have h3:q<(fG (fg b) (q+1)).length:=by omega
     have x1:=CK (b.getD q 0) .u64 1 1 rfl (by decide);have x2:=rl (cP (b.getD q 0) 1) (jG b (q+1));have x3:=CJ (b.getD q 0) .u64 7 7 rfl (by decide);have c1:=Iu b hq;have c2:=LN b hq;have hs:=Ix (l:=fg b) (q:=q) (by omega);have hg:(fg b).getD q 0=dG b q:=by rw[Pg,sk b hq]; rfl
     rw[hg] at hs;have sub:((q:Int)+1-1)=(q:Int):=by omega
     simp only[rx,uk,ae,aa,seval,iteOmega,toNatUp,sub,aY,g1,x1,x2,x3,c1,c2,h,fv h3 (eC _),fS,hs];refine bd q (by omega) (by omega) (aF (fun i=>i) ?_ ?_ rfl rfl) <;> simp only[wx,aG,aP,aa,seval,iteOmega,toNatUp]
  ·rw[JV h];simp only[tj,ai,ae,aa,seval,iteOmega,toNatUp];exact fe
def iC (a b:List UInt8) (j:Nat):UInt8:=ak (a.getD j 0) (b.getD j 0)
theorem JW {a b:List UInt8} {n:Nat} (ha:a.length=n) (hb:b.length=n):(List.range n).map (iC a b)=bJ a b:=by
  apply QG;intro j;by_cases hj:j<n
  ·have:=zd a b j (by omega) (by omega);have hl:j<(bJ a b).length:=by rw[fm]; omega
   rw[cT hl,this];simp[hj,iC]
  ·rw[PS (by simpa using hj),PS (by rw[fm]; omega)]
def tM (a b:List UInt8) (i:Nat):St:=⟨aU [(0,.w (.c (.d (.sl (a.map bD))))),(1,.w (.c (.d (.sl (b.map bD))))),(5,.w (.c (.own 1 1 0 16))),(9,.w (.c (.d (.int .i64 16)))),(10,.w (.c (.d (.int .i64 (i:Int)))))],hL [(1,.row 1 ((a9 (iC a b) (aV 16 0) i).map bD))],uL [1]⟩
def ry:aK := .seq (.reg [oO 11 (.bin .lss (.t 10) (.t 9))]) (.seq (.cond (.t 11) (.skip) (.exit 0)) (.seq (.block 1 (.seq (.reg [oM 12 10,oM 6 12]) (.reg [oM 13 5,oM 14 6,oM 15 0,oM 16 6,oO 17 (.idxSl 1 (.t 15) (.t 16)),oO 18 (.load .sc (.t 17)),oM 19 1,oM 20 6,oO 21 (.idxSl 1 (.t 19) (.t 20)),oO 22 (.load .sc (.t 21)),oO 23 (.bin .xor (.t 18) (.t 22)),oO 24 (.idxSl 1 (.t 13) (.t 14)),oN (.store .sc (.t 24) (.t 23))]))) (.reg [oO 25 (.bin .add (.t 10) (kI 1)),oM 10 25])))
def C0:aB:=⟨2,27,.seq (.reg [oO 4 (.mv (.k (.c .nil)))]) (.seq (.reg [oO 7 (.make true 1 1 (.int .u8 0) (kI 16) (kI 16)),oM 5 7]) (.seq (.seq (.reg [oM 8 5,oO 9 (.len (.t 8)),oO 10 (.mv (kI 0))]) (.block 0 (.loop ry))) (.seq (.reg [oM 26 5,oM 4 26]) (.ret)))),[(4,none)]⟩
theorem LP:aA Try.prog { own:=[],comp:=[],frz:=[],nils:=[] } Try.f101=some C0:=by kernel_rfl
theorem jt (G:aj) (a b:List UInt8) (ha:a.length=16) (hb:b.length=16):ap Try.prog G 101 [.sl (a.map bD),.sl (b.map bD)] (.w (.c (.fr 1 ((bJ a b).map bD)))):=by
  refine aD Try.func101 LP rfl rfl ?_;have zl:(aV 16 (0:UInt8)).length=16:=bL _ _;simp only[C0,ai,ae,aa,seval,iteOmega,toNatUp,eh];refine bp (tM a b) (fun i=>16-i) (fun i=>i≤16) 0 (Pu _) ?_ ?_
  ·have e1:=lu (iC a b) (aV 16 0);refine aF (fun i=>56) ?_ ?_ rfl rfl <;> simp only[wx,aG,aP,aa,seval,iteOmega,toNatUp,e1]
  ·intro i hi;by_cases hlt:i<16
   ·have g1:a[i]?=some (a.getD i 0):=cT (by omega);have g2:b[i]?=some (b.getD i 0):=cT (by omega);have hl1:=j4 (iC a b) (aV 16 0) (i:=i) (by omega);have h3:i<(a9 (iC a b) (aV 16 0) i).length:=by omega
    have x1:=eP (a.getD i 0) (b.getD i 0);have hx:ak (a.getD i 0) (b.getD i 0)=iC a b i:=rfl;have hs:=lv (iC a b) (aV 16 0) (i:=i) (by omega);simp only[ry,tM,ae,aa,seval,iteOmega,toNatUp,aY,g1,g2,x1,ha,hb,fv h3 (eC _),fS,hx,hs];refine bd (i+1) (by omega) (by omega) (aF (fun i=>i) ?_ ?_ rfl rfl) <;> simp only[wx,aG,aP,aa,seval,iteOmega,toNatUp]
   ·obtain rfl:i=16:=by omega
    have e1:a9 (iC a b) (aV 16 0) 16=bJ a b:=by rw[y7 _ _ (by rw[bL]; decide),JW ha hb]
    have hl:(bJ a b).length=16:=by rw[fm]; exact ha
    simp only[ry,tM,e1,ae,aa,seval,iteOmega,toNatUp];exact dY (id:=1) (n:=16) (s:=1) (by simp only[wx,aa,seval,iteOmega,toNatUp]) (by simp only[wx,aa,seval,iteOmega,toNatUp]) (by simp[hl])
theorem AO {key b:List UInt8} (h:key.length=16) (hb:b.length=16):pv key b=cR (aw key) b:=if_pos ⟨h,hb⟩
theorem AP {key b:List UInt8} (h:key.length=16) (hb:b.length=16):l6 key b=0:=by unfold l6; rw[if_neg (by omega),if_neg (by omega)]
theorem JX (b:List UInt8):eb b 16=fB b:=rfl
def dR (key:List UInt8):D:=.agg [.sl (key.map bD),.sl ((fC (aw key)).map bD),.sl ((il (aw key)).map bD)]
def mg (key:List UInt8):D:=if key.length=16 then dR key else .agg [.sl [],.sl [],.sl []]
theorem D9 (s:Nat) (l:List UInt8) (k:IntKind) (n:Int):V.flat (.tup [.c (.fr s (l.map bD)),.c (.d (.int k n))])=true:=by
  have:=l3 s l;simp only[V.flat,W.flat,QM,List.all_nil,QN] at this ⊢;rw[this]; rfl
def AQ:aB:=⟨2,15,.seq (.reg [oO 2 (.box .roBox (.t 0)),oO 4 (.mv (.k (.c .nil)))]) (.seq (.reg [oO 8 (.fieldAddr 0 (.t 2)),oO 9 (.load .sc (.t 8)),oM 10 1,oO 11 (.call 98 [(.t 9),(.t 10)] (some (0,1))),oM 7 11,oO 12 (.extract (.t 7) 0),oO 13 (.extract (.t 7) 1),oM 5 12,oM 6 13]) (.seq (.reg [oM 14 5,oM 4 14]) (.ret))),[(4,none)]⟩
theorem JY:aA Try.prog { own:=[],comp:=[(11,0)],frz:=[],nils:=[] } Try.f104=some AQ:=by kernel_rfl
theorem C1 (G:aj) (key b:List UInt8) (h:key.length=16) (hb:b.length=16):ap Try.prog G 104 [.agg [.sl (key.map bD)],.sl (b.map bD)] (.w (.c (.fr 1 ((cR (aw key) b).map bD)))):=by
  refine aD Try.func104 JY rfl rfl ?_;have hx:=tK G key b (by omega) (by omega);rw[AO h hb,AP h hb] at hx;simp only[AQ,ai,ae,aa,seval,iteOmega,toNatUp];refine sD (hx) ?_;exact fe
theorem LQ (G:aj) (key b:List UInt8) (h:key.length=16) (hb:b.length=16):ap Try.prog G 104 [.agg [.sl (key.map bD)],.sl (b.map bD)] (.w (.c (.d (.sl ((cR (aw key) b).map bD))))):=jj (C1 G key b h hb)
def sq:aB:=⟨1,25,.seq (.reg [oO 2 (.alloc [.nil,.nil,.nil]),oO 3 (.mv (kI 0))]) (.seq (.reg [oM 8 0,oO 9 (.make true 1 1 (.int .u8 0) (kI 16) (kI 16)),oO 10 (.call 98 [(.t 8),(.t 9)] none),oM 7 10,oO 11 (.extract (.t 7) 0),oO 12 (.extract (.t 7) 1),oM 4 11,oM 5 12]) (.seq (.seq (.reg [oM 13 5,oO 14 (.bin .neq (.t 13) (kI 0))]) (.cond (.t 14) (.seq (.reg [oO 15 (.build [.nil,.nil,.nil] []),oM 16 5,oN (.store (.ag 3) (.t 2) (.t 15)),oM 3 16]) (.ret)) (.skip))) (.seq (.reg [oM 17 4,oO 18 (.call 99 [(.t 17)] none),oM 6 18]) (.seq (.reg [oM 19 0,oO 20 (.build [.nil] [(0,1,(.t 19))]),oM 21 6,oM 22 6,oO 23 (.call 99 [(.t 22)] none),oO 24 (.build [.nil,.nil,.nil] [(0,1,(.t 20)),(1,1,(.t 21)),(2,1,(.t 23))]),oN (.store (.ag 3) (.t 2) (.t 24)),oO 3 (.mv (kI 0))]) (.ret))))),[(2,(some (.ag 3))),(3,none)]⟩
theorem JZ:aA Try.prog { own:=[],comp:=[],frz:=[],nils:=[] } Try.f89=some sq:=by kernel_rfl
theorem LR (G:aj) (key:List UInt8) (hk:key.length≤9223372036854775807):ap Try.prog G 89 [.sl (key.map bD)] (.tup [.c (.d (mg key)),.c (.d (.int .i64 (jB key)))]):=by
  refine aD Try.func89 JZ rfl rfl ?_;have t0:(aV 16 (0:UInt8)).take 16=dL:=rfl;by_cases h:key.length=16
  ·have hx:=tK G key dL (by omega) (by decide);rw[AO h (by decide),AP h (by decide)] at hx;have hv:mg key=dR key:=if_pos h;have he:jB key=0:=by unfold jB; rw[if_neg (by omega)]
   have h1:=oH G (cR (aw key) dL) (by rw[fM]; decide);have h2:=oH G (fC (aw key)) (by rw[rv]; decide);have s1:dk (cR (aw key) dL)=fC (aw key):=rfl;have s2:dk (fC (aw key))=il (aw key):=rfl;rw[s1] at h1;rw[s2] at h2;rw[hv,he];simp only[sq,ai,ae,aa,seval,iteOmega,toNatUp,eh];refine bO hx (by simp only[ae,aa,seval,iteOmega,toNatUp,dw,t0,bL]) (.inr (D9 _ _ _ _)) ?_;simp only[ae,aa,seval,iteOmega,toNatUp];refine sD (h1) ?_;refine sD (h2) ?_;exact sX (by simp only[ae,aa,seval,iteOmega,toNatUp,dR]) (by simp only[ae,aa,seval,iteOmega,toNatUp])
  ·have hv:mg key=.agg [.sl [],.sl [],.sl []]:=if_neg h;have he:jB key=5:=if_pos h;have hx:=tK G key dL (by omega) (by decide);have v1:pv key dL=[]:=if_neg (fun k=>h k.1);have v2:l6 key dL=5:=if_pos h;rw[v1,v2] at hx;rw[hv,he];simp only[sq,ai,ae,aa,seval,iteOmega,toNatUp,eh];refine bO hx (by simp only[ae,aa,seval,iteOmega,toNatUp,dw,t0,bL]) (.inr (D9 _ _ _ _)) ?_;simp only[ae,aa,seval,iteOmega,toNatUp];exact dp
def AR:aB:=⟨1,8,.seq (.reg [oO 2 (.mv (.k (.c .nil)))]) (.seq (.reg [oM 3 0,oO 4 (.bldSl false 1 1 (.int .u8 0) [(0,(.k (.c (.d (.int .u8 128)))))]),oO 5 (.bldSl false 2 1 (.sl []) [(0,(.t 3)),(1,(.t 4))]),oO 6 (.call 30 [(.t 5)] none),oO 7 (.call 57 [(.t 6),(kI 16)] none),oM 2 7]) (.ret)),[(2,none)]⟩
theorem J0:aA Try.prog { own:=[],comp:=[],frz:=[],nils:=[] } Try.f106=some AR:=by kernel_rfl
theorem C3 (G:aj) (b:List UInt8) (hb:b.length≤70000):ap Try.prog G 106 [.sl (b.map bD)] (.w (.c (.d (.sl ((fB (b++[128])).map bD))))):=by
  refine aD Try.func106 J0 rfl rfl ?_;have hj:=dq G [b,[128]] (by simp) (by simp; omega);have hf:[b,[128]].flatten=b++[128]:=by simp
  rw[hf] at hj;have hp:=tL G (b++[128]) 16 (by simp; omega);rw[JX] at hp;simp only[AR,ai,ae,aa,seval,iteOmega,toNatUp];refine sD (hj) ?_;refine sD (hp) ?_;exact aI
theorem GU (rk:List UInt8) {e:List UInt8} (h:e.length=16):im rk e=bJ e (fC rk):=if_pos h
theorem GV (rk:List UInt8) {e:List UInt8} (h:e.length≠16):im rk e=bJ (fB (e++[128])) (il rk):=if_neg h
def rz:aB:=⟨2,17,.seq (.reg [oO 2 (.box .roBox (.t 0)),oO 4 (.mv (.k (.c .nil)))]) (.seq (.seq (.reg [oM 5 1,oO 6 (.len (.t 5)),oO 7 (.bin .eql (.t 6) (kI 16))]) (.cond (.t 7) (.seq (.reg [oM 8 1,oO 9 (.fieldAddr 1 (.t 2)),oO 10 (.load .sc (.t 9)),oO 11 (.call 101 [(.t 8),(.t 10)] none),oM 4 11]) (.ret)) (.skip))) (.seq (.reg [oM 12 1,oO 13 (.call 106 [(.t 12)] none),oO 14 (.fieldAddr 2 (.t 2)),oO 15 (.load .sc (.t 14)),oO 16 (.call 101 [(.t 13),(.t 15)] none),oM 4 16]) (.ret))),[(4,none)]⟩
theorem Iy:aA Try.prog { own:=[],comp:=[],frz:=[],nils:=[] } Try.f105=some rz:=by kernel_rfl
theorem J1 (G:aj) (key b:List UInt8) (hb:b.length≤16):ap Try.prog G 105 [dR key,.sl (b.map bD)] (.w (.c (.d (.sl ((im (aw key) b).map bD))))):=by
  refine aD Try.func105 Iy rfl rfl ?_;by_cases h:b.length=16
  ·rw[GU _ h];simp only[rz,ai,dR,ae,aa,seval,iteOmega,toNatUp,h];refine sD (jt G b (fC (aw key)) h (rv _)) ?_;exact aI
  ·rw[GV _ h];simp only[rz,ai,dR,ae,aa,seval,iteOmega,toNatUp];refine sD (C3 G b (by omega)) ?_;refine sD (jt G (fB (b++[128])) (il (aw key)) (qn (by omega)) (Il _)) ?_;exact aI
def i5 (key b:List UInt8):Nat→V
  | 0=>.w (.c (.own 1 1 0 16))
  | i+1=>.w (.c (.d (.sl ((eI (aw key) b (i+1)).map bD))))
def lT (key b:List UInt8) (i:Nat):St:=⟨aU [(1,.w (.c (.d (.sl ((b.drop (16*i)).map bD))))),(2,.w (.c (.rp [.sl (key.map bD),.sl ((fC (aw key)).map bD),.sl ((il (aw key)).map bD)]))),(5,i5 key b i)],hL [(1,.row 1 ((aV 16 (0:UInt8)).map bD))],uL [1]⟩
theorem LS (b:List UInt8) (i:Nat):((b.drop (16*i)).drop 16).take ((b.drop (16*i)).length-16)=b.drop (16*(i+1)):=by
  rw[List.drop_drop,Pk (by simp only[Pp]; omega)]; rfl
def lj:aK := .seq (.seq (.reg [oM 7 1,oO 8 (.len (.t 7)),oO 9 (.bin .gtr (.t 8) (kI 16))]) (.cond (.t 9) (.skip) (.exit 0))) (.block 1 (.seq (.reg [oO 10 (.fieldAddr 0 (.t 2)),oO 11 (.load (.ag 1) (.t 10)),oM 12 5,oM 13 1,oO 14 (.slice 1 (.t 13) none (some (kI 16)) none),oO 15 (.call 101 [(.t 12),(.t 14)] none),oO 16 (.call 104 [(.t 11),(.t 15)] none),oM 5 16]) (.reg [oM 17 1,oO 18 (.slice 1 (.t 17) (some (kI 16)) none none),oM 1 18])))
def AS:aB:=⟨2,27,.seq (.reg [oO 2 (.box .roBox (.t 0)),oO 4 (.mv (.k (.c .nil)))]) (.seq (.reg [oO 6 (.make true 1 1 (.int .u8 0) (kI 16) (kI 16)),oM 5 6]) (.seq (.block 0 (.loop lj)) (.seq (.reg [oO 19 (.fieldAddr 0 (.t 2)),oO 20 (.load (.ag 1) (.t 19)),oM 21 5,oO 22 (.load (.ag 3) (.t 2)),oM 23 1,oO 24 (.call 105 [(.t 22),(.t 23)] none),oO 25 (.call 101 [(.t 21),(.t 24)] none),oO 26 (.call 104 [(.t 20),(.t 25)] (some (0,1))),oM 4 26]) (.ret)))),[(4,none)]⟩
theorem J2:aA Try.prog { own:=[26],comp:=[],frz:=[],nils:=[] } Try.f100=some AS:=by kernel_rfl
theorem nY (G:aj) (key b:List UInt8) (h:key.length=16) (hb:b.length≤70000):ap Try.prog G 100 [dR key,.sl (b.map bD)] (.w (.c (.fr 1 ((e9 (aw key) b).map bD)))):=by
  refine aD Try.func100 J2 rfl rfl ?_;have t0:(aV 16 (0:UInt8)).take 16=dL:=rfl;have hah:jl b=(b.length+15) / 16-1:=rfl;have hm:∀ i,i=jl b→e9 (aw key) b=cR (aw key) (bJ (eI (aw key) b i) (im (aw key) (b.drop (16*i)))):=fun i e=>by rw[e]; rfl
  simp only[AS,ai,dR,ae,aa,seval,iteOmega,toNatUp,eh];refine bp (lT key b) (fun i=>jl b-i) (fun i=>i≤jl b) 0 (Pu _) ?_ ?_
  ·refine aF (fun i=>48) ?_ ?_ rfl rfl <;> simp only[wx,aG,aP,aa,seval,iteOmega,toNatUp,i5]
  ·intro i hi;have hcl:(b.drop (16*i)).length=b.length-16*i:=Pp;have hdr:=LS b i;by_cases hlt:i<jl b
   ·have hT:((b.drop (16*i)).take 16).length=16:=by rw[Pl]; omega
    have hstep:cR (aw key) (bJ (eI (aw key) b i) ((b.drop (16*i)).take 16))=eI (aw key) b (i+1):=rfl;have h1:=jt G (eI (aw key) b i) ((b.drop (16*i)).take 16) (nj _ _ _) hT;have h2:=LQ G key (bJ (eI (aw key) b i) ((b.drop (16*i)).take 16)) h (by rw[fm,nj]);rw[hstep] at h2;rcases i with _ | i
    ·have hz:eI (aw key) b 0=dL:=rfl;rw[hz] at h1 h2;simp only[Nat.mul_zero,QQ,Qj,Qn] at hdr;simp only[lj,lT,i5,ae,aa,seval,iteOmega,toNatUp];refine bO h1 (by simp only[ae,aa,seval,iteOmega,toNatUp,dw,t0,bL]) (.inr (l3 _ _)) ?_;simp only[ae,aa,seval,iteOmega,toNatUp];refine sC (h2) ?_;simp only[hdr,ae,aa,seval,iteOmega,toNatUp];refine bd (0+1) (by omega) (by omega) (aF (fun i=>i) ?_ ?_ rfl rfl) <;> simp only[wx,aG,aP,aa,seval,iteOmega,toNatUp,i5]
    ·simp only[lj,lT,i5,ae,aa,seval,iteOmega,toNatUp];refine sD (h1) ?_;refine sC (h2) ?_;simp only[hdr,ae,aa,seval,iteOmega,toNatUp];refine bd (i+1+1) (by omega) (by omega) (aF (fun i=>i) ?_ ?_ rfl rfl) <;> simp only[wx,aG,aP,aa,seval,iteOmega,toNatUp,i5]
   ·rw[hm i (by omega)];have hl16:(b.drop (16*i)).length≤16:=by omega
    have h1:=J1 G key (b.drop (16*i)) hl16;have h2:=jt G (eI (aw key) b i) (im (aw key) (b.drop (16*i))) (nj _ _ _) (Im hl16);have h3:=C1 G key (bJ (eI (aw key) b i) (im (aw key) (b.drop (16*i)))) h (by rw[fm,nj]);rcases i with _ | i
    ·have hz:eI (aw key) b 0=dL:=rfl;rw[hz] at h2 h3 ⊢;simp only[lj,lT,i5,ae,aa,seval,iteOmega,toNatUp];refine sD (h1) ?_;refine bO h2 (by simp only[ae,aa,seval,iteOmega,toNatUp,dw,t0,bL]) (.inr (l3 _ _)) ?_;simp only[ae,aa,seval,iteOmega,toNatUp];refine sD (h3) ?_;exact fe
    ·simp only[lj,lT,i5,ae,aa,seval,iteOmega,toNatUp];refine sD (h1) ?_;refine sD (h2) ?_;refine sD (h3) ?_;exact fe
theorem LU (G:aj) (key b:List UInt8) (h:key.length=16) (hb:b.length≤70000):ap Try.prog G 100 [dR key,.sl (b.map bD)] (.w (.c (.d (.sl ((e9 (aw key) b).map bD))))):=jj (nY G key b h hb)
def sr:aB:=⟨2,26,.seq (.reg [oO 4 (.mv (.k (.c .nil)))]) (.seq (.reg [oM 6 0,oO 7 (.len (.t 6)),oO 8 (.bin .sub (.t 7) (kI 16)),oM 5 8]) (.seq (.seq (.reg [oM 9 5,oO 10 (.bin .lss (.t 9) (kI 0))]) (.cond (.t 10) (.seq (.reg [oM 11 1,oO 12 (.call 99 [(.t 11)] none),oM 13 0,oO 14 (.call 106 [(.t 13)] none),oO 15 (.call 101 [(.t 12),(.t 14)] none),oM 4 15]) (.ret)) (.skip))) (.seq (.reg [oM 16 0,oM 17 5,oO 18 (.slice 1 (.t 16) none (some (.t 17)) none),oM 19 0,oM 20 5,oO 21 (.slice 1 (.t 19) (some (.t 20)) none none),oM 22 1,oO 23 (.call 101 [(.t 21),(.t 22)] none),oO 24 (.bldSl false 2 1 (.sl []) [(0,(.t 18)),(1,(.t 23))]),oO 25 (.call 30 [(.t 24)] none),oM 4 25]) (.ret)))),[(4,none)]⟩
theorem J3:aA Try.prog { own:=[],comp:=[],frz:=[],nils:=[] } Try.f102=some sr:=by kernel_rfl
theorem LV (G:aj) (s d:List UInt8) (hs:s.length≤70000) (hd:d.length=16):ap Try.prog G 102 [.sl (s.map bD),.sl (d.map bD)] (.w (.c (.d (.sl ((if 16≤s.length then s.take (s.length-16)++bJ (s.drop (s.length-16)) d else bJ (dk d) (fB (s++[128]))).map bD))))):=by
  refine aD Try.func102 J3 rfl rfl ?_;by_cases h:16≤s.length
  ·rw[if_pos h];have hl:(s.drop (s.length-16)).length=16:=by rw[Pp]; omega
   have ht:(s.drop (s.length-16)).take (s.length-(s.length-16))=s.drop (s.length-16):=Pk (by omega);have hj:=dq G [s.take (s.length-16),bJ (s.drop (s.length-16)) d] (by simp) (by simp[fm]; omega);have hf:[s.take (s.length-16),bJ (s.drop (s.length-16)) d].flatten=s.take (s.length-16)++bJ (s.drop (s.length-16)) d:=by simp
   rw[hf] at hj;have e1:(((s.length:Int)-16).toNat)=s.length-16:=by omega
   simp only[sr,ai,ae,aa,seval,iteOmega,toNatUp,e1,ht];refine sD (jt G (s.drop (s.length-16)) d hl hd) ?_;refine sD (hj) ?_;exact aI
  ·rw[if_neg h];simp only[sr,ai,ae,aa,seval,iteOmega,toNatUp];refine sD (oH G d (by omega)) ?_;refine sD (C3 G s (by omega)) ?_;refine sD (jt G (dk d) (fB (s++[128])) (jd hd) (qn (by omega))) ?_;exact aI
def tN (key:List UInt8) (l:List (List UInt8)) (i:Nat):St:=⟨aU [(1,.w (.c (.d (.sl (l.map fun l=>D.sl (l.map bD)))))),(2,.w (.c (.rp [.sl (key.map bD),.sl ((fC (aw key)).map bD),.sl ((il (aw key)).map bD)]))),(5,.w (.c (.d (.sl ((fa (aw key) l i).map bD))))),(6,.w (.c (.d (.int .i64 ((l.length:Int)-1))))),(23,.w (.c (.d (.sl ((l.take (l.length-1)).map fun l=>D.sl (l.map bD)))))),(24,.w (.c (.d (.int .i64 ((l.length:Int)-1))))),(25,.w (.c (.d (.int .i64 (i:Int)))))],hL [(1,.row 1 ((aV 16 (0:UInt8)).map bD))],uL [1]⟩
theorem GX (rk:List UInt8) {l:List (List UInt8)} (h:l.length=0):fY rk l=e9 rk (au 1 16):=by
  unfold fY; rw[if_pos h]; congr 1
theorem GY (rk:List UInt8) {l:List (List UInt8)} (h:l.length≠0):fY rk l=e9 rk (if 16≤(l.getD (l.length-1) []).length then (l.getD (l.length-1) []).take ((l.getD (l.length-1) []).length-16)++bJ ((l.getD (l.length-1) []).drop ((l.getD (l.length-1) []).length-16)) (fa rk l (l.length-1)) else bJ (dk (fa rk l (l.length-1))) (fB (l.getD (l.length-1) []++[128]))):=by
  unfold fY; rw[if_neg h]; dsimp only; split <;> rfl
theorem su {l:List (List UInt8)} {j:Nat} (h:j<l.length):l[j]?=some (l.getD j []):=by
  rw[Pg,Pb h]; rfl
theorem nl {l:List (List UInt8)} {j:Nat} (h:j<l.length):l.getD j []∈l:=by
  rw[Pg,Pb h]; exact PI h
def qL:aK := .seq (.reg [oO 26 (.bin .lss (.t 25) (.t 24))]) (.seq (.cond (.t 26) (.skip) (.exit 0)) (.seq (.block 1 (.seq (.reg [oO 27 (.idxSl 1 (.t 23) (.t 25)),oO 28 (.load .sc (.t 27)),oM 8 28]) (.reg [oM 29 5,oO 30 (.call 99 [(.t 29)] none),oO 31 (.load (.ag 3) (.t 2)),oM 32 8,oO 33 (.call 100 [(.t 31),(.t 32)] none),oO 34 (.call 101 [(.t 30),(.t 33)] none),oM 5 34]))) (.reg [oO 35 (.bin .add (.t 25) (kI 1)),oM 25 35])))
def sw:aB:=⟨2,44,.seq (.reg [oO 2 (.box .roBox (.t 0)),oO 4 (.mv (.k (.c .nil)))]) (.seq (.seq (.reg [oM 9 1,oO 10 (.len (.t 9)),oO 11 (.bin .eql (.t 10) (kI 0))]) (.cond (.t 11) (.seq (.reg [oO 12 (.load (.ag 3) (.t 2)),oO 13 (.call 71 [(.k (.c (.d (.int .u64 1)))),(kI 16)] none),oO 14 (.call 100 [(.t 12),(.t 13)] (some (0,1))),oM 4 14]) (.ret)) (.skip))) (.seq (.reg [oO 15 (.load (.ag 3) (.t 2)),oO 16 (.make true 1 1 (.int .u8 0) (kI 16) (kI 16)),oO 17 (.call 100 [(.t 15),(.t 16)] none),oM 5 17]) (.seq (.reg [oM 18 1,oO 19 (.len (.t 18)),oO 20 (.bin .sub (.t 19) (kI 1)),oM 6 20]) (.seq (.seq (.reg [oM 21 1,oM 22 6,oO 23 (.slice 1 (.t 21) none (some (.t 22)) none),oO 24 (.len (.t 23)),oO 25 (.mv (kI 0))]) (.block 0 (.loop qL))) (.seq (.reg [oO 36 (.load (.ag 3) (.t 2)),oM 37 1,
 oM 38 6,oO 39 (.idxSl 1 (.t 37) (.t 38)),oO 40 (.load .sc (.t 39)),oM 41 5,oO 42 (.call 102 [(.t 40),(.t 41)] none),oO 43 (.call 100 [(.t 36),(.t 42)] (some (0,1))),oM 4 43]) (.ret)))))),[(4,none)]⟩
theorem J4:aA Try.prog { own:=[14,43],comp:=[],frz:=[],nils:=[] } Try.f90=some sw:=by kernel_rfl
theorem LW (G:aj) (key:List UInt8) (l:List (List UInt8)) (h:key.length=16) (hl:l.length≤17) (hb:∀ x∈l,x.length≤65535):ap Try.prog G 90 [dR key,.sl (l.map fun l=>D.sl (l.map bD))] (.w (.c (.fr 1 ((fY (aw key) l).map bD)))):=by
  refine aD Try.func90 J4 rfl rfl ?_;have t0:(aV 16 (0:UInt8)).take 16=dL:=rfl;by_cases h0:l.length=0
  ·rw[GX _ h0];simp only[sw,ai,dR,ae,aa,seval,iteOmega,toNatUp,h0];refine sD (s5 G 1 16 (by decide)) ?_;refine sD (nY G key (au 1 16) h (by rw[cL]; decide)) ?_;exact fe
  ·rw[GY _ h0];have e1:(((l.length:Int)-1).toNat)=l.length-1:=by omega
   have e2:(l.take (l.length-1)).length=l.length-1:=by rw[Pl]; omega
   have e3:((l.length-1:Nat):Int)=(l.length:Int)-1:=by omega
   simp only[sw,ai,dR,ae,aa,seval,iteOmega,toNatUp,eh];refine bO (nY G key dL h (by decide)) (by simp only[ae,aa,seval,iteOmega,toNatUp,dw,t0,bL,dR]) (.inr (l3 _ _)) ?_;simp only[ae,aa,seval,iteOmega,toNatUp,e1,e2,e3,iG];refine bp (tN key l) (fun i=>l.length-1-i) (fun i=>i≤l.length-1) 0 (Pu _) ?_ ?_
   ·refine aF (fun i=>128) ?_ ?_ rfl rfl <;> simp only[wx,aG,aP,aa,seval,iteOmega,toNatUp,fa,e2,e3]
   ·intro i hi;have hd:=ze (aw key) l i;by_cases hlt:i<l.length-1
    ·have g1:(l.take (l.length-1))[i]?=some (l.getD i []):=by rw[PC,if_pos hlt,su (by omega)]
     have hx:=hb _ (nl (l:=l) (j:=i) (by omega));have hs:bJ (dk (fa (aw key) l i)) (e9 (aw key) (l.getD i []))=fa (aw key) l (i+1):=rfl;have h1:=oH G (fa (aw key) l i) (by omega);have h2:=LU G key (l.getD i []) h (by omega);have h3:=jt G (dk (fa (aw key) l i)) (e9 (aw key) (l.getD i [])) (jd hd) (nk _ _);rw[hs] at h3;simp only[qL,tN,ae,aa,seval,iteOmega,toNatUp,aY,g1,e2,e3];refine sD (h1) ?_;refine sD (h2) ?_;refine sD (h3) ?_;refine bd (i+1) (by omega) (by omega) (aF (fun i=>i) ?_ ?_ rfl rfl) <;> simp only[wx,aG,aP,aa,seval,iteOmega,toNatUp]
    ·obtain rfl:i=l.length-1:=by omega
     have g1:l[l.length-1]?=some (l.getD (l.length-1) []):=su (by omega);have hx:=hb _ (nl (l:=l) (j:=l.length-1) (by omega));have h1:=LV G (l.getD (l.length-1) []) (fa (aw key) l (l.length-1)) (by omega) hd;have hcl:∀ s d:List UInt8,s.length≤65535→d.length=16→(if 16≤s.length then s.take (s.length-16)++bJ (s.drop (s.length-16)) d else bJ (dk d) (fB (s++[128]))).length≤70000:=by
       intro s d h1 h2;split
       ·rw[Ph,fm,← Ph,P1]; omega
       ·rw[fm,jd h2]; decide
     have h2:=nY G key _ h (hcl _ _ hx hd);simp only[qL,tN,ae,aa,seval,iteOmega,toNatUp,aY,g1,e1,e3];refine sD (h1) ?_;refine sD (h2) ?_;exact fe
def gB (l:List (List UInt8)):Bool:=l.any fun x=>decide (65535<x.length)
def px (key:List UInt8) (l:List (List UInt8)):Int:=if key.length≠16 then 5 else if 17<l.length then 8 else if gB l=true then 2 else 0
def um (key:List UInt8) (l:List (List UInt8)):List UInt8:=if key.length=16∧l.length≤17∧gB l=false then fY (aw key) l else []
theorem Iz {l:List (List UInt8)} (h:∀ j,j<l.length→(l.getD j []).length≤65535):gB l=false:=by
  unfold gB;rw[Qr];intro x hx;obtain⟨j,hj,rfl⟩:=PK hx;have:=h j hj;rw[Pg,Pb hj] at this
  simpa using this
theorem GZ {l:List (List UInt8)} {j:Nat} (hj:j<l.length) (h:65535<(l.getD j []).length):gB l=true:=by
  unfold gB;rw[List.any_eq_true];exact⟨_,nl hj,decide_eq_true h⟩
theorem G1 {l:List (List UInt8)} (h:gB l=false):∀ x∈l,x.length≤65535:=by
  unfold gB at h;rw[Qr] at h;intro x hx;have:=h x hx
  simpa using this
def oI (key:List UInt8) (l:List (List UInt8)) (i:Nat):St:=⟨aU [(1,.w (.c (.d (.sl (l.map fun l=>D.sl (l.map bD)))))),(6,.w (.c (.ptr 1 1 0 0))),(21,.w (.c (.d (.sl (l.map fun l=>D.sl (l.map bD)))))),(22,.w (.c (.d (.int .i64 (l.length:Int))))),(23,.w (.c (.d (.int .i64 (i:Int)))))],hL [(1,.box [.d (.sl (key.map bD)),.d (.sl ((fC (aw key)).map bD)),.d (.sl ((il (aw key)).map bD))])],uL [1]⟩
def mV:aK := .seq (.reg [oO 24 (.bin .lss (.t 23) (.t 22))]) (.seq (.cond (.t 24) (.skip) (.exit 0)) (.seq (.block 1 (.seq (.reg [oO 25 (.idxSl 1 (.t 21) (.t 23)),oO 26 (.load .sc (.t 25)),oM 9 26]) (.seq (.reg [oM 27 9,oO 28 (.len (.t 27)),oO 29 (.bin .gtr (.t 28) (kI 65535))]) (.cond (.t 29) (.seq (.reg [oO 4 (.mv (.k (.c .nil))),oO 5 (.mv (kI 2))]) (.ret)) (.skip))))) (.reg [oO 30 (.bin .add (.t 23) (kI 1)),oM 23 30])))
def nG:aB:=⟨2,34,.seq (.reg [oO 4 (.mv (.k (.c .nil))),oO 5 (.mv (kI 0))]) (.seq (.reg [oM 11 0,oO 12 (.call 89 [(.t 11)] none),oM 10 12,oO 13 (.extract (.t 10) 0),oO 14 (.extract (.t 10) 1),oO 6 (.alloc [.nil,.nil,.nil]),oN (.store (.ag 3) (.t 6) (.t 13)),oM 7 14]) (.seq (.seq (.reg [oM 15 7,oO 16 (.bin .neq (.t 15) (kI 0))]) (.cond (.t 16) (.seq (.reg [oM 17 7,oO 4 (.mv (.k (.c .nil))),oM 5 17]) (.ret)) (.skip))) (.seq (.seq (.reg [oM 18 1,oO 19 (.len (.t 18)),oO 20 (.bin .gtr (.t 19) (kI 17))]) (.cond (.t 20) (.seq (.reg [oO 4 (.mv (.k (.c .nil))),oO 5 (.mv (kI 8))]) (.ret)) (.skip))) (.seq (.seq (.reg [oM 21 1,oO 22 (.len (.t 21)),oO 23 (.mv (kI 0))]) (.block 0 (.loop mV))) (.seq (.reg [oO 31 (.load (.ag 3) (.t 6)),oM 32 1,oO 33 (.call 90 [(.t 31),(.t 32)] (some (0,1))),oM 4 33,
 oO 5 (.mv (kI 0))]) (.ret)))))),[(4,none),(5,none)]⟩
theorem J5:aA Try.prog { own:=[33],comp:=[],frz:=[],nils:=[] } Try.f79=some nG:=by kernel_rfl
theorem LX (G:aj) (key:List UInt8) (l:List (List UInt8)) (hk:key.length≤9223372036854775807) (hl:l.length≤9223372036854775807) (hb:∀ x∈l,x.length≤9223372036854775807):ap Try.prog G 79 [.sl (key.map bD),.sl (l.map fun l=>D.sl (l.map bD))] (.tup [.c (.fr 1 ((um key l).map bD)),.c (.d (.int .i64 (px key l)))]):=by
  refine aD Try.func79 J5 rfl rfl ?_;have hx:=LR G key hk;unfold um px;by_cases h:key.length=16
  ·have hv:mg key=dR key:=if_pos h;have he:jB key=0:=by unfold jB; rw[if_neg (by omega)]
   rw[hv,he] at hx;by_cases h2:l.length≤17
   ·rw[if_neg (by omega:¬ key.length≠16),if_neg (by omega:¬ 17<l.length)];simp only[nG,ai,ae,aa,seval,iteOmega,toNatUp];refine sC (hx) ?_;simp only[dR,ae,aa,seval,iteOmega,toNatUp];refine bp (oI key l) (fun i=>l.length-i) (fun i=>i≤l.length∧∀ j,j<i→(l.getD j []).length≤65535) 0 ⟨Pu _,fun j hj=>by omega⟩ ?_ ?_
    ·refine aF (fun i=>48) ?_ ?_ rfl rfl <;> simp only[wx,aG,aP,aa,seval,iteOmega,toNatUp]
    ·rintro i ⟨hi,hok⟩;by_cases hlt:i<l.length
     ·have g1:=su hlt;have hx:=hb _ (nl hlt);by_cases hlong:65535<(l.getD i []).length
      ·have hL:=GZ hlt hlong;rw[hL,if_neg (by simp),if_pos rfl];simp only[mV,oI,ae,aa,seval,iteOmega,toNatUp,aY,g1];exact cr
      ·simp only[mV,oI,ae,aa,seval,iteOmega,toNatUp,aY,g1];refine bd (i+1) (by omega) ⟨by omega,fun j hj=>?_⟩ (aF (fun i=>i) ?_ ?_ rfl rfl)
       ·rcases PV j i with h | h
        ·exact hok j h
        ·obtain rfl:j=i:=by omega
         omega
       all_goals simp only[wx,aG,aP,aa,seval,iteOmega,toNatUp]
     ·have hL:=Iz (l:=l) (fun j hj=>hok j (by omega));rw[hL,if_pos ⟨h,h2,rfl⟩,if_neg (by simp)];simp only[mV,oI,ae,aa,seval,iteOmega,toNatUp];refine sD (LW G key l h h2 (G1 hL)) ?_;exact cr
   ·rw[if_neg (by omega),if_neg (by omega),if_pos (by omega)];have h3:17<l.length:=by omega
    simp only[nG,ai,ae,aa,seval,iteOmega,toNatUp];refine sC (hx) ?_;simp only[dR,ae,aa,seval,iteOmega,toNatUp];exact cr
  ·have hv:mg key=.agg [.sl [],.sl [],.sl []]:=if_neg h;have he:jB key=5:=if_pos h;rw[hv,he] at hx;rw[if_neg (by omega),if_pos h];simp only[nG,ai,ae,aa,seval,iteOmega,toNatUp];refine sD (hx) ?_;exact cr

theorem zf (rk c:List UInt8) {n k:Nat} (hk:k<16):∀ {m:Nat},n<m→(kK rk c m)[16*n+k]?=(cR rk (di c n))[k]?
  | 0,h=>by omega
  | m+1,h=>by
    rw[kK];by_cases e:n=m
    ·subst e;rw[P3 (by rw[lr]; omega),lr,Nat.add_sub_cancel_left]
    ·rw[PX (by rw[lr]; omega)];exact zf rk c hk (by omega)
theorem IA (rk c b:List UInt8) {n k:Nat} (hk:k<16) (h:16*n+k<b.length):(eD rk c b)[16*n+k]?=some (ak (b.getD (16*n+k) 0) ((cR rk (di c n)).getD k 0)):=by
  unfold eD pq;rw[List.getElem?_zipWith,zf rk c hk (by omega),cT h,cT (by rw[fM]; exact hk)]
def oT (rk c b:List UInt8) (j:Nat):List UInt8:=(eD rk c b).take j
theorem C4 (rk c b:List UInt8) (j:Nat):(oT rk c b j).length=min j b.length:=by unfold oT; rw[Pl,mT]
theorem nH (rk c b:List UInt8) {j:Nat} (h:b.length≤j):oT rk c b j=eD rk c b:=Pk (by rw[mT]; exact h)
theorem J6 (rk c b:List UInt8) {n k:Nat} (hk:k<16) (h:16*n+k<b.length):oT rk c b (16*n+k)++[ak (b.getD (16*n+k) 0) ((cR rk (di c n)).getD k 0)]=oT rk c b (16*n+k+1):=by
  unfold oT; rw[QP,IA rk c b hk h]; rfl
theorem sy {c:List UInt8} (h:c.length=16) (n:Nat):(di c n).length=16:=by rw[y6]; exact h
theorem IB {c:List UInt8} (h:c.length=16) (n:Nat):pt (di c n)=di c (n+1):=by unfold pt; rw[if_pos (sy h n)]; rfl
def gC (key c b:List UInt8):Int:=if key.length≠16 then 5 else if c.length≠16 then 3 else if 65535<b.length then 2 else 0
def oJ (key c b:List UInt8):List UInt8:=if key.length=16∧c.length=16∧b.length≤65535 then eD (aw key) c b else []
theorem G2 {key:List UInt8} (c b:List UInt8) (h:key.length≠16):gC key c b=5:=if_pos h
theorem G3 {key c:List UInt8} (b:List UInt8) (h:key.length=16) (h2:c.length≠16):gC key c b=3:=by unfold gC; rw[if_neg (by simp[h]),if_pos h2]
theorem FU {key c b:List UInt8} (h:key.length=16) (h2:c.length=16) (h3:65535<b.length):gC key c b=2:=by unfold gC; rw[if_neg (by simp[h]),if_neg (by simp[h2]),if_pos h3]
theorem IC {key c b:List UInt8} (h:key.length=16) (h2:c.length=16) (h3:b.length≤65535):gC key c b=0:=by unfold gC; rw[if_neg (by simp[h]),if_neg (by simp[h2]),if_neg (by omega)]
theorem ID {key c b:List UInt8} (h:key.length=16) (h2:c.length=16) (h3:b.length≤65535):oJ key c b=eD (aw key) c b:=if_pos ⟨h,h2,h3⟩
theorem rA {key c b:List UInt8} (h:¬ (key.length=16∧c.length=16∧b.length≤65535)):oJ key c b=[]:=if_neg h
theorem OW (rk c b:List UInt8):oT rk c b 0=[]:=List.take_zero
def iK (l:List UInt8):D:=.sl (l.map bD)
def oK (a b:List (List UInt8)) (i:Nat):St:=⟨aU [(0,.w (.c (.d (.sl (a.map iK))))),(1,.w (.c (.d (.sl (b.map iK))))),(5,.w (.c (.d (.int .i64 (i:Int)))))],hL [],uL []⟩
def nm:aK := .seq (.seq (.reg [oM 11 5,oM 12 0,oO 13 (.len (.t 12)),oO 14 (.bin .lss (.t 11) (.t 13))]) (.cond (.t 14) (.skip) (.exit 0))) (.seq (.block 1 (.seq (.reg [oM 17 0,oM 18 5,oO 19 (.idxSl 1 (.t 17) (.t 18)),oO 20 (.load .sc (.t 19)),oM 21 1,oM 22 5,oO 23 (.idxSl 1 (.t 21) (.t 22)),oO 24 (.load .sc (.t 23)),oO 25 (.call 14 [(.t 20),(.t 24)] none),oO 26 (.un .not (.t 25))]) (.cond (.t 26) (.seq (.reg [oO 4 (.mv (.k (.c (.d (.bool false)))))]) (.ret)) (.skip)))) (.reg [oM 15 5,oO 16 (.bin .add (.t 15) (kI 1)),oM 5 16]))
def tk:aB:=⟨2,27,.seq (.reg [oO 4 (.mv (.k (.c (.d (.bool false)))))]) (.seq (.seq (.reg [oM 6 0,oO 7 (.len (.t 6)),oM 8 1,oO 9 (.len (.t 8)),oO 10 (.bin .neq (.t 7) (.t 9))]) (.cond (.t 10) (.seq (.reg [oO 4 (.mv (.k (.c (.d (.bool false)))))]) (.ret)) (.skip))) (.seq (.seq (.reg [oO 5 (.mv (kI 0))]) (.block 0 (.loop nm))) (.seq (.reg [oO 4 (.mv (.k (.c (.d (.bool true)))))]) (.ret)))),[(4,none)]⟩
theorem L2:aA Try.prog { own:=[],comp:=[],frz:=[],nils:=[] } Try.f18=some tk:=by kernel_rfl
set_option maxHeartbeats 1600000 in
theorem Ea (G:aj) (a b:List (List UInt8)) (ha:a.length≤140737488355328) (hb:b.length≤140737488355328):ap Try.prog G 18 [.sl (a.map iK),.sl (b.map iK)] (.w (.c (.d (.bool (a==b))))):=by
  refine aD Try.func18 L2 rfl rfl ?_;by_cases hlen:a.length=b.length
  ·have hz:∀ l:List UInt8,(iK l).cells=[iK l]:=fun _=>rfl
   simp only[tk,ai,ae,aa,seval,iteOmega,toNatUp];refine bp (oK a b) (fun i=>a.length-i) (fun i=>i≤a.length∧a.take i=b.take i) 0 ⟨Pu _,rfl⟩ ?_ ?_
   ·refine aF (fun i=>0) ?_ ?_ rfl rfl <;> simp only[wx,aG,aP,aa,seval,iteOmega,toNatUp] <;> rfl
   ·rintro i ⟨hi,hpre⟩;by_cases hlt:i<a.length
    ·have g1:a[i]?=some a[i]:=Pb hlt;have g2:b[i]?=some (b[i]'(by omega)):=Pb (by omega);have hx:∀ x y:List UInt8,a[i]?=some x→b[i]?=some y→(a=b→x=y):=fun x y h1 h2 e=>by subst e; rw[h1] at h2; exact Option.some.inj h2
     have hx1:=hx _ _ g1 g2;have hstep:a[i]=b[i]'(by omega)→a.take (i+1)=b.take (i+1):=fun e=>by
       rw[QP,QP,g1,g2,hpre,e]
     generalize a[i]=x at *
     generalize b[i]'(by omega)=y at *
     have hrs:=nD G x y;cases hxy:x==y
     ·have hne:(a==b)=false:=by
        rw[beq_eq_false_iff_ne]; intro e
        have:=hx1 e;subst this;simp at hxy
      simp only[nm,oK,ae,aa,seval,iteOmega,toNatUp,aY,g1,g2,hz,hne];refine sC (hrs) ?_;simp only[hxy,ae,aa,seval,iteOmega,toNatUp];exact aI
     ·have hxy':x=y:=by simpa using hxy
      simp only[nm,oK,ae,aa,seval,iteOmega,toNatUp,aY,g1,g2,hz];refine sC (hrs) ?_;simp only[hxy,ae,aa,seval,iteOmega,toNatUp];refine bd (i+1) (by omega) ⟨by omega,hstep hxy'⟩ (aF (fun _=>0) ?_ ?_ rfl rfl) <;> simp only[wx,aG,aP,aa,seval,iteOmega,toNatUp]
    ·obtain rfl:i=a.length:=by omega
     have e:(a==b)=true:=by
       rw[beq_iff_eq];rw[Pk (Pn _),Pk (by omega)] at hpre;exact hpre
     simp only[nm,oK,ae,aa,seval,iteOmega,toNatUp,e];exact aI
  ·have hne:(a==b)=false:=by rw[beq_eq_false_iff_ne]; intro e; subst e; exact hlen rfl
   simp only[tk,ai,ae,aa,seval,iteOmega,toNatUp,hne];exact aI
theorem NC (s:Nat) (l:List UInt8) (k:IntKind) (n:Int):V.flat (.tup [.c (.fr s (l.map bD)),.c (.d (.int k n))])=true:=by
  have:=l3 s l;simp only[V.flat,W.flat,QM,List.all_nil,QN] at this ⊢;rw[this]; rfl
def C6:aB:=⟨2,10,.seq (.reg [oO 4 (.mv (.k (.c (.d (.bool false)))))]) (.seq (.reg [oM 5 0,oO 6 (.b2s (.t 5)),oM 7 1,oO 8 (.b2s (.t 7)),oO 9 (.bin .eql (.t 6) (.t 8)),oM 4 9]) (.ret)),[(4,none)]⟩
theorem L3:aA Try.prog { own:=[],comp:=[],frz:=[],nils:=[] } Try.f65=some C6:=by kernel_rfl
theorem ND (G:aj) (l m:List UInt8):ap Try.prog G 65 [.sl (l.map bD),.sl (m.map bD)] (.w (.c (.d (.bool (l==m))))):=by
  refine aD Try.func65 L3 rfl rfl ?_;simp only[C6,ai,wx,aa,seval,iteOmega,toNatUp,rj,xa];exact tD (by simp only[wx,aa,seval,iteOmega,toNatUp])
def AV:aB:=⟨2,8,.seq (.reg [oO 4 (.mv (.k (.c (.d (.bool false)))))]) (.seq (.reg [oM 5 0,oM 6 1,oO 7 (.call 65 [(.t 5),(.t 6)] none),oM 4 7]) (.ret)),[(4,none)]⟩
theorem J8:aA Try.prog { own:=[],comp:=[],frz:=[],nils:=[] } Try.f46=some AV:=by kernel_rfl
theorem L4 (G:aj) (l m:List UInt8):ap Try.prog G 46 [.sl (l.map bD),.sl (m.map bD)] (.w (.c (.d (.bool (l==m))))):=by
  refine aD Try.func46 J8 rfl rfl ?_;simp only[AV,ai,ae,aa,seval,iteOmega,toNatUp];refine sD (ND G l m) ?_;exact aI
structure Hd where
  lp:Int
  vr:Int
  md:Int
  st:Int
  pl:Int
  pr:Int
  rd:Nat
  rp:Nat
  ri:Nat
  rf:Nat
  og:Nat
  rc:Nat
  tr:Nat
def Hd.z:Hd:=⟨0,0,0,0,0,0,0,0,0,0,0,0,0⟩
def mh (h:Hd):Prop:=0≤h.lp∧h.lp≤3∧(h.vr=3∨h.vr=4)∧0≤h.md∧h.md≤7∧0≤h.st∧h.st≤255∧-128≤h.pl∧h.pl≤127∧-128≤h.pr∧h.pr≤127
instance (h:Hd):Decidable (mh h):=by unfold mh; infer_instance
def ir (h:Hd):Bool:=decide (mh h)
def pH (h:Hd):Prop:=h.rd<4294967296∧h.rp<4294967296∧h.ri<4294967296∧h.rf<18446744073709551616∧h.og<18446744073709551616∧h.rc<18446744073709551616∧h.tr<18446744073709551616
def de (v:Int):UInt8:=UInt8.ofNat (v%256).toNat
def EI (b:UInt8):Int:=if b.toNat>127 then (b.toNat:Int)-256 else (b.toNat:Int)
def pI (h:Hd):List UInt8:=au h.rd 4++(au h.rp 4++(au h.ri 4++(au h.rf 8++(au h.og 8++(au h.rc 8++au h.tr 8)))))
def fh (h:Hd):List UInt8:=[de (h.lp*64+h.vr*8+h.md),de h.st,de h.pl,de h.pr]++pI h
theorem Kh (h:Hd):(pI h).length=44:=by simp[pI,cL]
theorem Ki (h:Hd):(fh h).length=48:=by unfold fh; rw[Ph,Kh]; rfl
def eJ (l:List UInt8) (a n:Nat):List UInt8:=(l.drop a).take n
def pJ (l:List UInt8):Hd:=⟨((l.getD 0 0).toNat / 64:Nat),((l.getD 0 0).toNat / 8%8:Nat),((l.getD 0 0).toNat%8:Nat),((l.getD 1 0).toNat:Nat),EI (l.getD 2 0),EI (l.getD 3 0),
  fX (eJ l 4 4),fX (eJ l 8 4),fX (eJ l 12 4),fX (eJ l 16 8),fX (eJ l 24 8),fX (eJ l 32 8),fX (eJ l 40 8)⟩
theorem fy (G:aj) (v:Nat) (k:Int) (hk:0≤k∧k≤64):ap Try.prog G 71 [.int .u64 (v:Int),.int .i64 k] (.w (.c (.fr 1 ((au v k.toNat).map bD)))):=by
  have c:=D5 G v k;rw[show po v k=au v k.toNat from if_pos hk] at c;exact c


def eR:List UInt32:=[0x6a09e667,0xbb67ae85,0x3c6ef372,0xa54ff53a,0x510e527f,0x9b05688c,0x1f83d9ab,0x5be0cd19]
def bZ:List UInt32:=[
  0x428a2f98,0x71374491,0xb5c0fbcf,0xe9b5dba5,0x3956c25b,0x59f111f1,0x923f82a4,0xab1c5ed5,
  0xd807aa98,0x12835b01,0x243185be,0x550c7dc3,0x72be5d74,0x80deb1fe,0x9bdc06a7,0xc19bf174,
  0xe49b69c1,0xefbe4786,0x0fc19dc6,0x240ca1cc,0x2de92c6f,0x4a7484aa,0x5cb0a9dc,0x76f988da,
  0x983e5152,0xa831c66d,0xb00327c8,0xbf597fc7,0xc6e00bf3,0xd5a79147,0x06ca6351,0x14292967,
  0x27b70a85,0x2e1b2138,0x4d2c6dfc,0x53380d13,0x650a7354,0x766a0abb,0x81c2c92e,0x92722c85,
  0xa2bfe8a1,0xa81a664b,0xc24b8b70,0xc76c51a3,0xd192e819,0xd6990624,0xf40e3585,0x106aa070,
  0x19a4c116,0x1e376c08,0x2748774c,0x34b0bcb5,0x391c0cb3,0x4ed8aa4a,0x5b9cca4f,0x682e6ff3,
  0x748f82ee,0x78a5636f,0x84c87814,0x8cc70208,0x90befffa,0xa4506ceb,0xbef9a3f7,0xc67178f2]
theorem vI:eR.length=8:=rfl
theorem mG:bZ.length=64:=rfl
def bz (b:List UInt8) (t:Nat):UInt32 :=
  iz (iz (iz (gG (hU (b.getD (4*t) 0)) 24) (gG (hU (b.getD (4*t+1) 0)) 16)) (gG (hU (b.getD (4*t+2) 0)) 8)) (hU (b.getD (4*t+3) 0))
def g9 (x:UInt32):UInt32:=cO (cO (eW x 7) (eW x 18)) (ik x 3)
def hC (y:UInt32):UInt32:=cO (cO (eW y 17) (eW y 19)) (ik y 10)
def jw (s:List UInt32) (t:Nat):UInt32 :=
  aR (aR (aR (hC (s.getD (t-2) 0)) (s.getD (t-7) 0)) (g9 (s.getD (t-15) 0))) (s.getD (t-16) 0)
def fq (b:List UInt8) (n:Nat):List UInt32:=(List.range n).map (bz b)
def bH (b:List UInt8):Nat→List UInt32
  | 0=>fq b 16
  | n+1=>bH b n++[jw (bH b n) (16+n)]
def eF (b:List UInt8):List UInt32:=bH b 48
theorem IP (b:List UInt8) (m:Nat) (h:m=48):eF b=bH b m:=by rw[h]; rfl
def gL (e:UInt32):UInt32:=cO (cO (eW e 6) (eW e 11)) (eW e 25)
def iu (a:UInt32):UInt32:=cO (cO (eW a 2) (eW a 13)) (eW a 22)
def gR (e f g:UInt32):UInt32:=cO (gF e f) (gF (kJ e) g)
def iv (a b c:UInt32):UInt32:=cO (cO (gF a b) (gF a c)) (gF b c)
structure aZ where
  (a b c d e f g h:UInt32)
def aZ.step (s:aZ) (k w:UInt32):aZ :=
  let t1:=aR (aR (aR (aR s.h (gL s.e)) (gR s.e s.f s.g)) k) w
  let t2:=aR (iu s.a) (iv s.a s.b s.c)
  ⟨aR t1 t2,s.a,s.b,s.c,aR s.d t1,s.e,s.f,s.g⟩
def aZ.of (h:List UInt32):aZ:=⟨h.getD 0 0,h.getD 1 0,h.getD 2 0,h.getD 3 0,h.getD 4 0,h.getD 5 0,h.getD 6 0,h.getD 7 0⟩
def aZ.rounds (s:aZ) (k w:List UInt32):Nat→aZ
  | 0=>s
  | n+1=>(s.rounds k w n).step (k.getD n 0) (w.getD n 0)
def aZ.sum (s:aZ) (h:List UInt32):List UInt32 :=
  [aR (h.getD 0 0) s.a,aR (h.getD 1 0) s.b,aR (h.getD 2 0) s.c,aR (h.getD 3 0) s.d,aR (h.getD 4 0) s.e,aR (h.getD 5 0) s.f,aR (h.getD 6 0) s.g,aR (h.getD 7 0) s.h]
def iN (h:List UInt32) (b:List UInt8):List UInt32:=((aZ.of h).rounds bZ (eF b) 64).sum h
theorem vJ (h:List UInt32) (b:List UInt8):(iN h b).length=8:=rfl
def zn:aB:=⟨2,15,.seq (.reg [oO 4 (.mv (.k (.c (.d (.int .u32 0)))))]) (.seq (.reg [oM 5 0,oM 6 1,oO 7 (.conv .u64 (.t 6)),oO 8 (.bin .shr (.t 5) (.t 7)),oM 9 0,oM 10 1,oO 11 (.bin .sub (kI 32) (.t 10)),oO 12 (.conv .u64 (.t 11)),oO 13 (.bin .shl (.t 9) (.t 12)),oO 14 (.bin .or (.t 8) (.t 13)),oM 4 14]) (.ret)),[(4,none)]⟩
theorem IQ:aA Try.prog { own:=[],comp:=[],frz:=[],nils:=[] } Try.f64=some zn:=by kernel_rfl
theorem gx (G:aj) (x:UInt32) (n:Nat) (h0:0<n) (hn:n<32):ap Try.prog G 64 [wD x,.int .i64 n] (.w (.c (.d (wD (eW x n))))):=by
  refine aD Try.func64 IQ rfl rfl ?_;have e1:IntKind.u64.wrap (n:Int)=(n:Int):=IntWalk.u64_in _ (by omega);have e2:IntKind.i64.wrap (32-(n:Int))=((32-n:Nat):Int):=by rw[IntWalk.i64_in _ (by omega)]; omega
  have e3:IntKind.u64.wrap ((32-n:Nat):Int)=((32-n:Nat):Int):=IntWalk.u64_in _ (by omega);simp only[zn,ai,wx,aa,seval,iteOmega,toNatUp,e1,e2,e3];exact tD (by simp only[wx,aa,seval,iteOmega,toNatUp] <;> rfl)
def Bb:aB:=⟨0,2,.seq (.reg [oO 0 (.mv (.k (.c .nil)))]) (.seq (.reg [oO 1 (.bldSl true 8 1 (.int .u32 0) [(0,(.k (.c (.d (.int .u32 1779033703))))),(1,(.k (.c (.d (.int .u32 3144134277))))),(2,(.k (.c (.d (.int .u32 1013904242))))),(3,(.k (.c (.d (.int .u32 2773480762))))),(4,(.k (.c (.d (.int .u32 1359893119))))),(5,(.k (.c (.d (.int .u32 2600822924))))),(6,(.k (.c (.d (.int .u32 528734635))))),(7,(.k (.c (.d (.int .u32 1541459225)))))]),oM 0 1]) (.ret)),[(0,none)]⟩
theorem KN:aA Try.prog { own:=[1],comp:=[],frz:=[],nils:=[] } Try.f42=some Bb:=by kernel_rfl
theorem MQ (G:aj):ap Try.prog G 42 [] (.w (.c (.fr 1 (eR.map wD)))):=by
  refine aD Try.func42 KN rfl rfl ?_;simp only[Bb,ai,ot,ou,ov,ow,ox,sx];refine zV (.w (.c (.own 8 1 0 8)),upd hN 8 (some (.row 1 (eR.map wD))),upd uN 8 true) (by kernel_rfl) ?_;simp only[wx,aa,seval,iteOmega,toNatUp];exact dY (id:=8) (n:=8) (s:=1) (by simp only[wx,aa,seval,iteOmega,toNatUp]) (by simp only[wx,aa,seval,iteOmega,toNatUp]) rfl
def Bc:aB:=⟨0,2,.seq (.reg [oO 0 (.mv (.k (.c .nil)))]) (.seq (.reg [oO 1 (.bldSl true 64 1 (.int .u32 0) [(0,(.k (.c (.d (.int .u32 1116352408))))),(1,(.k (.c (.d (.int .u32 1899447441))))),(2,(.k (.c (.d (.int .u32 3049323471))))),(3,(.k (.c (.d (.int .u32 3921009573))))),(4,(.k (.c (.d (.int .u32 961987163))))),(5,(.k (.c (.d (.int .u32 1508970993))))),(6,(.k (.c (.d (.int .u32 2453635748))))),(7,(.k (.c (.d (.int .u32 2870763221))))),(8,(.k (.c (.d (.int .u32 3624381080))))),(9,(.k (.c (.d (.int .u32 310598401))))),(10,(.k (.c (.d (.int .u32 607225278))))),(11,(.k (.c (.d (.int .u32 1426881987))))),(12,(.k (.c (.d (.int .u32 1925078388))))),(13,(.k (.c (.d (.int .u32 2162078206))))),(14,(.k (.c (.d (.int .u32 2614888103))))),(15,(.k (.c (.d (.int .u32 3248222580))))),(16,(.k (.c (.d (.int .u32 3835390401))))),(17,(.k (.c (.d (.int .u32 4022224774))))),(18,(.k (.c (.d (.int .u32 264347078))))),(19,(.k (.c (.d (.int .u32 604807628))))),(20,(.k (.c (.d (.int .u32 770255983))))),(21,(.k (.c (.d (.int .u32 1249150122))))),(22,(.k (.c (.d (.int .u32 1555081692))))),(23,(.k (.c (.d (.int .u32 1996064986))))),(24,(.k (.c (.d (.int .u32 2554220882))))),(25,(.k (.c (.d (.int .u32 2821834349))))),(26,(.k (.c (.d (.int .u32 2952996808))))),(27,(.k (.c (.d (.int .u32 3210313671))))),(28,(.k (.c (.d (.int .u32 3336571891))))),(29,(.k (.c (.d (.int .u32 3584528711))))),(30,(.k (.c (.d (.int .u32 113926993))))),(31,(.k (.c (.d (.int .u32 338241895))))),(32,(.k (.c (.d (.int .u32 666307205))))),(33,(.k (.c (.d (.int .u32 773529912))))),(34,(.k (.c (.d (.int .u32 1294757372))))),(35,(.k (.c (.d (.int .u32 1396182291))))),(36,(.k (.c (.d (.int .u32 1695183700))))),(37,(.k (.c (.d (.int .u32 1986661051))))),(38,(.k (.c (.d (.int .u32 2177026350))))),(39,(.k (.c (.d (.int .u32 2456956037))))),(40,(.k (.c (.d (.int .u32 2730485921))))),(41,(.k (.c (.d (.int .u32 2820302411))))),(42,(.k (.c (.d (.int .u32 3259730800))))),(43,(.k (.c (.d (.int .u32 3345764771))))),(44,(.k (.c (.d (.int .u32 3516065817))))),(45,(.k (.c (.d (.int .u32 3600352804))))),(46,(.k (.c (.d (.int .u32 4094571909))))),(47,(.k (.c (.d (.int .u32 275423344))))),(48,(.k (.c (.d (.int .u32 430227734))))),(49,(.k (.c (.d (.int .u32 506948616))))),(50,(.k (.c (.d (.int .u32 659060556))))),(51,(.k (.c (.d (.int .u32 883997877))))),(52,(.k (.c (.d (.int .u32 958139571))))),(53,(.k (.c (.d (.int .u32 1322822218))))),(54,(.k (.c (.d (.int .u32 1537002063))))),(55,(.k (.c (.d (.int .u32 1747873779))))),(56,(.k (.c (.d (.int .u32 1955562222))))),(57,(.k (.c (.d (.int .u32 2024104815))))),(58,(.k (.c (.d (.int .u32 2227730452))))),(59,(.k (.c (.d (.int .u32 2361852424))))),(60,(.k (.c (.d (.int .u32 2428436474))))),(61,(.k (.c (.d (.int .u32 2756734187))))),(62,(.k (.c (.d (.int .u32 3204031479))))),(63,(.k (.c (.d (.int .u32 3329325298)))))]),
 oM 0 1]) (.ret)),[(0,none)]⟩
theorem KO:aA Try.prog { own:=[1],comp:=[],frz:=[],nils:=[] } Try.f43=some Bc:=by kernel_rfl
theorem Dr (G:aj):ap Try.prog G 43 [] (.w (.c (.fr 1 (bZ.map wD)))):=by
  refine aD Try.func43 KO rfl rfl ?_;simp only[Bc,ai,ot,ou,ov,ow,ox,sx];refine zV (.w (.c (.own 8 1 0 64)),upd hN 8 (some (.row 1 (bZ.map wD))),upd uN 8 true) (by kernel_rfl) ?_;simp only[wx,aa,seval,iteOmega,toNatUp];exact dY (id:=8) (n:=64) (s:=1) (by simp only[wx,aa,seval,iteOmega,toNatUp]) (by simp only[wx,aa,seval,iteOmega,toNatUp]) rfl
theorem vK (b:UInt8):(hU b).toNat=b.toNat:=by have:=wJ b; omega
theorem qP (b:UInt8) (n:Nat) (hn:n≤24):(gG (hU b) n).toNat=2^n*b.toNat:=by
  have hb:=b.toNat_lt;have h:(2:Nat)^n≤2^24:=Nat.pow_le_pow_right (by decide) hn;have h2:2^n*b.toNat≤2^24*255:=Nat.mul_le_mul h (by omega);unfold gG;rw[vK,UInt32.toNat_ofNat_of_lt' (by rw[QK]; simp only[UInt32.size]; omega),QK]
theorem sJ (x y:UInt32):(iz x y).toNat=x.toNat ||| y.toNat:=UInt32.toNat_or x y
theorem mH (b:List UInt8) (t:Nat):(bz b t).toNat=((((b.getD (4*t) 0).toNat*256+(b.getD (4*t+1) 0).toNat)*256+(b.getD (4*t+2) 0).toNat)*256+(b.getD (4*t+3) 0).toNat):=by
  unfold bz;generalize b.getD (4*t) 0=p;generalize b.getD (4*t+1) 0=q;generalize b.getD (4*t+2) 0=r;generalize b.getD (4*t+3) 0=s;have hp:=p.toNat_lt;have hq:=q.toNat_lt;have hr:=r.toNat_lt;have hs:=s.toNat_lt;rw[sJ,sJ,sJ,qP _ _ (by decide),qP _ _ (by decide),qP _ _ (by decide),vK];have e1:=Nat.two_pow_add_eq_or_of_lt (i:=24) (b:=2^16*q.toNat) (by omega) p.toNat;rw[← e1];have e2:=Nat.two_pow_add_eq_or_of_lt (i:=16) (b:=2^8*r.toNat) (by omega) (2^8*p.toNat+q.toNat);have e3:2^24*p.toNat+2^16*q.toNat=2^16*(2^8*p.toNat+q.toNat):=by omega
  rw[e3,← e2];have e4:=Nat.two_pow_add_eq_or_of_lt (i:=8) (b:=s.toNat) (by omega) (2^8*(2^8*p.toNat+q.toNat)+r.toNat);have e5:2^16*(2^8*p.toNat+q.toNat)+2^8*r.toNat=2^8*(2^8*(2^8*p.toNat+q.toNat)+r.toNat):=by omega
  rw[e5,← e4];omega
theorem p0 (b:List UInt8) (n:Nat):(fq b n).length=n:=by simp[fq]
theorem qo (b:List UInt8):∀ n,(bH b n).length=16+n
  | 0=>by simp[bH,p0]
  | n+1=>by rw[bH,Ph,qo b n]; simp; omega
theorem zo {α:Type} (l:List α) (z x:α) (n:Nat) (h:0<n):(l++List.replicate n z).set l.length x=(l++[x])++List.replicate (n-1) z:=by
  obtain⟨k,rfl⟩:∃ k,n=k+1:=⟨n-1,by omega⟩
  rw[List.set_append_right _ _ (Pn _),Nat.sub_self,List.replicate_succ,List.set_cons_zero];simp
theorem MR {l:List UInt32} {r:List UInt32} {i:Nat} (h:i<l.length):(l++r)[i]?=some (l.getD i 0):=by
  rw[PX h];simp[h]
theorem getD_some {l:List UInt32} {i:Nat} (h:i<l.length):l[i]?=some (l.getD i 0):=by simp[h]
theorem eight {l:List UInt32} (h:l.length=8):∃ a b c d e f g i,l=[a,b,c,d,e,f,g,i]:=by
  match l,h with
  | [a,b,c,d,e,f,g,i],_=>exact⟨a,b,c,d,e,f,g,i,rfl⟩
def aZ.list (s:aZ):List UInt32:=[s.a,s.b,s.c,s.d,s.e,s.f,s.g,s.h]
theorem MS (s:aZ) (k w:UInt32):(s.step k w).a=aR (aR (aR (aR (aR s.h (gL s.e)) (gR s.e s.f s.g)) k) w) (aR (iu s.a) (iv s.a s.b s.c)):=rfl
theorem MU (s:aZ) (k w:UInt32):(s.step k w).b=s.a:=rfl
theorem MV (s:aZ) (k w:UInt32):(s.step k w).c=s.b:=rfl
theorem MW (s:aZ) (k w:UInt32):(s.step k w).d=s.c:=rfl
theorem MX (s:aZ) (k w:UInt32):(s.step k w).e=aR s.d (aR (aR (aR (aR s.h (gL s.e)) (gR s.e s.f s.g)) k) w):=rfl
theorem MY (s:aZ) (k w:UInt32):(s.step k w).f=s.e:=rfl
theorem MZ (s:aZ) (k w:UInt32):(s.step k w).g=s.f:=rfl
theorem M0 (s:aZ) (k w:UInt32):(s.step k w).h=s.g:=rfl
theorem FX {l:List UInt8} {i:Nat} (h:i<l.length):l[i]?=some (l.getD i 0):=by simp[h]
def tU (h k:List UInt32) (b:List UInt8) (t:Nat):St:=⟨aU [(0,.w (.c (.d (.sl (h.map wD))))),(1,.w (.c (.d (.sl (k.map wD))))),(2,.w (.c (.d (.sl (b.map bD))))),(7,.w (.c (.pa 1 1))),(8,.w (.c (.d (.int .i64 (t:Int)))))],
  hL [(1,.row 1 ((fq b t++List.replicate (64-t) 0).map wD))],uL [1]⟩
def tV (h k:List UInt32) (b:List UInt8) (n:Nat):St:=⟨aU [(0,.w (.c (.d (.sl (h.map wD))))),(1,.w (.c (.d (.sl (k.map wD))))),(7,.w (.c (.pa 1 1))),(9,.w (.c (.d (.int .i64 ((16+n:Nat):Int)))))],
  hL [(1,.row 1 ((bH b n++List.replicate (48-n) 0).map wD))],uL [1]⟩
def oW (h:List UInt32) (b:List UInt8) (s:aZ) (n:Nat):St:=⟨aU [(0,.w (.c (.d (.sl (h.map wD))))),(1,.w (.c (.d (.sl (bZ.map wD))))),(7,.w (.c (.pa 1 1))),(12,.w (.c (.d (wD s.a)))),(13,.w (.c (.d (wD s.b)))),(14,.w (.c (.d (wD s.c)))),(15,.w (.c (.d (wD s.d)))),(16,.w (.c (.d (wD s.e)))),(17,.w (.c (.d (wD s.f)))),(18,.w (.c (.d (wD s.g)))),(19,.w (.c (.d (wD s.h)))),(20,.w (.c (.d (.int .i64 (n:Int)))))],
  hL [(1,.row 1 ((eF b).map wD))],uL [1]⟩
def l9 (h:List UInt32) (b:List UInt8) (n:Nat):St:=oW h b ((aZ.of h).rounds bZ (eF b) n) n
def qa:aK := .seq (.seq (.reg [oM 23 8,oO 24 (.bin .lss (.t 23) (kI 16))]) (.cond (.t 24) (.skip) (.exit 0))) (.seq (.block 1 (.reg [oM 27 8,oM 28 2,oM 29 8,oO 30 (.bin .mul (kI 4) (.t 29)),oO 31 (.idxSl 1 (.t 28) (.t 30)),oO 32 (.load .sc (.t 31)),oO 33 (.conv .u32 (.t 32)),oO 34 (.bin .shl (.t 33) (.k (.c (.d (.int .u64 24))))),oM 35 2,oM 36 8,oO 37 (.bin .mul (kI 4) (.t 36)),oO 38 (.bin .add (.t 37) (kI 1)),oO 39 (.idxSl 1 (.t 35) (.t 38)),oO 40 (.load .sc (.t 39)),oO 41 (.conv .u32 (.t 40)),oO 42 (.bin .shl (.t 41) (.k (.c (.d (.int .u64 16))))),oO 43 (.bin .or (.t 34) (.t 42)),oM 44 2,oM 45 8,oO 46 (.bin .mul (kI 4) (.t 45)),oO 47 (.bin .add (.t 46) (kI 2)),oO 48 (.idxSl 1 (.t 44) (.t 47)),oO 49 (.load .sc (.t 48)),oO 50 (.conv .u32 (.t 49)),oO 51 (.bin .shl (.t 50) (.k (.c (.d (.int .u64 8))))),
 oO 52 (.bin .or (.t 43) (.t 51)),oM 53 2,oM 54 8,oO 55 (.bin .mul (kI 4) (.t 54)),oO 56 (.bin .add (.t 55) (kI 3)),oO 57 (.idxSl 1 (.t 53) (.t 56)),oO 58 (.load .sc (.t 57)),oO 59 (.conv .u32 (.t 58)),oO 60 (.bin .or (.t 52) (.t 59)),oO 61 (.idxPa 1 64 (.t 7) (.t 27)),oN (.store .sc (.t 61) (.t 60))])) (.reg [oM 25 8,oO 26 (.bin .add (.t 25) (kI 1)),oM 8 26]))
def qb:aK := .seq (.seq (.reg [oM 62 9,oO 63 (.bin .lss (.t 62) (kI 64))]) (.cond (.t 63) (.skip) (.exit 2))) (.seq (.block 3 (.seq (.reg [oM 66 9,oO 67 (.bin .sub (.t 66) (kI 15)),oO 68 (.idxPa 1 64 (.t 7) (.t 67)),oO 69 (.load .sc (.t 68)),oM 70 9,oO 71 (.bin .sub (.t 70) (kI 2)),oO 72 (.idxPa 1 64 (.t 7) (.t 71)),oO 73 (.load .sc (.t 72)),oM 10 69,oM 11 73]) (.reg [oM 74 9,oM 75 11,oO 76 (.call 64 [(.t 75),(kI 17)] none),oM 77 11,oO 78 (.call 64 [(.t 77),(kI 19)] none),oO 79 (.bin .xor (.t 76) (.t 78)),oM 80 11,oO 81 (.bin .shr (.t 80) (.k (.c (.d (.int .u64 10))))),oO 82 (.bin .xor (.t 79) (.t 81)),oM 83 9,oO 84 (.bin .sub (.t 83) (kI 7)),oO 85 (.idxPa 1 64 (.t 7) (.t 84)),oO 86 (.load .sc (.t 85)),oO 87 (.bin .add (.t 82) (.t 86)),oM 88 10,oO 89 (.call 64 [(.t 88),(kI 7)] none),
 oM 90 10,oO 91 (.call 64 [(.t 90),(kI 18)] none),oO 92 (.bin .xor (.t 89) (.t 91)),oM 93 10,oO 94 (.bin .shr (.t 93) (.k (.c (.d (.int .u64 3))))),oO 95 (.bin .xor (.t 92) (.t 94)),oO 96 (.bin .add (.t 87) (.t 95)),oM 97 9,oO 98 (.bin .sub (.t 97) (kI 16)),oO 99 (.idxPa 1 64 (.t 7) (.t 98)),oO 100 (.load .sc (.t 99)),oO 101 (.bin .add (.t 96) (.t 100)),oO 102 (.idxPa 1 64 (.t 7) (.t 74)),oN (.store .sc (.t 102) (.t 101))]))) (.reg [oM 64 9,oO 65 (.bin .add (.t 64) (kI 1)),oM 9 65]))
def qc:aK := .seq (.seq (.reg [oM 127 20,oO 128 (.bin .lss (.t 127) (kI 64))]) (.cond (.t 128) (.skip) (.exit 4))) (.seq (.block 5 (.seq (.reg [oM 131 19,oM 132 16,oO 133 (.call 64 [(.t 132),(kI 6)] none),oM 134 16,oO 135 (.call 64 [(.t 134),(kI 11)] none),oO 136 (.bin .xor (.t 133) (.t 135)),oM 137 16,oO 138 (.call 64 [(.t 137),(kI 25)] none),oO 139 (.bin .xor (.t 136) (.t 138)),oO 140 (.bin .add (.t 131) (.t 139)),oM 141 16,oM 142 17,oO 143 (.bin .and (.t 141) (.t 142)),oM 144 16,oO 145 (.un .xor (.t 144)),oM 146 18,oO 147 (.bin .and (.t 145) (.t 146)),oO 148 (.bin .xor (.t 143) (.t 147)),oO 149 (.bin .add (.t 140) (.t 148)),oM 150 1,oM 151 20,oO 152 (.idxSl 1 (.t 150) (.t 151)),oO 153 (.load .sc (.t 152)),oO 154 (.bin .add (.t 149) (.t 153)),oM 155 20,oO 156 (.idxPa 1 64 (.t 7) (.t 155)),
 oO 157 (.load .sc (.t 156)),oO 158 (.bin .add (.t 154) (.t 157)),oM 21 158]) (.seq (.reg [oM 159 12,oO 160 (.call 64 [(.t 159),(kI 2)] none),oM 161 12,oO 162 (.call 64 [(.t 161),(kI 13)] none),oO 163 (.bin .xor (.t 160) (.t 162)),oM 164 12,oO 165 (.call 64 [(.t 164),(kI 22)] none),oO 166 (.bin .xor (.t 163) (.t 165)),oM 167 12,oM 168 13,oO 169 (.bin .and (.t 167) (.t 168)),oM 170 12,oM 171 14,oO 172 (.bin .and (.t 170) (.t 171)),oO 173 (.bin .xor (.t 169) (.t 172)),oM 174 13,oM 175 14,oO 176 (.bin .and (.t 174) (.t 175)),oO 177 (.bin .xor (.t 173) (.t 176)),oO 178 (.bin .add (.t 166) (.t 177)),oM 22 178]) (.reg [oM 179 21,oM 180 22,oO 181 (.bin .add (.t 179) (.t 180)),oM 182 12,oM 183 13,oM 184 14,oM 185 15,oM 186 21,oO 187 (.bin .add (.t 185) (.t 186)),oM 188 16,oM 189 17,oM 190 18,oM 12 181,
 oM 13 182,oM 14 183,oM 15 184,oM 16 187,oM 17 188,oM 18 189,oM 19 190])))) (.reg [oM 129 20,oO 130 (.bin .add (.t 129) (kI 1)),oM 20 130]))
def xk:aB:=⟨3,232,.seq (.reg [oO 6 (.mv (.k (.c .nil)))]) (.seq (.reg [oO 7 (.allocArr [(.int .u32 0),(.int .u32 0),(.int .u32 0),(.int .u32 0),(.int .u32 0),(.int .u32 0),(.int .u32 0),(.int .u32 0),(.int .u32 0),(.int .u32 0),(.int .u32 0),(.int .u32 0),(.int .u32 0),(.int .u32 0),(.int .u32 0),(.int .u32 0),(.int .u32 0),(.int .u32 0),(.int .u32 0),(.int .u32 0),(.int .u32 0),(.int .u32 0),(.int .u32 0),(.int .u32 0),(.int .u32 0),(.int .u32 0),(.int .u32 0),(.int .u32 0),(.int .u32 0),(.int .u32 0),(.int .u32 0),(.int .u32 0),(.int .u32 0),(.int .u32 0),(.int .u32 0),(.int .u32 0),(.int .u32 0),(.int .u32 0),(.int .u32 0),(.int .u32 0),(.int .u32 0),(.int .u32 0),(.int .u32 0),(.int .u32 0),(.int .u32 0),(.int .u32 0),(.int .u32 0),(.int .u32 0),(.int .u32 0),(.int .u32 0),(.int .u32 0),(.int .u32 0),(.int .u32 0),(.int .u32 0),(.int .u32 0),(.int .u32 0),(.int .u32 0),(.int .u32 0),(.int .u32 0),(.int .u32 0),(.int .u32 0),(.int .u32 0),(.int .u32 0),(.int .u32 0)])])
 (.seq (.seq (.reg [oO 8 (.mv (kI 0))]) (.block 0 (.loop qa))) (.seq (.seq (.reg [oO 9 (.mv (kI 16))]) (.block 2 (.loop qb))) (.seq (.reg [oM 103 0,oO 104 (.idxSl 1 (.t 103) (kI 0)),oO 105 (.load .sc (.t 104)),oM 106 0,oO 107 (.idxSl 1 (.t 106) (kI 1)),oO 108 (.load .sc (.t 107)),oM 109 0,oO 110 (.idxSl 1 (.t 109) (kI 2)),oO 111 (.load .sc (.t 110)),oM 112 0,oO 113 (.idxSl 1 (.t 112) (kI 3)),oO 114 (.load .sc (.t 113)),oM 115 0,oO 116 (.idxSl 1 (.t 115) (kI 4)),oO 117 (.load .sc (.t 116)),oM 118 0,oO 119 (.idxSl 1 (.t 118) (kI 5)),oO 120 (.load .sc (.t 119)),oM 121 0,oO 122 (.idxSl 1 (.t 121) (kI 6)),oO 123 (.load .sc (.t 122)),oM 124 0,oO 125 (.idxSl 1 (.t 124) (kI 7)),oO 126 (.load .sc (.t 125)),oM 12 105,oM 13 108,oM 14 111,oM 15 114,oM 16 117,oM 17 120,oM 18 123,oM 19 126])
 (.seq (.seq (.reg [oO 20 (.mv (kI 0))]) (.block 4 (.loop qc))) (.seq (.reg [oM 191 0,oO 192 (.idxSl 1 (.t 191) (kI 0)),oO 193 (.load .sc (.t 192)),oM 194 12,oO 195 (.bin .add (.t 193) (.t 194)),oM 196 0,oO 197 (.idxSl 1 (.t 196) (kI 1)),oO 198 (.load .sc (.t 197)),oM 199 13,oO 200 (.bin .add (.t 198) (.t 199)),oM 201 0,oO 202 (.idxSl 1 (.t 201) (kI 2)),oO 203 (.load .sc (.t 202)),oM 204 14,oO 205 (.bin .add (.t 203) (.t 204)),oM 206 0,oO 207 (.idxSl 1 (.t 206) (kI 3)),oO 208 (.load .sc (.t 207)),oM 209 15,oO 210 (.bin .add (.t 208) (.t 209)),oM 211 0,oO 212 (.idxSl 1 (.t 211) (kI 4)),oO 213 (.load .sc (.t 212)),oM 214 16,oO 215 (.bin .add (.t 213) (.t 214)),oM 216 0,oO 217 (.idxSl 1 (.t 216) (kI 5)),oO 218 (.load .sc (.t 217)),oM 219 17,oO 220 (.bin .add (.t 218) (.t 219)),oM 221 0,
 oO 222 (.idxSl 1 (.t 221) (kI 6)),oO 223 (.load .sc (.t 222)),oM 224 18,oO 225 (.bin .add (.t 223) (.t 224)),oM 226 0,oO 227 (.idxSl 1 (.t 226) (kI 7)),oO 228 (.load .sc (.t 227)),oM 229 19,oO 230 (.bin .add (.t 228) (.t 229)),oO 231 (.bldSl true 8 1 (.int .u32 0) [(0,(.t 195)),(1,(.t 200)),(2,(.t 205)),(3,(.t 210)),(4,(.t 215)),(5,(.t 220)),(6,(.t 225)),(7,(.t 230))]),oM 6 231]) (.ret))))))),[(6,none)]⟩
theorem Hb:aA Try.prog { own:=[231],comp:=[],frz:=[],nils:=[] } Try.f44=some xk:=by kernel_rfl
set_option maxHeartbeats 1600000 in
theorem zp (G:aj) (h:List UInt32) (b:List UInt8) (hh:h.length=8) (hb:b.length=64):ap Try.prog G 44 [.sl (h.map wD),.sl (bZ.map wD),.sl (b.map bD)] (.w (.c (.fr 1 ((iN h b).map wD)))):=by
  refine aD Try.func44 Hb rfl rfl ?_;have hsl:(eF b).length=64:=qo b 48;have hcl:bZ.length=64:=mG;simp only[xk,ai,wx,aa,seval,iteOmega,toNatUp];refine bp (tU h bZ b) (fun t=>16-t) (fun t=>t≤16) 0 (Pu _) ?_ ?_
  ·refine aF (fun _=>56) ?_ ?_ rfl rfl <;> simp only[wx,aG,aa,seval,iteOmega,toNatUp];rfl
  ·intro t ht;by_cases hlt:t<16
   ·have e0:IntKind.i64.wrap (4*(t:Int))=((4*t:Nat):Int):=by rw[IntWalk.i64_in _ (by omega)]; omega
    have e1:IntKind.i64.wrap (((4*t:Nat):Int)+1)=((4*t+1:Nat):Int):=by rw[IntWalk.i64_in _ (by omega)]; omega
    have e2:IntKind.i64.wrap (((4*t:Nat):Int)+2)=((4*t+2:Nat):Int):=by rw[IntWalk.i64_in _ (by omega)]; omega
    have e3:IntKind.i64.wrap (((4*t:Nat):Int)+3)=((4*t+3:Nat):Int):=by rw[IntWalk.i64_in _ (by omega)]; omega
    have e4:IntKind.i64.wrap ((t:Int)+1)=((t+1:Nat):Int):=by rw[IntWalk.i64_in _ (by omega)]; omega
    have g:∀ k,k<64→(b.map bD)[k]?=some (bD (b.getD k 0)):=fun k hk=>by rw[aY,FX (by omega)]; rfl
    have g0:=g (4*t) (by omega);have g1:=g (4*t+1) (by omega);have g2:=g (4*t+2) (by omega);have g3:=g (4*t+3) (by omega);have h1:t<(fq b t++List.replicate (64-t) 0).length:=by rw[Ph,p0,Ps]; omega
    have h2:=zo (fq b t) 0 (bz b t) (64-t) (by omega);rw[p0] at h2;have h3:fq b t++[bz b t]=fq b (t+1):=by simp[fq,List.range_succ]
    have h4:64-t-1=64-(t+1):=by omega
    rw[h3,h4] at h2;simp only[bz] at h2;have m24:min (24:Int).toNat 32=24:=by decide
    have m16:min (16:Int).toNat 32=16:=by decide
    have m8:min (8:Int).toNat 32=8:=by decide
    simp only[qa,tU,wx,aa,seval,iteOmega,toNatUp,e0,e1,e2,e3,e4,g0,g1,g2,g3,Qj,CN h1 (oC _),CO,h2];refine bd (t+1) (by omega) (by omega) (aF id ?_ ?_ rfl rfl) <;> simp only[wx,aG,aa,seval,iteOmega,toNatUp]
   ·obtain rfl:t=16:=by omega
    simp only[qa,tU,wx,aa,seval,iteOmega,toNatUp];refine bp (tV h bZ b) (fun n=>48-n) (fun n=>n≤48) 0 (Pu _) ?_ ?_
    ·have h0:fq b 16=bH b 0:=rfl;refine aF id ?_ ?_ rfl rfl <;> simp only[wx,aG,aa,seval,iteOmega,toNatUp,h0]
    ·intro n hn;by_cases hlt:n<48
     ·have hl:=qo b n;have w1:∀ k:Nat,k≤16→IntKind.i64.wrap (((16+n:Nat):Int)-(k:Int))=((16+n-k:Nat):Int):=fun k hk=>by rw[IntWalk.i64_in _ (by omega)]; omega
      have e15:IntKind.i64.wrap (((16+n:Nat):Int)-15)=((16+n-15:Nat):Int):=w1 15 (by decide);have e2:IntKind.i64.wrap (((16+n:Nat):Int)-2)=((16+n-2:Nat):Int):=w1 2 (by decide);have e7:IntKind.i64.wrap (((16+n:Nat):Int)-7)=((16+n-7:Nat):Int):=w1 7 (by decide);have e16:IntKind.i64.wrap (((16+n:Nat):Int)-16)=((16+n-16:Nat):Int):=w1 16 (by decide);have e0:IntKind.i64.wrap (((16+n:Nat):Int)+1)=((16+(n+1):Nat):Int):=by rw[IntWalk.i64_in _ (by omega)]; omega
      have g:∀ k,k<16+n→((bH b n++List.replicate (48-n) 0).map wD)[k]?=some (wD ((bH b n).getD k 0)):=fun k hk=>by
        rw[Qq,MR (by omega)]; rfl
      have g15:=g (16+n-15) (by omega);have g2:=g (16+n-2) (by omega);have g7:=g (16+n-7) (by omega);have g16:=g (16+n-16) (by omega);simp only[qb,tV,wx,aa,seval,iteOmega,toNatUp,e15,e2,e7,e16,e0,g15,g2,g7,g16];refine bO (gx G _ 17 (by decide) (by decide)) rfl (.inr rfl) ?_;simp only[wx,aa,seval,iteOmega,toNatUp];refine bO (gx G _ 19 (by decide) (by decide)) rfl (.inr rfl) ?_;simp only[wx,aa,seval,iteOmega,toNatUp,e15,e2,e7,e16,e0,g15,g2,g7,g16];refine bO (gx G _ 7 (by decide) (by decide)) rfl (.inr rfl) ?_;simp only[wx,aa,seval,iteOmega,toNatUp];refine bO (gx G _ 18 (by decide) (by decide)) rfl (.inr rfl) ?_;have h1:16+n<(bH b n++List.replicate (48-n) 0).length:=by rw[Ph,hl,Ps]; omega
      have h2:=zo (bH b n) 0 (jw (bH b n) (16+n)) (48-n) (by omega);rw[hl] at h2;have h4:48-n-1=48-(n+1):=by omega
      have h3:bH b n++[jw (bH b n) (16+n)]=bH b (n+1):=rfl;rw[h3,h4] at h2;simp only[jw,g9,hC] at h2;simp only[wx,aa,seval,iteOmega,toNatUp,e15,e2,e7,e16,e0,g15,g2,g7,g16,CN h1 (oC _),CO,h2];refine bd (n+1) (by omega) (by omega) (aF id ?_ ?_ rfl rfl) <;> simp only[wx,aG,aa,seval,iteOmega,toNatUp]
     ·have hn48:n=48:=by omega
      have h0:48-n=0:=by omega
      obtain⟨h0',h1,h2,h3,h4,h5,h6,h7,rfl⟩:=eight hh;simp only[qb,tV,wx,aa,seval,iteOmega,toNatUp,h0,PF,QI,← IP b n hn48];refine bp (l9 [h0',h1,h2,h3,h4,h5,h6,h7] b) (fun n=>64-n) (fun n=>n≤64) 0 (Pu _) ?_ ?_
      ·refine aF id ?_ ?_ rfl rfl <;> simp only[l9,oW,wx,aG,aa,seval,iteOmega,toNatUp];exact⟨rfl,rfl,rfl,rfl,rfl,rfl,rfl,rfl⟩
      ·clear hn hlt hn48 h0;intro n hn;by_cases hlt:n<64
       ·have e1:IntKind.i64.wrap ((n:Int)+1)=((n+1:Nat):Int):=by rw[IntWalk.i64_in _ (by omega)]; rfl
        have g1:(bZ.map wD)[n]?=some (wD (bZ.getD n 0)):=by rw[aY,getD_some (by omega)]; rfl
        have g2:((eF b).map wD)[n]?=some (wD ((eF b).getD n 0)):=by rw[aY,getD_some (by omega)]; rfl
        have hr:(aZ.of [h0',h1,h2,h3,h4,h5,h6,h7]).rounds bZ (eF b) (n+1)=((aZ.of [h0',h1,h2,h3,h4,h5,h6,h7]).rounds bZ (eF b) n).step (bZ.getD n 0) ((eF b).getD n 0):=rfl;generalize hs:(aZ.of [h0',h1,h2,h3,h4,h5,h6,h7]).rounds bZ (eF b) n=s at hr;simp only[qc,l9,oW,hs,wx,aa,seval,iteOmega,toNatUp,hcl,hsl,g1,g2,e1];refine bO (gx G _ 6 (by decide) (by decide)) rfl (.inr rfl) ?_;simp only[wx,aa,seval,iteOmega,toNatUp];refine bO (gx G _ 11 (by decide) (by decide)) rfl (.inr rfl) ?_;simp only[wx,aa,seval,iteOmega,toNatUp];refine bO (gx G _ 25 (by decide) (by decide)) rfl (.inr rfl) ?_;simp only[wx,aa,seval,iteOmega,toNatUp,g1,g2,hcl,hsl];refine bO (gx G _ 2 (by decide) (by decide)) rfl (.inr rfl) ?_;simp only[wx,aa,seval,iteOmega,toNatUp];refine bO (gx G _ 13 (by decide) (by decide)) rfl (.inr rfl) ?_;simp only[wx,aa,seval,iteOmega,toNatUp];refine bO (gx G _ 22 (by decide) (by decide)) rfl (.inr rfl) ?_;simp only[wx,aa,seval,iteOmega,toNatUp,e1];refine bd (n+1) (by omega) (by omega) ?_;rw[l9,hr];refine (aF id ?_ ?_ rfl rfl) <;> simp only[wx,aG,aa,seval,iteOmega,toNatUp,MS,MU,MV,MW,MX,MY,MZ,M0];exact⟨rfl,rfl⟩
       ·obtain rfl:n=64:=by omega
        have hK:iN [h0',h1,h2,h3,h4,h5,h6,h7] b=((aZ.of [h0',h1,h2,h3,h4,h5,h6,h7]).rounds bZ (eF b) 64).sum [h0',h1,h2,h3,h4,h5,h6,h7]:=rfl;rw[hK];simp only[l9];generalize (aZ.of [h0',h1,h2,h3,h4,h5,h6,h7]).rounds bZ (eF b) 64=s;have e8:s.sum [h0',h1,h2,h3,h4,h5,h6,h7]=[aR h0' s.a,aR h1 s.b,aR h2 s.c,aR h3 s.d,aR h4 s.e,aR h5 s.f,aR h6 s.g,aR h7 s.h]:=rfl;simp only[qc,oW,e8,wx,aa,seval,iteOmega,toNatUp];exact dY (id:=1848) (n:=8) (s:=1) (by simp only[wx,aa,seval,iteOmega,toNatUp]) (by simp only[wx,aa,seval,iteOmega,toNatUp] <;> rfl) rfl
def cm (h:List UInt32) (b:List UInt8):Nat→List UInt32
  | 0=>h
  | n+1=>iN (cm h b n) ((b.drop (64*n)).take 64)
theorem mX {h:List UInt32} (hh:h.length=8) (b:List UInt8):∀ n,(cm h b n).length=8
  | 0=>hh
  | n+1=>vJ _ _
def fb (rest:List UInt8) (count:Nat):List UInt8:=rest++[128]++List.replicate ((119-rest.length)%64) 0++au (count*8) 8
def d6 (ws:List UInt32):List UInt8:=ws.flatMap fun w=>au w.toNat 4
def i6 (s:List UInt32) (rest:List UInt8) (count:Nat):List UInt8:=d6 (cm s (fb rest count) ((fb rest count).length / 64))
def jD (b:List UInt8):List UInt8:=i6 (cm eR b (b.length / 64)) (b.drop (64*(b.length / 64))) b.length
theorem qp:∀ ws:List UInt32,(d6 ws).length=4*ws.length
  | []=>rfl
  | w::ws=>by
    have:d6 (w::ws)=au w.toNat 4++d6 ws:=rfl;rw[this,Ph,cL,qp ws,QR]; omega
theorem IR {s:List UInt32} (hs:s.length=8) (rest:List UInt8) (count:Nat):(i6 s rest count).length=32:=by
  unfold i6;rw[qp,mX hs]
theorem zq (b:List UInt8):(jD b).length=32:=IR (mX vI _ _) _ _
theorem IU (rest:List UInt8) (count:Nat) (h:rest.length<64):(fb rest count).length=rest.length+9+(119-rest.length)%64∧(fb rest count).length%64=0:=by
  have:(fb rest count).length=rest.length+9+(119-rest.length)%64:=by simp[fb,cL]; omega
  exact⟨this,by omega⟩
theorem Fu (ws:List UInt32) (k:Nat) (h:k<ws.length):d6 (ws.take k)++au (ws.getD k 0).toNat 4=d6 (ws.take (k+1)):=by
  rw[Qd h];unfold d6;rw[Qh];simp[h]
theorem IV {α:Type} (a:α) (j:Nat):List.replicate j a++[a]=List.replicate (j+1) a:=by rw[List.replicate_succ']
def tW (h:List UInt32) (rest:List UInt8) (count:Nat) (j:Nat):St:=⟨aU [(0,.w (.c (.d (.sl (h.map wD))))),(2,.w (.c (.d (.int .i64 (count:Int))))),(7,.w (.c (.d (.sl (bZ.map wD))))),(8,.w (.c (.own 1 1 0 (rest++[128]++List.replicate j 0).length)))],hL [(1,.row 1 ((rest++[128]++List.replicate j 0).map bD))],uL [1]⟩
def tX (h:List UInt32) (p:List UInt8) (n:Nat):St:=⟨aU [(0,.w (.c (.d (.sl ((cm h p n).map wD))))),(7,.w (.c (.d (.sl (bZ.map wD))))),(8,.w (.c (.own 1 1 0 p.length))),(9,.w (.c (.d (.int .i64 ((64*n:Nat):Int)))))],hL [(1,.row 1 (p.map bD))],uL [1]⟩
def tY (ws:List UInt32) (k:Nat):St:=⟨aU [(0,.w (.c (.d (.sl (ws.map wD))))),(10,.w (.c (.own 1 1 0 (d6 (ws.take k)).length))),(11,.w (.c (.d (.int .i64 (k:Int)))))],hL [(1,.row 1 ((d6 (ws.take k)).map bD))],uL [1]⟩
theorem M1 {ws:List UInt32} {k:Nat} (h:k<ws.length):(ws.map wD)[k]?=some (wD (ws.getD k 0)):=by
  simp[h]
theorem Oc:D.int .u8 0=bD 0:=rfl
theorem KP:D.int .u8 128=bD 128:=rfl
theorem Em (l:List UInt8) (a:UInt8):l.map bD++[bD a]=(l++[a]).map bD:=by simp
def qQ:aK := .seq (.seq (.reg [oM 18 8,oO 19 (.len (.t 18)),oO 20 (.bin .rem (.t 19) (kI 64)),oO 21 (.bin .neq (.t 20) (kI 56))]) (.cond (.t 21) (.skip) (.exit 0))) (.block 1 (.reg [oM 22 8,oO 23 (.bldSl false 1 1 (.int .u8 0) [(0,(.k (.c (.d (.int .u8 0)))))]),oO 24 (.app false 1 1 (.t 22) (.t 23)),oM 8 24]))
def qR:aK := .seq (.seq (.reg [oM 31 9,oM 32 8,oO 33 (.len (.t 32)),oO 34 (.bin .lss (.t 31) (.t 33))]) (.cond (.t 34) (.skip) (.exit 2))) (.seq (.block 3 (.reg [oM 37 0,oM 38 7,oM 39 8,oM 40 9,oM 41 9,oO 42 (.bin .add (.t 41) (kI 64)),oO 43 (.slice 1 (.t 39) (some (.t 40)) (some (.t 42)) none),oO 44 (.call 44 [(.t 37),(.t 38),(.t 43)] none),oM 0 44])) (.reg [oM 35 9,oO 36 (.bin .add (.t 35) (kI 64)),oM 9 36]))
def qS:aK := .seq (.seq (.reg [oM 46 11,oO 47 (.bin .lss (.t 46) (kI 8))]) (.cond (.t 47) (.skip) (.exit 4))) (.seq (.block 5 (.reg [oM 50 10,oM 51 0,oM 52 11,oO 53 (.idxSl 1 (.t 51) (.t 52)),oO 54 (.load .sc (.t 53)),oO 55 (.conv .u64 (.t 54)),oO 56 (.call 26 [(.t 55),(kI 4)] none),oO 57 (.app false 1 1 (.t 50) (.t 56)),oM 10 57])) (.reg [oM 48 11,oO 49 (.bin .add (.t 48) (kI 1)),oM 11 49]))
def Be:aB:=⟨3,59,.seq (.reg [oO 6 (.mv (.k (.c .nil)))]) (.seq (.reg [oO 12 (.call 43 [] none),oM 7 12]) (.seq (.reg [oM 13 1,oO 14 (.bldSl false 1 1 (.sl []) [(0,(.t 13))]),oO 15 (.call 25 [(.t 14)] (some (0,1))),oO 16 (.bldSl false 1 1 (.int .u8 0) [(0,(.k (.c (.d (.int .u8 128)))))]),oO 17 (.app false 1 1 (.t 15) (.t 16)),oM 8 17]) (.seq (.block 0 (.loop qQ)) (.seq (.reg [oM 25 8,oM 26 2,oO 27 (.conv .u64 (.t 26)),oO 28 (.bin .mul (.t 27) (.k (.c (.d (.int .u64 8))))),oO 29 (.call 26 [(.t 28),(kI 8)] none),oO 30 (.app false 1 1 (.t 25) (.t 29)),oM 8 30]) (.seq (.seq (.reg [oO 9 (.mv (kI 0))]) (.block 2 (.loop qR))) (.seq (.reg [oO 45 (.bldSl true 0 1 (.int .u8 0) []),oM 10 45]) (.seq (.seq (.reg [oO 11 (.mv (kI 0))]) (.block 4 (.loop qS))) (.seq (.reg [oM 58 10,
 oM 6 58]) (.ret))))))))),[(6,none)]⟩
theorem KQ:aA Try.prog { own:=[15,45],comp:=[],frz:=[],nils:=[] } Try.f45=some Be:=by kernel_rfl
theorem M2 (G:aj) (s:List UInt32) (rest:List UInt8) (count:Nat) (hs:s.length=8) (hr:rest.length<64) (hc:count≤140737488355328):ap Try.prog G 45 [.sl (s.map wD),.sl (rest.map bD),.int .i64 (count:Int)] (.w (.c (.fr 1 ((i6 s rest count).map bD)))):=by
  refine aD Try.func45 KQ rfl rfl ?_;have hj:=AC G [rest] (by simp) (by simp; omega);have hf:[rest].flatten=rest:=by simp
  rw[hf] at hj;obtain⟨hp1,hp2⟩:=IU rest count hr;simp only[Be,ai,ae,aa,seval,iteOmega,toNatUp];refine bO (Dr G) rfl (.inl rfl) ?_;simp only[ae,aa,seval,iteOmega,toNatUp];refine bO hj rfl (.inl rfl) ?_;simp only[ae,aa,seval,iteOmega,toNatUp,cp,KP,Em];refine bp (tW s rest count) (fun j=>(119-rest.length)%64-j) (fun j=>j≤(119-rest.length)%64) 0 (Pu _) ?_ ?_
  ·refine aF (fun _=>136) ?_ ?_ rfl rfl <;> simp only[wx,aG,aP,aa,seval,iteOmega,toNatUp]
  ·intro j hj;have hl:(rest++[128]++List.replicate j 0).length=rest.length+1+j:=by simp; omega
   have ht:((rest++[128]++List.replicate j 0).length:Int).tmod 64=(((rest.length+1+j)%64:Nat):Int):=by rw[hl]; rfl
   by_cases hlt:j<(119-rest.length)%64
   ·have e1:rest++[128]++List.replicate j 0++[0]=rest++[128]++List.replicate (j+1) 0:=by
      rw[Qg,IV]
    generalize hx:rest++[128]++List.replicate j 0=x at *
    simp only[qQ,tW,hx,ae,aa,seval,iteOmega,toNatUp,ht,cp,Oc,Em,e1];refine bd (j+1) (by omega) (by omega) (aF (fun _=>192) ?_ ?_ rfl rfl) <;> simp only[wx,aG,aP,aa,seval,iteOmega,toNatUp]
   ·obtain rfl:j=(119-rest.length)%64:=by omega
    generalize hx:rest++[128]++List.replicate ((119-rest.length)%64) 0=x at *
    simp only[qQ,tW,hx,ae,aa,seval,iteOmega,toNatUp,ht];refine bO (nC G (count*8) 8 (by decide)) ?_ (.inl rfl) ?_
    ·simp only[ae,aa,seval,iteOmega,toNatUp]
    have hx2:x++au (count*8) 8=fb rest count:=by rw[← hx]; rfl
    simp only[ae,aa,seval,iteOmega,toNatUp,cp,gW,hx2,cL];refine bp (tX s (fb rest count)) (fun n=>(fb rest count).length / 64-n) (fun n=>n≤(fb rest count).length / 64) 0 (Pu _) ?_ ?_
    ·refine aF (fun _=>240) ?_ ?_ rfl rfl <;> simp only[wx,aG,aP,aa,seval,iteOmega,toNatUp,cm]
    ·generalize hpk:fb rest count=p at *
     intro n hn;have hl8:=mX hs p n;by_cases hlt:n<p.length / 64
     ·have h2:((p.drop (64*n)).take 64).length=64:=by rw[Pl,Pp]; omega
      have e1:64*n+64-64*n=64:=by omega
      simp only[qR,tX,ae,aa,seval,iteOmega,toNatUp];refine bO (zp G (cm s p n) ((p.drop (64*n)).take 64) hl8 h2) ?_ (.inr (OK _ _)) ?_
      ·simp only[ae,aa,seval,iteOmega,toNatUp,cn,e1]
      simp only[ae,aa,seval,iteOmega,toNatUp];have e2:64*(n:Int)+64=64*((n:Int)+1):=by omega
      refine bd (n+1) (by omega) (by omega) (aF id ?_ ?_ rfl rfl) <;> simp only[wx,aG,aP,aa,seval,iteOmega,toNatUp,cm,e2]
     ·obtain rfl:n=p.length / 64:=by omega
      have hfk:i6 s rest count=d6 (cm s p (p.length / 64)):=by unfold i6; rw[hpk]
      rw[hfk];simp only[tX];generalize cm s p (p.length / 64)=ws at hl8;have h64:¬ ((64*(p.length / 64):Nat):Int)<(p.length:Int):=by omega
      simp only[qR,ae,aa,seval,iteOmega,toNatUp,h64];refine bp (tY ws) (fun k=>8-k) (fun k=>k≤8) 0 (Pu _) ?_ ?_
      ·refine aF (fun _=>360) ?_ ?_ rfl rfl <;> simp only[wx,aG,aP,aa,seval,iteOmega,toNatUp,d6]
      ·intro k hk;by_cases hlt:k<8
       ·have hw1:(ws.getD k 0).toNat<4294967296:=word_lt _;have hwl:=qp (ws.take k);rw[Pl] at hwl;simp only[qS,tY,ae,aa,seval,iteOmega,toNatUp,M1 (show k<ws.length by omega)];refine bO (nC G (ws.getD k 0).toNat 4 (by decide)) ?_ (.inl rfl) ?_
        ·simp only[ae,aa,seval,iteOmega,toNatUp]
        simp only[ae,aa,seval,iteOmega,toNatUp,cp,Fu ws k (by omega),cL];refine bd (k+1) (by omega) (by omega) (aF (fun _=>456) ?_ ?_ rfl rfl) <;> simp only[wx,aG,aP,aa,seval,iteOmega,toNatUp]
       ·obtain rfl:k=8:=by omega
        have:ws.take 8=ws:=Pk (by omega);simp only[qS,tY,ae,aa,seval,iteOmega,toNatUp,this];exact dY (id:=1) (n:=(d6 ws).length) (s:=1) (by simp only[wx,aa,seval,iteOmega,toNatUp]) (by simp only[wx,aa,seval,iteOmega,toNatUp]) (by rw[Pr])
def uu (b:List UInt8) (n:Nat):St:=⟨aU [(0,.w (.c (.d (.sl (b.map bD))))),(3,.w (.c (.d (.sl ((cm eR b n).map wD))))),(4,.w (.c (.d (.sl (bZ.map wD))))),(5,.w (.c (.d (.int .i64 ((64*(b.length / 64):Nat):Int))))),(6,.w (.c (.d (.int .i64 ((64*n:Nat):Int)))))],hL [],uL []⟩
def qT:aK := .seq (.seq (.reg [oM 13 6,oM 14 5,oO 15 (.bin .lss (.t 13) (.t 14))]) (.cond (.t 15) (.skip) (.exit 0))) (.seq (.block 1 (.reg [oM 18 3,oM 19 4,oM 20 0,oM 21 6,oM 22 6,oO 23 (.bin .add (.t 22) (kI 64)),oO 24 (.slice 1 (.t 20) (some (.t 21)) (some (.t 23)) none),oO 25 (.call 44 [(.t 18),(.t 19),(.t 24)] none),oM 3 25])) (.reg [oM 16 6,oO 17 (.bin .add (.t 16) (kI 64)),oM 6 17]))
def Bf:aB:=⟨1,33,.seq (.reg [oO 2 (.mv (.k (.c .nil)))]) (.seq (.reg [oO 7 (.call 42 [] none),oO 8 (.call 43 [] none),oM 3 7,oM 4 8]) (.seq (.reg [oM 9 0,oO 10 (.len (.t 9)),oO 11 (.bin .quo (.t 10) (kI 64)),oO 12 (.bin .mul (.t 11) (kI 64)),oM 5 12]) (.seq (.seq (.reg [oO 6 (.mv (kI 0))]) (.block 0 (.loop qT))) (.seq (.reg [oM 26 3,oM 27 0,oM 28 5,oO 29 (.slice 1 (.t 27) (some (.t 28)) none none),oM 30 0,oO 31 (.len (.t 30)),oO 32 (.call 45 [(.t 26),(.t 29),(.t 31)] (some (0,1))),oM 2 32]) (.ret))))),[(2,none)]⟩
theorem KR:aA Try.prog { own:=[32],comp:=[],frz:=[],nils:=[] } Try.f24=some Bf:=by kernel_rfl
theorem M3 (G:aj) (b:List UInt8) (hb:b.length≤140737488355328):ap Try.prog G 24 [.sl (b.map bD)] (.w (.c (.fr 1 ((jD b).map bD)))):=by
  refine aD Try.func24 KR rfl rfl ?_;have e1:(b.length:Int).tdiv 64=((b.length / 64:Nat):Int):=rfl;have e2:((b.length / 64:Nat):Int)*64=((64*(b.length / 64):Nat):Int):=by omega
  have e3:IntKind.i64.wrap ((64*(b.length / 64):Nat):Int)=((64*(b.length / 64):Nat):Int):=IntWalk.i64_in _ (by omega);have e4:IntKind.i64.wrap ((b.length / 64:Nat):Int)=((b.length / 64:Nat):Int):=IntWalk.i64_in _ (by omega);simp only[Bf,ai,wx,wy,aa,seval,iteOmega,toNatUp];refine bO (MQ G) rfl (.inl rfl) ?_;simp only[wx,wy,aa,seval,iteOmega,toNatUp];refine bO (Dr G) rfl (.inl rfl) ?_;simp only[wx,wy,aa,seval,iteOmega,toNatUp,e1,e2,e3,e4];refine bp (uu b) (fun n=>b.length / 64-n) (fun n=>n≤b.length / 64) 0 (Pu _) ?_ ?_
  ·refine aF id ?_ ?_ rfl rfl <;> simp only[wx,aG,aa,seval,iteOmega,toNatUp,cm]
  ·intro n hn;have hl8:=mX vI b n;by_cases hlt:n<b.length / 64
   ·have h2:((b.drop (64*n)).take 64).length=64:=by rw[Pl,Pp]; omega
    have e1:64*n+64-64*n=64:=by omega
    have e5:IntKind.i64.wrap (((64*n:Nat):Int)+64)=((64*(n+1):Nat):Int):=by rw[IntWalk.i64_in _ (by omega)]; omega
    have e6:64*(n+1)-64*n=64:=by omega
    simp only[qT,uu,wx,wy,aa,seval,iteOmega,toNatUp,e1,e5,e6];refine bO (zp G (cm eR b n) ((b.drop (64*n)).take 64) hl8 h2) ?_ (.inl rfl) ?_
    ·simp only[wx,wy,aa,seval,iteOmega,toNatUp]
    simp only[wx,wy,aa,seval,iteOmega,toNatUp,e5];refine bd (n+1) (by omega) (by omega) (aF id ?_ ?_ rfl rfl) <;> simp only[wx,aG,aa,seval,iteOmega,toNatUp,cm]
   ·obtain rfl:n=b.length / 64:=by omega
    have e1:List.take (b.length-64*(b.length / 64)) (b.drop (64*(b.length / 64)))=b.drop (64*(b.length / 64)):=Pk (by rw[Pp]; exact Pn _);simp only[qT,uu,wx,wy,aa,seval,iteOmega,toNatUp,e1];refine bO (M2 G (cm eR b (b.length / 64)) (b.drop (64*(b.length / 64))) b.length hl8 (by rw[Pp]; omega) hb) ?_ (.inl rfl) ?_
    ·simp only[wx,wy,aa,seval,iteOmega,toNatUp]
    simp only[wx,wy,aa,seval,iteOmega,toNatUp];exact dY (id:=256) (n:=(i6 (cm eR b (b.length / 64)) (b.drop (64*(b.length / 64))) b.length).length) (s:=1) (by simp only[wx,aa,seval,iteOmega,toNatUp]) (by simp only[wx,aa,seval,iteOmega,toNatUp] <;> rfl) (by rw[Pr]; rfl)

def ft (v m:Int):Int:=if m<1 then 0 else v%m
theorem mA (v m:Int) (h:1≤m):0≤ft v m∧ft v m<m:=by
  unfold ft;rw[if_neg (by omega)];exact⟨Int.emod_nonneg _ (by omega),Int.emod_lt_of_pos _ (by omega)⟩
theorem IW {v m:Int} (hm:0<m) (h:v.tmod m<0):v.tmod m+m=v%m:=by
  have h1:=Int.emod_add_mul_ediv v m;have h2:=Int.tmod_add_mul_tdiv v m;have h3:=Int.emod_nonneg v (show m≠0 by omega);have h4:=Int.emod_lt_of_pos v hm;have h5:=Int.lt_tmod_of_pos v hm;have e:m*(v.tdiv m-v / m)=v%m-v.tmod m:=by rw[Int.mul_sub]; omega
  have k1:v.tdiv m-v / m=1:=by
    rcases Int.lt_trichotomy (v.tdiv m-v / m) 1 with hlt | heq | hgt
    ·exfalso;have:v.tdiv m-v / m≤0:=by omega
     have:=QH this (show 0≤m by omega);omega
    ·exact heq
    ·exfalso;have:2≤v.tdiv m-v / m:=by omega
     have:=QH this (show 0≤m by omega);omega
  rw[k1] at e;omega
theorem IX {v m:Int} (hm:0<m) (h:0≤v.tmod m):v.tmod m=v%m:=by
  have h1:=Int.emod_add_mul_ediv v m;have h2:=Int.tmod_add_mul_tdiv v m;have h3:=Int.emod_nonneg v (show m≠0 by omega);have h4:=Int.emod_lt_of_pos v hm;have h5:=Int.tmod_lt_of_pos v hm;have e:m*(v.tdiv m-v / m)=v%m-v.tmod m:=by rw[Int.mul_sub]; omega
  have k1:v.tdiv m-v / m=0:=by
    rcases Int.lt_trichotomy (v.tdiv m-v / m) 0 with hlt | heq | hgt
    ·exfalso;have:v.tdiv m-v / m ≤ -1:=by omega
     have:=QH this (show 0≤m by omega);omega
    ·exact heq
    ·exfalso;have:1≤v.tdiv m-v / m:=by omega
     have:=QH this (show 0≤m by omega);omega
  rw[k1] at e;omega
def mY:aB:=⟨2,16,.seq (.reg [oO 4 (.mv (kI 0))]) (.seq (.seq (.reg [oM 5 1,oO 6 (.bin .lss (.t 5) (kI 1))]) (.cond (.t 6) (.seq (.reg [oO 4 (.mv (kI 0))]) (.ret)) (.skip))) (.seq (.reg [oM 7 0,oM 8 1,oO 9 (.bin .rem (.t 7) (.t 8)),oM 0 9]) (.seq (.seq (.reg [oM 10 0,oO 11 (.bin .lss (.t 10) (kI 0))]) (.cond (.t 11) (.reg [oM 12 0,oM 13 1,oO 14 (.bin .add (.t 12) (.t 13)),oM 0 14]) (.skip))) (.seq (.reg [oM 15 0,oM 4 15]) (.ret))))),[(4,none)]⟩
theorem Hc:aA Try.prog { own:=[],comp:=[],frz:=[],nils:=[] } Try.f8=some mY:=by kernel_rfl
theorem nr (G:aj) (v m:Int) (hm:m≤9223372036854775807):ap Try.prog G 8 [.int .i64 v,.int .i64 m] (.w (.c (.d (.int .i64 (ft v m))))):=by
  refine aD Try.func8 Hc rfl rfl ?_;unfold ft;by_cases h:m<1
  ·rw[if_pos h];simp only[mY,ai,ae,aa,seval,iteOmega,toNatUp];exact aI
  ·rw[if_neg h];have hne:¬ m=0:=by omega
   have h4:=Int.tmod_lt_of_pos v (show 0<m by omega);by_cases hn:v.tmod m<0
   ·have e:=IW (by omega) hn;have h3:=Int.emod_lt_of_pos v (show 0<m by omega);have h5:=Int.emod_nonneg v (show m≠0 by omega);simp only[mY,ai,ae,aa,seval,iteOmega,toNatUp,hne];exact lH (by simp only[ae,aa,seval,iteOmega,toNatUp,e])
   ·have e:=IX (v:=v) (show 0<m by omega) (by omega);simp only[mY,ai,ae,aa,seval,iteOmega,toNatUp,hne];exact lH (by simp only[ae,aa,seval,iteOmega,toNatUp,e])
def jn (s i:Nat):List UInt8:=jD (au s 8++au i 4)
def ep (s:Nat) (k:Nat):List UInt8:=((List.range k).map (jn s)).flatten
theorem vm (s k:Nat):ep s k++jn s k=ep s (k+1):=by simp[ep,List.range_succ]
theorem mI (s:Nat):∀ k,(ep s k).length=32*k
  | 0=>rfl
  | k+1=>by rw[← vm,Ph,mI s k]; unfold jn; rw[zq]; omega
def cU (seed n:Int):List UInt8:=(ep (seed%18446744073709551616).toNat ((n.toNat+31) / 32)).take n.toNat
theorem mJ (seed n:Int):(cU seed n).length=n.toNat:=by
  unfold cU; rw[Pl,mI]; omega
def oY (seed n:Int) (s:Nat) (k:Nat):St:=⟨aU [(0,.w (.c (.d (.int .i64 seed)))),(1,.w (.c (.d (.int .i64 n)))),(5,.w (.c (.own 1 1 0 (ep s k).length))),(6,.w (.c (.d (.int .i64 (k:Int)))))],hL [(1,.row 1 ((ep s k).map bD))],uL [1]⟩
def mE:aK := .seq (.seq (.reg [oM 8 5,oO 9 (.len (.t 8)),oM 10 1,oO 11 (.bin .lss (.t 9) (.t 10))]) (.cond (.t 11) (.skip) (.exit 0))) (.seq (.block 1 (.reg [oM 14 5,oM 15 0,oO 16 (.conv .u64 (.t 15)),oO 17 (.call 26 [(.t 16),(kI 8)] none),oM 18 6,oO 19 (.conv .u64 (.t 18)),oO 20 (.call 26 [(.t 19),(kI 4)] none),oO 21 (.bldSl false 2 1 (.sl []) [(0,(.t 17)),(1,(.t 20))]),oO 22 (.call 25 [(.t 21)] none),oO 23 (.call 24 [(.t 22)] none),oO 24 (.app false 1 1 (.t 14) (.t 23)),oM 5 24])) (.reg [oM 12 6,oO 13 (.bin .add (.t 12) (kI 1)),oM 6 13]))
def xl:aB:=⟨2,29,.seq (.reg [oO 4 (.mv (.k (.c .nil)))]) (.seq (.reg [oO 7 (.bldSl true 0 1 (.int .u8 0) []),oM 5 7]) (.seq (.seq (.reg [oO 6 (.mv (kI 0))]) (.block 0 (.loop mE))) (.seq (.reg [oM 25 5,oM 26 1,oO 27 (.max [(.t 26),(kI 0)]),oO 28 (.slice 1 (.t 25) none (some (.t 27)) none),oM 4 28]) (.ret)))),[(4,none)]⟩
theorem He:aA Try.prog { own:=[7],comp:=[],frz:=[],nils:=[] } Try.f10=some xl:=by kernel_rfl
set_option maxHeartbeats 1600000 in
theorem IY (G:aj) (seed n:Int) (hn:n≤1099511627776):ap Try.prog G 10 [.int .i64 seed,.int .i64 n] (.w (.c (.fr 1 ((cU seed n).map bD)))):=by
  refine aD Try.func10 He rfl rfl ?_;obtain⟨s,hs⟩:∃ s:Nat,(seed%18446744073709551616).toNat=s:=⟨_,rfl⟩
  have hw:IntKind.u64.wrap seed=(s:Int):=by rw[IntKind.wrap_u64,← hs]; omega
  have hs2:s<18446744073709551616:=by omega
  have hK:cU seed n=(ep s ((n.toNat+31) / 32)).take n.toNat:=by unfold cU; rw[hs]
  rw[hK];simp only[xl,ai,ae,aa,seval,iteOmega,toNatUp];refine bp (oY seed n s) (fun k=>(n.toNat+31) / 32-k) (fun k=>k≤(n.toNat+31) / 32) 0 (Pu _) ?_ ?_
  ·refine aF (fun _=>56) ?_ ?_ rfl rfl <;> simp only[wx,aG,aP,aa,seval,iteOmega,toNatUp] <;> rfl
  ·intro k hk;have hl:=mI s k;by_cases hlt:k<(n.toNat+31) / 32
   ·have hc:((ep s k).length:Int)<n:=by omega
    have hj:=AC G [au s 8,au k 4] (by simp) (by simp[cL]);have hf:[au s 8,au k 4].flatten=au s 8++au k 4:=by simp
    rw[hf] at hj;have hb:=vm s k;have hk2:IntKind.u64.wrap (k:Int)=(k:Int):=u64_in _ (by omega) (by omega);simp only[mE,oY,wx,wy,aa,seval,iteOmega,toNatUp,hw,hk2];refine bO (nC G s 8 (by decide)) rfl (.inl rfl) ?_;simp only[wx,wy,aa,seval,iteOmega,toNatUp,hw,hk2];refine bO (nC G k 4 (by decide)) rfl (.inl rfl) ?_;simp only[wx,wy,aa,seval,iteOmega,toNatUp];refine bO hj rfl (.inl rfl) ?_;simp only[wx,wy,aa,seval,iteOmega,toNatUp];refine bO (M3 G (au s 8++au k 4) (by simp[cL])) rfl (.inl rfl) ?_;have hh:(jD (au s 8++au k 4)).length=32:=zq _;have hb':ep s k++jD (au s 8++au k 4)=ep s (k+1):=hb;simp only[ae,aa,seval,iteOmega,toNatUp,cp,gW,hb',hh];refine bd (k+1) (by omega) (by omega) (aF (fun _=>192) ?_ ?_ rfl rfl) <;> simp only[wx,aG,aP,aa,seval,iteOmega,toNatUp]
   ·obtain rfl:k=(n.toNat+31) / 32:=by omega
    have hc:¬ ((ep s ((n.toNat+31) / 32)).length:Int)<n:=by omega
    by_cases h0:n<0
    ·have e0:n.toNat=0:=by omega
     simp only[mE,oY,ae,aa,seval,iteOmega,toNatUp,hc,Qu,List.foldl_nil];rw[e0,List.map_take];exact yR (id:=1) (s:=1) (by simp only[wx,aa,seval,iteOmega,toNatUp]) (by simp only[wx,aa,seval,iteOmega,toNatUp]) (Pu _)
    ·simp only[mE,oY,ae,aa,seval,iteOmega,toNatUp,hc,Qu,List.foldl_nil];rw[List.map_take];exact yR (id:=1) (s:=1) (by simp only[wx,aa,seval,iteOmega,toNatUp]) (by simp only[wx,aa,seval,iteOmega,toNatUp]) (by rw[Pr,mI]; omega)
theorem zr (G:aj) (seed n:Int) (hn:n≤1099511627776):ap Try.prog G 10 [.int .i64 seed,.int .i64 n] (.w (.c (.d (.sl ((cU seed n).map bD))))):=jj (IY G seed n hn)
def pk (f:Nat→Nat):Nat→Nat
  | 0=>0
  | L+1=>2^(64*L)*f L+pk f L
theorem Eo {f:Nat→Nat} (hf:∀ s,f s<2^64):∀ L,pk f L<2^(64*L)
  | 0=>by simp[pk]
  | L+1=>by
    have ih:=Eo hf L;have h:=hf L;have e:2^(64*(L+1))=2^(64*L)*2^64:=by rw[← Nat.pow_add]; congr 1
    have:2^(64*L)*f L+2^(64*L)≤2^(64*L)*2^64:=by
      rw[← Nat.mul_succ]; exact Nat.mul_le_mul_left _ h
    rw[pk,e]; omega
theorem eu {f:Nat→Nat} (hf:∀ s,f s<2^64):∀ (L j:Nat),(pk f L).testBit j=(decide (j / 64<L)&&(f (j / 64)).testBit (j%64))
  | 0,j=>by simp[pk]
  | L+1,j=>by
    rw[pk,Nat.testBit_two_pow_mul_add _ (Eo hf L)];by_cases h:j<64*L
    ·rw[if_pos h,eu hf L j];rw[decide_eq_true (show j / 64<L by omega),decide_eq_true (show j / 64<L+1 by omega)]
    ·rw[if_neg h];by_cases h2:j / 64=L
     ·rw[h2,decide_eq_true (Nat.lt_succ_self L),QO]
      congr 1; omega
     ·rw[decide_eq_false (show ¬ j / 64<L+1 by omega),Bool.false_and];refine Nat.testBit_lt_two_pow (Nat.lt_of_lt_of_le (hf L) (Nat.pow_le_pow_right (by decide) (by omega)))
theorem dz {f g:Nat→Nat}:∀ {L:Nat},(∀ s,s<L→f s=g s)→pk f L=pk g L
  | 0,_=>rfl
  | L+1,h=>by rw[pk,pk,h L (Nat.lt_succ_self L),dz fun s hs=>h s (by omega)]
theorem ew (f g:Nat→Nat):∀ L,Nat.add (pk f L) (pk g L)=pk (fun s=>Nat.add (f s) (g s)) L
  | 0=>rfl
  | L+1=>by
    have ih:=ew f g L
    show (2^(64*L)*f L+pk f L)+(2^(64*L)*g L+pk g L)=2^(64*L)*(f L+g L)+pk _ L
    rw[← ih,Nat.mul_add]
    show _=_+(pk f L+pk g L)
    omega
theorem tz (f:Nat→Nat) (c:Nat):∀ L,Nat.mul (pk f L) c=pk (fun s=>Nat.mul (f s) c) L
  | 0=>QC c
  | L+1=>by
    have ih:=tz f c L
    show (2^(64*L)*f L+pk f L)*c=2^(64*L)*(f L*c)+pk _ L
    rw[← ih,PG,Nat.mul_assoc]; rfl
theorem nO (f:Nat→Nat) (c L:Nat):Nat.mul c (pk f L)=pk (fun s=>Nat.mul c (f s)) L:=by
  show c*pk f L=_
  rw[QK];refine (tz f c L).trans (dz fun s _=>QK _ _)
theorem rI {a b:Nat} (ha:a<2^64) (hb:b<2^64):Nat.xor a b<2^64:=Nat.xor_lt_two_pow ha hb
theorem ns {a b:Nat} (ha:a<2^64):Nat.land a b<2^64:=Ql Nat.and_le_left ha
theorem lM {f g:Nat→Nat} (hf:∀ s,f s<2^64) (hg:∀ s,g s<2^64) (L:Nat):Nat.xor (pk f L) (pk g L)=pk (fun s=>Nat.xor (f s) (g s)) L:=by
  show pk f L ^^^ pk g L=_
  refine Nat.eq_of_testBit_eq fun j=>?_
  rw[P2,eu hf,eu hg,eu (fun s=>rI (hf s) (hg s))]
  show _=(_&&(f (j / 64) ^^^ g (j / 64)).testBit _)
  rw[P2];cases decide (j / 64<L) <;> simp
theorem oe {f g:Nat→Nat} (hf:∀ s,f s<2^64) (hg:∀ s,g s<2^64) (L:Nat):Nat.land (pk f L) (pk g L)=pk (fun s=>Nat.land (f s) (g s)) L:=by
  show pk f L &&& pk g L=_
  refine Nat.eq_of_testBit_eq fun j=>?_
  rw[Nat.testBit_and,eu hf,eu hg,eu (fun s=>ns (hf s))]
  show _=(_&&(f (j / 64) &&& g (j / 64)).testBit _)
  rw[Nat.testBit_and];cases decide (j / 64<L) <;> simp
def fJ:Nat:=4294967295
theorem lB (j:Nat):fJ.testBit j=decide (j<32):=Nat.testBit_two_pow_sub_one 32 j
theorem m64 (s:Nat):(fun _:Nat=>fJ) s<2^64:=by show fJ<_; decide
def i8 (m x y:Nat) (a b c:Nat):Nat:=Nat.land (Nat.xor (Nat.xor (Nat.shiftRight x a) (Nat.shiftRight x b)) (Nat.shiftRight y c)) m
theorem j6 (m x y a b c j:Nat):(i8 m x y a b c).testBit j=((((x.testBit (a+j)) ^^ (x.testBit (b+j))) ^^ (y.testBit (c+j)))&&m.testBit j):=by
  show (((x >>> a ^^^ x >>> b) ^^^ y >>> c) &&& m).testBit j=_
  simp only[Nat.testBit_and,P2,Nat.testBit_shiftRight]
theorem lN (x y a b c:Nat):i8 fJ x y a b c<2^32:=Ql Nat.and_le_right (by decide)
theorem oh {f g:Nat→Nat} (hf:∀ s,f s<2^64) (hg:∀ s,g s<2^64) {a b c:Nat} (ha:a≤32) (hb:b≤32) (hc:c≤32) (L:Nat):i8 (pk (fun _=>fJ) L) (pk f L) (pk g L) a b c=pk (fun s=>i8 fJ (f s) (g s) a b c) L:=by
  refine Nat.eq_of_testBit_eq fun j=>?_
  rw[j6,eu hf,eu hf,eu hg,eu m64,eu (fun s=>Nat.lt_trans (lN _ _ _ _ _) (by decide)),j6,lB];by_cases h:j%64<32
  ·rw[show (a+j) / 64=j / 64 by omega,show (b+j) / 64=j / 64 by omega,show (c+j) / 64=j / 64 by omega,show (a+j)%64=a+j%64 by omega,show (b+j)%64=b+j%64 by omega,show (c+j)%64=c+j%64 by omega];cases decide (j / 64<L) <;> simp
  ·rw[decide_eq_false h]; simp
def fD (x:Nat):Nat:=Nat.mul x 4294967297
def mr (m x:Nat):Nat:=i8 m (fD x) (fD x) 6 11 25
def mu (m x:Nat):Nat:=i8 m (fD x) (fD x) 2 13 22
def mw (m x:Nat):Nat:=i8 m (fD x) x 7 18 3
def my (m x:Nat):Nat:=i8 m (fD x) x 17 19 10
def pP (e f g:Nat):Nat:=Nat.xor g (Nat.land e (Nat.xor f g))
def pQ (a b c:Nat):Nat:=Nat.xor (Nat.land a (Nat.xor b c)) (Nat.land b c)
theorem KS {x:Nat} (hx:x<2^32) (j:Nat):(fD x).testBit j=if j<32 then x.testBit j else x.testBit (j-32):=by
  have e:fD x=2^32*x+x:=by show x*4294967297=_; omega
  rw[e,Nat.testBit_two_pow_mul_add _ hx]
theorem tA {x:Nat} (hx:x<2^32) {j:Nat} (h:32≤j):x.testBit j=false:=Nat.testBit_lt_two_pow (Nat.lt_of_lt_of_le hx (Nat.pow_le_pow_right (by decide) h))
theorem gy (x:UInt32) {r:Nat} (h0:0<r) (h:r<32) {j:Nat} (hj:j<32):(eW x r).toNat.testBit j=(fD x.toNat).testBit (r+j):=by
  have hx:x.toNat<2^32:=x.toNat_lt;rw[KS hx];unfold eW iz ik gG;rw[UInt32.toNat_or,UInt32.toNat_ofNat',UInt32.toNat_ofNat',Nat.testBit_or,Nat.testBit_mod_two_pow,Nat.testBit_mod_two_pow,decide_eq_true hj,QO,QO,Nat.testBit_div_two_pow,QK,Nat.testBit_two_pow_mul];by_cases hr:r+j<32
  ·rw[if_pos hr,decide_eq_false (show ¬ j≥32-r by omega),Nat.add_comm]; simp
  ·rw[if_neg hr,decide_eq_true (show j≥32-r by omega),QO,tA hx (by omega),Bool.false_or]
   congr 1; omega
theorem Bh (x:UInt32) {r j:Nat} (hj:j<32):(ik x r).toNat.testBit j=x.toNat.testBit (r+j):=by
  unfold ik;rw[UInt32.toNat_ofNat',Nat.testBit_mod_two_pow,decide_eq_true hj,QO,Nat.testBit_div_two_pow,Nat.add_comm]
theorem kk {x:Nat} {y:UInt32} (h:∀ j,j<32→x.testBit j=y.toNat.testBit j) (hx:x<2^32):x=y.toNat:=by
  refine Nat.eq_of_testBit_eq fun j=>?_
  by_cases hj:j<32
  ·exact h j hj
  ·rw[tA hx (by omega),tA y.toNat_lt (by omega)]
theorem Og (x:UInt32):mr fJ x.toNat=(gL x).toNat:=by
  refine kk (fun j hj=>?_) (lN _ _ _ _ _);unfold mr gL cO;rw[j6,UInt32.toNat_xor,UInt32.toNat_xor,P2,P2,gy x (by decide) (by decide) hj,gy x (by decide) (by decide) hj,gy x (by decide) (by decide) hj,lB,decide_eq_true hj,QN]
theorem Oh (x:UInt32):mu fJ x.toNat=(iu x).toNat:=by
  refine kk (fun j hj=>?_) (lN _ _ _ _ _);unfold mu iu cO;rw[j6,UInt32.toNat_xor,UInt32.toNat_xor,P2,P2,gy x (by decide) (by decide) hj,gy x (by decide) (by decide) hj,gy x (by decide) (by decide) hj,lB,decide_eq_true hj,QN]
theorem Oi (x:UInt32):mw fJ x.toNat=(g9 x).toNat:=by
  refine kk (fun j hj=>?_) (lN _ _ _ _ _);unfold mw g9 cO;rw[j6,UInt32.toNat_xor,UInt32.toNat_xor,P2,P2,gy x (by decide) (by decide) hj,gy x (by decide) (by decide) hj,Bh x hj,lB,decide_eq_true hj,QN]
theorem Oj (x:UInt32):my fJ x.toNat=(hC x).toNat:=by
  refine kk (fun j hj=>?_) (lN _ _ _ _ _);unfold my hC cO;rw[j6,UInt32.toNat_xor,UInt32.toNat_xor,P2,P2,gy x (by decide) (by decide) hj,gy x (by decide) (by decide) hj,Bh x hj,lB,decide_eq_true hj,QN]
theorem KT (x:UInt32) {j:Nat} (hj:j<32):(kJ x).toNat.testBit j=!x.toNat.testBit j:=by
  have h:=x.toNat_lt;unfold kJ;rw[UInt32.toNat_ofNat_of_lt' (by simp[UInt32.size]; omega),show 4294967295-x.toNat=2^32-(x.toNat+1) by omega,Nat.testBit_two_pow_sub_succ h,decide_eq_true hj,QO]
theorem Ol (e f g:UInt32):pP e.toNat f.toNat g.toNat=(gR e f g).toNat:=by
  have he:e.toNat<2^32:=e.toNat_lt;have hf:f.toNat<2^32:=f.toNat_lt;have hg:g.toNat<2^32:=g.toNat_lt;refine kk (fun j hj=>?_) (Nat.xor_lt_two_pow hg (Ql Nat.and_le_left he))
  show (g.toNat ^^^ (e.toNat &&& (f.toNat ^^^ g.toNat))).testBit j=_
  unfold gR cO gF;rw[UInt32.toNat_xor,UInt32.toNat_and,UInt32.toNat_and];simp only[P2,Nat.testBit_and,KT e hj];cases e.toNat.testBit j <;> cases f.toNat.testBit j <;> cases g.toNat.testBit j <;> rfl
theorem Om (a b c:UInt32):pQ a.toNat b.toNat c.toNat=(iv a b c).toNat:=by
  have ha:a.toNat<2^32:=a.toNat_lt;have hb:b.toNat<2^32:=b.toNat_lt;refine kk (fun j hj=>?_) (Nat.xor_lt_two_pow (Ql Nat.and_le_left ha) (Ql Nat.and_le_left hb))
  show ((a.toNat &&& (b.toNat ^^^ c.toNat)) ^^^ (b.toNat &&& c.toNat)).testBit j=_
  unfold iv cO gF;simp only[UInt32.toNat_xor,UInt32.toNat_and,P2,Nat.testBit_and];cases a.toNat.testBit j <;> cases b.toNat.testBit j <;> cases c.toNat.testBit j <;> rfl
structure E8 where
  (a b c d e f g h:Nat)
def kN:List Nat:=[0x428a2f98,0x71374491,0xb5c0fbcf,0xe9b5dba5,0x3956c25b,0x59f111f1,0x923f82a4,0xab1c5ed5,0xd807aa98,0x12835b01,0x243185be,0x550c7dc3,0x72be5d74,0x80deb1fe,0x9bdc06a7,0xc19bf174,0xe49b69c1,0xefbe4786,0x0fc19dc6,0x240ca1cc,0x2de92c6f,0x4a7484aa,0x5cb0a9dc,0x76f988da,0x983e5152,0xa831c66d,0xb00327c8,0xbf597fc7,0xc6e00bf3,0xd5a79147,0x06ca6351,0x14292967,0x27b70a85,0x2e1b2138,0x4d2c6dfc,0x53380d13,0x650a7354,0x766a0abb,0x81c2c92e,0x92722c85,0xa2bfe8a1,0xa81a664b,0xc24b8b70,0xc76c51a3,0xd192e819,0xd6990624,0xf40e3585,0x106aa070,0x19a4c116,0x1e376c08,0x2748774c,0x34b0bcb5,0x391c0cb3,0x4ed8aa4a,0x5b9cca4f,0x682e6ff3,0x748f82ee,0x78a5636f,0x84c87814,0x8cc70208,0x90befffa,0xa4506ceb,0xbef9a3f7,0xc67178f2]
theorem On:kN=bZ.map UInt32.toNat:=by decide
noncomputable def ma (T:Nat→Nat→Nat→Nat→Nat→Nat→Nat) (A:Nat→Nat→Nat→Nat→Nat) (E:Nat→Nat→Nat) (N:Nat→Nat→Nat→Nat→Nat) (ks:List Nat):Nat→Nat→Nat→Nat→Nat→Nat→Nat→Nat→Nat→Nat→Nat→Nat→Nat→Nat→Nat→Nat→Nat→Nat→Nat→Nat→Nat→Nat→Nat→Nat→E8 :=
  @List.rec Nat (fun _=>Nat→Nat→Nat→Nat→Nat→Nat→Nat→Nat→Nat→Nat→Nat→Nat→Nat→Nat→Nat→Nat→Nat→Nat→Nat→Nat→Nat→Nat→Nat→Nat→E8)
    (fun a b c d e f g h _ _ _ _ _ _ _ _ _ _ _ _ _ _ _ _=>E8.mk a b c d e f g h)
    (fun k _ ih a b c d e f g h w0 w1 w2 w3 w4 w5 w6 w7 w8 w9 w10 w11 w12 w13 w14 w15=>(fun t1=>ih (A t1 a b c) a b c (E d t1) e f g w1 w2 w3 w4 w5 w6 w7 w8 w9 w10 w11 w12 w13 w14 w15 (N w0 w1 w9 w14)) (T k h w0 e f g)) ks
section
variable (T:Nat→Nat→Nat→Nat→Nat→Nat→Nat) (A:Nat→Nat→Nat→Nat→Nat) (E:Nat→Nat→Nat) (N:Nat→Nat→Nat→Nat→Nat) (a b c d e f g h w0 w1 w2 w3 w4 w5 w6 w7 w8 w9 w10 w11 w12 w13 w14 w15:Nat)
theorem Hg (k:Nat) (ks:List Nat):ma T A E N (k::ks) a b c d e f g h w0 w1 w2 w3 w4 w5 w6 w7 w8 w9 w10 w11 w12 w13 w14 w15=ma T A E N ks (A (T k h w0 e f g) a b c) a b c (E d (T k h w0 e f g)) e f g w1 w2 w3 w4 w5 w6 w7 w8 w9 w10 w11 w12 w13 w14 w15 (N w0 w1 w9 w14):=rfl
end
def TN (one m k h w e f g:Nat):Nat:=Nat.add (Nat.add h (Nat.add w (Nat.mul k one))) (Nat.add (mr m e) (pP e f g))
def AN (m t a b c:Nat):Nat:=Nat.land (Nat.add t (Nat.add (mu m a) (pQ a b c))) m
def EN (m d t:Nat):Nat:=Nat.land (Nat.add d t) m
def NN (m w0 w1 w9 w14:Nat):Nat:=Nat.land (Nat.add (Nat.add w0 (mw m w1)) (Nat.add w9 (my m w14))) m
noncomputable def uv (P:Nat→Nat→Nat) (s t:E8):E8 :=
  E8.rec (fun a b c d e f g h=>E8.rec (fun a' b' c' d' e' f' g' h'=>E8.mk (P a a') (P b b') (P c c') (P d d') (P e e') (P f f') (P g g') (P h h')) t) s
theorem KU (P:Nat→Nat→Nat) (a b c d e f g h a' b' c' d' e' f' g' h':Nat):uv P (E8.mk a b c d e f g h) (E8.mk a' b' c' d' e' f' g' h')=E8.mk (P a a') (P b b') (P c c') (P d d') (P e e') (P f f') (P g g') (P h h'):=rfl
noncomputable def EM (T:Nat→Nat→Nat→Nat→Nat→Nat→Nat) (A:Nat→Nat→Nat→Nat→Nat) (E:Nat→Nat→Nat) (N:Nat→Nat→Nat→Nat→Nat) (ks:List Nat) (s:E8) (w0 w1 w2 w3 w4 w5 w6 w7 w8 w9 w10 w11 w12 w13 w14 w15:Nat):E8 :=
  E8.rec (fun a b c d e f g h=>ma T A E N ks a b c d e f g h w0 w1 w2 w3 w4 w5 w6 w7 w8 w9 w10 w11 w12 w13 w14 w15) s
theorem KV (T:Nat→Nat→Nat→Nat→Nat→Nat→Nat) (A:Nat→Nat→Nat→Nat→Nat) (E:Nat→Nat→Nat) (N:Nat→Nat→Nat→Nat→Nat) (ks:List Nat) (a b c d e f g h w0 w1 w2 w3 w4 w5 w6 w7 w8 w9 w10 w11 w12 w13 w14 w15:Nat):EM T A E N ks (E8.mk a b c d e f g h) w0 w1 w2 w3 w4 w5 w6 w7 w8 w9 w10 w11 w12 w13 w14 w15=ma T A E N ks a b c d e f g h w0 w1 w2 w3 w4 w5 w6 w7 w8 w9 w10 w11 w12 w13 w14 w15:=rfl
noncomputable def uw (one m:Nat) (s:E8) (w0 w1 w2 w3 w4 w5 w6 w7 w8 w9 w10 w11 w12 w13 w14 w15:Nat):E8:=uv (EN m) s (EM (TN one m) (AN m) (EN m) (NN m) kN s w0 w1 w2 w3 w4 w5 w6 w7 w8 w9 w10 w11 w12 w13 w14 w15)
def pw (x:Nat→UInt32) (L:Nat):Nat:=pk (fun s=>(x s).toNat) L
abbrev dd (L:Nat):Nat:=pk (fun _=>1) L
abbrev dm (L:Nat):Nat:=pk (fun _=>fJ) L
theorem df (x:UInt32):x.toNat<2^64:=Nat.lt_trans x.toNat_lt (by decide)
theorem kB (x:UInt32):fD x.toNat<2^64:=by
  have:=x.toNat_lt
  show x.toNat*4294967297<_
  omega
theorem ol (x:Nat→UInt32) (L:Nat):fD (pw x L)=pk (fun s=>fD (x s).toNat) L:=tz _ _ _
theorem M7 (x:Nat→UInt32) (L:Nat):mr (dm L) (pw x L)=pw (fun s=>gL (x s)) L:=by
  unfold mr;rw[ol,oh (fun s=>kB _) (fun s=>kB _) (by decide) (by decide) (by decide)];exact dz fun s _=>Og (x s)
theorem M8 (x:Nat→UInt32) (L:Nat):mu (dm L) (pw x L)=pw (fun s=>iu (x s)) L:=by
  unfold mu;rw[ol,oh (fun s=>kB _) (fun s=>kB _) (by decide) (by decide) (by decide)];exact dz fun s _=>Oh (x s)
theorem M9 (x:Nat→UInt32) (L:Nat):mw (dm L) (pw x L)=pw (fun s=>g9 (x s)) L:=by
  unfold mw;rw[ol];unfold pw;rw[oh (fun s=>kB _) (fun s=>df _) (by decide) (by decide) (by decide)];exact dz fun s _=>Oi (x s)
theorem Na (x:Nat→UInt32) (L:Nat):my (dm L) (pw x L)=pw (fun s=>hC (x s)) L:=by
  unfold my;rw[ol];unfold pw;rw[oh (fun s=>kB _) (fun s=>df _) (by decide) (by decide) (by decide)];exact dz fun s _=>Oj (x s)
theorem Nb (e f g:Nat→UInt32) (L:Nat):pP (pw e L) (pw f L) (pw g L)=pw (fun s=>gR (e s) (f s) (g s)) L:=by
  unfold pP pw;rw[lM (fun s=>df _) (fun s=>df _),oe (fun s=>df _) (fun s=>rI (df _) (df _)),lM (fun s=>df _) (fun s=>ns (df _))];exact dz fun s _=>Ol (e s) (f s) (g s)
theorem Nc (a b c:Nat→UInt32) (L:Nat):pQ (pw a L) (pw b L) (pw c L)=pw (fun s=>iv (a s) (b s) (c s)) L:=by
  unfold pQ pw;rw[lM (fun s=>df _) (fun s=>df _),oe (fun s=>df _) (fun s=>rI (df _) (df _)),oe (fun s=>df _) (fun s=>df _),lM (fun s=>ns (df _)) (fun s=>ns (df _))];exact dz fun s _=>Om (a s) (b s) (c s)
theorem IZ (x:Nat):Nat.land x fJ=x%4294967296:=Nat.and_two_pow_sub_one_eq_mod x 32
theorem om {f:Nat→Nat} (hf:∀ s,f s<2^64) (L:Nat):Nat.land (pk f L) (dm L)=pk (fun s=>f s%4294967296) L:=by
  rw[oe hf m64];exact dz fun s _=>IZ (f s)
def gj (S:aZ) (k w:UInt32):Nat:=(S.h.toNat+(w.toNat+k.toNat))+((gL S.e).toNat+(gR S.e S.f S.g).toNat)
theorem Oo (S:Nat→aZ) (k:UInt32) (w:Nat→UInt32) (L:Nat):TN (dd L) (dm L) k.toNat (pw (fun s=>(S s).h) L) (pw w L) (pw (fun s=>(S s).e) L) (pw (fun s=>(S s).f) L) (pw (fun s=>(S s).g) L)=pk (fun s=>gj (S s) k (w s)) L:=by
  unfold TN;rw[M7,Nb,nO];unfold pw;rw[ew,ew,ew,ew];refine dz fun s _=>?_
  show ((S s).h.toNat+((w s).toNat+k.toNat*1))+_=_
  rw[Qn]; rfl
theorem Ep (S:aZ) (k w:UInt32):gj S k w<21474836480:=by
  have h1:=S.h.toNat_lt;have h2:=w.toNat_lt;have h3:=k.toNat_lt;have h4:=(gL S.e).toNat_lt;have h5:=(gR S.e S.f S.g).toNat_lt;unfold gj;omega
theorem Oq (S:aZ) (k w:UInt32):(gj S k w+((iu S.a).toNat+(iv S.a S.b S.c).toNat))%4294967296=(S.step k w).a.toNat:=by
  show _=(aR (aR (aR (aR (aR S.h (gL S.e)) (gR S.e S.f S.g)) k) w) (aR (iu S.a) (iv S.a S.b S.c))).toNat
  unfold gj aR;simp only[UInt32.toNat_add];omega
theorem Or (S:aZ) (k w:UInt32):(S.d.toNat+gj S k w)%4294967296=(S.step k w).e.toNat:=by
  show _=(aR S.d (aR (aR (aR (aR S.h (gL S.e)) (gR S.e S.f S.g)) k) w)).toNat
  unfold gj aR;simp only[UInt32.toNat_add];omega
theorem KW (S:Nat→aZ) (k:UInt32) (w:Nat→UInt32) (L:Nat):AN (dm L) (pk (fun s=>gj (S s) k (w s)) L) (pw (fun s=>(S s).a) L) (pw (fun s=>(S s).b) L) (pw (fun s=>(S s).c) L)=pw (fun s=>((S s).step k (w s)).a) L:=by
  unfold AN;rw[M8,Nc];unfold pw;rw[ew,ew,om]
  ·exact dz fun s _=>Oq (S s) k (w s)
  ·intro s;have h1:=Ep (S s) k (w s);have h2:=(iu (S s).a).toNat_lt;have h3:=(iv (S s).a (S s).b (S s).c).toNat_lt
   show gj (S s) k (w s)+((iu (S s).a).toNat+(iv (S s).a (S s).b (S s).c).toNat)<_
   omega
theorem KX (S:Nat→aZ) (k:UInt32) (w:Nat→UInt32) (L:Nat):EN (dm L) (pw (fun s=>(S s).d) L) (pk (fun s=>gj (S s) k (w s)) L)=pw (fun s=>((S s).step k (w s)).e) L:=by
  unfold EN pw;rw[ew,om]
  ·exact dz fun s _=>Or (S s) k (w s)
  ·intro s;have h1:=Ep (S s) k (w s);have h2:=(S s).d.toNat_lt
   show (S s).d.toNat+gj (S s) k (w s)<_
   omega
def jF (w0 w1 w9 w14:UInt32):UInt32:=aR (aR (aR (hC w14) w9) (g9 w1)) w0
theorem Ot (w0 w1 w9 w14:UInt32):((w0.toNat+(g9 w1).toNat)+(w9.toNat+(hC w14).toNat))%4294967296=(jF w0 w1 w9 w14).toNat:=by
  unfold jF aR;simp only[UInt32.toNat_add];omega
theorem KY (w0 w1 w9 w14:Nat→UInt32) (L:Nat):NN (dm L) (pw w0 L) (pw w1 L) (pw w9 L) (pw w14 L)=pw (fun s=>jF (w0 s) (w1 s) (w9 s) (w14 s)) L:=by
  unfold NN;rw[M9,Na];unfold pw;rw[ew,ew,ew,om]
  ·exact dz fun s _=>Ot _ _ _ _
  ·intro s;have h1:=(w0 s).toNat_lt;have h2:=(g9 (w1 s)).toNat_lt;have h3:=(w9 s).toNat_lt;have h4:=(hC (w14 s)).toNat_lt
   show ((w0 s).toNat+(g9 (w1 s)).toNat)+((w9 s).toNat+(hC (w14 s)).toNat)<_
   omega
def dr:aZ→List UInt32→(Nat→UInt32)→aZ
  | S,[],_=>S
  | S,k::ks,w=>dr (S.step k (w 0)) ks (fun t=>w (t+1))
theorem Dx (L:Nat):∀ (ks:List UInt32) (S:Nat→aZ) (W:Nat→Nat→UInt32),(∀ t s,W (t+16) s=jF (W t s) (W (t+1) s) (W (t+9) s) (W (t+14) s)) →
    ma (TN (dd L) (dm L)) (AN (dm L)) (EN (dm L)) (NN (dm L)) (ks.map UInt32.toNat) (pw (fun s=>(S s).a) L) (pw (fun s=>(S s).b) L) (pw (fun s=>(S s).c) L) (pw (fun s=>(S s).d) L) (pw (fun s=>(S s).e) L) (pw (fun s=>(S s).f) L) (pw (fun s=>(S s).g) L) (pw (fun s=>(S s).h) L) (pw (W 0) L) (pw (W 1) L) (pw (W 2) L) (pw (W 3) L) (pw (W 4) L) (pw (W 5) L) (pw (W 6) L) (pw (W 7) L) (pw (W 8) L) (pw (W 9) L) (pw (W 10) L) (pw (W 11) L) (pw (W 12) L) (pw (W 13) L) (pw (W 14) L) (pw (W 15) L)=E8.mk (pw (fun s=>(dr (S s) ks (fun t=>W t s)).a) L) (pw (fun s=>(dr (S s) ks (fun t=>W t s)).b) L) (pw (fun s=>(dr (S s) ks (fun t=>W t s)).c) L) (pw (fun s=>(dr (S s) ks (fun t=>W t s)).d) L) (pw (fun s=>(dr (S s) ks (fun t=>W t s)).e) L) (pw (fun s=>(dr (S s) ks (fun t=>W t s)).f) L) (pw (fun s=>(dr (S s) ks (fun t=>W t s)).g) L) (pw (fun s=>(dr (S s) ks (fun t=>W t s)).h) L)
  | [],_,_,_=>rfl
  | k::ks,S,W,hW=>by
    have e0:=Oo S k (W 0) L;have e1:=KW S k (W 0) L;have e2:=KX S k (W 0) L;have e3:=KY (W 0) (W 1) (W 9) (W 14) L;have e4:(fun s=>jF (W 0 s) (W 1 s) (W 9 s) (W 14 s))=W 16:=funext fun s=>(hW 0 s).symm
    rw[e4] at e3;have ih:=Dx L ks (fun s=>(S s).step k (W 0 s)) (fun t=>W (t+1)) (fun t s=>hW (t+1) s);rw[Pi,Hg,e0,e1,e2,e3];exact ih
theorem vn (k:UInt32):∀ (ks:List UInt32) (S:aZ) (w:Nat→UInt32),dr S (ks++[k]) w=(dr S ks w).step k (w ks.length)
  | [],_,_=>rfl
  | _::ks,S,w=>vn k ks (S.step _ (w 0)) (fun t=>w (t+1))
theorem uX:∀ (ks:List UInt32) (S:aZ) (w v:Nat→UInt32),(∀ t,t<ks.length→w t=v t)→dr S ks w=dr S ks v
  | [],_,_,_,_=>rfl
  | k::ks,S,w,v,h=>by
    rw[dr,dr,h 0 (by simp)];exact uX ks _ _ _ fun t ht=>h (t+1) (by simpa using ht)
theorem uY (S:aZ) (ks w:List UInt32):∀ n,n≤ks.length→S.rounds ks w n=dr S (ks.take n) (fun t=>w.getD t 0)
  | 0,_=>rfl
  | n+1,h=>by
    rw[aZ.rounds,uY S ks w n (by omega),Qd (by omega),vn,Pl,QE (by omega),Pg,Pb (by omega)];rfl
theorem nu (b:List UInt8):∀ n,(bH b n).length=16+n
  | 0=>by unfold bH fq; simp
  | n+1=>by rw[bH,Ph,nu b n]; rfl
theorem qU (b:List UInt8) {j:Nat}:∀ (n d:Nat),j<16+n→(bH b (n+d)).getD j 0=(bH b n).getD j 0
  | _,0,_=>rfl
  | n,d+1,h=>by
    rw[← QL,bH,Pg,PX (by rw[nu]; omega),← Pg,qU b n d h]
theorem jT (b:List UInt8) {j m n:Nat} (h1:j<16+m) (h2:j<16+n):(bH b m).getD j 0=(bH b n).getD j 0:=by
  rcases Nat.le_total m n with h | h
  ·obtain⟨d,rfl⟩:=Nat.exists_eq_add_of_le h;exact (qU b m d h1).symm
  ·obtain⟨d,rfl⟩:=Nat.exists_eq_add_of_le h;exact qU b n d h2
def wS (b:List UInt8) (t:Nat):UInt32:=(bH b t).getD t 0
theorem Nf (b:List UInt8) (t:Nat):wS b (t+16)=jF (wS b t) (wS b (t+1)) (wS b (t+9)) (wS b (t+14)):=by
  have e:bH b (t+1)=bH b t++[jw (bH b t) (16+t)]:=rfl;have key:(bH b (t+1)).getD (t+16) 0=jw (bH b t) (16+t):=by
    rw[e,Pg,P3 (by rw[nu]; omega),nu,show t+16-(16+t)=0 by omega]; rfl
  unfold wS;rw[jT b (show t+16<16+(t+16) by omega) (show t+16<16+(t+1) by omega),key];unfold jw jF;rw[show 16+t-2=t+14 by omega,show 16+t-7=t+9 by omega,show 16+t-15=t+1 by omega,show 16+t-16=t by omega];rw[jT b (show t+14<16+t by omega) (show t+14<16+(t+14) by omega),jT b (show t+9<16+t by omega) (show t+9<16+(t+9) by omega),jT b (show t+1<16+t by omega) (show t+1<16+(t+1) by omega)]
theorem Ou (b:List UInt8) {t:Nat} (h:t<16):wS b t=bz b t:=by
  unfold wS;rw[jT b (show t<16+t by omega) (show t<16+0 by omega)];unfold bH fq;rw[Pg,Qq,List.getElem?_range h]; rfl
theorem Fv (h:List UInt32) (b:List UInt8):(aZ.of h).rounds bZ (eF b) 64=dr (aZ.of h) bZ (wS b):=by
  rw[uY _ _ _ 64 (by rw[mG]; omega)];have e:bZ.take 64=bZ:=Pk (by rw[mG]; omega);rw[e];refine uX _ _ _ _ fun t ht=>?_
  rw[mG] at ht
  show (bH b 48).getD t 0=(bH b t).getD t 0
  exact jT b (by omega) (by omega)
def jL (H:Nat→List UInt32) (L:Nat):E8:=E8.mk (pw (fun s=>(H s).getD 0 0) L) (pw (fun s=>(H s).getD 1 0) L) (pw (fun s=>(H s).getD 2 0) L) (pw (fun s=>(H s).getD 3 0) L) (pw (fun s=>(H s).getD 4 0) L) (pw (fun s=>(H s).getD 5 0) L) (pw (fun s=>(H s).getD 6 0) L) (pw (fun s=>(H s).getD 7 0) L)
theorem Ng (x y:Nat→UInt32) (L:Nat):EN (dm L) (pw x L) (pw y L)=pw (fun s=>aR (x s) (y s)) L:=by
  unfold EN pw;rw[ew,om]
  ·refine dz fun s _=>?_
   unfold aR;rw[UInt32.toNat_add]; rfl
  ·intro s;have h1:=(x s).toNat_lt;have h2:=(y s).toNat_lt
   show (x s).toNat+(y s).toNat<_
   omega
theorem Nh (H:Nat→List UInt32) (b:Nat→List UInt8) (L:Nat):uw (dd L) (dm L) (jL H L) (pw (fun s=>bz (b s) 0) L) (pw (fun s=>bz (b s) 1) L) (pw (fun s=>bz (b s) 2) L) (pw (fun s=>bz (b s) 3) L) (pw (fun s=>bz (b s) 4) L) (pw (fun s=>bz (b s) 5) L) (pw (fun s=>bz (b s) 6) L) (pw (fun s=>bz (b s) 7) L) (pw (fun s=>bz (b s) 8) L) (pw (fun s=>bz (b s) 9) L) (pw (fun s=>bz (b s) 10) L) (pw (fun s=>bz (b s) 11) L) (pw (fun s=>bz (b s) 12) L) (pw (fun s=>bz (b s) 13) L) (pw (fun s=>bz (b s) 14) L) (pw (fun s=>bz (b s) 15) L)=jL (fun s=>iN (H s) (b s)) L:=by
  have hw:∀ t,t<16→(fun s=>bz (b s) t)=(fun s=>wS (b s) t):=fun t ht=>funext fun s=>(Ou (b s) ht).symm
  rw[hw 0 (by decide),hw 1 (by decide),hw 2 (by decide),hw 3 (by decide),hw 4 (by decide),hw 5 (by decide),hw 6 (by decide),hw 7 (by decide),hw 8 (by decide),hw 9 (by decide),hw 10 (by decide),hw 11 (by decide),hw 12 (by decide),hw 13 (by decide),hw 14 (by decide),hw 15 (by decide)];have hr:=Dx L bZ (fun s=>aZ.of (H s)) (fun t s=>wS (b s) t) (fun t s=>Nf (b s) t);unfold uw jL;rw[KV,On];refine (congrArg (uv (EN (dm L)) _) hr).trans ?_;rw[KU];simp only[Ng];have hb:∀ s,iN (H s) (b s)=(dr (aZ.of (H s)) bZ (fun t=>wS (b s) t)).sum (H s):=fun s=>by
    unfold iN; rw[Fv]
  simp only[hb];rfl
def kO (b:List UInt8):Nat:=b.foldl (fun a x=>a*256+x.toNat) 0
theorem Hh (b:List UInt8) (x:UInt8):kO (b++[x])=kO b*256+x.toNat:=by unfold kO; rw[List.foldl_append]; rfl
theorem rJ (v:Nat):∀ n,kO (au v n)=v%256^n
  | 0=>by simp[au,kO,Nat.mod_one]
  | n+1=>by
    have e:au v (n+1)=au (v / 256) n++[UInt8.ofNat v]:=by
      unfold au;rw[List.range_succ,P0]
      congr 1
      ·apply PW;intro i hi;have hi:=List.mem_range.1 hi;rw[show n+1-1-i=(n-1-i)+1 by omega,Nat.pow_succ,QK,Nat.div_div_eq_div_mul]
      ·simp
    rw[e,Hh,rJ (v / 256) n,UInt8.toNat_ofNat',show 256^(n+1)=256*256^n from Nat.pow_succ',Nat.mod_mul];omega
theorem xm (h:List UInt32) (b c:List UInt8):∀ n,64*n≤b.length→cm h (b++c) n=cm h b n
  | 0,_=>rfl
  | n+1,hn=>by
    rw[cm,cm,xm h b c n (by omega),List.drop_append_of_le_length (by omega),List.take_append_of_le_length (by rw[Pp]; omega)]
theorem vM (h:List UInt32) (p:List UInt8) (q:Nat):∀ m,cm (cm h p q) (p.drop (64*q)) m=cm h p (q+m)
  | 0=>rfl
  | m+1=>by
    rw[← QL,cm,cm,vM h p q m,List.drop_drop,Nat.mul_add]
def iS (n:Nat):List UInt8:=[128]++List.replicate ((119-n%64)%64) 0++au (n*8) 8
theorem Hi (n:Nat):n+(iS n).length=64*((n+8) / 64+1):=by
  unfold iS;simp only[Ph,Ps,cL,Qx];omega
theorem I0 (b:List UInt8):jD b=d6 (cm eR (b++iS b.length) ((b.length+8) / 64+1)):=by
  have hl:=Hi b.length;have hd:64*(b.length / 64)≤b.length:=by omega
  have hp:fb (b.drop (64*(b.length / 64))) b.length=(b++iS b.length).drop (64*(b.length / 64)):=by
    unfold fb iS;rw[List.drop_append_of_le_length hd,Pp,show b.length-64*(b.length / 64)=b.length%64 by omega];simp only[Qg]
  unfold jD i6;rw[hp,← xm eR b (iS b.length) _ hd,vM,Pp,Ph,hl]
  congr 2; omega

theorem oo (c:UInt32) (L:Nat):Nat.mul c.toNat (dd L)=pw (fun _=>c) L:=by
  rw[nO];exact dz fun s _=>Qn _
theorem KZ (L:Nat):0=pw (fun _=>0) L:=by
  have:=oo 0 L;rw[← this]; exact (QC _).symm
def b4 (w:UInt32):List UInt8:=[UInt8.ofNat (w.toNat / 16777216),UInt8.ofNat (w.toNat / 65536),UInt8.ofNat (w.toNat / 256),UInt8.ofNat w.toNat]
theorem K0 (w:UInt32):au w.toNat 4=b4 w:=by
  show [UInt8.ofNat (w.toNat / 16777216),UInt8.ofNat (w.toNat / 65536),UInt8.ofNat (w.toNat / 256),UInt8.ofNat (w.toNat / 1)]=_
  rw[Nat.div_one]; rfl
theorem n0 (w:UInt32):(UInt8.ofNat w.toNat).toNat=w.toNat%256:=UInt8.toNat_ofNat'
theorem n1 (w:UInt32):(UInt8.ofNat (w.toNat / 256)).toNat=w.toNat / 256%256:=UInt8.toNat_ofNat'
theorem n2 (w:UInt32):(UInt8.ofNat (w.toNat / 65536)).toNat=w.toNat / 65536%256:=UInt8.toNat_ofNat'
theorem n3 (w:UInt32):(UInt8.ofNat (w.toNat / 16777216)).toNat=w.toNat / 16777216%256:=UInt8.toNat_ofNat'
theorem Ni {p:List UInt8} {t:Nat} (h0:p.getD (4*t) 0=0) (h1:p.getD (4*t+1) 0=0) (h2:p.getD (4*t+2) 0=0) (h3:p.getD (4*t+3) 0=0):bz p t=0:=by
  rw[← UInt32.toNat_inj,mH,h0,h1,h2,h3]; rfl
theorem Nj {p:List UInt8} {t:Nat} {a b:UInt8} {c:UInt32} (h0:p.getD (4*t) 0=0) (h1:p.getD (4*t+1) 0=0) (h2:p.getD (4*t+2) 0=a) (h3:p.getD (4*t+3) 0=b) (hc:a.toNat*256+b.toNat=c.toNat):bz p t=c:=by
  rw[← UInt32.toNat_inj,mH,h0,h1,h2,h3,← hc];have z:(0:UInt8).toNat=0:=by decide
  simp only[z,QC,Qj]
noncomputable def ux (one:Nat):E8:=E8.mk (Nat.mul 1779033703 one) (Nat.mul 3144134277 one) (Nat.mul 1013904242 one) (Nat.mul 2773480762 one) (Nat.mul 1359893119 one) (Nat.mul 2600822924 one) (Nat.mul 528734635 one) (Nat.mul 1541459225 one)
theorem Nk (L:Nat):ux (dd L)=jL (fun _=>eR) L:=by
  have h:=fun c=>oo c L
  unfold ux jL;exact (congr (congr (congr (congr (congr (congr (congr (congrArg E8.mk (h 1779033703)) (h 3144134277)) (h 1013904242)) (h 2773480762)) (h 1359893119)) (h 2600822924)) (h 528734635)) (h 1541459225))

noncomputable def kP {α:Type} (n:Nat) (k:Nat→α):α:=@Nat.rec (fun _=>α) (k 0) (fun m _=>k (Nat.succ m)) n
theorem lC {α:Type} (n:Nat) (k:Nat→α):kP n k=k n:=by cases n <;> rfl
theorem Nl {p:List UInt8} {t:Nat} {w:UInt32} (h0:(p.getD (4*t) 0).toNat=w.toNat / 16777216%256) (h1:(p.getD (4*t+1) 0).toNat=w.toNat / 65536%256) (h2:(p.getD (4*t+2) 0).toNat=w.toNat / 256%256) (h3:(p.getD (4*t+3) 0).toNat=w.toNat%256):bz p t=w:=by
  have:=w.toNat_lt;rw[← UInt32.toNat_inj,mH,h0,h1,h2,h3];omega
theorem Nm {p:List UInt8} {t:Nat} {w:UInt32} {a b c d:UInt8} (h0:p.getD (4*t) 0=a) (h1:p.getD (4*t+1) 0=b) (h2:p.getD (4*t+2) 0=c) (h3:p.getD (4*t+3) 0=d) (hc:((a.toNat*256+b.toNat)*256+c.toNat)*256+d.toNat=w.toNat):bz p t=w:=by
  rw[← UInt32.toNat_inj,mH,h0,h1,h2,h3,hc]
def fc (x:UInt32):List UInt8:=(au x.toNat 8++au 0 4)++iS 12
def mb (x:UInt32):List UInt32:=iN eR ((fc x).take 64)
theorem Nn (x:UInt32):au x.toNat 8=0::0::0::0::b4 x:=by
  have hx:=x.toNat_lt;have z:∀ k,4294967296≤k→UInt8.ofNat (x.toNat / k)=0:=fun k hk=>by
    rw[Nat.div_eq_of_lt (by omega)]; rfl
  have e:au x.toNat 8=[UInt8.ofNat (x.toNat / 72057594037927936),UInt8.ofNat (x.toNat / 281474976710656),UInt8.ofNat (x.toNat / 1099511627776),UInt8.ofNat (x.toNat / 4294967296)]++au x.toNat 4:=rfl;rw[e,K0,z _ (by decide),z _ (by decide),z _ (by decide),z _ (by decide)]; rfl
theorem Ov (x:UInt32):jn x.toNat 0=d6 (mb x):=by
  have h1:(au x.toNat 8++au 0 4).length=12:=by simp[cL]
  unfold jn;rw[I0,h1]; rfl
set_option maxRecDepth 20000 in
theorem oZ (x:UInt32):(fc x).take 64=0::0::0::0::UInt8.ofNat (x.toNat / 16777216)::UInt8.ofNat (x.toNat / 65536)::UInt8.ofNat (x.toNat / 256)::UInt8.ofNat x.toNat::0::0::0::0::128::0::0::0::0::0::0::0::0::0::0::0::0::0::0::0::0::0::0::0::0::0::0::0::0::0::0::0::0::0::0::0::0::0::0::0::0::0::0::0::0::0::0::0::0::0::0::0::0::0::0::96::[]:=by
  have ht:iS 12=128::(List.replicate 50 0++[96]):=by decide
  have hz:au 0 4=[0,0,0,0]:=by decide
  have e:fc x=0::0::0::0::UInt8.ofNat (x.toNat / 16777216)::UInt8.ofNat (x.toNat / 65536)::UInt8.ofNat (x.toNat / 256)::UInt8.ofNat x.toNat::0::0::0::0::128::0::0::0::0::0::0::0::0::0::0::0::0::0::0::0::0::0::0::0::0::0::0::0::0::0::0::0::0::0::0::0::0::0::0::0::0::0::0::0::0::0::0::0::0::0::0::0::0::0::0::96::[]:=by
    unfold fc;rw[Nn,ht,hz];simp only[b4,P5,Qa,List.replicate]
  rw[e]; rfl
set_option maxRecDepth 20000 in
theorem Ow (x:UInt32):∀ t,t<15→t≠1→t≠3→bz ((fc x).take 64) t=0:=by
  intro t h1 h2 h3;rw[oZ];have:t=0∨t=2∨t=4∨t=5∨t=6∨t=7∨t=8∨t=9∨t=10∨t=11∨t=12∨t=13∨t=14:=by omega
  rcases this with rfl | rfl | rfl | rfl | rfl | rfl | rfl | rfl | rfl | rfl | rfl | rfl | rfl <;> exact Ni rfl rfl rfl rfl
set_option maxRecDepth 20000 in
theorem Ox (x:UInt32):bz ((fc x).take 64) 1=x:=by
  rw[oZ]; exact Nl (n3 _) (n2 _) (n1 _) (n0 _)
set_option maxRecDepth 20000 in
theorem Oy (x:UInt32):bz ((fc x).take 64) 3=2147483648:=by
  rw[oZ]; exact Nm (a:=128) (b:=0) (c:=0) (d:=0) rfl rfl rfl rfl (by decide)
set_option maxRecDepth 20000 in
theorem Oz (x:UInt32):bz ((fc x).take 64) 15=96:=by
  rw[oZ]; exact Nj rfl rfl rfl rfl rfl
noncomputable def pz (one m X:Nat):E8:=uw one m (ux one) 0 X 0 (Nat.mul 2147483648 one) 0 0 0 0 0 0 0 0 0 0 0 (Nat.mul 96 one)
theorem K1 (x:Nat→UInt32) (L:Nat):pz (dd L) (dm L) (pw x L)=jL (fun s=>mb (x s)) L:=by
  have g:=Nh (fun _=>eR) (fun s=>(fc (x s)).take 64) L;have z:∀ t,t<15→t≠1→t≠3→(fun s=>bz ((fc (x s)).take 64) t)=fun _=>0:=fun t h1 h2 h3=>funext fun s=>Ow (x s) t h1 h2 h3
  have v1:(fun s=>bz ((fc (x s)).take 64) 1)=x:=funext fun s=>Ox (x s)
  have v3:(fun s=>bz ((fc (x s)).take 64) 3)=fun _=>2147483648:=funext fun s=>Oy (x s)
  have ve:(fun s=>bz ((fc (x s)).take 64) 15)=fun _=>96:=funext fun s=>Oz (x s)
  have c2:Nat.mul 2147483648 (dd L)=pw (fun _=>2147483648) L:=oo 2147483648 L;have c3:Nat.mul 96 (dd L)=pw (fun _=>96) L:=oo 96 L;rw[v1,v3,ve,z 0 (by decide) (by decide) (by decide),z 2 (by decide) (by decide) (by decide),z 4 (by decide) (by decide) (by decide),z 5 (by decide) (by decide) (by decide),z 6 (by decide) (by decide) (by decide),z 7 (by decide) (by decide) (by decide),z 8 (by decide) (by decide) (by decide),z 9 (by decide) (by decide) (by decide),z 10 (by decide) (by decide) (by decide),z 11 (by decide) (by decide) (by decide),z 12 (by decide) (by decide) (by decide),z 13 (by decide) (by decide) (by decide),z 14 (by decide) (by decide) (by decide),← KZ,← Nk] at g;unfold pz;rw[c2,c3];exact g
inductive Tr where
  | lf (c:Nat)
  | nd (a b:Tr)
deriving DecidableEq
theorem Np (x y:Nat→UInt32) (L:Nat):Nat.xor (pw x L) (pw y L)=pw (fun s=>cO (x s) (y s)) L:=by
  unfold pw;rw[lM (fun s=>df _) (fun s=>df _)];exact dz fun s _=>(UInt32.toNat_xor _ _).symm
theorem Hj {x:Nat→UInt32} {L s:Nat} (h:Nat.beq (Nat.land (Nat.shiftRight (Nat.add (pw x L) (Nat.mul 4294967295 (dd L))) 32) (dd L)) (dd L)=true) (hs:s<L):x s≠0:=by
  intro h0;have e:=Nat.eq_of_beq_eq_true h;have h1:∀ s:Nat,(fun _:Nat=>1) s<2^64:=fun _=>(by decide:1<2^64)
  have hg:∀ s,Nat.add (x s).toNat (Nat.mul 4294967295 1)<2^64:=fun s=>by
    have:=(x s).toNat_lt
    show (x s).toNat+4294967295*1<_
    omega
  have e2:Nat.add (pw x L) (Nat.mul 4294967295 (dd L))=pk (fun s=>Nat.add (x s).toNat (Nat.mul 4294967295 1)) L:=by
    unfold pw;rw[nO,ew]
  rw[e2] at e;have e3:((pk (fun s=>Nat.add (x s).toNat (Nat.mul 4294967295 1)) L >>> 32) &&& dd L).testBit (64*s)=(dd L).testBit (64*s):=congrArg (fun n=>Nat.testBit n (64*s)) e;rw[Nat.testBit_and,Nat.testBit_shiftRight,eu hg,eu h1,show (32+64*s) / 64=s by omega,show (32+64*s)%64=32 by omega,show 64*s / 64=s by omega,show 64*s%64=0 by omega,decide_eq_true hs,h0] at e3
  revert e3
  decide
def t2:Tr:=.nd (.lf 0) (.lf 1)
def O3:Tr:=.nd (.lf 2) (.lf 3)
def O4:Tr:=.nd (.lf 4) (.lf 5)
def O5:Tr:=.nd (.lf 6) (.lf 0)
def t4:Tr:=.nd t2 O3
def t8:Tr:=.nd t4 (.nd O4 O5)
noncomputable def uJ (s:E8):Nat:=E8.rec (fun a _ _ _ _ _ _ _=>a) s
theorem OA (A:Nat→List UInt32) (L:Nat):uJ (jL A L)=pw (fun s=>(A s).getD 0 0) L:=rfl
def uz (on one a b:Nat):Bool:=Nat.beq (Nat.land (Nat.shiftRight (Nat.add (Nat.xor a b) on) 32) one) one
theorem K2 {x y:Nat→UInt32} {L s:Nat} (h:uz (Nat.mul 4294967295 (dd L)) (dd L) (pw x L) (pw y L)=true) (hs:s<L):x s≠y s:=by
  intro e;unfold uz at h;rw[Np] at h;refine Hj h hs ?_;rw[e];simp[cO]
noncomputable def mc (F:Nat→Nat) (D:Nat→Nat→Bool) (os:List Nat):List Nat→Bool :=
  @List.rec Nat (fun _=>List Nat→Bool) (fun _=>true) (fun o _ ih acc=>kP (F o) fun w=>cond (acc.all (D w)) (ih (w::acc)) false) os
theorem Hk (F:Nat→Nat) (D:Nat→Nat→Bool) (o:Nat) (os acc:List Nat):mc F D (o::os) acc=cond (acc.all (D (F o))) (mc F D os (F o::acc)) false:=lC (F o) fun w=>cond (acc.all (D w)) (mc F D os (w::acc)) false
theorem Bi {F:Nat→Nat} {D:Nat→Nat→Bool}:∀ {os acc:List Nat},mc F D os acc=true→os.Pairwise (fun a b=>D (F b) (F a)=true)∧∀ o∈os,∀ w∈acc,D (F o) w=true
  | [],_,_=>⟨List.Pairwise.nil,fun o ho=>by cases ho⟩
  | o::os,acc,h=>by
    rw[Hk] at h;cases hc:acc.all (D (F o)) with
    | false=>rw[hc,cond_false] at h; cases h
    | true =>
      rw[hc,cond_true] at h;obtain⟨h1,h2⟩:=Bi h;refine⟨List.Pairwise.cons (fun b hb=>h2 b hb _ (PZ ..)) h1,fun b hb w hw=>?_⟩;rcases PQ.1 hb with rfl | hb
      ·exact Pw.1 hc w hw
      ·exact h2 b hb w (PM _ hw)
def jM (x:Nat):UInt32:=(mb (UInt32.ofNat x)).getD 0 0
noncomputable def pC (os:List Nat) (L:Nat):Bool:=kP (dd L) fun one=>kP (dm L) fun m=>kP (pk (fun s=>s) L) fun io=>kP (Nat.mul 4294967295 one) fun on=>mc (fun o=>uJ (pz one m (Nat.add io (Nat.mul o one)))) (uz on one) os []
theorem K3 {os:List Nat} {L:Nat} (h:pC os L=true) (hL:L≤100000) (hos:∀ o∈os,o≤4000000000) {s:Nat} (hs:s<L):os.Pairwise fun a b=>jM (s+a)≠jM (s+b):=by
  unfold pC at h;rw[lC,lC,lC,lC] at h;have h1:=(Bi h).1;have key:∀ o,o≤4000000000→uJ (pz (dd L) (dm L) (Nat.add (pk (fun s=>s) L) (Nat.mul o (dd L))))=pw (fun s=>jM (s+o)) L:=fun o ho=>by
    have e:Nat.add (pk (fun s=>s) L) (Nat.mul o (dd L))=pw (fun s=>UInt32.ofNat (s+o)) L:=by
      rw[nO,ew];refine dz fun s hs=>?_
      rw[UInt32.toNat_ofNat_of_lt' (by simp only[UInt32.size]; omega)]
      show s+o*1=_
      omega
    rw[e,K1,OA];rfl
  refine List.Pairwise.imp_of_mem ?_ h1;intro a b ha hb hd;rw[key a (hos a ha),key b (hos b hb)] at hd;exact (K2 hd hs).symm
theorem Bj {x n:Nat} (hx:x<4294967296) (hn:4≤n):(cU (x:Int) (n:Int)).take 4=au (jM x).toNat 4:=by
  have e1:((x:Int)%18446744073709551616).toNat=x:=by omega
  have e2:((n:Int).toNat+31) / 32=((n:Int).toNat+31) / 32-1+1:=by omega
  have e3:ep x (((n:Int).toNat+31) / 32)=jn x 0++(((List.range (((n:Int).toNat+31) / 32-1)).map Nat.succ).map (jn x)).flatten:=by
    unfold ep;rw[e2,List.range_succ_eq_map,Pi,Qt];rfl
  have hw:=Ov (UInt32.ofNat x);rw[UInt32.toNat_ofNat_of_lt' (show x<UInt32.size by simp only[UInt32.size]; omega)] at hw;have hl:(mb (UInt32.ofNat x)).length=8:=vJ _ _;unfold cU;rw[e1,e3,hw,List.take_take,QE (by omega)];unfold jM
  match mb (UInt32.ofNat x),hl with
  | [a,b,c,d,e,f,g,i],_ =>
    unfold d6;simp only[Pq,Qg];exact List.take_left' (cL _ _)
theorem Nq {a b:UInt32} (h:au a.toNat 4=au b.toNat 4):a=b:=by
  have e:=congrArg kO h;rw[rJ,rJ,Nat.mod_eq_of_lt (show a.toNat<256^4 from a.toNat_lt),Nat.mod_eq_of_lt (show b.toNat<256^4 from b.toNat_lt)] at e;exact UInt32.toNat_inj.1 e
theorem OB {x y n m:Nat} (hx:x<4294967296) (hy:y<4294967296) (hn:4≤n) (hm:4≤m) (h:jM x≠jM y):(cU (x:Int) (n:Int)).take 4≠(cU (y:Int) (m:Int)).take 4:=by
  rw[Bj hx hn,Bj hy hm];exact fun e=>h (Nq e)
def mz:List Nat:=(List.range 8).map fun i=>1000003*(i+1)
def O6:List Nat:=(List.range 100).map fun i=>5000000*(i+1)
def uK:List Nat:=(List.range 8).map fun i=>7000000*(i+1)
def O7:List Nat:=(List.range 11).map fun i=>9000000*(i+1)
set_option maxRecDepth 100000 in
theorem Nr:pC (mz++uK) 1000=true:=by decide +kernel
theorem of_le:∀ o∈mz++(O6++(uK++O7)),o≤4000000000:=by decide +kernel
theorem OC {os:List Nat} (h:pC os 1000=true) (hos:∀ o∈os,o≤4000000000) {s:Nat} (hs:s<1000):(os.map fun o=>cU ((s+o:Nat):Int) 104).Nodup:=by
  rw[List.nodup_iff_pairwise_ne,List.pairwise_map];refine (List.Pairwise.imp_of_mem ?_ (K3 h (by decide) hos hs));intro a b ha hb hab e;have h1:=hos a ha;have h2:=hos b hb;exact OB (n:=104) (m:=104) (by omega) (by omega) (by decide) (by decide) hab (congrArg (List.take 4) e)
theorem OR {s:Nat} (hs:s<1000):((mz++uK).map fun o=>cU ((s+o:Nat):Int) 104).Nodup:=OC Nr (fun o ho=>of_le o (by
  rcases PD.1 ho with h | h
  ·exact Py _ h
  ·exact Po _ (Po _ (Py _ h)))) hs
end Go.Proofs.Ytofonnokanoflaa
