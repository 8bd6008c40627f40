/- Texts of one's own, merged: from: Layer 1 on data: Put,Get,Same,Join,Hex: what they return. Own work. -/
import Derived.Test.YtofonnokanoflaaProg
import Derived.Test.YtofonnokanoflaaMg37
set_option linter.unusedVariables false
set_option linter.unusedSimpArgs false
namespace Go.Proofs.Ytofonnokanoflaa
open Go.RowKit IntWalk
set_option maxHeartbeats 400000
theorem fF {l:List UInt8} {i:Nat} {x:D} (hi:i<l.length) (hx:x.one=true):gy .sc (.c (.d x)) i 0 (.row 1 (l.map bD))=some (.row 1 ((l.map bD).set i x)):=by
  simp[gy,aU,QT hi,bD,dH,hx]
theorem D6 {l:List UInt32} {i:Nat} {x:D} (hi:i<l.length) (hx:x.one=true):gy .sc (.c (.d x)) i 0 (.row 1 (l.map wD))=some (.row 1 ((l.map wD).set i x)):=by
  simp[gy,aU,QT hi,wD,dH,hx]
theorem gn (l:List UInt8) (i:Nat) (x:UInt8):(l.map bD).set i (bD x)=(l.set i x).map bD:=sX bD l i x
theorem D7 (l:List UInt32) (i:Nat) (x:UInt32):(l.map wD).set i (wD x)=(l.set i x).map wD:=sX wD l i x
theorem Fs (n:Nat):List.replicate n (D.int .u8 0)=(List.replicate n (0:UInt8)).map bD:=by simp[bD]
def au (v n:Nat):List UInt8:=(List.range n).map fun i=>UInt8.ofNat (v / 256^(n-1-i))
def fi (v n m:Nat):List UInt8:=List.replicate m 0++(au v n).drop m
def qb (v:Nat) (n:Int):List UInt8:=if 0≤n∧n≤64 then au v n.toNat else []
theorem cR (v n:Nat):(au v n).length=n:=by simp[au]
theorem qL (v n m:Nat) (h:m≤n):(fi v n m).length=n:=by simp[fi,cR]; omega
theorem x7 (v n:Nat):fi v n 0=au v n:=by simp[fi]
theorem x8 (v n:Nat):fi v n n=List.replicate n 0:=by simp[fi,cR]
theorem x9 (v n i:Nat) (h:i+1≤n):fi v n i=(fi v n (i+1)).set i (UInt8.ofNat (v / 256^(n-(i+1)))):=by
  apply Sw;intro j;rw[List.getElem?_set];have hl:i<(au v n).length:=by rw[cR]; omega
  by_cases hj:i=j
  ·subst hj;rw[if_pos rfl,if_pos (by rw[qL _ _ _ h]; omega)];simp only[fi,List.getElem?_append,Rc,Nat.lt_irrefl,if_false,Nat.sub_self,RG,Sb];rw[QT hl];simp[au,Nat.sub_sub,Nat.add_comm 1 i]
  ·rw[if_neg hj];simp only[fi,List.getElem?_append,Rc,List.getElem?_replicate,RG];by_cases h1:j<i
   ·rw[if_pos h1,if_pos h1,if_pos (by omega),if_pos (by omega)]
   ·rw[if_neg h1,if_neg (by omega)]
    congr 1; omega
theorem byte_of (v:Nat):D.int .u8 (IntKind.u8.wrap (v:Int))=bD (UInt8.ofNat v):=by
  rw[IntKind.wrap_u8];simp[bD]
def ln (v n m:Nat):St:=⟨aR [(0,.w (.c (.d (.int .u64 ((v / 256^(n-m):Nat):Int))))),(5,.w (.c (.own 1 1 0 n))),(6,.w (.c (.d (.int .i64 ((m:Int)-1)))))],hL [(1,.row 1 ((fi v n m).map bD))],uL [1]⟩
def r8:aI := .seq (.seq (.reg [oM 17 6,oO 18 (.bin .geq (.t 17) (kI 0))]) (.cond (.t 18) (.skip) (.exit 0))) (.seq (.block 1 (.seq (.reg [oM 21 5,oM 22 6,oM 23 0,oO 24 (.conv .u8 (.t 23)),oO 25 (.idxSl 1 (.t 21) (.t 22)),oN (.store .sc (.t 25) (.t 24))]) (.reg [oM 26 0,oO 27 (.bin .shr (.t 26) (.k (.c (.d (.int .u64 8))))),oM 0 27]))) (.reg [oM 19 6,oO 20 (.bin .sub (.t 19) (kI 1)),oM 6 20]))
def oR:aE:=⟨2,29,.seq (.reg [oO 4 (.mv (.k (.c .nil)))]) (.seq (.seq (.reg [oM 7 1,oO 8 (.bin .lss (.t 7) (kI 0)),oM 9 8,oG 10 (.mv (.t 1)) 9 false,oG 11 (.bin .gtr (.t 10) (kI 64)) 9 false,oO 12 (.pick (.t 9) (.k (.c (.d (.bool true)))) (.t 11))]) (.cond (.t 12) (.seq (.reg [oO 4 (.mv (.k (.c .nil)))]) (.ret)) (.skip))) (.seq (.reg [oM 13 1,oO 14 (.make true 1 1 (.int .u8 0) (.t 13) (.t 13)),oM 5 14]) (.seq (.seq (.reg [oM 15 1,oO 16 (.bin .sub (.t 15) (kI 1)),oM 6 16]) (.block 0 (.loop r8))) (.seq (.reg [oM 28 5,oM 4 28]) (.ret))))),[(4,none)]⟩
theorem D8:aD Try.prog { own:=[],comp:=[],frz:=[],nils:=[] } Try.f71=some oR:=by kernel_rfl
theorem tV (G:ak) (v n:Nat) (hn:n≤64):ar Try.prog G 71 [.int .u64 v,.int .i64 n] (.w (.c (.fr 1 ((au v n).map bD)))):=by
  refine aF Try.func71 D8 rfl rfl ?_;have e1:IntKind.i64.wrap ((n:Int)-1)=(n:Int)-1:=IntWalk.i64_in _ (by omega);simp only[oR,aj,wx,aa,seval,iteOmega,toNatUp,e1];refine bi (ln v n) (fun m=>m) (fun m=>m≤n) n (Q5 _) ?_ ?_
  ·refine aC (fun _=>112) ?_ ?_ rfl rfl <;> simp only[wx,aA,aa,seval,iteOmega,toNatUp,x8,Fs,Nat.sub_self,Nat.pow_zero,Nat.div_one]
  ·intro m hm;rcases RJ m with rfl | hpos
   ·simp only[r8,ln,wx,aa,seval,iteOmega,toNatUp,x7];refine d6 (id:=1) (n:=n) (s:=1) ?_ ?_ ?_ <;> simp only[wx,aa,seval,iteOmega,toNatUp,cR]
   ·obtain⟨i,rfl⟩:∃ i,m=i+1:=⟨m-1,by omega⟩
    have e2:((i+1:Nat):Int)-1=(i:Int):=by omega
    have hlt:i<(fi v n (i+1)).length:=by rw[qL _ _ _ hm]; omega
    have e3:IntKind.i64.wrap ((i:Int)-1)=(i:Int)-1:=IntWalk.i64_in _ (by omega);simp only[r8,ln,wx,aa,seval,iteOmega,toNatUp,e2,e3,Sa,Sb,byte_of,fF hlt (eG _),gn,← x9 _ _ _ hm,IntKind.bits];refine aZ i (by omega) (by omega) (aC id ?_ ?_ rfl rfl) <;> simp only[wx,aA,aa,seval,iteOmega,toNatUp];have e4:v / 256^(n-(i+1)) / 256=v / 256^(n-i):=by
      rw[show n-i=n-(i+1)+1 by omega,Nat.pow_succ,← Nat.div_div_eq_div_mul]
    simpa using congrArg (Nat.cast:Nat→Int) e4
theorem Ft (G:ak) (v:Nat) (n:Int):ar Try.prog G 71 [.int .u64 v,.int .i64 n] (.w (.c (.fr 1 ((qb v n).map bD)))):=by
  unfold qb;by_cases h:0≤n∧n≤64
  ·rw[if_pos h];obtain⟨n,rfl⟩:=RR h.1;exact tV G v n (by omega)
  ·rw[if_neg h];refine aF Try.func71 D8 rfl rfl ?_;by_cases h0:n<0
   ·simp only[oR,aj,wx,aa,seval,iteOmega,toNatUp];exact sY (by simp[wx,aa,seval,iteOmega,toNatUp])
   ·have h1:64<n:=by omega
    simp only[oR,aj,wx,aa,seval,iteOmega,toNatUp];exact sY (by simp[wx,aa,seval,iteOmega,toNatUp])
def rq:aI := .seq (.seq (.reg [oM 17 6,oO 18 (.bin .geq (.t 17) (kI 0))]) (.cond (.t 18) (.skip) (.exit 0))) (.seq (.block 1 (.seq (.reg [oM 21 5,oM 22 6,oM 23 0,oO 24 (.conv .u8 (.t 23)),oO 25 (.idxSl 1 (.t 21) (.t 22)),oN (.store .sc (.t 25) (.t 24))]) (.reg [oM 26 0,oO 27 (.bin .shr (.t 26) (.k (.c (.d (.int .u64 8))))),oM 0 27]))) (.reg [oM 19 6,oO 20 (.bin .sub (.t 19) (kI 1)),oM 6 20]))
def BH:aE:=⟨2,29,.seq (.reg [oO 4 (.mv (.k (.c .nil)))]) (.seq (.seq (.reg [oM 7 1,oO 8 (.bin .lss (.t 7) (kI 0)),oM 9 8,oG 10 (.mv (.t 1)) 9 false,oG 11 (.bin .gtr (.t 10) (kI 64)) 9 false,oO 12 (.pick (.t 9) (.k (.c (.d (.bool true)))) (.t 11))]) (.cond (.t 12) (.seq (.reg [oO 4 (.mv (.k (.c .nil)))]) (.ret)) (.skip))) (.seq (.reg [oM 13 1,oO 14 (.make true 1 1 (.int .u8 0) (.t 13) (.t 13)),oM 5 14]) (.seq (.seq (.reg [oM 15 1,oO 16 (.bin .sub (.t 15) (kI 1)),oM 6 16]) (.block 0 (.loop rq))) (.seq (.reg [oM 28 5,oM 4 28]) (.ret))))),[(4,none)]⟩
theorem K6:aD Try.prog { own:=[],comp:=[],frz:=[],nils:=[] } Try.f26=some BH:=by kernel_rfl
theorem ou (G:ak) (v n:Nat) (hn:n≤64):ar Try.prog G 26 [.int .u64 v,.int .i64 n] (.w (.c (.fr 1 ((au v n).map bD)))):=by
  refine aF Try.func26 K6 rfl rfl ?_;have e1:IntKind.i64.wrap ((n:Int)-1)=(n:Int)-1:=IntWalk.i64_in _ (by omega);simp only[BH,aj,wx,aa,seval,iteOmega,toNatUp,e1];refine bi (ln v n) (fun m=>m) (fun m=>m≤n) n (Q5 _) ?_ ?_
  ·refine aC (fun _=>112) ?_ ?_ rfl rfl <;> simp only[wx,aA,aa,seval,iteOmega,toNatUp,x8,Fs,Nat.sub_self,Nat.pow_zero,Nat.div_one]
  ·intro m hm;rcases RJ m with rfl | hpos
   ·simp only[rq,ln,wx,aa,seval,iteOmega,toNatUp,x7];refine d6 (id:=1) (n:=n) (s:=1) ?_ ?_ ?_ <;> simp only[wx,aa,seval,iteOmega,toNatUp,cR]
   ·obtain⟨i,rfl⟩:∃ i,m=i+1:=⟨m-1,by omega⟩
    have e2:((i+1:Nat):Int)-1=(i:Int):=by omega
    have hlt:i<(fi v n (i+1)).length:=by rw[qL _ _ _ hm]; omega
    have e3:IntKind.i64.wrap ((i:Int)-1)=(i:Int)-1:=IntWalk.i64_in _ (by omega);simp only[rq,ln,wx,aa,seval,iteOmega,toNatUp,e2,e3,Sa,Sb,byte_of,fF hlt (eG _),gn,← x9 _ _ _ hm,IntKind.bits];refine aZ i (by omega) (by omega) (aC id ?_ ?_ rfl rfl) <;> simp only[wx,aA,aa,seval,iteOmega,toNatUp];have e4:v / 256^(n-(i+1)) / 256=v / 256^(n-i):=by
      rw[show n-i=n-(i+1)+1 by omega,Nat.pow_succ,← Nat.div_div_eq_div_mul]
    simpa using congrArg (Nat.cast:Nat→Int) e4
theorem toList_mk (l:List UInt8):(⟨l.toArray⟩:ByteArray).toList=l:=Go.ByteArray.toList_mk l
theorem ya (l m:List UInt8):ji .eql ⟨l.toArray⟩ ⟨m.toArray⟩=some (.bool (l==m)):=by
  simp only[ji,toList_mk]
def z0:aE:=⟨2,10,.seq (.reg [oO 4 (.mv (.k (.c (.d (.bool false)))))]) (.seq (.reg [oM 5 0,oO 6 (.b2s (.t 5)),oM 7 1,oO 8 (.b2s (.t 7)),oO 9 (.bin .eql (.t 6) (.t 8)),oM 4 9]) (.ret)),[(4,none)]⟩
theorem Jv:aD Try.prog { own:=[],comp:=[],frz:=[],nils:=[] } Try.f14=some z0:=by kernel_rfl
theorem BI (G:ak) (l m:List UInt8):ar Try.prog G 14 [.sl (l.map bD),.sl (m.map bD)] (.w (.c (.d (.bool (l==m))))):=by
  refine aF Try.func14 Jv rfl rfl ?_;simp only[z0,aj,wx,aa,seval,iteOmega,toNatUp,r6,ya];exact uw (by simp only[wx,aa,seval,iteOmega,toNatUp])
theorem ep (ls:List (List UInt8)):cH 1 (ls.map fun l=>D.sl (l.map bD))=true:=nx _ (fun _=>rfl) ls
def s5 (ls:List (List UInt8)) (i:Nat):St:=⟨aR [(0,.w (.c (.d (.sl (ls.map fun l=>D.sl (l.map bD)))))),(3,.w (.c (.own 1 1 0 ((ls.take i).flatten).length))),(4,.w (.c (.d (.int .i64 (i:Int)))))],hL [(1,.row 1 (((ls.take i).flatten).map bD))],uL [1]⟩
theorem nz {α:Type} (ls:List (List α)) (i:Nat) (h:i<ls.length):(ls.take (i+1)).flatten=(ls.take i).flatten++ls[i]:=by
  rw[R4 h,List.flatten_append]; simp
theorem s6 {α:Type} (ls:List (List α)) (i:Nat) (h:i<ls.length):(ls.take i).flatten.length+ls[i].length≤ls.flatten.length:=by
  have h1:=nz ls i h;have h2:ls.flatten=(ls.take (i+1)).flatten++(ls.drop (i+1)).flatten:=by rw[← List.flatten_append,RA]
  have h3:=congrArg List.length h2;rw[QV,h1,QV] at h3;omega
def qX:aI := .seq (.seq (.reg [oM 6 4,oM 7 0,oO 8 (.len (.t 7)),oO 9 (.bin .lss (.t 6) (.t 8))]) (.cond (.t 9) (.skip) (.exit 0))) (.seq (.block 1 (.reg [oM 12 3,oM 13 0,oM 14 4,oO 15 (.idxSl 1 (.t 13) (.t 14)),oO 16 (.load .sc (.t 15)),oO 17 (.app false 1 1 (.t 12) (.t 16)),oM 3 17])) (.reg [oM 10 4,oO 11 (.bin .add (.t 10) (kI 1)),oM 4 11]))
def z1:aE:=⟨1,19,.seq (.reg [oO 2 (.mv (.k (.c .nil)))]) (.seq (.reg [oO 5 (.bldSl true 0 1 (.int .u8 0) []),oM 3 5]) (.seq (.seq (.reg [oO 4 (.mv (kI 0))]) (.block 0 (.loop qX))) (.seq (.reg [oM 18 3,oM 2 18]) (.ret)))),[(2,none)]⟩
theorem Jw:aD Try.prog { own:=[5],comp:=[],frz:=[],nils:=[] } Try.f25=some z1:=by kernel_rfl
theorem BJ (G:ak) (ls:List (List UInt8)) (hl:ls.length≤9223372036854775807) (hf:ls.flatten.length≤140737488355328):ar Try.prog G 25 [.sl (ls.map fun l=>D.sl (l.map bD))] (.w (.c (.fr 1 (ls.flatten.map bD)))):=by
  refine aF Try.func25 Jw rfl rfl ?_;simp only[z1,aj,wx,aa,seval,iteOmega,toNatUp];refine bi (s5 ls) (fun i=>ls.length-i) (fun i=>i≤ls.length) 0 (Q8 _) ?_ ?_
  ·refine aC (fun _=>40) ?_ ?_ rfl rfl <;> simp only[wx,aA,aa,seval,iteOmega,toNatUp]
  ·intro i hi;by_cases hlt:i<ls.length
   ·have e2:ls[i]?=some ls[i]:=QT hlt;have e4:IntKind.i64.wrap ((i:Int)+1)=((i+1:Nat):Int):=by rw[IntWalk.i64_in _ (by omega)]; rfl
    have h5:=s6 ls i hlt;simp only[qX,s5,wx,aa,seval,iteOmega,toNatUp,aU,e2,e4,Se,bT];refine aZ (i+1) (by omega) (by omega) (aC (fun _=>136) ?_ ?_ rfl rfl) <;> simp only[wx,aA,aa,seval,iteOmega,toNatUp,nz ls i hlt]
   ·have:ls.take i=ls:=QZ (by omega);simp only[qX,s5,wx,aa,seval,iteOmega,toNatUp,this];refine d6 (id:=1) (n:=ls.flatten.length) (s:=1) ?_ ?_ ?_ <;> simp only[wx,aa,seval,iteOmega,toNatUp]
def s7 (ls:List (List UInt8)) (i:Nat):St:=⟨aR [(0,.w (.c (.d (.sl (ls.map fun l=>D.sl (l.map bD)))))),(3,.w (.c (.d (.int .i64 (((ls.take i).flatten).length:Int))))),(9,.w (.c (.d (.sl (ls.map fun l=>D.sl (l.map bD)))))),(10,.w (.c (.d (.int .i64 (ls.length:Int))))),(11,.w (.c (.d (.int .i64 (i:Int)))))],hL [],uL []⟩
def s9 (ls:List (List UInt8)) (i:Nat):St:=⟨aR [(6,.w (.c (.own 1 1 0 ((ls.take i).flatten).length))),(22,.w (.c (.d (.sl (ls.map fun l=>D.sl (l.map bD)))))),(23,.w (.c (.d (.int .i64 (ls.length:Int))))),(24,.w (.c (.d (.int .i64 (i:Int)))))],hL [(1,.row 1 (((ls.take i).flatten).map bD))],uL [1]⟩
def rr:aI := .seq (.reg [oO 12 (.bin .lss (.t 11) (.t 10))]) (.seq (.cond (.t 12) (.skip) (.exit 0)) (.seq (.block 1 (.seq (.reg [oO 13 (.idxSl 1 (.t 9) (.t 11)),oO 14 (.load .sc (.t 13)),oM 5 14]) (.reg [oM 15 3,oM 16 5,oO 17 (.len (.t 16)),oO 18 (.bin .add (.t 15) (.t 17)),oM 3 18]))) (.reg [oO 19 (.bin .add (.t 11) (kI 1)),oM 11 19])))
def rt:aI := .seq (.reg [oO 25 (.bin .lss (.t 24) (.t 23))]) (.seq (.cond (.t 25) (.skip) (.exit 2)) (.seq (.block 3 (.seq (.reg [oO 26 (.idxSl 1 (.t 22) (.t 24)),oO 27 (.load .sc (.t 26)),oM 8 27]) (.reg [oM 28 6,oM 29 8,oO 30 (.app false 1 1 (.t 28) (.t 29)),oM 6 30]))) (.reg [oO 31 (.bin .add (.t 24) (kI 1)),oM 24 31])))
def BK:aE:=⟨1,33,.seq (.reg [oO 2 (.mv (.k (.c .nil)))]) (.seq (.reg [oO 3 (.mv (kI 0))]) (.seq (.seq (.reg [oM 9 0,oO 10 (.len (.t 9)),oO 11 (.mv (kI 0))]) (.block 0 (.loop rr))) (.seq (.reg [oM 20 3,oO 21 (.make true 1 1 (.int .u8 0) (kI 0) (.t 20)),oM 6 21]) (.seq (.seq (.reg [oM 22 0,oO 23 (.len (.t 22)),oO 24 (.mv (kI 0))]) (.block 2 (.loop rt))) (.seq (.reg [oM 32 6,oM 2 32]) (.ret)))))),[(2,none)]⟩
theorem K7:aD Try.prog { own:=[],comp:=[],frz:=[],nils:=[] } Try.f30=some BK:=by kernel_rfl
theorem dt (G:ak) (ls:List (List UInt8)) (hl:ls.length≤9223372036854775807) (hf:ls.flatten.length≤140737488355328):ar Try.prog G 30 [.sl (ls.map fun l=>D.sl (l.map bD))] (.w (.c (.fr 1 (ls.flatten.map bD)))):=by
  refine aF Try.func30 K7 rfl rfl ?_;simp only[BK,aj,wx,aa,seval,iteOmega,toNatUp];refine bi (s7 ls) (fun i=>ls.length-i) (fun i=>i≤ls.length) 0 (Q8 _) ?_ ?_
  ·refine aC id ?_ ?_ rfl rfl <;> simp only[wx,aA,aa,seval,iteOmega,toNatUp]
  ·intro i hi;by_cases hlt:i<ls.length
   ·have e2:ls[i]?=some ls[i]:=QT hlt;have e4:IntKind.i64.wrap ((i:Int)+1)=((i+1:Nat):Int):=by rw[IntWalk.i64_in _ (by omega)]; rfl
    have h5:=s6 ls i hlt;have e5:IntKind.i64.wrap (((ls.take i).flatten.length:Int)+(ls[i].length:Int))=(((ls.take (i+1)).flatten.length:Nat):Int):=by
      rw[nz ls i hlt,QV,IntWalk.i64_in _ (by omega)]; rfl
    simp only[rr,s7,wx,aa,seval,iteOmega,toNatUp,aU,e2,e4,e5];refine aZ (i+1) (by omega) (by omega) (aC id ?_ ?_ rfl rfl) <;> simp only[wx,aA,aa,seval,iteOmega,toNatUp]
   ·have:ls.take i=ls:=QZ (by omega);simp only[rr,s7,wx,aa,seval,iteOmega,toNatUp,this,Se];refine bi (s9 ls) (fun i=>ls.length-i) (fun i=>i≤ls.length) 0 (Q8 _) ?_ ?_
    ·refine aC (fun _=>168) ?_ ?_ rfl rfl <;> simp only[wx,aA,aa,seval,iteOmega,toNatUp]
    ·intro i hi;by_cases hlt:i<ls.length
     ·have e2:ls[i]?=some ls[i]:=QT hlt;have e4:IntKind.i64.wrap ((i:Int)+1)=((i+1:Nat):Int):=by rw[IntWalk.i64_in _ (by omega)]; rfl
      have h5:=s6 ls i hlt;simp only[rt,s9,wx,aa,seval,iteOmega,toNatUp,aU,e2,e4,Se,bT];refine aZ (i+1) (by omega) (by omega) (aC (fun _=>240) ?_ ?_ rfl rfl) <;> simp only[wx,aA,aa,seval,iteOmega,toNatUp,nz ls i hlt]
     ·have:ls.take i=ls:=QZ (by omega);simp only[rt,s9,wx,aa,seval,iteOmega,toNatUp,this];refine d6 (id:=1) (n:=ls.flatten.length) (s:=1) ?_ ?_ ?_ <;> simp only[wx,aa,seval,iteOmega,toNatUp]
def gw (l:List UInt8):Nat:=l.foldl (fun a x=>(a*256+x.toNat)%18446744073709551616) 0
theorem u64_in (n:Int) (h₀:0≤n) (h₁:n<2^64):IntKind.u64.wrap n=n:=by rw[IntKind.wrap_u64]; omega
theorem JE (x:UInt8):eS x=if cW x 7==1 then al (cV x 1) 27 else cV x 1:=by
  have:=je (p:=fun x=>eS x==if cW x 7==1 then al (cV x 1) 27 else cV x 1) (by decide +kernel) x
  simpa using this
theorem Ea (x:UInt8):ew x 2=eS x:=by
  have:=je (p:=fun x=>ew x 2==eS x) (by decide +kernel) x
  simpa using this
def tZ:aE:=⟨1,11,.seq (.reg [oO 2 (.mv (.k (.c (.d (.int .u8 0)))))]) (.seq (.seq (.reg [oM 3 0,oO 4 (.bin .shr (.t 3) (.k (.c (.d (.int .u64 7))))),oO 5 (.bin .eql (.t 4) (.k (.c (.d (.int .u8 1)))))]) (.cond (.t 5) (.seq (.reg [oM 6 0,oO 7 (.bin .shl (.t 6) (.k (.c (.d (.int .u64 1))))),oO 8 (.bin .xor (.t 7) (.k (.c (.d (.int .u8 27))))),oM 2 8]) (.ret)) (.skip))) (.seq (.reg [oM 9 0,oO 10 (.bin .shl (.t 9) (.k (.c (.d (.int .u64 1))))),oM 2 10]) (.ret))),[(2,none)]⟩
theorem Nc:aD Try.prog { own:=[],comp:=[],frz:=[],nils:=[] } Try.f93=some tZ:=by kernel_rfl
theorem Fw (G:ak) (x:UInt8):ar Try.prog G 93 [bD x] (.w (.c (.d (bD (eS x))))):=by
  refine aF Try.func93 Nc rfl rfl ?_;have h1:=D2 x .u64 7 7 rfl (by decide);have h2:=M0 (cW x 7) 1 1 rfl;have h3:=D3 x .u64 1 1 rfl (by decide);have h4:=M2 (cV x 1) 27 27 rfl;rw[JE];cases h5:cW x 7==1
  ·rw[h5] at h2;simp only[tZ,aj,h1,h2,h3,h4,ae,aa,seval,iteOmega,toNatUp,if_false,Bool.false_eq_true];exact aM
  ·rw[h5] at h2;simp only[tZ,aj,h1,h2,h3,h4,ae,aa,seval,iteOmega,toNatUp,if_true];exact aM
def Gf:List UInt8:=[99,124,119,123,242,107,111,197,48,1,103,43,254,215,171,118,202,130,201,125,250,89,71,240,173,212,162,175,156,164,114,192,183,253,147,38,54,63,247,204,52,165,229,241,113,216,49,21,4,199,35,195,24,150,5,154,7,18,128,226,235,39,178,117,9,131,44,26,27,110,90,160,82,59,214,179,41,227,47,132,83,209,0,237,32,252,177,91,106,203,190,57,74,76,88,207,208,239,170,251,67,77,51,133,69,249,2,127,80,60,159,168,81,163,64,143,146,157,56,245,188,182,218,33,16,255,243,210,205,12,19,236,95,151,68,23,196,167,126,61,100,93,25,115,96,129,79,220,34,42,144,136,70,238,184,20,222,94,11,219,224,50,58,10,73,6,36,92,194,211,172,98,145,149,228,121,231,200,55,109,141,213,78,169,108,86,244,234,101,122,174,8,186,120,37,46,28,166,180,198,232,221,116,31,75,189,139,138,112,62,181,102,72,3,246,14,97,53,87,185,134,193,29,158,225,248,152,17,105,217,142,148,155,30,135,233,206,85,40,223,140,161,137,13,191,230,66,104,65,153,45,15,176,84,187,22]
theorem Ld:Gf=vl:=by decide +kernel
set_option maxRecDepth 100000 in
theorem JF:ByteArray.size ⟨#[99,124,119,123,242,107,111,197,48,1,103,43,254,215,171,118,202,130,201,125,250,89,71,240,173,212,162,175,156,164,114,192,183,253,147,38,54,63,247,204,52,165,229,241,113,216,49,21,4,199,35,195,24,150,5,154,7,18,128,226,235,39,178,117,9,131,44,26,27,110,90,160,82,59,214,179,41,227,47,132,83,209,0,237,32,252,177,91,106,203,190,57,74,76,88,207,208,239,170,251,67,77,51,133,69,249,2,127,80,60,159,168,81,163,64,143,146,157,56,245,188,182,218,33,16,255,243,210,205,12,19,236,95,151,68,23,196,167,126,61,100,93,25,115,96,129,79,220,34,42,144,136,70,238,184,20,222,94,11,219,224,50,58,10,73,6,36,92,194,211,172,98,145,149,228,121,231,200,55,109,141,213,78,169,108,86,244,234,101,122,174,8,186,120,37,46,28,166,180,198,232,221,116,31,75,189,139,138,112,62,181,102,72,3,246,14,97,53,87,185,134,193,29,158,225,248,152,17,105,217,142,148,155,30,135,233,206,85,40,223,140,161,137,13,191,230,66,104,65,153,45,15,176,84,187,22]⟩=256:=rfl
set_option maxRecDepth 100000 in
theorem Nf (x:UInt8):(ByteArray.data ⟨#[99,124,119,123,242,107,111,197,48,1,103,43,254,215,171,118,202,130,201,125,250,89,71,240,173,212,162,175,156,164,114,192,183,253,147,38,54,63,247,204,52,165,229,241,113,216,49,21,4,199,35,195,24,150,5,154,7,18,128,226,235,39,178,117,9,131,44,26,27,110,90,160,82,59,214,179,41,227,47,132,83,209,0,237,32,252,177,91,106,203,190,57,74,76,88,207,208,239,170,251,67,77,51,133,69,249,2,127,80,60,159,168,81,163,64,143,146,157,56,245,188,182,218,33,16,255,243,210,205,12,19,236,95,151,68,23,196,167,126,61,100,93,25,115,96,129,79,220,34,42,144,136,70,238,184,20,222,94,11,219,224,50,58,10,73,6,36,92,194,211,172,98,145,149,228,121,231,200,55,109,141,213,78,169,108,86,244,234,101,122,174,8,186,120,37,46,28,166,180,198,232,221,116,31,75,189,139,138,112,62,181,102,72,3,246,14,97,53,87,185,134,193,29,158,225,248,152,17,105,217,142,148,155,30,135,233,206,85,40,223,140,161,137,13,191,230,66,104,65,153,45,15,176,84,187,22]⟩).toList[x.toNat]?=some (cL x):=by
  have e:(ByteArray.data ⟨#[99,124,119,123,242,107,111,197,48,1,103,43,254,215,171,118,202,130,201,125,250,89,71,240,173,212,162,175,156,164,114,192,183,253,147,38,54,63,247,204,52,165,229,241,113,216,49,21,4,199,35,195,24,150,5,154,7,18,128,226,235,39,178,117,9,131,44,26,27,110,90,160,82,59,214,179,41,227,47,132,83,209,0,237,32,252,177,91,106,203,190,57,74,76,88,207,208,239,170,251,67,77,51,133,69,249,2,127,80,60,159,168,81,163,64,143,146,157,56,245,188,182,218,33,16,255,243,210,205,12,19,236,95,151,68,23,196,167,126,61,100,93,25,115,96,129,79,220,34,42,144,136,70,238,184,20,222,94,11,219,224,50,58,10,73,6,36,92,194,211,172,98,145,149,228,121,231,200,55,109,141,213,78,169,108,86,244,234,101,122,174,8,186,120,37,46,28,166,180,198,232,221,116,31,75,189,139,138,112,62,181,102,72,3,246,14,97,53,87,185,134,193,29,158,225,248,152,17,105,217,142,148,155,30,135,233,206,85,40,223,140,161,137,13,191,230,66,104,65,153,45,15,176,84,187,22]⟩).toList=Gf:=rfl;rw[e,Ld]; exact JC x
set_option maxRecDepth 100000
def ye:ByteArray:=⟨#[99,124,119,123,242,107,111,197,48,1,103,43,254,215,171,118,202,130,201,125,250,89,71,240,173,212,162,175,156,164,114,192,183,253,147,38,54,63,247,204,52,165,229,241,113,216,49,21,4,199,35,195,24,150,5,154,7,18,128,226,235,39,178,117,9,131,44,26,27,110,90,160,82,59,214,179,41,227,47,132,83,209,0,237,32,252,177,91,106,203,190,57,74,76,88,207,208,239,170,251,67,77,51,133,69,249,2,127,80,60,159,168,81,163,64,143,146,157,56,245,188,182,218,33,16,255,243,210,205,12,19,236,95,151,68,23,196,167,126,61,100,93,25,115,96,129,79,220,34,42,144,136,70,238,184,20,222,94,11,219,224,50,58,10,73,6,36,92,194,211,172,98,145,149,228,121,231,200,55,109,141,213,78,169,108,86,244,234,101,122,174,8,186,120,37,46,28,166,180,198,232,221,116,31,75,189,139,138,112,62,181,102,72,3,246,14,97,53,87,185,134,193,29,158,225,248,152,17,105,217,142,148,155,30,135,233,206,85,40,223,140,161,137,13,191,230,66,104,65,153,45,15,176,84,187,22]⟩
def Eb:aE:=⟨1,5,.seq (.reg [oO 2 (.mv (.k (.c (.d (.int .u8 0)))))]) (.seq (.reg [oM 3 0,oO 4 (.idxStr (.k (.c (.d (.str ye)))) (.t 3)),oM 2 4]) (.ret)),[(2,none)]⟩
theorem Ng:aD Try.prog { own:=[],comp:=[],frz:=[],nils:=[] } Try.f103=some Eb:=by kernel_rfl
theorem mw (G:ak) (x:UInt8):ar Try.prog G 103 [bD x] (.w (.c (.d (bD (cL x))))):=by
  refine aF Try.func103 Ng rfl rfl ?_;have h:=i4 x;have e:=Nf x;simp only[Eb,ye,aj,ae,aa,seval,iteOmega,toNatUp,JF,e];exact aM
def bc (f:Nat→UInt8) (l:List UInt8) (i:Nat):List UInt8:=(List.range i).map f++l.drop i
theorem kQ (f:Nat→UInt8) (l:List UInt8) {i:Nat} (h:i≤l.length):(bc f l i).length=l.length:=by
  unfold bc; rw[QV,Q7,R6,Q4]; omega
theorem l4 (f:Nat→UInt8) (l:List UInt8):bc f l 0=l:=by simp[bc]
theorem z5 (f:Nat→UInt8) (l:List UInt8) {i:Nat} (h:l.length≤i):bc f l i=(List.range i).map f:=by
  unfold bc; rw[RU h,Rh]
theorem BN (f:Nat→UInt8) (l:List UInt8) {i j:Nat} (hj:i≤j):(bc f l i)[j]?=l[j]?:=by
  unfold bc;rw[RI (by simpa using hj),RG,Q7,R6,show i+(j-i)=j by omega]
theorem JG (f:Nat→UInt8) (l:List UInt8) {i j:Nat} (hj:j<i):(bc f l i)[j]?=some (f j):=by
  unfold bc;rw[RF (by simpa using hj)];simp[hj]
theorem l5 (f:Nat→UInt8) (l:List UInt8) {i:Nat} (h:i<l.length):(bc f l i).set i (f i)=bc f l (i+1):=by
  unfold bc;rw[List.set_append_right _ _ (by simp),Q7,R6,Nat.sub_self,List.drop_eq_getElem_cons h,List.set_cons_zero,SE,Rx,RY];rfl
theorem cY {l:List UInt8} {j:Nat} (h:j<l.length):l[j]?=some (l.getD j 0):=by
  rw[QW,QT h]; rfl
theorem QF:bD 1=.int .u8 1:=rfl
set_option maxHeartbeats 1600000
def jZ (s k:List UInt8):List UInt8:=bo (eM (aO s) (aO k))
def lD (s:List UInt8):List UInt8:=bo (fG (aO s))
def mH (s:List UInt8):List UInt8:=bo (eO (aO s))
theorem JH (s k:List UInt8):(jZ s k).length=16:=dO _
theorem sd (s:List UInt8):(lD s).length=16:=dO _
theorem z6 (s:List UInt8):(mH s).length=16:=dO _
theorem jH (f:cy):Fv (aO (bo f)) f:=fun j hj=>by
  unfold aO; rw[QW,ov f hj]; rfl
theorem sg (f g:cy):jZ (bo f) (bo g)=bo (eM f g):=rx fun j hj=>by
  unfold eM; rw[jH f j hj,jH g j hj]
theorem z7 (f:cy):lD (bo f)=bo (fG f):=rx fun j hj=>by
  unfold fG; rw[jH f _ (by omega)]
theorem JI (f:cy):mH (bo f)=bo (eO f):=rx fun j hj=>by
  unfold eO; rw[jH f _ (by omega),jH f _ (by omega),jH f _ (by omega),jH f _ (by omega)]
theorem ej:[D.int .u8 0,.int .u8 0,.int .u8 0,.int .u8 0,.int .u8 0,.int .u8 0,.int .u8 0,.int .u8 0,.int .u8 0,.int .u8 0,.int .u8 0,.int .u8 0,.int .u8 0,.int .u8 0,.int .u8 0,.int .u8 0]=(aV 16 (0:UInt8)).map bD:=rfl
theorem ow (f:cy) {l:List UInt8} (h:l.length=16):bc f l 16=bo f:=z5 f l (by omega)
theorem jO (a b:Nat):Int.tmod (a:Int) (b:Int)=((a%b:Nat):Int):=rfl
def ux (s k:List UInt8) (i:Nat):St:=⟨aR [(2,.w (.c (.pa 1 1))),(4,.w (.c (.pa 2 1))),(7,.w (.c (.d (.agg (k.map bD))))),(8,.w (.c (.d (.int .i64 (i:Int)))))],hL [(1,.row 1 ((bc (eM (aO s) (aO k)) s i).map bD)),(2,.row 1 ((aV 16 (0:UInt8)).map bD))],uL [1,2]⟩
def si:aI := .seq (.reg [oO 9 (.bin .lss (.t 8) (kI 16))]) (.seq (.cond (.t 9) (.skip) (.exit 0)) (.seq (.block 1 (.seq (.reg [oM 10 8,oO 11 (.idxArr 1 16 .sc (.t 7) (.t 8)),oM 5 10,oM 6 11]) (.reg [oM 12 5,oO 13 (.idxPa 1 16 (.t 2) (.t 12)),oO 14 (.load .sc (.t 13)),oM 15 6,oO 16 (.bin .xor (.t 14) (.t 15)),oO 17 (.idxPa 1 16 (.t 2) (.t 12)),oN (.store .sc (.t 17) (.t 16))]))) (.reg [oO 18 (.bin .add (.t 8) (kI 1)),oM 8 18])))
def Ec:aE:=⟨2,20,.seq (.reg [oO 2 (.box .ownArr (.t 0)),oO 3 (.box .roArr (.t 1)),oO 4 (.allocArr [(.int .u8 0),(.int .u8 0),(.int .u8 0),(.int .u8 0),(.int .u8 0),(.int .u8 0),(.int .u8 0),(.int .u8 0),(.int .u8 0),(.int .u8 0),(.int .u8 0),(.int .u8 0),(.int .u8 0),(.int .u8 0),(.int .u8 0),(.int .u8 0)])]) (.seq (.seq (.reg [oO 7 (.load (.ag 16) (.t 3)),oO 8 (.mv (kI 0))]) (.block 0 (.loop si))) (.seq (.reg [oO 19 (.load (.ag 16) (.t 2)),oN (.store (.ag 16) (.t 4) (.t 19))]) (.ret))),[(4,(some (.ag 16)))]⟩
theorem Nh:aD Try.prog { own:=[2],comp:=[],frz:=[],nils:=[] } Try.f95=some Ec:=by kernel_rfl
theorem uz (G:ak) (s k:List UInt8) (hs:s.length=16) (hk:k.length=16):ar Try.prog G 95 [.agg (s.map bD),.agg (k.map bD)] (.w (.c (.d (.agg ((jZ s k).map bD))))):=by
  refine aF Try.func95 Nh rfl rfl ?_;simp only[Ec,aj,ae,aa,seval,iteOmega,toNatUp,ej,fD,hk];refine bi (ux s k) (fun i=>16-i) (fun i=>i≤16) 0 (Q8 _) ?_ ?_
  ·refine aC (fun i=>if i=1 then 16 else 32) ?_ ?_ rfl rfl <;> simp only[wx,aA,aJ,aa,seval,iteOmega,toNatUp,l4]
  ·intro i hi;have hl:(bc (eM (aO s) (aO k)) s i).length=16:=by rw[kQ _ _ (by omega)]; exact hs
   by_cases hlt:i<16
   ·have g1:k[i]?=some (k.getD i 0):=cY (by omega);have g2:(bc (eM (aO s) (aO k)) s i)[i]?=some (s.getD i 0):=by rw[BN _ _ (Q5 i)]; exact cY (by omega)
    have h3:i<(bc (eM (aO s) (aO k)) s i).length:=by omega
    have h4:=eX (s.getD i 0) (k.getD i 0);have h5:(bc (eM (aO s) (aO k)) s i).set i (al (s.getD i 0) (k.getD i 0))=bc (eM (aO s) (aO k)) s (i+1):=l5 (eM (aO s) (aO k)) s (by omega);simp only[si,ux,ae,aa,seval,iteOmega,toNatUp,aU,g1,g2,h4,fF h3 (eG _),gn,h5];refine aZ (i+1) (by omega) (by omega) (aC (fun i=>i) ?_ ?_ rfl rfl) <;> simp only[wx,aA,aJ,aa,seval,iteOmega,toNatUp]
   ·obtain rfl:i=16:=by omega
    have e:bc (eM (aO s) (aO k)) s 16=jZ s k:=ow _ hs;have e2:=JH s k;simp only[si,ux,e,ae,aa,seval,iteOmega,toNatUp,e2,fD,bP];exact aM
def uA (s:List UInt8) (i:Nat):St:=⟨aR [(1,.w (.c (.ra (s.map bD)))),(2,.w (.c (.pa 2 1))),(3,.w (.c (.pa 1 1))),(6,.w (.c (.d (.int .i64 (i:Int)))))],hL [(1,.row 1 ((bc (fG (aO s)) (aV 16 (0:UInt8)) i).map bD)),(2,.row 1 ((aV 16 (0:UInt8)).map bD))],uL [1,2]⟩
def ry:aI := .seq (.reg [oO 7 (.bin .lss (.t 6) (kI 16))]) (.seq (.cond (.t 7) (.skip) (.exit 0)) (.seq (.block 1 (.seq (.reg [oM 8 6,oM 4 8]) (.seq (.reg [oM 9 4,oO 10 (.bin .rem (.t 9) (kI 4)),oM 5 10]) (.reg [oM 11 4,oM 12 4,oM 13 5,oO 14 (.bin .mul (.t 13) (kI 4)),oO 15 (.bin .add (.t 12) (.t 14)),oO 16 (.bin .rem (.t 15) (kI 16)),oO 17 (.idxPa 1 16 (.t 1) (.t 16)),oO 18 (.load .sc (.t 17)),oO 19 (.call 103 [(.t 18)] none),oO 20 (.idxPa 1 16 (.t 3) (.t 11)),oN (.store .sc (.t 20) (.t 19))])))) (.reg [oO 21 (.bin .add (.t 6) (kI 1)),oM 6 21])))
def BO:aE:=⟨1,23,.seq (.reg [oO 1 (.box .roArr (.t 0)),oO 2 (.allocArr [(.int .u8 0),(.int .u8 0),(.int .u8 0),(.int .u8 0),(.int .u8 0),(.int .u8 0),(.int .u8 0),(.int .u8 0),(.int .u8 0),(.int .u8 0),(.int .u8 0),(.int .u8 0),(.int .u8 0),(.int .u8 0),(.int .u8 0),(.int .u8 0)])]) (.seq (.reg [oO 3 (.allocArr [(.int .u8 0),(.int .u8 0),(.int .u8 0),(.int .u8 0),(.int .u8 0),(.int .u8 0),(.int .u8 0),(.int .u8 0),(.int .u8 0),(.int .u8 0),(.int .u8 0),(.int .u8 0),(.int .u8 0),(.int .u8 0),(.int .u8 0),(.int .u8 0)])]) (.seq (.seq (.reg [oO 6 (.mv (kI 0))]) (.block 0 (.loop ry))) (.seq (.reg [oO 22 (.load (.ag 16) (.t 3)),oN (.store (.ag 16) (.t 2) (.t 22))]) (.ret)))),[(2,(some (.ag 16)))]⟩
theorem Le:aD Try.prog { own:=[],comp:=[],frz:=[],nils:=[] } Try.f97=some BO:=by kernel_rfl
theorem Ed (G:ak) (s:List UInt8) (hs:s.length=16):ar Try.prog G 97 [.agg (s.map bD)] (.w (.c (.d (.agg ((lD s).map bD))))):=by
  refine aF Try.func97 Le rfl rfl ?_;simp only[BO,aj,ae,aa,seval,iteOmega,toNatUp,ej];refine bi (uA s) (fun i=>16-i) (fun i=>i≤16) 0 (Q8 _) ?_ ?_
  ·refine aC (fun i=>if i=1 then 24 else 16) ?_ ?_ rfl rfl <;> simp only[wx,aA,aJ,aa,seval,iteOmega,toNatUp,l4]
  ·intro i hi;have hl:(bc (fG (aO s)) (aV 16 (0:UInt8)) i).length=16:=by rw[kQ _ _ (by rw[bP]; omega),bP]
   by_cases hlt:i<16
   ·have hm:(i+i%4*4)%16=i%4+4*((i / 4+i%4)%4):=by omega
    have hm2:(i+i%4*4)%16<16:=by omega
    have g1:s[(i+i%4*4)%16]?=some (aO s (i%4+4*((i / 4+i%4)%4))):=by rw[← hm]; exact cY (by omega)
    have h3:i<(bc (fG (aO s)) (aV 16 (0:UInt8)) i).length:=by omega
    have h5:(bc (fG (aO s)) (aV 16 (0:UInt8)) i).set i (cL (aO s (i%4+4*((i / 4+i%4)%4))))=bc (fG (aO s)) (aV 16 (0:UInt8)) (i+1):=l5 (fG (aO s)) _ (by rw[bP]; omega);have t1:Int.tmod (i:Int) 4=((i%4:Nat):Int):=jO i 4;have t2:Int.tmod ((i:Int)+((i%4:Nat):Int)*4) 16=(((i+i%4*4)%16:Nat):Int):=jO (i+i%4*4) 16;have hb:(i%4:Nat)<4:=Sn _ (by decide);generalize hq:i%4=q at *
    generalize hp:(i+q*4)%16=p at *
    simp only[ry,uA,ae,aa,seval,iteOmega,toNatUp,aU,t1,t2,g1];refine sC (mw G (aO s (q+4*((i / 4+q)%4)))) ?_;simp only[fF h3 (eG _),gn,h5,aU,hl,ae,aa,seval,iteOmega,toNatUp];refine aZ (i+1) (by omega) (by omega) (aC (fun i=>i) ?_ ?_ rfl rfl) <;> simp only[wx,aA,aJ,aa,seval,iteOmega,toNatUp]
   ·obtain rfl:i=16:=by omega
    have e:bc (fG (aO s)) (aV 16 (0:UInt8)) 16=lD s:=ow _ (bP _ _);have e2:=sd s;simp only[ry,uA,e,ae,aa,seval,iteOmega,toNatUp,e2,fD,bP];exact aM
theorem Ni (a b c d:UInt8):al (al (al (eS (al a b)) b) c) d=qc a b c d:=by
  unfold qc vK;rw[Lc a b,Ea,Ea]
def t5 (s:List UInt8) (i:Nat):St:=⟨aR [(1,.w (.c (.ra (s.map bD)))),(2,.w (.c (.pa 2 1))),(3,.w (.c (.pa 1 1))),(8,.w (.c (.d (.int .i64 (i:Int)))))],hL [(1,.row 1 ((bc (eO (aO s)) (aV 16 (0:UInt8)) i).map bD)),(2,.row 1 ((aV 16 (0:UInt8)).map bD))],uL [1,2]⟩
def rz:aI := .seq (.reg [oO 9 (.bin .lss (.t 8) (kI 16))]) (.seq (.cond (.t 9) (.skip) (.exit 0)) (.seq (.block 1 (.seq (.reg [oM 10 8,oM 4 10]) (.seq (.reg [oM 11 4,oO 12 (.bin .rem (.t 11) (kI 4)),oM 5 12]) (.seq (.reg [oM 13 4,oM 14 5,oO 15 (.bin .sub (.t 13) (.t 14)),oM 16 4,oM 17 5,oO 18 (.bin .sub (.t 16) (.t 17)),oO 19 (.bin .add (.t 18) (kI 4)),oO 20 (.sliceArr 1 16 (.t 1) (some (.t 15)) (some (.t 19))),oM 6 20]) (.seq (.reg [oM 21 6,oM 22 5,oO 23 (.bin .add (.t 22) (kI 1)),oO 24 (.bin .rem (.t 23) (kI 4)),oO 25 (.idxSl 1 (.t 21) (.t 24)),oO 26 (.load .sc (.t 25)),oM 7 26]) (.reg [oM 27 4,oM 28 4,oO 29 (.idxPa 1 16 (.t 1) (.t 28)),oO 30 (.load .sc (.t 29)),oM 31 7,oO 32 (.bin .xor (.t 30) (.t 31)),oO 33 (.call 93 [(.t 32)] none),oM 34 7,oO 35 (.bin .xor (.t 33) (.t 34)),oM 36 6,
 oM 37 5,oO 38 (.bin .add (.t 37) (kI 2)),oO 39 (.bin .rem (.t 38) (kI 4)),oO 40 (.idxSl 1 (.t 36) (.t 39)),oO 41 (.load .sc (.t 40)),oO 42 (.bin .xor (.t 35) (.t 41)),oM 43 6,oM 44 5,oO 45 (.bin .add (.t 44) (kI 3)),oO 46 (.bin .rem (.t 45) (kI 4)),oO 47 (.idxSl 1 (.t 43) (.t 46)),oO 48 (.load .sc (.t 47)),oO 49 (.bin .xor (.t 42) (.t 48)),oO 50 (.idxPa 1 16 (.t 3) (.t 27)),oN (.store .sc (.t 50) (.t 49))])))))) (.reg [oO 51 (.bin .add (.t 8) (kI 1)),oM 8 51])))
def BP:aE:=⟨1,53,.seq (.reg [oO 1 (.box .roArr (.t 0)),oO 2 (.allocArr [(.int .u8 0),(.int .u8 0),(.int .u8 0),(.int .u8 0),(.int .u8 0),(.int .u8 0),(.int .u8 0),(.int .u8 0),(.int .u8 0),(.int .u8 0),(.int .u8 0),(.int .u8 0),(.int .u8 0),(.int .u8 0),(.int .u8 0),(.int .u8 0)])]) (.seq (.reg [oO 3 (.allocArr [(.int .u8 0),(.int .u8 0),(.int .u8 0),(.int .u8 0),(.int .u8 0),(.int .u8 0),(.int .u8 0),(.int .u8 0),(.int .u8 0),(.int .u8 0),(.int .u8 0),(.int .u8 0),(.int .u8 0),(.int .u8 0),(.int .u8 0),(.int .u8 0)])]) (.seq (.seq (.reg [oO 8 (.mv (kI 0))]) (.block 0 (.loop rz))) (.seq (.reg [oO 52 (.load (.ag 16) (.t 3)),oN (.store (.ag 16) (.t 2) (.t 52))]) (.ret)))),[(2,(some (.ag 16)))]⟩
theorem Lf:aD Try.prog { own:=[],comp:=[],frz:=[],nils:=[] } Try.f96=some BP:=by kernel_rfl
theorem Nj (G:ak) (s:List UInt8) (hs:s.length=16):ar Try.prog G 96 [.agg (s.map bD)] (.w (.c (.d (.agg ((mH s).map bD))))):=by
  refine aF Try.func96 Lf rfl rfl ?_;simp only[BP,aj,ae,aa,seval,iteOmega,toNatUp,ej];refine bi (t5 s) (fun i=>16-i) (fun i=>i≤16) 0 (Q8 _) ?_ ?_
  ·refine aC (fun i=>if i=1 then 24 else 16) ?_ ?_ rfl rfl <;> simp only[wx,aA,aJ,aa,seval,iteOmega,toNatUp,l4]
  ·intro i hi;have hl:(bc (eO (aO s)) (aV 16 (0:UInt8)) i).length=16:=by rw[kQ _ _ (by rw[bP]; omega),bP]
   by_cases hlt:i<16
   ·have h3:i<(bc (eO (aO s)) (aV 16 (0:UInt8)) i).length:=by omega
    have h5:(bc (eO (aO s)) (aV 16 (0:UInt8)) i).set i (eO (aO s) i)=bc (eO (aO s)) (aV 16 (0:UInt8)) (i+1):=l5 (eO (aO s)) _ (by rw[bP]; omega);have g0:s[i]?=some (aO s i):=cY (by omega);obtain⟨q,r,hr,rfl⟩:∃ q r,r<4∧i=4*q+r:=⟨i / 4,i%4,Sn _ (by decide),by omega⟩
    have hq:q<4:=by omega
    have col:∀ j,j<4→((s.drop (4*q)).take 4)[j]?=some (aO s (4*q+j)):=fun j hj=>by
      rw[Rj,if_pos hj,RG]; exact cY (by omega)
    have g1:=col ((r+1)%4) (Sn _ (by decide));have g2:=col ((r+2)%4) (Sn _ (by decide));have g3:=col ((r+3)%4) (Sn _ (by decide));have t0:Int.tmod (4*(q:Int)+(r:Int)) 4=(r:Int):=by
      show Int.tmod ((4*q+r:Nat):Int) ((4:Nat):Int)=_
      rw[jO]; congr 1; omega
    have t1:Int.tmod ((r:Int)+1) 4=(((r+1)%4:Nat):Int):=jO (r+1) 4;have t2:Int.tmod ((r:Int)+2) 4=(((r+2)%4:Nat):Int):=jO (r+2) 4;have t3:Int.tmod ((r:Int)+3) 4=(((r+3)%4:Nat):Int):=jO (r+3) 4;have b1:(r+1)%4<4:=Sn _ (by decide);have b2:(r+2)%4<4:=Sn _ (by decide);have b3:(r+3)%4<4:=Sn _ (by decide);have em:eO (aO s) (4*q+r)=qc (aO s (4*q+r)) (aO s (4*q+(r+1)%4)) (aO s (4*q+(r+2)%4)) (aO s (4*q+(r+3)%4)):=by
      unfold eO;rw[show (4*q+r) / 4=q by omega,show (4*q+r)%4=r by omega]
    rw[em,← Ni] at h5;have s1:4*q+r-r=4*q:=by omega
    have s2:4*q+4-4*q=4:=by omega
    have s3:((s.drop (4*q)).take 4).length=4:=by rw[QY,Q4]; omega
    generalize (r+1)%4=r1 at *
    generalize (r+2)%4=r2 at *
    generalize (r+3)%4=r3 at *
    generalize aO s (4*q+r)=a at *
    generalize aO s (4*q+r1)=b at *
    generalize aO s (4*q+r2)=c at *
    generalize aO s (4*q+r3)=d at *
    have x1:=eX a b;have x2:=eX (eS (al a b)) b;have x3:=eX (al (eS (al a b)) b) c;have x4:=eX (al (al (eS (al a b)) b) c) d;simp only[rz,t5,ae,aa,seval,iteOmega,toNatUp,aU,t0,t1,t2,t3,g0,g1,g2,g3,s1,s2,s3,x1];refine sC (Fw G (al a b)) ?_;simp only[aU,t0,t1,t2,t3,g0,g1,g2,g3,s1,s2,s3,x2,x3,x4,fF h3 (eG _),gn,h5,hl,ae,aa,seval,iteOmega,toNatUp];refine aZ (4*q+r+1) (by omega) (by omega) (aC (fun i=>i) ?_ ?_ rfl rfl) <;> simp only[wx,aA,aJ,aa,seval,iteOmega,toNatUp]
   ·obtain rfl:i=16:=by omega
    have e:bc (eO (aO s)) (aV 16 (0:UInt8)) 16=mH s:=ow _ (bP _ _);have e2:=z6 s;simp only[rz,t5,e,ae,aa,seval,iteOmega,toNatUp,e2,fD,bP];exact aM
def QG (l:List UInt8) (c:UInt8) (j:Nat):UInt8:=if j=0 then al (cL (l.getD 13 0)) c else if j=1 then cL (l.getD 14 0) else if j=2 then cL (l.getD 15 0) else cL (l.getD 12 0)
def wV (l:List UInt8) (c:UInt8):Nat→Nat→UInt8
  | 0,j=>QG l c j
  | n+1,j=>if j=n%4 then al (l.getD n 0) (wV l c n (n%4)) else wV l c n j
def ee (l:List UInt8) (c:UInt8) (n:Nat):UInt8:=al (l.getD n 0) (wV l c n (n%4))
def jp (l:List UInt8) (c:UInt8):List UInt8:=bo (ee l c)
theorem nR (l:List UInt8) (c:UInt8):(jp l c).length=16:=dO _
def wL (l:List UInt8) (c:UInt8) (i:Nat):List UInt8:=(List.range 4).map (wV l c i)
theorem kX (l:List UInt8) (c:UInt8) (i:Nat):(wL l c i).length=4:=by simp[wL]
theorem t6 (l:List UInt8) (c:UInt8) (i:Nat) {j:Nat} (h:j<4):(wL l c i)[j]?=some (wV l c i j):=by simp[wL,h]
theorem Lg (l:List UInt8) (c:UInt8) (i:Nat):(wL l c i).set (i%4) (ee l c i)=wL l c (i+1):=by
  apply Sw;intro j;by_cases hj:j<4
  ·rw[t6 _ _ _ hj,List.getElem?_set];by_cases e:i%4=j
   ·rw[if_pos e,if_pos (by rw[kX]; omega),wV,if_pos e.symm]; rfl
   ·rw[if_neg e,t6 _ _ _ hj,wV,if_neg (fun h=>e h.symm)]
  ·rw[Ry (by rw[R9,kX]; omega),Ry (by rw[kX]; omega)]
theorem Lh (l:List UInt8) (c:UInt8):[al (cL (l.getD 13 0)) c,cL (l.getD 14 0),cL (l.getD 15 0),cL (l.getD 12 0)]=wL l c 0:=rfl
def uB (l:List UInt8) (c:UInt8) (i:Nat):St:=⟨aR [(2,.w (.c (.pa 1 1))),(4,.w (.c (.pa 2 1))),(5,.w (.c (.pa 3 1))),(22,.w (.c (.d (.int .i64 (i:Int)))))],hL [(1,.row 1 ((bc (ee l c) l i).map bD)),(2,.row 1 ((aV 16 (0:UInt8)).map bD)),(3,.row 1 ((wL l c i).map bD))],uL [1,2,3]⟩
def sk:aI := .seq (.reg [oO 23 (.bin .lss (.t 22) (kI 16))]) (.seq (.cond (.t 23) (.skip) (.exit 0)) (.seq (.block 1 (.seq (.reg [oM 24 22,oM 6 24]) (.seq (.reg [oM 25 6,oO 26 (.idxPa 1 16 (.t 2) (.t 25)),oO 27 (.load .sc (.t 26)),oM 28 6,oO 29 (.bin .rem (.t 28) (kI 4)),oO 30 (.idxPa 1 4 (.t 5) (.t 29)),oO 31 (.load .sc (.t 30)),oO 32 (.bin .xor (.t 27) (.t 31)),oO 33 (.idxPa 1 16 (.t 2) (.t 25)),oN (.store .sc (.t 33) (.t 32))]) (.reg [oM 34 6,oO 35 (.bin .rem (.t 34) (kI 4)),oM 36 6,oO 37 (.idxPa 1 16 (.t 2) (.t 36)),oO 38 (.load .sc (.t 37)),oO 39 (.idxPa 1 4 (.t 5) (.t 35)),oN (.store .sc (.t 39) (.t 38))])))) (.reg [oO 40 (.bin .add (.t 22) (kI 1)),oM 22 40])))
def Ee:aE:=⟨2,42,.seq (.reg [oO 2 (.box .ownArr (.t 0)),oO 4 (.allocArr [(.int .u8 0),(.int .u8 0),(.int .u8 0),(.int .u8 0),(.int .u8 0),(.int .u8 0),(.int .u8 0),(.int .u8 0),(.int .u8 0),(.int .u8 0),(.int .u8 0),(.int .u8 0),(.int .u8 0),(.int .u8 0),(.int .u8 0),(.int .u8 0)])]) (.seq (.reg [oO 7 (.idxPa 1 16 (.t 2) (kI 13)),oO 8 (.load .sc (.t 7)),oO 9 (.call 103 [(.t 8)] none),oM 10 1,oO 11 (.bin .xor (.t 9) (.t 10)),oO 12 (.idxPa 1 16 (.t 2) (kI 14)),oO 13 (.load .sc (.t 12)),oO 14 (.call 103 [(.t 13)] none),oO 15 (.idxPa 1 16 (.t 2) (kI 15)),oO 16 (.load .sc (.t 15)),oO 17 (.call 103 [(.t 16)] none),oO 18 (.idxPa 1 16 (.t 2) (kI 12)),oO 19 (.load .sc (.t 18)),oO 20 (.call 103 [(.t 19)] none),oO 21 (.build [(.d (.int .u8 0)),(.d (.int .u8 0)),(.d (.int .u8 0)),(.d (.int .u8 0))] [(0,1,(.t 11)),(1,1,(.t 14)),(2,1,(.t 17)),(3,1,(.t 20))]),
 oO 5 (.allocArr [(.int .u8 0),(.int .u8 0),(.int .u8 0),(.int .u8 0)]),oN (.store (.ag 4) (.t 5) (.t 21))]) (.seq (.seq (.reg [oO 22 (.mv (kI 0))]) (.block 0 (.loop sk))) (.seq (.reg [oO 41 (.load (.ag 16) (.t 2)),oN (.store (.ag 16) (.t 4) (.t 41))]) (.ret)))),[(4,(some (.ag 16)))]⟩
theorem Nk:aD Try.prog { own:=[2],comp:=[],frz:=[],nils:=[] } Try.f92=some Ee:=by kernel_rfl
set_option maxHeartbeats 3200000 in
theorem Pm (G:ak) (l:List UInt8) (c:UInt8) (hl:l.length=16):ar Try.prog G 92 [.agg (l.map bD),bD c] (.w (.c (.d (.agg ((jp l c).map bD))))):=by
  refine aF Try.func92 Nk rfl rfl ?_;have a13:l[13]?=some (l.getD 13 0):=cY (by omega);have a14:l[14]?=some (l.getD 14 0):=cY (by omega);have a15:l[15]?=some (l.getD 15 0):=cY (by omega);have a12:l[12]?=some (l.getD 12 0):=cY (by omega);have x0:=eX (cL (l.getD 13 0)) c;have w0:=congrArg (List.map bD) (Lh l c);have wl:=kX l c 0;simp only[QX,Ro] at w0;simp only[Ee,aj,ae,aa,seval,iteOmega,toNatUp,ej,hl,aU,a13];refine sC (mw G (l.getD 13 0)) ?_;simp only[x0,aU,a14,hl,ae,aa,seval,iteOmega,toNatUp];refine sC (mw G (l.getD 14 0)) ?_;simp only[aU,a15,hl,ae,aa,seval,iteOmega,toNatUp];refine sC (mw G (l.getD 15 0)) ?_;simp only[aU,a12,hl,ae,aa,seval,iteOmega,toNatUp];refine sC (mw G (l.getD 12 0)) ?_;simp only[w0,ae,aa,seval,iteOmega,toNatUp];refine bi (uB l c) (fun i=>16-i) (fun i=>i≤16) 0 (Q8 _) ?_ ?_
  ·refine aC (fun i=>if i=1 then 16 else if i=2 then 32 else 40) ?_ ?_ rfl rfl <;> simp only[wx,aA,aJ,aa,seval,iteOmega,toNatUp,l4]
  ·intro i hi;have hu:(bc (ee l c) l i).length=16:=by rw[kQ _ _ (by omega)]; exact hl
   by_cases hlt:i<16
   ·have hm:i%4<4:=Sn _ (by decide);have t1:Int.tmod (i:Int) 4=((i%4:Nat):Int):=jO i 4;have g1:(bc (ee l c) l i)[i]?=some (l.getD i 0):=by rw[BN _ _ (Q5 i)]; exact cY (by omega)
    have g2:=t6 l c i hm;have x1:=eX (l.getD i 0) (wV l c i (i%4));have h3:i<(bc (ee l c) l i).length:=by omega
    have h4:i%4<(wL l c i).length:=by rw[kX]; exact hm
    have h5:(bc (ee l c) l i).set i (ee l c i)=bc (ee l c) l (i+1):=l5 (ee l c) l (by omega);have h6:=Lg l c i;have g3:(bc (ee l c) l (i+1))[i]?=some (ee l c i):=JG _ _ (Nat.lt_succ_self i);have hf:al (l.getD i 0) (wV l c i (i%4))=ee l c i:=rfl;have hwl:=kX l c i;have hu2:(bc (ee l c) l (i+1)).length=16:=by rw[kQ _ _ (by omega)]; exact hl
    generalize hq:i%4=q at *
    simp only[sk,uB,ae,aa,seval,iteOmega,toNatUp,aU,t1,g1,g2,x1,hf,fF h3 (eG _),fF h4 (eG _),gn,h5,h6,g3,hu,hu2,hwl];refine aZ (i+1) (by omega) (by omega) (aC (fun i=>i) ?_ ?_ rfl rfl) <;> simp only[wx,aA,aJ,aa,seval,iteOmega,toNatUp]
   ·obtain rfl:i=16:=by omega
    have e:bc (ee l c) l 16=jp l c:=ow _ hl;have e2:=nR l c;simp only[sk,uB,e,ae,aa,seval,iteOmega,toNatUp,e2,fD,bP];exact aM
theorem Ip {P Q:List UInt8} {k n:Nat} (h:P.length=n):(P++Q).getD (n+k) 0=Q.getD k 0:=by
  rw[QW,QW,RI (by omega),h,Nat.add_sub_cancel_left]
theorem JJ {P Q:List UInt8} {k n:Nat} (h:P.length=n):(P++Q).drop (n+k)=Q.drop k:=by
  rw[← h,List.drop_append,RU (by omega),R0,Nat.add_sub_cancel_left]
theorem nC {P Q:List UInt8} {n:Nat} (h:P.length=4*n):ix (P++Q) n=(List.range 4).map fun k=>al (Q.getD k 0) ((lq (Q.drop 12) n).getD k 0):=by
  unfold ix;refine RE fun k _=>?_
  rw[Ip h,show 12+4*n=4*n+12 by omega,JJ h]
theorem Pn (b0 b1 b2 b3 b4 b5 b6 b7 b8 b9 b10 b11 b12 b13 b14 b15 c:UInt8):∃ f0 f1 f2 f3,
    f0=al b0 (al (cL b13) c)∧f1=al b1 (cL b14)∧f2=al b2 (cL b15)∧f3=al b3 (cL b12) ∧
    jp [b0,b1,b2,b3,b4,b5,b6,b7,b8,b9,b10,b11,b12,b13,b14,b15] c =
      [f0,f1,f2,f3,al b4 f0,al b5 f1,al b6 f2,al b7 f3,al b8 (al b4 f0),al b9 (al b5 f1),al b10 (al b6 f2),al b11 (al b7 f3),
       al b12 (al b8 (al b4 f0)),al b13 (al b9 (al b5 f1)),al b14 (al b10 (al b6 f2)),al b15 (al b11 (al b7 f3))] :=
  ⟨_,_,_,_,rfl,rfl,rfl,rfl,rfl⟩
theorem nS (f:Nat→UInt8):(List.range 4).map f=[f 0,f 1,f 2,f 3]:=rfl
theorem JK {P:List UInt8} {r:Nat} (hP:P.length=16*r) (b0 b1 b2 b3 b4 b5 b6 b7 b8 b9 b10 b11 b12 b13 b14 b15:UInt8) (key:List UInt8)
    (h:cF key (4*r)=P++[b0,b1,b2,b3,b4,b5,b6,b7,b8,b9,b10,b11,b12,b13,b14,b15]) :
    cF key (4*(r+1))=cF key (4*r)++jp [b0,b1,b2,b3,b4,b5,b6,b7,b8,b9,b10,b11,b12,b13,b14,b15] (fj r):=by
  obtain⟨f0,f1,f2,f3,e0,e1,e2,e3,ef⟩:=Pn b0 b1 b2 b3 b4 b5 b6 b7 b8 b9 b10 b11 b12 b13 b14 b15 (fj r);have m0:4*r%4=0:=by omega
  have m1:(4*r+1)%4≠0:=by omega
  have m2:(4*r+2)%4≠0:=by omega
  have m3:(4*r+3)%4≠0:=by omega
  have d0:4*r / 4=r:=by omega
  have n0:ix (cF key (4*r)) (4*r)=[f0,f1,f2,f3]:=by
    rw[h,nC (by omega),nS];unfold lq;rw[if_pos m0,d0,e0,e1,e2,e3]; rfl
  have s1:cF key (4*r+1)=(P++[b0,b1,b2,b3])++[b4,b5,b6,b7,b8,b9,b10,b11,b12,b13,b14,b15,f0,f1,f2,f3]:=by
    rw[cF,n0,h]; simp
  have n1:ix (cF key (4*r+1)) (4*r+1)=[al b4 f0,al b5 f1,al b6 f2,al b7 f3]:=by
    rw[s1,nC (by simp; omega),nS];unfold lq;rw[if_neg m1]; rfl
  have s2:cF key (4*r+2)=(P++[b0,b1,b2,b3,b4,b5,b6,b7])++[b8,b9,b10,b11,b12,b13,b14,b15,f0,f1,f2,f3,al b4 f0,al b5 f1,al b6 f2,al b7 f3]:=by
    rw[show 4*r+2=(4*r+1)+1 from rfl,cF,n1,s1]; simp
  have n2:ix (cF key (4*r+2)) (4*r+2)=[al b8 (al b4 f0),al b9 (al b5 f1),al b10 (al b6 f2),al b11 (al b7 f3)]:=by
    rw[s2,nC (by simp; omega),nS];unfold lq;rw[if_neg m2]; rfl
  have s3:cF key (4*r+3)=(P++[b0,b1,b2,b3,b4,b5,b6,b7,b8,b9,b10,b11])++[b12,b13,b14,b15,f0,f1,f2,f3,al b4 f0,al b5 f1,al b6 f2,al b7 f3,al b8 (al b4 f0),al b9 (al b5 f1),al b10 (al b6 f2),al b11 (al b7 f3)]:=by
    rw[show 4*r+3=(4*r+2)+1 from rfl,cF,n2,s2]; simp
  have n3:ix (cF key (4*r+3)) (4*r+3)=[al b12 (al b8 (al b4 f0)),al b13 (al b9 (al b5 f1)),al b14 (al b10 (al b6 f2)),al b15 (al b11 (al b7 f3))]:=by
    rw[s3,nC (by simp; omega),nS];unfold lq;rw[if_neg m3]; rfl
  rw[show 4*(r+1)=(4*r+3)+1 by omega,cF,n3,s3,ef,h];simp
def kb (key:List UInt8) (r:Nat):List UInt8:=(cF key (4*r)).drop (16*r)
theorem t7 {key:List UInt8} (h:key.length=16) (r:Nat):(kb key r).length=16:=by
  unfold kb; rw[Q4,jE h]; omega
theorem Nl {l:List UInt8} (h:l.length=16):∃ b0 b1 b2 b3 b4 b5 b6 b7 b8 b9 b10 b11 b12 b13 b14 b15,l=[b0,b1,b2,b3,b4,b5,b6,b7,b8,b9,b10,b11,b12,b13,b14,b15]:=by
  rcases l with _ | ⟨b0,l⟩ <;> simp at h
  rcases l with _ | ⟨b1,l⟩ <;> simp at h
  rcases l with _ | ⟨b2,l⟩ <;> simp at h
  rcases l with _ | ⟨b3,l⟩ <;> simp at h
  rcases l with _ | ⟨b4,l⟩ <;> simp at h
  rcases l with _ | ⟨b5,l⟩ <;> simp at h
  rcases l with _ | ⟨b6,l⟩ <;> simp at h
  rcases l with _ | ⟨b7,l⟩ <;> simp at h
  rcases l with _ | ⟨b8,l⟩ <;> simp at h
  rcases l with _ | ⟨b9,l⟩ <;> simp at h
  rcases l with _ | ⟨b10,l⟩ <;> simp at h
  rcases l with _ | ⟨b11,l⟩ <;> simp at h
  rcases l with _ | ⟨b12,l⟩ <;> simp at h
  rcases l with _ | ⟨b13,l⟩ <;> simp at h
  rcases l with _ | ⟨b14,l⟩ <;> simp at h
  rcases l with _ | ⟨b15,l⟩ <;> simp at h
  subst h;exact⟨_,_,_,_,_,_,_,_,_,_,_,_,_,_,_,_,rfl⟩
theorem Li {key:List UInt8} (h:key.length=16) (r:Nat):cF key (4*(r+1))=cF key (4*r)++jp (kb key r) (fj r):=by
  obtain⟨b0,b1,b2,b3,b4,b5,b6,b7,b8,b9,b10,b11,b12,b13,b14,b15,e⟩:=Nl (t7 h r);rw[e];refine JK (P:=(cF key (4*r)).take (16*r)) ?_ _ _ _ _ _ _ _ _ _ _ _ _ _ _ _ _ key ?_
  ·rw[QY,jE h]; omega
  ·rw[← e]; exact (RA _ _).symm
def dL (key:List UInt8) (i:Nat):List UInt8:=cF key (4*i)++aV (160-16*i) 0
theorem Lj {key:List UInt8} (h:key.length=16) {i:Nat} (hi:i≤10):(dL key i).length=176:=by
  unfold dL; rw[QV,jE h,bP]; omega
theorem JL {key:List UInt8} (h:key.length=16):bG (aV 176 (0:UInt8)) 0 key=dL key 0:=by
  unfold bG dL aV;rw[List.take_zero,R0,List.drop_replicate,h]; rfl
theorem JM {key:List UInt8} (h:key.length=16) {i:Nat} (hi:i≤10):((dL key i).drop (i*16)).take 16=kb key i:=by
  unfold dL;rw[SC,List.drop_append_of_le_length (by rw[jE h]; omega)];exact List.take_left' (t7 h i)
theorem JN {key:List UInt8} (h:key.length=16) {i:Nat} (hi:i<10):bG (dL key i) ((i+1)*16) (jp (kb key i) (fj i))=dL key (i+1):=by
  have hl:(cF key (4*i)).length=(i+1)*16:=by rw[jE h]; omega
  unfold bG dL;rw[Li h,Sx (by omega),QZ (by omega),nR,List.drop_append,RU (by omega),R0,hl]
  congr 1
  unfold aV;rw[List.drop_replicate]
  congr 1
  omega
theorem JO (key:List UInt8):dL key 10=aw key:=by
  unfold dL aV aw; rw[show 160-16*10=0 from rfl,Sz,Rh]
set_option maxHeartbeats 3200000
def t8 (key:List UInt8) (i:Nat):St:=⟨aR [(2,.w (.c (.ptr 2 1 0 0))),(3,.w (.c (.ptr 1 1 0 0))),(4,.w (.c (.d (bD (fj i))))),(5,.w (.c (.d (.int .i64 ((i+1:Nat):Int)))))],hL [(1,.box ((dL key i).map bC)),(2,.box ((aV 176 (0:UInt8)).map bC))],uL [1,2]⟩
theorem Qw:fj 0=1:=rfl
def rA:aI := .seq (.seq (.reg [oM 10 5,oO 11 (.bin .leq (.t 10) (kI 10))]) (.cond (.t 11) (.skip) (.exit 0))) (.seq (.block 1 (.seq (.reg [oM 14 5,oM 15 5,oO 16 (.bin .sub (.t 15) (kI 1)),oO 17 (.idxPa 16 11 (.t 3) (.t 16)),oO 18 (.load (.ag 16) (.t 17)),oM 19 4,oO 20 (.call 92 [(.t 18),(.t 19)] none),oO 21 (.idxPa 16 11 (.t 3) (.t 14)),oN (.store (.ag 16) (.t 21) (.t 20))]) (.reg [oM 22 4,oO 23 (.call 93 [(.t 22)] none),oM 4 23]))) (.reg [oM 12 5,oO 13 (.bin .add (.t 12) (kI 1)),oM 5 13]))
def BQ:aE:=⟨1,25,.seq (.reg [oO 2 (.alloc (aV 176 (.d (.int .u8 0))))]) (.seq (.reg [oO 3 (.alloc (aV 176 (.d (.int .u8 0))))]) (.seq (.reg [oO 6 (.idxPa 16 11 (.t 3) (kI 0)),oO 7 (.sliceArr 1 16 (.t 6) none none),oM 8 0,oO 9 (.copy 1 (.t 7) (.t 8))]) (.seq (.reg [oO 4 (.mv (.k (.c (.d (.int .u8 1)))))]) (.seq (.seq (.reg [oO 5 (.mv (kI 1))]) (.block 0 (.loop rA))) (.seq (.reg [oO 24 (.load (.ag 176) (.t 3)),oN (.store (.ag 176) (.t 2) (.t 24))]) (.ret)))))),[(2,(some (.ag 176)))]⟩
theorem Lk:aD Try.prog { own:=[],comp:=[],frz:=[],nils:=[] } Try.f84=some BQ:=by kernel_rfl
theorem Ef (G:ak) (key:List UInt8) (h:key.length=16):ar Try.prog G 84 [.sl (key.map bD)] (.w (.c (.d (.agg ((aw key).map bD))))):=by
  refine aF Try.func84 Lk rfl rfl ?_;have ht:key.take 16=key:=QZ (by omega);have h0:key++List.drop key.length (aV 176 (0:UInt8))=dL key 0:=by rw[← JL h]; simp[bG]
  have hid:=eu (dL key 0);have hid2:=eu (aV 176 (0:UInt8));simp only[BQ,aj,ae,aa,seval,iteOmega,toNatUp,BE,ga,bP,dC,ht,fD,mr,Js,h0];refine bi (t8 key) (fun i=>10-i) (fun i=>i≤10) 0 (Q8 _) ?_ ?_
  ·refine aC (fun i=>if i=1 then 24 else 16) ?_ ?_ rfl (by simp[V.ids,W.ids,C.ids,Ob.ids,eu]) <;> simp only[wx,aA,aJ,aa,seval,iteOmega,toNatUp,Qw,QF,kV,eu]
  ·intro i hi;have hl:=Lj h hi;by_cases hlt:i<10
   ·have g1:=JM h hi;have h5:List.take ((i+1)*16) (dL key i)++jp (kb key i) (fj i)++List.drop ((i+1)*16+16) (dL key i)=dL key (i+1):=by
      rw[← JN h hlt]; unfold bG; rw[nR]
    have hf:=nR (kb key i) (fj i);have hx:eS (fj i)=fj (i+1):=rfl;have s1:((i:Int)+1-1).toNat=i:=by omega
    simp only[rA,t8,ae,aa,seval,iteOmega,toNatUp,ga,hl,dC,gE,g1,l8];refine sC (Pm G (kb key i) (fj i) (t7 h i)) ?_;simp only[ga,hl,mr,hf,dC,gE,ie,h5,ae,aa,seval,iteOmega,toNatUp];refine sC (Fw G (fj i)) ?_;simp only[hx,ae,aa,seval,iteOmega,toNatUp];refine aZ (i+1) (by omega) (by omega) (aC (fun i=>i) ?_ ?_ rfl (by simp[V.ids,W.ids,C.ids,Ob.ids,eu])) <;> simp only[wx,aA,aJ,aa,seval,iteOmega,toNatUp,kV,eu]
   ·obtain rfl:i=10:=by omega
    have e:=JO key;have e2:=tc h;rw[e] at hl;have t1:(aw key).take 176=aw key:=QZ (by omega);have t2:List.drop 176 (aV 176 (0:UInt8))=[]:=RU (by rw[bP]; omega);have t3:aw key++List.drop (aw key).length (aV 176 (0:UInt8))=aw key:=by rw[e2,t2,Rh]
    simp only[rA,t8,e,ae,aa,seval,iteOmega,toNatUp,ga,hl,e2,t1,t2,t3,l8,mr,bP,dC,gE,ie,Rh];exact mg (by simp only[ae,aa,seval,iteOmega,toNatUp,ga,hl,e2,t1,t2,t3,l8,mr,bP,dC,gE,ie,Rh])
theorem JP (l:List UInt8):cA ((l.map bD).map C.d)=some (l.map bD):=by
  induction l with
  | nil=>rfl
  | cons x l ih =>
    show cA (C.d (bD x)::(l.map bD).map C.d)=_
    simp only[cA,ih,QX,Sq]
theorem JQ (rk b:List UInt8) (hb:b.length=16):jZ b (bo (cM rk 0))=bo (fJ (cM rk) (aO b) 0):=by
  have:=sg (aO b) (cM rk 0);rw[Nb hb] at this;exact this
theorem Ll (rk b:List UInt8) {n:Nat} (h:n+1<10):jZ (mH (lD (bo (fJ (cM rk) (aO b) n)))) (bo (cM rk (n+1)))=bo (fJ (cM rk) (aO b) (n+1)):=by
  rw[z7,JI,sg]
  show _=bo (tY _ _ _)
  unfold tY;rw[if_pos h]
theorem JR (rk b:List UInt8):jZ (lD (bo (fJ (cM rk) (aO b) 9))) (bo (cM rk 10))=cX rk b:=by
  rw[z7,sg];rfl
def uC (rk b:List UInt8) (i:Nat):St:=⟨aR [(2,.w (.c (.rp (rk.map bD)))),(4,.w (.c (.pa 2 1))),(5,.w (.c (.pa 1 1))),(6,.w (.c (.d (.int .i64 ((i+1:Nat):Int)))))],hL [(1,.row 1 ((bo (fJ (cM rk) (aO b) i)).map bD)),(2,.row 1 ((aV 16 (0:UInt8)).map bD))],uL [1,2]⟩
def rB:aI := .seq (.seq (.reg [oM 14 6,oO 15 (.bin .lss (.t 14) (kI 10))]) (.cond (.t 15) (.skip) (.exit 0))) (.seq (.block 1 (.reg [oO 18 (.load (.ag 16) (.t 5)),oO 19 (.call 97 [(.t 18)] none),oO 20 (.call 96 [(.t 19)] none),oM 21 6,oO 22 (.idxPa 16 11 (.t 2) (.t 21)),oO 23 (.load (.ag 16) (.t 22)),oO 24 (.call 95 [(.t 20),(.t 23)] none),oN (.store (.ag 16) (.t 5) (.t 24))])) (.reg [oM 16 6,oO 17 (.bin .add (.t 16) (kI 1)),oM 6 17]))
def BR:aE:=⟨2,30,.seq (.reg [oO 2 (.box .roBox (.t 0)),oO 4 (.allocArr [(.int .u8 0),(.int .u8 0),(.int .u8 0),(.int .u8 0),(.int .u8 0),(.int .u8 0),(.int .u8 0),(.int .u8 0),(.int .u8 0),(.int .u8 0),(.int .u8 0),(.int .u8 0),(.int .u8 0),(.int .u8 0),(.int .u8 0),(.int .u8 0)])]) (.seq (.reg [oO 5 (.allocArr [(.int .u8 0),(.int .u8 0),(.int .u8 0),(.int .u8 0),(.int .u8 0),(.int .u8 0),(.int .u8 0),(.int .u8 0),(.int .u8 0),(.int .u8 0),(.int .u8 0),(.int .u8 0),(.int .u8 0),(.int .u8 0),(.int .u8 0),(.int .u8 0)])]) (.seq (.reg [oO 7 (.sliceArr 1 16 (.t 5) none none),oM 8 1,oO 9 (.copy 1 (.t 7) (.t 8))]) (.seq (.reg [oO 10 (.load (.ag 16) (.t 5)),oO 11 (.idxPa 16 11 (.t 2) (kI 0)),oO 12 (.load (.ag 16) (.t 11)),oO 13 (.call 95 [(.t 10),(.t 12)] none),oN (.store (.ag 16) (.t 5) (.t 13))])
 (.seq (.seq (.reg [oO 6 (.mv (kI 1))]) (.block 0 (.loop rB))) (.seq (.reg [oO 25 (.load (.ag 16) (.t 5)),oO 26 (.call 97 [(.t 25)] none),oO 27 (.idxPa 16 11 (.t 2) (kI 10)),oO 28 (.load (.ag 16) (.t 27)),oO 29 (.call 95 [(.t 26),(.t 28)] none),oN (.store (.ag 16) (.t 4) (.t 29))]) (.ret)))))),[(4,(some (.ag 16)))]⟩
theorem Lm:aD Try.prog { own:=[],comp:=[],frz:=[],nils:=[] } Try.f86=some BR:=by kernel_rfl
theorem Eg (G:ak) (rk b:List UInt8) (hk:rk.length=176) (hb:b.length=16):ar Try.prog G 86 [.agg (rk.map bD),.sl (b.map bD)] (.w (.c (.d (.agg ((cX rk b).map bD))))):=by
  refine aF Try.func86 Lm rfl rfl ?_;have ht:b.take 16=b:=QZ (by omega);have key:∀ r,r≤10→(rk.drop (16*r)).take 16=bo (cM rk r):=fun r hr=>by
    apply Sw;intro j;by_cases hj:j<16
    ·rw[ov _ hj,Rj,if_pos hj,RG]; exact cY (by omega)
    ·rw[Ry (by rw[QY]; omega),Ry (by rw[dO]; omega)]
  have d1:b++List.drop b.length (aV 16 (0:UInt8))=b:=by rw[hb,RU (by rw[bP]; omega),Rh]
  have d2:List.drop 16 (aV 16 (0:UInt8))=[]:=RU (by rw[bP]; omega);have k0:=key 0 (by decide);have l0:(bo (cM rk 0)).length=16:=dO _;have t0:(bo (cM rk 0)).take 16=bo (cM rk 0):=QZ (by rw[dO]; omega);have a0:=JQ rk b hb;have la:=dO (fJ (cM rk) (aO b) 0);simp only[Nat.mul_zero,SI] at k0;simp only[BR,aj,ae,aa,seval,iteOmega,toNatUp,ej,JP,bP,dC,ht,gE,ie,d1,d2,k0,fD,hb,l0,t0,Rh,Su];refine sC (uz G b (bo (cM rk 0)) hb l0) ?_;simp only[a0,la,bP,ae,aa,seval,iteOmega,toNatUp];refine bi (uC rk b) (fun i=>9-i) (fun i=>i≤9) 0 (Q8 _) ?_ ?_
  ·refine aC (fun i=>if i=1 then 40 else 32) ?_ ?_ rfl rfl <;> simp only[wx,aA,aJ,aa,seval,iteOmega,toNatUp]
  ·intro i hi;have le:=dO (fJ (cM rk) (aO b) i);have hr:i+1≤10:=by omega
   have k1:=key (i+1) hr;rw[SC] at k1;have l1:(bo (cM rk (i+1))).length=16:=dO _;have t1:(bo (cM rk (i+1))).take 16=bo (cM rk (i+1)):=QZ (by rw[dO]; omega);by_cases hlt:i<9
   ·have h5:=Ll rk b (n:=i) (by omega);have le2:=dO (fJ (cM rk) (aO b) (i+1));simp only[rB,uC,ae,aa,seval,iteOmega,toNatUp,le,fD];refine sD (Ed G (bo (fJ (cM rk) (aO b) i)) le) ?_;refine sC (Nj G _ (sd _)) ?_;simp only[dC,gE,k1,l1,t1,ae,aa,seval,iteOmega,toNatUp];refine sC (uz G _ _ (z6 _) l1) ?_;simp only[h5,le2,le,ae,aa,seval,iteOmega,toNatUp];refine aZ (i+1) (by omega) (by omega) (aC (fun i=>i) ?_ ?_ rfl rfl) <;> simp only[wx,aA,aJ,aa,seval,iteOmega,toNatUp]
   ·obtain rfl:i=9:=by omega
    have h5:=JR rk b;have le2:=fX rk b;simp only[rB,uC,ae,aa,seval,iteOmega,toNatUp,le,fD];refine sC (Ed G (bo (fJ (cM rk) (aO b) 9)) le) ?_;simp only[dC,gE,k1,l1,t1,ae,aa,seval,iteOmega,toNatUp];refine sC (uz G _ _ (sd _) l1) ?_;simp only[h5,le2,bP,ae,aa,seval,iteOmega,toNatUp];exact mg (by simp only[ae,aa,seval,iteOmega,toNatUp,le2,fD])


theorem z8:∀ a b:List UInt8,ci (a++b)=if (ci b).2 then ((ci a).1++(ci b).1,(ci a).2) else (a++(ci b).1,false)
  | [],b=>by
    show ci b=if (ci b).2 then ([]++(ci b).1,true) else ([]++(ci b).1,false)
    rcases ci b with ⟨s,_ | _⟩ <;> rfl
  | x::a,b=>by
    have ih:=z8 a b;simp only[RN,ci,ih];cases h:(ci b).2
    ·simp
    ·simp only[if_true];cases h2:(ci a).2 <;> simp
def carry (c:List UInt8) (m:Nat):Prop:=(ci (c.drop m)).2=true
def dm (c:List UInt8) (m:Nat):List UInt8:=c.take m++(ci (c.drop m)).1
theorem z9 (c:List UInt8) (m:Nat):(dm c m).length=c.length:=by
  unfold dm; rw[QV,r9,← QV,RA]
theorem Hs (c:List UInt8):dm c c.length=c:=by unfold dm; simp[ci]
theorem G3 (c:List UInt8):carry c c.length:=by unfold carry; simp[ci]
theorem Iq (c:List UInt8):dm c 0=iy c:=by unfold dm iy; simp
theorem Ln {c:List UInt8} {m:Nat} (h:m<c.length):(dm c (m+1))[m]?=some (c.getD m 0):=by
  unfold dm;rw[RF (by rw[QY]; omega),Rj,if_pos (by omega)];exact cY h
theorem yf {c:List UInt8} {m:Nat} (h:m<c.length):c.drop m=c.getD m 0::c.drop (m+1):=by
  rw[List.drop_eq_getElem_cons h,QW,QT h]; rfl
theorem Lo {c:List UInt8} {m:Nat} (h:m<c.length) (hc:carry c (m+1)):(dm c (m+1)).set m (c.getD m 0+1)=dm c m:=by
  have e:(ci (c.drop m)).1=(c.getD m 0+1)::(ci (c.drop (m+1))).1:=by
    rw[yf h];unfold carry at hc;simp only[ci,hc,if_true]
  have e2:c.take (m+1)=c.take m++[c.getD m 0]:=by
    rw[List.take_add_one,cY h]; rfl
  unfold dm;rw[e,e2,RY,List.set_append_right _ _ (by rw[QY]; omega),QY,show m-min m c.length=0 by omega];rfl
theorem Ht {c:List UInt8} {m:Nat} (h:m<c.length) (hc:carry c (m+1)):(ci (c.drop m)).2=(c.getD m 0+1==0):=by
  rw[yf h];unfold carry at hc;simp only[ci,hc,if_true]
theorem Lp {c:List UInt8} {m:Nat} (h:(ci (c.drop m)).2=false):dm c m=iy c:=by
  have:=z8 (c.take m) (c.drop m);rw[RA,h] at this;unfold iy dm;rw[this]; rfl
theorem Nm (x c:UInt8) (n:Int) (h:n=(c.toNat:Int)):aX .add (.w (.c (.d (bD x)))) (.w (.c (.d (.int .u8 n))))=some (bD (x+c)):=by
  subst h
  show aT .add .u8 (x.toNat:Int) .u8 (c.toNat:Int)=_
  rw[nJ,IntKind.wrap_u8]
  show some (D.int .u8 (((x.toNat:Int)+(c.toNat:Int))%256))=_
  have:((x.toNat:Int)+(c.toNat:Int))%256=((x+c).toNat:Int):=by
    rw[UInt8.toNat_add]; simp
  rw[this]; rfl
def qe (c:List UInt8):List UInt8:=if c.length=16 then iy c else []
def qf (c:List UInt8) (m:Nat):St:=⟨aR [(3,.w (.c (.own 1 1 0 16))),(4,.w (.c (.d (.int .i64 ((m:Int)-1)))))],hL [(1,.row 1 ((dm c m).map bD))],uL [1]⟩
def nT:aI := .seq (.seq (.reg [oM 14 4,oO 15 (.bin .geq (.t 14) (kI 0))]) (.cond (.t 15) (.skip) (.exit 0))) (.seq (.block 1 (.seq (.reg [oM 18 3,oM 19 4,oO 20 (.idxSl 1 (.t 18) (.t 19)),oO 21 (.load .sc (.t 20)),oO 22 (.bin .add (.t 21) (.k (.c (.d (.int .u8 1))))),oO 23 (.idxSl 1 (.t 18) (.t 19)),oN (.store .sc (.t 23) (.t 22))]) (.seq (.reg [oM 24 3,oM 25 4,oO 26 (.idxSl 1 (.t 24) (.t 25)),oO 27 (.load .sc (.t 26)),oO 28 (.bin .neq (.t 27) (.k (.c (.d (.int .u8 0)))))]) (.cond (.t 28) (.exit 0) (.skip))))) (.reg [oM 16 4,oO 17 (.bin .sub (.t 16) (kI 1)),oM 4 17]))
def t9:aE:=⟨1,30,.seq (.reg [oO 2 (.mv (.k (.c .nil)))]) (.seq (.seq (.reg [oM 5 0,oO 6 (.len (.t 5)),oO 7 (.bin .neq (.t 6) (kI 16))]) (.cond (.t 7) (.seq (.reg [oO 2 (.mv (.k (.c .nil)))]) (.ret)) (.skip))) (.seq (.reg [oM 8 0,oO 9 (.bldSl false 1 1 (.sl []) [(0,(.t 8))]),oO 10 (.call 30 [(.t 9)] (some (0,1))),oM 3 10]) (.seq (.seq (.reg [oM 11 3,oO 12 (.len (.t 11)),oO 13 (.bin .sub (.t 12) (kI 1)),oM 4 13]) (.block 0 (.loop nT))) (.seq (.reg [oM 29 3,oM 2 29]) (.ret))))),[(2,none)]⟩
theorem Nn:aD Try.prog { own:=[10],comp:=[],frz:=[],nils:=[] } Try.f87=some t9:=by kernel_rfl
theorem Po (G:ak) (c:List UInt8) (hc:c.length≤140737488355328):ar Try.prog G 87 [.sl (c.map bD)] (.w (.c (.fr 1 ((qe c).map bD)))):=by
  refine aF Try.func87 Nn rfl rfl ?_;unfold qe;by_cases h:c.length=16
  ·rw[if_pos h];have hj:=dt G [c] (by simp) (by simp; omega);have hf:[c].flatten=c:=by simp
   rw[hf] at hj;have hs:=Hs c;rw[h] at hs;simp only[t9,aj,ae,aa,seval,iteOmega,toNatUp,h];refine sD (hj) ?_;refine bi (qf c) (fun m=>m) (fun m=>m≤16∧carry c m) 16 ⟨Q5 _,by have:=G3 c; rwa [h] at this⟩ ?_ ?_
   ·refine aC (fun i=>80) ?_ ?_ rfl rfl <;> simp only[wx,aA,aJ,aa,seval,iteOmega,toNatUp,hs,h] <;> rfl
   ·rintro m ⟨hm,hcar⟩;rcases m with _ | q
    ·have e0:=Iq c;have hl:(iy c).length=16:=by rw[yd]; exact h
     simp only[nT,qf,e0,SN,Int.zero_sub,ae,aa,seval,iteOmega,toNatUp];exact d6 (id:=1) (n:=16) (s:=1) (by simp only[wx,aa,seval,iteOmega,toNatUp]) (by simp only[wx,aa,seval,iteOmega,toNatUp]) (by simp[hl])
    ·have hq:q<c.length:=by omega
     have hl1:(dm c (q+1)).length=16:=by rw[z9]; exact h
     have hl0:(dm c q).length=16:=by rw[z9]; exact h
     have g1:=Ln hq;have h3:q<(dm c (q+1)).length:=by omega
     have h5:=Lo hq hcar;have g2:(dm c q)[q]?=some (c.getD q 0+1):=by
       rw[← h5,List.getElem?_set_self (by omega)]
     have x1:=Nm (c.getD q 0) 1 1 rfl;have x2:=M1 (c.getD q 0+1) 0 0 rfl;have hcs:=Ht hq hcar;have sub:((q:Int)+1-1)=(q:Int):=by omega
     by_cases hz:c.getD q 0+1=0
     ·have hz2:(c.getD q 0+1 != 0)=false:=by rw[hz]; rfl
      rw[hz2] at x2;have hcar2:carry c q:=by unfold carry; rw[hcs,hz]; rfl
      simp only[nT,qf,ae,aa,seval,iteOmega,toNatUp,sub,aU,g1,x1,fF h3 (eG _),gn,h5,g2,x2,hl1,hl0];refine aZ q (by omega) ⟨by omega,hcar2⟩ (aC (fun i=>i) ?_ ?_ rfl rfl) <;> simp only[wx,aA,aJ,aa,seval,iteOmega,toNatUp]
     ·have hz2:(c.getD q 0+1 != 0)=true:=bne_iff_ne.2 hz;rw[hz2] at x2;have e0:dm c q=iy c:=Lp (by rw[hcs]; exact beq_eq_false_iff_ne.2 hz);rw[e0] at hl0 g2 h5;simp only[nT,qf,ae,aa,seval,iteOmega,toNatUp,sub,aU,g1,x1,fF h3 (eG _),gn,h5,g2,x2,hl1,e0];exact d6 (id:=1) (n:=16) (s:=1) (by simp only[wx,aa,seval,iteOmega,toNatUp]) (by simp only[wx,aa,seval,iteOmega,toNatUp]) (by simp[hl0])
  ·rw[if_neg h];simp only[t9,aj,ae,aa,seval,iteOmega,toNatUp];exact fq
def mI (key b:List UInt8):Int:=if key.length≠16 then 5 else if b.length≠16 then 3 else 0
def qg (key b:List UInt8):List UInt8:=if key.length=16∧b.length=16 then oS key b else []
def oU:aE:=⟨2,18,.seq (.reg [oO 4 (.mv (.k (.c .nil))),oO 5 (.mv (kI 0))]) (.seq (.seq (.reg [oM 7 0,oO 8 (.len (.t 7)),oO 9 (.bin .neq (.t 8) (kI 16))]) (.cond (.t 9) (.seq (.reg [oO 4 (.mv (.k (.c .nil))),oO 5 (.mv (kI 5))]) (.ret)) (.skip))) (.seq (.seq (.reg [oM 10 1,oO 11 (.len (.t 10)),oO 12 (.bin .neq (.t 11) (kI 16))]) (.cond (.t 12) (.seq (.reg [oO 4 (.mv (.k (.c .nil))),oO 5 (.mv (kI 3))]) (.ret)) (.skip))) (.seq (.reg [oM 13 0,oO 14 (.call 84 [(.t 13)] none),oM 15 1,oO 16 (.call 86 [(.t 14),(.t 15)] none),oO 6 (.allocArr [(.int .u8 0),(.int .u8 0),(.int .u8 0),(.int .u8 0),(.int .u8 0),(.int .u8 0),(.int .u8 0),(.int .u8 0),(.int .u8 0),(.int .u8 0),(.int .u8 0),(.int .u8 0),(.int .u8 0),(.int .u8 0),(.int .u8 0),(.int .u8 0)]),oN (.store (.ag 16) (.t 6) (.t 16))]) (.seq (.reg [oO 17 (.sliceArr 1 16 (.t 6) none none),
 oM 4 17,oO 5 (.mv (kI 0))]) (.ret))))),[(4,none),(5,none)]⟩
theorem Np:aD Try.prog { own:=[],comp:=[],frz:=[],nils:=[] } Try.f98=some oU:=by kernel_rfl
theorem uD (G:ak) (key b:List UInt8) (hk:key.length≤9223372036854775807) (hb:b.length≤9223372036854775807):ar Try.prog G 98 [.sl (key.map bD),.sl (b.map bD)] (.tup [.c (.fr 1 ((qg key b).map bD)),.c (.d (.int .i64 (mI key b)))]):=by
  refine aF Try.func98 Np rfl rfl ?_;unfold qg mI;by_cases h:key.length=16
  ·by_cases h2:b.length=16
   ·have hr:=tc h;have hl:(oS key b).length=16:=fX _ _;have ht:(oS key b).take 16=oS key b:=QZ (by omega);rw[if_pos ⟨h,h2⟩,if_neg (by simp[h]),if_neg (by simp[h2])];simp only[oU,aj,ae,aa,seval,iteOmega,toNatUp,h,h2,ej];refine sD (Ef G key h) ?_;refine sC (Eg G (aw key) b hr h2) ?_;simp only[fX,bP,hl,ae,aa,seval,iteOmega,toNatUp];exact tT (by simp only[ae,aa,seval,iteOmega,toNatUp,gR,fX,hl,ga]; rfl) (by simp only[ae,aa,seval,iteOmega,toNatUp])
   ·rw[if_neg (fun k=>h2 k.2),if_neg (by simp[h]),if_pos h2];simp only[oU,aj,ae,aa,seval,iteOmega,toNatUp,h];exact cx
  ·rw[if_neg (fun k=>h k.1),if_pos h];simp only[oU,aj,ae,aa,seval,iteOmega,toNatUp];exact cx
def j4 (key:List UInt8):Int:=if key.length≠16 then 5 else 0
def fb (r n:Nat):Nat:=(n-r%n)%n
def eh (b:List UInt8) (n:Int):List UInt8:=if 1≤n∧n≤64 then b++List.replicate (fb b.length n.toNat) 0 else b
theorem BS (b:List UInt8) {n:Nat} (h:1≤n∧n≤64):eh b (n:Int)=b++List.replicate (fb b.length n) 0:=by
  unfold eh; rw[if_pos (by omega),Int.toNat_natCast]
theorem JW (b:List UInt8) {n:Int} (h:¬ (1≤n∧n≤64)):eh b n=b:=if_neg h
theorem JX (r:Nat) {n:Nat} (h:1≤n):fb r n<n:=Sn _ (by omega)
theorem Lq (n:Nat):au 0 n=List.replicate n 0:=by
  unfold au;simp only[Nat.zero_div]
  induction n with
  | zero=>rfl
  | succ n ih=>rw[SE,Rx,ih,List.replicate_succ']; rfl
theorem Eh (a b:Nat):Int.tmod (a:Int) (b:Int)=((a%b:Nat):Int):=rfl
def oV:aE:=⟨2,28,.seq (.reg [oO 4 (.mv (.k (.c .nil)))]) (.seq (.seq (.reg [oM 6 1,oO 7 (.bin .lss (.t 6) (kI 1)),oM 8 7,oG 9 (.mv (.t 1)) 8 false,oG 10 (.bin .gtr (.t 9) (kI 64)) 8 false,oO 11 (.pick (.t 8) (.k (.c (.d (.bool true)))) (.t 10))]) (.cond (.t 11) (.seq (.reg [oM 12 0,oO 13 (.bldSl false 1 1 (.sl []) [(0,(.t 12))]),oO 14 (.call 30 [(.t 13)] (some (0,1))),oM 4 14]) (.ret)) (.skip))) (.seq (.reg [oM 15 1,oM 16 0,oO 17 (.len (.t 16)),oM 18 1,oO 19 (.bin .rem (.t 17) (.t 18)),oO 20 (.bin .sub (.t 15) (.t 19)),oM 21 1,oO 22 (.bin .rem (.t 20) (.t 21)),oM 5 22]) (.seq (.reg [oM 23 0,oM 24 5,oO 25 (.call 71 [(.k (.c (.d (.int .u64 0)))),(.t 24)] none),oO 26 (.bldSl false 2 1 (.sl []) [(0,(.t 23)),(1,(.t 25))]),oO 27 (.call 30 [(.t 26)] (some (0,1))),oM 4 27]) (.ret)))),[(4,none)]⟩
theorem Nr:aD Try.prog { own:=[14,27],comp:=[],frz:=[],nils:=[] } Try.f57=some oV:=by kernel_rfl
set_option maxHeartbeats 1600000 in
theorem uE (G:ak) (b:List UInt8) (n:Int) (hb:b.length≤70368744177664):ar Try.prog G 57 [.sl (b.map bD),.int .i64 n] (.w (.c (.fr 1 ((eh b n).map bD)))):=by
  refine aF Try.func57 Nr rfl rfl ?_;by_cases hc:1≤n∧n≤64
  ·obtain⟨m,rfl⟩:=RR (show 0≤n by omega);rw[BS b (by omega)];have hr:b.length%m<m:=Sn _ (by omega);have hk:fb b.length m=(m-b.length%m)%m:=rfl;have hlt:=JX b.length (n:=m) (by omega);have e1:=Eh b.length m;have e2:Int.tmod ((m:Int)-((b.length%m:Nat):Int)) (m:Int)=((fb b.length m:Nat):Int):=by
     rw[show (m:Int)-((b.length%m:Nat):Int)=((m-b.length%m:Nat):Int) by omega,Eh,hk]
   have hm:((m:Int)=0)=False:=eq_false (by omega);have hp:=tV G 0 (fb b.length m) (by omega);have hj:=dt G [b,au 0 (fb b.length m)] (by simp) (by simp[cR]; omega);have hf:[b,au 0 (fb b.length m)].flatten=b++List.replicate (fb b.length m) 0:=by rw[Lq]; simp
   rw[hf] at hj;generalize fb b.length m=k at *
   simp only[oV,aj,ae,aa,seval,iteOmega,toNatUp,e1,e2,hm];refine sD (hp) ?_;refine sD (hj) ?_;exact fq
  ·rw[JW b hc];have hj:=dt G [b] (by simp) (by simp; omega);have hf:[b].flatten=b:=by simp
   rw[hf] at hj;by_cases h1:n<1
   ·simp only[oV,aj,ae,aa,seval,iteOmega,toNatUp];refine sD (hj) ?_;exact fq
   ·have h2:64<n:=by omega
    simp only[oV,aj,ae,aa,seval,iteOmega,toNatUp];refine sD (hj) ?_;exact fq
def dG (b:List UInt8) (j:Nat):UInt8:=if j<15 then hC (cV (b.getD j 0) 1) (cW (b.getD (j+1) 0) 7) else cV (b.getD j 0) 1
def ft (b:List UInt8):List UInt8:=(List.range 16).map (dG b)
theorem td (b:List UInt8):(ft b).length=16:=by simp[ft]
theorem te (b:List UInt8) {j:Nat} (h:j<16):(ft b)[j]?=some (dG b j):=by simp[ft,h]
def mJ (b:List UInt8):UInt8:=gU (gV (b.getD 0 0) 7) 135
theorem JY {b:List UInt8} (h:b.length=16):(ft b).set 15 (al (dG b 15) (mJ b))=dp b:=by
  unfold dp;rw[if_pos h];apply Sw;intro j;rw[List.getElem?_set];by_cases hj:j<16
  ·rw[ov _ hj];have hd:∀ k,aO b k=b.getD k 0:=fun _=>rfl
   by_cases h15:15=j
   ·subst h15;rw[if_pos rfl,if_pos (by rw[td]; decide)];simp only[dG,vm,hd,mJ,Nat.lt_irrefl,if_false,if_true,yc]
   ·rw[if_neg h15,te _ hj];have:j<15:=by omega
    simp only[dG,vm,hd,if_pos this,if_neg (show ¬ j=15 by omega),yc,Nq]
  ·rw[if_neg (by omega),Ry (by rw[td]; omega),Ry (by rw[dO]; omega)]
theorem JZ (b:List UInt8):aX .mul (.w (.c (.d (bD (cW (b.getD 0 0) 7))))) (.w (.c (.d (.int .u8 135))))=some (bD (mJ b)):=by
  have key:=je (p:=fun x=>(cW x 7).toNat*135%256==(gU (gV x 7) 135).toNat) (by decide +kernel) (b.getD 0 0);rw[beq_iff_eq] at key
  show aT .mul .u8 _ .u8 _=_
  rw[rY,IntKind.wrap_u8];unfold mJ bD;rw[← key]
  congr 2
theorem J0 (x:UInt8):hC x 0=x:=by
  have key:=je (p:=fun x=>hC x 0==x) (by decide +kernel) x;rw[beq_iff_eq] at key;exact key
theorem QH:bD 0=.int .u8 0:=rfl
def j9 (b:List UInt8) (m:Nat):UInt8:=if m<16 then cW (b.getD m 0) 7 else 0
theorem J1 (b:List UInt8) {q:Nat} (h:q<16):hC (cV (b.getD q 0) 1) (j9 b (q+1))=dG b q:=by
  unfold j9 dG;by_cases h2:q<15
  ·rw[if_pos (by omega),if_pos h2]
  ·rw[if_neg (by omega),if_neg h2,J0]
theorem Ns (b:List UInt8) {q:Nat} (h:q<16):cW (b.getD q 0) 7=j9 b q:=(if_pos h).symm
def fR (l:List UInt8) (m:Nat):List UInt8:=List.replicate m 0++l.drop m
theorem Lr {l:List UInt8} {m:Nat} (h:m≤l.length):(fR l m).length=l.length:=by
  unfold fR; rw[QV,Rc,Q4]; omega
theorem J2 (l:List UInt8):fR l 0=l:=by simp[fR]
theorem J3 {l:List UInt8} {m:Nat} (h:l.length=m):fR l m=List.replicate m 0:=by
  unfold fR; rw[RU (by omega),Rh]
theorem J4 {l:List UInt8} {q:Nat} (h:q<l.length):(fR l (q+1)).set q (l.getD q 0)=fR l q:=by
  unfold fR;rw[List.replicate_succ',RY,List.set_append_right _ _ (by simp),Rc,Nat.sub_self,List.drop_eq_getElem_cons h,QW,QT h];rfl
def vn (b:List UInt8) (m:Nat):St:=⟨aR [(0,.w (.c (.d (.sl (b.map bD))))),(3,.w (.c (.own 1 1 0 16))),(4,.w (.c (.d (bD (j9 b m))))),(5,.w (.c (.d (.int .i64 ((m:Int)-1)))))],hL [(1,.row 1 ((fR (ft b) m).map bD))],uL [1]⟩
theorem Ls {b:List UInt8} (h:b.length≠16):dp b=[]:=if_neg h
def sr:aI := .seq (.seq (.reg [oM 10 5,oO 11 (.bin .geq (.t 10) (kI 0))]) (.cond (.t 11) (.skip) (.exit 0))) (.seq (.block 1 (.seq (.reg [oM 14 3,oM 15 5,oM 16 0,oM 17 5,oO 18 (.idxSl 1 (.t 16) (.t 17)),oO 19 (.load .sc (.t 18)),oO 20 (.bin .shl (.t 19) (.k (.c (.d (.int .u64 1))))),oM 21 4,oO 22 (.bin .or (.t 20) (.t 21)),oO 23 (.idxSl 1 (.t 14) (.t 15)),oN (.store .sc (.t 23) (.t 22))]) (.reg [oM 24 0,oM 25 5,oO 26 (.idxSl 1 (.t 24) (.t 25)),oO 27 (.load .sc (.t 26)),oO 28 (.bin .shr (.t 27) (.k (.c (.d (.int .u64 7))))),oM 4 28]))) (.reg [oM 12 5,oO 13 (.bin .sub (.t 12) (kI 1)),oM 5 13]))
def ub:aE:=⟨1,37,.seq (.reg [oO 2 (.mv (.k (.c .nil)))]) (.seq (.seq (.reg [oM 6 0,oO 7 (.len (.t 6)),oO 8 (.bin .neq (.t 7) (kI 16))]) (.cond (.t 8) (.seq (.reg [oO 2 (.mv (.k (.c .nil)))]) (.ret)) (.skip))) (.seq (.reg [oO 9 (.make true 1 1 (.int .u8 0) (kI 16) (kI 16)),oM 3 9]) (.seq (.reg [oO 4 (.mv (.k (.c (.d (.int .u8 0)))))]) (.seq (.seq (.reg [oO 5 (.mv (kI 15))]) (.block 0 (.loop sr))) (.seq (.reg [oM 29 3,oO 30 (.idxSl 1 (.t 29) (kI 15)),oO 31 (.load .sc (.t 30)),oM 32 4,oO 33 (.bin .mul (.t 32) (.k (.c (.d (.int .u8 135))))),oO 34 (.bin .xor (.t 31) (.t 33)),oO 35 (.idxSl 1 (.t 29) (kI 15)),oN (.store .sc (.t 35) (.t 34))]) (.seq (.reg [oM 36 3,oM 2 36]) (.ret))))))),[(2,none)]⟩
theorem Nt:aD Try.prog { own:=[],comp:=[],frz:=[],nils:=[] } Try.f99=some ub:=by kernel_rfl
theorem pC (G:ak) (b:List UInt8) (hb:b.length≤9223372036854775807):ar Try.prog G 99 [.sl (b.map bD)] (.w (.c (.fr 1 ((dp b).map bD)))):=by
  refine aF Try.func99 Nt rfl rfl ?_;by_cases h:b.length=16
  ·have hd:=JY h;have hl:=td b;simp only[ub,aj,ae,aa,seval,iteOmega,toNatUp,h,ej];refine bi (vn b) (fun m=>m) (fun m=>m≤16) 16 (Q5 _) ?_ ?_
   ·have e1:fR (ft b) 16=aV 16 0:=J3 hl;have e2:j9 b 16=0:=rfl;refine aC (fun i=>72) ?_ ?_ rfl rfl <;> simp only[wx,aA,aJ,aa,seval,iteOmega,toNatUp,e1,e2,QH]
   ·intro m hm;rcases m with _ | q
    ·have e0:=J2 (ft b);have c0:j9 b 0=cW (b.getD 0 0) 7:=rfl;have x1:=JZ b;have g1:=te b (j:=15) (by decide);have x2:=eX (dG b 15) (mJ b);have h3:15<(ft b).length:=by omega
     have hdl:(dp b).length=16:=jB h;simp only[sr,vn,e0,c0,SN,Int.zero_sub,ae,aa,seval,iteOmega,toNatUp,aU,g1,x1,x2,fF h3 (eG _),gn,hd];exact d6 (id:=1) (n:=16) (s:=1) (by simp only[wx,aa,seval,iteOmega,toNatUp]) (by simp only[wx,aa,seval,iteOmega,toNatUp]) (by simp[hdl])
    ·have hq:q<16:=by omega
     have g1:b[q]?=some (b.getD q 0):=cY (by omega);have hl1:=Lr (l:=ft b) (m:=q+1) (by omega);have h3:q<(fR (ft b) (q+1)).length:=by omega
     have x1:=D3 (b.getD q 0) .u64 1 1 rfl (by decide);have x2:=r7 (cV (b.getD q 0) 1) (j9 b (q+1));have x3:=D2 (b.getD q 0) .u64 7 7 rfl (by decide);have c1:=J1 b hq;have c2:=Ns b hq;have hs:=J4 (l:=ft b) (q:=q) (by omega);have hg:(ft b).getD q 0=dG b q:=by rw[QW,te b hq]; rfl
     rw[hg] at hs;have sub:((q:Int)+1-1)=(q:Int):=by omega
     simp only[sr,vn,ae,aa,seval,iteOmega,toNatUp,sub,aU,g1,x1,x2,x3,c1,c2,h,fF h3 (eG _),gn,hs];refine aZ q (by omega) (by omega) (aC (fun i=>i) ?_ ?_ rfl rfl) <;> simp only[wx,aA,aJ,aa,seval,iteOmega,toNatUp]
  ·rw[Ls h];simp only[ub,aj,ae,aa,seval,iteOmega,toNatUp];exact fq
def iY (a b:List UInt8) (j:Nat):UInt8:=al (a.getD j 0) (b.getD j 0)
theorem Lt {a b:List UInt8} {n:Nat} (ha:a.length=n) (hb:b.length=n):(List.range n).map (iY a b)=bL a b:=by
  apply Sw;intro j;by_cases hj:j<n
  ·have:=Aa a b j (by omega) (by omega);have hl:j<(bL a b).length:=by rw[fB]; omega
   rw[cY hl,this];simp[hj,iY]
  ·rw[Ry (by simpa using hj),Ry (by rw[fB]; omega)]
def uF (a b:List UInt8) (i:Nat):St:=⟨aR [(0,.w (.c (.d (.sl (a.map bD))))),(1,.w (.c (.d (.sl (b.map bD))))),(5,.w (.c (.own 1 1 0 16))),(9,.w (.c (.d (.int .i64 16)))),(10,.w (.c (.d (.int .i64 (i:Int)))))],hL [(1,.row 1 ((bc (iY a b) (aV 16 0) i).map bD))],uL [1]⟩
def su:aI := .seq (.reg [oO 11 (.bin .lss (.t 10) (.t 9))]) (.seq (.cond (.t 11) (.skip) (.exit 0)) (.seq (.block 1 (.seq (.reg [oM 12 10,oM 6 12]) (.reg [oM 13 5,oM 14 6,oM 15 0,oM 16 6,oO 17 (.idxSl 1 (.t 15) (.t 16)),oO 18 (.load .sc (.t 17)),oM 19 1,oM 20 6,oO 21 (.idxSl 1 (.t 19) (.t 20)),oO 22 (.load .sc (.t 21)),oO 23 (.bin .xor (.t 18) (.t 22)),oO 24 (.idxSl 1 (.t 13) (.t 14)),oN (.store .sc (.t 24) (.t 23))]))) (.reg [oO 25 (.bin .add (.t 10) (kI 1)),oM 10 25])))
def Ei:aE:=⟨2,27,.seq (.reg [oO 4 (.mv (.k (.c .nil)))]) (.seq (.reg [oO 7 (.make true 1 1 (.int .u8 0) (kI 16) (kI 16)),oM 5 7]) (.seq (.seq (.reg [oM 8 5,oO 9 (.len (.t 8)),oO 10 (.mv (kI 0))]) (.block 0 (.loop su))) (.seq (.reg [oM 26 5,oM 4 26]) (.ret)))),[(4,none)]⟩
theorem Nu:aD Try.prog { own:=[],comp:=[],frz:=[],nils:=[] } Try.f101=some Ei:=by kernel_rfl
theorem jP (G:ak) (a b:List UInt8) (ha:a.length=16) (hb:b.length=16):ar Try.prog G 101 [.sl (a.map bD),.sl (b.map bD)] (.w (.c (.fr 1 ((bL a b).map bD)))):=by
  refine aF Try.func101 Nu rfl rfl ?_;have zl:(aV 16 (0:UInt8)).length=16:=bP _ _;simp only[Ei,aj,ae,aa,seval,iteOmega,toNatUp,ej];refine bi (uF a b) (fun i=>16-i) (fun i=>i≤16) 0 (Q8 _) ?_ ?_
  ·have e1:=l4 (iY a b) (aV 16 0);refine aC (fun i=>56) ?_ ?_ rfl rfl <;> simp only[wx,aA,aJ,aa,seval,iteOmega,toNatUp,e1]
  ·intro i hi;by_cases hlt:i<16
   ·have g1:a[i]?=some (a.getD i 0):=cY (by omega);have g2:b[i]?=some (b.getD i 0):=cY (by omega);have hl1:=kQ (iY a b) (aV 16 0) (i:=i) (by omega);have h3:i<(bc (iY a b) (aV 16 0) i).length:=by omega
    have x1:=eX (a.getD i 0) (b.getD i 0);have hx:al (a.getD i 0) (b.getD i 0)=iY a b i:=rfl;have hs:=l5 (iY a b) (aV 16 0) (i:=i) (by omega);simp only[su,uF,ae,aa,seval,iteOmega,toNatUp,aU,g1,g2,x1,ha,hb,fF h3 (eG _),gn,hx,hs];refine aZ (i+1) (by omega) (by omega) (aC (fun i=>i) ?_ ?_ rfl rfl) <;> simp only[wx,aA,aJ,aa,seval,iteOmega,toNatUp]
   ·obtain rfl:i=16:=by omega
    have e1:bc (iY a b) (aV 16 0) 16=bL a b:=by rw[z5 _ _ (by rw[bP]; decide),Lt ha hb]
    have hl:(bL a b).length=16:=by rw[fB]; exact ha
    simp only[su,uF,e1,ae,aa,seval,iteOmega,toNatUp];exact d6 (id:=1) (n:=16) (s:=1) (by simp only[wx,aa,seval,iteOmega,toNatUp]) (by simp only[wx,aa,seval,iteOmega,toNatUp]) (by simp[hl])
theorem BU {key b:List UInt8} (h:key.length=16) (hb:b.length=16):qg key b=cX (aw key) b:=if_pos ⟨h,hb⟩
theorem BV {key b:List UInt8} (h:key.length=16) (hb:b.length=16):mI key b=0:=by unfold mI; rw[if_neg (by omega),if_neg (by omega)]
theorem Lu (b:List UInt8):eh b 16=fK b:=rfl
def dU (key:List UInt8):D:=.agg [.sl (key.map bD),.sl ((fL (aw key)).map bD),.sl ((iG (aw key)).map bD)]
def mT (key:List UInt8):D:=if key.length=16 then dU key else .agg [.sl [],.sl [],.sl []]
theorem Fx (s:Nat) (l:List UInt8) (k:IntKind) (n:Int):V.flat (.tup [.c (.fr s (l.map bD)),.c (.d (.int k n))])=true:=by
  have:=mF s l;simp only[V.flat,W.flat,RL,List.all_nil,Sf] at this ⊢;rw[this]; rfl
def BW:aE:=⟨2,15,.seq (.reg [oO 2 (.box .roBox (.t 0)),oO 4 (.mv (.k (.c .nil)))]) (.seq (.reg [oO 8 (.fieldAddr 0 (.t 2)),oO 9 (.load .sc (.t 8)),oM 10 1,oO 11 (.call 98 [(.t 9),(.t 10)] (some (0,1))),oM 7 11,oO 12 (.extract (.t 7) 0),oO 13 (.extract (.t 7) 1),oM 5 12,oM 6 13]) (.seq (.reg [oM 14 5,oM 4 14]) (.ret))),[(4,none)]⟩
theorem Lv:aD Try.prog { own:=[],comp:=[(11,0)],frz:=[],nils:=[] } Try.f104=some BW:=by kernel_rfl
theorem Ej (G:ak) (key b:List UInt8) (h:key.length=16) (hb:b.length=16):ar Try.prog G 104 [.agg [.sl (key.map bD)],.sl (b.map bD)] (.w (.c (.fr 1 ((cX (aw key) b).map bD)))):=by
  refine aF Try.func104 Lv rfl rfl ?_;have hx:=uD G key b (by omega) (by omega);rw[BU h hb,BV h hb] at hx;simp only[BW,aj,ae,aa,seval,iteOmega,toNatUp];refine sD (hx) ?_;exact fq
theorem Nv (G:ak) (key b:List UInt8) (h:key.length=16) (hb:b.length=16):ar Try.prog G 104 [.agg [.sl (key.map bD)],.sl (b.map bD)] (.w (.c (.d (.sl ((cX (aw key) b).map bD))))):=jG (Ej G key b h hb)
def tg:aE:=⟨1,25,.seq (.reg [oO 2 (.alloc [.nil,.nil,.nil]),oO 3 (.mv (kI 0))]) (.seq (.reg [oM 8 0,oO 9 (.make true 1 1 (.int .u8 0) (kI 16) (kI 16)),oO 10 (.call 98 [(.t 8),(.t 9)] none),oM 7 10,oO 11 (.extract (.t 7) 0),oO 12 (.extract (.t 7) 1),oM 4 11,oM 5 12]) (.seq (.seq (.reg [oM 13 5,oO 14 (.bin .neq (.t 13) (kI 0))]) (.cond (.t 14) (.seq (.reg [oO 15 (.build [.nil,.nil,.nil] []),oM 16 5,oN (.store (.ag 3) (.t 2) (.t 15)),oM 3 16]) (.ret)) (.skip))) (.seq (.reg [oM 17 4,oO 18 (.call 99 [(.t 17)] none),oM 6 18]) (.seq (.reg [oM 19 0,oO 20 (.build [.nil] [(0,1,(.t 19))]),oM 21 6,oM 22 6,oO 23 (.call 99 [(.t 22)] none),oO 24 (.build [.nil,.nil,.nil] [(0,1,(.t 20)),(1,1,(.t 21)),(2,1,(.t 23))]),oN (.store (.ag 3) (.t 2) (.t 24)),oO 3 (.mv (kI 0))]) (.ret))))),[(2,(some (.ag 3))),(3,none)]⟩
theorem Lw:aD Try.prog { own:=[],comp:=[],frz:=[],nils:=[] } Try.f89=some tg:=by kernel_rfl
theorem Nw (G:ak) (key:List UInt8) (hk:key.length≤9223372036854775807):ar Try.prog G 89 [.sl (key.map bD)] (.tup [.c (.d (mT key)),.c (.d (.int .i64 (j4 key)))]):=by
  refine aF Try.func89 Lw rfl rfl ?_;have t0:(aV 16 (0:UInt8)).take 16=dP:=rfl;by_cases h:key.length=16
  ·have hx:=uD G key dP (by omega) (by decide);rw[BU h (by decide),BV h (by decide)] at hx;have hv:mT key=dU key:=if_pos h;have he:j4 key=0:=by unfold j4; rw[if_neg (by omega)]
   have h1:=pC G (cX (aw key) dP) (by rw[fX]; decide);have h2:=pC G (fL (aw key)) (by rw[sq]; decide);have s1:dp (cX (aw key) dP)=fL (aw key):=rfl;have s2:dp (fL (aw key))=iG (aw key):=rfl;rw[s1] at h1;rw[s2] at h2;rw[hv,he];simp only[tg,aj,ae,aa,seval,iteOmega,toNatUp,ej];refine bF hx (by simp only[ae,aa,seval,iteOmega,toNatUp,dC,t0,bP]) (.inr (Fx _ _ _ _)) ?_;simp only[ae,aa,seval,iteOmega,toNatUp];refine sD (h1) ?_;refine sD (h2) ?_;exact tS (by simp only[ae,aa,seval,iteOmega,toNatUp,dU]) (by simp only[ae,aa,seval,iteOmega,toNatUp])
  ·have hv:mT key=.agg [.sl [],.sl [],.sl []]:=if_neg h;have he:j4 key=5:=if_pos h;have hx:=uD G key dP (by omega) (by decide);have v1:qg key dP=[]:=if_neg (fun k=>h k.1);have v2:mI key dP=5:=if_pos h;rw[v1,v2] at hx;rw[hv,he];simp only[tg,aj,ae,aa,seval,iteOmega,toNatUp,ej];refine bF hx (by simp only[ae,aa,seval,iteOmega,toNatUp,dC,t0,bP]) (.inr (Fx _ _ _ _)) ?_;simp only[ae,aa,seval,iteOmega,toNatUp];exact fQ
def BX:aE:=⟨1,8,.seq (.reg [oO 2 (.mv (.k (.c .nil)))]) (.seq (.reg [oM 3 0,oO 4 (.bldSl false 1 1 (.int .u8 0) [(0,(.k (.c (.d (.int .u8 128)))))]),oO 5 (.bldSl false 2 1 (.sl []) [(0,(.t 3)),(1,(.t 4))]),oO 6 (.call 30 [(.t 5)] none),oO 7 (.call 57 [(.t 6),(kI 16)] none),oM 2 7]) (.ret)),[(2,none)]⟩
theorem Lx:aD Try.prog { own:=[],comp:=[],frz:=[],nils:=[] } Try.f106=some BX:=by kernel_rfl
theorem Ek (G:ak) (b:List UInt8) (hb:b.length≤70000):ar Try.prog G 106 [.sl (b.map bD)] (.w (.c (.d (.sl ((fK (b++[128])).map bD))))):=by
  refine aF Try.func106 Lx rfl rfl ?_;have hj:=dt G [b,[128]] (by simp) (by simp; omega);have hf:[b,[128]].flatten=b++[128]:=by simp
  rw[hf] at hj;have hp:=uE G (b++[128]) 16 (by simp; omega);rw[Lu] at hp;simp only[BX,aj,ae,aa,seval,iteOmega,toNatUp];refine sD (hj) ?_;refine sD (hp) ?_;exact aM
theorem Ir (rk:List UInt8) {e:List UInt8} (h:e.length=16):iH rk e=bL e (fL rk):=if_pos h
theorem Is (rk:List UInt8) {e:List UInt8} (h:e.length≠16):iH rk e=bL (fK (e++[128])) (iG rk):=if_neg h
def sw:aE:=⟨2,17,.seq (.reg [oO 2 (.box .roBox (.t 0)),oO 4 (.mv (.k (.c .nil)))]) (.seq (.seq (.reg [oM 5 1,oO 6 (.len (.t 5)),oO 7 (.bin .eql (.t 6) (kI 16))]) (.cond (.t 7) (.seq (.reg [oM 8 1,oO 9 (.fieldAddr 1 (.t 2)),oO 10 (.load .sc (.t 9)),oO 11 (.call 101 [(.t 8),(.t 10)] none),oM 4 11]) (.ret)) (.skip))) (.seq (.reg [oM 12 1,oO 13 (.call 106 [(.t 12)] none),oO 14 (.fieldAddr 2 (.t 2)),oO 15 (.load .sc (.t 14)),oO 16 (.call 101 [(.t 13),(.t 15)] none),oM 4 16]) (.ret))),[(4,none)]⟩
theorem J5:aD Try.prog { own:=[],comp:=[],frz:=[],nils:=[] } Try.f105=some sw:=by kernel_rfl
theorem Ly (G:ak) (key b:List UInt8) (hb:b.length≤16):ar Try.prog G 105 [dU key,.sl (b.map bD)] (.w (.c (.d (.sl ((iH (aw key) b).map bD))))):=by
  refine aF Try.func105 J5 rfl rfl ?_;by_cases h:b.length=16
  ·rw[Ir _ h];simp only[sw,aj,dU,ae,aa,seval,iteOmega,toNatUp,h];refine sD (jP G b (fL (aw key)) h (sq _)) ?_;exact aM
  ·rw[Is _ h];simp only[sw,aj,dU,ae,aa,seval,iteOmega,toNatUp];refine sD (Ek G b (by omega)) ?_;refine sD (jP G (fK (b++[128])) (iG (aw key)) (qZ (by omega)) (JS _)) ?_;exact aM
def jq (key b:List UInt8):Nat→V
  | 0=>.w (.c (.own 1 1 0 16))
  | i+1=>.w (.c (.d (.sl ((eP (aw key) b (i+1)).map bD))))
def my (key b:List UInt8) (i:Nat):St:=⟨aR [(1,.w (.c (.d (.sl ((b.drop (16*i)).map bD))))),(2,.w (.c (.rp [.sl (key.map bD),.sl ((fL (aw key)).map bD),.sl ((iG (aw key)).map bD)]))),(5,jq key b i)],hL [(1,.row 1 ((aV 16 (0:UInt8)).map bD))],uL [1]⟩
theorem Ny (b:List UInt8) (i:Nat):((b.drop (16*i)).drop 16).take ((b.drop (16*i)).length-16)=b.drop (16*(i+1)):=by
  rw[List.drop_drop,QZ (by simp only[Q4]; omega)]; rfl
def lT:aI := .seq (.seq (.reg [oM 7 1,oO 8 (.len (.t 7)),oO 9 (.bin .gtr (.t 8) (kI 16))]) (.cond (.t 9) (.skip) (.exit 0))) (.block 1 (.seq (.reg [oO 10 (.fieldAddr 0 (.t 2)),oO 11 (.load (.ag 1) (.t 10)),oM 12 5,oM 13 1,oO 14 (.slice 1 (.t 13) none (some (kI 16)) none),oO 15 (.call 101 [(.t 12),(.t 14)] none),oO 16 (.call 104 [(.t 11),(.t 15)] none),oM 5 16]) (.reg [oM 17 1,oO 18 (.slice 1 (.t 17) (some (kI 16)) none none),oM 1 18])))
def BZ:aE:=⟨2,27,.seq (.reg [oO 2 (.box .roBox (.t 0)),oO 4 (.mv (.k (.c .nil)))]) (.seq (.reg [oO 6 (.make true 1 1 (.int .u8 0) (kI 16) (kI 16)),oM 5 6]) (.seq (.block 0 (.loop lT)) (.seq (.reg [oO 19 (.fieldAddr 0 (.t 2)),oO 20 (.load (.ag 1) (.t 19)),oM 21 5,oO 22 (.load (.ag 3) (.t 2)),oM 23 1,oO 24 (.call 105 [(.t 22),(.t 23)] none),oO 25 (.call 101 [(.t 21),(.t 24)] none),oO 26 (.call 104 [(.t 20),(.t 25)] (some (0,1))),oM 4 26]) (.ret)))),[(4,none)]⟩
theorem Lz:aD Try.prog { own:=[26],comp:=[],frz:=[],nils:=[] } Try.f100=some BZ:=by kernel_rfl
theorem oW (G:ak) (key b:List UInt8) (h:key.length=16) (hb:b.length≤70000):ar Try.prog G 100 [dU key,.sl (b.map bD)] (.w (.c (.fr 1 ((fk (aw key) b).map bD)))):=by
  refine aF Try.func100 Lz rfl rfl ?_;have t0:(aV 16 (0:UInt8)).take 16=dP:=rfl;have hah:jI b=(b.length+15) / 16-1:=rfl;have hm:∀ i,i=jI b→fk (aw key) b=cX (aw key) (bL (eP (aw key) b i) (iH (aw key) (b.drop (16*i)))):=fun i e=>by rw[e]; rfl
  simp only[BZ,aj,dU,ae,aa,seval,iteOmega,toNatUp,ej];refine bi (my key b) (fun i=>jI b-i) (fun i=>i≤jI b) 0 (Q8 _) ?_ ?_
  ·refine aC (fun i=>48) ?_ ?_ rfl rfl <;> simp only[wx,aA,aJ,aa,seval,iteOmega,toNatUp,jq]
  ·intro i hi;have hcl:(b.drop (16*i)).length=b.length-16*i:=Q4;have hdr:=Ny b i;by_cases hlt:i<jI b
   ·have hT:((b.drop (16*i)).take 16).length=16:=by rw[QY]; omega
    have hstep:cX (aw key) (bL (eP (aw key) b i) ((b.drop (16*i)).take 16))=eP (aw key) b (i+1):=rfl;have h1:=jP G (eP (aw key) b i) ((b.drop (16*i)).take 16) (nU _ _ _) hT;have h2:=Nv G key (bL (eP (aw key) b i) ((b.drop (16*i)).take 16)) h (by rw[fB,nU]);rw[hstep] at h2;rcases i with _ | i
    ·have hz:eP (aw key) b 0=dP:=rfl;rw[hz] at h1 h2;simp only[Nat.mul_zero,SI,Sa,Se] at hdr;simp only[lT,my,jq,ae,aa,seval,iteOmega,toNatUp];refine bF h1 (by simp only[ae,aa,seval,iteOmega,toNatUp,dC,t0,bP]) (.inr (mF _ _)) ?_;simp only[ae,aa,seval,iteOmega,toNatUp];refine sC (h2) ?_;simp only[hdr,ae,aa,seval,iteOmega,toNatUp];refine aZ (0+1) (by omega) (by omega) (aC (fun i=>i) ?_ ?_ rfl rfl) <;> simp only[wx,aA,aJ,aa,seval,iteOmega,toNatUp,jq]
    ·simp only[lT,my,jq,ae,aa,seval,iteOmega,toNatUp];refine sD (h1) ?_;refine sC (h2) ?_;simp only[hdr,ae,aa,seval,iteOmega,toNatUp];refine aZ (i+1+1) (by omega) (by omega) (aC (fun i=>i) ?_ ?_ rfl rfl) <;> simp only[wx,aA,aJ,aa,seval,iteOmega,toNatUp,jq]
   ·rw[hm i (by omega)];have hl16:(b.drop (16*i)).length≤16:=by omega
    have h1:=Ly G key (b.drop (16*i)) hl16;have h2:=jP G (eP (aw key) b i) (iH (aw key) (b.drop (16*i))) (nU _ _ _) (JU hl16);have h3:=Ej G key (bL (eP (aw key) b i) (iH (aw key) (b.drop (16*i)))) h (by rw[fB,nU]);rcases i with _ | i
    ·have hz:eP (aw key) b 0=dP:=rfl;rw[hz] at h2 h3 ⊢;simp only[lT,my,jq,ae,aa,seval,iteOmega,toNatUp];refine sD (h1) ?_;refine bF h2 (by simp only[ae,aa,seval,iteOmega,toNatUp,dC,t0,bP]) (.inr (mF _ _)) ?_;simp only[ae,aa,seval,iteOmega,toNatUp];refine sD (h3) ?_;exact fq
    ·simp only[lT,my,jq,ae,aa,seval,iteOmega,toNatUp];refine sD (h1) ?_;refine sD (h2) ?_;refine sD (h3) ?_;exact fq
theorem Nz (G:ak) (key b:List UInt8) (h:key.length=16) (hb:b.length≤70000):ar Try.prog G 100 [dU key,.sl (b.map bD)] (.w (.c (.d (.sl ((fk (aw key) b).map bD))))):=jG (oW G key b h hb)
def ti:aE:=⟨2,26,.seq (.reg [oO 4 (.mv (.k (.c .nil)))]) (.seq (.reg [oM 6 0,oO 7 (.len (.t 6)),oO 8 (.bin .sub (.t 7) (kI 16)),oM 5 8]) (.seq (.seq (.reg [oM 9 5,oO 10 (.bin .lss (.t 9) (kI 0))]) (.cond (.t 10) (.seq (.reg [oM 11 1,oO 12 (.call 99 [(.t 11)] none),oM 13 0,oO 14 (.call 106 [(.t 13)] none),oO 15 (.call 101 [(.t 12),(.t 14)] none),oM 4 15]) (.ret)) (.skip))) (.seq (.reg [oM 16 0,oM 17 5,oO 18 (.slice 1 (.t 16) none (some (.t 17)) none),oM 19 0,oM 20 5,oO 21 (.slice 1 (.t 19) (some (.t 20)) none none),oM 22 1,oO 23 (.call 101 [(.t 21),(.t 22)] none),oO 24 (.bldSl false 2 1 (.sl []) [(0,(.t 18)),(1,(.t 23))]),oO 25 (.call 30 [(.t 24)] none),oM 4 25]) (.ret)))),[(4,none)]⟩
theorem LA:aD Try.prog { own:=[],comp:=[],frz:=[],nils:=[] } Try.f102=some ti:=by kernel_rfl
theorem NA (G:ak) (s d:List UInt8) (hs:s.length≤70000) (hd:d.length=16):ar Try.prog G 102 [.sl (s.map bD),.sl (d.map bD)] (.w (.c (.d (.sl ((if 16≤s.length then s.take (s.length-16)++bL (s.drop (s.length-16)) d else bL (dp d) (fK (s++[128]))).map bD))))):=by
  refine aF Try.func102 LA rfl rfl ?_;by_cases h:16≤s.length
  ·rw[if_pos h];have hl:(s.drop (s.length-16)).length=16:=by rw[Q4]; omega
   have ht:(s.drop (s.length-16)).take (s.length-(s.length-16))=s.drop (s.length-16):=QZ (by omega);have hj:=dt G [s.take (s.length-16),bL (s.drop (s.length-16)) d] (by simp) (by simp[fB]; omega);have hf:[s.take (s.length-16),bL (s.drop (s.length-16)) d].flatten=s.take (s.length-16)++bL (s.drop (s.length-16)) d:=by simp
   rw[hf] at hj;have e1:(((s.length:Int)-16).toNat)=s.length-16:=by omega
   simp only[ti,aj,ae,aa,seval,iteOmega,toNatUp,e1,ht];refine sD (jP G (s.drop (s.length-16)) d hl hd) ?_;refine sD (hj) ?_;exact aM
  ·rw[if_neg h];simp only[ti,aj,ae,aa,seval,iteOmega,toNatUp];refine sD (pC G d (by omega)) ?_;refine sD (Ek G s (by omega)) ?_;refine sD (jP G (dp d) (fK (s++[128])) (jB hd) (qZ (by omega))) ?_;exact aM
def uG (key:List UInt8) (l:List (List UInt8)) (i:Nat):St:=⟨aR [(1,.w (.c (.d (.sl (l.map fun l=>D.sl (l.map bD)))))),(2,.w (.c (.rp [.sl (key.map bD),.sl ((fL (aw key)).map bD),.sl ((iG (aw key)).map bD)]))),(5,.w (.c (.d (.sl ((fm (aw key) l i).map bD))))),(6,.w (.c (.d (.int .i64 ((l.length:Int)-1))))),(23,.w (.c (.d (.sl ((l.take (l.length-1)).map fun l=>D.sl (l.map bD)))))),(24,.w (.c (.d (.int .i64 ((l.length:Int)-1))))),(25,.w (.c (.d (.int .i64 (i:Int)))))],hL [(1,.row 1 ((aV 16 (0:UInt8)).map bD))],uL [1]⟩
theorem It (rk:List UInt8) {l:List (List UInt8)} (h:l.length=0):gx rk l=fk rk (au 1 16):=by
  unfold gx; rw[if_pos h]; congr 1
theorem Iu (rk:List UInt8) {l:List (List UInt8)} (h:l.length≠0):gx rk l=fk rk (if 16≤(l.getD (l.length-1) []).length then (l.getD (l.length-1) []).take ((l.getD (l.length-1) []).length-16)++bL ((l.getD (l.length-1) []).drop ((l.getD (l.length-1) []).length-16)) (fm rk l (l.length-1)) else bL (dp (fm rk l (l.length-1))) (fK (l.getD (l.length-1) []++[128]))):=by
  unfold gx; rw[if_neg h]; dsimp only; split <;> rfl
theorem tj {l:List (List UInt8)} {j:Nat} (h:j<l.length):l[j]?=some (l.getD j []):=by
  rw[QW,QT h]; rfl
theorem nW {l:List (List UInt8)} {j:Nat} (h:j<l.length):l.getD j []∈l:=by
  rw[QW,QT h]; exact Rs h
def rC:aI := .seq (.reg [oO 26 (.bin .lss (.t 25) (.t 24))]) (.seq (.cond (.t 26) (.skip) (.exit 0)) (.seq (.block 1 (.seq (.reg [oO 27 (.idxSl 1 (.t 23) (.t 25)),oO 28 (.load .sc (.t 27)),oM 8 28]) (.reg [oM 29 5,oO 30 (.call 99 [(.t 29)] none),oO 31 (.load (.ag 3) (.t 2)),oM 32 8,oO 33 (.call 100 [(.t 31),(.t 32)] none),oO 34 (.call 101 [(.t 30),(.t 33)] none),oM 5 34]))) (.reg [oO 35 (.bin .add (.t 25) (kI 1)),oM 25 35])))
def tm:aE:=⟨2,44,.seq (.reg [oO 2 (.box .roBox (.t 0)),oO 4 (.mv (.k (.c .nil)))]) (.seq (.seq (.reg [oM 9 1,oO 10 (.len (.t 9)),oO 11 (.bin .eql (.t 10) (kI 0))]) (.cond (.t 11) (.seq (.reg [oO 12 (.load (.ag 3) (.t 2)),oO 13 (.call 71 [(.k (.c (.d (.int .u64 1)))),(kI 16)] none),oO 14 (.call 100 [(.t 12),(.t 13)] (some (0,1))),oM 4 14]) (.ret)) (.skip))) (.seq (.reg [oO 15 (.load (.ag 3) (.t 2)),oO 16 (.make true 1 1 (.int .u8 0) (kI 16) (kI 16)),oO 17 (.call 100 [(.t 15),(.t 16)] none),oM 5 17]) (.seq (.reg [oM 18 1,oO 19 (.len (.t 18)),oO 20 (.bin .sub (.t 19) (kI 1)),oM 6 20]) (.seq (.seq (.reg [oM 21 1,oM 22 6,oO 23 (.slice 1 (.t 21) none (some (.t 22)) none),oO 24 (.len (.t 23)),oO 25 (.mv (kI 0))]) (.block 0 (.loop rC))) (.seq (.reg [oO 36 (.load (.ag 3) (.t 2)),oM 37 1,
 oM 38 6,oO 39 (.idxSl 1 (.t 37) (.t 38)),oO 40 (.load .sc (.t 39)),oM 41 5,oO 42 (.call 102 [(.t 40),(.t 41)] none),oO 43 (.call 100 [(.t 36),(.t 42)] (some (0,1))),oM 4 43]) (.ret)))))),[(4,none)]⟩
theorem LB:aD Try.prog { own:=[14,43],comp:=[],frz:=[],nils:=[] } Try.f90=some tm:=by kernel_rfl
theorem NB (G:ak) (key:List UInt8) (l:List (List UInt8)) (h:key.length=16) (hl:l.length≤17) (hb:∀ x∈l,x.length≤65535):ar Try.prog G 90 [dU key,.sl (l.map fun l=>D.sl (l.map bD))] (.w (.c (.fr 1 ((gx (aw key) l).map bD)))):=by
  refine aF Try.func90 LB rfl rfl ?_;have t0:(aV 16 (0:UInt8)).take 16=dP:=rfl;by_cases h0:l.length=0
  ·rw[It _ h0];simp only[tm,aj,dU,ae,aa,seval,iteOmega,toNatUp,h0];refine sD (tV G 1 16 (by decide)) ?_;refine sD (oW G key (au 1 16) h (by rw[cR]; decide)) ?_;exact fq
  ·rw[Iu _ h0];have e1:(((l.length:Int)-1).toNat)=l.length-1:=by omega
   have e2:(l.take (l.length-1)).length=l.length-1:=by rw[QY]; omega
   have e3:((l.length-1:Nat):Int)=(l.length:Int)-1:=by omega
   simp only[tm,aj,dU,ae,aa,seval,iteOmega,toNatUp,ej];refine bF (oW G key dP h (by decide)) (by simp only[ae,aa,seval,iteOmega,toNatUp,dC,t0,bP,dU]) (.inr (mF _ _)) ?_;simp only[ae,aa,seval,iteOmega,toNatUp,e1,e2,e3,ep];refine bi (uG key l) (fun i=>l.length-1-i) (fun i=>i≤l.length-1) 0 (Q8 _) ?_ ?_
   ·refine aC (fun i=>128) ?_ ?_ rfl rfl <;> simp only[wx,aA,aJ,aa,seval,iteOmega,toNatUp,fm,e2,e3]
   ·intro i hi;have hd:=Ab (aw key) l i;by_cases hlt:i<l.length-1
    ·have g1:(l.take (l.length-1))[i]?=some (l.getD i []):=by rw[Rj,if_pos hlt,tj (by omega)]
     have hx:=hb _ (nW (l:=l) (j:=i) (by omega));have hs:bL (dp (fm (aw key) l i)) (fk (aw key) (l.getD i []))=fm (aw key) l (i+1):=rfl;have h1:=pC G (fm (aw key) l i) (by omega);have h2:=Nz G key (l.getD i []) h (by omega);have h3:=jP G (dp (fm (aw key) l i)) (fk (aw key) (l.getD i [])) (jB hd) (nV _ _);rw[hs] at h3;simp only[rC,uG,ae,aa,seval,iteOmega,toNatUp,aU,g1,e2,e3];refine sD (h1) ?_;refine sD (h2) ?_;refine sD (h3) ?_;refine aZ (i+1) (by omega) (by omega) (aC (fun i=>i) ?_ ?_ rfl rfl) <;> simp only[wx,aA,aJ,aa,seval,iteOmega,toNatUp]
    ·obtain rfl:i=l.length-1:=by omega
     have g1:l[l.length-1]?=some (l.getD (l.length-1) []):=tj (by omega);have hx:=hb _ (nW (l:=l) (j:=l.length-1) (by omega));have h1:=NA G (l.getD (l.length-1) []) (fm (aw key) l (l.length-1)) (by omega) hd;have hcl:∀ s d:List UInt8,s.length≤65535→d.length=16→(if 16≤s.length then s.take (s.length-16)++bL (s.drop (s.length-16)) d else bL (dp d) (fK (s++[128]))).length≤70000:=by
       intro s d h1 h2;split
       ·rw[QV,fB,← QV,RA]; omega
       ·rw[fB,jB h2]; decide
     have h2:=oW G key _ h (hcl _ _ hx hd);simp only[rC,uG,ae,aa,seval,iteOmega,toNatUp,aU,g1,e1,e3];refine sD (h1) ?_;refine sD (h2) ?_;exact fq
def gO (l:List (List UInt8)):Bool:=l.any fun x=>decide (65535<x.length)
def qh (key:List UInt8) (l:List (List UInt8)):Int:=if key.length≠16 then 5 else if 17<l.length then 8 else if gO l=true then 2 else 0
def vp (key:List UInt8) (l:List (List UInt8)):List UInt8:=if key.length=16∧l.length≤17∧gO l=false then gx (aw key) l else []
theorem J6 {l:List (List UInt8)} (h:∀ j,j<l.length→(l.getD j []).length≤65535):gO l=false:=by
  unfold gO;rw[Sj];intro x hx;obtain⟨j,hj,rfl⟩:=Rt hx;have:=h j hj;rw[QW,QT hj] at this
  simpa using this
theorem Iv {l:List (List UInt8)} {j:Nat} (hj:j<l.length) (h:65535<(l.getD j []).length):gO l=true:=by
  unfold gO;rw[List.any_eq_true];exact⟨_,nW hj,decide_eq_true h⟩
theorem Iw {l:List (List UInt8)} (h:gO l=false):∀ x∈l,x.length≤65535:=by
  unfold gO at h;rw[Sj] at h;intro x hx;have:=h x hx
  simpa using this
def pD (key:List UInt8) (l:List (List UInt8)) (i:Nat):St:=⟨aR [(1,.w (.c (.d (.sl (l.map fun l=>D.sl (l.map bD)))))),(6,.w (.c (.ptr 1 1 0 0))),(21,.w (.c (.d (.sl (l.map fun l=>D.sl (l.map bD)))))),(22,.w (.c (.d (.int .i64 (l.length:Int))))),(23,.w (.c (.d (.int .i64 (i:Int)))))],hL [(1,.box [.d (.sl (key.map bD)),.d (.sl ((fL (aw key)).map bD)),.d (.sl ((iG (aw key)).map bD))])],uL [1]⟩
def nD:aI := .seq (.reg [oO 24 (.bin .lss (.t 23) (.t 22))]) (.seq (.cond (.t 24) (.skip) (.exit 0)) (.seq (.block 1 (.seq (.reg [oO 25 (.idxSl 1 (.t 21) (.t 23)),oO 26 (.load .sc (.t 25)),oM 9 26]) (.seq (.reg [oM 27 9,oO 28 (.len (.t 27)),oO 29 (.bin .gtr (.t 28) (kI 65535))]) (.cond (.t 29) (.seq (.reg [oO 4 (.mv (.k (.c .nil))),oO 5 (.mv (kI 2))]) (.ret)) (.skip))))) (.reg [oO 30 (.bin .add (.t 23) (kI 1)),oM 23 30])))
def ox:aE:=⟨2,34,.seq (.reg [oO 4 (.mv (.k (.c .nil))),oO 5 (.mv (kI 0))]) (.seq (.reg [oM 11 0,oO 12 (.call 89 [(.t 11)] none),oM 10 12,oO 13 (.extract (.t 10) 0),oO 14 (.extract (.t 10) 1),oO 6 (.alloc [.nil,.nil,.nil]),oN (.store (.ag 3) (.t 6) (.t 13)),oM 7 14]) (.seq (.seq (.reg [oM 15 7,oO 16 (.bin .neq (.t 15) (kI 0))]) (.cond (.t 16) (.seq (.reg [oM 17 7,oO 4 (.mv (.k (.c .nil))),oM 5 17]) (.ret)) (.skip))) (.seq (.seq (.reg [oM 18 1,oO 19 (.len (.t 18)),oO 20 (.bin .gtr (.t 19) (kI 17))]) (.cond (.t 20) (.seq (.reg [oO 4 (.mv (.k (.c .nil))),oO 5 (.mv (kI 8))]) (.ret)) (.skip))) (.seq (.seq (.reg [oM 21 1,oO 22 (.len (.t 21)),oO 23 (.mv (kI 0))]) (.block 0 (.loop nD))) (.seq (.reg [oO 31 (.load (.ag 3) (.t 6)),oM 32 1,oO 33 (.call 90 [(.t 31),(.t 32)] (some (0,1))),oM 4 33,
 oO 5 (.mv (kI 0))]) (.ret)))))),[(4,none),(5,none)]⟩
theorem LC:aD Try.prog { own:=[33],comp:=[],frz:=[],nils:=[] } Try.f79=some ox:=by kernel_rfl
theorem NC (G:ak) (key:List UInt8) (l:List (List UInt8)) (hk:key.length≤9223372036854775807) (hl:l.length≤9223372036854775807) (hb:∀ x∈l,x.length≤9223372036854775807):ar Try.prog G 79 [.sl (key.map bD),.sl (l.map fun l=>D.sl (l.map bD))] (.tup [.c (.fr 1 ((vp key l).map bD)),.c (.d (.int .i64 (qh key l)))]):=by
  refine aF Try.func79 LC rfl rfl ?_;have hx:=Nw G key hk;unfold vp qh;by_cases h:key.length=16
  ·have hv:mT key=dU key:=if_pos h;have he:j4 key=0:=by unfold j4; rw[if_neg (by omega)]
   rw[hv,he] at hx;by_cases h2:l.length≤17
   ·rw[if_neg (by omega:¬ key.length≠16),if_neg (by omega:¬ 17<l.length)];simp only[ox,aj,ae,aa,seval,iteOmega,toNatUp];refine sC (hx) ?_;simp only[dU,ae,aa,seval,iteOmega,toNatUp];refine bi (pD key l) (fun i=>l.length-i) (fun i=>i≤l.length∧∀ j,j<i→(l.getD j []).length≤65535) 0 ⟨Q8 _,fun j hj=>by omega⟩ ?_ ?_
    ·refine aC (fun i=>48) ?_ ?_ rfl rfl <;> simp only[wx,aA,aJ,aa,seval,iteOmega,toNatUp]
    ·rintro i ⟨hi,hok⟩;by_cases hlt:i<l.length
     ·have g1:=tj hlt;have hx:=hb _ (nW hlt);by_cases hlong:65535<(l.getD i []).length
      ·have hL:=Iv hlt hlong;rw[hL,if_neg (by simp),if_pos rfl];simp only[nD,pD,ae,aa,seval,iteOmega,toNatUp,aU,g1];exact cx
      ·simp only[nD,pD,ae,aa,seval,iteOmega,toNatUp,aU,g1];refine aZ (i+1) (by omega) ⟨by omega,fun j hj=>?_⟩ (aC (fun i=>i) ?_ ?_ rfl rfl)
       ·rcases RD j i with h | h
        ·exact hok j h
        ·obtain rfl:j=i:=by omega
         omega
       all_goals simp only[wx,aA,aJ,aa,seval,iteOmega,toNatUp]
     ·have hL:=J6 (l:=l) (fun j hj=>hok j (by omega));rw[hL,if_pos ⟨h,h2,rfl⟩,if_neg (by simp)];simp only[nD,pD,ae,aa,seval,iteOmega,toNatUp];refine sD (NB G key l h h2 (Iw hL)) ?_;exact cx
   ·rw[if_neg (by omega),if_neg (by omega),if_pos (by omega)];have h3:17<l.length:=by omega
    simp only[ox,aj,ae,aa,seval,iteOmega,toNatUp];refine sC (hx) ?_;simp only[dU,ae,aa,seval,iteOmega,toNatUp];exact cx
  ·have hv:mT key=.agg [.sl [],.sl [],.sl []]:=if_neg h;have he:j4 key=5:=if_pos h;rw[hv,he] at hx;rw[if_neg (by omega),if_pos h];simp only[ox,aj,ae,aa,seval,iteOmega,toNatUp];refine sD (hx) ?_;exact cx

theorem Ac (rk c:List UInt8) {n k:Nat} (hk:k<16):∀ {m:Nat},n<m→(lC rk c m)[16*n+k]?=(cX rk (dl c n))[k]?
  | 0,h=>by omega
  | m+1,h=>by
    rw[lC];by_cases e:n=m
    ·subst e;rw[RI (by rw[l3]; omega),l3,Nat.add_sub_cancel_left]
    ·rw[RF (by rw[l3]; omega)];exact Ac rk c hk (by omega)
theorem J7 (rk c b:List UInt8) {n k:Nat} (hk:k<16) (h:16*n+k<b.length):(eH rk c b)[16*n+k]?=some (al (b.getD (16*n+k) 0) ((cX rk (dl c n)).getD k 0)):=by
  unfold eH qd;rw[List.getElem?_zipWith,Ac rk c hk (by omega),cY h,cY (by rw[fX]; exact hk)]
def oT (rk c b:List UInt8) (j:Nat):List UInt8:=(eH rk c b).take j
theorem El (rk c b:List UInt8) (j:Nat):(oT rk c b j).length=min j b.length:=by unfold oT; rw[QY,nB]
theorem oz (rk c b:List UInt8) {j:Nat} (h:b.length≤j):oT rk c b j=eH rk c b:=QZ (by rw[nB]; exact h)
theorem LD (rk c b:List UInt8) {n k:Nat} (hk:k<16) (h:16*n+k<b.length):oT rk c b (16*n+k)++[al (b.getD (16*n+k) 0) ((cX rk (dl c n)).getD k 0)]=oT rk c b (16*n+k+1):=by
  unfold oT; rw[List.take_add_one,J7 rk c b hk h]; rfl
theorem tn {c:List UInt8} (h:c.length=16) (n:Nat):(dl c n).length=16:=by rw[z4]; exact h
theorem J8 {c:List UInt8} (h:c.length=16) (n:Nat):qe (dl c n)=dl c (n+1):=by unfold qe; rw[if_pos (tn h n)]; rfl
def gP (key c b:List UInt8):Int:=if key.length≠16 then 5 else if c.length≠16 then 3 else if 65535<b.length then 2 else 0
def pF (key c b:List UInt8):List UInt8:=if key.length=16∧c.length=16∧b.length≤65535 then eH (aw key) c b else []
theorem Ix {key:List UInt8} (c b:List UInt8) (h:key.length≠16):gP key c b=5:=if_pos h
theorem Iy {key c:List UInt8} (b:List UInt8) (h:key.length=16) (h2:c.length≠16):gP key c b=3:=by unfold gP; rw[if_neg (by simp[h]),if_pos h2]
theorem Hu {key c b:List UInt8} (h:key.length=16) (h2:c.length=16) (h3:65535<b.length):gP key c b=2:=by unfold gP; rw[if_neg (by simp[h]),if_neg (by simp[h2]),if_pos h3]
theorem J9 {key c b:List UInt8} (h:key.length=16) (h2:c.length=16) (h3:b.length≤65535):gP key c b=0:=by unfold gP; rw[if_neg (by simp[h]),if_neg (by simp[h2]),if_neg (by omega)]
theorem Ka {key c b:List UInt8} (h:key.length=16) (h2:c.length=16) (h3:b.length≤65535):pF key c b=eH (aw key) c b:=if_pos ⟨h,h2,h3⟩
theorem sy {key c b:List UInt8} (h:¬ (key.length=16∧c.length=16∧b.length≤65535)):pF key c b=[]:=if_neg h
theorem QI (rk c b:List UInt8):oT rk c b 0=[]:=List.take_zero

theorem Pq (s:Nat) (l:List UInt8) (k:IntKind) (n:Int):V.flat (.tup [.c (.fr s (l.map bD)),.c (.d (.int k n))])=true:=by
  have:=mF s l;simp only[V.flat,W.flat,RL,List.all_nil,Sf] at this ⊢;rw[this]; rfl
def En:aE:=⟨2,10,.seq (.reg [oO 4 (.mv (.k (.c (.d (.bool false)))))]) (.seq (.reg [oM 5 0,oO 6 (.b2s (.t 5)),oM 7 1,oO 8 (.b2s (.t 7)),oO 9 (.bin .eql (.t 6) (.t 8)),oM 4 9]) (.ret)),[(4,none)]⟩
theorem NG:aD Try.prog { own:=[],comp:=[],frz:=[],nils:=[] } Try.f65=some En:=by kernel_rfl
theorem Pr (G:ak) (l m:List UInt8):ar Try.prog G 65 [.sl (l.map bD),.sl (m.map bD)] (.w (.c (.d (.bool (l==m))))):=by
  refine aF Try.func65 NG rfl rfl ?_;simp only[En,aj,wx,aa,seval,iteOmega,toNatUp,r6,ya];exact uw (by simp only[wx,aa,seval,iteOmega,toNatUp])
def Ca:aE:=⟨2,8,.seq (.reg [oO 4 (.mv (.k (.c (.d (.bool false)))))]) (.seq (.reg [oM 5 0,oM 6 1,oO 7 (.call 65 [(.t 5),(.t 6)] none),oM 4 7]) (.ret)),[(4,none)]⟩
theorem LF:aD Try.prog { own:=[],comp:=[],frz:=[],nils:=[] } Try.f46=some Ca:=by kernel_rfl
theorem Eo (G:ak) (l m:List UInt8):ar Try.prog G 46 [.sl (l.map bD),.sl (m.map bD)] (.w (.c (.d (.bool (l==m))))):=by
  refine aF Try.func46 LF rfl rfl ?_;simp only[Ca,aj,ae,aa,seval,iteOmega,toNatUp];refine sD (Pr G l m) ?_;exact aM
structure Hd where
  lp:Int
  vr:Int
  md:Int
  st:Int
  pl:Int
  pr:Int
  rd:Nat
  rp:Nat
  ri:Nat
  rf:Nat
  og:Nat
  rc:Nat
  tr:Nat
def Hd.z:Hd:=⟨0,0,0,0,0,0,0,0,0,0,0,0,0⟩
def mU (h:Hd):Prop:=0≤h.lp∧h.lp≤3∧(h.vr=3∨h.vr=4)∧0≤h.md∧h.md≤7∧0≤h.st∧h.st≤255∧-128≤h.pl∧h.pl≤127∧-128≤h.pr∧h.pr≤127
instance (h:Hd):Decidable (mU h):=by unfold mU; infer_instance
def iK (h:Hd):Bool:=decide (mU h)
def qq (h:Hd):Prop:=h.rd<4294967296∧h.rp<4294967296∧h.ri<4294967296∧h.rf<18446744073709551616∧h.og<18446744073709551616∧h.rc<18446744073709551616∧h.tr<18446744073709551616
def di (v:Int):UInt8:=UInt8.ofNat (v%256).toNat
def Gg (b:UInt8):Int:=if b.toNat>127 then (b.toNat:Int)-256 else (b.toNat:Int)
def qt (h:Hd):List UInt8:=au h.rd 4++(au h.rp 4++(au h.ri 4++(au h.rf 8++(au h.og 8++(au h.rc 8++au h.tr 8)))))
def fu (h:Hd):List UInt8:=[di (h.lp*64+h.vr*8+h.md),di h.st,di h.pl,di h.pr]++qt h
theorem LN (h:Hd):(qt h).length=44:=by simp[qt,cR]
theorem LO (h:Hd):(fu h).length=48:=by unfold fu; rw[QV,LN]; rfl
def eQ (l:List UInt8) (a n:Nat):List UInt8:=(l.drop a).take n
def qu (l:List UInt8):Hd:=⟨((l.getD 0 0).toNat / 64:Nat),((l.getD 0 0).toNat / 8%8:Nat),((l.getD 0 0).toNat%8:Nat),((l.getD 1 0).toNat:Nat),Gg (l.getD 2 0),Gg (l.getD 3 0),
  gw (eQ l 4 4),gw (eQ l 8 4),gw (eQ l 12 4),gw (eQ l 16 8),gw (eQ l 24 8),gw (eQ l 32 8),gw (eQ l 40 8)⟩
theorem fH (G:ak) (v:Nat) (k:Int) (hk:0≤k∧k≤64):ar Try.prog G 71 [.int .u64 (v:Int),.int .i64 k] (.w (.c (.fr 1 ((au v k.toNat).map bD)))):=by
  have c:=Ft G v k;rw[show qb v k=au v k.toNat from if_pos hk] at c;exact c


def e9:List UInt32:=[0x6a09e667,0xbb67ae85,0x3c6ef372,0xa54ff53a,0x510e527f,0x9b05688c,0x1f83d9ab,0x5be0cd19]
def ce:List UInt32:=[
  0x428a2f98,0x71374491,0xb5c0fbcf,0xe9b5dba5,0x3956c25b,0x59f111f1,0x923f82a4,0xab1c5ed5,
  0xd807aa98,0x12835b01,0x243185be,0x550c7dc3,0x72be5d74,0x80deb1fe,0x9bdc06a7,0xc19bf174,
  0xe49b69c1,0xefbe4786,0x0fc19dc6,0x240ca1cc,0x2de92c6f,0x4a7484aa,0x5cb0a9dc,0x76f988da,
  0x983e5152,0xa831c66d,0xb00327c8,0xbf597fc7,0xc6e00bf3,0xd5a79147,0x06ca6351,0x14292967,
  0x27b70a85,0x2e1b2138,0x4d2c6dfc,0x53380d13,0x650a7354,0x766a0abb,0x81c2c92e,0x92722c85,
  0xa2bfe8a1,0xa81a664b,0xc24b8b70,0xc76c51a3,0xd192e819,0xd6990624,0xf40e3585,0x106aa070,
  0x19a4c116,0x1e376c08,0x2748774c,0x34b0bcb5,0x391c0cb3,0x4ed8aa4a,0x5b9cca4f,0x682e6ff3,
  0x748f82ee,0x78a5636f,0x84c87814,0x8cc70208,0x90befffa,0xa4506ceb,0xbef9a3f7,0xc67178f2]
theorem wX:e9.length=8:=rfl
theorem nl:ce.length=64:=rfl
def bB (b:List UInt8) (t:Nat):UInt32 :=
  iV (iV (iV (gT (iv (b.getD (4*t) 0)) 24) (gT (iv (b.getD (4*t+1) 0)) 16)) (gT (iv (b.getD (4*t+2) 0)) 8)) (iv (b.getD (4*t+3) 0))
def im (x:UInt32):UInt32:=cU (cU (fg x 7) (fg x 18)) (iF x 3)
def ip (y:UInt32):UInt32:=cU (cU (fg y 17) (fg y 19)) (iF y 10)
def jT (s:List UInt32) (t:Nat):UInt32 :=
  aQ (aQ (aQ (ip (s.getD (t-2) 0)) (s.getD (t-7) 0)) (im (s.getD (t-15) 0))) (s.getD (t-16) 0)
def fE (b:List UInt8) (n:Nat):List UInt32:=(List.range n).map (bB b)
def bK (b:List UInt8):Nat→List UInt32
  | 0=>fE b 16
  | n+1=>bK b n++[jT (bK b n) (16+n)]
def eK (b:List UInt8):List UInt32:=bK b 48
theorem Kp (b:List UInt8) (m:Nat) (h:m=48):eK b=bK b m:=by rw[h]; rfl
def gY (e:UInt32):UInt32:=cU (cU (fg e 6) (fg e 11)) (fg e 25)
def iO (a:UInt32):UInt32:=cU (cU (fg a 2) (fg a 13)) (fg a 22)
def hY (e f g:UInt32):UInt32:=cU (gS e f) (gS (lB e) g)
def iP (a b c:UInt32):UInt32:=cU (cU (gS a b) (gS a c)) (gS b c)
structure a9 where
  (a b c d e f g h:UInt32)
def a9.step (s:a9) (k w:UInt32):a9 :=
  let t1:=aQ (aQ (aQ (aQ s.h (gY s.e)) (hY s.e s.f s.g)) k) w
  let t2:=aQ (iO s.a) (iP s.a s.b s.c)
  ⟨aQ t1 t2,s.a,s.b,s.c,aQ s.d t1,s.e,s.f,s.g⟩
def a9.of (h:List UInt32):a9:=⟨h.getD 0 0,h.getD 1 0,h.getD 2 0,h.getD 3 0,h.getD 4 0,h.getD 5 0,h.getD 6 0,h.getD 7 0⟩
def a9.rounds (s:a9) (k w:List UInt32):Nat→a9
  | 0=>s
  | n+1=>(s.rounds k w n).step (k.getD n 0) (w.getD n 0)
def a9.sum (s:a9) (h:List UInt32):List UInt32 :=
  [aQ (h.getD 0 0) s.a,aQ (h.getD 1 0) s.b,aQ (h.getD 2 0) s.c,aQ (h.getD 3 0) s.d,aQ (h.getD 4 0) s.e,aQ (h.getD 5 0) s.f,aQ (h.getD 6 0) s.g,aQ (h.getD 7 0) s.h]
def ja (h:List UInt32) (b:List UInt8):List UInt32:=((a9.of h).rounds ce (eK b) 64).sum h
theorem wY (h:List UInt32) (b:List UInt8):(ja h b).length=8:=rfl
def Ao:aE:=⟨2,15,.seq (.reg [oO 4 (.mv (.k (.c (.d (.int .u32 0)))))]) (.seq (.reg [oM 5 0,oM 6 1,oO 7 (.conv .u64 (.t 6)),oO 8 (.bin .shr (.t 5) (.t 7)),oM 9 0,oM 10 1,oO 11 (.bin .sub (kI 32) (.t 10)),oO 12 (.conv .u64 (.t 11)),oO 13 (.bin .shl (.t 9) (.t 12)),oO 14 (.bin .or (.t 8) (.t 13)),oM 4 14]) (.ret)),[(4,none)]⟩
theorem Kq:aD Try.prog { own:=[],comp:=[],frz:=[],nils:=[] } Try.f64=some Ao:=by kernel_rfl
theorem gH (G:ak) (x:UInt32) (n:Nat) (h0:0<n) (hn:n<32):ar Try.prog G 64 [wD x,.int .i64 n] (.w (.c (.d (wD (fg x n))))):=by
  refine aF Try.func64 Kq rfl rfl ?_;have e1:IntKind.u64.wrap (n:Int)=(n:Int):=IntWalk.u64_in _ (by omega);have e2:IntKind.i64.wrap (32-(n:Int))=((32-n:Nat):Int):=by rw[IntWalk.i64_in _ (by omega)]; omega
  have e3:IntKind.u64.wrap ((32-n:Nat):Int)=((32-n:Nat):Int):=IntWalk.u64_in _ (by omega);simp only[Ao,aj,wx,aa,seval,iteOmega,toNatUp,e1,e2,e3];exact uw (by simp only[wx,aa,seval,iteOmega,toNatUp] <;> rfl)
def Cy:aE:=⟨0,2,.seq (.reg [oO 0 (.mv (.k (.c .nil)))]) (.seq (.reg [oO 1 (.bldSl true 8 1 (.int .u32 0) [(0,(.k (.c (.d (.int .u32 1779033703))))),(1,(.k (.c (.d (.int .u32 3144134277))))),(2,(.k (.c (.d (.int .u32 1013904242))))),(3,(.k (.c (.d (.int .u32 2773480762))))),(4,(.k (.c (.d (.int .u32 1359893119))))),(5,(.k (.c (.d (.int .u32 2600822924))))),(6,(.k (.c (.d (.int .u32 528734635))))),(7,(.k (.c (.d (.int .u32 1541459225)))))]),oM 0 1]) (.ret)),[(0,none)]⟩
theorem Ml:aD Try.prog { own:=[1],comp:=[],frz:=[],nils:=[] } Try.f42=some Cy:=by kernel_rfl
theorem Ow (G:ak):ar Try.prog G 42 [] (.w (.c (.fr 1 (e9.map wD)))):=by
  refine aF Try.func42 Ml rfl rfl ?_;simp only[Cy,aj,pm,pn,po,pp,pq,sx];refine AW (.w (.c (.own 8 1 0 8)),upd hN 8 (some (.row 1 (e9.map wD))),upd uN 8 true) (by kernel_rfl) ?_;simp only[wx,aa,seval,iteOmega,toNatUp];exact d6 (id:=8) (n:=8) (s:=1) (by simp only[wx,aa,seval,iteOmega,toNatUp]) (by simp only[wx,aa,seval,iteOmega,toNatUp]) rfl
def Cz:aE:=⟨0,2,.seq (.reg [oO 0 (.mv (.k (.c .nil)))]) (.seq (.reg [oO 1 (.bldSl true 64 1 (.int .u32 0) [(0,(.k (.c (.d (.int .u32 1116352408))))),(1,(.k (.c (.d (.int .u32 1899447441))))),(2,(.k (.c (.d (.int .u32 3049323471))))),(3,(.k (.c (.d (.int .u32 3921009573))))),(4,(.k (.c (.d (.int .u32 961987163))))),(5,(.k (.c (.d (.int .u32 1508970993))))),(6,(.k (.c (.d (.int .u32 2453635748))))),(7,(.k (.c (.d (.int .u32 2870763221))))),(8,(.k (.c (.d (.int .u32 3624381080))))),(9,(.k (.c (.d (.int .u32 310598401))))),(10,(.k (.c (.d (.int .u32 607225278))))),(11,(.k (.c (.d (.int .u32 1426881987))))),(12,(.k (.c (.d (.int .u32 1925078388))))),(13,(.k (.c (.d (.int .u32 2162078206))))),(14,(.k (.c (.d (.int .u32 2614888103))))),(15,(.k (.c (.d (.int .u32 3248222580))))),(16,(.k (.c (.d (.int .u32 3835390401))))),(17,(.k (.c (.d (.int .u32 4022224774))))),(18,(.k (.c (.d (.int .u32 264347078))))),(19,(.k (.c (.d (.int .u32 604807628))))),(20,(.k (.c (.d (.int .u32 770255983))))),(21,(.k (.c (.d (.int .u32 1249150122))))),(22,(.k (.c (.d (.int .u32 1555081692))))),(23,(.k (.c (.d (.int .u32 1996064986))))),(24,(.k (.c (.d (.int .u32 2554220882))))),(25,(.k (.c (.d (.int .u32 2821834349))))),(26,(.k (.c (.d (.int .u32 2952996808))))),(27,(.k (.c (.d (.int .u32 3210313671))))),(28,(.k (.c (.d (.int .u32 3336571891))))),(29,(.k (.c (.d (.int .u32 3584528711))))),(30,(.k (.c (.d (.int .u32 113926993))))),(31,(.k (.c (.d (.int .u32 338241895))))),(32,(.k (.c (.d (.int .u32 666307205))))),(33,(.k (.c (.d (.int .u32 773529912))))),(34,(.k (.c (.d (.int .u32 1294757372))))),(35,(.k (.c (.d (.int .u32 1396182291))))),(36,(.k (.c (.d (.int .u32 1695183700))))),(37,(.k (.c (.d (.int .u32 1986661051))))),(38,(.k (.c (.d (.int .u32 2177026350))))),(39,(.k (.c (.d (.int .u32 2456956037))))),(40,(.k (.c (.d (.int .u32 2730485921))))),(41,(.k (.c (.d (.int .u32 2820302411))))),(42,(.k (.c (.d (.int .u32 3259730800))))),(43,(.k (.c (.d (.int .u32 3345764771))))),(44,(.k (.c (.d (.int .u32 3516065817))))),(45,(.k (.c (.d (.int .u32 3600352804))))),(46,(.k (.c (.d (.int .u32 4094571909))))),(47,(.k (.c (.d (.int .u32 275423344))))),(48,(.k (.c (.d (.int .u32 430227734))))),(49,(.k (.c (.d (.int .u32 506948616))))),(50,(.k (.c (.d (.int .u32 659060556))))),(51,(.k (.c (.d (.int .u32 883997877))))),(52,(.k (.c (.d (.int .u32 958139571))))),(53,(.k (.c (.d (.int .u32 1322822218))))),(54,(.k (.c (.d (.int .u32 1537002063))))),(55,(.k (.c (.d (.int .u32 1747873779))))),(56,(.k (.c (.d (.int .u32 1955562222))))),(57,(.k (.c (.d (.int .u32 2024104815))))),(58,(.k (.c (.d (.int .u32 2227730452))))),(59,(.k (.c (.d (.int .u32 2361852424))))),(60,(.k (.c (.d (.int .u32 2428436474))))),(61,(.k (.c (.d (.int .u32 2756734187))))),(62,(.k (.c (.d (.int .u32 3204031479))))),(63,(.k (.c (.d (.int .u32 3329325298)))))]),
 oM 0 1]) (.ret)),[(0,none)]⟩
theorem Mm:aD Try.prog { own:=[1],comp:=[],frz:=[],nils:=[] } Try.f43=some Cz:=by kernel_rfl
theorem ER (G:ak):ar Try.prog G 43 [] (.w (.c (.fr 1 (ce.map wD)))):=by
  refine aF Try.func43 Mm rfl rfl ?_;simp only[Cz,aj,pm,pn,po,pp,pq,sx];refine AW (.w (.c (.own 8 1 0 64)),upd hN 8 (some (.row 1 (ce.map wD))),upd uN 8 true) (by kernel_rfl) ?_;simp only[wx,aa,seval,iteOmega,toNatUp];exact d6 (id:=8) (n:=64) (s:=1) (by simp only[wx,aa,seval,iteOmega,toNatUp]) (by simp only[wx,aa,seval,iteOmega,toNatUp]) rfl
theorem wZ (b:UInt8):(iv b).toNat=b.toNat:=by have:=xQ b; omega
theorem rH (b:UInt8) (n:Nat) (hn:n≤24):(gT (iv b) n).toNat=2^n*b.toNat:=by
  have hb:=b.toNat_lt;have h:(2:Nat)^n≤2^24:=Nat.pow_le_pow_right (by decide) hn;have h2:2^n*b.toNat≤2^24*255:=Nat.mul_le_mul h (by omega);unfold gT;rw[wZ,UInt32.toNat_ofNat_of_lt' (by rw[SC]; simp only[UInt32.size]; omega),SC]
theorem tD (x y:UInt32):(iV x y).toNat=x.toNat ||| y.toNat:=UInt32.toNat_or x y
theorem nm (b:List UInt8) (t:Nat):(bB b t).toNat=((((b.getD (4*t) 0).toNat*256+(b.getD (4*t+1) 0).toNat)*256+(b.getD (4*t+2) 0).toNat)*256+(b.getD (4*t+3) 0).toNat):=by
  unfold bB;generalize b.getD (4*t) 0=p;generalize b.getD (4*t+1) 0=q;generalize b.getD (4*t+2) 0=r;generalize b.getD (4*t+3) 0=s;have hp:=p.toNat_lt;have hq:=q.toNat_lt;have hr:=r.toNat_lt;have hs:=s.toNat_lt;rw[tD,tD,tD,rH _ _ (by decide),rH _ _ (by decide),rH _ _ (by decide),wZ];have e1:=Nat.two_pow_add_eq_or_of_lt (i:=24) (b:=2^16*q.toNat) (by omega) p.toNat;rw[← e1];have e2:=Nat.two_pow_add_eq_or_of_lt (i:=16) (b:=2^8*r.toNat) (by omega) (2^8*p.toNat+q.toNat);have e3:2^24*p.toNat+2^16*q.toNat=2^16*(2^8*p.toNat+q.toNat):=by omega
  rw[e3,← e2];have e4:=Nat.two_pow_add_eq_or_of_lt (i:=8) (b:=s.toNat) (by omega) (2^8*(2^8*p.toNat+q.toNat)+r.toNat);have e5:2^16*(2^8*p.toNat+q.toNat)+2^8*r.toNat=2^8*(2^8*(2^8*p.toNat+q.toNat)+r.toNat):=by omega
  rw[e5,← e4];omega
theorem qM (b:List UInt8) (n:Nat):(fE b n).length=n:=by simp[fE]
theorem q0 (b:List UInt8):∀ n,(bK b n).length=16+n
  | 0=>by simp[bK,qM]
  | n+1=>by rw[bK,QV,q0 b n]; simp; omega
theorem Ap {α:Type} (l:List α) (z x:α) (n:Nat) (h:0<n):(l++List.replicate n z).set l.length x=(l++[x])++List.replicate (n-1) z:=by
  obtain⟨k,rfl⟩:∃ k,n=k+1:=⟨n-1,by omega⟩
  rw[List.set_append_right _ _ (Q5 _),Nat.sub_self,List.replicate_succ,List.set_cons_zero];simp
theorem Ox {l:List UInt32} {r:List UInt32} {i:Nat} (h:i<l.length):(l++r)[i]?=some (l.getD i 0):=by
  rw[RF h];simp[h]
theorem getD_some {l:List UInt32} {i:Nat} (h:i<l.length):l[i]?=some (l.getD i 0):=by simp[h]
theorem eight {l:List UInt32} (h:l.length=8):∃ a b c d e f g i,l=[a,b,c,d,e,f,g,i]:=by
  match l,h with
  | [a,b,c,d,e,f,g,i],_=>exact⟨a,b,c,d,e,f,g,i,rfl⟩
def a9.list (s:a9):List UInt32:=[s.a,s.b,s.c,s.d,s.e,s.f,s.g,s.h]
theorem Oy (s:a9) (k w:UInt32):(s.step k w).a=aQ (aQ (aQ (aQ (aQ s.h (gY s.e)) (hY s.e s.f s.g)) k) w) (aQ (iO s.a) (iP s.a s.b s.c)):=rfl
theorem Oz (s:a9) (k w:UInt32):(s.step k w).b=s.a:=rfl
theorem OA (s:a9) (k w:UInt32):(s.step k w).c=s.b:=rfl
theorem OB (s:a9) (k w:UInt32):(s.step k w).d=s.c:=rfl
theorem OC (s:a9) (k w:UInt32):(s.step k w).e=aQ s.d (aQ (aQ (aQ (aQ s.h (gY s.e)) (hY s.e s.f s.g)) k) w):=rfl
theorem OD (s:a9) (k w:UInt32):(s.step k w).f=s.e:=rfl
theorem OE (s:a9) (k w:UInt32):(s.step k w).g=s.f:=rfl
theorem OG (s:a9) (k w:UInt32):(s.step k w).h=s.g:=rfl
theorem Hy {l:List UInt8} {i:Nat} (h:i<l.length):l[i]?=some (l.getD i 0):=by simp[h]
def uT (h k:List UInt32) (b:List UInt8) (t:Nat):St:=⟨aR [(0,.w (.c (.d (.sl (h.map wD))))),(1,.w (.c (.d (.sl (k.map wD))))),(2,.w (.c (.d (.sl (b.map bD))))),(7,.w (.c (.pa 1 1))),(8,.w (.c (.d (.int .i64 (t:Int)))))],
  hL [(1,.row 1 ((fE b t++List.replicate (64-t) 0).map wD))],uL [1]⟩
def uU (h k:List UInt32) (b:List UInt8) (n:Nat):St:=⟨aR [(0,.w (.c (.d (.sl (h.map wD))))),(1,.w (.c (.d (.sl (k.map wD))))),(7,.w (.c (.pa 1 1))),(9,.w (.c (.d (.int .i64 ((16+n:Nat):Int)))))],
  hL [(1,.row 1 ((bK b n++List.replicate (48-n) 0).map wD))],uL [1]⟩
def pP (h:List UInt32) (b:List UInt8) (s:a9) (n:Nat):St:=⟨aR [(0,.w (.c (.d (.sl (h.map wD))))),(1,.w (.c (.d (.sl (ce.map wD))))),(7,.w (.c (.pa 1 1))),(12,.w (.c (.d (wD s.a)))),(13,.w (.c (.d (wD s.b)))),(14,.w (.c (.d (wD s.c)))),(15,.w (.c (.d (wD s.d)))),(16,.w (.c (.d (wD s.e)))),(17,.w (.c (.d (wD s.f)))),(18,.w (.c (.d (wD s.g)))),(19,.w (.c (.d (wD s.h)))),(20,.w (.c (.d (.int .i64 (n:Int)))))],
  hL [(1,.row 1 ((eK b).map wD))],uL [1]⟩
def mL (h:List UInt32) (b:List UInt8) (n:Nat):St:=pP h b ((a9.of h).rounds ce (eK b) n) n
def qN:aI := .seq (.seq (.reg [oM 23 8,oO 24 (.bin .lss (.t 23) (kI 16))]) (.cond (.t 24) (.skip) (.exit 0))) (.seq (.block 1 (.reg [oM 27 8,oM 28 2,oM 29 8,oO 30 (.bin .mul (kI 4) (.t 29)),oO 31 (.idxSl 1 (.t 28) (.t 30)),oO 32 (.load .sc (.t 31)),oO 33 (.conv .u32 (.t 32)),oO 34 (.bin .shl (.t 33) (.k (.c (.d (.int .u64 24))))),oM 35 2,oM 36 8,oO 37 (.bin .mul (kI 4) (.t 36)),oO 38 (.bin .add (.t 37) (kI 1)),oO 39 (.idxSl 1 (.t 35) (.t 38)),oO 40 (.load .sc (.t 39)),oO 41 (.conv .u32 (.t 40)),oO 42 (.bin .shl (.t 41) (.k (.c (.d (.int .u64 16))))),oO 43 (.bin .or (.t 34) (.t 42)),oM 44 2,oM 45 8,oO 46 (.bin .mul (kI 4) (.t 45)),oO 47 (.bin .add (.t 46) (kI 2)),oO 48 (.idxSl 1 (.t 44) (.t 47)),oO 49 (.load .sc (.t 48)),oO 50 (.conv .u32 (.t 49)),oO 51 (.bin .shl (.t 50) (.k (.c (.d (.int .u64 8))))),
 oO 52 (.bin .or (.t 43) (.t 51)),oM 53 2,oM 54 8,oO 55 (.bin .mul (kI 4) (.t 54)),oO 56 (.bin .add (.t 55) (kI 3)),oO 57 (.idxSl 1 (.t 53) (.t 56)),oO 58 (.load .sc (.t 57)),oO 59 (.conv .u32 (.t 58)),oO 60 (.bin .or (.t 52) (.t 59)),oO 61 (.idxPa 1 64 (.t 7) (.t 27)),oN (.store .sc (.t 61) (.t 60))])) (.reg [oM 25 8,oO 26 (.bin .add (.t 25) (kI 1)),oM 8 26]))
def qO:aI := .seq (.seq (.reg [oM 62 9,oO 63 (.bin .lss (.t 62) (kI 64))]) (.cond (.t 63) (.skip) (.exit 2))) (.seq (.block 3 (.seq (.reg [oM 66 9,oO 67 (.bin .sub (.t 66) (kI 15)),oO 68 (.idxPa 1 64 (.t 7) (.t 67)),oO 69 (.load .sc (.t 68)),oM 70 9,oO 71 (.bin .sub (.t 70) (kI 2)),oO 72 (.idxPa 1 64 (.t 7) (.t 71)),oO 73 (.load .sc (.t 72)),oM 10 69,oM 11 73]) (.reg [oM 74 9,oM 75 11,oO 76 (.call 64 [(.t 75),(kI 17)] none),oM 77 11,oO 78 (.call 64 [(.t 77),(kI 19)] none),oO 79 (.bin .xor (.t 76) (.t 78)),oM 80 11,oO 81 (.bin .shr (.t 80) (.k (.c (.d (.int .u64 10))))),oO 82 (.bin .xor (.t 79) (.t 81)),oM 83 9,oO 84 (.bin .sub (.t 83) (kI 7)),oO 85 (.idxPa 1 64 (.t 7) (.t 84)),oO 86 (.load .sc (.t 85)),oO 87 (.bin .add (.t 82) (.t 86)),oM 88 10,oO 89 (.call 64 [(.t 88),(kI 7)] none),
 oM 90 10,oO 91 (.call 64 [(.t 90),(kI 18)] none),oO 92 (.bin .xor (.t 89) (.t 91)),oM 93 10,oO 94 (.bin .shr (.t 93) (.k (.c (.d (.int .u64 3))))),oO 95 (.bin .xor (.t 92) (.t 94)),oO 96 (.bin .add (.t 87) (.t 95)),oM 97 9,oO 98 (.bin .sub (.t 97) (kI 16)),oO 99 (.idxPa 1 64 (.t 7) (.t 98)),oO 100 (.load .sc (.t 99)),oO 101 (.bin .add (.t 96) (.t 100)),oO 102 (.idxPa 1 64 (.t 7) (.t 74)),oN (.store .sc (.t 102) (.t 101))]))) (.reg [oM 64 9,oO 65 (.bin .add (.t 64) (kI 1)),oM 9 65]))
def qP:aI := .seq (.seq (.reg [oM 127 20,oO 128 (.bin .lss (.t 127) (kI 64))]) (.cond (.t 128) (.skip) (.exit 4))) (.seq (.block 5 (.seq (.reg [oM 131 19,oM 132 16,oO 133 (.call 64 [(.t 132),(kI 6)] none),oM 134 16,oO 135 (.call 64 [(.t 134),(kI 11)] none),oO 136 (.bin .xor (.t 133) (.t 135)),oM 137 16,oO 138 (.call 64 [(.t 137),(kI 25)] none),oO 139 (.bin .xor (.t 136) (.t 138)),oO 140 (.bin .add (.t 131) (.t 139)),oM 141 16,oM 142 17,oO 143 (.bin .and (.t 141) (.t 142)),oM 144 16,oO 145 (.un .xor (.t 144)),oM 146 18,oO 147 (.bin .and (.t 145) (.t 146)),oO 148 (.bin .xor (.t 143) (.t 147)),oO 149 (.bin .add (.t 140) (.t 148)),oM 150 1,oM 151 20,oO 152 (.idxSl 1 (.t 150) (.t 151)),oO 153 (.load .sc (.t 152)),oO 154 (.bin .add (.t 149) (.t 153)),oM 155 20,oO 156 (.idxPa 1 64 (.t 7) (.t 155)),
 oO 157 (.load .sc (.t 156)),oO 158 (.bin .add (.t 154) (.t 157)),oM 21 158]) (.seq (.reg [oM 159 12,oO 160 (.call 64 [(.t 159),(kI 2)] none),oM 161 12,oO 162 (.call 64 [(.t 161),(kI 13)] none),oO 163 (.bin .xor (.t 160) (.t 162)),oM 164 12,oO 165 (.call 64 [(.t 164),(kI 22)] none),oO 166 (.bin .xor (.t 163) (.t 165)),oM 167 12,oM 168 13,oO 169 (.bin .and (.t 167) (.t 168)),oM 170 12,oM 171 14,oO 172 (.bin .and (.t 170) (.t 171)),oO 173 (.bin .xor (.t 169) (.t 172)),oM 174 13,oM 175 14,oO 176 (.bin .and (.t 174) (.t 175)),oO 177 (.bin .xor (.t 173) (.t 176)),oO 178 (.bin .add (.t 166) (.t 177)),oM 22 178]) (.reg [oM 179 21,oM 180 22,oO 181 (.bin .add (.t 179) (.t 180)),oM 182 12,oM 183 13,oM 184 14,oM 185 15,oM 186 21,oO 187 (.bin .add (.t 185) (.t 186)),oM 188 16,oM 189 17,oM 190 18,oM 12 181,
 oM 13 182,oM 14 183,oM 15 184,oM 16 187,oM 17 188,oM 18 189,oM 19 190])))) (.reg [oM 129 20,oO 130 (.bin .add (.t 129) (kI 1)),oM 20 130]))
def yk:aE:=⟨3,232,.seq (.reg [oO 6 (.mv (.k (.c .nil)))]) (.seq (.reg [oO 7 (.allocArr [(.int .u32 0),(.int .u32 0),(.int .u32 0),(.int .u32 0),(.int .u32 0),(.int .u32 0),(.int .u32 0),(.int .u32 0),(.int .u32 0),(.int .u32 0),(.int .u32 0),(.int .u32 0),(.int .u32 0),(.int .u32 0),(.int .u32 0),(.int .u32 0),(.int .u32 0),(.int .u32 0),(.int .u32 0),(.int .u32 0),(.int .u32 0),(.int .u32 0),(.int .u32 0),(.int .u32 0),(.int .u32 0),(.int .u32 0),(.int .u32 0),(.int .u32 0),(.int .u32 0),(.int .u32 0),(.int .u32 0),(.int .u32 0),(.int .u32 0),(.int .u32 0),(.int .u32 0),(.int .u32 0),(.int .u32 0),(.int .u32 0),(.int .u32 0),(.int .u32 0),(.int .u32 0),(.int .u32 0),(.int .u32 0),(.int .u32 0),(.int .u32 0),(.int .u32 0),(.int .u32 0),(.int .u32 0),(.int .u32 0),(.int .u32 0),(.int .u32 0),(.int .u32 0),(.int .u32 0),(.int .u32 0),(.int .u32 0),(.int .u32 0),(.int .u32 0),(.int .u32 0),(.int .u32 0),(.int .u32 0),(.int .u32 0),(.int .u32 0),(.int .u32 0),(.int .u32 0)])])
 (.seq (.seq (.reg [oO 8 (.mv (kI 0))]) (.block 0 (.loop qN))) (.seq (.seq (.reg [oO 9 (.mv (kI 16))]) (.block 2 (.loop qO))) (.seq (.reg [oM 103 0,oO 104 (.idxSl 1 (.t 103) (kI 0)),oO 105 (.load .sc (.t 104)),oM 106 0,oO 107 (.idxSl 1 (.t 106) (kI 1)),oO 108 (.load .sc (.t 107)),oM 109 0,oO 110 (.idxSl 1 (.t 109) (kI 2)),oO 111 (.load .sc (.t 110)),oM 112 0,oO 113 (.idxSl 1 (.t 112) (kI 3)),oO 114 (.load .sc (.t 113)),oM 115 0,oO 116 (.idxSl 1 (.t 115) (kI 4)),oO 117 (.load .sc (.t 116)),oM 118 0,oO 119 (.idxSl 1 (.t 118) (kI 5)),oO 120 (.load .sc (.t 119)),oM 121 0,oO 122 (.idxSl 1 (.t 121) (kI 6)),oO 123 (.load .sc (.t 122)),oM 124 0,oO 125 (.idxSl 1 (.t 124) (kI 7)),oO 126 (.load .sc (.t 125)),oM 12 105,oM 13 108,oM 14 111,oM 15 114,oM 16 117,oM 17 120,oM 18 123,oM 19 126])
 (.seq (.seq (.reg [oO 20 (.mv (kI 0))]) (.block 4 (.loop qP))) (.seq (.reg [oM 191 0,oO 192 (.idxSl 1 (.t 191) (kI 0)),oO 193 (.load .sc (.t 192)),oM 194 12,oO 195 (.bin .add (.t 193) (.t 194)),oM 196 0,oO 197 (.idxSl 1 (.t 196) (kI 1)),oO 198 (.load .sc (.t 197)),oM 199 13,oO 200 (.bin .add (.t 198) (.t 199)),oM 201 0,oO 202 (.idxSl 1 (.t 201) (kI 2)),oO 203 (.load .sc (.t 202)),oM 204 14,oO 205 (.bin .add (.t 203) (.t 204)),oM 206 0,oO 207 (.idxSl 1 (.t 206) (kI 3)),oO 208 (.load .sc (.t 207)),oM 209 15,oO 210 (.bin .add (.t 208) (.t 209)),oM 211 0,oO 212 (.idxSl 1 (.t 211) (kI 4)),oO 213 (.load .sc (.t 212)),oM 214 16,oO 215 (.bin .add (.t 213) (.t 214)),oM 216 0,oO 217 (.idxSl 1 (.t 216) (kI 5)),oO 218 (.load .sc (.t 217)),oM 219 17,oO 220 (.bin .add (.t 218) (.t 219)),oM 221 0,
 oO 222 (.idxSl 1 (.t 221) (kI 6)),oO 223 (.load .sc (.t 222)),oM 224 18,oO 225 (.bin .add (.t 223) (.t 224)),oM 226 0,oO 227 (.idxSl 1 (.t 226) (kI 7)),oO 228 (.load .sc (.t 227)),oM 229 19,oO 230 (.bin .add (.t 228) (.t 229)),oO 231 (.bldSl true 8 1 (.int .u32 0) [(0,(.t 195)),(1,(.t 200)),(2,(.t 205)),(3,(.t 210)),(4,(.t 215)),(5,(.t 220)),(6,(.t 225)),(7,(.t 230))]),oM 6 231]) (.ret))))))),[(6,none)]⟩
theorem IG:aD Try.prog { own:=[231],comp:=[],frz:=[],nils:=[] } Try.f44=some yk:=by kernel_rfl
set_option maxHeartbeats 1600000 in
theorem Aq (G:ak) (h:List UInt32) (b:List UInt8) (hh:h.length=8) (hb:b.length=64):ar Try.prog G 44 [.sl (h.map wD),.sl (ce.map wD),.sl (b.map bD)] (.w (.c (.fr 1 ((ja h b).map wD)))):=by
  refine aF Try.func44 IG rfl rfl ?_;have hsl:(eK b).length=64:=q0 b 48;have hcl:ce.length=64:=nl;simp only[yk,aj,wx,aa,seval,iteOmega,toNatUp];refine bi (uT h ce b) (fun t=>16-t) (fun t=>t≤16) 0 (Q8 _) ?_ ?_
  ·refine aC (fun _=>56) ?_ ?_ rfl rfl <;> simp only[wx,aA,aa,seval,iteOmega,toNatUp];rfl
  ·intro t ht;by_cases hlt:t<16
   ·have e0:IntKind.i64.wrap (4*(t:Int))=((4*t:Nat):Int):=by rw[IntWalk.i64_in _ (by omega)]; omega
    have e1:IntKind.i64.wrap (((4*t:Nat):Int)+1)=((4*t+1:Nat):Int):=by rw[IntWalk.i64_in _ (by omega)]; omega
    have e2:IntKind.i64.wrap (((4*t:Nat):Int)+2)=((4*t+2:Nat):Int):=by rw[IntWalk.i64_in _ (by omega)]; omega
    have e3:IntKind.i64.wrap (((4*t:Nat):Int)+3)=((4*t+3:Nat):Int):=by rw[IntWalk.i64_in _ (by omega)]; omega
    have e4:IntKind.i64.wrap ((t:Int)+1)=((t+1:Nat):Int):=by rw[IntWalk.i64_in _ (by omega)]; omega
    have g:∀ k,k<64→(b.map bD)[k]?=some (bD (b.getD k 0)):=fun k hk=>by rw[aU,Hy (by omega)]; rfl
    have g0:=g (4*t) (by omega);have g1:=g (4*t+1) (by omega);have g2:=g (4*t+2) (by omega);have g3:=g (4*t+3) (by omega);have h1:t<(fE b t++List.replicate (64-t) 0).length:=by rw[QV,qM,Rc]; omega
    have h2:=Ap (fE b t) 0 (bB b t) (64-t) (by omega);rw[qM] at h2;have h3:fE b t++[bB b t]=fE b (t+1):=by simp[fE,SE]
    have h4:64-t-1=64-(t+1):=by omega
    rw[h3,h4] at h2;simp only[bB] at h2;have m24:min (24:Int).toNat 32=24:=by decide
    have m16:min (16:Int).toNat 32=16:=by decide
    have m8:min (8:Int).toNat 32=8:=by decide
    simp only[qN,uT,wx,aa,seval,iteOmega,toNatUp,e0,e1,e2,e3,e4,g0,g1,g2,g3,Sa,D6 h1 (pu _),D7,h2];refine aZ (t+1) (by omega) (by omega) (aC id ?_ ?_ rfl rfl) <;> simp only[wx,aA,aa,seval,iteOmega,toNatUp]
   ·obtain rfl:t=16:=by omega
    simp only[qN,uT,wx,aa,seval,iteOmega,toNatUp];refine bi (uU h ce b) (fun n=>48-n) (fun n=>n≤48) 0 (Q8 _) ?_ ?_
    ·have h0:fE b 16=bK b 0:=rfl;refine aC id ?_ ?_ rfl rfl <;> simp only[wx,aA,aa,seval,iteOmega,toNatUp,h0]
    ·intro n hn;by_cases hlt:n<48
     ·have hl:=q0 b n;have w1:∀ k:Nat,k≤16→IntKind.i64.wrap (((16+n:Nat):Int)-(k:Int))=((16+n-k:Nat):Int):=fun k hk=>by rw[IntWalk.i64_in _ (by omega)]; omega
      have e15:IntKind.i64.wrap (((16+n:Nat):Int)-15)=((16+n-15:Nat):Int):=w1 15 (by decide);have e2:IntKind.i64.wrap (((16+n:Nat):Int)-2)=((16+n-2:Nat):Int):=w1 2 (by decide);have e7:IntKind.i64.wrap (((16+n:Nat):Int)-7)=((16+n-7:Nat):Int):=w1 7 (by decide);have e16:IntKind.i64.wrap (((16+n:Nat):Int)-16)=((16+n-16:Nat):Int):=w1 16 (by decide);have e0:IntKind.i64.wrap (((16+n:Nat):Int)+1)=((16+(n+1):Nat):Int):=by rw[IntWalk.i64_in _ (by omega)]; omega
      have g:∀ k,k<16+n→((bK b n++List.replicate (48-n) 0).map wD)[k]?=some (wD ((bK b n).getD k 0)):=fun k hk=>by
        rw[Si,Ox (by omega)]; rfl
      have g15:=g (16+n-15) (by omega);have g2:=g (16+n-2) (by omega);have g7:=g (16+n-7) (by omega);have g16:=g (16+n-16) (by omega);simp only[qO,uU,wx,aa,seval,iteOmega,toNatUp,e15,e2,e7,e16,e0,g15,g2,g7,g16];refine bF (gH G _ 17 (by decide) (by decide)) rfl (.inr rfl) ?_;simp only[wx,aa,seval,iteOmega,toNatUp];refine bF (gH G _ 19 (by decide) (by decide)) rfl (.inr rfl) ?_;simp only[wx,aa,seval,iteOmega,toNatUp,e15,e2,e7,e16,e0,g15,g2,g7,g16];refine bF (gH G _ 7 (by decide) (by decide)) rfl (.inr rfl) ?_;simp only[wx,aa,seval,iteOmega,toNatUp];refine bF (gH G _ 18 (by decide) (by decide)) rfl (.inr rfl) ?_;have h1:16+n<(bK b n++List.replicate (48-n) 0).length:=by rw[QV,hl,Rc]; omega
      have h2:=Ap (bK b n) 0 (jT (bK b n) (16+n)) (48-n) (by omega);rw[hl] at h2;have h4:48-n-1=48-(n+1):=by omega
      have h3:bK b n++[jT (bK b n) (16+n)]=bK b (n+1):=rfl;rw[h3,h4] at h2;simp only[jT,im,ip] at h2;simp only[wx,aa,seval,iteOmega,toNatUp,e15,e2,e7,e16,e0,g15,g2,g7,g16,D6 h1 (pu _),D7,h2];refine aZ (n+1) (by omega) (by omega) (aC id ?_ ?_ rfl rfl) <;> simp only[wx,aA,aa,seval,iteOmega,toNatUp]
     ·have hn48:n=48:=by omega
      have h0:48-n=0:=by omega
      obtain⟨h0',h1,h2,h3,h4,h5,h6,h7,rfl⟩:=eight hh;simp only[qO,uU,wx,aa,seval,iteOmega,toNatUp,h0,Rh,Sz,← Kp b n hn48];refine bi (mL [h0',h1,h2,h3,h4,h5,h6,h7] b) (fun n=>64-n) (fun n=>n≤64) 0 (Q8 _) ?_ ?_
      ·refine aC id ?_ ?_ rfl rfl <;> simp only[mL,pP,wx,aA,aa,seval,iteOmega,toNatUp];exact⟨rfl,rfl,rfl,rfl,rfl,rfl,rfl,rfl⟩
      ·clear hn hlt hn48 h0;intro n hn;by_cases hlt:n<64
       ·have e1:IntKind.i64.wrap ((n:Int)+1)=((n+1:Nat):Int):=by rw[IntWalk.i64_in _ (by omega)]; rfl
        have g1:(ce.map wD)[n]?=some (wD (ce.getD n 0)):=by rw[aU,getD_some (by omega)]; rfl
        have g2:((eK b).map wD)[n]?=some (wD ((eK b).getD n 0)):=by rw[aU,getD_some (by omega)]; rfl
        have hr:(a9.of [h0',h1,h2,h3,h4,h5,h6,h7]).rounds ce (eK b) (n+1)=((a9.of [h0',h1,h2,h3,h4,h5,h6,h7]).rounds ce (eK b) n).step (ce.getD n 0) ((eK b).getD n 0):=rfl;generalize hs:(a9.of [h0',h1,h2,h3,h4,h5,h6,h7]).rounds ce (eK b) n=s at hr;simp only[qP,mL,pP,hs,wx,aa,seval,iteOmega,toNatUp,hcl,hsl,g1,g2,e1];refine bF (gH G _ 6 (by decide) (by decide)) rfl (.inr rfl) ?_;simp only[wx,aa,seval,iteOmega,toNatUp];refine bF (gH G _ 11 (by decide) (by decide)) rfl (.inr rfl) ?_;simp only[wx,aa,seval,iteOmega,toNatUp];refine bF (gH G _ 25 (by decide) (by decide)) rfl (.inr rfl) ?_;simp only[wx,aa,seval,iteOmega,toNatUp,g1,g2,hcl,hsl];refine bF (gH G _ 2 (by decide) (by decide)) rfl (.inr rfl) ?_;simp only[wx,aa,seval,iteOmega,toNatUp];refine bF (gH G _ 13 (by decide) (by decide)) rfl (.inr rfl) ?_;simp only[wx,aa,seval,iteOmega,toNatUp];refine bF (gH G _ 22 (by decide) (by decide)) rfl (.inr rfl) ?_;simp only[wx,aa,seval,iteOmega,toNatUp,e1];refine aZ (n+1) (by omega) (by omega) ?_;rw[mL,hr];refine (aC id ?_ ?_ rfl rfl) <;> simp only[wx,aA,aa,seval,iteOmega,toNatUp,Oy,Oz,OA,OB,OC,OD,OE,OG];exact⟨rfl,rfl⟩
       ·obtain rfl:n=64:=by omega
        have hK:ja [h0',h1,h2,h3,h4,h5,h6,h7] b=((a9.of [h0',h1,h2,h3,h4,h5,h6,h7]).rounds ce (eK b) 64).sum [h0',h1,h2,h3,h4,h5,h6,h7]:=rfl;rw[hK];simp only[mL];generalize (a9.of [h0',h1,h2,h3,h4,h5,h6,h7]).rounds ce (eK b) 64=s;have e8:s.sum [h0',h1,h2,h3,h4,h5,h6,h7]=[aQ h0' s.a,aQ h1 s.b,aQ h2 s.c,aQ h3 s.d,aQ h4 s.e,aQ h5 s.f,aQ h6 s.g,aQ h7 s.h]:=rfl;simp only[qP,pP,e8,wx,aa,seval,iteOmega,toNatUp];exact d6 (id:=1848) (n:=8) (s:=1) (by simp only[wx,aa,seval,iteOmega,toNatUp]) (by simp only[wx,aa,seval,iteOmega,toNatUp] <;> rfl) rfl
def cu (h:List UInt32) (b:List UInt8):Nat→List UInt32
  | 0=>h
  | n+1=>ja (cu h b n) ((b.drop (64*n)).take 64)
theorem nG {h:List UInt32} (hh:h.length=8) (b:List UInt8):∀ n,(cu h b n).length=8
  | 0=>hh
  | n+1=>wY _ _
def fo (rest:List UInt8) (count:Nat):List UInt8:=rest++[128]++List.replicate ((119-rest.length)%64) 0++au (count*8) 8
def d8 (ws:List UInt32):List UInt8:=ws.flatMap fun w=>au w.toNat 4
def js (s:List UInt32) (rest:List UInt8) (count:Nat):List UInt8:=d8 (cu s (fo rest count) ((fo rest count).length / 64))
def j5 (b:List UInt8):List UInt8:=js (cu e9 b (b.length / 64)) (b.drop (64*(b.length / 64))) b.length
theorem q7:∀ ws:List UInt32,(d8 ws).length=4*ws.length
  | []=>rfl
  | w::ws=>by
    have:d8 (w::ws)=au w.toNat 4++d8 ws:=rfl;rw[this,QV,cR,q7 ws,SJ]; omega
theorem Kr {s:List UInt32} (hs:s.length=8) (rest:List UInt8) (count:Nat):(js s rest count).length=32:=by
  unfold js;rw[q7,nG hs]
theorem Ar (b:List UInt8):(j5 b).length=32:=Kr (nG wX _ _) _ _
theorem Ks (rest:List UInt8) (count:Nat) (h:rest.length<64):(fo rest count).length=rest.length+9+(119-rest.length)%64∧(fo rest count).length%64=0:=by
  have:(fo rest count).length=rest.length+9+(119-rest.length)%64:=by simp[fo,cR]; omega
  exact⟨this,by omega⟩
theorem G4 (ws:List UInt32) (k:Nat) (h:k<ws.length):d8 (ws.take k)++au (ws.getD k 0).toNat 4=d8 (ws.take (k+1)):=by
  rw[R4 h];unfold d8;rw[R7];simp[h]
theorem Kt {α:Type} (a:α) (j:Nat):List.replicate j a++[a]=List.replicate (j+1) a:=by rw[List.replicate_succ']
def uV (h:List UInt32) (rest:List UInt8) (count:Nat) (j:Nat):St:=⟨aR [(0,.w (.c (.d (.sl (h.map wD))))),(2,.w (.c (.d (.int .i64 (count:Int))))),(7,.w (.c (.d (.sl (ce.map wD))))),(8,.w (.c (.own 1 1 0 (rest++[128]++List.replicate j 0).length)))],hL [(1,.row 1 ((rest++[128]++List.replicate j 0).map bD))],uL [1]⟩
def uW (h:List UInt32) (p:List UInt8) (n:Nat):St:=⟨aR [(0,.w (.c (.d (.sl ((cu h p n).map wD))))),(7,.w (.c (.d (.sl (ce.map wD))))),(8,.w (.c (.own 1 1 0 p.length))),(9,.w (.c (.d (.int .i64 ((64*n:Nat):Int)))))],hL [(1,.row 1 (p.map bD))],uL [1]⟩
def uX (ws:List UInt32) (k:Nat):St:=⟨aR [(0,.w (.c (.d (.sl (ws.map wD))))),(10,.w (.c (.own 1 1 0 (d8 (ws.take k)).length))),(11,.w (.c (.d (.int .i64 (k:Int)))))],hL [(1,.row 1 ((d8 (ws.take k)).map bD))],uL [1]⟩
theorem OH {ws:List UInt32} {k:Nat} (h:k<ws.length):(ws.map wD)[k]?=some (wD (ws.getD k 0)):=by
  simp[h]
theorem P0:D.int .u8 0=bD 0:=rfl
theorem Mn:D.int .u8 128=bD 128:=rfl
theorem FS (l:List UInt8) (a:UInt8):l.map bD++[bD a]=(l++[a]).map bD:=by simp
def rI:aI := .seq (.seq (.reg [oM 18 8,oO 19 (.len (.t 18)),oO 20 (.bin .rem (.t 19) (kI 64)),oO 21 (.bin .neq (.t 20) (kI 56))]) (.cond (.t 21) (.skip) (.exit 0))) (.block 1 (.reg [oM 22 8,oO 23 (.bldSl false 1 1 (.int .u8 0) [(0,(.k (.c (.d (.int .u8 0)))))]),oO 24 (.app false 1 1 (.t 22) (.t 23)),oM 8 24]))
def rJ:aI := .seq (.seq (.reg [oM 31 9,oM 32 8,oO 33 (.len (.t 32)),oO 34 (.bin .lss (.t 31) (.t 33))]) (.cond (.t 34) (.skip) (.exit 2))) (.seq (.block 3 (.reg [oM 37 0,oM 38 7,oM 39 8,oM 40 9,oM 41 9,oO 42 (.bin .add (.t 41) (kI 64)),oO 43 (.slice 1 (.t 39) (some (.t 40)) (some (.t 42)) none),oO 44 (.call 44 [(.t 37),(.t 38),(.t 43)] none),oM 0 44])) (.reg [oM 35 9,oO 36 (.bin .add (.t 35) (kI 64)),oM 9 36]))
def rK:aI := .seq (.seq (.reg [oM 46 11,oO 47 (.bin .lss (.t 46) (kI 8))]) (.cond (.t 47) (.skip) (.exit 4))) (.seq (.block 5 (.reg [oM 50 10,oM 51 0,oM 52 11,oO 53 (.idxSl 1 (.t 51) (.t 52)),oO 54 (.load .sc (.t 53)),oO 55 (.conv .u64 (.t 54)),oO 56 (.call 26 [(.t 55),(kI 4)] none),oO 57 (.app false 1 1 (.t 50) (.t 56)),oM 10 57])) (.reg [oM 48 11,oO 49 (.bin .add (.t 48) (kI 1)),oM 11 49]))
def CB:aE:=⟨3,59,.seq (.reg [oO 6 (.mv (.k (.c .nil)))]) (.seq (.reg [oO 12 (.call 43 [] none),oM 7 12]) (.seq (.reg [oM 13 1,oO 14 (.bldSl false 1 1 (.sl []) [(0,(.t 13))]),oO 15 (.call 25 [(.t 14)] (some (0,1))),oO 16 (.bldSl false 1 1 (.int .u8 0) [(0,(.k (.c (.d (.int .u8 128)))))]),oO 17 (.app false 1 1 (.t 15) (.t 16)),oM 8 17]) (.seq (.block 0 (.loop rI)) (.seq (.reg [oM 25 8,oM 26 2,oO 27 (.conv .u64 (.t 26)),oO 28 (.bin .mul (.t 27) (.k (.c (.d (.int .u64 8))))),oO 29 (.call 26 [(.t 28),(kI 8)] none),oO 30 (.app false 1 1 (.t 25) (.t 29)),oM 8 30]) (.seq (.seq (.reg [oO 9 (.mv (kI 0))]) (.block 2 (.loop rJ))) (.seq (.reg [oO 45 (.bldSl true 0 1 (.int .u8 0) []),oM 10 45]) (.seq (.seq (.reg [oO 11 (.mv (kI 0))]) (.block 4 (.loop rK))) (.seq (.reg [oM 58 10,
 oM 6 58]) (.ret))))))))),[(6,none)]⟩
theorem Mo:aD Try.prog { own:=[15,45],comp:=[],frz:=[],nils:=[] } Try.f45=some CB:=by kernel_rfl
theorem OI (G:ak) (s:List UInt32) (rest:List UInt8) (count:Nat) (hs:s.length=8) (hr:rest.length<64) (hc:count≤140737488355328):ar Try.prog G 45 [.sl (s.map wD),.sl (rest.map bD),.int .i64 (count:Int)] (.w (.c (.fr 1 ((js s rest count).map bD)))):=by
  refine aF Try.func45 Mo rfl rfl ?_;have hj:=BJ G [rest] (by simp) (by simp; omega);have hf:[rest].flatten=rest:=by simp
  rw[hf] at hj;obtain⟨hp1,hp2⟩:=Ks rest count hr;simp only[CB,aj,ae,aa,seval,iteOmega,toNatUp];refine bF (ER G) rfl (.inl rfl) ?_;simp only[ae,aa,seval,iteOmega,toNatUp];refine bF hj rfl (.inl rfl) ?_;simp only[ae,aa,seval,iteOmega,toNatUp,bT,Mn,FS];refine bi (uV s rest count) (fun j=>(119-rest.length)%64-j) (fun j=>j≤(119-rest.length)%64) 0 (Q8 _) ?_ ?_
  ·refine aC (fun _=>136) ?_ ?_ rfl rfl <;> simp only[wx,aA,aJ,aa,seval,iteOmega,toNatUp]
  ·intro j hj;have hl:(rest++[128]++List.replicate j 0).length=rest.length+1+j:=by simp; omega
   have ht:((rest++[128]++List.replicate j 0).length:Int).tmod 64=(((rest.length+1+j)%64:Nat):Int):=by rw[hl]; rfl
   by_cases hlt:j<(119-rest.length)%64
   ·have e1:rest++[128]++List.replicate j 0++[0]=rest++[128]++List.replicate (j+1) 0:=by
      rw[RY,Kt]
    generalize hx:rest++[128]++List.replicate j 0=x at *
    simp only[rI,uV,hx,ae,aa,seval,iteOmega,toNatUp,ht,bT,P0,FS,e1];refine aZ (j+1) (by omega) (by omega) (aC (fun _=>192) ?_ ?_ rfl rfl) <;> simp only[wx,aA,aJ,aa,seval,iteOmega,toNatUp]
   ·obtain rfl:j=(119-rest.length)%64:=by omega
    generalize hx:rest++[128]++List.replicate ((119-rest.length)%64) 0=x at *
    simp only[rI,uV,hx,ae,aa,seval,iteOmega,toNatUp,ht];refine bF (ou G (count*8) 8 (by decide)) ?_ (.inl rfl) ?_
    ·simp only[ae,aa,seval,iteOmega,toNatUp]
    have hx2:x++au (count*8) 8=fo rest count:=by rw[← hx]; rfl
    simp only[ae,aa,seval,iteOmega,toNatUp,bT,ie,hx2,cR];refine bi (uW s (fo rest count)) (fun n=>(fo rest count).length / 64-n) (fun n=>n≤(fo rest count).length / 64) 0 (Q8 _) ?_ ?_
    ·refine aC (fun _=>240) ?_ ?_ rfl rfl <;> simp only[wx,aA,aJ,aa,seval,iteOmega,toNatUp,cu]
    ·generalize hpk:fo rest count=p at *
     intro n hn;have hl8:=nG hs p n;by_cases hlt:n<p.length / 64
     ·have h2:((p.drop (64*n)).take 64).length=64:=by rw[QY,Q4]; omega
      have e1:64*n+64-64*n=64:=by omega
      simp only[rJ,uW,ae,aa,seval,iteOmega,toNatUp];refine bF (Aq G (cu s p n) ((p.drop (64*n)).take 64) hl8 h2) ?_ (.inr (Qu _ _)) ?_
      ·simp only[ae,aa,seval,iteOmega,toNatUp,cv,e1]
      simp only[ae,aa,seval,iteOmega,toNatUp];have e2:64*(n:Int)+64=64*((n:Int)+1):=by omega
      refine aZ (n+1) (by omega) (by omega) (aC id ?_ ?_ rfl rfl) <;> simp only[wx,aA,aJ,aa,seval,iteOmega,toNatUp,cu,e2]
     ·obtain rfl:n=p.length / 64:=by omega
      have hfk:js s rest count=d8 (cu s p (p.length / 64)):=by unfold js; rw[hpk]
      rw[hfk];simp only[uW];generalize cu s p (p.length / 64)=ws at hl8;have h64:¬ ((64*(p.length / 64):Nat):Int)<(p.length:Int):=by omega
      simp only[rJ,ae,aa,seval,iteOmega,toNatUp,h64];refine bi (uX ws) (fun k=>8-k) (fun k=>k≤8) 0 (Q8 _) ?_ ?_
      ·refine aC (fun _=>360) ?_ ?_ rfl rfl <;> simp only[wx,aA,aJ,aa,seval,iteOmega,toNatUp,d8]
      ·intro k hk;by_cases hlt:k<8
       ·have hw1:(ws.getD k 0).toNat<4294967296:=word_lt _;have hwl:=q7 (ws.take k);rw[QY] at hwl;simp only[rK,uX,ae,aa,seval,iteOmega,toNatUp,OH (show k<ws.length by omega)];refine bF (ou G (ws.getD k 0).toNat 4 (by decide)) ?_ (.inl rfl) ?_
        ·simp only[ae,aa,seval,iteOmega,toNatUp]
        simp only[ae,aa,seval,iteOmega,toNatUp,bT,G4 ws k (by omega),cR];refine aZ (k+1) (by omega) (by omega) (aC (fun _=>456) ?_ ?_ rfl rfl) <;> simp only[wx,aA,aJ,aa,seval,iteOmega,toNatUp]
       ·obtain rfl:k=8:=by omega
        have:ws.take 8=ws:=QZ (by omega);simp only[rK,uX,ae,aa,seval,iteOmega,toNatUp,this];exact d6 (id:=1) (n:=(d8 ws).length) (s:=1) (by simp only[wx,aa,seval,iteOmega,toNatUp]) (by simp only[wx,aa,seval,iteOmega,toNatUp]) (by rw[Q7])
def vx (b:List UInt8) (n:Nat):St:=⟨aR [(0,.w (.c (.d (.sl (b.map bD))))),(3,.w (.c (.d (.sl ((cu e9 b n).map wD))))),(4,.w (.c (.d (.sl (ce.map wD))))),(5,.w (.c (.d (.int .i64 ((64*(b.length / 64):Nat):Int))))),(6,.w (.c (.d (.int .i64 ((64*n:Nat):Int)))))],hL [],uL []⟩
def rL:aI := .seq (.seq (.reg [oM 13 6,oM 14 5,oO 15 (.bin .lss (.t 13) (.t 14))]) (.cond (.t 15) (.skip) (.exit 0))) (.seq (.block 1 (.reg [oM 18 3,oM 19 4,oM 20 0,oM 21 6,oM 22 6,oO 23 (.bin .add (.t 22) (kI 64)),oO 24 (.slice 1 (.t 20) (some (.t 21)) (some (.t 23)) none),oO 25 (.call 44 [(.t 18),(.t 19),(.t 24)] none),oM 3 25])) (.reg [oM 16 6,oO 17 (.bin .add (.t 16) (kI 64)),oM 6 17]))
def CC:aE:=⟨1,33,.seq (.reg [oO 2 (.mv (.k (.c .nil)))]) (.seq (.reg [oO 7 (.call 42 [] none),oO 8 (.call 43 [] none),oM 3 7,oM 4 8]) (.seq (.reg [oM 9 0,oO 10 (.len (.t 9)),oO 11 (.bin .quo (.t 10) (kI 64)),oO 12 (.bin .mul (.t 11) (kI 64)),oM 5 12]) (.seq (.seq (.reg [oO 6 (.mv (kI 0))]) (.block 0 (.loop rL))) (.seq (.reg [oM 26 3,oM 27 0,oM 28 5,oO 29 (.slice 1 (.t 27) (some (.t 28)) none none),oM 30 0,oO 31 (.len (.t 30)),oO 32 (.call 45 [(.t 26),(.t 29),(.t 31)] (some (0,1))),oM 2 32]) (.ret))))),[(2,none)]⟩
theorem Mq:aD Try.prog { own:=[32],comp:=[],frz:=[],nils:=[] } Try.f24=some CC:=by kernel_rfl
theorem OJ (G:ak) (b:List UInt8) (hb:b.length≤140737488355328):ar Try.prog G 24 [.sl (b.map bD)] (.w (.c (.fr 1 ((j5 b).map bD)))):=by
  refine aF Try.func24 Mq rfl rfl ?_;have e1:(b.length:Int).tdiv 64=((b.length / 64:Nat):Int):=rfl;have e2:((b.length / 64:Nat):Int)*64=((64*(b.length / 64):Nat):Int):=by omega
  have e3:IntKind.i64.wrap ((64*(b.length / 64):Nat):Int)=((64*(b.length / 64):Nat):Int):=IntWalk.i64_in _ (by omega);have e4:IntKind.i64.wrap ((b.length / 64:Nat):Int)=((b.length / 64:Nat):Int):=IntWalk.i64_in _ (by omega);simp only[CC,aj,wx,wy,aa,seval,iteOmega,toNatUp];refine bF (Ow G) rfl (.inl rfl) ?_;simp only[wx,wy,aa,seval,iteOmega,toNatUp];refine bF (ER G) rfl (.inl rfl) ?_;simp only[wx,wy,aa,seval,iteOmega,toNatUp,e1,e2,e3,e4];refine bi (vx b) (fun n=>b.length / 64-n) (fun n=>n≤b.length / 64) 0 (Q8 _) ?_ ?_
  ·refine aC id ?_ ?_ rfl rfl <;> simp only[wx,aA,aa,seval,iteOmega,toNatUp,cu]
  ·intro n hn;have hl8:=nG wX b n;by_cases hlt:n<b.length / 64
   ·have h2:((b.drop (64*n)).take 64).length=64:=by rw[QY,Q4]; omega
    have e1:64*n+64-64*n=64:=by omega
    have e5:IntKind.i64.wrap (((64*n:Nat):Int)+64)=((64*(n+1):Nat):Int):=by rw[IntWalk.i64_in _ (by omega)]; omega
    have e6:64*(n+1)-64*n=64:=by omega
    simp only[rL,vx,wx,wy,aa,seval,iteOmega,toNatUp,e1,e5,e6];refine bF (Aq G (cu e9 b n) ((b.drop (64*n)).take 64) hl8 h2) ?_ (.inl rfl) ?_
    ·simp only[wx,wy,aa,seval,iteOmega,toNatUp]
    simp only[wx,wy,aa,seval,iteOmega,toNatUp,e5];refine aZ (n+1) (by omega) (by omega) (aC id ?_ ?_ rfl rfl) <;> simp only[wx,aA,aa,seval,iteOmega,toNatUp,cu]
   ·obtain rfl:n=b.length / 64:=by omega
    have e1:List.take (b.length-64*(b.length / 64)) (b.drop (64*(b.length / 64)))=b.drop (64*(b.length / 64)):=QZ (by rw[Q4]; exact Q5 _);simp only[rL,vx,wx,wy,aa,seval,iteOmega,toNatUp,e1];refine bF (OI G (cu e9 b (b.length / 64)) (b.drop (64*(b.length / 64))) b.length hl8 (by rw[Q4]; omega) hb) ?_ (.inl rfl) ?_
    ·simp only[wx,wy,aa,seval,iteOmega,toNatUp]
    simp only[wx,wy,aa,seval,iteOmega,toNatUp];exact d6 (id:=256) (n:=(js (cu e9 b (b.length / 64)) (b.drop (64*(b.length / 64))) b.length).length) (s:=1) (by simp only[wx,aa,seval,iteOmega,toNatUp]) (by simp only[wx,aa,seval,iteOmega,toNatUp] <;> rfl) (by rw[Q7]; rfl)

def ij (v m:Int):Int:=if m<1 then 0 else v%m
theorem nc (v m:Int) (h:1≤m):0≤ij v m∧ij v m<m:=by
  unfold ij;rw[if_neg (by omega)];exact⟨Int.emod_nonneg _ (by omega),Int.emod_lt_of_pos _ (by omega)⟩
theorem Ku {v m:Int} (hm:0<m) (h:v.tmod m<0):v.tmod m+m=v%m:=by
  have h1:=Int.emod_add_mul_ediv v m;have h2:=Int.tmod_add_mul_tdiv v m;have h3:=Int.emod_nonneg v (show m≠0 by omega);have h4:=Int.emod_lt_of_pos v hm;have h5:=Int.lt_tmod_of_pos v hm;have e:m*(v.tdiv m-v / m)=v%m-v.tmod m:=by rw[Int.mul_sub]; omega
  have k1:v.tdiv m-v / m=1:=by
    rcases Int.lt_trichotomy (v.tdiv m-v / m) 1 with hlt | heq | hgt
    ·exfalso;have:v.tdiv m-v / m≤0:=by omega
     have:=Sy this (show 0≤m by omega);omega
    ·exact heq
    ·exfalso;have:2≤v.tdiv m-v / m:=by omega
     have:=Sy this (show 0≤m by omega);omega
  rw[k1] at e;omega
theorem Kv {v m:Int} (hm:0<m) (h:0≤v.tmod m):v.tmod m=v%m:=by
  have h1:=Int.emod_add_mul_ediv v m;have h2:=Int.tmod_add_mul_tdiv v m;have h3:=Int.emod_nonneg v (show m≠0 by omega);have h4:=Int.emod_lt_of_pos v hm;have h5:=Int.tmod_lt_of_pos v hm;have e:m*(v.tdiv m-v / m)=v%m-v.tmod m:=by rw[Int.mul_sub]; omega
  have k1:v.tdiv m-v / m=0:=by
    rcases Int.lt_trichotomy (v.tdiv m-v / m) 0 with hlt | heq | hgt
    ·exfalso;have:v.tdiv m-v / m ≤ -1:=by omega
     have:=Sy this (show 0≤m by omega);omega
    ·exact heq
    ·exfalso;have:1≤v.tdiv m-v / m:=by omega
     have:=Sy this (show 0≤m by omega);omega
  rw[k1] at e;omega
def nH:aE:=⟨2,16,.seq (.reg [oO 4 (.mv (kI 0))]) (.seq (.seq (.reg [oM 5 1,oO 6 (.bin .lss (.t 5) (kI 1))]) (.cond (.t 6) (.seq (.reg [oO 4 (.mv (kI 0))]) (.ret)) (.skip))) (.seq (.reg [oM 7 0,oM 8 1,oO 9 (.bin .rem (.t 7) (.t 8)),oM 0 9]) (.seq (.seq (.reg [oM 10 0,oO 11 (.bin .lss (.t 10) (kI 0))]) (.cond (.t 11) (.reg [oM 12 0,oM 13 1,oO 14 (.bin .add (.t 12) (.t 13)),oM 0 14]) (.skip))) (.seq (.reg [oM 15 0,oM 4 15]) (.ret))))),[(4,none)]⟩
theorem IH:aD Try.prog { own:=[],comp:=[],frz:=[],nils:=[] } Try.f8=some nH:=by kernel_rfl
theorem sJ (G:ak) (v m:Int) (hm:m≤9223372036854775807):ar Try.prog G 8 [.int .i64 v,.int .i64 m] (.w (.c (.d (.int .i64 (ij v m))))):=by
  refine aF Try.func8 IH rfl rfl ?_;unfold ij;by_cases h:m<1
  ·rw[if_pos h];simp only[nH,aj,ae,aa,seval,iteOmega,toNatUp];exact aM
  ·rw[if_neg h];have hne:¬ m=0:=by omega
   have h4:=Int.tmod_lt_of_pos v (show 0<m by omega);by_cases hn:v.tmod m<0
   ·have e:=Ku (by omega) hn;have h3:=Int.emod_lt_of_pos v (show 0<m by omega);have h5:=Int.emod_nonneg v (show m≠0 by omega);simp only[nH,aj,ae,aa,seval,iteOmega,toNatUp,hne];exact mg (by simp only[ae,aa,seval,iteOmega,toNatUp,e])
   ·have e:=Kv (v:=v) (show 0<m by omega) (by omega);simp only[nH,aj,ae,aa,seval,iteOmega,toNatUp,hne];exact mg (by simp only[ae,aa,seval,iteOmega,toNatUp,e])
def jK (s i:Nat):List UInt8:=j5 (au s 8++au i 4)
def ez (s:Nat) (k:Nat):List UInt8:=((List.range k).map (jK s)).flatten
theorem wu (s k:Nat):ez s k++jK s k=ez s (k+1):=by simp[ez,SE]
theorem nn (s:Nat):∀ k,(ez s k).length=32*k
  | 0=>rfl
  | k+1=>by rw[← wu,QV,nn s k]; unfold jK; rw[Ar]; omega
def cz (seed n:Int):List UInt8:=(ez (seed%18446744073709551616).toNat ((n.toNat+31) / 32)).take n.toNat
theorem lQ (seed n:Int):(cz seed n).length=n.toNat:=by
  unfold cz; rw[QY,nn]; omega
def pQ (seed n:Int) (s:Nat) (k:Nat):St:=⟨aR [(0,.w (.c (.d (.int .i64 seed)))),(1,.w (.c (.d (.int .i64 n)))),(5,.w (.c (.own 1 1 0 (ez s k).length))),(6,.w (.c (.d (.int .i64 (k:Int)))))],hL [(1,.row 1 ((ez s k).map bD))],uL [1]⟩
def nj:aI := .seq (.seq (.reg [oM 8 5,oO 9 (.len (.t 8)),oM 10 1,oO 11 (.bin .lss (.t 9) (.t 10))]) (.cond (.t 11) (.skip) (.exit 0))) (.seq (.block 1 (.reg [oM 14 5,oM 15 0,oO 16 (.conv .u64 (.t 15)),oO 17 (.call 26 [(.t 16),(kI 8)] none),oM 18 6,oO 19 (.conv .u64 (.t 18)),oO 20 (.call 26 [(.t 19),(kI 4)] none),oO 21 (.bldSl false 2 1 (.sl []) [(0,(.t 17)),(1,(.t 20))]),oO 22 (.call 25 [(.t 21)] none),oO 23 (.call 24 [(.t 22)] none),oO 24 (.app false 1 1 (.t 14) (.t 23)),oM 5 24])) (.reg [oM 12 6,oO 13 (.bin .add (.t 12) (kI 1)),oM 6 13]))
def yl:aE:=⟨2,29,.seq (.reg [oO 4 (.mv (.k (.c .nil)))]) (.seq (.reg [oO 7 (.bldSl true 0 1 (.int .u8 0) []),oM 5 7]) (.seq (.seq (.reg [oO 6 (.mv (kI 0))]) (.block 0 (.loop nj))) (.seq (.reg [oM 25 5,oM 26 1,oO 27 (.max [(.t 26),(kI 0)]),oO 28 (.slice 1 (.t 25) none (some (.t 27)) none),oM 4 28]) (.ret)))),[(4,none)]⟩
theorem II:aD Try.prog { own:=[7],comp:=[],frz:=[],nils:=[] } Try.f10=some yl:=by kernel_rfl
set_option maxHeartbeats 1600000 in
theorem Kw (G:ak) (seed n:Int) (hn:n≤1099511627776):ar Try.prog G 10 [.int .i64 seed,.int .i64 n] (.w (.c (.fr 1 ((cz seed n).map bD)))):=by
  refine aF Try.func10 II rfl rfl ?_;obtain⟨s,hs⟩:∃ s:Nat,(seed%18446744073709551616).toNat=s:=⟨_,rfl⟩
  have hw:IntKind.u64.wrap seed=(s:Int):=by rw[IntKind.wrap_u64,← hs]; omega
  have hs2:s<18446744073709551616:=by omega
  have hK:cz seed n=(ez s ((n.toNat+31) / 32)).take n.toNat:=by unfold cz; rw[hs]
  rw[hK];simp only[yl,aj,ae,aa,seval,iteOmega,toNatUp];refine bi (pQ seed n s) (fun k=>(n.toNat+31) / 32-k) (fun k=>k≤(n.toNat+31) / 32) 0 (Q8 _) ?_ ?_
  ·refine aC (fun _=>56) ?_ ?_ rfl rfl <;> simp only[wx,aA,aJ,aa,seval,iteOmega,toNatUp] <;> rfl
  ·intro k hk;have hl:=nn s k;by_cases hlt:k<(n.toNat+31) / 32
   ·have hc:((ez s k).length:Int)<n:=by omega
    have hj:=BJ G [au s 8,au k 4] (by simp) (by simp[cR]);have hf:[au s 8,au k 4].flatten=au s 8++au k 4:=by simp
    rw[hf] at hj;have hb:=wu s k;have hk2:IntKind.u64.wrap (k:Int)=(k:Int):=u64_in _ (by omega) (by omega);simp only[nj,pQ,wx,wy,aa,seval,iteOmega,toNatUp,hw,hk2];refine bF (ou G s 8 (by decide)) rfl (.inl rfl) ?_;simp only[wx,wy,aa,seval,iteOmega,toNatUp,hw,hk2];refine bF (ou G k 4 (by decide)) rfl (.inl rfl) ?_;simp only[wx,wy,aa,seval,iteOmega,toNatUp];refine bF hj rfl (.inl rfl) ?_;simp only[wx,wy,aa,seval,iteOmega,toNatUp];refine bF (OJ G (au s 8++au k 4) (by simp[cR])) rfl (.inl rfl) ?_;have hh:(j5 (au s 8++au k 4)).length=32:=Ar _;have hb':ez s k++j5 (au s 8++au k 4)=ez s (k+1):=hb;simp only[ae,aa,seval,iteOmega,toNatUp,bT,ie,hb',hh];refine aZ (k+1) (by omega) (by omega) (aC (fun _=>192) ?_ ?_ rfl rfl) <;> simp only[wx,aA,aJ,aa,seval,iteOmega,toNatUp]
   ·obtain rfl:k=(n.toNat+31) / 32:=by omega
    have hc:¬ ((ez s ((n.toNat+31) / 32)).length:Int)<n:=by omega
    by_cases h0:n<0
    ·have e0:n.toNat=0:=by omega
     simp only[nj,pQ,ae,aa,seval,iteOmega,toNatUp,hc,R1,SA];rw[e0,List.map_take];exact zQ (id:=1) (s:=1) (by simp only[wx,aa,seval,iteOmega,toNatUp]) (by simp only[wx,aa,seval,iteOmega,toNatUp]) (Q8 _)
    ·simp only[nj,pQ,ae,aa,seval,iteOmega,toNatUp,hc,R1,SA];rw[List.map_take];exact zQ (id:=1) (s:=1) (by simp only[wx,aa,seval,iteOmega,toNatUp]) (by simp only[wx,aa,seval,iteOmega,toNatUp]) (by rw[Q7,nn]; omega)
theorem sK (G:ak) (seed n:Int) (hn:n≤1099511627776):ar Try.prog G 10 [.int .i64 seed,.int .i64 n] (.w (.c (.d (.sl ((cz seed n).map bD))))):=jG (Kw G seed n hn)
def pk (f:Nat→Nat):Nat→Nat
  | 0=>0
  | L+1=>2^(64*L)*f L+pk f L
theorem FU {f:Nat→Nat} (hf:∀ s,f s<2^64):∀ L,pk f L<2^(64*L)
  | 0=>by simp[pk]
  | L+1=>by
    have ih:=FU hf L;have h:=hf L;have e:2^(64*(L+1))=2^(64*L)*2^64:=by rw[← Nat.pow_add]; congr 1
    have:2^(64*L)*f L+2^(64*L)≤2^(64*L)*2^64:=by
      rw[← Nat.mul_succ]; exact Nat.mul_le_mul_left _ h
    rw[pk,e]; omega
theorem eA {f:Nat→Nat} (hf:∀ s,f s<2^64):∀ (L j:Nat),(pk f L).testBit j=(decide (j / 64<L)&&(f (j / 64)).testBit (j%64))
  | 0,j=>by simp[pk]
  | L+1,j=>by
    rw[pk,Nat.testBit_two_pow_mul_add _ (FU hf L)];by_cases h:j<64*L
    ·rw[if_pos h,eA hf L j];rw[decide_eq_true (show j / 64<L by omega),decide_eq_true (show j / 64<L+1 by omega)]
    ·rw[if_neg h];by_cases h2:j / 64=L
     ·rw[h2,decide_eq_true (Nat.lt_succ_self L),SG]
      congr 1; omega
     ·rw[decide_eq_false (show ¬ j / 64<L+1 by omega),Bool.false_and];refine Nat.testBit_lt_two_pow (Nat.lt_of_lt_of_le (hf L) (Nat.pow_le_pow_right (by decide) (by omega)))
theorem dD {f g:Nat→Nat}:∀ {L:Nat},(∀ s,s<L→f s=g s)→pk f L=pk g L
  | 0,_=>rfl
  | L+1,h=>by rw[pk,pk,h L (Nat.lt_succ_self L),dD fun s hs=>h s (by omega)]
theorem eC (f g:Nat→Nat):∀ L,Nat.add (pk f L) (pk g L)=pk (fun s=>Nat.add (f s) (g s)) L
  | 0=>rfl
  | L+1=>by
    have ih:=eC f g L
    show (2^(64*L)*f L+pk f L)+(2^(64*L)*g L+pk g L)=2^(64*L)*(f L+g L)+pk _ L
    rw[← ih,Nat.mul_add]
    show _=_+(pk f L+pk g L)
    omega
theorem um (f:Nat→Nat) (c:Nat):∀ L,Nat.mul (pk f L) c=pk (fun s=>Nat.mul (f s) c) L
  | 0=>Ss c
  | L+1=>by
    have ih:=um f c L
    show (2^(64*L)*f L+pk f L)*c=2^(64*L)*(f L*c)+pk _ L
    rw[← ih,Rq,Nat.mul_assoc]; rfl
theorem oI (f:Nat→Nat) (c L:Nat):Nat.mul c (pk f L)=pk (fun s=>Nat.mul c (f s)) L:=by
  show c*pk f L=_
  rw[SC];refine (um f c L).trans (dD fun s _=>SC _ _)
theorem sL {a b:Nat} (ha:a<2^64) (hb:b<2^64):Nat.xor a b<2^64:=Nat.xor_lt_two_pow ha hb
theorem nZ {a b:Nat} (ha:a<2^64):Nat.land a b<2^64:=Sc Nat.and_le_left ha
theorem ml {f g:Nat→Nat} (hf:∀ s,f s<2^64) (hg:∀ s,g s<2^64) (L:Nat):Nat.xor (pk f L) (pk g L)=pk (fun s=>Nat.xor (f s) (g s)) L:=by
  show pk f L ^^^ pk g L=_
  refine Nat.eq_of_testBit_eq fun j=>?_
  rw[RH,eA hf,eA hg,eA (fun s=>sL (hf s) (hg s))]
  show _=(_&&(f (j / 64) ^^^ g (j / 64)).testBit _)
  rw[RH];cases decide (j / 64<L) <;> simp
theorem pd {f g:Nat→Nat} (hf:∀ s,f s<2^64) (hg:∀ s,g s<2^64) (L:Nat):Nat.land (pk f L) (pk g L)=pk (fun s=>Nat.land (f s) (g s)) L:=by
  show pk f L &&& pk g L=_
  refine Nat.eq_of_testBit_eq fun j=>?_
  rw[Nat.testBit_and,eA hf,eA hg,eA (fun s=>nZ (hf s))]
  show _=(_&&(f (j / 64) &&& g (j / 64)).testBit _)
  rw[Nat.testBit_and];cases decide (j / 64<L) <;> simp
def fT:Nat:=4294967295
theorem l9 (j:Nat):fT.testBit j=decide (j<32):=Nat.testBit_two_pow_sub_one 32 j
theorem m64 (s:Nat):(fun _:Nat=>fT) s<2^64:=by show fT<_; decide
def jw (m x y:Nat) (a b c:Nat):Nat:=Nat.land (Nat.xor (Nat.xor (Nat.shiftRight x a) (Nat.shiftRight x b)) (Nat.shiftRight y c)) m
theorem kS (m x y a b c j:Nat):(jw m x y a b c).testBit j=((((x.testBit (a+j)) ^^ (x.testBit (b+j))) ^^ (y.testBit (c+j)))&&m.testBit j):=by
  show (((x >>> a ^^^ x >>> b) ^^^ y >>> c) &&& m).testBit j=_
  simp only[Nat.testBit_and,RH,Nat.testBit_shiftRight]
theorem mm (x y a b c:Nat):jw fT x y a b c<2^32:=Sc Nat.and_le_right (by decide)
theorem pf {f g:Nat→Nat} (hf:∀ s,f s<2^64) (hg:∀ s,g s<2^64) {a b c:Nat} (ha:a≤32) (hb:b≤32) (hc:c≤32) (L:Nat):jw (pk (fun _=>fT) L) (pk f L) (pk g L) a b c=pk (fun s=>jw fT (f s) (g s) a b c) L:=by
  refine Nat.eq_of_testBit_eq fun j=>?_
  rw[kS,eA hf,eA hf,eA hg,eA m64,eA (fun s=>Nat.lt_trans (mm _ _ _ _ _) (by decide)),kS,l9];by_cases h:j%64<32
  ·rw[show (a+j) / 64=j / 64 by omega,show (b+j) / 64=j / 64 by omega,show (c+j) / 64=j / 64 by omega,show (a+j)%64=a+j%64 by omega,show (b+j)%64=b+j%64 by omega,show (c+j)%64=c+j%64 by omega];cases decide (j / 64<L) <;> simp
  ·rw[decide_eq_false h]; simp
def fM (x:Nat):Nat:=Nat.mul x 4294967297
def m6 (m x:Nat):Nat:=jw m (fM x) (fM x) 6 11 25
def m7 (m x:Nat):Nat:=jw m (fM x) (fM x) 2 13 22
def m9 (m x:Nat):Nat:=jw m (fM x) x 7 18 3
def na (m x:Nat):Nat:=jw m (fM x) x 17 19 10
def qA (e f g:Nat):Nat:=Nat.xor g (Nat.land e (Nat.xor f g))
def qB (a b c:Nat):Nat:=Nat.xor (Nat.land a (Nat.xor b c)) (Nat.land b c)
theorem Mr {x:Nat} (hx:x<2^32) (j:Nat):(fM x).testBit j=if j<32 then x.testBit j else x.testBit (j-32):=by
  have e:fM x=2^32*x+x:=by show x*4294967297=_; omega
  rw[e,Nat.testBit_two_pow_mul_add _ hx]
theorem uo {x:Nat} (hx:x<2^32) {j:Nat} (h:32≤j):x.testBit j=false:=Nat.testBit_lt_two_pow (Nat.lt_of_lt_of_le hx (Nat.pow_le_pow_right (by decide) h))
theorem gI (x:UInt32) {r:Nat} (h0:0<r) (h:r<32) {j:Nat} (hj:j<32):(fg x r).toNat.testBit j=(fM x.toNat).testBit (r+j):=by
  have hx:x.toNat<2^32:=x.toNat_lt;rw[Mr hx];unfold fg iV iF gT;rw[UInt32.toNat_or,UInt32.toNat_ofNat',UInt32.toNat_ofNat',Nat.testBit_or,Nat.testBit_mod_two_pow,Nat.testBit_mod_two_pow,decide_eq_true hj,SG,SG,Nat.testBit_div_two_pow,SC,Nat.testBit_two_pow_mul];by_cases hr:r+j<32
  ·rw[if_pos hr,decide_eq_false (show ¬ j≥32-r by omega),Nat.add_comm]; simp
  ·rw[if_neg hr,decide_eq_true (show j≥32-r by omega),SG,uo hx (by omega),Bool.false_or]
   congr 1; omega
theorem CF (x:UInt32) {r j:Nat} (hj:j<32):(iF x r).toNat.testBit j=x.toNat.testBit (r+j):=by
  unfold iF;rw[UInt32.toNat_ofNat',Nat.testBit_mod_two_pow,decide_eq_true hj,SG,Nat.testBit_div_two_pow,Nat.add_comm]
theorem k7 {x:Nat} {y:UInt32} (h:∀ j,j<32→x.testBit j=y.toNat.testBit j) (hx:x<2^32):x=y.toNat:=by
  refine Nat.eq_of_testBit_eq fun j=>?_
  by_cases hj:j<32
  ·exact h j hj
  ·rw[uo hx (by omega),uo y.toNat_lt (by omega)]
theorem P4 (x:UInt32):m6 fT x.toNat=(gY x).toNat:=by
  refine k7 (fun j hj=>?_) (mm _ _ _ _ _);unfold m6 gY cU;rw[kS,UInt32.toNat_xor,UInt32.toNat_xor,RH,RH,gI x (by decide) (by decide) hj,gI x (by decide) (by decide) hj,gI x (by decide) (by decide) hj,l9,decide_eq_true hj,Sf]
theorem P5 (x:UInt32):m7 fT x.toNat=(iO x).toNat:=by
  refine k7 (fun j hj=>?_) (mm _ _ _ _ _);unfold m7 iO cU;rw[kS,UInt32.toNat_xor,UInt32.toNat_xor,RH,RH,gI x (by decide) (by decide) hj,gI x (by decide) (by decide) hj,gI x (by decide) (by decide) hj,l9,decide_eq_true hj,Sf]
theorem P6 (x:UInt32):m9 fT x.toNat=(im x).toNat:=by
  refine k7 (fun j hj=>?_) (mm _ _ _ _ _);unfold m9 im cU;rw[kS,UInt32.toNat_xor,UInt32.toNat_xor,RH,RH,gI x (by decide) (by decide) hj,gI x (by decide) (by decide) hj,CF x hj,l9,decide_eq_true hj,Sf]
theorem P7 (x:UInt32):na fT x.toNat=(ip x).toNat:=by
  refine k7 (fun j hj=>?_) (mm _ _ _ _ _);unfold na ip cU;rw[kS,UInt32.toNat_xor,UInt32.toNat_xor,RH,RH,gI x (by decide) (by decide) hj,gI x (by decide) (by decide) hj,CF x hj,l9,decide_eq_true hj,Sf]
theorem Ms (x:UInt32) {j:Nat} (hj:j<32):(lB x).toNat.testBit j=!x.toNat.testBit j:=by
  have h:=x.toNat_lt;unfold lB;rw[UInt32.toNat_ofNat_of_lt' (by simp[UInt32.size]; omega),show 4294967295-x.toNat=2^32-(x.toNat+1) by omega,Nat.testBit_two_pow_sub_succ h,decide_eq_true hj,SG]
theorem P8 (e f g:UInt32):qA e.toNat f.toNat g.toNat=(hY e f g).toNat:=by
  have he:e.toNat<2^32:=e.toNat_lt;have hf:f.toNat<2^32:=f.toNat_lt;have hg:g.toNat<2^32:=g.toNat_lt;refine k7 (fun j hj=>?_) (Nat.xor_lt_two_pow hg (Sc Nat.and_le_left he))
  show (g.toNat ^^^ (e.toNat &&& (f.toNat ^^^ g.toNat))).testBit j=_
  unfold hY cU gS;rw[UInt32.toNat_xor,UInt32.toNat_and,UInt32.toNat_and];simp only[RH,Nat.testBit_and,Ms e hj];cases e.toNat.testBit j <;> cases f.toNat.testBit j <;> cases g.toNat.testBit j <;> rfl
theorem P9 (a b c:UInt32):qB a.toNat b.toNat c.toNat=(iP a b c).toNat:=by
  have ha:a.toNat<2^32:=a.toNat_lt;have hb:b.toNat<2^32:=b.toNat_lt;refine k7 (fun j hj=>?_) (Nat.xor_lt_two_pow (Sc Nat.and_le_left ha) (Sc Nat.and_le_left hb))
  show ((a.toNat &&& (b.toNat ^^^ c.toNat)) ^^^ (b.toNat &&& c.toNat)).testBit j=_
  unfold iP cU gS;simp only[UInt32.toNat_xor,UInt32.toNat_and,RH,Nat.testBit_and];cases a.toNat.testBit j <;> cases b.toNat.testBit j <;> cases c.toNat.testBit j <;> rfl
structure E8 where
  (a b c d e f g h:Nat)
def kN:List Nat:=[0x428a2f98,0x71374491,0xb5c0fbcf,0xe9b5dba5,0x3956c25b,0x59f111f1,0x923f82a4,0xab1c5ed5,0xd807aa98,0x12835b01,0x243185be,0x550c7dc3,0x72be5d74,0x80deb1fe,0x9bdc06a7,0xc19bf174,0xe49b69c1,0xefbe4786,0x0fc19dc6,0x240ca1cc,0x2de92c6f,0x4a7484aa,0x5cb0a9dc,0x76f988da,0x983e5152,0xa831c66d,0xb00327c8,0xbf597fc7,0xc6e00bf3,0xd5a79147,0x06ca6351,0x14292967,0x27b70a85,0x2e1b2138,0x4d2c6dfc,0x53380d13,0x650a7354,0x766a0abb,0x81c2c92e,0x92722c85,0xa2bfe8a1,0xa81a664b,0xc24b8b70,0xc76c51a3,0xd192e819,0xd6990624,0xf40e3585,0x106aa070,0x19a4c116,0x1e376c08,0x2748774c,0x34b0bcb5,0x391c0cb3,0x4ed8aa4a,0x5b9cca4f,0x682e6ff3,0x748f82ee,0x78a5636f,0x84c87814,0x8cc70208,0x90befffa,0xa4506ceb,0xbef9a3f7,0xc67178f2]
theorem Qa:kN=ce.map UInt32.toNat:=by decide
noncomputable def mM (T:Nat→Nat→Nat→Nat→Nat→Nat→Nat) (A:Nat→Nat→Nat→Nat→Nat) (E:Nat→Nat→Nat) (N:Nat→Nat→Nat→Nat→Nat) (ks:List Nat):Nat→Nat→Nat→Nat→Nat→Nat→Nat→Nat→Nat→Nat→Nat→Nat→Nat→Nat→Nat→Nat→Nat→Nat→Nat→Nat→Nat→Nat→Nat→Nat→E8 :=
  @List.rec Nat (fun _=>Nat→Nat→Nat→Nat→Nat→Nat→Nat→Nat→Nat→Nat→Nat→Nat→Nat→Nat→Nat→Nat→Nat→Nat→Nat→Nat→Nat→Nat→Nat→Nat→E8)
    (fun a b c d e f g h _ _ _ _ _ _ _ _ _ _ _ _ _ _ _ _=>E8.mk a b c d e f g h)
    (fun k _ ih a b c d e f g h w0 w1 w2 w3 w4 w5 w6 w7 w8 w9 w10 w11 w12 w13 w14 w15=>(fun t1=>ih (A t1 a b c) a b c (E d t1) e f g w1 w2 w3 w4 w5 w6 w7 w8 w9 w10 w11 w12 w13 w14 w15 (N w0 w1 w9 w14)) (T k h w0 e f g)) ks
section
variable (T:Nat→Nat→Nat→Nat→Nat→Nat→Nat) (A:Nat→Nat→Nat→Nat→Nat) (E:Nat→Nat→Nat) (N:Nat→Nat→Nat→Nat→Nat) (a b c d e f g h w0 w1 w2 w3 w4 w5 w6 w7 w8 w9 w10 w11 w12 w13 w14 w15:Nat)
theorem IK (k:Nat) (ks:List Nat):mM T A E N (k::ks) a b c d e f g h w0 w1 w2 w3 w4 w5 w6 w7 w8 w9 w10 w11 w12 w13 w14 w15=mM T A E N ks (A (T k h w0 e f g) a b c) a b c (E d (T k h w0 e f g)) e f g w1 w2 w3 w4 w5 w6 w7 w8 w9 w10 w11 w12 w13 w14 w15 (N w0 w1 w9 w14):=rfl
end
def TN (one m k h w e f g:Nat):Nat:=Nat.add (Nat.add h (Nat.add w (Nat.mul k one))) (Nat.add (m6 m e) (qA e f g))
def AN (m t a b c:Nat):Nat:=Nat.land (Nat.add t (Nat.add (m7 m a) (qB a b c))) m
def EN (m d t:Nat):Nat:=Nat.land (Nat.add d t) m
def NN (m w0 w1 w9 w14:Nat):Nat:=Nat.land (Nat.add (Nat.add w0 (m9 m w1)) (Nat.add w9 (na m w14))) m
noncomputable def vy (P:Nat→Nat→Nat) (s t:E8):E8 :=
  E8.rec (fun a b c d e f g h=>E8.rec (fun a' b' c' d' e' f' g' h'=>E8.mk (P a a') (P b b') (P c c') (P d d') (P e e') (P f f') (P g g') (P h h')) t) s
theorem Mt (P:Nat→Nat→Nat) (a b c d e f g h a' b' c' d' e' f' g' h':Nat):vy P (E8.mk a b c d e f g h) (E8.mk a' b' c' d' e' f' g' h')=E8.mk (P a a') (P b b') (P c c') (P d d') (P e e') (P f f') (P g g') (P h h'):=rfl
noncomputable def Gn (T:Nat→Nat→Nat→Nat→Nat→Nat→Nat) (A:Nat→Nat→Nat→Nat→Nat) (E:Nat→Nat→Nat) (N:Nat→Nat→Nat→Nat→Nat) (ks:List Nat) (s:E8) (w0 w1 w2 w3 w4 w5 w6 w7 w8 w9 w10 w11 w12 w13 w14 w15:Nat):E8 :=
  E8.rec (fun a b c d e f g h=>mM T A E N ks a b c d e f g h w0 w1 w2 w3 w4 w5 w6 w7 w8 w9 w10 w11 w12 w13 w14 w15) s
theorem Mu (T:Nat→Nat→Nat→Nat→Nat→Nat→Nat) (A:Nat→Nat→Nat→Nat→Nat) (E:Nat→Nat→Nat) (N:Nat→Nat→Nat→Nat→Nat) (ks:List Nat) (a b c d e f g h w0 w1 w2 w3 w4 w5 w6 w7 w8 w9 w10 w11 w12 w13 w14 w15:Nat):Gn T A E N ks (E8.mk a b c d e f g h) w0 w1 w2 w3 w4 w5 w6 w7 w8 w9 w10 w11 w12 w13 w14 w15=mM T A E N ks a b c d e f g h w0 w1 w2 w3 w4 w5 w6 w7 w8 w9 w10 w11 w12 w13 w14 w15:=rfl
noncomputable def vz (one m:Nat) (s:E8) (w0 w1 w2 w3 w4 w5 w6 w7 w8 w9 w10 w11 w12 w13 w14 w15:Nat):E8:=vy (EN m) s (Gn (TN one m) (AN m) (EN m) (NN m) kN s w0 w1 w2 w3 w4 w5 w6 w7 w8 w9 w10 w11 w12 w13 w14 w15)
def pw (x:Nat→UInt32) (L:Nat):Nat:=pk (fun s=>(x s).toNat) L
abbrev dh (L:Nat):Nat:=pk (fun _=>1) L
abbrev dr (L:Nat):Nat:=pk (fun _=>fT) L
theorem dj (x:UInt32):x.toNat<2^64:=Nat.lt_trans x.toNat_lt (by decide)
theorem lu (x:UInt32):fM x.toNat<2^64:=by
  have:=x.toNat_lt
  show x.toNat*4294967297<_
  omega
theorem pg (x:Nat→UInt32) (L:Nat):fM (pw x L)=pk (fun s=>fM (x s).toNat) L:=um _ _ _
theorem ON (x:Nat→UInt32) (L:Nat):m6 (dr L) (pw x L)=pw (fun s=>gY (x s)) L:=by
  unfold m6;rw[pg,pf (fun s=>lu _) (fun s=>lu _) (by decide) (by decide) (by decide)];exact dD fun s _=>P4 (x s)
theorem OO (x:Nat→UInt32) (L:Nat):m7 (dr L) (pw x L)=pw (fun s=>iO (x s)) L:=by
  unfold m7;rw[pg,pf (fun s=>lu _) (fun s=>lu _) (by decide) (by decide) (by decide)];exact dD fun s _=>P5 (x s)
theorem OP (x:Nat→UInt32) (L:Nat):m9 (dr L) (pw x L)=pw (fun s=>im (x s)) L:=by
  unfold m9;rw[pg];unfold pw;rw[pf (fun s=>lu _) (fun s=>dj _) (by decide) (by decide) (by decide)];exact dD fun s _=>P6 (x s)
theorem OQ (x:Nat→UInt32) (L:Nat):na (dr L) (pw x L)=pw (fun s=>ip (x s)) L:=by
  unfold na;rw[pg];unfold pw;rw[pf (fun s=>lu _) (fun s=>dj _) (by decide) (by decide) (by decide)];exact dD fun s _=>P7 (x s)
theorem OR (e f g:Nat→UInt32) (L:Nat):qA (pw e L) (pw f L) (pw g L)=pw (fun s=>hY (e s) (f s) (g s)) L:=by
  unfold qA pw;rw[ml (fun s=>dj _) (fun s=>dj _),pd (fun s=>dj _) (fun s=>sL (dj _) (dj _)),ml (fun s=>dj _) (fun s=>nZ (dj _))];exact dD fun s _=>P8 (e s) (f s) (g s)
theorem OS (a b c:Nat→UInt32) (L:Nat):qB (pw a L) (pw b L) (pw c L)=pw (fun s=>iP (a s) (b s) (c s)) L:=by
  unfold qB pw;rw[ml (fun s=>dj _) (fun s=>dj _),pd (fun s=>dj _) (fun s=>sL (dj _) (dj _)),pd (fun s=>dj _) (fun s=>dj _),ml (fun s=>nZ (dj _)) (fun s=>nZ (dj _))];exact dD fun s _=>P9 (a s) (b s) (c s)
theorem Kx (x:Nat):Nat.land x fT=x%4294967296:=Nat.and_two_pow_sub_one_eq_mod x 32
theorem pi {f:Nat→Nat} (hf:∀ s,f s<2^64) (L:Nat):Nat.land (pk f L) (dr L)=pk (fun s=>f s%4294967296) L:=by
  rw[pd hf m64];exact dD fun s _=>Kx (f s)
def gC (S:a9) (k w:UInt32):Nat:=(S.h.toNat+(w.toNat+k.toNat))+((gY S.e).toNat+(hY S.e S.f S.g).toNat)
theorem Qb (S:Nat→a9) (k:UInt32) (w:Nat→UInt32) (L:Nat):TN (dh L) (dr L) k.toNat (pw (fun s=>(S s).h) L) (pw w L) (pw (fun s=>(S s).e) L) (pw (fun s=>(S s).f) L) (pw (fun s=>(S s).g) L)=pk (fun s=>gC (S s) k (w s)) L:=by
  unfold TN;rw[ON,OR,oI];unfold pw;rw[eC,eC,eC,eC];refine dD fun s _=>?_
  show ((S s).h.toNat+((w s).toNat+k.toNat*1))+_=_
  rw[Se]; rfl
theorem FV (S:a9) (k w:UInt32):gC S k w<21474836480:=by
  have h1:=S.h.toNat_lt;have h2:=w.toNat_lt;have h3:=k.toNat_lt;have h4:=(gY S.e).toNat_lt;have h5:=(hY S.e S.f S.g).toNat_lt;unfold gC;omega
theorem Qc (S:a9) (k w:UInt32):(gC S k w+((iO S.a).toNat+(iP S.a S.b S.c).toNat))%4294967296=(S.step k w).a.toNat:=by
  show _=(aQ (aQ (aQ (aQ (aQ S.h (gY S.e)) (hY S.e S.f S.g)) k) w) (aQ (iO S.a) (iP S.a S.b S.c))).toNat
  unfold gC aQ;simp only[UInt32.toNat_add];omega
theorem Qd (S:a9) (k w:UInt32):(S.d.toNat+gC S k w)%4294967296=(S.step k w).e.toNat:=by
  show _=(aQ S.d (aQ (aQ (aQ (aQ S.h (gY S.e)) (hY S.e S.f S.g)) k) w)).toNat
  unfold gC aQ;simp only[UInt32.toNat_add];omega
theorem Mv (S:Nat→a9) (k:UInt32) (w:Nat→UInt32) (L:Nat):AN (dr L) (pk (fun s=>gC (S s) k (w s)) L) (pw (fun s=>(S s).a) L) (pw (fun s=>(S s).b) L) (pw (fun s=>(S s).c) L)=pw (fun s=>((S s).step k (w s)).a) L:=by
  unfold AN;rw[OO,OS];unfold pw;rw[eC,eC,pi]
  ·exact dD fun s _=>Qc (S s) k (w s)
  ·intro s;have h1:=FV (S s) k (w s);have h2:=(iO (S s).a).toNat_lt;have h3:=(iP (S s).a (S s).b (S s).c).toNat_lt
   show gC (S s) k (w s)+((iO (S s).a).toNat+(iP (S s).a (S s).b (S s).c).toNat)<_
   omega
theorem Mw (S:Nat→a9) (k:UInt32) (w:Nat→UInt32) (L:Nat):EN (dr L) (pw (fun s=>(S s).d) L) (pk (fun s=>gC (S s) k (w s)) L)=pw (fun s=>((S s).step k (w s)).e) L:=by
  unfold EN pw;rw[eC,pi]
  ·exact dD fun s _=>Qd (S s) k (w s)
  ·intro s;have h1:=FV (S s) k (w s);have h2:=(S s).d.toNat_lt
   show (S s).d.toNat+gC (S s) k (w s)<_
   omega
def j7 (w0 w1 w9 w14:UInt32):UInt32:=aQ (aQ (aQ (ip w14) w9) (im w1)) w0
theorem Qe (w0 w1 w9 w14:UInt32):((w0.toNat+(im w1).toNat)+(w9.toNat+(ip w14).toNat))%4294967296=(j7 w0 w1 w9 w14).toNat:=by
  unfold j7 aQ;simp only[UInt32.toNat_add];omega
theorem Mx (w0 w1 w9 w14:Nat→UInt32) (L:Nat):NN (dr L) (pw w0 L) (pw w1 L) (pw w9 L) (pw w14 L)=pw (fun s=>j7 (w0 s) (w1 s) (w9 s) (w14 s)) L:=by
  unfold NN;rw[OP,OQ];unfold pw;rw[eC,eC,eC,pi]
  ·exact dD fun s _=>Qe _ _ _ _
  ·intro s;have h1:=(w0 s).toNat_lt;have h2:=(im (w1 s)).toNat_lt;have h3:=(w9 s).toNat_lt;have h4:=(ip (w14 s)).toNat_lt
   show ((w0 s).toNat+(im (w1 s)).toNat)+((w9 s).toNat+(ip (w14 s)).toNat)<_
   omega
def du:a9→List UInt32→(Nat→UInt32)→a9
  | S,[],_=>S
  | S,k::ks,w=>du (S.step k (w 0)) ks (fun t=>w (t+1))
theorem EX (L:Nat):∀ (ks:List UInt32) (S:Nat→a9) (W:Nat→Nat→UInt32),(∀ t s,W (t+16) s=j7 (W t s) (W (t+1) s) (W (t+9) s) (W (t+14) s)) →
    mM (TN (dh L) (dr L)) (AN (dr L)) (EN (dr L)) (NN (dr L)) (ks.map UInt32.toNat) (pw (fun s=>(S s).a) L) (pw (fun s=>(S s).b) L) (pw (fun s=>(S s).c) L) (pw (fun s=>(S s).d) L) (pw (fun s=>(S s).e) L) (pw (fun s=>(S s).f) L) (pw (fun s=>(S s).g) L) (pw (fun s=>(S s).h) L) (pw (W 0) L) (pw (W 1) L) (pw (W 2) L) (pw (W 3) L) (pw (W 4) L) (pw (W 5) L) (pw (W 6) L) (pw (W 7) L) (pw (W 8) L) (pw (W 9) L) (pw (W 10) L) (pw (W 11) L) (pw (W 12) L) (pw (W 13) L) (pw (W 14) L) (pw (W 15) L)=E8.mk (pw (fun s=>(du (S s) ks (fun t=>W t s)).a) L) (pw (fun s=>(du (S s) ks (fun t=>W t s)).b) L) (pw (fun s=>(du (S s) ks (fun t=>W t s)).c) L) (pw (fun s=>(du (S s) ks (fun t=>W t s)).d) L) (pw (fun s=>(du (S s) ks (fun t=>W t s)).e) L) (pw (fun s=>(du (S s) ks (fun t=>W t s)).f) L) (pw (fun s=>(du (S s) ks (fun t=>W t s)).g) L) (pw (fun s=>(du (S s) ks (fun t=>W t s)).h) L)
  | [],_,_,_=>rfl
  | k::ks,S,W,hW=>by
    have e0:=Qb S k (W 0) L;have e1:=Mv S k (W 0) L;have e2:=Mw S k (W 0) L;have e3:=Mx (W 0) (W 1) (W 9) (W 14) L;have e4:(fun s=>j7 (W 0 s) (W 1 s) (W 9 s) (W 14 s))=W 16:=funext fun s=>(hW 0 s).symm
    rw[e4] at e3;have ih:=EX L ks (fun s=>(S s).step k (W 0 s)) (fun t=>W (t+1)) (fun t s=>hW (t+1) s);rw[QX,IK,e0,e1,e2,e3];exact ih
theorem ww (k:UInt32):∀ (ks:List UInt32) (S:a9) (w:Nat→UInt32),du S (ks++[k]) w=(du S ks w).step k (w ks.length)
  | [],_,_=>rfl
  | _::ks,S,w=>ww k ks (S.step _ (w 0)) (fun t=>w (t+1))
theorem v7:∀ (ks:List UInt32) (S:a9) (w v:Nat→UInt32),(∀ t,t<ks.length→w t=v t)→du S ks w=du S ks v
  | [],_,_,_,_=>rfl
  | k::ks,S,w,v,h=>by
    rw[du,du,h 0 (by simp)];exact v7 ks _ _ _ fun t ht=>h (t+1) (by simpa using ht)
theorem v8 (S:a9) (ks w:List UInt32):∀ n,n≤ks.length→S.rounds ks w n=du S (ks.take n) (fun t=>w.getD t 0)
  | 0,_=>rfl
  | n+1,h=>by
    rw[a9.rounds,v8 S ks w n (by omega),R4 (by omega),ww,QY,Sl (by omega),QW,QT (by omega)];rfl
theorem oa (b:List UInt8):∀ n,(bK b n).length=16+n
  | 0=>by unfold bK fE; simp
  | n+1=>by rw[bK,QV,oa b n]; rfl
theorem rM (b:List UInt8) {j:Nat}:∀ (n d:Nat),j<16+n→(bK b (n+d)).getD j 0=(bK b n).getD j 0
  | _,0,_=>rfl
  | n,d+1,h=>by
    rw[← SF,bK,QW,RF (by rw[oa]; omega),← QW,rM b n d h]
theorem kA (b:List UInt8) {j m n:Nat} (h1:j<16+m) (h2:j<16+n):(bK b m).getD j 0=(bK b n).getD j 0:=by
  rcases Nat.le_total m n with h | h
  ·obtain⟨d,rfl⟩:=Nat.exists_eq_add_of_le h;exact (rM b m d h1).symm
  ·obtain⟨d,rfl⟩:=Nat.exists_eq_add_of_le h;exact rM b n d h2
def wS (b:List UInt8) (t:Nat):UInt32:=(bK b t).getD t 0
theorem OT (b:List UInt8) (t:Nat):wS b (t+16)=j7 (wS b t) (wS b (t+1)) (wS b (t+9)) (wS b (t+14)):=by
  have e:bK b (t+1)=bK b t++[jT (bK b t) (16+t)]:=rfl;have key:(bK b (t+1)).getD (t+16) 0=jT (bK b t) (16+t):=by
    rw[e,QW,RI (by rw[oa]; omega),oa,show t+16-(16+t)=0 by omega]; rfl
  unfold wS;rw[kA b (show t+16<16+(t+16) by omega) (show t+16<16+(t+1) by omega),key];unfold jT j7;rw[show 16+t-2=t+14 by omega,show 16+t-7=t+9 by omega,show 16+t-15=t+1 by omega,show 16+t-16=t by omega];rw[kA b (show t+14<16+t by omega) (show t+14<16+(t+14) by omega),kA b (show t+9<16+t by omega) (show t+9<16+(t+9) by omega),kA b (show t+1<16+t by omega) (show t+1<16+(t+1) by omega)]
theorem Qf (b:List UInt8) {t:Nat} (h:t<16):wS b t=bB b t:=by
  unfold wS;rw[kA b (show t<16+t by omega) (show t<16+0 by omega)];unfold bK fE;rw[QW,Si,List.getElem?_range h]; rfl
theorem G5 (h:List UInt32) (b:List UInt8):(a9.of h).rounds ce (eK b) 64=du (a9.of h) ce (wS b):=by
  rw[v8 _ _ _ 64 (by rw[nl]; omega)];have e:ce.take 64=ce:=QZ (by rw[nl]; omega);rw[e];refine v7 _ _ _ _ fun t ht=>?_
  rw[nl] at ht
  show (bK b 48).getD t 0=(bK b t).getD t 0
  exact kA b (by omega) (by omega)
def kn (H:Nat→List UInt32) (L:Nat):E8:=E8.mk (pw (fun s=>(H s).getD 0 0) L) (pw (fun s=>(H s).getD 1 0) L) (pw (fun s=>(H s).getD 2 0) L) (pw (fun s=>(H s).getD 3 0) L) (pw (fun s=>(H s).getD 4 0) L) (pw (fun s=>(H s).getD 5 0) L) (pw (fun s=>(H s).getD 6 0) L) (pw (fun s=>(H s).getD 7 0) L)
theorem OU (x y:Nat→UInt32) (L:Nat):EN (dr L) (pw x L) (pw y L)=pw (fun s=>aQ (x s) (y s)) L:=by
  unfold EN pw;rw[eC,pi]
  ·refine dD fun s _=>?_
   unfold aQ;rw[UInt32.toNat_add]; rfl
  ·intro s;have h1:=(x s).toNat_lt;have h2:=(y s).toNat_lt
   show (x s).toNat+(y s).toNat<_
   omega
theorem OV (H:Nat→List UInt32) (b:Nat→List UInt8) (L:Nat):vz (dh L) (dr L) (kn H L) (pw (fun s=>bB (b s) 0) L) (pw (fun s=>bB (b s) 1) L) (pw (fun s=>bB (b s) 2) L) (pw (fun s=>bB (b s) 3) L) (pw (fun s=>bB (b s) 4) L) (pw (fun s=>bB (b s) 5) L) (pw (fun s=>bB (b s) 6) L) (pw (fun s=>bB (b s) 7) L) (pw (fun s=>bB (b s) 8) L) (pw (fun s=>bB (b s) 9) L) (pw (fun s=>bB (b s) 10) L) (pw (fun s=>bB (b s) 11) L) (pw (fun s=>bB (b s) 12) L) (pw (fun s=>bB (b s) 13) L) (pw (fun s=>bB (b s) 14) L) (pw (fun s=>bB (b s) 15) L)=kn (fun s=>ja (H s) (b s)) L:=by
  have hw:∀ t,t<16→(fun s=>bB (b s) t)=(fun s=>wS (b s) t):=fun t ht=>funext fun s=>(Qf (b s) ht).symm
  rw[hw 0 (by decide),hw 1 (by decide),hw 2 (by decide),hw 3 (by decide),hw 4 (by decide),hw 5 (by decide),hw 6 (by decide),hw 7 (by decide),hw 8 (by decide),hw 9 (by decide),hw 10 (by decide),hw 11 (by decide),hw 12 (by decide),hw 13 (by decide),hw 14 (by decide),hw 15 (by decide)];have hr:=EX L ce (fun s=>a9.of (H s)) (fun t s=>wS (b s) t) (fun t s=>OT (b s) t);unfold vz kn;rw[Mu,Qa];refine (congrArg (vy (EN (dr L)) _) hr).trans ?_;rw[Mt];simp only[OU];have hb:∀ s,ja (H s) (b s)=(du (a9.of (H s)) ce (fun t=>wS (b s) t)).sum (H s):=fun s=>by
    unfold ja; rw[G5]
  simp only[hb];rfl
def lF (b:List UInt8):Nat:=b.foldl (fun a x=>a*256+x.toNat) 0
theorem IL (b:List UInt8) (x:UInt8):lF (b++[x])=lF b*256+x.toNat:=by unfold lF; rw[List.foldl_append]; rfl
theorem sM (v:Nat):∀ n,lF (au v n)=v%256^n
  | 0=>by simp[au,lF,Nat.mod_one]
  | n+1=>by
    have e:au v (n+1)=au (v / 256) n++[UInt8.ofNat v]:=by
      unfold au;rw[SE,Rx]
      congr 1
      ·apply RE;intro i hi;have hi:=List.mem_range.1 hi;rw[show n+1-1-i=(n-1-i)+1 by omega,Nat.pow_succ,SC,Nat.div_div_eq_div_mul]
      ·simp
    rw[e,IL,sM (v / 256) n,UInt8.toNat_ofNat',show 256^(n+1)=256*256^n from Nat.pow_succ',Nat.mod_mul];omega
theorem ym (h:List UInt32) (b c:List UInt8):∀ n,64*n≤b.length→cu h (b++c) n=cu h b n
  | 0,_=>rfl
  | n+1,hn=>by
    rw[cu,cu,ym h b c n (by omega),List.drop_append_of_le_length (by omega),Sx (by rw[Q4]; omega)]
theorem xb (h:List UInt32) (p:List UInt8) (q:Nat):∀ m,cu (cu h p q) (p.drop (64*q)) m=cu h p (q+m)
  | 0=>rfl
  | m+1=>by
    rw[← SF,cu,cu,xb h p q m,List.drop_drop,Nat.mul_add]
def jf (n:Nat):List UInt8:=[128]++List.replicate ((119-n%64)%64) 0++au (n*8) 8
theorem IM (n:Nat):n+(jf n).length=64*((n+8) / 64+1):=by
  unfold jf;simp only[QV,Rc,cR,RZ];omega
theorem Ky (b:List UInt8):j5 b=d8 (cu e9 (b++jf b.length) ((b.length+8) / 64+1)):=by
  have hl:=IM b.length;have hd:64*(b.length / 64)≤b.length:=by omega
  have hp:fo (b.drop (64*(b.length / 64))) b.length=(b++jf b.length).drop (64*(b.length / 64)):=by
    unfold fo jf;rw[List.drop_append_of_le_length hd,Q4,show b.length-64*(b.length / 64)=b.length%64 by omega];simp only[RY]
  unfold j5 js;rw[hp,← ym e9 b (jf b.length) _ hd,xb,Q4,QV,hl]
  congr 2; omega

theorem pj (c:UInt32) (L:Nat):Nat.mul c.toNat (dh L)=pw (fun _=>c) L:=by
  rw[oI];exact dD fun s _=>Se _
theorem My (L:Nat):0=pw (fun _=>0) L:=by
  have:=pj 0 L;rw[← this]; exact (Ss _).symm
def b4 (w:UInt32):List UInt8:=[UInt8.ofNat (w.toNat / 16777216),UInt8.ofNat (w.toNat / 65536),UInt8.ofNat (w.toNat / 256),UInt8.ofNat w.toNat]
theorem Mz (w:UInt32):au w.toNat 4=b4 w:=by
  show [UInt8.ofNat (w.toNat / 16777216),UInt8.ofNat (w.toNat / 65536),UInt8.ofNat (w.toNat / 256),UInt8.ofNat (w.toNat / 1)]=_
  rw[Nat.div_one]; rfl
theorem n0 (w:UInt32):(UInt8.ofNat w.toNat).toNat=w.toNat%256:=UInt8.toNat_ofNat'
theorem n1 (w:UInt32):(UInt8.ofNat (w.toNat / 256)).toNat=w.toNat / 256%256:=UInt8.toNat_ofNat'
theorem n2 (w:UInt32):(UInt8.ofNat (w.toNat / 65536)).toNat=w.toNat / 65536%256:=UInt8.toNat_ofNat'
theorem n3 (w:UInt32):(UInt8.ofNat (w.toNat / 16777216)).toNat=w.toNat / 16777216%256:=UInt8.toNat_ofNat'
theorem OW {p:List UInt8} {t:Nat} (h0:p.getD (4*t) 0=0) (h1:p.getD (4*t+1) 0=0) (h2:p.getD (4*t+2) 0=0) (h3:p.getD (4*t+3) 0=0):bB p t=0:=by
  rw[← UInt32.toNat_inj,nm,h0,h1,h2,h3]; rfl
theorem OX {p:List UInt8} {t:Nat} {a b:UInt8} {c:UInt32} (h0:p.getD (4*t) 0=0) (h1:p.getD (4*t+1) 0=0) (h2:p.getD (4*t+2) 0=a) (h3:p.getD (4*t+3) 0=b) (hc:a.toNat*256+b.toNat=c.toNat):bB p t=c:=by
  rw[← UInt32.toNat_inj,nm,h0,h1,h2,h3,← hc];have z:(0:UInt8).toNat=0:=by decide
  simp only[z,Ss,Sa]
noncomputable def vA (one:Nat):E8:=E8.mk (Nat.mul 1779033703 one) (Nat.mul 3144134277 one) (Nat.mul 1013904242 one) (Nat.mul 2773480762 one) (Nat.mul 1359893119 one) (Nat.mul 2600822924 one) (Nat.mul 528734635 one) (Nat.mul 1541459225 one)
theorem OY (L:Nat):vA (dh L)=kn (fun _=>e9) L:=by
  have h:=fun c=>pj c L
  unfold vA kn;exact (congr (congr (congr (congr (congr (congr (congr (congrArg E8.mk (h 1779033703)) (h 3144134277)) (h 1013904242)) (h 2773480762)) (h 1359893119)) (h 2600822924)) (h 528734635)) (h 1541459225))

noncomputable def lG {α:Type} (n:Nat) (k:Nat→α):α:=@Nat.rec (fun _=>α) (k 0) (fun m _=>k (Nat.succ m)) n
theorem ma {α:Type} (n:Nat) (k:Nat→α):lG n k=k n:=by cases n <;> rfl
theorem OZ {p:List UInt8} {t:Nat} {w:UInt32} (h0:(p.getD (4*t) 0).toNat=w.toNat / 16777216%256) (h1:(p.getD (4*t+1) 0).toNat=w.toNat / 65536%256) (h2:(p.getD (4*t+2) 0).toNat=w.toNat / 256%256) (h3:(p.getD (4*t+3) 0).toNat=w.toNat%256):bB p t=w:=by
  have:=w.toNat_lt;rw[← UInt32.toNat_inj,nm,h0,h1,h2,h3];omega
theorem O0 {p:List UInt8} {t:Nat} {w:UInt32} {a b c d:UInt8} (h0:p.getD (4*t) 0=a) (h1:p.getD (4*t+1) 0=b) (h2:p.getD (4*t+2) 0=c) (h3:p.getD (4*t+3) 0=d) (hc:((a.toNat*256+b.toNat)*256+c.toNat)*256+d.toNat=w.toNat):bB p t=w:=by
  rw[← UInt32.toNat_inj,nm,h0,h1,h2,h3,hc]
def fp (x:UInt32):List UInt8:=(au x.toNat 8++au 0 4)++jf 12
def mN (x:UInt32):List UInt32:=ja e9 ((fp x).take 64)
theorem O1 (x:UInt32):au x.toNat 8=0::0::0::0::b4 x:=by
  have hx:=x.toNat_lt;have z:∀ k,4294967296≤k→UInt8.ofNat (x.toNat / k)=0:=fun k hk=>by
    rw[Nat.div_eq_of_lt (by omega)]; rfl
  have e:au x.toNat 8=[UInt8.ofNat (x.toNat / 72057594037927936),UInt8.ofNat (x.toNat / 281474976710656),UInt8.ofNat (x.toNat / 1099511627776),UInt8.ofNat (x.toNat / 4294967296)]++au x.toNat 4:=rfl;rw[e,Mz,z _ (by decide),z _ (by decide),z _ (by decide),z _ (by decide)]; rfl
theorem Qg (x:UInt32):jK x.toNat 0=d8 (mN x):=by
  have h1:(au x.toNat 8++au 0 4).length=12:=by simp[cR]
  unfold jK;rw[Ky,h1]; rfl
set_option maxRecDepth 20000 in
theorem pR (x:UInt32):(fp x).take 64=0::0::0::0::UInt8.ofNat (x.toNat / 16777216)::UInt8.ofNat (x.toNat / 65536)::UInt8.ofNat (x.toNat / 256)::UInt8.ofNat x.toNat::0::0::0::0::128::0::0::0::0::0::0::0::0::0::0::0::0::0::0::0::0::0::0::0::0::0::0::0::0::0::0::0::0::0::0::0::0::0::0::0::0::0::0::0::0::0::0::0::0::0::0::0::0::0::0::96::[]:=by
  have ht:jf 12=128::(List.replicate 50 0++[96]):=by decide
  have hz:au 0 4=[0,0,0,0]:=by decide
  have e:fp x=0::0::0::0::UInt8.ofNat (x.toNat / 16777216)::UInt8.ofNat (x.toNat / 65536)::UInt8.ofNat (x.toNat / 256)::UInt8.ofNat x.toNat::0::0::0::0::128::0::0::0::0::0::0::0::0::0::0::0::0::0::0::0::0::0::0::0::0::0::0::0::0::0::0::0::0::0::0::0::0::0::0::0::0::0::0::0::0::0::0::0::0::0::0::0::0::0::0::96::[]:=by
    unfold fp;rw[O1,ht,hz];simp only[b4,RN,R0,List.replicate]
  rw[e]; rfl
set_option maxRecDepth 20000 in
theorem Qh (x:UInt32):∀ t,t<15→t≠1→t≠3→bB ((fp x).take 64) t=0:=by
  intro t h1 h2 h3;rw[pR];have:t=0∨t=2∨t=4∨t=5∨t=6∨t=7∨t=8∨t=9∨t=10∨t=11∨t=12∨t=13∨t=14:=by omega
  rcases this with rfl | rfl | rfl | rfl | rfl | rfl | rfl | rfl | rfl | rfl | rfl | rfl | rfl <;> exact OW rfl rfl rfl rfl
set_option maxRecDepth 20000 in
theorem Qi (x:UInt32):bB ((fp x).take 64) 1=x:=by
  rw[pR]; exact OZ (n3 _) (n2 _) (n1 _) (n0 _)
set_option maxRecDepth 20000 in
theorem Qj (x:UInt32):bB ((fp x).take 64) 3=2147483648:=by
  rw[pR]; exact O0 (a:=128) (b:=0) (c:=0) (d:=0) rfl rfl rfl rfl (by decide)
set_option maxRecDepth 20000 in
theorem Qk (x:UInt32):bB ((fp x).take 64) 15=96:=by
  rw[pR]; exact OX rfl rfl rfl rfl rfl
noncomputable def qm (one m X:Nat):E8:=vz one m (vA one) 0 X 0 (Nat.mul 2147483648 one) 0 0 0 0 0 0 0 0 0 0 0 (Nat.mul 96 one)
theorem MA (x:Nat→UInt32) (L:Nat):qm (dh L) (dr L) (pw x L)=kn (fun s=>mN (x s)) L:=by
  have g:=OV (fun _=>e9) (fun s=>(fp (x s)).take 64) L;have z:∀ t,t<15→t≠1→t≠3→(fun s=>bB ((fp (x s)).take 64) t)=fun _=>0:=fun t h1 h2 h3=>funext fun s=>Qh (x s) t h1 h2 h3
  have v1:(fun s=>bB ((fp (x s)).take 64) 1)=x:=funext fun s=>Qi (x s)
  have v3:(fun s=>bB ((fp (x s)).take 64) 3)=fun _=>2147483648:=funext fun s=>Qj (x s)
  have ve:(fun s=>bB ((fp (x s)).take 64) 15)=fun _=>96:=funext fun s=>Qk (x s)
  have c2:Nat.mul 2147483648 (dh L)=pw (fun _=>2147483648) L:=pj 2147483648 L;have c3:Nat.mul 96 (dh L)=pw (fun _=>96) L:=pj 96 L;rw[v1,v3,ve,z 0 (by decide) (by decide) (by decide),z 2 (by decide) (by decide) (by decide),z 4 (by decide) (by decide) (by decide),z 5 (by decide) (by decide) (by decide),z 6 (by decide) (by decide) (by decide),z 7 (by decide) (by decide) (by decide),z 8 (by decide) (by decide) (by decide),z 9 (by decide) (by decide) (by decide),z 10 (by decide) (by decide) (by decide),z 11 (by decide) (by decide) (by decide),z 12 (by decide) (by decide) (by decide),z 13 (by decide) (by decide) (by decide),z 14 (by decide) (by decide) (by decide),← My,← OY] at g;unfold qm;rw[c2,c3];exact g
inductive Tr where
  | lf (c:Nat)
  | nd (a b:Tr)
deriving DecidableEq
theorem O2 (x y:Nat→UInt32) (L:Nat):Nat.xor (pw x L) (pw y L)=pw (fun s=>cU (x s) (y s)) L:=by
  unfold pw;rw[ml (fun s=>dj _) (fun s=>dj _)];exact dD fun s _=>(UInt32.toNat_xor _ _).symm
theorem IP {x:Nat→UInt32} {L s:Nat} (h:Nat.beq (Nat.land (Nat.shiftRight (Nat.add (pw x L) (Nat.mul 4294967295 (dh L))) 32) (dh L)) (dh L)=true) (hs:s<L):x s≠0:=by
  intro h0;have e:=Nat.eq_of_beq_eq_true h;have h1:∀ s:Nat,(fun _:Nat=>1) s<2^64:=fun _=>(by decide:1<2^64)
  have hg:∀ s,Nat.add (x s).toNat (Nat.mul 4294967295 1)<2^64:=fun s=>by
    have:=(x s).toNat_lt
    show (x s).toNat+4294967295*1<_
    omega
  have e2:Nat.add (pw x L) (Nat.mul 4294967295 (dh L))=pk (fun s=>Nat.add (x s).toNat (Nat.mul 4294967295 1)) L:=by
    unfold pw;rw[oI,eC]
  rw[e2] at e;have e3:((pk (fun s=>Nat.add (x s).toNat (Nat.mul 4294967295 1)) L >>> 32) &&& dh L).testBit (64*s)=(dh L).testBit (64*s):=congrArg (fun n=>Nat.testBit n (64*s)) e;rw[Nat.testBit_and,Nat.testBit_shiftRight,eA hg,eA h1,show (32+64*s) / 64=s by omega,show (32+64*s)%64=32 by omega,show 64*s / 64=s by omega,show 64*s%64=0 by omega,decide_eq_true hs,h0] at e3
  revert e3
  decide
def t2:Tr:=.nd (.lf 0) (.lf 1)
def QP:Tr:=.nd (.lf 2) (.lf 3)
def t4:Tr:=.nd t2 QP
noncomputable def vO (s:E8):Nat:=E8.rec (fun a _ _ _ _ _ _ _=>a) s
theorem Ql (A:Nat→List UInt32) (L:Nat):vO (kn A L)=pw (fun s=>(A s).getD 0 0) L:=rfl
def vB (on one a b:Nat):Bool:=Nat.beq (Nat.land (Nat.shiftRight (Nat.add (Nat.xor a b) on) 32) one) one
theorem MB {x y:Nat→UInt32} {L s:Nat} (h:vB (Nat.mul 4294967295 (dh L)) (dh L) (pw x L) (pw y L)=true) (hs:s<L):x s≠y s:=by
  intro e;unfold vB at h;rw[O2] at h;refine IP h hs ?_;rw[e];simp[cU]
noncomputable def mO (F:Nat→Nat) (D:Nat→Nat→Bool) (os:List Nat):List Nat→Bool :=
  @List.rec Nat (fun _=>List Nat→Bool) (fun _=>true) (fun o _ ih acc=>lG (F o) fun w=>cond (acc.all (D w)) (ih (w::acc)) false) os
theorem IQ (F:Nat→Nat) (D:Nat→Nat→Bool) (o:Nat) (os acc:List Nat):mO F D (o::os) acc=cond (acc.all (D (F o))) (mO F D os (F o::acc)) false:=ma (F o) fun w=>cond (acc.all (D w)) (mO F D os (w::acc)) false
theorem CG {F:Nat→Nat} {D:Nat→Nat→Bool}:∀ {os acc:List Nat},mO F D os acc=true→os.Pairwise (fun a b=>D (F b) (F a)=true)∧∀ o∈os,∀ w∈acc,D (F o) w=true
  | [],_,_=>⟨List.Pairwise.nil,fun o ho=>by cases ho⟩
  | o::os,acc,h=>by
    rw[IQ] at h;cases hc:acc.all (D (F o)) with
    | false=>rw[hc,cond_false] at h; cases h
    | true =>
      rw[hc,cond_true] at h;obtain⟨h1,h2⟩:=CG h;refine⟨List.Pairwise.cons (fun b hb=>h2 b hb _ (Rv ..)) h1,fun b hb w hw=>?_⟩;rcases Rr.1 hb with rfl | hb
      ·exact Q2.1 hc w hw
      ·exact h2 b hb w (Rm _ hw)
def kq (x:Nat):UInt32:=(mN (UInt32.ofNat x)).getD 0 0
noncomputable def mP (os:List Nat) (L:Nat):Bool:=lG (dh L) fun one=>lG (dr L) fun m=>lG (pk (fun s=>s) L) fun io=>lG (Nat.mul 4294967295 one) fun on=>mO (fun o=>vO (qm one m (Nat.add io (Nat.mul o one)))) (vB on one) os []
theorem MC {os:List Nat} {L:Nat} (h:mP os L=true) (hL:L≤100000) (hos:∀ o∈os,o≤4000000000) {s:Nat} (hs:s<L):os.Pairwise fun a b=>kq (s+a)≠kq (s+b):=by
  unfold mP at h;rw[ma,ma,ma,ma] at h;have h1:=(CG h).1;have key:∀ o,o≤4000000000→vO (qm (dh L) (dr L) (Nat.add (pk (fun s=>s) L) (Nat.mul o (dh L))))=pw (fun s=>kq (s+o)) L:=fun o ho=>by
    have e:Nat.add (pk (fun s=>s) L) (Nat.mul o (dh L))=pw (fun s=>UInt32.ofNat (s+o)) L:=by
      rw[oI,eC];refine dD fun s hs=>?_
      rw[UInt32.toNat_ofNat_of_lt' (by simp only[UInt32.size]; omega)]
      show s+o*1=_
      omega
    rw[e,MA,Ql];rfl
  refine List.Pairwise.imp_of_mem ?_ h1;intro a b ha hb hd;rw[key a (hos a ha),key b (hos b hb)] at hd;exact (MB hd hs).symm
theorem CH {x n:Nat} (hx:x<4294967296) (hn:4≤n):(cz (x:Int) (n:Int)).take 4=au (kq x).toNat 4:=by
  have e1:((x:Int)%18446744073709551616).toNat=x:=by omega
  have e2:((n:Int).toNat+31) / 32=((n:Int).toNat+31) / 32-1+1:=by omega
  have e3:ez x (((n:Int).toNat+31) / 32)=jK x 0++(((List.range (((n:Int).toNat+31) / 32-1)).map Nat.succ).map (jK x)).flatten:=by
    unfold ez;rw[e2,List.range_succ_eq_map,QX,Sk];rfl
  have hw:=Qg (UInt32.ofNat x);rw[UInt32.toNat_ofNat_of_lt' (show x<UInt32.size by simp only[UInt32.size]; omega)] at hw;have hl:(mN (UInt32.ofNat x)).length=8:=wY _ _;unfold cz;rw[e1,e3,hw,List.take_take,Sl (by omega)];unfold kq
  match mN (UInt32.ofNat x),hl with
  | [a,b,c,d,e,f,g,i],_ =>
    unfold d8;simp only[Q6,RY];exact List.take_left' (cR _ _)
theorem O3 {a b:UInt32} (h:au a.toNat 4=au b.toNat 4):a=b:=by
  have e:=congrArg lF h;rw[sM,sM,Nat.mod_eq_of_lt (show a.toNat<256^4 from a.toNat_lt),Nat.mod_eq_of_lt (show b.toNat<256^4 from b.toNat_lt)] at e;exact UInt32.toNat_inj.1 e
theorem Qm {x y n m:Nat} (hx:x<4294967296) (hy:y<4294967296) (hn:4≤n) (hm:4≤m) (h:kq x≠kq y):(cz (x:Int) (n:Int)).take 4≠(cz (y:Int) (m:Int)).take 4:=by
  rw[CH hx hn,CH hy hm];exact fun e=>h (O3 e)
def kr:List Nat:=(List.range 8).map fun i=>1000003*(i+1)
def QQ:List Nat:=(List.range 100).map fun i=>5000000*(i+1)
def vP:List Nat:=(List.range 8).map fun i=>7000000*(i+1)
def nb:List Nat:=(List.range 11).map fun i=>9000000*(i+1)
set_option maxRecDepth 100000 in
theorem O4:mP (kr++vP) 1000=true:=by decide +kernel
set_option maxRecDepth 100000 in
theorem O5:mP (kr++nb) 1000=true:=by decide +kernel
theorem of_le:∀ o∈kr++(QQ++(vP++nb)),o≤4000000000:=by decide +kernel
theorem FW {os:List Nat} (h:mP os 1000=true) (hos:∀ o∈os,o≤4000000000) {s:Nat} (hs:s<1000):(os.map fun o=>cz ((s+o:Nat):Int) 104).Nodup:=by
  rw[List.nodup_iff_pairwise_ne,List.pairwise_map];refine (List.Pairwise.imp_of_mem ?_ (MC h (by decide) hos hs));intro a b ha hb hab e;have h1:=hos a ha;have h2:=hos b hb;exact Qm (n:=104) (m:=104) (by omega) (by omega) (by decide) (by decide) hab (congrArg (List.take 4) e)
theorem QC {s:Nat} (hs:s<1000):((kr++vP).map fun o=>cz ((s+o:Nat):Int) 104).Nodup:=FW O4 (fun o ho=>of_le o (by
  rcases Re.1 ho with h | h
  ·exact Rf _ h
  ·exact Q1 _ (Q1 _ (Rf _ h)))) hs
theorem QD {s:Nat} (hs:s<1000):((kr++nb).map fun o=>cz ((s+o:Nat):Int) 104).Nodup:=FW O5 (fun o ho=>of_le o (by
  rcases Re.1 ho with h | h
  ·exact Rf _ h
  ·exact Q1 _ (Q1 _ (Q1 _ h)))) hs
end Go.Proofs.Ytofonnokanoflaa
