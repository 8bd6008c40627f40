/- Texts of one's own, merged: from: Layer 1 on data: Put,Get,Same,Join,Hex: what they return. Own work. -/
import Derived.Test.YtofonnokanoflaaProg
import Derived.Test.YtofonnokanoflaaMg47
set_option linter.unusedVariables false
set_option linter.unusedSimpArgs false
namespace Go.Proofs.Ytofonnokanoflaa
open Go.RowKit IntWalk
set_option maxHeartbeats 400000
theorem fP {l:List UInt8} {i:Nat} {x:D} (hi:i<l.length) (hx:x.one=true):gG .sc (.c (.d x)) i 0 (.row 1 (l.map bD))=some (.row 1 ((l.map bD).set i x)):=by
  simp[gG,aR,Rh hi,bD,dO,hx]
theorem Ef {l:List UInt32} {i:Nat} {x:D} (hi:i<l.length) (hx:x.one=true):gG .sc (.c (.d x)) i 0 (.row 1 (l.map wD))=some (.row 1 ((l.map wD).set i x)):=by
  simp[gG,aR,Rh hi,wD,dO,hx]
theorem gA (l:List UInt8) (i:Nat) (x:UInt8):(l.map bD).set i (bD x)=(l.set i x).map bD:=tm bD l i x
theorem Eg (l:List UInt32) (i:Nat) (x:UInt32):(l.map wD).set i (wD x)=(l.set i x).map wD:=tm wD l i x
theorem FC (n:Nat):List.replicate n (D.int .u8 0)=(List.replicate n (0:UInt8)).map bD:=by simp[bD]
def aw (v n:Nat):List UInt8:=(List.range n).map fun i=>UInt8.ofNat (v / 256^(n-1-i))
def fp (v n m:Nat):List UInt8:=List.replicate m 0++(aw v n).drop m
def qv (v:Nat) (n:Int):List UInt8:=if 0≤n∧n≤64 then aw v n.toNat else []
theorem cX (v n:Nat):(aw v n).length=n:=by simp[aw]
theorem q8 (v n m:Nat) (h:m≤n):(fp v n m).length=n:=by simp[fp,cX]; omega
theorem yh (v n:Nat):fp v n 0=aw v n:=by simp[fp]
theorem yi (v n:Nat):fp v n n=List.replicate n 0:=by simp[fp,cX]
theorem yj (v n i:Nat) (h:i+1≤n):fp v n i=(fp v n (i+1)).set i (UInt8.ofNat (v / 256^(n-(i+1)))):=by
  apply SR;intro j;rw[List.getElem?_set];have hl:i<(aw v n).length:=by rw[cX]; omega
  by_cases hj:i=j
  ·subst hj;rw[if_pos rfl,if_pos (by rw[q8 _ _ _ h]; omega)];simp only[fp,List.getElem?_append,RF,Nat.lt_irrefl,if_false,Nat.sub_self,Sb,Sj];rw[Rh hl];simp[aw,Nat.sub_sub,Nat.add_comm 1 i]
  ·rw[if_neg hj];simp only[fp,List.getElem?_append,RF,List.getElem?_replicate,Sb];by_cases h1:j<i
   ·rw[if_pos h1,if_pos h1,if_pos (by omega),if_pos (by omega)]
   ·rw[if_neg h1,if_neg (by omega)]
    congr 1; omega
theorem byte_of (v:Nat):D.int .u8 (IntKind.u8.wrap (v:Int))=bD (UInt8.ofNat v):=by
  rw[IntKind.wrap_u8];simp[bD]
def lw (v n m:Nat):St:=⟨aV [(0,.w (.c (.d (.int .u64 ((v / 256^(n-m):Nat):Int))))),(5,.w (.c (.own 1 1 0 n))),(6,.w (.c (.d (.int .i64 ((m:Int)-1)))))],hL [(1,.row 1 ((fp v n m).map bD))],uL [1]⟩
def sH:aK := .seq (.seq (.reg [oM 17 6,oO 18 (.bin .geq (.t 17) (kI 0))]) (.cond (.t 18) (.skip) (.exit 0))) (.seq (.block 1 (.seq (.reg [oM 21 5,oM 22 6,oM 23 0,oO 24 (.conv .u8 (.t 23)),oO 25 (.idxSl 1 (.t 21) (.t 22)),oN (.store .sc (.t 25) (.t 24))]) (.reg [oM 26 0,oO 27 (.bin .shr (.t 26) (.k (.c (.d (.int .u64 8))))),oM 0 27]))) (.reg [oM 19 6,oO 20 (.bin .sub (.t 19) (kI 1)),oM 6 20]))
def pq:aG:=⟨2,29,.seq (.reg [oO 4 (.mv (.k (.c .nil)))]) (.seq (.seq (.reg [oM 7 1,oO 8 (.bin .lss (.t 7) (kI 0)),oM 9 8,oG 10 (.mv (.t 1)) 9 false,oG 11 (.bin .gtr (.t 10) (kI 64)) 9 false,oO 12 (.pick (.t 9) (.k (.c (.d (.bool true)))) (.t 11))]) (.cond (.t 12) (.seq (.reg [oO 4 (.mv (.k (.c .nil)))]) (.ret)) (.skip))) (.seq (.reg [oM 13 1,oO 14 (.make true 1 1 (.int .u8 0) (.t 13) (.t 13)),oM 5 14]) (.seq (.seq (.reg [oM 15 1,oO 16 (.bin .sub (.t 15) (kI 1)),oM 6 16]) (.block 0 (.loop sH))) (.seq (.reg [oM 28 5,oM 4 28]) (.ret))))),[(4,none)]⟩
theorem Eh:aD Try.prog { own:=[],comp:=[],frz:=[],nils:=[] } Try.f71=some pq:=by kernel_rfl
theorem ue (G:ak) (v n:Nat) (hn:n≤64):ap Try.prog G 71 [.int .u64 v,.int .i64 n] (.w (.c (.fr 1 ((aw v n).map bD)))):=by
  refine aI Try.func71 Eh rfl rfl ?_;have e1:IntKind.i64.wrap ((n:Int)-1)=(n:Int)-1:=IntWalk.i64_in _ (by omega);simp only[pq,ai,wx,aa,seval,iteOmega,toNatUp,e1];refine bg (lw v n) (fun m=>m) (fun m=>m≤n) n (Rt _) ?_ ?_
  ·refine aA (fun _=>112) ?_ ?_ rfl rfl <;> simp only[wx,au,aa,seval,iteOmega,toNatUp,yi,FC,Nat.sub_self,Nat.pow_zero,Nat.div_one]
  ·intro m hm;rcases Se m with rfl | hpos
   ·simp only[sH,lw,wx,aa,seval,iteOmega,toNatUp,yh];refine en (id:=1) (n:=n) (s:=1) ?_ ?_ ?_ <;> simp only[wx,aa,seval,iteOmega,toNatUp,cX]
   ·obtain⟨i,rfl⟩:∃ i,m=i+1:=⟨m-1,by omega⟩
    have e2:((i+1:Nat):Int)-1=(i:Int):=by omega
    have hlt:i<(fp v n (i+1)).length:=by rw[q8 _ _ _ hm]; omega
    have e3:IntKind.i64.wrap ((i:Int)-1)=(i:Int)-1:=IntWalk.i64_in _ (by omega);simp only[sH,lw,wx,aa,seval,iteOmega,toNatUp,e2,e3,Sz,Sj,byte_of,fP hlt (eS _),gA,← yj _ _ _ hm,IntKind.bits];refine aX i (by omega) (by omega) (aA id ?_ ?_ rfl rfl) <;> simp only[wx,au,aa,seval,iteOmega,toNatUp];have e4:v / 256^(n-(i+1)) / 256=v / 256^(n-i):=by
      rw[show n-i=n-(i+1)+1 by omega,Nat.pow_succ,← Nat.div_div_eq_div_mul]
    simpa using congrArg (Nat.cast:Nat→Int) e4
theorem FD (G:ak) (v:Nat) (n:Int):ap Try.prog G 71 [.int .u64 v,.int .i64 n] (.w (.c (.fr 1 ((qv v n).map bD)))):=by
  unfold qv;by_cases h:0≤n∧n≤64
  ·rw[if_pos h];obtain⟨n,rfl⟩:=Sm h.1;exact ue G v n (by omega)
  ·rw[if_neg h];refine aI Try.func71 Eh rfl rfl ?_;by_cases h0:n<0
   ·simp only[pq,ai,wx,aa,seval,iteOmega,toNatUp];exact tp (by simp[wx,aa,seval,iteOmega,toNatUp])
   ·have h1:64<n:=by omega
    simp only[pq,ai,wx,aa,seval,iteOmega,toNatUp];exact tp (by simp[wx,aa,seval,iteOmega,toNatUp])
def rI:aK := .seq (.seq (.reg [oM 17 6,oO 18 (.bin .geq (.t 17) (kI 0))]) (.cond (.t 18) (.skip) (.exit 0))) (.seq (.block 1 (.seq (.reg [oM 21 5,oM 22 6,oM 23 0,oO 24 (.conv .u8 (.t 23)),oO 25 (.idxSl 1 (.t 21) (.t 22)),oN (.store .sc (.t 25) (.t 24))]) (.reg [oM 26 0,oO 27 (.bin .shr (.t 26) (.k (.c (.d (.int .u64 8))))),oM 0 27]))) (.reg [oM 19 6,oO 20 (.bin .sub (.t 19) (kI 1)),oM 6 20]))
def BQ:aG:=⟨2,29,.seq (.reg [oO 4 (.mv (.k (.c .nil)))]) (.seq (.seq (.reg [oM 7 1,oO 8 (.bin .lss (.t 7) (kI 0)),oM 9 8,oG 10 (.mv (.t 1)) 9 false,oG 11 (.bin .gtr (.t 10) (kI 64)) 9 false,oO 12 (.pick (.t 9) (.k (.c (.d (.bool true)))) (.t 11))]) (.cond (.t 12) (.seq (.reg [oO 4 (.mv (.k (.c .nil)))]) (.ret)) (.skip))) (.seq (.reg [oM 13 1,oO 14 (.make true 1 1 (.int .u8 0) (.t 13) (.t 13)),oM 5 14]) (.seq (.seq (.reg [oM 15 1,oO 16 (.bin .sub (.t 15) (kI 1)),oM 6 16]) (.block 0 (.loop rI))) (.seq (.reg [oM 28 5,oM 4 28]) (.ret))))),[(4,none)]⟩
theorem Lj:aD Try.prog { own:=[],comp:=[],frz:=[],nils:=[] } Try.f26=some BQ:=by kernel_rfl
theorem oS (G:ak) (v n:Nat) (hn:n≤64):ap Try.prog G 26 [.int .u64 v,.int .i64 n] (.w (.c (.fr 1 ((aw v n).map bD)))):=by
  refine aI Try.func26 Lj rfl rfl ?_;have e1:IntKind.i64.wrap ((n:Int)-1)=(n:Int)-1:=IntWalk.i64_in _ (by omega);simp only[BQ,ai,wx,aa,seval,iteOmega,toNatUp,e1];refine bg (lw v n) (fun m=>m) (fun m=>m≤n) n (Rt _) ?_ ?_
  ·refine aA (fun _=>112) ?_ ?_ rfl rfl <;> simp only[wx,au,aa,seval,iteOmega,toNatUp,yi,FC,Nat.sub_self,Nat.pow_zero,Nat.div_one]
  ·intro m hm;rcases Se m with rfl | hpos
   ·simp only[rI,lw,wx,aa,seval,iteOmega,toNatUp,yh];refine en (id:=1) (n:=n) (s:=1) ?_ ?_ ?_ <;> simp only[wx,aa,seval,iteOmega,toNatUp,cX]
   ·obtain⟨i,rfl⟩:∃ i,m=i+1:=⟨m-1,by omega⟩
    have e2:((i+1:Nat):Int)-1=(i:Int):=by omega
    have hlt:i<(fp v n (i+1)).length:=by rw[q8 _ _ _ hm]; omega
    have e3:IntKind.i64.wrap ((i:Int)-1)=(i:Int)-1:=IntWalk.i64_in _ (by omega);simp only[rI,lw,wx,aa,seval,iteOmega,toNatUp,e2,e3,Sz,Sj,byte_of,fP hlt (eS _),gA,← yj _ _ _ hm,IntKind.bits];refine aX i (by omega) (by omega) (aA id ?_ ?_ rfl rfl) <;> simp only[wx,au,aa,seval,iteOmega,toNatUp];have e4:v / 256^(n-(i+1)) / 256=v / 256^(n-i):=by
      rw[show n-i=n-(i+1)+1 by omega,Nat.pow_succ,← Nat.div_div_eq_div_mul]
    simpa using congrArg (Nat.cast:Nat→Int) e4
theorem toList_mk (l:List UInt8):(⟨l.toArray⟩:ByteArray).toList=l:=Go.ByteArray.toList_mk l
theorem yk (l m:List UInt8):jx .eql ⟨l.toArray⟩ ⟨m.toArray⟩=some (.bool (l==m)):=by
  simp only[jx,toList_mk]
def z9:aG:=⟨2,10,.seq (.reg [oO 4 (.mv (.k (.c (.d (.bool false)))))]) (.seq (.reg [oM 5 0,oO 6 (.b2s (.t 5)),oM 7 1,oO 8 (.b2s (.t 7)),oO 9 (.bin .eql (.t 6) (.t 8)),oM 4 9]) (.ret)),[(4,none)]⟩
theorem JI:aD Try.prog { own:=[],comp:=[],frz:=[],nils:=[] } Try.f14=some z9:=by kernel_rfl
theorem BR (G:ak) (l m:List UInt8):ap Try.prog G 14 [.sl (l.map bD),.sl (m.map bD)] (.w (.c (.d (.bool (l==m))))):=by
  refine aI Try.func14 JI rfl rfl ?_;simp only[z9,ai,wx,aa,seval,iteOmega,toNatUp,sF,yk];exact uM (by simp only[wx,aa,seval,iteOmega,toNatUp])
theorem eJ (ls:List (List UInt8)):cH 1 (ls.map fun l=>D.sl (l.map bD))=true:=nO _ (fun _=>rfl) ls
def tu (ls:List (List UInt8)) (i:Nat):St:=⟨aV [(0,.w (.c (.d (.sl (ls.map fun l=>D.sl (l.map bD)))))),(3,.w (.c (.own 1 1 0 ((ls.take i).flatten).length))),(4,.w (.c (.d (.int .i64 (i:Int)))))],hL [(1,.row 1 (((ls.take i).flatten).map bD))],uL [1]⟩
theorem nQ {α:Type} (ls:List (List α)) (i:Nat) (h:i<ls.length):(ls.take (i+1)).flatten=(ls.take i).flatten++ls[i]:=by
  rw[Sq h,List.flatten_append]; simp
theorem tw {α:Type} (ls:List (List α)) (i:Nat) (h:i<ls.length):(ls.take i).flatten.length+ls[i].length≤ls.flatten.length:=by
  have h1:=nQ ls i h;have h2:ls.flatten=(ls.take (i+1)).flatten++(ls.drop (i+1)).flatten:=by rw[← List.flatten_append,R5]
  have h3:=congrArg List.length h2;rw[Rk,h1,Rk] at h3;omega
def ru:aK := .seq (.seq (.reg [oM 6 4,oM 7 0,oO 8 (.len (.t 7)),oO 9 (.bin .lss (.t 6) (.t 8))]) (.cond (.t 9) (.skip) (.exit 0))) (.seq (.block 1 (.reg [oM 12 3,oM 13 0,oM 14 4,oO 15 (.idxSl 1 (.t 13) (.t 14)),oO 16 (.load .sc (.t 15)),oO 17 (.app false 1 1 (.t 12) (.t 16)),oM 3 17])) (.reg [oM 10 4,oO 11 (.bin .add (.t 10) (kI 1)),oM 4 11]))
def Aa:aG:=⟨1,19,.seq (.reg [oO 2 (.mv (.k (.c .nil)))]) (.seq (.reg [oO 5 (.bldSl true 0 1 (.int .u8 0) []),oM 3 5]) (.seq (.seq (.reg [oO 4 (.mv (kI 0))]) (.block 0 (.loop ru))) (.seq (.reg [oM 18 3,oM 2 18]) (.ret)))),[(2,none)]⟩
theorem JJ:aD Try.prog { own:=[5],comp:=[],frz:=[],nils:=[] } Try.f25=some Aa:=by kernel_rfl
theorem BS (G:ak) (ls:List (List UInt8)) (hl:ls.length≤9223372036854775807) (hf:ls.flatten.length≤140737488355328):ap Try.prog G 25 [.sl (ls.map fun l=>D.sl (l.map bD))] (.w (.c (.fr 1 (ls.flatten.map bD)))):=by
  refine aI Try.func25 JJ rfl rfl ?_;simp only[Aa,ai,wx,aa,seval,iteOmega,toNatUp];refine bg (tu ls) (fun i=>ls.length-i) (fun i=>i≤ls.length) 0 (Rx _) ?_ ?_
  ·refine aA (fun _=>40) ?_ ?_ rfl rfl <;> simp only[wx,au,aa,seval,iteOmega,toNatUp]
  ·intro i hi;by_cases hlt:i<ls.length
   ·have e2:ls[i]?=some ls[i]:=Rh hlt;have e4:IntKind.i64.wrap ((i:Int)+1)=((i+1:Nat):Int):=by rw[IntWalk.i64_in _ (by omega)]; rfl
    have h5:=tw ls i hlt;simp only[ru,tu,wx,aa,seval,iteOmega,toNatUp,aR,e2,e4,SC,bW];refine aX (i+1) (by omega) (by omega) (aA (fun _=>136) ?_ ?_ rfl rfl) <;> simp only[wx,au,aa,seval,iteOmega,toNatUp,nQ ls i hlt]
   ·have:ls.take i=ls:=Ro (by omega);simp only[ru,tu,wx,aa,seval,iteOmega,toNatUp,this];refine en (id:=1) (n:=ls.flatten.length) (s:=1) ?_ ?_ ?_ <;> simp only[wx,aa,seval,iteOmega,toNatUp]
def tx (ls:List (List UInt8)) (i:Nat):St:=⟨aV [(0,.w (.c (.d (.sl (ls.map fun l=>D.sl (l.map bD)))))),(3,.w (.c (.d (.int .i64 (((ls.take i).flatten).length:Int))))),(9,.w (.c (.d (.sl (ls.map fun l=>D.sl (l.map bD)))))),(10,.w (.c (.d (.int .i64 (ls.length:Int))))),(11,.w (.c (.d (.int .i64 (i:Int)))))],hL [],uL []⟩
def tz (ls:List (List UInt8)) (i:Nat):St:=⟨aV [(6,.w (.c (.own 1 1 0 ((ls.take i).flatten).length))),(22,.w (.c (.d (.sl (ls.map fun l=>D.sl (l.map bD)))))),(23,.w (.c (.d (.int .i64 (ls.length:Int))))),(24,.w (.c (.d (.int .i64 (i:Int)))))],hL [(1,.row 1 (((ls.take i).flatten).map bD))],uL [1]⟩
def rJ:aK := .seq (.reg [oO 12 (.bin .lss (.t 11) (.t 10))]) (.seq (.cond (.t 12) (.skip) (.exit 0)) (.seq (.block 1 (.seq (.reg [oO 13 (.idxSl 1 (.t 9) (.t 11)),oO 14 (.load .sc (.t 13)),oM 5 14]) (.reg [oM 15 3,oM 16 5,oO 17 (.len (.t 16)),oO 18 (.bin .add (.t 15) (.t 17)),oM 3 18]))) (.reg [oO 19 (.bin .add (.t 11) (kI 1)),oM 11 19])))
def rK:aK := .seq (.reg [oO 25 (.bin .lss (.t 24) (.t 23))]) (.seq (.cond (.t 25) (.skip) (.exit 2)) (.seq (.block 3 (.seq (.reg [oO 26 (.idxSl 1 (.t 22) (.t 24)),oO 27 (.load .sc (.t 26)),oM 8 27]) (.reg [oM 28 6,oM 29 8,oO 30 (.app false 1 1 (.t 28) (.t 29)),oM 6 30]))) (.reg [oO 31 (.bin .add (.t 24) (kI 1)),oM 24 31])))
def BU:aG:=⟨1,33,.seq (.reg [oO 2 (.mv (.k (.c .nil)))]) (.seq (.reg [oO 3 (.mv (kI 0))]) (.seq (.seq (.reg [oM 9 0,oO 10 (.len (.t 9)),oO 11 (.mv (kI 0))]) (.block 0 (.loop rJ))) (.seq (.reg [oM 20 3,oO 21 (.make true 1 1 (.int .u8 0) (kI 0) (.t 20)),oM 6 21]) (.seq (.seq (.reg [oM 22 0,oO 23 (.len (.t 22)),oO 24 (.mv (kI 0))]) (.block 2 (.loop rK))) (.seq (.reg [oM 32 6,oM 2 32]) (.ret)))))),[(2,none)]⟩
theorem Lk:aD Try.prog { own:=[],comp:=[],frz:=[],nils:=[] } Try.f30=some BU:=by kernel_rfl
theorem dw (G:ak) (ls:List (List UInt8)) (hl:ls.length≤9223372036854775807) (hf:ls.flatten.length≤140737488355328):ap Try.prog G 30 [.sl (ls.map fun l=>D.sl (l.map bD))] (.w (.c (.fr 1 (ls.flatten.map bD)))):=by
  refine aI Try.func30 Lk rfl rfl ?_;simp only[BU,ai,wx,aa,seval,iteOmega,toNatUp];refine bg (tx ls) (fun i=>ls.length-i) (fun i=>i≤ls.length) 0 (Rx _) ?_ ?_
  ·refine aA id ?_ ?_ rfl rfl <;> simp only[wx,au,aa,seval,iteOmega,toNatUp]
  ·intro i hi;by_cases hlt:i<ls.length
   ·have e2:ls[i]?=some ls[i]:=Rh hlt;have e4:IntKind.i64.wrap ((i:Int)+1)=((i+1:Nat):Int):=by rw[IntWalk.i64_in _ (by omega)]; rfl
    have h5:=tw ls i hlt;have e5:IntKind.i64.wrap (((ls.take i).flatten.length:Int)+(ls[i].length:Int))=(((ls.take (i+1)).flatten.length:Nat):Int):=by
      rw[nQ ls i hlt,Rk,IntWalk.i64_in _ (by omega)]; rfl
    simp only[rJ,tx,wx,aa,seval,iteOmega,toNatUp,aR,e2,e4,e5];refine aX (i+1) (by omega) (by omega) (aA id ?_ ?_ rfl rfl) <;> simp only[wx,au,aa,seval,iteOmega,toNatUp]
   ·have:ls.take i=ls:=Ro (by omega);simp only[rJ,tx,wx,aa,seval,iteOmega,toNatUp,this,SC];refine bg (tz ls) (fun i=>ls.length-i) (fun i=>i≤ls.length) 0 (Rx _) ?_ ?_
    ·refine aA (fun _=>168) ?_ ?_ rfl rfl <;> simp only[wx,au,aa,seval,iteOmega,toNatUp]
    ·intro i hi;by_cases hlt:i<ls.length
     ·have e2:ls[i]?=some ls[i]:=Rh hlt;have e4:IntKind.i64.wrap ((i:Int)+1)=((i+1:Nat):Int):=by rw[IntWalk.i64_in _ (by omega)]; rfl
      have h5:=tw ls i hlt;simp only[rK,tz,wx,aa,seval,iteOmega,toNatUp,aR,e2,e4,SC,bW];refine aX (i+1) (by omega) (by omega) (aA (fun _=>240) ?_ ?_ rfl rfl) <;> simp only[wx,au,aa,seval,iteOmega,toNatUp,nQ ls i hlt]
     ·have:ls.take i=ls:=Ro (by omega);simp only[rK,tz,wx,aa,seval,iteOmega,toNatUp,this];refine en (id:=1) (n:=ls.flatten.length) (s:=1) ?_ ?_ ?_ <;> simp only[wx,aa,seval,iteOmega,toNatUp]
def gE (l:List UInt8):Nat:=l.foldl (fun a x=>(a*256+x.toNat)%18446744073709551616) 0
theorem u64_in (n:Int) (h₀:0≤n) (h₁:n<2^64):IntKind.u64.wrap n=n:=by rw[IntKind.wrap_u64]; omega
theorem JQ (x:UInt8):fa x=if c9 x 7==1 then al (c8 x 1) 27 else c8 x 1:=by
  have:=ju (p:=fun x=>fa x==if c9 x 7==1 then al (c8 x 1) 27 else c8 x 1) (by decide +kernel) x
  simpa using this
theorem Ej (x:UInt8):eL x 2=fa x:=by
  have:=ju (p:=fun x=>eL x 2==fa x) (by decide +kernel) x
  simpa using this
def uj:aG:=⟨1,11,.seq (.reg [oO 2 (.mv (.k (.c (.d (.int .u8 0)))))]) (.seq (.seq (.reg [oM 3 0,oO 4 (.bin .shr (.t 3) (.k (.c (.d (.int .u64 7))))),oO 5 (.bin .eql (.t 4) (.k (.c (.d (.int .u8 1)))))]) (.cond (.t 5) (.seq (.reg [oM 6 0,oO 7 (.bin .shl (.t 6) (.k (.c (.d (.int .u64 1))))),oO 8 (.bin .xor (.t 7) (.k (.c (.d (.int .u8 27))))),oM 2 8]) (.ret)) (.skip))) (.seq (.reg [oM 9 0,oO 10 (.bin .shl (.t 9) (.k (.c (.d (.int .u64 1))))),oM 2 10]) (.ret))),[(2,none)]⟩
theorem Nw:aD Try.prog { own:=[],comp:=[],frz:=[],nils:=[] } Try.f93=some uj:=by kernel_rfl
theorem FG (G:ak) (x:UInt8):ap Try.prog G 93 [bD x] (.w (.c (.d (bD (fa x))))):=by
  refine aI Try.func93 Nw rfl rfl ?_;have h1:=D9 x .u64 7 7 rfl (by decide);have h2:=Ni (c9 x 7) 1 1 rfl;have h3:=Ea x .u64 1 1 rfl (by decide);have h4:=Nk (c8 x 1) 27 27 rfl;rw[JQ];cases h5:c9 x 7==1
  ·rw[h5] at h2;simp only[uj,ai,h1,h2,h3,h4,ae,aa,seval,iteOmega,toNatUp,if_false,Bool.false_eq_true];exact aO
  ·rw[h5] at h2;simp only[uj,ai,h1,h2,h3,h4,ae,aa,seval,iteOmega,toNatUp,if_true];exact aO
def Gu:List UInt8:=[99,124,119,123,242,107,111,197,48,1,103,43,254,215,171,118,202,130,201,125,250,89,71,240,173,212,162,175,156,164,114,192,183,253,147,38,54,63,247,204,52,165,229,241,113,216,49,21,4,199,35,195,24,150,5,154,7,18,128,226,235,39,178,117,9,131,44,26,27,110,90,160,82,59,214,179,41,227,47,132,83,209,0,237,32,252,177,91,106,203,190,57,74,76,88,207,208,239,170,251,67,77,51,133,69,249,2,127,80,60,159,168,81,163,64,143,146,157,56,245,188,182,218,33,16,255,243,210,205,12,19,236,95,151,68,23,196,167,126,61,100,93,25,115,96,129,79,220,34,42,144,136,70,238,184,20,222,94,11,219,224,50,58,10,73,6,36,92,194,211,172,98,145,149,228,121,231,200,55,109,141,213,78,169,108,86,244,234,101,122,174,8,186,120,37,46,28,166,180,198,232,221,116,31,75,189,139,138,112,62,181,102,72,3,246,14,97,53,87,185,134,193,29,158,225,248,152,17,105,217,142,148,155,30,135,233,206,85,40,223,140,161,137,13,191,230,66,104,65,153,45,15,176,84,187,22]
theorem Lq:Gu=vz:=by decide +kernel
set_option maxRecDepth 100000 in
theorem JR:ByteArray.size ⟨#[99,124,119,123,242,107,111,197,48,1,103,43,254,215,171,118,202,130,201,125,250,89,71,240,173,212,162,175,156,164,114,192,183,253,147,38,54,63,247,204,52,165,229,241,113,216,49,21,4,199,35,195,24,150,5,154,7,18,128,226,235,39,178,117,9,131,44,26,27,110,90,160,82,59,214,179,41,227,47,132,83,209,0,237,32,252,177,91,106,203,190,57,74,76,88,207,208,239,170,251,67,77,51,133,69,249,2,127,80,60,159,168,81,163,64,143,146,157,56,245,188,182,218,33,16,255,243,210,205,12,19,236,95,151,68,23,196,167,126,61,100,93,25,115,96,129,79,220,34,42,144,136,70,238,184,20,222,94,11,219,224,50,58,10,73,6,36,92,194,211,172,98,145,149,228,121,231,200,55,109,141,213,78,169,108,86,244,234,101,122,174,8,186,120,37,46,28,166,180,198,232,221,116,31,75,189,139,138,112,62,181,102,72,3,246,14,97,53,87,185,134,193,29,158,225,248,152,17,105,217,142,148,155,30,135,233,206,85,40,223,140,161,137,13,191,230,66,104,65,153,45,15,176,84,187,22]⟩=256:=rfl
set_option maxRecDepth 100000 in
theorem Ny (x:UInt8):(ByteArray.data ⟨#[99,124,119,123,242,107,111,197,48,1,103,43,254,215,171,118,202,130,201,125,250,89,71,240,173,212,162,175,156,164,114,192,183,253,147,38,54,63,247,204,52,165,229,241,113,216,49,21,4,199,35,195,24,150,5,154,7,18,128,226,235,39,178,117,9,131,44,26,27,110,90,160,82,59,214,179,41,227,47,132,83,209,0,237,32,252,177,91,106,203,190,57,74,76,88,207,208,239,170,251,67,77,51,133,69,249,2,127,80,60,159,168,81,163,64,143,146,157,56,245,188,182,218,33,16,255,243,210,205,12,19,236,95,151,68,23,196,167,126,61,100,93,25,115,96,129,79,220,34,42,144,136,70,238,184,20,222,94,11,219,224,50,58,10,73,6,36,92,194,211,172,98,145,149,228,121,231,200,55,109,141,213,78,169,108,86,244,234,101,122,174,8,186,120,37,46,28,166,180,198,232,221,116,31,75,189,139,138,112,62,181,102,72,3,246,14,97,53,87,185,134,193,29,158,225,248,152,17,105,217,142,148,155,30,135,233,206,85,40,223,140,161,137,13,191,230,66,104,65,153,45,15,176,84,187,22]⟩).toList[x.toNat]?=some (cQ x):=by
  have e:(ByteArray.data ⟨#[99,124,119,123,242,107,111,197,48,1,103,43,254,215,171,118,202,130,201,125,250,89,71,240,173,212,162,175,156,164,114,192,183,253,147,38,54,63,247,204,52,165,229,241,113,216,49,21,4,199,35,195,24,150,5,154,7,18,128,226,235,39,178,117,9,131,44,26,27,110,90,160,82,59,214,179,41,227,47,132,83,209,0,237,32,252,177,91,106,203,190,57,74,76,88,207,208,239,170,251,67,77,51,133,69,249,2,127,80,60,159,168,81,163,64,143,146,157,56,245,188,182,218,33,16,255,243,210,205,12,19,236,95,151,68,23,196,167,126,61,100,93,25,115,96,129,79,220,34,42,144,136,70,238,184,20,222,94,11,219,224,50,58,10,73,6,36,92,194,211,172,98,145,149,228,121,231,200,55,109,141,213,78,169,108,86,244,234,101,122,174,8,186,120,37,46,28,166,180,198,232,221,116,31,75,189,139,138,112,62,181,102,72,3,246,14,97,53,87,185,134,193,29,158,225,248,152,17,105,217,142,148,155,30,135,233,206,85,40,223,140,161,137,13,191,230,66,104,65,153,45,15,176,84,187,22]⟩).toList=Gu:=rfl;rw[e,Lq]; exact JO x
set_option maxRecDepth 100000
def yo:ByteArray:=⟨#[99,124,119,123,242,107,111,197,48,1,103,43,254,215,171,118,202,130,201,125,250,89,71,240,173,212,162,175,156,164,114,192,183,253,147,38,54,63,247,204,52,165,229,241,113,216,49,21,4,199,35,195,24,150,5,154,7,18,128,226,235,39,178,117,9,131,44,26,27,110,90,160,82,59,214,179,41,227,47,132,83,209,0,237,32,252,177,91,106,203,190,57,74,76,88,207,208,239,170,251,67,77,51,133,69,249,2,127,80,60,159,168,81,163,64,143,146,157,56,245,188,182,218,33,16,255,243,210,205,12,19,236,95,151,68,23,196,167,126,61,100,93,25,115,96,129,79,220,34,42,144,136,70,238,184,20,222,94,11,219,224,50,58,10,73,6,36,92,194,211,172,98,145,149,228,121,231,200,55,109,141,213,78,169,108,86,244,234,101,122,174,8,186,120,37,46,28,166,180,198,232,221,116,31,75,189,139,138,112,62,181,102,72,3,246,14,97,53,87,185,134,193,29,158,225,248,152,17,105,217,142,148,155,30,135,233,206,85,40,223,140,161,137,13,191,230,66,104,65,153,45,15,176,84,187,22]⟩
def Ek:aG:=⟨1,5,.seq (.reg [oO 2 (.mv (.k (.c (.d (.int .u8 0)))))]) (.seq (.reg [oM 3 0,oO 4 (.idxStr (.k (.c (.d (.str yo)))) (.t 3)),oM 2 4]) (.ret)),[(2,none)]⟩
theorem Nz:aD Try.prog { own:=[],comp:=[],frz:=[],nils:=[] } Try.f103=some Ek:=by kernel_rfl
theorem mL (G:ak) (x:UInt8):ap Try.prog G 103 [bD x] (.w (.c (.d (bD (cQ x))))):=by
  refine aI Try.func103 Nz rfl rfl ?_;have h:=jl x;have e:=Ny x;simp only[Ek,yo,ai,ae,aa,seval,iteOmega,toNatUp,JR,e];exact aO
def bd (f:Nat→UInt8) (l:List UInt8) (i:Nat):List UInt8:=(List.range i).map f++l.drop i
theorem kV (f:Nat→UInt8) (l:List UInt8) {i:Nat} (h:i≤l.length):(bd f l i).length=l.length:=by
  unfold bd; rw[Rk,RD,SF,Rv]; omega
theorem me (f:Nat→UInt8) (l:List UInt8):bd f l 0=l:=by simp[bd]
theorem Ae (f:Nat→UInt8) (l:List UInt8) {i:Nat} (h:l.length≤i):bd f l i=(List.range i).map f:=by
  unfold bd; rw[Sk h,RG]
theorem BX (f:Nat→UInt8) (l:List UInt8) {i j:Nat} (hj:i≤j):(bd f l i)[j]?=l[j]?:=by
  unfold bd;rw[Sd (by simpa using hj),Sb,RD,SF,show i+(j-i)=j by omega]
theorem JS (f:Nat→UInt8) (l:List UInt8) {i j:Nat} (hj:j<i):(bd f l i)[j]?=some (f j):=by
  unfold bd;rw[R9 (by simpa using hj)];simp[hj]
theorem mf (f:Nat→UInt8) (l:List UInt8) {i:Nat} (h:i<l.length):(bd f l i).set i (f i)=bd f l (i+1):=by
  unfold bd;rw[List.set_append_right _ _ (by simp),RD,SF,Nat.sub_self,List.drop_eq_getElem_cons h,List.set_cons_zero,S6,RU,R3];rfl
theorem dd {l:List UInt8} {j:Nat} (h:j<l.length):l[j]?=some (l.getD j 0):=by
  rw[Rj,Rh h]; rfl
theorem QZ:bD 1=.int .u8 1:=rfl
set_option maxHeartbeats 1600000
def km (s k:List UInt8):List UInt8:=bp (eW (aQ s) (aQ k))
def lI (s:List UInt8):List UInt8:=bp (fQ (aQ s))
def mW (s:List UInt8):List UInt8:=bp (eX (aQ s))
theorem JU (s k:List UInt8):(km s k).length=16:=dY _
theorem sJ (s:List UInt8):(lI s).length=16:=dY _
theorem Af (s:List UInt8):(mW s).length=16:=dY _
theorem j4 (f:cF):FF (aQ (bp f)) f:=fun j hj=>by
  unfold aQ; rw[Rj,oU f hj]; rfl
theorem sK (f g:cF):km (bp f) (bp g)=bp (eW f g):=rN fun j hj=>by
  unfold eW; rw[j4 f j hj,j4 g j hj]
theorem Ag (f:cF):lI (bp f)=bp (fQ f):=rN fun j hj=>by
  unfold fQ; rw[j4 f _ (by omega)]
theorem JV (f:cF):mW (bp f)=bp (eX f):=rN fun j hj=>by
  unfold eX; rw[j4 f _ (by omega),j4 f _ (by omega),j4 f _ (by omega),j4 f _ (by omega)]
theorem eD:[D.int .u8 0,.int .u8 0,.int .u8 0,.int .u8 0,.int .u8 0,.int .u8 0,.int .u8 0,.int .u8 0,.int .u8 0,.int .u8 0,.int .u8 0,.int .u8 0,.int .u8 0,.int .u8 0,.int .u8 0,.int .u8 0]=(aZ 16 (0:UInt8)).map bD:=rfl
theorem oV (f:cF) {l:List UInt8} (h:l.length=16):bd f l 16=bp f:=Ae f l (by omega)
theorem ka (a b:Nat):Int.tmod (a:Int) (b:Int)=((a%b:Nat):Int):=rfl
def uO (s k:List UInt8) (i:Nat):St:=⟨aV [(2,.w (.c (.pa 1 1))),(4,.w (.c (.pa 2 1))),(7,.w (.c (.d (.agg (k.map bD))))),(8,.w (.c (.d (.int .i64 (i:Int)))))],hL [(1,.row 1 ((bd (eW (aQ s) (aQ k)) s i).map bD)),(2,.row 1 ((aZ 16 (0:UInt8)).map bD))],uL [1,2]⟩
def sL:aK := .seq (.reg [oO 9 (.bin .lss (.t 8) (kI 16))]) (.seq (.cond (.t 9) (.skip) (.exit 0)) (.seq (.block 1 (.seq (.reg [oM 10 8,oO 11 (.idxArr 1 16 .sc (.t 7) (.t 8)),oM 5 10,oM 6 11]) (.reg [oM 12 5,oO 13 (.idxPa 1 16 (.t 2) (.t 12)),oO 14 (.load .sc (.t 13)),oM 15 6,oO 16 (.bin .xor (.t 14) (.t 15)),oO 17 (.idxPa 1 16 (.t 2) (.t 12)),oN (.store .sc (.t 17) (.t 16))]))) (.reg [oO 18 (.bin .add (.t 8) (kI 1)),oM 8 18])))
def El:aG:=⟨2,20,.seq (.reg [oO 2 (.box .ownArr (.t 0)),oO 3 (.box .roArr (.t 1)),oO 4 (.allocArr [(.int .u8 0),(.int .u8 0),(.int .u8 0),(.int .u8 0),(.int .u8 0),(.int .u8 0),(.int .u8 0),(.int .u8 0),(.int .u8 0),(.int .u8 0),(.int .u8 0),(.int .u8 0),(.int .u8 0),(.int .u8 0),(.int .u8 0),(.int .u8 0)])]) (.seq (.seq (.reg [oO 7 (.load (.ag 16) (.t 3)),oO 8 (.mv (kI 0))]) (.block 0 (.loop sL))) (.seq (.reg [oO 19 (.load (.ag 16) (.t 2)),oN (.store (.ag 16) (.t 4) (.t 19))]) (.ret))),[(4,(some (.ag 16)))]⟩
theorem NA:aD Try.prog { own:=[2],comp:=[],frz:=[],nils:=[] } Try.f95=some El:=by kernel_rfl
theorem uP (G:ak) (s k:List UInt8) (hs:s.length=16) (hk:k.length=16):ap Try.prog G 95 [.agg (s.map bD),.agg (k.map bD)] (.w (.c (.d (.agg ((km s k).map bD))))):=by
  refine aI Try.func95 NA rfl rfl ?_;simp only[El,ai,ae,aa,seval,iteOmega,toNatUp,eD,fM,hk];refine bg (uO s k) (fun i=>16-i) (fun i=>i≤16) 0 (Rx _) ?_ ?_
  ·refine aA (fun i=>if i=1 then 16 else 32) ?_ ?_ rfl rfl <;> simp only[wx,au,aH,aa,seval,iteOmega,toNatUp,me]
  ·intro i hi;have hl:(bd (eW (aQ s) (aQ k)) s i).length=16:=by rw[kV _ _ (by omega)]; exact hs
   by_cases hlt:i<16
   ·have g1:k[i]?=some (k.getD i 0):=dd (by omega);have g2:(bd (eW (aQ s) (aQ k)) s i)[i]?=some (s.getD i 0):=by rw[BX _ _ (Rt i)]; exact dd (by omega)
    have h3:i<(bd (eW (aQ s) (aQ k)) s i).length:=by omega
    have h4:=fe (s.getD i 0) (k.getD i 0);have h5:(bd (eW (aQ s) (aQ k)) s i).set i (al (s.getD i 0) (k.getD i 0))=bd (eW (aQ s) (aQ k)) s (i+1):=mf (eW (aQ s) (aQ k)) s (by omega);simp only[sL,uO,ae,aa,seval,iteOmega,toNatUp,aR,g1,g2,h4,fP h3 (eS _),gA,h5];refine aX (i+1) (by omega) (by omega) (aA (fun i=>i) ?_ ?_ rfl rfl) <;> simp only[wx,au,aH,aa,seval,iteOmega,toNatUp]
   ·obtain rfl:i=16:=by omega
    have e:bd (eW (aQ s) (aQ k)) s 16=km s k:=oV _ hs;have e2:=JU s k;simp only[sL,uO,e,ae,aa,seval,iteOmega,toNatUp,e2,fM,bV];exact aO
def uQ (s:List UInt8) (i:Nat):St:=⟨aV [(1,.w (.c (.ra (s.map bD)))),(2,.w (.c (.pa 2 1))),(3,.w (.c (.pa 1 1))),(6,.w (.c (.d (.int .i64 (i:Int)))))],hL [(1,.row 1 ((bd (fQ (aQ s)) (aZ 16 (0:UInt8)) i).map bD)),(2,.row 1 ((aZ 16 (0:UInt8)).map bD))],uL [1,2]⟩
def rO:aK := .seq (.reg [oO 7 (.bin .lss (.t 6) (kI 16))]) (.seq (.cond (.t 7) (.skip) (.exit 0)) (.seq (.block 1 (.seq (.reg [oM 8 6,oM 4 8]) (.seq (.reg [oM 9 4,oO 10 (.bin .rem (.t 9) (kI 4)),oM 5 10]) (.reg [oM 11 4,oM 12 4,oM 13 5,oO 14 (.bin .mul (.t 13) (kI 4)),oO 15 (.bin .add (.t 12) (.t 14)),oO 16 (.bin .rem (.t 15) (kI 16)),oO 17 (.idxPa 1 16 (.t 1) (.t 16)),oO 18 (.load .sc (.t 17)),oO 19 (.call 103 [(.t 18)] none),oO 20 (.idxPa 1 16 (.t 3) (.t 11)),oN (.store .sc (.t 20) (.t 19))])))) (.reg [oO 21 (.bin .add (.t 6) (kI 1)),oM 6 21])))
def BZ:aG:=⟨1,23,.seq (.reg [oO 1 (.box .roArr (.t 0)),oO 2 (.allocArr [(.int .u8 0),(.int .u8 0),(.int .u8 0),(.int .u8 0),(.int .u8 0),(.int .u8 0),(.int .u8 0),(.int .u8 0),(.int .u8 0),(.int .u8 0),(.int .u8 0),(.int .u8 0),(.int .u8 0),(.int .u8 0),(.int .u8 0),(.int .u8 0)])]) (.seq (.reg [oO 3 (.allocArr [(.int .u8 0),(.int .u8 0),(.int .u8 0),(.int .u8 0),(.int .u8 0),(.int .u8 0),(.int .u8 0),(.int .u8 0),(.int .u8 0),(.int .u8 0),(.int .u8 0),(.int .u8 0),(.int .u8 0),(.int .u8 0),(.int .u8 0),(.int .u8 0)])]) (.seq (.seq (.reg [oO 6 (.mv (kI 0))]) (.block 0 (.loop rO))) (.seq (.reg [oO 22 (.load (.ag 16) (.t 3)),oN (.store (.ag 16) (.t 2) (.t 22))]) (.ret)))),[(2,(some (.ag 16)))]⟩
theorem Lr:aD Try.prog { own:=[],comp:=[],frz:=[],nils:=[] } Try.f97=some BZ:=by kernel_rfl
theorem Em (G:ak) (s:List UInt8) (hs:s.length=16):ap Try.prog G 97 [.agg (s.map bD)] (.w (.c (.d (.agg ((lI s).map bD))))):=by
  refine aI Try.func97 Lr rfl rfl ?_;simp only[BZ,ai,ae,aa,seval,iteOmega,toNatUp,eD];refine bg (uQ s) (fun i=>16-i) (fun i=>i≤16) 0 (Rx _) ?_ ?_
  ·refine aA (fun i=>if i=1 then 24 else 16) ?_ ?_ rfl rfl <;> simp only[wx,au,aH,aa,seval,iteOmega,toNatUp,me]
  ·intro i hi;have hl:(bd (fQ (aQ s)) (aZ 16 (0:UInt8)) i).length=16:=by rw[kV _ _ (by rw[bV]; omega),bV]
   by_cases hlt:i<16
   ·have hm:(i+i%4*4)%16=i%4+4*((i / 4+i%4)%4):=by omega
    have hm2:(i+i%4*4)%16<16:=by omega
    have g1:s[(i+i%4*4)%16]?=some (aQ s (i%4+4*((i / 4+i%4)%4))):=by rw[← hm]; exact dd (by omega)
    have h3:i<(bd (fQ (aQ s)) (aZ 16 (0:UInt8)) i).length:=by omega
    have h5:(bd (fQ (aQ s)) (aZ 16 (0:UInt8)) i).set i (cQ (aQ s (i%4+4*((i / 4+i%4)%4))))=bd (fQ (aQ s)) (aZ 16 (0:UInt8)) (i+1):=mf (fQ (aQ s)) _ (by rw[bV]; omega);have t1:Int.tmod (i:Int) 4=((i%4:Nat):Int):=ka i 4;have t2:Int.tmod ((i:Int)+((i%4:Nat):Int)*4) 16=(((i+i%4*4)%16:Nat):Int):=ka (i+i%4*4) 16;have hb:(i%4:Nat)<4:=SJ _ (by decide);generalize hq:i%4=q at *
    generalize hp:(i+q*4)%16=p at *
    simp only[rO,uQ,ae,aa,seval,iteOmega,toNatUp,aR,t1,t2,g1];refine sC (mL G (aQ s (q+4*((i / 4+q)%4)))) ?_;simp only[fP h3 (eS _),gA,h5,aR,hl,ae,aa,seval,iteOmega,toNatUp];refine aX (i+1) (by omega) (by omega) (aA (fun i=>i) ?_ ?_ rfl rfl) <;> simp only[wx,au,aH,aa,seval,iteOmega,toNatUp]
   ·obtain rfl:i=16:=by omega
    have e:bd (fQ (aQ s)) (aZ 16 (0:UInt8)) 16=lI s:=oV _ (bV _ _);have e2:=sJ s;simp only[rO,uQ,e,ae,aa,seval,iteOmega,toNatUp,e2,fM,bV];exact aO
theorem NB (a b c d:UInt8):al (al (al (fa (al a b)) b) c) d=qw a b c d:=by
  unfold qw vU;rw[Lp a b,Ej,Ej]
def uk (s:List UInt8) (i:Nat):St:=⟨aV [(1,.w (.c (.ra (s.map bD)))),(2,.w (.c (.pa 2 1))),(3,.w (.c (.pa 1 1))),(8,.w (.c (.d (.int .i64 (i:Int)))))],hL [(1,.row 1 ((bd (eX (aQ s)) (aZ 16 (0:UInt8)) i).map bD)),(2,.row 1 ((aZ 16 (0:UInt8)).map bD))],uL [1,2]⟩
def rP:aK := .seq (.reg [oO 9 (.bin .lss (.t 8) (kI 16))]) (.seq (.cond (.t 9) (.skip) (.exit 0)) (.seq (.block 1 (.seq (.reg [oM 10 8,oM 4 10]) (.seq (.reg [oM 11 4,oO 12 (.bin .rem (.t 11) (kI 4)),oM 5 12]) (.seq (.reg [oM 13 4,oM 14 5,oO 15 (.bin .sub (.t 13) (.t 14)),oM 16 4,oM 17 5,oO 18 (.bin .sub (.t 16) (.t 17)),oO 19 (.bin .add (.t 18) (kI 4)),oO 20 (.sliceArr 1 16 (.t 1) (some (.t 15)) (some (.t 19))),oM 6 20]) (.seq (.reg [oM 21 6,oM 22 5,oO 23 (.bin .add (.t 22) (kI 1)),oO 24 (.bin .rem (.t 23) (kI 4)),oO 25 (.idxSl 1 (.t 21) (.t 24)),oO 26 (.load .sc (.t 25)),oM 7 26]) (.reg [oM 27 4,oM 28 4,oO 29 (.idxPa 1 16 (.t 1) (.t 28)),oO 30 (.load .sc (.t 29)),oM 31 7,oO 32 (.bin .xor (.t 30) (.t 31)),oO 33 (.call 93 [(.t 32)] none),oM 34 7,oO 35 (.bin .xor (.t 33) (.t 34)),oM 36 6,
 oM 37 5,oO 38 (.bin .add (.t 37) (kI 2)),oO 39 (.bin .rem (.t 38) (kI 4)),oO 40 (.idxSl 1 (.t 36) (.t 39)),oO 41 (.load .sc (.t 40)),oO 42 (.bin .xor (.t 35) (.t 41)),oM 43 6,oM 44 5,oO 45 (.bin .add (.t 44) (kI 3)),oO 46 (.bin .rem (.t 45) (kI 4)),oO 47 (.idxSl 1 (.t 43) (.t 46)),oO 48 (.load .sc (.t 47)),oO 49 (.bin .xor (.t 42) (.t 48)),oO 50 (.idxPa 1 16 (.t 3) (.t 27)),oN (.store .sc (.t 50) (.t 49))])))))) (.reg [oO 51 (.bin .add (.t 8) (kI 1)),oM 8 51])))
def B0:aG:=⟨1,53,.seq (.reg [oO 1 (.box .roArr (.t 0)),oO 2 (.allocArr [(.int .u8 0),(.int .u8 0),(.int .u8 0),(.int .u8 0),(.int .u8 0),(.int .u8 0),(.int .u8 0),(.int .u8 0),(.int .u8 0),(.int .u8 0),(.int .u8 0),(.int .u8 0),(.int .u8 0),(.int .u8 0),(.int .u8 0),(.int .u8 0)])]) (.seq (.reg [oO 3 (.allocArr [(.int .u8 0),(.int .u8 0),(.int .u8 0),(.int .u8 0),(.int .u8 0),(.int .u8 0),(.int .u8 0),(.int .u8 0),(.int .u8 0),(.int .u8 0),(.int .u8 0),(.int .u8 0),(.int .u8 0),(.int .u8 0),(.int .u8 0),(.int .u8 0)])]) (.seq (.seq (.reg [oO 8 (.mv (kI 0))]) (.block 0 (.loop rP))) (.seq (.reg [oO 52 (.load (.ag 16) (.t 3)),oN (.store (.ag 16) (.t 2) (.t 52))]) (.ret)))),[(2,(some (.ag 16)))]⟩
theorem Ls:aD Try.prog { own:=[],comp:=[],frz:=[],nils:=[] } Try.f96=some B0:=by kernel_rfl
theorem NC (G:ak) (s:List UInt8) (hs:s.length=16):ap Try.prog G 96 [.agg (s.map bD)] (.w (.c (.d (.agg ((mW s).map bD))))):=by
  refine aI Try.func96 Ls rfl rfl ?_;simp only[B0,ai,ae,aa,seval,iteOmega,toNatUp,eD];refine bg (uk s) (fun i=>16-i) (fun i=>i≤16) 0 (Rx _) ?_ ?_
  ·refine aA (fun i=>if i=1 then 24 else 16) ?_ ?_ rfl rfl <;> simp only[wx,au,aH,aa,seval,iteOmega,toNatUp,me]
  ·intro i hi;have hl:(bd (eX (aQ s)) (aZ 16 (0:UInt8)) i).length=16:=by rw[kV _ _ (by rw[bV]; omega),bV]
   by_cases hlt:i<16
   ·have h3:i<(bd (eX (aQ s)) (aZ 16 (0:UInt8)) i).length:=by omega
    have h5:(bd (eX (aQ s)) (aZ 16 (0:UInt8)) i).set i (eX (aQ s) i)=bd (eX (aQ s)) (aZ 16 (0:UInt8)) (i+1):=mf (eX (aQ s)) _ (by rw[bV]; omega);have g0:s[i]?=some (aQ s i):=dd (by omega);obtain⟨q,r,hr,rfl⟩:∃ q r,r<4∧i=4*q+r:=⟨i / 4,i%4,SJ _ (by decide),by omega⟩
    have hq:q<4:=by omega
    have col:∀ j,j<4→((s.drop (4*q)).take 4)[j]?=some (aQ s (4*q+j)):=fun j hj=>by
      rw[RJ,if_pos hj,Sb]; exact dd (by omega)
    have g1:=col ((r+1)%4) (SJ _ (by decide));have g2:=col ((r+2)%4) (SJ _ (by decide));have g3:=col ((r+3)%4) (SJ _ (by decide));have t0:Int.tmod (4*(q:Int)+(r:Int)) 4=(r:Int):=by
      show Int.tmod ((4*q+r:Nat):Int) ((4:Nat):Int)=_
      rw[ka]; congr 1; omega
    have t1:Int.tmod ((r:Int)+1) 4=(((r+1)%4:Nat):Int):=ka (r+1) 4;have t2:Int.tmod ((r:Int)+2) 4=(((r+2)%4:Nat):Int):=ka (r+2) 4;have t3:Int.tmod ((r:Int)+3) 4=(((r+3)%4:Nat):Int):=ka (r+3) 4;have b1:(r+1)%4<4:=SJ _ (by decide);have b2:(r+2)%4<4:=SJ _ (by decide);have b3:(r+3)%4<4:=SJ _ (by decide);have em:eX (aQ s) (4*q+r)=qw (aQ s (4*q+r)) (aQ s (4*q+(r+1)%4)) (aQ s (4*q+(r+2)%4)) (aQ s (4*q+(r+3)%4)):=by
      unfold eX;rw[show (4*q+r) / 4=q by omega,show (4*q+r)%4=r by omega]
    rw[em,← NB] at h5;have s1:4*q+r-r=4*q:=by omega
    have s2:4*q+4-4*q=4:=by omega
    have s3:((s.drop (4*q)).take 4).length=4:=by rw[Rp,Rv]; omega
    generalize (r+1)%4=r1 at *
    generalize (r+2)%4=r2 at *
    generalize (r+3)%4=r3 at *
    generalize aQ s (4*q+r)=a at *
    generalize aQ s (4*q+r1)=b at *
    generalize aQ s (4*q+r2)=c at *
    generalize aQ s (4*q+r3)=d at *
    have x1:=fe a b;have x2:=fe (fa (al a b)) b;have x3:=fe (al (fa (al a b)) b) c;have x4:=fe (al (al (fa (al a b)) b) c) d;simp only[rP,uk,ae,aa,seval,iteOmega,toNatUp,aR,t0,t1,t2,t3,g0,g1,g2,g3,s1,s2,s3,x1];refine sC (FG G (al a b)) ?_;simp only[aR,t0,t1,t2,t3,g0,g1,g2,g3,s1,s2,s3,x2,x3,x4,fP h3 (eS _),gA,h5,hl,ae,aa,seval,iteOmega,toNatUp];refine aX (4*q+r+1) (by omega) (by omega) (aA (fun i=>i) ?_ ?_ rfl rfl) <;> simp only[wx,au,aH,aa,seval,iteOmega,toNatUp]
   ·obtain rfl:i=16:=by omega
    have e:bd (eX (aQ s)) (aZ 16 (0:UInt8)) 16=mW s:=oV _ (bV _ _);have e2:=Af s;simp only[rP,uk,e,ae,aa,seval,iteOmega,toNatUp,e2,fM,bV];exact aO
def Q0 (l:List UInt8) (c:UInt8) (j:Nat):UInt8:=if j=0 then al (cQ (l.getD 13 0)) c else if j=1 then cQ (l.getD 14 0) else if j=2 then cQ (l.getD 15 0) else cQ (l.getD 12 0)
def wV (l:List UInt8) (c:UInt8):Nat→Nat→UInt8
  | 0,j=>Q0 l c j
  | n+1,j=>if j=n%4 then al (l.getD n 0) (wV l c n (n%4)) else wV l c n j
def ez (l:List UInt8) (c:UInt8) (n:Nat):UInt8:=al (l.getD n 0) (wV l c n (n%4))
def jE (l:List UInt8) (c:UInt8):List UInt8:=bp (ez l c)
theorem ot (l:List UInt8) (c:UInt8):(jE l c).length=16:=dY _
def wL (l:List UInt8) (c:UInt8) (i:Nat):List UInt8:=(List.range 4).map (wV l c i)
theorem lc (l:List UInt8) (c:UInt8) (i:Nat):(wL l c i).length=4:=by simp[wL]
theorem um (l:List UInt8) (c:UInt8) (i:Nat) {j:Nat} (h:j<4):(wL l c i)[j]?=some (wV l c i j):=by simp[wL,h]
theorem Lt (l:List UInt8) (c:UInt8) (i:Nat):(wL l c i).set (i%4) (ez l c i)=wL l c (i+1):=by
  apply SR;intro j;by_cases hj:j<4
  ·rw[um _ _ _ hj,List.getElem?_set];by_cases e:i%4=j
   ·rw[if_pos e,if_pos (by rw[lc]; omega),wV,if_pos e.symm]; rfl
   ·rw[if_neg e,um _ _ _ hj,wV,if_neg (fun h=>e h.symm)]
  ·rw[R2 (by rw[Sy,lc]; omega),R2 (by rw[lc]; omega)]
theorem Lu (l:List UInt8) (c:UInt8):[al (cQ (l.getD 13 0)) c,cQ (l.getD 14 0),cQ (l.getD 15 0),cQ (l.getD 12 0)]=wL l c 0:=rfl
def uR (l:List UInt8) (c:UInt8) (i:Nat):St:=⟨aV [(2,.w (.c (.pa 1 1))),(4,.w (.c (.pa 2 1))),(5,.w (.c (.pa 3 1))),(22,.w (.c (.d (.int .i64 (i:Int)))))],hL [(1,.row 1 ((bd (ez l c) l i).map bD)),(2,.row 1 ((aZ 16 (0:UInt8)).map bD)),(3,.row 1 ((wL l c i).map bD))],uL [1,2,3]⟩
def sM:aK := .seq (.reg [oO 23 (.bin .lss (.t 22) (kI 16))]) (.seq (.cond (.t 23) (.skip) (.exit 0)) (.seq (.block 1 (.seq (.reg [oM 24 22,oM 6 24]) (.seq (.reg [oM 25 6,oO 26 (.idxPa 1 16 (.t 2) (.t 25)),oO 27 (.load .sc (.t 26)),oM 28 6,oO 29 (.bin .rem (.t 28) (kI 4)),oO 30 (.idxPa 1 4 (.t 5) (.t 29)),oO 31 (.load .sc (.t 30)),oO 32 (.bin .xor (.t 27) (.t 31)),oO 33 (.idxPa 1 16 (.t 2) (.t 25)),oN (.store .sc (.t 33) (.t 32))]) (.reg [oM 34 6,oO 35 (.bin .rem (.t 34) (kI 4)),oM 36 6,oO 37 (.idxPa 1 16 (.t 2) (.t 36)),oO 38 (.load .sc (.t 37)),oO 39 (.idxPa 1 4 (.t 5) (.t 35)),oN (.store .sc (.t 39) (.t 38))])))) (.reg [oO 40 (.bin .add (.t 22) (kI 1)),oM 22 40])))
def En:aG:=⟨2,42,.seq (.reg [oO 2 (.box .ownArr (.t 0)),oO 4 (.allocArr [(.int .u8 0),(.int .u8 0),(.int .u8 0),(.int .u8 0),(.int .u8 0),(.int .u8 0),(.int .u8 0),(.int .u8 0),(.int .u8 0),(.int .u8 0),(.int .u8 0),(.int .u8 0),(.int .u8 0),(.int .u8 0),(.int .u8 0),(.int .u8 0)])]) (.seq (.reg [oO 7 (.idxPa 1 16 (.t 2) (kI 13)),oO 8 (.load .sc (.t 7)),oO 9 (.call 103 [(.t 8)] none),oM 10 1,oO 11 (.bin .xor (.t 9) (.t 10)),oO 12 (.idxPa 1 16 (.t 2) (kI 14)),oO 13 (.load .sc (.t 12)),oO 14 (.call 103 [(.t 13)] none),oO 15 (.idxPa 1 16 (.t 2) (kI 15)),oO 16 (.load .sc (.t 15)),oO 17 (.call 103 [(.t 16)] none),oO 18 (.idxPa 1 16 (.t 2) (kI 12)),oO 19 (.load .sc (.t 18)),oO 20 (.call 103 [(.t 19)] none),oO 21 (.build [(.d (.int .u8 0)),(.d (.int .u8 0)),(.d (.int .u8 0)),(.d (.int .u8 0))] [(0,1,(.t 11)),(1,1,(.t 14)),(2,1,(.t 17)),(3,1,(.t 20))]),
 oO 5 (.allocArr [(.int .u8 0),(.int .u8 0),(.int .u8 0),(.int .u8 0)]),oN (.store (.ag 4) (.t 5) (.t 21))]) (.seq (.seq (.reg [oO 22 (.mv (kI 0))]) (.block 0 (.loop sM))) (.seq (.reg [oO 41 (.load (.ag 16) (.t 2)),oN (.store (.ag 16) (.t 4) (.t 41))]) (.ret)))),[(4,(some (.ag 16)))]⟩
theorem ND:aD Try.prog { own:=[2],comp:=[],frz:=[],nils:=[] } Try.f92=some En:=by kernel_rfl
set_option maxHeartbeats 3200000 in
theorem PE (G:ak) (l:List UInt8) (c:UInt8) (hl:l.length=16):ap Try.prog G 92 [.agg (l.map bD),bD c] (.w (.c (.d (.agg ((jE l c).map bD))))):=by
  refine aI Try.func92 ND rfl rfl ?_;have a13:l[13]?=some (l.getD 13 0):=dd (by omega);have a14:l[14]?=some (l.getD 14 0):=dd (by omega);have a15:l[15]?=some (l.getD 15 0):=dd (by omega);have a12:l[12]?=some (l.getD 12 0):=dd (by omega);have x0:=fe (cQ (l.getD 13 0)) c;have w0:=congrArg (List.map bD) (Lu l c);have wl:=lc l c 0;simp only[Rl,RP] at w0;simp only[En,ai,ae,aa,seval,iteOmega,toNatUp,eD,hl,aR,a13];refine sC (mL G (l.getD 13 0)) ?_;simp only[x0,aR,a14,hl,ae,aa,seval,iteOmega,toNatUp];refine sC (mL G (l.getD 14 0)) ?_;simp only[aR,a15,hl,ae,aa,seval,iteOmega,toNatUp];refine sC (mL G (l.getD 15 0)) ?_;simp only[aR,a12,hl,ae,aa,seval,iteOmega,toNatUp];refine sC (mL G (l.getD 12 0)) ?_;simp only[w0,ae,aa,seval,iteOmega,toNatUp];refine bg (uR l c) (fun i=>16-i) (fun i=>i≤16) 0 (Rx _) ?_ ?_
  ·refine aA (fun i=>if i=1 then 16 else if i=2 then 32 else 40) ?_ ?_ rfl rfl <;> simp only[wx,au,aH,aa,seval,iteOmega,toNatUp,me]
  ·intro i hi;have hu:(bd (ez l c) l i).length=16:=by rw[kV _ _ (by omega)]; exact hl
   by_cases hlt:i<16
   ·have hm:i%4<4:=SJ _ (by decide);have t1:Int.tmod (i:Int) 4=((i%4:Nat):Int):=ka i 4;have g1:(bd (ez l c) l i)[i]?=some (l.getD i 0):=by rw[BX _ _ (Rt i)]; exact dd (by omega)
    have g2:=um l c i hm;have x1:=fe (l.getD i 0) (wV l c i (i%4));have h3:i<(bd (ez l c) l i).length:=by omega
    have h4:i%4<(wL l c i).length:=by rw[lc]; exact hm
    have h5:(bd (ez l c) l i).set i (ez l c i)=bd (ez l c) l (i+1):=mf (ez l c) l (by omega);have h6:=Lt l c i;have g3:(bd (ez l c) l (i+1))[i]?=some (ez l c i):=JS _ _ (Nat.lt_succ_self i);have hf:al (l.getD i 0) (wV l c i (i%4))=ez l c i:=rfl;have hwl:=lc l c i;have hu2:(bd (ez l c) l (i+1)).length=16:=by rw[kV _ _ (by omega)]; exact hl
    generalize hq:i%4=q at *
    simp only[sM,uR,ae,aa,seval,iteOmega,toNatUp,aR,t1,g1,g2,x1,hf,fP h3 (eS _),fP h4 (eS _),gA,h5,h6,g3,hu,hu2,hwl];refine aX (i+1) (by omega) (by omega) (aA (fun i=>i) ?_ ?_ rfl rfl) <;> simp only[wx,au,aH,aa,seval,iteOmega,toNatUp]
   ·obtain rfl:i=16:=by omega
    have e:bd (ez l c) l 16=jE l c:=oV _ hl;have e2:=ot l c;simp only[sM,uR,e,ae,aa,seval,iteOmega,toNatUp,e2,fM,bV];exact aO
theorem IB {P Q:List UInt8} {k n:Nat} (h:P.length=n):(P++Q).getD (n+k) 0=Q.getD k 0:=by
  rw[Rj,Rj,Sd (by omega),h,Nat.add_sub_cancel_left]
theorem JW {P Q:List UInt8} {k n:Nat} (h:P.length=n):(P++Q).drop (n+k)=Q.drop k:=by
  rw[← h,List.drop_append,Sk (by omega),Rq,Nat.add_sub_cancel_left]
theorem nT {P Q:List UInt8} {n:Nat} (h:P.length=4*n):iO (P++Q) n=(List.range 4).map fun k=>al (Q.getD k 0) ((ly (Q.drop 12) n).getD k 0):=by
  unfold iO;refine R8 fun k _=>?_
  rw[IB h,show 12+4*n=4*n+12 by omega,JW h]
theorem PF (b0 b1 b2 b3 b4 b5 b6 b7 b8 b9 b10 b11 b12 b13 b14 b15 c:UInt8):∃ f0 f1 f2 f3,
    f0=al b0 (al (cQ b13) c)∧f1=al b1 (cQ b14)∧f2=al b2 (cQ b15)∧f3=al b3 (cQ b12) ∧
    jE [b0,b1,b2,b3,b4,b5,b6,b7,b8,b9,b10,b11,b12,b13,b14,b15] c =
      [f0,f1,f2,f3,al b4 f0,al b5 f1,al b6 f2,al b7 f3,al b8 (al b4 f0),al b9 (al b5 f1),al b10 (al b6 f2),al b11 (al b7 f3),
       al b12 (al b8 (al b4 f0)),al b13 (al b9 (al b5 f1)),al b14 (al b10 (al b6 f2)),al b15 (al b11 (al b7 f3))] :=
  ⟨_,_,_,_,rfl,rfl,rfl,rfl,rfl⟩
theorem ou (f:Nat→UInt8):(List.range 4).map f=[f 0,f 1,f 2,f 3]:=rfl
theorem JX {P:List UInt8} {r:Nat} (hP:P.length=16*r) (b0 b1 b2 b3 b4 b5 b6 b7 b8 b9 b10 b11 b12 b13 b14 b15:UInt8) (key:List UInt8)
    (h:cM key (4*r)=P++[b0,b1,b2,b3,b4,b5,b6,b7,b8,b9,b10,b11,b12,b13,b14,b15]) :
    cM key (4*(r+1))=cM key (4*r)++jE [b0,b1,b2,b3,b4,b5,b6,b7,b8,b9,b10,b11,b12,b13,b14,b15] (fq r):=by
  obtain⟨f0,f1,f2,f3,e0,e1,e2,e3,ef⟩:=PF b0 b1 b2 b3 b4 b5 b6 b7 b8 b9 b10 b11 b12 b13 b14 b15 (fq r);have m0:4*r%4=0:=by omega
  have m1:(4*r+1)%4≠0:=by omega
  have m2:(4*r+2)%4≠0:=by omega
  have m3:(4*r+3)%4≠0:=by omega
  have d0:4*r / 4=r:=by omega
  have n0:iO (cM key (4*r)) (4*r)=[f0,f1,f2,f3]:=by
    rw[h,nT (by omega),ou];unfold ly;rw[if_pos m0,d0,e0,e1,e2,e3]; rfl
  have s1:cM key (4*r+1)=(P++[b0,b1,b2,b3])++[b4,b5,b6,b7,b8,b9,b10,b11,b12,b13,b14,b15,f0,f1,f2,f3]:=by
    rw[cM,n0,h]; simp
  have n1:iO (cM key (4*r+1)) (4*r+1)=[al b4 f0,al b5 f1,al b6 f2,al b7 f3]:=by
    rw[s1,nT (by simp; omega),ou];unfold ly;rw[if_neg m1]; rfl
  have s2:cM key (4*r+2)=(P++[b0,b1,b2,b3,b4,b5,b6,b7])++[b8,b9,b10,b11,b12,b13,b14,b15,f0,f1,f2,f3,al b4 f0,al b5 f1,al b6 f2,al b7 f3]:=by
    rw[show 4*r+2=(4*r+1)+1 from rfl,cM,n1,s1]; simp
  have n2:iO (cM key (4*r+2)) (4*r+2)=[al b8 (al b4 f0),al b9 (al b5 f1),al b10 (al b6 f2),al b11 (al b7 f3)]:=by
    rw[s2,nT (by simp; omega),ou];unfold ly;rw[if_neg m2]; rfl
  have s3:cM key (4*r+3)=(P++[b0,b1,b2,b3,b4,b5,b6,b7,b8,b9,b10,b11])++[b12,b13,b14,b15,f0,f1,f2,f3,al b4 f0,al b5 f1,al b6 f2,al b7 f3,al b8 (al b4 f0),al b9 (al b5 f1),al b10 (al b6 f2),al b11 (al b7 f3)]:=by
    rw[show 4*r+3=(4*r+2)+1 from rfl,cM,n2,s2]; simp
  have n3:iO (cM key (4*r+3)) (4*r+3)=[al b12 (al b8 (al b4 f0)),al b13 (al b9 (al b5 f1)),al b14 (al b10 (al b6 f2)),al b15 (al b11 (al b7 f3))]:=by
    rw[s3,nT (by simp; omega),ou];unfold ly;rw[if_neg m3]; rfl
  rw[show 4*(r+1)=(4*r+3)+1 by omega,cM,n3,s3,ef,h];simp
def kb (key:List UInt8) (r:Nat):List UInt8:=(cM key (4*r)).drop (16*r)
theorem uo {key:List UInt8} (h:key.length=16) (r:Nat):(kb key r).length=16:=by
  unfold kb; rw[Rv,jX h]; omega
theorem NE {l:List UInt8} (h:l.length=16):∃ b0 b1 b2 b3 b4 b5 b6 b7 b8 b9 b10 b11 b12 b13 b14 b15,l=[b0,b1,b2,b3,b4,b5,b6,b7,b8,b9,b10,b11,b12,b13,b14,b15]:=by
  rcases l with _ | ⟨b0,l⟩ <;> simp at h
  rcases l with _ | ⟨b1,l⟩ <;> simp at h
  rcases l with _ | ⟨b2,l⟩ <;> simp at h
  rcases l with _ | ⟨b3,l⟩ <;> simp at h
  rcases l with _ | ⟨b4,l⟩ <;> simp at h
  rcases l with _ | ⟨b5,l⟩ <;> simp at h
  rcases l with _ | ⟨b6,l⟩ <;> simp at h
  rcases l with _ | ⟨b7,l⟩ <;> simp at h
  rcases l with _ | ⟨b8,l⟩ <;> simp at h
  rcases l with _ | ⟨b9,l⟩ <;> simp at h
  rcases l with _ | ⟨b10,l⟩ <;> simp at h
  rcases l with _ | ⟨b11,l⟩ <;> simp at h
  rcases l with _ | ⟨b12,l⟩ <;> simp at h
  rcases l with _ | ⟨b13,l⟩ <;> simp at h
  rcases l with _ | ⟨b14,l⟩ <;> simp at h
  rcases l with _ | ⟨b15,l⟩ <;> simp at h
  subst h;exact⟨_,_,_,_,_,_,_,_,_,_,_,_,_,_,_,_,rfl⟩
theorem Lv {key:List UInt8} (h:key.length=16) (r:Nat):cM key (4*(r+1))=cM key (4*r)++jE (kb key r) (fq r):=by
  obtain⟨b0,b1,b2,b3,b4,b5,b6,b7,b8,b9,b10,b11,b12,b13,b14,b15,e⟩:=NE (uo h r);rw[e];refine JX (P:=(cM key (4*r)).take (16*r)) ?_ _ _ _ _ _ _ _ _ _ _ _ _ _ _ _ _ key ?_
  ·rw[Rp,jX h]; omega
  ·rw[← e]; exact (R5 _ _).symm
def dU (key:List UInt8) (i:Nat):List UInt8:=cM key (4*i)++aZ (160-16*i) 0
theorem Lw {key:List UInt8} (h:key.length=16) {i:Nat} (hi:i≤10):(dU key i).length=176:=by
  unfold dU; rw[Rk,jX h,bV]; omega
theorem JY {key:List UInt8} (h:key.length=16):bM (aZ 176 (0:UInt8)) 0 key=dU key 0:=by
  unfold bM dU aZ;rw[List.take_zero,Rq,List.drop_replicate,h]; rfl
theorem JZ {key:List UInt8} (h:key.length=16) {i:Nat} (hi:i≤10):((dU key i).drop (i*16)).take 16=kb key i:=by
  unfold dU;rw[S0,List.drop_append_of_le_length (by rw[jX h]; omega)];exact List.take_left' (uo h i)
theorem J0 {key:List UInt8} (h:key.length=16) {i:Nat} (hi:i<10):bM (dU key i) ((i+1)*16) (jE (kb key i) (fq i))=dU key (i+1):=by
  have hl:(cM key (4*i)).length=(i+1)*16:=by rw[jX h]; omega
  unfold bM dU;rw[Lv h,List.take_append_of_le_length (by omega),Ro (by omega),ot,List.drop_append,Sk (by omega),Rq,hl]
  congr 1
  unfold aZ;rw[List.drop_replicate]
  congr 1
  omega
theorem J1 (key:List UInt8):dU key 10=aB key:=by
  unfold dU aZ aB; rw[show 160-16*10=0 from rfl,SV,RG]
set_option maxHeartbeats 3200000
def uq (key:List UInt8) (i:Nat):St:=⟨aV [(2,.w (.c (.ptr 2 1 0 0))),(3,.w (.c (.ptr 1 1 0 0))),(4,.w (.c (.d (bD (fq i))))),(5,.w (.c (.d (.int .i64 ((i+1:Nat):Int)))))],hL [(1,.box ((dU key i).map bC)),(2,.box ((aZ 176 (0:UInt8)).map bC))],uL [1,2]⟩
theorem QP:fq 0=1:=rfl
def rQ:aK := .seq (.seq (.reg [oM 10 5,oO 11 (.bin .leq (.t 10) (kI 10))]) (.cond (.t 11) (.skip) (.exit 0))) (.seq (.block 1 (.seq (.reg [oM 14 5,oM 15 5,oO 16 (.bin .sub (.t 15) (kI 1)),oO 17 (.idxPa 16 11 (.t 3) (.t 16)),oO 18 (.load (.ag 16) (.t 17)),oM 19 4,oO 20 (.call 92 [(.t 18),(.t 19)] none),oO 21 (.idxPa 16 11 (.t 3) (.t 14)),oN (.store (.ag 16) (.t 21) (.t 20))]) (.reg [oM 22 4,oO 23 (.call 93 [(.t 22)] none),oM 4 23]))) (.reg [oM 12 5,oO 13 (.bin .add (.t 12) (kI 1)),oM 5 13]))
def Ca:aG:=⟨1,25,.seq (.reg [oO 2 (.alloc (aZ 176 (.d (.int .u8 0))))]) (.seq (.reg [oO 3 (.alloc (aZ 176 (.d (.int .u8 0))))]) (.seq (.reg [oO 6 (.idxPa 16 11 (.t 3) (kI 0)),oO 7 (.sliceArr 1 16 (.t 6) none none),oM 8 0,oO 9 (.copy 1 (.t 7) (.t 8))]) (.seq (.reg [oO 4 (.mv (.k (.c (.d (.int .u8 1)))))]) (.seq (.seq (.reg [oO 5 (.mv (kI 1))]) (.block 0 (.loop rQ))) (.seq (.reg [oO 24 (.load (.ag 176) (.t 3)),oN (.store (.ag 176) (.t 2) (.t 24))]) (.ret)))))),[(2,(some (.ag 176)))]⟩
theorem Lx:aD Try.prog { own:=[],comp:=[],frz:=[],nils:=[] } Try.f84=some Ca:=by kernel_rfl
theorem Eo (G:ak) (key:List UInt8) (h:key.length=16):ap Try.prog G 84 [.sl (key.map bD)] (.w (.c (.d (.agg ((aB key).map bD))))):=by
  refine aI Try.func84 Lx rfl rfl ?_;have ht:key.take 16=key:=Ro (by omega);have h0:key++List.drop key.length (aZ 176 (0:UInt8))=dU key 0:=by rw[← JY h]; simp[bM]
  have hid:=eK (dU key 0);have hid2:=eK (aZ 176 (0:UInt8));simp only[Ca,ai,ae,aa,seval,iteOmega,toNatUp,BN,gv,bV,dK,ht,fM,mJ,JF,h0];refine bg (uq key) (fun i=>10-i) (fun i=>i≤10) 0 (Rx _) ?_ ?_
  ·refine aA (fun i=>if i=1 then 24 else 16) ?_ ?_ rfl (by simp[V.ids,W.ids,C.ids,Ob.ids,eK]) <;> simp only[wx,au,aH,aa,seval,iteOmega,toNatUp,QP,QZ,k7,eK]
  ·intro i hi;have hl:=Lw h hi;by_cases hlt:i<10
   ·have g1:=JZ h hi;have h5:List.take ((i+1)*16) (dU key i)++jE (kb key i) (fq i)++List.drop ((i+1)*16+16) (dU key i)=dU key (i+1):=by
      rw[← J0 h hlt]; unfold bM; rw[ot]
    have hf:=ot (kb key i) (fq i);have hx:fa (fq i)=fq (i+1):=rfl;have s1:((i:Int)+1-1).toNat=i:=by omega
    simp only[rQ,uq,ae,aa,seval,iteOmega,toNatUp,gv,hl,dK,gS,g1,mm];refine sC (PE G (kb key i) (fq i) (uo h i)) ?_;simp only[gv,hl,mJ,hf,dK,gS,iC,h5,ae,aa,seval,iteOmega,toNatUp];refine sC (FG G (fq i)) ?_;simp only[hx,ae,aa,seval,iteOmega,toNatUp];refine aX (i+1) (by omega) (by omega) (aA (fun i=>i) ?_ ?_ rfl (by simp[V.ids,W.ids,C.ids,Ob.ids,eK])) <;> simp only[wx,au,aH,aa,seval,iteOmega,toNatUp,k7,eK]
   ·obtain rfl:i=10:=by omega
    have e:=J1 key;have e2:=tB h;rw[e] at hl;have t1:(aB key).take 176=aB key:=Ro (by omega);have t2:List.drop 176 (aZ 176 (0:UInt8))=[]:=Sk (by rw[bV]; omega);have t3:aB key++List.drop (aB key).length (aZ 176 (0:UInt8))=aB key:=by rw[e2,t2,RG]
    simp only[rQ,uq,e,ae,aa,seval,iteOmega,toNatUp,gv,hl,e2,t1,t2,t3,mm,mJ,bV,dK,gS,iC,RG];exact my (by simp only[ae,aa,seval,iteOmega,toNatUp,gv,hl,e2,t1,t2,t3,mm,mJ,bV,dK,gS,iC,RG])
theorem J2 (l:List UInt8):cG ((l.map bD).map C.d)=some (l.map bD):=by
  induction l with
  | nil=>rfl
  | cons x l ih =>
    show cG (C.d (bD x)::(l.map bD).map C.d)=_
    simp only[cG,ih,Rl,SL]
theorem J3 (rk b:List UInt8) (hb:b.length=16):km b (bp (cR rk 0))=bp (fU (cR rk) (aQ b) 0):=by
  have:=sK (aQ b) (cR rk 0);rw[Nv hb] at this;exact this
theorem Ly (rk b:List UInt8) {n:Nat} (h:n+1<10):km (mW (lI (bp (fU (cR rk) (aQ b) n)))) (bp (cR rk (n+1)))=bp (fU (cR rk) (aQ b) (n+1)):=by
  rw[Ag,JV,sK]
  show _=bp (ui _ _ _)
  unfold ui;rw[if_pos h]
theorem J4 (rk b:List UInt8):km (lI (bp (fU (cR rk) (aQ b) 9))) (bp (cR rk 10))=db rk b:=by
  rw[Ag,sK];rfl
def uS (rk b:List UInt8) (i:Nat):St:=⟨aV [(2,.w (.c (.rp (rk.map bD)))),(4,.w (.c (.pa 2 1))),(5,.w (.c (.pa 1 1))),(6,.w (.c (.d (.int .i64 ((i+1:Nat):Int)))))],hL [(1,.row 1 ((bp (fU (cR rk) (aQ b) i)).map bD)),(2,.row 1 ((aZ 16 (0:UInt8)).map bD))],uL [1,2]⟩
def rR:aK := .seq (.seq (.reg [oM 14 6,oO 15 (.bin .lss (.t 14) (kI 10))]) (.cond (.t 15) (.skip) (.exit 0))) (.seq (.block 1 (.reg [oO 18 (.load (.ag 16) (.t 5)),oO 19 (.call 97 [(.t 18)] none),oO 20 (.call 96 [(.t 19)] none),oM 21 6,oO 22 (.idxPa 16 11 (.t 2) (.t 21)),oO 23 (.load (.ag 16) (.t 22)),oO 24 (.call 95 [(.t 20),(.t 23)] none),oN (.store (.ag 16) (.t 5) (.t 24))])) (.reg [oM 16 6,oO 17 (.bin .add (.t 16) (kI 1)),oM 6 17]))
def Cb:aG:=⟨2,30,.seq (.reg [oO 2 (.box .roBox (.t 0)),oO 4 (.allocArr [(.int .u8 0),(.int .u8 0),(.int .u8 0),(.int .u8 0),(.int .u8 0),(.int .u8 0),(.int .u8 0),(.int .u8 0),(.int .u8 0),(.int .u8 0),(.int .u8 0),(.int .u8 0),(.int .u8 0),(.int .u8 0),(.int .u8 0),(.int .u8 0)])]) (.seq (.reg [oO 5 (.allocArr [(.int .u8 0),(.int .u8 0),(.int .u8 0),(.int .u8 0),(.int .u8 0),(.int .u8 0),(.int .u8 0),(.int .u8 0),(.int .u8 0),(.int .u8 0),(.int .u8 0),(.int .u8 0),(.int .u8 0),(.int .u8 0),(.int .u8 0),(.int .u8 0)])]) (.seq (.reg [oO 7 (.sliceArr 1 16 (.t 5) none none),oM 8 1,oO 9 (.copy 1 (.t 7) (.t 8))]) (.seq (.reg [oO 10 (.load (.ag 16) (.t 5)),oO 11 (.idxPa 16 11 (.t 2) (kI 0)),oO 12 (.load (.ag 16) (.t 11)),oO 13 (.call 95 [(.t 10),(.t 12)] none),oN (.store (.ag 16) (.t 5) (.t 13))])
 (.seq (.seq (.reg [oO 6 (.mv (kI 1))]) (.block 0 (.loop rR))) (.seq (.reg [oO 25 (.load (.ag 16) (.t 5)),oO 26 (.call 97 [(.t 25)] none),oO 27 (.idxPa 16 11 (.t 2) (kI 10)),oO 28 (.load (.ag 16) (.t 27)),oO 29 (.call 95 [(.t 26),(.t 28)] none),oN (.store (.ag 16) (.t 4) (.t 29))]) (.ret)))))),[(4,(some (.ag 16)))]⟩
theorem Lz:aD Try.prog { own:=[],comp:=[],frz:=[],nils:=[] } Try.f86=some Cb:=by kernel_rfl
theorem Ep (G:ak) (rk b:List UInt8) (hk:rk.length=176) (hb:b.length=16):ap Try.prog G 86 [.agg (rk.map bD),.sl (b.map bD)] (.w (.c (.d (.agg ((db rk b).map bD))))):=by
  refine aI Try.func86 Lz rfl rfl ?_;have ht:b.take 16=b:=Ro (by omega);have key:∀ r,r≤10→(rk.drop (16*r)).take 16=bp (cR rk r):=fun r hr=>by
    apply SR;intro j;by_cases hj:j<16
    ·rw[oU _ hj,RJ,if_pos hj,Sb]; exact dd (by omega)
    ·rw[R2 (by rw[Rp]; omega),R2 (by rw[dY]; omega)]
  have d1:b++List.drop b.length (aZ 16 (0:UInt8))=b:=by rw[hb,Sk (by rw[bV]; omega),RG]
  have d2:List.drop 16 (aZ 16 (0:UInt8))=[]:=Sk (by rw[bV]; omega);have k0:=key 0 (by decide);have l0:(bp (cR rk 0)).length=16:=dY _;have t0:(bp (cR rk 0)).take 16=bp (cR rk 0):=Ro (by rw[dY]; omega);have a0:=J3 rk b hb;have la:=dY (fU (cR rk) (aQ b) 0);simp only[Nat.mul_zero,SY] at k0;simp only[Cb,ai,ae,aa,seval,iteOmega,toNatUp,eD,J2,bV,dK,ht,gS,iC,d1,d2,k0,fM,hb,l0,t0,RG,SP];refine sC (uP G b (bp (cR rk 0)) hb l0) ?_;simp only[a0,la,bV,ae,aa,seval,iteOmega,toNatUp];refine bg (uS rk b) (fun i=>9-i) (fun i=>i≤9) 0 (Rx _) ?_ ?_
  ·refine aA (fun i=>if i=1 then 40 else 32) ?_ ?_ rfl rfl <;> simp only[wx,au,aH,aa,seval,iteOmega,toNatUp]
  ·intro i hi;have le:=dY (fU (cR rk) (aQ b) i);have hr:i+1≤10:=by omega
   have k1:=key (i+1) hr;rw[S0] at k1;have l1:(bp (cR rk (i+1))).length=16:=dY _;have t1:(bp (cR rk (i+1))).take 16=bp (cR rk (i+1)):=Ro (by rw[dY]; omega);by_cases hlt:i<9
   ·have h5:=Ly rk b (n:=i) (by omega);have le2:=dY (fU (cR rk) (aQ b) (i+1));simp only[rR,uS,ae,aa,seval,iteOmega,toNatUp,le,fM];refine sD (Em G (bp (fU (cR rk) (aQ b) i)) le) ?_;refine sC (NC G _ (sJ _)) ?_;simp only[dK,gS,k1,l1,t1,ae,aa,seval,iteOmega,toNatUp];refine sC (uP G _ _ (Af _) l1) ?_;simp only[h5,le2,le,ae,aa,seval,iteOmega,toNatUp];refine aX (i+1) (by omega) (by omega) (aA (fun i=>i) ?_ ?_ rfl rfl) <;> simp only[wx,au,aH,aa,seval,iteOmega,toNatUp]
   ·obtain rfl:i=9:=by omega
    have h5:=J4 rk b;have le2:=gn rk b;simp only[rR,uS,ae,aa,seval,iteOmega,toNatUp,le,fM];refine sC (Em G (bp (fU (cR rk) (aQ b) 9)) le) ?_;simp only[dK,gS,k1,l1,t1,ae,aa,seval,iteOmega,toNatUp];refine sC (uP G _ _ (sJ _) l1) ?_;simp only[h5,le2,bV,ae,aa,seval,iteOmega,toNatUp];exact my (by simp only[ae,aa,seval,iteOmega,toNatUp,le2,fM])


theorem Ah:∀ a b:List UInt8,ct (a++b)=if (ct b).2 then ((ct a).1++(ct b).1,(ct a).2) else (a++(ct b).1,false)
  | [],b=>by
    show ct b=if (ct b).2 then ([]++(ct b).1,true) else ([]++(ct b).1,false)
    rcases ct b with ⟨s,_ | _⟩ <;> rfl
  | x::a,b=>by
    have ih:=Ah a b;simp only[Rn,ct,ih];cases h:(ct b).2
    ·simp
    ·simp only[if_true];cases h2:(ct a).2 <;> simp
def carry (c:List UInt8) (m:Nat):Prop:=(ct (c.drop m)).2=true
def dB (c:List UInt8) (m:Nat):List UInt8:=c.take m++(ct (c.drop m)).1
theorem Ai (c:List UInt8) (m:Nat):(dB c m).length=c.length:=by
  unfold dB; rw[Rk,sI,← Rk,R5]
theorem HF (c:List UInt8):dB c c.length=c:=by unfold dB; simp[ct]
theorem Hf (c:List UInt8):carry c c.length:=by unfold carry; simp[ct]
theorem IC (c:List UInt8):dB c 0=iP c:=by unfold dB iP; simp
theorem LA {c:List UInt8} {m:Nat} (h:m<c.length):(dB c (m+1))[m]?=some (c.getD m 0):=by
  unfold dB;rw[R9 (by rw[Rp]; omega),RJ,if_pos (by omega)];exact dd h
theorem yp {c:List UInt8} {m:Nat} (h:m<c.length):c.drop m=c.getD m 0::c.drop (m+1):=by
  rw[List.drop_eq_getElem_cons h,Rj,Rh h]; rfl
theorem LB {c:List UInt8} {m:Nat} (h:m<c.length) (hc:carry c (m+1)):(dB c (m+1)).set m (c.getD m 0+1)=dB c m:=by
  have e:(ct (c.drop m)).1=(c.getD m 0+1)::(ct (c.drop (m+1))).1:=by
    rw[yp h];unfold carry at hc;simp only[ct,hc,if_true]
  have e2:c.take (m+1)=c.take m++[c.getD m 0]:=by
    rw[List.take_add_one,dd h]; rfl
  unfold dB;rw[e,e2,R3,List.set_append_right _ _ (by rw[Rp]; omega),Rp,show m-min m c.length=0 by omega];rfl
theorem HG {c:List UInt8} {m:Nat} (h:m<c.length) (hc:carry c (m+1)):(ct (c.drop m)).2=(c.getD m 0+1==0):=by
  rw[yp h];unfold carry at hc;simp only[ct,hc,if_true]
theorem LC {c:List UInt8} {m:Nat} (h:(ct (c.drop m)).2=false):dB c m=iP c:=by
  have:=Ah (c.take m) (c.drop m);rw[R5,h] at this;unfold iP dB;rw[this]; rfl
theorem NF (x c:UInt8) (n:Int) (h:n=(c.toNat:Int)):ba .add (.w (.c (.d (bD x)))) (.w (.c (.d (.int .u8 n))))=some (bD (x+c)):=by
  subst h
  show aY .add .u8 (x.toNat:Int) .u8 (c.toNat:Int)=_
  rw[oc,IntKind.wrap_u8]
  show some (D.int .u8 (((x.toNat:Int)+(c.toNat:Int))%256))=_
  have:((x.toNat:Int)+(c.toNat:Int))%256=((x+c).toNat:Int):=by
    rw[UInt8.toNat_add]; simp
  rw[this]; rfl
def qy (c:List UInt8):List UInt8:=if c.length=16 then iP c else []
def qz (c:List UInt8) (m:Nat):St:=⟨aV [(3,.w (.c (.own 1 1 0 16))),(4,.w (.c (.d (.int .i64 ((m:Int)-1)))))],hL [(1,.row 1 ((dB c m).map bD))],uL [1]⟩
def ov:aK := .seq (.seq (.reg [oM 14 4,oO 15 (.bin .geq (.t 14) (kI 0))]) (.cond (.t 15) (.skip) (.exit 0))) (.seq (.block 1 (.seq (.reg [oM 18 3,oM 19 4,oO 20 (.idxSl 1 (.t 18) (.t 19)),oO 21 (.load .sc (.t 20)),oO 22 (.bin .add (.t 21) (.k (.c (.d (.int .u8 1))))),oO 23 (.idxSl 1 (.t 18) (.t 19)),oN (.store .sc (.t 23) (.t 22))]) (.seq (.reg [oM 24 3,oM 25 4,oO 26 (.idxSl 1 (.t 24) (.t 25)),oO 27 (.load .sc (.t 26)),oO 28 (.bin .neq (.t 27) (.k (.c (.d (.int .u8 0)))))]) (.cond (.t 28) (.exit 0) (.skip))))) (.reg [oM 16 4,oO 17 (.bin .sub (.t 16) (kI 1)),oM 4 17]))
def ut:aG:=⟨1,30,.seq (.reg [oO 2 (.mv (.k (.c .nil)))]) (.seq (.seq (.reg [oM 5 0,oO 6 (.len (.t 5)),oO 7 (.bin .neq (.t 6) (kI 16))]) (.cond (.t 7) (.seq (.reg [oO 2 (.mv (.k (.c .nil)))]) (.ret)) (.skip))) (.seq (.reg [oM 8 0,oO 9 (.bldSl false 1 1 (.sl []) [(0,(.t 8))]),oO 10 (.call 30 [(.t 9)] (some (0,1))),oM 3 10]) (.seq (.seq (.reg [oM 11 3,oO 12 (.len (.t 11)),oO 13 (.bin .sub (.t 12) (kI 1)),oM 4 13]) (.block 0 (.loop ov))) (.seq (.reg [oM 29 3,oM 2 29]) (.ret))))),[(2,none)]⟩
theorem NG:aD Try.prog { own:=[10],comp:=[],frz:=[],nils:=[] } Try.f87=some ut:=by kernel_rfl
theorem PG (G:ak) (c:List UInt8) (hc:c.length≤140737488355328):ap Try.prog G 87 [.sl (c.map bD)] (.w (.c (.fr 1 ((qy c).map bD)))):=by
  refine aI Try.func87 NG rfl rfl ?_;unfold qy;by_cases h:c.length=16
  ·rw[if_pos h];have hj:=dw G [c] (by simp) (by simp; omega);have hf:[c].flatten=c:=by simp
   rw[hf] at hj;have hs:=HF c;rw[h] at hs;simp only[ut,ai,ae,aa,seval,iteOmega,toNatUp,h];refine sD (hj) ?_;refine bg (qz c) (fun m=>m) (fun m=>m≤16∧carry c m) 16 ⟨Rt _,by have:=Hf c; rwa [h] at this⟩ ?_ ?_
   ·refine aA (fun i=>80) ?_ ?_ rfl rfl <;> simp only[wx,au,aH,aa,seval,iteOmega,toNatUp,hs,h] <;> rfl
   ·rintro m ⟨hm,hcar⟩;rcases m with _ | q
    ·have e0:=IC c;have hl:(iP c).length=16:=by rw[yn]; exact h
     simp only[ov,qz,e0,Td,Int.zero_sub,ae,aa,seval,iteOmega,toNatUp];exact en (id:=1) (n:=16) (s:=1) (by simp only[wx,aa,seval,iteOmega,toNatUp]) (by simp only[wx,aa,seval,iteOmega,toNatUp]) (by simp[hl])
    ·have hq:q<c.length:=by omega
     have hl1:(dB c (q+1)).length=16:=by rw[Ai]; exact h
     have hl0:(dB c q).length=16:=by rw[Ai]; exact h
     have g1:=LA hq;have h3:q<(dB c (q+1)).length:=by omega
     have h5:=LB hq hcar;have g2:(dB c q)[q]?=some (c.getD q 0+1):=by
       rw[← h5,List.getElem?_set_self (by omega)]
     have x1:=NF (c.getD q 0) 1 1 rfl;have x2:=Nj (c.getD q 0+1) 0 0 rfl;have hcs:=HG hq hcar;have sub:((q:Int)+1-1)=(q:Int):=by omega
     by_cases hz:c.getD q 0+1=0
     ·have hz2:(c.getD q 0+1 != 0)=false:=by rw[hz]; rfl
      rw[hz2] at x2;have hcar2:carry c q:=by unfold carry; rw[hcs,hz]; rfl
      simp only[ov,qz,ae,aa,seval,iteOmega,toNatUp,sub,aR,g1,x1,fP h3 (eS _),gA,h5,g2,x2,hl1,hl0];refine aX q (by omega) ⟨by omega,hcar2⟩ (aA (fun i=>i) ?_ ?_ rfl rfl) <;> simp only[wx,au,aH,aa,seval,iteOmega,toNatUp]
     ·have hz2:(c.getD q 0+1 != 0)=true:=bne_iff_ne.2 hz;rw[hz2] at x2;have e0:dB c q=iP c:=LC (by rw[hcs]; exact beq_eq_false_iff_ne.2 hz);rw[e0] at hl0 g2 h5;simp only[ov,qz,ae,aa,seval,iteOmega,toNatUp,sub,aR,g1,x1,fP h3 (eS _),gA,h5,g2,x2,hl1,e0];exact en (id:=1) (n:=16) (s:=1) (by simp only[wx,aa,seval,iteOmega,toNatUp]) (by simp only[wx,aa,seval,iteOmega,toNatUp]) (by simp[hl0])
  ·rw[if_neg h];simp only[ut,ai,ae,aa,seval,iteOmega,toNatUp];exact fy
def mX (key b:List UInt8):Int:=if key.length≠16 then 5 else if b.length≠16 then 3 else 0
def qA (key b:List UInt8):List UInt8:=if key.length=16∧b.length=16 then pt key b else []
def pu:aG:=⟨2,18,.seq (.reg [oO 4 (.mv (.k (.c .nil))),oO 5 (.mv (kI 0))]) (.seq (.seq (.reg [oM 7 0,oO 8 (.len (.t 7)),oO 9 (.bin .neq (.t 8) (kI 16))]) (.cond (.t 9) (.seq (.reg [oO 4 (.mv (.k (.c .nil))),oO 5 (.mv (kI 5))]) (.ret)) (.skip))) (.seq (.seq (.reg [oM 10 1,oO 11 (.len (.t 10)),oO 12 (.bin .neq (.t 11) (kI 16))]) (.cond (.t 12) (.seq (.reg [oO 4 (.mv (.k (.c .nil))),oO 5 (.mv (kI 3))]) (.ret)) (.skip))) (.seq (.reg [oM 13 0,oO 14 (.call 84 [(.t 13)] none),oM 15 1,oO 16 (.call 86 [(.t 14),(.t 15)] none),oO 6 (.allocArr [(.int .u8 0),(.int .u8 0),(.int .u8 0),(.int .u8 0),(.int .u8 0),(.int .u8 0),(.int .u8 0),(.int .u8 0),(.int .u8 0),(.int .u8 0),(.int .u8 0),(.int .u8 0),(.int .u8 0),(.int .u8 0),(.int .u8 0),(.int .u8 0)]),oN (.store (.ag 16) (.t 6) (.t 16))]) (.seq (.reg [oO 17 (.sliceArr 1 16 (.t 6) none none),
 oM 4 17,oO 5 (.mv (kI 0))]) (.ret))))),[(4,none),(5,none)]⟩
theorem NH:aD Try.prog { own:=[],comp:=[],frz:=[],nils:=[] } Try.f98=some pu:=by kernel_rfl
theorem uT (G:ak) (key b:List UInt8) (hk:key.length≤9223372036854775807) (hb:b.length≤9223372036854775807):ap Try.prog G 98 [.sl (key.map bD),.sl (b.map bD)] (.tup [.c (.fr 1 ((qA key b).map bD)),.c (.d (.int .i64 (mX key b)))]):=by
  refine aI Try.func98 NH rfl rfl ?_;unfold qA mX;by_cases h:key.length=16
  ·by_cases h2:b.length=16
   ·have hr:=tB h;have hl:(pt key b).length=16:=gn _ _;have ht:(pt key b).take 16=pt key b:=Ro (by omega);rw[if_pos ⟨h,h2⟩,if_neg (by simp[h]),if_neg (by simp[h2])];simp only[pu,ai,ae,aa,seval,iteOmega,toNatUp,h,h2,eD];refine sD (Eo G key h) ?_;refine sC (Ep G (aB key) b hr h2) ?_;simp only[gn,bV,hl,ae,aa,seval,iteOmega,toNatUp];exact ud (by simp only[ae,aa,seval,iteOmega,toNatUp,hY,gn,hl,gv]; rfl) (by simp only[ae,aa,seval,iteOmega,toNatUp])
   ·rw[if_neg (fun k=>h2 k.2),if_neg (by simp[h]),if_pos h2];simp only[pu,ai,ae,aa,seval,iteOmega,toNatUp,h];exact cE
  ·rw[if_neg (fun k=>h k.1),if_pos h];simp only[pu,ai,ae,aa,seval,iteOmega,toNatUp];exact cE
def kn (key:List UInt8):Int:=if key.length≠16 then 5 else 0
def fj (r n:Nat):Nat:=(n-r%n)%n
def eA (b:List UInt8) (n:Int):List UInt8:=if 1≤n∧n≤64 then b++List.replicate (fj b.length n.toNat) 0 else b
theorem Cc (b:List UInt8) {n:Nat} (h:1≤n∧n≤64):eA b (n:Int)=b++List.replicate (fj b.length n) 0:=by
  unfold eA; rw[if_pos (by omega),Int.toNat_natCast]
theorem J9 (b:List UInt8) {n:Int} (h:¬ (1≤n∧n≤64)):eA b n=b:=if_neg h
theorem Ka (r:Nat) {n:Nat} (h:1≤n):fj r n<n:=SJ _ (by omega)
theorem LD (n:Nat):aw 0 n=List.replicate n 0:=by
  unfold aw;simp only[Nat.zero_div]
  induction n with
  | zero=>rfl
  | succ n ih=>rw[S6,RU,ih,List.replicate_succ']; rfl
theorem Eq (a b:Nat):Int.tmod (a:Int) (b:Int)=((a%b:Nat):Int):=rfl
def pv:aG:=⟨2,28,.seq (.reg [oO 4 (.mv (.k (.c .nil)))]) (.seq (.seq (.reg [oM 6 1,oO 7 (.bin .lss (.t 6) (kI 1)),oM 8 7,oG 9 (.mv (.t 1)) 8 false,oG 10 (.bin .gtr (.t 9) (kI 64)) 8 false,oO 11 (.pick (.t 8) (.k (.c (.d (.bool true)))) (.t 10))]) (.cond (.t 11) (.seq (.reg [oM 12 0,oO 13 (.bldSl false 1 1 (.sl []) [(0,(.t 12))]),oO 14 (.call 30 [(.t 13)] (some (0,1))),oM 4 14]) (.ret)) (.skip))) (.seq (.reg [oM 15 1,oM 16 0,oO 17 (.len (.t 16)),oM 18 1,oO 19 (.bin .rem (.t 17) (.t 18)),oO 20 (.bin .sub (.t 15) (.t 19)),oM 21 1,oO 22 (.bin .rem (.t 20) (.t 21)),oM 5 22]) (.seq (.reg [oM 23 0,oM 24 5,oO 25 (.call 71 [(.k (.c (.d (.int .u64 0)))),(.t 24)] none),oO 26 (.bldSl false 2 1 (.sl []) [(0,(.t 23)),(1,(.t 25))]),oO 27 (.call 30 [(.t 26)] (some (0,1))),oM 4 27]) (.ret)))),[(4,none)]⟩
theorem NJ:aD Try.prog { own:=[14,27],comp:=[],frz:=[],nils:=[] } Try.f57=some pv:=by kernel_rfl
set_option maxHeartbeats 1600000 in
theorem uU (G:ak) (b:List UInt8) (n:Int) (hb:b.length≤70368744177664):ap Try.prog G 57 [.sl (b.map bD),.int .i64 n] (.w (.c (.fr 1 ((eA b n).map bD)))):=by
  refine aI Try.func57 NJ rfl rfl ?_;by_cases hc:1≤n∧n≤64
  ·obtain⟨m,rfl⟩:=Sm (show 0≤n by omega);rw[Cc b (by omega)];have hr:b.length%m<m:=SJ _ (by omega);have hk:fj b.length m=(m-b.length%m)%m:=rfl;have hlt:=Ka b.length (n:=m) (by omega);have e1:=Eq b.length m;have e2:Int.tmod ((m:Int)-((b.length%m:Nat):Int)) (m:Int)=((fj b.length m:Nat):Int):=by
     rw[show (m:Int)-((b.length%m:Nat):Int)=((m-b.length%m:Nat):Int) by omega,Eq,hk]
   have hm:((m:Int)=0)=False:=eq_false (by omega);have hp:=ue G 0 (fj b.length m) (by omega);have hj:=dw G [b,aw 0 (fj b.length m)] (by simp) (by simp[cX]; omega);have hf:[b,aw 0 (fj b.length m)].flatten=b++List.replicate (fj b.length m) 0:=by rw[LD]; simp
   rw[hf] at hj;generalize fj b.length m=k at *
   simp only[pv,ai,ae,aa,seval,iteOmega,toNatUp,e1,e2,hm];refine sD (hp) ?_;refine sD (hj) ?_;exact fy
  ·rw[J9 b hc];have hj:=dw G [b] (by simp) (by simp; omega);have hf:[b].flatten=b:=by simp
   rw[hf] at hj;by_cases h1:n<1
   ·simp only[pv,ai,ae,aa,seval,iteOmega,toNatUp];refine sD (hj) ?_;exact fy
   ·have h2:64<n:=by omega
    simp only[pv,ai,ae,aa,seval,iteOmega,toNatUp];refine sD (hj) ?_;exact fy
def dG (b:List UInt8) (j:Nat):UInt8:=if j<15 then im (c8 (b.getD j 0) 1) (c9 (b.getD (j+1) 0) 7) else c8 (b.getD j 0) 1
def fB (b:List UInt8):List UInt8:=(List.range 16).map (dG b)
theorem tC (b:List UInt8):(fB b).length=16:=by simp[fB]
theorem tD (b:List UInt8) {j:Nat} (h:j<16):(fB b)[j]?=some (dG b j):=by simp[fB,h]
def mY (b:List UInt8):UInt8:=ib (ic (b.getD 0 0) 7) 135
theorem Kb {b:List UInt8} (h:b.length=16):(fB b).set 15 (al (dG b 15) (mY b))=dC b:=by
  unfold dC;rw[if_pos h];apply SR;intro j;rw[List.getElem?_set];by_cases hj:j<16
  ·rw[oU _ hj];have hd:∀ k,aQ b k=b.getD k 0:=fun _=>rfl
   by_cases h15:15=j
   ·subst h15;rw[if_pos rfl,if_pos (by rw[tC]; decide)];simp only[dG,vA,hd,mY,Nat.lt_irrefl,if_false,if_true,ym]
   ·rw[if_neg h15,tD _ hj];have:j<15:=by omega
    simp only[dG,vA,hd,if_pos this,if_neg (show ¬ j=15 by omega),ym,NI]
  ·rw[if_neg (by omega),R2 (by rw[tC]; omega),R2 (by rw[dY]; omega)]
theorem Kc (b:List UInt8):ba .mul (.w (.c (.d (bD (c9 (b.getD 0 0) 7))))) (.w (.c (.d (.int .u8 135))))=some (bD (mY b)):=by
  have key:=ju (p:=fun x=>(c9 x 7).toNat*135%256==(ib (ic x 7) 135).toNat) (by decide +kernel) (b.getD 0 0);rw[beq_iff_eq] at key
  show aY .mul .u8 _ .u8 _=_
  rw[sB,IntKind.wrap_u8];unfold mY bD;rw[← key]
  congr 2
theorem Ke (x:UInt8):im x 0=x:=by
  have key:=ju (p:=fun x=>im x 0==x) (by decide +kernel) x;rw[beq_iff_eq] at key;exact key
theorem Q1:bD 0=.int .u8 0:=rfl
def kv (b:List UInt8) (m:Nat):UInt8:=if m<16 then c9 (b.getD m 0) 7 else 0
theorem Kf (b:List UInt8) {q:Nat} (h:q<16):im (c8 (b.getD q 0) 1) (kv b (q+1))=dG b q:=by
  unfold kv dG;by_cases h2:q<15
  ·rw[if_pos (by omega),if_pos h2]
  ·rw[if_neg (by omega),if_neg h2,Ke]
theorem NK (b:List UInt8) {q:Nat} (h:q<16):c9 (b.getD q 0) 7=kv b q:=(if_pos h).symm
def gb (l:List UInt8) (m:Nat):List UInt8:=List.replicate m 0++l.drop m
theorem LE {l:List UInt8} {m:Nat} (h:m≤l.length):(gb l m).length=l.length:=by
  unfold gb; rw[Rk,RF,Rv]; omega
theorem Kg (l:List UInt8):gb l 0=l:=by simp[gb]
theorem Kh {l:List UInt8} {m:Nat} (h:l.length=m):gb l m=List.replicate m 0:=by
  unfold gb; rw[Sk (by omega),RG]
theorem Ki {l:List UInt8} {q:Nat} (h:q<l.length):(gb l (q+1)).set q (l.getD q 0)=gb l q:=by
  unfold gb;rw[List.replicate_succ',R3,List.set_append_right _ _ (by simp),RF,Nat.sub_self,List.drop_eq_getElem_cons h,Rj,Rh h];rfl
def vB (b:List UInt8) (m:Nat):St:=⟨aV [(0,.w (.c (.d (.sl (b.map bD))))),(3,.w (.c (.own 1 1 0 16))),(4,.w (.c (.d (bD (kv b m))))),(5,.w (.c (.d (.int .i64 ((m:Int)-1)))))],hL [(1,.row 1 ((gb (fB b) m).map bD))],uL [1]⟩
theorem LF {b:List UInt8} (h:b.length≠16):dC b=[]:=if_neg h
def sO:aK := .seq (.seq (.reg [oM 10 5,oO 11 (.bin .geq (.t 10) (kI 0))]) (.cond (.t 11) (.skip) (.exit 0))) (.seq (.block 1 (.seq (.reg [oM 14 3,oM 15 5,oM 16 0,oM 17 5,oO 18 (.idxSl 1 (.t 16) (.t 17)),oO 19 (.load .sc (.t 18)),oO 20 (.bin .shl (.t 19) (.k (.c (.d (.int .u64 1))))),oM 21 4,oO 22 (.bin .or (.t 20) (.t 21)),oO 23 (.idxSl 1 (.t 14) (.t 15)),oN (.store .sc (.t 23) (.t 22))]) (.reg [oM 24 0,oM 25 5,oO 26 (.idxSl 1 (.t 24) (.t 25)),oO 27 (.load .sc (.t 26)),oO 28 (.bin .shr (.t 27) (.k (.c (.d (.int .u64 7))))),oM 4 28]))) (.reg [oM 12 5,oO 13 (.bin .sub (.t 12) (kI 1)),oM 5 13]))
def uu:aG:=⟨1,37,.seq (.reg [oO 2 (.mv (.k (.c .nil)))]) (.seq (.seq (.reg [oM 6 0,oO 7 (.len (.t 6)),oO 8 (.bin .neq (.t 7) (kI 16))]) (.cond (.t 8) (.seq (.reg [oO 2 (.mv (.k (.c .nil)))]) (.ret)) (.skip))) (.seq (.reg [oO 9 (.make true 1 1 (.int .u8 0) (kI 16) (kI 16)),oM 3 9]) (.seq (.reg [oO 4 (.mv (.k (.c (.d (.int .u8 0)))))]) (.seq (.seq (.reg [oO 5 (.mv (kI 15))]) (.block 0 (.loop sO))) (.seq (.reg [oM 29 3,oO 30 (.idxSl 1 (.t 29) (kI 15)),oO 31 (.load .sc (.t 30)),oM 32 4,oO 33 (.bin .mul (.t 32) (.k (.c (.d (.int .u8 135))))),oO 34 (.bin .xor (.t 31) (.t 33)),oO 35 (.idxSl 1 (.t 29) (kI 15)),oN (.store .sc (.t 35) (.t 34))]) (.seq (.reg [oM 36 3,oM 2 36]) (.ret))))))),[(2,none)]⟩
theorem NL:aD Try.prog { own:=[],comp:=[],frz:=[],nils:=[] } Try.f99=some uu:=by kernel_rfl
theorem pW (G:ak) (b:List UInt8) (hb:b.length≤9223372036854775807):ap Try.prog G 99 [.sl (b.map bD)] (.w (.c (.fr 1 ((dC b).map bD)))):=by
  refine aI Try.func99 NL rfl rfl ?_;by_cases h:b.length=16
  ·have hd:=Kb h;have hl:=tC b;simp only[uu,ai,ae,aa,seval,iteOmega,toNatUp,h,eD];refine bg (vB b) (fun m=>m) (fun m=>m≤16) 16 (Rt _) ?_ ?_
   ·have e1:gb (fB b) 16=aZ 16 0:=Kh hl;have e2:kv b 16=0:=rfl;refine aA (fun i=>72) ?_ ?_ rfl rfl <;> simp only[wx,au,aH,aa,seval,iteOmega,toNatUp,e1,e2,Q1]
   ·intro m hm;rcases m with _ | q
    ·have e0:=Kg (fB b);have c0:kv b 0=c9 (b.getD 0 0) 7:=rfl;have x1:=Kc b;have g1:=tD b (j:=15) (by decide);have x2:=fe (dG b 15) (mY b);have h3:15<(fB b).length:=by omega
     have hdl:(dC b).length=16:=jT h;simp only[sO,vB,e0,c0,Td,Int.zero_sub,ae,aa,seval,iteOmega,toNatUp,aR,g1,x1,x2,fP h3 (eS _),gA,hd];exact en (id:=1) (n:=16) (s:=1) (by simp only[wx,aa,seval,iteOmega,toNatUp]) (by simp only[wx,aa,seval,iteOmega,toNatUp]) (by simp[hdl])
    ·have hq:q<16:=by omega
     have g1:b[q]?=some (b.getD q 0):=dd (by omega);have hl1:=LE (l:=fB b) (m:=q+1) (by omega);have h3:q<(gb (fB b) (q+1)).length:=by omega
     have x1:=Ea (b.getD q 0) .u64 1 1 rfl (by decide);have x2:=sG (c8 (b.getD q 0) 1) (kv b (q+1));have x3:=D9 (b.getD q 0) .u64 7 7 rfl (by decide);have c1:=Kf b hq;have c2:=NK b hq;have hs:=Ki (l:=fB b) (q:=q) (by omega);have hg:(fB b).getD q 0=dG b q:=by rw[Rj,tD b hq]; rfl
     rw[hg] at hs;have sub:((q:Int)+1-1)=(q:Int):=by omega
     simp only[sO,vB,ae,aa,seval,iteOmega,toNatUp,sub,aR,g1,x1,x2,x3,c1,c2,h,fP h3 (eS _),gA,hs];refine aX q (by omega) (by omega) (aA (fun i=>i) ?_ ?_ rfl rfl) <;> simp only[wx,au,aH,aa,seval,iteOmega,toNatUp]
  ·rw[LF h];simp only[uu,ai,ae,aa,seval,iteOmega,toNatUp];exact fy
def jh (a b:List UInt8) (j:Nat):UInt8:=al (a.getD j 0) (b.getD j 0)
theorem LG {a b:List UInt8} {n:Nat} (ha:a.length=n) (hb:b.length=n):(List.range n).map (jh a b)=bS a b:=by
  apply SR;intro j;by_cases hj:j<n
  ·have:=Aj a b j (by omega) (by omega);have hl:j<(bS a b).length:=by rw[fK]; omega
   rw[dd hl,this];simp[hj,jh]
  ·rw[R2 (by simpa using hj),R2 (by rw[fK]; omega)]
def uV (a b:List UInt8) (i:Nat):St:=⟨aV [(0,.w (.c (.d (.sl (a.map bD))))),(1,.w (.c (.d (.sl (b.map bD))))),(5,.w (.c (.own 1 1 0 16))),(9,.w (.c (.d (.int .i64 16)))),(10,.w (.c (.d (.int .i64 (i:Int)))))],hL [(1,.row 1 ((bd (jh a b) (aZ 16 0) i).map bD))],uL [1]⟩
def sP:aK := .seq (.reg [oO 11 (.bin .lss (.t 10) (.t 9))]) (.seq (.cond (.t 11) (.skip) (.exit 0)) (.seq (.block 1 (.seq (.reg [oM 12 10,oM 6 12]) (.reg [oM 13 5,oM 14 6,oM 15 0,oM 16 6,oO 17 (.idxSl 1 (.t 15) (.t 16)),oO 18 (.load .sc (.t 17)),oM 19 1,oM 20 6,oO 21 (.idxSl 1 (.t 19) (.t 20)),oO 22 (.load .sc (.t 21)),oO 23 (.bin .xor (.t 18) (.t 22)),oO 24 (.idxSl 1 (.t 13) (.t 14)),oN (.store .sc (.t 24) (.t 23))]))) (.reg [oO 25 (.bin .add (.t 10) (kI 1)),oM 10 25])))
def Er:aG:=⟨2,27,.seq (.reg [oO 4 (.mv (.k (.c .nil)))]) (.seq (.reg [oO 7 (.make true 1 1 (.int .u8 0) (kI 16) (kI 16)),oM 5 7]) (.seq (.seq (.reg [oM 8 5,oO 9 (.len (.t 8)),oO 10 (.mv (kI 0))]) (.block 0 (.loop sP))) (.seq (.reg [oM 26 5,oM 4 26]) (.ret)))),[(4,none)]⟩
theorem NM:aD Try.prog { own:=[],comp:=[],frz:=[],nils:=[] } Try.f101=some Er:=by kernel_rfl
theorem ke (G:ak) (a b:List UInt8) (ha:a.length=16) (hb:b.length=16):ap Try.prog G 101 [.sl (a.map bD),.sl (b.map bD)] (.w (.c (.fr 1 ((bS a b).map bD)))):=by
  refine aI Try.func101 NM rfl rfl ?_;have zl:(aZ 16 (0:UInt8)).length=16:=bV _ _;simp only[Er,ai,ae,aa,seval,iteOmega,toNatUp,eD];refine bg (uV a b) (fun i=>16-i) (fun i=>i≤16) 0 (Rx _) ?_ ?_
  ·have e1:=me (jh a b) (aZ 16 0);refine aA (fun i=>56) ?_ ?_ rfl rfl <;> simp only[wx,au,aH,aa,seval,iteOmega,toNatUp,e1]
  ·intro i hi;by_cases hlt:i<16
   ·have g1:a[i]?=some (a.getD i 0):=dd (by omega);have g2:b[i]?=some (b.getD i 0):=dd (by omega);have hl1:=kV (jh a b) (aZ 16 0) (i:=i) (by omega);have h3:i<(bd (jh a b) (aZ 16 0) i).length:=by omega
    have x1:=fe (a.getD i 0) (b.getD i 0);have hx:al (a.getD i 0) (b.getD i 0)=jh a b i:=rfl;have hs:=mf (jh a b) (aZ 16 0) (i:=i) (by omega);simp only[sP,uV,ae,aa,seval,iteOmega,toNatUp,aR,g1,g2,x1,ha,hb,fP h3 (eS _),gA,hx,hs];refine aX (i+1) (by omega) (by omega) (aA (fun i=>i) ?_ ?_ rfl rfl) <;> simp only[wx,au,aH,aa,seval,iteOmega,toNatUp]
   ·obtain rfl:i=16:=by omega
    have e1:bd (jh a b) (aZ 16 0) 16=bS a b:=by rw[Ae _ _ (by rw[bV]; decide),LG ha hb]
    have hl:(bS a b).length=16:=by rw[fK]; exact ha
    simp only[sP,uV,e1,ae,aa,seval,iteOmega,toNatUp];exact en (id:=1) (n:=16) (s:=1) (by simp only[wx,aa,seval,iteOmega,toNatUp]) (by simp only[wx,aa,seval,iteOmega,toNatUp]) (by simp[hl])
theorem Cd {key b:List UInt8} (h:key.length=16) (hb:b.length=16):qA key b=db (aB key) b:=if_pos ⟨h,hb⟩
theorem Ce {key b:List UInt8} (h:key.length=16) (hb:b.length=16):mX key b=0:=by unfold mX; rw[if_neg (by omega),if_neg (by omega)]
theorem LH (b:List UInt8):eA b 16=fV b:=rfl
def eb (key:List UInt8):D:=.agg [.sl (key.map bD),.sl ((fW (aB key)).map bD),.sl ((iZ (aB key)).map bD)]
def nh (key:List UInt8):D:=if key.length=16 then eb key else .agg [.sl [],.sl [],.sl []]
theorem FH (s:Nat) (l:List UInt8) (k:IntKind) (n:Int):V.flat (.tup [.c (.fr s (l.map bD)),.c (.d (.int k n))])=true:=by
  have:=mU s l;simp only[V.flat,W.flat,S7,List.all_nil,S8] at this ⊢;rw[this]; rfl
def Cf:aG:=⟨2,15,.seq (.reg [oO 2 (.box .roBox (.t 0)),oO 4 (.mv (.k (.c .nil)))]) (.seq (.reg [oO 8 (.fieldAddr 0 (.t 2)),oO 9 (.load .sc (.t 8)),oM 10 1,oO 11 (.call 98 [(.t 9),(.t 10)] (some (0,1))),oM 7 11,oO 12 (.extract (.t 7) 0),oO 13 (.extract (.t 7) 1),oM 5 12,oM 6 13]) (.seq (.reg [oM 14 5,oM 4 14]) (.ret))),[(4,none)]⟩
theorem LI:aD Try.prog { own:=[],comp:=[(11,0)],frz:=[],nils:=[] } Try.f104=some Cf:=by kernel_rfl
theorem Es (G:ak) (key b:List UInt8) (h:key.length=16) (hb:b.length=16):ap Try.prog G 104 [.agg [.sl (key.map bD)],.sl (b.map bD)] (.w (.c (.fr 1 ((db (aB key) b).map bD)))):=by
  refine aI Try.func104 LI rfl rfl ?_;have hx:=uT G key b (by omega) (by omega);rw[Cd h hb,Ce h hb] at hx;simp only[Cf,ai,ae,aa,seval,iteOmega,toNatUp];refine sD (hx) ?_;exact fy
theorem NO (G:ak) (key b:List UInt8) (h:key.length=16) (hb:b.length=16):ap Try.prog G 104 [.agg [.sl (key.map bD)],.sl (b.map bD)] (.w (.c (.d (.sl ((db (aB key) b).map bD))))):=jZ (Es G key b h hb)
def tF:aG:=⟨1,25,.seq (.reg [oO 2 (.alloc [.nil,.nil,.nil]),oO 3 (.mv (kI 0))]) (.seq (.reg [oM 8 0,oO 9 (.make true 1 1 (.int .u8 0) (kI 16) (kI 16)),oO 10 (.call 98 [(.t 8),(.t 9)] none),oM 7 10,oO 11 (.extract (.t 7) 0),oO 12 (.extract (.t 7) 1),oM 4 11,oM 5 12]) (.seq (.seq (.reg [oM 13 5,oO 14 (.bin .neq (.t 13) (kI 0))]) (.cond (.t 14) (.seq (.reg [oO 15 (.build [.nil,.nil,.nil] []),oM 16 5,oN (.store (.ag 3) (.t 2) (.t 15)),oM 3 16]) (.ret)) (.skip))) (.seq (.reg [oM 17 4,oO 18 (.call 99 [(.t 17)] none),oM 6 18]) (.seq (.reg [oM 19 0,oO 20 (.build [.nil] [(0,1,(.t 19))]),oM 21 6,oM 22 6,oO 23 (.call 99 [(.t 22)] none),oO 24 (.build [.nil,.nil,.nil] [(0,1,(.t 20)),(1,1,(.t 21)),(2,1,(.t 23))]),oN (.store (.ag 3) (.t 2) (.t 24)),oO 3 (.mv (kI 0))]) (.ret))))),[(2,(some (.ag 3))),(3,none)]⟩
theorem LJ:aD Try.prog { own:=[],comp:=[],frz:=[],nils:=[] } Try.f89=some tF:=by kernel_rfl
theorem NP (G:ak) (key:List UInt8) (hk:key.length≤9223372036854775807):ap Try.prog G 89 [.sl (key.map bD)] (.tup [.c (.d (nh key)),.c (.d (.int .i64 (kn key)))]):=by
  refine aI Try.func89 LJ rfl rfl ?_;have t0:(aZ 16 (0:UInt8)).take 16=dZ:=rfl;by_cases h:key.length=16
  ·have hx:=uT G key dZ (by omega) (by decide);rw[Cd h (by decide),Ce h (by decide)] at hx;have hv:nh key=eb key:=if_pos h;have he:kn key=0:=by unfold kn; rw[if_neg (by omega)]
   have h1:=pW G (db (aB key) dZ) (by rw[gn]; decide);have h2:=pW G (fW (aB key)) (by rw[sN]; decide);have s1:dC (db (aB key) dZ)=fW (aB key):=rfl;have s2:dC (fW (aB key))=iZ (aB key):=rfl;rw[s1] at h1;rw[s2] at h2;rw[hv,he];simp only[tF,ai,ae,aa,seval,iteOmega,toNatUp,eD];refine bL hx (by simp only[ae,aa,seval,iteOmega,toNatUp,dK,t0,bV]) (.inr (FH _ _ _ _)) ?_;simp only[ae,aa,seval,iteOmega,toNatUp];refine sD (h1) ?_;refine sD (h2) ?_;exact uc (by simp only[ae,aa,seval,iteOmega,toNatUp,eb]) (by simp only[ae,aa,seval,iteOmega,toNatUp])
  ·have hv:nh key=.agg [.sl [],.sl [],.sl []]:=if_neg h;have he:kn key=5:=if_pos h;have hx:=uT G key dZ (by omega) (by decide);have v1:qA key dZ=[]:=if_neg (fun k=>h k.1);have v2:mX key dZ=5:=if_pos h;rw[v1,v2] at hx;rw[hv,he];simp only[tF,ai,ae,aa,seval,iteOmega,toNatUp,eD];refine bL hx (by simp only[ae,aa,seval,iteOmega,toNatUp,dK,t0,bV]) (.inr (FH _ _ _ _)) ?_;simp only[ae,aa,seval,iteOmega,toNatUp];exact dc
def Cg:aG:=⟨1,8,.seq (.reg [oO 2 (.mv (.k (.c .nil)))]) (.seq (.reg [oM 3 0,oO 4 (.bldSl false 1 1 (.int .u8 0) [(0,(.k (.c (.d (.int .u8 128)))))]),oO 5 (.bldSl false 2 1 (.sl []) [(0,(.t 3)),(1,(.t 4))]),oO 6 (.call 30 [(.t 5)] none),oO 7 (.call 57 [(.t 6),(kI 16)] none),oM 2 7]) (.ret)),[(2,none)]⟩
theorem LK:aD Try.prog { own:=[],comp:=[],frz:=[],nils:=[] } Try.f106=some Cg:=by kernel_rfl
theorem Et (G:ak) (b:List UInt8) (hb:b.length≤70000):ap Try.prog G 106 [.sl (b.map bD)] (.w (.c (.d (.sl ((fV (b++[128])).map bD))))):=by
  refine aI Try.func106 LK rfl rfl ?_;have hj:=dw G [b,[128]] (by simp) (by simp; omega);have hf:[b,[128]].flatten=b++[128]:=by simp
  rw[hf] at hj;have hp:=uU G (b++[128]) 16 (by simp; omega);rw[LH] at hp;simp only[Cg,ai,ae,aa,seval,iteOmega,toNatUp];refine sD (hj) ?_;refine sD (hp) ?_;exact aO
theorem ID (rk:List UInt8) {e:List UInt8} (h:e.length=16):i3 rk e=bS e (fW rk):=if_pos h
theorem IE (rk:List UInt8) {e:List UInt8} (h:e.length≠16):i3 rk e=bS (fV (e++[128])) (iZ rk):=if_neg h
def sQ:aG:=⟨2,17,.seq (.reg [oO 2 (.box .roBox (.t 0)),oO 4 (.mv (.k (.c .nil)))]) (.seq (.seq (.reg [oM 5 1,oO 6 (.len (.t 5)),oO 7 (.bin .eql (.t 6) (kI 16))]) (.cond (.t 7) (.seq (.reg [oM 8 1,oO 9 (.fieldAddr 1 (.t 2)),oO 10 (.load .sc (.t 9)),oO 11 (.call 101 [(.t 8),(.t 10)] none),oM 4 11]) (.ret)) (.skip))) (.seq (.reg [oM 12 1,oO 13 (.call 106 [(.t 12)] none),oO 14 (.fieldAddr 2 (.t 2)),oO 15 (.load .sc (.t 14)),oO 16 (.call 101 [(.t 13),(.t 15)] none),oM 4 16]) (.ret))),[(4,none)]⟩
theorem Kj:aD Try.prog { own:=[],comp:=[],frz:=[],nils:=[] } Try.f105=some sQ:=by kernel_rfl
theorem LL (G:ak) (key b:List UInt8) (hb:b.length≤16):ap Try.prog G 105 [eb key,.sl (b.map bD)] (.w (.c (.d (.sl ((i3 (aB key) b).map bD))))):=by
  refine aI Try.func105 Kj rfl rfl ?_;by_cases h:b.length=16
  ·rw[ID _ h];simp only[sQ,ai,eb,ae,aa,seval,iteOmega,toNatUp,h];refine sD (ke G b (fW (aB key)) h (sN _)) ?_;exact aO
  ·rw[IE _ h];simp only[sQ,ai,eb,ae,aa,seval,iteOmega,toNatUp];refine sD (Et G b (by omega)) ?_;refine sD (ke G (fV (b++[128])) (iZ (aB key)) (rx (by omega)) (J5 _)) ?_;exact aO
def jF (key b:List UInt8):Nat→V
  | 0=>.w (.c (.own 1 1 0 16))
  | i+1=>.w (.c (.d (.sl ((eY (aB key) b (i+1)).map bD))))
def mM (key b:List UInt8) (i:Nat):St:=⟨aV [(1,.w (.c (.d (.sl ((b.drop (16*i)).map bD))))),(2,.w (.c (.rp [.sl (key.map bD),.sl ((fW (aB key)).map bD),.sl ((iZ (aB key)).map bD)]))),(5,jF key b i)],hL [(1,.row 1 ((aZ 16 (0:UInt8)).map bD))],uL [1]⟩
theorem NQ (b:List UInt8) (i:Nat):((b.drop (16*i)).drop 16).take ((b.drop (16*i)).length-16)=b.drop (16*(i+1)):=by
  rw[List.drop_drop,Ro (by simp only[Rv]; omega)]; rfl
def l5:aK := .seq (.seq (.reg [oM 7 1,oO 8 (.len (.t 7)),oO 9 (.bin .gtr (.t 8) (kI 16))]) (.cond (.t 9) (.skip) (.exit 0))) (.block 1 (.seq (.reg [oO 10 (.fieldAddr 0 (.t 2)),oO 11 (.load (.ag 1) (.t 10)),oM 12 5,oM 13 1,oO 14 (.slice 1 (.t 13) none (some (kI 16)) none),oO 15 (.call 101 [(.t 12),(.t 14)] none),oO 16 (.call 104 [(.t 11),(.t 15)] none),oM 5 16]) (.reg [oM 17 1,oO 18 (.slice 1 (.t 17) (some (kI 16)) none none),oM 1 18])))
def Ch:aG:=⟨2,27,.seq (.reg [oO 2 (.box .roBox (.t 0)),oO 4 (.mv (.k (.c .nil)))]) (.seq (.reg [oO 6 (.make true 1 1 (.int .u8 0) (kI 16) (kI 16)),oM 5 6]) (.seq (.block 0 (.loop l5)) (.seq (.reg [oO 19 (.fieldAddr 0 (.t 2)),oO 20 (.load (.ag 1) (.t 19)),oM 21 5,oO 22 (.load (.ag 3) (.t 2)),oM 23 1,oO 24 (.call 105 [(.t 22),(.t 23)] none),oO 25 (.call 101 [(.t 21),(.t 24)] none),oO 26 (.call 104 [(.t 20),(.t 25)] (some (0,1))),oM 4 26]) (.ret)))),[(4,none)]⟩
theorem LM:aD Try.prog { own:=[26],comp:=[],frz:=[],nils:=[] } Try.f100=some Ch:=by kernel_rfl
theorem px (G:ak) (key b:List UInt8) (h:key.length=16) (hb:b.length≤70000):ap Try.prog G 100 [eb key,.sl (b.map bD)] (.w (.c (.fr 1 ((ft (aB key) b).map bD)))):=by
  refine aI Try.func100 LM rfl rfl ?_;have t0:(aZ 16 (0:UInt8)).take 16=dZ:=rfl;have hah:j5 b=(b.length+15) / 16-1:=rfl;have hm:∀ i,i=j5 b→ft (aB key) b=db (aB key) (bS (eY (aB key) b i) (i3 (aB key) (b.drop (16*i)))):=fun i e=>by rw[e]; rfl
  simp only[Ch,ai,eb,ae,aa,seval,iteOmega,toNatUp,eD];refine bg (mM key b) (fun i=>j5 b-i) (fun i=>i≤j5 b) 0 (Rx _) ?_ ?_
  ·refine aA (fun i=>48) ?_ ?_ rfl rfl <;> simp only[wx,au,aH,aa,seval,iteOmega,toNatUp,jF]
  ·intro i hi;have hcl:(b.drop (16*i)).length=b.length-16*i:=Rv;have hdr:=NQ b i;by_cases hlt:i<j5 b
   ·have hT:((b.drop (16*i)).take 16).length=16:=by rw[Rp]; omega
    have hstep:db (aB key) (bS (eY (aB key) b i) ((b.drop (16*i)).take 16))=eY (aB key) b (i+1):=rfl;have h1:=ke G (eY (aB key) b i) ((b.drop (16*i)).take 16) (ow _ _ _) hT;have h2:=NO G key (bS (eY (aB key) b i) ((b.drop (16*i)).take 16)) h (by rw[fK,ow]);rw[hstep] at h2;rcases i with _ | i
    ·have hz:eY (aB key) b 0=dZ:=rfl;rw[hz] at h1 h2;simp only[Nat.mul_zero,SY,Sz,SC] at hdr;simp only[l5,mM,jF,ae,aa,seval,iteOmega,toNatUp];refine bL h1 (by simp only[ae,aa,seval,iteOmega,toNatUp,dK,t0,bV]) (.inr (mU _ _)) ?_;simp only[ae,aa,seval,iteOmega,toNatUp];refine sC (h2) ?_;simp only[hdr,ae,aa,seval,iteOmega,toNatUp];refine aX (0+1) (by omega) (by omega) (aA (fun i=>i) ?_ ?_ rfl rfl) <;> simp only[wx,au,aH,aa,seval,iteOmega,toNatUp,jF]
    ·simp only[l5,mM,jF,ae,aa,seval,iteOmega,toNatUp];refine sD (h1) ?_;refine sC (h2) ?_;simp only[hdr,ae,aa,seval,iteOmega,toNatUp];refine aX (i+1+1) (by omega) (by omega) (aA (fun i=>i) ?_ ?_ rfl rfl) <;> simp only[wx,au,aH,aa,seval,iteOmega,toNatUp,jF]
   ·rw[hm i (by omega)];have hl16:(b.drop (16*i)).length≤16:=by omega
    have h1:=LL G key (b.drop (16*i)) hl16;have h2:=ke G (eY (aB key) b i) (i3 (aB key) (b.drop (16*i))) (ow _ _ _) (J6 hl16);have h3:=Es G key (bS (eY (aB key) b i) (i3 (aB key) (b.drop (16*i)))) h (by rw[fK,ow]);rcases i with _ | i
    ·have hz:eY (aB key) b 0=dZ:=rfl;rw[hz] at h2 h3 ⊢;simp only[l5,mM,jF,ae,aa,seval,iteOmega,toNatUp];refine sD (h1) ?_;refine bL h2 (by simp only[ae,aa,seval,iteOmega,toNatUp,dK,t0,bV]) (.inr (mU _ _)) ?_;simp only[ae,aa,seval,iteOmega,toNatUp];refine sD (h3) ?_;exact fy
    ·simp only[l5,mM,jF,ae,aa,seval,iteOmega,toNatUp];refine sD (h1) ?_;refine sD (h2) ?_;refine sD (h3) ?_;exact fy
theorem NS (G:ak) (key b:List UInt8) (h:key.length=16) (hb:b.length≤70000):ap Try.prog G 100 [eb key,.sl (b.map bD)] (.w (.c (.d (.sl ((ft (aB key) b).map bD))))):=jZ (px G key b h hb)
def tG:aG:=⟨2,26,.seq (.reg [oO 4 (.mv (.k (.c .nil)))]) (.seq (.reg [oM 6 0,oO 7 (.len (.t 6)),oO 8 (.bin .sub (.t 7) (kI 16)),oM 5 8]) (.seq (.seq (.reg [oM 9 5,oO 10 (.bin .lss (.t 9) (kI 0))]) (.cond (.t 10) (.seq (.reg [oM 11 1,oO 12 (.call 99 [(.t 11)] none),oM 13 0,oO 14 (.call 106 [(.t 13)] none),oO 15 (.call 101 [(.t 12),(.t 14)] none),oM 4 15]) (.ret)) (.skip))) (.seq (.reg [oM 16 0,oM 17 5,oO 18 (.slice 1 (.t 16) none (some (.t 17)) none),oM 19 0,oM 20 5,oO 21 (.slice 1 (.t 19) (some (.t 20)) none none),oM 22 1,oO 23 (.call 101 [(.t 21),(.t 22)] none),oO 24 (.bldSl false 2 1 (.sl []) [(0,(.t 18)),(1,(.t 23))]),oO 25 (.call 30 [(.t 24)] none),oM 4 25]) (.ret)))),[(4,none)]⟩
theorem LN:aD Try.prog { own:=[],comp:=[],frz:=[],nils:=[] } Try.f102=some tG:=by kernel_rfl
theorem NT (G:ak) (s d:List UInt8) (hs:s.length≤70000) (hd:d.length=16):ap Try.prog G 102 [.sl (s.map bD),.sl (d.map bD)] (.w (.c (.d (.sl ((if 16≤s.length then s.take (s.length-16)++bS (s.drop (s.length-16)) d else bS (dC d) (fV (s++[128]))).map bD))))):=by
  refine aI Try.func102 LN rfl rfl ?_;by_cases h:16≤s.length
  ·rw[if_pos h];have hl:(s.drop (s.length-16)).length=16:=by rw[Rv]; omega
   have ht:(s.drop (s.length-16)).take (s.length-(s.length-16))=s.drop (s.length-16):=Ro (by omega);have hj:=dw G [s.take (s.length-16),bS (s.drop (s.length-16)) d] (by simp) (by simp[fK]; omega);have hf:[s.take (s.length-16),bS (s.drop (s.length-16)) d].flatten=s.take (s.length-16)++bS (s.drop (s.length-16)) d:=by simp
   rw[hf] at hj;have e1:(((s.length:Int)-16).toNat)=s.length-16:=by omega
   simp only[tG,ai,ae,aa,seval,iteOmega,toNatUp,e1,ht];refine sD (ke G (s.drop (s.length-16)) d hl hd) ?_;refine sD (hj) ?_;exact aO
  ·rw[if_neg h];simp only[tG,ai,ae,aa,seval,iteOmega,toNatUp];refine sD (pW G d (by omega)) ?_;refine sD (Et G s (by omega)) ?_;refine sD (ke G (dC d) (fV (s++[128])) (jT hd) (rx (by omega))) ?_;exact aO
def uW (key:List UInt8) (l:List (List UInt8)) (i:Nat):St:=⟨aV [(1,.w (.c (.d (.sl (l.map fun l=>D.sl (l.map bD)))))),(2,.w (.c (.rp [.sl (key.map bD),.sl ((fW (aB key)).map bD),.sl ((iZ (aB key)).map bD)]))),(5,.w (.c (.d (.sl ((fu (aB key) l i).map bD))))),(6,.w (.c (.d (.int .i64 ((l.length:Int)-1))))),(23,.w (.c (.d (.sl ((l.take (l.length-1)).map fun l=>D.sl (l.map bD)))))),(24,.w (.c (.d (.int .i64 ((l.length:Int)-1))))),(25,.w (.c (.d (.int .i64 (i:Int)))))],hL [(1,.row 1 ((aZ 16 (0:UInt8)).map bD))],uL [1]⟩
theorem IF (rk:List UInt8) {l:List (List UInt8)} (h:l.length=0):gF rk l=ft rk (aw 1 16):=by
  unfold gF; rw[if_pos h]; congr 1
theorem IG (rk:List UInt8) {l:List (List UInt8)} (h:l.length≠0):gF rk l=ft rk (if 16≤(l.getD (l.length-1) []).length then (l.getD (l.length-1) []).take ((l.getD (l.length-1) []).length-16)++bS ((l.getD (l.length-1) []).drop ((l.getD (l.length-1) []).length-16)) (fu rk l (l.length-1)) else bS (dC (fu rk l (l.length-1))) (fV (l.getD (l.length-1) []++[128]))):=by
  unfold gF; rw[if_neg h]; dsimp only; split <;> rfl
theorem tH {l:List (List UInt8)} {j:Nat} (h:j<l.length):l[j]?=some (l.getD j []):=by
  rw[Rj,Rh h]; rfl
theorem oz {l:List (List UInt8)} {j:Nat} (h:j<l.length):l.getD j []∈l:=by
  rw[Rj,Rh h]; exact RR h
def rS:aK := .seq (.reg [oO 26 (.bin .lss (.t 25) (.t 24))]) (.seq (.cond (.t 26) (.skip) (.exit 0)) (.seq (.block 1 (.seq (.reg [oO 27 (.idxSl 1 (.t 23) (.t 25)),oO 28 (.load .sc (.t 27)),oM 8 28]) (.reg [oM 29 5,oO 30 (.call 99 [(.t 29)] none),oO 31 (.load (.ag 3) (.t 2)),oM 32 8,oO 33 (.call 100 [(.t 31),(.t 32)] none),oO 34 (.call 101 [(.t 30),(.t 33)] none),oM 5 34]))) (.reg [oO 35 (.bin .add (.t 25) (kI 1)),oM 25 35])))
def tI:aG:=⟨2,44,.seq (.reg [oO 2 (.box .roBox (.t 0)),oO 4 (.mv (.k (.c .nil)))]) (.seq (.seq (.reg [oM 9 1,oO 10 (.len (.t 9)),oO 11 (.bin .eql (.t 10) (kI 0))]) (.cond (.t 11) (.seq (.reg [oO 12 (.load (.ag 3) (.t 2)),oO 13 (.call 71 [(.k (.c (.d (.int .u64 1)))),(kI 16)] none),oO 14 (.call 100 [(.t 12),(.t 13)] (some (0,1))),oM 4 14]) (.ret)) (.skip))) (.seq (.reg [oO 15 (.load (.ag 3) (.t 2)),oO 16 (.make true 1 1 (.int .u8 0) (kI 16) (kI 16)),oO 17 (.call 100 [(.t 15),(.t 16)] none),oM 5 17]) (.seq (.reg [oM 18 1,oO 19 (.len (.t 18)),oO 20 (.bin .sub (.t 19) (kI 1)),oM 6 20]) (.seq (.seq (.reg [oM 21 1,oM 22 6,oO 23 (.slice 1 (.t 21) none (some (.t 22)) none),oO 24 (.len (.t 23)),oO 25 (.mv (kI 0))]) (.block 0 (.loop rS))) (.seq (.reg [oO 36 (.load (.ag 3) (.t 2)),oM 37 1,
 oM 38 6,oO 39 (.idxSl 1 (.t 37) (.t 38)),oO 40 (.load .sc (.t 39)),oM 41 5,oO 42 (.call 102 [(.t 40),(.t 41)] none),oO 43 (.call 100 [(.t 36),(.t 42)] (some (0,1))),oM 4 43]) (.ret)))))),[(4,none)]⟩
theorem LO:aD Try.prog { own:=[14,43],comp:=[],frz:=[],nils:=[] } Try.f90=some tI:=by kernel_rfl
theorem NU (G:ak) (key:List UInt8) (l:List (List UInt8)) (h:key.length=16) (hl:l.length≤17) (hb:∀ x∈l,x.length≤65535):ap Try.prog G 90 [eb key,.sl (l.map fun l=>D.sl (l.map bD))] (.w (.c (.fr 1 ((gF (aB key) l).map bD)))):=by
  refine aI Try.func90 LO rfl rfl ?_;have t0:(aZ 16 (0:UInt8)).take 16=dZ:=rfl;by_cases h0:l.length=0
  ·rw[IF _ h0];simp only[tI,ai,eb,ae,aa,seval,iteOmega,toNatUp,h0];refine sD (ue G 1 16 (by decide)) ?_;refine sD (px G key (aw 1 16) h (by rw[cX]; decide)) ?_;exact fy
  ·rw[IG _ h0];have e1:(((l.length:Int)-1).toNat)=l.length-1:=by omega
   have e2:(l.take (l.length-1)).length=l.length-1:=by rw[Rp]; omega
   have e3:((l.length-1:Nat):Int)=(l.length:Int)-1:=by omega
   simp only[tI,ai,eb,ae,aa,seval,iteOmega,toNatUp,eD];refine bL (px G key dZ h (by decide)) (by simp only[ae,aa,seval,iteOmega,toNatUp,dK,t0,bV,eb]) (.inr (mU _ _)) ?_;simp only[ae,aa,seval,iteOmega,toNatUp,e1,e2,e3,eJ];refine bg (uW key l) (fun i=>l.length-1-i) (fun i=>i≤l.length-1) 0 (Rx _) ?_ ?_
   ·refine aA (fun i=>128) ?_ ?_ rfl rfl <;> simp only[wx,au,aH,aa,seval,iteOmega,toNatUp,fu,e2,e3]
   ·intro i hi;have hd:=Ak (aB key) l i;by_cases hlt:i<l.length-1
    ·have g1:(l.take (l.length-1))[i]?=some (l.getD i []):=by rw[RJ,if_pos hlt,tH (by omega)]
     have hx:=hb _ (oz (l:=l) (j:=i) (by omega));have hs:bS (dC (fu (aB key) l i)) (ft (aB key) (l.getD i []))=fu (aB key) l (i+1):=rfl;have h1:=pW G (fu (aB key) l i) (by omega);have h2:=NS G key (l.getD i []) h (by omega);have h3:=ke G (dC (fu (aB key) l i)) (ft (aB key) (l.getD i [])) (jT hd) (ox _ _);rw[hs] at h3;simp only[rS,uW,ae,aa,seval,iteOmega,toNatUp,aR,g1,e2,e3];refine sD (h1) ?_;refine sD (h2) ?_;refine sD (h3) ?_;refine aX (i+1) (by omega) (by omega) (aA (fun i=>i) ?_ ?_ rfl rfl) <;> simp only[wx,au,aH,aa,seval,iteOmega,toNatUp]
    ·obtain rfl:i=l.length-1:=by omega
     have g1:l[l.length-1]?=some (l.getD (l.length-1) []):=tH (by omega);have hx:=hb _ (oz (l:=l) (j:=l.length-1) (by omega));have h1:=NT G (l.getD (l.length-1) []) (fu (aB key) l (l.length-1)) (by omega) hd;have hcl:∀ s d:List UInt8,s.length≤65535→d.length=16→(if 16≤s.length then s.take (s.length-16)++bS (s.drop (s.length-16)) d else bS (dC d) (fV (s++[128]))).length≤70000:=by
       intro s d h1 h2;split
       ·rw[Rk,fK,← Rk,R5]; omega
       ·rw[fK,jT h2]; decide
     have h2:=px G key _ h (hcl _ _ hx hd);simp only[rS,uW,ae,aa,seval,iteOmega,toNatUp,aR,g1,e1,e3];refine sD (h1) ?_;refine sD (h2) ?_;exact fy
def hH (l:List (List UInt8)):Bool:=l.any fun x=>decide (65535<x.length)
def qB (key:List UInt8) (l:List (List UInt8)):Int:=if key.length≠16 then 5 else if 17<l.length then 8 else if hH l=true then 2 else 0
def vC (key:List UInt8) (l:List (List UInt8)):List UInt8:=if key.length=16∧l.length≤17∧hH l=false then gF (aB key) l else []
theorem Kk {l:List (List UInt8)} (h:∀ j,j<l.length→(l.getD j []).length≤65535):hH l=false:=by
  unfold hH;rw[SE];intro x hx;obtain⟨j,hj,rfl⟩:=RY hx;have:=h j hj;rw[Rj,Rh hj] at this
  simpa using this
theorem IH {l:List (List UInt8)} {j:Nat} (hj:j<l.length) (h:65535<(l.getD j []).length):hH l=true:=by
  unfold hH;rw[List.any_eq_true];exact⟨_,oz hj,decide_eq_true h⟩
theorem II {l:List (List UInt8)} (h:hH l=false):∀ x∈l,x.length≤65535:=by
  unfold hH at h;rw[SE] at h;intro x hx;have:=h x hx
  simpa using this
def pX (key:List UInt8) (l:List (List UInt8)) (i:Nat):St:=⟨aV [(1,.w (.c (.d (.sl (l.map fun l=>D.sl (l.map bD)))))),(6,.w (.c (.ptr 1 1 0 0))),(21,.w (.c (.d (.sl (l.map fun l=>D.sl (l.map bD)))))),(22,.w (.c (.d (.int .i64 (l.length:Int))))),(23,.w (.c (.d (.int .i64 (i:Int)))))],hL [(1,.box [.d (.sl (key.map bD)),.d (.sl ((fW (aB key)).map bD)),.d (.sl ((iZ (aB key)).map bD))])],uL [1]⟩
def nU:aK := .seq (.reg [oO 24 (.bin .lss (.t 23) (.t 22))]) (.seq (.cond (.t 24) (.skip) (.exit 0)) (.seq (.block 1 (.seq (.reg [oO 25 (.idxSl 1 (.t 21) (.t 23)),oO 26 (.load .sc (.t 25)),oM 9 26]) (.seq (.reg [oM 27 9,oO 28 (.len (.t 27)),oO 29 (.bin .gtr (.t 28) (kI 65535))]) (.cond (.t 29) (.seq (.reg [oO 4 (.mv (.k (.c .nil))),oO 5 (.mv (kI 2))]) (.ret)) (.skip))))) (.reg [oO 30 (.bin .add (.t 23) (kI 1)),oM 23 30])))
def oW:aG:=⟨2,34,.seq (.reg [oO 4 (.mv (.k (.c .nil))),oO 5 (.mv (kI 0))]) (.seq (.reg [oM 11 0,oO 12 (.call 89 [(.t 11)] none),oM 10 12,oO 13 (.extract (.t 10) 0),oO 14 (.extract (.t 10) 1),oO 6 (.alloc [.nil,.nil,.nil]),oN (.store (.ag 3) (.t 6) (.t 13)),oM 7 14]) (.seq (.seq (.reg [oM 15 7,oO 16 (.bin .neq (.t 15) (kI 0))]) (.cond (.t 16) (.seq (.reg [oM 17 7,oO 4 (.mv (.k (.c .nil))),oM 5 17]) (.ret)) (.skip))) (.seq (.seq (.reg [oM 18 1,oO 19 (.len (.t 18)),oO 20 (.bin .gtr (.t 19) (kI 17))]) (.cond (.t 20) (.seq (.reg [oO 4 (.mv (.k (.c .nil))),oO 5 (.mv (kI 8))]) (.ret)) (.skip))) (.seq (.seq (.reg [oM 21 1,oO 22 (.len (.t 21)),oO 23 (.mv (kI 0))]) (.block 0 (.loop nU))) (.seq (.reg [oO 31 (.load (.ag 3) (.t 6)),oM 32 1,oO 33 (.call 90 [(.t 31),(.t 32)] (some (0,1))),oM 4 33,
 oO 5 (.mv (kI 0))]) (.ret)))))),[(4,none),(5,none)]⟩
theorem LP:aD Try.prog { own:=[33],comp:=[],frz:=[],nils:=[] } Try.f79=some oW:=by kernel_rfl
theorem NV (G:ak) (key:List UInt8) (l:List (List UInt8)) (hk:key.length≤9223372036854775807) (hl:l.length≤9223372036854775807) (hb:∀ x∈l,x.length≤9223372036854775807):ap Try.prog G 79 [.sl (key.map bD),.sl (l.map fun l=>D.sl (l.map bD))] (.tup [.c (.fr 1 ((vC key l).map bD)),.c (.d (.int .i64 (qB key l)))]):=by
  refine aI Try.func79 LP rfl rfl ?_;have hx:=NP G key hk;unfold vC qB;by_cases h:key.length=16
  ·have hv:nh key=eb key:=if_pos h;have he:kn key=0:=by unfold kn; rw[if_neg (by omega)]
   rw[hv,he] at hx;by_cases h2:l.length≤17
   ·rw[if_neg (by omega:¬ key.length≠16),if_neg (by omega:¬ 17<l.length)];simp only[oW,ai,ae,aa,seval,iteOmega,toNatUp];refine sC (hx) ?_;simp only[eb,ae,aa,seval,iteOmega,toNatUp];refine bg (pX key l) (fun i=>l.length-i) (fun i=>i≤l.length∧∀ j,j<i→(l.getD j []).length≤65535) 0 ⟨Rx _,fun j hj=>by omega⟩ ?_ ?_
    ·refine aA (fun i=>48) ?_ ?_ rfl rfl <;> simp only[wx,au,aH,aa,seval,iteOmega,toNatUp]
    ·rintro i ⟨hi,hok⟩;by_cases hlt:i<l.length
     ·have g1:=tH hlt;have hx:=hb _ (oz hlt);by_cases hlong:65535<(l.getD i []).length
      ·have hL:=IH hlt hlong;rw[hL,if_neg (by simp),if_pos rfl];simp only[nU,pX,ae,aa,seval,iteOmega,toNatUp,aR,g1];exact cE
      ·simp only[nU,pX,ae,aa,seval,iteOmega,toNatUp,aR,g1];refine aX (i+1) (by omega) ⟨by omega,fun j hj=>?_⟩ (aA (fun i=>i) ?_ ?_ rfl rfl)
       ·rcases R7 j i with h | h
        ·exact hok j h
        ·obtain rfl:j=i:=by omega
         omega
       all_goals simp only[wx,au,aH,aa,seval,iteOmega,toNatUp]
     ·have hL:=Kk (l:=l) (fun j hj=>hok j (by omega));rw[hL,if_pos ⟨h,h2,rfl⟩,if_neg (by simp)];simp only[nU,pX,ae,aa,seval,iteOmega,toNatUp];refine sD (NU G key l h h2 (II hL)) ?_;exact cE
   ·rw[if_neg (by omega),if_neg (by omega),if_pos (by omega)];have h3:17<l.length:=by omega
    simp only[oW,ai,ae,aa,seval,iteOmega,toNatUp];refine sC (hx) ?_;simp only[eb,ae,aa,seval,iteOmega,toNatUp];exact cE
  ·have hv:nh key=.agg [.sl [],.sl [],.sl []]:=if_neg h;have he:kn key=5:=if_pos h;rw[hv,he] at hx;rw[if_neg (by omega),if_pos h];simp only[oW,ai,ae,aa,seval,iteOmega,toNatUp];refine sD (hx) ?_;exact cE

theorem Al (rk c:List UInt8) {n k:Nat} (hk:k<16):∀ {m:Nat},n<m→(lH rk c m)[16*n+k]?=(db rk (dA c n))[k]?
  | 0,h=>by omega
  | m+1,h=>by
    rw[lH];by_cases e:n=m
    ·subst e;rw[Sd (by rw[mc]; omega),mc,Nat.add_sub_cancel_left]
    ·rw[R9 (by rw[mc]; omega)];exact Al rk c hk (by omega)
theorem Kl (rk c b:List UInt8) {n k:Nat} (hk:k<16) (h:16*n+k<b.length):(eT rk c b)[16*n+k]?=some (al (b.getD (16*n+k) 0) ((db rk (dA c n)).getD k 0)):=by
  unfold eT qx;rw[List.getElem?_zipWith,Al rk c hk (by omega),dd h,dd (by rw[gn]; exact hk)]
def oT (rk c b:List UInt8) (j:Nat):List UInt8:=(eT rk c b).take j
theorem Eu (rk c b:List UInt8) (j:Nat):(oT rk c b j).length=min j b.length:=by unfold oT; rw[Rp,nS]
theorem oY (rk c b:List UInt8) {j:Nat} (h:b.length≤j):oT rk c b j=eT rk c b:=Ro (by rw[nS]; exact h)
theorem LQ (rk c b:List UInt8) {n k:Nat} (hk:k<16) (h:16*n+k<b.length):oT rk c b (16*n+k)++[al (b.getD (16*n+k) 0) ((db rk (dA c n)).getD k 0)]=oT rk c b (16*n+k+1):=by
  unfold oT; rw[List.take_add_one,Kl rk c b hk h]; rfl
theorem tJ {c:List UInt8} (h:c.length=16) (n:Nat):(dA c n).length=16:=by rw[Ad]; exact h
theorem Km {c:List UInt8} (h:c.length=16) (n:Nat):qy (dA c n)=dA c (n+1):=by unfold qy; rw[if_pos (tJ h n)]; rfl
def hO (key c b:List UInt8):Int:=if key.length≠16 then 5 else if c.length≠16 then 3 else if 65535<b.length then 2 else 0
def pY (key c b:List UInt8):List UInt8:=if key.length=16∧c.length=16∧b.length≤65535 then eT (aB key) c b else []
theorem IJ {key:List UInt8} (c b:List UInt8) (h:key.length≠16):hO key c b=5:=if_pos h
theorem IK {key c:List UInt8} (b:List UInt8) (h:key.length=16) (h2:c.length≠16):hO key c b=3:=by unfold hO; rw[if_neg (by simp[h]),if_pos h2]
theorem HH {key c b:List UInt8} (h:key.length=16) (h2:c.length=16) (h3:65535<b.length):hO key c b=2:=by unfold hO; rw[if_neg (by simp[h]),if_neg (by simp[h2]),if_pos h3]
theorem Kn {key c b:List UInt8} (h:key.length=16) (h2:c.length=16) (h3:b.length≤65535):hO key c b=0:=by unfold hO; rw[if_neg (by simp[h]),if_neg (by simp[h2]),if_neg (by omega)]
theorem Ko {key c b:List UInt8} (h:key.length=16) (h2:c.length=16) (h3:b.length≤65535):pY key c b=eT (aB key) c b:=if_pos ⟨h,h2,h3⟩
theorem sR {key c b:List UInt8} (h:¬ (key.length=16∧c.length=16∧b.length≤65535)):pY key c b=[]:=if_neg h
theorem Q2 (rk c b:List UInt8):oT rk c b 0=[]:=List.take_zero

theorem PI (s:Nat) (l:List UInt8) (k:IntKind) (n:Int):V.flat (.tup [.c (.fr s (l.map bD)),.c (.d (.int k n))])=true:=by
  have:=mU s l;simp only[V.flat,W.flat,S7,List.all_nil,S8] at this ⊢;rw[this]; rfl
def Ew:aG:=⟨2,10,.seq (.reg [oO 4 (.mv (.k (.c (.d (.bool false)))))]) (.seq (.reg [oM 5 0,oO 6 (.b2s (.t 5)),oM 7 1,oO 8 (.b2s (.t 7)),oO 9 (.bin .eql (.t 6) (.t 8)),oM 4 9]) (.ret)),[(4,none)]⟩
theorem N0:aD Try.prog { own:=[],comp:=[],frz:=[],nils:=[] } Try.f65=some Ew:=by kernel_rfl
theorem PK (G:ak) (l m:List UInt8):ap Try.prog G 65 [.sl (l.map bD),.sl (m.map bD)] (.w (.c (.d (.bool (l==m))))):=by
  refine aI Try.func65 N0 rfl rfl ?_;simp only[Ew,ai,wx,aa,seval,iteOmega,toNatUp,sF,yk];exact uM (by simp only[wx,aa,seval,iteOmega,toNatUp])
def Cj:aG:=⟨2,8,.seq (.reg [oO 4 (.mv (.k (.c (.d (.bool false)))))]) (.seq (.reg [oM 5 0,oM 6 1,oO 7 (.call 65 [(.t 5),(.t 6)] none),oM 4 7]) (.ret)),[(4,none)]⟩
theorem LS:aD Try.prog { own:=[],comp:=[],frz:=[],nils:=[] } Try.f46=some Cj:=by kernel_rfl
theorem Ex (G:ak) (l m:List UInt8):ap Try.prog G 46 [.sl (l.map bD),.sl (m.map bD)] (.w (.c (.d (.bool (l==m))))):=by
  refine aI Try.func46 LS rfl rfl ?_;simp only[Cj,ai,ae,aa,seval,iteOmega,toNatUp];refine sD (PK G l m) ?_;exact aO
structure Hd where
  lp:Int
  vr:Int
  md:Int
  st:Int
  pl:Int
  pr:Int
  rd:Nat
  rp:Nat
  ri:Nat
  rf:Nat
  og:Nat
  rc:Nat
  tr:Nat
def Hd.z:Hd:=⟨0,0,0,0,0,0,0,0,0,0,0,0,0⟩
def ni (h:Hd):Prop:=0≤h.lp∧h.lp≤3∧(h.vr=3∨h.vr=4)∧0≤h.md∧h.md≤7∧0≤h.st∧h.st≤255∧-128≤h.pl∧h.pl≤127∧-128≤h.pr∧h.pr≤127
instance (h:Hd):Decidable (ni h):=by unfold ni; infer_instance
def i6 (h:Hd):Bool:=decide (ni h)
def qJ (h:Hd):Prop:=h.rd<4294967296∧h.rp<4294967296∧h.ri<4294967296∧h.rf<18446744073709551616∧h.og<18446744073709551616∧h.rc<18446744073709551616∧h.tr<18446744073709551616
def dt (v:Int):UInt8:=UInt8.ofNat (v%256).toNat
def Gv (b:UInt8):Int:=if b.toNat>127 then (b.toNat:Int)-256 else (b.toNat:Int)
def qK (h:Hd):List UInt8:=aw h.rd 4++(aw h.rp 4++(aw h.ri 4++(aw h.rf 8++(aw h.og 8++(aw h.rc 8++aw h.tr 8)))))
def fC (h:Hd):List UInt8:=[dt (h.lp*64+h.vr*8+h.md),dt h.st,dt h.pl,dt h.pr]++qK h
theorem L3 (h:Hd):(qK h).length=44:=by simp[qK,cX]
theorem L4 (h:Hd):(fC h).length=48:=by unfold fC; rw[Rk,L3]; rfl
def eZ (l:List UInt8) (a n:Nat):List UInt8:=(l.drop a).take n
def qL (l:List UInt8):Hd:=⟨((l.getD 0 0).toNat / 64:Nat),((l.getD 0 0).toNat / 8%8:Nat),((l.getD 0 0).toNat%8:Nat),((l.getD 1 0).toNat:Nat),Gv (l.getD 2 0),Gv (l.getD 3 0),
  gE (eZ l 4 4),gE (eZ l 8 4),gE (eZ l 12 4),gE (eZ l 16 8),gE (eZ l 24 8),gE (eZ l 32 8),gE (eZ l 40 8)⟩
theorem fR (G:ak) (v:Nat) (k:Int) (hk:0≤k∧k≤64):ap Try.prog G 71 [.int .u64 (v:Int),.int .i64 k] (.w (.c (.fr 1 ((aw v k.toNat).map bD)))):=by
  have c:=FD G v k;rw[show qv v k=aw v k.toNat from if_pos hk] at c;exact c


def fh:List UInt32:=[0x6a09e667,0xbb67ae85,0x3c6ef372,0xa54ff53a,0x510e527f,0x9b05688c,0x1f83d9ab,0x5be0cd19]
def cp:List UInt32:=[
  0x428a2f98,0x71374491,0xb5c0fbcf,0xe9b5dba5,0x3956c25b,0x59f111f1,0x923f82a4,0xab1c5ed5,
  0xd807aa98,0x12835b01,0x243185be,0x550c7dc3,0x72be5d74,0x80deb1fe,0x9bdc06a7,0xc19bf174,
  0xe49b69c1,0xefbe4786,0x0fc19dc6,0x240ca1cc,0x2de92c6f,0x4a7484aa,0x5cb0a9dc,0x76f988da,
  0x983e5152,0xa831c66d,0xb00327c8,0xbf597fc7,0xc6e00bf3,0xd5a79147,0x06ca6351,0x14292967,
  0x27b70a85,0x2e1b2138,0x4d2c6dfc,0x53380d13,0x650a7354,0x766a0abb,0x81c2c92e,0x92722c85,
  0xa2bfe8a1,0xa81a664b,0xc24b8b70,0xc76c51a3,0xd192e819,0xd6990624,0xf40e3585,0x106aa070,
  0x19a4c116,0x1e376c08,0x2748774c,0x34b0bcb5,0x391c0cb3,0x4ed8aa4a,0x5b9cca4f,0x682e6ff3,
  0x748f82ee,0x78a5636f,0x84c87814,0x8cc70208,0x90befffa,0xa4506ceb,0xbef9a3f7,0xc67178f2]
theorem xh:fh.length=8:=rfl
theorem nG:cp.length=64:=rfl
def bI (b:List UInt8) (t:Nat):UInt32 :=
  je (je (je (ia (iL (b.getD (4*t) 0)) 24) (ia (iL (b.getD (4*t+1) 0)) 16)) (ia (iL (b.getD (4*t+2) 0)) 8)) (iL (b.getD (4*t+3) 0))
def iG (x:UInt32):UInt32:=c7 (c7 (fo x 7) (fo x 18)) (iY x 3)
def iH (y:UInt32):UInt32:=c7 (c7 (fo y 17) (fo y 19)) (iY y 10)
def kh (s:List UInt32) (t:Nat):UInt32 :=
  aT (aT (aT (iH (s.getD (t-2) 0)) (s.getD (t-7) 0)) (iG (s.getD (t-15) 0))) (s.getD (t-16) 0)
def fN (b:List UInt8) (n:Nat):List UInt32:=(List.range n).map (bI b)
def bR (b:List UInt8):Nat→List UInt32
  | 0=>fN b 16
  | n+1=>bR b n++[kh (bR b n) (16+n)]
def eV (b:List UInt8):List UInt32:=bR b 48
theorem KC (b:List UInt8) (m:Nat) (h:m=48):eV b=bR b m:=by rw[h]; rfl
def ii (e:UInt32):UInt32:=c7 (c7 (fo e 6) (fo e 11)) (fo e 25)
def i9 (a:UInt32):UInt32:=c7 (c7 (fo a 2) (fo a 13)) (fo a 22)
def iw (e f g:UInt32):UInt32:=c7 (hZ e f) (hZ (lG e) g)
def ja (a b c:UInt32):UInt32:=c7 (c7 (hZ a b) (hZ a c)) (hZ b c)
structure bc where
  (a b c d e f g h:UInt32)
def bc.step (s:bc) (k w:UInt32):bc :=
  let t1:=aT (aT (aT (aT s.h (ii s.e)) (iw s.e s.f s.g)) k) w
  let t2:=aT (i9 s.a) (ja s.a s.b s.c)
  ⟨aT t1 t2,s.a,s.b,s.c,aT s.d t1,s.e,s.f,s.g⟩
def bc.of (h:List UInt32):bc:=⟨h.getD 0 0,h.getD 1 0,h.getD 2 0,h.getD 3 0,h.getD 4 0,h.getD 5 0,h.getD 6 0,h.getD 7 0⟩
def bc.rounds (s:bc) (k w:List UInt32):Nat→bc
  | 0=>s
  | n+1=>(s.rounds k w n).step (k.getD n 0) (w.getD n 0)
def bc.sum (s:bc) (h:List UInt32):List UInt32 :=
  [aT (h.getD 0 0) s.a,aT (h.getD 1 0) s.b,aT (h.getD 2 0) s.c,aT (h.getD 3 0) s.d,aT (h.getD 4 0) s.e,aT (h.getD 5 0) s.f,aT (h.getD 6 0) s.g,aT (h.getD 7 0) s.h]
def jr (h:List UInt32) (b:List UInt8):List UInt32:=((bc.of h).rounds cp (eV b) 64).sum h
theorem xi (h:List UInt32) (b:List UInt8):(jr h b).length=8:=rfl
def Ay:aG:=⟨2,15,.seq (.reg [oO 4 (.mv (.k (.c (.d (.int .u32 0)))))]) (.seq (.reg [oM 5 0,oM 6 1,oO 7 (.conv .u64 (.t 6)),oO 8 (.bin .shr (.t 5) (.t 7)),oM 9 0,oM 10 1,oO 11 (.bin .sub (kI 32) (.t 10)),oO 12 (.conv .u64 (.t 11)),oO 13 (.bin .shl (.t 9) (.t 12)),oO 14 (.bin .or (.t 8) (.t 13)),oM 4 14]) (.ret)),[(4,none)]⟩
theorem KD:aD Try.prog { own:=[],comp:=[],frz:=[],nils:=[] } Try.f64=some Ay:=by kernel_rfl
theorem gV (G:ak) (x:UInt32) (n:Nat) (h0:0<n) (hn:n<32):ap Try.prog G 64 [wD x,.int .i64 n] (.w (.c (.d (wD (fo x n))))):=by
  refine aI Try.func64 KD rfl rfl ?_;have e1:IntKind.u64.wrap (n:Int)=(n:Int):=IntWalk.u64_in _ (by omega);have e2:IntKind.i64.wrap (32-(n:Int))=((32-n:Nat):Int):=by rw[IntWalk.i64_in _ (by omega)]; omega
  have e3:IntKind.u64.wrap ((32-n:Nat):Int)=((32-n:Nat):Int):=IntWalk.u64_in _ (by omega);simp only[Ay,ai,wx,aa,seval,iteOmega,toNatUp,e1,e2,e3];exact uM (by simp only[wx,aa,seval,iteOmega,toNatUp] <;> rfl)
def CI:aG:=⟨0,2,.seq (.reg [oO 0 (.mv (.k (.c .nil)))]) (.seq (.reg [oO 1 (.bldSl true 8 1 (.int .u32 0) [(0,(.k (.c (.d (.int .u32 1779033703))))),(1,(.k (.c (.d (.int .u32 3144134277))))),(2,(.k (.c (.d (.int .u32 1013904242))))),(3,(.k (.c (.d (.int .u32 2773480762))))),(4,(.k (.c (.d (.int .u32 1359893119))))),(5,(.k (.c (.d (.int .u32 2600822924))))),(6,(.k (.c (.d (.int .u32 528734635))))),(7,(.k (.c (.d (.int .u32 1541459225)))))]),oM 0 1]) (.ret)),[(0,none)]⟩
theorem MB:aD Try.prog { own:=[1],comp:=[],frz:=[],nils:=[] } Try.f42=some CI:=by kernel_rfl
theorem OR (G:ak):ap Try.prog G 42 [] (.w (.c (.fr 1 (fh.map wD)))):=by
  refine aI Try.func42 MB rfl rfl ?_;simp only[CI,ai,pM,pN,pO,pP,pQ,sx];refine A6 (.w (.c (.own 8 1 0 8)),upd hN 8 (some (.row 1 (fh.map wD))),upd uN 8 true) (by kernel_rfl) ?_;simp only[wx,aa,seval,iteOmega,toNatUp];exact en (id:=8) (n:=8) (s:=1) (by simp only[wx,aa,seval,iteOmega,toNatUp]) (by simp only[wx,aa,seval,iteOmega,toNatUp]) rfl
def CJ:aG:=⟨0,2,.seq (.reg [oO 0 (.mv (.k (.c .nil)))]) (.seq (.reg [oO 1 (.bldSl true 64 1 (.int .u32 0) [(0,(.k (.c (.d (.int .u32 1116352408))))),(1,(.k (.c (.d (.int .u32 1899447441))))),(2,(.k (.c (.d (.int .u32 3049323471))))),(3,(.k (.c (.d (.int .u32 3921009573))))),(4,(.k (.c (.d (.int .u32 961987163))))),(5,(.k (.c (.d (.int .u32 1508970993))))),(6,(.k (.c (.d (.int .u32 2453635748))))),(7,(.k (.c (.d (.int .u32 2870763221))))),(8,(.k (.c (.d (.int .u32 3624381080))))),(9,(.k (.c (.d (.int .u32 310598401))))),(10,(.k (.c (.d (.int .u32 607225278))))),(11,(.k (.c (.d (.int .u32 1426881987))))),(12,(.k (.c (.d (.int .u32 1925078388))))),(13,(.k (.c (.d (.int .u32 2162078206))))),(14,(.k (.c (.d (.int .u32 2614888103))))),(15,(.k (.c (.d (.int .u32 3248222580))))),(16,(.k (.c (.d (.int .u32 3835390401))))),(17,(.k (.c (.d (.int .u32 4022224774))))),(18,(.k (.c (.d (.int .u32 264347078))))),(19,(.k (.c (.d (.int .u32 604807628))))),(20,(.k (.c (.d (.int .u32 770255983))))),(21,(.k (.c (.d (.int .u32 1249150122))))),(22,(.k (.c (.d (.int .u32 1555081692))))),(23,(.k (.c (.d (.int .u32 1996064986))))),(24,(.k (.c (.d (.int .u32 2554220882))))),(25,(.k (.c (.d (.int .u32 2821834349))))),(26,(.k (.c (.d (.int .u32 2952996808))))),(27,(.k (.c (.d (.int .u32 3210313671))))),(28,(.k (.c (.d (.int .u32 3336571891))))),(29,(.k (.c (.d (.int .u32 3584528711))))),(30,(.k (.c (.d (.int .u32 113926993))))),(31,(.k (.c (.d (.int .u32 338241895))))),(32,(.k (.c (.d (.int .u32 666307205))))),(33,(.k (.c (.d (.int .u32 773529912))))),(34,(.k (.c (.d (.int .u32 1294757372))))),(35,(.k (.c (.d (.int .u32 1396182291))))),(36,(.k (.c (.d (.int .u32 1695183700))))),(37,(.k (.c (.d (.int .u32 1986661051))))),(38,(.k (.c (.d (.int .u32 2177026350))))),(39,(.k (.c (.d (.int .u32 2456956037))))),(40,(.k (.c (.d (.int .u32 2730485921))))),(41,(.k (.c (.d (.int .u32 2820302411))))),(42,(.k (.c (.d (.int .u32 3259730800))))),(43,(.k (.c (.d (.int .u32 3345764771))))),(44,(.k (.c (.d (.int .u32 3516065817))))),(45,(.k (.c (.d (.int .u32 3600352804))))),(46,(.k (.c (.d (.int .u32 4094571909))))),(47,(.k (.c (.d (.int .u32 275423344))))),(48,(.k (.c (.d (.int .u32 430227734))))),(49,(.k (.c (.d (.int .u32 506948616))))),(50,(.k (.c (.d (.int .u32 659060556))))),(51,(.k (.c (.d (.int .u32 883997877))))),(52,(.k (.c (.d (.int .u32 958139571))))),(53,(.k (.c (.d (.int .u32 1322822218))))),(54,(.k (.c (.d (.int .u32 1537002063))))),(55,(.k (.c (.d (.int .u32 1747873779))))),(56,(.k (.c (.d (.int .u32 1955562222))))),(57,(.k (.c (.d (.int .u32 2024104815))))),(58,(.k (.c (.d (.int .u32 2227730452))))),(59,(.k (.c (.d (.int .u32 2361852424))))),(60,(.k (.c (.d (.int .u32 2428436474))))),(61,(.k (.c (.d (.int .u32 2756734187))))),(62,(.k (.c (.d (.int .u32 3204031479))))),(63,(.k (.c (.d (.int .u32 3329325298)))))]),
 oM 0 1]) (.ret)),[(0,none)]⟩
theorem MC:aD Try.prog { own:=[1],comp:=[],frz:=[],nils:=[] } Try.f43=some CJ:=by kernel_rfl
theorem E0 (G:ak):ap Try.prog G 43 [] (.w (.c (.fr 1 (cp.map wD)))):=by
  refine aI Try.func43 MC rfl rfl ?_;simp only[CJ,ai,pM,pN,pO,pP,pQ,sx];refine A6 (.w (.c (.own 8 1 0 64)),upd hN 8 (some (.row 1 (cp.map wD))),upd uN 8 true) (by kernel_rfl) ?_;simp only[wx,aa,seval,iteOmega,toNatUp];exact en (id:=8) (n:=64) (s:=1) (by simp only[wx,aa,seval,iteOmega,toNatUp]) (by simp only[wx,aa,seval,iteOmega,toNatUp]) rfl
theorem xj (b:UInt8):(iL b).toNat=b.toNat:=by have:=xZ b; omega
theorem rX (b:UInt8) (n:Nat) (hn:n≤24):(ia (iL b) n).toNat=2^n*b.toNat:=by
  have hb:=b.toNat_lt;have h:(2:Nat)^n≤2^24:=Nat.pow_le_pow_right (by decide) hn;have h2:2^n*b.toNat≤2^24*255:=Nat.mul_le_mul h (by omega);unfold ia;rw[xj,UInt32.toNat_ofNat_of_lt' (by rw[S0]; simp only[UInt32.size]; omega),S0]
theorem tR (x y:UInt32):(je x y).toNat=x.toNat ||| y.toNat:=UInt32.toNat_or x y
theorem nH (b:List UInt8) (t:Nat):(bI b t).toNat=((((b.getD (4*t) 0).toNat*256+(b.getD (4*t+1) 0).toNat)*256+(b.getD (4*t+2) 0).toNat)*256+(b.getD (4*t+3) 0).toNat):=by
  unfold bI;generalize b.getD (4*t) 0=p;generalize b.getD (4*t+1) 0=q;generalize b.getD (4*t+2) 0=r;generalize b.getD (4*t+3) 0=s;have hp:=p.toNat_lt;have hq:=q.toNat_lt;have hr:=r.toNat_lt;have hs:=s.toNat_lt;rw[tR,tR,tR,rX _ _ (by decide),rX _ _ (by decide),rX _ _ (by decide),xj];have e1:=Nat.two_pow_add_eq_or_of_lt (i:=24) (b:=2^16*q.toNat) (by omega) p.toNat;rw[← e1];have e2:=Nat.two_pow_add_eq_or_of_lt (i:=16) (b:=2^8*r.toNat) (by omega) (2^8*p.toNat+q.toNat);have e3:2^24*p.toNat+2^16*q.toNat=2^16*(2^8*p.toNat+q.toNat):=by omega
  rw[e3,← e2];have e4:=Nat.two_pow_add_eq_or_of_lt (i:=8) (b:=s.toNat) (by omega) (2^8*(2^8*p.toNat+q.toNat)+r.toNat);have e5:2^16*(2^8*p.toNat+q.toNat)+2^8*r.toNat=2^8*(2^8*(2^8*p.toNat+q.toNat)+r.toNat):=by omega
  rw[e5,← e4];omega
theorem q9 (b:List UInt8) (n:Nat):(fN b n).length=n:=by simp[fN]
theorem ry (b:List UInt8):∀ n,(bR b n).length=16+n
  | 0=>by simp[bR,q9]
  | n+1=>by rw[bR,Rk,ry b n]; simp; omega
theorem Az {α:Type} (l:List α) (z x:α) (n:Nat) (h:0<n):(l++List.replicate n z).set l.length x=(l++[x])++List.replicate (n-1) z:=by
  obtain⟨k,rfl⟩:∃ k,n=k+1:=⟨n-1,by omega⟩
  rw[List.set_append_right _ _ (Rt _),Nat.sub_self,List.replicate_succ,List.set_cons_zero];simp
theorem OS {l:List UInt32} {r:List UInt32} {i:Nat} (h:i<l.length):(l++r)[i]?=some (l.getD i 0):=by
  rw[R9 h];simp[h]
theorem getD_some {l:List UInt32} {i:Nat} (h:i<l.length):l[i]?=some (l.getD i 0):=by simp[h]
theorem eight {l:List UInt32} (h:l.length=8):∃ a b c d e f g i,l=[a,b,c,d,e,f,g,i]:=by
  match l,h with
  | [a,b,c,d,e,f,g,i],_=>exact⟨a,b,c,d,e,f,g,i,rfl⟩
def bc.list (s:bc):List UInt32:=[s.a,s.b,s.c,s.d,s.e,s.f,s.g,s.h]
theorem OT (s:bc) (k w:UInt32):(s.step k w).a=aT (aT (aT (aT (aT s.h (ii s.e)) (iw s.e s.f s.g)) k) w) (aT (i9 s.a) (ja s.a s.b s.c)):=rfl
theorem OU (s:bc) (k w:UInt32):(s.step k w).b=s.a:=rfl
theorem OV (s:bc) (k w:UInt32):(s.step k w).c=s.b:=rfl
theorem OW (s:bc) (k w:UInt32):(s.step k w).d=s.c:=rfl
theorem OX (s:bc) (k w:UInt32):(s.step k w).e=aT s.d (aT (aT (aT (aT s.h (ii s.e)) (iw s.e s.f s.g)) k) w):=rfl
theorem OY (s:bc) (k w:UInt32):(s.step k w).f=s.e:=rfl
theorem OZ (s:bc) (k w:UInt32):(s.step k w).g=s.f:=rfl
theorem O0 (s:bc) (k w:UInt32):(s.step k w).h=s.g:=rfl
theorem HK {l:List UInt8} {i:Nat} (h:i<l.length):l[i]?=some (l.getD i 0):=by simp[h]
def u9 (h k:List UInt32) (b:List UInt8) (t:Nat):St:=⟨aV [(0,.w (.c (.d (.sl (h.map wD))))),(1,.w (.c (.d (.sl (k.map wD))))),(2,.w (.c (.d (.sl (b.map bD))))),(7,.w (.c (.pa 1 1))),(8,.w (.c (.d (.int .i64 (t:Int)))))],
  hL [(1,.row 1 ((fN b t++List.replicate (64-t) 0).map wD))],uL [1]⟩
def va (h k:List UInt32) (b:List UInt8) (n:Nat):St:=⟨aV [(0,.w (.c (.d (.sl (h.map wD))))),(1,.w (.c (.d (.sl (k.map wD))))),(7,.w (.c (.pa 1 1))),(9,.w (.c (.d (.int .i64 ((16+n:Nat):Int)))))],
  hL [(1,.row 1 ((bR b n++List.replicate (48-n) 0).map wD))],uL [1]⟩
def qf (h:List UInt32) (b:List UInt8) (s:bc) (n:Nat):St:=⟨aV [(0,.w (.c (.d (.sl (h.map wD))))),(1,.w (.c (.d (.sl (cp.map wD))))),(7,.w (.c (.pa 1 1))),(12,.w (.c (.d (wD s.a)))),(13,.w (.c (.d (wD s.b)))),(14,.w (.c (.d (wD s.c)))),(15,.w (.c (.d (wD s.d)))),(16,.w (.c (.d (wD s.e)))),(17,.w (.c (.d (wD s.f)))),(18,.w (.c (.d (wD s.g)))),(19,.w (.c (.d (wD s.h)))),(20,.w (.c (.d (.int .i64 (n:Int)))))],
  hL [(1,.row 1 ((eV b).map wD))],uL [1]⟩
def m6 (h:List UInt32) (b:List UInt8) (n:Nat):St:=qf h b ((bc.of h).rounds cp (eV b) n) n
def rb:aK := .seq (.seq (.reg [oM 23 8,oO 24 (.bin .lss (.t 23) (kI 16))]) (.cond (.t 24) (.skip) (.exit 0))) (.seq (.block 1 (.reg [oM 27 8,oM 28 2,oM 29 8,oO 30 (.bin .mul (kI 4) (.t 29)),oO 31 (.idxSl 1 (.t 28) (.t 30)),oO 32 (.load .sc (.t 31)),oO 33 (.conv .u32 (.t 32)),oO 34 (.bin .shl (.t 33) (.k (.c (.d (.int .u64 24))))),oM 35 2,oM 36 8,oO 37 (.bin .mul (kI 4) (.t 36)),oO 38 (.bin .add (.t 37) (kI 1)),oO 39 (.idxSl 1 (.t 35) (.t 38)),oO 40 (.load .sc (.t 39)),oO 41 (.conv .u32 (.t 40)),oO 42 (.bin .shl (.t 41) (.k (.c (.d (.int .u64 16))))),oO 43 (.bin .or (.t 34) (.t 42)),oM 44 2,oM 45 8,oO 46 (.bin .mul (kI 4) (.t 45)),oO 47 (.bin .add (.t 46) (kI 2)),oO 48 (.idxSl 1 (.t 44) (.t 47)),oO 49 (.load .sc (.t 48)),oO 50 (.conv .u32 (.t 49)),oO 51 (.bin .shl (.t 50) (.k (.c (.d (.int .u64 8))))),
 oO 52 (.bin .or (.t 43) (.t 51)),oM 53 2,oM 54 8,oO 55 (.bin .mul (kI 4) (.t 54)),oO 56 (.bin .add (.t 55) (kI 3)),oO 57 (.idxSl 1 (.t 53) (.t 56)),oO 58 (.load .sc (.t 57)),oO 59 (.conv .u32 (.t 58)),oO 60 (.bin .or (.t 52) (.t 59)),oO 61 (.idxPa 1 64 (.t 7) (.t 27)),oN (.store .sc (.t 61) (.t 60))])) (.reg [oM 25 8,oO 26 (.bin .add (.t 25) (kI 1)),oM 8 26]))
def re:aK := .seq (.seq (.reg [oM 62 9,oO 63 (.bin .lss (.t 62) (kI 64))]) (.cond (.t 63) (.skip) (.exit 2))) (.seq (.block 3 (.seq (.reg [oM 66 9,oO 67 (.bin .sub (.t 66) (kI 15)),oO 68 (.idxPa 1 64 (.t 7) (.t 67)),oO 69 (.load .sc (.t 68)),oM 70 9,oO 71 (.bin .sub (.t 70) (kI 2)),oO 72 (.idxPa 1 64 (.t 7) (.t 71)),oO 73 (.load .sc (.t 72)),oM 10 69,oM 11 73]) (.reg [oM 74 9,oM 75 11,oO 76 (.call 64 [(.t 75),(kI 17)] none),oM 77 11,oO 78 (.call 64 [(.t 77),(kI 19)] none),oO 79 (.bin .xor (.t 76) (.t 78)),oM 80 11,oO 81 (.bin .shr (.t 80) (.k (.c (.d (.int .u64 10))))),oO 82 (.bin .xor (.t 79) (.t 81)),oM 83 9,oO 84 (.bin .sub (.t 83) (kI 7)),oO 85 (.idxPa 1 64 (.t 7) (.t 84)),oO 86 (.load .sc (.t 85)),oO 87 (.bin .add (.t 82) (.t 86)),oM 88 10,oO 89 (.call 64 [(.t 88),(kI 7)] none),
 oM 90 10,oO 91 (.call 64 [(.t 90),(kI 18)] none),oO 92 (.bin .xor (.t 89) (.t 91)),oM 93 10,oO 94 (.bin .shr (.t 93) (.k (.c (.d (.int .u64 3))))),oO 95 (.bin .xor (.t 92) (.t 94)),oO 96 (.bin .add (.t 87) (.t 95)),oM 97 9,oO 98 (.bin .sub (.t 97) (kI 16)),oO 99 (.idxPa 1 64 (.t 7) (.t 98)),oO 100 (.load .sc (.t 99)),oO 101 (.bin .add (.t 96) (.t 100)),oO 102 (.idxPa 1 64 (.t 7) (.t 74)),oN (.store .sc (.t 102) (.t 101))]))) (.reg [oM 64 9,oO 65 (.bin .add (.t 64) (kI 1)),oM 9 65]))
def rh:aK := .seq (.seq (.reg [oM 127 20,oO 128 (.bin .lss (.t 127) (kI 64))]) (.cond (.t 128) (.skip) (.exit 4))) (.seq (.block 5 (.seq (.reg [oM 131 19,oM 132 16,oO 133 (.call 64 [(.t 132),(kI 6)] none),oM 134 16,oO 135 (.call 64 [(.t 134),(kI 11)] none),oO 136 (.bin .xor (.t 133) (.t 135)),oM 137 16,oO 138 (.call 64 [(.t 137),(kI 25)] none),oO 139 (.bin .xor (.t 136) (.t 138)),oO 140 (.bin .add (.t 131) (.t 139)),oM 141 16,oM 142 17,oO 143 (.bin .and (.t 141) (.t 142)),oM 144 16,oO 145 (.un .xor (.t 144)),oM 146 18,oO 147 (.bin .and (.t 145) (.t 146)),oO 148 (.bin .xor (.t 143) (.t 147)),oO 149 (.bin .add (.t 140) (.t 148)),oM 150 1,oM 151 20,oO 152 (.idxSl 1 (.t 150) (.t 151)),oO 153 (.load .sc (.t 152)),oO 154 (.bin .add (.t 149) (.t 153)),oM 155 20,oO 156 (.idxPa 1 64 (.t 7) (.t 155)),
 oO 157 (.load .sc (.t 156)),oO 158 (.bin .add (.t 154) (.t 157)),oM 21 158]) (.seq (.reg [oM 159 12,oO 160 (.call 64 [(.t 159),(kI 2)] none),oM 161 12,oO 162 (.call 64 [(.t 161),(kI 13)] none),oO 163 (.bin .xor (.t 160) (.t 162)),oM 164 12,oO 165 (.call 64 [(.t 164),(kI 22)] none),oO 166 (.bin .xor (.t 163) (.t 165)),oM 167 12,oM 168 13,oO 169 (.bin .and (.t 167) (.t 168)),oM 170 12,oM 171 14,oO 172 (.bin .and (.t 170) (.t 171)),oO 173 (.bin .xor (.t 169) (.t 172)),oM 174 13,oM 175 14,oO 176 (.bin .and (.t 174) (.t 175)),oO 177 (.bin .xor (.t 173) (.t 176)),oO 178 (.bin .add (.t 166) (.t 177)),oM 22 178]) (.reg [oM 179 21,oM 180 22,oO 181 (.bin .add (.t 179) (.t 180)),oM 182 12,oM 183 13,oM 184 14,oM 185 15,oM 186 21,oO 187 (.bin .add (.t 185) (.t 186)),oM 188 16,oM 189 17,oM 190 18,oM 12 181,
 oM 13 182,oM 14 183,oM 15 184,oM 16 187,oM 17 188,oM 18 189,oM 19 190])))) (.reg [oM 129 20,oO 130 (.bin .add (.t 129) (kI 1)),oM 20 130]))
def yx:aG:=⟨3,232,.seq (.reg [oO 6 (.mv (.k (.c .nil)))]) (.seq (.reg [oO 7 (.allocArr [(.int .u32 0),(.int .u32 0),(.int .u32 0),(.int .u32 0),(.int .u32 0),(.int .u32 0),(.int .u32 0),(.int .u32 0),(.int .u32 0),(.int .u32 0),(.int .u32 0),(.int .u32 0),(.int .u32 0),(.int .u32 0),(.int .u32 0),(.int .u32 0),(.int .u32 0),(.int .u32 0),(.int .u32 0),(.int .u32 0),(.int .u32 0),(.int .u32 0),(.int .u32 0),(.int .u32 0),(.int .u32 0),(.int .u32 0),(.int .u32 0),(.int .u32 0),(.int .u32 0),(.int .u32 0),(.int .u32 0),(.int .u32 0),(.int .u32 0),(.int .u32 0),(.int .u32 0),(.int .u32 0),(.int .u32 0),(.int .u32 0),(.int .u32 0),(.int .u32 0),(.int .u32 0),(.int .u32 0),(.int .u32 0),(.int .u32 0),(.int .u32 0),(.int .u32 0),(.int .u32 0),(.int .u32 0),(.int .u32 0),(.int .u32 0),(.int .u32 0),(.int .u32 0),(.int .u32 0),(.int .u32 0),(.int .u32 0),(.int .u32 0),(.int .u32 0),(.int .u32 0),(.int .u32 0),(.int .u32 0),(.int .u32 0),(.int .u32 0),(.int .u32 0),(.int .u32 0)])])
 (.seq (.seq (.reg [oO 8 (.mv (kI 0))]) (.block 0 (.loop rb))) (.seq (.seq (.reg [oO 9 (.mv (kI 16))]) (.block 2 (.loop re))) (.seq (.reg [oM 103 0,oO 104 (.idxSl 1 (.t 103) (kI 0)),oO 105 (.load .sc (.t 104)),oM 106 0,oO 107 (.idxSl 1 (.t 106) (kI 1)),oO 108 (.load .sc (.t 107)),oM 109 0,oO 110 (.idxSl 1 (.t 109) (kI 2)),oO 111 (.load .sc (.t 110)),oM 112 0,oO 113 (.idxSl 1 (.t 112) (kI 3)),oO 114 (.load .sc (.t 113)),oM 115 0,oO 116 (.idxSl 1 (.t 115) (kI 4)),oO 117 (.load .sc (.t 116)),oM 118 0,oO 119 (.idxSl 1 (.t 118) (kI 5)),oO 120 (.load .sc (.t 119)),oM 121 0,oO 122 (.idxSl 1 (.t 121) (kI 6)),oO 123 (.load .sc (.t 122)),oM 124 0,oO 125 (.idxSl 1 (.t 124) (kI 7)),oO 126 (.load .sc (.t 125)),oM 12 105,oM 13 108,oM 14 111,oM 15 114,oM 16 117,oM 17 120,oM 18 123,oM 19 126])
 (.seq (.seq (.reg [oO 20 (.mv (kI 0))]) (.block 4 (.loop rh))) (.seq (.reg [oM 191 0,oO 192 (.idxSl 1 (.t 191) (kI 0)),oO 193 (.load .sc (.t 192)),oM 194 12,oO 195 (.bin .add (.t 193) (.t 194)),oM 196 0,oO 197 (.idxSl 1 (.t 196) (kI 1)),oO 198 (.load .sc (.t 197)),oM 199 13,oO 200 (.bin .add (.t 198) (.t 199)),oM 201 0,oO 202 (.idxSl 1 (.t 201) (kI 2)),oO 203 (.load .sc (.t 202)),oM 204 14,oO 205 (.bin .add (.t 203) (.t 204)),oM 206 0,oO 207 (.idxSl 1 (.t 206) (kI 3)),oO 208 (.load .sc (.t 207)),oM 209 15,oO 210 (.bin .add (.t 208) (.t 209)),oM 211 0,oO 212 (.idxSl 1 (.t 211) (kI 4)),oO 213 (.load .sc (.t 212)),oM 214 16,oO 215 (.bin .add (.t 213) (.t 214)),oM 216 0,oO 217 (.idxSl 1 (.t 216) (kI 5)),oO 218 (.load .sc (.t 217)),oM 219 17,oO 220 (.bin .add (.t 218) (.t 219)),oM 221 0,
 oO 222 (.idxSl 1 (.t 221) (kI 6)),oO 223 (.load .sc (.t 222)),oM 224 18,oO 225 (.bin .add (.t 223) (.t 224)),oM 226 0,oO 227 (.idxSl 1 (.t 226) (kI 7)),oO 228 (.load .sc (.t 227)),oM 229 19,oO 230 (.bin .add (.t 228) (.t 229)),oO 231 (.bldSl true 8 1 (.int .u32 0) [(0,(.t 195)),(1,(.t 200)),(2,(.t 205)),(3,(.t 210)),(4,(.t 215)),(5,(.t 220)),(6,(.t 225)),(7,(.t 230))]),oM 6 231]) (.ret))))))),[(6,none)]⟩
theorem IW:aD Try.prog { own:=[231],comp:=[],frz:=[],nils:=[] } Try.f44=some yx:=by kernel_rfl
set_option maxHeartbeats 1600000 in
theorem AA (G:ak) (h:List UInt32) (b:List UInt8) (hh:h.length=8) (hb:b.length=64):ap Try.prog G 44 [.sl (h.map wD),.sl (cp.map wD),.sl (b.map bD)] (.w (.c (.fr 1 ((jr h b).map wD)))):=by
  refine aI Try.func44 IW rfl rfl ?_;have hsl:(eV b).length=64:=ry b 48;have hcl:cp.length=64:=nG;simp only[yx,ai,wx,aa,seval,iteOmega,toNatUp];refine bg (u9 h cp b) (fun t=>16-t) (fun t=>t≤16) 0 (Rx _) ?_ ?_
  ·refine aA (fun _=>56) ?_ ?_ rfl rfl <;> simp only[wx,au,aa,seval,iteOmega,toNatUp];rfl
  ·intro t ht;by_cases hlt:t<16
   ·have e0:IntKind.i64.wrap (4*(t:Int))=((4*t:Nat):Int):=by rw[IntWalk.i64_in _ (by omega)]; omega
    have e1:IntKind.i64.wrap (((4*t:Nat):Int)+1)=((4*t+1:Nat):Int):=by rw[IntWalk.i64_in _ (by omega)]; omega
    have e2:IntKind.i64.wrap (((4*t:Nat):Int)+2)=((4*t+2:Nat):Int):=by rw[IntWalk.i64_in _ (by omega)]; omega
    have e3:IntKind.i64.wrap (((4*t:Nat):Int)+3)=((4*t+3:Nat):Int):=by rw[IntWalk.i64_in _ (by omega)]; omega
    have e4:IntKind.i64.wrap ((t:Int)+1)=((t+1:Nat):Int):=by rw[IntWalk.i64_in _ (by omega)]; omega
    have g:∀ k,k<64→(b.map bD)[k]?=some (bD (b.getD k 0)):=fun k hk=>by rw[aR,HK (by omega)]; rfl
    have g0:=g (4*t) (by omega);have g1:=g (4*t+1) (by omega);have g2:=g (4*t+2) (by omega);have g3:=g (4*t+3) (by omega);have h1:t<(fN b t++List.replicate (64-t) 0).length:=by rw[Rk,q9,RF]; omega
    have h2:=Az (fN b t) 0 (bI b t) (64-t) (by omega);rw[q9] at h2;have h3:fN b t++[bI b t]=fN b (t+1):=by simp[fN,S6]
    have h4:64-t-1=64-(t+1):=by omega
    rw[h3,h4] at h2;simp only[bI] at h2;have m24:min (24:Int).toNat 32=24:=by decide
    have m16:min (16:Int).toNat 32=16:=by decide
    have m8:min (8:Int).toNat 32=8:=by decide
    simp only[rb,u9,wx,aa,seval,iteOmega,toNatUp,e0,e1,e2,e3,e4,g0,g1,g2,g3,Sz,Ef h1 (pS _),Eg,h2];refine aX (t+1) (by omega) (by omega) (aA id ?_ ?_ rfl rfl) <;> simp only[wx,au,aa,seval,iteOmega,toNatUp]
   ·obtain rfl:t=16:=by omega
    simp only[rb,u9,wx,aa,seval,iteOmega,toNatUp];refine bg (va h cp b) (fun n=>48-n) (fun n=>n≤48) 0 (Rx _) ?_ ?_
    ·have h0:fN b 16=bR b 0:=rfl;refine aA id ?_ ?_ rfl rfl <;> simp only[wx,au,aa,seval,iteOmega,toNatUp,h0]
    ·intro n hn;by_cases hlt:n<48
     ·have hl:=ry b n;have w1:∀ k:Nat,k≤16→IntKind.i64.wrap (((16+n:Nat):Int)-(k:Int))=((16+n-k:Nat):Int):=fun k hk=>by rw[IntWalk.i64_in _ (by omega)]; omega
      have e15:IntKind.i64.wrap (((16+n:Nat):Int)-15)=((16+n-15:Nat):Int):=w1 15 (by decide);have e2:IntKind.i64.wrap (((16+n:Nat):Int)-2)=((16+n-2:Nat):Int):=w1 2 (by decide);have e7:IntKind.i64.wrap (((16+n:Nat):Int)-7)=((16+n-7:Nat):Int):=w1 7 (by decide);have e16:IntKind.i64.wrap (((16+n:Nat):Int)-16)=((16+n-16:Nat):Int):=w1 16 (by decide);have e0:IntKind.i64.wrap (((16+n:Nat):Int)+1)=((16+(n+1):Nat):Int):=by rw[IntWalk.i64_in _ (by omega)]; omega
      have g:∀ k,k<16+n→((bR b n++List.replicate (48-n) 0).map wD)[k]?=some (wD ((bR b n).getD k 0)):=fun k hk=>by
        rw[Su,OS (by omega)]; rfl
      have g15:=g (16+n-15) (by omega);have g2:=g (16+n-2) (by omega);have g7:=g (16+n-7) (by omega);have g16:=g (16+n-16) (by omega);simp only[re,va,wx,aa,seval,iteOmega,toNatUp,e15,e2,e7,e16,e0,g15,g2,g7,g16];refine bL (gV G _ 17 (by decide) (by decide)) rfl (.inr rfl) ?_;simp only[wx,aa,seval,iteOmega,toNatUp];refine bL (gV G _ 19 (by decide) (by decide)) rfl (.inr rfl) ?_;simp only[wx,aa,seval,iteOmega,toNatUp,e15,e2,e7,e16,e0,g15,g2,g7,g16];refine bL (gV G _ 7 (by decide) (by decide)) rfl (.inr rfl) ?_;simp only[wx,aa,seval,iteOmega,toNatUp];refine bL (gV G _ 18 (by decide) (by decide)) rfl (.inr rfl) ?_;have h1:16+n<(bR b n++List.replicate (48-n) 0).length:=by rw[Rk,hl,RF]; omega
      have h2:=Az (bR b n) 0 (kh (bR b n) (16+n)) (48-n) (by omega);rw[hl] at h2;have h4:48-n-1=48-(n+1):=by omega
      have h3:bR b n++[kh (bR b n) (16+n)]=bR b (n+1):=rfl;rw[h3,h4] at h2;simp only[kh,iG,iH] at h2;simp only[wx,aa,seval,iteOmega,toNatUp,e15,e2,e7,e16,e0,g15,g2,g7,g16,Ef h1 (pS _),Eg,h2];refine aX (n+1) (by omega) (by omega) (aA id ?_ ?_ rfl rfl) <;> simp only[wx,au,aa,seval,iteOmega,toNatUp]
     ·have hn48:n=48:=by omega
      have h0:48-n=0:=by omega
      obtain⟨h0',h1,h2,h3,h4,h5,h6,h7,rfl⟩:=eight hh;simp only[re,va,wx,aa,seval,iteOmega,toNatUp,h0,RG,SV,← KC b n hn48];refine bg (m6 [h0',h1,h2,h3,h4,h5,h6,h7] b) (fun n=>64-n) (fun n=>n≤64) 0 (Rx _) ?_ ?_
      ·refine aA id ?_ ?_ rfl rfl <;> simp only[m6,qf,wx,au,aa,seval,iteOmega,toNatUp];exact⟨rfl,rfl,rfl,rfl,rfl,rfl,rfl,rfl⟩
      ·clear hn hlt hn48 h0;intro n hn;by_cases hlt:n<64
       ·have e1:IntKind.i64.wrap ((n:Int)+1)=((n+1:Nat):Int):=by rw[IntWalk.i64_in _ (by omega)]; rfl
        have g1:(cp.map wD)[n]?=some (wD (cp.getD n 0)):=by rw[aR,getD_some (by omega)]; rfl
        have g2:((eV b).map wD)[n]?=some (wD ((eV b).getD n 0)):=by rw[aR,getD_some (by omega)]; rfl
        have hr:(bc.of [h0',h1,h2,h3,h4,h5,h6,h7]).rounds cp (eV b) (n+1)=((bc.of [h0',h1,h2,h3,h4,h5,h6,h7]).rounds cp (eV b) n).step (cp.getD n 0) ((eV b).getD n 0):=rfl;generalize hs:(bc.of [h0',h1,h2,h3,h4,h5,h6,h7]).rounds cp (eV b) n=s at hr;simp only[rh,m6,qf,hs,wx,aa,seval,iteOmega,toNatUp,hcl,hsl,g1,g2,e1];refine bL (gV G _ 6 (by decide) (by decide)) rfl (.inr rfl) ?_;simp only[wx,aa,seval,iteOmega,toNatUp];refine bL (gV G _ 11 (by decide) (by decide)) rfl (.inr rfl) ?_;simp only[wx,aa,seval,iteOmega,toNatUp];refine bL (gV G _ 25 (by decide) (by decide)) rfl (.inr rfl) ?_;simp only[wx,aa,seval,iteOmega,toNatUp,g1,g2,hcl,hsl];refine bL (gV G _ 2 (by decide) (by decide)) rfl (.inr rfl) ?_;simp only[wx,aa,seval,iteOmega,toNatUp];refine bL (gV G _ 13 (by decide) (by decide)) rfl (.inr rfl) ?_;simp only[wx,aa,seval,iteOmega,toNatUp];refine bL (gV G _ 22 (by decide) (by decide)) rfl (.inr rfl) ?_;simp only[wx,aa,seval,iteOmega,toNatUp,e1];refine aX (n+1) (by omega) (by omega) ?_;rw[m6,hr];refine (aA id ?_ ?_ rfl rfl) <;> simp only[wx,au,aa,seval,iteOmega,toNatUp,OT,OU,OV,OW,OX,OY,OZ,O0];exact⟨rfl,rfl⟩
       ·obtain rfl:n=64:=by omega
        have hK:jr [h0',h1,h2,h3,h4,h5,h6,h7] b=((bc.of [h0',h1,h2,h3,h4,h5,h6,h7]).rounds cp (eV b) 64).sum [h0',h1,h2,h3,h4,h5,h6,h7]:=rfl;rw[hK];simp only[m6];generalize (bc.of [h0',h1,h2,h3,h4,h5,h6,h7]).rounds cp (eV b) 64=s;have e8:s.sum [h0',h1,h2,h3,h4,h5,h6,h7]=[aT h0' s.a,aT h1 s.b,aT h2 s.c,aT h3 s.d,aT h4 s.e,aT h5 s.f,aT h6 s.g,aT h7 s.h]:=rfl;simp only[rh,qf,e8,wx,aa,seval,iteOmega,toNatUp];exact en (id:=1848) (n:=8) (s:=1) (by simp only[wx,aa,seval,iteOmega,toNatUp]) (by simp only[wx,aa,seval,iteOmega,toNatUp] <;> rfl) rfl
def cB (h:List UInt32) (b:List UInt8):Nat→List UInt32
  | 0=>h
  | n+1=>jr (cB h b n) ((b.drop (64*n)).take 64)
theorem nX {h:List UInt32} (hh:h.length=8) (b:List UInt8):∀ n,(cB h b n).length=8
  | 0=>hh
  | n+1=>xi _ _
def fv (rest:List UInt8) (count:Nat):List UInt8:=rest++[128]++List.replicate ((119-rest.length)%64) 0++aw (count*8) 8
def ep (ws:List UInt32):List UInt8:=ws.flatMap fun w=>aw w.toNat 4
def jI (s:List UInt32) (rest:List UInt8) (count:Nat):List UInt8:=ep (cB s (fv rest count) ((fv rest count).length / 64))
def kq (b:List UInt8):List UInt8:=jI (cB fh b (b.length / 64)) (b.drop (64*(b.length / 64))) b.length
theorem rz:∀ ws:List UInt32,(ep ws).length=4*ws.length
  | []=>rfl
  | w::ws=>by
    have:ep (w::ws)=aw w.toNat 4++ep ws:=rfl;rw[this,Rk,cX,rz ws,Tb]; omega
theorem KE {s:List UInt32} (hs:s.length=8) (rest:List UInt8) (count:Nat):(jI s rest count).length=32:=by
  unfold jI;rw[rz,nX hs]
theorem AB (b:List UInt8):(kq b).length=32:=KE (nX xh _ _) _ _
theorem KF (rest:List UInt8) (count:Nat) (h:rest.length<64):(fv rest count).length=rest.length+9+(119-rest.length)%64∧(fv rest count).length%64=0:=by
  have:(fv rest count).length=rest.length+9+(119-rest.length)%64:=by simp[fv,cX]; omega
  exact⟨this,by omega⟩
theorem Hg (ws:List UInt32) (k:Nat) (h:k<ws.length):ep (ws.take k)++aw (ws.getD k 0).toNat 4=ep (ws.take (k+1)):=by
  rw[Sq h];unfold ep;rw[Sw];simp[h]
theorem KG {α:Type} (a:α) (j:Nat):List.replicate j a++[a]=List.replicate (j+1) a:=by rw[List.replicate_succ']
def vf (h:List UInt32) (rest:List UInt8) (count:Nat) (j:Nat):St:=⟨aV [(0,.w (.c (.d (.sl (h.map wD))))),(2,.w (.c (.d (.int .i64 (count:Int))))),(7,.w (.c (.d (.sl (cp.map wD))))),(8,.w (.c (.own 1 1 0 (rest++[128]++List.replicate j 0).length)))],hL [(1,.row 1 ((rest++[128]++List.replicate j 0).map bD))],uL [1]⟩
def vg (h:List UInt32) (p:List UInt8) (n:Nat):St:=⟨aV [(0,.w (.c (.d (.sl ((cB h p n).map wD))))),(7,.w (.c (.d (.sl (cp.map wD))))),(8,.w (.c (.own 1 1 0 p.length))),(9,.w (.c (.d (.int .i64 ((64*n:Nat):Int)))))],hL [(1,.row 1 (p.map bD))],uL [1]⟩
def vh (ws:List UInt32) (k:Nat):St:=⟨aV [(0,.w (.c (.d (.sl (ws.map wD))))),(10,.w (.c (.own 1 1 0 (ep (ws.take k)).length))),(11,.w (.c (.d (.int .i64 (k:Int)))))],hL [(1,.row 1 ((ep (ws.take k)).map bD))],uL [1]⟩
theorem O1 {ws:List UInt32} {k:Nat} (h:k<ws.length):(ws.map wD)[k]?=some (wD (ws.getD k 0)):=by
  simp[h]
theorem Qh:D.int .u8 0=bD 0:=rfl
theorem MD:D.int .u8 128=bD 128:=rfl
theorem F5 (l:List UInt8) (a:UInt8):l.map bD++[bD a]=(l++[a]).map bD:=by simp
def rY:aK := .seq (.seq (.reg [oM 18 8,oO 19 (.len (.t 18)),oO 20 (.bin .rem (.t 19) (kI 64)),oO 21 (.bin .neq (.t 20) (kI 56))]) (.cond (.t 21) (.skip) (.exit 0))) (.block 1 (.reg [oM 22 8,oO 23 (.bldSl false 1 1 (.int .u8 0) [(0,(.k (.c (.d (.int .u8 0)))))]),oO 24 (.app false 1 1 (.t 22) (.t 23)),oM 8 24]))
def rZ:aK := .seq (.seq (.reg [oM 31 9,oM 32 8,oO 33 (.len (.t 32)),oO 34 (.bin .lss (.t 31) (.t 33))]) (.cond (.t 34) (.skip) (.exit 2))) (.seq (.block 3 (.reg [oM 37 0,oM 38 7,oM 39 8,oM 40 9,oM 41 9,oO 42 (.bin .add (.t 41) (kI 64)),oO 43 (.slice 1 (.t 39) (some (.t 40)) (some (.t 42)) none),oO 44 (.call 44 [(.t 37),(.t 38),(.t 43)] none),oM 0 44])) (.reg [oM 35 9,oO 36 (.bin .add (.t 35) (kI 64)),oM 9 36]))
def r6:aK := .seq (.seq (.reg [oM 46 11,oO 47 (.bin .lss (.t 46) (kI 8))]) (.cond (.t 47) (.skip) (.exit 4))) (.seq (.block 5 (.reg [oM 50 10,oM 51 0,oM 52 11,oO 53 (.idxSl 1 (.t 51) (.t 52)),oO 54 (.load .sc (.t 53)),oO 55 (.conv .u64 (.t 54)),oO 56 (.call 26 [(.t 55),(kI 4)] none),oO 57 (.app false 1 1 (.t 50) (.t 56)),oM 10 57])) (.reg [oM 48 11,oO 49 (.bin .add (.t 48) (kI 1)),oM 11 49]))
def CK:aG:=⟨3,59,.seq (.reg [oO 6 (.mv (.k (.c .nil)))]) (.seq (.reg [oO 12 (.call 43 [] none),oM 7 12]) (.seq (.reg [oM 13 1,oO 14 (.bldSl false 1 1 (.sl []) [(0,(.t 13))]),oO 15 (.call 25 [(.t 14)] (some (0,1))),oO 16 (.bldSl false 1 1 (.int .u8 0) [(0,(.k (.c (.d (.int .u8 128)))))]),oO 17 (.app false 1 1 (.t 15) (.t 16)),oM 8 17]) (.seq (.block 0 (.loop rY)) (.seq (.reg [oM 25 8,oM 26 2,oO 27 (.conv .u64 (.t 26)),oO 28 (.bin .mul (.t 27) (.k (.c (.d (.int .u64 8))))),oO 29 (.call 26 [(.t 28),(kI 8)] none),oO 30 (.app false 1 1 (.t 25) (.t 29)),oM 8 30]) (.seq (.seq (.reg [oO 9 (.mv (kI 0))]) (.block 2 (.loop rZ))) (.seq (.reg [oO 45 (.bldSl true 0 1 (.int .u8 0) []),oM 10 45]) (.seq (.seq (.reg [oO 11 (.mv (kI 0))]) (.block 4 (.loop r6))) (.seq (.reg [oM 58 10,
 oM 6 58]) (.ret))))))))),[(6,none)]⟩
theorem ME:aD Try.prog { own:=[15,45],comp:=[],frz:=[],nils:=[] } Try.f45=some CK:=by kernel_rfl
theorem O2 (G:ak) (s:List UInt32) (rest:List UInt8) (count:Nat) (hs:s.length=8) (hr:rest.length<64) (hc:count≤140737488355328):ap Try.prog G 45 [.sl (s.map wD),.sl (rest.map bD),.int .i64 (count:Int)] (.w (.c (.fr 1 ((jI s rest count).map bD)))):=by
  refine aI Try.func45 ME rfl rfl ?_;have hj:=BS G [rest] (by simp) (by simp; omega);have hf:[rest].flatten=rest:=by simp
  rw[hf] at hj;obtain⟨hp1,hp2⟩:=KF rest count hr;simp only[CK,ai,ae,aa,seval,iteOmega,toNatUp];refine bL (E0 G) rfl (.inl rfl) ?_;simp only[ae,aa,seval,iteOmega,toNatUp];refine bL hj rfl (.inl rfl) ?_;simp only[ae,aa,seval,iteOmega,toNatUp,bW,MD,F5];refine bg (vf s rest count) (fun j=>(119-rest.length)%64-j) (fun j=>j≤(119-rest.length)%64) 0 (Rx _) ?_ ?_
  ·refine aA (fun _=>136) ?_ ?_ rfl rfl <;> simp only[wx,au,aH,aa,seval,iteOmega,toNatUp]
  ·intro j hj;have hl:(rest++[128]++List.replicate j 0).length=rest.length+1+j:=by simp; omega
   have ht:((rest++[128]++List.replicate j 0).length:Int).tmod 64=(((rest.length+1+j)%64:Nat):Int):=by rw[hl]; rfl
   by_cases hlt:j<(119-rest.length)%64
   ·have e1:rest++[128]++List.replicate j 0++[0]=rest++[128]++List.replicate (j+1) 0:=by
      rw[R3,KG]
    generalize hx:rest++[128]++List.replicate j 0=x at *
    simp only[rY,vf,hx,ae,aa,seval,iteOmega,toNatUp,ht,bW,Qh,F5,e1];refine aX (j+1) (by omega) (by omega) (aA (fun _=>192) ?_ ?_ rfl rfl) <;> simp only[wx,au,aH,aa,seval,iteOmega,toNatUp]
   ·obtain rfl:j=(119-rest.length)%64:=by omega
    generalize hx:rest++[128]++List.replicate ((119-rest.length)%64) 0=x at *
    simp only[rY,vf,hx,ae,aa,seval,iteOmega,toNatUp,ht];refine bL (oS G (count*8) 8 (by decide)) ?_ (.inl rfl) ?_
    ·simp only[ae,aa,seval,iteOmega,toNatUp]
    have hx2:x++aw (count*8) 8=fv rest count:=by rw[← hx]; rfl
    simp only[ae,aa,seval,iteOmega,toNatUp,bW,iC,hx2,cX];refine bg (vg s (fv rest count)) (fun n=>(fv rest count).length / 64-n) (fun n=>n≤(fv rest count).length / 64) 0 (Rx _) ?_ ?_
    ·refine aA (fun _=>240) ?_ ?_ rfl rfl <;> simp only[wx,au,aH,aa,seval,iteOmega,toNatUp,cB]
    ·generalize hpk:fv rest count=p at *
     intro n hn;have hl8:=nX hs p n;by_cases hlt:n<p.length / 64
     ·have h2:((p.drop (64*n)).take 64).length=64:=by rw[Rp,Rv]; omega
      have e1:64*n+64-64*n=64:=by omega
      simp only[rZ,vg,ae,aa,seval,iteOmega,toNatUp];refine bL (AA G (cB s p n) ((p.drop (64*n)).take 64) hl8 h2) ?_ (.inr (QN _ _)) ?_
      ·simp only[ae,aa,seval,iteOmega,toNatUp,cC,e1]
      simp only[ae,aa,seval,iteOmega,toNatUp];have e2:64*(n:Int)+64=64*((n:Int)+1):=by omega
      refine aX (n+1) (by omega) (by omega) (aA id ?_ ?_ rfl rfl) <;> simp only[wx,au,aH,aa,seval,iteOmega,toNatUp,cB,e2]
     ·obtain rfl:n=p.length / 64:=by omega
      have hfk:jI s rest count=ep (cB s p (p.length / 64)):=by unfold jI; rw[hpk]
      rw[hfk];simp only[vg];generalize cB s p (p.length / 64)=ws at hl8;have h64:¬ ((64*(p.length / 64):Nat):Int)<(p.length:Int):=by omega
      simp only[rZ,ae,aa,seval,iteOmega,toNatUp,h64];refine bg (vh ws) (fun k=>8-k) (fun k=>k≤8) 0 (Rx _) ?_ ?_
      ·refine aA (fun _=>360) ?_ ?_ rfl rfl <;> simp only[wx,au,aH,aa,seval,iteOmega,toNatUp,ep]
      ·intro k hk;by_cases hlt:k<8
       ·have hw1:(ws.getD k 0).toNat<4294967296:=word_lt _;have hwl:=rz (ws.take k);rw[Rp] at hwl;simp only[r6,vh,ae,aa,seval,iteOmega,toNatUp,O1 (show k<ws.length by omega)];refine bL (oS G (ws.getD k 0).toNat 4 (by decide)) ?_ (.inl rfl) ?_
        ·simp only[ae,aa,seval,iteOmega,toNatUp]
        simp only[ae,aa,seval,iteOmega,toNatUp,bW,Hg ws k (by omega),cX];refine aX (k+1) (by omega) (by omega) (aA (fun _=>456) ?_ ?_ rfl rfl) <;> simp only[wx,au,aH,aa,seval,iteOmega,toNatUp]
       ·obtain rfl:k=8:=by omega
        have:ws.take 8=ws:=Ro (by omega);simp only[r6,vh,ae,aa,seval,iteOmega,toNatUp,this];exact en (id:=1) (n:=(ep ws).length) (s:=1) (by simp only[wx,aa,seval,iteOmega,toNatUp]) (by simp only[wx,aa,seval,iteOmega,toNatUp]) (by rw[RD])
def vH (b:List UInt8) (n:Nat):St:=⟨aV [(0,.w (.c (.d (.sl (b.map bD))))),(3,.w (.c (.d (.sl ((cB fh b n).map wD))))),(4,.w (.c (.d (.sl (cp.map wD))))),(5,.w (.c (.d (.int .i64 ((64*(b.length / 64):Nat):Int))))),(6,.w (.c (.d (.int .i64 ((64*n:Nat):Int)))))],hL [],uL []⟩
def r7:aK := .seq (.seq (.reg [oM 13 6,oM 14 5,oO 15 (.bin .lss (.t 13) (.t 14))]) (.cond (.t 15) (.skip) (.exit 0))) (.seq (.block 1 (.reg [oM 18 3,oM 19 4,oM 20 0,oM 21 6,oM 22 6,oO 23 (.bin .add (.t 22) (kI 64)),oO 24 (.slice 1 (.t 20) (some (.t 21)) (some (.t 23)) none),oO 25 (.call 44 [(.t 18),(.t 19),(.t 24)] none),oM 3 25])) (.reg [oM 16 6,oO 17 (.bin .add (.t 16) (kI 64)),oM 6 17]))
def CL:aG:=⟨1,33,.seq (.reg [oO 2 (.mv (.k (.c .nil)))]) (.seq (.reg [oO 7 (.call 42 [] none),oO 8 (.call 43 [] none),oM 3 7,oM 4 8]) (.seq (.reg [oM 9 0,oO 10 (.len (.t 9)),oO 11 (.bin .quo (.t 10) (kI 64)),oO 12 (.bin .mul (.t 11) (kI 64)),oM 5 12]) (.seq (.seq (.reg [oO 6 (.mv (kI 0))]) (.block 0 (.loop r7))) (.seq (.reg [oM 26 3,oM 27 0,oM 28 5,oO 29 (.slice 1 (.t 27) (some (.t 28)) none none),oM 30 0,oO 31 (.len (.t 30)),oO 32 (.call 45 [(.t 26),(.t 29),(.t 31)] (some (0,1))),oM 2 32]) (.ret))))),[(2,none)]⟩
theorem MF:aD Try.prog { own:=[32],comp:=[],frz:=[],nils:=[] } Try.f24=some CL:=by kernel_rfl
theorem O3 (G:ak) (b:List UInt8) (hb:b.length≤140737488355328):ap Try.prog G 24 [.sl (b.map bD)] (.w (.c (.fr 1 ((kq b).map bD)))):=by
  refine aI Try.func24 MF rfl rfl ?_;have e1:(b.length:Int).tdiv 64=((b.length / 64:Nat):Int):=rfl;have e2:((b.length / 64:Nat):Int)*64=((64*(b.length / 64):Nat):Int):=by omega
  have e3:IntKind.i64.wrap ((64*(b.length / 64):Nat):Int)=((64*(b.length / 64):Nat):Int):=IntWalk.i64_in _ (by omega);have e4:IntKind.i64.wrap ((b.length / 64:Nat):Int)=((b.length / 64:Nat):Int):=IntWalk.i64_in _ (by omega);simp only[CL,ai,wx,wy,aa,seval,iteOmega,toNatUp];refine bL (OR G) rfl (.inl rfl) ?_;simp only[wx,wy,aa,seval,iteOmega,toNatUp];refine bL (E0 G) rfl (.inl rfl) ?_;simp only[wx,wy,aa,seval,iteOmega,toNatUp,e1,e2,e3,e4];refine bg (vH b) (fun n=>b.length / 64-n) (fun n=>n≤b.length / 64) 0 (Rx _) ?_ ?_
  ·refine aA id ?_ ?_ rfl rfl <;> simp only[wx,au,aa,seval,iteOmega,toNatUp,cB]
  ·intro n hn;have hl8:=nX xh b n;by_cases hlt:n<b.length / 64
   ·have h2:((b.drop (64*n)).take 64).length=64:=by rw[Rp,Rv]; omega
    have e1:64*n+64-64*n=64:=by omega
    have e5:IntKind.i64.wrap (((64*n:Nat):Int)+64)=((64*(n+1):Nat):Int):=by rw[IntWalk.i64_in _ (by omega)]; omega
    have e6:64*(n+1)-64*n=64:=by omega
    simp only[r7,vH,wx,wy,aa,seval,iteOmega,toNatUp,e1,e5,e6];refine bL (AA G (cB fh b n) ((b.drop (64*n)).take 64) hl8 h2) ?_ (.inl rfl) ?_
    ·simp only[wx,wy,aa,seval,iteOmega,toNatUp]
    simp only[wx,wy,aa,seval,iteOmega,toNatUp,e5];refine aX (n+1) (by omega) (by omega) (aA id ?_ ?_ rfl rfl) <;> simp only[wx,au,aa,seval,iteOmega,toNatUp,cB]
   ·obtain rfl:n=b.length / 64:=by omega
    have e1:List.take (b.length-64*(b.length / 64)) (b.drop (64*(b.length / 64)))=b.drop (64*(b.length / 64)):=Ro (by rw[Rv]; exact Rt _);simp only[r7,vH,wx,wy,aa,seval,iteOmega,toNatUp,e1];refine bL (O2 G (cB fh b (b.length / 64)) (b.drop (64*(b.length / 64))) b.length hl8 (by rw[Rv]; omega) hb) ?_ (.inl rfl) ?_
    ·simp only[wx,wy,aa,seval,iteOmega,toNatUp]
    simp only[wx,wy,aa,seval,iteOmega,toNatUp];exact en (id:=256) (n:=(jI (cB fh b (b.length / 64)) (b.drop (64*(b.length / 64))) b.length).length) (s:=1) (by simp only[wx,aa,seval,iteOmega,toNatUp]) (by simp only[wx,aa,seval,iteOmega,toNatUp] <;> rfl) (by rw[RD]; rfl)

def gW (v m:Int):Int:=if m<1 then 0 else v%m
theorem lV (v m:Int) (h:1≤m):0≤gW v m∧gW v m<m:=by
  unfold gW;rw[if_neg (by omega)];exact⟨Int.emod_nonneg _ (by omega),Int.emod_lt_of_pos _ (by omega)⟩
theorem KH {v m:Int} (hm:0<m) (h:v.tmod m<0):v.tmod m+m=v%m:=by
  have h1:=Int.emod_add_mul_ediv v m;have h2:=Int.tmod_add_mul_tdiv v m;have h3:=Int.emod_nonneg v (show m≠0 by omega);have h4:=Int.emod_lt_of_pos v hm;have h5:=Int.lt_tmod_of_pos v hm;have e:m*(v.tdiv m-v / m)=v%m-v.tmod m:=by rw[Int.mul_sub]; omega
  have k1:v.tdiv m-v / m=1:=by
    rcases Int.lt_trichotomy (v.tdiv m-v / m) 1 with hlt | heq | hgt
    ·exfalso;have:v.tdiv m-v / m≤0:=by omega
     have:=SU this (show 0≤m by omega);omega
    ·exact heq
    ·exfalso;have:2≤v.tdiv m-v / m:=by omega
     have:=SU this (show 0≤m by omega);omega
  rw[k1] at e;omega
theorem KI {v m:Int} (hm:0<m) (h:0≤v.tmod m):v.tmod m=v%m:=by
  have h1:=Int.emod_add_mul_ediv v m;have h2:=Int.tmod_add_mul_tdiv v m;have h3:=Int.emod_nonneg v (show m≠0 by omega);have h4:=Int.emod_lt_of_pos v hm;have h5:=Int.tmod_lt_of_pos v hm;have e:m*(v.tdiv m-v / m)=v%m-v.tmod m:=by rw[Int.mul_sub]; omega
  have k1:v.tdiv m-v / m=0:=by
    rcases Int.lt_trichotomy (v.tdiv m-v / m) 0 with hlt | heq | hgt
    ·exfalso;have:v.tdiv m-v / m ≤ -1:=by omega
     have:=SU this (show 0≤m by omega);omega
    ·exact heq
    ·exfalso;have:1≤v.tdiv m-v / m:=by omega
     have:=SU this (show 0≤m by omega);omega
  rw[k1] at e;omega
def nY:aG:=⟨2,16,.seq (.reg [oO 4 (.mv (kI 0))]) (.seq (.seq (.reg [oM 5 1,oO 6 (.bin .lss (.t 5) (kI 1))]) (.cond (.t 6) (.seq (.reg [oO 4 (.mv (kI 0))]) (.ret)) (.skip))) (.seq (.reg [oM 7 0,oM 8 1,oO 9 (.bin .rem (.t 7) (.t 8)),oM 0 9]) (.seq (.seq (.reg [oM 10 0,oO 11 (.bin .lss (.t 10) (kI 0))]) (.cond (.t 11) (.reg [oM 12 0,oM 13 1,oO 14 (.bin .add (.t 12) (.t 13)),oM 0 14]) (.skip))) (.seq (.reg [oM 15 0,oM 4 15]) (.ret))))),[(4,none)]⟩
theorem IX:aD Try.prog { own:=[],comp:=[],frz:=[],nils:=[] } Try.f8=some nY:=by kernel_rfl
theorem mg (G:ak) (v m:Int) (hm:m≤9223372036854775807):ap Try.prog G 8 [.int .i64 v,.int .i64 m] (.w (.c (.d (.int .i64 (gW v m))))):=by
  refine aI Try.func8 IX rfl rfl ?_;unfold gW;by_cases h:m<1
  ·rw[if_pos h];simp only[nY,ai,ae,aa,seval,iteOmega,toNatUp];exact aO
  ·rw[if_neg h];have hne:¬ m=0:=by omega
   have h4:=Int.tmod_lt_of_pos v (show 0<m by omega);by_cases hn:v.tmod m<0
   ·have e:=KH (by omega) hn;have h3:=Int.emod_lt_of_pos v (show 0<m by omega);have h5:=Int.emod_nonneg v (show m≠0 by omega);simp only[nY,ai,ae,aa,seval,iteOmega,toNatUp,hne];exact my (by simp only[ae,aa,seval,iteOmega,toNatUp,e])
   ·have e:=KI (v:=v) (show 0<m by omega) (by omega);simp only[nY,ai,ae,aa,seval,iteOmega,toNatUp,hne];exact my (by simp only[ae,aa,seval,iteOmega,toNatUp,e])
def j7 (s i:Nat):List UInt8:=kq (aw s 8++aw i 4)
def eM (s:Nat) (k:Nat):List UInt8:=((List.range k).map (j7 s)).flatten
theorem wM (s k:Nat):eM s k++j7 s k=eM s (k+1):=by simp[eM,S6]
theorem nI (s:Nat):∀ k,(eM s k).length=32*k
  | 0=>rfl
  | k+1=>by rw[← wM,Rk,nI s k]; unfold j7; rw[AB]; omega
def cz (seed n:Int):List UInt8:=(eM (seed%18446744073709551616).toNat ((n.toNat+31) / 32)).take n.toNat
theorem lZ (seed n:Int):(cz seed n).length=n.toNat:=by
  unfold cz; rw[Rp,nI]; omega
def qg (seed n:Int) (s:Nat) (k:Nat):St:=⟨aV [(0,.w (.c (.d (.int .i64 seed)))),(1,.w (.c (.d (.int .i64 n)))),(5,.w (.c (.own 1 1 0 (eM s k).length))),(6,.w (.c (.d (.int .i64 (k:Int)))))],hL [(1,.row 1 ((eM s k).map bD))],uL [1]⟩
def nE:aK := .seq (.seq (.reg [oM 8 5,oO 9 (.len (.t 8)),oM 10 1,oO 11 (.bin .lss (.t 9) (.t 10))]) (.cond (.t 11) (.skip) (.exit 0))) (.seq (.block 1 (.reg [oM 14 5,oM 15 0,oO 16 (.conv .u64 (.t 15)),oO 17 (.call 26 [(.t 16),(kI 8)] none),oM 18 6,oO 19 (.conv .u64 (.t 18)),oO 20 (.call 26 [(.t 19),(kI 4)] none),oO 21 (.bldSl false 2 1 (.sl []) [(0,(.t 17)),(1,(.t 20))]),oO 22 (.call 25 [(.t 21)] none),oO 23 (.call 24 [(.t 22)] none),oO 24 (.app false 1 1 (.t 14) (.t 23)),oM 5 24])) (.reg [oM 12 6,oO 13 (.bin .add (.t 12) (kI 1)),oM 6 13]))
def yy:aG:=⟨2,29,.seq (.reg [oO 4 (.mv (.k (.c .nil)))]) (.seq (.reg [oO 7 (.bldSl true 0 1 (.int .u8 0) []),oM 5 7]) (.seq (.seq (.reg [oO 6 (.mv (kI 0))]) (.block 0 (.loop nE))) (.seq (.reg [oM 25 5,oM 26 1,oO 27 (.max [(.t 26),(kI 0)]),oO 28 (.slice 1 (.t 25) none (some (.t 27)) none),oM 4 28]) (.ret)))),[(4,none)]⟩
theorem IY:aD Try.prog { own:=[7],comp:=[],frz:=[],nils:=[] } Try.f10=some yy:=by kernel_rfl
set_option maxHeartbeats 1600000 in
theorem KJ (G:ak) (seed n:Int) (hn:n≤1099511627776):ap Try.prog G 10 [.int .i64 seed,.int .i64 n] (.w (.c (.fr 1 ((cz seed n).map bD)))):=by
  refine aI Try.func10 IY rfl rfl ?_;obtain⟨s,hs⟩:∃ s:Nat,(seed%18446744073709551616).toNat=s:=⟨_,rfl⟩
  have hw:IntKind.u64.wrap seed=(s:Int):=by rw[IntKind.wrap_u64,← hs]; omega
  have hs2:s<18446744073709551616:=by omega
  have hK:cz seed n=(eM s ((n.toNat+31) / 32)).take n.toNat:=by unfold cz; rw[hs]
  rw[hK];simp only[yy,ai,ae,aa,seval,iteOmega,toNatUp];refine bg (qg seed n s) (fun k=>(n.toNat+31) / 32-k) (fun k=>k≤(n.toNat+31) / 32) 0 (Rx _) ?_ ?_
  ·refine aA (fun _=>56) ?_ ?_ rfl rfl <;> simp only[wx,au,aH,aa,seval,iteOmega,toNatUp] <;> rfl
  ·intro k hk;have hl:=nI s k;by_cases hlt:k<(n.toNat+31) / 32
   ·have hc:((eM s k).length:Int)<n:=by omega
    have hj:=BS G [aw s 8,aw k 4] (by simp) (by simp[cX]);have hf:[aw s 8,aw k 4].flatten=aw s 8++aw k 4:=by simp
    rw[hf] at hj;have hb:=wM s k;have hk2:IntKind.u64.wrap (k:Int)=(k:Int):=u64_in _ (by omega) (by omega);simp only[nE,qg,wx,wy,aa,seval,iteOmega,toNatUp,hw,hk2];refine bL (oS G s 8 (by decide)) rfl (.inl rfl) ?_;simp only[wx,wy,aa,seval,iteOmega,toNatUp,hw,hk2];refine bL (oS G k 4 (by decide)) rfl (.inl rfl) ?_;simp only[wx,wy,aa,seval,iteOmega,toNatUp];refine bL hj rfl (.inl rfl) ?_;simp only[wx,wy,aa,seval,iteOmega,toNatUp];refine bL (O3 G (aw s 8++aw k 4) (by simp[cX])) rfl (.inl rfl) ?_;have hh:(kq (aw s 8++aw k 4)).length=32:=AB _;have hb':eM s k++kq (aw s 8++aw k 4)=eM s (k+1):=hb;simp only[ae,aa,seval,iteOmega,toNatUp,bW,iC,hb',hh];refine aX (k+1) (by omega) (by omega) (aA (fun _=>192) ?_ ?_ rfl rfl) <;> simp only[wx,au,aH,aa,seval,iteOmega,toNatUp]
   ·obtain rfl:k=(n.toNat+31) / 32:=by omega
    have hc:¬ ((eM s ((n.toNat+31) / 32)).length:Int)<n:=by omega
    by_cases h0:n<0
    ·have e0:n.toNat=0:=by omega
     simp only[nE,qg,ae,aa,seval,iteOmega,toNatUp,hc,SG,List.foldl_nil];rw[e0,List.map_take];exact zZ (id:=1) (s:=1) (by simp only[wx,aa,seval,iteOmega,toNatUp]) (by simp only[wx,aa,seval,iteOmega,toNatUp]) (Rx _)
    ·simp only[nE,qg,ae,aa,seval,iteOmega,toNatUp,hc,SG,List.foldl_nil];rw[List.map_take];exact zZ (id:=1) (s:=1) (by simp only[wx,aa,seval,iteOmega,toNatUp]) (by simp only[wx,aa,seval,iteOmega,toNatUp]) (by rw[RD,nI]; omega)
theorem oC (G:ak) (seed n:Int) (hn:n≤1099511627776):ap Try.prog G 10 [.int .i64 seed,.int .i64 n] (.w (.c (.d (.sl ((cz seed n).map bD))))):=jZ (KJ G seed n hn)
def pk (f:Nat→Nat):Nat→Nat
  | 0=>0
  | L+1=>2^(64*L)*f L+pk f L
theorem F7 {f:Nat→Nat} (hf:∀ s,f s<2^64):∀ L,pk f L<2^(64*L)
  | 0=>by simp[pk]
  | L+1=>by
    have ih:=F7 hf L;have h:=hf L;have e:2^(64*(L+1))=2^(64*L)*2^64:=by rw[← Nat.pow_add]; congr 1
    have:2^(64*L)*f L+2^(64*L)≤2^(64*L)*2^64:=by
      rw[← Nat.mul_succ]; exact Nat.mul_le_mul_left _ h
    rw[pk,e]; omega
theorem eO {f:Nat→Nat} (hf:∀ s,f s<2^64):∀ (L j:Nat),(pk f L).testBit j=(decide (j / 64<L)&&(f (j / 64)).testBit (j%64))
  | 0,j=>by simp[pk]
  | L+1,j=>by
    rw[pk,Nat.testBit_two_pow_mul_add _ (F7 hf L)];by_cases h:j<64*L
    ·rw[if_pos h,eO hf L j];rw[decide_eq_true (show j / 64<L by omega),decide_eq_true (show j / 64<L+1 by omega)]
    ·rw[if_neg h];by_cases h2:j / 64=L
     ·rw[h2,decide_eq_true (Nat.lt_succ_self L),S9]
      congr 1; omega
     ·rw[decide_eq_false (show ¬ j / 64<L+1 by omega),Bool.false_and];refine Nat.testBit_lt_two_pow (Nat.lt_of_lt_of_le (hf L) (Nat.pow_le_pow_right (by decide) (by omega)))
theorem dL {f g:Nat→Nat}:∀ {L:Nat},(∀ s,s<L→f s=g s)→pk f L=pk g L
  | 0,_=>rfl
  | L+1,h=>by rw[pk,pk,h L (Nat.lt_succ_self L),dL fun s hs=>h s (by omega)]
theorem eP (f g:Nat→Nat):∀ L,Nat.add (pk f L) (pk g L)=pk (fun s=>Nat.add (f s) (g s)) L
  | 0=>rfl
  | L+1=>by
    have ih:=eP f g L
    show (2^(64*L)*f L+pk f L)+(2^(64*L)*g L+pk g L)=2^(64*L)*(f L+g L)+pk _ L
    rw[← ih,Nat.mul_add]
    show _=_+(pk f L+pk g L)
    omega
theorem uF (f:Nat→Nat) (c:Nat):∀ L,Nat.mul (pk f L) c=pk (fun s=>Nat.mul (f s) c) L
  | 0=>SO c
  | L+1=>by
    have ih:=uF f c L
    show (2^(64*L)*f L+pk f L)*c=2^(64*L)*(f L*c)+pk _ L
    rw[← ih,RS,Nat.mul_assoc]; rfl
theorem pg (f:Nat→Nat) (c L:Nat):Nat.mul c (pk f L)=pk (fun s=>Nat.mul c (f s)) L:=by
  show c*pk f L=_
  rw[S0];refine (uF f c L).trans (dL fun s _=>S0 _ _)
theorem sZ {a b:Nat} (ha:a<2^64) (hb:b<2^64):Nat.xor a b<2^64:=Nat.xor_lt_two_pow ha hb
theorem oD {a b:Nat} (ha:a<2^64):Nat.land a b<2^64:=SB Nat.and_le_left ha
theorem mD {f g:Nat→Nat} (hf:∀ s,f s<2^64) (hg:∀ s,g s<2^64) (L:Nat):Nat.xor (pk f L) (pk g L)=pk (fun s=>Nat.xor (f s) (g s)) L:=by
  show pk f L ^^^ pk g L=_
  refine Nat.eq_of_testBit_eq fun j=>?_
  rw[Sc,eO hf,eO hg,eO (fun s=>sZ (hf s) (hg s))]
  show _=(_&&(f (j / 64) ^^^ g (j / 64)).testBit _)
  rw[Sc];cases decide (j / 64<L) <;> simp
theorem pG {f g:Nat→Nat} (hf:∀ s,f s<2^64) (hg:∀ s,g s<2^64) (L:Nat):Nat.land (pk f L) (pk g L)=pk (fun s=>Nat.land (f s) (g s)) L:=by
  show pk f L &&& pk g L=_
  refine Nat.eq_of_testBit_eq fun j=>?_
  rw[Nat.testBit_and,eO hf,eO hg,eO (fun s=>oD (hf s))]
  show _=(_&&(f (j / 64) &&& g (j / 64)).testBit _)
  rw[Nat.testBit_and];cases decide (j / 64<L) <;> simp
def gg:Nat:=4294967295
theorem mn (j:Nat):gg.testBit j=decide (j<32):=Nat.testBit_two_pow_sub_one 32 j
theorem m64 (s:Nat):(fun _:Nat=>gg) s<2^64:=by show gg<_; decide
def jM (m x y:Nat) (a b c:Nat):Nat:=Nat.land (Nat.xor (Nat.xor (Nat.shiftRight x a) (Nat.shiftRight x b)) (Nat.shiftRight y c)) m
theorem kX (m x y a b c j:Nat):(jM m x y a b c).testBit j=((((x.testBit (a+j)) ^^ (x.testBit (b+j))) ^^ (y.testBit (c+j)))&&m.testBit j):=by
  show (((x >>> a ^^^ x >>> b) ^^^ y >>> c) &&& m).testBit j=_
  simp only[Nat.testBit_and,Sc,Nat.testBit_shiftRight]
theorem mF (x y a b c:Nat):jM gg x y a b c<2^32:=SB Nat.and_le_right (by decide)
theorem pH {f g:Nat→Nat} (hf:∀ s,f s<2^64) (hg:∀ s,g s<2^64) {a b c:Nat} (ha:a≤32) (hb:b≤32) (hc:c≤32) (L:Nat):jM (pk (fun _=>gg) L) (pk f L) (pk g L) a b c=pk (fun s=>jM gg (f s) (g s) a b c) L:=by
  refine Nat.eq_of_testBit_eq fun j=>?_
  rw[kX,eO hf,eO hf,eO hg,eO m64,eO (fun s=>Nat.lt_trans (mF _ _ _ _ _) (by decide)),kX,mn];by_cases h:j%64<32
  ·rw[show (a+j) / 64=j / 64 by omega,show (b+j) / 64=j / 64 by omega,show (c+j) / 64=j / 64 by omega,show (a+j)%64=a+j%64 by omega,show (b+j)%64=b+j%64 by omega,show (c+j)%64=c+j%64 by omega];cases decide (j / 64<L) <;> simp
  ·rw[decide_eq_false h]; simp
def fX (x:Nat):Nat:=Nat.mul x 4294967297
def nu (m x:Nat):Nat:=jM m (fX x) (fX x) 6 11 25
def nv (m x:Nat):Nat:=jM m (fX x) (fX x) 2 13 22
def nx (m x:Nat):Nat:=jM m (fX x) x 7 18 3
def ny (m x:Nat):Nat:=jM m (fX x) x 17 19 10
def qS (e f g:Nat):Nat:=Nat.xor g (Nat.land e (Nat.xor f g))
def qT (a b c:Nat):Nat:=Nat.xor (Nat.land a (Nat.xor b c)) (Nat.land b c)
theorem MG {x:Nat} (hx:x<2^32) (j:Nat):(fX x).testBit j=if j<32 then x.testBit j else x.testBit (j-32):=by
  have e:fX x=2^32*x+x:=by show x*4294967297=_; omega
  rw[e,Nat.testBit_two_pow_mul_add _ hx]
theorem uG {x:Nat} (hx:x<2^32) {j:Nat} (h:32≤j):x.testBit j=false:=Nat.testBit_lt_two_pow (Nat.lt_of_lt_of_le hx (Nat.pow_le_pow_right (by decide) h))
theorem gX (x:UInt32) {r:Nat} (h0:0<r) (h:r<32) {j:Nat} (hj:j<32):(fo x r).toNat.testBit j=(fX x.toNat).testBit (r+j):=by
  have hx:x.toNat<2^32:=x.toNat_lt;rw[MG hx];unfold fo je iY ia;rw[UInt32.toNat_or,UInt32.toNat_ofNat',UInt32.toNat_ofNat',Nat.testBit_or,Nat.testBit_mod_two_pow,Nat.testBit_mod_two_pow,decide_eq_true hj,S9,S9,Nat.testBit_div_two_pow,S0,Nat.testBit_two_pow_mul];by_cases hr:r+j<32
  ·rw[if_pos hr,decide_eq_false (show ¬ j≥32-r by omega),Nat.add_comm]; simp
  ·rw[if_neg hr,decide_eq_true (show j≥32-r by omega),S9,uG hx (by omega),Bool.false_or]
   congr 1; omega
theorem CO (x:UInt32) {r j:Nat} (hj:j<32):(iY x r).toNat.testBit j=x.toNat.testBit (r+j):=by
  unfold iY;rw[UInt32.toNat_ofNat',Nat.testBit_mod_two_pow,decide_eq_true hj,S9,Nat.testBit_div_two_pow,Nat.add_comm]
theorem li {x:Nat} {y:UInt32} (h:∀ j,j<32→x.testBit j=y.toNat.testBit j) (hx:x<2^32):x=y.toNat:=by
  refine Nat.eq_of_testBit_eq fun j=>?_
  by_cases hj:j<32
  ·exact h j hj
  ·rw[uG hx (by omega),uG y.toNat_lt (by omega)]
theorem Ql (x:UInt32):nu gg x.toNat=(ii x).toNat:=by
  refine li (fun j hj=>?_) (mF _ _ _ _ _);unfold nu ii c7;rw[kX,UInt32.toNat_xor,UInt32.toNat_xor,Sc,Sc,gX x (by decide) (by decide) hj,gX x (by decide) (by decide) hj,gX x (by decide) (by decide) hj,mn,decide_eq_true hj,S8]
theorem Qm (x:UInt32):nv gg x.toNat=(i9 x).toNat:=by
  refine li (fun j hj=>?_) (mF _ _ _ _ _);unfold nv i9 c7;rw[kX,UInt32.toNat_xor,UInt32.toNat_xor,Sc,Sc,gX x (by decide) (by decide) hj,gX x (by decide) (by decide) hj,gX x (by decide) (by decide) hj,mn,decide_eq_true hj,S8]
theorem Qn (x:UInt32):nx gg x.toNat=(iG x).toNat:=by
  refine li (fun j hj=>?_) (mF _ _ _ _ _);unfold nx iG c7;rw[kX,UInt32.toNat_xor,UInt32.toNat_xor,Sc,Sc,gX x (by decide) (by decide) hj,gX x (by decide) (by decide) hj,CO x hj,mn,decide_eq_true hj,S8]
theorem Qo (x:UInt32):ny gg x.toNat=(iH x).toNat:=by
  refine li (fun j hj=>?_) (mF _ _ _ _ _);unfold ny iH c7;rw[kX,UInt32.toNat_xor,UInt32.toNat_xor,Sc,Sc,gX x (by decide) (by decide) hj,gX x (by decide) (by decide) hj,CO x hj,mn,decide_eq_true hj,S8]
theorem MH (x:UInt32) {j:Nat} (hj:j<32):(lG x).toNat.testBit j=!x.toNat.testBit j:=by
  have h:=x.toNat_lt;unfold lG;rw[UInt32.toNat_ofNat_of_lt' (by simp[UInt32.size]; omega),show 4294967295-x.toNat=2^32-(x.toNat+1) by omega,Nat.testBit_two_pow_sub_succ h,decide_eq_true hj,S9]
theorem Qp (e f g:UInt32):qS e.toNat f.toNat g.toNat=(iw e f g).toNat:=by
  have he:e.toNat<2^32:=e.toNat_lt;have hf:f.toNat<2^32:=f.toNat_lt;have hg:g.toNat<2^32:=g.toNat_lt;refine li (fun j hj=>?_) (Nat.xor_lt_two_pow hg (SB Nat.and_le_left he))
  show (g.toNat ^^^ (e.toNat &&& (f.toNat ^^^ g.toNat))).testBit j=_
  unfold iw c7 hZ;rw[UInt32.toNat_xor,UInt32.toNat_and,UInt32.toNat_and];simp only[Sc,Nat.testBit_and,MH e hj];cases e.toNat.testBit j <;> cases f.toNat.testBit j <;> cases g.toNat.testBit j <;> rfl
theorem Qq (a b c:UInt32):qT a.toNat b.toNat c.toNat=(ja a b c).toNat:=by
  have ha:a.toNat<2^32:=a.toNat_lt;have hb:b.toNat<2^32:=b.toNat_lt;refine li (fun j hj=>?_) (Nat.xor_lt_two_pow (SB Nat.and_le_left ha) (SB Nat.and_le_left hb))
  show ((a.toNat &&& (b.toNat ^^^ c.toNat)) ^^^ (b.toNat &&& c.toNat)).testBit j=_
  unfold ja c7 hZ;simp only[UInt32.toNat_xor,UInt32.toNat_and,Sc,Nat.testBit_and];cases a.toNat.testBit j <;> cases b.toNat.testBit j <;> cases c.toNat.testBit j <;> rfl
structure E8 where
  (a b c d e f g h:Nat)
def kN:List Nat:=[0x428a2f98,0x71374491,0xb5c0fbcf,0xe9b5dba5,0x3956c25b,0x59f111f1,0x923f82a4,0xab1c5ed5,0xd807aa98,0x12835b01,0x243185be,0x550c7dc3,0x72be5d74,0x80deb1fe,0x9bdc06a7,0xc19bf174,0xe49b69c1,0xefbe4786,0x0fc19dc6,0x240ca1cc,0x2de92c6f,0x4a7484aa,0x5cb0a9dc,0x76f988da,0x983e5152,0xa831c66d,0xb00327c8,0xbf597fc7,0xc6e00bf3,0xd5a79147,0x06ca6351,0x14292967,0x27b70a85,0x2e1b2138,0x4d2c6dfc,0x53380d13,0x650a7354,0x766a0abb,0x81c2c92e,0x92722c85,0xa2bfe8a1,0xa81a664b,0xc24b8b70,0xc76c51a3,0xd192e819,0xd6990624,0xf40e3585,0x106aa070,0x19a4c116,0x1e376c08,0x2748774c,0x34b0bcb5,0x391c0cb3,0x4ed8aa4a,0x5b9cca4f,0x682e6ff3,0x748f82ee,0x78a5636f,0x84c87814,0x8cc70208,0x90befffa,0xa4506ceb,0xbef9a3f7,0xc67178f2]
theorem Qr:kN=cp.map UInt32.toNat:=by decide
noncomputable def m7 (T:Nat→Nat→Nat→Nat→Nat→Nat→Nat) (A:Nat→Nat→Nat→Nat→Nat) (E:Nat→Nat→Nat) (N:Nat→Nat→Nat→Nat→Nat) (ks:List Nat):Nat→Nat→Nat→Nat→Nat→Nat→Nat→Nat→Nat→Nat→Nat→Nat→Nat→Nat→Nat→Nat→Nat→Nat→Nat→Nat→Nat→Nat→Nat→Nat→E8 :=
  @List.rec Nat (fun _=>Nat→Nat→Nat→Nat→Nat→Nat→Nat→Nat→Nat→Nat→Nat→Nat→Nat→Nat→Nat→Nat→Nat→Nat→Nat→Nat→Nat→Nat→Nat→Nat→E8)
    (fun a b c d e f g h _ _ _ _ _ _ _ _ _ _ _ _ _ _ _ _=>E8.mk a b c d e f g h)
    (fun k _ ih a b c d e f g h w0 w1 w2 w3 w4 w5 w6 w7 w8 w9 w10 w11 w12 w13 w14 w15=>(fun t1=>ih (A t1 a b c) a b c (E d t1) e f g w1 w2 w3 w4 w5 w6 w7 w8 w9 w10 w11 w12 w13 w14 w15 (N w0 w1 w9 w14)) (T k h w0 e f g)) ks
section
variable (T:Nat→Nat→Nat→Nat→Nat→Nat→Nat) (A:Nat→Nat→Nat→Nat→Nat) (E:Nat→Nat→Nat) (N:Nat→Nat→Nat→Nat→Nat) (a b c d e f g h w0 w1 w2 w3 w4 w5 w6 w7 w8 w9 w10 w11 w12 w13 w14 w15:Nat)
theorem I0 (k:Nat) (ks:List Nat):m7 T A E N (k::ks) a b c d e f g h w0 w1 w2 w3 w4 w5 w6 w7 w8 w9 w10 w11 w12 w13 w14 w15=m7 T A E N ks (A (T k h w0 e f g) a b c) a b c (E d (T k h w0 e f g)) e f g w1 w2 w3 w4 w5 w6 w7 w8 w9 w10 w11 w12 w13 w14 w15 (N w0 w1 w9 w14):=rfl
end
def TN (one m k h w e f g:Nat):Nat:=Nat.add (Nat.add h (Nat.add w (Nat.mul k one))) (Nat.add (nu m e) (qS e f g))
def AN (m t a b c:Nat):Nat:=Nat.land (Nat.add t (Nat.add (nv m a) (qT a b c))) m
def EN (m d t:Nat):Nat:=Nat.land (Nat.add d t) m
def NN (m w0 w1 w9 w14:Nat):Nat:=Nat.land (Nat.add (Nat.add w0 (nx m w1)) (Nat.add w9 (ny m w14))) m
noncomputable def vI (P:Nat→Nat→Nat) (s t:E8):E8 :=
  E8.rec (fun a b c d e f g h=>E8.rec (fun a' b' c' d' e' f' g' h'=>E8.mk (P a a') (P b b') (P c c') (P d d') (P e e') (P f f') (P g g') (P h h')) t) s
theorem MI (P:Nat→Nat→Nat) (a b c d e f g h a' b' c' d' e' f' g' h':Nat):vI P (E8.mk a b c d e f g h) (E8.mk a' b' c' d' e' f' g' h')=E8.mk (P a a') (P b b') (P c c') (P d d') (P e e') (P f f') (P g g') (P h h'):=rfl
noncomputable def GC (T:Nat→Nat→Nat→Nat→Nat→Nat→Nat) (A:Nat→Nat→Nat→Nat→Nat) (E:Nat→Nat→Nat) (N:Nat→Nat→Nat→Nat→Nat) (ks:List Nat) (s:E8) (w0 w1 w2 w3 w4 w5 w6 w7 w8 w9 w10 w11 w12 w13 w14 w15:Nat):E8 :=
  E8.rec (fun a b c d e f g h=>m7 T A E N ks a b c d e f g h w0 w1 w2 w3 w4 w5 w6 w7 w8 w9 w10 w11 w12 w13 w14 w15) s
theorem MJ (T:Nat→Nat→Nat→Nat→Nat→Nat→Nat) (A:Nat→Nat→Nat→Nat→Nat) (E:Nat→Nat→Nat) (N:Nat→Nat→Nat→Nat→Nat) (ks:List Nat) (a b c d e f g h w0 w1 w2 w3 w4 w5 w6 w7 w8 w9 w10 w11 w12 w13 w14 w15:Nat):GC T A E N ks (E8.mk a b c d e f g h) w0 w1 w2 w3 w4 w5 w6 w7 w8 w9 w10 w11 w12 w13 w14 w15=m7 T A E N ks a b c d e f g h w0 w1 w2 w3 w4 w5 w6 w7 w8 w9 w10 w11 w12 w13 w14 w15:=rfl
noncomputable def vJ (one m:Nat) (s:E8) (w0 w1 w2 w3 w4 w5 w6 w7 w8 w9 w10 w11 w12 w13 w14 w15:Nat):E8:=vI (EN m) s (GC (TN one m) (AN m) (EN m) (NN m) kN s w0 w1 w2 w3 w4 w5 w6 w7 w8 w9 w10 w11 w12 w13 w14 w15)
def pw (x:Nat→UInt32) (L:Nat):Nat:=pk (fun s=>(x s).toNat) L
abbrev dr (L:Nat):Nat:=pk (fun _=>1) L
abbrev dE (L:Nat):Nat:=pk (fun _=>gg) L
theorem dv (x:UInt32):x.toNat<2^64:=Nat.lt_trans x.toNat_lt (by decide)
theorem lA (x:UInt32):fX x.toNat<2^64:=by
  have:=x.toNat_lt
  show x.toNat*4294967297<_
  omega
theorem pI (x:Nat→UInt32) (L:Nat):fX (pw x L)=pk (fun s=>fX (x s).toNat) L:=uF _ _ _
theorem O7 (x:Nat→UInt32) (L:Nat):nu (dE L) (pw x L)=pw (fun s=>ii (x s)) L:=by
  unfold nu;rw[pI,pH (fun s=>lA _) (fun s=>lA _) (by decide) (by decide) (by decide)];exact dL fun s _=>Ql (x s)
theorem O8 (x:Nat→UInt32) (L:Nat):nv (dE L) (pw x L)=pw (fun s=>i9 (x s)) L:=by
  unfold nv;rw[pI,pH (fun s=>lA _) (fun s=>lA _) (by decide) (by decide) (by decide)];exact dL fun s _=>Qm (x s)
theorem O9 (x:Nat→UInt32) (L:Nat):nx (dE L) (pw x L)=pw (fun s=>iG (x s)) L:=by
  unfold nx;rw[pI];unfold pw;rw[pH (fun s=>lA _) (fun s=>dv _) (by decide) (by decide) (by decide)];exact dL fun s _=>Qn (x s)
theorem Pb (x:Nat→UInt32) (L:Nat):ny (dE L) (pw x L)=pw (fun s=>iH (x s)) L:=by
  unfold ny;rw[pI];unfold pw;rw[pH (fun s=>lA _) (fun s=>dv _) (by decide) (by decide) (by decide)];exact dL fun s _=>Qo (x s)
theorem Pf (e f g:Nat→UInt32) (L:Nat):qS (pw e L) (pw f L) (pw g L)=pw (fun s=>iw (e s) (f s) (g s)) L:=by
  unfold qS pw;rw[mD (fun s=>dv _) (fun s=>dv _),pG (fun s=>dv _) (fun s=>sZ (dv _) (dv _)),mD (fun s=>dv _) (fun s=>oD (dv _))];exact dL fun s _=>Qp (e s) (f s) (g s)
theorem Pg (a b c:Nat→UInt32) (L:Nat):qT (pw a L) (pw b L) (pw c L)=pw (fun s=>ja (a s) (b s) (c s)) L:=by
  unfold qT pw;rw[mD (fun s=>dv _) (fun s=>dv _),pG (fun s=>dv _) (fun s=>sZ (dv _) (dv _)),pG (fun s=>dv _) (fun s=>dv _),mD (fun s=>oD (dv _)) (fun s=>oD (dv _))];exact dL fun s _=>Qq (a s) (b s) (c s)
theorem KL (x:Nat):Nat.land x gg=x%4294967296:=Nat.and_two_pow_sub_one_eq_mod x 32
theorem pJ {f:Nat→Nat} (hf:∀ s,f s<2^64) (L:Nat):Nat.land (pk f L) (dE L)=pk (fun s=>f s%4294967296) L:=by
  rw[pG hf m64];exact dL fun s _=>KL (f s)
def gP (S:bc) (k w:UInt32):Nat:=(S.h.toNat+(w.toNat+k.toNat))+((ii S.e).toNat+(iw S.e S.f S.g).toNat)
theorem Qs (S:Nat→bc) (k:UInt32) (w:Nat→UInt32) (L:Nat):TN (dr L) (dE L) k.toNat (pw (fun s=>(S s).h) L) (pw w L) (pw (fun s=>(S s).e) L) (pw (fun s=>(S s).f) L) (pw (fun s=>(S s).g) L)=pk (fun s=>gP (S s) k (w s)) L:=by
  unfold TN;rw[O7,Pf,pg];unfold pw;rw[eP,eP,eP,eP];refine dL fun s _=>?_
  show ((S s).h.toNat+((w s).toNat+k.toNat*1))+_=_
  rw[SC]; rfl
theorem F8 (S:bc) (k w:UInt32):gP S k w<21474836480:=by
  have h1:=S.h.toNat_lt;have h2:=w.toNat_lt;have h3:=k.toNat_lt;have h4:=(ii S.e).toNat_lt;have h5:=(iw S.e S.f S.g).toNat_lt;unfold gP;omega
theorem Qt (S:bc) (k w:UInt32):(gP S k w+((i9 S.a).toNat+(ja S.a S.b S.c).toNat))%4294967296=(S.step k w).a.toNat:=by
  show _=(aT (aT (aT (aT (aT S.h (ii S.e)) (iw S.e S.f S.g)) k) w) (aT (i9 S.a) (ja S.a S.b S.c))).toNat
  unfold gP aT;simp only[UInt32.toNat_add];omega
theorem Qu (S:bc) (k w:UInt32):(S.d.toNat+gP S k w)%4294967296=(S.step k w).e.toNat:=by
  show _=(aT S.d (aT (aT (aT (aT S.h (ii S.e)) (iw S.e S.f S.g)) k) w)).toNat
  unfold gP aT;simp only[UInt32.toNat_add];omega
theorem MK (S:Nat→bc) (k:UInt32) (w:Nat→UInt32) (L:Nat):AN (dE L) (pk (fun s=>gP (S s) k (w s)) L) (pw (fun s=>(S s).a) L) (pw (fun s=>(S s).b) L) (pw (fun s=>(S s).c) L)=pw (fun s=>((S s).step k (w s)).a) L:=by
  unfold AN;rw[O8,Pg];unfold pw;rw[eP,eP,pJ]
  ·exact dL fun s _=>Qt (S s) k (w s)
  ·intro s;have h1:=F8 (S s) k (w s);have h2:=(i9 (S s).a).toNat_lt;have h3:=(ja (S s).a (S s).b (S s).c).toNat_lt
   show gP (S s) k (w s)+((i9 (S s).a).toNat+(ja (S s).a (S s).b (S s).c).toNat)<_
   omega
theorem ML (S:Nat→bc) (k:UInt32) (w:Nat→UInt32) (L:Nat):EN (dE L) (pw (fun s=>(S s).d) L) (pk (fun s=>gP (S s) k (w s)) L)=pw (fun s=>((S s).step k (w s)).e) L:=by
  unfold EN pw;rw[eP,pJ]
  ·exact dL fun s _=>Qu (S s) k (w s)
  ·intro s;have h1:=F8 (S s) k (w s);have h2:=(S s).d.toNat_lt
   show (S s).d.toNat+gP (S s) k (w s)<_
   omega
def ku (w0 w1 w9 w14:UInt32):UInt32:=aT (aT (aT (iH w14) w9) (iG w1)) w0
theorem Qv (w0 w1 w9 w14:UInt32):((w0.toNat+(iG w1).toNat)+(w9.toNat+(iH w14).toNat))%4294967296=(ku w0 w1 w9 w14).toNat:=by
  unfold ku aT;simp only[UInt32.toNat_add];omega
theorem MM (w0 w1 w9 w14:Nat→UInt32) (L:Nat):NN (dE L) (pw w0 L) (pw w1 L) (pw w9 L) (pw w14 L)=pw (fun s=>ku (w0 s) (w1 s) (w9 s) (w14 s)) L:=by
  unfold NN;rw[O9,Pb];unfold pw;rw[eP,eP,eP,pJ]
  ·exact dL fun s _=>Qv _ _ _ _
  ·intro s;have h1:=(w0 s).toNat_lt;have h2:=(iG (w1 s)).toNat_lt;have h3:=(w9 s).toNat_lt;have h4:=(iH (w14 s)).toNat_lt
   show ((w0 s).toNat+(iG (w1 s)).toNat)+((w9 s).toNat+(iH (w14 s)).toNat)<_
   omega
def dF:bc→List UInt32→(Nat→UInt32)→bc
  | S,[],_=>S
  | S,k::ks,w=>dF (S.step k (w 0)) ks (fun t=>w (t+1))
theorem E6 (L:Nat):∀ (ks:List UInt32) (S:Nat→bc) (W:Nat→Nat→UInt32),(∀ t s,W (t+16) s=ku (W t s) (W (t+1) s) (W (t+9) s) (W (t+14) s)) →
    m7 (TN (dr L) (dE L)) (AN (dE L)) (EN (dE L)) (NN (dE L)) (ks.map UInt32.toNat) (pw (fun s=>(S s).a) L) (pw (fun s=>(S s).b) L) (pw (fun s=>(S s).c) L) (pw (fun s=>(S s).d) L) (pw (fun s=>(S s).e) L) (pw (fun s=>(S s).f) L) (pw (fun s=>(S s).g) L) (pw (fun s=>(S s).h) L) (pw (W 0) L) (pw (W 1) L) (pw (W 2) L) (pw (W 3) L) (pw (W 4) L) (pw (W 5) L) (pw (W 6) L) (pw (W 7) L) (pw (W 8) L) (pw (W 9) L) (pw (W 10) L) (pw (W 11) L) (pw (W 12) L) (pw (W 13) L) (pw (W 14) L) (pw (W 15) L)=E8.mk (pw (fun s=>(dF (S s) ks (fun t=>W t s)).a) L) (pw (fun s=>(dF (S s) ks (fun t=>W t s)).b) L) (pw (fun s=>(dF (S s) ks (fun t=>W t s)).c) L) (pw (fun s=>(dF (S s) ks (fun t=>W t s)).d) L) (pw (fun s=>(dF (S s) ks (fun t=>W t s)).e) L) (pw (fun s=>(dF (S s) ks (fun t=>W t s)).f) L) (pw (fun s=>(dF (S s) ks (fun t=>W t s)).g) L) (pw (fun s=>(dF (S s) ks (fun t=>W t s)).h) L)
  | [],_,_,_=>rfl
  | k::ks,S,W,hW=>by
    have e0:=Qs S k (W 0) L;have e1:=MK S k (W 0) L;have e2:=ML S k (W 0) L;have e3:=MM (W 0) (W 1) (W 9) (W 14) L;have e4:(fun s=>ku (W 0 s) (W 1 s) (W 9 s) (W 14 s))=W 16:=funext fun s=>(hW 0 s).symm
    rw[e4] at e3;have ih:=E6 L ks (fun s=>(S s).step k (W 0 s)) (fun t=>W (t+1)) (fun t s=>hW (t+1) s);rw[Rl,I0,e0,e1,e2,e3];exact ih
theorem wN (k:UInt32):∀ (ks:List UInt32) (S:bc) (w:Nat→UInt32),dF S (ks++[k]) w=(dF S ks w).step k (w ks.length)
  | [],_,_=>rfl
  | _::ks,S,w=>wN k ks (S.step _ (w 0)) (fun t=>w (t+1))
theorem wi:∀ (ks:List UInt32) (S:bc) (w v:Nat→UInt32),(∀ t,t<ks.length→w t=v t)→dF S ks w=dF S ks v
  | [],_,_,_,_=>rfl
  | k::ks,S,w,v,h=>by
    rw[dF,dF,h 0 (by simp)];exact wi ks _ _ _ fun t ht=>h (t+1) (by simpa using ht)
theorem wj (S:bc) (ks w:List UInt32):∀ n,n≤ks.length→S.rounds ks w n=dF S (ks.take n) (fun t=>w.getD t 0)
  | 0,_=>rfl
  | n+1,h=>by
    rw[bc.rounds,wj S ks w n (by omega),Sq (by omega),wN,Rp,SH (by omega),Rj,Rh (by omega)];rfl
theorem oE (b:List UInt8):∀ n,(bR b n).length=16+n
  | 0=>by unfold bR fN; simp
  | n+1=>by rw[bR,Rk,oE b n]; rfl
theorem r8 (b:List UInt8) {j:Nat}:∀ (n d:Nat),j<16+n→(bR b (n+d)).getD j 0=(bR b n).getD j 0
  | _,0,_=>rfl
  | n,d+1,h=>by
    rw[← SS,bR,Rj,R9 (by rw[oE]; omega),← Rj,r8 b n d h]
theorem kL (b:List UInt8) {j m n:Nat} (h1:j<16+m) (h2:j<16+n):(bR b m).getD j 0=(bR b n).getD j 0:=by
  rcases Nat.le_total m n with h | h
  ·obtain⟨d,rfl⟩:=Nat.exists_eq_add_of_le h;exact (r8 b m d h1).symm
  ·obtain⟨d,rfl⟩:=Nat.exists_eq_add_of_le h;exact r8 b n d h2
def wS (b:List UInt8) (t:Nat):UInt32:=(bR b t).getD t 0
theorem Ph (b:List UInt8) (t:Nat):wS b (t+16)=ku (wS b t) (wS b (t+1)) (wS b (t+9)) (wS b (t+14)):=by
  have e:bR b (t+1)=bR b t++[kh (bR b t) (16+t)]:=rfl;have key:(bR b (t+1)).getD (t+16) 0=kh (bR b t) (16+t):=by
    rw[e,Rj,Sd (by rw[oE]; omega),oE,show t+16-(16+t)=0 by omega]; rfl
  unfold wS;rw[kL b (show t+16<16+(t+16) by omega) (show t+16<16+(t+1) by omega),key];unfold kh ku;rw[show 16+t-2=t+14 by omega,show 16+t-7=t+9 by omega,show 16+t-15=t+1 by omega,show 16+t-16=t by omega];rw[kL b (show t+14<16+t by omega) (show t+14<16+(t+14) by omega),kL b (show t+9<16+t by omega) (show t+9<16+(t+9) by omega),kL b (show t+1<16+t by omega) (show t+1<16+(t+1) by omega)]
theorem Qw (b:List UInt8) {t:Nat} (h:t<16):wS b t=bI b t:=by
  unfold wS;rw[kL b (show t<16+t by omega) (show t<16+0 by omega)];unfold bR fN;rw[Rj,Su,List.getElem?_range h]; rfl
theorem Hh (h:List UInt32) (b:List UInt8):(bc.of h).rounds cp (eV b) 64=dF (bc.of h) cp (wS b):=by
  rw[wj _ _ _ 64 (by rw[nG]; omega)];have e:cp.take 64=cp:=Ro (by rw[nG]; omega);rw[e];refine wi _ _ _ _ fun t ht=>?_
  rw[nG] at ht
  show (bR b 48).getD t 0=(bR b t).getD t 0
  exact kL b (by omega) (by omega)
def kB (H:Nat→List UInt32) (L:Nat):E8:=E8.mk (pw (fun s=>(H s).getD 0 0) L) (pw (fun s=>(H s).getD 1 0) L) (pw (fun s=>(H s).getD 2 0) L) (pw (fun s=>(H s).getD 3 0) L) (pw (fun s=>(H s).getD 4 0) L) (pw (fun s=>(H s).getD 5 0) L) (pw (fun s=>(H s).getD 6 0) L) (pw (fun s=>(H s).getD 7 0) L)
theorem Pi (x y:Nat→UInt32) (L:Nat):EN (dE L) (pw x L) (pw y L)=pw (fun s=>aT (x s) (y s)) L:=by
  unfold EN pw;rw[eP,pJ]
  ·refine dL fun s _=>?_
   unfold aT;rw[UInt32.toNat_add]; rfl
  ·intro s;have h1:=(x s).toNat_lt;have h2:=(y s).toNat_lt
   show (x s).toNat+(y s).toNat<_
   omega
theorem Pj (H:Nat→List UInt32) (b:Nat→List UInt8) (L:Nat):vJ (dr L) (dE L) (kB H L) (pw (fun s=>bI (b s) 0) L) (pw (fun s=>bI (b s) 1) L) (pw (fun s=>bI (b s) 2) L) (pw (fun s=>bI (b s) 3) L) (pw (fun s=>bI (b s) 4) L) (pw (fun s=>bI (b s) 5) L) (pw (fun s=>bI (b s) 6) L) (pw (fun s=>bI (b s) 7) L) (pw (fun s=>bI (b s) 8) L) (pw (fun s=>bI (b s) 9) L) (pw (fun s=>bI (b s) 10) L) (pw (fun s=>bI (b s) 11) L) (pw (fun s=>bI (b s) 12) L) (pw (fun s=>bI (b s) 13) L) (pw (fun s=>bI (b s) 14) L) (pw (fun s=>bI (b s) 15) L)=kB (fun s=>jr (H s) (b s)) L:=by
  have hw:∀ t,t<16→(fun s=>bI (b s) t)=(fun s=>wS (b s) t):=fun t ht=>funext fun s=>(Qw (b s) ht).symm
  rw[hw 0 (by decide),hw 1 (by decide),hw 2 (by decide),hw 3 (by decide),hw 4 (by decide),hw 5 (by decide),hw 6 (by decide),hw 7 (by decide),hw 8 (by decide),hw 9 (by decide),hw 10 (by decide),hw 11 (by decide),hw 12 (by decide),hw 13 (by decide),hw 14 (by decide),hw 15 (by decide)];have hr:=E6 L cp (fun s=>bc.of (H s)) (fun t s=>wS (b s) t) (fun t s=>Ph (b s) t);unfold vJ kB;rw[MJ,Qr];refine (congrArg (vI (EN (dE L)) _) hr).trans ?_;rw[MI];simp only[Pi];have hb:∀ s,jr (H s) (b s)=(dF (bc.of (H s)) cp (fun t=>wS (b s) t)).sum (H s):=fun s=>by
    unfold jr; rw[Hh]
  simp only[hb];rfl
def lK (b:List UInt8):Nat:=b.foldl (fun a x=>a*256+x.toNat) 0
theorem I1 (b:List UInt8) (x:UInt8):lK (b++[x])=lK b*256+x.toNat:=by unfold lK; rw[List.foldl_append]; rfl
theorem s5 (v:Nat):∀ n,lK (aw v n)=v%256^n
  | 0=>by simp[aw,lK,Nat.mod_one]
  | n+1=>by
    have e:aw v (n+1)=aw (v / 256) n++[UInt8.ofNat v]:=by
      unfold aw;rw[S6,RU]
      congr 1
      ·apply R8;intro i hi;have hi:=List.mem_range.1 hi;rw[show n+1-1-i=(n-1-i)+1 by omega,Nat.pow_succ,S0,Nat.div_div_eq_div_mul]
      ·simp
    rw[e,I1,s5 (v / 256) n,UInt8.toNat_ofNat',show 256^(n+1)=256*256^n from Nat.pow_succ',Nat.mod_mul];omega
theorem yz (h:List UInt32) (b c:List UInt8):∀ n,64*n≤b.length→cB h (b++c) n=cB h b n
  | 0,_=>rfl
  | n+1,hn=>by
    rw[cB,cB,yz h b c n (by omega),List.drop_append_of_le_length (by omega),List.take_append_of_le_length (by rw[Rv]; omega)]
theorem xl (h:List UInt32) (p:List UInt8) (q:Nat):∀ m,cB (cB h p q) (p.drop (64*q)) m=cB h p (q+m)
  | 0=>rfl
  | m+1=>by
    rw[← SS,cB,cB,xl h p q m,List.drop_drop,Nat.mul_add]
def jv (n:Nat):List UInt8:=[128]++List.replicate ((119-n%64)%64) 0++aw (n*8) 8
theorem I2 (n:Nat):n+(jv n).length=64*((n+8) / 64+1):=by
  unfold jv;simp only[Rk,RF,cX,Sf];omega
theorem KM (b:List UInt8):kq b=ep (cB fh (b++jv b.length) ((b.length+8) / 64+1)):=by
  have hl:=I2 b.length;have hd:64*(b.length / 64)≤b.length:=by omega
  have hp:fv (b.drop (64*(b.length / 64))) b.length=(b++jv b.length).drop (64*(b.length / 64)):=by
    unfold fv jv;rw[List.drop_append_of_le_length hd,Rv,show b.length-64*(b.length / 64)=b.length%64 by omega];simp only[R3]
  unfold kq jI;rw[hp,← yz fh b (jv b.length) _ hd,xl,Rv,Rk,hl]
  congr 2; omega

theorem pK (c:UInt32) (L:Nat):Nat.mul c.toNat (dr L)=pw (fun _=>c) L:=by
  rw[pg];exact dL fun s _=>SC _
theorem MN (L:Nat):0=pw (fun _=>0) L:=by
  have:=pK 0 L;rw[← this]; exact (SO _).symm
def b4 (w:UInt32):List UInt8:=[UInt8.ofNat (w.toNat / 16777216),UInt8.ofNat (w.toNat / 65536),UInt8.ofNat (w.toNat / 256),UInt8.ofNat w.toNat]
theorem MO (w:UInt32):aw w.toNat 4=b4 w:=by
  show [UInt8.ofNat (w.toNat / 16777216),UInt8.ofNat (w.toNat / 65536),UInt8.ofNat (w.toNat / 256),UInt8.ofNat (w.toNat / 1)]=_
  rw[Nat.div_one]; rfl
theorem n0 (w:UInt32):(UInt8.ofNat w.toNat).toNat=w.toNat%256:=UInt8.toNat_ofNat'
theorem n1 (w:UInt32):(UInt8.ofNat (w.toNat / 256)).toNat=w.toNat / 256%256:=UInt8.toNat_ofNat'
theorem n2 (w:UInt32):(UInt8.ofNat (w.toNat / 65536)).toNat=w.toNat / 65536%256:=UInt8.toNat_ofNat'
theorem n3 (w:UInt32):(UInt8.ofNat (w.toNat / 16777216)).toNat=w.toNat / 16777216%256:=UInt8.toNat_ofNat'
theorem Pk {p:List UInt8} {t:Nat} (h0:p.getD (4*t) 0=0) (h1:p.getD (4*t+1) 0=0) (h2:p.getD (4*t+2) 0=0) (h3:p.getD (4*t+3) 0=0):bI p t=0:=by
  rw[← UInt32.toNat_inj,nH,h0,h1,h2,h3]; rfl
theorem Pl {p:List UInt8} {t:Nat} {a b:UInt8} {c:UInt32} (h0:p.getD (4*t) 0=0) (h1:p.getD (4*t+1) 0=0) (h2:p.getD (4*t+2) 0=a) (h3:p.getD (4*t+3) 0=b) (hc:a.toNat*256+b.toNat=c.toNat):bI p t=c:=by
  rw[← UInt32.toNat_inj,nH,h0,h1,h2,h3,← hc];have z:(0:UInt8).toNat=0:=by decide
  simp only[z,SO,Sz]
noncomputable def vK (one:Nat):E8:=E8.mk (Nat.mul 1779033703 one) (Nat.mul 3144134277 one) (Nat.mul 1013904242 one) (Nat.mul 2773480762 one) (Nat.mul 1359893119 one) (Nat.mul 2600822924 one) (Nat.mul 528734635 one) (Nat.mul 1541459225 one)
theorem Pm (L:Nat):vK (dr L)=kB (fun _=>fh) L:=by
  have h:=fun c=>pK c L
  unfold vK kB;exact (congr (congr (congr (congr (congr (congr (congr (congrArg E8.mk (h 1779033703)) (h 3144134277)) (h 1013904242)) (h 2773480762)) (h 1359893119)) (h 2600822924)) (h 528734635)) (h 1541459225))

noncomputable def lL {α:Type} (n:Nat) (k:Nat→α):α:=@Nat.rec (fun _=>α) (k 0) (fun m _=>k (Nat.succ m)) n
theorem mo {α:Type} (n:Nat) (k:Nat→α):lL n k=k n:=by cases n <;> rfl
theorem Pn {p:List UInt8} {t:Nat} {w:UInt32} (h0:(p.getD (4*t) 0).toNat=w.toNat / 16777216%256) (h1:(p.getD (4*t+1) 0).toNat=w.toNat / 65536%256) (h2:(p.getD (4*t+2) 0).toNat=w.toNat / 256%256) (h3:(p.getD (4*t+3) 0).toNat=w.toNat%256):bI p t=w:=by
  have:=w.toNat_lt;rw[← UInt32.toNat_inj,nH,h0,h1,h2,h3];omega
theorem Po {p:List UInt8} {t:Nat} {w:UInt32} {a b c d:UInt8} (h0:p.getD (4*t) 0=a) (h1:p.getD (4*t+1) 0=b) (h2:p.getD (4*t+2) 0=c) (h3:p.getD (4*t+3) 0=d) (hc:((a.toNat*256+b.toNat)*256+c.toNat)*256+d.toNat=w.toNat):bI p t=w:=by
  rw[← UInt32.toNat_inj,nH,h0,h1,h2,h3,hc]
def fw (x:UInt32):List UInt8:=(aw x.toNat 8++aw 0 4)++jv 12
def m9 (x:UInt32):List UInt32:=jr fh ((fw x).take 64)
theorem Pp (x:UInt32):aw x.toNat 8=0::0::0::0::b4 x:=by
  have hx:=x.toNat_lt;have z:∀ k,4294967296≤k→UInt8.ofNat (x.toNat / k)=0:=fun k hk=>by
    rw[Nat.div_eq_of_lt (by omega)]; rfl
  have e:aw x.toNat 8=[UInt8.ofNat (x.toNat / 72057594037927936),UInt8.ofNat (x.toNat / 281474976710656),UInt8.ofNat (x.toNat / 1099511627776),UInt8.ofNat (x.toNat / 4294967296)]++aw x.toNat 4:=rfl;rw[e,MO,z _ (by decide),z _ (by decide),z _ (by decide),z _ (by decide)]; rfl
theorem Qx (x:UInt32):j7 x.toNat 0=ep (m9 x):=by
  have h1:(aw x.toNat 8++aw 0 4).length=12:=by simp[cX]
  unfold j7;rw[KM,h1]; rfl
set_option maxRecDepth 20000 in
theorem qh (x:UInt32):(fw x).take 64=0::0::0::0::UInt8.ofNat (x.toNat / 16777216)::UInt8.ofNat (x.toNat / 65536)::UInt8.ofNat (x.toNat / 256)::UInt8.ofNat x.toNat::0::0::0::0::128::0::0::0::0::0::0::0::0::0::0::0::0::0::0::0::0::0::0::0::0::0::0::0::0::0::0::0::0::0::0::0::0::0::0::0::0::0::0::0::0::0::0::0::0::0::0::0::0::0::0::96::[]:=by
  have ht:jv 12=128::(List.replicate 50 0++[96]):=by decide
  have hz:aw 0 4=[0,0,0,0]:=by decide
  have e:fw x=0::0::0::0::UInt8.ofNat (x.toNat / 16777216)::UInt8.ofNat (x.toNat / 65536)::UInt8.ofNat (x.toNat / 256)::UInt8.ofNat x.toNat::0::0::0::0::128::0::0::0::0::0::0::0::0::0::0::0::0::0::0::0::0::0::0::0::0::0::0::0::0::0::0::0::0::0::0::0::0::0::0::0::0::0::0::0::0::0::0::0::0::0::0::0::0::0::0::96::[]:=by
    unfold fw;rw[Pp,ht,hz];simp only[b4,Rn,Rq,List.replicate]
  rw[e]; rfl
set_option maxRecDepth 20000 in
theorem Qy (x:UInt32):∀ t,t<15→t≠1→t≠3→bI ((fw x).take 64) t=0:=by
  intro t h1 h2 h3;rw[qh];have:t=0∨t=2∨t=4∨t=5∨t=6∨t=7∨t=8∨t=9∨t=10∨t=11∨t=12∨t=13∨t=14:=by omega
  rcases this with rfl | rfl | rfl | rfl | rfl | rfl | rfl | rfl | rfl | rfl | rfl | rfl | rfl <;> exact Pk rfl rfl rfl rfl
set_option maxRecDepth 20000 in
theorem Qz (x:UInt32):bI ((fw x).take 64) 1=x:=by
  rw[qh]; exact Pn (n3 _) (n2 _) (n1 _) (n0 _)
set_option maxRecDepth 20000 in
theorem QA (x:UInt32):bI ((fw x).take 64) 3=2147483648:=by
  rw[qh]; exact Po (a:=128) (b:=0) (c:=0) (d:=0) rfl rfl rfl rfl (by decide)
set_option maxRecDepth 20000 in
theorem QB (x:UInt32):bI ((fw x).take 64) 15=96:=by
  rw[qh]; exact Pl rfl rfl rfl rfl rfl
noncomputable def qF (one m X:Nat):E8:=vJ one m (vK one) 0 X 0 (Nat.mul 2147483648 one) 0 0 0 0 0 0 0 0 0 0 0 (Nat.mul 96 one)
theorem MP (x:Nat→UInt32) (L:Nat):qF (dr L) (dE L) (pw x L)=kB (fun s=>m9 (x s)) L:=by
  have g:=Pj (fun _=>fh) (fun s=>(fw (x s)).take 64) L;have z:∀ t,t<15→t≠1→t≠3→(fun s=>bI ((fw (x s)).take 64) t)=fun _=>0:=fun t h1 h2 h3=>funext fun s=>Qy (x s) t h1 h2 h3
  have v1:(fun s=>bI ((fw (x s)).take 64) 1)=x:=funext fun s=>Qz (x s)
  have v3:(fun s=>bI ((fw (x s)).take 64) 3)=fun _=>2147483648:=funext fun s=>QA (x s)
  have ve:(fun s=>bI ((fw (x s)).take 64) 15)=fun _=>96:=funext fun s=>QB (x s)
  have c2:Nat.mul 2147483648 (dr L)=pw (fun _=>2147483648) L:=pK 2147483648 L;have c3:Nat.mul 96 (dr L)=pw (fun _=>96) L:=pK 96 L;rw[v1,v3,ve,z 0 (by decide) (by decide) (by decide),z 2 (by decide) (by decide) (by decide),z 4 (by decide) (by decide) (by decide),z 5 (by decide) (by decide) (by decide),z 6 (by decide) (by decide) (by decide),z 7 (by decide) (by decide) (by decide),z 8 (by decide) (by decide) (by decide),z 9 (by decide) (by decide) (by decide),z 10 (by decide) (by decide) (by decide),z 11 (by decide) (by decide) (by decide),z 12 (by decide) (by decide) (by decide),z 13 (by decide) (by decide) (by decide),z 14 (by decide) (by decide) (by decide),← MN,← Pm] at g;unfold qF;rw[c2,c3];exact g
inductive Tr where
  | lf (c:Nat)
  | nd (a b:Tr)
deriving DecidableEq
theorem Pq (x y:Nat→UInt32) (L:Nat):Nat.xor (pw x L) (pw y L)=pw (fun s=>c7 (x s) (y s)) L:=by
  unfold pw;rw[mD (fun s=>dv _) (fun s=>dv _)];exact dL fun s _=>(UInt32.toNat_xor _ _).symm
theorem I3 {x:Nat→UInt32} {L s:Nat} (h:Nat.beq (Nat.land (Nat.shiftRight (Nat.add (pw x L) (Nat.mul 4294967295 (dr L))) 32) (dr L)) (dr L)=true) (hs:s<L):x s≠0:=by
  intro h0;have e:=Nat.eq_of_beq_eq_true h;have h1:∀ s:Nat,(fun _:Nat=>1) s<2^64:=fun _=>(by decide:1<2^64)
  have hg:∀ s,Nat.add (x s).toNat (Nat.mul 4294967295 1)<2^64:=fun s=>by
    have:=(x s).toNat_lt
    show (x s).toNat+4294967295*1<_
    omega
  have e2:Nat.add (pw x L) (Nat.mul 4294967295 (dr L))=pk (fun s=>Nat.add (x s).toNat (Nat.mul 4294967295 1)) L:=by
    unfold pw;rw[pg,eP]
  rw[e2] at e;have e3:((pk (fun s=>Nat.add (x s).toNat (Nat.mul 4294967295 1)) L >>> 32) &&& dr L).testBit (64*s)=(dr L).testBit (64*s):=congrArg (fun n=>Nat.testBit n (64*s)) e;rw[Nat.testBit_and,Nat.testBit_shiftRight,eO hg,eO h1,show (32+64*s) / 64=s by omega,show (32+64*s)%64=32 by omega,show 64*s / 64=s by omega,show 64*s%64=0 by omega,decide_eq_true hs,h0] at e3
  revert e3
  decide
def t2:Tr:=.nd (.lf 0) (.lf 1)
def Q9:Tr:=.nd (.lf 2) (.lf 3)
def t4:Tr:=.nd t2 Q9
noncomputable def vZ (s:E8):Nat:=E8.rec (fun a _ _ _ _ _ _ _=>a) s
theorem QC (A:Nat→List UInt32) (L:Nat):vZ (kB A L)=pw (fun s=>(A s).getD 0 0) L:=rfl
def vL (on one a b:Nat):Bool:=Nat.beq (Nat.land (Nat.shiftRight (Nat.add (Nat.xor a b) on) 32) one) one
theorem MQ {x y:Nat→UInt32} {L s:Nat} (h:vL (Nat.mul 4294967295 (dr L)) (dr L) (pw x L) (pw y L)=true) (hs:s<L):x s≠y s:=by
  intro e;unfold vL at h;rw[Pq] at h;refine I3 h hs ?_;rw[e];simp[c7]
noncomputable def na (F:Nat→Nat) (D:Nat→Nat→Bool) (os:List Nat):List Nat→Bool :=
  @List.rec Nat (fun _=>List Nat→Bool) (fun _=>true) (fun o _ ih acc=>lL (F o) fun w=>cond (acc.all (D w)) (ih (w::acc)) false) os
theorem I4 (F:Nat→Nat) (D:Nat→Nat→Bool) (o:Nat) (os acc:List Nat):na F D (o::os) acc=cond (acc.all (D (F o))) (na F D os (F o::acc)) false:=mo (F o) fun w=>cond (acc.all (D w)) (na F D os (w::acc)) false
theorem CP {F:Nat→Nat} {D:Nat→Nat→Bool}:∀ {os acc:List Nat},na F D os acc=true→os.Pairwise (fun a b=>D (F b) (F a)=true)∧∀ o∈os,∀ w∈acc,D (F o) w=true
  | [],_,_=>⟨List.Pairwise.nil,fun o ho=>by cases ho⟩
  | o::os,acc,h=>by
    rw[I4] at h;cases hc:acc.all (D (F o)) with
    | false=>rw[hc,cond_false] at h; cases h
    | true =>
      rw[hc,cond_true] at h;obtain⟨h1,h2⟩:=CP h;refine⟨List.Pairwise.cons (fun b hb=>h2 b hb _ (R1 ..)) h1,fun b hb w hw=>?_⟩;rcases RX.1 hb with rfl | hb
      ·exact Ru.1 hc w hw
      ·exact h2 b hb w (RI _ hw)
def kC (x:Nat):UInt32:=(m9 (UInt32.ofNat x)).getD 0 0
noncomputable def nb (os:List Nat) (L:Nat):Bool:=lL (dr L) fun one=>lL (dE L) fun m=>lL (pk (fun s=>s) L) fun io=>lL (Nat.mul 4294967295 one) fun on=>na (fun o=>vZ (qF one m (Nat.add io (Nat.mul o one)))) (vL on one) os []
theorem MR {os:List Nat} {L:Nat} (h:nb os L=true) (hL:L≤100000) (hos:∀ o∈os,o≤4000000000) {s:Nat} (hs:s<L):os.Pairwise fun a b=>kC (s+a)≠kC (s+b):=by
  unfold nb at h;rw[mo,mo,mo,mo] at h;have h1:=(CP h).1;have key:∀ o,o≤4000000000→vZ (qF (dr L) (dE L) (Nat.add (pk (fun s=>s) L) (Nat.mul o (dr L))))=pw (fun s=>kC (s+o)) L:=fun o ho=>by
    have e:Nat.add (pk (fun s=>s) L) (Nat.mul o (dr L))=pw (fun s=>UInt32.ofNat (s+o)) L:=by
      rw[pg,eP];refine dL fun s hs=>?_
      rw[UInt32.toNat_ofNat_of_lt' (by simp only[UInt32.size]; omega)]
      show s+o*1=_
      omega
    rw[e,MP,QC];rfl
  refine List.Pairwise.imp_of_mem ?_ h1;intro a b ha hb hd;rw[key a (hos a ha),key b (hos b hb)] at hd;exact (MQ hd hs).symm
theorem CQ {x n:Nat} (hx:x<4294967296) (hn:4≤n):(cz (x:Int) (n:Int)).take 4=aw (kC x).toNat 4:=by
  have e1:((x:Int)%18446744073709551616).toNat=x:=by omega
  have e2:((n:Int).toNat+31) / 32=((n:Int).toNat+31) / 32-1+1:=by omega
  have e3:eM x (((n:Int).toNat+31) / 32)=j7 x 0++(((List.range (((n:Int).toNat+31) / 32-1)).map Nat.succ).map (j7 x)).flatten:=by
    unfold eM;rw[e2,List.range_succ_eq_map,Rl,Sv];rfl
  have hw:=Qx (UInt32.ofNat x);rw[UInt32.toNat_ofNat_of_lt' (show x<UInt32.size by simp only[UInt32.size]; omega)] at hw;have hl:(m9 (UInt32.ofNat x)).length=8:=xi _ _;unfold cz;rw[e1,e3,hw,List.take_take,SH (by omega)];unfold kC
  match m9 (UInt32.ofNat x),hl with
  | [a,b,c,d,e,f,g,i],_ =>
    unfold ep;simp only[Ry,R3];exact List.take_left' (cX _ _)
theorem Pr {a b:UInt32} (h:aw a.toNat 4=aw b.toNat 4):a=b:=by
  have e:=congrArg lK h;rw[s5,s5,Nat.mod_eq_of_lt (show a.toNat<256^4 from a.toNat_lt),Nat.mod_eq_of_lt (show b.toNat<256^4 from b.toNat_lt)] at e;exact UInt32.toNat_inj.1 e
theorem QD {x y n m:Nat} (hx:x<4294967296) (hy:y<4294967296) (hn:4≤n) (hm:4≤m) (h:kC x≠kC y):(cz (x:Int) (n:Int)).take 4≠(cz (y:Int) (m:Int)).take 4:=by
  rw[CQ hx hn,CQ hy hm];exact fun e=>h (Pr e)
def kD:List Nat:=(List.range 8).map fun i=>1000003*(i+1)
def nz:List Nat:=(List.range 100).map fun i=>5000000*(i+1)
def v6:List Nat:=(List.range 8).map fun i=>7000000*(i+1)
def Ra:List Nat:=(List.range 11).map fun i=>9000000*(i+1)
set_option maxRecDepth 100000 in
theorem Ps:nb (kD++nz) 1000=true:=by decide +kernel
set_option maxRecDepth 100000 in
theorem Pt:nb (kD++v6) 1000=true:=by decide +kernel
theorem of_le:∀ o∈kD++(nz++(v6++Ra)),o≤4000000000:=by decide +kernel
theorem F9 {os:List Nat} (h:nb os 1000=true) (hos:∀ o∈os,o≤4000000000) {s:Nat} (hs:s<1000):(os.map fun o=>cz ((s+o:Nat):Int) 104).Nodup:=by
  rw[List.nodup_iff_pairwise_ne,List.pairwise_map];refine (List.Pairwise.imp_of_mem ?_ (MR h (by decide) hos hs));intro a b ha hb hab e;have h1:=hos a ha;have h2:=hos b hb;exact QD (n:=104) (m:=104) (by omega) (by omega) (by decide) (by decide) hab (congrArg (List.take 4) e)
theorem QV {s:Nat} (hs:s<1000):((kD++nz).map fun o=>cz ((s+o:Nat):Int) 104).Nodup:=F9 Ps (fun o ho=>of_le o (by
  rcases RA.1 ho with h | h
  ·exact Rz _ h
  ·exact Rr _ (Rz _ h))) hs
theorem QW {s:Nat} (hs:s<1000):((kD++v6).map fun o=>cz ((s+o:Nat):Int) 104).Nodup:=F9 Pt (fun o ho=>of_le o (by
  rcases RA.1 ho with h | h
  ·exact Rz _ h
  ·exact Rr _ (Rr _ (Rz _ h)))) hs
end Go.Proofs.Ytofonnokanoflaa
