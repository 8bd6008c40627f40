/- Texts of one's own, merged: from: Layer 1 on data: Put,Get,Same,Join,Hex: what they return. Own work. -/
import Derived.Test.YtofonnokanoflaaGreatProg
import Derived.Test.YtofonnokanoflaaGreatMz17
set_option linter.unusedVariables false
set_option linter.unusedSimpArgs false
namespace Go.Proofs.YtofonnokanoflaaGreat
open Go.RowKit IntWalk
set_option maxHeartbeats 400000
theorem dX {l:List UInt8} {i:Nat} {x:D} (hi:i<l.length) (hx:x.one=true):jP .sc (.c (.d x)) i 0 (.row 1 (l.map bD))=some (.row 1 ((l.map bD).set i x)):=by
  simp[jP,aC,Yn hi,bD,gm,hx]
theorem Ke {l:List UInt32} {i:Nat} {x:D} (hi:i<l.length) (hx:x.one=true):jP .sc (.c (.d x)) i 0 (.row 1 (l.map wD))=some (.row 1 ((l.map wD).set i x)):=by
  simp[jP,aC,Yn hi,wD,gm,hx]
theorem fc (l:List UInt8) (i:Nat) (x:UInt8):(l.map bD).set i (bD x)=(l.set i x).map bD:=mF bD l i x
theorem Kf (l:List UInt32) (i:Nat) (x:UInt32):(l.map wD).set i (wD x)=(l.set i x).map wD:=mF wD l i x
theorem LY (n:Nat):List.replicate n (D.int .u8 0)=(List.replicate n (0:UInt8)).map bD:=by simp[bD]
def aI (v n:Nat):List UInt8:=(List.range n).map fun i=>UInt8.ofNat (v / 256^(n-1-i))
def iJ (v n m:Nat):List UInt8:=List.replicate m 0++(aI v n).drop m
def m6 (v:Nat) (n:Int):List UInt8:=if 0≤n∧n≤64 then aI v n.toNat else []
theorem dD (v n:Nat):(aI v n).length=n:=by simp[aI]
theorem vW (v n m:Nat) (h:m≤n):(iJ v n m).length=n:=by simp[iJ,dD]; omega
theorem Db (v n:Nat):iJ v n 0=aI v n:=by simp[iJ]
theorem Dc (v n:Nat):iJ v n n=List.replicate n 0:=by simp[iJ,dD]
theorem Dd (v n i:Nat) (h:i+1≤n):iJ v n i=(iJ v n (i+1)).set i (UInt8.ofNat (v / 256^(n-(i+1)))):=by
  apply Zz;intro j;rw[List.getElem?_set];have hl:i<(aI v n).length:=by rw[dD]; omega
  by_cases hj:i=j
  ·subst hj;rw[if_pos rfl,if_pos (by rw[vW _ _ _ h]; omega)];simp only[iJ,List.getElem?_append,YK,Nat.lt_irrefl,if_false,Nat.sub_self,YV,Zf];rw[Yn hl];simp[aI,Nat.sub_sub,Nat.add_comm 1 i]
  ·rw[if_neg hj];simp only[iJ,List.getElem?_append,YK,List.getElem?_replicate,YV];by_cases h1:j<i
   ·rw[if_pos h1,if_pos h1,if_pos (by omega),if_pos (by omega)]
   ·rw[if_neg h1,if_neg (by omega)]
    congr 1; omega
theorem byte_of (v:Nat):D.int .u8 (IntKind.u8.wrap (v:Int))=bD (UInt8.ofNat v):=by
  rw[IntKind.wrap_u8];simp[bD]
def oD (v n m:Nat):St:=⟨aP [(0,.w (.c (.d (.int .u64 ((v / 256^(n-m):Nat):Int))))),(5,.w (.c (.own 1 1 0 n))),(6,.w (.c (.d (.int .i64 ((m:Int)-1)))))],hL [(1,.row 1 ((iJ v n m).map bD))],uL [1]⟩
def xB:aN := .seq (.seq (.reg [oM 17 6,oO 18 (.bin .geq (.t 17) (kI 0))]) (.cond (.t 18) (.skip) (.exit 0))) (.seq (.block 1 (.seq (.reg [oM 21 5,oM 22 6,oM 23 0,oO 24 (.conv .u8 (.t 23)),oO 25 (.idxSl 1 (.t 21) (.t 22)),oN (.store .sc (.t 25) (.t 24))]) (.reg [oM 26 0,oO 27 (.bin .shr (.t 26) (.k (.c (.d (.int .u64 8))))),oM 0 27]))) (.reg [oM 19 6,oO 20 (.bin .sub (.t 19) (kI 1)),oM 6 20]))
def t6:aD:=⟨2,29,.seq (.reg [oO 4 (.mv (.k (.c .nil)))]) (.seq (.seq (.reg [oM 7 1,oO 8 (.bin .lss (.t 7) (kI 0)),oM 9 8,oG 10 (.mv (.t 1)) 9 false,oG 11 (.bin .gtr (.t 10) (kI 64)) 9 false,oO 12 (.pick (.t 9) (.k (.c (.d (.bool true)))) (.t 11))]) (.cond (.t 12) (.seq (.reg [oO 4 (.mv (.k (.c .nil)))]) (.ret)) (.skip))) (.seq (.reg [oM 13 1,oO 14 (.make true 1 1 (.int .u8 0) (.t 13) (.t 13)),oM 5 14]) (.seq (.seq (.reg [oM 15 1,oO 16 (.bin .sub (.t 15) (kI 1)),oM 6 16]) (.block 0 (.loop xB))) (.seq (.reg [oM 28 5,oM 4 28]) (.ret))))),[(4,none)]⟩
theorem Kg:aB Tryz.prog { own:=[],comp:=[],frz:=[],nils:=[] } Tryz.f81=some t6:=by kernel_rfl
theorem zh (G:ah) (v n:Nat) (hn:n≤64):au Tryz.prog G 81 [.int .u64 v,.int .i64 n] (.w (.c (.fr 1 ((aI v n).map bD)))):=by
  refine aF Tryz.func81 Kg rfl rfl ?_;have e1:IntKind.i64.wrap ((n:Int)-1)=(n:Int)-1:=IntWalk.i64_in _ (by omega);simp only[t6,af,wx,aa,seval,iteOmega,toNatUp,e1];refine aV (oD v n) (fun m=>m) (fun m=>m≤n) n (Yz _) ?_ ?_
  ·refine ap (fun _=>112) ?_ ?_ rfl rfl <;> simp only[wx,aj,aa,seval,iteOmega,toNatUp,Dc,LY,Nat.sub_self,Nat.pow_zero,Nat.div_one]
  ·intro m hm;rcases Zj m with rfl | hpos
   ·simp only[xB,oD,wx,aa,seval,iteOmega,toNatUp,Db];refine en (id:=1) (n:=n) (s:=1) ?_ ?_ ?_ <;> simp only[wx,aa,seval,iteOmega,toNatUp,dD]
   ·obtain⟨i,rfl⟩:∃ i,m=i+1:=⟨m-1,by omega⟩
    have e2:((i+1:Nat):Int)-1=(i:Int):=by omega
    have hlt:i<(iJ v n (i+1)).length:=by rw[vW _ _ _ hm]; omega
    have e3:IntKind.i64.wrap ((i:Int)-1)=(i:Int)-1:=IntWalk.i64_in _ (by omega);simp only[xB,oD,wx,aa,seval,iteOmega,toNatUp,e2,e3,Zr,Zf,byte_of,dX hlt (dP _),fc,← Dd _ _ _ hm,IntKind.bits];refine aQ i (by omega) (by omega) (ap id ?_ ?_ rfl rfl) <;> simp only[wx,aj,aa,seval,iteOmega,toNatUp];have e4:v / 256^(n-(i+1)) / 256=v / 256^(n-i):=by
      rw[show n-i=n-(i+1)+1 by omega,Nat.pow_succ,← Nat.div_div_eq_div_mul]
    simpa using congrArg (Nat.cast:Nat→Int) e4
theorem LZ (G:ah) (v:Nat) (n:Int):au Tryz.prog G 81 [.int .u64 v,.int .i64 n] (.w (.c (.fr 1 ((m6 v n).map bD)))):=by
  unfold m6;by_cases h:0≤n∧n≤64
  ·rw[if_pos h];obtain⟨n,rfl⟩:=Zh h.1;exact zh G v n (by omega)
  ·rw[if_neg h];refine aF Tryz.func81 Kg rfl rfl ?_;by_cases h0:n<0
   ·simp only[t6,af,wx,aa,seval,iteOmega,toNatUp];exact qh (by simp[wx,aa,seval,iteOmega,toNatUp])
   ·have h1:64<n:=by omega
    simp only[t6,af,wx,aa,seval,iteOmega,toNatUp];exact qh (by simp[wx,aa,seval,iteOmega,toNatUp])
def wE:aN := .seq (.seq (.reg [oM 17 6,oO 18 (.bin .geq (.t 17) (kI 0))]) (.cond (.t 18) (.skip) (.exit 0))) (.seq (.block 1 (.seq (.reg [oM 21 5,oM 22 6,oM 23 0,oO 24 (.conv .u8 (.t 23)),oO 25 (.idxSl 1 (.t 21) (.t 22)),oN (.store .sc (.t 25) (.t 24))]) (.reg [oM 26 0,oO 27 (.bin .shr (.t 26) (.k (.c (.d (.int .u64 8))))),oM 0 27]))) (.reg [oM 19 6,oO 20 (.bin .sub (.t 19) (kI 1)),oM 6 20]))
def tz:aD:=⟨2,29,.seq (.reg [oO 4 (.mv (.k (.c .nil)))]) (.seq (.seq (.reg [oM 7 1,oO 8 (.bin .lss (.t 7) (kI 0)),oM 9 8,oG 10 (.mv (.t 1)) 9 false,oG 11 (.bin .gtr (.t 10) (kI 64)) 9 false,oO 12 (.pick (.t 9) (.k (.c (.d (.bool true)))) (.t 11))]) (.cond (.t 12) (.seq (.reg [oO 4 (.mv (.k (.c .nil)))]) (.ret)) (.skip))) (.seq (.reg [oM 13 1,oO 14 (.make true 1 1 (.int .u8 0) (.t 13) (.t 13)),oM 5 14]) (.seq (.seq (.reg [oM 15 1,oO 16 (.bin .sub (.t 15) (kI 1)),oM 6 16]) (.block 0 (.loop wE))) (.seq (.reg [oM 28 5,oM 4 28]) (.ret))))),[(4,none)]⟩
theorem Hs:aB Tryz.prog { own:=[],comp:=[],frz:=[],nils:=[] } Tryz.f42=some tz:=by kernel_rfl
theorem qj (G:ah) (v n:Nat) (hn:n≤64):au Tryz.prog G 42 [.int .u64 v,.int .i64 n] (.w (.c (.fr 1 ((aI v n).map bD)))):=by
  refine aF Tryz.func42 Hs rfl rfl ?_;have e1:IntKind.i64.wrap ((n:Int)-1)=(n:Int)-1:=IntWalk.i64_in _ (by omega);simp only[tz,af,wx,aa,seval,iteOmega,toNatUp,e1];refine aV (oD v n) (fun m=>m) (fun m=>m≤n) n (Yz _) ?_ ?_
  ·refine ap (fun _=>112) ?_ ?_ rfl rfl <;> simp only[wx,aj,aa,seval,iteOmega,toNatUp,Dc,LY,Nat.sub_self,Nat.pow_zero,Nat.div_one]
  ·intro m hm;rcases Zj m with rfl | hpos
   ·simp only[wE,oD,wx,aa,seval,iteOmega,toNatUp,Db];refine en (id:=1) (n:=n) (s:=1) ?_ ?_ ?_ <;> simp only[wx,aa,seval,iteOmega,toNatUp,dD]
   ·obtain⟨i,rfl⟩:∃ i,m=i+1:=⟨m-1,by omega⟩
    have e2:((i+1:Nat):Int)-1=(i:Int):=by omega
    have hlt:i<(iJ v n (i+1)).length:=by rw[vW _ _ _ hm]; omega
    have e3:IntKind.i64.wrap ((i:Int)-1)=(i:Int)-1:=IntWalk.i64_in _ (by omega);simp only[wE,oD,wx,aa,seval,iteOmega,toNatUp,e2,e3,Zr,Zf,byte_of,dX hlt (dP _),fc,← Dd _ _ _ hm,IntKind.bits];refine aQ i (by omega) (by omega) (ap id ?_ ?_ rfl rfl) <;> simp only[wx,aj,aa,seval,iteOmega,toNatUp];have e4:v / 256^(n-(i+1)) / 256=v / 256^(n-i):=by
      rw[show n-i=n-(i+1)+1 by omega,Nat.pow_succ,← Nat.div_div_eq_div_mul]
    simpa using congrArg (Nat.cast:Nat→Int) e4
theorem UI (G:ah) (v:Nat) (n:Int):au Tryz.prog G 42 [.int .u64 v,.int .i64 n] (.w (.c (.fr 1 ((m6 v n).map bD)))):=by
  unfold m6;by_cases h:0≤n∧n≤64
  ·rw[if_pos h];obtain⟨n,rfl⟩:=Zh h.1;exact qj G v n (by omega)
  ·rw[if_neg h];refine aF Tryz.func42 Hs rfl rfl ?_;by_cases h0:n<0
   ·simp only[tz,af,wx,aa,seval,iteOmega,toNatUp];exact qh (by simp[wx,aa,seval,iteOmega,toNatUp])
   ·have h1:64<n:=by omega
    simp only[tz,af,wx,aa,seval,iteOmega,toNatUp];exact qh (by simp[wx,aa,seval,iteOmega,toNatUp])
theorem toList_mk (l:List UInt8):(⟨l.toArray⟩:ByteArray).toList=l:=Go.ByteArray.toList_mk l
theorem De (l m:List UInt8):l7 .eql ⟨l.toArray⟩ ⟨m.toArray⟩=some (.bool (l==m)):=by
  simp only[l7,toList_mk]
def Fl:aD:=⟨2,10,.seq (.reg [oO 4 (.mv (.k (.c (.d (.bool false)))))]) (.seq (.reg [oM 5 0,oO 6 (.b2s (.t 5)),oM 7 1,oO 8 (.b2s (.t 7)),oO 9 (.bin .eql (.t 6) (.t 8)),oM 4 9]) (.ret)),[(4,none)]⟩
theorem Qt:aB Tryz.prog { own:=[],comp:=[],frz:=[],nils:=[] } Tryz.f12=some Fl:=by kernel_rfl
theorem jq (G:ah) (l m:List UInt8):au Tryz.prog G 12 [.sl (l.map bD),.sl (m.map bD)] (.w (.c (.d (.bool (l==m))))):=by
  refine aF Tryz.func12 Qt rfl rfl ?_;simp only[Fl,af,wx,aa,seval,iteOmega,toNatUp,xA,De];exact oC (by simp only[wx,aa,seval,iteOmega,toNatUp])
theorem fa (ls:List (List UInt8)):ep 1 (ls.map fun l=>D.sl (l.map bD))=true:=r7 _ (fun _=>rfl) ls
def ym (ls:List (List UInt8)) (i:Nat):St:=⟨aP [(0,.w (.c (.d (.sl (ls.map fun l=>D.sl (l.map bD)))))),(3,.w (.c (.own 1 1 0 ((ls.take i).flatten).length))),(4,.w (.c (.d (.int .i64 (i:Int)))))],hL [(1,.row 1 (((ls.take i).flatten).map bD))],uL [1]⟩
theorem r9 {α:Type} (ls:List (List α)) (i:Nat) (h:i<ls.length):(ls.take (i+1)).flatten=(ls.take i).flatten++ls[i]:=by
  rw[Zx h,List.flatten_append]; simp
theorem yn {α:Type} (ls:List (List α)) (i:Nat) (h:i<ls.length):(ls.take i).flatten.length+ls[i].length≤ls.flatten.length:=by
  have h1:=r9 ls i h;have h2:ls.flatten=(ls.take (i+1)).flatten++(ls.drop (i+1)).flatten:=by rw[← List.flatten_append,Y7]
  have h3:=congrArg List.length h2;rw[Yr,h1,Yr] at h3;omega
def we:aN := .seq (.seq (.reg [oM 6 4,oM 7 0,oO 8 (.len (.t 7)),oO 9 (.bin .lss (.t 6) (.t 8))]) (.cond (.t 9) (.skip) (.exit 0))) (.seq (.block 1 (.reg [oM 12 3,oM 13 0,oM 14 4,oO 15 (.idxSl 1 (.t 13) (.t 14)),oO 16 (.load .sc (.t 15)),oO 17 (.app false 1 1 (.t 12) (.t 16)),oM 3 17])) (.reg [oM 10 4,oO 11 (.bin .add (.t 10) (kI 1)),oM 4 11]))
def Fo:aD:=⟨1,19,.seq (.reg [oO 2 (.mv (.k (.c .nil)))]) (.seq (.reg [oO 5 (.bldSl true 0 1 (.int .u8 0) []),oM 3 5]) (.seq (.seq (.reg [oO 4 (.mv (kI 0))]) (.block 0 (.loop we))) (.seq (.reg [oM 18 3,oM 2 18]) (.ret)))),[(2,none)]⟩
theorem Qu:aB Tryz.prog { own:=[5],comp:=[],frz:=[],nils:=[] } Tryz.f41=some Fo:=by kernel_rfl
theorem eo (G:ah) (ls:List (List UInt8)) (hl:ls.length≤9223372036854775807) (hf:ls.flatten.length≤140737488355328):au Tryz.prog G 41 [.sl (ls.map fun l=>D.sl (l.map bD))] (.w (.c (.fr 1 (ls.flatten.map bD)))):=by
  refine aF Tryz.func41 Qu rfl rfl ?_;simp only[Fo,af,wx,aa,seval,iteOmega,toNatUp];refine aV (ym ls) (fun i=>ls.length-i) (fun i=>i≤ls.length) 0 (Yt _) ?_ ?_
  ·refine ap (fun _=>40) ?_ ?_ rfl rfl <;> simp only[wx,aj,aa,seval,iteOmega,toNatUp]
  ·intro i hi;by_cases hlt:i<ls.length
   ·have e2:ls[i]?=some ls[i]:=Yn hlt;have e4:IntKind.i64.wrap ((i:Int)+1)=((i+1:Nat):Int):=by rw[IntWalk.i64_in _ (by omega)]; rfl
    have h5:=yn ls i hlt;simp only[we,ym,wx,aa,seval,iteOmega,toNatUp,aC,e2,e4,ZS,bH];refine aQ (i+1) (by omega) (by omega) (ap (fun _=>136) ?_ ?_ rfl rfl) <;> simp only[wx,aj,aa,seval,iteOmega,toNatUp,r9 ls i hlt]
   ·have:ls.take i=ls:=Yo (by omega);simp only[we,ym,wx,aa,seval,iteOmega,toNatUp,this];refine en (id:=1) (n:=ls.flatten.length) (s:=1) ?_ ?_ ?_ <;> simp only[wx,aa,seval,iteOmega,toNatUp]
def yo (ls:List (List UInt8)) (i:Nat):St:=⟨aP [(0,.w (.c (.d (.sl (ls.map fun l=>D.sl (l.map bD)))))),(3,.w (.c (.d (.int .i64 (((ls.take i).flatten).length:Int))))),(9,.w (.c (.d (.sl (ls.map fun l=>D.sl (l.map bD)))))),(10,.w (.c (.d (.int .i64 (ls.length:Int))))),(11,.w (.c (.d (.int .i64 (i:Int)))))],hL [],uL []⟩
def yp (ls:List (List UInt8)) (i:Nat):St:=⟨aP [(6,.w (.c (.own 1 1 0 ((ls.take i).flatten).length))),(22,.w (.c (.d (.sl (ls.map fun l=>D.sl (l.map bD)))))),(23,.w (.c (.d (.int .i64 (ls.length:Int))))),(24,.w (.c (.d (.int .i64 (i:Int)))))],hL [(1,.row 1 (((ls.take i).flatten).map bD))],uL [1]⟩
def wF:aN := .seq (.reg [oO 12 (.bin .lss (.t 11) (.t 10))]) (.seq (.cond (.t 12) (.skip) (.exit 0)) (.seq (.block 1 (.seq (.reg [oO 13 (.idxSl 1 (.t 9) (.t 11)),oO 14 (.load .sc (.t 13)),oM 5 14]) (.reg [oM 15 3,oM 16 5,oO 17 (.len (.t 16)),oO 18 (.bin .add (.t 15) (.t 17)),oM 3 18]))) (.reg [oO 19 (.bin .add (.t 11) (kI 1)),oM 11 19])))
def wG:aN := .seq (.reg [oO 25 (.bin .lss (.t 24) (.t 23))]) (.seq (.cond (.t 25) (.skip) (.exit 2)) (.seq (.block 3 (.seq (.reg [oO 26 (.idxSl 1 (.t 22) (.t 24)),oO 27 (.load .sc (.t 26)),oM 8 27]) (.reg [oM 28 6,oM 29 8,oO 30 (.app false 1 1 (.t 28) (.t 29)),oM 6 30]))) (.reg [oO 31 (.bin .add (.t 24) (kI 1)),oM 24 31])))
def Ht:aD:=⟨1,33,.seq (.reg [oO 2 (.mv (.k (.c .nil)))]) (.seq (.reg [oO 3 (.mv (kI 0))]) (.seq (.seq (.reg [oM 9 0,oO 10 (.len (.t 9)),oO 11 (.mv (kI 0))]) (.block 0 (.loop wF))) (.seq (.reg [oM 20 3,oO 21 (.make true 1 1 (.int .u8 0) (kI 0) (.t 20)),oM 6 21]) (.seq (.seq (.reg [oM 22 0,oO 23 (.len (.t 22)),oO 24 (.mv (kI 0))]) (.block 2 (.loop wG))) (.seq (.reg [oM 32 6,oM 2 32]) (.ret)))))),[(2,none)]⟩
theorem Sc:aB Tryz.prog { own:=[],comp:=[],frz:=[],nils:=[] } Tryz.f50=some Ht:=by kernel_rfl
theorem eJ (G:ah) (ls:List (List UInt8)) (hl:ls.length≤9223372036854775807) (hf:ls.flatten.length≤140737488355328):au Tryz.prog G 50 [.sl (ls.map fun l=>D.sl (l.map bD))] (.w (.c (.fr 1 (ls.flatten.map bD)))):=by
  refine aF Tryz.func50 Sc rfl rfl ?_;simp only[Ht,af,wx,aa,seval,iteOmega,toNatUp];refine aV (yo ls) (fun i=>ls.length-i) (fun i=>i≤ls.length) 0 (Yt _) ?_ ?_
  ·refine ap id ?_ ?_ rfl rfl <;> simp only[wx,aj,aa,seval,iteOmega,toNatUp]
  ·intro i hi;by_cases hlt:i<ls.length
   ·have e2:ls[i]?=some ls[i]:=Yn hlt;have e4:IntKind.i64.wrap ((i:Int)+1)=((i+1:Nat):Int):=by rw[IntWalk.i64_in _ (by omega)]; rfl
    have h5:=yn ls i hlt;have e5:IntKind.i64.wrap (((ls.take i).flatten.length:Int)+(ls[i].length:Int))=(((ls.take (i+1)).flatten.length:Nat):Int):=by
      rw[r9 ls i hlt,Yr,IntWalk.i64_in _ (by omega)]; rfl
    simp only[wF,yo,wx,aa,seval,iteOmega,toNatUp,aC,e2,e4,e5];refine aQ (i+1) (by omega) (by omega) (ap id ?_ ?_ rfl rfl) <;> simp only[wx,aj,aa,seval,iteOmega,toNatUp]
   ·have:ls.take i=ls:=Yo (by omega);simp only[wF,yo,wx,aa,seval,iteOmega,toNatUp,this,ZS];refine aV (yp ls) (fun i=>ls.length-i) (fun i=>i≤ls.length) 0 (Yt _) ?_ ?_
    ·refine ap (fun _=>168) ?_ ?_ rfl rfl <;> simp only[wx,aj,aa,seval,iteOmega,toNatUp]
    ·intro i hi;by_cases hlt:i<ls.length
     ·have e2:ls[i]?=some ls[i]:=Yn hlt;have e4:IntKind.i64.wrap ((i:Int)+1)=((i+1:Nat):Int):=by rw[IntWalk.i64_in _ (by omega)]; rfl
      have h5:=yn ls i hlt;simp only[wG,yp,wx,aa,seval,iteOmega,toNatUp,aC,e2,e4,ZS,bH];refine aQ (i+1) (by omega) (by omega) (ap (fun _=>240) ?_ ?_ rfl rfl) <;> simp only[wx,aj,aa,seval,iteOmega,toNatUp,r9 ls i hlt]
     ·have:ls.take i=ls:=Yo (by omega);simp only[wG,yp,wx,aa,seval,iteOmega,toNatUp,this];refine en (id:=1) (n:=ls.flatten.length) (s:=1) ?_ ?_ ?_ <;> simp only[wx,aa,seval,iteOmega,toNatUp]
def aZ (l:List UInt8):Nat:=l.foldl (fun a x=>(a*256+x.toNat)%18446744073709551616) 0
theorem Hu (l:List UInt8):aZ l<18446744073709551616:=by
  unfold aZ;rcases List.eq_nil_or_concat l with rfl | ⟨a,x,rfl⟩
  ·simp
  ·simp only[List.concat_eq_append,List.foldl_append,Zg,Zt]; omega
theorem u64_in (n:Int) (h₀:0≤n) (h₁:n<2^64):IntKind.u64.wrap n=n:=by rw[IntKind.wrap_u64]; omega
theorem Pn (a:List UInt8) (x:UInt8):bits .or .u64 (IntKind.u64.wrap ((aZ a:Int)*256)) (x.toNat:Int)=(aZ (a++[x]):Int):=by
  have hx:x.toNat<256:=x.toNat_lt
  have h1:=bits_join .u64 64 (by decide) u64_in 8 (IntKind.u64.wrap ((aZ a:Int)*256)) (x.toNat:Int)
    (by rw[IntKind.wrap_u64]; omega) (by rw[IntKind.wrap_u64]; omega) (by rw[IntKind.wrap_u64]; omega) (by omega) (by omega) (by omega)
  rw[h1,IntKind.wrap_u64];simp only[aZ,List.foldl_append,Zg,Zt];omega
theorem Df (l:List UInt8) (j:Nat) (h:j<l.length):bits .or .u64 (IntKind.u64.wrap ((aZ (l.take j):Int)*256)) (l[j].toNat:Int)=(aZ (l.take (j+1)):Int):=by
  rw[Pn,Zx h]
theorem Qv (a b:List UInt8):aZ (a++b)=(aZ a*256^b.length+aZ b)%18446744073709551616:=by
  have key:∀ (n:Nat) (b:List UInt8),b.length=n→aZ (a++b)=(aZ a*256^n+aZ b)%18446744073709551616:=by
    intro n
    induction n with
    | zero =>
      intro b hb;have:b=[]:=Y9 hb;subst this;have h0:aZ []=0:=rfl;rw[Yy,Nat.pow_zero,h0];have:=Hu a;omega
    | succ n ih =>
      intro b hb;rcases List.eq_nil_or_concat b with rfl | ⟨c,x,rfl⟩
      ·simp at hb
      ·rw[List.concat_eq_append] at hb ⊢;rw[← YY];have h1:∀ l:List UInt8,aZ (l++[x])=(aZ l*256+x.toNat)%18446744073709551616:=fun l=>by simp[aZ]
       rw[h1,h1,ih c (by simpa using hb),Nat.pow_succ];generalize aZ a=p;generalize aZ c=q;generalize 256^n=r;have e:p*(r*256)=p*r*256:=by rw[Nat.mul_assoc]
       rw[e];generalize p*r=z;omega
  exact key _ b rfl
theorem Po (l:List UInt8) (h:8<l.length):aZ (l.drop (l.length-8))=aZ l:=by
  have h1:=Qv (l.take (l.length-8)) (l.drop (l.length-8));rw[Y7] at h1;have h2:(l.drop (l.length-8)).length=8:=by rw[Yw]; omega
  rw[h2] at h1;have h3:=Hu (l.drop (l.length-8));rw[h1];have:(256:Nat)^8=18446744073709551616:=by decide
  rw[this];omega
def uM (l:List UInt8) (i:Nat):St:=⟨aP [(3,.w (.c (.d (.int .u64 (aZ (l.take i)))))),(14,.w (.c (.d (.sl (l.map bD))))),(15,.w (.c (.d (.int .i64 (l.length:Int))))),(16,.w (.c (.d (.int .i64 (i:Int)))))],hL [],uL []⟩
def sV:aN := .seq (.reg [oO 17 (.bin .lss (.t 16) (.t 15))]) (.seq (.cond (.t 17) (.skip) (.exit 0)) (.seq (.block 1 (.seq (.reg [oO 18 (.idxSl 1 (.t 14) (.t 16)),oO 19 (.load .sc (.t 18)),oM 5 19]) (.reg [oM 20 3,oO 21 (.bin .shl (.t 20) (.k (.c (.d (.int .u64 8))))),oM 22 5,oO 23 (.conv .u64 (.t 22)),oO 24 (.bin .or (.t 21) (.t 23)),oM 3 24]))) (.reg [oO 25 (.bin .add (.t 16) (kI 1)),oM 16 25])))
def zi:aD:=⟨1,27,.seq (.reg [oO 2 (.mv (.k (.c (.d (.int .u64 0)))))]) (.seq (.seq (.reg [oM 6 0,oO 7 (.len (.t 6)),oO 8 (.bin .gtr (.t 7) (kI 8))]) (.cond (.t 8) (.reg [oM 9 0,oM 10 0,oO 11 (.len (.t 10)),oO 12 (.bin .sub (.t 11) (kI 8)),oO 13 (.slice 1 (.t 9) (some (.t 12)) none none),oM 0 13]) (.skip))) (.seq (.reg [oO 3 (.mv (.k (.c (.d (.int .u64 0)))))]) (.seq (.seq (.reg [oM 14 0,oO 15 (.len (.t 14)),oO 16 (.mv (kI 0))]) (.block 0 (.loop sV))) (.seq (.reg [oM 26 3,oM 2 26]) (.ret))))),[(2,none)]⟩
theorem UJ:aB Tryz.prog { own:=[],comp:=[],frz:=[],nils:=[] } Tryz.f93=some zi:=by kernel_rfl
theorem L0 (G:ah) (Q:AX→St→Prop) (l:List UInt8) (hl:l.length≤8) (σ:St) (he:eM σ (uM l 0)) (hq:∀ f,f 3=.w (.c (.d (.int .u64 (aZ l))))→Q (.ex 0) ⟨f,hN,uN⟩):bE Tryz.prog G (.loop sV) Q σ:=by
  refine aV (uM l) (fun i=>l.length-i) (fun i=>i≤l.length) 0 (Yt _) he ?_;intro i hi;by_cases hlt:i<l.length
  ·have hb:=l[i].toNat_lt;have e2:l[i]?=some l[i]:=Yn hlt;have e3:IntKind.u64.wrap (l[i].toNat:Int)=(l[i].toNat:Int):=u64_in _ (by omega) (by omega);have e4:IntKind.i64.wrap ((i:Int)+1)=((i+1:Nat):Int):=by rw[IntWalk.i64_in _ (by omega)]; rfl
   have e5:=Df l i hlt;simp only[sV,uM,wx,aa,seval,iteOmega,toNatUp,aC,e2,IntKind.bits,e3,e4];refine aQ (i+1) (by omega) (by omega) (ap id ?_ ?_ rfl rfl) <;> simp only[wx,aj,aa,seval,iteOmega,toNatUp,← e5]
  ·have:l.take i=l:=Yo (by omega);simp only[sV,uM,wx,aa,seval,iteOmega,toNatUp,this];exact hq _ (by simp only[wx,aa,seval,iteOmega,toNatUp])
theorem oE (G:ah) (l:List UInt8) (hl:l.length≤9223372036854775807):au Tryz.prog G 93 [.sl (l.map bD)] (.w (.c (.d (.int .u64 (aZ l))))):=by
  refine aF Tryz.func93 UJ rfl rfl ?_;by_cases h8:8<l.length
  ·have e0:IntKind.i64.wrap ((l.length:Int)-8)=((l.length-8:Nat):Int):=by rw[IntWalk.i64_in _ (by omega)]; omega
   have e1:(l.drop (l.length-8)).take (l.length-(l.length-8))=l.drop (l.length-8):=Yo (by rw[Yw]; omega);simp only[zi,af,wx,aa,seval,iteOmega,toNatUp,e0,e1];refine L0 G _ (l.drop (l.length-8)) (by rw[Yw]; omega) _ ?_ fun f hf=>?_
   ·refine ap id ?_ ?_ rfl rfl <;> simp only[wx,aj,aa,seval,iteOmega,toNatUp] <;> rfl
   ·rw[Po l h8] at hf;simp only[wx,aa,seval,iteOmega,toNatUp,hf];exact oC (by simp only[wx,aa,seval,iteOmega,toNatUp])
  ·simp only[zi,af,wx,aa,seval,iteOmega,toNatUp];refine L0 G _ l (by omega) _ ?_ fun f hf=>?_
   ·refine ap id ?_ ?_ rfl rfl <;> simp only[wx,aj,aa,seval,iteOmega,toNatUp] <;> rfl
   ·simp only[wx,aa,seval,iteOmega,toNatUp,hf];exact oC (by simp only[wx,aa,seval,iteOmega,toNatUp])
theorem Sj (y:UInt8) (i:Nat):(fK (ci y i) 1==1)=fS y i:=by
  have h:(fK (ci y i) 1).toNat=y.toNat / 2^i%2:=by
    have h2:y.toNat / 2^i<256:=Nat.lt_of_le_of_lt (Nat.div_le_self _ _) (fb y);unfold fK ci;rw[UInt8.toNat_and,UInt8.toNat_ofNat_of_lt' (by simpa [UInt8.size] using h2)];exact Nat.and_one_is_mod _
  unfold fS;rw[Nat.testBit_eq_decide_div_mod_eq,Bool.eq_iff_iff,beq_iff_eq,decide_eq_true_iff,← UInt8.toNat_inj,h];rfl
theorem Pu (y:UInt8) (i:Nat):ci (ci y i) 1=ci y (i+1):=by
  have h2:y.toNat / 2^i<256:=Nat.lt_of_le_of_lt (Nat.div_le_self _ _) (fb y);unfold ci;rw[UInt8.toNat_ofNat_of_lt' (by simpa [UInt8.size] using h2),Nat.div_div_eq_div_mul,Nat.pow_one,Nat.pow_succ]
theorem Pv (y:UInt8):ci y 0=y:=by
  unfold ci; simp
theorem Sk (x y:UInt8) (i:Nat):am (gQ x y i) (iq (fS y i) (gP x i))=gQ x y (i+1):=rfl
theorem QB (x:UInt8):fW x=if ci x 7==1 then am (cH x 1) 27 else cH x 1:=by
  have:=jD (p:=fun x=>fW x==if ci x 7==1 then am (cH x 1) 27 else cH x 1) (by decide +kernel) x
  simpa using this
theorem Ki (x:UInt8):eS x 2=fW x:=by
  have:=jD (p:=fun x=>eS x 2==fW x) (by decide +kernel) x
  simpa using this
def zm:aD:=⟨1,11,.seq (.reg [oO 2 (.mv (.k (.c (.d (.int .u8 0)))))]) (.seq (.seq (.reg [oM 3 0,oO 4 (.bin .shr (.t 3) (.k (.c (.d (.int .u64 7))))),oO 5 (.bin .eql (.t 4) (.k (.c (.d (.int .u8 1)))))]) (.cond (.t 5) (.seq (.reg [oM 6 0,oO 7 (.bin .shl (.t 6) (.k (.c (.d (.int .u64 1))))),oO 8 (.bin .xor (.t 7) (.k (.c (.d (.int .u8 27))))),oM 2 8]) (.ret)) (.skip))) (.seq (.reg [oM 9 0,oO 10 (.bin .shl (.t 9) (.k (.c (.d (.int .u64 1))))),oM 2 10]) (.ret))),[(2,none)]⟩
theorem UP:aB Tryz.prog { own:=[],comp:=[],frz:=[],nils:=[] } Tryz.f136=some zm:=by kernel_rfl
theorem Md (G:ah) (x:UInt8):au Tryz.prog G 136 [bD x] (.w (.c (.d (bD (fW x))))):=by
  refine aF Tryz.func136 UP rfl rfl ?_;have h1:=oe x .u64 7 7 rfl (by decide);have h2:=ze (ci x 7) 1 1 rfl;have h3:=qA x .u64 1 1 rfl (by decide);have h4:=tZ (cH x 1) 27 27 rfl;rw[QB];cases h5:ci x 7==1
  ·rw[h5] at h2;simp only[zm,af,h1,h2,h3,h4,ae,aa,seval,iteOmega,toNatUp,if_false,ZZ];exact aG
  ·rw[h5] at h2;simp only[zm,af,h1,h2,h3,h4,ae,aa,seval,iteOmega,toNatUp,if_true];exact aG
theorem QC (x:UInt8):gP x 0=x:=rfl
theorem QD (x y:UInt8):gQ x y 0=0:=rfl
def Nc:List UInt8:=[99,124,119,123,242,107,111,197,48,1,103,43,254,215,171,118,202,130,201,125,250,89,71,240,173,212,162,175,156,164,114,192,183,253,147,38,54,63,247,204,52,165,229,241,113,216,49,21,4,199,35,195,24,150,5,154,7,18,128,226,235,39,178,117,9,131,44,26,27,110,90,160,82,59,214,179,41,227,47,132,83,209,0,237,32,252,177,91,106,203,190,57,74,76,88,207,208,239,170,251,67,77,51,133,69,249,2,127,80,60,159,168,81,163,64,143,146,157,56,245,188,182,218,33,16,255,243,210,205,12,19,236,95,151,68,23,196,167,126,61,100,93,25,115,96,129,79,220,34,42,144,136,70,238,184,20,222,94,11,219,224,50,58,10,73,6,36,92,194,211,172,98,145,149,228,121,231,200,55,109,141,213,78,169,108,86,244,234,101,122,174,8,186,120,37,46,28,166,180,198,232,221,116,31,75,189,139,138,112,62,181,102,72,3,246,14,97,53,87,185,134,193,29,158,225,248,152,17,105,217,142,148,155,30,135,233,206,85,40,223,140,161,137,13,191,230,66,104,65,153,45,15,176,84,187,22]
theorem Sl:Nc=jK:=by decide +kernel
def oF (x y:UInt8) (i:Nat):St:=⟨aP [(0,.w (.c (.d (bD (gP x i))))),(1,.w (.c (.d (bD (ci y i))))),(5,.w (.c (.d (bD (gQ x y i))))),(6,.w (.c (.d (.int .i64 (i:Int)))))],hL [],uL []⟩
theorem Sm (x:UInt8):fW x=if fK x 128 != 0 then am (cH x 1) 27 else cH x 1:=by
  have:=jD (p:=fun x=>fW x==if fK x 128 != 0 then am (cH x 1) 27 else cH x 1) (by decide +kernel) x
  simpa using this
def ny:aN := .seq (.seq (.reg [oM 8 6,oO 9 (.bin .lss (.t 8) (kI 8))]) (.cond (.t 9) (.skip) (.exit 0))) (.seq (.block 1 (.seq (.seq (.reg [oM 12 1,oO 13 (.bin .and (.t 12) (.k (.c (.d (.int .u8 1))))),oO 14 (.bin .eql (.t 13) (.k (.c (.d (.int .u8 1)))))]) (.cond (.t 14) (.reg [oM 15 5,oM 16 0,oO 17 (.bin .xor (.t 15) (.t 16)),oM 5 17]) (.skip))) (.seq (.reg [oM 18 0,oO 19 (.bin .and (.t 18) (.k (.c (.d (.int .u8 128))))),oM 7 19]) (.seq (.reg [oM 20 0,oO 21 (.bin .shl (.t 20) (.k (.c (.d (.int .u64 1))))),oM 0 21]) (.seq (.seq (.reg [oM 22 7,oO 23 (.bin .neq (.t 22) (.k (.c (.d (.int .u8 0)))))]) (.cond (.t 23) (.reg [oM 24 0,oO 25 (.bin .xor (.t 24) (.k (.c (.d (.int .u8 27))))),oM 0 25]) (.skip))) (.reg [oM 26 1,oO 27 (.bin .shr (.t 26) (.k (.c (.d (.int .u64 1))))),oM 1 27]))))))
 (.reg [oM 10 6,oO 11 (.bin .add (.t 10) (kI 1)),oM 6 11]))
def Hy:aD:=⟨2,29,.seq (.reg [oO 4 (.mv (.k (.c (.d (.int .u8 0)))))]) (.seq (.reg [oO 5 (.mv (.k (.c (.d (.int .u8 0)))))]) (.seq (.seq (.reg [oO 6 (.mv (kI 0))]) (.block 0 (.loop ny))) (.seq (.reg [oM 28 5,oM 4 28]) (.ret)))),[(4,none)]⟩
theorem Sn:aB Tryz.prog { own:=[],comp:=[],frz:=[],nils:=[] } Tryz.f130=some Hy:=by kernel_rfl
set_option maxHeartbeats 1600000 in
theorem t7 (G:ah) (x y:UInt8):au Tryz.prog G 130 [bD x,bD y] (.w (.c (.d (bD (eS x y))))):=by
  refine aF Tryz.func130 Sn rfl rfl ?_;simp only[Hy,af,ae,aa,seval,iteOmega,toNatUp];refine aV (oF x y) (fun i=>8-i) (fun i=>i≤8) 0 (Yt _) ?_ ?_
  ·refine ap (fun _=>0) ?_ ?_ rfl rfl <;> simp only[wx,aj,ar,aa,seval,iteOmega,toNatUp,Pv,QC,QD] <;> rfl
  ·intro i hi;by_cases hlt:i<8
   ·have h1:=od (ci y i) 1 1 rfl;have h2:=ze (fK (ci y i) 1) 1 1 rfl;have h3:=oe (ci y i) .u64 1 1 rfl (by decide);have h4:=de (gQ x y i) (gP x i);have h5:=Sk x y i;rw[Pu] at h3;rw[Sj] at h2;have h7:fW (gP x i)=gP x (i+1):=rfl;rw[Sm] at h7;have g1:=od (gP x i) 128 128 rfl;have g2:=zf (fK (gP x i) 128) 0 0 rfl;have g3:=qA (gP x i) .u64 1 1 rfl (by decide);have g4:=tZ (cH (gP x i) 1) 27 27 rfl;cases hb:fS y i <;> cases hh:fK (gP x i) 128 != 0 <;> rw[hb] at h2 h5 <;> rw[hh] at g2 h7
    ·have h8:gQ x y i=gQ x y (i+1):=by rw[← h5]; exact (pL _).symm
     simp only[if_false,ZZ] at h7;simp only[ny,oF,h1,h2,h3,h4,g1,g2,g3,ae,aa,seval,iteOmega,toNatUp,h7];refine aQ (i+1) (by omega) (by omega) (ap (fun _=>0) ?_ ?_ rfl rfl) <;> simp only[wx,aj,ar,aa,seval,iteOmega,toNatUp,h8]
    ·have h8:gQ x y i=gQ x y (i+1):=by rw[← h5]; exact (pL _).symm
     simp only[if_true] at h7;simp only[ny,oF,h1,h2,h3,h4,g1,g2,g3,g4,ae,aa,seval,iteOmega,toNatUp,h7];refine aQ (i+1) (by omega) (by omega) (ap (fun _=>0) ?_ ?_ rfl rfl) <;> simp only[wx,aj,ar,aa,seval,iteOmega,toNatUp,h8]
    ·have h8:am (gQ x y i) (gP x i)=gQ x y (i+1):=h5;simp only[if_false,ZZ] at h7;simp only[ny,oF,h1,h2,h3,h4,g1,g2,g3,ae,aa,seval,iteOmega,toNatUp,h7];refine aQ (i+1) (by omega) (by omega) (ap (fun _=>0) ?_ ?_ rfl rfl) <;> simp only[wx,aj,ar,aa,seval,iteOmega,toNatUp,h8]
    ·have h8:am (gQ x y i) (gP x i)=gQ x y (i+1):=h5;simp only[if_true] at h7;simp only[ny,oF,h1,h2,h3,h4,g1,g2,g3,g4,ae,aa,seval,iteOmega,toNatUp,h7];refine aQ (i+1) (by omega) (by omega) (ap (fun _=>0) ?_ ?_ rfl rfl) <;> simp only[wx,aj,ar,aa,seval,iteOmega,toNatUp,h8]
   ·obtain rfl:i=8:=by omega
    have e:eS x y=gQ x y 8:=rfl;simp only[ny,oF,ae,aa,seval,iteOmega,toNatUp,e];exact aG
def Ft:aD:=⟨2,15,.seq (.reg [oO 4 (.mv (.k (.c (.d (.int .u8 0)))))]) (.seq (.reg [oM 5 0,oM 6 1,oO 7 (.conv .u64 (.t 6)),oO 8 (.bin .shl (.t 5) (.t 7)),oM 9 0,oM 10 1,oO 11 (.bin .sub (kI 8) (.t 10)),oO 12 (.conv .u64 (.t 11)),oO 13 (.bin .shr (.t 9) (.t 12)),oO 14 (.bin .or (.t 8) (.t 13)),oM 4 14]) (.ret)),[(4,none)]⟩
theorem QE:aB Tryz.prog { own:=[],comp:=[],frz:=[],nils:=[] } Tryz.f141=some Ft:=by kernel_rfl
theorem tA (G:ah) (x:UInt8) (j:Nat) (h1:1≤j) (h2:j≤4):au Tryz.prog G 141 [bD x,.int .i64 (j:Int)] (.w (.c (.d (bD (ew x j))))):=by
  refine aF Tryz.func141 QE rfl rfl ?_;have g1:=qA x .u64 j (j:Int) rfl (by omega);have g2:=oe x .u64 (8-j) (8-(j:Int)) (by omega) (by omega);have g3:=pZ (cH x j) (ci x (8-j));have e:ew x j=jh (cH x j) (ci x (8-j)):=rfl;simp only[Ft,af,ae,aa,seval,iteOmega,toNatUp,g1,g2,g3,e];exact aG
theorem UQ (y:UInt8):am (am (am (am (am y (ew y 1)) (ew y 2)) (ew y 3)) (ew y 4)) 99=pd y:=rfl
set_option maxRecDepth 100000 in
theorem QF:ByteArray.size ⟨#[99,124,119,123,242,107,111,197,48,1,103,43,254,215,171,118,202,130,201,125,250,89,71,240,173,212,162,175,156,164,114,192,183,253,147,38,54,63,247,204,52,165,229,241,113,216,49,21,4,199,35,195,24,150,5,154,7,18,128,226,235,39,178,117,9,131,44,26,27,110,90,160,82,59,214,179,41,227,47,132,83,209,0,237,32,252,177,91,106,203,190,57,74,76,88,207,208,239,170,251,67,77,51,133,69,249,2,127,80,60,159,168,81,163,64,143,146,157,56,245,188,182,218,33,16,255,243,210,205,12,19,236,95,151,68,23,196,167,126,61,100,93,25,115,96,129,79,220,34,42,144,136,70,238,184,20,222,94,11,219,224,50,58,10,73,6,36,92,194,211,172,98,145,149,228,121,231,200,55,109,141,213,78,169,108,86,244,234,101,122,174,8,186,120,37,46,28,166,180,198,232,221,116,31,75,189,139,138,112,62,181,102,72,3,246,14,97,53,87,185,134,193,29,158,225,248,152,17,105,217,142,148,155,30,135,233,206,85,40,223,140,161,137,13,191,230,66,104,65,153,45,15,176,84,187,22]⟩=256:=rfl
set_option maxRecDepth 100000 in
theorem UR (x:UInt8):(ByteArray.data ⟨#[99,124,119,123,242,107,111,197,48,1,103,43,254,215,171,118,202,130,201,125,250,89,71,240,173,212,162,175,156,164,114,192,183,253,147,38,54,63,247,204,52,165,229,241,113,216,49,21,4,199,35,195,24,150,5,154,7,18,128,226,235,39,178,117,9,131,44,26,27,110,90,160,82,59,214,179,41,227,47,132,83,209,0,237,32,252,177,91,106,203,190,57,74,76,88,207,208,239,170,251,67,77,51,133,69,249,2,127,80,60,159,168,81,163,64,143,146,157,56,245,188,182,218,33,16,255,243,210,205,12,19,236,95,151,68,23,196,167,126,61,100,93,25,115,96,129,79,220,34,42,144,136,70,238,184,20,222,94,11,219,224,50,58,10,73,6,36,92,194,211,172,98,145,149,228,121,231,200,55,109,141,213,78,169,108,86,244,234,101,122,174,8,186,120,37,46,28,166,180,198,232,221,116,31,75,189,139,138,112,62,181,102,72,3,246,14,97,53,87,185,134,193,29,158,225,248,152,17,105,217,142,148,155,30,135,233,206,85,40,223,140,161,137,13,191,230,66,104,65,153,45,15,176,84,187,22]⟩).toList[x.toNat]?=some (dc x):=by
  have e:(ByteArray.data ⟨#[99,124,119,123,242,107,111,197,48,1,103,43,254,215,171,118,202,130,201,125,250,89,71,240,173,212,162,175,156,164,114,192,183,253,147,38,54,63,247,204,52,165,229,241,113,216,49,21,4,199,35,195,24,150,5,154,7,18,128,226,235,39,178,117,9,131,44,26,27,110,90,160,82,59,214,179,41,227,47,132,83,209,0,237,32,252,177,91,106,203,190,57,74,76,88,207,208,239,170,251,67,77,51,133,69,249,2,127,80,60,159,168,81,163,64,143,146,157,56,245,188,182,218,33,16,255,243,210,205,12,19,236,95,151,68,23,196,167,126,61,100,93,25,115,96,129,79,220,34,42,144,136,70,238,184,20,222,94,11,219,224,50,58,10,73,6,36,92,194,211,172,98,145,149,228,121,231,200,55,109,141,213,78,169,108,86,244,234,101,122,174,8,186,120,37,46,28,166,180,198,232,221,116,31,75,189,139,138,112,62,181,102,72,3,246,14,97,53,87,185,134,193,29,158,225,248,152,17,105,217,142,148,155,30,135,233,206,85,40,223,140,161,137,13,191,230,66,104,65,153,45,15,176,84,187,22]⟩).toList=Nc:=rfl;rw[e,Sl]; exact xC x
set_option maxRecDepth 100000
def Di:ByteArray:=⟨#[99,124,119,123,242,107,111,197,48,1,103,43,254,215,171,118,202,130,201,125,250,89,71,240,173,212,162,175,156,164,114,192,183,253,147,38,54,63,247,204,52,165,229,241,113,216,49,21,4,199,35,195,24,150,5,154,7,18,128,226,235,39,178,117,9,131,44,26,27,110,90,160,82,59,214,179,41,227,47,132,83,209,0,237,32,252,177,91,106,203,190,57,74,76,88,207,208,239,170,251,67,77,51,133,69,249,2,127,80,60,159,168,81,163,64,143,146,157,56,245,188,182,218,33,16,255,243,210,205,12,19,236,95,151,68,23,196,167,126,61,100,93,25,115,96,129,79,220,34,42,144,136,70,238,184,20,222,94,11,219,224,50,58,10,73,6,36,92,194,211,172,98,145,149,228,121,231,200,55,109,141,213,78,169,108,86,244,234,101,122,174,8,186,120,37,46,28,166,180,198,232,221,116,31,75,189,139,138,112,62,181,102,72,3,246,14,97,53,87,185,134,193,29,158,225,248,152,17,105,217,142,148,155,30,135,233,206,85,40,223,140,161,137,13,191,230,66,104,65,153,45,15,176,84,187,22]⟩
def Kj:aD:=⟨1,5,.seq (.reg [oO 2 (.mv (.k (.c (.d (.int .u8 0)))))]) (.seq (.reg [oM 3 0,oO 4 (.idxStr (.k (.c (.d (.str Di)))) (.t 3)),oM 2 4]) (.ret)),[(2,none)]⟩
theorem US:aB Tryz.prog { own:=[],comp:=[],frz:=[],nils:=[] } Tryz.f147=some Kj:=by kernel_rfl
theorem qT (G:ah) (x:UInt8):au Tryz.prog G 147 [bD x] (.w (.c (.d (bD (dc x))))):=by
  refine aF Tryz.func147 US rfl rfl ?_;have h:=fb x;have e:=UR x;simp only[Kj,Di,af,ae,aa,seval,iteOmega,toNatUp,QF,e];exact aG
def bg (f:Nat→UInt8) (l:List UInt8) (i:Nat):List UInt8:=(List.range i).map f++l.drop i
theorem js (f:Nat→UInt8) (l:List UInt8) {i:Nat} (h:i≤l.length):(bg f l i).length=l.length:=by
  unfold bg; rw[Yr,YI,ZB,Yw]; omega
theorem jY (f:Nat→UInt8) (l:List UInt8):bg f l 0=l:=by simp[bg]
theorem sW (f:Nat→UInt8) (l:List UInt8) {i:Nat} (h:l.length≤i):bg f l i=(List.range i).map f:=by
  unfold bg; rw[Y8 h,Yy]
theorem Hz (f:Nat→UInt8) (l:List UInt8) {i j:Nat} (hj:i≤j):(bg f l i)[j]?=l[j]?:=by
  unfold bg;rw[Zc (by simpa using hj),YV,YI,ZB,show i+(j-i)=j by omega]
theorem QG (f:Nat→UInt8) (l:List UInt8) {i j:Nat} (hj:j<i):(bg f l i)[j]?=some (f j):=by
  unfold bg;rw[Y6 (by simpa using hj)];simp[hj]
theorem jZ (f:Nat→UInt8) (l:List UInt8) {i:Nat} (h:i<l.length):(bg f l i).set i (f i)=bg f l (i+1):=by
  unfold bg;rw[ZR _ _ (by simp),YI,ZB,Nat.sub_self,List.drop_eq_getElem_cons h,List.set_cons_zero,ZW,YD,YY];rfl
theorem cN {l:List UInt8} {j:Nat} (h:j<l.length):l[j]?=some (l.getD j 0):=by
  rw[Ys,Yn h]; rfl
def jd:Nat→List UInt8
  | 0=>(aL 256 0).set 0 99
  | n+1=>(jd n).set (fT 3 n).toNat (pd (fT 246 n))
theorem Fu:∀ n,(jd n).length=256
  | 0=>by rw[jd,Zl,aX]
  | n+1=>by rw[jd,Zl,Fu n]
set_option maxRecDepth 100000 in
theorem HA:jd 255=jK:=by decide +kernel
theorem Yd (x:UInt8):fT x 0=1:=rfl
theorem Bf:bD 1=.int .u8 1:=rfl
def zY (i:Nat):St:=⟨aP [(0,.w (.c (.pa 2 1))),(1,.w (.c (.pa 1 1))),(2,.w (.c (.d (bD (fT 3 i))))),(3,.w (.c (.d (bD (fT 246 i))))),(4,.w (.c (.d (.int .i64 (i:Int)))))],hL [(1,.row 1 ((jd i).map bD)),(2,.row 1 ((aL 256 (0:UInt8)).map bD))],uL [1,2]⟩
def wM:aN := .seq (.seq (.reg [oM 6 4,oO 7 (.bin .lss (.t 6) (kI 255))]) (.cond (.t 7) (.skip) (.exit 0))) (.seq (.block 1 (.seq (.reg [oM 10 2,oM 11 3,oM 12 3,oO 13 (.call 141 [(.t 12),(kI 1)] none),oO 14 (.bin .xor (.t 11) (.t 13)),oM 15 3,oO 16 (.call 141 [(.t 15),(kI 2)] none),oO 17 (.bin .xor (.t 14) (.t 16)),oM 18 3,oO 19 (.call 141 [(.t 18),(kI 3)] none),oO 20 (.bin .xor (.t 17) (.t 19)),oM 21 3,oO 22 (.call 141 [(.t 21),(kI 4)] none),oO 23 (.bin .xor (.t 20) (.t 22)),oO 24 (.bin .xor (.t 23) (.k (.c (.d (.int .u8 99))))),oO 25 (.idxPa 1 256 (.t 1) (.t 10)),oN (.store .sc (.t 25) (.t 24))]) (.reg [oM 26 2,oO 27 (.call 130 [(.t 26),(.k (.c (.d (.int .u8 3))))] none),oM 28 3,oO 29 (.call 130 [(.t 28),(.k (.c (.d (.int .u8 246))))] none),oM 2 27,oM 3 29]))) (.reg [oM 8 4,oO 9 (.bin .add (.t 8) (kI 1)),
 oM 4 9]))
def HB:aD:=⟨0,31,.seq (.reg [oO 0 (.allocArr (aL 256 (.int .u8 0)))]) (.seq (.reg [oO 1 (.allocArr (aL 256 (.int .u8 0)))]) (.seq (.reg [oO 5 (.idxPa 1 256 (.t 1) (kI 0)),oN (.store .sc (.t 5) (.k (.c (.d (.int .u8 99)))))]) (.seq (.reg [oO 2 (.mv (.k (.c (.d (.int .u8 1))))),oO 3 (.mv (.k (.c (.d (.int .u8 1)))))]) (.seq (.seq (.reg [oO 4 (.mv (kI 0))]) (.block 0 (.loop wM))) (.seq (.reg [oO 30 (.load (.ag 256) (.t 1)),oN (.store (.ag 256) (.t 0) (.t 30))]) (.ret)))))),[(0,(some (.ag 256)))]⟩
theorem Sp:aB Tryz.prog { own:=[],comp:=[],frz:=[],nils:=[] } Tryz.f129=some HB:=by kernel_rfl
set_option maxHeartbeats 1600000 in
theorem UT (G:ah):au Tryz.prog G 129 [] (.w (.c (.d (.agg (jK.map bD))))):=by
  refine aF Tryz.func129 Sp rfl rfl ?_;have e0:((aL 256 (0:UInt8)).map bD).set 0 (.int .u8 99)=(jd 0).map bD:=mF bD _ 0 99;have e1:0<(aL 256 (0:UInt8)).length:=by rw[aX]; decide
  have e2:=Qp (n:=256) (i:=0) (0:UInt8) (by decide);simp only[HB,af,ae,aa,seval,iteOmega,toNatUp,R6,e0,e1,e2,aC,aX];refine aV zY (fun i=>255-i) (fun i=>i≤255) 0 (Yt _) ?_ ?_
  ·refine ap (fun i=>if i=1 then 8 else 0) ?_ ?_ rfl rfl <;> simp only[wx,aj,ar,aa,seval,iteOmega,toNatUp,Yd,Bf]
  ·intro i hi;have hl:=Fu i;by_cases hlt:i<255
   ·have hp:=fb (fT 3 i);have h3:(fT 3 i).toNat<(jd i).length:=by omega
    have hs:(jd i).set (fT 3 i).toNat (pd (fT 246 i))=jd (i+1):=rfl;have p3:eS (fT 3 i) 3=fT 3 (i+1):=rfl;have p4:eS (fT 246 i) 246=fT 246 (i+1):=rfl;have hset:((jd i).map bD).set (fT 3 i).toNat (bD (pd (fT 246 i)))=(jd (i+1)).map bD:=by rw[mF,hs]
    simp only[wM,zY,ae,aa,seval,iteOmega,toNatUp];generalize fT 246 i=y at *
    rw[← UQ] at hset;have g1:=de y (ew y 1);have g2:=de (am y (ew y 1)) (ew y 2);have g3:=de (am (am y (ew y 1)) (ew y 2)) (ew y 3);have g4:=de (am (am (am y (ew y 1)) (ew y 2)) (ew y 3)) (ew y 4);have g5:=tZ (am (am (am (am y (ew y 1)) (ew y 2)) (ew y 3)) (ew y 4)) 99 99 rfl;refine sC (tA G y 1 (by decide) (by decide)) ?_;simp only[g1,ae,aa,seval,iteOmega,toNatUp];refine sC (tA G y 2 (by decide) (by decide)) ?_;simp only[g2,ae,aa,seval,iteOmega,toNatUp];refine sC (tA G y 3 (by decide) (by decide)) ?_;simp only[g3,ae,aa,seval,iteOmega,toNatUp];refine sC (tA G y 4 (by decide) (by decide)) ?_;simp only[g4,g5,hl,aC,dX h3 (dP _),hset,ae,aa,seval,iteOmega,toNatUp];refine sC (t7 G (fT 3 i) 3) ?_;simp only[p3,ae,aa,seval,iteOmega,toNatUp];refine sC (t7 G y 246) ?_;simp only[p4,ae,aa,seval,iteOmega,toNatUp];refine aQ (i+1) (by omega) (by omega) (ap (fun i=>i) ?_ ?_ rfl rfl) <;> simp only[wx,aj,ar,aa,seval,iteOmega,toNatUp]
   ·obtain rfl:i=255:=by omega
    rw[HA] at hl;simp only[wM,zY,HA,ae,aa,seval,iteOmega,toNatUp,hl,ij,aX];exact aG
set_option maxHeartbeats 1600000
def m7 (s k:List UInt8):List UInt8:=bF (dS (aK s) (aK k))
def g9 (s:List UInt8):List UInt8:=bF (bU (aK s))
def rq (s:List UInt8):List UInt8:=bF (gI (aK s))
theorem QH (s k:List UInt8):(m7 s k).length=16:=fY _
theorem sX (s:List UInt8):(g9 s).length=16:=fY _
theorem Fv (s:List UInt8):(rq s).length=16:=fY _
theorem iX (f:dq):Mc (aK (bF f)) f:=fun j hj=>by
  unfold aK; rw[Ys,qm f hj]; rfl
theorem xE (f g:dq):m7 (bF f) (bF g)=bF (dS f g):=si fun j hj=>by
  unfold dS; rw[iX f j hj,iX g j hj]
theorem Fw (f:dq):g9 (bF f)=bF (bU f):=si fun j hj=>by
  unfold bU; rw[iX f _ (by omega)]
theorem QI (f:dq):rq (bF f)=bF (gI f):=si fun j hj=>by
  unfold gI; rw[iX f _ (by omega),iX f _ (by omega),iX f _ (by omega),iX f _ (by omega)]
theorem eC:[D.int .u8 0,.int .u8 0,.int .u8 0,.int .u8 0,.int .u8 0,.int .u8 0,.int .u8 0,.int .u8 0,.int .u8 0,.int .u8 0,.int .u8 0,.int .u8 0,.int .u8 0,.int .u8 0,.int .u8 0,.int .u8 0]=(aL 16 (0:UInt8)).map bD:=rfl
theorem mG (f:dq) {l:List UInt8} (h:l.length=16):bg f l 16=bF f:=sW f l (by omega)
theorem i9 (a b:Nat):Int.tmod (a:Int) (b:Int)=((a%b:Nat):Int):=rfl
def zZ (s k:List UInt8) (i:Nat):St:=⟨aP [(2,.w (.c (.pa 1 1))),(4,.w (.c (.pa 2 1))),(7,.w (.c (.d (.agg (k.map bD))))),(8,.w (.c (.d (.int .i64 (i:Int)))))],hL [(1,.row 1 ((bg (dS (aK s) (aK k)) s i).map bD)),(2,.row 1 ((aL 16 (0:UInt8)).map bD))],uL [1,2]⟩
def xF:aN := .seq (.reg [oO 9 (.bin .lss (.t 8) (kI 16))]) (.seq (.cond (.t 9) (.skip) (.exit 0)) (.seq (.block 1 (.seq (.reg [oM 10 8,oO 11 (.idxArr 1 16 .sc (.t 7) (.t 8)),oM 5 10,oM 6 11]) (.reg [oM 12 5,oO 13 (.idxPa 1 16 (.t 2) (.t 12)),oO 14 (.load .sc (.t 13)),oM 15 6,oO 16 (.bin .xor (.t 14) (.t 15)),oO 17 (.idxPa 1 16 (.t 2) (.t 12)),oN (.store .sc (.t 17) (.t 16))]))) (.reg [oO 18 (.bin .add (.t 8) (kI 1)),oM 8 18])))
def Kk:aD:=⟨2,20,.seq (.reg [oO 2 (.box .ownArr (.t 0)),oO 3 (.box .roArr (.t 1)),oO 4 (.allocArr [(.int .u8 0),(.int .u8 0),(.int .u8 0),(.int .u8 0),(.int .u8 0),(.int .u8 0),(.int .u8 0),(.int .u8 0),(.int .u8 0),(.int .u8 0),(.int .u8 0),(.int .u8 0),(.int .u8 0),(.int .u8 0),(.int .u8 0),(.int .u8 0)])]) (.seq (.seq (.reg [oO 7 (.load (.ag 16) (.t 3)),oO 8 (.mv (kI 0))]) (.block 0 (.loop xF))) (.seq (.reg [oO 19 (.load (.ag 16) (.t 2)),oN (.store (.ag 16) (.t 4) (.t 19))]) (.ret))),[(4,(some (.ag 16)))]⟩
theorem UU:aB Tryz.prog { own:=[2],comp:=[],frz:=[],nils:=[] } Tryz.f138=some Kk:=by kernel_rfl
theorem z0 (G:ah) (s k:List UInt8) (hs:s.length=16) (hk:k.length=16):au Tryz.prog G 138 [.agg (s.map bD),.agg (k.map bD)] (.w (.c (.d (.agg ((m7 s k).map bD))))):=by
  refine aF Tryz.func138 UU rfl rfl ?_;simp only[Kk,af,ae,aa,seval,iteOmega,toNatUp,eC,ij,hk];refine aV (zZ s k) (fun i=>16-i) (fun i=>i≤16) 0 (Yt _) ?_ ?_
  ·refine ap (fun i=>if i=1 then 16 else 32) ?_ ?_ rfl rfl <;> simp only[wx,aj,ar,aa,seval,iteOmega,toNatUp,jY]
  ·intro i hi;have hl:(bg (dS (aK s) (aK k)) s i).length=16:=by rw[js _ _ (by omega)]; exact hs
   by_cases hlt:i<16
   ·have g1:k[i]?=some (k.getD i 0):=cN (by omega);have g2:(bg (dS (aK s) (aK k)) s i)[i]?=some (s.getD i 0):=by rw[Hz _ _ (Yz i)]; exact cN (by omega)
    have h3:i<(bg (dS (aK s) (aK k)) s i).length:=by omega
    have h4:=de (s.getD i 0) (k.getD i 0);have h5:(bg (dS (aK s) (aK k)) s i).set i (am (s.getD i 0) (k.getD i 0))=bg (dS (aK s) (aK k)) s (i+1):=jZ (dS (aK s) (aK k)) s (by omega);simp only[xF,zZ,ae,aa,seval,iteOmega,toNatUp,aC,g1,g2,h4,dX h3 (dP _),fc,h5];refine aQ (i+1) (by omega) (by omega) (ap (fun i=>i) ?_ ?_ rfl rfl) <;> simp only[wx,aj,ar,aa,seval,iteOmega,toNatUp]
   ·obtain rfl:i=16:=by omega
    have e:bg (dS (aK s) (aK k)) s 16=m7 s k:=mG _ hs;have e2:=QH s k;simp only[xF,zZ,e,ae,aa,seval,iteOmega,toNatUp,e2,ij,aX];exact aG
def z1 (s:List UInt8) (i:Nat):St:=⟨aP [(1,.w (.c (.ra (s.map bD)))),(2,.w (.c (.pa 2 1))),(3,.w (.c (.pa 1 1))),(6,.w (.c (.d (.int .i64 (i:Int)))))],hL [(1,.row 1 ((bg (bU (aK s)) (aL 16 (0:UInt8)) i).map bD)),(2,.row 1 ((aL 16 (0:UInt8)).map bD))],uL [1,2]⟩
def wN:aN := .seq (.reg [oO 7 (.bin .lss (.t 6) (kI 16))]) (.seq (.cond (.t 7) (.skip) (.exit 0)) (.seq (.block 1 (.seq (.reg [oM 8 6,oM 4 8]) (.seq (.reg [oM 9 4,oO 10 (.bin .rem (.t 9) (kI 4)),oM 5 10]) (.reg [oM 11 4,oM 12 4,oM 13 5,oO 14 (.bin .mul (.t 13) (kI 4)),oO 15 (.bin .add (.t 12) (.t 14)),oO 16 (.bin .rem (.t 15) (kI 16)),oO 17 (.idxPa 1 16 (.t 1) (.t 16)),oO 18 (.load .sc (.t 17)),oO 19 (.call 147 [(.t 18)] none),oO 20 (.idxPa 1 16 (.t 3) (.t 11)),oN (.store .sc (.t 20) (.t 19))])))) (.reg [oO 21 (.bin .add (.t 6) (kI 1)),oM 6 21])))
def HC:aD:=⟨1,23,.seq (.reg [oO 1 (.box .roArr (.t 0)),oO 2 (.allocArr [(.int .u8 0),(.int .u8 0),(.int .u8 0),(.int .u8 0),(.int .u8 0),(.int .u8 0),(.int .u8 0),(.int .u8 0),(.int .u8 0),(.int .u8 0),(.int .u8 0),(.int .u8 0),(.int .u8 0),(.int .u8 0),(.int .u8 0),(.int .u8 0)])]) (.seq (.reg [oO 3 (.allocArr [(.int .u8 0),(.int .u8 0),(.int .u8 0),(.int .u8 0),(.int .u8 0),(.int .u8 0),(.int .u8 0),(.int .u8 0),(.int .u8 0),(.int .u8 0),(.int .u8 0),(.int .u8 0),(.int .u8 0),(.int .u8 0),(.int .u8 0),(.int .u8 0)])]) (.seq (.seq (.reg [oO 6 (.mv (kI 0))]) (.block 0 (.loop wN))) (.seq (.reg [oO 22 (.load (.ag 16) (.t 3)),oN (.store (.ag 16) (.t 2) (.t 22))]) (.ret)))),[(2,(some (.ag 16)))]⟩
theorem Sq:aB Tryz.prog { own:=[],comp:=[],frz:=[],nils:=[] } Tryz.f140=some HC:=by kernel_rfl
theorem Kl (G:ah) (s:List UInt8) (hs:s.length=16):au Tryz.prog G 140 [.agg (s.map bD)] (.w (.c (.d (.agg ((g9 s).map bD))))):=by
  refine aF Tryz.func140 Sq rfl rfl ?_;simp only[HC,af,ae,aa,seval,iteOmega,toNatUp,eC];refine aV (z1 s) (fun i=>16-i) (fun i=>i≤16) 0 (Yt _) ?_ ?_
  ·refine ap (fun i=>if i=1 then 24 else 16) ?_ ?_ rfl rfl <;> simp only[wx,aj,ar,aa,seval,iteOmega,toNatUp,jY]
  ·intro i hi;have hl:(bg (bU (aK s)) (aL 16 (0:UInt8)) i).length=16:=by rw[js _ _ (by rw[aX]; omega),aX]
   by_cases hlt:i<16
   ·have hm:(i+i%4*4)%16=i%4+4*((i / 4+i%4)%4):=by omega
    have hm2:(i+i%4*4)%16<16:=by omega
    have g1:s[(i+i%4*4)%16]?=some (aK s (i%4+4*((i / 4+i%4)%4))):=by rw[← hm]; exact cN (by omega)
    have h3:i<(bg (bU (aK s)) (aL 16 (0:UInt8)) i).length:=by omega
    have h5:(bg (bU (aK s)) (aL 16 (0:UInt8)) i).set i (dc (aK s (i%4+4*((i / 4+i%4)%4))))=bg (bU (aK s)) (aL 16 (0:UInt8)) (i+1):=jZ (bU (aK s)) _ (by rw[aX]; omega);have t1:Int.tmod (i:Int) 4=((i%4:Nat):Int):=i9 i 4;have t2:Int.tmod ((i:Int)+((i%4:Nat):Int)*4) 16=(((i+i%4*4)%16:Nat):Int):=i9 (i+i%4*4) 16;have hb:(i%4:Nat)<4:=Zi _ (by decide);generalize hq:i%4=q at *
    generalize hp:(i+q*4)%16=p at *
    simp only[wN,z1,ae,aa,seval,iteOmega,toNatUp,aC,t1,t2,g1];refine sC (qT G (aK s (q+4*((i / 4+q)%4)))) ?_;simp only[dX h3 (dP _),fc,h5,aC,hl,ae,aa,seval,iteOmega,toNatUp];refine aQ (i+1) (by omega) (by omega) (ap (fun i=>i) ?_ ?_ rfl rfl) <;> simp only[wx,aj,ar,aa,seval,iteOmega,toNatUp]
   ·obtain rfl:i=16:=by omega
    have e:bg (bU (aK s)) (aL 16 (0:UInt8)) 16=g9 s:=mG _ (aX _ _);have e2:=sX s;simp only[wN,z1,e,ae,aa,seval,iteOmega,toNatUp,e2,ij,aX];exact aG
theorem UV (a b c d:UInt8):am (am (am (fW (am a b)) b) c) d=pf a b c d:=by
  unfold pf gy;rw[Si a b,Ki,Ki]
def zn (s:List UInt8) (i:Nat):St:=⟨aP [(1,.w (.c (.ra (s.map bD)))),(2,.w (.c (.pa 2 1))),(3,.w (.c (.pa 1 1))),(8,.w (.c (.d (.int .i64 (i:Int)))))],hL [(1,.row 1 ((bg (gI (aK s)) (aL 16 (0:UInt8)) i).map bD)),(2,.row 1 ((aL 16 (0:UInt8)).map bD))],uL [1,2]⟩
def wO:aN := .seq (.reg [oO 9 (.bin .lss (.t 8) (kI 16))]) (.seq (.cond (.t 9) (.skip) (.exit 0)) (.seq (.block 1 (.seq (.reg [oM 10 8,oM 4 10]) (.seq (.reg [oM 11 4,oO 12 (.bin .rem (.t 11) (kI 4)),oM 5 12]) (.seq (.reg [oM 13 4,oM 14 5,oO 15 (.bin .sub (.t 13) (.t 14)),oM 16 4,oM 17 5,oO 18 (.bin .sub (.t 16) (.t 17)),oO 19 (.bin .add (.t 18) (kI 4)),oO 20 (.sliceArr 1 16 (.t 1) (some (.t 15)) (some (.t 19))),oM 6 20]) (.seq (.reg [oM 21 6,oM 22 5,oO 23 (.bin .add (.t 22) (kI 1)),oO 24 (.bin .rem (.t 23) (kI 4)),oO 25 (.idxSl 1 (.t 21) (.t 24)),oO 26 (.load .sc (.t 25)),oM 7 26]) (.reg [oM 27 4,oM 28 4,oO 29 (.idxPa 1 16 (.t 1) (.t 28)),oO 30 (.load .sc (.t 29)),oM 31 7,oO 32 (.bin .xor (.t 30) (.t 31)),oO 33 (.call 136 [(.t 32)] none),oM 34 7,oO 35 (.bin .xor (.t 33) (.t 34)),
 oM 36 6,oM 37 5,oO 38 (.bin .add (.t 37) (kI 2)),oO 39 (.bin .rem (.t 38) (kI 4)),oO 40 (.idxSl 1 (.t 36) (.t 39)),oO 41 (.load .sc (.t 40)),oO 42 (.bin .xor (.t 35) (.t 41)),oM 43 6,oM 44 5,oO 45 (.bin .add (.t 44) (kI 3)),oO 46 (.bin .rem (.t 45) (kI 4)),oO 47 (.idxSl 1 (.t 43) (.t 46)),oO 48 (.load .sc (.t 47)),oO 49 (.bin .xor (.t 42) (.t 48)),oO 50 (.idxPa 1 16 (.t 3) (.t 27)),oN (.store .sc (.t 50) (.t 49))])))))) (.reg [oO 51 (.bin .add (.t 8) (kI 1)),oM 8 51])))
def HD:aD:=⟨1,53,.seq (.reg [oO 1 (.box .roArr (.t 0)),oO 2 (.allocArr [(.int .u8 0),(.int .u8 0),(.int .u8 0),(.int .u8 0),(.int .u8 0),(.int .u8 0),(.int .u8 0),(.int .u8 0),(.int .u8 0),(.int .u8 0),(.int .u8 0),(.int .u8 0),(.int .u8 0),(.int .u8 0),(.int .u8 0),(.int .u8 0)])]) (.seq (.reg [oO 3 (.allocArr [(.int .u8 0),(.int .u8 0),(.int .u8 0),(.int .u8 0),(.int .u8 0),(.int .u8 0),(.int .u8 0),(.int .u8 0),(.int .u8 0),(.int .u8 0),(.int .u8 0),(.int .u8 0),(.int .u8 0),(.int .u8 0),(.int .u8 0),(.int .u8 0)])]) (.seq (.seq (.reg [oO 8 (.mv (kI 0))]) (.block 0 (.loop wO))) (.seq (.reg [oO 52 (.load (.ag 16) (.t 3)),oN (.store (.ag 16) (.t 2) (.t 52))]) (.ret)))),[(2,(some (.ag 16)))]⟩
theorem Sr:aB Tryz.prog { own:=[],comp:=[],frz:=[],nils:=[] } Tryz.f139=some HD:=by kernel_rfl
theorem UW (G:ah) (s:List UInt8) (hs:s.length=16):au Tryz.prog G 139 [.agg (s.map bD)] (.w (.c (.d (.agg ((rq s).map bD))))):=by
  refine aF Tryz.func139 Sr rfl rfl ?_;simp only[HD,af,ae,aa,seval,iteOmega,toNatUp,eC];refine aV (zn s) (fun i=>16-i) (fun i=>i≤16) 0 (Yt _) ?_ ?_
  ·refine ap (fun i=>if i=1 then 24 else 16) ?_ ?_ rfl rfl <;> simp only[wx,aj,ar,aa,seval,iteOmega,toNatUp,jY]
  ·intro i hi;have hl:(bg (gI (aK s)) (aL 16 (0:UInt8)) i).length=16:=by rw[js _ _ (by rw[aX]; omega),aX]
   by_cases hlt:i<16
   ·have h3:i<(bg (gI (aK s)) (aL 16 (0:UInt8)) i).length:=by omega
    have h5:(bg (gI (aK s)) (aL 16 (0:UInt8)) i).set i (gI (aK s) i)=bg (gI (aK s)) (aL 16 (0:UInt8)) (i+1):=jZ (gI (aK s)) _ (by rw[aX]; omega);have g0:s[i]?=some (aK s i):=cN (by omega);obtain⟨q,r,hr,rfl⟩:∃ q r,r<4∧i=4*q+r:=⟨i / 4,i%4,Zi _ (by decide),by omega⟩
    have hq:q<4:=by omega
    have col:∀ j,j<4→((s.drop (4*q)).take 4)[j]?=some (aK s (4*q+j)):=fun j hj=>by
      rw[YL,if_pos hj,YV]; exact cN (by omega)
    have g1:=col ((r+1)%4) (Zi _ (by decide));have g2:=col ((r+2)%4) (Zi _ (by decide));have g3:=col ((r+3)%4) (Zi _ (by decide));have t0:Int.tmod (4*(q:Int)+(r:Int)) 4=(r:Int):=by
      show Int.tmod ((4*q+r:Nat):Int) ((4:Nat):Int)=_
      rw[i9]; congr 1; omega
    have t1:Int.tmod ((r:Int)+1) 4=(((r+1)%4:Nat):Int):=i9 (r+1) 4;have t2:Int.tmod ((r:Int)+2) 4=(((r+2)%4:Nat):Int):=i9 (r+2) 4;have t3:Int.tmod ((r:Int)+3) 4=(((r+3)%4:Nat):Int):=i9 (r+3) 4;have b1:(r+1)%4<4:=Zi _ (by decide);have b2:(r+2)%4<4:=Zi _ (by decide);have b3:(r+3)%4<4:=Zi _ (by decide);have em:gI (aK s) (4*q+r)=pf (aK s (4*q+r)) (aK s (4*q+(r+1)%4)) (aK s (4*q+(r+2)%4)) (aK s (4*q+(r+3)%4)):=by
      unfold gI;rw[show (4*q+r) / 4=q by omega,show (4*q+r)%4=r by omega]
    rw[em,← UV] at h5;have s1:4*q+r-r=4*q:=by omega
    have s2:4*q+4-4*q=4:=by omega
    have s3:((s.drop (4*q)).take 4).length=4:=by rw[Yu,Yw]; omega
    generalize (r+1)%4=r1 at *
    generalize (r+2)%4=r2 at *
    generalize (r+3)%4=r3 at *
    generalize aK s (4*q+r)=a at *
    generalize aK s (4*q+r1)=b at *
    generalize aK s (4*q+r2)=c at *
    generalize aK s (4*q+r3)=d at *
    have x1:=de a b;have x2:=de (fW (am a b)) b;have x3:=de (am (fW (am a b)) b) c;have x4:=de (am (am (fW (am a b)) b) c) d;simp only[wO,zn,ae,aa,seval,iteOmega,toNatUp,aC,t0,t1,t2,t3,g0,g1,g2,g3,s1,s2,s3,x1];refine sC (Md G (am a b)) ?_;simp only[aC,t0,t1,t2,t3,g0,g1,g2,g3,s1,s2,s3,x2,x3,x4,dX h3 (dP _),fc,h5,hl,ae,aa,seval,iteOmega,toNatUp];refine aQ (4*q+r+1) (by omega) (by omega) (ap (fun i=>i) ?_ ?_ rfl rfl) <;> simp only[wx,aj,ar,aa,seval,iteOmega,toNatUp]
   ·obtain rfl:i=16:=by omega
    have e:bg (gI (aK s)) (aL 16 (0:UInt8)) 16=rq s:=mG _ (aX _ _);have e2:=Fv s;simp only[wO,zn,e,ae,aa,seval,iteOmega,toNatUp,e2,ij,aX];exact aG
def Yi (l:List UInt8) (c:UInt8) (j:Nat):UInt8:=if j=0 then am (dc (l.getD 13 0)) c else if j=1 then dc (l.getD 14 0) else if j=2 then dc (l.getD 15 0) else dc (l.getD 12 0)
def wV (l:List UInt8) (c:UInt8):Nat→Nat→UInt8
  | 0,j=>Yi l c j
  | n+1,j=>if j=n%4 then am (l.getD n 0) (wV l c n (n%4)) else wV l c n j
def hO (l:List UInt8) (c:UInt8) (n:Nat):UInt8:=am (l.getD n 0) (wV l c n (n%4))
def mg (l:List UInt8) (c:UInt8):List UInt8:=bF (hO l c)
theorem sY (l:List UInt8) (c:UInt8):(mg l c).length=16:=fY _
def wL (l:List UInt8) (c:UInt8) (i:Nat):List UInt8:=(List.range 4).map (wV l c i)
theorem oh (l:List UInt8) (c:UInt8) (i:Nat):(wL l c i).length=4:=by simp[wL]
theorem zo (l:List UInt8) (c:UInt8) (i:Nat) {j:Nat} (h:j<4):(wL l c i)[j]?=some (wV l c i j):=by simp[wL,h]
theorem Ss (l:List UInt8) (c:UInt8) (i:Nat):(wL l c i).set (i%4) (hO l c i)=wL l c (i+1):=by
  apply Zz;intro j;by_cases hj:j<4
  ·rw[zo _ _ _ hj,List.getElem?_set];by_cases e:i%4=j
   ·rw[if_pos e,if_pos (by rw[oh]; omega),wV,if_pos e.symm]; rfl
   ·rw[if_neg e,zo _ _ _ hj,wV,if_neg (fun h=>e h.symm)]
  ·rw[Y3 (by rw[Zl,oh]; omega),Y3 (by rw[oh]; omega)]
theorem Su (l:List UInt8) (c:UInt8):[am (dc (l.getD 13 0)) c,dc (l.getD 14 0),dc (l.getD 15 0),dc (l.getD 12 0)]=wL l c 0:=rfl
def z2 (l:List UInt8) (c:UInt8) (i:Nat):St:=⟨aP [(2,.w (.c (.pa 1 1))),(4,.w (.c (.pa 2 1))),(5,.w (.c (.pa 3 1))),(22,.w (.c (.d (.int .i64 (i:Int)))))],hL [(1,.row 1 ((bg (hO l c) l i).map bD)),(2,.row 1 ((aL 16 (0:UInt8)).map bD)),(3,.row 1 ((wL l c i).map bD))],uL [1,2,3]⟩
def xG:aN := .seq (.reg [oO 23 (.bin .lss (.t 22) (kI 16))]) (.seq (.cond (.t 23) (.skip) (.exit 0)) (.seq (.block 1 (.seq (.reg [oM 24 22,oM 6 24]) (.seq (.reg [oM 25 6,oO 26 (.idxPa 1 16 (.t 2) (.t 25)),oO 27 (.load .sc (.t 26)),oM 28 6,oO 29 (.bin .rem (.t 28) (kI 4)),oO 30 (.idxPa 1 4 (.t 5) (.t 29)),oO 31 (.load .sc (.t 30)),oO 32 (.bin .xor (.t 27) (.t 31)),oO 33 (.idxPa 1 16 (.t 2) (.t 25)),oN (.store .sc (.t 33) (.t 32))]) (.reg [oM 34 6,oO 35 (.bin .rem (.t 34) (kI 4)),oM 36 6,oO 37 (.idxPa 1 16 (.t 2) (.t 36)),oO 38 (.load .sc (.t 37)),oO 39 (.idxPa 1 4 (.t 5) (.t 35)),oN (.store .sc (.t 39) (.t 38))])))) (.reg [oO 40 (.bin .add (.t 22) (kI 1)),oM 22 40])))
def Km:aD:=⟨2,42,.seq (.reg [oO 2 (.box .ownArr (.t 0)),oO 4 (.allocArr [(.int .u8 0),(.int .u8 0),(.int .u8 0),(.int .u8 0),(.int .u8 0),(.int .u8 0),(.int .u8 0),(.int .u8 0),(.int .u8 0),(.int .u8 0),(.int .u8 0),(.int .u8 0),(.int .u8 0),(.int .u8 0),(.int .u8 0),(.int .u8 0)])]) (.seq (.reg [oO 7 (.idxPa 1 16 (.t 2) (kI 13)),oO 8 (.load .sc (.t 7)),oO 9 (.call 147 [(.t 8)] none),oM 10 1,oO 11 (.bin .xor (.t 9) (.t 10)),oO 12 (.idxPa 1 16 (.t 2) (kI 14)),oO 13 (.load .sc (.t 12)),oO 14 (.call 147 [(.t 13)] none),oO 15 (.idxPa 1 16 (.t 2) (kI 15)),oO 16 (.load .sc (.t 15)),oO 17 (.call 147 [(.t 16)] none),oO 18 (.idxPa 1 16 (.t 2) (kI 12)),oO 19 (.load .sc (.t 18)),oO 20 (.call 147 [(.t 19)] none),oO 21 (.build [(.d (.int .u8 0)),(.d (.int .u8 0)),(.d (.int .u8 0)),(.d (.int .u8 0))] [(0,1,(.t 11)),(1,1,(.t 14)),(2,1,(.t 17)),(3,1,(.t 20))]),
 oO 5 (.allocArr [(.int .u8 0),(.int .u8 0),(.int .u8 0),(.int .u8 0)]),oN (.store (.ag 4) (.t 5) (.t 21))]) (.seq (.seq (.reg [oO 22 (.mv (kI 0))]) (.block 0 (.loop xG))) (.seq (.reg [oO 41 (.load (.ag 16) (.t 2)),oN (.store (.ag 16) (.t 4) (.t 41))]) (.ret)))),[(4,(some (.ag 16)))]⟩
theorem UX:aB Tryz.prog { own:=[2],comp:=[],frz:=[],nils:=[] } Tryz.f135=some Km:=by kernel_rfl
set_option maxHeartbeats 3200000 in
theorem W9 (G:ah) (l:List UInt8) (c:UInt8) (hl:l.length=16):au Tryz.prog G 135 [.agg (l.map bD),bD c] (.w (.c (.d (.agg ((mg l c).map bD))))):=by
  refine aF Tryz.func135 UX rfl rfl ?_;have a13:l[13]?=some (l.getD 13 0):=cN (by omega);have a14:l[14]?=some (l.getD 14 0):=cN (by omega);have a15:l[15]?=some (l.getD 15 0):=cN (by omega);have a12:l[12]?=some (l.getD 12 0):=cN (by omega);have x0:=de (dc (l.getD 13 0)) c;have w0:=congrArg (List.map bD) (Su l c);have wl:=oh l c 0;simp only[Yp,Yv] at w0;simp only[Km,af,ae,aa,seval,iteOmega,toNatUp,eC,hl,aC,a13];refine sC (qT G (l.getD 13 0)) ?_;simp only[x0,aC,a14,hl,ae,aa,seval,iteOmega,toNatUp];refine sC (qT G (l.getD 14 0)) ?_;simp only[aC,a15,hl,ae,aa,seval,iteOmega,toNatUp];refine sC (qT G (l.getD 15 0)) ?_;simp only[aC,a12,hl,ae,aa,seval,iteOmega,toNatUp];refine sC (qT G (l.getD 12 0)) ?_;simp only[w0,ae,aa,seval,iteOmega,toNatUp];refine aV (z2 l c) (fun i=>16-i) (fun i=>i≤16) 0 (Yt _) ?_ ?_
  ·refine ap (fun i=>if i=1 then 16 else if i=2 then 32 else 40) ?_ ?_ rfl rfl <;> simp only[wx,aj,ar,aa,seval,iteOmega,toNatUp,jY]
  ·intro i hi;have hu:(bg (hO l c) l i).length=16:=by rw[js _ _ (by omega)]; exact hl
   by_cases hlt:i<16
   ·have hm:i%4<4:=Zi _ (by decide);have t1:Int.tmod (i:Int) 4=((i%4:Nat):Int):=i9 i 4;have g1:(bg (hO l c) l i)[i]?=some (l.getD i 0):=by rw[Hz _ _ (Yz i)]; exact cN (by omega)
    have g2:=zo l c i hm;have x1:=de (l.getD i 0) (wV l c i (i%4));have h3:i<(bg (hO l c) l i).length:=by omega
    have h4:i%4<(wL l c i).length:=by rw[oh]; exact hm
    have h5:(bg (hO l c) l i).set i (hO l c i)=bg (hO l c) l (i+1):=jZ (hO l c) l (by omega);have h6:=Ss l c i;have g3:(bg (hO l c) l (i+1))[i]?=some (hO l c i):=QG _ _ (Nat.lt_succ_self i);have hf:am (l.getD i 0) (wV l c i (i%4))=hO l c i:=rfl;have hwl:=oh l c i;have hu2:(bg (hO l c) l (i+1)).length=16:=by rw[js _ _ (by omega)]; exact hl
    generalize hq:i%4=q at *
    simp only[xG,z2,ae,aa,seval,iteOmega,toNatUp,aC,t1,g1,g2,x1,hf,dX h3 (dP _),dX h4 (dP _),fc,h5,h6,g3,hu,hu2,hwl];refine aQ (i+1) (by omega) (by omega) (ap (fun i=>i) ?_ ?_ rfl rfl) <;> simp only[wx,aj,ar,aa,seval,iteOmega,toNatUp]
   ·obtain rfl:i=16:=by omega
    have e:bg (hO l c) l 16=mg l c:=mG _ hl;have e2:=sY l c;simp only[xG,z2,e,ae,aa,seval,iteOmega,toNatUp,e2,ij,aX];exact aG
theorem Pw {P Q:List UInt8} {k n:Nat} (h:P.length=n):(P++Q).getD (n+k) 0=Q.getD k 0:=by
  rw[Ys,Ys,Zc (by omega),h,Ze]
theorem QJ {P Q:List UInt8} {k n:Nat} (h:P.length=n):(P++Q).drop (n+k)=Q.drop k:=by
  rw[← h,List.drop_append,Y8 (by omega),Zu,Ze]
theorem sk {P Q:List UInt8} {n:Nat} (h:P.length=4*n):iE (P++Q) n=(List.range 4).map fun k=>am (Q.getD k 0) ((i7 (Q.drop 12) n).getD k 0):=by
  unfold iE;refine Zb fun k _=>?_
  rw[Pw h,show 12+4*n=4*n+12 by omega,QJ h]
theorem Xa (b0 b1 b2 b3 b4 b5 b6 b7 b8 b9 b10 b11 b12 b13 b14 b15 c:UInt8):∃ f0 f1 f2 f3,
    f0=am b0 (am (dc b13) c)∧f1=am b1 (dc b14)∧f2=am b2 (dc b15)∧f3=am b3 (dc b12) ∧
    mg [b0,b1,b2,b3,b4,b5,b6,b7,b8,b9,b10,b11,b12,b13,b14,b15] c =
      [f0,f1,f2,f3,am b4 f0,am b5 f1,am b6 f2,am b7 f3,am b8 (am b4 f0),am b9 (am b5 f1),am b10 (am b6 f2),am b11 (am b7 f3),
       am b12 (am b8 (am b4 f0)),am b13 (am b9 (am b5 f1)),am b14 (am b10 (am b6 f2)),am b15 (am b11 (am b7 f3))] :=
  ⟨_,_,_,_,rfl,rfl,rfl,rfl,rfl⟩
theorem sZ (f:Nat→UInt8):(List.range 4).map f=[f 0,f 1,f 2,f 3]:=rfl
theorem QK {P:List UInt8} {r:Nat} (hP:P.length=16*r) (b0 b1 b2 b3 b4 b5 b6 b7 b8 b9 b10 b11 b12 b13 b14 b15:UInt8) (key:List UInt8)
    (h:bn key (4*r)=P++[b0,b1,b2,b3,b4,b5,b6,b7,b8,b9,b10,b11,b12,b13,b14,b15]) :
    bn key (4*(r+1))=bn key (4*r)++mg [b0,b1,b2,b3,b4,b5,b6,b7,b8,b9,b10,b11,b12,b13,b14,b15] (fi r):=by
  obtain⟨f0,f1,f2,f3,e0,e1,e2,e3,ef⟩:=Xa b0 b1 b2 b3 b4 b5 b6 b7 b8 b9 b10 b11 b12 b13 b14 b15 (fi r);have m0:4*r%4=0:=by omega
  have m1:(4*r+1)%4≠0:=by omega
  have m2:(4*r+2)%4≠0:=by omega
  have m3:(4*r+3)%4≠0:=by omega
  have d0:4*r / 4=r:=by omega
  have n0:iE (bn key (4*r)) (4*r)=[f0,f1,f2,f3]:=by
    rw[h,sk (by omega),sZ];unfold i7;rw[if_pos m0,d0,e0,e1,e2,e3]; rfl
  have s1:bn key (4*r+1)=(P++[b0,b1,b2,b3])++[b4,b5,b6,b7,b8,b9,b10,b11,b12,b13,b14,b15,f0,f1,f2,f3]:=by
    rw[bn,n0,h]; simp
  have n1:iE (bn key (4*r+1)) (4*r+1)=[am b4 f0,am b5 f1,am b6 f2,am b7 f3]:=by
    rw[s1,sk (by simp; omega),sZ];unfold i7;rw[if_neg m1]; rfl
  have s2:bn key (4*r+2)=(P++[b0,b1,b2,b3,b4,b5,b6,b7])++[b8,b9,b10,b11,b12,b13,b14,b15,f0,f1,f2,f3,am b4 f0,am b5 f1,am b6 f2,am b7 f3]:=by
    rw[show 4*r+2=(4*r+1)+1 from rfl,bn,n1,s1]; simp
  have n2:iE (bn key (4*r+2)) (4*r+2)=[am b8 (am b4 f0),am b9 (am b5 f1),am b10 (am b6 f2),am b11 (am b7 f3)]:=by
    rw[s2,sk (by simp; omega),sZ];unfold i7;rw[if_neg m2]; rfl
  have s3:bn key (4*r+3)=(P++[b0,b1,b2,b3,b4,b5,b6,b7,b8,b9,b10,b11])++[b12,b13,b14,b15,f0,f1,f2,f3,am b4 f0,am b5 f1,am b6 f2,am b7 f3,am b8 (am b4 f0),am b9 (am b5 f1),am b10 (am b6 f2),am b11 (am b7 f3)]:=by
    rw[show 4*r+3=(4*r+2)+1 from rfl,bn,n2,s2]; simp
  have n3:iE (bn key (4*r+3)) (4*r+3)=[am b12 (am b8 (am b4 f0)),am b13 (am b9 (am b5 f1)),am b14 (am b10 (am b6 f2)),am b15 (am b11 (am b7 f3))]:=by
    rw[s3,sk (by simp; omega),sZ];unfold i7;rw[if_neg m3]; rfl
  rw[show 4*(r+1)=(4*r+3)+1 by omega,bn,n3,s3,ef,h];simp
def kb (key:List UInt8) (r:Nat):List UInt8:=(bn key (4*r)).drop (16*r)
theorem zp {key:List UInt8} (h:key.length=16) (r:Nat):(kb key r).length=16:=by
  unfold kb; rw[Yw,jr h]; omega
theorem UY {l:List UInt8} (h:l.length=16):∃ b0 b1 b2 b3 b4 b5 b6 b7 b8 b9 b10 b11 b12 b13 b14 b15,l=[b0,b1,b2,b3,b4,b5,b6,b7,b8,b9,b10,b11,b12,b13,b14,b15]:=by
  rcases l with _ | ⟨b0,l⟩ <;> simp at h
  rcases l with _ | ⟨b1,l⟩ <;> simp at h
  rcases l with _ | ⟨b2,l⟩ <;> simp at h
  rcases l with _ | ⟨b3,l⟩ <;> simp at h
  rcases l with _ | ⟨b4,l⟩ <;> simp at h
  rcases l with _ | ⟨b5,l⟩ <;> simp at h
  rcases l with _ | ⟨b6,l⟩ <;> simp at h
  rcases l with _ | ⟨b7,l⟩ <;> simp at h
  rcases l with _ | ⟨b8,l⟩ <;> simp at h
  rcases l with _ | ⟨b9,l⟩ <;> simp at h
  rcases l with _ | ⟨b10,l⟩ <;> simp at h
  rcases l with _ | ⟨b11,l⟩ <;> simp at h
  rcases l with _ | ⟨b12,l⟩ <;> simp at h
  rcases l with _ | ⟨b13,l⟩ <;> simp at h
  rcases l with _ | ⟨b14,l⟩ <;> simp at h
  rcases l with _ | ⟨b15,l⟩ <;> simp at h
  subst h;exact⟨_,_,_,_,_,_,_,_,_,_,_,_,_,_,_,_,rfl⟩
theorem Sv {key:List UInt8} (h:key.length=16) (r:Nat):bn key (4*(r+1))=bn key (4*r)++mg (kb key r) (fi r):=by
  obtain⟨b0,b1,b2,b3,b4,b5,b6,b7,b8,b9,b10,b11,b12,b13,b14,b15,e⟩:=UY (zp h r);rw[e];refine QK (P:=(bn key (4*r)).take (16*r)) ?_ _ _ _ _ _ _ _ _ _ _ _ _ _ _ _ _ key ?_
  ·rw[Yu,jr h]; omega
  ·rw[← e]; exact (Y7 _ _).symm
def gz (key:List UInt8) (i:Nat):List UInt8:=bn key (4*i)++aL (160-16*i) 0
theorem Sw {key:List UInt8} (h:key.length=16) {i:Nat} (hi:i≤10):(gz key i).length=176:=by
  unfold gz; rw[Yr,jr h,aX]; omega
theorem QL {key:List UInt8} (h:key.length=16):cJ (aL 176 (0:UInt8)) 0 key=gz key 0:=by
  unfold cJ gz aL;rw[Zs,Zu,List.drop_replicate,h]; rfl
theorem QM {key:List UInt8} (h:key.length=16) {i:Nat} (hi:i≤10):((gz key i).drop (i*16)).take 16=kb key i:=by
  unfold gz;rw[Nat.mul_comm,List.drop_append_of_le_length (by rw[jr h]; omega)];exact List.take_left' (zp h i)
theorem QN {key:List UInt8} (h:key.length=16) {i:Nat} (hi:i<10):cJ (gz key i) ((i+1)*16) (mg (kb key i) (fi i))=gz key (i+1):=by
  have hl:(bn key (4*i)).length=(i+1)*16:=by rw[jr h]; omega
  unfold cJ gz;rw[Sv h,List.take_append_of_le_length (by omega),Yo (by omega),sY,List.drop_append,Y8 (by omega),Zu,hl]
  congr 1
  unfold aL;rw[List.drop_replicate]
  congr 1
  omega
theorem QO (key:List UInt8):gz key 10=ak key:=by
  unfold gz aL ak; rw[show 160-16*10=0 from rfl,ZD,Yy]
set_option maxHeartbeats 3200000
def zq (key:List UInt8) (i:Nat):St:=⟨aP [(2,.w (.c (.ptr 2 1 0 0))),(3,.w (.c (.ptr 1 1 0 0))),(4,.w (.c (.d (bD (fi i))))),(5,.w (.c (.d (.int .i64 ((i+1:Nat):Int)))))],hL [(1,.box ((gz key i).map bC)),(2,.box ((aL 176 (0:UInt8)).map bC))],uL [1,2]⟩
theorem Nf:fi 0=1:=rfl
def wP:aN := .seq (.seq (.reg [oM 10 5,oO 11 (.bin .leq (.t 10) (kI 10))]) (.cond (.t 11) (.skip) (.exit 0))) (.seq (.block 1 (.seq (.reg [oM 14 5,oM 15 5,oO 16 (.bin .sub (.t 15) (kI 1)),oO 17 (.idxPa 16 11 (.t 3) (.t 16)),oO 18 (.load (.ag 16) (.t 17)),oM 19 4,oO 20 (.call 135 [(.t 18),(.t 19)] none),oO 21 (.idxPa 16 11 (.t 3) (.t 14)),oN (.store (.ag 16) (.t 21) (.t 20))]) (.reg [oM 22 4,oO 23 (.call 136 [(.t 22)] none),oM 4 23]))) (.reg [oM 12 5,oO 13 (.bin .add (.t 12) (kI 1)),oM 5 13]))
def HE:aD:=⟨1,25,.seq (.reg [oO 2 (.alloc (aL 176 (.d (.int .u8 0))))]) (.seq (.reg [oO 3 (.alloc (aL 176 (.d (.int .u8 0))))]) (.seq (.reg [oO 6 (.idxPa 16 11 (.t 3) (kI 0)),oO 7 (.sliceArr 1 16 (.t 6) none none),oM 8 0,oO 9 (.copy 1 (.t 7) (.t 8))]) (.seq (.reg [oO 4 (.mv (.k (.c (.d (.int .u8 1)))))]) (.seq (.seq (.reg [oO 5 (.mv (kI 1))]) (.block 0 (.loop wP))) (.seq (.reg [oO 24 (.load (.ag 176) (.t 3)),oN (.store (.ag 176) (.t 2) (.t 24))]) (.ret)))))),[(2,(some (.ag 176)))]⟩
theorem Sx:aB Tryz.prog { own:=[],comp:=[],frz:=[],nils:=[] } Tryz.f122=some HE:=by kernel_rfl
theorem Kn (G:ah) (key:List UInt8) (h:key.length=16):au Tryz.prog G 122 [.sl (key.map bD)] (.w (.c (.d (.agg ((ak key).map bD))))):=by
  refine aF Tryz.func122 Sx rfl rfl ?_;have ht:key.take 16=key:=Yo (by omega);have h0:key++List.drop key.length (aL 176 (0:UInt8))=gz key 0:=by rw[← QL h]; simp[cJ]
  have hid:=bT (gz key 0);have hid2:=bT (aL 176 (0:UInt8));simp only[HE,af,ae,aa,seval,iteOmega,toNatUp,qi,cq,aX,bo,ht,ij,i6,Qo,h0];refine aV (zq key) (fun i=>10-i) (fun i=>i≤10) 0 (Yt _) ?_ ?_
  ·refine ap (fun i=>if i=1 then 24 else 16) ?_ ?_ rfl (by simp[V.ids,W.ids,C.ids,Ob.ids,bT]) <;> simp only[wx,aj,ar,aa,seval,iteOmega,toNatUp,Nf,Bf,eR,bT]
  ·intro i hi;have hl:=Sw h hi;by_cases hlt:i<10
   ·have g1:=QM h hi;have h5:List.take ((i+1)*16) (gz key i)++mg (kb key i) (fi i)++List.drop ((i+1)*16+16) (gz key i)=gz key (i+1):=by
      rw[← QN h hlt]; unfold cJ; rw[sY]
    have hf:=sY (kb key i) (fi i);have hx:fW (fi i)=fi (i+1):=rfl;have s1:((i:Int)+1-1).toNat=i:=by omega
    simp only[wP,zq,ae,aa,seval,iteOmega,toNatUp,cq,hl,bo,ek,g1,gV];refine sC (W9 G (kb key i) (fi i) (zp h i)) ?_;simp only[cq,hl,i6,hf,bo,ek,gD,h5,ae,aa,seval,iteOmega,toNatUp];refine sC (Md G (fi i)) ?_;simp only[hx,ae,aa,seval,iteOmega,toNatUp];refine aQ (i+1) (by omega) (by omega) (ap (fun i=>i) ?_ ?_ rfl (by simp[V.ids,W.ids,C.ids,Ob.ids,bT])) <;> simp only[wx,aj,ar,aa,seval,iteOmega,toNatUp,eR,bT]
   ·obtain rfl:i=10:=by omega
    have e:=QO key;have e2:=qk h;rw[e] at hl;have t1:(ak key).take 176=ak key:=Yo (by omega);have t2:List.drop 176 (aL 176 (0:UInt8))=[]:=Y8 (by rw[aX]; omega);have t3:ak key++List.drop (ak key).length (aL 176 (0:UInt8))=ak key:=by rw[e2,t2,Yy]
    simp only[wP,zq,e,ae,aa,seval,iteOmega,toNatUp,cq,hl,e2,t1,t2,t3,gV,i6,aX,bo,ek,gD,Yy];exact oc (by simp only[ae,aa,seval,iteOmega,toNatUp,cq,hl,e2,t1,t2,t3,gV,i6,aX,bo,ek,gD,Yy])
theorem xH (l:List UInt8):dF ((l.map bD).map C.d)=some (l.map bD):=by
  induction l with
  | nil=>rfl
  | cons x l ih =>
    show dF (C.d (bD x)::(l.map bD).map C.d)=_
    simp only[dF,ih,Yp,ZF]
theorem QP (rk b:List UInt8) (hb:b.length=16):m7 b (bF (cr rk 0))=bF (fL (cr rk) (aK b) 0):=by
  have:=xE (aK b) (cr rk 0);rw[UO hb] at this;exact this
theorem Sy (rk b:List UInt8) {n:Nat} (h:n+1<10):m7 (rq (g9 (bF (fL (cr rk) (aK b) n)))) (bF (cr rk (n+1)))=bF (fL (cr rk) (aK b) (n+1)):=by
  rw[Fw,QI,xE]
  show _=bF (kU _ _ _)
  unfold kU;rw[if_pos h]
theorem QQ (rk b:List UInt8):m7 (g9 (bF (fL (cr rk) (aK b) 9))) (bF (cr rk 10))=cW rk b:=by
  rw[Fw,xE];rfl
def z7 (rk b:List UInt8) (i:Nat):St:=⟨aP [(2,.w (.c (.rp (rk.map bD)))),(4,.w (.c (.pa 2 1))),(5,.w (.c (.pa 1 1))),(6,.w (.c (.d (.int .i64 ((i+1:Nat):Int)))))],hL [(1,.row 1 ((bF (fL (cr rk) (aK b) i)).map bD)),(2,.row 1 ((aL 16 (0:UInt8)).map bD))],uL [1,2]⟩
def wQ:aN := .seq (.seq (.reg [oM 14 6,oO 15 (.bin .lss (.t 14) (kI 10))]) (.cond (.t 15) (.skip) (.exit 0))) (.seq (.block 1 (.reg [oO 18 (.load (.ag 16) (.t 5)),oO 19 (.call 140 [(.t 18)] none),oO 20 (.call 139 [(.t 19)] none),oM 21 6,oO 22 (.idxPa 16 11 (.t 2) (.t 21)),oO 23 (.load (.ag 16) (.t 22)),oO 24 (.call 138 [(.t 20),(.t 23)] none),oN (.store (.ag 16) (.t 5) (.t 24))])) (.reg [oM 16 6,oO 17 (.bin .add (.t 16) (kI 1)),oM 6 17]))
def HF:aD:=⟨2,30,.seq (.reg [oO 2 (.box .roBox (.t 0)),oO 4 (.allocArr [(.int .u8 0),(.int .u8 0),(.int .u8 0),(.int .u8 0),(.int .u8 0),(.int .u8 0),(.int .u8 0),(.int .u8 0),(.int .u8 0),(.int .u8 0),(.int .u8 0),(.int .u8 0),(.int .u8 0),(.int .u8 0),(.int .u8 0),(.int .u8 0)])]) (.seq (.reg [oO 5 (.allocArr [(.int .u8 0),(.int .u8 0),(.int .u8 0),(.int .u8 0),(.int .u8 0),(.int .u8 0),(.int .u8 0),(.int .u8 0),(.int .u8 0),(.int .u8 0),(.int .u8 0),(.int .u8 0),(.int .u8 0),(.int .u8 0),(.int .u8 0),(.int .u8 0)])]) (.seq (.reg [oO 7 (.sliceArr 1 16 (.t 5) none none),oM 8 1,oO 9 (.copy 1 (.t 7) (.t 8))]) (.seq (.reg [oO 10 (.load (.ag 16) (.t 5)),oO 11 (.idxPa 16 11 (.t 2) (kI 0)),oO 12 (.load (.ag 16) (.t 11)),oO 13 (.call 138 [(.t 10),(.t 12)] none),oN (.store (.ag 16) (.t 5) (.t 13))])
 (.seq (.seq (.reg [oO 6 (.mv (kI 1))]) (.block 0 (.loop wQ))) (.seq (.reg [oO 25 (.load (.ag 16) (.t 5)),oO 26 (.call 140 [(.t 25)] none),oO 27 (.idxPa 16 11 (.t 2) (kI 10)),oO 28 (.load (.ag 16) (.t 27)),oO 29 (.call 138 [(.t 26),(.t 28)] none),oN (.store (.ag 16) (.t 4) (.t 29))]) (.ret)))))),[(4,(some (.ag 16)))]⟩
theorem Sz:aB Tryz.prog { own:=[],comp:=[],frz:=[],nils:=[] } Tryz.f124=some HF:=by kernel_rfl
theorem Ko (G:ah) (rk b:List UInt8) (hk:rk.length=176) (hb:b.length=16):au Tryz.prog G 124 [.agg (rk.map bD),.sl (b.map bD)] (.w (.c (.d (.agg ((cW rk b).map bD))))):=by
  refine aF Tryz.func124 Sz rfl rfl ?_;have ht:b.take 16=b:=Yo (by omega);have key:∀ r,r≤10→(rk.drop (16*r)).take 16=bF (cr rk r):=fun r hr=>by
    apply Zz;intro j;by_cases hj:j<16
    ·rw[qm _ hj,YL,if_pos hj,YV]; exact cN (by omega)
    ·rw[Y3 (by rw[Yu]; omega),Y3 (by rw[fY]; omega)]
  have d1:b++List.drop b.length (aL 16 (0:UInt8))=b:=by rw[hb,Y8 (by rw[aX]; omega),Yy]
  have d2:List.drop 16 (aL 16 (0:UInt8))=[]:=Y8 (by rw[aX]; omega);have k0:=key 0 (by decide);have l0:(bF (cr rk 0)).length=16:=fY _;have t0:(bF (cr rk 0)).take 16=bF (cr rk 0):=Yo (by rw[fY]; omega);have a0:=QP rk b hb;have la:=fY (fL (cr rk) (aK b) 0);simp only[Z2,ZP] at k0;simp only[HF,af,ae,aa,seval,iteOmega,toNatUp,eC,xH,aX,bo,ht,ek,gD,d1,d2,k0,ij,hb,l0,t0,Yy,ZK];refine sC (z0 G b (bF (cr rk 0)) hb l0) ?_;simp only[a0,la,aX,ae,aa,seval,iteOmega,toNatUp];refine aV (z7 rk b) (fun i=>9-i) (fun i=>i≤9) 0 (Yt _) ?_ ?_
  ·refine ap (fun i=>if i=1 then 40 else 32) ?_ ?_ rfl rfl <;> simp only[wx,aj,ar,aa,seval,iteOmega,toNatUp]
  ·intro i hi;have le:=fY (fL (cr rk) (aK b) i);have hr:i+1≤10:=by omega
   have k1:=key (i+1) hr;rw[Nat.mul_comm] at k1;have l1:(bF (cr rk (i+1))).length=16:=fY _;have t1:(bF (cr rk (i+1))).take 16=bF (cr rk (i+1)):=Yo (by rw[fY]; omega);by_cases hlt:i<9
   ·have h5:=Sy rk b (n:=i) (by omega);have le2:=fY (fL (cr rk) (aK b) (i+1));simp only[wQ,z7,ae,aa,seval,iteOmega,toNatUp,le,ij];refine sD (Kl G (bF (fL (cr rk) (aK b) i)) le) ?_;refine sC (UW G _ (sX _)) ?_;simp only[bo,ek,k1,l1,t1,ae,aa,seval,iteOmega,toNatUp];refine sC (z0 G _ _ (Fv _) l1) ?_;simp only[h5,le2,le,ae,aa,seval,iteOmega,toNatUp];refine aQ (i+1) (by omega) (by omega) (ap (fun i=>i) ?_ ?_ rfl rfl) <;> simp only[wx,aj,ar,aa,seval,iteOmega,toNatUp]
   ·obtain rfl:i=9:=by omega
    have h5:=QQ rk b;have le2:=ii rk b;simp only[wQ,z7,ae,aa,seval,iteOmega,toNatUp,le,ij];refine sC (Kl G (bF (fL (cr rk) (aK b) 9)) le) ?_;simp only[bo,ek,k1,l1,t1,ae,aa,seval,iteOmega,toNatUp];refine sC (z0 G _ _ (sX _) l1) ?_;simp only[h5,le2,aX,ae,aa,seval,iteOmega,toNatUp];exact oc (by simp only[ae,aa,seval,iteOmega,toNatUp,le2,ij])
def mB (a b c:List UInt8):List UInt8:=a++b++c
theorem tB {a b c:List UInt8} (ha:a.length=176) (_:b.length=256) {j:Nat} (h:j<176):(mB a b c)[j]?=a[j]?:=by
  unfold mB; rw[YY,Y6 (by omega)]
theorem HG {a b c:List UInt8} (ha:a.length=176) (hb:b.length=256) {j:Nat} (h:j<256):(mB a b c)[176+j]?=b[j]?:=by
  unfold mB; rw[YY,Zc (by omega),ha,Ze,Y6 (by omega)]
theorem SA {a b c:List UInt8} (ha:a.length=176) (hb:b.length=256) (j:Nat):(mB a b c)[432+j]?=c[j]?:=by
  unfold mB; rw[Zc (by rw[Yr]; omega),Yr,ha,hb,Ze]
theorem HH {a b c:List UInt8} (ha:a.length=176) (_:b.length=256) {j:Nat} (h:j<176) (x:UInt8):(mB a b c).set j x=mB (a.set j x) b c:=by
  unfold mB; rw[YY,YY,List.set_append_left _ _ (by omega)]
theorem SB {a b c:List UInt8} (ha:a.length=176) (hb:b.length=256) (j:Nat) (x:UInt8):(mB a b c).set (432+j) x=mB a b (c.set j x):=by
  unfold mB; rw[ZR _ _ (by rw[Yr]; omega),Yr,ha,hb,Ze]
theorem zr {a b c:List UInt8} (ha:a.length=176) (hb:b.length=256) (hc:c.length=256):(mB a b c).length=688:=by unfold mB; rw[Yr,Yr,ha,hb,hc]
def Bg (i:Nat):UInt8:=gy (UInt8.ofNat i)
def pu:List UInt8:=(List.range 256).map Bg
theorem HI:pu.length=256:=by unfold pu; rw[YI,ZB]
theorem SC (x:UInt8):pu[x.toNat]?=some (gy x):=by
  have h:=fb x;unfold pu;rw[Zn,List.getElem?_range h]
  show some (gy (UInt8.ofNat x.toNat))=_
  rw[UInt8.ofNat_toNat]
def cO (key:List UInt8):List UInt8:=mB (ak key) jK pu
theorem SD {i:Nat} (h:i<256):bD (UInt8.ofNat i)=.int .u8 (i:Int):=by
  unfold bD; rw[UInt8.toNat_ofNat_of_lt' (by simpa [UInt8.size] using h)]
def kq (i:Nat):List UInt8:=mB (aL 176 0) jK (bg Bg (aL 256 0) i)
theorem Dj {i:Nat} (h:i≤256):(kq i).length=688:=zr (aX _ _) ig (by rw[js _ _ (by rw[aX]; omega),aX])
def ix (key:List UInt8) (n k:Nat):List UInt8:=bn key n++(iE (bn key n) n).take k++aL (160-4*n-k) 0
def dk (key:List UInt8) (n k:Nat):List UInt8:=mB (ix key n k) jK pu
theorem mH {key:List UInt8} (h:key.length=16) {n k:Nat} (hk:k≤4) (hn:4*n+k≤160):(ix key n k).length=176:=by
  unfold ix; rw[Yr,Yr,jr h,Yu,sg,aX]; omega
theorem yr {key:List UInt8} (h:key.length=16) {n k j:Nat} (hj:j<16+4*n):(ix key n k)[j]?=some ((bn key n).getD j 0):=by
  unfold ix;rw[YY,Y6 (by rw[jr h]; exact hj)];exact cN (by rw[jr h]; exact hj)
theorem Px (l:List UInt8) (n:Nat) {k:Nat} (hk:k<4):(iE l n)[k]?=some (am (l.getD (4*n+k) 0) ((i7 (l.drop (12+4*n)) n).getD k 0)):=by
  unfold iE; rw[Zn,List.getElem?_range hk]; rfl
theorem Fx {key:List UInt8} (h:key.length=16) {n k:Nat} (hk:k<4) (hn:4*n+k<160) :
    (ix key n k).set (16+4*n+k) (am ((bn key n).getD (4*n+k) 0) ((i7 ((bn key n).drop (12+4*n)) n).getD k 0))=ix key n (k+1):=by
  have hl:(bn key n++(iE (bn key n) n).take k).length=16+4*n+k:=by rw[Yr,jr h,Yu,sg]; omega
  unfold ix;rw[ZR _ _ (by omega),hl,Nat.sub_self];obtain⟨m,hm⟩:∃ m,160-4*n-k=m+1:=⟨160-4*n-k-1,by omega⟩
  rw[show 160-4*n-(k+1)=m by omega,hm];unfold aL;rw[List.replicate_succ,List.set_cons_zero,Zq,Px _ _ hk];simp
theorem Fy (key:List UInt8) (n:Nat):ix key n 4=ix key (n+1) 0:=by
  unfold ix;rw[Zs,Yy,bn,Yo (by rw[sg]; omega),show 160-4*n-4=160-4*(n+1)-0 by omega]
theorem QR (key:List UInt8):ix key 40 0=ak key:=by
  unfold ix aL ak; rw[show 160-4*40-0=0 from rfl,ZD,Yy,Zs,Yy]
theorem sq {key:List UInt8} (h:key.length=16) {n k:Nat} (hk:k≤4) (hn:4*n+k≤160):(dk key n k).length=688:=zr (mH h hk hn) ig HI
theorem Bh {l:List UInt8} {j:Nat} (x:UInt8) (h:j<l.length):List.take j l++[x]++List.drop (j+1) l=l.set j x:=by
  rw[List.set_eq_take_append_cons_drop,if_pos h,YY]; rfl
theorem rr (x:UInt8):bC x=C.d (bD x):=rfl
theorem AR (a b:List UInt8) (x:UInt8):a.map bC++[C.d (bD x)]++b.map bC=(a++[x]++b).map bC:=by rw[YD,YD]; rfl
def uP (key:List UInt8) (n:Nat):St:=⟨aP [(2,.w (.c (.ptr 2 1 0 0))),(3,.w (.c (.ptr 1 1 0 0))),(5,.w (.c (.d (bD (fi ((n+3) / 4)))))),(6,.w (.c (.d (.int .i64 ((16+4*n:Nat):Int)))))],hL [(1,.box ((dk key n 0).map bC)),(2,.box ((aL 688 (0:UInt8)).map bC))],uL [1,2]⟩
def hU (key:List UInt8) (n:Nat):List UInt8:=i7 ((bn key n).drop (12+4*n)) n
theorem xI (key:List UInt8) (n:Nat):(hU key n).length=4:=by unfold hU i7; split <;> rfl
def oH (key:List UInt8) (n k:Nat):St:=⟨aP [(2,.w (.c (.ptr 2 1 0 0))),(3,.w (.c (.ptr 1 1 0 0))),(5,.w (.c (.d (bD (fi ((n+4) / 4)))))),(6,.w (.c (.d (.int .i64 ((16+4*n:Nat):Int))))),(7,.w (.c (.pa 3 1))),(8,.w (.c (.d (.int .i64 (k:Int)))))],hL [(1,.box ((dk key n k).map bC)),(2,.box ((aL 688 (0:UInt8)).map bC)),(3,.row 1 ((hU key n).map bD))],uL [1,2,3]⟩
def z8 (key:List UInt8) (i:Nat):St:=⟨aP [(0,.w (.c (.d (.sl (key.map bD))))),(2,.w (.c (.ptr 2 1 0 0))),(3,.w (.c (.ptr 1 1 0 0))),(4,.w (.c (.d (.int .i64 (i:Int)))))],hL [(1,.box ((kq i).map bC)),(2,.box ((aL 688 (0:UInt8)).map bC))],uL [1,2]⟩
def wR:aN := .seq (.seq (.reg [oM 11 4,oO 12 (.bin .lss (.t 11) (kI 256))]) (.cond (.t 12) (.skip) (.exit 0))) (.seq (.block 1 (.reg [oM 15 4,oM 16 4,oO 17 (.conv .u8 (.t 16)),oO 18 (.call 130 [(.t 17),(.k (.c (.d (.int .u8 2))))] none),oO 19 (.fieldAddr 432 (.t 3)),oO 20 (.idxPa 1 256 (.t 19) (.t 15)),oN (.store .sc (.t 20) (.t 18))])) (.reg [oM 13 4,oO 14 (.bin .add (.t 13) (kI 1)),oM 4 14]))
def pN:aN := .seq (.seq (.reg [oM 78 8,oO 79 (.bin .lss (.t 78) (kI 4))]) (.cond (.t 79) (.skip) (.exit 4))) (.seq (.block 5 (.reg [oM 82 6,oM 83 8,oO 84 (.bin .add (.t 82) (.t 83)),oM 85 6,oO 86 (.bin .sub (.t 85) (kI 16)),oM 87 8,oO 88 (.bin .add (.t 86) (.t 87)),oO 89 (.fieldAddr 0 (.t 3)),oO 90 (.idxPa 1 176 (.t 89) (.t 88)),oO 91 (.load .sc (.t 90)),oM 92 8,oO 93 (.idxPa 1 4 (.t 7) (.t 92)),oO 94 (.load .sc (.t 93)),oO 95 (.bin .xor (.t 91) (.t 94)),oO 96 (.fieldAddr 0 (.t 3)),oO 97 (.idxPa 1 176 (.t 96) (.t 84)),oN (.store .sc (.t 97) (.t 95))])) (.reg [oM 80 8,oO 81 (.bin .add (.t 80) (kI 1)),oM 8 81]))
def sr:aN := .seq (.seq (.reg [oM 25 6,oO 26 (.bin .lss (.t 25) (kI 176))]) (.cond (.t 26) (.skip) (.exit 2))) (.seq (.block 3 (.seq (.reg [oM 29 6,oO 30 (.bin .sub (.t 29) (kI 4)),oO 31 (.fieldAddr 0 (.t 3)),oO 32 (.idxPa 1 176 (.t 31) (.t 30)),oO 33 (.load .sc (.t 32)),oM 34 6,oO 35 (.bin .sub (.t 34) (kI 3)),oO 36 (.fieldAddr 0 (.t 3)),oO 37 (.idxPa 1 176 (.t 36) (.t 35)),oO 38 (.load .sc (.t 37)),oM 39 6,oO 40 (.bin .sub (.t 39) (kI 2)),oO 41 (.fieldAddr 0 (.t 3)),oO 42 (.idxPa 1 176 (.t 41) (.t 40)),oO 43 (.load .sc (.t 42)),oM 44 6,oO 45 (.bin .sub (.t 44) (kI 1)),oO 46 (.fieldAddr 0 (.t 3)),oO 47 (.idxPa 1 176 (.t 46) (.t 45)),oO 48 (.load .sc (.t 47)),oO 49 (.build [(.d (.int .u8 0)),(.d (.int .u8 0)),(.d (.int .u8 0)),(.d (.int .u8 0))] [(0,1,(.t 33)),(1,1,(.t 38)),(2,1,(.t 43)),(3,1,(.t 48))]),
 oO 7 (.allocArr [(.int .u8 0),(.int .u8 0),(.int .u8 0),(.int .u8 0)]),oN (.store (.ag 4) (.t 7) (.t 49))]) (.seq (.seq (.reg [oM 50 6,oO 51 (.bin .rem (.t 50) (kI 16)),oO 52 (.bin .eql (.t 51) (kI 0))]) (.cond (.t 52) (.seq (.reg [oO 53 (.idxPa 1 4 (.t 7) (kI 1)),oO 54 (.load .sc (.t 53)),oO 55 (.fieldAddr 176 (.t 3)),oO 56 (.idxPa 1 256 (.t 55) (.t 54)),oO 57 (.load .sc (.t 56)),oM 58 5,oO 59 (.bin .xor (.t 57) (.t 58)),oO 60 (.idxPa 1 4 (.t 7) (kI 2)),oO 61 (.load .sc (.t 60)),oO 62 (.fieldAddr 176 (.t 3)),oO 63 (.idxPa 1 256 (.t 62) (.t 61)),oO 64 (.load .sc (.t 63)),oO 65 (.idxPa 1 4 (.t 7) (kI 3)),oO 66 (.load .sc (.t 65)),oO 67 (.fieldAddr 176 (.t 3)),oO 68 (.idxPa 1 256 (.t 67) (.t 66)),oO 69 (.load .sc (.t 68)),oO 70 (.idxPa 1 4 (.t 7) (kI 0)),oO 71 (.load .sc (.t 70)),oO 72 (.fieldAddr 176 (.t 3)),
 oO 73 (.idxPa 1 256 (.t 72) (.t 71)),oO 74 (.load .sc (.t 73)),oO 75 (.build [(.d (.int .u8 0)),(.d (.int .u8 0)),(.d (.int .u8 0)),(.d (.int .u8 0))] [(0,1,(.t 59)),(1,1,(.t 64)),(2,1,(.t 69)),(3,1,(.t 74))]),oN (.store (.ag 4) (.t 7) (.t 75))]) (.reg [oM 76 5,oO 77 (.call 130 [(.t 76),(.k (.c (.d (.int .u8 2))))] none),oM 5 77])) (.skip))) (.seq (.reg [oO 8 (.mv (kI 0))]) (.block 4 (.loop pN)))))) (.reg [oM 27 6,oO 28 (.bin .add (.t 27) (kI 4)),oM 6 28]))
def HJ:aD:=⟨1,99,.seq (.reg [oO 2 (.alloc (aL 688 (.d (.int .u8 0))))]) (.seq (.reg [oO 9 (.call 129 [] none),oO 10 (.build (aL 688 (.d (.int .u8 0))) [(176,256,(.t 9))]),oO 3 (.alloc (aL 688 (.d (.int .u8 0)))),oN (.store (.ag 688) (.t 3) (.t 10))]) (.seq (.seq (.reg [oO 4 (.mv (kI 0))]) (.block 0 (.loop wR))) (.seq (.reg [oO 21 (.fieldAddr 0 (.t 3)),oO 22 (.sliceArr 1 176 (.t 21) none none),oM 23 0,oO 24 (.copy 1 (.t 22) (.t 23))]) (.seq (.reg [oO 5 (.mv (.k (.c (.d (.int .u8 1)))))]) (.seq (.seq (.reg [oO 6 (.mv (kI 16))]) (.block 2 (.loop sr))) (.seq (.reg [oO 98 (.load (.ag 688) (.t 3)),oN (.store (.ag 688) (.t 2) (.t 98))]) (.ret))))))),[(2,(some (.ag 688)))]⟩
theorem SE:aB Tryz.prog { own:=[],comp:=[],frz:=[],nils:=[] } Tryz.f110=some HJ:=by kernel_rfl
set_option maxRecDepth 20000 in
set_option maxHeartbeats 6400000 in
theorem zs (G:ah) (key:List UInt8) (h:key.length=16):au Tryz.prog G 110 [.sl (key.map bD)] (.w (.c (.d (.agg ((cO key).map bD))))):=by
  refine aF Tryz.func110 SE rfl rfl ?_;simp only[HJ,af,ae,aa,seval,iteOmega,toNatUp];have q0:List.take 176 (aL 688 (0:UInt8))++jK++List.drop 432 (aL 688 (0:UInt8))=kq 0:=by
    unfold kq mB; rw[jY]; unfold aL; rw[List.take_replicate,List.drop_replicate]; rfl
  have r1:(List.take 176 (aL 688 (0:UInt8))).length=176:=by rw[Yu,aX]; rfl
  have r2:(List.drop 432 (aL 688 (0:UInt8))).length=256:=by rw[Yw,aX]
  have r4:List.drop 688 (aL 688 (0:UInt8))=[]:=Y8 (by rw[aX]; omega);have q0l:=Dj (Yt 256);refine sC (UT G) ?_;simp only[qi,cq,aX,ig,bo,ek,i6,gD,gV,r1,r2,r4,q0,q0l,Yy,ae,aa,seval,iteOmega,toNatUp];refine aV (z8 key) (fun i=>256-i) (fun i=>i≤256) 0 (Yt _) ?_ ?_
  ·refine ap (fun i=>if i=1 then 24 else 16) ?_ ?_ rfl (by simp[V.ids,W.ids,C.ids,Ob.ids,bT]) <;> simp only[wx,aj,ar,aa,seval,iteOmega,toNatUp,eR,bT]
  ·intro i hi;have hl:=Dj hi;by_cases hlt:i<256
   ·have h1:UInt8.ofNat i*1=UInt8.ofNat i:=by simp
    have hc:=t7 G (UInt8.ofNat i) 2;rw[SD hlt] at hc;have hs:List.take (432+i) (kq i)++[eS (UInt8.ofNat i) 2]++List.drop (432+i+1) (kq i)=kq (i+1):=by
      rw[Bh _ (by omega)];unfold kq;rw[SB (aX _ _) ig]
      congr 1
      exact jZ Bg _ (by rw[aX]; exact hlt)
    simp only[wR,z8,ae,aa,seval,iteOmega,toNatUp];refine sC (hc) ?_;simp only[cq,hl,bo,ek,AR,hs,ae,aa,seval,iteOmega,toNatUp];refine aQ (i+1) (by omega) (by omega) (ap (fun i=>i) ?_ ?_ rfl (by simp[V.ids,W.ids,C.ids,Ob.ids,bT])) <;> simp only[wx,aj,ar,aa,seval,iteOmega,toNatUp,eR,bT]
   ·obtain rfl:i=256:=by omega
    have ht:key.take 176=key:=Yo (by omega);have e0:key++List.drop 16 (kq 256)=dk key 0 0:=by
      unfold kq dk mB ix;rw[sW _ _ (by rw[aX]; omega),YY,List.drop_append_of_le_length (by rw[aX]; decide)];unfold aL;rw[List.drop_replicate,Zs,Yy]
      show key++(_++_)=key++_++_++_
      simp only[YY];rfl
    simp only[wR,z8,ae,aa,seval,iteOmega,toNatUp,cq,hl,h,ht,ij,i6,bo,ek,gD,e0];have hp0:=sq h (n:=0) (k:=0) (by decide) (by decide);refine aV (uP key) (fun n=>40-n) (fun n=>n≤40) 0 (Yt _) ?_ ?_
    ·refine ap (fun i=>i) ?_ ?_ rfl (by simp[V.ids,W.ids,C.ids,Ob.ids,bT]) <;> simp only[wx,aj,ar,aa,seval,iteOmega,toNatUp,eR,bT,Nf,Bf]
    ·intro n hn;have hl2:=sq h (n:=n) (k:=0) (by decide) (by omega);by_cases hlt2:n<40
     ·have old:∀ j,j<16+4*n→(dk key n 0)[j]?=some ((bn key n).getD j 0):=fun j hj=>by
        unfold dk;rw[tB (mH h (by decide) (by omega)) ig (by omega),yr h hj]
      have o0:=old (12+4*n) (by omega);have o1:=old (13+4*n) (by omega);have o2:=old (14+4*n) (by omega);have o3:=old (15+4*n) (by omega);have e0:16+4*n-4=12+4*n:=by omega
      have e1:16+4*n-3=13+4*n:=by omega
      have e2:16+4*n-2=14+4*n:=by omega
      have e3:16+4*n-1=15+4*n:=by omega
      have htl0:=xI key n;have tm:Int.tmod (16+4*(n:Int)) 16=(((16+4*n)%16:Nat):Int):=i9 (16+4*n) 16;by_cases hm:n%4=0
      ·have m16:(16+4*n)%16=0:=by omega
       rw[m16] at tm;have ecn:(n+3) / 4=n / 4:=by omega
       have box:∀ x:UInt8,(dk key n 0)[176+x.toNat]?=some (dc x):=fun x=>by
         unfold dk;rw[HG (mH h (by decide) (by omega)) ig (fb x)]; exact xC x
       have hT:[bD (am (dc ((bn key n).getD (13+4*n) 0)) (fi (n / 4))),bD (dc ((bn key n).getD (14+4*n) 0)),bD (dc ((bn key n).getD (15+4*n) 0)),bD (dc ((bn key n).getD (12+4*n) 0))]=(hU key n).map bD:=by
         unfold hU i7;rw[if_pos hm];have g:∀ j,((bn key n).drop (12+4*n)).getD j 0=(bn key n).getD (12+4*n+j) 0:=fun j=>by simp[Ys]
         simp only[g,Yp,Yv];rw[show 12+4*n+1=13+4*n by omega,show 12+4*n+2=14+4*n by omega,show 12+4*n+3=15+4*n by omega];rfl
       have l0:=fb ((bn key n).getD (12+4*n) 0);have l1:=fb ((bn key n).getD (13+4*n) 0);have l2:=fb ((bn key n).getD (14+4*n) 0);have l3:=fb ((bn key n).getD (15+4*n) 0);have b0:=box ((bn key n).getD (12+4*n) 0);have b1:=box ((bn key n).getD (13+4*n) 0);have b2:=box ((bn key n).getD (14+4*n) 0);have b3:=box ((bn key n).getD (15+4*n) 0);have x0:=de (dc ((bn key n).getD (13+4*n) 0)) (fi (n / 4));have cs:=Pt (n / 4);have ec4:(n+4) / 4=n / 4+1:=by omega
       simp only[sr,uP,ecn,ae,aa,seval,iteOmega,toNatUp,cq,hl2,aC,e0,e1,e2,e3,o0,o1,o2,o3,rr,tm,b0,b1,b2,b3,x0,hT,htl0];refine sC (t7 G (fi (n / 4)) 2) ?_;simp only[cs,ae,aa,seval,iteOmega,toNatUp];refine aV (oH key n) (fun k=>4-k) (fun k=>k≤4) 0 (Yt _) ?_ ?_
       ·refine ap (fun i=>if i=3 then 56 else i) ?_ ?_ rfl (by simp[V.ids,W.ids,C.ids,Ob.ids,bT]) <;> simp only[wx,aj,ar,aa,seval,iteOmega,toNatUp,eR,bT,ec4]
       ·intro k hk;have hl3:=sq h (n:=n) (k:=k) hk (by omega);have htl:=xI key n;by_cases hlt3:k<4
        ·have p1:(dk key n k)[4*n+k]?=some ((bn key n).getD (4*n+k) 0):=by
           unfold dk;rw[tB (mH h hk (by omega)) ig (by omega),yr h (by omega)]
         have p2:(hU key n)[k]?=some ((hU key n).getD k 0):=cN (by omega);have x1:=de ((bn key n).getD (4*n+k) 0) ((hU key n).getD k 0);have e4:16+4*n-16+k=4*n+k:=by omega
         have hs:List.take (16+4*n+k) (dk key n k)++[am ((bn key n).getD (4*n+k) 0) ((hU key n).getD k 0)]++List.drop (16+4*n+k+1) (dk key n k)=dk key n (k+1):=by
           rw[Bh _ (by omega)];unfold dk;rw[HH (mH h hk (by omega)) ig (by omega)]
           congr 1
           exact Fx h hlt3 (by omega)
         simp only[pN,oH,ae,aa,seval,iteOmega,toNatUp,cq,hl3,htl,aC,e4,p1,p2,rr,x1,bo,ek,AR,hs];refine aQ (k+1) (by omega) (by omega) (ap (fun i=>i) ?_ ?_ rfl (by simp[V.ids,W.ids,C.ids,Ob.ids,bT])) <;> simp only[wx,aj,ar,aa,seval,iteOmega,toNatUp,eR,bT]
        ·obtain rfl:k=4:=by omega
         have e5:dk key n 4=dk key (n+1) 0:=by unfold dk; rw[Fy]
         have e6:(n+4) / 4=(n+1+3) / 4:=by omega
         simp only[pN,oH,e5,e6,ae,aa,seval,iteOmega,toNatUp];refine aQ (n+1) (by omega) (by omega) (ap (fun i=>i) ?_ ?_ rfl (by simp[V.ids,W.ids,C.ids,Ob.ids,bT])) <;> simp only[wx,aj,ar,aa,seval,iteOmega,toNatUp,eR,bT]
         all_goals rw[show (16+4*(n:Int)+4)=16+4*((n:Int)+1) by omega]
      ·have m16:(16+4*n)%16≠0:=by omega
       have hb16:(16+4*n)%16<16:=Zi _ (by decide);generalize (16+4*n)%16=z at *
       have hT:[bD ((bn key n).getD (12+4*n) 0),bD ((bn key n).getD (13+4*n) 0),bD ((bn key n).getD (14+4*n) 0),bD ((bn key n).getD (15+4*n) 0)]=(hU key n).map bD:=by
         unfold hU i7;rw[if_neg hm];have g:∀ j,((bn key n).drop (12+4*n)).getD j 0=(bn key n).getD (12+4*n+j) 0:=fun j=>by simp[Ys]
         simp only[g,Yp,Yv];rw[show 12+4*n+1=13+4*n by omega,show 12+4*n+2=14+4*n by omega,show 12+4*n+3=15+4*n by omega];rfl
       have ecn:(n+3) / 4=(n+4) / 4:=by omega
       simp only[sr,uP,ecn,ae,aa,seval,iteOmega,toNatUp,cq,hl2,aC,e0,e1,e2,e3,o0,o1,o2,o3,rr,tm,hT,htl0];refine aV (oH key n) (fun k=>4-k) (fun k=>k≤4) 0 (Yt _) ?_ ?_
       ·refine ap (fun i=>if i=3 then 56 else i) ?_ ?_ rfl (by simp[V.ids,W.ids,C.ids,Ob.ids,bT]) <;> simp only[wx,aj,ar,aa,seval,iteOmega,toNatUp,eR,bT]
       ·intro k hk;have hl3:=sq h (n:=n) (k:=k) hk (by omega);have htl:=xI key n;by_cases hlt3:k<4
        ·have p1:(dk key n k)[4*n+k]?=some ((bn key n).getD (4*n+k) 0):=by
           unfold dk;rw[tB (mH h hk (by omega)) ig (by omega),yr h (by omega)]
         have p2:(hU key n)[k]?=some ((hU key n).getD k 0):=cN (by omega);have x1:=de ((bn key n).getD (4*n+k) 0) ((hU key n).getD k 0);have e4:16+4*n-16+k=4*n+k:=by omega
         have hs:List.take (16+4*n+k) (dk key n k)++[am ((bn key n).getD (4*n+k) 0) ((hU key n).getD k 0)]++List.drop (16+4*n+k+1) (dk key n k)=dk key n (k+1):=by
           rw[Bh _ (by omega)];unfold dk;rw[HH (mH h hk (by omega)) ig (by omega)]
           congr 1
           exact Fx h hlt3 (by omega)
         simp only[pN,oH,ae,aa,seval,iteOmega,toNatUp,cq,hl3,htl,aC,e4,p1,p2,rr,x1,bo,ek,AR,hs];refine aQ (k+1) (by omega) (by omega) (ap (fun i=>i) ?_ ?_ rfl (by simp[V.ids,W.ids,C.ids,Ob.ids,bT])) <;> simp only[wx,aj,ar,aa,seval,iteOmega,toNatUp,eR,bT]
        ·obtain rfl:k=4:=by omega
         have e5:dk key n 4=dk key (n+1) 0:=by unfold dk; rw[Fy]
         have e6:(n+4) / 4=(n+1+3) / 4:=by omega
         simp only[pN,oH,e5,e6,ae,aa,seval,iteOmega,toNatUp];refine aQ (n+1) (by omega) (by omega) (ap (fun i=>i) ?_ ?_ rfl (by simp[V.ids,W.ids,C.ids,Ob.ids,bT])) <;> simp only[wx,aj,ar,aa,seval,iteOmega,toNatUp,eR,bT]
         all_goals rw[show (16+4*(n:Int)+4)=16+4*((n:Int)+1) by omega]
     ·obtain rfl:n=40:=by omega
      have e:dk key 40 0=cO key:=by unfold dk cO; rw[QR]
      rw[e] at hl2;have u1:List.take 688 (cO key)=cO key:=Yo (by omega);have r4:List.drop 688 (aL 688 (0:UInt8))=[]:=Y8 (by rw[aX]; omega);have r5:cO key++List.drop (cO key).length (aL 688 (0:UInt8))=cO key:=by rw[hl2,r4,Yy]
      simp only[sr,uP,e,ae,aa,seval,iteOmega,toNatUp,cq,hl2,u1,r4,r5,gV,i6,aX,bo,ek,gD,Yy];exact oc (by simp only[ae,aa,seval,iteOmega,toNatUp,cq,hl2,u1,r4,r5,gV,i6,aX,bo,ek,gD,Yy])
theorem su {key:List UInt8} (h:key.length=16):(cO key).length=688:=zr (qk h) ig HI
def z9 (key b:List UInt8) (i:Nat):St:=⟨aP [(1,.w (.c (.d (.sl (b.map bD))))),(2,.w (.c (.rp ((cO key).map bD)))),(5,.w (.c (.pa 1 1))),(6,.w (.c (.d (.int .i64 (i:Int)))))],hL [(1,.row 1 ((bg (dS (aK b) (cr (ak key) 0)) (aL 16 (0:UInt8)) i).map bD))],uL [1]⟩
def Aa (key b:List UInt8) (n:Nat):St:=⟨aP [(2,.w (.c (.rp ((cO key).map bD)))),(5,.w (.c (.pa 1 1))),(7,.w (.c (.d (.int .i64 ((n+1:Nat):Int)))))],hL [(1,.row 1 ((bF (fL (cr (ak key)) (aK b) n)).map bD))],uL [1]⟩
def Ab (key s:List UInt8) (n c:Nat):St:=⟨aP [(2,.w (.c (.rp ((cO key).map bD)))),(5,.w (.c (.pa 1 1))),(7,.w (.c (.d (.int .i64 ((n+1:Nat):Int))))),(8,.w (.c (.pa 2 1))),(9,.w (.c (.d (.int .i64 (c:Int)))))],hL [(1,.row 1 (s.map bD)),(2,.row 1 ((bg (bU (aK s)) (aL 16 (0:UInt8)) (4*c)).map bD))],uL [1,2]⟩
def Ac (key s:List UInt8) (n c r:Nat):St:=⟨aP [(2,.w (.c (.rp ((cO key).map bD)))),(5,.w (.c (.pa 1 1))),(7,.w (.c (.d (.int .i64 ((n+1:Nat):Int))))),(8,.w (.c (.pa 2 1))),(9,.w (.c (.d (.int .i64 (c:Int))))),(10,.w (.c (.d (.int .i64 (r:Int)))))],hL [(1,.row 1 (s.map bD)),(2,.row 1 ((bg (bU (aK s)) (aL 16 (0:UInt8)) (4*c+r)).map bD))],uL [1,2]⟩
def je (key s:List UInt8) (n:Nat):dq:=kU (cr (ak key)) (aK s) (n+1)
def Ad (key s:List UInt8) (n c:Nat):St:=⟨aP [(2,.w (.c (.rp ((cO key).map bD)))),(5,.w (.c (.pa 1 1))),(7,.w (.c (.d (.int .i64 ((n+1:Nat):Int))))),(8,.w (.c (.pa 2 1))),(11,.w (.c (.d (.int .i64 (c:Int)))))],hL [(1,.row 1 ((bg (je key s n) s (4*c)).map bD)),(2,.row 1 ((g9 s).map bD))],uL [1,2]⟩
def uQ (key s:List UInt8) (n c r:Nat):St:=⟨aP [(2,.w (.c (.rp ((cO key).map bD)))),(5,.w (.c (.pa 1 1))),(7,.w (.c (.d (.int .i64 ((n+1:Nat):Int))))),(8,.w (.c (.pa 2 1))),(11,.w (.c (.d (.int .i64 (c:Int))))),(12,.w (.c (.pa 3 1))),(13,.w (.c (.d (.int .i64 (r:Int)))))],hL [(1,.row 1 ((bg (je key s n) s (4*c+r)).map bD)),(2,.row 1 ((g9 s).map bD)),(3,.row 1 ((((g9 s).drop (4*c)).take 4).map bD))],uL [1,2,3]⟩
theorem SF (k:Nat→dq) (f:dq) (n:Nat):bF (kU k (aK (bF f)) (n+1))=bF (kU k f (n+1)):=si fun j hj=>by
  unfold kU;split
  ·unfold dS gI bU;rw[iX f _ (by omega),iX f _ (by omega),iX f _ (by omega),iX f _ (by omega)]
  ·unfold dS bU;rw[iX f _ (by omega)]
def wS:aN := .seq (.seq (.reg [oM 15 6,oO 16 (.bin .lss (.t 15) (kI 16))]) (.cond (.t 16) (.skip) (.exit 0))) (.seq (.block 1 (.reg [oM 19 6,oM 20 1,oM 21 6,oO 22 (.idxSl 1 (.t 20) (.t 21)),oO 23 (.load .sc (.t 22)),oM 24 6,oO 25 (.fieldAddr 0 (.t 2)),oO 26 (.idxPa 1 176 (.t 25) (.t 24)),oO 27 (.load .sc (.t 26)),oO 28 (.bin .xor (.t 23) (.t 27)),oO 29 (.idxPa 1 16 (.t 5) (.t 19)),oN (.store .sc (.t 29) (.t 28))])) (.reg [oM 17 6,oO 18 (.bin .add (.t 17) (kI 1)),oM 6 18]))
def wT:aN := .seq (.seq (.reg [oM 38 10,oO 39 (.bin .lss (.t 38) (kI 4))]) (.cond (.t 39) (.skip) (.exit 6))) (.seq (.block 7 (.reg [oM 42 10,oM 43 9,oO 44 (.bin .mul (kI 4) (.t 43)),oO 45 (.bin .add (.t 42) (.t 44)),oM 46 10,oM 47 9,oM 48 10,oO 49 (.bin .add (.t 47) (.t 48)),oO 50 (.bin .rem (.t 49) (kI 4)),oO 51 (.bin .mul (kI 4) (.t 50)),oO 52 (.bin .add (.t 46) (.t 51)),oO 53 (.idxPa 1 16 (.t 5) (.t 52)),oO 54 (.load .sc (.t 53)),oO 55 (.fieldAddr 176 (.t 2)),oO 56 (.idxPa 1 256 (.t 55) (.t 54)),oO 57 (.load .sc (.t 56)),oO 58 (.idxPa 1 16 (.t 8) (.t 45)),oN (.store .sc (.t 58) (.t 57))])) (.reg [oM 40 10,oO 41 (.bin .add (.t 40) (kI 1)),oM 10 41]))
def wU:aN := .seq (.seq (.reg [oM 34 9,oO 35 (.bin .lss (.t 34) (kI 4))]) (.cond (.t 35) (.skip) (.exit 4))) (.seq (.block 5 (.seq (.reg [oO 10 (.mv (kI 0))]) (.block 6 (.loop wT)))) (.reg [oM 36 9,oO 37 (.bin .add (.t 36) (kI 1)),oM 9 37]))
def sw:aN := .seq (.seq (.reg [oM 83 13,oO 84 (.bin .lss (.t 83) (kI 4))]) (.cond (.t 84) (.skip) (.exit 10))) (.seq (.block 11 (.seq (.reg [oM 87 13,oO 88 (.idxPa 1 4 (.t 12) (.t 87)),oO 89 (.load .sc (.t 88)),oM 14 89]) (.seq (.seq (.reg [oM 90 7,oO 91 (.bin .lss (.t 90) (kI 10))]) (.cond (.t 91) (.reg [oM 92 13,oO 93 (.idxPa 1 4 (.t 12) (.t 92)),oO 94 (.load .sc (.t 93)),oO 95 (.fieldAddr 432 (.t 2)),oO 96 (.idxPa 1 256 (.t 95) (.t 94)),oO 97 (.load .sc (.t 96)),oM 98 13,oO 99 (.bin .add (.t 98) (kI 1)),oO 100 (.bin .rem (.t 99) (kI 4)),oO 101 (.idxPa 1 4 (.t 12) (.t 100)),oO 102 (.load .sc (.t 101)),oO 103 (.fieldAddr 432 (.t 2)),oO 104 (.idxPa 1 256 (.t 103) (.t 102)),oO 105 (.load .sc (.t 104)),oO 106 (.bin .xor (.t 97) (.t 105)),oM 107 13,oO 108 (.bin .add (.t 107) (kI 1)),
 oO 109 (.bin .rem (.t 108) (kI 4)),oO 110 (.idxPa 1 4 (.t 12) (.t 109)),oO 111 (.load .sc (.t 110)),oO 112 (.bin .xor (.t 106) (.t 111)),oM 113 13,oO 114 (.bin .add (.t 113) (kI 2)),oO 115 (.bin .rem (.t 114) (kI 4)),oO 116 (.idxPa 1 4 (.t 12) (.t 115)),oO 117 (.load .sc (.t 116)),oO 118 (.bin .xor (.t 112) (.t 117)),oM 119 13,oO 120 (.bin .add (.t 119) (kI 3)),oO 121 (.bin .rem (.t 120) (kI 4)),oO 122 (.idxPa 1 4 (.t 12) (.t 121)),oO 123 (.load .sc (.t 122)),oO 124 (.bin .xor (.t 118) (.t 123)),oM 14 124]) (.skip))) (.reg [oM 125 13,oM 126 11,oO 127 (.bin .mul (kI 4) (.t 126)),oO 128 (.bin .add (.t 125) (.t 127)),oM 129 14,oM 130 7,oO 131 (.bin .mul (kI 16) (.t 130)),oM 132 13,oO 133 (.bin .add (.t 131) (.t 132)),oM 134 11,oO 135 (.bin .mul (kI 4) (.t 134)),oO 136 (.bin .add (.t 133) (.t 135)),
 oO 137 (.fieldAddr 0 (.t 2)),oO 138 (.idxPa 1 176 (.t 137) (.t 136)),oO 139 (.load .sc (.t 138)),oO 140 (.bin .xor (.t 129) (.t 139)),oO 141 (.idxPa 1 16 (.t 5) (.t 128)),oN (.store .sc (.t 141) (.t 140))])))) (.reg [oM 85 13,oO 86 (.bin .add (.t 85) (kI 1)),oM 13 86]))
def wW:aN := .seq (.seq (.reg [oM 59 11,oO 60 (.bin .lss (.t 59) (kI 4))]) (.cond (.t 60) (.skip) (.exit 8))) (.seq (.block 9 (.seq (.reg [oM 63 11,oO 64 (.bin .mul (kI 4) (.t 63)),oO 65 (.idxPa 1 16 (.t 8) (.t 64)),oO 66 (.load .sc (.t 65)),oM 67 11,oO 68 (.bin .mul (kI 4) (.t 67)),oO 69 (.bin .add (.t 68) (kI 1)),oO 70 (.idxPa 1 16 (.t 8) (.t 69)),oO 71 (.load .sc (.t 70)),oM 72 11,oO 73 (.bin .mul (kI 4) (.t 72)),oO 74 (.bin .add (.t 73) (kI 2)),oO 75 (.idxPa 1 16 (.t 8) (.t 74)),oO 76 (.load .sc (.t 75)),oM 77 11,oO 78 (.bin .mul (kI 4) (.t 77)),oO 79 (.bin .add (.t 78) (kI 3)),oO 80 (.idxPa 1 16 (.t 8) (.t 79)),oO 81 (.load .sc (.t 80)),oO 82 (.build [(.d (.int .u8 0)),(.d (.int .u8 0)),(.d (.int .u8 0)),(.d (.int .u8 0))] [(0,1,(.t 66)),(1,1,(.t 71)),(2,1,(.t 76)),(3,1,(.t 81))]),
 oO 12 (.allocArr [(.int .u8 0),(.int .u8 0),(.int .u8 0),(.int .u8 0)]),oN (.store (.ag 4) (.t 12) (.t 82))]) (.seq (.reg [oO 13 (.mv (kI 0))]) (.block 10 (.loop sw))))) (.reg [oM 61 11,oO 62 (.bin .add (.t 61) (kI 1)),oM 11 62]))
def wX:aN := .seq (.seq (.reg [oM 30 7,oO 31 (.bin .leq (.t 30) (kI 10))]) (.cond (.t 31) (.skip) (.exit 2))) (.seq (.block 3 (.seq (.reg [oO 8 (.allocArr [(.int .u8 0),(.int .u8 0),(.int .u8 0),(.int .u8 0),(.int .u8 0),(.int .u8 0),(.int .u8 0),(.int .u8 0),(.int .u8 0),(.int .u8 0),(.int .u8 0),(.int .u8 0),(.int .u8 0),(.int .u8 0),(.int .u8 0),(.int .u8 0)])]) (.seq (.seq (.reg [oO 9 (.mv (kI 0))]) (.block 4 (.loop wU))) (.seq (.reg [oO 11 (.mv (kI 0))]) (.block 8 (.loop wW)))))) (.reg [oM 32 7,oO 33 (.bin .add (.t 32) (kI 1)),oM 7 33]))
def HK:aD:=⟨2,145,.seq (.reg [oO 2 (.box .roBox (.t 0)),oO 4 (.mv (.k (.c .nil)))]) (.seq (.reg [oO 5 (.allocArr [(.int .u8 0),(.int .u8 0),(.int .u8 0),(.int .u8 0),(.int .u8 0),(.int .u8 0),(.int .u8 0),(.int .u8 0),(.int .u8 0),(.int .u8 0),(.int .u8 0),(.int .u8 0),(.int .u8 0),(.int .u8 0),(.int .u8 0),(.int .u8 0)])]) (.seq (.seq (.reg [oO 6 (.mv (kI 0))]) (.block 0 (.loop wS))) (.seq (.seq (.reg [oO 7 (.mv (kI 1))]) (.block 2 (.loop wX))) (.seq (.reg [oO 142 (.bldSl false 0 1 (.int .u8 0) []),oO 143 (.sliceArr 1 16 (.t 5) none none),oO 144 (.appN false 1 1 (.t 142) (.t 143)),oM 4 144]) (.ret))))),[(4,none)]⟩
theorem SG:aB Tryz.prog { own:=[],comp:=[],frz:=[],nils:=[144] } Tryz.f111=some HK:=by kernel_rfl
set_option maxRecDepth 20000 in
set_option maxHeartbeats 6400000 in
theorem qB (G:ah) (key b:List UInt8) (h:key.length=16) (hb:b.length=16):au Tryz.prog G 111 [.agg ((cO key).map bD),.sl (b.map bD)] (.w (.c (.fr 1 ((jz key b).map bD)))):=by
  refine aF Tryz.func111 SG rfl rfl ?_;have hM:=su h;have hrk:=qk h;have kat:∀ j,j<176→(((cO key).drop j).take 1)[0]?=some ((ak key).getD j 0):=fun j hj=>by
    rw[YL,if_pos (by decide),YV];unfold cO;rw[tB hrk ig (by omega),cN (by omega)]; rfl
  have bat:∀ x:UInt8,((((cO key).drop 176).drop x.toNat).take 1)[0]?=some (dc x):=fun x=>by
    rw[YL,if_pos (by decide),YV,YV];unfold cO;rw[Zf,HG hrk ig (fb x)]; exact xC x
  have tat:∀ x:UInt8,((((cO key).drop 432).drop x.toNat).take 1)[0]?=some (gy x):=fun x=>by
    rw[YL,if_pos (by decide),YV,YV];unfold cO;rw[Zf,SA hrk ig]; exact SC x
  simp only[HK,af,ae,aa,seval,iteOmega,toNatUp,eC,xH];refine aV (z9 key b) (fun i=>16-i) (fun i=>i≤16) 0 (Yt _) ?_ ?_
  ·refine ap (fun i=>40) ?_ ?_ rfl rfl <;> simp only[wx,aj,ar,aa,seval,iteOmega,toNatUp,jY]
  ·intro i hi;have hl:(bg (dS (aK b) (cr (ak key) 0)) (aL 16 (0:UInt8)) i).length=16:=by rw[js _ _ (by rw[aX]; omega),aX]
   by_cases hlt:i<16
   ·have g1:b[i]?=some (b.getD i 0):=cN (by omega);have g2:=kat i (by omega);have x1:=de (b.getD i 0) ((ak key).getD i 0);have h3:i<(bg (dS (aK b) (cr (ak key) 0)) (aL 16 (0:UInt8)) i).length:=by omega
    have h5:(bg (dS (aK b) (cr (ak key) 0)) (aL 16 (0:UInt8)) i).set i (am (b.getD i 0) ((ak key).getD i 0))=bg (dS (aK b) (cr (ak key) 0)) (aL 16 (0:UInt8)) (i+1):=by
      rw[← jZ (dS (aK b) (cr (ak key) 0)) (aL 16 (0:UInt8)) (by rw[aX]; omega)];unfold dS cr aK;rw[Z2,Zr]
    simp only[wS,z9,ae,aa,seval,iteOmega,toNatUp,cq,hM,aC,bo,ek,g1,g2,x1,dX h3 (dP _),fc,h5,hl];refine aQ (i+1) (by omega) (by omega) (ap (fun i=>i) ?_ ?_ rfl rfl) <;> simp only[wx,aj,ar,aa,seval,iteOmega,toNatUp]
   ·obtain rfl:i=16:=by omega
    have e:bg (dS (aK b) (cr (ak key) 0)) (aL 16 (0:UInt8)) 16=bF (fL (cr (ak key)) (aK b) 0):=mG _ (aX _ _);simp only[wS,z9,e,ae,aa,seval,iteOmega,toNatUp];refine aV (Aa key b) (fun n=>10-n) (fun n=>n≤10) 0 (Yt _) ?_ ?_
    ·refine ap (fun i=>i) ?_ ?_ rfl rfl <;> simp only[wx,aj,ar,aa,seval,iteOmega,toNatUp]
    ·intro n hn;by_cases hlt2:n<10
     ·simp only[wX,Aa,ae,aa,seval,iteOmega,toNatUp,eC];have hs:(bF (fL (cr (ak key)) (aK b) n)).length=16:=fY _;have hnext:bF (je key (bF (fL (cr (ak key)) (aK b) n)) n)=bF (fL (cr (ak key)) (aK b) (n+1)):=SF _ _ _;generalize bF (fL (cr (ak key)) (aK b) n)=s at *
      refine aV (Ab key s n) (fun c=>4-c) (fun c=>c≤4) 0 (Yt _) ?_ ?_
      ·refine ap (fun i=>if i=1 then 1 else 64) ?_ ?_ rfl rfl <;> simp only[wx,aj,ar,aa,seval,iteOmega,toNatUp,jY]
      ·intro c hc;by_cases hlt3:c<4
       ·simp only[wU,Ab,ae,aa,seval,iteOmega,toNatUp];refine aV (Ac key s n c) (fun r=>4-r) (fun r=>r≤4) 0 (Yt _) ?_ ?_
        ·refine ap (fun i=>i) ?_ ?_ rfl rfl <;> simp only[wx,aj,ar,aa,seval,iteOmega,toNatUp,Zf]
        ·intro r hr;by_cases hlt4:r<4
         ·have hl:(bg (bU (aK s)) (aL 16 (0:UInt8)) (4*c+r)).length=16:=by rw[js _ _ (by rw[aX]; omega),aX]
          have t1:Int.tmod ((c:Int)+(r:Int)) 4=(((c+r)%4:Nat):Int):=i9 (c+r) 4;have hm:(c+r)%4<4:=Zi _ (by decide);have g1:s[r+4*((c+r)%4)]?=some (aK s (r+4*((c+r)%4))):=cN (by omega);have eidx:r+4*c=4*c+r:=by omega
          have h3:4*c+r<(bg (bU (aK s)) (aL 16 (0:UInt8)) (4*c+r)).length:=by omega
          have hsh:bU (aK s) (4*c+r)=dc (aK s (r+4*((c+r)%4))):=by
            unfold bU;rw[show (4*c+r)%4=r by omega,show (4*c+r) / 4=c by omega]
          have h5:=jZ (bU (aK s)) (aL 16 (0:UInt8)) (i:=4*c+r) (by rw[aX]; omega);rw[hsh] at h5;have b1:=bat (aK s (r+4*((c+r)%4)));have hx:=fb (aK s (r+4*((c+r)%4)));generalize (c+r)%4=q at *
          generalize aK s (r+4*q)=x at *
          simp only[wT,Ac,ae,aa,seval,iteOmega,toNatUp,t1,hs,aC,g1,bo,ek,b1,eidx,dX h3 (dP _),fc,h5,hl];refine aQ (r+1) (by omega) (by omega) (ap (fun i=>i) ?_ ?_ rfl rfl) <;> simp only[wx,aj,ar,aa,seval,iteOmega,toNatUp,ZM]
         ·obtain rfl:r=4:=by omega
          have e4:4*c+4=4*(c+1):=by omega
          simp only[wT,Ac,e4,ae,aa,seval,iteOmega,toNatUp];refine aQ (c+1) (by omega) (by omega) (ap (fun i=>i) ?_ ?_ rfl rfl) <;> simp only[wx,aj,ar,aa,seval,iteOmega,toNatUp]
       ·obtain rfl:c=4:=by omega
        have e:bg (bU (aK s)) (aL 16 (0:UInt8)) (4*4)=g9 s:=mG _ (aX _ _);simp only[wU,Ab,e,ae,aa,seval,iteOmega,toNatUp];refine aV (Ad key s n) (fun c=>4-c) (fun c=>c≤4) 0 (Yt _) ?_ ?_
        ·refine ap (fun i=>i) ?_ ?_ rfl rfl <;> simp only[wx,aj,ar,aa,seval,iteOmega,toNatUp,jY,Z2]
        ·intro c hc;have hsl:=sX s;have sat:∀ j,j<16→(g9 s)[j]?=some (bU (aK s) j):=fun j hj=>qm _ hj
         by_cases hlt3:c<4
         ·have a0:=sat (4*c) (by omega);have a1:=sat (4*c+1) (by omega);have a2:=sat (4*c+2) (by omega);have a3:=sat (4*c+3) (by omega);have hcol:∀ j,j<4→(((g9 s).drop (4*c)).take 4)[j]?=some (bU (aK s) (4*c+j)):=fun j hj=>by
            rw[YL,if_pos hj,YV]; exact sat _ (by omega)
          have hcl:(((g9 s).drop (4*c)).take 4).length=4:=by rw[Yu,Yw]; omega
          have hA:[bD (bU (aK s) (4*c)),bD (bU (aK s) (4*c+1)),bD (bU (aK s) (4*c+2)),bD (bU (aK s) (4*c+3))]=(((g9 s).drop (4*c)).take 4).map bD:=by
            have:((g9 s).drop (4*c)).take 4=[bU (aK s) (4*c),bU (aK s) (4*c+1),bU (aK s) (4*c+2),bU (aK s) (4*c+3)]:=by
              apply Zz;intro j;rcases YE j 4 with hj | hj
              ·rw[hcol j hj];rcases j with _ | _ | _ | _ | j <;> first | rfl | omega
              ·rw[Y3 (by omega),Y3 (by simpa using hj)]
            rw[this]; rfl
          simp only[wW,Ad,ae,aa,seval,iteOmega,toNatUp,aC,hsl,a0,a1,a2,a3,rr,hA,hcl];refine aV (uQ key s n c) (fun r=>4-r) (fun r=>r≤4) 0 (Yt _) ?_ ?_
          ·refine ap (fun i=>if i=3 then 96 else i) ?_ ?_ rfl rfl <;> simp only[wx,aj,ar,aa,seval,iteOmega,toNatUp,Zf]
          ·intro r hr;by_cases hlt4:r<4
           ·have hl:(bg (je key s n) s (4*c+r)).length=16:=by rw[js _ _ (by omega)]; exact hs
            have t1:Int.tmod ((r:Int)+1) 4=(((r+1)%4:Nat):Int):=i9 (r+1) 4;have t2:Int.tmod ((r:Int)+2) 4=(((r+2)%4:Nat):Int):=i9 (r+2) 4;have t3:Int.tmod ((r:Int)+3) 4=(((r+3)%4:Nat):Int):=i9 (r+3) 4;have b1:(r+1)%4<4:=Zi _ (by decide);have b2:(r+2)%4<4:=Zi _ (by decide);have b3:(r+3)%4<4:=Zi _ (by decide);have c0:=hcol r hlt4;have c1:=hcol _ b1;have c2:=hcol _ b2;have c3:=hcol _ b3;have hk:=kat (16*(n+1)+r+4*c) (by omega);have eidx:r+4*c=4*c+r:=by omega
            have h3:4*c+r<(bg (je key s n) s (4*c+r)).length:=by omega
            have h5:=jZ (je key s n) s (i:=4*c+r) (by omega);by_cases hn9:n+1<10
            ·have hr2:je key s n (4*c+r)=am (pf (bU (aK s) (4*c+r)) (bU (aK s) (4*c+(r+1)%4)) (bU (aK s) (4*c+(r+2)%4)) (bU (aK s) (4*c+(r+3)%4))) ((ak key).getD (16*(n+1)+r+4*c) 0):=by
               unfold je kU;rw[if_pos hn9];unfold dS gI cr;rw[show (4*c+r) / 4=c by omega,show (4*c+r)%4=r by omega,show 16*(n+1)+(4*c+r)=16*(n+1)+r+4*c by omega]
             rw[hr2] at h5;unfold pf at h5;have w0:=tat (bU (aK s) (4*c+r));have w1:=tat (bU (aK s) (4*c+(r+1)%4));have l0:=fb (bU (aK s) (4*c+r));have l1:=fb (bU (aK s) (4*c+(r+1)%4));generalize (r+1)%4=r1 at *
             generalize (r+2)%4=r2 at *
             generalize (r+3)%4=r3 at *
             generalize bU (aK s) (4*c+r)=y0 at *
             generalize bU (aK s) (4*c+r1)=y1 at *
             generalize bU (aK s) (4*c+r2)=y2 at *
             generalize bU (aK s) (4*c+r3)=y3 at *
             generalize (ak key).getD (16*(n+1)+r+4*c) 0=kk at *
             have x1:=de (gy y0) (gy y1);have x2:=de (am (gy y0) (gy y1)) y1;have x3:=de (am (am (gy y0) (gy y1)) y1) y2;have x4:=de (am (am (am (gy y0) (gy y1)) y1) y2) y3;have x5:=de (am (am (am (am (gy y0) (gy y1)) y1) y2) y3) kk;simp only[sw,uQ,ae,aa,seval,iteOmega,toNatUp,t1,t2,t3,aC,hcl,c0,c1,c2,c3,bo,ek,w0,w1,x1,x2,x3,x4,hk,x5,eidx,dX h3 (dP _),fc,h5,hl];refine aQ (r+1) (by omega) (by omega) (ap (fun i=>i) ?_ ?_ rfl rfl) <;> simp only[wx,aj,ar,aa,seval,iteOmega,toNatUp,ZM]
            ·have hr2:je key s n (4*c+r)=am (bU (aK s) (4*c+r)) ((ak key).getD (16*(n+1)+r+4*c) 0):=by
               unfold je kU;rw[if_neg hn9];unfold dS cr;rw[show 16*(n+1)+(4*c+r)=16*(n+1)+r+4*c by omega]
             rw[hr2] at h5;generalize bU (aK s) (4*c+r)=y0 at *
             generalize (ak key).getD (16*(n+1)+r+4*c) 0=kk at *
             have x5:=de y0 kk;simp only[sw,uQ,ae,aa,seval,iteOmega,toNatUp,aC,hcl,c0,bo,ek,hk,x5,eidx,dX h3 (dP _),fc,h5,hl];refine aQ (r+1) (by omega) (by omega) (ap (fun i=>i) ?_ ?_ rfl rfl) <;> simp only[wx,aj,ar,aa,seval,iteOmega,toNatUp,ZM]
           ·obtain rfl:r=4:=by omega
            have e4:4*c+4=4*(c+1):=by omega
            simp only[sw,uQ,e4,ae,aa,seval,iteOmega,toNatUp];refine aQ (c+1) (by omega) (by omega) (ap (fun i=>i) ?_ ?_ rfl rfl) <;> simp only[wx,aj,ar,aa,seval,iteOmega,toNatUp]
         ·obtain rfl:c=4:=by omega
          have e:bg (je key s n) s (4*4)=bF (je key s n):=mG _ hs;simp only[wW,Ad,e,hnext,ae,aa,seval,iteOmega,toNatUp];refine aQ (n+1) (by omega) (by omega) (ap (fun i=>i) ?_ ?_ rfl rfl) <;> simp only[wx,aj,ar,aa,seval,iteOmega,toNatUp]
     ·obtain rfl:n=10:=by omega
      have e:bF (fL (cr (ak key)) (aK b) 10)=jz key b:=rfl;have hl:(jz key b).length=16:=ii _ _;have ht:(jz key b).take 16=jz key b:=Yo (by omega);simp only[wX,Aa,e,ae,aa,seval,iteOmega,toNatUp,hl,cq,bo,ht];exact tX (by simp only[St.put,jH,ae,aa,seval,iteOmega,toNatUp,hl,ht,cq])
theorem Fz:∀ a b:List UInt8,dw (a++b)=if (dw b).2 then ((dw a).1++(dw b).1,(dw a).2) else (a++(dw b).1,false)
  | [],b=>by
    show dw b=if (dw b).2 then ([]++(dw b).1,true) else ([]++(dw b).1,false)
    rcases dw b with ⟨s,_ | _⟩ <;> rfl
  | x::a,b=>by
    have ih:=Fz a b;simp only[Zm,dw,ih];cases h:(dw b).2
    ·simp
    ·simp only[if_true];cases h2:(dw a).2 <;> simp
def carry (c:List UInt8) (m:Nat):Prop:=(dw (c.drop m)).2=true
def eA (c:List UInt8) (m:Nat):List UInt8:=c.take m++(dw (c.drop m)).1
theorem s5 (c:List UInt8) (m:Nat):(eA c m).length=c.length:=by
  unfold eA; rw[Yr,xD,← Yr,Y7]
theorem Cg (c:List UInt8):eA c c.length=c:=by unfold eA; simp[dw]
theorem BL (c:List UInt8):carry c c.length:=by unfold carry; simp[dw]
theorem Dk (c:List UInt8):eA c 0=jE c:=by unfold eA jE; simp
theorem HL {c:List UInt8} {m:Nat} (h:m<c.length):(eA c (m+1))[m]?=some (c.getD m 0):=by
  unfold eA;rw[Y6 (by rw[Yu]; omega),YL,if_pos (by omega)];exact cN h
theorem Dl {c:List UInt8} {m:Nat} (h:m<c.length):c.drop m=c.getD m 0::c.drop (m+1):=by
  rw[List.drop_eq_getElem_cons h,Ys,Yn h]; rfl
theorem HM {c:List UInt8} {m:Nat} (h:m<c.length) (hc:carry c (m+1)):(eA c (m+1)).set m (c.getD m 0+1)=eA c m:=by
  have e:(dw (c.drop m)).1=(c.getD m 0+1)::(dw (c.drop (m+1))).1:=by
    rw[Dl h];unfold carry at hc;simp only[dw,hc,if_true]
  have e2:c.take (m+1)=c.take m++[c.getD m 0]:=by
    rw[Zq,cN h]; rfl
  unfold eA;rw[e,e2,YY,ZR _ _ (by rw[Yu]; omega),Yu,show m-min m c.length=0 by omega];rfl
theorem Ch {c:List UInt8} {m:Nat} (h:m<c.length) (hc:carry c (m+1)):(dw (c.drop m)).2=(c.getD m 0+1==0):=by
  rw[Dl h];unfold carry at hc;simp only[dw,hc,if_true]
theorem HN {c:List UInt8} {m:Nat} (h:(dw (c.drop m)).2=false):eA c m=jE c:=by
  have:=Fz (c.take m) (c.drop m);rw[Y7,h] at this;unfold jE eA;rw[this]; rfl
theorem Kp (x c:UInt8) (n:Int) (h:n=(c.toNat:Int)):bM .add (.w (.c (.d (bD x)))) (.w (.c (.d (.int .u8 n))))=some (bD (x+c)):=by
  subst h
  show bA .add .u8 (x.toNat:Int) .u8 (c.toNat:Int)=_
  rw[sN,IntKind.wrap_u8]
  show some (D.int .u8 (((x.toNat:Int)+(c.toNat:Int))%256))=_
  have:((x.toNat:Int)+(c.toNat:Int))%256=((x+c).toNat:Int):=by
    rw[UInt8.toNat_add]; simp
  rw[this]; rfl
def pi (c:List UInt8):List UInt8:=if c.length=16 then jE c else []
def mh (c:List UInt8) (m:Nat):St:=⟨aP [(3,.w (.c (.own 1 1 0 16))),(4,.w (.c (.d (.int .i64 ((m:Int)-1)))))],hL [(1,.row 1 ((eA c m).map bD))],uL [1]⟩
def s6:aN := .seq (.seq (.reg [oM 14 4,oO 15 (.bin .geq (.t 14) (kI 0))]) (.cond (.t 15) (.skip) (.exit 0))) (.seq (.block 1 (.seq (.reg [oM 18 3,oM 19 4,oO 20 (.idxSl 1 (.t 18) (.t 19)),oO 21 (.load .sc (.t 20)),oO 22 (.bin .add (.t 21) (.k (.c (.d (.int .u8 1))))),oO 23 (.idxSl 1 (.t 18) (.t 19)),oN (.store .sc (.t 23) (.t 22))]) (.seq (.reg [oM 24 3,oM 25 4,oO 26 (.idxSl 1 (.t 24) (.t 25)),oO 27 (.load .sc (.t 26)),oO 28 (.bin .neq (.t 27) (.k (.c (.d (.int .u8 0)))))]) (.cond (.t 28) (.exit 0) (.skip))))) (.reg [oM 16 4,oO 17 (.bin .sub (.t 16) (kI 1)),oM 4 17]))
def zt:aD:=⟨1,30,.seq (.reg [oO 2 (.mv (.k (.c .nil)))]) (.seq (.seq (.reg [oM 5 0,oO 6 (.len (.t 5)),oO 7 (.bin .neq (.t 6) (kI 16))]) (.cond (.t 7) (.seq (.reg [oO 2 (.mv (.k (.c .nil)))]) (.ret)) (.skip))) (.seq (.reg [oM 8 0,oO 9 (.bldSl false 1 1 (.sl []) [(0,(.t 8))]),oO 10 (.call 50 [(.t 9)] (some (0,1))),oM 3 10]) (.seq (.seq (.reg [oM 11 3,oO 12 (.len (.t 11)),oO 13 (.bin .sub (.t 12) (kI 1)),oM 4 13]) (.block 0 (.loop s6))) (.seq (.reg [oM 29 3,oM 2 29]) (.ret))))),[(2,none)]⟩
theorem UZ:aB Tryz.prog { own:=[10],comp:=[],frz:=[],nils:=[] } Tryz.f125=some zt:=by kernel_rfl
theorem Xb (G:ah) (c:List UInt8) (hc:c.length≤140737488355328):au Tryz.prog G 125 [.sl (c.map bD)] (.w (.c (.fr 1 ((pi c).map bD)))):=by
  refine aF Tryz.func125 UZ rfl rfl ?_;unfold pi;by_cases h:c.length=16
  ·rw[if_pos h];have hj:=eJ G [c] (by simp) (by simp; omega);have hf:[c].flatten=c:=by simp
   rw[hf] at hj;have hs:=Cg c;rw[h] at hs;simp only[zt,af,ae,aa,seval,iteOmega,toNatUp,h];refine sD (hj) ?_;refine aV (mh c) (fun m=>m) (fun m=>m≤16∧carry c m) 16 ⟨Yz _,by have:=BL c; rwa [h] at this⟩ ?_ ?_
   ·refine ap (fun i=>80) ?_ ?_ rfl rfl <;> simp only[wx,aj,ar,aa,seval,iteOmega,toNatUp,hs,h] <;> rfl
   ·rintro m ⟨hm,hcar⟩;rcases m with _ | q
    ·have e0:=Dk c;have hl:(jE c).length=16:=by rw[wK]; exact h
     simp only[s6,mh,e0,ZO,Int.zero_sub,ae,aa,seval,iteOmega,toNatUp];exact en (id:=1) (n:=16) (s:=1) (by simp only[wx,aa,seval,iteOmega,toNatUp]) (by simp only[wx,aa,seval,iteOmega,toNatUp]) (by simp[hl])
    ·have hq:q<c.length:=by omega
     have hl1:(eA c (q+1)).length=16:=by rw[s5]; exact h
     have hl0:(eA c q).length=16:=by rw[s5]; exact h
     have g1:=HL hq;have h3:q<(eA c (q+1)).length:=by omega
     have h5:=HM hq hcar;have g2:(eA c q)[q]?=some (c.getD q 0+1):=by
       rw[← h5,List.getElem?_set_self (by omega)]
     have x1:=Kp (c.getD q 0) 1 1 rfl;have x2:=zf (c.getD q 0+1) 0 0 rfl;have hcs:=Ch hq hcar;have sub:((q:Int)+1-1)=(q:Int):=by omega
     by_cases hz:c.getD q 0+1=0
     ·have hz2:(c.getD q 0+1 != 0)=false:=by rw[hz]; rfl
      rw[hz2] at x2;have hcar2:carry c q:=by unfold carry; rw[hcs,hz]; rfl
      simp only[s6,mh,ae,aa,seval,iteOmega,toNatUp,sub,aC,g1,x1,dX h3 (dP _),fc,h5,g2,x2,hl1,hl0];refine aQ q (by omega) ⟨by omega,hcar2⟩ (ap (fun i=>i) ?_ ?_ rfl rfl) <;> simp only[wx,aj,ar,aa,seval,iteOmega,toNatUp]
     ·have hz2:(c.getD q 0+1 != 0)=true:=bne_iff_ne.2 hz;rw[hz2] at x2;have e0:eA c q=jE c:=HN (by rw[hcs]; exact beq_eq_false_iff_ne.2 hz);rw[e0] at hl0 g2 h5;simp only[s6,mh,ae,aa,seval,iteOmega,toNatUp,sub,aC,g1,x1,dX h3 (dP _),fc,h5,g2,x2,hl1,e0];exact en (id:=1) (n:=16) (s:=1) (by simp only[wx,aa,seval,iteOmega,toNatUp]) (by simp only[wx,aa,seval,iteOmega,toNatUp]) (by simp[hl0])
  ·rw[if_neg h];simp only[zt,af,ae,aa,seval,iteOmega,toNatUp];exact fm
def sy:aN := .seq (.seq (.reg [oM 11 4,oO 12 (.bin .geq (.t 11) (kI 0))]) (.cond (.t 12) (.skip) (.exit 0))) (.seq (.block 1 (.seq (.reg [oM 15 3,oM 16 4,oO 17 (.idxSl 1 (.t 15) (.t 16)),oO 18 (.load .sc (.t 17)),oO 19 (.bin .add (.t 18) (.k (.c (.d (.int .u8 1))))),oO 20 (.idxSl 1 (.t 15) (.t 16)),oN (.store .sc (.t 20) (.t 19))]) (.seq (.reg [oM 21 3,oM 22 4,oO 23 (.idxSl 1 (.t 21) (.t 22)),oO 24 (.load .sc (.t 23)),oO 25 (.bin .neq (.t 24) (.k (.c (.d (.int .u8 0)))))]) (.cond (.t 25) (.exit 0) (.skip))))) (.reg [oM 13 4,oO 14 (.bin .sub (.t 13) (kI 1)),oM 4 14]))
def yt:aD:=⟨1,27,.seq (.reg [oO 2 (.mv (.k (.c .nil)))]) (.seq (.seq (.reg [oM 5 0,oO 6 (.len (.t 5)),oO 7 (.bin .neq (.t 6) (kI 16))]) (.cond (.t 7) (.seq (.reg [oO 2 (.mv (.k (.c .nil)))]) (.ret)) (.skip))) (.seq (.reg [oM 8 0,oO 9 (.bldSl false 1 1 (.sl []) [(0,(.t 8))]),oO 10 (.call 41 [(.t 9)] (some (0,1))),oM 3 10]) (.seq (.seq (.reg [oO 4 (.mv (kI 15))]) (.block 0 (.loop sy))) (.seq (.reg [oM 26 3,oM 2 26]) (.ret))))),[(2,none)]⟩
theorem SH:aB Tryz.prog { own:=[10],comp:=[],frz:=[],nils:=[] } Tryz.f112=some yt:=by kernel_rfl
theorem U0 (G:ah) (c:List UInt8) (hc:c.length≤140737488355328):au Tryz.prog G 112 [.sl (c.map bD)] (.w (.c (.fr 1 ((pi c).map bD)))):=by
  refine aF Tryz.func112 SH rfl rfl ?_;unfold pi;by_cases h:c.length=16
  ·rw[if_pos h];have hj:=eo G [c] (by simp) (by simp; omega);have hf:[c].flatten=c:=by simp
   rw[hf] at hj;have hs:=Cg c;rw[h] at hs;simp only[yt,af,ae,aa,seval,iteOmega,toNatUp,h];refine sD (hj) ?_;refine aV (mh c) (fun m=>m) (fun m=>m≤16∧carry c m) 16 ⟨Yz _,by have:=BL c; rwa [h] at this⟩ ?_ ?_
   ·refine ap (fun i=>80) ?_ ?_ rfl rfl <;> simp only[wx,aj,ar,aa,seval,iteOmega,toNatUp,hs,h] <;> rfl
   ·rintro m ⟨hm,hcar⟩;rcases m with _ | q
    ·have e0:=Dk c;have hl:(jE c).length=16:=by rw[wK]; exact h
     simp only[sy,mh,e0,ZO,Int.zero_sub,ae,aa,seval,iteOmega,toNatUp];exact en (id:=1) (n:=16) (s:=1) (by simp only[wx,aa,seval,iteOmega,toNatUp]) (by simp only[wx,aa,seval,iteOmega,toNatUp]) (by simp[hl])
    ·have hq:q<c.length:=by omega
     have hl1:(eA c (q+1)).length=16:=by rw[s5]; exact h
     have hl0:(eA c q).length=16:=by rw[s5]; exact h
     have g1:=HL hq;have h3:q<(eA c (q+1)).length:=by omega
     have h5:=HM hq hcar;have g2:(eA c q)[q]?=some (c.getD q 0+1):=by
       rw[← h5,List.getElem?_set_self (by omega)]
     have x1:=Kp (c.getD q 0) 1 1 rfl;have x2:=zf (c.getD q 0+1) 0 0 rfl;have hcs:=Ch hq hcar;have sub:((q:Int)+1-1)=(q:Int):=by omega
     by_cases hz:c.getD q 0+1=0
     ·have hz2:(c.getD q 0+1 != 0)=false:=by rw[hz]; rfl
      rw[hz2] at x2;have hcar2:carry c q:=by unfold carry; rw[hcs,hz]; rfl
      simp only[sy,mh,ae,aa,seval,iteOmega,toNatUp,sub,aC,g1,x1,dX h3 (dP _),fc,h5,g2,x2,hl1,hl0];refine aQ q (by omega) ⟨by omega,hcar2⟩ (ap (fun i=>i) ?_ ?_ rfl rfl) <;> simp only[wx,aj,ar,aa,seval,iteOmega,toNatUp]
     ·have hz2:(c.getD q 0+1 != 0)=true:=bne_iff_ne.2 hz;rw[hz2] at x2;have e0:eA c q=jE c:=HN (by rw[hcs]; exact beq_eq_false_iff_ne.2 hz);rw[e0] at hl0 g2 h5;simp only[sy,mh,ae,aa,seval,iteOmega,toNatUp,sub,aC,g1,x1,dX h3 (dP _),fc,h5,g2,x2,hl1,e0];exact en (id:=1) (n:=16) (s:=1) (by simp only[wx,aa,seval,iteOmega,toNatUp]) (by simp only[wx,aa,seval,iteOmega,toNatUp]) (by simp[hl0])
  ·rw[if_neg h];simp only[yt,af,ae,aa,seval,iteOmega,toNatUp];exact fm
def rt (key b:List UInt8):Int:=if key.length≠16 then 5 else if b.length≠16 then 3 else 0
def vD (key b:List UInt8):List UInt8:=if key.length=16∧b.length=16 then jz key b else []
def t8:aD:=⟨2,18,.seq (.reg [oO 4 (.mv (.k (.c .nil))),oO 5 (.mv (kI 0))]) (.seq (.seq (.reg [oM 7 0,oO 8 (.len (.t 7)),oO 9 (.bin .neq (.t 8) (kI 16))]) (.cond (.t 9) (.seq (.reg [oO 4 (.mv (.k (.c .nil))),oO 5 (.mv (kI 5))]) (.ret)) (.skip))) (.seq (.seq (.reg [oM 10 1,oO 11 (.len (.t 10)),oO 12 (.bin .neq (.t 11) (kI 16))]) (.cond (.t 12) (.seq (.reg [oO 4 (.mv (.k (.c .nil))),oO 5 (.mv (kI 3))]) (.ret)) (.skip))) (.seq (.reg [oM 13 0,oO 14 (.call 122 [(.t 13)] none),oM 15 1,oO 16 (.call 124 [(.t 14),(.t 15)] none),oO 6 (.allocArr [(.int .u8 0),(.int .u8 0),(.int .u8 0),(.int .u8 0),(.int .u8 0),(.int .u8 0),(.int .u8 0),(.int .u8 0),(.int .u8 0),(.int .u8 0),(.int .u8 0),(.int .u8 0),(.int .u8 0),(.int .u8 0),(.int .u8 0),(.int .u8 0)]),oN (.store (.ag 16) (.t 6) (.t 16))]) (.seq (.reg [oO 17 (.sliceArr 1 16 (.t 6) none none),
 oM 4 17,oO 5 (.mv (kI 0))]) (.ret))))),[(4,none),(5,none)]⟩
theorem U1:aB Tryz.prog { own:=[],comp:=[],frz:=[],nils:=[] } Tryz.f142=some t8:=by kernel_rfl
theorem Ae (G:ah) (key b:List UInt8) (hk:key.length≤9223372036854775807) (hb:b.length≤9223372036854775807):au Tryz.prog G 142 [.sl (key.map bD),.sl (b.map bD)] (.tup [.c (.fr 1 ((vD key b).map bD)),.c (.d (.int .i64 (rt key b)))]):=by
  refine aF Tryz.func142 U1 rfl rfl ?_;unfold vD rt;by_cases h:key.length=16
  ·by_cases h2:b.length=16
   ·have hr:=qk h;have hl:(jz key b).length=16:=ii _ _;have ht:(jz key b).take 16=jz key b:=Yo (by omega);rw[if_pos ⟨h,h2⟩,if_neg (by simp[h]),if_neg (by simp[h2])];simp only[t8,af,ae,aa,seval,iteOmega,toNatUp,h,h2,eC];refine sD (Kn G key h) ?_;refine sC (Ko G (ak key) b hr h2) ?_;simp only[ii,aX,hl,ae,aa,seval,iteOmega,toNatUp];exact tY (by simp only[ae,aa,seval,iteOmega,toNatUp,jH,ii,hl,cq]; rfl) (by simp only[ae,aa,seval,iteOmega,toNatUp])
   ·rw[if_neg (fun k=>h2 k.2),if_neg (by simp[h]),if_pos h2];simp only[t8,af,ae,aa,seval,iteOmega,toNatUp,h];exact bw
  ·rw[if_neg (fun k=>h k.1),if_pos h];simp only[t8,af,ae,aa,seval,iteOmega,toNatUp];exact bw
def m9 (key:List UInt8):Int:=if key.length≠16 then 5 else 0
def eK (r n:Nat):Nat:=(n-r%n)%n
def dJ (b:List UInt8) (n:Int):List UInt8:=if 1≤n∧n≤64 then b++List.replicate (eK b.length n.toNat) 0 else b
theorem yu (b:List UInt8) {n:Nat} (h:1≤n∧n≤64):dJ b (n:Int)=b++List.replicate (eK b.length n) 0:=by
  unfold dJ; rw[if_pos (by omega),Int.toNat_natCast]
theorem FB (b:List UInt8) {n:Int} (h:¬ (1≤n∧n≤64)):dJ b n=b:=if_neg h
theorem FC (r:Nat) {n:Nat} (h:1≤n):eK r n<n:=Zi _ (by omega)
theorem SI (n:Nat):aI 0 n=List.replicate n 0:=by
  unfold aI;simp only[Nat.zero_div]
  induction n with
  | zero=>rfl
  | succ n ih=>rw[ZW,YD,ih,ZI]; rfl
theorem QT {r n i:Nat} (hn:1≤n) (h:i<eK r n):(r+i)%n≠0:=by
  unfold eK at h;have hr:r%n<n:=Zi _ (by omega);have hm:=Nat.mod_le (n-r%n) n;have hz:r%n≠0:=fun e=>by rw[e,Nat.sub_zero,Nat.mod_self] at h; omega
  have e:(r+i)%n=(r%n+i)%n:=by rw[Nat.add_mod,Nat.add_mod (r%n) i,Nat.mod_mod]
  rw[e,Z5 (by omega)];omega
theorem QU {r n:Nat} (hn:1≤n):(r+eK r n)%n=0:=by
  unfold eK;have hr:r%n<n:=Zi _ (by omega);by_cases hz:r%n=0
  ·rw[hz,Nat.sub_zero,Nat.mod_self,Zf,hz]
  ·rw[Z5 (show n-r%n<n by omega),Nat.add_mod,Z5 (show n-r%n<n by omega),Nat.add_sub_cancel' (by omega),Nat.mod_self]
theorem Kq (a b:Nat):Int.tmod (a:Int) (b:Int)=((a%b:Nat):Int):=rfl
def t9:aD:=⟨2,28,.seq (.reg [oO 4 (.mv (.k (.c .nil)))]) (.seq (.seq (.reg [oM 6 1,oO 7 (.bin .lss (.t 6) (kI 1)),oM 8 7,oG 9 (.mv (.t 1)) 8 false,oG 10 (.bin .gtr (.t 9) (kI 64)) 8 false,oO 11 (.pick (.t 8) (.k (.c (.d (.bool true)))) (.t 10))]) (.cond (.t 11) (.seq (.reg [oM 12 0,oO 13 (.bldSl false 1 1 (.sl []) [(0,(.t 12))]),oO 14 (.call 50 [(.t 13)] (some (0,1))),oM 4 14]) (.ret)) (.skip))) (.seq (.reg [oM 15 1,oM 16 0,oO 17 (.len (.t 16)),oM 18 1,oO 19 (.bin .rem (.t 17) (.t 18)),oO 20 (.bin .sub (.t 15) (.t 19)),oM 21 1,oO 22 (.bin .rem (.t 20) (.t 21)),oM 5 22]) (.seq (.reg [oM 23 0,oM 24 5,oO 25 (.call 81 [(.k (.c (.d (.int .u64 0)))),(.t 24)] none),oO 26 (.bldSl false 2 1 (.sl []) [(0,(.t 23)),(1,(.t 25))]),oO 27 (.call 50 [(.t 26)] (some (0,1))),oM 4 27]) (.ret)))),[(4,none)]⟩
theorem U3:aB Tryz.prog { own:=[14,27],comp:=[],frz:=[],nils:=[] } Tryz.f82=some t9:=by kernel_rfl
theorem uR (G:ah) (b:List UInt8) (n:Int) (hb:b.length≤70368744177664):au Tryz.prog G 82 [.sl (b.map bD),.int .i64 n] (.w (.c (.fr 1 ((dJ b n).map bD)))):=by
  refine aF Tryz.func82 U3 rfl rfl ?_;by_cases hc:1≤n∧n≤64
  ·obtain⟨m,rfl⟩:=Zh (show 0≤n by omega);rw[yu b (by omega)];have hr:b.length%m<m:=Zi _ (by omega);have hk:eK b.length m=(m-b.length%m)%m:=rfl;have hlt:=FC b.length (n:=m) (by omega);have e1:=Kq b.length m;have e2:Int.tmod ((m:Int)-((b.length%m:Nat):Int)) (m:Int)=((eK b.length m:Nat):Int):=by
     rw[show (m:Int)-((b.length%m:Nat):Int)=((m-b.length%m:Nat):Int) by omega,Kq,hk]
   have hm:((m:Int)=0)=False:=eq_false (by omega);have hp:=zh G 0 (eK b.length m) (by omega);have hj:=eJ G [b,aI 0 (eK b.length m)] (by simp) (by simp[dD]; omega);have hf:[b,aI 0 (eK b.length m)].flatten=b++List.replicate (eK b.length m) 0:=by rw[SI]; simp
   rw[hf] at hj;generalize eK b.length m=k at *
   simp only[t9,af,ae,aa,seval,iteOmega,toNatUp,e1,e2,hm];refine sD (hp) ?_;refine sD (hj) ?_;exact fm
  ·rw[FB b hc];have hj:=eJ G [b] (by simp) (by simp; omega);have hf:[b].flatten=b:=by simp
   rw[hf] at hj;by_cases h1:n<1
   ·simp only[t9,af,ae,aa,seval,iteOmega,toNatUp];refine sD (hj) ?_;exact fm
   ·have h2:64<n:=by omega
    simp only[t9,af,ae,aa,seval,iteOmega,toNatUp];refine sD (hj) ?_;exact fm
theorem SJ (b:List UInt8) (i:Nat):b++List.replicate i 0++[0]=b++List.replicate (i+1) 0:=by rw[ZI,YY]
def kx (b:List UInt8) (i:Nat):List UInt8:=b++List.replicate i 0
theorem FD (b:List UInt8) (i:Nat):(kx b i).length=b.length+i:=by unfold kx; rw[Yr,YK]
theorem Py (b:List UInt8) (i:Nat):(kx b i).map bD++[D.int .u8 0]=(kx b (i+1)).map bD:=by unfold kx; rw[← SJ,YD (l₂:=[0])]; rfl
def ol (b:List UInt8) (n:Int) (i:Nat):St:=⟨aP [(1,.w (.c (.d (.int .i64 n)))),(5,.w (.c (.own 1 1 0 (kx b i).length)))],hL [(1,.row 1 ((kx b i).map bD))],uL [1]⟩
def pO:aN := .seq (.seq (.reg [oM 9 1,oO 10 (.bin .geq (.t 9) (kI 1)),oM 11 10,oG 12 (.mv (.t 1)) 11 true,oG 13 (.bin .leq (.t 12) (kI 64)) 11 true,oO 14 (.pick (.t 11) (.t 13) (.k (.c (.d (.bool false))))),oM 15 14,oG 16 (.mv (.t 5)) 15 true,oG 17 (.len (.t 16)) 15 true,oG 18 (.mv (.t 1)) 15 true,oG 19 (.bin .rem (.t 17) (.t 18)) 15 true,oG 20 (.bin .neq (.t 19) (kI 0)) 15 true,oO 21 (.pick (.t 15) (.t 20) (.k (.c (.d (.bool false)))))]) (.cond (.t 21) (.skip) (.exit 0))) (.block 1 (.reg [oM 22 5,oO 23 (.bldSl false 1 1 (.int .u8 0) [(0,(.k (.c (.d (.int .u8 0)))))]),oO 24 (.app false 1 1 (.t 22) (.t 23)),oM 5 24]))
def yx:aD:=⟨2,26,.seq (.reg [oO 4 (.mv (.k (.c .nil)))]) (.seq (.reg [oM 6 0,oO 7 (.bldSl false 1 1 (.sl []) [(0,(.t 6))]),oO 8 (.call 41 [(.t 7)] (some (0,1))),oM 5 8]) (.seq (.block 0 (.loop pO)) (.seq (.reg [oM 25 5,oM 4 25]) (.ret)))),[(4,none)]⟩
theorem SK:aB Tryz.prog { own:=[8],comp:=[],frz:=[],nils:=[] } Tryz.f90=some yx:=by kernel_rfl
theorem qC (G:ah) (b:List UInt8) (n:Int) (hb:b.length≤70368744177664):au Tryz.prog G 90 [.sl (b.map bD),.int .i64 n] (.w (.c (.fr 1 ((dJ b n).map bD)))):=by
  refine aF Tryz.func90 SK rfl rfl ?_;have hj:=eo G [b] (by simp) (by simp; omega);have hf:[b].flatten=b:=by simp
  rw[hf] at hj;have h0:kx b 0=b:=by simp[kx]
  by_cases hc:1≤n∧n≤64
  ·obtain⟨m,rfl⟩:=Zh (show 0≤n by omega);rw[yu b (by omega)];have hlt:=FC b.length (n:=m) (by omega);have hm:((m:Int)=0)=False:=eq_false (by omega);have more:∀ i,i<eK b.length m→(b.length+i)%m≠0:=fun i h=>QT (by omega) h
   have done:(b.length+eK b.length m)%m=0:=QU (by omega);simp only[yx,af,ae,aa,seval,iteOmega,toNatUp];refine sD (hj) ?_;refine aV (ol b m) (fun i=>eK b.length m-i) (fun i=>i≤eK b.length m) 0 (Yt _) ?_ ?_
   ·refine ap (fun _=>64) ?_ ?_ rfl rfl <;> simp only[wx,aj,ar,aa,seval,iteOmega,toNatUp,h0]
   ·intro i hi;have hl:=FD b i;have hl1:=FD b (i+1);have e1:Int.tmod ((b.length:Int)+(i:Int)) (m:Int)=(((b.length+i)%m:Nat):Int):=rfl;have hs:=Py b i;by_cases hk:i<eK b.length m
    ·have hne:=more i hk;generalize (b.length+i)%m=q at *
     simp only[pO,ol,ae,aa,seval,iteOmega,toNatUp,hl,e1,hm,bH,hs];refine aQ (i+1) (by omega) (by omega) (ap (fun _=>192) ?_ ?_ rfl rfl) <;> simp only[wx,aj,ar,aa,seval,iteOmega,toNatUp,hl1]
    ·have hik:i=eK b.length m:=by omega
     rw[← hik] at done ⊢;simp only[done,ZO,Z1] at e1;have hd:b++List.replicate i 0=kx b i:=rfl;rw[hd];simp only[pO,ol,ae,aa,seval,iteOmega,toNatUp,hl,e1,hm];exact en (id:=1) (n:=b.length+i) (s:=1) (by simp only[wx,aa,seval,iteOmega,toNatUp]) (by simp only[wx,aa,seval,iteOmega,toNatUp]) (by simp[hl])
  ·rw[FB b hc];simp only[yx,af,ae,aa,seval,iteOmega,toNatUp];refine sD (hj) ?_;refine aV (ol b n) (fun i=>0-i) (fun i=>i=0) 0 rfl ?_ ?_
   ·refine ap (fun _=>64) ?_ ?_ rfl rfl <;> simp only[wx,aj,ar,aa,seval,iteOmega,toNatUp,h0]
   ·rintro i rfl;by_cases h1:n<1
    ·simp only[pO,ol,h0,ae,aa,seval,iteOmega,toNatUp];exact en (id:=1) (n:=b.length) (s:=1) (by simp only[wx,aa,seval,iteOmega,toNatUp]) (by simp only[wx,aa,seval,iteOmega,toNatUp]) (by simp)
    ·have h2:64<n:=by omega
     simp only[pO,ol,h0,ae,aa,seval,iteOmega,toNatUp];exact en (id:=1) (n:=b.length) (s:=1) (by simp only[wx,aa,seval,iteOmega,toNatUp]) (by simp only[wx,aa,seval,iteOmega,toNatUp]) (by simp)
def dG (b:List UInt8) (j:Nat):UInt8:=if j<15 then jh (cH (b.getD j 0) 1) (ci (b.getD (j+1) 0) 7) else cH (b.getD j 0) 1
def gA (b:List UInt8):List UInt8:=(List.range 16).map (dG b)
theorem tC (b:List UInt8):(gA b).length=16:=by simp[gA]
theorem tD (b:List UInt8) {j:Nat} (h:j<16):(gA b)[j]?=some (dG b j):=by simp[gA,h]
def pj (b:List UInt8):UInt8:=iq (fS (b.getD 0 0) 7) 135
theorem FE {b:List UInt8} (h:b.length=16):(gA b).set 15 (am (dG b 15) (pj b))=dl b:=by
  unfold dl;rw[if_pos h];apply Zz;intro j;rw[List.getElem?_set];by_cases hj:j<16
  ·rw[qm _ hj];have hd:∀ k,aK b k=b.getD k 0:=fun _=>rfl
   by_cases h15:15=j
   ·subst h15;rw[if_pos rfl,if_pos (by rw[tC]; decide)];simp only[dG,AS,hd,pj,Nat.lt_irrefl,if_false,if_true,pL]
   ·rw[if_neg h15,tD _ hj];have:j<15:=by omega
    simp only[dG,AS,hd,if_pos this,if_neg (show ¬ j=15 by omega),pL,U2]
  ·rw[if_neg (by omega),Y3 (by rw[tC]; omega),Y3 (by rw[fY]; omega)]
theorem QV (b:List UInt8):bM .mul (.w (.c (.d (bD (ci (b.getD 0 0) 7))))) (.w (.c (.d (.int .u8 135))))=some (bD (pj b)):=by
  have key:=jD (p:=fun x=>(ci x 7).toNat*135%256==(iq (fS x 7) 135).toNat) (by decide +kernel) (b.getD 0 0);rw[beq_iff_eq] at key
  show bA .mul .u8 _ .u8 _=_
  rw[xy,IntKind.wrap_u8];unfold pj bD;rw[← key]
  congr 2
theorem SL (b:List UInt8):(ci (b.getD 0 0) 7==1)=fS (b.getD 0 0) 7:=by
  have key:=jD (p:=fun x=>(ci x 7==1)==fS x 7) (by decide +kernel) (b.getD 0 0);rw[beq_iff_eq] at key;exact key
theorem QW (x:UInt8):jh x 0=x:=by
  have key:=jD (p:=fun x=>jh x 0==x) (by decide +kernel) x;rw[beq_iff_eq] at key;exact key
theorem Yj:bD 0=.int .u8 0:=rfl
def ni (b:List UInt8) (m:Nat):UInt8:=if m<16 then ci (b.getD m 0) 7 else 0
theorem QX (b:List UInt8) {q:Nat} (h:q<16):jh (cH (b.getD q 0) 1) (ni b (q+1))=dG b q:=by
  unfold ni dG;by_cases h2:q<15
  ·rw[if_pos (by omega),if_pos h2]
  ·rw[if_neg (by omega),if_neg h2,QW]
theorem U4 (b:List UInt8) {q:Nat} (h:q<16):ci (b.getD q 0) 7=ni b q:=(if_pos h).symm
def ji (l:List UInt8) (m:Nat):List UInt8:=List.replicate m 0++l.drop m
theorem SN {l:List UInt8} {m:Nat} (h:m≤l.length):(ji l m).length=l.length:=by
  unfold ji; rw[Yr,YK,Yw]; omega
theorem QY (l:List UInt8):ji l 0=l:=by simp[ji]
theorem QZ {l:List UInt8} {m:Nat} (h:l.length=m):ji l m=List.replicate m 0:=by
  unfold ji; rw[Y8 (by omega),Yy]
theorem Q0 {l:List UInt8} {q:Nat} (h:q<l.length):(ji l (q+1)).set q (l.getD q 0)=ji l q:=by
  unfold ji;rw[ZI,YY,ZR _ _ (by simp),YK,Nat.sub_self,List.drop_eq_getElem_cons h,Ys,Yn h];rfl
def AU (b:List UInt8) (m:Nat):St:=⟨aP [(0,.w (.c (.d (.sl (b.map bD))))),(3,.w (.c (.own 1 1 0 16))),(4,.w (.c (.d (bD (ni b m))))),(5,.w (.c (.d (.int .i64 ((m:Int)-1)))))],hL [(1,.row 1 ((ji (gA b) m).map bD))],uL [1]⟩
theorem HO {b:List UInt8} (h:b.length≠16):dl b=[]:=if_neg h
def xN:aN := .seq (.seq (.reg [oM 10 5,oO 11 (.bin .geq (.t 10) (kI 0))]) (.cond (.t 11) (.skip) (.exit 0))) (.seq (.block 1 (.seq (.reg [oM 14 3,oM 15 5,oM 16 0,oM 17 5,oO 18 (.idxSl 1 (.t 16) (.t 17)),oO 19 (.load .sc (.t 18)),oO 20 (.bin .shl (.t 19) (.k (.c (.d (.int .u64 1))))),oM 21 4,oO 22 (.bin .or (.t 20) (.t 21)),oO 23 (.idxSl 1 (.t 14) (.t 15)),oN (.store .sc (.t 23) (.t 22))]) (.reg [oM 24 0,oM 25 5,oO 26 (.idxSl 1 (.t 24) (.t 25)),oO 27 (.load .sc (.t 26)),oO 28 (.bin .shr (.t 27) (.k (.c (.d (.int .u64 7))))),oM 4 28]))) (.reg [oM 12 5,oO 13 (.bin .sub (.t 12) (kI 1)),oM 5 13]))
def zu:aD:=⟨1,37,.seq (.reg [oO 2 (.mv (.k (.c .nil)))]) (.seq (.seq (.reg [oM 6 0,oO 7 (.len (.t 6)),oO 8 (.bin .neq (.t 7) (kI 16))]) (.cond (.t 8) (.seq (.reg [oO 2 (.mv (.k (.c .nil)))]) (.ret)) (.skip))) (.seq (.reg [oO 9 (.make true 1 1 (.int .u8 0) (kI 16) (kI 16)),oM 3 9]) (.seq (.reg [oO 4 (.mv (.k (.c (.d (.int .u8 0)))))]) (.seq (.seq (.reg [oO 5 (.mv (kI 15))]) (.block 0 (.loop xN))) (.seq (.reg [oM 29 3,oO 30 (.idxSl 1 (.t 29) (kI 15)),oO 31 (.load .sc (.t 30)),oM 32 4,oO 33 (.bin .mul (.t 32) (.k (.c (.d (.int .u8 135))))),oO 34 (.bin .xor (.t 31) (.t 33)),oO 35 (.idxSl 1 (.t 29) (kI 15)),oN (.store .sc (.t 35) (.t 34))]) (.seq (.reg [oM 36 3,oM 2 36]) (.ret))))))),[(2,none)]⟩
theorem U5:aB Tryz.prog { own:=[],comp:=[],frz:=[],nils:=[] } Tryz.f143=some zu:=by kernel_rfl
theorem uS (G:ah) (b:List UInt8) (hb:b.length≤9223372036854775807):au Tryz.prog G 143 [.sl (b.map bD)] (.w (.c (.fr 1 ((dl b).map bD)))):=by
  refine aF Tryz.func143 U5 rfl rfl ?_;by_cases h:b.length=16
  ·have hd:=FE h;have hl:=tC b;simp only[zu,af,ae,aa,seval,iteOmega,toNatUp,h,eC];refine aV (AU b) (fun m=>m) (fun m=>m≤16) 16 (Yz _) ?_ ?_
   ·have e1:ji (gA b) 16=aL 16 0:=QZ hl;have e2:ni b 16=0:=rfl;refine ap (fun i=>72) ?_ ?_ rfl rfl <;> simp only[wx,aj,ar,aa,seval,iteOmega,toNatUp,e1,e2,Yj]
   ·intro m hm;rcases m with _ | q
    ·have e0:=QY (gA b);have c0:ni b 0=ci (b.getD 0 0) 7:=rfl;have x1:=QV b;have g1:=tD b (j:=15) (by decide);have x2:=de (dG b 15) (pj b);have h3:15<(gA b).length:=by omega
     have hdl:(dl b).length=16:=jo h;simp only[xN,AU,e0,c0,ZO,Int.zero_sub,ae,aa,seval,iteOmega,toNatUp,aC,g1,x1,x2,dX h3 (dP _),fc,hd];exact en (id:=1) (n:=16) (s:=1) (by simp only[wx,aa,seval,iteOmega,toNatUp]) (by simp only[wx,aa,seval,iteOmega,toNatUp]) (by simp[hdl])
    ·have hq:q<16:=by omega
     have g1:b[q]?=some (b.getD q 0):=cN (by omega);have hl1:=SN (l:=gA b) (m:=q+1) (by omega);have h3:q<(ji (gA b) (q+1)).length:=by omega
     have x1:=qA (b.getD q 0) .u64 1 1 rfl (by decide);have x2:=pZ (cH (b.getD q 0) 1) (ni b (q+1));have x3:=oe (b.getD q 0) .u64 7 7 rfl (by decide);have c1:=QX b hq;have c2:=U4 b hq;have hs:=Q0 (l:=gA b) (q:=q) (by omega);have hg:(gA b).getD q 0=dG b q:=by rw[Ys,tD b hq]; rfl
     rw[hg] at hs;have sub:((q:Int)+1-1)=(q:Int):=by omega
     simp only[xN,AU,ae,aa,seval,iteOmega,toNatUp,sub,aC,g1,x1,x2,x3,c1,c2,h,dX h3 (dP _),fc,hs];refine aQ q (by omega) (by omega) (ap (fun i=>i) ?_ ?_ rfl rfl) <;> simp only[wx,aj,ar,aa,seval,iteOmega,toNatUp]
  ·rw[HO h];simp only[zu,af,ae,aa,seval,iteOmega,toNatUp];exact fm
def qU (b:List UInt8) (i:Nat):St:=⟨aP [(0,.w (.c (.d (.sl (b.map bD))))),(3,.w (.c (.own 1 1 0 16))),(4,.w (.c (.d (.int .i64 (i:Int)))))],hL [(1,.row 1 ((bg (dG b) (aL 16 0) i).map bD))],uL [1]⟩
def pP:aN := .seq (.seq (.reg [oM 9 4,oO 10 (.bin .lss (.t 9) (kI 16))]) (.cond (.t 10) (.skip) (.exit 0))) (.seq (.block 1 (.seq (.reg [oM 13 3,oM 14 4,oM 15 0,oM 16 4,oO 17 (.idxSl 1 (.t 15) (.t 16)),oO 18 (.load .sc (.t 17)),oO 19 (.bin .shl (.t 18) (.k (.c (.d (.int .u64 1))))),oO 20 (.idxSl 1 (.t 13) (.t 14)),oN (.store .sc (.t 20) (.t 19))]) (.seq (.reg [oM 21 4,oO 22 (.bin .lss (.t 21) (kI 15))]) (.cond (.t 22) (.reg [oM 23 3,oM 24 4,oM 25 3,oM 26 4,oO 27 (.idxSl 1 (.t 25) (.t 26)),oO 28 (.load .sc (.t 27)),oM 29 0,oM 30 4,oO 31 (.bin .add (.t 30) (kI 1)),oO 32 (.idxSl 1 (.t 29) (.t 31)),oO 33 (.load .sc (.t 32)),oO 34 (.bin .shr (.t 33) (.k (.c (.d (.int .u64 7))))),oO 35 (.bin .or (.t 28) (.t 34)),oO 36 (.idxSl 1 (.t 23) (.t 24)),oN (.store .sc (.t 36) (.t 35))]) (.skip)))))
 (.reg [oM 11 4,oO 12 (.bin .add (.t 11) (kI 1)),oM 4 12]))
def yy:aD:=⟨1,49,.seq (.reg [oO 2 (.mv (.k (.c .nil)))]) (.seq (.seq (.reg [oM 5 0,oO 6 (.len (.t 5)),oO 7 (.bin .neq (.t 6) (kI 16))]) (.cond (.t 7) (.seq (.reg [oO 2 (.mv (.k (.c .nil)))]) (.ret)) (.skip))) (.seq (.reg [oO 8 (.make true 1 1 (.int .u8 0) (kI 16) (kI 16)),oM 3 8]) (.seq (.seq (.reg [oO 4 (.mv (kI 0))]) (.block 0 (.loop pP))) (.seq (.seq (.reg [oM 37 0,oO 38 (.idxSl 1 (.t 37) (kI 0)),oO 39 (.load .sc (.t 38)),oO 40 (.bin .shr (.t 39) (.k (.c (.d (.int .u64 7))))),oO 41 (.bin .eql (.t 40) (.k (.c (.d (.int .u8 1)))))]) (.cond (.t 41) (.reg [oM 42 3,oM 43 3,oO 44 (.idxSl 1 (.t 43) (kI 15)),oO 45 (.load .sc (.t 44)),oO 46 (.bin .xor (.t 45) (.k (.c (.d (.int .u8 135))))),oO 47 (.idxSl 1 (.t 42) (kI 15)),oN (.store .sc (.t 47) (.t 46))]) (.skip))) (.seq (.reg [oM 48 3,
 oM 2 48]) (.ret)))))),[(2,none)]⟩
theorem SO:aB Tryz.prog { own:=[],comp:=[],frz:=[],nils:=[] } Tryz.f128=some yy:=by kernel_rfl
theorem qD (G:ah) (b:List UInt8) (hb:b.length≤9223372036854775807):au Tryz.prog G 128 [.sl (b.map bD)] (.w (.c (.fr 1 ((dl b).map bD)))):=by
  refine aF Tryz.func128 SO rfl rfl ?_;by_cases h:b.length=16
  ·have hd:=FE h;have hl:=tC b;have zl:(aL 16 (0:UInt8)).length=16:=aX _ _;simp only[yy,af,ae,aa,seval,iteOmega,toNatUp,h,eC];refine aV (qU b) (fun i=>16-i) (fun i=>i≤16) 0 (Yt _) ?_ ?_
   ·have e1:=jY (dG b) (aL 16 0);refine ap (fun i=>64) ?_ ?_ rfl rfl <;> simp only[wx,aj,ar,aa,seval,iteOmega,toNatUp,e1]
   ·intro i hi;by_cases hlt:i<16
    ·have g1:b[i]?=some (b.getD i 0):=cN (by omega);have hl1:=js (dG b) (aL 16 0) (i:=i) (by omega);have h3:i<(bg (dG b) (aL 16 0) i).length:=by omega
     have x1:=qA (b.getD i 0) .u64 1 1 rfl (by decide);have hs:=jZ (dG b) (aL 16 0) (i:=i) (by omega);by_cases h15:i<15
     ·have g2:b[i+1]?=some (b.getD (i+1) 0):=cN (by omega);have x2:=oe (b.getD (i+1) 0) .u64 7 7 rfl (by decide);have x3:=pZ (cH (b.getD i 0) 1) (ci (b.getD (i+1) 0) 7);have hdg:jh (cH (b.getD i 0) 1) (ci (b.getD (i+1) 0) 7)=dG b i:=(if_pos h15).symm;have h4:i<((bg (dG b) (aL 16 0) i).set i (cH (b.getD i 0) 1)).length:=by rw[Zl]; omega
      have g3:((bg (dG b) (aL 16 0) i).set i (cH (b.getD i 0) 1))[i]?=some (cH (b.getD i 0) 1):=List.getElem?_set_self (by omega);have hs2:((bg (dG b) (aL 16 0) i).set i (cH (b.getD i 0) 1)).set i (dG b i)=bg (dG b) (aL 16 0) (i+1):=by rw[List.set_set,hs]
      simp only[pP,qU,ae,aa,seval,iteOmega,toNatUp,aC,g1,x1,h,dX h3 (dP _),fc,g3,g2,x2,x3,dX h4 (dP _),hdg,hs2];refine aQ (i+1) (by omega) (by omega) (ap (fun i=>i) ?_ ?_ rfl rfl) <;> simp only[wx,aj,ar,aa,seval,iteOmega,toNatUp]
     ·have hdg:cH (b.getD i 0) 1=dG b i:=(if_neg h15).symm;rw[hdg] at x1;simp only[pP,qU,ae,aa,seval,iteOmega,toNatUp,aC,g1,x1,h,dX h3 (dP _),fc,hs];refine aQ (i+1) (by omega) (by omega) (ap (fun i=>i) ?_ ?_ rfl rfl) <;> simp only[wx,aj,ar,aa,seval,iteOmega,toNatUp]
    ·obtain rfl:i=16:=by omega
     have e1:bg (dG b) (aL 16 0) 16=gA b:=sW _ _ (by rw[aX]; decide);have g0:b[0]?=some (b.getD 0 0):=cN (by omega);have x1:=oe (b.getD 0 0) .u64 7 7 rfl (by decide);have x2:=ze (ci (b.getD 0 0) 7) 1 1 rfl;have hr:=SL b;rw[hr] at x2;have g1:=tD b (j:=15) (by decide);have h3:15<(gA b).length:=by omega
     have hdl:(dl b).length=16:=jo h;have hrb:pj b=iq (fS (b.getD 0 0) 7) 135:=rfl;cases hb7:fS (b.getD 0 0) 7
     ·rw[hb7] at x2 hrb;rw[hrb,show iq false 135=0 from rfl,pL] at hd;have hs:(gA b).set 15 (dG b 15)=gA b:=by
        apply Zz;intro j;rw[List.getElem?_set];by_cases hj:15=j
        ·subst hj;rw[if_pos rfl,if_pos h3,g1]
        ·rw[if_neg hj]
      rw[hs] at hd;simp only[pP,qU,e1,ae,aa,seval,iteOmega,toNatUp,aC,g0,x1,x2,h,hd];exact en (id:=1) (n:=16) (s:=1) (by simp only[wx,aa,seval,iteOmega,toNatUp]) (by simp only[wx,aa,seval,iteOmega,toNatUp]) (by simp[hdl])
     ·rw[hb7] at x2 hrb;rw[hrb,show iq true 135=135 from rfl] at hd;have x3:=tZ (dG b 15) 135 135 rfl;simp only[pP,qU,e1,ae,aa,seval,iteOmega,toNatUp,aC,g0,x1,x2,h,g1,x3,dX h3 (dP _),fc,hd];exact en (id:=1) (n:=16) (s:=1) (by simp only[wx,aa,seval,iteOmega,toNatUp]) (by simp only[wx,aa,seval,iteOmega,toNatUp]) (by simp[hdl])
  ·rw[HO h];simp only[yy,af,ae,aa,seval,iteOmega,toNatUp];exact fm
def ly (a b:List UInt8) (j:Nat):UInt8:=am (a.getD j 0) (b.getD j 0)
theorem SP {a b:List UInt8} {n:Nat} (ha:a.length=n) (hb:b.length=n):(List.range n).map (ly a b)=bB a b:=by
  apply Zz;intro j;by_cases hj:j<n
  ·have:=FA a b j (by omega) (by omega);have hl:j<(bB a b).length:=by rw[fH]; omega
   rw[cN hl,this];simp[hj,ly]
  ·rw[Y3 (by simpa using hj),Y3 (by rw[fH]; omega)]
def Af (a b:List UInt8) (i:Nat):St:=⟨aP [(0,.w (.c (.d (.sl (a.map bD))))),(1,.w (.c (.d (.sl (b.map bD))))),(5,.w (.c (.own 1 1 0 16))),(9,.w (.c (.d (.int .i64 16)))),(10,.w (.c (.d (.int .i64 (i:Int)))))],hL [(1,.row 1 ((bg (ly a b) (aL 16 0) i).map bD))],uL [1]⟩
def xO:aN := .seq (.reg [oO 11 (.bin .lss (.t 10) (.t 9))]) (.seq (.cond (.t 11) (.skip) (.exit 0)) (.seq (.block 1 (.seq (.reg [oM 12 10,oM 6 12]) (.reg [oM 13 5,oM 14 6,oM 15 0,oM 16 6,oO 17 (.idxSl 1 (.t 15) (.t 16)),oO 18 (.load .sc (.t 17)),oM 19 1,oM 20 6,oO 21 (.idxSl 1 (.t 19) (.t 20)),oO 22 (.load .sc (.t 21)),oO 23 (.bin .xor (.t 18) (.t 22)),oO 24 (.idxSl 1 (.t 13) (.t 14)),oN (.store .sc (.t 24) (.t 23))]))) (.reg [oO 25 (.bin .add (.t 10) (kI 1)),oM 10 25])))
def Kr:aD:=⟨2,27,.seq (.reg [oO 4 (.mv (.k (.c .nil)))]) (.seq (.reg [oO 7 (.make true 1 1 (.int .u8 0) (kI 16) (kI 16)),oM 5 7]) (.seq (.seq (.reg [oM 8 5,oO 9 (.len (.t 8)),oO 10 (.mv (kI 0))]) (.block 0 (.loop xO))) (.seq (.reg [oM 26 5,oM 4 26]) (.ret)))),[(4,none)]⟩
theorem U6:aB Tryz.prog { own:=[],comp:=[],frz:=[],nils:=[] } Tryz.f145=some Kr:=by kernel_rfl
theorem mU (G:ah) (a b:List UInt8) (ha:a.length=16) (hb:b.length=16):au Tryz.prog G 145 [.sl (a.map bD),.sl (b.map bD)] (.w (.c (.fr 1 ((bB a b).map bD)))):=by
  refine aF Tryz.func145 U6 rfl rfl ?_;have zl:(aL 16 (0:UInt8)).length=16:=aX _ _;simp only[Kr,af,ae,aa,seval,iteOmega,toNatUp,eC];refine aV (Af a b) (fun i=>16-i) (fun i=>i≤16) 0 (Yt _) ?_ ?_
  ·have e1:=jY (ly a b) (aL 16 0);refine ap (fun i=>56) ?_ ?_ rfl rfl <;> simp only[wx,aj,ar,aa,seval,iteOmega,toNatUp,e1]
  ·intro i hi;by_cases hlt:i<16
   ·have g1:a[i]?=some (a.getD i 0):=cN (by omega);have g2:b[i]?=some (b.getD i 0):=cN (by omega);have hl1:=js (ly a b) (aL 16 0) (i:=i) (by omega);have h3:i<(bg (ly a b) (aL 16 0) i).length:=by omega
    have x1:=de (a.getD i 0) (b.getD i 0);have hx:am (a.getD i 0) (b.getD i 0)=ly a b i:=rfl;have hs:=jZ (ly a b) (aL 16 0) (i:=i) (by omega);simp only[xO,Af,ae,aa,seval,iteOmega,toNatUp,aC,g1,g2,x1,ha,hb,dX h3 (dP _),fc,hx,hs];refine aQ (i+1) (by omega) (by omega) (ap (fun i=>i) ?_ ?_ rfl rfl) <;> simp only[wx,aj,ar,aa,seval,iteOmega,toNatUp]
   ·obtain rfl:i=16:=by omega
    have e1:bg (ly a b) (aL 16 0) 16=bB a b:=by rw[sW _ _ (by rw[aX]; decide),SP ha hb]
    have hl:(bB a b).length=16:=by rw[fH]; exact ha
    simp only[xO,Af,e1,ae,aa,seval,iteOmega,toNatUp];exact en (id:=1) (n:=16) (s:=1) (by simp only[wx,aa,seval,iteOmega,toNatUp]) (by simp only[wx,aa,seval,iteOmega,toNatUp]) (by simp[hl])
def fU (a b:List UInt8) (i:Nat):List UInt8:=bB a (b.take i)
theorem Q4 (a b:List UInt8) (i:Nat):(fU a b i).length=a.length:=fH _ _
theorem HP:∀ (a b:List UInt8) (i:Nat),i<b.length→(fU a b i)[i]?=a[i]?
  | [],_,_,_=>by simp[fU,bB]
  | x::a,b,0,_=>by simp[fU,xJ]
  | x::a,[],i+1,h=>by simp at h
  | x::a,y::b,i+1,h=>by
    show (fU a b i)[i]?=a[i]?
    exact HP a b i (by simpa using h)
theorem Dm:∀ (a b:List UInt8) (i:Nat),i<a.length→i<b.length→(fU a b i).set i (am (a.getD i 0) (b.getD i 0))=fU a b (i+1)
  | [],_,_,h,_=>by simp at h
  | x::a,[],_,_,h=>by simp at h
  | x::a,y::b,0,_,_=>by simp[fU,xJ,bB]
  | x::a,y::b,i+1,h,g=>by
    show am x y::(fU a b i).set i _=am x y::fU a b (i+1)
    rw[← Dm a b i (by simpa using h) (by simpa using g)];rfl
theorem xP:∀ (a b:List UInt8) (i:Nat),min a.length b.length≤i→fU a b i=bB a b
  | [],_,_,_=>by simp[fU,bB]
  | x::a,[],i,_=>by simp[fU]
  | x::a,y::b,0,h=>by simp at h
  | x::a,y::b,i+1,h=>by
    show am x y::fU a b i=am x y::bB a b
    rw[xP a b i (by simp at h; omega)]
def uT (a b:List UInt8) (i:Nat):St:=⟨aP [(1,.w (.c (.d (.sl (b.map bD))))),(5,.w (.c (.own 1 1 0 a.length))),(6,.w (.c (.d (.int .i64 (i:Int)))))],hL [(1,.row 1 ((fU a b i).map bD))],uL [1]⟩
def sA:aN := .seq (.seq (.reg [oM 10 6,oM 11 5,oO 12 (.len (.t 11)),oO 13 (.bin .lss (.t 10) (.t 12)),oM 14 13,oG 15 (.mv (.t 6)) 14 true,oG 16 (.mv (.t 1)) 14 true,oG 17 (.len (.t 16)) 14 true,oG 18 (.bin .lss (.t 15) (.t 17)) 14 true,oO 19 (.pick (.t 14) (.t 18) (.k (.c (.d (.bool false)))))]) (.cond (.t 19) (.skip) (.exit 0))) (.seq (.block 1 (.reg [oM 22 5,oM 23 6,oM 24 5,oM 25 6,oO 26 (.idxSl 1 (.t 24) (.t 25)),oO 27 (.load .sc (.t 26)),oM 28 1,oM 29 6,oO 30 (.idxSl 1 (.t 28) (.t 29)),oO 31 (.load .sc (.t 30)),oO 32 (.bin .xor (.t 27) (.t 31)),oO 33 (.idxSl 1 (.t 22) (.t 23)),oN (.store .sc (.t 33) (.t 32))])) (.reg [oM 20 6,oO 21 (.bin .add (.t 20) (kI 1)),oM 6 21]))
def HQ:aD:=⟨2,35,.seq (.reg [oO 4 (.mv (.k (.c .nil)))]) (.seq (.reg [oM 7 0,oO 8 (.bldSl false 1 1 (.sl []) [(0,(.t 7))]),oO 9 (.call 41 [(.t 8)] (some (0,1))),oM 5 9]) (.seq (.seq (.reg [oO 6 (.mv (kI 0))]) (.block 0 (.loop sA))) (.seq (.reg [oM 34 5,oM 4 34]) (.ret)))),[(4,none)]⟩
theorem SQ:aB Tryz.prog { own:=[9],comp:=[],frz:=[],nils:=[] } Tryz.f127=some HQ:=by kernel_rfl
theorem km (G:ah) (a b:List UInt8) (ha:a.length≤140737488355328) (hb:b.length≤9223372036854775807):au Tryz.prog G 127 [.sl (a.map bD),.sl (b.map bD)] (.w (.c (.fr 1 ((bB a b).map bD)))):=by
  refine aF Tryz.func127 SQ rfl rfl ?_;have hj:=eo G [a] (by simp) (by simp; omega);have hf:[a].flatten=a:=by simp
  rw[hf] at hj;simp only[HQ,af,ae,aa,seval,iteOmega,toNatUp];refine sD (hj) ?_;obtain⟨M,hM⟩:∃ M,M=min a.length b.length:=⟨_,rfl⟩
  refine aV (uT a b) (fun i=>M-i) (fun i=>i≤M) 0 (Yt _) ?_ ?_
  ·have e1:fU a b 0=a:=by simp[fU,xJ]
   refine ap (fun i=>72) ?_ ?_ rfl rfl <;> simp only[wx,aj,ar,aa,seval,iteOmega,toNatUp,e1]
  ·intro i hi;have hl:=Q4 a b i;by_cases h1:i<a.length
   ·by_cases h2:i<b.length
    ·have g1:a[i]?=some (a.getD i 0):=cN (by omega);have g2:b[i]?=some (b.getD i 0):=cN (by omega);have g3:=HP a b i h2;rw[g1] at g3;have h3:i<(fU a b i).length:=by omega
     have x1:=de (a.getD i 0) (b.getD i 0);have hs:=Dm a b i h1 h2;simp only[sA,uT,ae,aa,seval,iteOmega,toNatUp,aC,g3,g2,x1,hl,dX h3 (dP _),fc,hs];refine aQ (i+1) (by omega) (by omega) (ap (fun i=>i) ?_ ?_ rfl rfl) <;> simp only[wx,aj,ar,aa,seval,iteOmega,toNatUp]
    ·have e1:=xP a b i (by omega);rw[e1] at hl;simp only[sA,uT,e1,ae,aa,seval,iteOmega,toNatUp];exact en (id:=1) (n:=a.length) (s:=1) (by simp only[wx,aa,seval,iteOmega,toNatUp]) (by simp only[wx,aa,seval,iteOmega,toNatUp]) (by simp[hl])
   ·have e1:=xP a b i (by omega);rw[e1] at hl;simp only[sA,uT,e1,ae,aa,seval,iteOmega,toNatUp];exact en (id:=1) (n:=a.length) (s:=1) (by simp only[wx,aa,seval,iteOmega,toNatUp]) (by simp only[wx,aa,seval,iteOmega,toNatUp]) (by simp[hl])
theorem HR {key b:List UInt8} (h:key.length=16) (hb:b.length=16):vD key b=cW (ak key) b:=if_pos ⟨h,hb⟩
theorem HS {key b:List UInt8} (h:key.length=16) (hb:b.length=16):rt key b=0:=by unfold rt; rw[if_neg (by omega),if_neg (by omega)]
theorem tE (b:List UInt8):dJ b 16=gv b:=rfl
def gR (key:List UInt8):D:=.agg [.sl (key.map bD),.sl ((fA (ak key)).map bD),.sl ((iK (ak key)).map bD)]
def rF (key:List UInt8):D:=if key.length=16 then gR key else .agg [.sl [],.sl [],.sl []]
theorem qV (s:Nat) (l:List UInt8) (k:IntKind) (n:Int):V.flat (.tup [.c (.fr s (l.map bD)),.c (.d (.int k n))])=true:=by
  have:=eU s l;simp only[V.flat,W.flat,Z4,List.all_nil,Bool.and_true] at this ⊢;rw[this]; rfl
def HT:aD:=⟨2,15,.seq (.reg [oO 2 (.box .roBox (.t 0)),oO 4 (.mv (.k (.c .nil)))]) (.seq (.reg [oO 8 (.fieldAddr 0 (.t 2)),oO 9 (.load .sc (.t 8)),oM 10 1,oO 11 (.call 142 [(.t 9),(.t 10)] (some (0,1))),oM 7 11,oO 12 (.extract (.t 7) 0),oO 13 (.extract (.t 7) 1),oM 5 12,oM 6 13]) (.seq (.reg [oM 14 5,oM 4 14]) (.ret))),[(4,none)]⟩
theorem SR:aB Tryz.prog { own:=[],comp:=[(11,0)],frz:=[],nils:=[] } Tryz.f148=some HT:=by kernel_rfl
theorem Ks (G:ah) (key b:List UInt8) (h:key.length=16) (hb:b.length=16):au Tryz.prog G 148 [.agg [.sl (key.map bD)],.sl (b.map bD)] (.w (.c (.fr 1 ((cW (ak key) b).map bD)))):=by
  refine aF Tryz.func148 SR rfl rfl ?_;have hx:=Ae G key b (by omega) (by omega);rw[HR h hb,HS h hb] at hx;simp only[HT,af,ae,aa,seval,iteOmega,toNatUp];refine sD (hx) ?_;exact fm
theorem U7 (G:ah) (key b:List UInt8) (h:key.length=16) (hb:b.length=16):au Tryz.prog G 148 [.agg [.sl (key.map bD)],.sl (b.map bD)] (.w (.c (.d (.sl ((cW (ak key) b).map bD))))):=kj (Ks G key b h hb)
def yz:aD:=⟨1,25,.seq (.reg [oO 2 (.alloc [.nil,.nil,.nil]),oO 3 (.mv (kI 0))]) (.seq (.reg [oM 8 0,oO 9 (.make true 1 1 (.int .u8 0) (kI 16) (kI 16)),oO 10 (.call 142 [(.t 8),(.t 9)] none),oM 7 10,oO 11 (.extract (.t 7) 0),oO 12 (.extract (.t 7) 1),oM 4 11,oM 5 12]) (.seq (.seq (.reg [oM 13 5,oO 14 (.bin .neq (.t 13) (kI 0))]) (.cond (.t 14) (.seq (.reg [oO 15 (.build [.nil,.nil,.nil] []),oM 16 5,oN (.store (.ag 3) (.t 2) (.t 15)),oM 3 16]) (.ret)) (.skip))) (.seq (.reg [oM 17 4,oO 18 (.call 143 [(.t 17)] none),oM 6 18]) (.seq (.reg [oM 19 0,oO 20 (.build [.nil] [(0,1,(.t 19))]),oM 21 6,oM 22 6,oO 23 (.call 143 [(.t 22)] none),oO 24 (.build [.nil,.nil,.nil] [(0,1,(.t 20)),(1,1,(.t 21)),(2,1,(.t 23))]),oN (.store (.ag 3) (.t 2) (.t 24)),oO 3 (.mv (kI 0))]) (.ret))))),[(2,(some (.ag 3))),(3,none)]⟩
theorem SS:aB Tryz.prog { own:=[],comp:=[],frz:=[],nils:=[] } Tryz.f133=some yz:=by kernel_rfl
theorem U8 (G:ah) (key:List UInt8) (hk:key.length≤9223372036854775807):au Tryz.prog G 133 [.sl (key.map bD)] (.tup [.c (.d (rF key)),.c (.d (.int .i64 (m9 key)))]):=by
  refine aF Tryz.func133 SS rfl rfl ?_;have t0:(aL 16 (0:UInt8)).take 16=dE:=rfl;by_cases h:key.length=16
  ·have hx:=Ae G key dE (by omega) (by decide);rw[HR h (by decide),HS h (by decide)] at hx;have hv:rF key=gR key:=if_pos h;have he:m9 key=0:=by unfold m9; rw[if_neg (by omega)]
   have h1:=uS G (cW (ak key) dE) (by rw[ii]; decide);have h2:=uS G (fA (ak key)) (by rw[my]; decide);have s1:dl (cW (ak key) dE)=fA (ak key):=rfl;have s2:dl (fA (ak key))=iK (ak key):=rfl;rw[s1] at h1;rw[s2] at h2;rw[hv,he];simp only[yz,af,ae,aa,seval,iteOmega,toNatUp,eC];refine aY hx (by simp only[ae,aa,seval,iteOmega,toNatUp,bo,t0,aX]) (.inr (qV _ _ _ _)) ?_;simp only[ae,aa,seval,iteOmega,toNatUp];refine sD (h1) ?_;refine sD (h2) ?_;exact cM (by simp only[ae,aa,seval,iteOmega,toNatUp,gR]) (by simp only[ae,aa,seval,iteOmega,toNatUp])
  ·have hv:rF key=.agg [.sl [],.sl [],.sl []]:=if_neg h;have he:m9 key=5:=if_pos h;have hx:=Ae G key dE (by omega) (by decide);have v1:vD key dE=[]:=if_neg (fun k=>h k.1);have v2:rt key dE=5:=if_pos h;rw[v1,v2] at hx;rw[hv,he];simp only[yz,af,ae,aa,seval,iteOmega,toNatUp,eC];refine aY hx (by simp only[ae,aa,seval,iteOmega,toNatUp,bo,t0,aX]) (.inr (qV _ _ _ _)) ?_;simp only[ae,aa,seval,iteOmega,toNatUp];exact cF
def HU:aD:=⟨1,8,.seq (.reg [oO 2 (.mv (.k (.c .nil)))]) (.seq (.reg [oM 3 0,oO 4 (.bldSl false 1 1 (.int .u8 0) [(0,(.k (.c (.d (.int .u8 128)))))]),oO 5 (.bldSl false 2 1 (.sl []) [(0,(.t 3)),(1,(.t 4))]),oO 6 (.call 50 [(.t 5)] none),oO 7 (.call 82 [(.t 6),(kI 16)] none),oM 2 7]) (.ret)),[(2,none)]⟩
theorem SU:aB Tryz.prog { own:=[],comp:=[],frz:=[],nils:=[] } Tryz.f150=some HU:=by kernel_rfl
theorem Kt (G:ah) (b:List UInt8) (hb:b.length≤70000):au Tryz.prog G 150 [.sl (b.map bD)] (.w (.c (.d (.sl ((gv (b++[128])).map bD))))):=by
  refine aF Tryz.func150 SU rfl rfl ?_;have hj:=eJ G [b,[128]] (by simp) (by simp; omega);have hf:[b,[128]].flatten=b++[128]:=by simp
  rw[hf] at hj;have hp:=uR G (b++[128]) 16 (by simp; omega);rw[tE] at hp;simp only[HU,af,ae,aa,seval,iteOmega,toNatUp];refine sD (hj) ?_;refine sD (hp) ?_;exact aG
theorem wY (rk:List UInt8) {e:List UInt8} (h:e.length=16):ir rk e=bB e (fA rk):=if_pos h
theorem wZ (rk:List UInt8) {e:List UInt8} (h:e.length≠16):ir rk e=bB (gv (e++[128])) (iK rk):=if_neg h
def xQ:aD:=⟨2,17,.seq (.reg [oO 2 (.box .roBox (.t 0)),oO 4 (.mv (.k (.c .nil)))]) (.seq (.seq (.reg [oM 5 1,oO 6 (.len (.t 5)),oO 7 (.bin .eql (.t 6) (kI 16))]) (.cond (.t 7) (.seq (.reg [oM 8 1,oO 9 (.fieldAddr 1 (.t 2)),oO 10 (.load .sc (.t 9)),oO 11 (.call 145 [(.t 8),(.t 10)] none),oM 4 11]) (.ret)) (.skip))) (.seq (.reg [oM 12 1,oO 13 (.call 150 [(.t 12)] none),oO 14 (.fieldAddr 2 (.t 2)),oO 15 (.load .sc (.t 14)),oO 16 (.call 145 [(.t 13),(.t 15)] none),oM 4 16]) (.ret))),[(4,none)]⟩
theorem Q5:aB Tryz.prog { own:=[],comp:=[],frz:=[],nils:=[] } Tryz.f149=some xQ:=by kernel_rfl
theorem SV (G:ah) (key b:List UInt8) (hb:b.length≤16):au Tryz.prog G 149 [gR key,.sl (b.map bD)] (.w (.c (.d (.sl ((ir (ak key) b).map bD))))):=by
  refine aF Tryz.func149 Q5 rfl rfl ?_;by_cases h:b.length=16
  ·rw[wY _ h];simp only[xQ,af,gR,ae,aa,seval,iteOmega,toNatUp,h];refine sD (mU G b (fA (ak key)) h (my _)) ?_;exact aG
  ·rw[wZ _ h];simp only[xQ,af,gR,ae,aa,seval,iteOmega,toNatUp];refine sD (Kt G b (by omega)) ?_;refine sD (mU G (gv (b++[128])) (iK (ak key)) (nv (by omega)) (xK _)) ?_;exact aG
def mi (key b:List UInt8):Nat→V
  | 0=>.w (.c (.own 1 1 0 16))
  | i+1=>.w (.c (.d (.sl ((dm (ak key) b (i+1)).map bD))))
def qW (key b:List UInt8) (i:Nat):St:=⟨aP [(1,.w (.c (.d (.sl ((b.drop (16*i)).map bD))))),(2,.w (.c (.rp [.sl (key.map bD),.sl ((fA (ak key)).map bD),.sl ((iK (ak key)).map bD)]))),(5,mi key b i)],hL [(1,.row 1 ((aL 16 (0:UInt8)).map bD))],uL [1]⟩
theorem U9 (b:List UInt8) (i:Nat):((b.drop (16*i)).drop 16).take ((b.drop (16*i)).length-16)=b.drop (16*(i+1)):=by
  rw[List.drop_drop,Yo (by simp only[Yw]; omega)]; rfl
def pQ:aN := .seq (.seq (.reg [oM 7 1,oO 8 (.len (.t 7)),oO 9 (.bin .gtr (.t 8) (kI 16))]) (.cond (.t 9) (.skip) (.exit 0))) (.block 1 (.seq (.reg [oO 10 (.fieldAddr 0 (.t 2)),oO 11 (.load (.ag 1) (.t 10)),oM 12 5,oM 13 1,oO 14 (.slice 1 (.t 13) none (some (kI 16)) none),oO 15 (.call 145 [(.t 12),(.t 14)] none),oO 16 (.call 148 [(.t 11),(.t 15)] none),oM 5 16]) (.reg [oM 17 1,oO 18 (.slice 1 (.t 17) (some (kI 16)) none none),oM 1 18])))
def HV:aD:=⟨2,27,.seq (.reg [oO 2 (.box .roBox (.t 0)),oO 4 (.mv (.k (.c .nil)))]) (.seq (.reg [oO 6 (.make true 1 1 (.int .u8 0) (kI 16) (kI 16)),oM 5 6]) (.seq (.block 0 (.loop pQ)) (.seq (.reg [oO 19 (.fieldAddr 0 (.t 2)),oO 20 (.load (.ag 1) (.t 19)),oM 21 5,oO 22 (.load (.ag 3) (.t 2)),oM 23 1,oO 24 (.call 149 [(.t 22),(.t 23)] none),oO 25 (.call 145 [(.t 21),(.t 24)] none),oO 26 (.call 148 [(.t 20),(.t 25)] (some (0,1))),oM 4 26]) (.ret)))),[(4,none)]⟩
theorem SY:aB Tryz.prog { own:=[26],comp:=[],frz:=[],nils:=[] } Tryz.f144=some HV:=by kernel_rfl
theorem ub (G:ah) (key b:List UInt8) (h:key.length=16) (hb:b.length≤70000):au Tryz.prog G 144 [gR key,.sl (b.map bD)] (.w (.c (.fr 1 ((fB (ak key) b).map bD)))):=by
  refine aF Tryz.func144 SY rfl rfl ?_;have t0:(aL 16 (0:UInt8)).take 16=dE:=rfl;have hah:fI b=(b.length+15) / 16-1:=rfl;have hm:∀ i,i=fI b→fB (ak key) b=cW (ak key) (bB (dm (ak key) b i) (ir (ak key) (b.drop (16*i)))):=fun i e=>by rw[e]; rfl
  simp only[HV,af,gR,ae,aa,seval,iteOmega,toNatUp,eC];refine aV (qW key b) (fun i=>fI b-i) (fun i=>i≤fI b) 0 (Yt _) ?_ ?_
  ·refine ap (fun i=>48) ?_ ?_ rfl rfl <;> simp only[wx,aj,ar,aa,seval,iteOmega,toNatUp,mi]
  ·intro i hi;have hcl:(b.drop (16*i)).length=b.length-16*i:=Yw;have hdr:=U9 b i;by_cases hlt:i<fI b
   ·have hT:((b.drop (16*i)).take 16).length=16:=by rw[Yu]; omega
    have hstep:cW (ak key) (bB (dm (ak key) b i) ((b.drop (16*i)).take 16))=dm (ak key) b (i+1):=rfl;have h1:=mU G (dm (ak key) b i) ((b.drop (16*i)).take 16) (j6 _ _ _) hT;have h2:=U7 G key (bB (dm (ak key) b i) ((b.drop (16*i)).take 16)) h (by rw[fH,j6]);rw[hstep] at h2;rcases i with _ | i
    ·have hz:dm (ak key) b 0=dE:=rfl;rw[hz] at h1 h2;simp only[Z2,ZP,Zr,ZS] at hdr;simp only[pQ,qW,mi,ae,aa,seval,iteOmega,toNatUp];refine aY h1 (by simp only[ae,aa,seval,iteOmega,toNatUp,bo,t0,aX]) (.inr (eU _ _)) ?_;simp only[ae,aa,seval,iteOmega,toNatUp];refine sC (h2) ?_;simp only[hdr,ae,aa,seval,iteOmega,toNatUp];refine aQ (0+1) (by omega) (by omega) (ap (fun i=>i) ?_ ?_ rfl rfl) <;> simp only[wx,aj,ar,aa,seval,iteOmega,toNatUp,mi]
    ·simp only[pQ,qW,mi,ae,aa,seval,iteOmega,toNatUp];refine sD (h1) ?_;refine sC (h2) ?_;simp only[hdr,ae,aa,seval,iteOmega,toNatUp];refine aQ (i+1+1) (by omega) (by omega) (ap (fun i=>i) ?_ ?_ rfl rfl) <;> simp only[wx,aj,ar,aa,seval,iteOmega,toNatUp,mi]
   ·rw[hm i (by omega)];have hl16:(b.drop (16*i)).length≤16:=by omega
    have h1:=SV G key (b.drop (16*i)) hl16;have h2:=mU G (dm (ak key) b i) (ir (ak key) (b.drop (16*i))) (j6 _ _ _) (xL hl16);have h3:=Ks G key (bB (dm (ak key) b i) (ir (ak key) (b.drop (16*i)))) h (by rw[fH,j6]);rcases i with _ | i
    ·have hz:dm (ak key) b 0=dE:=rfl;rw[hz] at h2 h3 ⊢;simp only[pQ,qW,mi,ae,aa,seval,iteOmega,toNatUp];refine sD (h1) ?_;refine aY h2 (by simp only[ae,aa,seval,iteOmega,toNatUp,bo,t0,aX]) (.inr (eU _ _)) ?_;simp only[ae,aa,seval,iteOmega,toNatUp];refine sD (h3) ?_;exact fm
    ·simp only[pQ,qW,mi,ae,aa,seval,iteOmega,toNatUp];refine sD (h1) ?_;refine sD (h2) ?_;refine sD (h3) ?_;exact fm
theorem Va (G:ah) (key b:List UInt8) (h:key.length=16) (hb:b.length≤70000):au Tryz.prog G 144 [gR key,.sl (b.map bD)] (.w (.c (.d (.sl ((fB (ak key) b).map bD))))):=kj (ub G key b h hb)
def yA:aD:=⟨2,26,.seq (.reg [oO 4 (.mv (.k (.c .nil)))]) (.seq (.reg [oM 6 0,oO 7 (.len (.t 6)),oO 8 (.bin .sub (.t 7) (kI 16)),oM 5 8]) (.seq (.seq (.reg [oM 9 5,oO 10 (.bin .lss (.t 9) (kI 0))]) (.cond (.t 10) (.seq (.reg [oM 11 1,oO 12 (.call 143 [(.t 11)] none),oM 13 0,oO 14 (.call 150 [(.t 13)] none),oO 15 (.call 145 [(.t 12),(.t 14)] none),oM 4 15]) (.ret)) (.skip))) (.seq (.reg [oM 16 0,oM 17 5,oO 18 (.slice 1 (.t 16) none (some (.t 17)) none),oM 19 0,oM 20 5,oO 21 (.slice 1 (.t 19) (some (.t 20)) none none),oM 22 1,oO 23 (.call 145 [(.t 21),(.t 22)] none),oO 24 (.bldSl false 2 1 (.sl []) [(0,(.t 18)),(1,(.t 23))]),oO 25 (.call 50 [(.t 24)] none),oM 4 25]) (.ret)))),[(4,none)]⟩
theorem SZ:aB Tryz.prog { own:=[],comp:=[],frz:=[],nils:=[] } Tryz.f146=some yA:=by kernel_rfl
theorem Vb (G:ah) (s d:List UInt8) (hs:s.length≤70000) (hd:d.length=16):au Tryz.prog G 146 [.sl (s.map bD),.sl (d.map bD)] (.w (.c (.d (.sl ((if 16≤s.length then s.take (s.length-16)++bB (s.drop (s.length-16)) d else bB (dl d) (gv (s++[128]))).map bD))))):=by
  refine aF Tryz.func146 SZ rfl rfl ?_;by_cases h:16≤s.length
  ·rw[if_pos h];have hl:(s.drop (s.length-16)).length=16:=by rw[Yw]; omega
   have ht:(s.drop (s.length-16)).take (s.length-(s.length-16))=s.drop (s.length-16):=Yo (by omega);have hj:=eJ G [s.take (s.length-16),bB (s.drop (s.length-16)) d] (by simp) (by simp[fH]; omega);have hf:[s.take (s.length-16),bB (s.drop (s.length-16)) d].flatten=s.take (s.length-16)++bB (s.drop (s.length-16)) d:=by simp
   rw[hf] at hj;have e1:(((s.length:Int)-16).toNat)=s.length-16:=by omega
   simp only[yA,af,ae,aa,seval,iteOmega,toNatUp,e1,ht];refine sD (mU G (s.drop (s.length-16)) d hl hd) ?_;refine sD (hj) ?_;exact aG
  ·rw[if_neg h];simp only[yA,af,ae,aa,seval,iteOmega,toNatUp];refine sD (uS G d (by omega)) ?_;refine sD (Kt G s (by omega)) ?_;refine sD (mU G (dl d) (gv (s++[128])) (jo hd) (nv (by omega))) ?_;exact aG
def Ag (key:List UInt8) (l:List (List UInt8)) (i:Nat):St:=⟨aP [(1,.w (.c (.d (.sl (l.map fun l=>D.sl (l.map bD)))))),(2,.w (.c (.rp [.sl (key.map bD),.sl ((fA (ak key)).map bD),.sl ((iK (ak key)).map bD)]))),(5,.w (.c (.d (.sl ((eV (ak key) l i).map bD))))),(6,.w (.c (.d (.int .i64 ((l.length:Int)-1))))),(23,.w (.c (.d (.sl ((l.take (l.length-1)).map fun l=>D.sl (l.map bD)))))),(24,.w (.c (.d (.int .i64 ((l.length:Int)-1))))),(25,.w (.c (.d (.int .i64 (i:Int)))))],hL [(1,.row 1 ((aL 16 (0:UInt8)).map bD))],uL [1]⟩
theorem Dn (rk:List UInt8) {l:List (List UInt8)} (h:l.length=0):iu rk l=fB rk (aI 1 16):=by
  unfold iu; rw[if_pos h]; congr 1
theorem w5 (rk:List UInt8) {l:List (List UInt8)} (h:l.length≠0):iu rk l=fB rk (if 16≤(l.getD (l.length-1) []).length then (l.getD (l.length-1) []).take ((l.getD (l.length-1) []).length-16)++bB ((l.getD (l.length-1) []).drop ((l.getD (l.length-1) []).length-16)) (eV rk l (l.length-1)) else bB (dl (eV rk l (l.length-1))) (gv (l.getD (l.length-1) []++[128]))):=by
  unfold iu; rw[if_neg h]; dsimp only; split <;> rfl
theorem nO {l:List (List UInt8)} {j:Nat} (h:j<l.length):l[j]?=some (l.getD j []):=by
  rw[Ys,Yn h]; rfl
theorem mz {l:List (List UInt8)} {j:Nat} (h:j<l.length):l.getD j []∈l:=by
  rw[Ys,Yn h]; exact YQ h
def w6:aN := .seq (.reg [oO 26 (.bin .lss (.t 25) (.t 24))]) (.seq (.cond (.t 26) (.skip) (.exit 0)) (.seq (.block 1 (.seq (.reg [oO 27 (.idxSl 1 (.t 23) (.t 25)),oO 28 (.load .sc (.t 27)),oM 8 28]) (.reg [oM 29 5,oO 30 (.call 143 [(.t 29)] none),oO 31 (.load (.ag 3) (.t 2)),oM 32 8,oO 33 (.call 144 [(.t 31),(.t 32)] none),oO 34 (.call 145 [(.t 30),(.t 33)] none),oM 5 34]))) (.reg [oO 35 (.bin .add (.t 25) (kI 1)),oM 25 35])))
def yB:aD:=⟨2,44,.seq (.reg [oO 2 (.box .roBox (.t 0)),oO 4 (.mv (.k (.c .nil)))]) (.seq (.seq (.reg [oM 9 1,oO 10 (.len (.t 9)),oO 11 (.bin .eql (.t 10) (kI 0))]) (.cond (.t 11) (.seq (.reg [oO 12 (.load (.ag 3) (.t 2)),oO 13 (.call 81 [(.k (.c (.d (.int .u64 1)))),(kI 16)] none),oO 14 (.call 144 [(.t 12),(.t 13)] (some (0,1))),oM 4 14]) (.ret)) (.skip))) (.seq (.reg [oO 15 (.load (.ag 3) (.t 2)),oO 16 (.make true 1 1 (.int .u8 0) (kI 16) (kI 16)),oO 17 (.call 144 [(.t 15),(.t 16)] none),oM 5 17]) (.seq (.reg [oM 18 1,oO 19 (.len (.t 18)),oO 20 (.bin .sub (.t 19) (kI 1)),oM 6 20]) (.seq (.seq (.reg [oM 21 1,oM 22 6,oO 23 (.slice 1 (.t 21) none (some (.t 22)) none),oO 24 (.len (.t 23)),oO 25 (.mv (kI 0))]) (.block 0 (.loop w6))) (.seq (.reg [oO 36 (.load (.ag 3) (.t 2)),oM 37 1,
 oM 38 6,oO 39 (.idxSl 1 (.t 37) (.t 38)),oO 40 (.load .sc (.t 39)),oM 41 5,oO 42 (.call 146 [(.t 40),(.t 41)] none),oO 43 (.call 144 [(.t 36),(.t 42)] (some (0,1))),oM 4 43]) (.ret)))))),[(4,none)]⟩
theorem S0:aB Tryz.prog { own:=[14,43],comp:=[],frz:=[],nils:=[] } Tryz.f134=some yB:=by kernel_rfl
theorem Vd (G:ah) (key:List UInt8) (l:List (List UInt8)) (h:key.length=16) (hl:l.length≤17) (hb:∀ x∈l,x.length≤65535):au Tryz.prog G 134 [gR key,.sl (l.map fun l=>D.sl (l.map bD))] (.w (.c (.fr 1 ((iu (ak key) l).map bD)))):=by
  refine aF Tryz.func134 S0 rfl rfl ?_;have t0:(aL 16 (0:UInt8)).take 16=dE:=rfl;by_cases h0:l.length=0
  ·rw[Dn _ h0];simp only[yB,af,gR,ae,aa,seval,iteOmega,toNatUp,h0];refine sD (zh G 1 16 (by decide)) ?_;refine sD (ub G key (aI 1 16) h (by rw[dD]; decide)) ?_;exact fm
  ·rw[w5 _ h0];have e1:(((l.length:Int)-1).toNat)=l.length-1:=by omega
   have e2:(l.take (l.length-1)).length=l.length-1:=by rw[Yu]; omega
   have e3:((l.length-1:Nat):Int)=(l.length:Int)-1:=by omega
   simp only[yB,af,gR,ae,aa,seval,iteOmega,toNatUp,eC];refine aY (ub G key dE h (by decide)) (by simp only[ae,aa,seval,iteOmega,toNatUp,bo,t0,aX,gR]) (.inr (eU _ _)) ?_;simp only[ae,aa,seval,iteOmega,toNatUp,e1,e2,e3,fa];refine aV (Ag key l) (fun i=>l.length-1-i) (fun i=>i≤l.length-1) 0 (Yt _) ?_ ?_
   ·refine ap (fun i=>128) ?_ ?_ rfl rfl <;> simp only[wx,aj,ar,aa,seval,iteOmega,toNatUp,eV,e2,e3]
   ·intro i hi;have hd:=xM (ak key) l i;by_cases hlt:i<l.length-1
    ·have g1:(l.take (l.length-1))[i]?=some (l.getD i []):=by rw[YL,if_pos hlt,nO (by omega)]
     have hx:=hb _ (mz (l:=l) (j:=i) (by omega));have hs:bB (dl (eV (ak key) l i)) (fB (ak key) (l.getD i []))=eV (ak key) l (i+1):=rfl;have h1:=uS G (eV (ak key) l i) (by omega);have h2:=Va G key (l.getD i []) h (by omega);have h3:=mU G (dl (eV (ak key) l i)) (fB (ak key) (l.getD i [])) (jo hd) (qb _ _);rw[hs] at h3;simp only[w6,Ag,ae,aa,seval,iteOmega,toNatUp,aC,g1,e2,e3];refine sD (h1) ?_;refine sD (h2) ?_;refine sD (h3) ?_;refine aQ (i+1) (by omega) (by omega) (ap (fun i=>i) ?_ ?_ rfl rfl) <;> simp only[wx,aj,ar,aa,seval,iteOmega,toNatUp]
    ·obtain rfl:i=l.length-1:=by omega
     have g1:l[l.length-1]?=some (l.getD (l.length-1) []):=nO (by omega);have hx:=hb _ (mz (l:=l) (j:=l.length-1) (by omega));have h1:=Vb G (l.getD (l.length-1) []) (eV (ak key) l (l.length-1)) (by omega) hd;have hcl:∀ s d:List UInt8,s.length≤65535→d.length=16→(if 16≤s.length then s.take (s.length-16)++bB (s.drop (s.length-16)) d else bB (dl d) (gv (s++[128]))).length≤70000:=by
       intro s d h1 h2;split
       ·rw[Yr,fH,← Yr,Y7]; omega
       ·rw[fH,jo h2]; decide
     have h2:=ub G key _ h (hcl _ _ hx hd);simp only[w6,Ag,ae,aa,seval,iteOmega,toNatUp,aC,g1,e1,e3];refine sD (h1) ?_;refine sD (h2) ?_;exact fm
def kr (l:List (List UInt8)):Bool:=l.any fun x=>decide (65535<x.length)
def pk (key:List UInt8) (l:List (List UInt8)):Int:=if key.length≠16 then 5 else if 17<l.length then 8 else if kr l=true then 2 else 0
def ru (key:List UInt8) (l:List (List UInt8)):List UInt8:=if key.length=16∧l.length≤17∧kr l=false then iu (ak key) l else []
theorem FF {l:List (List UInt8)} (h:∀ j,j<l.length→(l.getD j []).length≤65535):kr l=false:=by
  unfold kr;rw[ZA];intro x hx;obtain⟨j,hj,rfl⟩:=YX hx;have:=h j hj;rw[Ys,Yn hj] at this
  simpa using this
theorem Do {l:List (List UInt8)} {j:Nat} (hj:j<l.length) (h:65535<(l.getD j []).length):kr l=true:=by
  unfold kr;rw[Z7];exact⟨_,mz hj,decide_eq_true h⟩
theorem Dp {l:List (List UInt8)} (h:kr l=false):∀ x∈l,x.length≤65535:=by
  unfold kr at h;rw[ZA] at h;intro x hx;have:=h x hx
  simpa using this
def uU (key:List UInt8) (l:List (List UInt8)) (i:Nat):St:=⟨aP [(1,.w (.c (.d (.sl (l.map fun l=>D.sl (l.map bD)))))),(6,.w (.c (.ptr 1 1 0 0))),(21,.w (.c (.d (.sl (l.map fun l=>D.sl (l.map bD)))))),(22,.w (.c (.d (.int .i64 (l.length:Int))))),(23,.w (.c (.d (.int .i64 (i:Int)))))],hL [(1,.box [.d (.sl (key.map bD)),.d (.sl ((fA (ak key)).map bD)),.d (.sl ((iK (ak key)).map bD))])],uL [1]⟩
def sB:aN := .seq (.reg [oO 24 (.bin .lss (.t 23) (.t 22))]) (.seq (.cond (.t 24) (.skip) (.exit 0)) (.seq (.block 1 (.seq (.reg [oO 25 (.idxSl 1 (.t 21) (.t 23)),oO 26 (.load .sc (.t 25)),oM 9 26]) (.seq (.reg [oM 27 9,oO 28 (.len (.t 27)),oO 29 (.bin .gtr (.t 28) (kI 65535))]) (.cond (.t 29) (.seq (.reg [oO 4 (.mv (.k (.c .nil))),oO 5 (.mv (kI 2))]) (.ret)) (.skip))))) (.reg [oO 30 (.bin .add (.t 23) (kI 1)),oM 23 30])))
def tF:aD:=⟨2,34,.seq (.reg [oO 4 (.mv (.k (.c .nil))),oO 5 (.mv (kI 0))]) (.seq (.reg [oM 11 0,oO 12 (.call 133 [(.t 11)] none),oM 10 12,oO 13 (.extract (.t 10) 0),oO 14 (.extract (.t 10) 1),oO 6 (.alloc [.nil,.nil,.nil]),oN (.store (.ag 3) (.t 6) (.t 13)),oM 7 14]) (.seq (.seq (.reg [oM 15 7,oO 16 (.bin .neq (.t 15) (kI 0))]) (.cond (.t 16) (.seq (.reg [oM 17 7,oO 4 (.mv (.k (.c .nil))),oM 5 17]) (.ret)) (.skip))) (.seq (.seq (.reg [oM 18 1,oO 19 (.len (.t 18)),oO 20 (.bin .gtr (.t 19) (kI 17))]) (.cond (.t 20) (.seq (.reg [oO 4 (.mv (.k (.c .nil))),oO 5 (.mv (kI 8))]) (.ret)) (.skip))) (.seq (.seq (.reg [oM 21 1,oO 22 (.len (.t 21)),oO 23 (.mv (kI 0))]) (.block 0 (.loop sB))) (.seq (.reg [oO 31 (.load (.ag 3) (.t 6)),oM 32 1,oO 33 (.call 134 [(.t 31),(.t 32)] (some (0,1))),
 oM 4 33,oO 5 (.mv (kI 0))]) (.ret)))))),[(4,none),(5,none)]⟩
theorem S4:aB Tryz.prog { own:=[33],comp:=[],frz:=[],nils:=[] } Tryz.f118=some tF:=by kernel_rfl
theorem Ve (G:ah) (key:List UInt8) (l:List (List UInt8)) (hk:key.length≤9223372036854775807) (hl:l.length≤9223372036854775807) (hb:∀ x∈l,x.length≤9223372036854775807):au Tryz.prog G 118 [.sl (key.map bD),.sl (l.map fun l=>D.sl (l.map bD))] (.tup [.c (.fr 1 ((ru key l).map bD)),.c (.d (.int .i64 (pk key l)))]):=by
  refine aF Tryz.func118 S4 rfl rfl ?_;have hx:=U8 G key hk;unfold ru pk;by_cases h:key.length=16
  ·have hv:rF key=gR key:=if_pos h;have he:m9 key=0:=by unfold m9; rw[if_neg (by omega)]
   rw[hv,he] at hx;by_cases h2:l.length≤17
   ·rw[if_neg (by omega:¬ key.length≠16),if_neg (by omega:¬ 17<l.length)];simp only[tF,af,ae,aa,seval,iteOmega,toNatUp];refine sC (hx) ?_;simp only[gR,ae,aa,seval,iteOmega,toNatUp];refine aV (uU key l) (fun i=>l.length-i) (fun i=>i≤l.length∧∀ j,j<i→(l.getD j []).length≤65535) 0 ⟨Yt _,fun j hj=>by omega⟩ ?_ ?_
    ·refine ap (fun i=>48) ?_ ?_ rfl rfl <;> simp only[wx,aj,ar,aa,seval,iteOmega,toNatUp]
    ·rintro i ⟨hi,hok⟩;by_cases hlt:i<l.length
     ·have g1:=nO hlt;have hx:=hb _ (mz hlt);by_cases hlong:65535<(l.getD i []).length
      ·have hL:=Do hlt hlong;rw[hL,if_neg (by simp),if_pos rfl];simp only[sB,uU,ae,aa,seval,iteOmega,toNatUp,aC,g1];exact bw
      ·simp only[sB,uU,ae,aa,seval,iteOmega,toNatUp,aC,g1];refine aQ (i+1) (by omega) ⟨by omega,fun j hj=>?_⟩ (ap (fun i=>i) ?_ ?_ rfl rfl)
       ·rcases YE j i with h | h
        ·exact hok j h
        ·obtain rfl:j=i:=by omega
         omega
       all_goals simp only[wx,aj,ar,aa,seval,iteOmega,toNatUp]
     ·have hL:=FF (l:=l) (fun j hj=>hok j (by omega));rw[hL,if_pos ⟨h,h2,rfl⟩,if_neg (by simp)];simp only[sB,uU,ae,aa,seval,iteOmega,toNatUp];refine sD (Vd G key l h h2 (Dp hL)) ?_;exact bw
   ·rw[if_neg (by omega),if_neg (by omega),if_pos (by omega)];have h3:17<l.length:=by omega
    simp only[tF,af,ae,aa,seval,iteOmega,toNatUp];refine sC (hx) ?_;simp only[gR,ae,aa,seval,iteOmega,toNatUp];exact bw
  ·have hv:rF key=.agg [.sl [],.sl [],.sl []]:=if_neg h;have he:m9 key=5:=if_pos h;rw[hv,he] at hx;rw[if_neg (by omega),if_pos h];simp only[tF,af,ae,aa,seval,iteOmega,toNatUp];refine sD (hx) ?_;exact bw
set_option maxHeartbeats 6400000
theorem sE (key b:List UInt8):jz key b=cW (ak key) b:=rfl
def iN (key b:List UInt8):Nat→V
  | 0=>.w (.c (.own 1 1 0 16))
  | i+1=>.w (.c (.d (.sl ((dm (ak key) b (i+1)).map bD))))
def ku (key b:List UInt8) (last:Int) (i:Nat):St:=⟨aP [(1,.w (.c (.d (.sl (b.map bD))))),(2,.w (.c (.rp ((cO key).map bD)))),(5,.w (.c (.d (.sl ((fA (ak key)).map bD))))),(6,.w (.c (.d (.int .i64 last)))),(7,iN key b i),(8,.w (.c (.d (.int .i64 ((16*i:Nat):Int)))))],hL [(1,.row 1 ((aL 16 (0:UInt8)).map bD))],uL [1]⟩
theorem HW (b:List UInt8) (i:Nat):(b.drop (16*i)).take (16*i+16-16*i)=(b.drop (16*i)).take 16:=by rw[show 16*i+16-16*i=16 by omega]
def kJ:aN := .seq (.seq (.reg [oM 24 8,oM 25 6,oO 26 (.bin .lss (.t 24) (.t 25))]) (.cond (.t 26) (.skip) (.exit 0))) (.seq (.block 1 (.reg [oO 29 (.load (.ag 688) (.t 2)),oM 30 7,oM 31 1,oM 32 8,oM 33 8,oO 34 (.bin .add (.t 33) (kI 16)),oO 35 (.slice 1 (.t 31) (some (.t 32)) (some (.t 34)) none),oO 36 (.call 127 [(.t 30),(.t 35)] none),oO 37 (.call 111 [(.t 29),(.t 36)] none),oM 7 37])) (.reg [oM 27 8,oO 28 (.bin .add (.t 27) (kI 16)),oM 8 28]))
def HX:aD:=⟨2,61,.seq (.reg [oO 2 (.box .roBox (.t 0)),oO 4 (.mv (.k (.c .nil)))]) (.seq (.reg [oO 10 (.load (.ag 688) (.t 2)),oO 11 (.make true 1 1 (.int .u8 0) (kI 16) (kI 16)),oO 12 (.call 111 [(.t 10),(.t 11)] none),oO 13 (.call 128 [(.t 12)] none),oM 5 13]) (.seq (.reg [oM 14 1,oO 15 (.len (.t 14)),oO 16 (.bin .add (.t 15) (kI 15)),oO 17 (.bin .quo (.t 16) (kI 16)),oO 18 (.bin .mul (.t 17) (kI 16)),oO 19 (.bin .sub (.t 18) (kI 16)),oM 6 19]) (.seq (.seq (.reg [oM 20 1,oO 21 (.len (.t 20)),oO 22 (.bin .eql (.t 21) (kI 0))]) (.cond (.t 22) (.reg [oO 6 (.mv (kI 0))]) (.skip))) (.seq (.reg [oO 23 (.make true 1 1 (.int .u8 0) (kI 16) (kI 16)),oM 7 23]) (.seq (.seq (.reg [oO 8 (.mv (kI 0))]) (.block 0 (.loop kJ))) (.seq (.reg [oM 38 1,oM 39 6,oO 40 (.slice 1 (.t 38) (some (.t 39)) none none),
 oO 41 (.bldSl false 1 1 (.sl []) [(0,(.t 40))]),oO 42 (.call 41 [(.t 41)] (some (0,1))),oM 9 42]) (.seq (.seq (.reg [oM 43 9,oO 44 (.len (.t 43)),oO 45 (.bin .eql (.t 44) (kI 16))]) (.cond (.t 45) (.reg [oM 46 9,oM 47 5,oO 48 (.call 127 [(.t 46),(.t 47)] none),oM 9 48]) (.reg [oM 49 9,oO 50 (.bldSl false 1 1 (.int .u8 0) [(0,(.k (.c (.d (.int .u8 128)))))]),oO 51 (.app false 1 1 (.t 49) (.t 50)),oO 52 (.call 90 [(.t 51),(kI 16)] none),oM 53 5,oO 54 (.call 128 [(.t 53)] none),oO 55 (.call 127 [(.t 52),(.t 54)] none),oM 9 55]))) (.seq (.reg [oO 56 (.load (.ag 688) (.t 2)),oM 57 7,oM 58 9,oO 59 (.call 127 [(.t 57),(.t 58)] none),oO 60 (.call 111 [(.t 56),(.t 59)] (some (0,1))),oM 4 60]) (.ret))))))))),[(4,none)]⟩
theorem S5:aB Tryz.prog { own:=[42,60],comp:=[],frz:=[],nils:=[] } Tryz.f126=some HX:=by kernel_rfl
set_option maxRecDepth 20000 in
theorem qE (G:ah) (key b:List UInt8) (h:key.length=16) (hb:b.length≤70000):au Tryz.prog G 126 [.agg ((cO key).map bD),.sl (b.map bD)] (.w (.c (.fr 1 ((fB (ak key) b).map bD)))):=by
  refine aF Tryz.func126 S5 rfl rfl ?_;have t0:(aL 16 (0:UInt8)).take 16=dE:=rfl;have hM:=su h;have t1:(cO key).take 688=cO key:=Yo (by omega);have hah:fI b=(b.length+15) / 16-1:=rfl;have hm:∀ i,i=fI b→fB (ak key) b=cW (ak key) (bB (dm (ak key) b i) (ir (ak key) (b.drop (16*i)))):=fun i e=>by rw[e]; rfl
  have hr0:=qB G key dE h (by decide);have h1:=qD G (cW (ak key) dE) (by rw[ii]; decide);have s1:dl (cW (ak key) dE)=fA (ak key):=rfl;rw[s1] at h1;rw[sE] at hr0;have td:Int.tdiv ((b.length:Int)+15) 16=(((b.length+15) / 16:Nat):Int):=rfl;have step:∀ i,i<fI b→((b.drop (16*i)).take 16).length=16:=fun i hi=>by rw[Yu,Yw]; omega
  simp only[HX,af,ae,aa,seval,iteOmega,toNatUp,eC,xH,cq,hM,bo,t1];refine aY hr0 (by simp only[ae,aa,seval,iteOmega,toNatUp,bo,t0,aX]) (.inr (eU _ _)) ?_;simp only[ae,aa,seval,iteOmega,toNatUp];refine sC (h1) ?_;simp only[td,eC,ae,aa,seval,iteOmega,toNatUp];by_cases hb0:b.length=0
  ·have hz0:fI b=0:=by omega
   simp only[ae,aa,seval,iteOmega,toNatUp,eC];refine aV (ku key b (0)) (fun i=>fI b-i) (fun i=>i≤fI b) 0 (Yt _) ?_ ?_
   ·refine ap (fun i=>184) ?_ ?_ rfl rfl <;> simp only[wx,aj,ar,aa,seval,iteOmega,toNatUp,iN]
   ·intro i hi;have hcl:(b.drop (16*i)).length=b.length-16*i:=Yw;have hsl:=HW b i;by_cases hlt:i<fI b
    ·exact absurd hlt (by omega)
    ·rw[hm i (by omega)];have hie:16*(fI b:Int)=16*(i:Int):=by omega
     have hl16:(b.drop (16*i)).length≤16:=by omega
     have ht:(b.drop (16*i)).take (b.length-16*i)=b.drop (16*i):=Yo (by omega);have mn:(0:Int).toNat=16*i:=by omega
     have e1:=eo G [b.drop (16*i)] (by simp) (by simp; omega);have hf:[b.drop (16*i)].flatten=b.drop (16*i):=by simp
     rw[hf] at e1;have k1:=km G (dm (ak key) b i) (ir (ak key) (b.drop (16*i))) (by rw[j6]; decide) (by rw[xL hl16]; decide);have k2:=qB G key (bB (dm (ak key) b i) (ir (ak key) (b.drop (16*i)))) h (by rw[fH,j6]);rw[sE] at k2;have ht2:(b.drop (16*i)).take b.length=b.drop (16*i):=Yo (by omega);generalize hc:b.drop (16*i)=c at *
     have tc:c.take c.length=c:=YR;by_cases h16:c.length=16
     ·have tc16:c.take 16=c:=by rw[← h16]; exact tc
      have q1:=km G c (fA (ak key)) (by omega) (by rw[my]; decide);rw[wY _ h16] at k1 k2 ⊢;rcases i with _ | i
      ·have hz:dm (ak key) b 0=dE:=rfl;rw[hz] at k1 k2 ⊢;simp only[kJ,ku,iN,ae,aa,seval,iteOmega,toNatUp,mn,hc,ht,ht2];refine sC (e1) ?_;simp only[h16,ae,aa,seval,iteOmega,toNatUp];refine aY q1 (by simp only[ae,aa,seval,iteOmega,toNatUp,bo,tc16,h16]) (.inr (eU _ _)) ?_;simp only[ae,aa,seval,iteOmega,toNatUp,cq,hM,bo,t1];refine aY k1 (by simp only[ae,aa,seval,iteOmega,toNatUp,bo,t0,aX]) (.inr (eU _ _)) ?_;simp only[ae,aa,seval,iteOmega,toNatUp];refine sD (k2) ?_;exact fm
      ·exact absurd hi (by omega)
     ·have p1:=qC G (c++[128]) 16 (by simp; omega);rw[tE] at p1;have p2:=qD G (fA (ak key)) (by rw[my]; decide);have s2:dl (fA (ak key))=iK (ak key):=rfl;rw[s2] at p2;have p3:=km G (gv (c++[128])) (iK (ak key)) (by rw[nv (by omega)]; decide) (by rw[xK]; decide);have b128:c.map bD++[D.int .u8 128]=(c++[128]).map bD:=by rw[YD]; rfl
      have tc2:(c++[128]).take (c.length+1)=c++[128]:=Yo (by simp);rw[wZ _ h16] at k1 k2 ⊢;have lc:(c++[(128:UInt8)]).length=c.length+1:=by simp
      rcases i with _ | i
      ·have hz:dm (ak key) b 0=dE:=rfl;rw[hz] at k1 k2 ⊢;simp only[kJ,ku,iN,ae,aa,seval,iteOmega,toNatUp,mn,hc,ht,ht2];refine sC (e1) ?_;simp only[bH,b128,ae,aa,seval,iteOmega,toNatUp];refine aY p1 (by simp only[ae,aa,seval,iteOmega,toNatUp,bo,tc2,lc]) (.inr (eU _ _)) ?_;simp only[ae,aa,seval,iteOmega,toNatUp];refine sD (p2) ?_;refine sC (p3) ?_;simp only[cq,hM,bo,t1,ae,aa,seval,iteOmega,toNatUp];refine aY k1 (by simp only[ae,aa,seval,iteOmega,toNatUp,bo,t0,aX]) (.inr (eU _ _)) ?_;simp only[ae,aa,seval,iteOmega,toNatUp];refine sD (k2) ?_;exact fm
      ·exact absurd hi (by omega)
  ·have hp:0<b.length:=by omega
   simp only[ae,aa,seval,iteOmega,toNatUp,eC];refine aV (ku key b (((((b.length+15) / 16:Nat):Int)*16-16))) (fun i=>fI b-i) (fun i=>i≤fI b) 0 (Yt _) ?_ ?_
   ·refine ap (fun i=>184) ?_ ?_ rfl rfl <;> simp only[wx,aj,ar,aa,seval,iteOmega,toNatUp,iN]
   ·intro i hi;have hcl:(b.drop (16*i)).length=b.length-16*i:=Yw;have hsl:=HW b i;by_cases hlt:i<fI b
    ·have hT:=step i hlt;have hstep:cW (ak key) (bB (dm (ak key) b i) ((b.drop (16*i)).take 16))=dm (ak key) b (i+1):=rfl;have k1:=km G (dm (ak key) b i) ((b.drop (16*i)).take 16) (by rw[j6]; decide) (by omega);have k2:=qB G key (bB (dm (ak key) b i) ((b.drop (16*i)).take 16)) h (by rw[fH,j6]);rw[sE,hstep] at k2;rcases i with _ | i
     ·have hz:dm (ak key) b 0=dE:=rfl;rw[hz] at k1 k2;simp only[Z2,ZP,Zr,Nat.sub_zero] at hsl;simp only[kJ,ku,iN,ae,aa,seval,iteOmega,toNatUp,cq,hM,bo,t1,hsl];refine aY k1 (by simp only[ae,aa,seval,iteOmega,toNatUp,bo,t0,aX]) (.inr (eU _ _)) ?_;simp only[ae,aa,seval,iteOmega,toNatUp];refine sD (k2) ?_;refine aQ (0+1) (by omega) (by omega) (ap (fun i=>i) ?_ ?_ rfl rfl) <;> simp only[wx,aj,ar,aa,seval,iteOmega,toNatUp,iN]
     ·simp only[kJ,ku,iN,ae,aa,seval,iteOmega,toNatUp,cq,hM,bo,t1,hsl];refine sD (k1) ?_;refine sD (k2) ?_;refine aQ (i+1+1) (by omega) (by omega) (ap (fun i=>i) ?_ ?_ rfl rfl) <;> simp only[wx,aj,ar,aa,seval,iteOmega,toNatUp,iN];rw[show (16*((i:Int)+1)+16)=16*((i:Int)+1+1) by omega]
    ·rw[hm i (by omega)];have hie:16*(fI b:Int)=16*(i:Int):=by omega
     have hl16:(b.drop (16*i)).length≤16:=by omega
     have ht:(b.drop (16*i)).take (b.length-16*i)=b.drop (16*i):=Yo (by omega);have mn:(((((b.length+15) / 16:Nat):Int)*16-16):Int).toNat=16*i:=by omega
     have e1:=eo G [b.drop (16*i)] (by simp) (by simp; omega);have hf:[b.drop (16*i)].flatten=b.drop (16*i):=by simp
     rw[hf] at e1;have k1:=km G (dm (ak key) b i) (ir (ak key) (b.drop (16*i))) (by rw[j6]; decide) (by rw[xL hl16]; decide);have k2:=qB G key (bB (dm (ak key) b i) (ir (ak key) (b.drop (16*i)))) h (by rw[fH,j6]);rw[sE] at k2;have ht2:(b.drop (16*i)).take b.length=b.drop (16*i):=Yo (by omega);generalize hc:b.drop (16*i)=c at *
     have tc:c.take c.length=c:=YR;by_cases h16:c.length=16
     ·have tc16:c.take 16=c:=by rw[← h16]; exact tc
      have q1:=km G c (fA (ak key)) (by omega) (by rw[my]; decide);rw[wY _ h16] at k1 k2 ⊢;rcases i with _ | i
      ·have hz:dm (ak key) b 0=dE:=rfl;rw[hz] at k1 k2 ⊢;simp only[kJ,ku,iN,ae,aa,seval,iteOmega,toNatUp,mn,hc,ht,ht2];refine sC (e1) ?_;simp only[h16,ae,aa,seval,iteOmega,toNatUp];refine aY q1 (by simp only[ae,aa,seval,iteOmega,toNatUp,bo,tc16,h16]) (.inr (eU _ _)) ?_;simp only[ae,aa,seval,iteOmega,toNatUp,cq,hM,bo,t1];refine aY k1 (by simp only[ae,aa,seval,iteOmega,toNatUp,bo,t0,aX]) (.inr (eU _ _)) ?_;simp only[ae,aa,seval,iteOmega,toNatUp];refine sD (k2) ?_;exact fm
      ·simp only[kJ,ku,iN,ae,aa,seval,iteOmega,toNatUp,mn,hc,ht,ht2];refine sC (e1) ?_;simp only[h16,ae,aa,seval,iteOmega,toNatUp];refine aY q1 (by simp only[ae,aa,seval,iteOmega,toNatUp,bo,tc16,h16]) (.inr (eU _ _)) ?_;simp only[ae,aa,seval,iteOmega,toNatUp,cq,hM,bo,t1];refine sD (k1) ?_;refine sD (k2) ?_;exact fm
     ·have p1:=qC G (c++[128]) 16 (by simp; omega);rw[tE] at p1;have p2:=qD G (fA (ak key)) (by rw[my]; decide);have s2:dl (fA (ak key))=iK (ak key):=rfl;rw[s2] at p2;have p3:=km G (gv (c++[128])) (iK (ak key)) (by rw[nv (by omega)]; decide) (by rw[xK]; decide);have b128:c.map bD++[D.int .u8 128]=(c++[128]).map bD:=by rw[YD]; rfl
      have tc2:(c++[128]).take (c.length+1)=c++[128]:=Yo (by simp);rw[wZ _ h16] at k1 k2 ⊢;have lc:(c++[(128:UInt8)]).length=c.length+1:=by simp
      rcases i with _ | i
      ·have hz:dm (ak key) b 0=dE:=rfl;rw[hz] at k1 k2 ⊢;simp only[kJ,ku,iN,ae,aa,seval,iteOmega,toNatUp,mn,hc,ht,ht2];refine sC (e1) ?_;simp only[bH,b128,ae,aa,seval,iteOmega,toNatUp];refine aY p1 (by simp only[ae,aa,seval,iteOmega,toNatUp,bo,tc2,lc]) (.inr (eU _ _)) ?_;simp only[ae,aa,seval,iteOmega,toNatUp];refine sD (p2) ?_;refine sC (p3) ?_;simp only[cq,hM,bo,t1,ae,aa,seval,iteOmega,toNatUp];refine aY k1 (by simp only[ae,aa,seval,iteOmega,toNatUp,bo,t0,aX]) (.inr (eU _ _)) ?_;simp only[ae,aa,seval,iteOmega,toNatUp];refine sD (k2) ?_;exact fm
      ·simp only[kJ,ku,iN,ae,aa,seval,iteOmega,toNatUp,mn,hc,ht,ht2];refine sC (e1) ?_;simp only[bH,b128,ae,aa,seval,iteOmega,toNatUp];refine aY p1 (by simp only[ae,aa,seval,iteOmega,toNatUp,bo,tc2,lc]) (.inr (eU _ _)) ?_;simp only[ae,aa,seval,iteOmega,toNatUp];refine sD (p2) ?_;refine sC (p3) ?_;simp only[cq,hM,bo,t1,ae,aa,seval,iteOmega,toNatUp];refine sD (k1) ?_;refine sD (k2) ?_;exact fm
theorem Vf (G:ah) (key b:List UInt8) (h:key.length=16) (hb:b.length≤70000):au Tryz.prog G 126 [.agg ((cO key).map bD),.sl (b.map bD)] (.w (.c (.d (.sl ((fB (ak key) b).map bD))))):=kj (qE G key b h hb)
def uV (key:List UInt8) (l:List (List UInt8)) (i:Nat):St:=⟨aP [(0,.w (.c (.d (.sl (key.map bD))))),(1,.w (.c (.d (.sl (l.map fun l=>D.sl (l.map bD)))))),(6,.w (.c (.d (.int .i64 (i:Int)))))],hL [],uL []⟩
def uW (key:List UInt8) (l:List (List UInt8)) (i:Nat):St:=⟨aP [(1,.w (.c (.d (.sl (l.map fun l=>D.sl (l.map bD)))))),(7,.w (.c (.ptr 2 1 0 0))),(9,.w (.c (.d (.sl ((eV (ak key) l i).map bD))))),(10,.w (.c (.d (.int .i64 (i:Int)))))],hL [(1,.row 1 ((aL 16 (0:UInt8)).map bD)),(2,.box ((cO key).map bC))],uL [1,2]⟩
theorem Xc:(aL 16 (0:UInt8)).set 15 1=aI 1 16:=by decide
theorem Pz (rk:List UInt8) {l:List (List UInt8)} {s d:List UInt8} (h:l.length≠0) (hs:l.getD (l.length-1) []=s) (hd:eV rk l (l.length-1)=d) (h16:16≤s.length):iu rk l=fB rk (s.take (s.length-16)++bB (s.drop (s.length-16)) d):=by
  rw[w5 rk h,hs,hd,if_pos h16]
theorem Ou (rk:List UInt8) {l:List (List UInt8)} {s d:List UInt8} (h:l.length≠0) (hs:l.getD (l.length-1) []=s) (hd:eV rk l (l.length-1)=d) (h16:s.length<16):iu rk l=fB rk (bB (dl d) (gv (s++[128]))):=by
  rw[w5 rk h,hs,hd,if_neg (by omega)]
def rR:aN := .seq (.seq (.reg [oM 19 6,oM 20 1,oO 21 (.len (.t 20)),oO 22 (.bin .lss (.t 19) (.t 21))]) (.cond (.t 22) (.skip) (.exit 0))) (.seq (.block 1 (.seq (.reg [oM 25 1,oM 26 6,oO 27 (.idxSl 1 (.t 25) (.t 26)),oO 28 (.load .sc (.t 27)),oO 29 (.len (.t 28)),oO 30 (.bin .gtr (.t 29) (kI 65535))]) (.cond (.t 30) (.seq (.reg [oO 4 (.mv (.k (.c .nil))),oO 5 (.mv (kI 2))]) (.ret)) (.skip)))) (.reg [oM 23 6,oO 24 (.bin .add (.t 23) (kI 1)),oM 6 24]))
def rS:aN := .seq (.seq (.reg [oM 45 10,oM 46 1,oO 47 (.len (.t 46)),oO 48 (.bin .sub (.t 47) (kI 1)),oO 49 (.bin .lss (.t 45) (.t 48))]) (.cond (.t 49) (.skip) (.exit 2))) (.seq (.block 3 (.reg [oM 52 9,oO 53 (.call 128 [(.t 52)] none),oO 54 (.loadB (.ag 688) (.t 7)),oM 55 1,oM 56 10,oO 57 (.idxSl 1 (.t 55) (.t 56)),oO 58 (.load .sc (.t 57)),oO 59 (.call 126 [(.t 54),(.t 58)] none),oO 60 (.call 127 [(.t 53),(.t 59)] none),oM 9 60])) (.reg [oM 50 10,oO 51 (.bin .add (.t 50) (kI 1)),oM 10 51]))
def s7:aD:=⟨2,96,.seq (.reg [oO 4 (.mv (.k (.c .nil))),oO 5 (.mv (kI 0))]) (.seq (.seq (.reg [oM 13 0,oO 14 (.len (.t 13)),oO 15 (.bin .neq (.t 14) (kI 16))]) (.cond (.t 15) (.seq (.reg [oO 4 (.mv (.k (.c .nil))),oO 5 (.mv (kI 5))]) (.ret)) (.skip))) (.seq (.seq (.reg [oM 16 1,oO 17 (.len (.t 16)),oO 18 (.bin .gtr (.t 17) (kI 17))]) (.cond (.t 18) (.seq (.reg [oO 4 (.mv (.k (.c .nil))),oO 5 (.mv (kI 8))]) (.ret)) (.skip))) (.seq (.seq (.reg [oO 6 (.mv (kI 0))]) (.block 0 (.loop rR))) (.seq (.reg [oM 31 0,oO 32 (.call 110 [(.t 31)] none),oO 7 (.alloc (aL 688 (.d (.int .u8 0)))),oN (.store (.ag 688) (.t 7) (.t 32))]) (.seq (.reg [oO 33 (.make true 1 1 (.int .u8 0) (kI 16) (kI 16)),oM 8 33]) (.seq (.seq (.reg [oM 34 1,oO 35 (.len (.t 34)),oO 36 (.bin .eql (.t 35) (kI 0))]) (.cond (.t 36) (.seq (.reg [oM 37 8,
 oO 38 (.idxSl 1 (.t 37) (kI 15)),oN (.store .sc (.t 38) (.k (.c (.d (.int .u8 1)))))]) (.seq (.reg [oO 39 (.loadB (.ag 688) (.t 7)),oM 40 8,oO 41 (.call 126 [(.t 39),(.t 40)] (some (0,1))),oM 4 41,oO 5 (.mv (kI 0))]) (.ret))) (.skip))) (.seq (.reg [oO 42 (.loadB (.ag 688) (.t 7)),oM 43 8,oO 44 (.call 126 [(.t 42),(.t 43)] none),oM 9 44]) (.seq (.seq (.reg [oO 10 (.mv (kI 0))]) (.block 2 (.loop rS))) (.seq (.reg [oM 61 1,oM 62 1,oO 63 (.len (.t 62)),oO 64 (.bin .sub (.t 63) (kI 1)),oO 65 (.idxSl 1 (.t 61) (.t 64)),oO 66 (.load .sc (.t 65)),oM 11 66]) (.seq (.seq (.reg [oM 67 11,oO 68 (.len (.t 67)),oO 69 (.bin .geq (.t 68) (kI 16))]) (.cond (.t 69) (.seq (.reg [oM 70 11,oO 71 (.len (.t 70)),oO 72 (.bin .sub (.t 71) (kI 16)),oM 12 72]) (.seq (.reg [oO 73 (.loadB (.ag 688) (.t 7)),oM 74 11,
 oM 75 12,oO 76 (.slice 1 (.t 74) none (some (.t 75)) none),oM 77 11,oM 78 12,oO 79 (.slice 1 (.t 77) (some (.t 78)) none none),oM 80 9,oO 81 (.call 127 [(.t 79),(.t 80)] none),oO 82 (.bldSl false 2 1 (.sl []) [(0,(.t 76)),(1,(.t 81))]),oO 83 (.call 41 [(.t 82)] none),oO 84 (.call 126 [(.t 73),(.t 83)] (some (0,1))),oM 4 84,oO 5 (.mv (kI 0))]) (.ret))) (.skip))) (.seq (.reg [oO 85 (.loadB (.ag 688) (.t 7)),oM 86 9,oO 87 (.call 128 [(.t 86)] none),oM 88 11,oO 89 (.bldSl false 1 1 (.sl []) [(0,(.t 88))]),oO 90 (.call 41 [(.t 89)] (some (0,1))),oO 91 (.bldSl false 1 1 (.int .u8 0) [(0,(.k (.c (.d (.int .u8 128)))))]),oO 92 (.app false 1 1 (.t 90) (.t 91)),oO 93 (.call 90 [(.t 92),(kI 16)] none),oO 94 (.call 127 [(.t 87),(.t 93)] none),oO 95 (.call 126 [(.t 85),(.t 94)] (some (0,1))),oM 4 95,oO 5 (.mv (kI 0))])
 (.ret)))))))))))),[(4,none),(5,none)]⟩
theorem Q6:aB Tryz.prog { own:=[41,84,90,95],comp:=[],frz:=[],nils:=[],bx:=[39,42,54,73,85] } Tryz.f109=some s7:=by kernel_rfl
set_option maxRecDepth 20000 in
theorem S6 (G:ah) (key:List UInt8) (l:List (List UInt8)) (hk:key.length≤9223372036854775807) (hl:l.length≤9223372036854775807) (hb:∀ x∈l,x.length≤9223372036854775807):au Tryz.prog G 109 [.sl (key.map bD),.sl (l.map fun l=>D.sl (l.map bD))] (.tup [.c (.fr 1 ((ru key l).map bD)),.c (.d (.int .i64 (pk key l)))]):=by
  refine aF Tryz.func109 Q6 rfl rfl ?_;unfold ru pk;by_cases h:key.length=16
  ·by_cases h2:l.length≤17
   ·rw[if_neg (by omega:¬ key.length≠16),if_neg (by omega:¬ 17<l.length)];simp only[s7,af,ae,aa,seval,iteOmega,toNatUp];refine aV (uV key l) (fun i=>l.length-i) (fun i=>i≤l.length∧∀ j,j<i→(l.getD j []).length≤65535) 0 ⟨Yt _,fun j hj=>by omega⟩ ?_ ?_
    ·refine ap (fun i=>0) ?_ ?_ rfl rfl <;> simp only[wx,aj,ar,aa,seval,iteOmega,toNatUp] <;> rfl
    ·rintro i ⟨hi,hok⟩;by_cases hlt:i<l.length
     ·have g1:=nO hlt;have hx:=hb _ (mz hlt);by_cases hlong:65535<(l.getD i []).length
      ·have hL:=Do hlt hlong;rw[hL,if_neg (by simp),if_pos rfl];simp only[rR,uV,ae,aa,seval,iteOmega,toNatUp,aC,g1];exact bw
      ·simp only[rR,uV,ae,aa,seval,iteOmega,toNatUp,aC,g1];refine aQ (i+1) (by omega) ⟨by omega,fun j hj=>?_⟩ (ap (fun i=>i) ?_ ?_ rfl rfl)
       ·rcases YE j i with h | h
        ·exact hok j h
        ·obtain rfl:j=i:=by omega
         omega
       all_goals simp only[wx,aj,ar,aa,seval,iteOmega,toNatUp]
     ·have hL:=FF (l:=l) (fun j hj=>hok j (by omega));rw[hL,if_pos ⟨h,h2,rfl⟩,if_neg (by simp)];have hall:=Dp hL;have hM:=su h;have r4:List.drop 688 (aL 688 (0:UInt8))=[]:=Y8 (by rw[aX]; omega);have t0:(aL 16 (0:UInt8)).take 16=dE:=rfl;have t1:(cO key).take 688=cO key:=Yo (by omega);simp only[rR,uV,ae,aa,seval,iteOmega,toNatUp,qi];have k0:=qE G key dE h (by decide);by_cases h0:l.length=0
      ·rw[Dn _ h0];have z3:15<(aL 16 (0:UInt8)).length:=by rw[aX]; decide
       have z4:((aL 16 (0:UInt8)).map bD).set 15 (D.int .u8 1)=(aI 1 16).map bD:=by rw[← Xc]; exact mF bD _ 15 1
       have z5:(aI 1 16).take 16=aI 1 16:=Yo (by rw[dD]; decide);have z6:(aI 1 16).length=16:=dD _ _;refine sC (zs G key h) ?_;simp only[cq,hM,aX,i6,ek,gD,r4,Yy,eC,dX z3 (yk _ _),z4,bo,t1,gV,ae,aa,seval,iteOmega,toNatUp];have k1:=qE G key (aI 1 16) h (by rw[dD]; decide);refine aY k1 (by simp only[ae,aa,seval,iteOmega,toNatUp,bo,z5,aX]) (.inr (eU _ _)) ?_;simp only[ae,aa,seval,iteOmega,toNatUp];exact bw
      ·refine sC (zs G key h) ?_;simp only[cq,hM,aX,i6,ek,gD,r4,Yy,eC,bo,t1,gV,ae,aa,seval,iteOmega,toNatUp];refine aY k0 (by simp only[ae,aa,seval,iteOmega,toNatUp,bo,t0,aX]) (.inr (eU _ _)) ?_;simp only[ae,aa,seval,iteOmega,toNatUp];refine aV (uW key l) (fun i=>l.length-1-i) (fun i=>i≤l.length-1) 0 (Yt _) ?_ ?_
       ·refine ap (fun i=>if i=1 then 264 else 56) ?_ ?_ rfl (by simp[V.ids,W.ids,C.ids,Ob.ids,bT]) <;> simp only[wx,aj,ar,aa,seval,iteOmega,toNatUp,eR,bT,eV] <;> rfl
       ·intro i hi;have hd:=xM (ak key) l i;by_cases hlt:i<l.length-1
        ·have g1:=nO (l:=l) (j:=i) (by omega);have hx:=hall _ (mz (l:=l) (j:=i) (by omega));have hs:bB (dl (eV (ak key) l i)) (fB (ak key) (l.getD i []))=eV (ak key) l (i+1):=rfl;have h1:=qD G (eV (ak key) l i) (by omega);have h2:=Vf G key (l.getD i []) h (by omega);have h3:=km G (dl (eV (ak key) l i)) (fB (ak key) (l.getD i [])) (by rw[jo hd]; decide) (by rw[qb]; decide);rw[hs] at h3;simp only[rS,uW,ae,aa,seval,iteOmega,toNatUp,cq,hM,bo,t1,gV,aC,g1];refine sC (h1) ?_;simp only[cq,hM,bo,t1,gV,aC,g1,ae,aa,seval,iteOmega,toNatUp];refine sD (h2) ?_;refine sD (h3) ?_;refine aQ (i+1) (by omega) (by omega) (ap (fun i=>i) ?_ ?_ rfl (by simp[V.ids,W.ids,C.ids,Ob.ids,bT])) <;> simp only[wx,aj,ar,aa,seval,iteOmega,toNatUp,eR,bT]
        ·obtain rfl:i=l.length-1:=by omega
         have g1:=nO (l:=l) (j:=l.length-1) (by omega);have hx:=hall _ (mz (l:=l) (j:=l.length-1) (by omega));have e1:(((l.length:Int)-1).toNat)=l.length-1:=by omega
         generalize hs:l.getD (l.length-1) []=s at *
         generalize hdd:eV (ak key) l (l.length-1)=d at *
         have e2:(((s.length:Int)-16).toNat)=s.length-16:=by omega
         by_cases h16:16≤s.length
         ·rw[Pz _ h0 hs hdd h16];have hl:(s.drop (s.length-16)).length=16:=by rw[Yw]; omega
          have ht:(s.drop (s.length-16)).take (s.length-(s.length-16))=s.drop (s.length-16):=Yo (by omega);have hj:=eo G [s.take (s.length-16),bB (s.drop (s.length-16)) d] (by simp) (by simp[fH]; omega);have hf:[s.take (s.length-16),bB (s.drop (s.length-16)) d].flatten=s.take (s.length-16)++bB (s.drop (s.length-16)) d:=by simp
          rw[hf] at hj;have k3:=qE G key (s.take (s.length-16)++bB (s.drop (s.length-16)) d) h (by rw[Yr,fH,← Yr,Y7]; omega);simp only[rS,uW,hdd,ae,aa,seval,iteOmega,toNatUp,cq,hM,bo,t1,gV,aC,g1,e1,e2,ht];refine sD (km G (s.drop (s.length-16)) d (by omega) (by omega)) ?_;refine sD (hj) ?_;refine sD (k3) ?_;exact bw
         ·have h15:s.length<16:=by omega
          rw[Ou _ h0 hs hdd h15];have hj:=eo G [s] (by simp) (by simp; omega);have hf:[s].flatten=s:=by simp
          rw[hf] at hj;have p1:=qC G (s++[128]) 16 (by simp; omega);rw[tE] at p1;have b128:s.map bD++[D.int .u8 128]=(s++[128]).map bD:=by rw[YD]; rfl
          have tc2:(s++[128]).take (s.length+1)=s++[128]:=Yo (by simp);have lc:(s++[(128:UInt8)]).length=s.length+1:=by simp
          have p3:=km G (dl d) (gv (s++[128])) (by rw[jo hd]; decide) (by rw[nv h15]; decide);have k3:=qE G key (bB (dl d) (gv (s++[128]))) h (by rw[fH,jo hd]; decide);simp only[rS,uW,hdd,ae,aa,seval,iteOmega,toNatUp,cq,hM,bo,t1,gV,aC,g1,e1];refine sD (qD G d (by omega)) ?_;refine sC (hj) ?_;simp only[bH,b128,ae,aa,seval,iteOmega,toNatUp];refine aY p1 (by simp only[ae,aa,seval,iteOmega,toNatUp,bo,tc2,lc]) (.inr (eU _ _)) ?_;simp only[ae,aa,seval,iteOmega,toNatUp];refine sD (p3) ?_;refine sD (k3) ?_;exact bw
   ·rw[if_neg (by omega),if_neg (by omega),if_pos (by omega)];have h3:17<l.length:=by omega
    simp only[s7,af,ae,aa,seval,iteOmega,toNatUp];exact bw
  ·rw[if_neg (by omega),if_pos h];simp only[s7,af,ae,aa,seval,iteOmega,toNatUp];exact bw
theorem FG (rk c:List UInt8) {n k:Nat} (hk:k<16):∀ {m:Nat},n<m→(pg rk c m)[16*n+k]?=(cW rk (dh c n))[k]?
  | 0,h=>by omega
  | m+1,h=>by
    rw[pg];by_cases e:n=m
    ·subst e;rw[Zc (by rw[qa]; omega),qa,Ze]
    ·rw[Y6 (by rw[qa]; omega)];exact FG rk c hk (by omega)
theorem Q7 (rk c b:List UInt8) {n k:Nat} (hk:k<16) (h:16*n+k<b.length):(fR rk c b)[16*n+k]?=some (am (b.getD (16*n+k) 0) ((cW rk (dh c n)).getD k 0)):=by
  unfold fR vC;rw[List.getElem?_zipWith,FG rk c hk (by omega),cN h,cN (by rw[ii]; exact hk)]
def oT (rk c b:List UInt8) (j:Nat):List UInt8:=(fR rk c b).take j
theorem qF (rk c b:List UInt8) (j:Nat):(oT rk c b j).length=min j b.length:=by unfold oT; rw[Yu,pM]
theorem mI (rk c b:List UInt8) {j:Nat} (h:b.length≤j):oT rk c b j=fR rk c b:=Yo (by rw[pM]; exact h)
theorem HY (rk c b:List UInt8) {n k:Nat} (hk:k<16) (h:16*n+k<b.length):oT rk c b (16*n+k)++[am (b.getD (16*n+k) 0) ((cW rk (dh c n)).getD k 0)]=oT rk c b (16*n+k+1):=by
  unfold oT; rw[Zq,Q7 rk c b hk h]; rfl
theorem qn {c:List UInt8} (h:c.length=16) (n:Nat):(dh c n).length=16:=by rw[Fs]; exact h
theorem FH {c:List UInt8} (h:c.length=16) (n:Nat):pi (dh c n)=dh c (n+1):=by unfold pi; rw[if_pos (qn h n)]; rfl
def ja (key c b:List UInt8):Int:=if key.length≠16 then 5 else if c.length≠16 then 3 else if 65535<b.length then 2 else 0
def oI (key c b:List UInt8):List UInt8:=if key.length=16∧c.length=16∧b.length≤65535 then fR (ak key) c b else []
theorem Dq {key:List UInt8} (c b:List UInt8) (h:key.length≠16):ja key c b=5:=if_pos h
theorem Dr {key c:List UInt8} (b:List UInt8) (h:key.length=16) (h2:c.length≠16):ja key c b=3:=by unfold ja; rw[if_neg (by simp[h]),if_pos h2]
theorem Ci {key c b:List UInt8} (h:key.length=16) (h2:c.length=16) (h3:65535<b.length):ja key c b=2:=by unfold ja; rw[if_neg (by simp[h]),if_neg (by simp[h2]),if_pos h3]
theorem FI {key c b:List UInt8} (h:key.length=16) (h2:c.length=16) (h3:b.length≤65535):ja key c b=0:=by unfold ja; rw[if_neg (by simp[h]),if_neg (by simp[h2]),if_neg (by omega)]
theorem FJ {key c b:List UInt8} (h:key.length=16) (h2:c.length=16) (h3:b.length≤65535):oI key c b=fR (ak key) c b:=if_pos ⟨h,h2,h3⟩
theorem nG {key c b:List UInt8} (h:¬ (key.length=16∧c.length=16∧b.length≤65535)):oI key c b=[]:=if_neg h
theorem Nu (rk c b:List UInt8):oT rk c b 0=[]:=Zs
def AV (key c b:List UInt8) (n:Nat):St:=⟨aP [(1,.w (.c (.d (.sl ((dh c n).map bD))))),(2,.w (.c (.d (.sl (b.map bD))))),(8,.w (.c (.ptr 2 1 0 0))),(9,.w (.c (.own 1 1 0 (oT (ak key) c b (16*n)).length))),(10,.w (.c (.d (.int .i64 ((16*n:Nat):Int)))))],hL [(1,.row 1 ((oT (ak key) c b (16*n)).map bD)),(2,.box ((cO key).map bC))],uL [1,2]⟩
def vE (key c b:List UInt8) (n k:Nat):St:=⟨aP [(1,.w (.c (.d (.sl ((dh c n).map bD))))),(2,.w (.c (.d (.sl (b.map bD))))),(8,.w (.c (.ptr 2 1 0 0))),(9,.w (.c (.own 1 1 0 (oT (ak key) c b (16*n+k)).length))),(10,.w (.c (.d (.int .i64 ((16*n:Nat):Int))))),(11,.w (.c (.d (.sl ((cW (ak key) (dh c n)).map bD))))),(12,.w (.c (.d (.int .i64 (k:Int)))))],hL [(1,.row 1 ((oT (ak key) c b (16*n+k)).map bD)),(2,.box ((cO key).map bC))],uL [1,2]⟩
def sF:aN := .seq (.seq (.reg [oM 34 12,oO 35 (.bin .lss (.t 34) (kI 16)),oM 36 35,oG 37 (.mv (.t 10)) 36 true,oG 38 (.mv (.t 12)) 36 true,oG 39 (.bin .add (.t 37) (.t 38)) 36 true,oG 40 (.mv (.t 2)) 36 true,oG 41 (.len (.t 40)) 36 true,oG 42 (.bin .lss (.t 39) (.t 41)) 36 true,oO 43 (.pick (.t 36) (.t 42) (.k (.c (.d (.bool false)))))]) (.cond (.t 43) (.skip) (.exit 2))) (.seq (.block 3 (.reg [oM 46 9,oM 47 2,oM 48 10,oM 49 12,oO 50 (.bin .add (.t 48) (.t 49)),oO 51 (.idxSl 1 (.t 47) (.t 50)),oO 52 (.load .sc (.t 51)),oM 53 11,oM 54 12,oO 55 (.idxSl 1 (.t 53) (.t 54)),oO 56 (.load .sc (.t 55)),oO 57 (.bin .xor (.t 52) (.t 56)),oO 58 (.bldSl false 1 1 (.int .u8 0) [(0,(.t 57))]),oO 59 (.app false 1 1 (.t 46) (.t 58)),oM 9 59])) (.reg [oM 44 12,oO 45 (.bin .add (.t 44) (kI 1)),oM 12 45]))
def w7:aN := .seq (.seq (.reg [oM 25 10,oM 26 2,oO 27 (.len (.t 26)),oO 28 (.bin .lss (.t 25) (.t 27))]) (.cond (.t 28) (.skip) (.exit 0))) (.seq (.block 1 (.seq (.reg [oO 31 (.load (.ag 688) (.t 8)),oM 32 1,oO 33 (.call 111 [(.t 31),(.t 32)] none),oM 11 33]) (.seq (.seq (.reg [oO 12 (.mv (kI 0))]) (.block 2 (.loop sF))) (.reg [oM 60 1,oO 61 (.call 112 [(.t 60)] none),oM 1 61])))) (.reg [oM 29 10,oO 30 (.bin .add (.t 29) (kI 16)),oM 10 30]))
def qo:aD:=⟨3,63,.seq (.reg [oO 6 (.mv (.k (.c .nil))),oO 7 (.mv (kI 0))]) (.seq (.seq (.reg [oM 13 0,oO 14 (.len (.t 13)),oO 15 (.bin .neq (.t 14) (kI 16))]) (.cond (.t 15) (.seq (.reg [oO 6 (.mv (.k (.c .nil))),oO 7 (.mv (kI 5))]) (.ret)) (.skip))) (.seq (.seq (.reg [oM 16 1,oO 17 (.len (.t 16)),oO 18 (.bin .neq (.t 17) (kI 16))]) (.cond (.t 18) (.seq (.reg [oO 6 (.mv (.k (.c .nil))),oO 7 (.mv (kI 3))]) (.ret)) (.skip))) (.seq (.seq (.reg [oM 19 2,oO 20 (.len (.t 19)),oO 21 (.bin .gtr (.t 20) (kI 65535))]) (.cond (.t 21) (.seq (.reg [oO 6 (.mv (.k (.c .nil))),oO 7 (.mv (kI 2))]) (.ret)) (.skip))) (.seq (.reg [oM 22 0,oO 23 (.call 110 [(.t 22)] none),oO 8 (.alloc (aL 688 (.d (.int .u8 0)))),oN (.store (.ag 688) (.t 8) (.t 23))]) (.seq (.reg [oO 24 (.bldSl true 0 1 (.int .u8 0) []),
 oM 9 24]) (.seq (.seq (.reg [oO 10 (.mv (kI 0))]) (.block 0 (.loop w7))) (.seq (.reg [oM 62 9,oM 6 62,oO 7 (.mv (kI 0))]) (.ret)))))))),[(6,none),(7,none)]⟩
theorem S7:aB Tryz.prog { own:=[24],comp:=[],frz:=[],nils:=[] } Tryz.f88=some qo:=by kernel_rfl
set_option maxRecDepth 20000 in
set_option maxHeartbeats 3200000 in
theorem Ku (G:ah) (key c b:List UInt8) (hk:key.length≤9223372036854775807) (hc:c.length≤9223372036854775807) (hb:b.length≤9223372036854775807):au Tryz.prog G 88 [.sl (key.map bD),.sl (c.map bD),.sl (b.map bD)] (.tup [.c (.fr 1 ((oI key c b).map bD)),.c (.d (.int .i64 (ja key c b)))]):=by
  refine aF Tryz.func88 S7 rfl rfl ?_;by_cases h:key.length=16
  ·by_cases h2:c.length=16
   ·by_cases h3:b.length≤65535
    ·have hM:=su h;have r4:List.drop 688 (aL 688 (0:UInt8))=[]:=Y8 (by rw[aX]; omega);rw[FI h h2 h3,FJ h h2 h3];simp only[qo,af,ae,aa,seval,iteOmega,toNatUp,h,h2,qi];refine sC (zs G key h) ?_;simp only[cq,hM,aX,i6,ek,gD,r4,Yy,ae,aa,seval,iteOmega,toNatUp];refine aV (AV key c b) (fun n=>(b.length+15) / 16-n) (fun n=>16*n<b.length+16) 0 (by omega) ?_ ?_
     ·refine ap (fun i=>if i=1 then 192 else 64) ?_ ?_ rfl (by simp[V.ids,W.ids,C.ids,Ob.ids,bT]) <;> simp only[wx,aj,ar,aa,seval,iteOmega,toNatUp,eR,bT,Z2,Nu,ZK,Yv] <;> rfl
     ·intro n hn;have hT:=qF (ak key) c b (16*n);by_cases hlt:16*n<b.length
      ·have t1:(cO key).take 688=cO key:=Yo (by omega);simp only[w7,AV,ae,aa,seval,iteOmega,toNatUp,cq,hM,bo,t1,gV];refine sD (qB G key (dh c n) h (qn h2 n)) ?_;have hen:jz key (dh c n)=cW (ak key) (dh c n):=rfl;rw[hen];refine aV (vE key c b n) (fun k=>16-k) (fun k=>k≤16∧16*n+k≤b.length) 0 ⟨by omega,by omega⟩ ?_ ?_
       ·refine ap (fun i=>i) ?_ ?_ rfl (by simp[V.ids,W.ids,C.ids,Ob.ids,bT]) <;> simp only[wx,aj,ar,aa,seval,iteOmega,toNatUp,eR,bT,Zf]
       ·rintro k ⟨hk16,hkb⟩;have hTk:=qF (ak key) c b (16*n+k);have hTk1:=qF (ak key) c b (16*n+k+1);by_cases hgo:k<16∧16*n+k<b.length
        ·obtain⟨hk1,hk2⟩:=hgo;have g1:b[16*n+k]?=some (b.getD (16*n+k) 0):=cN hk2;have hel:=ii (ak key) (dh c n);have g2:(cW (ak key) (dh c n))[k]?=some ((cW (ak key) (dh c n)).getD k 0):=cN (by omega);have x1:=de (b.getD (16*n+k) 0) ((cW (ak key) (dh c n)).getD k 0);have ho:=HY (ak key) c b hk1 hk2;simp only[sF,vE,ae,aa,seval,iteOmega,toNatUp,aC,g1,g2,x1,hel,bH];refine aQ (k+1) (by omega) ⟨by omega,by omega⟩ (ap (fun i=>if i=1 then 472 else i) ?_ ?_ rfl (by simp[V.ids,W.ids,C.ids,Ob.ids,bT])) <;> simp only[wx,aj,ar,aa,seval,iteOmega,toNatUp,eR,bT]
         ·rw[show 16*n+(k+1)=16*n+k+1 from rfl,hTk,hTk1,show min (16*n+k) b.length+1=min (16*n+k+1) b.length by omega]
         ·rw[← ZM,← ho,YD]; rfl
        ·have e:oT (ak key) c b (16*n+k)=oT (ak key) c b (16*(n+1)):=by
           by_cases h16:k=16
           ·rw[h16,show 16*n+16=16*(n+1) by omega]
           ·rw[mI _ _ _ (by omega),mI _ _ _ (by omega)]
         have hx:=U0 G (dh c n) (by rw[qn h2]; omega);rw[FH h2] at hx;by_cases h16:k<16
         ·have hnl:¬ 16*n+k<b.length:=by omega
          simp only[sF,vE,e,ae,aa,seval,iteOmega,toNatUp];refine sD (hx) ?_;refine aQ (n+1) (by omega) (by omega) (ap (fun i=>i) ?_ ?_ rfl (by simp[V.ids,W.ids,C.ids,Ob.ids,bT])) <;> simp only[wx,aj,ar,aa,seval,iteOmega,toNatUp,eR,bT];rw[show (16*(n:Int)+16)=16*((n:Int)+1) by omega]
         ·simp only[sF,vE,e,ae,aa,seval,iteOmega,toNatUp];refine sD (hx) ?_;refine aQ (n+1) (by omega) (by omega) (ap (fun i=>i) ?_ ?_ rfl (by simp[V.ids,W.ids,C.ids,Ob.ids,bT])) <;> simp only[wx,aj,ar,aa,seval,iteOmega,toNatUp,eR,bT];rw[show (16*(n:Int)+16)=16*((n:Int)+1) by omega]
      ·have e:=mI (ak key) c b (j:=16*n) (by omega);have hl:=pM (ak key) c b;simp only[w7,AV,e,ae,aa,seval,iteOmega,toNatUp,hl];have ht:(fR (ak key) c b).take b.length=fR (ak key) c b:=Yo (by omega);exact tY (by simp only[ae,aa,seval,iteOmega,toNatUp,cq,hl,bo,ht]) (by simp only[ae,aa,seval,iteOmega,toNatUp])
    ·rw[Ci h h2 (by omega),nG (by omega)];simp only[qo,af,ae,aa,seval,iteOmega,toNatUp,h,h2];exact bw
   ·rw[Dr b h h2,nG (by omega)];simp only[qo,af,ae,aa,seval,iteOmega,toNatUp,h];exact bw
  ·rw[Dq c b h,nG (by omega)];simp only[qo,af,ae,aa,seval,iteOmega,toNatUp];exact bw
theorem Vg (G:ah) (key c b:List UInt8) (hk:key.length≤9223372036854775807) (hc:c.length≤9223372036854775807) (hb:b.length≤9223372036854775807):au Tryz.prog G 88 [.sl (key.map bD),.sl (c.map bD),.sl (b.map bD)] (.tup [.c (.d (.sl ((oI key c b).map bD))),.c (.d (.int .i64 (ja key c b)))]):=lN (Ku G key c b hk hc hb)
def mO (l:List UInt8):D:=.sl (l.map bD)
def uX (a b:List (List UInt8)) (i:Nat):St:=⟨aP [(0,.w (.c (.d (.sl (a.map mO))))),(1,.w (.c (.d (.sl (b.map mO))))),(5,.w (.c (.d (.int .i64 (i:Int)))))],hL [],uL []⟩
def s9:aN := .seq (.seq (.reg [oM 11 5,oM 12 0,oO 13 (.len (.t 12)),oO 14 (.bin .lss (.t 11) (.t 13))]) (.cond (.t 14) (.skip) (.exit 0))) (.seq (.block 1 (.seq (.reg [oM 17 0,oM 18 5,oO 19 (.idxSl 1 (.t 17) (.t 18)),oO 20 (.load .sc (.t 19)),oM 21 1,oM 22 5,oO 23 (.idxSl 1 (.t 21) (.t 22)),oO 24 (.load .sc (.t 23)),oO 25 (.call 12 [(.t 20),(.t 24)] none),oO 26 (.un .not (.t 25))]) (.cond (.t 26) (.seq (.reg [oO 4 (.mv (.k (.c (.d (.bool false)))))]) (.ret)) (.skip)))) (.reg [oM 15 5,oO 16 (.bin .add (.t 15) (kI 1)),oM 5 16]))
def zw:aD:=⟨2,27,.seq (.reg [oO 4 (.mv (.k (.c (.d (.bool false)))))]) (.seq (.seq (.reg [oM 6 0,oO 7 (.len (.t 6)),oM 8 1,oO 9 (.len (.t 8)),oO 10 (.bin .neq (.t 7) (.t 9))]) (.cond (.t 10) (.seq (.reg [oO 4 (.mv (.k (.c (.d (.bool false)))))]) (.ret)) (.skip))) (.seq (.seq (.reg [oO 5 (.mv (kI 0))]) (.block 0 (.loop s9))) (.seq (.reg [oO 4 (.mv (.k (.c (.d (.bool true)))))]) (.ret)))),[(4,none)]⟩
theorem Vk:aB Tryz.prog { own:=[],comp:=[],frz:=[],nils:=[] } Tryz.f37=some zw:=by kernel_rfl
set_option maxHeartbeats 1600000 in
theorem Xe (G:ah) (a b:List (List UInt8)) (ha:a.length≤140737488355328) (hb:b.length≤140737488355328):au Tryz.prog G 37 [.sl (a.map mO),.sl (b.map mO)] (.w (.c (.d (.bool (a==b))))):=by
  refine aF Tryz.func37 Vk rfl rfl ?_;by_cases hlen:a.length=b.length
  ·have hz:∀ l:List UInt8,(mO l).cells=[mO l]:=fun _=>rfl
   simp only[zw,af,ae,aa,seval,iteOmega,toNatUp];refine aV (uX a b) (fun i=>a.length-i) (fun i=>i≤a.length∧a.take i=b.take i) 0 ⟨Yt _,rfl⟩ ?_ ?_
   ·refine ap (fun i=>0) ?_ ?_ rfl rfl <;> simp only[wx,aj,ar,aa,seval,iteOmega,toNatUp] <;> rfl
   ·rintro i ⟨hi,hpre⟩;by_cases hlt:i<a.length
    ·have g1:a[i]?=some a[i]:=Yn hlt;have g2:b[i]?=some (b[i]'(by omega)):=Yn (by omega);have hx:∀ x y:List UInt8,a[i]?=some x→b[i]?=some y→(a=b→x=y):=fun x y h1 h2 e=>by subst e; rw[h1] at h2; exact Option.some.inj h2
     have hx1:=hx _ _ g1 g2;have hstep:a[i]=b[i]'(by omega)→a.take (i+1)=b.take (i+1):=fun e=>by
       rw[Zq,Zq,g1,g2,hpre,e]
     generalize a[i]=x at *
     generalize b[i]'(by omega)=y at *
     have hrs:=jq G x y;cases hxy:x==y
     ·have hne:(a==b)=false:=by
        rw[beq_eq_false_iff_ne]; intro e
        have:=hx1 e;subst this;simp at hxy
      simp only[s9,uX,ae,aa,seval,iteOmega,toNatUp,aC,g1,g2,hz,hne];refine sC (hrs) ?_;simp only[hxy,ae,aa,seval,iteOmega,toNatUp];exact aG
     ·have hxy':x=y:=by simpa using hxy
      simp only[s9,uX,ae,aa,seval,iteOmega,toNatUp,aC,g1,g2,hz];refine sC (hrs) ?_;simp only[hxy,ae,aa,seval,iteOmega,toNatUp];refine aQ (i+1) (by omega) ⟨by omega,hstep hxy'⟩ (ap (fun _=>0) ?_ ?_ rfl rfl) <;> simp only[wx,aj,ar,aa,seval,iteOmega,toNatUp]
    ·obtain rfl:i=a.length:=by omega
     have e:(a==b)=true:=by
       rw[beq_iff_eq];rw[Yo (Yz _),Yo (by omega)] at hpre;exact hpre
     simp only[s9,uX,ae,aa,seval,iteOmega,toNatUp,e];exact aG
  ·have hne:(a==b)=false:=by rw[beq_eq_false_iff_ne]; intro e; subst e; exact hlen rfl
   simp only[zw,af,ae,aa,seval,iteOmega,toNatUp,hne];exact aG
theorem Me (s:Nat) (l:List UInt8) (k:IntKind) (n:Int):V.flat (.tup [.c (.fr s (l.map bD)),.c (.d (.int k n))])=true:=by
  have:=eU s l;simp only[V.flat,W.flat,Z4,List.all_nil,Bool.and_true] at this ⊢;rw[this]; rfl
def Kw:aD:=⟨2,10,.seq (.reg [oO 4 (.mv (.k (.c (.d (.bool false)))))]) (.seq (.reg [oM 5 0,oO 6 (.b2s (.t 5)),oM 7 1,oO 8 (.b2s (.t 7)),oO 9 (.bin .eql (.t 6) (.t 8)),oM 4 9]) (.ret)),[(4,none)]⟩
theorem Vl:aB Tryz.prog { own:=[],comp:=[],frz:=[],nils:=[] } Tryz.f85=some Kw:=by kernel_rfl
theorem Xf (G:ah) (l m:List UInt8):au Tryz.prog G 85 [.sl (l.map bD),.sl (m.map bD)] (.w (.c (.d (.bool (l==m))))):=by
  refine aF Tryz.func85 Vl rfl rfl ?_;simp only[Kw,af,wx,aa,seval,iteOmega,toNatUp,xA,De];exact oC (by simp only[wx,aa,seval,iteOmega,toNatUp])
def H0:aD:=⟨2,8,.seq (.reg [oO 4 (.mv (.k (.c (.d (.bool false)))))]) (.seq (.reg [oM 5 0,oM 6 1,oO 7 (.call 85 [(.t 5),(.t 6)] none),oM 4 7]) (.ret)),[(4,none)]⟩
theorem S9:aB Tryz.prog { own:=[],comp:=[],frz:=[],nils:=[] } Tryz.f55=some H0:=by kernel_rfl
theorem qH (G:ah) (l m:List UInt8):au Tryz.prog G 55 [.sl (l.map bD),.sl (m.map bD)] (.w (.c (.d (.bool (l==m))))):=by
  refine aF Tryz.func55 S9 rfl rfl ?_;simp only[H0,af,ae,aa,seval,iteOmega,toNatUp];refine sD (Xf G l m) ?_;exact aG
theorem PG (v k:Nat):aI v (k+1)=aI (v / 256) k++[UInt8.ofNat v]:=by
  unfold aI;rw[ZW,YD]
  congr 1
  ·apply Zb;intro i hi;have hi':i<k:=List.mem_range.1 hi;rw[show k+1-1-i=(k-1-i)+1 by omega,Nat.pow_succ,Nat.mul_comm,← Nat.div_div_eq_div_mul]
  ·simp
theorem Re (a:List UInt8) (x:UInt8):aZ (a++[x])=(aZ a*256+x.toNat)%18446744073709551616:=by simp[aZ]
theorem Tn {k:Nat} (h:k≤8):256^k≤18446744073709551616:=Za (Nat.pow_le_pow_right (by decide) h) (by decide)
theorem ie:∀ (k:Nat) (l:List UInt8),l.length=k→k≤8→aZ l<256^k∧aI (aZ l) k=l:=by
  intro k
  induction k with
  | zero=>intro l h _; rw[Y9 h]; exact⟨by decide,rfl⟩
  | succ k ih =>
    intro l h h8;rcases List.eq_nil_or_concat l with rfl | ⟨a,x,rfl⟩
    ·simp at h
    ·rw[List.concat_eq_append] at *
     obtain⟨a1,a2⟩:=ih a (by simpa using h) (by omega);have hx:x.toNat<256:=x.toNat_lt;have hp:=Tn h8;have e:aZ (a++[x])=aZ a*256+x.toNat:=by
       rw[Re,Z5];rw[Nat.pow_succ] at hp; omega
     refine⟨by rw[e,Nat.pow_succ]; omega,?_⟩;rw[e,PG,show (aZ a*256+x.toNat) / 256=aZ a by omega,a2]
     congr 2
     rw[← UInt8.toNat_inj,UInt8.toNat_ofNat'];omega
structure Hd where
  lp:Int
  vr:Int
  md:Int
  st:Int
  pl:Int
  pr:Int
  rd:Nat
  rp:Nat
  ri:Nat
  rf:Nat
  og:Nat
  rc:Nat
  tr:Nat
def Hd.z:Hd:=⟨0,0,0,0,0,0,0,0,0,0,0,0,0⟩
def lz (h:Hd):Prop:=0≤h.lp∧h.lp≤3∧(h.vr=3∨h.vr=4)∧0≤h.md∧h.md≤7∧0≤h.st∧h.st≤255∧-128≤h.pl∧h.pl≤127∧-128≤h.pr∧h.pr≤127
instance (h:Hd):Decidable (lz h):=by unfold lz; infer_instance
def iM (h:Hd):Bool:=decide (lz h)
def pv (h:Hd):Prop:=h.rd<4294967296∧h.rp<4294967296∧h.ri<4294967296∧h.rf<18446744073709551616∧h.og<18446744073709551616∧h.rc<18446744073709551616∧h.tr<18446744073709551616
def dd (v:Int):UInt8:=UInt8.ofNat (v%256).toNat
def jf (b:UInt8):Int:=if b.toNat>127 then (b.toNat:Int)-256 else (b.toNat:Int)
def rG (h:Hd):List UInt8:=aI h.rd 4++(aI h.rp 4++(aI h.ri 4++(aI h.rf 8++(aI h.og 8++(aI h.rc 8++aI h.tr 8)))))
def d8 (h:Hd):List UInt8:=[dd (h.lp*64+h.vr*8+h.md),dd h.st,dd h.pl,dd h.pr]++rG h
theorem To (h:Hd):(rG h).length=44:=by simp[rG,dD]
theorem Tp (h:Hd):(d8 h).length=48:=by unfold d8; rw[Yr,To]; rfl
def aO (l:List UInt8) (a n:Nat):List UInt8:=(l.drop a).take n
def bQ (l:List UInt8):Hd:=⟨((l.getD 0 0).toNat / 64:Nat),((l.getD 0 0).toNat / 8%8:Nat),((l.getD 0 0).toNat%8:Nat),((l.getD 1 0).toNat:Nat),jf (l.getD 2 0),jf (l.getD 3 0),
  aZ (aO l 4 4),aZ (aO l 8 4),aZ (aO l 12 4),aZ (aO l 16 8),aZ (aO l 24 8),aZ (aO l 32 8),aZ (aO l 40 8)⟩
theorem cS {l:List UInt8} {a n:Nat} (h:a+n≤l.length):(aO l a n).length=n:=by
  unfold aO; rw[Yu,Yw]; omega
theorem Tq (v:Int):((dd v).toNat:Int)=v%256:=by
  unfold dd;rw[UInt8.toNat_ofNat']; omega
theorem tH (b:UInt8):-128≤jf b∧jf b≤127:=by
  have:=b.toNat_lt;unfold jf;split <;> omega
theorem iY (G:ah) (v:Nat) (k:Int) (hk:0≤k∧k≤64):au Tryz.prog G 81 [.int .u64 (v:Int),.int .i64 k] (.w (.c (.fr 1 ((aI v k.toNat).map bD)))):=by
  have c:=LZ G v k;rw[show m6 v k=aI v k.toNat from if_pos hk] at c;exact c
theorem ju (G:ah) (v:Nat) (k:Int) (hk:0≤k∧k≤64):au Tryz.prog G 42 [.int .u64 (v:Int),.int .i64 k] (.w (.c (.fr 1 ((aI v k.toNat).map bD)))):=by
  have c:=UI G v k;rw[show m6 v k=aI v k.toNat from if_pos hk] at c;exact c
def uk:aD:=⟨2,25,.seq (.reg [oO 4 (.mv (.k (.c .nil))),oO 5 (.mv (.k (.c .nil))),oO 6 (.mv (.k (.c (.d (.bool false)))))]) (.seq (.seq (.reg [oM 7 1,oO 8 (.bin .lss (.t 7) (kI 0)),oM 9 8,oG 10 (.mv (.t 1)) 9 false,oG 11 (.mv (.t 0)) 9 false,oG 12 (.len (.t 11)) 9 false,oG 13 (.bin .gtr (.t 10) (.t 12)) 9 false,oO 14 (.pick (.t 9) (.k (.c (.d (.bool true)))) (.t 13))]) (.cond (.t 14) (.seq (.reg [oO 4 (.mv (.k (.c .nil))),oO 5 (.mv (.k (.c .nil))),oO 6 (.mv (.k (.c (.d (.bool false)))))]) (.ret)) (.skip))) (.seq (.reg [oM 15 0,oM 16 1,oO 17 (.slice 1 (.t 15) none (some (.t 16)) none),oO 18 (.bldSl false 1 1 (.sl []) [(0,(.t 17))]),oO 19 (.call 50 [(.t 18)] none),oM 20 0,oM 21 1,oO 22 (.slice 1 (.t 20) (some (.t 21)) none none),oO 23 (.bldSl false 1 1 (.sl []) [(0,(.t 22))]),oO 24 (.call 50 [(.t 23)] none),
 oM 4 19,oM 5 24,oO 6 (.mv (.k (.c (.d (.bool true)))))]) (.ret))),[(4,none),(5,none),(6,none)]⟩
theorem Lb:aB Tryz.prog { own:=[],comp:=[],frz:=[],nils:=[] } Tryz.f92=some uk:=by kernel_rfl
set_option maxHeartbeats 800000 in
theorem um (G:ah) (b:List UInt8) (n:Nat) (h:n≤b.length) (hb:b.length≤1099511627776):au Tryz.prog G 92 [.sl (b.map bD),.int .i64 (n:Int)] (.tup [.c (.d (.sl ((b.take n).map bD))),.c (.d (.sl ((b.drop n).map bD))),.c (.d (.bool true))]):=by
  refine aF Tryz.func92 Lb rfl rfl ?_;have c1:=eJ G [b.take n] (by simp) (by simp; omega);have c2:=eJ G [b.drop n] (by simp) (by simp; omega);simp only[Yp,Yv,YZ,YU,Yy] at c1 c2;have et:(b.drop n).take (b.length-n)=b.drop n:=Yo (by simp);have g:((n:Int)>(b.length:Int))=False:=eq_false (by omega);simp only[uk,af,ae,aa,seval,iteOmega,toNatUp,g];refine sC (c1) ?_;simp only[et,ae,aa,seval,iteOmega,toNatUp];refine sC (c2) ?_;simp only[et,ae,aa,seval,iteOmega,toNatUp];exact bP
theorem uo (G:ah) (b:List UInt8) (n:Int) (h:n<0∨(b.length:Int)<n):au Tryz.prog G 92 [.sl (b.map bD),.int .i64 n] (.tup [.c (.d (.sl [])),.c (.d (.sl [])),.c (.d (.bool false))]):=by
  refine aF Tryz.func92 Lb rfl rfl ?_;rcases Int.lt_or_le n 0 with h1 | h1
  ·simp only[uk,af,ae,aa,seval,iteOmega,toNatUp];exact fq (by simp only[ae,aa,seval,iteOmega,toNatUp] <;> rfl) (by simp only[ae,aa,seval,iteOmega,toNatUp] <;> rfl) (by simp only[ae,aa,seval,iteOmega,toNatUp])
  ·have g:(n>(b.length:Int))=True:=eq_true (by omega);simp only[uk,af,ae,aa,seval,iteOmega,toNatUp,g];exact fq (by simp only[ae,aa,seval,iteOmega,toNatUp] <;> rfl) (by simp only[ae,aa,seval,iteOmega,toNatUp] <;> rfl) (by simp only[ae,aa,seval,iteOmega,toNatUp])
def zS (l:List UInt8) (i:Nat):St:=⟨aP [(0,.w (.c (.d (.sl (l.map bD))))),(3,.w (.c (.d (.int .u64 (aZ (l.take i)))))),(4,.w (.c (.d (.int .i64 (i:Int)))))],hL [],uL []⟩
def xf:aN := .seq (.seq (.reg [oM 5 4,oM 6 0,oO 7 (.len (.t 6)),oO 8 (.bin .lss (.t 5) (.t 7))]) (.cond (.t 8) (.skip) (.exit 0))) (.seq (.block 1 (.reg [oM 11 3,oO 12 (.bin .shl (.t 11) (.k (.c (.d (.int .u64 8))))),oM 13 0,oM 14 4,oO 15 (.idxSl 1 (.t 13) (.t 14)),oO 16 (.load .sc (.t 15)),oO 17 (.conv .u64 (.t 16)),oO 18 (.bin .or (.t 12) (.t 17)),oM 3 18])) (.reg [oM 9 4,oO 10 (.bin .add (.t 9) (kI 1)),oM 4 10]))
def IH:aD:=⟨1,20,.seq (.reg [oO 2 (.mv (.k (.c (.d (.int .u64 0)))))]) (.seq (.reg [oO 3 (.mv (.k (.c (.d (.int .u64 0)))))]) (.seq (.seq (.reg [oO 4 (.mv (kI 0))]) (.block 0 (.loop xf))) (.seq (.reg [oM 19 3,oM 2 19]) (.ret)))),[(2,none)]⟩
theorem TU:aB Tryz.prog { own:=[],comp:=[],frz:=[],nils:=[] } Tryz.f100=some IH:=by kernel_rfl
set_option maxHeartbeats 400000 in
theorem jB (G:ah) (l:List UInt8) (hl:l.length≤9223372036854775807):au Tryz.prog G 100 [.sl (l.map bD)] (.w (.c (.d (.int .u64 (aZ l))))):=by
  refine aF Tryz.func100 TU rfl rfl ?_;simp only[IH,af,ae,aa,seval,iteOmega,toNatUp];refine aV (zS l) (fun i=>l.length-i) (fun i=>i≤l.length) 0 (Yt _) ?_ ?_
  ·refine ap (fun i=>i) ?_ ?_ rfl rfl <;> simp only[wx,aj,ar,aa,seval,iteOmega,toNatUp] <;> rfl
  ·intro i hi;by_cases hlt:i<l.length
   ·have hb:=l[i].toNat_lt;have e2:l[i]?=some l[i]:=Yn hlt;have e3:IntKind.u64.wrap (l[i].toNat:Int)=(l[i].toNat:Int):=u64_in _ (by omega) (by omega);have e4:IntKind.i64.wrap ((i:Int)+1)=((i+1:Nat):Int):=by rw[IntWalk.i64_in _ (by omega)]; rfl
    have e5:=Df l i hlt;simp only[xf,zS,wx,aa,seval,iteOmega,toNatUp,aC,e2,IntKind.bits,e3,e4];refine aQ (i+1) (by omega) (by omega) (ap id ?_ ?_ rfl rfl) <;> simp only[wx,aj,aa,seval,iteOmega,toNatUp,← e5]
   ·have:l.take i=l:=Yo (by omega);simp only[xf,zS,wx,aa,seval,iteOmega,toNatUp,this];exact oC (by simp only[wx,aa,seval,iteOmega,toNatUp])
def lW:List UInt32:=[0x6a09e667,0xbb67ae85,0x3c6ef372,0xa54ff53a,0x510e527f,0x9b05688c,0x1f83d9ab,0x5be0cd19]
def fe:List UInt32:=[
  0x428a2f98,0x71374491,0xb5c0fbcf,0xe9b5dba5,0x3956c25b,0x59f111f1,0x923f82a4,0xab1c5ed5,
  0xd807aa98,0x12835b01,0x243185be,0x550c7dc3,0x72be5d74,0x80deb1fe,0x9bdc06a7,0xc19bf174,
  0xe49b69c1,0xefbe4786,0x0fc19dc6,0x240ca1cc,0x2de92c6f,0x4a7484aa,0x5cb0a9dc,0x76f988da,
  0x983e5152,0xa831c66d,0xb00327c8,0xbf597fc7,0xc6e00bf3,0xd5a79147,0x06ca6351,0x14292967,
  0x27b70a85,0x2e1b2138,0x4d2c6dfc,0x53380d13,0x650a7354,0x766a0abb,0x81c2c92e,0x92722c85,
  0xa2bfe8a1,0xa81a664b,0xc24b8b70,0xc76c51a3,0xd192e819,0xd6990624,0xf40e3585,0x106aa070,
  0x19a4c116,0x1e376c08,0x2748774c,0x34b0bcb5,0x391c0cb3,0x4ed8aa4a,0x5b9cca4f,0x682e6ff3,
  0x748f82ee,0x78a5636f,0x84c87814,0x8cc70208,0x90befffa,0xa4506ceb,0xbef9a3f7,0xc67178f2]
theorem Cj:lW.length=8:=rfl
theorem Ox:fe.length=64:=rfl
def ux (b:List UInt8) (t:Nat):UInt32 :=
  nh (nh (nh (m5 (mT (b.getD (4*t) 0)) 24) (m5 (mT (b.getD (4*t+1) 0)) 16)) (m5 (mT (b.getD (4*t+2) 0)) 8)) (mT (b.getD (4*t+3) 0))
def Lr (x:UInt32):UInt32:=ip (ip (jI x 7) (jI x 18)) (pc x 3)
def Ls (y:UInt32):UInt32:=ip (ip (jI y 17) (jI y 19)) (pc y 10)
def vj (s:List UInt32) (t:Nat):UInt32 :=
  cx (cx (cx (Ls (s.getD (t-2) 0)) (s.getD (t-7) 0)) (Lr (s.getD (t-15) 0))) (s.getD (t-16) 0)
def ka (b:List UInt8) (n:Nat):List UInt32:=(List.range n).map (ux b)
def gj (b:List UInt8):Nat→List UInt32
  | 0=>ka b 16
  | n+1=>gj b n++[vj (gj b n) (16+n)]
def iG (b:List UInt8):List UInt32:=gj b 48
theorem Ro (b:List UInt8) (m:Nat) (h:m=48):iG b=gj b m:=by rw[h]; rfl
def A6 (e:UInt32):UInt32:=ip (ip (jI e 6) (jI e 11)) (jI e 25)
def Ni (a:UInt32):UInt32:=ip (ip (jI a 2) (jI a 13)) (jI a 22)
def Bi (e f g:UInt32):UInt32:=ip (mc e f) (mc (vB e) g)
def Nj (a b c:UInt32):UInt32:=ip (ip (mc a b) (mc a c)) (mc b c)
structure dt where
  (a b c d e f g h:UInt32)
def dt.step (s:dt) (k w:UInt32):dt :=
  let t1:=cx (cx (cx (cx s.h (A6 s.e)) (Bi s.e s.f s.g)) k) w
  let t2:=cx (Ni s.a) (Nj s.a s.b s.c)
  ⟨cx t1 t2,s.a,s.b,s.c,cx s.d t1,s.e,s.f,s.g⟩
def dt.of (h:List UInt32):dt:=⟨h.getD 0 0,h.getD 1 0,h.getD 2 0,h.getD 3 0,h.getD 4 0,h.getD 5 0,h.getD 6 0,h.getD 7 0⟩
def dt.rounds (s:dt) (k w:List UInt32):Nat→dt
  | 0=>s
  | n+1=>(s.rounds k w n).step (k.getD n 0) (w.getD n 0)
def dt.sum (s:dt) (h:List UInt32):List UInt32 :=
  [cx (h.getD 0 0) s.a,cx (h.getD 1 0) s.b,cx (h.getD 2 0) s.c,cx (h.getD 3 0) s.d,cx (h.getD 4 0) s.e,cx (h.getD 5 0) s.f,cx (h.getD 6 0) s.g,cx (h.getD 7 0) s.h]
def uz (h:List UInt32) (b:List UInt8):List UInt32:=((dt.of h).rounds fe (iG b) 64).sum h
theorem Oy (h:List UInt32) (b:List UInt8):(uz h b).length=8:=rfl
def Gb:aD:=⟨2,15,.seq (.reg [oO 4 (.mv (.k (.c (.d (.int .u32 0)))))]) (.seq (.reg [oM 5 0,oM 6 1,oO 7 (.conv .u64 (.t 6)),oO 8 (.bin .shr (.t 5) (.t 7)),oM 9 0,oM 10 1,oO 11 (.bin .sub (kI 32) (.t 10)),oO 12 (.conv .u64 (.t 11)),oO 13 (.bin .shl (.t 9) (.t 12)),oO 14 (.bin .or (.t 8) (.t 13)),oM 4 14]) (.ret)),[(4,none)]⟩
theorem Rp:aB Tryz.prog { own:=[],comp:=[],frz:=[],nils:=[] } Tryz.f103=some Gb:=by kernel_rfl
theorem ke (G:ah) (x:UInt32) (n:Nat) (h0:0<n) (hn:n<32):au Tryz.prog G 103 [wD x,.int .i64 n] (.w (.c (.d (wD (jI x n))))):=by
  refine aF Tryz.func103 Rp rfl rfl ?_;have e1:IntKind.u64.wrap (n:Int)=(n:Int):=IntWalk.u64_in _ (by omega);have e2:IntKind.i64.wrap (32-(n:Int))=((32-n:Nat):Int):=by rw[IntWalk.i64_in _ (by omega)]; omega
  have e3:IntKind.u64.wrap ((32-n:Nat):Int)=((32-n:Nat):Int):=IntWalk.u64_in _ (by omega);simp only[Gb,af,wx,aa,seval,iteOmega,toNatUp,e1,e2,e3];exact oC (by simp only[wx,aa,seval,iteOmega,toNatUp] <;> rfl)
def IU:aD:=⟨0,2,.seq (.reg [oO 0 (.mv (.k (.c .nil)))]) (.seq (.reg [oO 1 (.bldSl true 8 1 (.int .u32 0) [(0,(.k (.c (.d (.int .u32 1779033703))))),(1,(.k (.c (.d (.int .u32 3144134277))))),(2,(.k (.c (.d (.int .u32 1013904242))))),(3,(.k (.c (.d (.int .u32 2773480762))))),(4,(.k (.c (.d (.int .u32 1359893119))))),(5,(.k (.c (.d (.int .u32 2600822924))))),(6,(.k (.c (.d (.int .u32 528734635))))),(7,(.k (.c (.d (.int .u32 1541459225)))))]),oM 0 1]) (.ret)),[(0,none)]⟩
theorem Ud:aB Tryz.prog { own:=[1],comp:=[],frz:=[],nils:=[] } Tryz.f72=some IU:=by kernel_rfl
theorem WJ (G:ah):au Tryz.prog G 72 [] (.w (.c (.fr 1 (lW.map wD)))):=by
  refine aF Tryz.func72 Ud rfl rfl ?_;simp only[IU,af,uC,uD,uE,uF,uG,sx];refine GL (.w (.c (.own 8 1 0 8)),upd hN 8 (some (.row 1 (lW.map wD))),upd uN 8 true) (by kernel_rfl) ?_;simp only[wx,aa,seval,iteOmega,toNatUp];exact en (id:=8) (n:=8) (s:=1) (by simp only[wx,aa,seval,iteOmega,toNatUp]) (by simp only[wx,aa,seval,iteOmega,toNatUp]) rfl
def IV:aD:=⟨0,2,.seq (.reg [oO 0 (.mv (.k (.c .nil)))]) (.seq (.reg [oO 1 (.bldSl true 64 1 (.int .u32 0) [(0,(.k (.c (.d (.int .u32 1116352408))))),(1,(.k (.c (.d (.int .u32 1899447441))))),(2,(.k (.c (.d (.int .u32 3049323471))))),(3,(.k (.c (.d (.int .u32 3921009573))))),(4,(.k (.c (.d (.int .u32 961987163))))),(5,(.k (.c (.d (.int .u32 1508970993))))),(6,(.k (.c (.d (.int .u32 2453635748))))),(7,(.k (.c (.d (.int .u32 2870763221))))),(8,(.k (.c (.d (.int .u32 3624381080))))),(9,(.k (.c (.d (.int .u32 310598401))))),(10,(.k (.c (.d (.int .u32 607225278))))),(11,(.k (.c (.d (.int .u32 1426881987))))),(12,(.k (.c (.d (.int .u32 1925078388))))),(13,(.k (.c (.d (.int .u32 2162078206))))),(14,(.k (.c (.d (.int .u32 2614888103))))),(15,(.k (.c (.d (.int .u32 3248222580))))),(16,(.k (.c (.d (.int .u32 3835390401))))),(17,(.k (.c (.d (.int .u32 4022224774))))),(18,(.k (.c (.d (.int .u32 264347078))))),(19,(.k (.c (.d (.int .u32 604807628))))),(20,(.k (.c (.d (.int .u32 770255983))))),(21,(.k (.c (.d (.int .u32 1249150122))))),(22,(.k (.c (.d (.int .u32 1555081692))))),(23,(.k (.c (.d (.int .u32 1996064986))))),(24,(.k (.c (.d (.int .u32 2554220882))))),(25,(.k (.c (.d (.int .u32 2821834349))))),(26,(.k (.c (.d (.int .u32 2952996808))))),(27,(.k (.c (.d (.int .u32 3210313671))))),(28,(.k (.c (.d (.int .u32 3336571891))))),(29,(.k (.c (.d (.int .u32 3584528711))))),(30,(.k (.c (.d (.int .u32 113926993))))),(31,(.k (.c (.d (.int .u32 338241895))))),(32,(.k (.c (.d (.int .u32 666307205))))),(33,(.k (.c (.d (.int .u32 773529912))))),(34,(.k (.c (.d (.int .u32 1294757372))))),(35,(.k (.c (.d (.int .u32 1396182291))))),(36,(.k (.c (.d (.int .u32 1695183700))))),(37,(.k (.c (.d (.int .u32 1986661051))))),(38,(.k (.c (.d (.int .u32 2177026350))))),(39,(.k (.c (.d (.int .u32 2456956037))))),(40,(.k (.c (.d (.int .u32 2730485921))))),(41,(.k (.c (.d (.int .u32 2820302411))))),(42,(.k (.c (.d (.int .u32 3259730800))))),(43,(.k (.c (.d (.int .u32 3345764771))))),(44,(.k (.c (.d (.int .u32 3516065817))))),(45,(.k (.c (.d (.int .u32 3600352804))))),(46,(.k (.c (.d (.int .u32 4094571909))))),(47,(.k (.c (.d (.int .u32 275423344))))),(48,(.k (.c (.d (.int .u32 430227734))))),(49,(.k (.c (.d (.int .u32 506948616))))),(50,(.k (.c (.d (.int .u32 659060556))))),(51,(.k (.c (.d (.int .u32 883997877))))),(52,(.k (.c (.d (.int .u32 958139571))))),(53,(.k (.c (.d (.int .u32 1322822218))))),(54,(.k (.c (.d (.int .u32 1537002063))))),(55,(.k (.c (.d (.int .u32 1747873779))))),(56,(.k (.c (.d (.int .u32 1955562222))))),(57,(.k (.c (.d (.int .u32 2024104815))))),(58,(.k (.c (.d (.int .u32 2227730452))))),(59,(.k (.c (.d (.int .u32 2361852424))))),(60,(.k (.c (.d (.int .u32 2428436474))))),(61,(.k (.c (.d (.int .u32 2756734187))))),(62,(.k (.c (.d (.int .u32 3204031479))))),(63,(.k (.c (.d (.int .u32 3329325298)))))]),
 oM 0 1]) (.ret)),[(0,none)]⟩
theorem Ue:aB Tryz.prog { own:=[1],comp:=[],frz:=[],nils:=[] } Tryz.f73=some IV:=by kernel_rfl
theorem Lt (G:ah):au Tryz.prog G 73 [] (.w (.c (.fr 1 (fe.map wD)))):=by
  refine aF Tryz.func73 Ue rfl rfl ?_;simp only[IV,af,uC,uD,uE,uF,uG,sx];refine GL (.w (.c (.own 8 1 0 64)),upd hN 8 (some (.row 1 (fe.map wD))),upd uN 8 true) (by kernel_rfl) ?_;simp only[wx,aa,seval,iteOmega,toNatUp];exact en (id:=8) (n:=64) (s:=1) (by simp only[wx,aa,seval,iteOmega,toNatUp]) (by simp only[wx,aa,seval,iteOmega,toNatUp]) rfl
theorem vX (b:List UInt8) (n:Nat):(ka b n).length=n:=by simp[ka]
theorem wh (b:List UInt8):∀ n,(gj b n).length=16+n
  | 0=>by simp[gj,vX]
  | n+1=>by rw[gj,Yr,wh b n]; simp; omega
theorem Gd {α:Type} (l:List α) (z x:α) (n:Nat) (h:0<n):(l++List.replicate n z).set l.length x=(l++[x])++List.replicate (n-1) z:=by
  obtain⟨k,rfl⟩:∃ k,n=k+1:=⟨n-1,by omega⟩
  rw[ZR _ _ (Yz _),Nat.sub_self,List.replicate_succ,List.set_cons_zero];simp
theorem WK {l:List UInt32} {r:List UInt32} {i:Nat} (h:i<l.length):(l++r)[i]?=some (l.getD i 0):=by
  rw[Y6 h];simp[h]
theorem getD_some {l:List UInt32} {i:Nat} (h:i<l.length):l[i]?=some (l.getD i 0):=by simp[h]
theorem eight {l:List UInt32} (h:l.length=8):∃ a b c d e f g i,l=[a,b,c,d,e,f,g,i]:=by
  match l,h with
  | [a,b,c,d,e,f,g,i],_=>exact⟨a,b,c,d,e,f,g,i,rfl⟩
def dt.list (s:dt):List UInt32:=[s.a,s.b,s.c,s.d,s.e,s.f,s.g,s.h]
theorem WL (s:dt) (k w:UInt32):(s.step k w).a=cx (cx (cx (cx (cx s.h (A6 s.e)) (Bi s.e s.f s.g)) k) w) (cx (Ni s.a) (Nj s.a s.b s.c)):=rfl
theorem WM (s:dt) (k w:UInt32):(s.step k w).b=s.a:=rfl
theorem WN (s:dt) (k w:UInt32):(s.step k w).c=s.b:=rfl
theorem WO (s:dt) (k w:UInt32):(s.step k w).d=s.c:=rfl
theorem WP (s:dt) (k w:UInt32):(s.step k w).e=cx s.d (cx (cx (cx (cx s.h (A6 s.e)) (Bi s.e s.f s.g)) k) w):=rfl
theorem WQ (s:dt) (k w:UInt32):(s.step k w).f=s.e:=rfl
theorem WR (s:dt) (k w:UInt32):(s.step k w).g=s.f:=rfl
theorem WS (s:dt) (k w:UInt32):(s.step k w).h=s.g:=rfl
theorem Oz {l:List UInt8} {i:Nat} (h:i<l.length):l[i]?=some (l.getD i 0):=by simp[h]
def AA (h k:List UInt32) (b:List UInt8) (t:Nat):St:=⟨aP [(0,.w (.c (.d (.sl (h.map wD))))),(1,.w (.c (.d (.sl (k.map wD))))),(2,.w (.c (.d (.sl (b.map bD))))),(7,.w (.c (.pa 1 1))),(8,.w (.c (.d (.int .i64 (t:Int)))))],
  hL [(1,.row 1 ((ka b t++List.replicate (64-t) 0).map wD))],uL [1]⟩
def AB (h k:List UInt32) (b:List UInt8) (n:Nat):St:=⟨aP [(0,.w (.c (.d (.sl (h.map wD))))),(1,.w (.c (.d (.sl (k.map wD))))),(7,.w (.c (.pa 1 1))),(9,.w (.c (.d (.int .i64 ((16+n:Nat):Int)))))],
  hL [(1,.row 1 ((gj b n++List.replicate (48-n) 0).map wD))],uL [1]⟩
def vk (h:List UInt32) (b:List UInt8) (s:dt) (n:Nat):St:=⟨aP [(0,.w (.c (.d (.sl (h.map wD))))),(1,.w (.c (.d (.sl (fe.map wD))))),(7,.w (.c (.pa 1 1))),(12,.w (.c (.d (wD s.a)))),(13,.w (.c (.d (wD s.b)))),(14,.w (.c (.d (wD s.c)))),(15,.w (.c (.d (wD s.d)))),(16,.w (.c (.d (wD s.e)))),(17,.w (.c (.d (wD s.f)))),(18,.w (.c (.d (wD s.g)))),(19,.w (.c (.d (wD s.h)))),(20,.w (.c (.d (.int .i64 (n:Int)))))],
  hL [(1,.row 1 ((iG b).map wD))],uL [1]⟩
def rB (h:List UInt32) (b:List UInt8) (n:Nat):St:=vk h b ((dt.of h).rounds fe (iG b) n) n
def vY:aN := .seq (.seq (.reg [oM 23 8,oO 24 (.bin .lss (.t 23) (kI 16))]) (.cond (.t 24) (.skip) (.exit 0))) (.seq (.block 1 (.reg [oM 27 8,oM 28 2,oM 29 8,oO 30 (.bin .mul (kI 4) (.t 29)),oO 31 (.idxSl 1 (.t 28) (.t 30)),oO 32 (.load .sc (.t 31)),oO 33 (.conv .u32 (.t 32)),oO 34 (.bin .shl (.t 33) (.k (.c (.d (.int .u64 24))))),oM 35 2,oM 36 8,oO 37 (.bin .mul (kI 4) (.t 36)),oO 38 (.bin .add (.t 37) (kI 1)),oO 39 (.idxSl 1 (.t 35) (.t 38)),oO 40 (.load .sc (.t 39)),oO 41 (.conv .u32 (.t 40)),oO 42 (.bin .shl (.t 41) (.k (.c (.d (.int .u64 16))))),oO 43 (.bin .or (.t 34) (.t 42)),oM 44 2,oM 45 8,oO 46 (.bin .mul (kI 4) (.t 45)),oO 47 (.bin .add (.t 46) (kI 2)),oO 48 (.idxSl 1 (.t 44) (.t 47)),oO 49 (.load .sc (.t 48)),oO 50 (.conv .u32 (.t 49)),oO 51 (.bin .shl (.t 50) (.k (.c (.d (.int .u64 8))))),
 oO 52 (.bin .or (.t 43) (.t 51)),oM 53 2,oM 54 8,oO 55 (.bin .mul (kI 4) (.t 54)),oO 56 (.bin .add (.t 55) (kI 3)),oO 57 (.idxSl 1 (.t 53) (.t 56)),oO 58 (.load .sc (.t 57)),oO 59 (.conv .u32 (.t 58)),oO 60 (.bin .or (.t 52) (.t 59)),oO 61 (.idxPa 1 64 (.t 7) (.t 27)),oN (.store .sc (.t 61) (.t 60))])) (.reg [oM 25 8,oO 26 (.bin .add (.t 25) (kI 1)),oM 8 26]))
def vZ:aN := .seq (.seq (.reg [oM 62 9,oO 63 (.bin .lss (.t 62) (kI 64))]) (.cond (.t 63) (.skip) (.exit 2))) (.seq (.block 3 (.seq (.reg [oM 66 9,oO 67 (.bin .sub (.t 66) (kI 15)),oO 68 (.idxPa 1 64 (.t 7) (.t 67)),oO 69 (.load .sc (.t 68)),oM 70 9,oO 71 (.bin .sub (.t 70) (kI 2)),oO 72 (.idxPa 1 64 (.t 7) (.t 71)),oO 73 (.load .sc (.t 72)),oM 10 69,oM 11 73]) (.reg [oM 74 9,oM 75 11,oO 76 (.call 103 [(.t 75),(kI 17)] none),oM 77 11,oO 78 (.call 103 [(.t 77),(kI 19)] none),oO 79 (.bin .xor (.t 76) (.t 78)),oM 80 11,oO 81 (.bin .shr (.t 80) (.k (.c (.d (.int .u64 10))))),oO 82 (.bin .xor (.t 79) (.t 81)),oM 83 9,oO 84 (.bin .sub (.t 83) (kI 7)),oO 85 (.idxPa 1 64 (.t 7) (.t 84)),oO 86 (.load .sc (.t 85)),oO 87 (.bin .add (.t 82) (.t 86)),oM 88 10,oO 89 (.call 103 [(.t 88),(kI 7)] none),
 oM 90 10,oO 91 (.call 103 [(.t 90),(kI 18)] none),oO 92 (.bin .xor (.t 89) (.t 91)),oM 93 10,oO 94 (.bin .shr (.t 93) (.k (.c (.d (.int .u64 3))))),oO 95 (.bin .xor (.t 92) (.t 94)),oO 96 (.bin .add (.t 87) (.t 95)),oM 97 9,oO 98 (.bin .sub (.t 97) (kI 16)),oO 99 (.idxPa 1 64 (.t 7) (.t 98)),oO 100 (.load .sc (.t 99)),oO 101 (.bin .add (.t 96) (.t 100)),oO 102 (.idxPa 1 64 (.t 7) (.t 74)),oN (.store .sc (.t 102) (.t 101))]))) (.reg [oM 64 9,oO 65 (.bin .add (.t 64) (kI 1)),oM 9 65]))
def v6:aN := .seq (.seq (.reg [oM 127 20,oO 128 (.bin .lss (.t 127) (kI 64))]) (.cond (.t 128) (.skip) (.exit 4))) (.seq (.block 5 (.seq (.reg [oM 131 19,oM 132 16,oO 133 (.call 103 [(.t 132),(kI 6)] none),oM 134 16,oO 135 (.call 103 [(.t 134),(kI 11)] none),oO 136 (.bin .xor (.t 133) (.t 135)),oM 137 16,oO 138 (.call 103 [(.t 137),(kI 25)] none),oO 139 (.bin .xor (.t 136) (.t 138)),oO 140 (.bin .add (.t 131) (.t 139)),oM 141 16,oM 142 17,oO 143 (.bin .and (.t 141) (.t 142)),oM 144 16,oO 145 (.un .xor (.t 144)),oM 146 18,oO 147 (.bin .and (.t 145) (.t 146)),oO 148 (.bin .xor (.t 143) (.t 147)),oO 149 (.bin .add (.t 140) (.t 148)),oM 150 1,oM 151 20,oO 152 (.idxSl 1 (.t 150) (.t 151)),oO 153 (.load .sc (.t 152)),oO 154 (.bin .add (.t 149) (.t 153)),oM 155 20,oO 156 (.idxPa 1 64 (.t 7) (.t 155)),
 oO 157 (.load .sc (.t 156)),oO 158 (.bin .add (.t 154) (.t 157)),oM 21 158]) (.seq (.reg [oM 159 12,oO 160 (.call 103 [(.t 159),(kI 2)] none),oM 161 12,oO 162 (.call 103 [(.t 161),(kI 13)] none),oO 163 (.bin .xor (.t 160) (.t 162)),oM 164 12,oO 165 (.call 103 [(.t 164),(kI 22)] none),oO 166 (.bin .xor (.t 163) (.t 165)),oM 167 12,oM 168 13,oO 169 (.bin .and (.t 167) (.t 168)),oM 170 12,oM 171 14,oO 172 (.bin .and (.t 170) (.t 171)),oO 173 (.bin .xor (.t 169) (.t 172)),oM 174 13,oM 175 14,oO 176 (.bin .and (.t 174) (.t 175)),oO 177 (.bin .xor (.t 173) (.t 176)),oO 178 (.bin .add (.t 166) (.t 177)),oM 22 178]) (.reg [oM 179 21,oM 180 22,oO 181 (.bin .add (.t 179) (.t 180)),oM 182 12,oM 183 13,oM 184 14,oM 185 15,oM 186 21,oO 187 (.bin .add (.t 185) (.t 186)),oM 188 16,oM 189 17,oM 190 18,oM 12 181,
 oM 13 182,oM 14 183,oM 15 184,oM 16 187,oM 17 188,oM 18 189,oM 19 190])))) (.reg [oM 129 20,oO 130 (.bin .add (.t 129) (kI 1)),oM 20 130]))
def DG:aD:=⟨3,232,.seq (.reg [oO 6 (.mv (.k (.c .nil)))]) (.seq (.reg [oO 7 (.allocArr [(.int .u32 0),(.int .u32 0),(.int .u32 0),(.int .u32 0),(.int .u32 0),(.int .u32 0),(.int .u32 0),(.int .u32 0),(.int .u32 0),(.int .u32 0),(.int .u32 0),(.int .u32 0),(.int .u32 0),(.int .u32 0),(.int .u32 0),(.int .u32 0),(.int .u32 0),(.int .u32 0),(.int .u32 0),(.int .u32 0),(.int .u32 0),(.int .u32 0),(.int .u32 0),(.int .u32 0),(.int .u32 0),(.int .u32 0),(.int .u32 0),(.int .u32 0),(.int .u32 0),(.int .u32 0),(.int .u32 0),(.int .u32 0),(.int .u32 0),(.int .u32 0),(.int .u32 0),(.int .u32 0),(.int .u32 0),(.int .u32 0),(.int .u32 0),(.int .u32 0),(.int .u32 0),(.int .u32 0),(.int .u32 0),(.int .u32 0),(.int .u32 0),(.int .u32 0),(.int .u32 0),(.int .u32 0),(.int .u32 0),(.int .u32 0),(.int .u32 0),(.int .u32 0),(.int .u32 0),(.int .u32 0),(.int .u32 0),(.int .u32 0),(.int .u32 0),(.int .u32 0),(.int .u32 0),(.int .u32 0),(.int .u32 0),(.int .u32 0),(.int .u32 0),(.int .u32 0)])])
 (.seq (.seq (.reg [oO 8 (.mv (kI 0))]) (.block 0 (.loop vY))) (.seq (.seq (.reg [oO 9 (.mv (kI 16))]) (.block 2 (.loop vZ))) (.seq (.reg [oM 103 0,oO 104 (.idxSl 1 (.t 103) (kI 0)),oO 105 (.load .sc (.t 104)),oM 106 0,oO 107 (.idxSl 1 (.t 106) (kI 1)),oO 108 (.load .sc (.t 107)),oM 109 0,oO 110 (.idxSl 1 (.t 109) (kI 2)),oO 111 (.load .sc (.t 110)),oM 112 0,oO 113 (.idxSl 1 (.t 112) (kI 3)),oO 114 (.load .sc (.t 113)),oM 115 0,oO 116 (.idxSl 1 (.t 115) (kI 4)),oO 117 (.load .sc (.t 116)),oM 118 0,oO 119 (.idxSl 1 (.t 118) (kI 5)),oO 120 (.load .sc (.t 119)),oM 121 0,oO 122 (.idxSl 1 (.t 121) (kI 6)),oO 123 (.load .sc (.t 122)),oM 124 0,oO 125 (.idxSl 1 (.t 124) (kI 7)),oO 126 (.load .sc (.t 125)),oM 12 105,oM 13 108,oM 14 111,oM 15 114,oM 16 117,oM 17 120,oM 18 123,oM 19 126])
 (.seq (.seq (.reg [oO 20 (.mv (kI 0))]) (.block 4 (.loop v6))) (.seq (.reg [oM 191 0,oO 192 (.idxSl 1 (.t 191) (kI 0)),oO 193 (.load .sc (.t 192)),oM 194 12,oO 195 (.bin .add (.t 193) (.t 194)),oM 196 0,oO 197 (.idxSl 1 (.t 196) (kI 1)),oO 198 (.load .sc (.t 197)),oM 199 13,oO 200 (.bin .add (.t 198) (.t 199)),oM 201 0,oO 202 (.idxSl 1 (.t 201) (kI 2)),oO 203 (.load .sc (.t 202)),oM 204 14,oO 205 (.bin .add (.t 203) (.t 204)),oM 206 0,oO 207 (.idxSl 1 (.t 206) (kI 3)),oO 208 (.load .sc (.t 207)),oM 209 15,oO 210 (.bin .add (.t 208) (.t 209)),oM 211 0,oO 212 (.idxSl 1 (.t 211) (kI 4)),oO 213 (.load .sc (.t 212)),oM 214 16,oO 215 (.bin .add (.t 213) (.t 214)),oM 216 0,oO 217 (.idxSl 1 (.t 216) (kI 5)),oO 218 (.load .sc (.t 217)),oM 219 17,oO 220 (.bin .add (.t 218) (.t 219)),oM 221 0,
 oO 222 (.idxSl 1 (.t 221) (kI 6)),oO 223 (.load .sc (.t 222)),oM 224 18,oO 225 (.bin .add (.t 223) (.t 224)),oM 226 0,oO 227 (.idxSl 1 (.t 226) (kI 7)),oO 228 (.load .sc (.t 227)),oM 229 19,oO 230 (.bin .add (.t 228) (.t 229)),oO 231 (.bldSl true 8 1 (.int .u32 0) [(0,(.t 195)),(1,(.t 200)),(2,(.t 205)),(3,(.t 210)),(4,(.t 215)),(5,(.t 220)),(6,(.t 225)),(7,(.t 230))]),oM 6 231]) (.ret))))))),[(6,none)]⟩
theorem PK:aB Tryz.prog { own:=[231],comp:=[],frz:=[],nils:=[] } Tryz.f74=some DG:=by kernel_rfl
set_option maxHeartbeats 1600000 in
theorem Ge (G:ah) (h:List UInt32) (b:List UInt8) (hh:h.length=8) (hb:b.length=64):au Tryz.prog G 74 [.sl (h.map wD),.sl (fe.map wD),.sl (b.map bD)] (.w (.c (.fr 1 ((uz h b).map wD)))):=by
  refine aF Tryz.func74 PK rfl rfl ?_;have hsl:(iG b).length=64:=wh b 48;have hcl:fe.length=64:=Ox;simp only[DG,af,wx,aa,seval,iteOmega,toNatUp];refine aV (AA h fe b) (fun t=>16-t) (fun t=>t≤16) 0 (Yt _) ?_ ?_
  ·refine ap (fun _=>56) ?_ ?_ rfl rfl <;> simp only[wx,aj,aa,seval,iteOmega,toNatUp];rfl
  ·intro t ht;by_cases hlt:t<16
   ·have e0:IntKind.i64.wrap (4*(t:Int))=((4*t:Nat):Int):=by rw[IntWalk.i64_in _ (by omega)]; omega
    have e1:IntKind.i64.wrap (((4*t:Nat):Int)+1)=((4*t+1:Nat):Int):=by rw[IntWalk.i64_in _ (by omega)]; omega
    have e2:IntKind.i64.wrap (((4*t:Nat):Int)+2)=((4*t+2:Nat):Int):=by rw[IntWalk.i64_in _ (by omega)]; omega
    have e3:IntKind.i64.wrap (((4*t:Nat):Int)+3)=((4*t+3:Nat):Int):=by rw[IntWalk.i64_in _ (by omega)]; omega
    have e4:IntKind.i64.wrap ((t:Int)+1)=((t+1:Nat):Int):=by rw[IntWalk.i64_in _ (by omega)]; omega
    have g:∀ k,k<64→(b.map bD)[k]?=some (bD (b.getD k 0)):=fun k hk=>by rw[aC,Oz (by omega)]; rfl
    have g0:=g (4*t) (by omega);have g1:=g (4*t+1) (by omega);have g2:=g (4*t+2) (by omega);have g3:=g (4*t+3) (by omega);have h1:t<(ka b t++List.replicate (64-t) 0).length:=by rw[Yr,vX,YK]; omega
    have h2:=Gd (ka b t) 0 (ux b t) (64-t) (by omega);rw[vX] at h2;have h3:ka b t++[ux b t]=ka b (t+1):=by simp[ka,ZW]
    have h4:64-t-1=64-(t+1):=by omega
    rw[h3,h4] at h2;simp only[ux] at h2;have m24:min (24:Int).toNat 32=24:=by decide
    have m16:min (16:Int).toNat 32=16:=by decide
    have m8:min (8:Int).toNat 32=8:=by decide
    simp only[vY,AA,wx,aa,seval,iteOmega,toNatUp,e0,e1,e2,e3,e4,g0,g1,g2,g3,Zr,Ke h1 (uJ _),Kf,h2];refine aQ (t+1) (by omega) (by omega) (ap id ?_ ?_ rfl rfl) <;> simp only[wx,aj,aa,seval,iteOmega,toNatUp]
   ·obtain rfl:t=16:=by omega
    simp only[vY,AA,wx,aa,seval,iteOmega,toNatUp];refine aV (AB h fe b) (fun n=>48-n) (fun n=>n≤48) 0 (Yt _) ?_ ?_
    ·have h0:ka b 16=gj b 0:=rfl;refine ap id ?_ ?_ rfl rfl <;> simp only[wx,aj,aa,seval,iteOmega,toNatUp,h0]
    ·intro n hn;by_cases hlt:n<48
     ·have hl:=wh b n;have w1:∀ k:Nat,k≤16→IntKind.i64.wrap (((16+n:Nat):Int)-(k:Int))=((16+n-k:Nat):Int):=fun k hk=>by rw[IntWalk.i64_in _ (by omega)]; omega
      have e15:IntKind.i64.wrap (((16+n:Nat):Int)-15)=((16+n-15:Nat):Int):=w1 15 (by decide);have e2:IntKind.i64.wrap (((16+n:Nat):Int)-2)=((16+n-2:Nat):Int):=w1 2 (by decide);have e7:IntKind.i64.wrap (((16+n:Nat):Int)-7)=((16+n-7:Nat):Int):=w1 7 (by decide);have e16:IntKind.i64.wrap (((16+n:Nat):Int)-16)=((16+n-16:Nat):Int):=w1 16 (by decide);have e0:IntKind.i64.wrap (((16+n:Nat):Int)+1)=((16+(n+1):Nat):Int):=by rw[IntWalk.i64_in _ (by omega)]; omega
      have g:∀ k,k<16+n→((gj b n++List.replicate (48-n) 0).map wD)[k]?=some (wD ((gj b n).getD k 0)):=fun k hk=>by
        rw[Zn,WK (by omega)]; rfl
      have g15:=g (16+n-15) (by omega);have g2:=g (16+n-2) (by omega);have g7:=g (16+n-7) (by omega);have g16:=g (16+n-16) (by omega);simp only[vZ,AB,wx,aa,seval,iteOmega,toNatUp,e15,e2,e7,e16,e0,g15,g2,g7,g16];refine aY (ke G _ 17 (by decide) (by decide)) rfl (.inr rfl) ?_;simp only[wx,aa,seval,iteOmega,toNatUp];refine aY (ke G _ 19 (by decide) (by decide)) rfl (.inr rfl) ?_;simp only[wx,aa,seval,iteOmega,toNatUp,e15,e2,e7,e16,e0,g15,g2,g7,g16];refine aY (ke G _ 7 (by decide) (by decide)) rfl (.inr rfl) ?_;simp only[wx,aa,seval,iteOmega,toNatUp];refine aY (ke G _ 18 (by decide) (by decide)) rfl (.inr rfl) ?_;have h1:16+n<(gj b n++List.replicate (48-n) 0).length:=by rw[Yr,hl,YK]; omega
      have h2:=Gd (gj b n) 0 (vj (gj b n) (16+n)) (48-n) (by omega);rw[hl] at h2;have h4:48-n-1=48-(n+1):=by omega
      have h3:gj b n++[vj (gj b n) (16+n)]=gj b (n+1):=rfl;rw[h3,h4] at h2;simp only[vj,Lr,Ls] at h2;simp only[wx,aa,seval,iteOmega,toNatUp,e15,e2,e7,e16,e0,g15,g2,g7,g16,Ke h1 (uJ _),Kf,h2];refine aQ (n+1) (by omega) (by omega) (ap id ?_ ?_ rfl rfl) <;> simp only[wx,aj,aa,seval,iteOmega,toNatUp]
     ·have hn48:n=48:=by omega
      have h0:48-n=0:=by omega
      obtain⟨h0',h1,h2,h3,h4,h5,h6,h7,rfl⟩:=eight hh;simp only[vZ,AB,wx,aa,seval,iteOmega,toNatUp,h0,Yy,ZD,← Ro b n hn48];refine aV (rB [h0',h1,h2,h3,h4,h5,h6,h7] b) (fun n=>64-n) (fun n=>n≤64) 0 (Yt _) ?_ ?_
      ·refine ap id ?_ ?_ rfl rfl <;> simp only[rB,vk,wx,aj,aa,seval,iteOmega,toNatUp];exact⟨rfl,rfl,rfl,rfl,rfl,rfl,rfl,rfl⟩
      ·clear hn hlt hn48 h0;intro n hn;by_cases hlt:n<64
       ·have e1:IntKind.i64.wrap ((n:Int)+1)=((n+1:Nat):Int):=by rw[IntWalk.i64_in _ (by omega)]; rfl
        have g1:(fe.map wD)[n]?=some (wD (fe.getD n 0)):=by rw[aC,getD_some (by omega)]; rfl
        have g2:((iG b).map wD)[n]?=some (wD ((iG b).getD n 0)):=by rw[aC,getD_some (by omega)]; rfl
        have hr:(dt.of [h0',h1,h2,h3,h4,h5,h6,h7]).rounds fe (iG b) (n+1)=((dt.of [h0',h1,h2,h3,h4,h5,h6,h7]).rounds fe (iG b) n).step (fe.getD n 0) ((iG b).getD n 0):=rfl;generalize hs:(dt.of [h0',h1,h2,h3,h4,h5,h6,h7]).rounds fe (iG b) n=s at hr;simp only[v6,rB,vk,hs,wx,aa,seval,iteOmega,toNatUp,hcl,hsl,g1,g2,e1];refine aY (ke G _ 6 (by decide) (by decide)) rfl (.inr rfl) ?_;simp only[wx,aa,seval,iteOmega,toNatUp];refine aY (ke G _ 11 (by decide) (by decide)) rfl (.inr rfl) ?_;simp only[wx,aa,seval,iteOmega,toNatUp];refine aY (ke G _ 25 (by decide) (by decide)) rfl (.inr rfl) ?_;simp only[wx,aa,seval,iteOmega,toNatUp,g1,g2,hcl,hsl];refine aY (ke G _ 2 (by decide) (by decide)) rfl (.inr rfl) ?_;simp only[wx,aa,seval,iteOmega,toNatUp];refine aY (ke G _ 13 (by decide) (by decide)) rfl (.inr rfl) ?_;simp only[wx,aa,seval,iteOmega,toNatUp];refine aY (ke G _ 22 (by decide) (by decide)) rfl (.inr rfl) ?_;simp only[wx,aa,seval,iteOmega,toNatUp,e1];refine aQ (n+1) (by omega) (by omega) ?_;rw[rB,hr];refine (ap id ?_ ?_ rfl rfl) <;> simp only[wx,aj,aa,seval,iteOmega,toNatUp,WL,WM,WN,WO,WP,WQ,WR,WS];exact⟨rfl,rfl⟩
       ·obtain rfl:n=64:=by omega
        have hK:uz [h0',h1,h2,h3,h4,h5,h6,h7] b=((dt.of [h0',h1,h2,h3,h4,h5,h6,h7]).rounds fe (iG b) 64).sum [h0',h1,h2,h3,h4,h5,h6,h7]:=rfl;rw[hK];simp only[rB];generalize (dt.of [h0',h1,h2,h3,h4,h5,h6,h7]).rounds fe (iG b) 64=s;have e8:s.sum [h0',h1,h2,h3,h4,h5,h6,h7]=[cx h0' s.a,cx h1 s.b,cx h2 s.c,cx h3 s.d,cx h4 s.e,cx h5 s.f,cx h6 s.g,cx h7 s.h]:=rfl;simp only[v6,vk,e8,wx,aa,seval,iteOmega,toNatUp];exact en (id:=1848) (n:=8) (s:=1) (by simp only[wx,aa,seval,iteOmega,toNatUp]) (by simp only[wx,aa,seval,iteOmega,toNatUp] <;> rfl) rfl
def gG (h:List UInt32) (b:List UInt8):Nat→List UInt32
  | 0=>h
  | n+1=>uz (gG h b n) ((b.drop (64*n)).take 64)
theorem sK {h:List UInt32} (hh:h.length=8) (b:List UInt8):∀ n,(gG h b n).length=8
  | 0=>hh
  | n+1=>Oy _ _
def jO (rest:List UInt8) (count:Nat):List UInt8:=rest++[128]++List.replicate ((119-rest.length)%64) 0++aI (count*8) 8
def iZ (ws:List UInt32):List UInt8:=ws.flatMap fun w=>aI w.toNat 4
def nf (s:List UInt32) (rest:List UInt8) (count:Nat):List UInt8:=iZ (gG s (jO rest count) ((jO rest count).length / 64))
def rC (b:List UInt8):List UInt8:=nf (gG lW b (b.length / 64)) (b.drop (64*(b.length / 64))) b.length
theorem wi:∀ ws:List UInt32,(iZ ws).length=4*ws.length
  | []=>rfl
  | w::ws=>by
    have:iZ (w::ws)=aI w.toNat 4++iZ ws:=rfl;rw[this,Yr,dD,wi ws,ZN]; omega
theorem Rq {s:List UInt32} (hs:s.length=8) (rest:List UInt8) (count:Nat):(nf s rest count).length=32:=by
  unfold nf;rw[wi,sK hs]
theorem Gf (b:List UInt8):(rC b).length=32:=Rq (sK Cj _ _) _ _
theorem Rr (rest:List UInt8) (count:Nat) (h:rest.length<64):(jO rest count).length=rest.length+9+(119-rest.length)%64∧(jO rest count).length%64=0:=by
  have:(jO rest count).length=rest.length+9+(119-rest.length)%64:=by simp[jO,dD]; omega
  exact⟨this,by omega⟩
theorem NQ (ws:List UInt32) (k:Nat) (h:k<ws.length):iZ (ws.take k)++aI (ws.getD k 0).toNat 4=iZ (ws.take (k+1)):=by
  rw[Zx h];unfold iZ;rw[ZC];simp[h]
theorem Rs {α:Type} (a:α) (j:Nat):List.replicate j a++[a]=List.replicate (j+1) a:=by rw[ZI]
def AC (h:List UInt32) (rest:List UInt8) (count:Nat) (j:Nat):St:=⟨aP [(0,.w (.c (.d (.sl (h.map wD))))),(2,.w (.c (.d (.int .i64 (count:Int))))),(7,.w (.c (.d (.sl (fe.map wD))))),(8,.w (.c (.own 1 1 0 (rest++[128]++List.replicate j 0).length)))],hL [(1,.row 1 ((rest++[128]++List.replicate j 0).map bD))],uL [1]⟩
def AD (h:List UInt32) (p:List UInt8) (n:Nat):St:=⟨aP [(0,.w (.c (.d (.sl ((gG h p n).map wD))))),(7,.w (.c (.d (.sl (fe.map wD))))),(8,.w (.c (.own 1 1 0 p.length))),(9,.w (.c (.d (.int .i64 ((64*n:Nat):Int)))))],hL [(1,.row 1 (p.map bD))],uL [1]⟩
def AE (ws:List UInt32) (k:Nat):St:=⟨aP [(0,.w (.c (.d (.sl (ws.map wD))))),(10,.w (.c (.own 1 1 0 (iZ (ws.take k)).length))),(11,.w (.c (.d (.int .i64 (k:Int)))))],hL [(1,.row 1 ((iZ (ws.take k)).map bD))],uL [1]⟩
theorem WT {ws:List UInt32} {k:Nat} (h:k<ws.length):(ws.map wD)[k]?=some (wD (ws.getD k 0)):=by
  simp[h]
theorem XT:D.int .u8 0=bD 0:=rfl
theorem Uf:D.int .u8 128=bD 128:=rfl
theorem MX (l:List UInt8) (a:UInt8):l.map bD++[bD a]=(l++[a]).map bD:=by simp
def xi:aN := .seq (.seq (.reg [oM 18 8,oO 19 (.len (.t 18)),oO 20 (.bin .rem (.t 19) (kI 64)),oO 21 (.bin .neq (.t 20) (kI 56))]) (.cond (.t 21) (.skip) (.exit 0))) (.block 1 (.reg [oM 22 8,oO 23 (.bldSl false 1 1 (.int .u8 0) [(0,(.k (.c (.d (.int .u8 0)))))]),oO 24 (.app false 1 1 (.t 22) (.t 23)),oM 8 24]))
def xj:aN := .seq (.seq (.reg [oM 31 9,oM 32 8,oO 33 (.len (.t 32)),oO 34 (.bin .lss (.t 31) (.t 33))]) (.cond (.t 34) (.skip) (.exit 2))) (.seq (.block 3 (.reg [oM 37 0,oM 38 7,oM 39 8,oM 40 9,oM 41 9,oO 42 (.bin .add (.t 41) (kI 64)),oO 43 (.slice 1 (.t 39) (some (.t 40)) (some (.t 42)) none),oO 44 (.call 74 [(.t 37),(.t 38),(.t 43)] none),oM 0 44])) (.reg [oM 35 9,oO 36 (.bin .add (.t 35) (kI 64)),oM 9 36]))
def xk:aN := .seq (.seq (.reg [oM 46 11,oO 47 (.bin .lss (.t 46) (kI 8))]) (.cond (.t 47) (.skip) (.exit 4))) (.seq (.block 5 (.reg [oM 50 10,oM 51 0,oM 52 11,oO 53 (.idxSl 1 (.t 51) (.t 52)),oO 54 (.load .sc (.t 53)),oO 55 (.conv .u64 (.t 54)),oO 56 (.call 42 [(.t 55),(kI 4)] none),oO 57 (.app false 1 1 (.t 50) (.t 56)),oM 10 57])) (.reg [oM 48 11,oO 49 (.bin .add (.t 48) (kI 1)),oM 11 49]))
def IW:aD:=⟨3,59,.seq (.reg [oO 6 (.mv (.k (.c .nil)))]) (.seq (.reg [oO 12 (.call 73 [] none),oM 7 12]) (.seq (.reg [oM 13 1,oO 14 (.bldSl false 1 1 (.sl []) [(0,(.t 13))]),oO 15 (.call 41 [(.t 14)] (some (0,1))),oO 16 (.bldSl false 1 1 (.int .u8 0) [(0,(.k (.c (.d (.int .u8 128)))))]),oO 17 (.app false 1 1 (.t 15) (.t 16)),oM 8 17]) (.seq (.block 0 (.loop xi)) (.seq (.reg [oM 25 8,oM 26 2,oO 27 (.conv .u64 (.t 26)),oO 28 (.bin .mul (.t 27) (.k (.c (.d (.int .u64 8))))),oO 29 (.call 42 [(.t 28),(kI 8)] none),oO 30 (.app false 1 1 (.t 25) (.t 29)),oM 8 30]) (.seq (.seq (.reg [oO 9 (.mv (kI 0))]) (.block 2 (.loop xj))) (.seq (.reg [oO 45 (.bldSl true 0 1 (.int .u8 0) []),oM 10 45]) (.seq (.seq (.reg [oO 11 (.mv (kI 0))]) (.block 4 (.loop xk))) (.seq (.reg [oM 58 10,
 oM 6 58]) (.ret))))))))),[(6,none)]⟩
theorem Ug:aB Tryz.prog { own:=[15,45],comp:=[],frz:=[],nils:=[] } Tryz.f75=some IW:=by kernel_rfl
theorem WU (G:ah) (s:List UInt32) (rest:List UInt8) (count:Nat) (hs:s.length=8) (hr:rest.length<64) (hc:count≤140737488355328):au Tryz.prog G 75 [.sl (s.map wD),.sl (rest.map bD),.int .i64 (count:Int)] (.w (.c (.fr 1 ((nf s rest count).map bD)))):=by
  refine aF Tryz.func75 Ug rfl rfl ?_;have hj:=eo G [rest] (by simp) (by simp; omega);have hf:[rest].flatten=rest:=by simp
  rw[hf] at hj;obtain⟨hp1,hp2⟩:=Rr rest count hr;simp only[IW,af,ae,aa,seval,iteOmega,toNatUp];refine aY (Lt G) rfl (.inl rfl) ?_;simp only[ae,aa,seval,iteOmega,toNatUp];refine aY hj rfl (.inl rfl) ?_;simp only[ae,aa,seval,iteOmega,toNatUp,bH,Uf,MX];refine aV (AC s rest count) (fun j=>(119-rest.length)%64-j) (fun j=>j≤(119-rest.length)%64) 0 (Yt _) ?_ ?_
  ·refine ap (fun _=>136) ?_ ?_ rfl rfl <;> simp only[wx,aj,ar,aa,seval,iteOmega,toNatUp]
  ·intro j hj;have hl:(rest++[128]++List.replicate j 0).length=rest.length+1+j:=by simp; omega
   have ht:((rest++[128]++List.replicate j 0).length:Int).tmod 64=(((rest.length+1+j)%64:Nat):Int):=by rw[hl]; rfl
   by_cases hlt:j<(119-rest.length)%64
   ·have e1:rest++[128]++List.replicate j 0++[0]=rest++[128]++List.replicate (j+1) 0:=by
      rw[YY,Rs]
    generalize hx:rest++[128]++List.replicate j 0=x at *
    simp only[xi,AC,hx,ae,aa,seval,iteOmega,toNatUp,ht,bH,XT,MX,e1];refine aQ (j+1) (by omega) (by omega) (ap (fun _=>192) ?_ ?_ rfl rfl) <;> simp only[wx,aj,ar,aa,seval,iteOmega,toNatUp]
   ·obtain rfl:j=(119-rest.length)%64:=by omega
    generalize hx:rest++[128]++List.replicate ((119-rest.length)%64) 0=x at *
    simp only[xi,AC,hx,ae,aa,seval,iteOmega,toNatUp,ht];refine aY (qj G (count*8) 8 (by decide)) ?_ (.inl rfl) ?_
    ·simp only[ae,aa,seval,iteOmega,toNatUp]
    have hx2:x++aI (count*8) 8=jO rest count:=by rw[← hx]; rfl
    simp only[ae,aa,seval,iteOmega,toNatUp,bH,gD,hx2,dD];refine aV (AD s (jO rest count)) (fun n=>(jO rest count).length / 64-n) (fun n=>n≤(jO rest count).length / 64) 0 (Yt _) ?_ ?_
    ·refine ap (fun _=>240) ?_ ?_ rfl rfl <;> simp only[wx,aj,ar,aa,seval,iteOmega,toNatUp,gG]
    ·generalize hpk:jO rest count=p at *
     intro n hn;have hl8:=sK hs p n;by_cases hlt:n<p.length / 64
     ·have h2:((p.drop (64*n)).take 64).length=64:=by rw[Yu,Yw]; omega
      have e1:64*n+64-64*n=64:=by omega
      simp only[xj,AD,ae,aa,seval,iteOmega,toNatUp];refine aY (Ge G (gG s p n) ((p.drop (64*n)).take 64) hl8 h2) ?_ (.inr (Yb _ _)) ?_
      ·simp only[ae,aa,seval,iteOmega,toNatUp,dQ,e1]
      simp only[ae,aa,seval,iteOmega,toNatUp];have e2:64*(n:Int)+64=64*((n:Int)+1):=by omega
      refine aQ (n+1) (by omega) (by omega) (ap id ?_ ?_ rfl rfl) <;> simp only[wx,aj,ar,aa,seval,iteOmega,toNatUp,gG,e2]
     ·obtain rfl:n=p.length / 64:=by omega
      have hfk:nf s rest count=iZ (gG s p (p.length / 64)):=by unfold nf; rw[hpk]
      rw[hfk];simp only[AD];generalize gG s p (p.length / 64)=ws at hl8;have h64:¬ ((64*(p.length / 64):Nat):Int)<(p.length:Int):=by omega
      simp only[xj,ae,aa,seval,iteOmega,toNatUp,h64];refine aV (AE ws) (fun k=>8-k) (fun k=>k≤8) 0 (Yt _) ?_ ?_
      ·refine ap (fun _=>360) ?_ ?_ rfl rfl <;> simp only[wx,aj,ar,aa,seval,iteOmega,toNatUp,iZ]
      ·intro k hk;by_cases hlt:k<8
       ·have hw1:(ws.getD k 0).toNat<4294967296:=word_lt _;have hwl:=wi (ws.take k);rw[Yu] at hwl;simp only[xk,AE,ae,aa,seval,iteOmega,toNatUp,WT (show k<ws.length by omega)];refine aY (qj G (ws.getD k 0).toNat 4 (by decide)) ?_ (.inl rfl) ?_
        ·simp only[ae,aa,seval,iteOmega,toNatUp]
        simp only[ae,aa,seval,iteOmega,toNatUp,bH,NQ ws k (by omega),dD];refine aQ (k+1) (by omega) (by omega) (ap (fun _=>456) ?_ ?_ rfl rfl) <;> simp only[wx,aj,ar,aa,seval,iteOmega,toNatUp]
       ·obtain rfl:k=8:=by omega
        have:ws.take 8=ws:=Yo (by omega);simp only[xk,AE,ae,aa,seval,iteOmega,toNatUp,this];exact en (id:=1) (n:=(iZ ws).length) (s:=1) (by simp only[wx,aa,seval,iteOmega,toNatUp]) (by simp only[wx,aa,seval,iteOmega,toNatUp]) (by rw[YI])
def A7 (b:List UInt8) (n:Nat):St:=⟨aP [(0,.w (.c (.d (.sl (b.map bD))))),(3,.w (.c (.d (.sl ((gG lW b n).map wD))))),(4,.w (.c (.d (.sl (fe.map wD))))),(5,.w (.c (.d (.int .i64 ((64*(b.length / 64):Nat):Int))))),(6,.w (.c (.d (.int .i64 ((64*n:Nat):Int)))))],hL [],uL []⟩
def xl:aN := .seq (.seq (.reg [oM 13 6,oM 14 5,oO 15 (.bin .lss (.t 13) (.t 14))]) (.cond (.t 15) (.skip) (.exit 0))) (.seq (.block 1 (.reg [oM 18 3,oM 19 4,oM 20 0,oM 21 6,oM 22 6,oO 23 (.bin .add (.t 22) (kI 64)),oO 24 (.slice 1 (.t 20) (some (.t 21)) (some (.t 23)) none),oO 25 (.call 74 [(.t 18),(.t 19),(.t 24)] none),oM 3 25])) (.reg [oM 16 6,oO 17 (.bin .add (.t 16) (kI 64)),oM 6 17]))
def IX:aD:=⟨1,33,.seq (.reg [oO 2 (.mv (.k (.c .nil)))]) (.seq (.reg [oO 7 (.call 72 [] none),oO 8 (.call 73 [] none),oM 3 7,oM 4 8]) (.seq (.reg [oM 9 0,oO 10 (.len (.t 9)),oO 11 (.bin .quo (.t 10) (kI 64)),oO 12 (.bin .mul (.t 11) (kI 64)),oM 5 12]) (.seq (.seq (.reg [oO 6 (.mv (kI 0))]) (.block 0 (.loop xl))) (.seq (.reg [oM 26 3,oM 27 0,oM 28 5,oO 29 (.slice 1 (.t 27) (some (.t 28)) none none),oM 30 0,oO 31 (.len (.t 30)),oO 32 (.call 75 [(.t 26),(.t 29),(.t 31)] (some (0,1))),oM 2 32]) (.ret))))),[(2,none)]⟩
theorem Uh:aB Tryz.prog { own:=[32],comp:=[],frz:=[],nils:=[] } Tryz.f40=some IX:=by kernel_rfl
theorem WV (G:ah) (b:List UInt8) (hb:b.length≤140737488355328):au Tryz.prog G 40 [.sl (b.map bD)] (.w (.c (.fr 1 ((rC b).map bD)))):=by
  refine aF Tryz.func40 Uh rfl rfl ?_;have e1:(b.length:Int).tdiv 64=((b.length / 64:Nat):Int):=rfl;have e2:((b.length / 64:Nat):Int)*64=((64*(b.length / 64):Nat):Int):=by omega
  have e3:IntKind.i64.wrap ((64*(b.length / 64):Nat):Int)=((64*(b.length / 64):Nat):Int):=IntWalk.i64_in _ (by omega);have e4:IntKind.i64.wrap ((b.length / 64:Nat):Int)=((b.length / 64:Nat):Int):=IntWalk.i64_in _ (by omega);simp only[IX,af,wx,wy,aa,seval,iteOmega,toNatUp];refine aY (WJ G) rfl (.inl rfl) ?_;simp only[wx,wy,aa,seval,iteOmega,toNatUp];refine aY (Lt G) rfl (.inl rfl) ?_;simp only[wx,wy,aa,seval,iteOmega,toNatUp,e1,e2,e3,e4];refine aV (A7 b) (fun n=>b.length / 64-n) (fun n=>n≤b.length / 64) 0 (Yt _) ?_ ?_
  ·refine ap id ?_ ?_ rfl rfl <;> simp only[wx,aj,aa,seval,iteOmega,toNatUp,gG]
  ·intro n hn;have hl8:=sK Cj b n;by_cases hlt:n<b.length / 64
   ·have h2:((b.drop (64*n)).take 64).length=64:=by rw[Yu,Yw]; omega
    have e1:64*n+64-64*n=64:=by omega
    have e5:IntKind.i64.wrap (((64*n:Nat):Int)+64)=((64*(n+1):Nat):Int):=by rw[IntWalk.i64_in _ (by omega)]; omega
    have e6:64*(n+1)-64*n=64:=by omega
    simp only[xl,A7,wx,wy,aa,seval,iteOmega,toNatUp,e1,e5,e6];refine aY (Ge G (gG lW b n) ((b.drop (64*n)).take 64) hl8 h2) ?_ (.inl rfl) ?_
    ·simp only[wx,wy,aa,seval,iteOmega,toNatUp]
    simp only[wx,wy,aa,seval,iteOmega,toNatUp,e5];refine aQ (n+1) (by omega) (by omega) (ap id ?_ ?_ rfl rfl) <;> simp only[wx,aj,aa,seval,iteOmega,toNatUp,gG]
   ·obtain rfl:n=b.length / 64:=by omega
    have e1:List.take (b.length-64*(b.length / 64)) (b.drop (64*(b.length / 64)))=b.drop (64*(b.length / 64)):=Yo (by rw[Yw]; exact Yz _);simp only[xl,A7,wx,wy,aa,seval,iteOmega,toNatUp,e1];refine aY (WU G (gG lW b (b.length / 64)) (b.drop (64*(b.length / 64))) b.length hl8 (by rw[Yw]; omega) hb) ?_ (.inl rfl) ?_
    ·simp only[wx,wy,aa,seval,iteOmega,toNatUp]
    simp only[wx,wy,aa,seval,iteOmega,toNatUp];exact en (id:=256) (n:=(nf (gG lW b (b.length / 64)) (b.drop (64*(b.length / 64))) b.length).length) (s:=1) (by simp only[wx,aa,seval,iteOmega,toNatUp]) (by simp only[wx,aa,seval,iteOmega,toNatUp] <;> rfl) (by rw[YI]; rfl)

def nX (v m:Int):Int:=if m<1 then 0 else v%m
theorem NC (v m:Int) (h:1≤m):0≤nX v m∧nX v m<m:=by
  unfold nX;rw[if_neg (by omega)];exact⟨Int.emod_nonneg _ (by omega),Int.emod_lt_of_pos _ (by omega)⟩
theorem Rt {v m:Int} (hm:0<m) (h:v.tmod m<0):v.tmod m+m=v%m:=by
  have h1:=Int.emod_add_mul_ediv v m;have h2:=Int.tmod_add_mul_tdiv v m;have h3:=Int.emod_nonneg v (show m≠0 by omega);have h4:=Int.emod_lt_of_pos v hm;have h5:=Int.lt_tmod_of_pos v hm;have e:m*(v.tdiv m-v / m)=v%m-v.tmod m:=by rw[Int.mul_sub]; omega
  have k1:v.tdiv m-v / m=1:=by
    rcases Int.lt_trichotomy (v.tdiv m-v / m) 1 with hlt | heq | hgt
    ·exfalso;have:v.tdiv m-v / m≤0:=by omega
     have:=ZX this (show 0≤m by omega);omega
    ·exact heq
    ·exfalso;have:2≤v.tdiv m-v / m:=by omega
     have:=ZX this (show 0≤m by omega);omega
  rw[k1] at e;omega
theorem Ru {v m:Int} (hm:0<m) (h:0≤v.tmod m):v.tmod m=v%m:=by
  have h1:=Int.emod_add_mul_ediv v m;have h2:=Int.tmod_add_mul_tdiv v m;have h3:=Int.emod_nonneg v (show m≠0 by omega);have h4:=Int.emod_lt_of_pos v hm;have h5:=Int.tmod_lt_of_pos v hm;have e:m*(v.tdiv m-v / m)=v%m-v.tmod m:=by rw[Int.mul_sub]; omega
  have k1:v.tdiv m-v / m=0:=by
    rcases Int.lt_trichotomy (v.tdiv m-v / m) 0 with hlt | heq | hgt
    ·exfalso;have:v.tdiv m-v / m ≤ -1:=by omega
     have:=ZX this (show 0≤m by omega);omega
    ·exact heq
    ·exfalso;have:1≤v.tdiv m-v / m:=by omega
     have:=ZX this (show 0≤m by omega);omega
  rw[k1] at e;omega
def sL:aD:=⟨2,16,.seq (.reg [oO 4 (.mv (kI 0))]) (.seq (.seq (.reg [oM 5 1,oO 6 (.bin .lss (.t 5) (kI 1))]) (.cond (.t 6) (.seq (.reg [oO 4 (.mv (kI 0))]) (.ret)) (.skip))) (.seq (.reg [oM 7 0,oM 8 1,oO 9 (.bin .rem (.t 7) (.t 8)),oM 0 9]) (.seq (.seq (.reg [oM 10 0,oO 11 (.bin .lss (.t 10) (kI 0))]) (.cond (.t 11) (.reg [oM 12 0,oM 13 1,oO 14 (.bin .add (.t 12) (.t 13)),oM 0 14]) (.skip))) (.seq (.reg [oM 15 0,oM 4 15]) (.ret))))),[(4,none)]⟩
theorem PM:aB Tryz.prog { own:=[],comp:=[],frz:=[],nils:=[] } Tryz.f14=some sL:=by kernel_rfl
theorem Rv (G:ah) (v m:Int) (hm:m≤9223372036854775807):au Tryz.prog G 14 [.int .i64 v,.int .i64 m] (.w (.c (.d (.int .i64 (nX v m))))):=by
  refine aF Tryz.func14 PM rfl rfl ?_;unfold nX;by_cases h:m<1
  ·rw[if_pos h];simp only[sL,af,ae,aa,seval,iteOmega,toNatUp];exact aG
  ·rw[if_neg h];have hne:¬ m=0:=by omega
   have h4:=Int.tmod_lt_of_pos v (show 0<m by omega);by_cases hn:v.tmod m<0
   ·have e:=Rt (by omega) hn;have h3:=Int.emod_lt_of_pos v (show 0<m by omega);have h5:=Int.emod_nonneg v (show m≠0 by omega);simp only[sL,af,ae,aa,seval,iteOmega,toNatUp,hne];exact oc (by simp only[ae,aa,seval,iteOmega,toNatUp,e])
   ·have e:=Ru (v:=v) (show 0<m by omega) (by omega);simp only[sL,af,ae,aa,seval,iteOmega,toNatUp,hne];exact oc (by simp only[ae,aa,seval,iteOmega,toNatUp,e])
def zW (s i:Nat):List UInt8:=rC (aI s 8++aI i 4)
def i4 (s:Nat) (k:Nat):List UInt8:=((List.range k).map (zW s)).flatten
theorem BN (s k:Nat):i4 s k++zW s k=i4 s (k+1):=by simp[i4,ZW]
theorem rT (s:Nat):∀ k,(i4 s k).length=32*k
  | 0=>rfl
  | k+1=>by rw[← BN,Yr,rT s k]; unfold zW; rw[Gf]; omega
def il (seed n:Int):List UInt8:=(i4 (seed%18446744073709551616).toNat ((n.toNat+31) / 32)).take n.toNat
theorem rU (seed n:Int):(il seed n).length=n.toNat:=by
  unfold il; rw[Yu,rT]; omega
def vl (seed n:Int) (s:Nat) (k:Nat):St:=⟨aP [(0,.w (.c (.d (.int .i64 seed)))),(1,.w (.c (.d (.int .i64 n)))),(5,.w (.c (.own 1 1 0 (i4 s k).length))),(6,.w (.c (.d (.int .i64 (k:Int)))))],hL [(1,.row 1 ((i4 s k).map bD))],uL [1]⟩
def rP:aN := .seq (.seq (.reg [oM 8 5,oO 9 (.len (.t 8)),oM 10 1,oO 11 (.bin .lss (.t 9) (.t 10))]) (.cond (.t 11) (.skip) (.exit 0))) (.seq (.block 1 (.reg [oM 14 5,oM 15 0,oO 16 (.conv .u64 (.t 15)),oO 17 (.call 42 [(.t 16),(kI 8)] none),oM 18 6,oO 19 (.conv .u64 (.t 18)),oO 20 (.call 42 [(.t 19),(kI 4)] none),oO 21 (.bldSl false 2 1 (.sl []) [(0,(.t 17)),(1,(.t 20))]),oO 22 (.call 41 [(.t 21)] none),oO 23 (.call 40 [(.t 22)] none),oO 24 (.app false 1 1 (.t 14) (.t 23)),oM 5 24])) (.reg [oM 12 6,oO 13 (.bin .add (.t 12) (kI 1)),oM 6 13]))
def DI:aD:=⟨2,29,.seq (.reg [oO 4 (.mv (.k (.c .nil)))]) (.seq (.reg [oO 7 (.bldSl true 0 1 (.int .u8 0) []),oM 5 7]) (.seq (.seq (.reg [oO 6 (.mv (kI 0))]) (.block 0 (.loop rP))) (.seq (.reg [oM 25 5,oM 26 1,oO 27 (.max [(.t 26),(kI 0)]),oO 28 (.slice 1 (.t 25) none (some (.t 27)) none),oM 4 28]) (.ret)))),[(4,none)]⟩
theorem PN:aB Tryz.prog { own:=[7],comp:=[],frz:=[],nils:=[] } Tryz.f16=some DI:=by kernel_rfl
set_option maxHeartbeats 1600000 in
theorem Rw (G:ah) (seed n:Int) (hn:n≤1099511627776):au Tryz.prog G 16 [.int .i64 seed,.int .i64 n] (.w (.c (.fr 1 ((il seed n).map bD)))):=by
  refine aF Tryz.func16 PN rfl rfl ?_;obtain⟨s,hs⟩:∃ s:Nat,(seed%18446744073709551616).toNat=s:=⟨_,rfl⟩
  have hw:IntKind.u64.wrap seed=(s:Int):=by rw[IntKind.wrap_u64,← hs]; omega
  have hs2:s<18446744073709551616:=by omega
  have hK:il seed n=(i4 s ((n.toNat+31) / 32)).take n.toNat:=by unfold il; rw[hs]
  rw[hK];simp only[DI,af,ae,aa,seval,iteOmega,toNatUp];refine aV (vl seed n s) (fun k=>(n.toNat+31) / 32-k) (fun k=>k≤(n.toNat+31) / 32) 0 (Yt _) ?_ ?_
  ·refine ap (fun _=>56) ?_ ?_ rfl rfl <;> simp only[wx,aj,ar,aa,seval,iteOmega,toNatUp] <;> rfl
  ·intro k hk;have hl:=rT s k;by_cases hlt:k<(n.toNat+31) / 32
   ·have hc:((i4 s k).length:Int)<n:=by omega
    have hj:=eo G [aI s 8,aI k 4] (by simp) (by simp[dD]);have hf:[aI s 8,aI k 4].flatten=aI s 8++aI k 4:=by simp
    rw[hf] at hj;have hb:=BN s k;have hk2:IntKind.u64.wrap (k:Int)=(k:Int):=u64_in _ (by omega) (by omega);simp only[rP,vl,wx,wy,aa,seval,iteOmega,toNatUp,hw,hk2];refine aY (qj G s 8 (by decide)) rfl (.inl rfl) ?_;simp only[wx,wy,aa,seval,iteOmega,toNatUp,hw,hk2];refine aY (qj G k 4 (by decide)) rfl (.inl rfl) ?_;simp only[wx,wy,aa,seval,iteOmega,toNatUp];refine aY hj rfl (.inl rfl) ?_;simp only[wx,wy,aa,seval,iteOmega,toNatUp];refine aY (WV G (aI s 8++aI k 4) (by simp[dD])) rfl (.inl rfl) ?_;have hh:(rC (aI s 8++aI k 4)).length=32:=Gf _;have hb':i4 s k++rC (aI s 8++aI k 4)=i4 s (k+1):=hb;simp only[ae,aa,seval,iteOmega,toNatUp,bH,gD,hb',hh];refine aQ (k+1) (by omega) (by omega) (ap (fun _=>192) ?_ ?_ rfl rfl) <;> simp only[wx,aj,ar,aa,seval,iteOmega,toNatUp]
   ·obtain rfl:k=(n.toNat+31) / 32:=by omega
    have hc:¬ ((i4 s ((n.toNat+31) / 32)).length:Int)<n:=by omega
    by_cases h0:n<0
    ·have e0:n.toNat=0:=by omega
     simp only[rP,vl,ae,aa,seval,iteOmega,toNatUp,hc,Zg,Zt];rw[e0,List.map_take];exact E9 (id:=1) (s:=1) (by simp only[wx,aa,seval,iteOmega,toNatUp]) (by simp only[wx,aa,seval,iteOmega,toNatUp]) (Yt _)
    ·simp only[rP,vl,ae,aa,seval,iteOmega,toNatUp,hc,Zg,Zt];rw[List.map_take];exact E9 (id:=1) (s:=1) (by simp only[wx,aa,seval,iteOmega,toNatUp]) (by simp only[wx,aa,seval,iteOmega,toNatUp]) (by rw[YI,rT]; omega)
theorem Gg (G:ah) (seed n:Int) (hn:n≤1099511627776):au Tryz.prog G 16 [.int .i64 seed,.int .i64 n] (.w (.c (.d (.sl ((il seed n).map bD))))):=kj (Rw G seed n hn)
end Go.Proofs.YtofonnokanoflaaGreat
