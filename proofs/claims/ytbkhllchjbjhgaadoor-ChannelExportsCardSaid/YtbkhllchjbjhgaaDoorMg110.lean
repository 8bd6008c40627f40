/- Texts of one's own, merged: from: Layer 1 on data: Put,Get,Same,Join,Hex: what they return. Own work. -/
import Derived.Test.YtbkhllchjbjhgaaDoorProg
import Derived.Test.YtbkhllchjbjhgaaDoorMg17
set_option linter.unusedVariables false
set_option linter.unusedSimpArgs false
namespace Go.Proofs.YtbkhllchjbjhgaaDoor
open Go.RowKit IntWalk
set_option maxHeartbeats 400000
theorem dN {l:List UInt8} {i:Nat} {x:D} (hi:i<l.length) (hx:x.one=true):fv .sc (.c (.d x)) i 0 (.row 1 (l.map bD))=some (.row 1 ((l.map bD).set i x)):=by
  simp[fv,bm,KH hi,bD,dB,hx]
theorem mj {l:List UInt32} {i:Nat} {x:D} (hi:i<l.length) (hx:x.one=true):fv .sc (.c (.d x)) i 0 (.row 1 (l.map wD))=some (.row 1 ((l.map wD).set i x)):=by
  simp[fv,bm,KH hi,wD,dB,hx]
theorem ec (l:List UInt8) (i:Nat) (x:UInt8):(l.map bD).set i (bD x)=(l.set i x).map bD:=pC bD l i x
theorem mm (l:List UInt32) (i:Nat) (x:UInt32):(l.map wD).set i (wD x)=(l.set i x).map wD:=pC wD l i x
theorem jk (n:Nat):List.replicate n (D.int .u8 0)=(List.replicate n (0:UInt8)).map bD:=by simp[bD]
def aN (v n:Nat):List UInt8:=(List.range n).map fun i=>UInt8.ofNat (v / 256^(n-1-i))
def eF (v n m:Nat):List UInt8:=List.replicate m 0++(aN v n).drop m
def rl (v:Nat) (n:Int):List UInt8:=if 0≤n∧n≤64 then aN v n.toNat else []
theorem cU (v n:Nat):(aN v n).length=n:=by simp[aN]
theorem nH (v n m:Nat) (h:m≤n):(eF v n m).length=n:=by simp[eF,cU]; omega
theorem tZ (v n:Nat):eF v n 0=aN v n:=by simp[eF]
theorem t5 (v n:Nat):eF v n n=List.replicate n 0:=by simp[eF,cU]
theorem t6 (v n i:Nat) (h:i+1≤n):eF v n i=(eF v n (i+1)).set i (UInt8.ofNat (v / 256^(n-(i+1)))):=by
  apply LC;intro j;rw[List.getElem?_set];have hl:i<(aN v n).length:=by rw[cU]; omega
  by_cases hj:i=j
  ·subst hj;rw[if_pos rfl,if_pos (by rw[nH _ _ _ h]; omega)];simp only[eF,List.getElem?_append,KZ,Nat.lt_irrefl,if_false,Nat.sub_self,Lf,LH];rw[KH hl];simp[aN,Nat.sub_sub,Nat.add_comm 1 i]
  ·rw[if_neg hj];simp only[eF,List.getElem?_append,KZ,List.getElem?_replicate,Lf];by_cases h1:j<i
   ·rw[if_pos h1,if_pos h1,if_pos (by omega),if_pos (by omega)]
   ·rw[if_neg h1,if_neg (by omega)]
    congr 1; omega
theorem byte_of (v:Nat):D.int .u8 (IntKind.u8.wrap (v:Int))=bD (UInt8.ofNat v):=by
  rw[IntKind.wrap_u8];simp[bD]
def jl (v n m:Nat):St:=⟨aT [(0,.w (.c (.d (.int .u64 ((v / 256^(n-m):Nat):Int))))),(5,.w (.c (.own 1 1 0 n))),(6,.w (.c (.d (.int .i64 ((m:Int)-1)))))],hL [(1,.row 1 ((eF v n m).map bD))],uL [1]⟩
def o3:aH := .seq (.seq (.reg [oM 17 6,oO 18 (.bin .geq (.t 17) (kI 0))]) (.cond (.t 18) (.skip) (.exit 0))) (.seq (.block 1 (.seq (.reg [oM 21 5,oM 22 6,oM 23 0,oO 24 (.conv .u8 (.t 23)),oO 25 (.idxSl 1 (.t 21) (.t 22)),oN (.store .sc (.t 25) (.t 24))]) (.reg [oM 26 0,oO 27 (.bin .shr (.t 26) (.k (.c (.d (.int .u64 8))))),oM 0 27]))) (.reg [oM 19 6,oO 20 (.bin .sub (.t 19) (kI 1)),oM 6 20]))
def mn:aB:=⟨2,29,.seq (.reg [oO 4 (.mv (.k (.c .nil)))]) (.seq (.seq (.reg [oM 7 1,oO 8 (.bin .lss (.t 7) (kI 0)),oM 9 8,oG 10 (.mv (.t 1)) 9 false,oG 11 (.bin .gtr (.t 10) (kI 64)) 9 false,oO 12 (.pick (.t 9) (.k (.c (.d (.bool true)))) (.t 11))]) (.cond (.t 12) (.seq (.reg [oO 4 (.mv (.k (.c .nil)))]) (.ret)) (.skip))) (.seq (.reg [oM 13 1,oO 14 (.make true 1 1 (.int .u8 0) (.t 13) (.t 13)),oM 5 14]) (.seq (.seq (.reg [oM 15 1,oO 16 (.bin .sub (.t 15) (kI 1)),oM 6 16]) (.block 0 (.loop o3))) (.seq (.reg [oM 28 5,oM 4 28]) (.ret))))),[(4,none)]⟩
theorem As:aA Tryd.prog { own:=[],comp:=[],frz:=[],nils:=[] } Tryd.f25=some mn:=by kernel_rfl
theorem gO (G:ak) (v n:Nat) (hn:n≤64):ap Tryd.prog G 25 [.int .u64 v,.int .i64 n] (.w (.c (.fr 1 ((aN v n).map bD)))):=by
  refine aC Tryd.func25 As rfl rfl ?_;have e1:IntKind.i64.wrap ((n:Int)-1)=(n:Int)-1:=IntWalk.i64_in _ (by omega);simp only[mn,ah,wx,aa,seval,iteOmega,toNatUp,e1];refine ba (jl v n) (fun m=>m) (fun m=>m≤n) n (KT _) ?_ ?_
  ·refine az (fun _=>112) ?_ ?_ rfl rfl <;> simp only[wx,aw,aa,seval,iteOmega,toNatUp,t5,jk,Nat.sub_self,Nat.pow_zero,Nat.div_one]
  ·intro m hm;rcases Li m with rfl | hpos
   ·simp only[o3,jl,wx,aa,seval,iteOmega,toNatUp,tZ];refine cV (id:=1) (n:=n) (s:=1) ?_ ?_ ?_ <;> simp only[wx,aa,seval,iteOmega,toNatUp,cU]
   ·obtain⟨i,rfl⟩:∃ i,m=i+1:=⟨m-1,by omega⟩
    have e2:((i+1:Nat):Int)-1=(i:Int):=by omega
    have hlt:i<(eF v n (i+1)).length:=by rw[nH _ _ _ hm]; omega
    have e3:IntKind.i64.wrap ((i:Int)-1)=(i:Int)-1:=IntWalk.i64_in _ (by omega);simp only[o3,jl,wx,aa,seval,iteOmega,toNatUp,e2,e3,Lv,LH,byte_of,dN hlt (dm _),ec,← t6 _ _ _ hm,IntKind.bits];refine aS i (by omega) (by omega) (az id ?_ ?_ rfl rfl) <;> simp only[wx,aw,aa,seval,iteOmega,toNatUp];have e4:v / 256^(n-(i+1)) / 256=v / 256^(n-i):=by
      rw[show n-i=n-(i+1)+1 by omega,Nat.pow_succ,← Nat.div_div_eq_div_mul]
    simpa using congrArg (Nat.cast:Nat→Int) e4
theorem J2 (G:ak) (v:Nat) (n:Int):ap Tryd.prog G 25 [.int .u64 v,.int .i64 n] (.w (.c (.fr 1 ((rl v n).map bD)))):=by
  unfold rl;by_cases h:0≤n∧n≤64
  ·rw[if_pos h];obtain⟨n,rfl⟩:=Ly h.1;exact gO G v n (by omega)
  ·rw[if_neg h];refine aC Tryd.func25 As rfl rfl ?_;by_cases h0:n<0
   ·simp only[mn,ah,wx,aa,seval,iteOmega,toNatUp];exact pD (by simp[wx,aa,seval,iteOmega,toNatUp])
   ·have h1:64<n:=by omega
    simp only[mn,ah,wx,aa,seval,iteOmega,toNatUp];exact pD (by simp[wx,aa,seval,iteOmega,toNatUp])
def oq:aH := .seq (.seq (.reg [oM 17 6,oO 18 (.bin .geq (.t 17) (kI 0))]) (.cond (.t 18) (.skip) (.exit 0))) (.seq (.block 1 (.seq (.reg [oM 21 5,oM 22 6,oM 23 0,oO 24 (.conv .u8 (.t 23)),oO 25 (.idxSl 1 (.t 21) (.t 22)),oN (.store .sc (.t 25) (.t 24))]) (.reg [oM 26 0,oO 27 (.bin .shr (.t 26) (.k (.c (.d (.int .u64 8))))),oM 0 27]))) (.reg [oM 19 6,oO 20 (.bin .sub (.t 19) (kI 1)),oM 6 20]))
def yD:aB:=⟨2,29,.seq (.reg [oO 4 (.mv (.k (.c .nil)))]) (.seq (.seq (.reg [oM 7 1,oO 8 (.bin .lss (.t 7) (kI 0)),oM 9 8,oG 10 (.mv (.t 1)) 9 false,oG 11 (.bin .gtr (.t 10) (kI 64)) 9 false,oO 12 (.pick (.t 9) (.k (.c (.d (.bool true)))) (.t 11))]) (.cond (.t 12) (.seq (.reg [oO 4 (.mv (.k (.c .nil)))]) (.ret)) (.skip))) (.seq (.reg [oM 13 1,oO 14 (.make true 1 1 (.int .u8 0) (.t 13) (.t 13)),oM 5 14]) (.seq (.seq (.reg [oM 15 1,oO 16 (.bin .sub (.t 15) (kI 1)),oM 6 16]) (.block 0 (.loop oq))) (.seq (.reg [oM 28 5,oM 4 28]) (.ret))))),[(4,none)]⟩
theorem Ha:aA Tryd.prog { own:=[],comp:=[],frz:=[],nils:=[] } Tryd.f21=some yD:=by kernel_rfl
theorem lZ (G:ak) (v n:Nat) (hn:n≤64):ap Tryd.prog G 21 [.int .u64 v,.int .i64 n] (.w (.c (.fr 1 ((aN v n).map bD)))):=by
  refine aC Tryd.func21 Ha rfl rfl ?_;have e1:IntKind.i64.wrap ((n:Int)-1)=(n:Int)-1:=IntWalk.i64_in _ (by omega);simp only[yD,ah,wx,aa,seval,iteOmega,toNatUp,e1];refine ba (jl v n) (fun m=>m) (fun m=>m≤n) n (KT _) ?_ ?_
  ·refine az (fun _=>112) ?_ ?_ rfl rfl <;> simp only[wx,aw,aa,seval,iteOmega,toNatUp,t5,jk,Nat.sub_self,Nat.pow_zero,Nat.div_one]
  ·intro m hm;rcases Li m with rfl | hpos
   ·simp only[oq,jl,wx,aa,seval,iteOmega,toNatUp,tZ];refine cV (id:=1) (n:=n) (s:=1) ?_ ?_ ?_ <;> simp only[wx,aa,seval,iteOmega,toNatUp,cU]
   ·obtain⟨i,rfl⟩:∃ i,m=i+1:=⟨m-1,by omega⟩
    have e2:((i+1:Nat):Int)-1=(i:Int):=by omega
    have hlt:i<(eF v n (i+1)).length:=by rw[nH _ _ _ hm]; omega
    have e3:IntKind.i64.wrap ((i:Int)-1)=(i:Int)-1:=IntWalk.i64_in _ (by omega);simp only[oq,jl,wx,aa,seval,iteOmega,toNatUp,e2,e3,Lv,LH,byte_of,dN hlt (dm _),ec,← t6 _ _ _ hm,IntKind.bits];refine aS i (by omega) (by omega) (az id ?_ ?_ rfl rfl) <;> simp only[wx,aw,aa,seval,iteOmega,toNatUp];have e4:v / 256^(n-(i+1)) / 256=v / 256^(n-i):=by
      rw[show n-i=n-(i+1)+1 by omega,Nat.pow_succ,← Nat.div_div_eq_div_mul]
    simpa using congrArg (Nat.cast:Nat→Int) e4
theorem toList_mk (l:List UInt8):(⟨l.toArray⟩:ByteArray).toList=l:=Go.ByteArray.toList_mk l
theorem t7 (l m:List UInt8):gT .eql ⟨l.toArray⟩ ⟨m.toArray⟩=some (.bool (l==m)):=by
  simp only[gT,toList_mk]
def wG:aB:=⟨2,10,.seq (.reg [oO 4 (.mv (.k (.c (.d (.bool false)))))]) (.seq (.reg [oM 5 0,oO 6 (.b2s (.t 5)),oM 7 1,oO 8 (.b2s (.t 7)),oO 9 (.bin .eql (.t 6) (.t 8)),oM 4 9]) (.ret)),[(4,none)]⟩
theorem FA:aA Tryd.prog { own:=[],comp:=[],frz:=[],nils:=[] } Tryd.f13=some wG:=by kernel_rfl
theorem yE (G:ak) (l m:List UInt8):ap Tryd.prog G 13 [.sl (l.map bD),.sl (m.map bD)] (.w (.c (.d (.bool (l==m))))):=by
  refine aC Tryd.func13 FA rfl rfl ?_;simp only[wG,ah,wx,aa,seval,iteOmega,toNatUp,lI,t7];exact gq (by simp only[wx,aa,seval,iteOmega,toNatUp])
theorem wH (ls:List (List UInt8)):cK 1 (ls.map fun l=>D.sl (l.map bD))=true:=ol _ (fun _=>rfl) ls
def pF (ls:List (List UInt8)) (i:Nat):St:=⟨aT [(0,.w (.c (.d (.sl (ls.map fun l=>D.sl (l.map bD)))))),(3,.w (.c (.own 1 1 0 ((ls.take i).flatten).length))),(4,.w (.c (.d (.int .i64 (i:Int)))))],hL [(1,.row 1 (((ls.take i).flatten).map bD))],uL [1]⟩
theorem lm {α:Type} (ls:List (List α)) (i:Nat) (h:i<ls.length):(ls.take (i+1)).flatten=(ls.take i).flatten++ls[i]:=by
  rw[Lq h,List.flatten_append]; simp
theorem pG {α:Type} (ls:List (List α)) (i:Nat) (h:i<ls.length):(ls.take i).flatten.length+ls[i].length≤ls.flatten.length:=by
  have h1:=lm ls i h;have h2:ls.flatten=(ls.take (i+1)).flatten++(ls.drop (i+1)).flatten:=by rw[← List.flatten_append,Lo]
  have h3:=congrArg List.length h2;rw[KJ,h1,KJ] at h3;omega
def nW:aH := .seq (.seq (.reg [oM 6 4,oM 7 0,oO 8 (.len (.t 7)),oO 9 (.bin .lss (.t 6) (.t 8))]) (.cond (.t 9) (.skip) (.exit 0))) (.seq (.block 1 (.reg [oM 12 3,oM 13 0,oM 14 4,oO 15 (.idxSl 1 (.t 13) (.t 14)),oO 16 (.load .sc (.t 15)),oO 17 (.app false 1 1 (.t 12) (.t 16)),oM 3 17])) (.reg [oM 10 4,oO 11 (.bin .add (.t 10) (kI 1)),oM 4 11]))
def wI:aB:=⟨1,19,.seq (.reg [oO 2 (.mv (.k (.c .nil)))]) (.seq (.reg [oO 5 (.bldSl true 0 1 (.int .u8 0) []),oM 3 5]) (.seq (.seq (.reg [oO 4 (.mv (kI 0))]) (.block 0 (.loop nW))) (.seq (.reg [oM 18 3,oM 2 18]) (.ret)))),[(2,none)]⟩
theorem FB:aA Tryd.prog { own:=[5],comp:=[],frz:=[],nils:=[] } Tryd.f16=some wI:=by kernel_rfl
theorem ig (G:ak) (ls:List (List UInt8)) (hl:ls.length≤9223372036854775807) (hf:ls.flatten.length≤140737488355328):ap Tryd.prog G 16 [.sl (ls.map fun l=>D.sl (l.map bD))] (.w (.c (.fr 1 (ls.flatten.map bD)))):=by
  refine aC Tryd.func16 FB rfl rfl ?_;simp only[wI,ah,wx,aa,seval,iteOmega,toNatUp];refine ba (pF ls) (fun i=>ls.length-i) (fun i=>i≤ls.length) 0 (KU _) ?_ ?_
  ·refine az (fun _=>40) ?_ ?_ rfl rfl <;> simp only[wx,aw,aa,seval,iteOmega,toNatUp]
  ·intro i hi;by_cases hlt:i<ls.length
   ·have e2:ls[i]?=some ls[i]:=KH hlt;have e4:IntKind.i64.wrap ((i:Int)+1)=((i+1:Nat):Int):=by rw[IntWalk.i64_in _ (by omega)]; rfl
    have h5:=pG ls i hlt;simp only[nW,pF,wx,aa,seval,iteOmega,toNatUp,bm,e2,e4,LO,cm];refine aS (i+1) (by omega) (by omega) (az (fun _=>136) ?_ ?_ rfl rfl) <;> simp only[wx,aw,aa,seval,iteOmega,toNatUp,lm ls i hlt]
   ·have:ls.take i=ls:=KM (by omega);simp only[nW,pF,wx,aa,seval,iteOmega,toNatUp,this];refine cV (id:=1) (n:=ls.flatten.length) (s:=1) ?_ ?_ ?_ <;> simp only[wx,aa,seval,iteOmega,toNatUp]
def pH (ls:List (List UInt8)) (i:Nat):St:=⟨aT [(0,.w (.c (.d (.sl (ls.map fun l=>D.sl (l.map bD)))))),(3,.w (.c (.d (.int .i64 (((ls.take i).flatten).length:Int))))),(9,.w (.c (.d (.sl (ls.map fun l=>D.sl (l.map bD)))))),(10,.w (.c (.d (.int .i64 (ls.length:Int))))),(11,.w (.c (.d (.int .i64 (i:Int)))))],hL [],uL []⟩
def pI (ls:List (List UInt8)) (i:Nat):St:=⟨aT [(6,.w (.c (.own 1 1 0 ((ls.take i).flatten).length))),(22,.w (.c (.d (.sl (ls.map fun l=>D.sl (l.map bD)))))),(23,.w (.c (.d (.int .i64 (ls.length:Int))))),(24,.w (.c (.d (.int .i64 (i:Int)))))],hL [(1,.row 1 (((ls.take i).flatten).map bD))],uL [1]⟩
def ot:aH := .seq (.reg [oO 12 (.bin .lss (.t 11) (.t 10))]) (.seq (.cond (.t 12) (.skip) (.exit 0)) (.seq (.block 1 (.seq (.reg [oO 13 (.idxSl 1 (.t 9) (.t 11)),oO 14 (.load .sc (.t 13)),oM 5 14]) (.reg [oM 15 3,oM 16 5,oO 17 (.len (.t 16)),oO 18 (.bin .add (.t 15) (.t 17)),oM 3 18]))) (.reg [oO 19 (.bin .add (.t 11) (kI 1)),oM 11 19])))
def ou:aH := .seq (.reg [oO 25 (.bin .lss (.t 24) (.t 23))]) (.seq (.cond (.t 25) (.skip) (.exit 2)) (.seq (.block 3 (.seq (.reg [oO 26 (.idxSl 1 (.t 22) (.t 24)),oO 27 (.load .sc (.t 26)),oM 8 27]) (.reg [oM 28 6,oM 29 8,oO 30 (.app false 1 1 (.t 28) (.t 29)),oM 6 30]))) (.reg [oO 31 (.bin .add (.t 24) (kI 1)),oM 24 31])))
def yF:aB:=⟨1,33,.seq (.reg [oO 2 (.mv (.k (.c .nil)))]) (.seq (.reg [oO 3 (.mv (kI 0))]) (.seq (.seq (.reg [oM 9 0,oO 10 (.len (.t 9)),oO 11 (.mv (kI 0))]) (.block 0 (.loop ot))) (.seq (.reg [oM 20 3,oO 21 (.make true 1 1 (.int .u8 0) (kI 0) (.t 20)),oM 6 21]) (.seq (.seq (.reg [oM 22 0,oO 23 (.len (.t 22)),oO 24 (.mv (kI 0))]) (.block 2 (.loop ou))) (.seq (.reg [oM 32 6,oM 2 32]) (.ret)))))),[(2,none)]⟩
theorem Hb:aA Tryd.prog { own:=[],comp:=[],frz:=[],nils:=[] } Tryd.f24=some yF:=by kernel_rfl
theorem de (G:ak) (ls:List (List UInt8)) (hl:ls.length≤9223372036854775807) (hf:ls.flatten.length≤140737488355328):ap Tryd.prog G 24 [.sl (ls.map fun l=>D.sl (l.map bD))] (.w (.c (.fr 1 (ls.flatten.map bD)))):=by
  refine aC Tryd.func24 Hb rfl rfl ?_;simp only[yF,ah,wx,aa,seval,iteOmega,toNatUp];refine ba (pH ls) (fun i=>ls.length-i) (fun i=>i≤ls.length) 0 (KU _) ?_ ?_
  ·refine az id ?_ ?_ rfl rfl <;> simp only[wx,aw,aa,seval,iteOmega,toNatUp]
  ·intro i hi;by_cases hlt:i<ls.length
   ·have e2:ls[i]?=some ls[i]:=KH hlt;have e4:IntKind.i64.wrap ((i:Int)+1)=((i+1:Nat):Int):=by rw[IntWalk.i64_in _ (by omega)]; rfl
    have h5:=pG ls i hlt;have e5:IntKind.i64.wrap (((ls.take i).flatten.length:Int)+(ls[i].length:Int))=(((ls.take (i+1)).flatten.length:Nat):Int):=by
      rw[lm ls i hlt,KJ,IntWalk.i64_in _ (by omega)]; rfl
    simp only[ot,pH,wx,aa,seval,iteOmega,toNatUp,bm,e2,e4,e5];refine aS (i+1) (by omega) (by omega) (az id ?_ ?_ rfl rfl) <;> simp only[wx,aw,aa,seval,iteOmega,toNatUp]
   ·have:ls.take i=ls:=KM (by omega);simp only[ot,pH,wx,aa,seval,iteOmega,toNatUp,this,LO];refine ba (pI ls) (fun i=>ls.length-i) (fun i=>i≤ls.length) 0 (KU _) ?_ ?_
    ·refine az (fun _=>168) ?_ ?_ rfl rfl <;> simp only[wx,aw,aa,seval,iteOmega,toNatUp]
    ·intro i hi;by_cases hlt:i<ls.length
     ·have e2:ls[i]?=some ls[i]:=KH hlt;have e4:IntKind.i64.wrap ((i:Int)+1)=((i+1:Nat):Int):=by rw[IntWalk.i64_in _ (by omega)]; rfl
      have h5:=pG ls i hlt;simp only[ou,pI,wx,aa,seval,iteOmega,toNatUp,bm,e2,e4,LO,cm];refine aS (i+1) (by omega) (by omega) (az (fun _=>240) ?_ ?_ rfl rfl) <;> simp only[wx,aw,aa,seval,iteOmega,toNatUp,lm ls i hlt]
     ·have:ls.take i=ls:=KM (by omega);simp only[ou,pI,wx,aa,seval,iteOmega,toNatUp,this];refine cV (id:=1) (n:=ls.flatten.length) (s:=1) ?_ ?_ ?_ <;> simp only[wx,aa,seval,iteOmega,toNatUp]
def aV (l:List UInt8):Nat:=l.foldl (fun a x=>(a*256+x.toNat)%18446744073709551616) 0
theorem yG (l:List UInt8):aV l<18446744073709551616:=by
  unfold aV;rcases List.eq_nil_or_concat l with rfl | ⟨a,x,rfl⟩
  ·simp
  ·simp only[List.concat_eq_append,List.foldl_append,Ln,LL]; omega
theorem u64_in (n:Int) (h₀:0≤n) (h₁:n<2^64):IntKind.u64.wrap n=n:=by rw[IntKind.wrap_u64]; omega
theorem Ek (a:List UInt8) (x:UInt8):bits .or .u64 (IntKind.u64.wrap ((aV a:Int)*256)) (x.toNat:Int)=(aV (a++[x]):Int):=by
  have hx:x.toNat<256:=x.toNat_lt
  have h1:=bits_join .u64 64 (by decide) u64_in 8 (IntKind.u64.wrap ((aV a:Int)*256)) (x.toNat:Int)
    (by rw[IntKind.wrap_u64]; omega) (by rw[IntKind.wrap_u64]; omega) (by rw[IntKind.wrap_u64]; omega) (by omega) (by omega) (by omega)
  rw[h1,IntKind.wrap_u64];simp only[aV,List.foldl_append,Ln,LL];omega
theorem El (l:List UInt8) (j:Nat) (h:j<l.length):bits .or .u64 (IntKind.u64.wrap ((aV (l.take j):Int)*256)) (l[j].toNat:Int)=(aV (l.take (j+1)):Int):=by
  rw[Ek,Lq h]
theorem FC (a b:List UInt8):aV (a++b)=(aV a*256^b.length+aV b)%18446744073709551616:=by
  have key:∀ (n:Nat) (b:List UInt8),b.length=n→aV (a++b)=(aV a*256^n+aV b)%18446744073709551616:=by
    intro n
    induction n with
    | zero =>
      intro b hb;have:b=[]:=Lj hb;subst this;have h0:aV []=0:=rfl;rw[K5,Nat.pow_zero,h0];have:=yG a;omega
    | succ n ih =>
      intro b hb;rcases List.eq_nil_or_concat b with rfl | ⟨c,x,rfl⟩
      ·simp at hb
      ·rw[List.concat_eq_append] at hb ⊢;rw[← LM];have h1:∀ l:List UInt8,aV (l++[x])=(aV l*256+x.toNat)%18446744073709551616:=fun l=>by simp[aV]
       rw[h1,h1,ih c (by simpa using hb),Nat.pow_succ];generalize aV a=p;generalize aV c=q;generalize 256^n=r;have e:p*(r*256)=p*r*256:=by rw[Nat.mul_assoc]
       rw[e];generalize p*r=z;omega
  exact key _ b rfl
theorem Em (l:List UInt8) (h:8<l.length):aV (l.drop (l.length-8))=aV l:=by
  have h1:=FC (l.take (l.length-8)) (l.drop (l.length-8));rw[Lo] at h1;have h2:(l.drop (l.length-8)).length=8:=by rw[KP]; omega
  rw[h2] at h1;have h3:=yG (l.drop (l.length-8));rw[h1];have:(256:Nat)^8=18446744073709551616:=by decide
  rw[this];omega
def mN (l:List UInt8) (i:Nat):St:=⟨aT [(3,.w (.c (.d (.int .u64 (aV (l.take i)))))),(14,.w (.c (.d (.sl (l.map bD))))),(15,.w (.c (.d (.int .i64 (l.length:Int))))),(16,.w (.c (.d (.int .i64 (i:Int)))))],hL [],uL []⟩
def lJ:aH := .seq (.reg [oO 17 (.bin .lss (.t 16) (.t 15))]) (.seq (.cond (.t 17) (.skip) (.exit 0)) (.seq (.block 1 (.seq (.reg [oO 18 (.idxSl 1 (.t 14) (.t 16)),oO 19 (.load .sc (.t 18)),oM 5 19]) (.reg [oM 20 3,oO 21 (.bin .shl (.t 20) (.k (.c (.d (.int .u64 8))))),oM 22 5,oO 23 (.conv .u64 (.t 22)),oO 24 (.bin .or (.t 21) (.t 23)),oM 3 24]))) (.reg [oO 25 (.bin .add (.t 16) (kI 1)),oM 16 25])))
def qc:aB:=⟨1,27,.seq (.reg [oO 2 (.mv (.k (.c (.d (.int .u64 0)))))]) (.seq (.seq (.reg [oM 6 0,oO 7 (.len (.t 6)),oO 8 (.bin .gtr (.t 7) (kI 8))]) (.cond (.t 8) (.reg [oM 9 0,oM 10 0,oO 11 (.len (.t 10)),oO 12 (.bin .sub (.t 11) (kI 8)),oO 13 (.slice 1 (.t 9) (some (.t 12)) none none),oM 0 13]) (.skip))) (.seq (.reg [oO 3 (.mv (.k (.c (.d (.int .u64 0)))))]) (.seq (.seq (.reg [oM 14 0,oO 15 (.len (.t 14)),oO 16 (.mv (kI 0))]) (.block 0 (.loop lJ))) (.seq (.reg [oM 26 3,oM 2 26]) (.ret))))),[(2,none)]⟩
theorem II:aA Tryd.prog { own:=[],comp:=[],frz:=[],nils:=[] } Tryd.f31=some qc:=by kernel_rfl
theorem BF (G:ak) (Q:AX→St→Prop) (l:List UInt8) (hl:l.length≤8) (σ:St) (he:dd σ (mN l 0)) (hq:∀ f,f 3=.w (.c (.d (.int .u64 (aV l))))→Q (.ex 0) ⟨f,hN,uN⟩):a9 Tryd.prog G (.loop lJ) Q σ:=by
  refine ba (mN l) (fun i=>l.length-i) (fun i=>i≤l.length) 0 (KU _) he ?_;intro i hi;by_cases hlt:i<l.length
  ·have hb:=l[i].toNat_lt;have e2:l[i]?=some l[i]:=KH hlt;have e3:IntKind.u64.wrap (l[i].toNat:Int)=(l[i].toNat:Int):=u64_in _ (by omega) (by omega);have e4:IntKind.i64.wrap ((i:Int)+1)=((i+1:Nat):Int):=by rw[IntWalk.i64_in _ (by omega)]; rfl
   have e5:=El l i hlt;simp only[lJ,mN,wx,aa,seval,iteOmega,toNatUp,bm,e2,IntKind.bits,e3,e4];refine aS (i+1) (by omega) (by omega) (az id ?_ ?_ rfl rfl) <;> simp only[wx,aw,aa,seval,iteOmega,toNatUp,← e5]
  ·have:l.take i=l:=KM (by omega);simp only[lJ,mN,wx,aa,seval,iteOmega,toNatUp,this];exact hq _ (by simp only[wx,aa,seval,iteOmega,toNatUp])
theorem qC (G:ak) (l:List UInt8) (hl:l.length≤9223372036854775807):ap Tryd.prog G 31 [.sl (l.map bD)] (.w (.c (.d (.int .u64 (aV l))))):=by
  refine aC Tryd.func31 II rfl rfl ?_;by_cases h8:8<l.length
  ·have e0:IntKind.i64.wrap ((l.length:Int)-8)=((l.length-8:Nat):Int):=by rw[IntWalk.i64_in _ (by omega)]; omega
   have e1:(l.drop (l.length-8)).take (l.length-(l.length-8))=l.drop (l.length-8):=KM (by rw[KP]; omega);simp only[qc,ah,wx,aa,seval,iteOmega,toNatUp,e0,e1];refine BF G _ (l.drop (l.length-8)) (by rw[KP]; omega) _ ?_ fun f hf=>?_
   ·refine az id ?_ ?_ rfl rfl <;> simp only[wx,aw,aa,seval,iteOmega,toNatUp] <;> rfl
   ·rw[Em l h8] at hf;simp only[wx,aa,seval,iteOmega,toNatUp,hf];exact gq (by simp only[wx,aa,seval,iteOmega,toNatUp])
  ·simp only[qc,ah,wx,aa,seval,iteOmega,toNatUp];refine BF G _ l (by omega) _ ?_ fun f hf=>?_
   ·refine az id ?_ ?_ rfl rfl <;> simp only[wx,aw,aa,seval,iteOmega,toNatUp] <;> rfl
   ·simp only[wx,aa,seval,iteOmega,toNatUp,hf];exact gq (by simp only[wx,aa,seval,iteOmega,toNatUp])
theorem FI (x:UInt8):ez x=if cF x 7==1 then aj (cE x 1) 27 else cE x 1:=by
  have:=gR (p:=fun x=>ez x==if cF x 7==1 then aj (cE x 1) 27 else cE x 1) (by decide +kernel) x
  simpa using this
theorem Au (x:UInt8):ee x 2=ez x:=by
  have:=gR (p:=fun x=>ee x 2==ez x) (by decide +kernel) x
  simpa using this
def qg:aB:=⟨1,11,.seq (.reg [oO 2 (.mv (.k (.c (.d (.int .u8 0)))))]) (.seq (.seq (.reg [oM 3 0,oO 4 (.bin .shr (.t 3) (.k (.c (.d (.int .u64 7))))),oO 5 (.bin .eql (.t 4) (.k (.c (.d (.int .u8 1)))))]) (.cond (.t 5) (.seq (.reg [oM 6 0,oO 7 (.bin .shl (.t 6) (.k (.c (.d (.int .u64 1))))),oO 8 (.bin .xor (.t 7) (.k (.c (.d (.int .u8 27))))),oM 2 8]) (.ret)) (.skip))) (.seq (.reg [oM 9 0,oO 10 (.bin .shl (.t 9) (.k (.c (.d (.int .u64 1))))),oM 2 10]) (.ret))),[(2,none)]⟩
theorem IR:aA Tryd.prog { own:=[],comp:=[],frz:=[],nils:=[] } Tryd.f77=some qg:=by kernel_rfl
theorem BI (G:ak) (x:UInt8):ap Tryd.prog G 77 [bD x] (.w (.c (.d (bD (ez x))))):=by
  refine aC Tryd.func77 IR rfl rfl ?_;have h1:=Aj x .u64 7 7 rfl (by decide);have h2:=IB (cF x 7) 1 1 rfl;have h3:=Ak x .u64 1 1 rfl (by decide);have h4:=ID (cE x 1) 27 27 rfl;rw[FI];cases h5:cF x 7==1
  ·rw[h5] at h2;simp only[qg,ah,h1,h2,h3,h4,ae,aa,seval,iteOmega,toNatUp,if_false,Bool.false_eq_true];exact a7
  ·rw[h5] at h2;simp only[qg,ah,h1,h2,h3,h4,ae,aa,seval,iteOmega,toNatUp,if_true];exact a7
def Cf:List UInt8:=[99,124,119,123,242,107,111,197,48,1,103,43,254,215,171,118,202,130,201,125,250,89,71,240,173,212,162,175,156,164,114,192,183,253,147,38,54,63,247,204,52,165,229,241,113,216,49,21,4,199,35,195,24,150,5,154,7,18,128,226,235,39,178,117,9,131,44,26,27,110,90,160,82,59,214,179,41,227,47,132,83,209,0,237,32,252,177,91,106,203,190,57,74,76,88,207,208,239,170,251,67,77,51,133,69,249,2,127,80,60,159,168,81,163,64,143,146,157,56,245,188,182,218,33,16,255,243,210,205,12,19,236,95,151,68,23,196,167,126,61,100,93,25,115,96,129,79,220,34,42,144,136,70,238,184,20,222,94,11,219,224,50,58,10,73,6,36,92,194,211,172,98,145,149,228,121,231,200,55,109,141,213,78,169,108,86,244,234,101,122,174,8,186,120,37,46,28,166,180,198,232,221,116,31,75,189,139,138,112,62,181,102,72,3,246,14,97,53,87,185,134,193,29,158,225,248,152,17,105,217,142,148,155,30,135,233,206,85,40,223,140,161,137,13,191,230,66,104,65,153,45,15,176,84,187,22]
theorem Hi:Cf=rn:=by decide +kernel
set_option maxRecDepth 100000 in
theorem FJ:ByteArray.size ⟨#[99,124,119,123,242,107,111,197,48,1,103,43,254,215,171,118,202,130,201,125,250,89,71,240,173,212,162,175,156,164,114,192,183,253,147,38,54,63,247,204,52,165,229,241,113,216,49,21,4,199,35,195,24,150,5,154,7,18,128,226,235,39,178,117,9,131,44,26,27,110,90,160,82,59,214,179,41,227,47,132,83,209,0,237,32,252,177,91,106,203,190,57,74,76,88,207,208,239,170,251,67,77,51,133,69,249,2,127,80,60,159,168,81,163,64,143,146,157,56,245,188,182,218,33,16,255,243,210,205,12,19,236,95,151,68,23,196,167,126,61,100,93,25,115,96,129,79,220,34,42,144,136,70,238,184,20,222,94,11,219,224,50,58,10,73,6,36,92,194,211,172,98,145,149,228,121,231,200,55,109,141,213,78,169,108,86,244,234,101,122,174,8,186,120,37,46,28,166,180,198,232,221,116,31,75,189,139,138,112,62,181,102,72,3,246,14,97,53,87,185,134,193,29,158,225,248,152,17,105,217,142,148,155,30,135,233,206,85,40,223,140,161,137,13,191,230,66,104,65,153,45,15,176,84,187,22]⟩=256:=rfl
set_option maxRecDepth 100000 in
theorem IU (x:UInt8):(ByteArray.data ⟨#[99,124,119,123,242,107,111,197,48,1,103,43,254,215,171,118,202,130,201,125,250,89,71,240,173,212,162,175,156,164,114,192,183,253,147,38,54,63,247,204,52,165,229,241,113,216,49,21,4,199,35,195,24,150,5,154,7,18,128,226,235,39,178,117,9,131,44,26,27,110,90,160,82,59,214,179,41,227,47,132,83,209,0,237,32,252,177,91,106,203,190,57,74,76,88,207,208,239,170,251,67,77,51,133,69,249,2,127,80,60,159,168,81,163,64,143,146,157,56,245,188,182,218,33,16,255,243,210,205,12,19,236,95,151,68,23,196,167,126,61,100,93,25,115,96,129,79,220,34,42,144,136,70,238,184,20,222,94,11,219,224,50,58,10,73,6,36,92,194,211,172,98,145,149,228,121,231,200,55,109,141,213,78,169,108,86,244,234,101,122,174,8,186,120,37,46,28,166,180,198,232,221,116,31,75,189,139,138,112,62,181,102,72,3,246,14,97,53,87,185,134,193,29,158,225,248,152,17,105,217,142,148,155,30,135,233,206,85,40,223,140,161,137,13,191,230,66,104,65,153,45,15,176,84,187,22]⟩).toList[x.toNat]?=some (cq x):=by
  have e:(ByteArray.data ⟨#[99,124,119,123,242,107,111,197,48,1,103,43,254,215,171,118,202,130,201,125,250,89,71,240,173,212,162,175,156,164,114,192,183,253,147,38,54,63,247,204,52,165,229,241,113,216,49,21,4,199,35,195,24,150,5,154,7,18,128,226,235,39,178,117,9,131,44,26,27,110,90,160,82,59,214,179,41,227,47,132,83,209,0,237,32,252,177,91,106,203,190,57,74,76,88,207,208,239,170,251,67,77,51,133,69,249,2,127,80,60,159,168,81,163,64,143,146,157,56,245,188,182,218,33,16,255,243,210,205,12,19,236,95,151,68,23,196,167,126,61,100,93,25,115,96,129,79,220,34,42,144,136,70,238,184,20,222,94,11,219,224,50,58,10,73,6,36,92,194,211,172,98,145,149,228,121,231,200,55,109,141,213,78,169,108,86,244,234,101,122,174,8,186,120,37,46,28,166,180,198,232,221,116,31,75,189,139,138,112,62,181,102,72,3,246,14,97,53,87,185,134,193,29,158,225,248,152,17,105,217,142,148,155,30,135,233,206,85,40,223,140,161,137,13,191,230,66,104,65,153,45,15,176,84,187,22]⟩).toList=Cf:=rfl;rw[e,Hi]; exact FH x
set_option maxRecDepth 100000
def uc:ByteArray:=⟨#[99,124,119,123,242,107,111,197,48,1,103,43,254,215,171,118,202,130,201,125,250,89,71,240,173,212,162,175,156,164,114,192,183,253,147,38,54,63,247,204,52,165,229,241,113,216,49,21,4,199,35,195,24,150,5,154,7,18,128,226,235,39,178,117,9,131,44,26,27,110,90,160,82,59,214,179,41,227,47,132,83,209,0,237,32,252,177,91,106,203,190,57,74,76,88,207,208,239,170,251,67,77,51,133,69,249,2,127,80,60,159,168,81,163,64,143,146,157,56,245,188,182,218,33,16,255,243,210,205,12,19,236,95,151,68,23,196,167,126,61,100,93,25,115,96,129,79,220,34,42,144,136,70,238,184,20,222,94,11,219,224,50,58,10,73,6,36,92,194,211,172,98,145,149,228,121,231,200,55,109,141,213,78,169,108,86,244,234,101,122,174,8,186,120,37,46,28,166,180,198,232,221,116,31,75,189,139,138,112,62,181,102,72,3,246,14,97,53,87,185,134,193,29,158,225,248,152,17,105,217,142,148,155,30,135,233,206,85,40,223,140,161,137,13,191,230,66,104,65,153,45,15,176,84,187,22]⟩
def Av:aB:=⟨1,5,.seq (.reg [oO 2 (.mv (.k (.c (.d (.int .u8 0)))))]) (.seq (.reg [oM 3 0,oO 4 (.idxStr (.k (.c (.d (.str uc)))) (.t 3)),oM 2 4]) (.ret)),[(2,none)]⟩
theorem IV:aA Tryd.prog { own:=[],comp:=[],frz:=[],nils:=[] } Tryd.f88=some Av:=by kernel_rfl
theorem kq (G:ak) (x:UInt8):ap Tryd.prog G 88 [bD x] (.w (.c (.d (bD (cq x))))):=by
  refine aC Tryd.func88 IV rfl rfl ?_;have h:=gM x;have e:=IU x;simp only[Av,uc,ah,ae,aa,seval,iteOmega,toNatUp,FJ,e];exact a7
def a6 (f:Nat→UInt8) (l:List UInt8) (i:Nat):List UInt8:=(List.range i).map f++l.drop i
theorem i3 (f:Nat→UInt8) (l:List UInt8) {i:Nat} (h:i≤l.length):(a6 f l i).length=l.length:=by
  unfold a6; rw[KJ,KN,LY,KP]; omega
theorem jT (f:Nat→UInt8) (l:List UInt8):a6 f l 0=l:=by simp[a6]
theorem wO (f:Nat→UInt8) (l:List UInt8) {i:Nat} (h:l.length≤i):a6 f l i=(List.range i).map f:=by
  unfold a6; rw[Lp h,K5]
theorem yJ (f:Nat→UInt8) (l:List UInt8) {i j:Nat} (hj:i≤j):(a6 f l i)[j]?=l[j]?:=by
  unfold a6;rw[Le (by simpa using hj),Lf,KN,LY,show i+(j-i)=j by omega]
theorem FK (f:Nat→UInt8) (l:List UInt8) {i j:Nat} (hj:j<i):(a6 f l i)[j]?=some (f j):=by
  unfold a6;rw[Lm (by simpa using hj)];simp[hj]
theorem jU (f:Nat→UInt8) (l:List UInt8) {i:Nat} (h:i<l.length):(a6 f l i).set i (f i)=a6 f l (i+1):=by
  unfold a6;rw[L8 _ _ (by simp),KN,LY,Nat.sub_self,List.drop_eq_getElem_cons h,List.set_cons_zero,List.range_succ,LG,LM];rfl
theorem cJ {l:List UInt8} {j:Nat} (h:j<l.length):l[j]?=some (l.getD j 0):=by
  rw[KS,KH h]; rfl
theorem KB:bD 1=.int .u8 1:=rfl
set_option maxHeartbeats 1600000
def iH (s k:List UInt8):List UInt8:=be (eo (aK s) (aK k))
def jr (s:List UInt8):List UInt8:=be (eP (aK s))
def kH (s:List UInt8):List UInt8:=be (ep (aK s))
theorem FL (s k:List UInt8):(iH s k).length=16:=dM _
theorem o5 (s:List UInt8):(jr s).length=16:=dM _
theorem wP (s:List UInt8):(kH s).length=16:=dM _
theorem ir (f:ca):BH (aK (be f)) f:=fun j hj=>by
  unfold aK; rw[KS,l5 f hj]; rfl
theorem o6 (f g:ca):iH (be f) (be g)=be (eo f g):=oz fun j hj=>by
  unfold eo; rw[ir f j hj,ir g j hj]
theorem wQ (f:ca):jr (be f)=be (eP f):=oz fun j hj=>by
  unfold eP; rw[ir f _ (by omega)]
theorem FM (f:ca):kH (be f)=be (ep f):=oz fun j hj=>by
  unfold ep; rw[ir f _ (by omega),ir f _ (by omega),ir f _ (by omega),ir f _ (by omega)]
theorem eK:[D.int .u8 0,.int .u8 0,.int .u8 0,.int .u8 0,.int .u8 0,.int .u8 0,.int .u8 0,.int .u8 0,.int .u8 0,.int .u8 0,.int .u8 0,.int .u8 0,.int .u8 0,.int .u8 0,.int .u8 0,.int .u8 0]=(aU 16 (0:UInt8)).map bD:=rfl
theorem l6 (f:ca) {l:List UInt8} (h:l.length=16):a6 f l 16=be f:=wO f l (by omega)
theorem iA (a b:Nat):Int.tmod (a:Int) (b:Int)=((a%b:Nat):Int):=rfl
def qD (s k:List UInt8) (i:Nat):St:=⟨aT [(2,.w (.c (.pa 1 1))),(4,.w (.c (.pa 2 1))),(7,.w (.c (.d (.agg (k.map bD))))),(8,.w (.c (.d (.int .i64 (i:Int)))))],hL [(1,.row 1 ((a6 (eo (aK s) (aK k)) s i).map bD)),(2,.row 1 ((aU 16 (0:UInt8)).map bD))],uL [1,2]⟩
def o7:aH := .seq (.reg [oO 9 (.bin .lss (.t 8) (kI 16))]) (.seq (.cond (.t 9) (.skip) (.exit 0)) (.seq (.block 1 (.seq (.reg [oM 10 8,oO 11 (.idxArr 1 16 .sc (.t 7) (.t 8)),oM 5 10,oM 6 11]) (.reg [oM 12 5,oO 13 (.idxPa 1 16 (.t 2) (.t 12)),oO 14 (.load .sc (.t 13)),oM 15 6,oO 16 (.bin .xor (.t 14) (.t 15)),oO 17 (.idxPa 1 16 (.t 2) (.t 12)),oN (.store .sc (.t 17) (.t 16))]))) (.reg [oO 18 (.bin .add (.t 8) (kI 1)),oM 8 18])))
def Aw:aB:=⟨2,20,.seq (.reg [oO 2 (.box .ownArr (.t 0)),oO 3 (.box .roArr (.t 1)),oO 4 (.allocArr [(.int .u8 0),(.int .u8 0),(.int .u8 0),(.int .u8 0),(.int .u8 0),(.int .u8 0),(.int .u8 0),(.int .u8 0),(.int .u8 0),(.int .u8 0),(.int .u8 0),(.int .u8 0),(.int .u8 0),(.int .u8 0),(.int .u8 0),(.int .u8 0)])]) (.seq (.seq (.reg [oO 7 (.load (.ag 16) (.t 3)),oO 8 (.mv (kI 0))]) (.block 0 (.loop o7))) (.seq (.reg [oO 19 (.load (.ag 16) (.t 2)),oN (.store (.ag 16) (.t 4) (.t 19))]) (.ret))),[(4,(some (.ag 16)))]⟩
theorem IW:aA Tryd.prog { own:=[2],comp:=[],frz:=[],nils:=[] } Tryd.f79=some Aw:=by kernel_rfl
theorem qE (G:ak) (s k:List UInt8) (hs:s.length=16) (hk:k.length=16):ap Tryd.prog G 79 [.agg (s.map bD),.agg (k.map bD)] (.w (.c (.d (.agg ((iH s k).map bD))))):=by
  refine aC Tryd.func79 IW rfl rfl ?_;simp only[Aw,ah,ae,aa,seval,iteOmega,toNatUp,eK,eN,hk];refine ba (qD s k) (fun i=>16-i) (fun i=>i≤16) 0 (KU _) ?_ ?_
  ·refine az (fun i=>if i=1 then 16 else 32) ?_ ?_ rfl rfl <;> simp only[wx,aw,aO,aa,seval,iteOmega,toNatUp,jT]
  ·intro i hi;have hl:(a6 (eo (aK s) (aK k)) s i).length=16:=by rw[i3 _ _ (by omega)]; exact hs
   by_cases hlt:i<16
   ·have g1:k[i]?=some (k.getD i 0):=cJ (by omega);have g2:(a6 (eo (aK s) (aK k)) s i)[i]?=some (s.getD i 0):=by rw[yJ _ _ (KT i)]; exact cJ (by omega)
    have h3:i<(a6 (eo (aK s) (aK k)) s i).length:=by omega
    have h4:=ea (s.getD i 0) (k.getD i 0);have h5:(a6 (eo (aK s) (aK k)) s i).set i (aj (s.getD i 0) (k.getD i 0))=a6 (eo (aK s) (aK k)) s (i+1):=jU (eo (aK s) (aK k)) s (by omega);simp only[o7,qD,ae,aa,seval,iteOmega,toNatUp,bm,g1,g2,h4,dN h3 (dm _),ec,h5];refine aS (i+1) (by omega) (by omega) (az (fun i=>i) ?_ ?_ rfl rfl) <;> simp only[wx,aw,aO,aa,seval,iteOmega,toNatUp]
   ·obtain rfl:i=16:=by omega
    have e:a6 (eo (aK s) (aK k)) s 16=iH s k:=l6 _ hs;have e2:=FL s k;simp only[o7,qD,e,ae,aa,seval,iteOmega,toNatUp,e2,eN,bB];exact a7
def qF (s:List UInt8) (i:Nat):St:=⟨aT [(1,.w (.c (.ra (s.map bD)))),(2,.w (.c (.pa 2 1))),(3,.w (.c (.pa 1 1))),(6,.w (.c (.d (.int .i64 (i:Int)))))],hL [(1,.row 1 ((a6 (eP (aK s)) (aU 16 (0:UInt8)) i).map bD)),(2,.row 1 ((aU 16 (0:UInt8)).map bD))],uL [1,2]⟩
def oA:aH := .seq (.reg [oO 7 (.bin .lss (.t 6) (kI 16))]) (.seq (.cond (.t 7) (.skip) (.exit 0)) (.seq (.block 1 (.seq (.reg [oM 8 6,oM 4 8]) (.seq (.reg [oM 9 4,oO 10 (.bin .rem (.t 9) (kI 4)),oM 5 10]) (.reg [oM 11 4,oM 12 4,oM 13 5,oO 14 (.bin .mul (.t 13) (kI 4)),oO 15 (.bin .add (.t 12) (.t 14)),oO 16 (.bin .rem (.t 15) (kI 16)),oO 17 (.idxPa 1 16 (.t 1) (.t 16)),oO 18 (.load .sc (.t 17)),oO 19 (.call 88 [(.t 18)] none),oO 20 (.idxPa 1 16 (.t 3) (.t 11)),oN (.store .sc (.t 20) (.t 19))])))) (.reg [oO 21 (.bin .add (.t 6) (kI 1)),oM 6 21])))
def yK:aB:=⟨1,23,.seq (.reg [oO 1 (.box .roArr (.t 0)),oO 2 (.allocArr [(.int .u8 0),(.int .u8 0),(.int .u8 0),(.int .u8 0),(.int .u8 0),(.int .u8 0),(.int .u8 0),(.int .u8 0),(.int .u8 0),(.int .u8 0),(.int .u8 0),(.int .u8 0),(.int .u8 0),(.int .u8 0),(.int .u8 0),(.int .u8 0)])]) (.seq (.reg [oO 3 (.allocArr [(.int .u8 0),(.int .u8 0),(.int .u8 0),(.int .u8 0),(.int .u8 0),(.int .u8 0),(.int .u8 0),(.int .u8 0),(.int .u8 0),(.int .u8 0),(.int .u8 0),(.int .u8 0),(.int .u8 0),(.int .u8 0),(.int .u8 0),(.int .u8 0)])]) (.seq (.seq (.reg [oO 6 (.mv (kI 0))]) (.block 0 (.loop oA))) (.seq (.reg [oO 22 (.load (.ag 16) (.t 3)),oN (.store (.ag 16) (.t 2) (.t 22))]) (.ret)))),[(2,(some (.ag 16)))]⟩
theorem Hj:aA Tryd.prog { own:=[],comp:=[],frz:=[],nils:=[] } Tryd.f81=some yK:=by kernel_rfl
theorem Ax (G:ak) (s:List UInt8) (hs:s.length=16):ap Tryd.prog G 81 [.agg (s.map bD)] (.w (.c (.d (.agg ((jr s).map bD))))):=by
  refine aC Tryd.func81 Hj rfl rfl ?_;simp only[yK,ah,ae,aa,seval,iteOmega,toNatUp,eK];refine ba (qF s) (fun i=>16-i) (fun i=>i≤16) 0 (KU _) ?_ ?_
  ·refine az (fun i=>if i=1 then 24 else 16) ?_ ?_ rfl rfl <;> simp only[wx,aw,aO,aa,seval,iteOmega,toNatUp,jT]
  ·intro i hi;have hl:(a6 (eP (aK s)) (aU 16 (0:UInt8)) i).length=16:=by rw[i3 _ _ (by rw[bB]; omega),bB]
   by_cases hlt:i<16
   ·have hm:(i+i%4*4)%16=i%4+4*((i / 4+i%4)%4):=by omega
    have hm2:(i+i%4*4)%16<16:=by omega
    have g1:s[(i+i%4*4)%16]?=some (aK s (i%4+4*((i / 4+i%4)%4))):=by rw[← hm]; exact cJ (by omega)
    have h3:i<(a6 (eP (aK s)) (aU 16 (0:UInt8)) i).length:=by omega
    have h5:(a6 (eP (aK s)) (aU 16 (0:UInt8)) i).set i (cq (aK s (i%4+4*((i / 4+i%4)%4))))=a6 (eP (aK s)) (aU 16 (0:UInt8)) (i+1):=jU (eP (aK s)) _ (by rw[bB]; omega);have t1:Int.tmod (i:Int) 4=((i%4:Nat):Int):=iA i 4;have t2:Int.tmod ((i:Int)+((i%4:Nat):Int)*4) 16=(((i+i%4*4)%16:Nat):Int):=iA (i+i%4*4) 16;have hb:(i%4:Nat)<4:=LK _ (by decide);generalize hq:i%4=q at *
    generalize hp:(i+q*4)%16=p at *
    simp only[oA,qF,ae,aa,seval,iteOmega,toNatUp,bm,t1,t2,g1];refine sC (kq G (aK s (q+4*((i / 4+q)%4)))) ?_;simp only[dN h3 (dm _),ec,h5,bm,hl,ae,aa,seval,iteOmega,toNatUp];refine aS (i+1) (by omega) (by omega) (az (fun i=>i) ?_ ?_ rfl rfl) <;> simp only[wx,aw,aO,aa,seval,iteOmega,toNatUp]
   ·obtain rfl:i=16:=by omega
    have e:a6 (eP (aK s)) (aU 16 (0:UInt8)) 16=jr s:=l6 _ (bB _ _);have e2:=o5 s;simp only[oA,qF,e,ae,aa,seval,iteOmega,toNatUp,e2,eN,bB];exact a7
theorem IX (a b c d:UInt8):aj (aj (aj (ez (aj a b)) b) c) d=nk a b c d:=by
  unfold nk rF;rw[Hh a b,Au,Au]
def qh (s:List UInt8) (i:Nat):St:=⟨aT [(1,.w (.c (.ra (s.map bD)))),(2,.w (.c (.pa 2 1))),(3,.w (.c (.pa 1 1))),(8,.w (.c (.d (.int .i64 (i:Int)))))],hL [(1,.row 1 ((a6 (ep (aK s)) (aU 16 (0:UInt8)) i).map bD)),(2,.row 1 ((aU 16 (0:UInt8)).map bD))],uL [1,2]⟩
def oB:aH := .seq (.reg [oO 9 (.bin .lss (.t 8) (kI 16))]) (.seq (.cond (.t 9) (.skip) (.exit 0)) (.seq (.block 1 (.seq (.reg [oM 10 8,oM 4 10]) (.seq (.reg [oM 11 4,oO 12 (.bin .rem (.t 11) (kI 4)),oM 5 12]) (.seq (.reg [oM 13 4,oM 14 5,oO 15 (.bin .sub (.t 13) (.t 14)),oM 16 4,oM 17 5,oO 18 (.bin .sub (.t 16) (.t 17)),oO 19 (.bin .add (.t 18) (kI 4)),oO 20 (.sliceArr 1 16 (.t 1) (some (.t 15)) (some (.t 19))),oM 6 20]) (.seq (.reg [oM 21 6,oM 22 5,oO 23 (.bin .add (.t 22) (kI 1)),oO 24 (.bin .rem (.t 23) (kI 4)),oO 25 (.idxSl 1 (.t 21) (.t 24)),oO 26 (.load .sc (.t 25)),oM 7 26]) (.reg [oM 27 4,oM 28 4,oO 29 (.idxPa 1 16 (.t 1) (.t 28)),oO 30 (.load .sc (.t 29)),oM 31 7,oO 32 (.bin .xor (.t 30) (.t 31)),oO 33 (.call 77 [(.t 32)] none),oM 34 7,oO 35 (.bin .xor (.t 33) (.t 34)),oM 36 6,
 oM 37 5,oO 38 (.bin .add (.t 37) (kI 2)),oO 39 (.bin .rem (.t 38) (kI 4)),oO 40 (.idxSl 1 (.t 36) (.t 39)),oO 41 (.load .sc (.t 40)),oO 42 (.bin .xor (.t 35) (.t 41)),oM 43 6,oM 44 5,oO 45 (.bin .add (.t 44) (kI 3)),oO 46 (.bin .rem (.t 45) (kI 4)),oO 47 (.idxSl 1 (.t 43) (.t 46)),oO 48 (.load .sc (.t 47)),oO 49 (.bin .xor (.t 42) (.t 48)),oO 50 (.idxPa 1 16 (.t 3) (.t 27)),oN (.store .sc (.t 50) (.t 49))])))))) (.reg [oO 51 (.bin .add (.t 8) (kI 1)),oM 8 51])))
def yL:aB:=⟨1,53,.seq (.reg [oO 1 (.box .roArr (.t 0)),oO 2 (.allocArr [(.int .u8 0),(.int .u8 0),(.int .u8 0),(.int .u8 0),(.int .u8 0),(.int .u8 0),(.int .u8 0),(.int .u8 0),(.int .u8 0),(.int .u8 0),(.int .u8 0),(.int .u8 0),(.int .u8 0),(.int .u8 0),(.int .u8 0),(.int .u8 0)])]) (.seq (.reg [oO 3 (.allocArr [(.int .u8 0),(.int .u8 0),(.int .u8 0),(.int .u8 0),(.int .u8 0),(.int .u8 0),(.int .u8 0),(.int .u8 0),(.int .u8 0),(.int .u8 0),(.int .u8 0),(.int .u8 0),(.int .u8 0),(.int .u8 0),(.int .u8 0),(.int .u8 0)])]) (.seq (.seq (.reg [oO 8 (.mv (kI 0))]) (.block 0 (.loop oB))) (.seq (.reg [oO 52 (.load (.ag 16) (.t 3)),oN (.store (.ag 16) (.t 2) (.t 52))]) (.ret)))),[(2,(some (.ag 16)))]⟩
theorem Hk:aA Tryd.prog { own:=[],comp:=[],frz:=[],nils:=[] } Tryd.f80=some yL:=by kernel_rfl
theorem IY (G:ak) (s:List UInt8) (hs:s.length=16):ap Tryd.prog G 80 [.agg (s.map bD)] (.w (.c (.d (.agg ((kH s).map bD))))):=by
  refine aC Tryd.func80 Hk rfl rfl ?_;simp only[yL,ah,ae,aa,seval,iteOmega,toNatUp,eK];refine ba (qh s) (fun i=>16-i) (fun i=>i≤16) 0 (KU _) ?_ ?_
  ·refine az (fun i=>if i=1 then 24 else 16) ?_ ?_ rfl rfl <;> simp only[wx,aw,aO,aa,seval,iteOmega,toNatUp,jT]
  ·intro i hi;have hl:(a6 (ep (aK s)) (aU 16 (0:UInt8)) i).length=16:=by rw[i3 _ _ (by rw[bB]; omega),bB]
   by_cases hlt:i<16
   ·have h3:i<(a6 (ep (aK s)) (aU 16 (0:UInt8)) i).length:=by omega
    have h5:(a6 (ep (aK s)) (aU 16 (0:UInt8)) i).set i (ep (aK s) i)=a6 (ep (aK s)) (aU 16 (0:UInt8)) (i+1):=jU (ep (aK s)) _ (by rw[bB]; omega);have g0:s[i]?=some (aK s i):=cJ (by omega);obtain⟨q,r,hr,rfl⟩:∃ q r,r<4∧i=4*q+r:=⟨i / 4,i%4,LK _ (by decide),by omega⟩
    have hq:q<4:=by omega
    have col:∀ j,j<4→((s.drop (4*q)).take 4)[j]?=some (aK s (4*q+j)):=fun j hj=>by
      rw[K0,if_pos hj,Lf]; exact cJ (by omega)
    have g1:=col ((r+1)%4) (LK _ (by decide));have g2:=col ((r+2)%4) (LK _ (by decide));have g3:=col ((r+3)%4) (LK _ (by decide));have t0:Int.tmod (4*(q:Int)+(r:Int)) 4=(r:Int):=by
      show Int.tmod ((4*q+r:Nat):Int) ((4:Nat):Int)=_
      rw[iA]; congr 1; omega
    have t1:Int.tmod ((r:Int)+1) 4=(((r+1)%4:Nat):Int):=iA (r+1) 4;have t2:Int.tmod ((r:Int)+2) 4=(((r+2)%4:Nat):Int):=iA (r+2) 4;have t3:Int.tmod ((r:Int)+3) 4=(((r+3)%4:Nat):Int):=iA (r+3) 4;have b1:(r+1)%4<4:=LK _ (by decide);have b2:(r+2)%4<4:=LK _ (by decide);have b3:(r+3)%4<4:=LK _ (by decide);have em:ep (aK s) (4*q+r)=nk (aK s (4*q+r)) (aK s (4*q+(r+1)%4)) (aK s (4*q+(r+2)%4)) (aK s (4*q+(r+3)%4)):=by
      unfold ep;rw[show (4*q+r) / 4=q by omega,show (4*q+r)%4=r by omega]
    rw[em,← IX] at h5;have s1:4*q+r-r=4*q:=by omega
    have s2:4*q+4-4*q=4:=by omega
    have s3:((s.drop (4*q)).take 4).length=4:=by rw[KL,KP]; omega
    generalize (r+1)%4=r1 at *
    generalize (r+2)%4=r2 at *
    generalize (r+3)%4=r3 at *
    generalize aK s (4*q+r)=a at *
    generalize aK s (4*q+r1)=b at *
    generalize aK s (4*q+r2)=c at *
    generalize aK s (4*q+r3)=d at *
    have x1:=ea a b;have x2:=ea (ez (aj a b)) b;have x3:=ea (aj (ez (aj a b)) b) c;have x4:=ea (aj (aj (ez (aj a b)) b) c) d;simp only[oB,qh,ae,aa,seval,iteOmega,toNatUp,bm,t0,t1,t2,t3,g0,g1,g2,g3,s1,s2,s3,x1];refine sC (BI G (aj a b)) ?_;simp only[bm,t0,t1,t2,t3,g0,g1,g2,g3,s1,s2,s3,x2,x3,x4,dN h3 (dm _),ec,h5,hl,ae,aa,seval,iteOmega,toNatUp];refine aS (4*q+r+1) (by omega) (by omega) (az (fun i=>i) ?_ ?_ rfl rfl) <;> simp only[wx,aw,aO,aa,seval,iteOmega,toNatUp]
   ·obtain rfl:i=16:=by omega
    have e:a6 (ep (aK s)) (aU 16 (0:UInt8)) 16=kH s:=l6 _ (bB _ _);have e2:=wP s;simp only[oB,qh,e,ae,aa,seval,iteOmega,toNatUp,e2,eN,bB];exact a7
def KC (l:List UInt8) (c:UInt8) (j:Nat):UInt8:=if j=0 then aj (cq (l.getD 13 0)) c else if j=1 then cq (l.getD 14 0) else if j=2 then cq (l.getD 15 0) else cq (l.getD 12 0)
def wV (l:List UInt8) (c:UInt8):Nat→Nat→UInt8
  | 0,j=>KC l c j
  | n+1,j=>if j=n%4 then aj (l.getD n 0) (wV l c n (n%4)) else wV l c n j
def dZ (l:List UInt8) (c:UInt8) (n:Nat):UInt8:=aj (l.getD n 0) (wV l c n (n%4))
def hC (l:List UInt8) (c:UInt8):List UInt8:=be (dZ l c)
theorem lK (l:List UInt8) (c:UInt8):(hC l c).length=16:=dM _
def wL (l:List UInt8) (c:UInt8) (i:Nat):List UInt8:=(List.range 4).map (wV l c i)
theorem i9 (l:List UInt8) (c:UInt8) (i:Nat):(wL l c i).length=4:=by simp[wL]
theorem qi (l:List UInt8) (c:UInt8) (i:Nat) {j:Nat} (h:j<4):(wL l c i)[j]?=some (wV l c i j):=by simp[wL,h]
theorem Hl (l:List UInt8) (c:UInt8) (i:Nat):(wL l c i).set (i%4) (dZ l c i)=wL l c (i+1):=by
  apply LC;intro j;by_cases hj:j<4
  ·rw[qi _ _ _ hj,List.getElem?_set];by_cases e:i%4=j
   ·rw[if_pos e,if_pos (by rw[i9]; omega),wV,if_pos e.symm]; rfl
   ·rw[if_neg e,qi _ _ _ hj,wV,if_neg (fun h=>e h.symm)]
  ·rw[Lg (by rw[Lw,i9]; omega),Lg (by rw[i9]; omega)]
theorem Hm (l:List UInt8) (c:UInt8):[aj (cq (l.getD 13 0)) c,cq (l.getD 14 0),cq (l.getD 15 0),cq (l.getD 12 0)]=wL l c 0:=rfl
def qG (l:List UInt8) (c:UInt8) (i:Nat):St:=⟨aT [(2,.w (.c (.pa 1 1))),(4,.w (.c (.pa 2 1))),(5,.w (.c (.pa 3 1))),(22,.w (.c (.d (.int .i64 (i:Int)))))],hL [(1,.row 1 ((a6 (dZ l c) l i).map bD)),(2,.row 1 ((aU 16 (0:UInt8)).map bD)),(3,.row 1 ((wL l c i).map bD))],uL [1,2,3]⟩
def o8:aH := .seq (.reg [oO 23 (.bin .lss (.t 22) (kI 16))]) (.seq (.cond (.t 23) (.skip) (.exit 0)) (.seq (.block 1 (.seq (.reg [oM 24 22,oM 6 24]) (.seq (.reg [oM 25 6,oO 26 (.idxPa 1 16 (.t 2) (.t 25)),oO 27 (.load .sc (.t 26)),oM 28 6,oO 29 (.bin .rem (.t 28) (kI 4)),oO 30 (.idxPa 1 4 (.t 5) (.t 29)),oO 31 (.load .sc (.t 30)),oO 32 (.bin .xor (.t 27) (.t 31)),oO 33 (.idxPa 1 16 (.t 2) (.t 25)),oN (.store .sc (.t 33) (.t 32))]) (.reg [oM 34 6,oO 35 (.bin .rem (.t 34) (kI 4)),oM 36 6,oO 37 (.idxPa 1 16 (.t 2) (.t 36)),oO 38 (.load .sc (.t 37)),oO 39 (.idxPa 1 4 (.t 5) (.t 35)),oN (.store .sc (.t 39) (.t 38))])))) (.reg [oO 40 (.bin .add (.t 22) (kI 1)),oM 22 40])))
def Ay:aB:=⟨2,42,.seq (.reg [oO 2 (.box .ownArr (.t 0)),oO 4 (.allocArr [(.int .u8 0),(.int .u8 0),(.int .u8 0),(.int .u8 0),(.int .u8 0),(.int .u8 0),(.int .u8 0),(.int .u8 0),(.int .u8 0),(.int .u8 0),(.int .u8 0),(.int .u8 0),(.int .u8 0),(.int .u8 0),(.int .u8 0),(.int .u8 0)])]) (.seq (.reg [oO 7 (.idxPa 1 16 (.t 2) (kI 13)),oO 8 (.load .sc (.t 7)),oO 9 (.call 88 [(.t 8)] none),oM 10 1,oO 11 (.bin .xor (.t 9) (.t 10)),oO 12 (.idxPa 1 16 (.t 2) (kI 14)),oO 13 (.load .sc (.t 12)),oO 14 (.call 88 [(.t 13)] none),oO 15 (.idxPa 1 16 (.t 2) (kI 15)),oO 16 (.load .sc (.t 15)),oO 17 (.call 88 [(.t 16)] none),oO 18 (.idxPa 1 16 (.t 2) (kI 12)),oO 19 (.load .sc (.t 18)),oO 20 (.call 88 [(.t 19)] none),oO 21 (.build [(.d (.int .u8 0)),(.d (.int .u8 0)),(.d (.int .u8 0)),(.d (.int .u8 0))] [(0,1,(.t 11)),(1,1,(.t 14)),(2,1,(.t 17)),(3,1,(.t 20))]),
 oO 5 (.allocArr [(.int .u8 0),(.int .u8 0),(.int .u8 0),(.int .u8 0)]),oN (.store (.ag 4) (.t 5) (.t 21))]) (.seq (.seq (.reg [oO 22 (.mv (kI 0))]) (.block 0 (.loop o8))) (.seq (.reg [oO 41 (.load (.ag 16) (.t 2)),oN (.store (.ag 16) (.t 4) (.t 41))]) (.ret)))),[(4,(some (.ag 16)))]⟩
theorem IZ:aA Tryd.prog { own:=[2],comp:=[],frz:=[],nils:=[] } Tryd.f76=some Ay:=by kernel_rfl
set_option maxHeartbeats 3200000 in
theorem J5 (G:ak) (l:List UInt8) (c:UInt8) (hl:l.length=16):ap Tryd.prog G 76 [.agg (l.map bD),bD c] (.w (.c (.d (.agg ((hC l c).map bD))))):=by
  refine aC Tryd.func76 IZ rfl rfl ?_;have a13:l[13]?=some (l.getD 13 0):=cJ (by omega);have a14:l[14]?=some (l.getD 14 0):=cJ (by omega);have a15:l[15]?=some (l.getD 15 0):=cJ (by omega);have a12:l[12]?=some (l.getD 12 0):=cJ (by omega);have x0:=ea (cq (l.getD 13 0)) c;have w0:=congrArg (List.map bD) (Hm l c);have wl:=i9 l c 0;simp only[KR,Ls] at w0;simp only[Ay,ah,ae,aa,seval,iteOmega,toNatUp,eK,hl,bm,a13];refine sC (kq G (l.getD 13 0)) ?_;simp only[x0,bm,a14,hl,ae,aa,seval,iteOmega,toNatUp];refine sC (kq G (l.getD 14 0)) ?_;simp only[bm,a15,hl,ae,aa,seval,iteOmega,toNatUp];refine sC (kq G (l.getD 15 0)) ?_;simp only[bm,a12,hl,ae,aa,seval,iteOmega,toNatUp];refine sC (kq G (l.getD 12 0)) ?_;simp only[w0,ae,aa,seval,iteOmega,toNatUp];refine ba (qG l c) (fun i=>16-i) (fun i=>i≤16) 0 (KU _) ?_ ?_
  ·refine az (fun i=>if i=1 then 16 else if i=2 then 32 else 40) ?_ ?_ rfl rfl <;> simp only[wx,aw,aO,aa,seval,iteOmega,toNatUp,jT]
  ·intro i hi;have hu:(a6 (dZ l c) l i).length=16:=by rw[i3 _ _ (by omega)]; exact hl
   by_cases hlt:i<16
   ·have hm:i%4<4:=LK _ (by decide);have t1:Int.tmod (i:Int) 4=((i%4:Nat):Int):=iA i 4;have g1:(a6 (dZ l c) l i)[i]?=some (l.getD i 0):=by rw[yJ _ _ (KT i)]; exact cJ (by omega)
    have g2:=qi l c i hm;have x1:=ea (l.getD i 0) (wV l c i (i%4));have h3:i<(a6 (dZ l c) l i).length:=by omega
    have h4:i%4<(wL l c i).length:=by rw[i9]; exact hm
    have h5:(a6 (dZ l c) l i).set i (dZ l c i)=a6 (dZ l c) l (i+1):=jU (dZ l c) l (by omega);have h6:=Hl l c i;have g3:(a6 (dZ l c) l (i+1))[i]?=some (dZ l c i):=FK _ _ (Nat.lt_succ_self i);have hf:aj (l.getD i 0) (wV l c i (i%4))=dZ l c i:=rfl;have hwl:=i9 l c i;have hu2:(a6 (dZ l c) l (i+1)).length=16:=by rw[i3 _ _ (by omega)]; exact hl
    generalize hq:i%4=q at *
    simp only[o8,qG,ae,aa,seval,iteOmega,toNatUp,bm,t1,g1,g2,x1,hf,dN h3 (dm _),dN h4 (dm _),ec,h5,h6,g3,hu,hu2,hwl];refine aS (i+1) (by omega) (by omega) (az (fun i=>i) ?_ ?_ rfl rfl) <;> simp only[wx,aw,aO,aa,seval,iteOmega,toNatUp]
   ·obtain rfl:i=16:=by omega
    have e:a6 (dZ l c) l 16=hC l c:=l6 _ hl;have e2:=lK l c;simp only[o8,qG,e,ae,aa,seval,iteOmega,toNatUp,e2,eN,bB];exact a7
theorem Es {P Q:List UInt8} {k n:Nat} (h:P.length=n):(P++Q).getD (n+k) 0=Q.getD k 0:=by
  rw[KS,KS,Le (by omega),h,Nat.add_sub_cancel_left]
theorem FN {P Q:List UInt8} {k n:Nat} (h:P.length=n):(P++Q).drop (n+k)=Q.drop k:=by
  rw[← h,List.drop_append,Lp (by omega),LV,Nat.add_sub_cancel_left]
theorem lr {P Q:List UInt8} {n:Nat} (h:P.length=4*n):gw (P++Q) n=(List.range 4).map fun k=>aj (Q.getD k 0) ((jm (Q.drop 12) n).getD k 0):=by
  unfold gw;refine Ll fun k _=>?_
  rw[Es h,show 12+4*n=4*n+12 by omega,FN h]
theorem J6 (b0 b1 b2 b3 b4 b5 b6 b7 b8 b9 b10 b11 b12 b13 b14 b15 c:UInt8):∃ f0 f1 f2 f3,
    f0=aj b0 (aj (cq b13) c)∧f1=aj b1 (cq b14)∧f2=aj b2 (cq b15)∧f3=aj b3 (cq b12) ∧
    hC [b0,b1,b2,b3,b4,b5,b6,b7,b8,b9,b10,b11,b12,b13,b14,b15] c =
      [f0,f1,f2,f3,aj b4 f0,aj b5 f1,aj b6 f2,aj b7 f3,aj b8 (aj b4 f0),aj b9 (aj b5 f1),aj b10 (aj b6 f2),aj b11 (aj b7 f3),
       aj b12 (aj b8 (aj b4 f0)),aj b13 (aj b9 (aj b5 f1)),aj b14 (aj b10 (aj b6 f2)),aj b15 (aj b11 (aj b7 f3))] :=
  ⟨_,_,_,_,rfl,rfl,rfl,rfl,rfl⟩
theorem lL (f:Nat→UInt8):(List.range 4).map f=[f 0,f 1,f 2,f 3]:=rfl
theorem FO {P:List UInt8} {r:Nat} (hP:P.length=16*r) (b0 b1 b2 b3 b4 b5 b6 b7 b8 b9 b10 b11 b12 b13 b14 b15:UInt8) (key:List UInt8)
    (h:ch key (4*r)=P++[b0,b1,b2,b3,b4,b5,b6,b7,b8,b9,b10,b11,b12,b13,b14,b15]) :
    ch key (4*(r+1))=ch key (4*r)++hC [b0,b1,b2,b3,b4,b5,b6,b7,b8,b9,b10,b11,b12,b13,b14,b15] (eG r):=by
  obtain⟨f0,f1,f2,f3,e0,e1,e2,e3,ef⟩:=J6 b0 b1 b2 b3 b4 b5 b6 b7 b8 b9 b10 b11 b12 b13 b14 b15 (eG r);have m0:4*r%4=0:=by omega
  have m1:(4*r+1)%4≠0:=by omega
  have m2:(4*r+2)%4≠0:=by omega
  have m3:(4*r+3)%4≠0:=by omega
  have d0:4*r / 4=r:=by omega
  have n0:gw (ch key (4*r)) (4*r)=[f0,f1,f2,f3]:=by
    rw[h,lr (by omega),lL];unfold jm;rw[if_pos m0,d0,e0,e1,e2,e3]; rfl
  have s1:ch key (4*r+1)=(P++[b0,b1,b2,b3])++[b4,b5,b6,b7,b8,b9,b10,b11,b12,b13,b14,b15,f0,f1,f2,f3]:=by
    rw[ch,n0,h]; simp
  have n1:gw (ch key (4*r+1)) (4*r+1)=[aj b4 f0,aj b5 f1,aj b6 f2,aj b7 f3]:=by
    rw[s1,lr (by simp; omega),lL];unfold jm;rw[if_neg m1]; rfl
  have s2:ch key (4*r+2)=(P++[b0,b1,b2,b3,b4,b5,b6,b7])++[b8,b9,b10,b11,b12,b13,b14,b15,f0,f1,f2,f3,aj b4 f0,aj b5 f1,aj b6 f2,aj b7 f3]:=by
    rw[show 4*r+2=(4*r+1)+1 from rfl,ch,n1,s1]; simp
  have n2:gw (ch key (4*r+2)) (4*r+2)=[aj b8 (aj b4 f0),aj b9 (aj b5 f1),aj b10 (aj b6 f2),aj b11 (aj b7 f3)]:=by
    rw[s2,lr (by simp; omega),lL];unfold jm;rw[if_neg m2]; rfl
  have s3:ch key (4*r+3)=(P++[b0,b1,b2,b3,b4,b5,b6,b7,b8,b9,b10,b11])++[b12,b13,b14,b15,f0,f1,f2,f3,aj b4 f0,aj b5 f1,aj b6 f2,aj b7 f3,aj b8 (aj b4 f0),aj b9 (aj b5 f1),aj b10 (aj b6 f2),aj b11 (aj b7 f3)]:=by
    rw[show 4*r+3=(4*r+2)+1 from rfl,ch,n2,s2]; simp
  have n3:gw (ch key (4*r+3)) (4*r+3)=[aj b12 (aj b8 (aj b4 f0)),aj b13 (aj b9 (aj b5 f1)),aj b14 (aj b10 (aj b6 f2)),aj b15 (aj b11 (aj b7 f3))]:=by
    rw[s3,lr (by simp; omega),lL];unfold jm;rw[if_neg m3]; rfl
  rw[show 4*(r+1)=(4*r+3)+1 by omega,ch,n3,s3,ef,h];simp
def kb (key:List UInt8) (r:Nat):List UInt8:=(ch key (4*r)).drop (16*r)
theorem qj {key:List UInt8} (h:key.length=16) (r:Nat):(kb key r).length=16:=by
  unfold kb; rw[KP,ii h]; omega
theorem I0 {l:List UInt8} (h:l.length=16):∃ b0 b1 b2 b3 b4 b5 b6 b7 b8 b9 b10 b11 b12 b13 b14 b15,l=[b0,b1,b2,b3,b4,b5,b6,b7,b8,b9,b10,b11,b12,b13,b14,b15]:=by
  rcases l with _ | ⟨b0,l⟩ <;> simp at h
  rcases l with _ | ⟨b1,l⟩ <;> simp at h
  rcases l with _ | ⟨b2,l⟩ <;> simp at h
  rcases l with _ | ⟨b3,l⟩ <;> simp at h
  rcases l with _ | ⟨b4,l⟩ <;> simp at h
  rcases l with _ | ⟨b5,l⟩ <;> simp at h
  rcases l with _ | ⟨b6,l⟩ <;> simp at h
  rcases l with _ | ⟨b7,l⟩ <;> simp at h
  rcases l with _ | ⟨b8,l⟩ <;> simp at h
  rcases l with _ | ⟨b9,l⟩ <;> simp at h
  rcases l with _ | ⟨b10,l⟩ <;> simp at h
  rcases l with _ | ⟨b11,l⟩ <;> simp at h
  rcases l with _ | ⟨b12,l⟩ <;> simp at h
  rcases l with _ | ⟨b13,l⟩ <;> simp at h
  rcases l with _ | ⟨b14,l⟩ <;> simp at h
  rcases l with _ | ⟨b15,l⟩ <;> simp at h
  subst h;exact⟨_,_,_,_,_,_,_,_,_,_,_,_,_,_,_,_,rfl⟩
theorem Hn {key:List UInt8} (h:key.length=16) (r:Nat):ch key (4*(r+1))=ch key (4*r)++hC (kb key r) (eG r):=by
  obtain⟨b0,b1,b2,b3,b4,b5,b6,b7,b8,b9,b10,b11,b12,b13,b14,b15,e⟩:=I0 (qj h r);rw[e];refine FO (P:=(ch key (4*r)).take (16*r)) ?_ _ _ _ _ _ _ _ _ _ _ _ _ _ _ _ _ key ?_
  ·rw[KL,ii h]; omega
  ·rw[← e]; exact (Lo _ _).symm
def dI (key:List UInt8) (i:Nat):List UInt8:=ch key (4*i)++aU (160-16*i) 0
theorem Ho {key:List UInt8} (h:key.length=16) {i:Nat} (hi:i≤10):(dI key i).length=176:=by
  unfold dI; rw[KJ,ii h,bB]; omega
theorem FP {key:List UInt8} (h:key.length=16):bu (aU 176 (0:UInt8)) 0 key=dI key 0:=by
  unfold bu dI aU;rw[List.take_zero,LV,List.drop_replicate,h]; rfl
theorem FQ {key:List UInt8} (h:key.length=16) {i:Nat} (hi:i≤10):((dI key i).drop (i*16)).take 16=kb key i:=by
  unfold dI;rw[Nat.mul_comm,List.drop_append_of_le_length (by rw[ii h]; omega)];exact List.take_left' (qj h i)
theorem FR {key:List UInt8} (h:key.length=16) {i:Nat} (hi:i<10):bu (dI key i) ((i+1)*16) (hC (kb key i) (eG i))=dI key (i+1):=by
  have hl:(ch key (4*i)).length=(i+1)*16:=by rw[ii h]; omega
  unfold bu dI;rw[Hn h,List.take_append_of_le_length (by omega),KM (by omega),lK,List.drop_append,Lp (by omega),LV,hl]
  congr 1
  unfold aU;rw[List.drop_replicate]
  congr 1
  omega
theorem FS (key:List UInt8):dI key 10=au key:=by
  unfold dI aU au; rw[show 160-16*10=0 from rfl,LF,K5]
set_option maxHeartbeats 3200000
def qk (key:List UInt8) (i:Nat):St:=⟨aT [(2,.w (.c (.ptr 2 1 0 0))),(3,.w (.c (.ptr 1 1 0 0))),(4,.w (.c (.d (bD (eG i))))),(5,.w (.c (.d (.int .i64 ((i+1:Nat):Int)))))],hL [(1,.box ((dI key i).map bC)),(2,.box ((aU 176 (0:UInt8)).map bC))],uL [1,2]⟩
theorem Kx:eG 0=1:=rfl
def oC:aH := .seq (.seq (.reg [oM 10 5,oO 11 (.bin .leq (.t 10) (kI 10))]) (.cond (.t 11) (.skip) (.exit 0))) (.seq (.block 1 (.seq (.reg [oM 14 5,oM 15 5,oO 16 (.bin .sub (.t 15) (kI 1)),oO 17 (.idxPa 16 11 (.t 3) (.t 16)),oO 18 (.load (.ag 16) (.t 17)),oM 19 4,oO 20 (.call 76 [(.t 18),(.t 19)] none),oO 21 (.idxPa 16 11 (.t 3) (.t 14)),oN (.store (.ag 16) (.t 21) (.t 20))]) (.reg [oM 22 4,oO 23 (.call 77 [(.t 22)] none),oM 4 23]))) (.reg [oM 12 5,oO 13 (.bin .add (.t 12) (kI 1)),oM 5 13]))
def yM:aB:=⟨1,25,.seq (.reg [oO 2 (.alloc (aU 176 (.d (.int .u8 0))))]) (.seq (.reg [oO 3 (.alloc (aU 176 (.d (.int .u8 0))))]) (.seq (.reg [oO 6 (.idxPa 16 11 (.t 3) (kI 0)),oO 7 (.sliceArr 1 16 (.t 6) none none),oM 8 0,oO 9 (.copy 1 (.t 7) (.t 8))]) (.seq (.reg [oO 4 (.mv (.k (.c (.d (.int .u8 1)))))]) (.seq (.seq (.reg [oO 5 (.mv (kI 1))]) (.block 0 (.loop oC))) (.seq (.reg [oO 24 (.load (.ag 176) (.t 3)),oN (.store (.ag 176) (.t 2) (.t 24))]) (.ret)))))),[(2,(some (.ag 176)))]⟩
theorem Hp:aA Tryd.prog { own:=[],comp:=[],frz:=[],nils:=[] } Tryd.f66=some yM:=by kernel_rfl
theorem Az (G:ak) (key:List UInt8) (h:key.length=16):ap Tryd.prog G 66 [.sl (key.map bD)] (.w (.c (.d (.agg ((au key).map bD))))):=by
  refine aC Tryd.func66 Hp rfl rfl ?_;have ht:key.take 16=key:=KM (by omega);have h0:key++List.drop key.length (aU 176 (0:UInt8))=dI key 0:=by rw[← FP h]; simp[bu]
  have hid:=eb (dI key 0);have hid2:=eb (aU 176 (0:UInt8));simp only[yM,ah,ae,aa,seval,iteOmega,toNatUp,yz,fi,bB,dv,ht,eN,kn,Fx,h0];refine ba (qk key) (fun i=>10-i) (fun i=>i≤10) 0 (KU _) ?_ ?_
  ·refine az (fun i=>if i=1 then 24 else 16) ?_ ?_ rfl (by simp[V.ids,W.ids,C.ids,Ob.ids,eb]) <;> simp only[wx,aw,aO,aa,seval,iteOmega,toNatUp,Kx,KB,i7,eb]
  ·intro i hi;have hl:=Ho h hi;by_cases hlt:i<10
   ·have g1:=FQ h hi;have h5:List.take ((i+1)*16) (dI key i)++hC (kb key i) (eG i)++List.drop ((i+1)*16+16) (dI key i)=dI key (i+1):=by
      rw[← FR h hlt]; unfold bu; rw[lK]
    have hf:=lK (kb key i) (eG i);have hx:ez (eG i)=eG (i+1):=rfl;have s1:((i:Int)+1-1).toNat=i:=by omega
    simp only[oC,qk,ae,aa,seval,iteOmega,toNatUp,fi,hl,dv,fC,g1,j4];refine sC (J5 G (kb key i) (eG i) (qj h i)) ?_;simp only[fi,hl,kn,hf,dv,fC,gj,h5,ae,aa,seval,iteOmega,toNatUp];refine sC (BI G (eG i)) ?_;simp only[hx,ae,aa,seval,iteOmega,toNatUp];refine aS (i+1) (by omega) (by omega) (az (fun i=>i) ?_ ?_ rfl (by simp[V.ids,W.ids,C.ids,Ob.ids,eb])) <;> simp only[wx,aw,aO,aa,seval,iteOmega,toNatUp,i7,eb]
   ·obtain rfl:i=10:=by omega
    have e:=FS key;have e2:=pK h;rw[e] at hl;have t1:(au key).take 176=au key:=KM (by omega);have t2:List.drop 176 (aU 176 (0:UInt8))=[]:=Lp (by rw[bB]; omega);have t3:au key++List.drop (au key).length (aU 176 (0:UInt8))=au key:=by rw[e2,t2,K5]
    simp only[oC,qk,e,ae,aa,seval,iteOmega,toNatUp,fi,hl,e2,t1,t2,t3,j4,kn,bB,dv,fC,gj,K5];exact ip (by simp only[ae,aa,seval,iteOmega,toNatUp,fi,hl,e2,t1,t2,t3,j4,kn,bB,dv,fC,gj,K5])
theorem FT (l:List UInt8):cb ((l.map bD).map C.d)=some (l.map bD):=by
  induction l with
  | nil=>rfl
  | cons x l ih =>
    show cb (C.d (bD x)::(l.map bD).map C.d)=_
    simp only[cb,ih,KR,LS]
theorem FU (rk b:List UInt8) (hb:b.length=16):iH b (be (cr rk 0))=be (eU (cr rk) (aK b) 0):=by
  have:=o6 (aK b) (cr rk 0);rw[IQ hb] at this;exact this
theorem Hq (rk b:List UInt8) {n:Nat} (h:n+1<10):iH (kH (jr (be (eU (cr rk) (aK b) n)))) (be (cr rk (n+1)))=be (eU (cr rk) (aK b) (n+1)):=by
  rw[wQ,FM,o6]
  show _=be (qf _ _ _)
  unfold qf;rw[if_pos h]
theorem FV (rk b:List UInt8):iH (jr (be (eU (cr rk) (aK b) 9))) (be (cr rk 10))=cG rk b:=by
  rw[wQ,o6];rfl
def qH (rk b:List UInt8) (i:Nat):St:=⟨aT [(2,.w (.c (.rp (rk.map bD)))),(4,.w (.c (.pa 2 1))),(5,.w (.c (.pa 1 1))),(6,.w (.c (.d (.int .i64 ((i+1:Nat):Int)))))],hL [(1,.row 1 ((be (eU (cr rk) (aK b) i)).map bD)),(2,.row 1 ((aU 16 (0:UInt8)).map bD))],uL [1,2]⟩
def oD:aH := .seq (.seq (.reg [oM 14 6,oO 15 (.bin .lss (.t 14) (kI 10))]) (.cond (.t 15) (.skip) (.exit 0))) (.seq (.block 1 (.reg [oO 18 (.load (.ag 16) (.t 5)),oO 19 (.call 81 [(.t 18)] none),oO 20 (.call 80 [(.t 19)] none),oM 21 6,oO 22 (.idxPa 16 11 (.t 2) (.t 21)),oO 23 (.load (.ag 16) (.t 22)),oO 24 (.call 79 [(.t 20),(.t 23)] none),oN (.store (.ag 16) (.t 5) (.t 24))])) (.reg [oM 16 6,oO 17 (.bin .add (.t 16) (kI 1)),oM 6 17]))
def yN:aB:=⟨2,30,.seq (.reg [oO 2 (.box .roBox (.t 0)),oO 4 (.allocArr [(.int .u8 0),(.int .u8 0),(.int .u8 0),(.int .u8 0),(.int .u8 0),(.int .u8 0),(.int .u8 0),(.int .u8 0),(.int .u8 0),(.int .u8 0),(.int .u8 0),(.int .u8 0),(.int .u8 0),(.int .u8 0),(.int .u8 0),(.int .u8 0)])]) (.seq (.reg [oO 5 (.allocArr [(.int .u8 0),(.int .u8 0),(.int .u8 0),(.int .u8 0),(.int .u8 0),(.int .u8 0),(.int .u8 0),(.int .u8 0),(.int .u8 0),(.int .u8 0),(.int .u8 0),(.int .u8 0),(.int .u8 0),(.int .u8 0),(.int .u8 0),(.int .u8 0)])]) (.seq (.reg [oO 7 (.sliceArr 1 16 (.t 5) none none),oM 8 1,oO 9 (.copy 1 (.t 7) (.t 8))]) (.seq (.reg [oO 10 (.load (.ag 16) (.t 5)),oO 11 (.idxPa 16 11 (.t 2) (kI 0)),oO 12 (.load (.ag 16) (.t 11)),oO 13 (.call 79 [(.t 10),(.t 12)] none),oN (.store (.ag 16) (.t 5) (.t 13))])
 (.seq (.seq (.reg [oO 6 (.mv (kI 1))]) (.block 0 (.loop oD))) (.seq (.reg [oO 25 (.load (.ag 16) (.t 5)),oO 26 (.call 81 [(.t 25)] none),oO 27 (.idxPa 16 11 (.t 2) (kI 10)),oO 28 (.load (.ag 16) (.t 27)),oO 29 (.call 79 [(.t 26),(.t 28)] none),oN (.store (.ag 16) (.t 4) (.t 29))]) (.ret)))))),[(4,(some (.ag 16)))]⟩
theorem Hr:aA Tryd.prog { own:=[],comp:=[],frz:=[],nils:=[] } Tryd.f68=some yN:=by kernel_rfl
theorem AA (G:ak) (rk b:List UInt8) (hk:rk.length=176) (hb:b.length=16):ap Tryd.prog G 68 [.agg (rk.map bD),.sl (b.map bD)] (.w (.c (.d (.agg ((cG rk b).map bD))))):=by
  refine aC Tryd.func68 Hr rfl rfl ?_;have ht:b.take 16=b:=KM (by omega);have key:∀ r,r≤10→(rk.drop (16*r)).take 16=be (cr rk r):=fun r hr=>by
    apply LC;intro j;by_cases hj:j<16
    ·rw[l5 _ hj,K0,if_pos hj,Lf]; exact cJ (by omega)
    ·rw[Lg (by rw[KL]; omega),Lg (by rw[dM]; omega)]
  have d1:b++List.drop b.length (aU 16 (0:UInt8))=b:=by rw[hb,Lp (by rw[bB]; omega),K5]
  have d2:List.drop 16 (aU 16 (0:UInt8))=[]:=Lp (by rw[bB]; omega);have k0:=key 0 (by decide);have l0:(be (cr rk 0)).length=16:=dM _;have t0:(be (cr rk 0)).take 16=be (cr rk 0):=KM (by rw[dM]; omega);have a0:=FU rk b hb;have la:=dM (eU (cr rk) (aK b) 0);simp only[Nat.mul_zero,Md] at k0;simp only[yN,ah,ae,aa,seval,iteOmega,toNatUp,eK,FT,bB,dv,ht,fC,gj,d1,d2,k0,eN,hb,l0,t0,K5,LW];refine sC (qE G b (be (cr rk 0)) hb l0) ?_;simp only[a0,la,bB,ae,aa,seval,iteOmega,toNatUp];refine ba (qH rk b) (fun i=>9-i) (fun i=>i≤9) 0 (KU _) ?_ ?_
  ·refine az (fun i=>if i=1 then 40 else 32) ?_ ?_ rfl rfl <;> simp only[wx,aw,aO,aa,seval,iteOmega,toNatUp]
  ·intro i hi;have le:=dM (eU (cr rk) (aK b) i);have hr:i+1≤10:=by omega
   have k1:=key (i+1) hr;rw[Nat.mul_comm] at k1;have l1:(be (cr rk (i+1))).length=16:=dM _;have t1:(be (cr rk (i+1))).take 16=be (cr rk (i+1)):=KM (by rw[dM]; omega);by_cases hlt:i<9
   ·have h5:=Hq rk b (n:=i) (by omega);have le2:=dM (eU (cr rk) (aK b) (i+1));simp only[oD,qH,ae,aa,seval,iteOmega,toNatUp,le,eN];refine sD (Ax G (be (eU (cr rk) (aK b) i)) le) ?_;refine sC (IY G _ (o5 _)) ?_;simp only[dv,fC,k1,l1,t1,ae,aa,seval,iteOmega,toNatUp];refine sC (qE G _ _ (wP _) l1) ?_;simp only[h5,le2,le,ae,aa,seval,iteOmega,toNatUp];refine aS (i+1) (by omega) (by omega) (az (fun i=>i) ?_ ?_ rfl rfl) <;> simp only[wx,aw,aO,aa,seval,iteOmega,toNatUp]
   ·obtain rfl:i=9:=by omega
    have h5:=FV rk b;have le2:=fe rk b;simp only[oD,qH,ae,aa,seval,iteOmega,toNatUp,le,eN];refine sC (Ax G (be (eU (cr rk) (aK b) 9)) le) ?_;simp only[dv,fC,k1,l1,t1,ae,aa,seval,iteOmega,toNatUp];refine sC (qE G _ _ (o5 _) l1) ?_;simp only[h5,le2,bB,ae,aa,seval,iteOmega,toNatUp];exact ip (by simp only[ae,aa,seval,iteOmega,toNatUp,le2,eN])


theorem wR:∀ a b:List UInt8,bP (a++b)=if (bP b).2 then ((bP a).1++(bP b).1,(bP a).2) else (a++(bP b).1,false)
  | [],b=>by
    show bP b=if (bP b).2 then ([]++(bP b).1,true) else ([]++(bP b).1,false)
    rcases bP b with ⟨s,_ | _⟩ <;> rfl
  | x::a,b=>by
    have ih:=wR a b;simp only[LP,bP,ih];cases h:(bP b).2
    ·simp
    ·simp only[if_true];cases h2:(bP a).2 <;> simp
def carry (c:List UInt8) (m:Nat):Prop:=(bP (c.drop m)).2=true
def dj (c:List UInt8) (m:Nat):List UInt8:=c.take m++(bP (c.drop m)).1
theorem wS (c:List UInt8) (m:Nat):(dj c m).length=c.length:=by
  unfold dj; rw[KJ,o4,← KJ,Lo]
theorem Dk (c:List UInt8):dj c c.length=c:=by unfold dj; simp[bP]
theorem CY (c:List UInt8):carry c c.length:=by unfold carry; simp[bP]
theorem Et (c:List UInt8):dj c 0=gy c:=by unfold dj gy; simp
theorem Hs {c:List UInt8} {m:Nat} (h:m<c.length):(dj c (m+1))[m]?=some (c.getD m 0):=by
  unfold dj;rw[Lm (by rw[KL]; omega),K0,if_pos (by omega)];exact cJ h
theorem ud {c:List UInt8} {m:Nat} (h:m<c.length):c.drop m=c.getD m 0::c.drop (m+1):=by
  rw[List.drop_eq_getElem_cons h,KS,KH h]; rfl
theorem Ht {c:List UInt8} {m:Nat} (h:m<c.length) (hc:carry c (m+1)):(dj c (m+1)).set m (c.getD m 0+1)=dj c m:=by
  have e:(bP (c.drop m)).1=(c.getD m 0+1)::(bP (c.drop (m+1))).1:=by
    rw[ud h];unfold carry at hc;simp only[bP,hc,if_true]
  have e2:c.take (m+1)=c.take m++[c.getD m 0]:=by
    rw[List.take_add_one,cJ h]; rfl
  unfold dj;rw[e,e2,LM,L8 _ _ (by rw[KL]; omega),KL,show m-min m c.length=0 by omega];rfl
theorem Dl {c:List UInt8} {m:Nat} (h:m<c.length) (hc:carry c (m+1)):(bP (c.drop m)).2=(c.getD m 0+1==0):=by
  rw[ud h];unfold carry at hc;simp only[bP,hc,if_true]
theorem Hu {c:List UInt8} {m:Nat} (h:(bP (c.drop m)).2=false):dj c m=gy c:=by
  have:=wR (c.take m) (c.drop m);rw[Lo,h] at this;unfold gy dj;rw[this]; rfl
theorem I1 (x c:UInt8) (n:Int) (h:n=(c.toNat:Int)):aX .add (.w (.c (.d (bD x)))) (.w (.c (.d (.int .u8 n))))=some (bD (x+c)):=by
  subst h
  show aR .add .u8 (x.toNat:Int) .u8 (c.toNat:Int)=_
  rw[lA,IntKind.wrap_u8]
  show some (D.int .u8 (((x.toNat:Int)+(c.toNat:Int))%256))=_
  have:((x.toNat:Int)+(c.toNat:Int))%256=((x+c).toNat:Int):=by
    rw[UInt8.toNat_add]; simp
  rw[this]; rfl
def nl (c:List UInt8):List UInt8:=if c.length=16 then gy c else []
def nm (c:List UInt8) (m:Nat):St:=⟨aT [(3,.w (.c (.own 1 1 0 16))),(4,.w (.c (.d (.int .i64 ((m:Int)-1)))))],hL [(1,.row 1 ((dj c m).map bD))],uL [1]⟩
def lM:aH := .seq (.seq (.reg [oM 14 4,oO 15 (.bin .geq (.t 14) (kI 0))]) (.cond (.t 15) (.skip) (.exit 0))) (.seq (.block 1 (.seq (.reg [oM 18 3,oM 19 4,oO 20 (.idxSl 1 (.t 18) (.t 19)),oO 21 (.load .sc (.t 20)),oO 22 (.bin .add (.t 21) (.k (.c (.d (.int .u8 1))))),oO 23 (.idxSl 1 (.t 18) (.t 19)),oN (.store .sc (.t 23) (.t 22))]) (.seq (.reg [oM 24 3,oM 25 4,oO 26 (.idxSl 1 (.t 24) (.t 25)),oO 27 (.load .sc (.t 26)),oO 28 (.bin .neq (.t 27) (.k (.c (.d (.int .u8 0)))))]) (.cond (.t 28) (.exit 0) (.skip))))) (.reg [oM 16 4,oO 17 (.bin .sub (.t 16) (kI 1)),oM 4 17]))
def ql:aB:=⟨1,30,.seq (.reg [oO 2 (.mv (.k (.c .nil)))]) (.seq (.seq (.reg [oM 5 0,oO 6 (.len (.t 5)),oO 7 (.bin .neq (.t 6) (kI 16))]) (.cond (.t 7) (.seq (.reg [oO 2 (.mv (.k (.c .nil)))]) (.ret)) (.skip))) (.seq (.reg [oM 8 0,oO 9 (.bldSl false 1 1 (.sl []) [(0,(.t 8))]),oO 10 (.call 24 [(.t 9)] (some (0,1))),oM 3 10]) (.seq (.seq (.reg [oM 11 3,oO 12 (.len (.t 11)),oO 13 (.bin .sub (.t 12) (kI 1)),oM 4 13]) (.block 0 (.loop lM))) (.seq (.reg [oM 29 3,oM 2 29]) (.ret))))),[(2,none)]⟩
theorem I2:aA Tryd.prog { own:=[10],comp:=[],frz:=[],nils:=[] } Tryd.f69=some ql:=by kernel_rfl
theorem J7 (G:ak) (c:List UInt8) (hc:c.length≤140737488355328):ap Tryd.prog G 69 [.sl (c.map bD)] (.w (.c (.fr 1 ((nl c).map bD)))):=by
  refine aC Tryd.func69 I2 rfl rfl ?_;unfold nl;by_cases h:c.length=16
  ·rw[if_pos h];have hj:=de G [c] (by simp) (by simp; omega);have hf:[c].flatten=c:=by simp
   rw[hf] at hj;have hs:=Dk c;rw[h] at hs;simp only[ql,ah,ae,aa,seval,iteOmega,toNatUp,h];refine sD (hj) ?_;refine ba (nm c) (fun m=>m) (fun m=>m≤16∧carry c m) 16 ⟨KT _,by have:=CY c; rwa [h] at this⟩ ?_ ?_
   ·refine az (fun i=>80) ?_ ?_ rfl rfl <;> simp only[wx,aw,aO,aa,seval,iteOmega,toNatUp,hs,h] <;> rfl
   ·rintro m ⟨hm,hcar⟩;rcases m with _ | q
    ·have e0:=Et c;have hl:(gy c).length=16:=by rw[ub]; exact h
     simp only[lM,nm,e0,LI,Int.zero_sub,ae,aa,seval,iteOmega,toNatUp];exact cV (id:=1) (n:=16) (s:=1) (by simp only[wx,aa,seval,iteOmega,toNatUp]) (by simp only[wx,aa,seval,iteOmega,toNatUp]) (by simp[hl])
    ·have hq:q<c.length:=by omega
     have hl1:(dj c (q+1)).length=16:=by rw[wS]; exact h
     have hl0:(dj c q).length=16:=by rw[wS]; exact h
     have g1:=Hs hq;have h3:q<(dj c (q+1)).length:=by omega
     have h5:=Ht hq hcar;have g2:(dj c q)[q]?=some (c.getD q 0+1):=by
       rw[← h5,List.getElem?_set_self (by omega)]
     have x1:=I1 (c.getD q 0) 1 1 rfl;have x2:=IC (c.getD q 0+1) 0 0 rfl;have hcs:=Dl hq hcar;have sub:((q:Int)+1-1)=(q:Int):=by omega
     by_cases hz:c.getD q 0+1=0
     ·have hz2:(c.getD q 0+1 != 0)=false:=by rw[hz]; rfl
      rw[hz2] at x2;have hcar2:carry c q:=by unfold carry; rw[hcs,hz]; rfl
      simp only[lM,nm,ae,aa,seval,iteOmega,toNatUp,sub,bm,g1,x1,dN h3 (dm _),ec,h5,g2,x2,hl1,hl0];refine aS q (by omega) ⟨by omega,hcar2⟩ (az (fun i=>i) ?_ ?_ rfl rfl) <;> simp only[wx,aw,aO,aa,seval,iteOmega,toNatUp]
     ·have hz2:(c.getD q 0+1 != 0)=true:=bne_iff_ne.2 hz;rw[hz2] at x2;have e0:dj c q=gy c:=Hu (by rw[hcs]; exact beq_eq_false_iff_ne.2 hz);rw[e0] at hl0 g2 h5;simp only[lM,nm,ae,aa,seval,iteOmega,toNatUp,sub,bm,g1,x1,dN h3 (dm _),ec,h5,g2,x2,hl1,e0];exact cV (id:=1) (n:=16) (s:=1) (by simp only[wx,aa,seval,iteOmega,toNatUp]) (by simp only[wx,aa,seval,iteOmega,toNatUp]) (by simp[hl0])
  ·rw[if_neg h];simp only[ql,ah,ae,aa,seval,iteOmega,toNatUp];exact cQ
def kJ (key b:List UInt8):Int:=if key.length≠16 then 5 else if b.length≠16 then 3 else 0
def nn (key b:List UInt8):List UInt8:=if key.length=16∧b.length=16 then mo key b else []
def mq:aB:=⟨2,18,.seq (.reg [oO 4 (.mv (.k (.c .nil))),oO 5 (.mv (kI 0))]) (.seq (.seq (.reg [oM 7 0,oO 8 (.len (.t 7)),oO 9 (.bin .neq (.t 8) (kI 16))]) (.cond (.t 9) (.seq (.reg [oO 4 (.mv (.k (.c .nil))),oO 5 (.mv (kI 5))]) (.ret)) (.skip))) (.seq (.seq (.reg [oM 10 1,oO 11 (.len (.t 10)),oO 12 (.bin .neq (.t 11) (kI 16))]) (.cond (.t 12) (.seq (.reg [oO 4 (.mv (.k (.c .nil))),oO 5 (.mv (kI 3))]) (.ret)) (.skip))) (.seq (.reg [oM 13 0,oO 14 (.call 66 [(.t 13)] none),oM 15 1,oO 16 (.call 68 [(.t 14),(.t 15)] none),oO 6 (.allocArr [(.int .u8 0),(.int .u8 0),(.int .u8 0),(.int .u8 0),(.int .u8 0),(.int .u8 0),(.int .u8 0),(.int .u8 0),(.int .u8 0),(.int .u8 0),(.int .u8 0),(.int .u8 0),(.int .u8 0),(.int .u8 0),(.int .u8 0),(.int .u8 0)]),oN (.store (.ag 16) (.t 6) (.t 16))]) (.seq (.reg [oO 17 (.sliceArr 1 16 (.t 6) none none),
 oM 4 17,oO 5 (.mv (kI 0))]) (.ret))))),[(4,none),(5,none)]⟩
theorem I3:aA Tryd.prog { own:=[],comp:=[],frz:=[],nils:=[] } Tryd.f82=some mq:=by kernel_rfl
theorem qI (G:ak) (key b:List UInt8) (hk:key.length≤9223372036854775807) (hb:b.length≤9223372036854775807):ap Tryd.prog G 82 [.sl (key.map bD),.sl (b.map bD)] (.tup [.c (.fr 1 ((nn key b).map bD)),.c (.d (.int .i64 (kJ key b)))]):=by
  refine aC Tryd.func82 I3 rfl rfl ?_;unfold nn kJ;by_cases h:key.length=16
  ·by_cases h2:b.length=16
   ·have hr:=pK h;have hl:(mo key b).length=16:=fe _ _;have ht:(mo key b).take 16=mo key b:=KM (by omega);rw[if_pos ⟨h,h2⟩,if_neg (by simp[h]),if_neg (by simp[h2])];simp only[mq,ah,ae,aa,seval,iteOmega,toNatUp,h,h2,eK];refine sD (Az G key h) ?_;refine sC (AA G (au key) b hr h2) ?_;simp only[fe,bB,hl,ae,aa,seval,iteOmega,toNatUp];exact qb (by simp only[ae,aa,seval,iteOmega,toNatUp,fO,fe,hl,fi]; rfl) (by simp only[ae,aa,seval,iteOmega,toNatUp])
   ·rw[if_neg (fun k=>h2 k.2),if_neg (by simp[h]),if_pos h2];simp only[mq,ah,ae,aa,seval,iteOmega,toNatUp,h];exact dH
  ·rw[if_neg (fun k=>h k.1),if_pos h];simp only[mq,ah,ae,aa,seval,iteOmega,toNatUp];exact dH
def iI (key:List UInt8):Int:=if key.length≠16 then 5 else 0
def fJ (r n:Nat):Nat:=(n-r%n)%n
def kK (b:List UInt8) (n:Int):List UInt8:=if 1≤n∧n≤64 then b++List.replicate (fJ b.length n.toNat) 0 else b
theorem Hv (b:List UInt8) {n:Nat} (h:1≤n∧n≤64):kK b (n:Int)=b++List.replicate (fJ b.length n) 0:=by
  unfold kK; rw[if_pos (by omega),Ma]
theorem FZ (b:List UInt8) {n:Int} (h:¬ (1≤n∧n≤64)):kK b n=b:=if_neg h
theorem F1 (r:Nat) {n:Nat} (h:1≤n):fJ r n<n:=LK _ (by omega)
theorem Hw (n:Nat):aN 0 n=List.replicate n 0:=by
  unfold aN;simp only[Nat.zero_div]
  induction n with
  | zero=>rfl
  | succ n ih=>rw[List.range_succ,LG,ih,List.replicate_succ']; rfl
theorem AB (a b:Nat):Int.tmod (a:Int) (b:Int)=((a%b:Nat):Int):=rfl
def mr:aB:=⟨2,28,.seq (.reg [oO 4 (.mv (.k (.c .nil)))]) (.seq (.seq (.reg [oM 6 1,oO 7 (.bin .lss (.t 6) (kI 1)),oM 8 7,oG 9 (.mv (.t 1)) 8 false,oG 10 (.bin .gtr (.t 9) (kI 64)) 8 false,oO 11 (.pick (.t 8) (.k (.c (.d (.bool true)))) (.t 10))]) (.cond (.t 11) (.seq (.reg [oM 12 0,oO 13 (.bldSl false 1 1 (.sl []) [(0,(.t 12))]),oO 14 (.call 24 [(.t 13)] (some (0,1))),oM 4 14]) (.ret)) (.skip))) (.seq (.reg [oM 15 1,oM 16 0,oO 17 (.len (.t 16)),oM 18 1,oO 19 (.bin .rem (.t 17) (.t 18)),oO 20 (.bin .sub (.t 15) (.t 19)),oM 21 1,oO 22 (.bin .rem (.t 20) (.t 21)),oM 5 22]) (.seq (.reg [oM 23 0,oM 24 5,oO 25 (.call 25 [(.k (.c (.d (.int .u64 0)))),(.t 24)] none),oO 26 (.bldSl false 2 1 (.sl []) [(0,(.t 23)),(1,(.t 25))]),oO 27 (.call 24 [(.t 26)] (some (0,1))),oM 4 27]) (.ret)))),[(4,none)]⟩
theorem I5:aA Tryd.prog { own:=[14,27],comp:=[],frz:=[],nils:=[] } Tryd.f92=some mr:=by kernel_rfl
set_option maxHeartbeats 1600000 in
theorem J8 (G:ak) (b:List UInt8) (n:Int) (hb:b.length≤70368744177664):ap Tryd.prog G 92 [.sl (b.map bD),.int .i64 n] (.w (.c (.fr 1 ((kK b n).map bD)))):=by
  refine aC Tryd.func92 I5 rfl rfl ?_;by_cases hc:1≤n∧n≤64
  ·obtain⟨m,rfl⟩:=Ly (show 0≤n by omega);rw[Hv b (by omega)];have hr:b.length%m<m:=LK _ (by omega);have hk:fJ b.length m=(m-b.length%m)%m:=rfl;have hlt:=F1 b.length (n:=m) (by omega);have e1:=AB b.length m;have e2:Int.tmod ((m:Int)-((b.length%m:Nat):Int)) (m:Int)=((fJ b.length m:Nat):Int):=by
     rw[show (m:Int)-((b.length%m:Nat):Int)=((m-b.length%m:Nat):Int) by omega,AB,hk]
   have hm:((m:Int)=0)=False:=eq_false (by omega);have hp:=gO G 0 (fJ b.length m) (by omega);have hj:=de G [b,aN 0 (fJ b.length m)] (by simp) (by simp[cU]; omega);have hf:[b,aN 0 (fJ b.length m)].flatten=b++List.replicate (fJ b.length m) 0:=by rw[Hw]; simp
   rw[hf] at hj;generalize fJ b.length m=k at *
   simp only[mr,ah,ae,aa,seval,iteOmega,toNatUp,e1,e2,hm];refine sD (hp) ?_;refine sD (hj) ?_;exact cQ
  ·rw[FZ b hc];have hj:=de G [b] (by simp) (by simp; omega);have hf:[b].flatten=b:=by simp
   rw[hf] at hj;by_cases h1:n<1
   ·simp only[mr,ah,ae,aa,seval,iteOmega,toNatUp];refine sD (hj) ?_;exact cQ
   ·have h2:64<n:=by omega
    simp only[mr,ah,ae,aa,seval,iteOmega,toNatUp];refine sD (hj) ?_;exact cQ
def dG (b:List UInt8) (j:Nat):UInt8:=if j<15 then fW (cE (b.getD j 0) 1) (cF (b.getD (j+1) 0) 7) else cE (b.getD j 0) 1
def eL (b:List UInt8):List UInt8:=(List.range 16).map (dG b)
theorem pL (b:List UInt8):(eL b).length=16:=by simp[eL]
theorem pM (b:List UInt8) {j:Nat} (h:j<16):(eL b)[j]?=some (dG b j):=by simp[eL,h]
def kL (b:List UInt8):UInt8:=fP (fQ (b.getD 0 0) 7) 135
theorem F2 {b:List UInt8} (h:b.length=16):(eL b).set 15 (aj (dG b 15) (kL b))=dk b:=by
  unfold dk;rw[if_pos h];apply LC;intro j;rw[List.getElem?_set];by_cases hj:j<16
  ·rw[l5 _ hj];have hd:∀ k,aK b k=b.getD k 0:=fun _=>rfl
   by_cases h15:15=j
   ·subst h15;rw[if_pos rfl,if_pos (by rw[pL]; decide)];simp only[dG,rq,hd,kL,Nat.lt_irrefl,if_false,if_true,ox]
   ·rw[if_neg h15,pM _ hj];have:j<15:=by omega
    simp only[dG,rq,hd,if_pos this,if_neg (show ¬ j=15 by omega),ox,I4]
  ·rw[if_neg (by omega),Lg (by rw[pL]; omega),Lg (by rw[dM]; omega)]
theorem F3 (b:List UInt8):aX .mul (.w (.c (.d (bD (cF (b.getD 0 0) 7))))) (.w (.c (.d (.int .u8 135))))=some (bD (kL b)):=by
  have key:=gR (p:=fun x=>(cF x 7).toNat*135%256==(fP (fQ x 7) 135).toNat) (by decide +kernel) (b.getD 0 0);rw[beq_iff_eq] at key
  show aR .mul .u8 _ .u8 _=_
  rw[oZ,IntKind.wrap_u8];unfold kL bD;rw[← key]
  congr 2
theorem F4 (x:UInt8):fW x 0=x:=by
  have key:=gR (p:=fun x=>fW x 0==x) (by decide +kernel) x;rw[beq_iff_eq] at key;exact key
theorem KD:bD 0=.int .u8 0:=rfl
def iK (b:List UInt8) (m:Nat):UInt8:=if m<16 then cF (b.getD m 0) 7 else 0
theorem F5 (b:List UInt8) {q:Nat} (h:q<16):fW (cE (b.getD q 0) 1) (iK b (q+1))=dG b q:=by
  unfold iK dG;by_cases h2:q<15
  ·rw[if_pos (by omega),if_pos h2]
  ·rw[if_neg (by omega),if_neg h2,F4]
theorem I6 (b:List UInt8) {q:Nat} (h:q<16):cF (b.getD q 0) 7=iK b q:=(if_pos h).symm
def e9 (l:List UInt8) (m:Nat):List UInt8:=List.replicate m 0++l.drop m
theorem Hy {l:List UInt8} {m:Nat} (h:m≤l.length):(e9 l m).length=l.length:=by
  unfold e9; rw[KJ,KZ,KP]; omega
theorem F6 (l:List UInt8):e9 l 0=l:=by simp[e9]
theorem F7 {l:List UInt8} {m:Nat} (h:l.length=m):e9 l m=List.replicate m 0:=by
  unfold e9; rw[Lp (by omega),K5]
theorem F8 {l:List UInt8} {q:Nat} (h:q<l.length):(e9 l (q+1)).set q (l.getD q 0)=e9 l q:=by
  unfold e9;rw[List.replicate_succ',LM,L8 _ _ (by simp),KZ,Nat.sub_self,List.drop_eq_getElem_cons h,KS,KH h];rfl
def rr (b:List UInt8) (m:Nat):St:=⟨aT [(0,.w (.c (.d (.sl (b.map bD))))),(3,.w (.c (.own 1 1 0 16))),(4,.w (.c (.d (bD (iK b m))))),(5,.w (.c (.d (.int .i64 ((m:Int)-1)))))],hL [(1,.row 1 ((e9 (eL b) m).map bD))],uL [1]⟩
theorem Hz {b:List UInt8} (h:b.length≠16):dk b=[]:=if_neg h
def pb:aH := .seq (.seq (.reg [oM 10 5,oO 11 (.bin .geq (.t 10) (kI 0))]) (.cond (.t 11) (.skip) (.exit 0))) (.seq (.block 1 (.seq (.reg [oM 14 3,oM 15 5,oM 16 0,oM 17 5,oO 18 (.idxSl 1 (.t 16) (.t 17)),oO 19 (.load .sc (.t 18)),oO 20 (.bin .shl (.t 19) (.k (.c (.d (.int .u64 1))))),oM 21 4,oO 22 (.bin .or (.t 20) (.t 21)),oO 23 (.idxSl 1 (.t 14) (.t 15)),oN (.store .sc (.t 23) (.t 22))]) (.reg [oM 24 0,oM 25 5,oO 26 (.idxSl 1 (.t 24) (.t 25)),oO 27 (.load .sc (.t 26)),oO 28 (.bin .shr (.t 27) (.k (.c (.d (.int .u64 7))))),oM 4 28]))) (.reg [oM 12 5,oO 13 (.bin .sub (.t 12) (kI 1)),oM 5 13]))
def qm:aB:=⟨1,37,.seq (.reg [oO 2 (.mv (.k (.c .nil)))]) (.seq (.seq (.reg [oM 6 0,oO 7 (.len (.t 6)),oO 8 (.bin .neq (.t 7) (kI 16))]) (.cond (.t 8) (.seq (.reg [oO 2 (.mv (.k (.c .nil)))]) (.ret)) (.skip))) (.seq (.reg [oO 9 (.make true 1 1 (.int .u8 0) (kI 16) (kI 16)),oM 3 9]) (.seq (.reg [oO 4 (.mv (.k (.c (.d (.int .u8 0)))))]) (.seq (.seq (.reg [oO 5 (.mv (kI 15))]) (.block 0 (.loop pb))) (.seq (.reg [oM 29 3,oO 30 (.idxSl 1 (.t 29) (kI 15)),oO 31 (.load .sc (.t 30)),oM 32 4,oO 33 (.bin .mul (.t 32) (.k (.c (.d (.int .u8 135))))),oO 34 (.bin .xor (.t 31) (.t 33)),oO 35 (.idxSl 1 (.t 29) (kI 15)),oN (.store .sc (.t 35) (.t 34))]) (.seq (.reg [oM 36 3,oM 2 36]) (.ret))))))),[(2,none)]⟩
theorem I7:aA Tryd.prog { own:=[],comp:=[],frz:=[],nils:=[] } Tryd.f83=some qm:=by kernel_rfl
theorem mQ (G:ak) (b:List UInt8) (hb:b.length≤9223372036854775807):ap Tryd.prog G 83 [.sl (b.map bD)] (.w (.c (.fr 1 ((dk b).map bD)))):=by
  refine aC Tryd.func83 I7 rfl rfl ?_;by_cases h:b.length=16
  ·have hd:=F2 h;have hl:=pL b;simp only[qm,ah,ae,aa,seval,iteOmega,toNatUp,h,eK];refine ba (rr b) (fun m=>m) (fun m=>m≤16) 16 (KT _) ?_ ?_
   ·have e1:e9 (eL b) 16=aU 16 0:=F7 hl;have e2:iK b 16=0:=rfl;refine az (fun i=>72) ?_ ?_ rfl rfl <;> simp only[wx,aw,aO,aa,seval,iteOmega,toNatUp,e1,e2,KD]
   ·intro m hm;rcases m with _ | q
    ·have e0:=F6 (eL b);have c0:iK b 0=cF (b.getD 0 0) 7:=rfl;have x1:=F3 b;have g1:=pM b (j:=15) (by decide);have x2:=ea (dG b 15) (kL b);have h3:15<(eL b).length:=by omega
     have hdl:(dk b).length=16:=ib h;simp only[pb,rr,e0,c0,LI,Int.zero_sub,ae,aa,seval,iteOmega,toNatUp,bm,g1,x1,x2,dN h3 (dm _),ec,hd];exact cV (id:=1) (n:=16) (s:=1) (by simp only[wx,aa,seval,iteOmega,toNatUp]) (by simp only[wx,aa,seval,iteOmega,toNatUp]) (by simp[hdl])
    ·have hq:q<16:=by omega
     have g1:b[q]?=some (b.getD q 0):=cJ (by omega);have hl1:=Hy (l:=eL b) (m:=q+1) (by omega);have h3:q<(e9 (eL b) (q+1)).length:=by omega
     have x1:=Ak (b.getD q 0) .u64 1 1 rfl (by decide);have x2:=o0 (cE (b.getD q 0) 1) (iK b (q+1));have x3:=Aj (b.getD q 0) .u64 7 7 rfl (by decide);have c1:=F5 b hq;have c2:=I6 b hq;have hs:=F8 (l:=eL b) (q:=q) (by omega);have hg:(eL b).getD q 0=dG b q:=by rw[KS,pM b hq]; rfl
     rw[hg] at hs;have sub:((q:Int)+1-1)=(q:Int):=by omega
     simp only[pb,rr,ae,aa,seval,iteOmega,toNatUp,sub,bm,g1,x1,x2,x3,c1,c2,h,dN h3 (dm _),ec,hs];refine aS q (by omega) (by omega) (az (fun i=>i) ?_ ?_ rfl rfl) <;> simp only[wx,aw,aO,aa,seval,iteOmega,toNatUp]
  ·rw[Hz h];simp only[qm,ah,ae,aa,seval,iteOmega,toNatUp];exact cQ
def gK (a b:List UInt8) (j:Nat):UInt8:=aj (a.getD j 0) (b.getD j 0)
theorem HA {a b:List UInt8} {n:Nat} (ha:a.length=n) (hb:b.length=n):(List.range n).map (gK a b)=bz a b:=by
  apply LC;intro j;by_cases hj:j<n
  ·have:=wT a b j (by omega) (by omega);have hl:j<(bz a b).length:=by rw[eM]; omega
   rw[cJ hl,this];simp[hj,gK]
  ·rw[Lg (by simpa using hj),Lg (by rw[eM]; omega)]
def qJ (a b:List UInt8) (i:Nat):St:=⟨aT [(0,.w (.c (.d (.sl (a.map bD))))),(1,.w (.c (.d (.sl (b.map bD))))),(5,.w (.c (.own 1 1 0 16))),(9,.w (.c (.d (.int .i64 16)))),(10,.w (.c (.d (.int .i64 (i:Int)))))],hL [(1,.row 1 ((a6 (gK a b) (aU 16 0) i).map bD))],uL [1]⟩
def pc:aH := .seq (.reg [oO 11 (.bin .lss (.t 10) (.t 9))]) (.seq (.cond (.t 11) (.skip) (.exit 0)) (.seq (.block 1 (.seq (.reg [oM 12 10,oM 6 12]) (.reg [oM 13 5,oM 14 6,oM 15 0,oM 16 6,oO 17 (.idxSl 1 (.t 15) (.t 16)),oO 18 (.load .sc (.t 17)),oM 19 1,oM 20 6,oO 21 (.idxSl 1 (.t 19) (.t 20)),oO 22 (.load .sc (.t 21)),oO 23 (.bin .xor (.t 18) (.t 22)),oO 24 (.idxSl 1 (.t 13) (.t 14)),oN (.store .sc (.t 24) (.t 23))]))) (.reg [oO 25 (.bin .add (.t 10) (kI 1)),oM 10 25])))
def AC:aB:=⟨2,27,.seq (.reg [oO 4 (.mv (.k (.c .nil)))]) (.seq (.reg [oO 7 (.make true 1 1 (.int .u8 0) (kI 16) (kI 16)),oM 5 7]) (.seq (.seq (.reg [oM 8 5,oO 9 (.len (.t 8)),oO 10 (.mv (kI 0))]) (.block 0 (.loop pc))) (.seq (.reg [oM 26 5,oM 4 26]) (.ret)))),[(4,none)]⟩
theorem I8:aA Tryd.prog { own:=[],comp:=[],frz:=[],nils:=[] } Tryd.f85=some AC:=by kernel_rfl
theorem iB (G:ak) (a b:List UInt8) (ha:a.length=16) (hb:b.length=16):ap Tryd.prog G 85 [.sl (a.map bD),.sl (b.map bD)] (.w (.c (.fr 1 ((bz a b).map bD)))):=by
  refine aC Tryd.func85 I8 rfl rfl ?_;have zl:(aU 16 (0:UInt8)).length=16:=bB _ _;simp only[AC,ah,ae,aa,seval,iteOmega,toNatUp,eK];refine ba (qJ a b) (fun i=>16-i) (fun i=>i≤16) 0 (KU _) ?_ ?_
  ·have e1:=jT (gK a b) (aU 16 0);refine az (fun i=>56) ?_ ?_ rfl rfl <;> simp only[wx,aw,aO,aa,seval,iteOmega,toNatUp,e1]
  ·intro i hi;by_cases hlt:i<16
   ·have g1:a[i]?=some (a.getD i 0):=cJ (by omega);have g2:b[i]?=some (b.getD i 0):=cJ (by omega);have hl1:=i3 (gK a b) (aU 16 0) (i:=i) (by omega);have h3:i<(a6 (gK a b) (aU 16 0) i).length:=by omega
    have x1:=ea (a.getD i 0) (b.getD i 0);have hx:aj (a.getD i 0) (b.getD i 0)=gK a b i:=rfl;have hs:=jU (gK a b) (aU 16 0) (i:=i) (by omega);simp only[pc,qJ,ae,aa,seval,iteOmega,toNatUp,bm,g1,g2,x1,ha,hb,dN h3 (dm _),ec,hx,hs];refine aS (i+1) (by omega) (by omega) (az (fun i=>i) ?_ ?_ rfl rfl) <;> simp only[wx,aw,aO,aa,seval,iteOmega,toNatUp]
   ·obtain rfl:i=16:=by omega
    have e1:a6 (gK a b) (aU 16 0) 16=bz a b:=by rw[wO _ _ (by rw[bB]; decide),HA ha hb]
    have hl:(bz a b).length=16:=by rw[eM]; exact ha
    simp only[pc,qJ,e1,ae,aa,seval,iteOmega,toNatUp];exact cV (id:=1) (n:=16) (s:=1) (by simp only[wx,aa,seval,iteOmega,toNatUp]) (by simp only[wx,aa,seval,iteOmega,toNatUp]) (by simp[hl])
theorem yO {key b:List UInt8} (h:key.length=16) (hb:b.length=16):nn key b=cG (au key) b:=if_pos ⟨h,hb⟩
theorem yP {key b:List UInt8} (h:key.length=16) (hb:b.length=16):kJ key b=0:=by unfold kJ; rw[if_neg (by omega),if_neg (by omega)]
theorem HB (b:List UInt8):kK b 16=eV b:=rfl
def dU (key:List UInt8):D:=.agg [.sl (key.map bD),.sl ((eW (au key)).map bD),.sl ((gF (au key)).map bD)]
def kU (key:List UInt8):D:=if key.length=16 then dU key else .agg [.sl [],.sl [],.sl []]
theorem BJ (s:Nat) (l:List UInt8) (k:IntKind) (n:Int):V.flat (.tup [.c (.fr s (l.map bD)),.c (.d (.int k n))])=true:=by
  have:=jp s l;simp only[V.flat,W.flat,List.all_cons,List.all_nil,Bool.and_true] at this ⊢;rw[this]; rfl
def yQ:aB:=⟨2,15,.seq (.reg [oO 2 (.box .roBox (.t 0)),oO 4 (.mv (.k (.c .nil)))]) (.seq (.reg [oO 8 (.fieldAddr 0 (.t 2)),oO 9 (.load .sc (.t 8)),oM 10 1,oO 11 (.call 82 [(.t 9),(.t 10)] (some (0,1))),oM 7 11,oO 12 (.extract (.t 7) 0),oO 13 (.extract (.t 7) 1),oM 5 12,oM 6 13]) (.seq (.reg [oM 14 5,oM 4 14]) (.ret))),[(4,none)]⟩
theorem HC:aA Tryd.prog { own:=[],comp:=[(11,0)],frz:=[],nils:=[] } Tryd.f89=some yQ:=by kernel_rfl
theorem AD (G:ak) (key b:List UInt8) (h:key.length=16) (hb:b.length=16):ap Tryd.prog G 89 [.agg [.sl (key.map bD)],.sl (b.map bD)] (.w (.c (.fr 1 ((cG (au key) b).map bD)))):=by
  refine aC Tryd.func89 HC rfl rfl ?_;have hx:=qI G key b (by omega) (by omega);rw[yO h hb,yP h hb] at hx;simp only[yQ,ah,ae,aa,seval,iteOmega,toNatUp];refine sD (hx) ?_;exact cQ
theorem I9 (G:ak) (key b:List UInt8) (h:key.length=16) (hb:b.length=16):ap Tryd.prog G 89 [.agg [.sl (key.map bD)],.sl (b.map bD)] (.w (.c (.d (.sl ((cG (au key) b).map bD))))):=io (AD G key b h hb)
def pN:aB:=⟨1,25,.seq (.reg [oO 2 (.alloc [.nil,.nil,.nil]),oO 3 (.mv (kI 0))]) (.seq (.reg [oM 8 0,oO 9 (.make true 1 1 (.int .u8 0) (kI 16) (kI 16)),oO 10 (.call 82 [(.t 8),(.t 9)] none),oM 7 10,oO 11 (.extract (.t 7) 0),oO 12 (.extract (.t 7) 1),oM 4 11,oM 5 12]) (.seq (.seq (.reg [oM 13 5,oO 14 (.bin .neq (.t 13) (kI 0))]) (.cond (.t 14) (.seq (.reg [oO 15 (.build [.nil,.nil,.nil] []),oM 16 5,oN (.store (.ag 3) (.t 2) (.t 15)),oM 3 16]) (.ret)) (.skip))) (.seq (.reg [oM 17 4,oO 18 (.call 83 [(.t 17)] none),oM 6 18]) (.seq (.reg [oM 19 0,oO 20 (.build [.nil] [(0,1,(.t 19))]),oM 21 6,oM 22 6,oO 23 (.call 83 [(.t 22)] none),oO 24 (.build [.nil,.nil,.nil] [(0,1,(.t 20)),(1,1,(.t 21)),(2,1,(.t 23))]),oN (.store (.ag 3) (.t 2) (.t 24)),oO 3 (.mv (kI 0))]) (.ret))))),[(2,(some (.ag 3))),(3,none)]⟩
theorem HD:aA Tryd.prog { own:=[],comp:=[],frz:=[],nils:=[] } Tryd.f72=some pN:=by kernel_rfl
theorem Ja (G:ak) (key:List UInt8) (hk:key.length≤9223372036854775807):ap Tryd.prog G 72 [.sl (key.map bD)] (.tup [.c (.d (kU key)),.c (.d (.int .i64 (iI key)))]):=by
  refine aC Tryd.func72 HD rfl rfl ?_;have t0:(aU 16 (0:UInt8)).take 16=dO:=rfl;by_cases h:key.length=16
  ·have hx:=qI G key dO (by omega) (by decide);rw[yO h (by decide),yP h (by decide)] at hx;have hv:kU key=dU key:=if_pos h;have he:iI key=0:=by unfold iI; rw[if_neg (by omega)]
   have h1:=mQ G (cG (au key) dO) (by rw[fe]; decide);have h2:=mQ G (eW (au key)) (by rw[o9]; decide);have s1:dk (cG (au key) dO)=eW (au key):=rfl;have s2:dk (eW (au key))=gF (au key):=rfl;rw[s1] at h1;rw[s2] at h2;rw[hv,he];simp only[pN,ah,ae,aa,seval,iteOmega,toNatUp,eK];refine aI hx (by simp only[ae,aa,seval,iteOmega,toNatUp,dv,t0,bB]) (.inr (BJ _ _ _ _)) ?_;simp only[ae,aa,seval,iteOmega,toNatUp];refine sD (h1) ?_;refine sD (h2) ?_;exact mg (by simp only[ae,aa,seval,iteOmega,toNatUp,dU]) (by simp only[ae,aa,seval,iteOmega,toNatUp])
  ·have hv:kU key=.agg [.sl [],.sl [],.sl []]:=if_neg h;have he:iI key=5:=if_pos h;have hx:=qI G key dO (by omega) (by decide);have v1:nn key dO=[]:=if_neg (fun k=>h k.1);have v2:kJ key dO=5:=if_pos h;rw[v1,v2] at hx;rw[hv,he];simp only[pN,ah,ae,aa,seval,iteOmega,toNatUp,eK];refine aI hx (by simp only[ae,aa,seval,iteOmega,toNatUp,dv,t0,bB]) (.inr (BJ _ _ _ _)) ?_;simp only[ae,aa,seval,iteOmega,toNatUp];exact cP
def yR:aB:=⟨1,8,.seq (.reg [oO 2 (.mv (.k (.c .nil)))]) (.seq (.reg [oM 3 0,oO 4 (.bldSl false 1 1 (.int .u8 0) [(0,(.k (.c (.d (.int .u8 128)))))]),oO 5 (.bldSl false 2 1 (.sl []) [(0,(.t 3)),(1,(.t 4))]),oO 6 (.call 24 [(.t 5)] none),oO 7 (.call 92 [(.t 6),(kI 16)] none),oM 2 7]) (.ret)),[(2,none)]⟩
theorem HE:aA Tryd.prog { own:=[],comp:=[],frz:=[],nils:=[] } Tryd.f91=some yR:=by kernel_rfl
theorem AE (G:ak) (b:List UInt8) (hb:b.length≤70000):ap Tryd.prog G 91 [.sl (b.map bD)] (.w (.c (.d (.sl ((eV (b++[128])).map bD))))):=by
  refine aC Tryd.func91 HE rfl rfl ?_;have hj:=de G [b,[128]] (by simp) (by simp; omega);have hf:[b,[128]].flatten=b++[128]:=by simp
  rw[hf] at hj;have hp:=J8 G (b++[128]) 16 (by simp; omega);rw[HB] at hp;simp only[yR,ah,ae,aa,seval,iteOmega,toNatUp];refine sD (hj) ?_;refine sD (hp) ?_;exact a7
theorem Eu (rk:List UInt8) {e:List UInt8} (h:e.length=16):gG rk e=bz e (eW rk):=if_pos h
theorem Ev (rk:List UInt8) {e:List UInt8} (h:e.length≠16):gG rk e=bz (eV (e++[128])) (gF rk):=if_neg h
def pd:aB:=⟨2,17,.seq (.reg [oO 2 (.box .roBox (.t 0)),oO 4 (.mv (.k (.c .nil)))]) (.seq (.seq (.reg [oM 5 1,oO 6 (.len (.t 5)),oO 7 (.bin .eql (.t 6) (kI 16))]) (.cond (.t 7) (.seq (.reg [oM 8 1,oO 9 (.fieldAddr 1 (.t 2)),oO 10 (.load .sc (.t 9)),oO 11 (.call 85 [(.t 8),(.t 10)] none),oM 4 11]) (.ret)) (.skip))) (.seq (.reg [oM 12 1,oO 13 (.call 91 [(.t 12)] none),oO 14 (.fieldAddr 2 (.t 2)),oO 15 (.load .sc (.t 14)),oO 16 (.call 85 [(.t 13),(.t 15)] none),oM 4 16]) (.ret))),[(4,none)]⟩
theorem F9:aA Tryd.prog { own:=[],comp:=[],frz:=[],nils:=[] } Tryd.f90=some pd:=by kernel_rfl
theorem HF (G:ak) (key b:List UInt8) (hb:b.length≤16):ap Tryd.prog G 90 [dU key,.sl (b.map bD)] (.w (.c (.d (.sl ((gG (au key) b).map bD))))):=by
  refine aC Tryd.func90 F9 rfl rfl ?_;by_cases h:b.length=16
  ·rw[Eu _ h];simp only[pd,ah,dU,ae,aa,seval,iteOmega,toNatUp,h];refine sD (iB G b (eW (au key)) h (o9 _)) ?_;exact a7
  ·rw[Ev _ h];simp only[pd,ah,dU,ae,aa,seval,iteOmega,toNatUp];refine sD (AE G b (by omega)) ?_;refine sD (iB G (eV (b++[128])) (gF (au key)) (nY (by omega)) (FW _)) ?_;exact a7
def hO (key b:List UInt8):Nat→V
  | 0=>.w (.c (.own 1 1 0 16))
  | i+1=>.w (.c (.d (.sl ((eu (au key) b (i+1)).map bD))))
def ku (key b:List UInt8) (i:Nat):St:=⟨aT [(1,.w (.c (.d (.sl ((b.drop (16*i)).map bD))))),(2,.w (.c (.rp [.sl (key.map bD),.sl ((eW (au key)).map bD),.sl ((gF (au key)).map bD)]))),(5,hO key b i)],hL [(1,.row 1 ((aU 16 (0:UInt8)).map bD))],uL [1]⟩
theorem Jb (b:List UInt8) (i:Nat):((b.drop (16*i)).drop 16).take ((b.drop (16*i)).length-16)=b.drop (16*(i+1)):=by
  rw[List.drop_drop,KM (by simp only[KP]; omega)]; rfl
def jM:aH := .seq (.seq (.reg [oM 7 1,oO 8 (.len (.t 7)),oO 9 (.bin .gtr (.t 8) (kI 16))]) (.cond (.t 9) (.skip) (.exit 0))) (.block 1 (.seq (.reg [oO 10 (.fieldAddr 0 (.t 2)),oO 11 (.load (.ag 1) (.t 10)),oM 12 5,oM 13 1,oO 14 (.slice 1 (.t 13) none (some (kI 16)) none),oO 15 (.call 85 [(.t 12),(.t 14)] none),oO 16 (.call 89 [(.t 11),(.t 15)] none),oM 5 16]) (.reg [oM 17 1,oO 18 (.slice 1 (.t 17) (some (kI 16)) none none),oM 1 18])))
def yS:aB:=⟨2,27,.seq (.reg [oO 2 (.box .roBox (.t 0)),oO 4 (.mv (.k (.c .nil)))]) (.seq (.reg [oO 6 (.make true 1 1 (.int .u8 0) (kI 16) (kI 16)),oM 5 6]) (.seq (.block 0 (.loop jM)) (.seq (.reg [oO 19 (.fieldAddr 0 (.t 2)),oO 20 (.load (.ag 1) (.t 19)),oM 21 5,oO 22 (.load (.ag 3) (.t 2)),oM 23 1,oO 24 (.call 90 [(.t 22),(.t 23)] none),oO 25 (.call 85 [(.t 21),(.t 24)] none),oO 26 (.call 89 [(.t 20),(.t 25)] (some (0,1))),oM 4 26]) (.ret)))),[(4,none)]⟩
theorem HG:aA Tryd.prog { own:=[26],comp:=[],frz:=[],nils:=[] } Tryd.f84=some yS:=by kernel_rfl
theorem mu (G:ak) (key b:List UInt8) (h:key.length=16) (hb:b.length≤70000):ap Tryd.prog G 84 [dU key,.sl (b.map bD)] (.w (.c (.fr 1 ((eH (au key) b).map bD)))):=by
  refine aC Tryd.func84 HG rfl rfl ?_;have t0:(aU 16 (0:UInt8)).take 16=dO:=rfl;have hah:iu b=(b.length+15) / 16-1:=rfl;have hm:∀ i,i=iu b→eH (au key) b=cG (au key) (bz (eu (au key) b i) (gG (au key) (b.drop (16*i)))):=fun i e=>by rw[e]; rfl
  simp only[yS,ah,dU,ae,aa,seval,iteOmega,toNatUp,eK];refine ba (ku key b) (fun i=>iu b-i) (fun i=>i≤iu b) 0 (KU _) ?_ ?_
  ·refine az (fun i=>48) ?_ ?_ rfl rfl <;> simp only[wx,aw,aO,aa,seval,iteOmega,toNatUp,hO]
  ·intro i hi;have hcl:(b.drop (16*i)).length=b.length-16*i:=KP;have hdr:=Jb b i;by_cases hlt:i<iu b
   ·have hT:((b.drop (16*i)).take 16).length=16:=by rw[KL]; omega
    have hstep:cG (au key) (bz (eu (au key) b i) ((b.drop (16*i)).take 16))=eu (au key) b (i+1):=rfl;have h1:=iB G (eu (au key) b i) ((b.drop (16*i)).take 16) (lN _ _ _) hT;have h2:=I9 G key (bz (eu (au key) b i) ((b.drop (16*i)).take 16)) h (by rw[eM,lN]);rw[hstep] at h2;rcases i with _ | i
    ·have hz:eu (au key) b 0=dO:=rfl;rw[hz] at h1 h2;simp only[Nat.mul_zero,Md,Lv,LO] at hdr;simp only[jM,ku,hO,ae,aa,seval,iteOmega,toNatUp];refine aI h1 (by simp only[ae,aa,seval,iteOmega,toNatUp,dv,t0,bB]) (.inr (jp _ _)) ?_;simp only[ae,aa,seval,iteOmega,toNatUp];refine sC (h2) ?_;simp only[hdr,ae,aa,seval,iteOmega,toNatUp];refine aS (0+1) (by omega) (by omega) (az (fun i=>i) ?_ ?_ rfl rfl) <;> simp only[wx,aw,aO,aa,seval,iteOmega,toNatUp,hO]
    ·simp only[jM,ku,hO,ae,aa,seval,iteOmega,toNatUp];refine sD (h1) ?_;refine sC (h2) ?_;simp only[hdr,ae,aa,seval,iteOmega,toNatUp];refine aS (i+1+1) (by omega) (by omega) (az (fun i=>i) ?_ ?_ rfl rfl) <;> simp only[wx,aw,aO,aa,seval,iteOmega,toNatUp,hO]
   ·rw[hm i (by omega)];have hl16:(b.drop (16*i)).length≤16:=by omega
    have h1:=HF G key (b.drop (16*i)) hl16;have h2:=iB G (eu (au key) b i) (gG (au key) (b.drop (16*i))) (lN _ _ _) (FX hl16);have h3:=AD G key (bz (eu (au key) b i) (gG (au key) (b.drop (16*i)))) h (by rw[eM,lN]);rcases i with _ | i
    ·have hz:eu (au key) b 0=dO:=rfl;rw[hz] at h2 h3 ⊢;simp only[jM,ku,hO,ae,aa,seval,iteOmega,toNatUp];refine sD (h1) ?_;refine aI h2 (by simp only[ae,aa,seval,iteOmega,toNatUp,dv,t0,bB]) (.inr (jp _ _)) ?_;simp only[ae,aa,seval,iteOmega,toNatUp];refine sD (h3) ?_;exact cQ
    ·simp only[jM,ku,hO,ae,aa,seval,iteOmega,toNatUp];refine sD (h1) ?_;refine sD (h2) ?_;refine sD (h3) ?_;exact cQ
theorem Jc (G:ak) (key b:List UInt8) (h:key.length=16) (hb:b.length≤70000):ap Tryd.prog G 84 [dU key,.sl (b.map bD)] (.w (.c (.d (.sl ((eH (au key) b).map bD))))):=io (mu G key b h hb)
def pO:aB:=⟨2,26,.seq (.reg [oO 4 (.mv (.k (.c .nil)))]) (.seq (.reg [oM 6 0,oO 7 (.len (.t 6)),oO 8 (.bin .sub (.t 7) (kI 16)),oM 5 8]) (.seq (.seq (.reg [oM 9 5,oO 10 (.bin .lss (.t 9) (kI 0))]) (.cond (.t 10) (.seq (.reg [oM 11 1,oO 12 (.call 83 [(.t 11)] none),oM 13 0,oO 14 (.call 91 [(.t 13)] none),oO 15 (.call 85 [(.t 12),(.t 14)] none),oM 4 15]) (.ret)) (.skip))) (.seq (.reg [oM 16 0,oM 17 5,oO 18 (.slice 1 (.t 16) none (some (.t 17)) none),oM 19 0,oM 20 5,oO 21 (.slice 1 (.t 19) (some (.t 20)) none none),oM 22 1,oO 23 (.call 85 [(.t 21),(.t 22)] none),oO 24 (.bldSl false 2 1 (.sl []) [(0,(.t 18)),(1,(.t 23))]),oO 25 (.call 24 [(.t 24)] none),oM 4 25]) (.ret)))),[(4,none)]⟩
theorem HH:aA Tryd.prog { own:=[],comp:=[],frz:=[],nils:=[] } Tryd.f86=some pO:=by kernel_rfl
theorem Jd (G:ak) (s d:List UInt8) (hs:s.length≤70000) (hd:d.length=16):ap Tryd.prog G 86 [.sl (s.map bD),.sl (d.map bD)] (.w (.c (.d (.sl ((if 16≤s.length then s.take (s.length-16)++bz (s.drop (s.length-16)) d else bz (dk d) (eV (s++[128]))).map bD))))):=by
  refine aC Tryd.func86 HH rfl rfl ?_;by_cases h:16≤s.length
  ·rw[if_pos h];have hl:(s.drop (s.length-16)).length=16:=by rw[KP]; omega
   have ht:(s.drop (s.length-16)).take (s.length-(s.length-16))=s.drop (s.length-16):=KM (by omega);have hj:=de G [s.take (s.length-16),bz (s.drop (s.length-16)) d] (by simp) (by simp[eM]; omega);have hf:[s.take (s.length-16),bz (s.drop (s.length-16)) d].flatten=s.take (s.length-16)++bz (s.drop (s.length-16)) d:=by simp
   rw[hf] at hj;have e1:(((s.length:Int)-16).toNat)=s.length-16:=by omega
   simp only[pO,ah,ae,aa,seval,iteOmega,toNatUp,e1,ht];refine sD (iB G (s.drop (s.length-16)) d hl hd) ?_;refine sD (hj) ?_;exact a7
  ·rw[if_neg h];simp only[pO,ah,ae,aa,seval,iteOmega,toNatUp];refine sD (mQ G d (by omega)) ?_;refine sD (AE G s (by omega)) ?_;refine sD (iB G (dk d) (eV (s++[128])) (ib hd) (nY (by omega))) ?_;exact a7
def qK (key:List UInt8) (l:List (List UInt8)) (i:Nat):St:=⟨aT [(1,.w (.c (.d (.sl (l.map fun l=>D.sl (l.map bD)))))),(2,.w (.c (.rp [.sl (key.map bD),.sl ((eW (au key)).map bD),.sl ((gF (au key)).map bD)]))),(5,.w (.c (.d (.sl ((eI (au key) l i).map bD))))),(6,.w (.c (.d (.int .i64 ((l.length:Int)-1))))),(23,.w (.c (.d (.sl ((l.take (l.length-1)).map fun l=>D.sl (l.map bD)))))),(24,.w (.c (.d (.int .i64 ((l.length:Int)-1))))),(25,.w (.c (.d (.int .i64 (i:Int)))))],hL [(1,.row 1 ((aU 16 (0:UInt8)).map bD))],uL [1]⟩
theorem Ew (rk:List UInt8) {l:List (List UInt8)} (h:l.length=0):ft rk l=eH rk (aN 1 16):=by
  unfold ft; rw[if_pos h]; congr 1
theorem Ex (rk:List UInt8) {l:List (List UInt8)} (h:l.length≠0):ft rk l=eH rk (if 16≤(l.getD (l.length-1) []).length then (l.getD (l.length-1) []).take ((l.getD (l.length-1) []).length-16)++bz ((l.getD (l.length-1) []).drop ((l.getD (l.length-1) []).length-16)) (eI rk l (l.length-1)) else bz (dk (eI rk l (l.length-1))) (eV (l.getD (l.length-1) []++[128]))):=by
  unfold ft; rw[if_neg h]; dsimp only; split <;> rfl
theorem pP {l:List (List UInt8)} {j:Nat} (h:j<l.length):l[j]?=some (l.getD j []):=by
  rw[KS,KH h]; rfl
theorem lP {l:List (List UInt8)} {j:Nat} (h:j<l.length):l.getD j []∈l:=by
  rw[KS,KH h]; exact Lc h
def oE:aH := .seq (.reg [oO 26 (.bin .lss (.t 25) (.t 24))]) (.seq (.cond (.t 26) (.skip) (.exit 0)) (.seq (.block 1 (.seq (.reg [oO 27 (.idxSl 1 (.t 23) (.t 25)),oO 28 (.load .sc (.t 27)),oM 8 28]) (.reg [oM 29 5,oO 30 (.call 83 [(.t 29)] none),oO 31 (.load (.ag 3) (.t 2)),oM 32 8,oO 33 (.call 84 [(.t 31),(.t 32)] none),oO 34 (.call 85 [(.t 30),(.t 33)] none),oM 5 34]))) (.reg [oO 35 (.bin .add (.t 25) (kI 1)),oM 25 35])))
def pQ:aB:=⟨2,44,.seq (.reg [oO 2 (.box .roBox (.t 0)),oO 4 (.mv (.k (.c .nil)))]) (.seq (.seq (.reg [oM 9 1,oO 10 (.len (.t 9)),oO 11 (.bin .eql (.t 10) (kI 0))]) (.cond (.t 11) (.seq (.reg [oO 12 (.load (.ag 3) (.t 2)),oO 13 (.call 25 [(.k (.c (.d (.int .u64 1)))),(kI 16)] none),oO 14 (.call 84 [(.t 12),(.t 13)] (some (0,1))),oM 4 14]) (.ret)) (.skip))) (.seq (.reg [oO 15 (.load (.ag 3) (.t 2)),oO 16 (.make true 1 1 (.int .u8 0) (kI 16) (kI 16)),oO 17 (.call 84 [(.t 15),(.t 16)] none),oM 5 17]) (.seq (.reg [oM 18 1,oO 19 (.len (.t 18)),oO 20 (.bin .sub (.t 19) (kI 1)),oM 6 20]) (.seq (.seq (.reg [oM 21 1,oM 22 6,oO 23 (.slice 1 (.t 21) none (some (.t 22)) none),oO 24 (.len (.t 23)),oO 25 (.mv (kI 0))]) (.block 0 (.loop oE))) (.seq (.reg [oO 36 (.load (.ag 3) (.t 2)),oM 37 1,
 oM 38 6,oO 39 (.idxSl 1 (.t 37) (.t 38)),oO 40 (.load .sc (.t 39)),oM 41 5,oO 42 (.call 86 [(.t 40),(.t 41)] none),oO 43 (.call 84 [(.t 36),(.t 42)] (some (0,1))),oM 4 43]) (.ret)))))),[(4,none)]⟩
theorem HI:aA Tryd.prog { own:=[14,43],comp:=[],frz:=[],nils:=[] } Tryd.f73=some pQ:=by kernel_rfl
theorem Je (G:ak) (key:List UInt8) (l:List (List UInt8)) (h:key.length=16) (hl:l.length≤17) (hb:∀ x∈l,x.length≤65535):ap Tryd.prog G 73 [dU key,.sl (l.map fun l=>D.sl (l.map bD))] (.w (.c (.fr 1 ((ft (au key) l).map bD)))):=by
  refine aC Tryd.func73 HI rfl rfl ?_;have t0:(aU 16 (0:UInt8)).take 16=dO:=rfl;by_cases h0:l.length=0
  ·rw[Ew _ h0];simp only[pQ,ah,dU,ae,aa,seval,iteOmega,toNatUp,h0];refine sD (gO G 1 16 (by decide)) ?_;refine sD (mu G key (aN 1 16) h (by rw[cU]; decide)) ?_;exact cQ
  ·rw[Ex _ h0];have e1:(((l.length:Int)-1).toNat)=l.length-1:=by omega
   have e2:(l.take (l.length-1)).length=l.length-1:=by rw[KL]; omega
   have e3:((l.length-1:Nat):Int)=(l.length:Int)-1:=by omega
   simp only[pQ,ah,dU,ae,aa,seval,iteOmega,toNatUp,eK];refine aI (mu G key dO h (by decide)) (by simp only[ae,aa,seval,iteOmega,toNatUp,dv,t0,bB,dU]) (.inr (jp _ _)) ?_;simp only[ae,aa,seval,iteOmega,toNatUp,e1,e2,e3,wH];refine ba (qK key l) (fun i=>l.length-1-i) (fun i=>i≤l.length-1) 0 (KU _) ?_ ?_
   ·refine az (fun i=>128) ?_ ?_ rfl rfl <;> simp only[wx,aw,aO,aa,seval,iteOmega,toNatUp,eI,e2,e3]
   ·intro i hi;have hd:=wU (au key) l i;by_cases hlt:i<l.length-1
    ·have g1:(l.take (l.length-1))[i]?=some (l.getD i []):=by rw[K0,if_pos hlt,pP (by omega)]
     have hx:=hb _ (lP (l:=l) (j:=i) (by omega));have hs:bz (dk (eI (au key) l i)) (eH (au key) (l.getD i []))=eI (au key) l (i+1):=rfl;have h1:=mQ G (eI (au key) l i) (by omega);have h2:=Jc G key (l.getD i []) h (by omega);have h3:=iB G (dk (eI (au key) l i)) (eH (au key) (l.getD i [])) (ib hd) (lO _ _);rw[hs] at h3;simp only[oE,qK,ae,aa,seval,iteOmega,toNatUp,bm,g1,e2,e3];refine sD (h1) ?_;refine sD (h2) ?_;refine sD (h3) ?_;refine aS (i+1) (by omega) (by omega) (az (fun i=>i) ?_ ?_ rfl rfl) <;> simp only[wx,aw,aO,aa,seval,iteOmega,toNatUp]
    ·obtain rfl:i=l.length-1:=by omega
     have g1:l[l.length-1]?=some (l.getD (l.length-1) []):=pP (by omega);have hx:=hb _ (lP (l:=l) (j:=l.length-1) (by omega));have h1:=Jd G (l.getD (l.length-1) []) (eI (au key) l (l.length-1)) (by omega) hd;have hcl:∀ s d:List UInt8,s.length≤65535→d.length=16→(if 16≤s.length then s.take (s.length-16)++bz (s.drop (s.length-16)) d else bz (dk d) (eV (s++[128]))).length≤70000:=by
       intro s d h1 h2;split
       ·rw[KJ,eM,← KJ,Lo]; omega
       ·rw[eM,ib h2]; decide
     have h2:=mu G key _ h (hcl _ _ hx hd);simp only[oE,qK,ae,aa,seval,iteOmega,toNatUp,bm,g1,e1,e3];refine sD (h1) ?_;refine sD (h2) ?_;exact cQ
def fK (l:List (List UInt8)):Bool:=l.any fun x=>decide (65535<x.length)
def nq (key:List UInt8) (l:List (List UInt8)):Int:=if key.length≠16 then 5 else if 17<l.length then 8 else if fK l=true then 2 else 0
def rt (key:List UInt8) (l:List (List UInt8)):List UInt8:=if key.length=16∧l.length≤17∧fK l=false then ft (au key) l else []
theorem Ga {l:List (List UInt8)} (h:∀ j,j<l.length→(l.getD j []).length≤65535):fK l=false:=by
  unfold fK;rw[LN];intro x hx;obtain⟨j,hj,rfl⟩:=Lk hx;have:=h j hj;rw[KS,KH hj] at this
  simpa using this
theorem Ey {l:List (List UInt8)} {j:Nat} (hj:j<l.length) (h:65535<(l.getD j []).length):fK l=true:=by
  unfold fK;rw[List.any_eq_true];exact⟨_,lP hj,decide_eq_true h⟩
theorem Ez {l:List (List UInt8)} (h:fK l=false):∀ x∈l,x.length≤65535:=by
  unfold fK at h;rw[LN] at h;intro x hx;have:=h x hx
  simpa using this
def mR (key:List UInt8) (l:List (List UInt8)) (i:Nat):St:=⟨aT [(1,.w (.c (.d (.sl (l.map fun l=>D.sl (l.map bD)))))),(6,.w (.c (.ptr 1 1 0 0))),(21,.w (.c (.d (.sl (l.map fun l=>D.sl (l.map bD)))))),(22,.w (.c (.d (.int .i64 (l.length:Int))))),(23,.w (.c (.d (.int .i64 (i:Int)))))],hL [(1,.box [.d (.sl (key.map bD)),.d (.sl ((eW (au key)).map bD)),.d (.sl ((gF (au key)).map bD))])],uL [1]⟩
def lu:aH := .seq (.reg [oO 24 (.bin .lss (.t 23) (.t 22))]) (.seq (.cond (.t 24) (.skip) (.exit 0)) (.seq (.block 1 (.seq (.reg [oO 25 (.idxSl 1 (.t 21) (.t 23)),oO 26 (.load .sc (.t 25)),oM 9 26]) (.seq (.reg [oM 27 9,oO 28 (.len (.t 27)),oO 29 (.bin .gtr (.t 28) (kI 65535))]) (.cond (.t 29) (.seq (.reg [oO 4 (.mv (.k (.c .nil))),oO 5 (.mv (kI 2))]) (.ret)) (.skip))))) (.reg [oO 30 (.bin .add (.t 23) (kI 1)),oM 23 30])))
def l7:aB:=⟨2,34,.seq (.reg [oO 4 (.mv (.k (.c .nil))),oO 5 (.mv (kI 0))]) (.seq (.reg [oM 11 0,oO 12 (.call 72 [(.t 11)] none),oM 10 12,oO 13 (.extract (.t 10) 0),oO 14 (.extract (.t 10) 1),oO 6 (.alloc [.nil,.nil,.nil]),oN (.store (.ag 3) (.t 6) (.t 13)),oM 7 14]) (.seq (.seq (.reg [oM 15 7,oO 16 (.bin .neq (.t 15) (kI 0))]) (.cond (.t 16) (.seq (.reg [oM 17 7,oO 4 (.mv (.k (.c .nil))),oM 5 17]) (.ret)) (.skip))) (.seq (.seq (.reg [oM 18 1,oO 19 (.len (.t 18)),oO 20 (.bin .gtr (.t 19) (kI 17))]) (.cond (.t 20) (.seq (.reg [oO 4 (.mv (.k (.c .nil))),oO 5 (.mv (kI 8))]) (.ret)) (.skip))) (.seq (.seq (.reg [oM 21 1,oO 22 (.len (.t 21)),oO 23 (.mv (kI 0))]) (.block 0 (.loop lu))) (.seq (.reg [oO 31 (.load (.ag 3) (.t 6)),oM 32 1,oO 33 (.call 73 [(.t 31),(.t 32)] (some (0,1))),oM 4 33,
 oO 5 (.mv (kI 0))]) (.ret)))))),[(4,none),(5,none)]⟩
theorem HJ:aA Tryd.prog { own:=[33],comp:=[],frz:=[],nils:=[] } Tryd.f63=some l7:=by kernel_rfl
theorem Jf (G:ak) (key:List UInt8) (l:List (List UInt8)) (hk:key.length≤9223372036854775807) (hl:l.length≤9223372036854775807) (hb:∀ x∈l,x.length≤9223372036854775807):ap Tryd.prog G 63 [.sl (key.map bD),.sl (l.map fun l=>D.sl (l.map bD))] (.tup [.c (.fr 1 ((rt key l).map bD)),.c (.d (.int .i64 (nq key l)))]):=by
  refine aC Tryd.func63 HJ rfl rfl ?_;have hx:=Ja G key hk;unfold rt nq;by_cases h:key.length=16
  ·have hv:kU key=dU key:=if_pos h;have he:iI key=0:=by unfold iI; rw[if_neg (by omega)]
   rw[hv,he] at hx;by_cases h2:l.length≤17
   ·rw[if_neg (by omega:¬ key.length≠16),if_neg (by omega:¬ 17<l.length)];simp only[l7,ah,ae,aa,seval,iteOmega,toNatUp];refine sC (hx) ?_;simp only[dU,ae,aa,seval,iteOmega,toNatUp];refine ba (mR key l) (fun i=>l.length-i) (fun i=>i≤l.length∧∀ j,j<i→(l.getD j []).length≤65535) 0 ⟨KU _,fun j hj=>by omega⟩ ?_ ?_
    ·refine az (fun i=>48) ?_ ?_ rfl rfl <;> simp only[wx,aw,aO,aa,seval,iteOmega,toNatUp]
    ·rintro i ⟨hi,hok⟩;by_cases hlt:i<l.length
     ·have g1:=pP hlt;have hx:=hb _ (lP hlt);by_cases hlong:65535<(l.getD i []).length
      ·have hL:=Ey hlt hlong;rw[hL,if_neg (by simp),if_pos rfl];simp only[lu,mR,ae,aa,seval,iteOmega,toNatUp,bm,g1];exact dH
      ·simp only[lu,mR,ae,aa,seval,iteOmega,toNatUp,bm,g1];refine aS (i+1) (by omega) ⟨by omega,fun j hj=>?_⟩ (az (fun i=>i) ?_ ?_ rfl rfl)
       ·rcases Lu j i with h | h
        ·exact hok j h
        ·obtain rfl:j=i:=by omega
         omega
       all_goals simp only[wx,aw,aO,aa,seval,iteOmega,toNatUp]
     ·have hL:=Ga (l:=l) (fun j hj=>hok j (by omega));rw[hL,if_pos ⟨h,h2,rfl⟩,if_neg (by simp)];simp only[lu,mR,ae,aa,seval,iteOmega,toNatUp];refine sD (Je G key l h h2 (Ez hL)) ?_;exact dH
   ·rw[if_neg (by omega),if_neg (by omega),if_pos (by omega)];have h3:17<l.length:=by omega
    simp only[l7,ah,ae,aa,seval,iteOmega,toNatUp];refine sC (hx) ?_;simp only[dU,ae,aa,seval,iteOmega,toNatUp];exact dH
  ·have hv:kU key=.agg [.sl [],.sl [],.sl []]:=if_neg h;have he:iI key=5:=if_pos h;rw[hv,he] at hx;rw[if_neg (by omega),if_pos h];simp only[l7,ah,ae,aa,seval,iteOmega,toNatUp];refine sD (hx) ?_;exact dH

theorem wW (rk c:List UInt8) {n k:Nat} (hk:k<16):∀ {m:Nat},n<m→(iG rk c m)[16*n+k]?=(cG rk (di c n))[k]?
  | 0,h=>by omega
  | m+1,h=>by
    rw[iG];by_cases e:n=m
    ·subst e;rw[Le (by rw[iV]; omega),iV,Nat.add_sub_cancel_left]
    ·rw[Lm (by rw[iV]; omega)];exact wW rk c hk (by omega)
theorem Gb (rk c b:List UInt8) {n k:Nat} (hk:k<16) (h:16*n+k<b.length):(dC rk c b)[16*n+k]?=some (aj (b.getD (16*n+k) 0) ((cG rk (di c n)).getD k 0)):=by
  unfold dC g9;rw[List.getElem?_zipWith,wW rk c hk (by omega),cJ h,cJ (by rw[fe]; exact hk)]
def oT (rk c b:List UInt8) (j:Nat):List UInt8:=(dC rk c b).take j
theorem AF (rk c b:List UInt8) (j:Nat):(oT rk c b j).length=min j b.length:=by unfold oT; rw[KL,lq]
theorem l8 (rk c b:List UInt8) {j:Nat} (h:b.length≤j):oT rk c b j=dC rk c b:=KM (by rw[lq]; exact h)
theorem HK (rk c b:List UInt8) {n k:Nat} (hk:k<16) (h:16*n+k<b.length):oT rk c b (16*n+k)++[aj (b.getD (16*n+k) 0) ((cG rk (di c n)).getD k 0)]=oT rk c b (16*n+k+1):=by
  unfold oT; rw[List.take_add_one,Gb rk c b hk h]; rfl
theorem pR {c:List UInt8} (h:c.length=16) (n:Nat):(di c n).length=16:=by rw[wM]; exact h
theorem Gd {c:List UInt8} (h:c.length=16) (n:Nat):nl (di c n)=di c (n+1):=by unfold nl; rw[if_pos (pR h n)]; rfl
def fL (key c b:List UInt8):Int:=if key.length≠16 then 5 else if c.length≠16 then 3 else if 65535<b.length then 2 else 0
def mS (key c b:List UInt8):List UInt8:=if key.length=16∧c.length=16∧b.length≤65535 then dC (au key) c b else []
theorem EA {key:List UInt8} (c b:List UInt8) (h:key.length≠16):fL key c b=5:=if_pos h
theorem EB {key c:List UInt8} (b:List UInt8) (h:key.length=16) (h2:c.length≠16):fL key c b=3:=by unfold fL; rw[if_neg (by simp[h]),if_pos h2]
theorem Dm {key c b:List UInt8} (h:key.length=16) (h2:c.length=16) (h3:65535<b.length):fL key c b=2:=by unfold fL; rw[if_neg (by simp[h]),if_neg (by simp[h2]),if_pos h3]
theorem Ge {key c b:List UInt8} (h:key.length=16) (h2:c.length=16) (h3:b.length≤65535):fL key c b=0:=by unfold fL; rw[if_neg (by simp[h]),if_neg (by simp[h2]),if_neg (by omega)]
theorem Gf {key c b:List UInt8} (h:key.length=16) (h2:c.length=16) (h3:b.length≤65535):mS key c b=dC (au key) c b:=if_pos ⟨h,h2,h3⟩
theorem pf {key c b:List UInt8} (h:¬ (key.length=16∧c.length=16∧b.length≤65535)):mS key c b=[]:=if_neg h
theorem KE (rk c b:List UInt8):oT rk c b 0=[]:=List.take_zero

def AH:aB:=⟨2,10,.seq (.reg [oO 4 (.mv (.k (.c (.d (.bool false)))))]) (.seq (.reg [oM 5 0,oO 6 (.b2s (.t 5)),oM 7 1,oO 8 (.b2s (.t 7)),oO 9 (.bin .eql (.t 6) (.t 8)),oM 4 9]) (.ret)),[(4,none)]⟩
theorem Jj:aA Tryd.prog { own:=[],comp:=[],frz:=[],nils:=[] } Tryd.f50=some AH:=by kernel_rfl
theorem Ka (G:ak) (l m:List UInt8):ap Tryd.prog G 50 [.sl (l.map bD),.sl (m.map bD)] (.w (.c (.d (.bool (l==m))))):=by
  refine aC Tryd.func50 Jj rfl rfl ?_;simp only[AH,ah,wx,aa,seval,iteOmega,toNatUp,lI,t7];exact gq (by simp only[wx,aa,seval,iteOmega,toNatUp])
def yU:aB:=⟨2,8,.seq (.reg [oO 4 (.mv (.k (.c (.d (.bool false)))))]) (.seq (.reg [oM 5 0,oM 6 1,oO 7 (.call 50 [(.t 5),(.t 6)] none),oM 4 7]) (.ret)),[(4,none)]⟩
theorem HM:aA Tryd.prog { own:=[],comp:=[],frz:=[],nils:=[] } Tryd.f34=some yU:=by kernel_rfl
theorem qn (G:ak) (l m:List UInt8):ap Tryd.prog G 34 [.sl (l.map bD),.sl (m.map bD)] (.w (.c (.d (.bool (l==m))))):=by
  refine aC Tryd.func34 HM rfl rfl ?_;simp only[yU,ah,ae,aa,seval,iteOmega,toNatUp];refine sD (Ka G l m) ?_;exact a7
theorem ui (v k:Nat):aN v (k+1)=aN (v / 256) k++[UInt8.ofNat v]:=by
  unfold aN;rw[List.range_succ,LG]
  congr 1
  ·apply Ll;intro i hi;have hi':i<k:=List.mem_range.1 hi;rw[show k+1-1-i=(k-1-i)+1 by omega,Nat.pow_succ,Nat.mul_comm,← Nat.div_div_eq_div_mul]
  ·simp
theorem wZ (a:List UInt8) (x:UInt8):aV (a++[x])=(aV a*256+x.toNat)%18446744073709551616:=by simp[aV]
theorem yX {k:Nat} (h:k≤8):256^k≤18446744073709551616:=Lh (Nat.pow_le_pow_right (by decide) h) (by decide)
theorem get_put (k:Nat) (h:k≤8):∀ v,aV (aN v k)=v%256^k:=by
  induction k with
  | zero=>intro v; rw[Nat.pow_zero,Nat.mod_one]; rfl
  | succ k ih =>
    intro v;have hp:=yX h;have hv:v%256^(k+1)<256^(k+1):=LK _ (Nat.pow_pos (by decide));have e:v%256^(k+1)=v%256+256*(v / 256%256^k):=by rw[Nat.pow_succ',Nat.mod_mul]
    rw[ui,wZ,ih (by omega),UInt8.toNat_ofNat',Nat.mod_eq_of_lt (by omega)];omega
theorem CZ:∀ (k:Nat) (l:List UInt8),l.length=k→k≤8→aV l<256^k∧aN (aV l) k=l:=by
  intro k
  induction k with
  | zero=>intro l h _; rw[Lj h]; exact⟨by decide,rfl⟩
  | succ k ih =>
    intro l h h8;rcases List.eq_nil_or_concat l with rfl | ⟨a,x,rfl⟩
    ·simp at h
    ·rw[List.concat_eq_append] at *
     obtain⟨a1,a2⟩:=ih a (by simpa using h) (by omega);have hx:x.toNat<256:=x.toNat_lt;have hp:=yX h8;have e:aV (a++[x])=aV a*256+x.toNat:=by
       rw[wZ,Nat.mod_eq_of_lt];rw[Nat.pow_succ] at hp; omega
     refine⟨by rw[e,Nat.pow_succ]; omega,?_⟩;rw[e,ui,show (aV a*256+x.toNat) / 256=aV a by omega,a2]
     congr 2
     rw[← UInt8.toNat_inj,UInt8.toNat_ofNat'];omega
structure Hd where
  lp:Int
  vr:Int
  md:Int
  st:Int
  pl:Int
  pr:Int
  rd:Nat
  rp:Nat
  ri:Nat
  rf:Nat
  og:Nat
  rc:Nat
  tr:Nat
def Hd.z:Hd:=⟨0,0,0,0,0,0,0,0,0,0,0,0,0⟩
def Cx (h:Hd):Prop:=0≤h.lp∧h.lp≤3∧(h.vr=3∨h.vr=4)∧0≤h.md∧h.md≤7∧0≤h.st∧h.st≤255∧-128≤h.pl∧h.pl≤127∧-128≤h.pr∧h.pr≤127
instance (h:Hd):Decidable (Cx h):=by unfold Cx; infer_instance
def ct (l:List UInt8) (a n:Nat):List UInt8:=(l.drop a).take n
theorem Gl {l:List UInt8} {a n:Nat} (h:a+n≤l.length):(ct l a n).length=n:=by
  unfold ct; rw[KL,KP]; omega
theorem Gm (p q r:List UInt8):ct (p++(q++r)) p.length q.length=q:=by
  unfold ct; rw[List.drop_left,List.take_left]
def bM:List UInt32:=[0x6a09e667,0xbb67ae85,0x3c6ef372,0xa54ff53a,0x510e527f,0x9b05688c,0x1f83d9ab,0x5be0cd19]
def aW:List UInt32:=[
  0x428a2f98,0x71374491,0xb5c0fbcf,0xe9b5dba5,0x3956c25b,0x59f111f1,0x923f82a4,0xab1c5ed5,
  0xd807aa98,0x12835b01,0x243185be,0x550c7dc3,0x72be5d74,0x80deb1fe,0x9bdc06a7,0xc19bf174,
  0xe49b69c1,0xefbe4786,0x0fc19dc6,0x240ca1cc,0x2de92c6f,0x4a7484aa,0x5cb0a9dc,0x76f988da,
  0x983e5152,0xa831c66d,0xb00327c8,0xbf597fc7,0xc6e00bf3,0xd5a79147,0x06ca6351,0x14292967,
  0x27b70a85,0x2e1b2138,0x4d2c6dfc,0x53380d13,0x650a7354,0x766a0abb,0x81c2c92e,0x92722c85,
  0xa2bfe8a1,0xa81a664b,0xc24b8b70,0xc76c51a3,0xd192e819,0xd6990624,0xf40e3585,0x106aa070,
  0x19a4c116,0x1e376c08,0x2748774c,0x34b0bcb5,0x391c0cb3,0x4ed8aa4a,0x5b9cca4f,0x682e6ff3,
  0x748f82ee,0x78a5636f,0x84c87814,0x8cc70208,0x90befffa,0xa4506ceb,0xbef9a3f7,0xc67178f2]
theorem jH:bM.length=8:=rfl
theorem sS:aW.length=64:=rfl
def gn (b:List UInt8) (t:Nat):UInt32 :=
  fV (fV (fV (gE (gr (b.getD (4*t) 0)) 24) (gE (gr (b.getD (4*t+1) 0)) 16)) (gE (gr (b.getD (4*t+2) 0)) 8)) (gr (b.getD (4*t+3) 0))
def qq (x:UInt32):UInt32:=en (en (eE x 7) (eE x 18)) (jq x 3)
def qt (y:UInt32):UInt32:=en (en (eE y 17) (eE y 19)) (jq y 10)
def iC (s:List UInt32) (t:Nat):UInt32 :=
  aY (aY (aY (qt (s.getD (t-2) 0)) (s.getD (t-7) 0)) (qq (s.getD (t-15) 0))) (s.getD (t-16) 0)
def dw (b:List UInt8) (n:Nat):List UInt32:=(List.range n).map (gn b)
def bN (b:List UInt8):Nat→List UInt32
  | 0=>dw b 16
  | n+1=>bN b n++[iC (bN b n) (16+n)]
def cd (b:List UInt8):List UInt32:=bN b 48
theorem w5 (b:List UInt8) (m:Nat) (h:m=48):cd b=bN b m:=by rw[h]; rfl
def rv (e:UInt32):UInt32:=en (en (eE e 6) (eE e 11)) (eE e 25)
def Cg (a:UInt32):UInt32:=en (en (eE a 2) (eE a 13)) (eE a 22)
def rG (e f g:UInt32):UInt32:=en (gX e f) (gX (ni e) g)
def Ci (a b c:UInt32):UInt32:=en (en (gX a b) (gX a c)) (gX b c)
structure bh where
  (a b c d e f g h:UInt32)
def bh.step (s:bh) (k w:UInt32):bh :=
  let t1:=aY (aY (aY (aY s.h (rv s.e)) (rG s.e s.f s.g)) k) w
  let t2:=aY (Cg s.a) (Ci s.a s.b s.c)
  ⟨aY t1 t2,s.a,s.b,s.c,aY s.d t1,s.e,s.f,s.g⟩
def bh.of (h:List UInt32):bh:=⟨h.getD 0 0,h.getD 1 0,h.getD 2 0,h.getD 3 0,h.getD 4 0,h.getD 5 0,h.getD 6 0,h.getD 7 0⟩
def bh.rounds (s:bh) (k w:List UInt32):Nat→bh
  | 0=>s
  | n+1=>(s.rounds k w n).step (k.getD n 0) (w.getD n 0)
def bh.sum (s:bh) (h:List UInt32):List UInt32 :=
  [aY (h.getD 0 0) s.a,aY (h.getD 1 0) s.b,aY (h.getD 2 0) s.c,aY (h.getD 3 0) s.d,aY (h.getD 4 0) s.e,aY (h.getD 5 0) s.f,aY (h.getD 6 0) s.g,aY (h.getD 7 0) s.h]
def iv (h:List UInt32) (b:List UInt8):List UInt32:=((bh.of h).rounds aW (cd b) 64).sum h
theorem sT (h:List UInt32) (b:List UInt8):(iv h b).length=8:=rfl
theorem Gn (x y:UInt32):fV x y=fV y x:=UInt32.or_comm x y
def w6:aB:=⟨2,15,.seq (.reg [oO 4 (.mv (.k (.c (.d (.int .u32 0)))))]) (.seq (.reg [oM 5 0,oM 6 1,oO 7 (.conv .u64 (.t 6)),oO 8 (.bin .shr (.t 5) (.t 7)),oM 9 0,oM 10 1,oO 11 (.bin .sub (kI 32) (.t 10)),oO 12 (.conv .u64 (.t 11)),oO 13 (.bin .shl (.t 9) (.t 12)),oO 14 (.bin .or (.t 8) (.t 13)),oM 4 14]) (.ret)),[(4,none)]⟩
theorem Gp:aA Tryd.prog { own:=[],comp:=[],frz:=[],nils:=[] } Tryd.f55=some w6:=by kernel_rfl
theorem fE (G:ak) (x:UInt32) (n:Nat) (h0:0<n) (hn:n<32):ap Tryd.prog G 55 [wD x,.int .i64 n] (.w (.c (.d (wD (eE x n))))):=by
  refine aC Tryd.func55 Gp rfl rfl ?_;have e1:IntKind.u64.wrap (n:Int)=(n:Int):=IntWalk.u64_in _ (by omega);have e2:IntKind.i64.wrap (32-(n:Int))=((32-n:Nat):Int):=by rw[IntWalk.i64_in _ (by omega)]; omega
  have e3:IntKind.u64.wrap ((32-n:Nat):Int)=((32-n:Nat):Int):=IntWalk.u64_in _ (by omega);simp only[w6,ah,wx,aa,seval,iteOmega,toNatUp,e1,e2,e3];exact gq (by simp only[wx,aa,seval,iteOmega,toNatUp] <;> rfl)
def yY:aB:=⟨2,17,.seq (.reg [oO 4 (.mv (.k (.c (.d (.int .u32 0)))))]) (.seq (.reg [oM 6 1,oO 7 (.conv .u64 (.t 6)),oO 8 (.bin .and (.t 7) (.k (.c (.d (.int .u64 31))))),oM 5 8]) (.seq (.reg [oM 9 0,oM 10 5,oO 11 (.bin .shl (.t 9) (.t 10)),oM 12 0,oM 13 5,oO 14 (.bin .sub (.k (.c (.d (.int .u64 32)))) (.t 13)),oO 15 (.bin .shr (.t 12) (.t 14)),oO 16 (.bin .or (.t 11) (.t 15)),oM 4 16]) (.ret))),[(4,none)]⟩
theorem HU:aA Tryd.prog { own:=[],comp:=[],frz:=[],nils:=[] } Tryd.f87=some yY:=by kernel_rfl
theorem Js (G:ak) (x:UInt32) (n:Nat) (h0:0<n) (hn:n<32):ap Tryd.prog G 87 [wD x,.int .i64 (-(n:Int))] (.w (.c (.d (wD (eE x n))))):=by
  refine aC Tryd.func87 HU rfl rfl ?_;have e1:bits .and .u64 (IntKind.u64.wrap (-(n:Int))) 31=((32-n:Nat):Int):=by
    have h:=bits_mask .u64 64 (by decide) u64_in 5 (by decide) (IntKind.u64.wrap (-(n:Int))) (by rw[IntKind.wrap_u64]; omega) (by rw[IntKind.wrap_u64]; omega);rw[show (31:Int)=2^5-1 by decide,h,IntKind.wrap_u64];omega
  have e2:IntKind.u64.wrap (32-((32-n:Nat):Int))=((n:Nat):Int):=by rw[IntWalk.u64_in _ (by omega)]; omega
  simp only[yY,ah,wx,aa,seval,iteOmega,toNatUp,e1,e2];rw[Gn];exact gq (by simp only[wx,aa,seval,iteOmega,toNatUp] <;> rfl)
def yZ:aB:=⟨2,9,.seq (.reg [oO 4 (.mv (.k (.c (.d (.int .u32 0)))))]) (.seq (.reg [oM 5 0,oM 6 1,oO 7 (.un .neg (.t 6)),oO 8 (.call 87 [(.t 5),(.t 7)] none),oM 4 8]) (.ret)),[(4,none)]⟩
theorem HV:aA Tryd.prog { own:=[],comp:=[],frz:=[],nils:=[] } Tryd.f75=some yZ:=by kernel_rfl
theorem fI (G:ak) (x:UInt32) (n:Nat) (h0:0<n) (hn:n<32):ap Tryd.prog G 75 [wD x,.int .i64 n] (.w (.c (.d (wD (eE x n))))):=by
  refine aC Tryd.func75 HV rfl rfl ?_;have e1:IntKind.i64.wrap (0-(n:Int)) = -(n:Int):=by rw[IntWalk.i64_in _ (by omega)]; omega
  simp only[yZ,ah,wx,aa,seval,iteOmega,toNatUp,e1];refine aI (Js G x n h0 hn) rfl (.inr rfl) ?_;simp only[wx,aa,seval,iteOmega,toNatUp];exact gq (by simp only[wx,aa,seval,iteOmega,toNatUp])
def y0:aB:=⟨0,2,.seq (.reg [oO 0 (.mv (.k (.c .nil)))]) (.seq (.reg [oO 1 (.bldSl true 8 1 (.int .u32 0) [(0,(.k (.c (.d (.int .u32 1779033703))))),(1,(.k (.c (.d (.int .u32 3144134277))))),(2,(.k (.c (.d (.int .u32 1013904242))))),(3,(.k (.c (.d (.int .u32 2773480762))))),(4,(.k (.c (.d (.int .u32 1359893119))))),(5,(.k (.c (.d (.int .u32 2600822924))))),(6,(.k (.c (.d (.int .u32 528734635))))),(7,(.k (.c (.d (.int .u32 1541459225)))))]),oM 0 1]) (.ret)),[(0,none)]⟩
theorem HW:aA Tryd.prog { own:=[1],comp:=[],frz:=[],nils:=[] } Tryd.f40=some y0:=by kernel_rfl
theorem Jt (G:ak):ap Tryd.prog G 40 [] (.w (.c (.fr 1 (bM.map wD)))):=by
  refine aC Tryd.func40 HW rfl rfl ?_;simp only[y0,ah,mE,mF,mG,mH,mI,sx];refine xO (.w (.c (.own 8 1 0 8)),upd hN 8 (some (.row 1 (bM.map wD))),upd uN 8 true) (by kernel_rfl) ?_;simp only[wx,aa,seval,iteOmega,toNatUp];exact cV (id:=8) (n:=8) (s:=1) (by simp only[wx,aa,seval,iteOmega,toNatUp]) (by simp only[wx,aa,seval,iteOmega,toNatUp]) rfl
def y1:aB:=⟨0,2,.seq (.reg [oO 0 (.mv (.k (.c .nil)))]) (.seq (.reg [oO 1 (.bldSl true 64 1 (.int .u32 0) [(0,(.k (.c (.d (.int .u32 1116352408))))),(1,(.k (.c (.d (.int .u32 1899447441))))),(2,(.k (.c (.d (.int .u32 3049323471))))),(3,(.k (.c (.d (.int .u32 3921009573))))),(4,(.k (.c (.d (.int .u32 961987163))))),(5,(.k (.c (.d (.int .u32 1508970993))))),(6,(.k (.c (.d (.int .u32 2453635748))))),(7,(.k (.c (.d (.int .u32 2870763221))))),(8,(.k (.c (.d (.int .u32 3624381080))))),(9,(.k (.c (.d (.int .u32 310598401))))),(10,(.k (.c (.d (.int .u32 607225278))))),(11,(.k (.c (.d (.int .u32 1426881987))))),(12,(.k (.c (.d (.int .u32 1925078388))))),(13,(.k (.c (.d (.int .u32 2162078206))))),(14,(.k (.c (.d (.int .u32 2614888103))))),(15,(.k (.c (.d (.int .u32 3248222580))))),(16,(.k (.c (.d (.int .u32 3835390401))))),(17,(.k (.c (.d (.int .u32 4022224774))))),(18,(.k (.c (.d (.int .u32 264347078))))),(19,(.k (.c (.d (.int .u32 604807628))))),(20,(.k (.c (.d (.int .u32 770255983))))),(21,(.k (.c (.d (.int .u32 1249150122))))),(22,(.k (.c (.d (.int .u32 1555081692))))),(23,(.k (.c (.d (.int .u32 1996064986))))),(24,(.k (.c (.d (.int .u32 2554220882))))),(25,(.k (.c (.d (.int .u32 2821834349))))),(26,(.k (.c (.d (.int .u32 2952996808))))),(27,(.k (.c (.d (.int .u32 3210313671))))),(28,(.k (.c (.d (.int .u32 3336571891))))),(29,(.k (.c (.d (.int .u32 3584528711))))),(30,(.k (.c (.d (.int .u32 113926993))))),(31,(.k (.c (.d (.int .u32 338241895))))),(32,(.k (.c (.d (.int .u32 666307205))))),(33,(.k (.c (.d (.int .u32 773529912))))),(34,(.k (.c (.d (.int .u32 1294757372))))),(35,(.k (.c (.d (.int .u32 1396182291))))),(36,(.k (.c (.d (.int .u32 1695183700))))),(37,(.k (.c (.d (.int .u32 1986661051))))),(38,(.k (.c (.d (.int .u32 2177026350))))),(39,(.k (.c (.d (.int .u32 2456956037))))),(40,(.k (.c (.d (.int .u32 2730485921))))),(41,(.k (.c (.d (.int .u32 2820302411))))),(42,(.k (.c (.d (.int .u32 3259730800))))),(43,(.k (.c (.d (.int .u32 3345764771))))),(44,(.k (.c (.d (.int .u32 3516065817))))),(45,(.k (.c (.d (.int .u32 3600352804))))),(46,(.k (.c (.d (.int .u32 4094571909))))),(47,(.k (.c (.d (.int .u32 275423344))))),(48,(.k (.c (.d (.int .u32 430227734))))),(49,(.k (.c (.d (.int .u32 506948616))))),(50,(.k (.c (.d (.int .u32 659060556))))),(51,(.k (.c (.d (.int .u32 883997877))))),(52,(.k (.c (.d (.int .u32 958139571))))),(53,(.k (.c (.d (.int .u32 1322822218))))),(54,(.k (.c (.d (.int .u32 1537002063))))),(55,(.k (.c (.d (.int .u32 1747873779))))),(56,(.k (.c (.d (.int .u32 1955562222))))),(57,(.k (.c (.d (.int .u32 2024104815))))),(58,(.k (.c (.d (.int .u32 2227730452))))),(59,(.k (.c (.d (.int .u32 2361852424))))),(60,(.k (.c (.d (.int .u32 2428436474))))),(61,(.k (.c (.d (.int .u32 2756734187))))),(62,(.k (.c (.d (.int .u32 3204031479))))),(63,(.k (.c (.d (.int .u32 3329325298)))))]),
 oM 0 1]) (.ret)),[(0,none)]⟩
theorem HX:aA Tryd.prog { own:=[1],comp:=[],frz:=[],nils:=[] } Tryd.f41=some y1:=by kernel_rfl
theorem AP (G:ak):ap Tryd.prog G 41 [] (.w (.c (.fr 1 (aW.map wD)))):=by
  refine aC Tryd.func41 HX rfl rfl ?_;simp only[y1,ah,mE,mF,mG,mH,mI,sx];refine xO (.w (.c (.own 8 1 0 64)),upd hN 8 (some (.row 1 (aW.map wD))),upd uN 8 true) (by kernel_rfl) ?_;simp only[wx,aa,seval,iteOmega,toNatUp];exact cV (id:=8) (n:=64) (s:=1) (by simp only[wx,aa,seval,iteOmega,toNatUp]) (by simp only[wx,aa,seval,iteOmega,toNatUp]) rfl
theorem sU (b:UInt8):(gr b).toNat=b.toNat:=by have:=tM b; omega
theorem oF (b:UInt8) (n:Nat) (hn:n≤24):(gE (gr b) n).toNat=2^n*b.toNat:=by
  have hb:=b.toNat_lt;have h:(2:Nat)^n≤2^24:=Nat.pow_le_pow_right (by decide) hn;have h2:2^n*b.toNat≤2^24*255:=Nat.mul_le_mul h (by omega);unfold gE;rw[sU,UInt32.toNat_ofNat_of_lt' (by rw[Nat.mul_comm]; simp only[UInt32.size]; omega),Nat.mul_comm]
theorem pW (x y:UInt32):(fV x y).toNat=x.toNat ||| y.toNat:=UInt32.toNat_or x y
theorem Dp (b:List UInt8) (t:Nat):(gn b t).toNat=((((b.getD (4*t) 0).toNat*256+(b.getD (4*t+1) 0).toNat)*256+(b.getD (4*t+2) 0).toNat)*256+(b.getD (4*t+3) 0).toNat):=by
  unfold gn;generalize b.getD (4*t) 0=p;generalize b.getD (4*t+1) 0=q;generalize b.getD (4*t+2) 0=r;generalize b.getD (4*t+3) 0=s;have hp:=p.toNat_lt;have hq:=q.toNat_lt;have hr:=r.toNat_lt;have hs:=s.toNat_lt;rw[pW,pW,pW,oF _ _ (by decide),oF _ _ (by decide),oF _ _ (by decide),sU];have e1:=Nat.two_pow_add_eq_or_of_lt (i:=24) (b:=2^16*q.toNat) (by omega) p.toNat;rw[← e1];have e2:=Nat.two_pow_add_eq_or_of_lt (i:=16) (b:=2^8*r.toNat) (by omega) (2^8*p.toNat+q.toNat);have e3:2^24*p.toNat+2^16*q.toNat=2^16*(2^8*p.toNat+q.toNat):=by omega
  rw[e3,← e2];have e4:=Nat.two_pow_add_eq_or_of_lt (i:=8) (b:=s.toNat) (by omega) (2^8*(2^8*p.toNat+q.toNat)+r.toNat);have e5:2^16*(2^8*p.toNat+q.toNat)+2^8*r.toNat=2^8*(2^8*(2^8*p.toNat+q.toNat)+r.toNat):=by omega
  rw[e5,← e4];omega
theorem four (b:List UInt8) (t:Nat) (h:4*t+4≤b.length):(b.drop (4*t)).take 4=[b.getD (4*t) 0,b.getD (4*t+1) 0,b.getD (4*t+2) 0,b.getD (4*t+3) 0]:=by
  apply LC;intro j;rw[K0,Lf];rcases j with _ | _ | _ | _ | j
  ·simp[List.getD,KH (show 4*t<b.length by omega)]
  ·simp[List.getD,KH (show 4*t+1<b.length by omega)]
  ·simp[List.getD,KH (show 4*t+2<b.length by omega)]
  ·simp[List.getD,KH (show 4*t+3<b.length by omega)]
  ·rw[if_neg (by omega)];rfl
theorem Kz (b:List UInt8) (t:Nat) (h:4*t+4≤b.length):D.int .u32 (IntKind.u32.wrap (aV ((b.drop (4*t)).take 4):Int))=wD (gn b t):=by
  have h1:=Dp b t;rw[four b t h];unfold wD;rw[h1];generalize b.getD (4*t) 0=p;generalize b.getD (4*t+1) 0=q;generalize b.getD (4*t+2) 0=r;generalize b.getD (4*t+3) 0=s;have hp:=p.toNat_lt;have hq:=q.toNat_lt;have hr:=r.toNat_lt;have hs:=s.toNat_lt;have e:aV [p,q,r,s]=(((p.toNat*256+q.toNat)*256+r.toNat)*256+s.toNat):=by
    simp only[aV,Ln,LL];omega
  rw[e,IntWalk.u32_in _ (by omega)]
theorem jF (b:List UInt8) (n:Nat):(dw b n).length=n:=by simp[dw]
theorem iQ (b:List UInt8):∀ n,(bN b n).length=16+n
  | 0=>by simp[bN,jF]
  | n+1=>by rw[bN,KJ,iQ b n]; simp; omega
theorem jV {α:Type} (l:List α) (z x:α) (n:Nat) (h:0<n):(l++List.replicate n z).set l.length x=(l++[x])++List.replicate (n-1) z:=by
  obtain⟨k,rfl⟩:∃ k,n=k+1:=⟨n-1,by omega⟩
  rw[L8 _ _ (KT _),Nat.sub_self,List.replicate_succ,List.set_cons_zero];simp
theorem AQ {l:List UInt32} {r:List UInt32} {i:Nat} (h:i<l.length):(l++r)[i]?=some (l.getD i 0):=by
  rw[Lm h];simp[h]
def qM (b:List UInt8) (t:Nat):St:=⟨aT [(0,.w (.c (.d (.sl (b.map bD))))),(2,.w (.c (.pa 1 1))),(3,.w (.c (.pa 2 1))),(10,.w (.c (.d (.int .i64 (t:Int)))))],hL [(1,.row 1 ((List.replicate 64 (0:UInt32)).map wD)),(2,.row 1 ((dw b t++List.replicate (64-t) 0).map wD))],uL [1,2]⟩
def qN (b:List UInt8) (n:Nat):St:=⟨aT [(2,.w (.c (.pa 1 1))),(3,.w (.c (.pa 2 1))),(5,.w (.c (.d (.int .i64 ((16+n:Nat):Int)))))],hL [(1,.row 1 ((List.replicate 64 (0:UInt32)).map wD)),(2,.row 1 ((bN b n++List.replicate (48-n) 0).map wD))],uL [1,2]⟩
def nI:aH := .seq (.reg [oO 11 (.bin .lss (.t 10) (kI 16))]) (.seq (.cond (.t 11) (.skip) (.exit 0)) (.seq (.block 1 (.seq (.reg [oM 12 10,oM 4 12]) (.reg [oM 13 4,oM 14 0,oM 15 4,oO 16 (.bin .mul (.t 15) (kI 4)),oM 17 4,oO 18 (.bin .add (.t 17) (kI 1)),oO 19 (.bin .mul (.t 18) (kI 4)),oO 20 (.slice 1 (.t 14) (some (.t 16)) (some (.t 19)) none),oO 21 (.call 31 [(.t 20)] none),oO 22 (.conv .u32 (.t 21)),oO 23 (.idxPa 1 64 (.t 3) (.t 13)),oN (.store .sc (.t 23) (.t 22))]))) (.reg [oO 24 (.bin .add (.t 10) (kI 1)),oM 10 24])))
def nJ:aH := .seq (.seq (.reg [oM 25 5,oO 26 (.bin .lss (.t 25) (kI 64))]) (.cond (.t 26) (.skip) (.exit 2))) (.seq (.block 3 (.seq (.reg [oM 29 5,oO 30 (.bin .sub (.t 29) (kI 15)),oO 31 (.idxPa 1 64 (.t 3) (.t 30)),oO 32 (.load .sc (.t 31)),oM 33 5,oO 34 (.bin .sub (.t 33) (kI 2)),oO 35 (.idxPa 1 64 (.t 3) (.t 34)),oO 36 (.load .sc (.t 35)),oM 6 32,oM 7 36]) (.seq (.reg [oM 37 6,oO 38 (.call 75 [(.t 37),(kI 7)] none),oM 39 6,oO 40 (.call 75 [(.t 39),(kI 18)] none),oO 41 (.bin .xor (.t 38) (.t 40)),oM 42 6,oO 43 (.bin .shr (.t 42) (.k (.c (.d (.int .u64 3))))),oO 44 (.bin .xor (.t 41) (.t 43)),oM 8 44]) (.seq (.reg [oM 45 7,oO 46 (.call 75 [(.t 45),(kI 17)] none),oM 47 7,oO 48 (.call 75 [(.t 47),(kI 19)] none),oO 49 (.bin .xor (.t 46) (.t 48)),oM 50 7,oO 51 (.bin .shr (.t 50) (.k (.c (.d (.int .u64 10))))),
 oO 52 (.bin .xor (.t 49) (.t 51)),oM 9 52]) (.reg [oM 53 5,oM 54 9,oM 55 5,oO 56 (.bin .sub (.t 55) (kI 7)),oO 57 (.idxPa 1 64 (.t 3) (.t 56)),oO 58 (.load .sc (.t 57)),oO 59 (.bin .add (.t 54) (.t 58)),oM 60 8,oO 61 (.bin .add (.t 59) (.t 60)),oM 62 5,oO 63 (.bin .sub (.t 62) (kI 16)),oO 64 (.idxPa 1 64 (.t 3) (.t 63)),oO 65 (.load .sc (.t 64)),oO 66 (.bin .add (.t 61) (.t 65)),oO 67 (.idxPa 1 64 (.t 3) (.t 53)),oN (.store .sc (.t 67) (.t 66))]))))) (.reg [oM 27 5,oO 28 (.bin .add (.t 27) (kI 1)),oM 5 28]))
def uj:aB:=⟨1,69,.seq (.reg [oO 2 (.allocArr [(.int .u32 0),(.int .u32 0),(.int .u32 0),(.int .u32 0),(.int .u32 0),(.int .u32 0),(.int .u32 0),(.int .u32 0),(.int .u32 0),(.int .u32 0),(.int .u32 0),(.int .u32 0),(.int .u32 0),(.int .u32 0),(.int .u32 0),(.int .u32 0),(.int .u32 0),(.int .u32 0),(.int .u32 0),(.int .u32 0),(.int .u32 0),(.int .u32 0),(.int .u32 0),(.int .u32 0),(.int .u32 0),(.int .u32 0),(.int .u32 0),(.int .u32 0),(.int .u32 0),(.int .u32 0),(.int .u32 0),(.int .u32 0),(.int .u32 0),(.int .u32 0),(.int .u32 0),(.int .u32 0),(.int .u32 0),(.int .u32 0),(.int .u32 0),(.int .u32 0),(.int .u32 0),(.int .u32 0),(.int .u32 0),(.int .u32 0),(.int .u32 0),(.int .u32 0),(.int .u32 0),(.int .u32 0),(.int .u32 0),(.int .u32 0),(.int .u32 0),(.int .u32 0),(.int .u32 0),(.int .u32 0),(.int .u32 0),(.int .u32 0),(.int .u32 0),(.int .u32 0),(.int .u32 0),(.int .u32 0),(.int .u32 0),(.int .u32 0),(.int .u32 0),(.int .u32 0)])])
 (.seq (.reg [oO 3 (.allocArr [(.int .u32 0),(.int .u32 0),(.int .u32 0),(.int .u32 0),(.int .u32 0),(.int .u32 0),(.int .u32 0),(.int .u32 0),(.int .u32 0),(.int .u32 0),(.int .u32 0),(.int .u32 0),(.int .u32 0),(.int .u32 0),(.int .u32 0),(.int .u32 0),(.int .u32 0),(.int .u32 0),(.int .u32 0),(.int .u32 0),(.int .u32 0),(.int .u32 0),(.int .u32 0),(.int .u32 0),(.int .u32 0),(.int .u32 0),(.int .u32 0),(.int .u32 0),(.int .u32 0),(.int .u32 0),(.int .u32 0),(.int .u32 0),(.int .u32 0),(.int .u32 0),(.int .u32 0),(.int .u32 0),(.int .u32 0),(.int .u32 0),(.int .u32 0),(.int .u32 0),(.int .u32 0),(.int .u32 0),(.int .u32 0),(.int .u32 0),(.int .u32 0),(.int .u32 0),(.int .u32 0),(.int .u32 0),(.int .u32 0),(.int .u32 0),(.int .u32 0),(.int .u32 0),(.int .u32 0),(.int .u32 0),(.int .u32 0),(.int .u32 0),(.int .u32 0),(.int .u32 0),(.int .u32 0),(.int .u32 0),(.int .u32 0),(.int .u32 0),(.int .u32 0),(.int .u32 0)])])
 (.seq (.seq (.reg [oO 10 (.mv (kI 0))]) (.block 0 (.loop nI))) (.seq (.seq (.reg [oO 5 (.mv (kI 16))]) (.block 2 (.loop nJ))) (.seq (.reg [oO 68 (.load (.ag 64) (.t 3)),oN (.store (.ag 64) (.t 2) (.t 68))]) (.ret))))),[(2,(some (.ag 64)))]⟩
theorem EF:aA Tryd.prog { own:=[],comp:=[],frz:=[],nils:=[] } Tryd.f74=some uj:=by kernel_rfl
set_option maxHeartbeats 800000 in
theorem Gq (G:ak) (b:List UInt8) (hb:b.length=64):ap Tryd.prog G 74 [.sl (b.map bD)] (.w (.c (.d (.agg ((cd b).map wD))))):=by
  refine aC Tryd.func74 EF rfl rfl ?_;simp only[uj,ah,wx,aa,seval,iteOmega,toNatUp];refine ba (qM b) (fun t=>16-t) (fun t=>t≤16) 0 (KU _) ?_ ?_
  ·refine az (fun i=>8*(i+1)) ?_ ?_ rfl rfl <;> simp only[wx,aw,aa,seval,iteOmega,toNatUp];exact⟨rfl,rfl⟩
  ·intro t ht;by_cases hlt:t<16
   ·have e1:IntKind.i64.wrap ((t:Int)*4)=((4*t:Nat):Int):=by rw[IntWalk.i64_in _ (by omega)]; omega
    have e2:IntKind.i64.wrap ((t:Int)+1)=((t+1:Nat):Int):=by rw[IntWalk.i64_in _ (by omega)]; rfl
    have e3:IntKind.i64.wrap (((t+1:Nat):Int)*4)=((4*t+4:Nat):Int):=by rw[IntWalk.i64_in _ (by omega)]; omega
    have e4:4*t+4-4*t=4:=by omega
    simp only[nI,qM,wx,aa,seval,iteOmega,toNatUp,e1,e2,e3,e4];refine aI (qC G _ (by rw[KL,KP]; omega)) rfl (.inr rfl) ?_;have h1:t<(dw b t++List.replicate (64-t) 0).length:=by rw[KJ,jF,KZ]; omega
    have h2:=jV (dw b t) 0 (gn b t) (64-t) (by omega);rw[jF] at h2;have h3:dw b t++[gn b t]=dw b (t+1):=by simp[dw,List.range_succ]
    have h4:64-t-1=64-(t+1):=by omega
    rw[h3,h4] at h2;simp only[wx,aa,seval,iteOmega,toNatUp,Kz b t (by omega),Lv,mj h1 (jj _),mm,h2,e2];refine aS (t+1) (by omega) (by omega) (az id ?_ ?_ rfl rfl) <;> simp only[wx,aw,aa,seval,iteOmega,toNatUp]
   ·obtain rfl:t=16:=by omega
    simp only[nI,qM,wx,aa,seval,iteOmega,toNatUp];refine ba (qN b) (fun n=>48-n) (fun n=>n≤48) 0 (KU _) ?_ ?_
    ·have h0:dw b 16=bN b 0:=rfl;refine az id ?_ ?_ rfl rfl <;> simp only[wx,aw,aa,seval,iteOmega,toNatUp,h0]
    ·intro n hn;by_cases hlt:n<48
     ·have hl:=iQ b n;have w1:∀ k:Nat,k≤16→IntKind.i64.wrap (((16+n:Nat):Int)-(k:Int))=((16+n-k:Nat):Int):=fun k hk=>by rw[IntWalk.i64_in _ (by omega)]; omega
      have e15:IntKind.i64.wrap (((16+n:Nat):Int)-15)=((16+n-15:Nat):Int):=w1 15 (by decide);have e2:IntKind.i64.wrap (((16+n:Nat):Int)-2)=((16+n-2:Nat):Int):=w1 2 (by decide);have e7:IntKind.i64.wrap (((16+n:Nat):Int)-7)=((16+n-7:Nat):Int):=w1 7 (by decide);have e16:IntKind.i64.wrap (((16+n:Nat):Int)-16)=((16+n-16:Nat):Int):=w1 16 (by decide);have e0:IntKind.i64.wrap (((16+n:Nat):Int)+1)=((16+(n+1):Nat):Int):=by rw[IntWalk.i64_in _ (by omega)]; omega
      have g:∀ k,k<16+n→((bN b n++List.replicate (48-n) 0).map wD)[k]?=some (wD ((bN b n).getD k 0)):=fun k hk=>by
        rw[LD,AQ (by omega)]; rfl
      have g15:=g (16+n-15) (by omega);have g2:=g (16+n-2) (by omega);have g7:=g (16+n-7) (by omega);have g16:=g (16+n-16) (by omega);simp only[nJ,qN,wx,aa,seval,iteOmega,toNatUp,e15,e2,e7,e16,e0,g15,g2,g7,g16];refine aI (fI G _ 7 (by decide) (by decide)) rfl (.inr rfl) ?_;simp only[wx,aa,seval,iteOmega,toNatUp];refine aI (fI G _ 18 (by decide) (by decide)) rfl (.inr rfl) ?_;simp only[wx,aa,seval,iteOmega,toNatUp];refine aI (fI G _ 17 (by decide) (by decide)) rfl (.inr rfl) ?_;simp only[wx,aa,seval,iteOmega,toNatUp];refine aI (fI G _ 19 (by decide) (by decide)) rfl (.inr rfl) ?_;have h1:16+n<(bN b n++List.replicate (48-n) 0).length:=by rw[KJ,hl,KZ]; omega
      have h2:=jV (bN b n) 0 (iC (bN b n) (16+n)) (48-n) (by omega);rw[hl] at h2;have h4:48-n-1=48-(n+1):=by omega
      have h3:bN b n++[iC (bN b n) (16+n)]=bN b (n+1):=rfl;rw[h3,h4] at h2;simp only[iC,qq,qt] at h2;simp only[wx,aa,seval,iteOmega,toNatUp,e15,e2,e7,e16,e0,g15,g2,g7,g16,mj h1 (jj _),mm,h2];refine aS (n+1) (by omega) (by omega) (az id ?_ ?_ rfl rfl) <;> simp only[wx,aw,aa,seval,iteOmega,toNatUp]
     ·have hn48:n=48:=by omega
      have hl:(bN b n).length=64:=by rw[iQ]; omega
      have h0:48-n=0:=by omega
      simp only[nJ,qN,wx,aa,seval,iteOmega,toNatUp,h0,K5,LF,hl];refine gq ?_;simp only[wx,aa,seval,iteOmega,toNatUp,w5 b n hn48,hl]
theorem Cj {G:ak} {n:Nat} {c:C} (h:G.at n=some c) (f:Nat→V):ev G f (.g n)=.w (.c c):=by simp[ev,h]
theorem getD_some {l:List UInt32} {i:Nat} (h:i<l.length):l[i]?=some (l.getD i 0):=by simp[h]
theorem eight {l:List UInt32} (h:l.length=8):∃ a b c d e f g i,l=[a,b,c,d,e,f,g,i]:=by
  match l,h with
  | [a,b,c,d,e,f,g,i],_=>exact⟨a,b,c,d,e,f,g,i,rfl⟩
def bh.list (s:bh):List UInt32:=[s.a,s.b,s.c,s.d,s.e,s.f,s.g,s.h]
theorem AR (s:bh) (k w:UInt32):(s.step k w).a=aY (aY (aY (aY (aY s.h (rv s.e)) (rG s.e s.f s.g)) k) w) (aY (Cg s.a) (Ci s.a s.b s.c)):=rfl
theorem AU (s:bh) (k w:UInt32):(s.step k w).b=s.a:=rfl
theorem AV (s:bh) (k w:UInt32):(s.step k w).c=s.b:=rfl
theorem AW (s:bh) (k w:UInt32):(s.step k w).d=s.c:=rfl
theorem AY (s:bh) (k w:UInt32):(s.step k w).e=aY s.d (aY (aY (aY (aY s.h (rv s.e)) (rG s.e s.f s.g)) k) w):=rfl
theorem AZ (s:bh) (k w:UInt32):(s.step k w).f=s.e:=rfl
theorem A0 (s:bh) (k w:UInt32):(s.step k w).g=s.f:=rfl
theorem A1 (s:bh) (k w:UInt32):(s.step k w).h=s.g:=rfl
def mT (h:List UInt32) (b:List UInt8) (s:bh) (n:Nat):St:=⟨aT [(2,.w (.c (.pa 1 1))),(4,.w (.c (.pa 2 1))),(5,.w (.c (.pa 3 1))),(6,.w (.c (.d (wD s.a)))),(7,.w (.c (.d (wD s.b)))),(8,.w (.c (.d (wD s.c)))),(9,.w (.c (.d (wD s.d)))),(10,.w (.c (.d (wD s.e)))),(11,.w (.c (.d (wD s.f)))),(12,.w (.c (.d (wD s.g)))),(13,.w (.c (.d (wD s.h)))),(37,.w (.c (.d (.int .i64 (n:Int)))))],
  hL [(1,.row 1 (h.map wD)),(2,.row 1 ((List.replicate 8 (0:UInt32)).map wD)),(3,.row 1 ((cd b).map wD))],uL [1,2,3]⟩
def kM (h:List UInt32) (b:List UInt8) (n:Nat):St:=mT h b ((bh.of h).rounds aW (cd b) n) n
def sumTo (s:bh) (h:List UInt32) (k:Nat):List UInt32:=(s.sum h).take k++h.drop k
def mU (h:List UInt32) (s:bh) (n:Nat):St:=⟨aT [(2,.w (.c (.pa 1 1))),(4,.w (.c (.pa 2 1))),(108,.w (.c (.d (.agg (s.list.map wD))))),(109,.w (.c (.d (.int .i64 (n:Int)))))],
  hL [(1,.row 1 ((sumTo s h n).map wD)),(2,.row 1 ((List.replicate 8 (0:UInt32)).map wD))],uL [1,2]⟩
def nZ:aH := .seq (.reg [oO 38 (.bin .lss (.t 37) (kI 64))]) (.seq (.cond (.t 38) (.skip) (.exit 0)) (.seq (.block 1 (.seq (.reg [oM 39 37,oM 14 39]) (.seq (.reg [oM 40 13,oM 41 10,oO 42 (.call 75 [(.t 41),(kI 6)] none),oM 43 10,oO 44 (.call 75 [(.t 43),(kI 11)] none),oO 45 (.bin .xor (.t 42) (.t 44)),oM 46 10,oO 47 (.call 75 [(.t 46),(kI 25)] none),oO 48 (.bin .xor (.t 45) (.t 47)),oO 49 (.bin .add (.t 40) (.t 48)),oM 50 10,oM 51 11,oO 52 (.bin .and (.t 50) (.t 51)),oM 53 10,oO 54 (.un .xor (.t 53)),oM 55 12,oO 56 (.bin .and (.t 54) (.t 55)),oO 57 (.bin .xor (.t 52) (.t 56)),oO 58 (.bin .add (.t 49) (.t 57)),oM 59 14,oO 60 (.idxPa 1 64 (.g 1) (.t 59)),oO 61 (.load .sc (.t 60)),oO 62 (.bin .add (.t 58) (.t 61)),oM 63 14,oO 64 (.idxPa 1 64 (.t 5) (.t 63)),oO 65 (.load .sc (.t 64)),
 oO 66 (.bin .add (.t 62) (.t 65)),oM 15 66]) (.seq (.reg [oM 67 6,oO 68 (.call 75 [(.t 67),(kI 2)] none),oM 69 6,oO 70 (.call 75 [(.t 69),(kI 13)] none),oO 71 (.bin .xor (.t 68) (.t 70)),oM 72 6,oO 73 (.call 75 [(.t 72),(kI 22)] none),oO 74 (.bin .xor (.t 71) (.t 73)),oM 75 6,oM 76 7,oO 77 (.bin .and (.t 75) (.t 76)),oM 78 6,oM 79 8,oO 80 (.bin .and (.t 78) (.t 79)),oO 81 (.bin .xor (.t 77) (.t 80)),oM 82 7,oM 83 8,oO 84 (.bin .and (.t 82) (.t 83)),oO 85 (.bin .xor (.t 81) (.t 84)),oO 86 (.bin .add (.t 74) (.t 85)),oM 16 86]) (.reg [oM 87 12,oM 88 11,oM 89 10,oM 90 9,oM 91 15,oO 92 (.bin .add (.t 90) (.t 91)),oM 93 8,oM 94 7,oM 95 6,oM 96 15,oM 97 16,oO 98 (.bin .add (.t 96) (.t 97)),oM 13 87,oM 12 88,oM 11 89,oM 10 92,oM 9 93,oM 8 94,oM 7 95,oM 6 98]))))) (.reg [oO 99 (.bin .add (.t 37) (kI 1)),
 oM 37 99])))
def oa:aH := .seq (.reg [oO 110 (.bin .lss (.t 109) (kI 8))]) (.seq (.cond (.t 110) (.skip) (.exit 2)) (.seq (.block 3 (.seq (.reg [oM 111 109,oO 112 (.idxArr 1 8 .sc (.t 108) (.t 109)),oM 17 111,oM 18 112]) (.reg [oM 113 17,oO 114 (.idxPa 1 8 (.t 2) (.t 113)),oO 115 (.load .sc (.t 114)),oM 116 18,oO 117 (.bin .add (.t 115) (.t 116)),oO 118 (.idxPa 1 8 (.t 2) (.t 113)),oN (.store .sc (.t 118) (.t 117))]))) (.reg [oO 119 (.bin .add (.t 109) (kI 1)),oM 109 119])))
def w7:aB:=⟨2,121,.seq (.reg [oO 2 (.box .ownArr (.t 0)),oO 4 (.allocArr [(.int .u32 0),(.int .u32 0),(.int .u32 0),(.int .u32 0),(.int .u32 0),(.int .u32 0),(.int .u32 0),(.int .u32 0)])]) (.seq (.reg [oM 19 1,oO 20 (.call 74 [(.t 19)] none),oO 5 (.allocArr [(.int .u32 0),(.int .u32 0),(.int .u32 0),(.int .u32 0),(.int .u32 0),(.int .u32 0),(.int .u32 0),(.int .u32 0),(.int .u32 0),(.int .u32 0),(.int .u32 0),(.int .u32 0),(.int .u32 0),(.int .u32 0),(.int .u32 0),(.int .u32 0),(.int .u32 0),(.int .u32 0),(.int .u32 0),(.int .u32 0),(.int .u32 0),(.int .u32 0),(.int .u32 0),(.int .u32 0),(.int .u32 0),(.int .u32 0),(.int .u32 0),(.int .u32 0),(.int .u32 0),(.int .u32 0),(.int .u32 0),(.int .u32 0),(.int .u32 0),(.int .u32 0),(.int .u32 0),(.int .u32 0),(.int .u32 0),(.int .u32 0),(.int .u32 0),(.int .u32 0),(.int .u32 0),(.int .u32 0),(.int .u32 0),(.int .u32 0),(.int .u32 0),(.int .u32 0),(.int .u32 0),(.int .u32 0),(.int .u32 0),(.int .u32 0),(.int .u32 0),(.int .u32 0),(.int .u32 0),(.int .u32 0),(.int .u32 0),(.int .u32 0),(.int .u32 0),(.int .u32 0),(.int .u32 0),(.int .u32 0),(.int .u32 0),(.int .u32 0),(.int .u32 0),(.int .u32 0)]),
 oN (.store (.ag 64) (.t 5) (.t 20))]) (.seq (.reg [oO 21 (.idxPa 1 8 (.t 2) (kI 0)),oO 22 (.load .sc (.t 21)),oO 23 (.idxPa 1 8 (.t 2) (kI 1)),oO 24 (.load .sc (.t 23)),oO 25 (.idxPa 1 8 (.t 2) (kI 2)),oO 26 (.load .sc (.t 25)),oO 27 (.idxPa 1 8 (.t 2) (kI 3)),oO 28 (.load .sc (.t 27)),oO 29 (.idxPa 1 8 (.t 2) (kI 4)),oO 30 (.load .sc (.t 29)),oO 31 (.idxPa 1 8 (.t 2) (kI 5)),oO 32 (.load .sc (.t 31)),oO 33 (.idxPa 1 8 (.t 2) (kI 6)),oO 34 (.load .sc (.t 33)),oO 35 (.idxPa 1 8 (.t 2) (kI 7)),oO 36 (.load .sc (.t 35)),oM 6 22,oM 7 24,oM 8 26,oM 9 28,oM 10 30,oM 11 32,oM 12 34,oM 13 36]) (.seq (.seq (.reg [oO 37 (.mv (kI 0))]) (.block 0 (.loop nZ))) (.seq (.seq (.reg [oM 100 6,oM 101 7,oM 102 8,oM 103 9,oM 104 10,oM 105 11,oM 106 12,oM 107 13,oO 108 (.build [(.d (.int .u32 0)),(.d (.int .u32 0)),(.d (.int .u32 0)),(.d (.int .u32 0)),(.d (.int .u32 0)),(.d (.int .u32 0)),(.d (.int .u32 0)),(.d (.int .u32 0))] [(0,1,(.t 100)),(1,1,(.t 101)),(2,1,(.t 102)),(3,1,(.t 103)),(4,1,(.t 104)),(5,1,(.t 105)),(6,1,(.t 106)),(7,1,(.t 107))]),
 oO 109 (.mv (kI 0))]) (.block 2 (.loop oa))) (.seq (.reg [oO 120 (.load (.ag 8) (.t 2)),oN (.store (.ag 8) (.t 4) (.t 120))]) (.ret)))))),[(4,(some (.ag 8)))]⟩
theorem Gr:aA Tryd.prog { own:=[2],comp:=[],frz:=[],nils:=[] } Tryd.f64=some w7:=by kernel_rfl
theorem HY (G:ak) (hG:G.at 1=some (.ra (aW.map wD))) (h:List UInt32) (b:List UInt8) (hh:h.length=8) (hb:b.length=64):ap Tryd.prog G 64 [.agg (h.map wD),.sl (b.map bD)] (.w (.c (.d (.agg ((iv h b).map wD))))):=by
  refine aC Tryd.func64 Gr rfl rfl ?_;have hsl:(cd b).length=64:=iQ b 48;have eg:=@Cj G 1 _ hG;have hcl:aW.length=64:=sS;obtain⟨h0,h1,h2,h3,h4,h5,h6,h7,rfl⟩:=eight hh;simp only[w7,ah,wx,aa,seval,iteOmega,toNatUp];refine aI (Gq G b hb) rfl (.inl rfl) ?_;simp only[wx,aa,seval,iteOmega,toNatUp,hsl];refine ba (kM [h0,h1,h2,h3,h4,h5,h6,h7] b) (fun n=>64-n) (fun n=>n≤64) 0 (KU _) ?_ ?_
  ·refine az (fun i=>match i with | 1=>16 | 2=>32 | _=>40) ?_ ?_ rfl rfl <;> simp only[kM,mT,wx,aw,aa,seval,iteOmega,toNatUp]
   ·exact⟨rfl,rfl,rfl,rfl,rfl,rfl,rfl,rfl⟩
   ·rfl
  ·intro n hn;by_cases hlt:n<64
   ·have e1:IntKind.i64.wrap ((n:Int)+1)=((n+1:Nat):Int):=by rw[IntWalk.i64_in _ (by omega)]; rfl
    have g1:(aW.map wD)[n]?=some (wD (aW.getD n 0)):=by rw[bm,getD_some (by omega)]; rfl
    have g2:((cd b).map wD)[n]?=some (wD ((cd b).getD n 0)):=by rw[bm,getD_some (by omega)]; rfl
    have hr:(bh.of [h0,h1,h2,h3,h4,h5,h6,h7]).rounds aW (cd b) (n+1)=((bh.of [h0,h1,h2,h3,h4,h5,h6,h7]).rounds aW (cd b) n).step (aW.getD n 0) ((cd b).getD n 0):=rfl;generalize hs:(bh.of [h0,h1,h2,h3,h4,h5,h6,h7]).rounds aW (cd b) n=s at hr;simp only[nZ,kM,mT,hs,wx,aa,seval,iteOmega,toNatUp,eg,g1,g2,e1];refine aI (fI G _ 6 (by decide) (by decide)) rfl (.inr rfl) ?_;simp only[wx,aa,seval,iteOmega,toNatUp];refine aI (fI G _ 11 (by decide) (by decide)) rfl (.inr rfl) ?_;simp only[wx,aa,seval,iteOmega,toNatUp];refine aI (fI G _ 25 (by decide) (by decide)) rfl (.inr rfl) ?_;simp only[wx,aa,seval,iteOmega,toNatUp,eg,g1,g2,hcl];refine aI (fI G _ 2 (by decide) (by decide)) rfl (.inr rfl) ?_;simp only[wx,aa,seval,iteOmega,toNatUp];refine aI (fI G _ 13 (by decide) (by decide)) rfl (.inr rfl) ?_;simp only[wx,aa,seval,iteOmega,toNatUp];refine aI (fI G _ 22 (by decide) (by decide)) rfl (.inr rfl) ?_;simp only[wx,aa,seval,iteOmega,toNatUp,e1];refine aS (n+1) (by omega) (by omega) ?_;rw[kM,hr];refine (az id ?_ ?_ rfl rfl) <;> simp only[wx,aw,aa,seval,iteOmega,toNatUp,AR,AU,AV,AW,AY,AZ,A0,A1];exact⟨rfl,rfl⟩
   ·obtain rfl:n=64:=by omega
    have hK:iv [h0,h1,h2,h3,h4,h5,h6,h7] b=((bh.of [h0,h1,h2,h3,h4,h5,h6,h7]).rounds aW (cd b) 64).sum [h0,h1,h2,h3,h4,h5,h6,h7]:=rfl;rw[hK];simp only[kM];generalize (bh.of [h0,h1,h2,h3,h4,h5,h6,h7]).rounds aW (cd b) 64=s;simp only[nZ,mT,wx,aa,seval,iteOmega,toNatUp];refine ba (mU [h0,h1,h2,h3,h4,h5,h6,h7] s) (fun n=>8-n) (fun n=>n≤8) 0 (KU _) ?_ ?_
    ·refine az id ?_ ?_ rfl rfl <;> simp only[wx,aw,aa,seval,iteOmega,toNatUp,mU]
     ·rfl
     ·rfl
    ·have e8:s.sum [h0,h1,h2,h3,h4,h5,h6,h7]=[aY h0 s.a,aY h1 s.b,aY h2 s.c,aY h3 s.d,aY h4 s.e,aY h5 s.f,aY h6 s.g,aY h7 s.h]:=rfl;intro n hn;have hc:n=8∨n=0∨n=1∨n=2∨n=3∨n=4∨n=5∨n=6∨n=7:=by omega
     rcases hc with rfl | rfl | rfl | rfl | rfl | rfl | rfl | rfl | rfl
     ·simp only[oa,mU,sumTo,e8,bh.list,wx,aa,seval,iteOmega,toNatUp];exact gq (by simp only[wx,aa,seval,iteOmega,toNatUp])
     all_goals
       simp only[oa,mU,sumTo,e8,bh.list,wx,wy,aa,seval,iteOmega,toNatUp]
       first | refine aS 1 (by decide) (by decide) ?_ | refine aS 2 (by decide) (by decide) ?_ | refine aS 3 (by decide) (by decide) ?_ | refine aS 4 (by decide) (by decide) ?_ | refine aS 5 (by decide) (by decide) ?_ | refine aS 6 (by decide) (by decide) ?_ | refine aS 7 (by decide) (by decide) ?_ | refine aS 8 (by decide) (by decide) ?_
       refine az id ?_ ?_ rfl rfl <;> simp only[wx,aw,aa,seval,iteOmega,toNatUp,sumTo,e8,bh.list] <;> rfl
theorem Dq {l:List UInt8} {i:Nat} (h:i<l.length):l[i]?=some (l.getD i 0):=by simp[h]
def qO (h k:List UInt32) (b:List UInt8) (t:Nat):St:=⟨aT [(0,.w (.c (.d (.sl (h.map wD))))),(1,.w (.c (.d (.sl (k.map wD))))),(2,.w (.c (.d (.sl (b.map bD))))),(7,.w (.c (.pa 1 1))),(8,.w (.c (.d (.int .i64 (t:Int)))))],
  hL [(1,.row 1 ((dw b t++List.replicate (64-t) 0).map wD))],uL [1]⟩
def qP (h k:List UInt32) (b:List UInt8) (n:Nat):St:=⟨aT [(0,.w (.c (.d (.sl (h.map wD))))),(1,.w (.c (.d (.sl (k.map wD))))),(7,.w (.c (.pa 1 1))),(9,.w (.c (.d (.int .i64 ((16+n:Nat):Int)))))],
  hL [(1,.row 1 ((bN b n++List.replicate (48-n) 0).map wD))],uL [1]⟩
def mV (h:List UInt32) (b:List UInt8) (s:bh) (n:Nat):St:=⟨aT [(0,.w (.c (.d (.sl (h.map wD))))),(1,.w (.c (.d (.sl (aW.map wD))))),(7,.w (.c (.pa 1 1))),(12,.w (.c (.d (wD s.a)))),(13,.w (.c (.d (wD s.b)))),(14,.w (.c (.d (wD s.c)))),(15,.w (.c (.d (wD s.d)))),(16,.w (.c (.d (wD s.e)))),(17,.w (.c (.d (wD s.f)))),(18,.w (.c (.d (wD s.g)))),(19,.w (.c (.d (wD s.h)))),(20,.w (.c (.d (.int .i64 (n:Int)))))],
  hL [(1,.row 1 ((cd b).map wD))],uL [1]⟩
def kN (h:List UInt32) (b:List UInt8) (n:Nat):St:=mV h b ((bh.of h).rounds aW (cd b) n) n
def nK:aH := .seq (.seq (.reg [oM 23 8,oO 24 (.bin .lss (.t 23) (kI 16))]) (.cond (.t 24) (.skip) (.exit 0))) (.seq (.block 1 (.reg [oM 27 8,oM 28 2,oM 29 8,oO 30 (.bin .mul (kI 4) (.t 29)),oO 31 (.idxSl 1 (.t 28) (.t 30)),oO 32 (.load .sc (.t 31)),oO 33 (.conv .u32 (.t 32)),oO 34 (.bin .shl (.t 33) (.k (.c (.d (.int .u64 24))))),oM 35 2,oM 36 8,oO 37 (.bin .mul (kI 4) (.t 36)),oO 38 (.bin .add (.t 37) (kI 1)),oO 39 (.idxSl 1 (.t 35) (.t 38)),oO 40 (.load .sc (.t 39)),oO 41 (.conv .u32 (.t 40)),oO 42 (.bin .shl (.t 41) (.k (.c (.d (.int .u64 16))))),oO 43 (.bin .or (.t 34) (.t 42)),oM 44 2,oM 45 8,oO 46 (.bin .mul (kI 4) (.t 45)),oO 47 (.bin .add (.t 46) (kI 2)),oO 48 (.idxSl 1 (.t 44) (.t 47)),oO 49 (.load .sc (.t 48)),oO 50 (.conv .u32 (.t 49)),oO 51 (.bin .shl (.t 50) (.k (.c (.d (.int .u64 8))))),
 oO 52 (.bin .or (.t 43) (.t 51)),oM 53 2,oM 54 8,oO 55 (.bin .mul (kI 4) (.t 54)),oO 56 (.bin .add (.t 55) (kI 3)),oO 57 (.idxSl 1 (.t 53) (.t 56)),oO 58 (.load .sc (.t 57)),oO 59 (.conv .u32 (.t 58)),oO 60 (.bin .or (.t 52) (.t 59)),oO 61 (.idxPa 1 64 (.t 7) (.t 27)),oN (.store .sc (.t 61) (.t 60))])) (.reg [oM 25 8,oO 26 (.bin .add (.t 25) (kI 1)),oM 8 26]))
def nL:aH := .seq (.seq (.reg [oM 62 9,oO 63 (.bin .lss (.t 62) (kI 64))]) (.cond (.t 63) (.skip) (.exit 2))) (.seq (.block 3 (.seq (.reg [oM 66 9,oO 67 (.bin .sub (.t 66) (kI 15)),oO 68 (.idxPa 1 64 (.t 7) (.t 67)),oO 69 (.load .sc (.t 68)),oM 70 9,oO 71 (.bin .sub (.t 70) (kI 2)),oO 72 (.idxPa 1 64 (.t 7) (.t 71)),oO 73 (.load .sc (.t 72)),oM 10 69,oM 11 73]) (.reg [oM 74 9,oM 75 11,oO 76 (.call 55 [(.t 75),(kI 17)] none),oM 77 11,oO 78 (.call 55 [(.t 77),(kI 19)] none),oO 79 (.bin .xor (.t 76) (.t 78)),oM 80 11,oO 81 (.bin .shr (.t 80) (.k (.c (.d (.int .u64 10))))),oO 82 (.bin .xor (.t 79) (.t 81)),oM 83 9,oO 84 (.bin .sub (.t 83) (kI 7)),oO 85 (.idxPa 1 64 (.t 7) (.t 84)),oO 86 (.load .sc (.t 85)),oO 87 (.bin .add (.t 82) (.t 86)),oM 88 10,oO 89 (.call 55 [(.t 88),(kI 7)] none),
 oM 90 10,oO 91 (.call 55 [(.t 90),(kI 18)] none),oO 92 (.bin .xor (.t 89) (.t 91)),oM 93 10,oO 94 (.bin .shr (.t 93) (.k (.c (.d (.int .u64 3))))),oO 95 (.bin .xor (.t 92) (.t 94)),oO 96 (.bin .add (.t 87) (.t 95)),oM 97 9,oO 98 (.bin .sub (.t 97) (kI 16)),oO 99 (.idxPa 1 64 (.t 7) (.t 98)),oO 100 (.load .sc (.t 99)),oO 101 (.bin .add (.t 96) (.t 100)),oO 102 (.idxPa 1 64 (.t 7) (.t 74)),oN (.store .sc (.t 102) (.t 101))]))) (.reg [oM 64 9,oO 65 (.bin .add (.t 64) (kI 1)),oM 9 65]))
def nM:aH := .seq (.seq (.reg [oM 127 20,oO 128 (.bin .lss (.t 127) (kI 64))]) (.cond (.t 128) (.skip) (.exit 4))) (.seq (.block 5 (.seq (.reg [oM 131 19,oM 132 16,oO 133 (.call 55 [(.t 132),(kI 6)] none),oM 134 16,oO 135 (.call 55 [(.t 134),(kI 11)] none),oO 136 (.bin .xor (.t 133) (.t 135)),oM 137 16,oO 138 (.call 55 [(.t 137),(kI 25)] none),oO 139 (.bin .xor (.t 136) (.t 138)),oO 140 (.bin .add (.t 131) (.t 139)),oM 141 16,oM 142 17,oO 143 (.bin .and (.t 141) (.t 142)),oM 144 16,oO 145 (.un .xor (.t 144)),oM 146 18,oO 147 (.bin .and (.t 145) (.t 146)),oO 148 (.bin .xor (.t 143) (.t 147)),oO 149 (.bin .add (.t 140) (.t 148)),oM 150 1,oM 151 20,oO 152 (.idxSl 1 (.t 150) (.t 151)),oO 153 (.load .sc (.t 152)),oO 154 (.bin .add (.t 149) (.t 153)),oM 155 20,oO 156 (.idxPa 1 64 (.t 7) (.t 155)),
 oO 157 (.load .sc (.t 156)),oO 158 (.bin .add (.t 154) (.t 157)),oM 21 158]) (.seq (.reg [oM 159 12,oO 160 (.call 55 [(.t 159),(kI 2)] none),oM 161 12,oO 162 (.call 55 [(.t 161),(kI 13)] none),oO 163 (.bin .xor (.t 160) (.t 162)),oM 164 12,oO 165 (.call 55 [(.t 164),(kI 22)] none),oO 166 (.bin .xor (.t 163) (.t 165)),oM 167 12,oM 168 13,oO 169 (.bin .and (.t 167) (.t 168)),oM 170 12,oM 171 14,oO 172 (.bin .and (.t 170) (.t 171)),oO 173 (.bin .xor (.t 169) (.t 172)),oM 174 13,oM 175 14,oO 176 (.bin .and (.t 174) (.t 175)),oO 177 (.bin .xor (.t 173) (.t 176)),oO 178 (.bin .add (.t 166) (.t 177)),oM 22 178]) (.reg [oM 179 21,oM 180 22,oO 181 (.bin .add (.t 179) (.t 180)),oM 182 12,oM 183 13,oM 184 14,oM 185 15,oM 186 21,oO 187 (.bin .add (.t 185) (.t 186)),oM 188 16,oM 189 17,oM 190 18,oM 12 181,
 oM 13 182,oM 14 183,oM 15 184,oM 16 187,oM 17 188,oM 18 189,oM 19 190])))) (.reg [oM 129 20,oO 130 (.bin .add (.t 129) (kI 1)),oM 20 130]))
def uk:aB:=⟨3,232,.seq (.reg [oO 6 (.mv (.k (.c .nil)))]) (.seq (.reg [oO 7 (.allocArr [(.int .u32 0),(.int .u32 0),(.int .u32 0),(.int .u32 0),(.int .u32 0),(.int .u32 0),(.int .u32 0),(.int .u32 0),(.int .u32 0),(.int .u32 0),(.int .u32 0),(.int .u32 0),(.int .u32 0),(.int .u32 0),(.int .u32 0),(.int .u32 0),(.int .u32 0),(.int .u32 0),(.int .u32 0),(.int .u32 0),(.int .u32 0),(.int .u32 0),(.int .u32 0),(.int .u32 0),(.int .u32 0),(.int .u32 0),(.int .u32 0),(.int .u32 0),(.int .u32 0),(.int .u32 0),(.int .u32 0),(.int .u32 0),(.int .u32 0),(.int .u32 0),(.int .u32 0),(.int .u32 0),(.int .u32 0),(.int .u32 0),(.int .u32 0),(.int .u32 0),(.int .u32 0),(.int .u32 0),(.int .u32 0),(.int .u32 0),(.int .u32 0),(.int .u32 0),(.int .u32 0),(.int .u32 0),(.int .u32 0),(.int .u32 0),(.int .u32 0),(.int .u32 0),(.int .u32 0),(.int .u32 0),(.int .u32 0),(.int .u32 0),(.int .u32 0),(.int .u32 0),(.int .u32 0),(.int .u32 0),(.int .u32 0),(.int .u32 0),(.int .u32 0),(.int .u32 0)])])
 (.seq (.seq (.reg [oO 8 (.mv (kI 0))]) (.block 0 (.loop nK))) (.seq (.seq (.reg [oO 9 (.mv (kI 16))]) (.block 2 (.loop nL))) (.seq (.reg [oM 103 0,oO 104 (.idxSl 1 (.t 103) (kI 0)),oO 105 (.load .sc (.t 104)),oM 106 0,oO 107 (.idxSl 1 (.t 106) (kI 1)),oO 108 (.load .sc (.t 107)),oM 109 0,oO 110 (.idxSl 1 (.t 109) (kI 2)),oO 111 (.load .sc (.t 110)),oM 112 0,oO 113 (.idxSl 1 (.t 112) (kI 3)),oO 114 (.load .sc (.t 113)),oM 115 0,oO 116 (.idxSl 1 (.t 115) (kI 4)),oO 117 (.load .sc (.t 116)),oM 118 0,oO 119 (.idxSl 1 (.t 118) (kI 5)),oO 120 (.load .sc (.t 119)),oM 121 0,oO 122 (.idxSl 1 (.t 121) (kI 6)),oO 123 (.load .sc (.t 122)),oM 124 0,oO 125 (.idxSl 1 (.t 124) (kI 7)),oO 126 (.load .sc (.t 125)),oM 12 105,oM 13 108,oM 14 111,oM 15 114,oM 16 117,oM 17 120,oM 18 123,oM 19 126])
 (.seq (.seq (.reg [oO 20 (.mv (kI 0))]) (.block 4 (.loop nM))) (.seq (.reg [oM 191 0,oO 192 (.idxSl 1 (.t 191) (kI 0)),oO 193 (.load .sc (.t 192)),oM 194 12,oO 195 (.bin .add (.t 193) (.t 194)),oM 196 0,oO 197 (.idxSl 1 (.t 196) (kI 1)),oO 198 (.load .sc (.t 197)),oM 199 13,oO 200 (.bin .add (.t 198) (.t 199)),oM 201 0,oO 202 (.idxSl 1 (.t 201) (kI 2)),oO 203 (.load .sc (.t 202)),oM 204 14,oO 205 (.bin .add (.t 203) (.t 204)),oM 206 0,oO 207 (.idxSl 1 (.t 206) (kI 3)),oO 208 (.load .sc (.t 207)),oM 209 15,oO 210 (.bin .add (.t 208) (.t 209)),oM 211 0,oO 212 (.idxSl 1 (.t 211) (kI 4)),oO 213 (.load .sc (.t 212)),oM 214 16,oO 215 (.bin .add (.t 213) (.t 214)),oM 216 0,oO 217 (.idxSl 1 (.t 216) (kI 5)),oO 218 (.load .sc (.t 217)),oM 219 17,oO 220 (.bin .add (.t 218) (.t 219)),oM 221 0,
 oO 222 (.idxSl 1 (.t 221) (kI 6)),oO 223 (.load .sc (.t 222)),oM 224 18,oO 225 (.bin .add (.t 223) (.t 224)),oM 226 0,oO 227 (.idxSl 1 (.t 226) (kI 7)),oO 228 (.load .sc (.t 227)),oM 229 19,oO 230 (.bin .add (.t 228) (.t 229)),oO 231 (.bldSl true 8 1 (.int .u32 0) [(0,(.t 195)),(1,(.t 200)),(2,(.t 205)),(3,(.t 210)),(4,(.t 215)),(5,(.t 220)),(6,(.t 225)),(7,(.t 230))]),oM 6 231]) (.ret))))))),[(6,none)]⟩
theorem EG:aA Tryd.prog { own:=[231],comp:=[],frz:=[],nils:=[] } Tryd.f42=some uk:=by kernel_rfl
theorem w8 (G:ak) (h:List UInt32) (b:List UInt8) (hh:h.length=8) (hb:b.length=64):ap Tryd.prog G 42 [.sl (h.map wD),.sl (aW.map wD),.sl (b.map bD)] (.w (.c (.fr 1 ((iv h b).map wD)))):=by
  refine aC Tryd.func42 EG rfl rfl ?_;have hsl:(cd b).length=64:=iQ b 48;have hcl:aW.length=64:=sS;simp only[uk,ah,wx,aa,seval,iteOmega,toNatUp];refine ba (qO h aW b) (fun t=>16-t) (fun t=>t≤16) 0 (KU _) ?_ ?_
  ·refine az (fun _=>56) ?_ ?_ rfl rfl <;> simp only[wx,aw,aa,seval,iteOmega,toNatUp];rfl
  ·intro t ht;by_cases hlt:t<16
   ·have e0:IntKind.i64.wrap (4*(t:Int))=((4*t:Nat):Int):=by rw[IntWalk.i64_in _ (by omega)]; omega
    have e1:IntKind.i64.wrap (((4*t:Nat):Int)+1)=((4*t+1:Nat):Int):=by rw[IntWalk.i64_in _ (by omega)]; omega
    have e2:IntKind.i64.wrap (((4*t:Nat):Int)+2)=((4*t+2:Nat):Int):=by rw[IntWalk.i64_in _ (by omega)]; omega
    have e3:IntKind.i64.wrap (((4*t:Nat):Int)+3)=((4*t+3:Nat):Int):=by rw[IntWalk.i64_in _ (by omega)]; omega
    have e4:IntKind.i64.wrap ((t:Int)+1)=((t+1:Nat):Int):=by rw[IntWalk.i64_in _ (by omega)]; omega
    have g:∀ k,k<64→(b.map bD)[k]?=some (bD (b.getD k 0)):=fun k hk=>by rw[bm,Dq (by omega)]; rfl
    have g0:=g (4*t) (by omega);have g1:=g (4*t+1) (by omega);have g2:=g (4*t+2) (by omega);have g3:=g (4*t+3) (by omega);have h1:t<(dw b t++List.replicate (64-t) 0).length:=by rw[KJ,jF,KZ]; omega
    have h2:=jV (dw b t) 0 (gn b t) (64-t) (by omega);rw[jF] at h2;have h3:dw b t++[gn b t]=dw b (t+1):=by simp[dw,List.range_succ]
    have h4:64-t-1=64-(t+1):=by omega
    rw[h3,h4] at h2;simp only[gn] at h2;have m24:min (24:Int).toNat 32=24:=by decide
    have m16:min (16:Int).toNat 32=16:=by decide
    have m8:min (8:Int).toNat 32=8:=by decide
    simp only[nK,qO,wx,aa,seval,iteOmega,toNatUp,e0,e1,e2,e3,e4,g0,g1,g2,g3,Lv,mj h1 (jj _),mm,h2];refine aS (t+1) (by omega) (by omega) (az id ?_ ?_ rfl rfl) <;> simp only[wx,aw,aa,seval,iteOmega,toNatUp]
   ·obtain rfl:t=16:=by omega
    simp only[nK,qO,wx,aa,seval,iteOmega,toNatUp];refine ba (qP h aW b) (fun n=>48-n) (fun n=>n≤48) 0 (KU _) ?_ ?_
    ·have h0:dw b 16=bN b 0:=rfl;refine az id ?_ ?_ rfl rfl <;> simp only[wx,aw,aa,seval,iteOmega,toNatUp,h0]
    ·intro n hn;by_cases hlt:n<48
     ·have hl:=iQ b n;have w1:∀ k:Nat,k≤16→IntKind.i64.wrap (((16+n:Nat):Int)-(k:Int))=((16+n-k:Nat):Int):=fun k hk=>by rw[IntWalk.i64_in _ (by omega)]; omega
      have e15:IntKind.i64.wrap (((16+n:Nat):Int)-15)=((16+n-15:Nat):Int):=w1 15 (by decide);have e2:IntKind.i64.wrap (((16+n:Nat):Int)-2)=((16+n-2:Nat):Int):=w1 2 (by decide);have e7:IntKind.i64.wrap (((16+n:Nat):Int)-7)=((16+n-7:Nat):Int):=w1 7 (by decide);have e16:IntKind.i64.wrap (((16+n:Nat):Int)-16)=((16+n-16:Nat):Int):=w1 16 (by decide);have e0:IntKind.i64.wrap (((16+n:Nat):Int)+1)=((16+(n+1):Nat):Int):=by rw[IntWalk.i64_in _ (by omega)]; omega
      have g:∀ k,k<16+n→((bN b n++List.replicate (48-n) 0).map wD)[k]?=some (wD ((bN b n).getD k 0)):=fun k hk=>by
        rw[LD,AQ (by omega)]; rfl
      have g15:=g (16+n-15) (by omega);have g2:=g (16+n-2) (by omega);have g7:=g (16+n-7) (by omega);have g16:=g (16+n-16) (by omega);simp only[nL,qP,wx,aa,seval,iteOmega,toNatUp,e15,e2,e7,e16,e0,g15,g2,g7,g16];refine aI (fE G _ 17 (by decide) (by decide)) rfl (.inr rfl) ?_;simp only[wx,aa,seval,iteOmega,toNatUp];refine aI (fE G _ 19 (by decide) (by decide)) rfl (.inr rfl) ?_;simp only[wx,aa,seval,iteOmega,toNatUp,e15,e2,e7,e16,e0,g15,g2,g7,g16];refine aI (fE G _ 7 (by decide) (by decide)) rfl (.inr rfl) ?_;simp only[wx,aa,seval,iteOmega,toNatUp];refine aI (fE G _ 18 (by decide) (by decide)) rfl (.inr rfl) ?_;have h1:16+n<(bN b n++List.replicate (48-n) 0).length:=by rw[KJ,hl,KZ]; omega
      have h2:=jV (bN b n) 0 (iC (bN b n) (16+n)) (48-n) (by omega);rw[hl] at h2;have h4:48-n-1=48-(n+1):=by omega
      have h3:bN b n++[iC (bN b n) (16+n)]=bN b (n+1):=rfl;rw[h3,h4] at h2;simp only[iC,qq,qt] at h2;simp only[wx,aa,seval,iteOmega,toNatUp,e15,e2,e7,e16,e0,g15,g2,g7,g16,mj h1 (jj _),mm,h2];refine aS (n+1) (by omega) (by omega) (az id ?_ ?_ rfl rfl) <;> simp only[wx,aw,aa,seval,iteOmega,toNatUp]
     ·have hn48:n=48:=by omega
      have h0:48-n=0:=by omega
      obtain⟨h0',h1,h2,h3,h4,h5,h6,h7,rfl⟩:=eight hh;simp only[nL,qP,wx,aa,seval,iteOmega,toNatUp,h0,K5,LF,← w5 b n hn48];refine ba (kN [h0',h1,h2,h3,h4,h5,h6,h7] b) (fun n=>64-n) (fun n=>n≤64) 0 (KU _) ?_ ?_
      ·refine az id ?_ ?_ rfl rfl <;> simp only[kN,mV,wx,aw,aa,seval,iteOmega,toNatUp];exact⟨rfl,rfl,rfl,rfl,rfl,rfl,rfl,rfl⟩
      ·clear hn hlt hn48 h0;intro n hn;by_cases hlt:n<64
       ·have e1:IntKind.i64.wrap ((n:Int)+1)=((n+1:Nat):Int):=by rw[IntWalk.i64_in _ (by omega)]; rfl
        have g1:(aW.map wD)[n]?=some (wD (aW.getD n 0)):=by rw[bm,getD_some (by omega)]; rfl
        have g2:((cd b).map wD)[n]?=some (wD ((cd b).getD n 0)):=by rw[bm,getD_some (by omega)]; rfl
        have hr:(bh.of [h0',h1,h2,h3,h4,h5,h6,h7]).rounds aW (cd b) (n+1)=((bh.of [h0',h1,h2,h3,h4,h5,h6,h7]).rounds aW (cd b) n).step (aW.getD n 0) ((cd b).getD n 0):=rfl;generalize hs:(bh.of [h0',h1,h2,h3,h4,h5,h6,h7]).rounds aW (cd b) n=s at hr;simp only[nM,kN,mV,hs,wx,aa,seval,iteOmega,toNatUp,hcl,hsl,g1,g2,e1];refine aI (fE G _ 6 (by decide) (by decide)) rfl (.inr rfl) ?_;simp only[wx,aa,seval,iteOmega,toNatUp];refine aI (fE G _ 11 (by decide) (by decide)) rfl (.inr rfl) ?_;simp only[wx,aa,seval,iteOmega,toNatUp];refine aI (fE G _ 25 (by decide) (by decide)) rfl (.inr rfl) ?_;simp only[wx,aa,seval,iteOmega,toNatUp,g1,g2,hcl,hsl];refine aI (fE G _ 2 (by decide) (by decide)) rfl (.inr rfl) ?_;simp only[wx,aa,seval,iteOmega,toNatUp];refine aI (fE G _ 13 (by decide) (by decide)) rfl (.inr rfl) ?_;simp only[wx,aa,seval,iteOmega,toNatUp];refine aI (fE G _ 22 (by decide) (by decide)) rfl (.inr rfl) ?_;simp only[wx,aa,seval,iteOmega,toNatUp,e1];refine aS (n+1) (by omega) (by omega) ?_;rw[kN,hr];refine (az id ?_ ?_ rfl rfl) <;> simp only[wx,aw,aa,seval,iteOmega,toNatUp,AR,AU,AV,AW,AY,AZ,A0,A1];exact⟨rfl,rfl⟩
       ·obtain rfl:n=64:=by omega
        have hK:iv [h0',h1,h2,h3,h4,h5,h6,h7] b=((bh.of [h0',h1,h2,h3,h4,h5,h6,h7]).rounds aW (cd b) 64).sum [h0',h1,h2,h3,h4,h5,h6,h7]:=rfl;rw[hK];simp only[kN];generalize (bh.of [h0',h1,h2,h3,h4,h5,h6,h7]).rounds aW (cd b) 64=s;have e8:s.sum [h0',h1,h2,h3,h4,h5,h6,h7]=[aY h0' s.a,aY h1 s.b,aY h2 s.c,aY h3 s.d,aY h4 s.e,aY h5 s.f,aY h6 s.g,aY h7 s.h]:=rfl;simp only[nM,mV,e8,wx,aa,seval,iteOmega,toNatUp];exact cV (id:=1848) (n:=8) (s:=1) (by simp only[wx,aa,seval,iteOmega,toNatUp]) (by simp only[wx,aa,seval,iteOmega,toNatUp] <;> rfl) rfl
def bS (h:List UInt32) (b:List UInt8):Nat→List UInt32
  | 0=>h
  | n+1=>iv (bS h b n) ((b.drop (64*n)).take 64)
theorem hY {h:List UInt32} (hh:h.length=8) (b:List UInt8):∀ n,(bS h b n).length=8
  | 0=>hh
  | n+1=>sT _ _
def dc (rest:List UInt8) (count:Nat):List UInt8:=rest++[128]++List.replicate ((119-rest.length)%64) 0++aN (count*8) 8
def dA (ws:List UInt32):List UInt8:=ws.flatMap fun w=>aN w.toNat 4
def fR (s:List UInt32) (rest:List UInt8) (count:Nat):List UInt8:=dA (bS s (dc rest count) ((dc rest count).length / 64))
def aZ (b:List UInt8):List UInt8:=fR (bS bM b (b.length / 64)) (b.drop (64*(b.length / 64))) b.length
theorem k9:∀ ws:List UInt32,(dA ws).length=4*ws.length
  | []=>rfl
  | w::ws=>by
    have:dA (w::ws)=aN w.toNat 4++dA ws:=rfl;rw[this,KJ,cU,k9 ws,List.length_cons]; omega
theorem Gs {s:List UInt32} (hs:s.length=8) (rest:List UInt8) (count:Nat):(fR s rest count).length=32:=by
  unfold fR;rw[k9,hY hs]
theorem dL (b:List UInt8):(aZ b).length=32:=Gs (hY jH _ _) _ _
theorem EH (n:Nat):aN 0 n=List.replicate n 0:=by
  unfold aN;apply LC;intro i;simp only[LD,List.getElem?_replicate,List.getElem?_range];by_cases h:i<n
  ·simp[h,List.getElem?_range]
  ·simp[h,List.getElem?_range]
theorem w9 (rest:List UInt8) (count:Nat) (h:rest.length<64):(dc rest count).length=rest.length+9+(119-rest.length)%64∧(dc rest count).length%64=0:=by
  have:(dc rest count).length=rest.length+9+(119-rest.length)%64:=by simp[dc,cU]; omega
  exact⟨this,by omega⟩
theorem su (ws:List UInt32) (k:Nat) (h:k<ws.length):dA (ws.take k)++aN (ws.getD k 0).toNat 4=dA (ws.take (k+1)):=by
  rw[Lq h];unfold dA;rw[LE];simp[h]
theorem EI {ws:List UInt32} {k:Nat} (h:k<ws.length):((ws.map wD).map C.d)[k]?=some (.d (wD (ws.getD k 0))):=by
  simp[h]
theorem CC (b:List UInt8) (n:Nat):(b.drop (64*n)).drop 64=b.drop (64*(n+1)):=by rw[List.drop_drop,Nat.mul_succ]
def mW (s:List UInt32) (b:List UInt8) (n:Nat):St:=⟨aT [(1,.w (.c (.d (.sl ((b.drop (64*n)).map bD))))),(2,.w (.c (.pa 1 1))),(4,.w (.c (.pa 2 1))),(5,.w (.c .nil))],hL [(1,.row 1 ((bS s b n).map wD)),(2,.row 1 ((List.replicate 8 (0:UInt32)).map wD))],uL [1,2]⟩
def nN:aH := .seq (.seq (.reg [oM 6 1,oO 7 (.len (.t 6)),oO 8 (.bin .geq (.t 7) (kI 64))]) (.cond (.t 8) (.skip) (.exit 0))) (.block 1 (.seq (.reg [oO 9 (.load (.ag 8) (.t 2)),oM 10 1,oO 11 (.slice 1 (.t 10) none (some (kI 64)) none),oO 12 (.call 64 [(.t 9),(.t 11)] none),oN (.store (.ag 8) (.t 2) (.t 12))]) (.reg [oM 13 1,oO 14 (.slice 1 (.t 13) (some (kI 64)) none none),oM 1 14])))
def um:aB:=⟨2,17,.seq (.reg [oO 2 (.box .ownArr (.t 0)),oO 4 (.allocArr [(.int .u32 0),(.int .u32 0),(.int .u32 0),(.int .u32 0),(.int .u32 0),(.int .u32 0),(.int .u32 0),(.int .u32 0)]),oO 5 (.mv (.k (.c .nil)))]) (.seq (.block 0 (.loop nN)) (.seq (.reg [oO 15 (.load (.ag 8) (.t 2)),oM 16 1,oN (.store (.ag 8) (.t 4) (.t 15)),oM 5 16]) (.ret))),[(4,(some (.ag 8))),(5,none)]⟩
theorem EJ:aA Tryd.prog { own:=[2],comp:=[],frz:=[],nils:=[] } Tryd.f51=some um:=by kernel_rfl
theorem xa (G:ak) (hG:G.at 1=some (.ra (aW.map wD))) (s:List UInt32) (b:List UInt8) (hs:s.length=8) (hb:b.length≤140737488355328):ap Tryd.prog G 51 [.agg (s.map wD),.sl (b.map bD)] (.tup [.c (.d (.agg ((bS s b (b.length / 64)).map wD))),.c (.d (.sl ((b.drop (64*(b.length / 64))).map bD)))]):=by
  refine aC Tryd.func51 EJ rfl rfl ?_;simp only[um,ah,wx,aa,seval,iteOmega,toNatUp];refine ba (mW s b) (fun n=>b.length / 64-n) (fun n=>n≤b.length / 64) 0 (KU _) ?_ ?_
  ·refine az (fun i=>match i with | 1=>16 | _=>32) ?_ ?_ rfl rfl <;> simp only[wx,aw,aa,seval,iteOmega,toNatUp,mW,bS];rfl
  ·intro n hn;have hl:=hY hs b n;by_cases hlt:n<b.length / 64
   ·have h1:(64:Int)≤((b.drop (64*n)).length:Int):=by rw[KP]; omega
    have h2:((b.drop (64*n)).take 64).length=64:=by rw[KL,KP]; omega
    have e1:=CC b n;simp only[nN,mW,wx,aa,seval,iteOmega,toNatUp,hl,h1];refine aI (HY G hG (bS s b n) ((b.drop (64*n)).take 64) hl h2) rfl (.inl rfl) ?_;have e2:(iv (bS s b n) ((b.drop (64*n)).take 64)).length=8:=sT _ _;have e3:(b.drop (64*n)).length-64=((b.drop (64*(n+1)))).length:=by rw[KP,KP]; omega
    simp only[wx,aa,seval,iteOmega,toNatUp,hl,e2,e1,e3];refine aS (n+1) (by omega) (by omega) (az id ?_ ?_ rfl rfl) <;> simp only[wx,aw,aa,seval,iteOmega,toNatUp,bS]
   ·obtain rfl:n=b.length / 64:=by omega
    have h1:¬ (64:Int)≤((b.drop (64*(b.length / 64))).length:Int):=by rw[KP]; omega
    simp only[nN,mW,wx,aa,seval,iteOmega,toNatUp,hl,h1];exact mg (by simp only[wx,aa,seval,iteOmega,toNatUp,hl]) (by simp only[wx,aa,seval,iteOmega,toNatUp])
def qQ (ws:List UInt32) (k:Nat):St:=⟨aT [(9,.w (.c (.own 1 1 0 (dA (ws.take k)).length))),(36,.w (.c (.d (.agg (ws.map wD))))),(37,.w (.c (.d (.int .i64 (k:Int)))))],hL [(1,.row 1 ((dA (ws.take k)).map bD))],uL [1]⟩
def pk:aH := .seq (.reg [oO 38 (.bin .lss (.t 37) (kI 8))]) (.seq (.cond (.t 38) (.skip) (.exit 0)) (.seq (.block 1 (.seq (.reg [oO 39 (.idxArr 1 8 .sc (.t 36) (.t 37)),oM 11 39]) (.reg [oM 40 9,oM 41 11,oO 42 (.conv .u64 (.t 41)),oO 43 (.call 25 [(.t 42),(kI 4)] none),oO 44 (.app false 1 1 (.t 40) (.t 43)),oM 9 44]))) (.reg [oO 45 (.bin .add (.t 37) (kI 1)),oM 37 45])))
def A2:aB:=⟨3,47,.seq (.reg [oO 3 (.box .ownArr (.t 0)),oO 6 (.mv (.k (.c .nil)))]) (.seq (.reg [oO 12 (.bldSl false 1 1 (.int .u8 0) [(0,(.k (.c (.d (.int .u8 128)))))]),oM 7 12]) (.seq (.reg [oM 13 7,oO 14 (.len (.t 13)),oO 15 (.bin .sub (kI 120) (.t 14)),oM 16 1,oO 17 (.len (.t 16)),oO 18 (.bin .sub (.t 15) (.t 17)),oO 19 (.bin .rem (.t 18) (kI 64)),oM 8 19]) (.seq (.reg [oO 21 (.load (.ag 8) (.t 3)),oM 22 1,oM 23 7,oM 24 8,oO 25 (.call 25 [(.k (.c (.d (.int .u64 0)))),(.t 24)] none),oM 26 2,oO 27 (.conv .u64 (.t 26)),oO 28 (.bin .mul (.t 27) (.k (.c (.d (.int .u64 8))))),oO 29 (.call 25 [(.t 28),(kI 8)] none),oO 30 (.bldSl false 4 1 (.sl []) [(0,(.t 22)),(1,(.t 23)),(2,(.t 25)),(3,(.t 29))]),oO 31 (.call 24 [(.t 30)] none),oO 32 (.call 51 [(.t 21),(.t 31)] none),oM 20 32,oO 33 (.extract (.t 20) 0),
 oO 34 (.extract (.t 20) 1),oN (.store (.ag 8) (.t 3) (.t 33))]) (.seq (.reg [oO 35 (.make true 1 1 (.int .u8 0) (kI 0) (kI 32)),oM 9 35]) (.seq (.seq (.reg [oO 36 (.load (.ag 8) (.t 3)),oO 37 (.mv (kI 0))]) (.block 0 (.loop pk))) (.seq (.reg [oM 46 9,oM 6 46]) (.ret))))))),[(6,none)]⟩
theorem Ju:aA Tryd.prog { own:=[3],comp:=[],frz:=[],nils:=[] } Tryd.f52=some A2:=by kernel_rfl
theorem Ki (G:ak) (hG:G.at 1=some (.ra (aW.map wD))) (s:List UInt32) (rest:List UInt8) (count:Nat) (hs:s.length=8) (hr:rest.length<64) (hc:count≤140737488355328):ap Tryd.prog G 52 [.agg (s.map wD),.sl (rest.map bD),.int .i64 (count:Int)] (.w (.c (.fr 1 ((fR s rest count).map bD)))):=by
  refine aC Tryd.func52 Ju rfl rfl ?_;have e3:(119-(rest.length:Int)).tmod 64=(((119-rest.length)%64:Nat):Int):=by
    rw[show (119-(rest.length:Int))=((119-rest.length:Nat):Int) by omega]; rfl
  simp only[A2,ah,ae,aa,seval,iteOmega,toNatUp,hs,e3];have hz:(119-rest.length)%64≤64:=by omega
  refine aI (gO G 0 ((119-rest.length)%64) hz) rfl (.inl rfl) ?_;simp only[ae,aa,seval,iteOmega,toNatUp];refine aI (gO G (count*8) 8 (by decide)) ?_ (.inl rfl) ?_
  ·simp only[ae,aa,seval,iteOmega,toNatUp]
  obtain⟨hp1,hp2⟩:=w9 rest count hr;have hp:[rest,[128],aN 0 ((119-rest.length)%64),aN (count*8) 8].flatten=dc rest count:=by
    rw[EH]; simp[dc]
  have hj:=de G [rest,[128],aN 0 ((119-rest.length)%64),aN (count*8) 8] (by simp) (by rw[hp,hp1]; omega);rw[hp] at hj;simp only[ae,aa,seval,iteOmega,toNatUp];refine aI hj rfl (.inl rfl) ?_;simp only[ae,aa,seval,iteOmega,toNatUp];refine aI (xa G hG s (dc rest count) hs (by rw[hp1]; omega)) rfl (.inl rfl) ?_;have hw:(bS s (dc rest count) ((dc rest count).length / 64)).length=8:=hY hs _ _;have hf:fR s rest count=dA (bS s (dc rest count) ((dc rest count).length / 64)):=rfl;rw[hf];generalize bS s (dc rest count) ((dc rest count).length / 64)=ws at hw;simp only[ae,aa,seval,iteOmega,toNatUp,hs,hw];refine ba (qQ ws) (fun k=>8-k) (fun k=>k≤8) 0 (KU _) ?_ ?_
  ·refine az (fun _=>280) ?_ ?_ rfl rfl <;> simp only[wx,aw,aO,aa,seval,iteOmega,toNatUp,dA]
  ·intro k hk;by_cases hlt:k<8
   ·have hw1:(ws.getD k 0).toNat<4294967296:=word_lt _;have hwl:=k9 (ws.take k);rw[KL] at hwl;simp only[pk,qQ,ae,aa,seval,iteOmega,toNatUp,EI (show k<ws.length by omega)];refine aI (gO G (ws.getD k 0).toNat 4 (by decide)) ?_ (.inl rfl) ?_
    ·simp only[ae,aa,seval,iteOmega,toNatUp]
    simp only[ae,aa,seval,iteOmega,toNatUp,cm,su ws k (by omega),cU];refine aS (k+1) (by omega) (by omega) (az (fun _=>352) ?_ ?_ rfl rfl) <;> simp only[wx,aw,aO,aa,seval,iteOmega,toNatUp]
   ·obtain rfl:k=8:=by omega
    have:ws.take 8=ws:=KM (by omega);simp only[pk,qQ,ae,aa,seval,iteOmega,toNatUp,this];exact cV (id:=1) (n:=(dA ws).length) (s:=1) (by simp only[wx,aa,seval,iteOmega,toNatUp]) (by simp only[wx,aa,seval,iteOmega,toNatUp]) (by rw[KN])
def A3:aB:=⟨1,16,.seq (.reg [oO 2 (.mv (.k (.c .nil)))]) (.seq (.reg [oO 6 (.load (.ag 8) (.g 0)),oM 7 0,oO 8 (.call 51 [(.t 6),(.t 7)] none),oM 5 8,oO 9 (.extract (.t 5) 0),oO 10 (.extract (.t 5) 1),oO 3 (.allocArr [(.int .u32 0),(.int .u32 0),(.int .u32 0),(.int .u32 0),(.int .u32 0),(.int .u32 0),(.int .u32 0),(.int .u32 0)]),oN (.store (.ag 8) (.t 3) (.t 9)),oM 4 10]) (.seq (.reg [oO 11 (.load (.ag 8) (.t 3)),oM 12 4,oM 13 0,oO 14 (.len (.t 13)),oO 15 (.call 52 [(.t 11),(.t 12),(.t 14)] (some (0,1))),oM 2 15]) (.ret))),[(2,none)]⟩
theorem Jv:aA Tryd.prog { own:=[15],comp:=[],frz:=[],nils:=[] } Tryd.f37=some A3:=by kernel_rfl
theorem kv (G:ak) (hF:G.at 0=some (.ra (bM.map wD))) (hG:G.at 1=some (.ra (aW.map wD))) (b:List UInt8) (hb:b.length≤140737488355328):ap Tryd.prog G 37 [.sl (b.map bD)] (.w (.c (.fr 1 ((aZ b).map bD)))):=by
  refine aC Tryd.func37 Jv rfl rfl ?_;have eg:=@Cj G 0 _ hF;have hl:(bS bM b (b.length / 64)).length=8:=hY jH _ _;have h8:bM.length=8:=jH;simp only[A3,ah,ae,aa,seval,iteOmega,toNatUp,eg,h8];refine aI (xa G hG bM b jH hb) rfl (.inl rfl) ?_;simp only[ae,aa,seval,iteOmega,toNatUp,hl];refine aI (Ki G hG _ (b.drop (64*(b.length / 64))) b.length hl (by rw[KP]; omega) hb) ?_ (.inl rfl) ?_
  ·simp only[ae,aa,seval,iteOmega,toNatUp]
  simp only[ae,aa,seval,iteOmega,toNatUp];exact cV (id:=120) (n:=(fR (bS bM b (b.length / 64)) (b.drop (64*(b.length / 64))) b.length).length) (s:=1) (by simp only[wx,aa,seval,iteOmega,toNatUp]) (by simp only[wx,aa,seval,iteOmega,toNatUp] <;> rfl) (by rw[KN]; rfl)
theorem Gt {α:Type} (a:α) (j:Nat):List.replicate j a++[a]=List.replicate (j+1) a:=by rw[List.replicate_succ']
def qR (h:List UInt32) (rest:List UInt8) (count:Nat) (j:Nat):St:=⟨aT [(0,.w (.c (.d (.sl (h.map wD))))),(2,.w (.c (.d (.int .i64 (count:Int))))),(7,.w (.c (.d (.sl (aW.map wD))))),(8,.w (.c (.own 1 1 0 (rest++[128]++List.replicate j 0).length)))],hL [(1,.row 1 ((rest++[128]++List.replicate j 0).map bD))],uL [1]⟩
def qS (h:List UInt32) (p:List UInt8) (n:Nat):St:=⟨aT [(0,.w (.c (.d (.sl ((bS h p n).map wD))))),(7,.w (.c (.d (.sl (aW.map wD))))),(8,.w (.c (.own 1 1 0 p.length))),(9,.w (.c (.d (.int .i64 ((64*n:Nat):Int)))))],hL [(1,.row 1 (p.map bD))],uL [1]⟩
def qT (ws:List UInt32) (k:Nat):St:=⟨aT [(0,.w (.c (.d (.sl (ws.map wD))))),(10,.w (.c (.own 1 1 0 (dA (ws.take k)).length))),(11,.w (.c (.d (.int .i64 (k:Int)))))],hL [(1,.row 1 ((dA (ws.take k)).map bD))],uL [1]⟩
theorem Jw {ws:List UInt32} {k:Nat} (h:k<ws.length):(ws.map wD)[k]?=some (wD (ws.getD k 0)):=by
  simp[h]
theorem Kj:D.int .u8 0=bD 0:=rfl
theorem HZ:D.int .u8 128=bD 128:=rfl
theorem BL (l:List UInt8) (a:UInt8):l.map bD++[bD a]=(l++[a]).map bD:=by simp
def oH:aH := .seq (.seq (.reg [oM 18 8,oO 19 (.len (.t 18)),oO 20 (.bin .rem (.t 19) (kI 64)),oO 21 (.bin .neq (.t 20) (kI 56))]) (.cond (.t 21) (.skip) (.exit 0))) (.block 1 (.reg [oM 22 8,oO 23 (.bldSl false 1 1 (.int .u8 0) [(0,(.k (.c (.d (.int .u8 0)))))]),oO 24 (.app false 1 1 (.t 22) (.t 23)),oM 8 24]))
def oI:aH := .seq (.seq (.reg [oM 31 9,oM 32 8,oO 33 (.len (.t 32)),oO 34 (.bin .lss (.t 31) (.t 33))]) (.cond (.t 34) (.skip) (.exit 2))) (.seq (.block 3 (.reg [oM 37 0,oM 38 7,oM 39 8,oM 40 9,oM 41 9,oO 42 (.bin .add (.t 41) (kI 64)),oO 43 (.slice 1 (.t 39) (some (.t 40)) (some (.t 42)) none),oO 44 (.call 42 [(.t 37),(.t 38),(.t 43)] none),oM 0 44])) (.reg [oM 35 9,oO 36 (.bin .add (.t 35) (kI 64)),oM 9 36]))
def oJ:aH := .seq (.seq (.reg [oM 46 11,oO 47 (.bin .lss (.t 46) (kI 8))]) (.cond (.t 47) (.skip) (.exit 4))) (.seq (.block 5 (.reg [oM 50 10,oM 51 0,oM 52 11,oO 53 (.idxSl 1 (.t 51) (.t 52)),oO 54 (.load .sc (.t 53)),oO 55 (.conv .u64 (.t 54)),oO 56 (.call 21 [(.t 55),(kI 4)] none),oO 57 (.app false 1 1 (.t 50) (.t 56)),oM 10 57])) (.reg [oM 48 11,oO 49 (.bin .add (.t 48) (kI 1)),oM 11 49]))
def y3:aB:=⟨3,59,.seq (.reg [oO 6 (.mv (.k (.c .nil)))]) (.seq (.reg [oO 12 (.call 41 [] none),oM 7 12]) (.seq (.reg [oM 13 1,oO 14 (.bldSl false 1 1 (.sl []) [(0,(.t 13))]),oO 15 (.call 16 [(.t 14)] (some (0,1))),oO 16 (.bldSl false 1 1 (.int .u8 0) [(0,(.k (.c (.d (.int .u8 128)))))]),oO 17 (.app false 1 1 (.t 15) (.t 16)),oM 8 17]) (.seq (.block 0 (.loop oH)) (.seq (.reg [oM 25 8,oM 26 2,oO 27 (.conv .u64 (.t 26)),oO 28 (.bin .mul (.t 27) (.k (.c (.d (.int .u64 8))))),oO 29 (.call 21 [(.t 28),(kI 8)] none),oO 30 (.app false 1 1 (.t 25) (.t 29)),oM 8 30]) (.seq (.seq (.reg [oO 9 (.mv (kI 0))]) (.block 2 (.loop oI))) (.seq (.reg [oO 45 (.bldSl true 0 1 (.int .u8 0) []),oM 10 45]) (.seq (.seq (.reg [oO 11 (.mv (kI 0))]) (.block 4 (.loop oJ))) (.seq (.reg [oM 58 10,
 oM 6 58]) (.ret))))))))),[(6,none)]⟩
theorem H0:aA Tryd.prog { own:=[15,45],comp:=[],frz:=[],nils:=[] } Tryd.f43=some y3:=by kernel_rfl
theorem Jy (G:ak) (s:List UInt32) (rest:List UInt8) (count:Nat) (hs:s.length=8) (hr:rest.length<64) (hc:count≤140737488355328):ap Tryd.prog G 43 [.sl (s.map wD),.sl (rest.map bD),.int .i64 (count:Int)] (.w (.c (.fr 1 ((fR s rest count).map bD)))):=by
  refine aC Tryd.func43 H0 rfl rfl ?_;have hj:=ig G [rest] (by simp) (by simp; omega);have hf:[rest].flatten=rest:=by simp
  rw[hf] at hj;obtain⟨hp1,hp2⟩:=w9 rest count hr;simp only[y3,ah,ae,aa,seval,iteOmega,toNatUp];refine aI (AP G) rfl (.inl rfl) ?_;simp only[ae,aa,seval,iteOmega,toNatUp];refine aI hj rfl (.inl rfl) ?_;simp only[ae,aa,seval,iteOmega,toNatUp,cm,HZ,BL];refine ba (qR s rest count) (fun j=>(119-rest.length)%64-j) (fun j=>j≤(119-rest.length)%64) 0 (KU _) ?_ ?_
  ·refine az (fun _=>136) ?_ ?_ rfl rfl <;> simp only[wx,aw,aO,aa,seval,iteOmega,toNatUp]
  ·intro j hj;have hl:(rest++[128]++List.replicate j 0).length=rest.length+1+j:=by simp; omega
   have ht:((rest++[128]++List.replicate j 0).length:Int).tmod 64=(((rest.length+1+j)%64:Nat):Int):=by rw[hl]; rfl
   by_cases hlt:j<(119-rest.length)%64
   ·have e1:rest++[128]++List.replicate j 0++[0]=rest++[128]++List.replicate (j+1) 0:=by
      rw[LM,Gt]
    generalize hx:rest++[128]++List.replicate j 0=x at *
    simp only[oH,qR,hx,ae,aa,seval,iteOmega,toNatUp,ht,cm,Kj,BL,e1];refine aS (j+1) (by omega) (by omega) (az (fun _=>192) ?_ ?_ rfl rfl) <;> simp only[wx,aw,aO,aa,seval,iteOmega,toNatUp]
   ·obtain rfl:j=(119-rest.length)%64:=by omega
    generalize hx:rest++[128]++List.replicate ((119-rest.length)%64) 0=x at *
    simp only[oH,qR,hx,ae,aa,seval,iteOmega,toNatUp,ht];refine aI (lZ G (count*8) 8 (by decide)) ?_ (.inl rfl) ?_
    ·simp only[ae,aa,seval,iteOmega,toNatUp]
    have hx2:x++aN (count*8) 8=dc rest count:=by rw[← hx]; rfl
    simp only[ae,aa,seval,iteOmega,toNatUp,cm,gj,hx2,cU];refine ba (qS s (dc rest count)) (fun n=>(dc rest count).length / 64-n) (fun n=>n≤(dc rest count).length / 64) 0 (KU _) ?_ ?_
    ·refine az (fun _=>240) ?_ ?_ rfl rfl <;> simp only[wx,aw,aO,aa,seval,iteOmega,toNatUp,bS]
    ·generalize hpk:dc rest count=p at *
     intro n hn;have hl8:=hY hs p n;by_cases hlt:n<p.length / 64
     ·have h2:((p.drop (64*n)).take 64).length=64:=by rw[KL,KP]; omega
      have e1:64*n+64-64*n=64:=by omega
      simp only[oI,qS,ae,aa,seval,iteOmega,toNatUp];refine aI (w8 G (bS s p n) ((p.drop (64*n)).take 64) hl8 h2) ?_ (.inr (Kv _ _)) ?_
      ·simp only[ae,aa,seval,iteOmega,toNatUp,bV,e1]
      simp only[ae,aa,seval,iteOmega,toNatUp];have e2:64*(n:Int)+64=64*((n:Int)+1):=by omega
      refine aS (n+1) (by omega) (by omega) (az id ?_ ?_ rfl rfl) <;> simp only[wx,aw,aO,aa,seval,iteOmega,toNatUp,bS,e2]
     ·obtain rfl:n=p.length / 64:=by omega
      have hfk:fR s rest count=dA (bS s p (p.length / 64)):=by unfold fR; rw[hpk]
      rw[hfk];simp only[qS];generalize bS s p (p.length / 64)=ws at hl8;have h64:¬ ((64*(p.length / 64):Nat):Int)<(p.length:Int):=by omega
      simp only[oI,ae,aa,seval,iteOmega,toNatUp,h64];refine ba (qT ws) (fun k=>8-k) (fun k=>k≤8) 0 (KU _) ?_ ?_
      ·refine az (fun _=>360) ?_ ?_ rfl rfl <;> simp only[wx,aw,aO,aa,seval,iteOmega,toNatUp,dA]
      ·intro k hk;by_cases hlt:k<8
       ·have hw1:(ws.getD k 0).toNat<4294967296:=word_lt _;have hwl:=k9 (ws.take k);rw[KL] at hwl;simp only[oJ,qT,ae,aa,seval,iteOmega,toNatUp,Jw (show k<ws.length by omega)];refine aI (lZ G (ws.getD k 0).toNat 4 (by decide)) ?_ (.inl rfl) ?_
        ·simp only[ae,aa,seval,iteOmega,toNatUp]
        simp only[ae,aa,seval,iteOmega,toNatUp,cm,su ws k (by omega),cU];refine aS (k+1) (by omega) (by omega) (az (fun _=>456) ?_ ?_ rfl rfl) <;> simp only[wx,aw,aO,aa,seval,iteOmega,toNatUp]
       ·obtain rfl:k=8:=by omega
        have:ws.take 8=ws:=KM (by omega);simp only[oJ,qT,ae,aa,seval,iteOmega,toNatUp,this];exact cV (id:=1) (n:=(dA ws).length) (s:=1) (by simp only[wx,aa,seval,iteOmega,toNatUp]) (by simp only[wx,aa,seval,iteOmega,toNatUp]) (by rw[KN])
def rx (b:List UInt8) (n:Nat):St:=⟨aT [(0,.w (.c (.d (.sl (b.map bD))))),(3,.w (.c (.d (.sl ((bS bM b n).map wD))))),(4,.w (.c (.d (.sl (aW.map wD))))),(5,.w (.c (.d (.int .i64 ((64*(b.length / 64):Nat):Int))))),(6,.w (.c (.d (.int .i64 ((64*n:Nat):Int)))))],hL [],uL []⟩
def oK:aH := .seq (.seq (.reg [oM 13 6,oM 14 5,oO 15 (.bin .lss (.t 13) (.t 14))]) (.cond (.t 15) (.skip) (.exit 0))) (.seq (.block 1 (.reg [oM 18 3,oM 19 4,oM 20 0,oM 21 6,oM 22 6,oO 23 (.bin .add (.t 22) (kI 64)),oO 24 (.slice 1 (.t 20) (some (.t 21)) (some (.t 23)) none),oO 25 (.call 42 [(.t 18),(.t 19),(.t 24)] none),oM 3 25])) (.reg [oM 16 6,oO 17 (.bin .add (.t 16) (kI 64)),oM 6 17]))
def y4:aB:=⟨1,33,.seq (.reg [oO 2 (.mv (.k (.c .nil)))]) (.seq (.reg [oO 7 (.call 40 [] none),oO 8 (.call 41 [] none),oM 3 7,oM 4 8]) (.seq (.reg [oM 9 0,oO 10 (.len (.t 9)),oO 11 (.bin .quo (.t 10) (kI 64)),oO 12 (.bin .mul (.t 11) (kI 64)),oM 5 12]) (.seq (.seq (.reg [oO 6 (.mv (kI 0))]) (.block 0 (.loop oK))) (.seq (.reg [oM 26 3,oM 27 0,oM 28 5,oO 29 (.slice 1 (.t 27) (some (.t 28)) none none),oM 30 0,oO 31 (.len (.t 30)),oO 32 (.call 43 [(.t 26),(.t 29),(.t 31)] (some (0,1))),oM 2 32]) (.ret))))),[(2,none)]⟩
theorem H1:aA Tryd.prog { own:=[32],comp:=[],frz:=[],nils:=[] } Tryd.f20=some y4:=by kernel_rfl
theorem kg (G:ak) (b:List UInt8) (hb:b.length≤140737488355328):ap Tryd.prog G 20 [.sl (b.map bD)] (.w (.c (.fr 1 ((aZ b).map bD)))):=by
  refine aC Tryd.func20 H1 rfl rfl ?_;have e1:(b.length:Int).tdiv 64=((b.length / 64:Nat):Int):=rfl;have e2:((b.length / 64:Nat):Int)*64=((64*(b.length / 64):Nat):Int):=by omega
  have e3:IntKind.i64.wrap ((64*(b.length / 64):Nat):Int)=((64*(b.length / 64):Nat):Int):=IntWalk.i64_in _ (by omega);have e4:IntKind.i64.wrap ((b.length / 64:Nat):Int)=((b.length / 64:Nat):Int):=IntWalk.i64_in _ (by omega);simp only[y4,ah,wx,wy,aa,seval,iteOmega,toNatUp];refine aI (Jt G) rfl (.inl rfl) ?_;simp only[wx,wy,aa,seval,iteOmega,toNatUp];refine aI (AP G) rfl (.inl rfl) ?_;simp only[wx,wy,aa,seval,iteOmega,toNatUp,e1,e2,e3,e4];refine ba (rx b) (fun n=>b.length / 64-n) (fun n=>n≤b.length / 64) 0 (KU _) ?_ ?_
  ·refine az id ?_ ?_ rfl rfl <;> simp only[wx,aw,aa,seval,iteOmega,toNatUp,bS]
  ·intro n hn;have hl8:=hY jH b n;by_cases hlt:n<b.length / 64
   ·have h2:((b.drop (64*n)).take 64).length=64:=by rw[KL,KP]; omega
    have e1:64*n+64-64*n=64:=by omega
    have e5:IntKind.i64.wrap (((64*n:Nat):Int)+64)=((64*(n+1):Nat):Int):=by rw[IntWalk.i64_in _ (by omega)]; omega
    have e6:64*(n+1)-64*n=64:=by omega
    simp only[oK,rx,wx,wy,aa,seval,iteOmega,toNatUp,e1,e5,e6];refine aI (w8 G (bS bM b n) ((b.drop (64*n)).take 64) hl8 h2) ?_ (.inl rfl) ?_
    ·simp only[wx,wy,aa,seval,iteOmega,toNatUp]
    simp only[wx,wy,aa,seval,iteOmega,toNatUp,e5];refine aS (n+1) (by omega) (by omega) (az id ?_ ?_ rfl rfl) <;> simp only[wx,aw,aa,seval,iteOmega,toNatUp,bS]
   ·obtain rfl:n=b.length / 64:=by omega
    have e1:List.take (b.length-64*(b.length / 64)) (b.drop (64*(b.length / 64)))=b.drop (64*(b.length / 64)):=KM (by rw[KP]; exact KT _);simp only[oK,rx,wx,wy,aa,seval,iteOmega,toNatUp,e1];refine aI (Jy G (bS bM b (b.length / 64)) (b.drop (64*(b.length / 64))) b.length hl8 (by rw[KP]; omega) hb) ?_ (.inl rfl) ?_
    ·simp only[wx,wy,aa,seval,iteOmega,toNatUp]
    simp only[wx,wy,aa,seval,iteOmega,toNatUp];exact cV (id:=256) (n:=(fR (bS bM b (b.length / 64)) (b.drop (64*(b.length / 64))) b.length).length) (s:=1) (by simp only[wx,aa,seval,iteOmega,toNatUp]) (by simp only[wx,aa,seval,iteOmega,toNatUp] <;> rfl) (by rw[KN]; rfl)

def fF (v m:Int):Int:=if m<1 then 0 else v%m
theorem CG (v m:Int) (h:1≤m):0≤fF v m∧fF v m<m:=by
  unfold fF;rw[if_neg (by omega)];exact⟨Int.emod_nonneg _ (by omega),Int.emod_lt_of_pos _ (by omega)⟩
theorem Gu {v m:Int} (hm:0<m) (h:v.tmod m<0):v.tmod m+m=v%m:=by
  have h1:=Int.emod_add_mul_ediv v m;have h2:=Int.tmod_add_mul_tdiv v m;have h3:=Int.emod_nonneg v (show m≠0 by omega);have h4:=Int.emod_lt_of_pos v hm;have h5:=Int.lt_tmod_of_pos v hm;have e:m*(v.tdiv m-v / m)=v%m-v.tmod m:=by rw[Int.mul_sub]; omega
  have k1:v.tdiv m-v / m=1:=by
    rcases Int.lt_trichotomy (v.tdiv m-v / m) 1 with hlt | heq | hgt
    ·exfalso;have:v.tdiv m-v / m≤0:=by omega
     have:=LZ this (show 0≤m by omega);omega
    ·exact heq
    ·exfalso;have:2≤v.tdiv m-v / m:=by omega
     have:=LZ this (show 0≤m by omega);omega
  rw[k1] at e;omega
theorem Gv {v m:Int} (hm:0<m) (h:0≤v.tmod m):v.tmod m=v%m:=by
  have h1:=Int.emod_add_mul_ediv v m;have h2:=Int.tmod_add_mul_tdiv v m;have h3:=Int.emod_nonneg v (show m≠0 by omega);have h4:=Int.emod_lt_of_pos v hm;have h5:=Int.tmod_lt_of_pos v hm;have e:m*(v.tdiv m-v / m)=v%m-v.tmod m:=by rw[Int.mul_sub]; omega
  have k1:v.tdiv m-v / m=0:=by
    rcases Int.lt_trichotomy (v.tdiv m-v / m) 0 with hlt | heq | hgt
    ·exfalso;have:v.tdiv m-v / m ≤ -1:=by omega
     have:=LZ this (show 0≤m by omega);omega
    ·exact heq
    ·exfalso;have:1≤v.tdiv m-v / m:=by omega
     have:=LZ this (show 0≤m by omega);omega
  rw[k1] at e;omega
def lv:aB:=⟨2,16,.seq (.reg [oO 4 (.mv (kI 0))]) (.seq (.seq (.reg [oM 5 1,oO 6 (.bin .lss (.t 5) (kI 1))]) (.cond (.t 6) (.seq (.reg [oO 4 (.mv (kI 0))]) (.ret)) (.skip))) (.seq (.reg [oM 7 0,oM 8 1,oO 9 (.bin .rem (.t 7) (.t 8)),oM 0 9]) (.seq (.seq (.reg [oM 10 0,oO 11 (.bin .lss (.t 10) (kI 0))]) (.cond (.t 11) (.reg [oM 12 0,oM 13 1,oO 14 (.bin .add (.t 12) (.t 13)),oM 0 14]) (.skip))) (.seq (.reg [oM 15 0,oM 4 15]) (.ret))))),[(4,none)]⟩
theorem EK:aA Tryd.prog { own:=[],comp:=[],frz:=[],nils:=[] } Tryd.f7=some lv:=by kernel_rfl
theorem xb (G:ak) (v m:Int) (hm:m≤9223372036854775807):ap Tryd.prog G 7 [.int .i64 v,.int .i64 m] (.w (.c (.d (.int .i64 (fF v m))))):=by
  refine aC Tryd.func7 EK rfl rfl ?_;unfold fF;by_cases h:m<1
  ·rw[if_pos h];simp only[lv,ah,ae,aa,seval,iteOmega,toNatUp];exact a7
  ·rw[if_neg h];have hne:¬ m=0:=by omega
   have h4:=Int.tmod_lt_of_pos v (show 0<m by omega);by_cases hn:v.tmod m<0
   ·have e:=Gu (by omega) hn;have h3:=Int.emod_lt_of_pos v (show 0<m by omega);have h5:=Int.emod_nonneg v (show m≠0 by omega);simp only[lv,ah,ae,aa,seval,iteOmega,toNatUp,hne];exact ip (by simp only[ae,aa,seval,iteOmega,toNatUp,e])
   ·have e:=Gv (v:=v) (show 0<m by omega) (by omega);simp only[lv,ah,ae,aa,seval,iteOmega,toNatUp,hne];exact ip (by simp only[ae,aa,seval,iteOmega,toNatUp,e])
def qu (s i:Nat):List UInt8:=aZ (aN s 8++aN i 4)
def eQ (s:Nat) (k:Nat):List UInt8:=((List.range k).map (qu s)).flatten
theorem sw (s k:Nat):eQ s k++qu s k=eQ s (k+1):=by simp[eQ,List.range_succ]
theorem lc (s:Nat):∀ k,(eQ s k).length=32*k
  | 0=>rfl
  | k+1=>by rw[← sw,KJ,lc s k]; unfold qu; rw[dL]; omega
def cz (seed n:Int):List UInt8:=(eQ (seed%18446744073709551616).toNat ((n.toNat+31) / 32)).take n.toNat
theorem sV (seed n:Int):(cz seed n).length=n.toNat:=by
  unfold cz; rw[KL,lc]; omega
def mX (seed n:Int) (s:Nat) (k:Nat):St:=⟨aT [(0,.w (.c (.d (.int .i64 seed)))),(1,.w (.c (.d (.int .i64 n)))),(5,.w (.c (.own 1 1 0 (eQ s k).length))),(6,.w (.c (.d (.int .i64 (k:Int)))))],hL [(1,.row 1 ((eQ s k).map bD))],uL [1]⟩
def k8:aH := .seq (.seq (.reg [oM 8 5,oO 9 (.len (.t 8)),oM 10 1,oO 11 (.bin .lss (.t 9) (.t 10))]) (.cond (.t 11) (.skip) (.exit 0))) (.seq (.block 1 (.reg [oM 14 5,oM 15 0,oO 16 (.conv .u64 (.t 15)),oO 17 (.call 21 [(.t 16),(kI 8)] none),oM 18 6,oO 19 (.conv .u64 (.t 18)),oO 20 (.call 21 [(.t 19),(kI 4)] none),oO 21 (.bldSl false 2 1 (.sl []) [(0,(.t 17)),(1,(.t 20))]),oO 22 (.call 16 [(.t 21)] none),oO 23 (.call 20 [(.t 22)] none),oO 24 (.app false 1 1 (.t 14) (.t 23)),oM 5 24])) (.reg [oM 12 6,oO 13 (.bin .add (.t 12) (kI 1)),oM 6 13]))
def uo:aB:=⟨2,29,.seq (.reg [oO 4 (.mv (.k (.c .nil)))]) (.seq (.reg [oO 7 (.bldSl true 0 1 (.int .u8 0) []),oM 5 7]) (.seq (.seq (.reg [oO 6 (.mv (kI 0))]) (.block 0 (.loop k8))) (.seq (.reg [oM 25 5,oM 26 1,oO 27 (.max [(.t 26),(kI 0)]),oO 28 (.slice 1 (.t 25) none (some (.t 27)) none),oM 4 28]) (.ret)))),[(4,none)]⟩
theorem EL:aA Tryd.prog { own:=[7],comp:=[],frz:=[],nils:=[] } Tryd.f9=some uo:=by kernel_rfl
set_option maxHeartbeats 1600000 in
theorem Gw (G:ak) (seed n:Int) (hn:n≤1099511627776):ap Tryd.prog G 9 [.int .i64 seed,.int .i64 n] (.w (.c (.fr 1 ((cz seed n).map bD)))):=by
  refine aC Tryd.func9 EL rfl rfl ?_;obtain⟨s,hs⟩:∃ s:Nat,(seed%18446744073709551616).toNat=s:=⟨_,rfl⟩
  have hw:IntKind.u64.wrap seed=(s:Int):=by rw[IntKind.wrap_u64,← hs]; omega
  have hs2:s<18446744073709551616:=by omega
  have hK:cz seed n=(eQ s ((n.toNat+31) / 32)).take n.toNat:=by unfold cz; rw[hs]
  rw[hK];simp only[uo,ah,ae,aa,seval,iteOmega,toNatUp];refine ba (mX seed n s) (fun k=>(n.toNat+31) / 32-k) (fun k=>k≤(n.toNat+31) / 32) 0 (KU _) ?_ ?_
  ·refine az (fun _=>56) ?_ ?_ rfl rfl <;> simp only[wx,aw,aO,aa,seval,iteOmega,toNatUp] <;> rfl
  ·intro k hk;have hl:=lc s k;by_cases hlt:k<(n.toNat+31) / 32
   ·have hc:((eQ s k).length:Int)<n:=by omega
    have hj:=ig G [aN s 8,aN k 4] (by simp) (by simp[cU]);have hf:[aN s 8,aN k 4].flatten=aN s 8++aN k 4:=by simp
    rw[hf] at hj;have hb:=sw s k;have hk2:IntKind.u64.wrap (k:Int)=(k:Int):=u64_in _ (by omega) (by omega);simp only[k8,mX,wx,wy,aa,seval,iteOmega,toNatUp,hw,hk2];refine aI (lZ G s 8 (by decide)) rfl (.inl rfl) ?_;simp only[wx,wy,aa,seval,iteOmega,toNatUp,hw,hk2];refine aI (lZ G k 4 (by decide)) rfl (.inl rfl) ?_;simp only[wx,wy,aa,seval,iteOmega,toNatUp];refine aI hj rfl (.inl rfl) ?_;simp only[wx,wy,aa,seval,iteOmega,toNatUp];refine aI (kg G (aN s 8++aN k 4) (by simp[cU])) rfl (.inl rfl) ?_;have hh:(aZ (aN s 8++aN k 4)).length=32:=dL _;have hb':eQ s k++aZ (aN s 8++aN k 4)=eQ s (k+1):=hb;simp only[ae,aa,seval,iteOmega,toNatUp,cm,gj,hb',hh];refine aS (k+1) (by omega) (by omega) (az (fun _=>192) ?_ ?_ rfl rfl) <;> simp only[wx,aw,aO,aa,seval,iteOmega,toNatUp]
   ·obtain rfl:k=(n.toNat+31) / 32:=by omega
    have hc:¬ ((eQ s ((n.toNat+31) / 32)).length:Int)<n:=by omega
    by_cases h0:n<0
    ·have e0:n.toNat=0:=by omega
     simp only[k8,mX,ae,aa,seval,iteOmega,toNatUp,hc,Ln,LL];rw[e0,List.map_take];exact wc (id:=1) (s:=1) (by simp only[wx,aa,seval,iteOmega,toNatUp]) (by simp only[wx,aa,seval,iteOmega,toNatUp]) (KU _)
    ·simp only[k8,mX,ae,aa,seval,iteOmega,toNatUp,hc,Ln,LL];rw[List.map_take];exact wc (id:=1) (s:=1) (by simp only[wx,aa,seval,iteOmega,toNatUp]) (by simp only[wx,aa,seval,iteOmega,toNatUp]) (by rw[KN,lc]; omega)
theorem xc (G:ak) (seed n:Int) (hn:n≤1099511627776):ap Tryd.prog G 9 [.int .i64 seed,.int .i64 n] (.w (.c (.d (.sl ((cz seed n).map bD))))):=io (Gw G seed n hn)
def iJ (key:List UInt8):List UInt8:=if 64<key.length then aZ key else key
def cL (k:List UInt8):List UInt8:=k++List.replicate (64-k.length) 0
def fu (key:List UInt8):List UInt8:=cL (iJ key)
def bd (key:List UInt8) (x:UInt8):List UInt8:=(fu key).map fun b=>aj b x
def bH (key b:List UInt8):List UInt8:=aZ (bd key 92++aZ (bd key 54++b))
def ci (key info:List UInt8):Nat→List UInt8
  | 0=>[]
  | i+1=>bH key (ci key info i++info++[UInt8.ofNat (i+1)])
def dn (key info:List UInt8):Nat→List UInt8
  | 0=>[]
  | i+1=>dn key info i++ci key info (i+1)
def cH (key info:List UInt8) (n:Nat):List UInt8:=(dn key info ((n+31) / 32)).take n
def dF (p n c:List UInt8):List UInt8:=p++[0]++n++[0]++aZ c
theorem Gx (key:List UInt8):(iJ key).length≤64:=by
  unfold iJ; split
  ·rw[dL]; decide
  ·omega
theorem fY {k:List UInt8} (h:k.length≤64):(cL k).length=64:=by
  simp[cL]; omega
theorem xe (key:List UInt8):(fu key).length=64:=fY (Gx key)
theorem gL (key:List UInt8) (x:UInt8):(bd key x).length=64:=by
  rw[bd,KN,xe]
theorem fD (key b:List UInt8):(bH key b).length=32:=dL _
theorem uq (key info:List UInt8):∀ i,(ci key info i).length≤32
  | 0=>by simp[ci]
  | i+1=>by rw[ci,fD]; exact KT _
theorem ic (key info:List UInt8):∀ i,(dn key info i).length=32*i
  | 0=>rfl
  | i+1=>by rw[dn,KJ,ic key info i,ci,fD]; omega
theorem ut (key info:List UInt8) (i:Nat):∀ j m,m≤32*i→(dn key info (i+j)).take m=(dn key info i).take m
  | 0,_,_=>rfl
  | j+1,m,h=>by
    rw[← Nat.add_assoc,dn,List.take_append_of_le_length (by rw[ic]; omega),ut key info i j m h]
theorem pm (key info:List UInt8) (n:Nat):(cH key info n).length=n:=by
  rw[cH,KL,ic]; omega
theorem EM (key info:List UInt8) (n m:Nat) (h:m≤n):(cH key info n).take m=cH key info m:=by
  obtain⟨j,hj⟩:∃ j,(n+31) / 32=(m+31) / 32+j:=⟨(n+31) / 32-(m+31) / 32,by omega⟩
  unfold cH;rw[List.take_take,Nat.min_eq_left h,hj,ut key info _ j m (by omega)]
theorem Gy (p n c:List UInt8):(dF p n c).length=p.length+n.length+34:=by
  simp[dF,dL]; omega
theorem xf {k:List UInt8} (l:List D) (hl:l=List.replicate 64 (D.int .u8 0)):k.map bD++l.drop k.length=(cL k).map bD:=by
  subst hl;unfold cL;rw[List.drop_replicate,LG,jk]
theorem xg {k:List UInt8} (hk:k.length≤64) (l:List D) (hl:l=List.replicate 64 (D.int .u8 0)):k.length+(l.drop k.length).length=64:=by
  subst hl;rw[List.drop_replicate,KZ]; omega
def pn:aB:=⟨1,13,.seq (.reg [oO 2 (.allocArr [(.int .u8 0),(.int .u8 0),(.int .u8 0),(.int .u8 0),(.int .u8 0),(.int .u8 0),(.int .u8 0),(.int .u8 0),(.int .u8 0),(.int .u8 0),(.int .u8 0),(.int .u8 0),(.int .u8 0),(.int .u8 0),(.int .u8 0),(.int .u8 0),(.int .u8 0),(.int .u8 0),(.int .u8 0),(.int .u8 0),(.int .u8 0),(.int .u8 0),(.int .u8 0),(.int .u8 0),(.int .u8 0),(.int .u8 0),(.int .u8 0),(.int .u8 0),(.int .u8 0),(.int .u8 0),(.int .u8 0),(.int .u8 0),(.int .u8 0),(.int .u8 0),(.int .u8 0),(.int .u8 0),(.int .u8 0),(.int .u8 0),(.int .u8 0),(.int .u8 0),(.int .u8 0),(.int .u8 0),(.int .u8 0),(.int .u8 0),(.int .u8 0),(.int .u8 0),(.int .u8 0),(.int .u8 0),(.int .u8 0),(.int .u8 0),(.int .u8 0),(.int .u8 0),(.int .u8 0),(.int .u8 0),(.int .u8 0),(.int .u8 0),(.int .u8 0),(.int .u8 0),(.int .u8 0),(.int .u8 0),(.int .u8 0),(.int .u8 0),(.int .u8 0),(.int .u8 0)])])
 (.seq (.seq (.reg [oM 4 0,oO 5 (.len (.t 4)),oO 6 (.bin .gtr (.t 5) (kI 64))]) (.cond (.t 6) (.reg [oM 7 0,oO 8 (.call 37 [(.t 7)] none),oM 0 8]) (.skip))) (.seq (.reg [oO 3 (.allocArr [(.int .u8 0),(.int .u8 0),(.int .u8 0),(.int .u8 0),(.int .u8 0),(.int .u8 0),(.int .u8 0),(.int .u8 0),(.int .u8 0),(.int .u8 0),(.int .u8 0),(.int .u8 0),(.int .u8 0),(.int .u8 0),(.int .u8 0),(.int .u8 0),(.int .u8 0),(.int .u8 0),(.int .u8 0),(.int .u8 0),(.int .u8 0),(.int .u8 0),(.int .u8 0),(.int .u8 0),(.int .u8 0),(.int .u8 0),(.int .u8 0),(.int .u8 0),(.int .u8 0),(.int .u8 0),(.int .u8 0),(.int .u8 0),(.int .u8 0),(.int .u8 0),(.int .u8 0),(.int .u8 0),(.int .u8 0),(.int .u8 0),(.int .u8 0),(.int .u8 0),(.int .u8 0),(.int .u8 0),(.int .u8 0),(.int .u8 0),(.int .u8 0),(.int .u8 0),(.int .u8 0),(.int .u8 0),(.int .u8 0),(.int .u8 0),(.int .u8 0),(.int .u8 0),(.int .u8 0),(.int .u8 0),(.int .u8 0),(.int .u8 0),(.int .u8 0),(.int .u8 0),(.int .u8 0),(.int .u8 0),(.int .u8 0),(.int .u8 0),(.int .u8 0),(.int .u8 0)])])
 (.seq (.reg [oO 9 (.sliceArr 1 64 (.t 3) none none),oM 10 0,oO 11 (.copy 1 (.t 9) (.t 10))]) (.seq (.reg [oO 12 (.load (.ag 64) (.t 3)),oN (.store (.ag 64) (.t 2) (.t 12))]) (.ret))))),[(2,(some (.ag 64)))]⟩
theorem Gz:aA Tryd.prog { own:=[],comp:=[],frz:=[],nils:=[] } Tryd.f56=some pn:=by kernel_rfl
theorem H2 (G:ak) (hF:G.at 0=some (.ra (bM.map wD))) (hG:G.at 1=some (.ra (aW.map wD))) (key:List UInt8) (hb:key.length≤140737488355328):ap Tryd.prog G 56 [.sl (key.map bD)] (.w (.c (.d (.agg ((fu key).map bD))))):=by
  refine aC Tryd.func56 Gz rfl rfl ?_;by_cases h:64<key.length
  ·have e:fu key=cL (aZ key):=by unfold fu iJ; rw[if_pos h]
   have hl:=dL key;rw[e];simp only[pn,ah,ae,aa,seval,iteOmega,toNatUp];refine sD (kv G hF hG key hb) ?_;generalize aZ key=s at *
   have z:=xf (k:=s);have z2:=xg (k:=s) (by omega);have ht:s.take 64=s:=KM (by omega);have hf:(cL s).length=64:=fY (by omega);simp only[ae,aa,seval,iteOmega,toNatUp,ht,z,z2,hf];exact ip (by simp only[ae,aa,seval,iteOmega,toNatUp,hf])
  ·have e:fu key=cL key:=by unfold fu iJ; rw[if_neg h]
   rw[e];have z:=xf (k:=key);have z2:=xg (k:=key) (by omega);have ht:key.take 64=key:=KM (by omega);have hf:(cL key).length=64:=fY (by omega);simp only[pn,ah,ae,aa,seval,iteOmega,toNatUp,ht,z,z2,hf];exact ip (by simp only[ae,aa,seval,iteOmega,toNatUp,hf])
def eC (l:List UInt8) (m:UInt8) (i:Nat):List UInt8:=(l.take i).map (fun b=>aj b m)++l.drop i
theorem EN (l:List UInt8) (m:UInt8) (i:Nat):(eC l m i).length=l.length:=by
  unfold eC; rw[KJ,KN,← KJ,Lo]
theorem EO (l:List UInt8) (m:UInt8) (i:Nat) (h:i<l.length):(eC l m i)[i]?=some l[i]:=by
  unfold eC;rw[Le (by rw[KN,KL]; omega),Lf,KN,KL];rw[show i+(i-min i l.length)=i by omega,KH h]
theorem Dr (l:List UInt8) (m:UInt8) (i:Nat) (h:i<l.length):(eC l m i).set i (aj l[i] m)=eC l m (i+1):=by
  unfold eC;rw[L8 _ _ (by rw[KN,KL]; omega),KN,KL,show i-min i l.length=0 by omega,List.drop_eq_getElem_cons h,List.set_cons_zero,Lq h,LG,LM];rfl
theorem Ds (l:List UInt8) (m:UInt8):eC l m 0=l:=by simp[eC]
theorem Dt (l:List UInt8) (m:UInt8) (i:Nat) (h:l.length≤i):eC l m i=l.map fun b=>aj b m:=by
  unfold eC;rw[KM h,Lp h,K5]
def qv (l:List UInt8) (m:UInt8) (i:Nat):St:=⟨aT [(1,.w (.c (.d (bD m)))),(2,.w (.c (.pa 1 1))),(6,.w (.c (.d (.int .i64 (i:Int)))))],hL [(1,.row 1 ((eC l m i).map bD))],uL [1]⟩
def nO:aH := .seq (.reg [oO 7 (.bin .lss (.t 6) (kI 64))]) (.seq (.cond (.t 7) (.skip) (.exit 0)) (.seq (.block 1 (.seq (.reg [oM 8 6,oM 5 8]) (.reg [oM 9 5,oO 10 (.idxPa 1 64 (.t 2) (.t 9)),oO 11 (.load .sc (.t 10)),oM 12 1,oO 13 (.bin .xor (.t 11) (.t 12)),oO 14 (.idxPa 1 64 (.t 2) (.t 9)),oN (.store .sc (.t 14) (.t 13))]))) (.reg [oO 15 (.bin .add (.t 6) (kI 1)),oM 6 15])))
def uu:aB:=⟨2,17,.seq (.reg [oO 2 (.box .ownArr (.t 0)),oO 4 (.mv (.k (.c .nil)))]) (.seq (.seq (.reg [oO 6 (.mv (kI 0))]) (.block 0 (.loop nO))) (.seq (.reg [oO 16 (.sliceArr 1 64 (.t 2) none none),oM 4 16]) (.ret))),[(4,none)]⟩
theorem EP:aA Tryd.prog { own:=[2],comp:=[],frz:=[],nils:=[] } Tryd.f57=some uu:=by kernel_rfl
theorem xh (G:ak) (l:List UInt8) (hl:l.length=64) (m:UInt8):ap Tryd.prog G 57 [.agg (l.map bD),bD m] (.w (.c (.fr 1 ((l.map fun b=>aj b m).map bD)))):=by
  refine aC Tryd.func57 EP rfl rfl ?_;simp only[uu,ah,ae,aa,seval,iteOmega,toNatUp];refine ba (qv l m) (fun i=>64-i) (fun i=>i≤64) 0 (KU _) ?_ ?_
  ·refine az (fun _=>16) ?_ ?_ rfl rfl <;> simp only[wx,aw,aO,aa,seval,iteOmega,toNatUp,Ds]
  ·intro i hi;have hm:=EN l m i;by_cases hlt:i<64
   ·have h1:=EO l m i (by omega);have h2:=Dr l m i (by omega);have h3:i<(eC l m i).length:=by omega
    simp only[nO,qv,ae,aa,seval,iteOmega,toNatUp,bm,h1,ea,dN h3 (dm _),ec,h2];refine aS (i+1) (by omega) (by omega) (az (fun _=>1) ?_ ?_ rfl rfl) <;> simp only[wx,aw,aO,aa,seval,iteOmega,toNatUp]
   ·obtain rfl:i=64:=by omega
    have h1:=Dt l m 64 (by omega);simp only[nO,qv,ae,aa,seval,iteOmega,toNatUp,h1,hl];exact cV (id:=1) (n:=64) (s:=1) (by simp only[wx,aa,seval,iteOmega,toNatUp]) (by simp only[wx,aa,seval,iteOmega,toNatUp]) (by simp[hl])
def A4:aB:=⟨2,21,.seq (.reg [oO 4 (.mv (.k (.c .nil)))]) (.seq (.reg [oM 7 0,oO 8 (.call 56 [(.t 7)] none),oO 5 (.allocArr [(.int .u8 0),(.int .u8 0),(.int .u8 0),(.int .u8 0),(.int .u8 0),(.int .u8 0),(.int .u8 0),(.int .u8 0),(.int .u8 0),(.int .u8 0),(.int .u8 0),(.int .u8 0),(.int .u8 0),(.int .u8 0),(.int .u8 0),(.int .u8 0),(.int .u8 0),(.int .u8 0),(.int .u8 0),(.int .u8 0),(.int .u8 0),(.int .u8 0),(.int .u8 0),(.int .u8 0),(.int .u8 0),(.int .u8 0),(.int .u8 0),(.int .u8 0),(.int .u8 0),(.int .u8 0),(.int .u8 0),(.int .u8 0),(.int .u8 0),(.int .u8 0),(.int .u8 0),(.int .u8 0),(.int .u8 0),(.int .u8 0),(.int .u8 0),(.int .u8 0),(.int .u8 0),(.int .u8 0),(.int .u8 0),(.int .u8 0),(.int .u8 0),(.int .u8 0),(.int .u8 0),(.int .u8 0),(.int .u8 0),(.int .u8 0),(.int .u8 0),(.int .u8 0),(.int .u8 0),(.int .u8 0),(.int .u8 0),(.int .u8 0),(.int .u8 0),(.int .u8 0),(.int .u8 0),(.int .u8 0),(.int .u8 0),(.int .u8 0),(.int .u8 0),(.int .u8 0)]),
 oN (.store (.ag 64) (.t 5) (.t 8))]) (.seq (.reg [oO 9 (.load (.ag 64) (.t 5)),oO 10 (.call 57 [(.t 9),(.k (.c (.d (.int .u8 54))))] none),oM 11 1,oO 12 (.bldSl false 2 1 (.sl []) [(0,(.t 10)),(1,(.t 11))]),oO 13 (.call 24 [(.t 12)] none),oO 14 (.call 37 [(.t 13)] none),oM 6 14]) (.seq (.reg [oO 15 (.load (.ag 64) (.t 5)),oO 16 (.call 57 [(.t 15),(.k (.c (.d (.int .u8 92))))] none),oM 17 6,oO 18 (.bldSl false 2 1 (.sl []) [(0,(.t 16)),(1,(.t 17))]),oO 19 (.call 24 [(.t 18)] none),oO 20 (.call 37 [(.t 19)] (some (0,1))),oM 4 20]) (.ret)))),[(4,none)]⟩
theorem Jz:aA Tryd.prog { own:=[20],comp:=[],frz:=[],nils:=[] } Tryd.f44=some A4:=by kernel_rfl
theorem BM (G:ak) (hF:G.at 0=some (.ra (bM.map wD))) (hG:G.at 1=some (.ra (aW.map wD))) (key b:List UInt8) (hk:key.length≤140737488355328) (hb:b.length≤70368744177664):ap Tryd.prog G 44 [.sl (key.map bD),.sl (b.map bD)] (.w (.c (.fr 1 ((bH key b).map bD)))):=by
  refine aC Tryd.func44 Jz rfl rfl ?_;have h1:=de G [bd key 54,b] (by simp) (by simp[gL]; omega);have h2:=de G [bd key 92,aZ (bd key 54++b)] (by simp) (by simp[gL,dL]);have f1:[bd key 54,b].flatten=bd key 54++b:=by simp
  have f2:[bd key 92,aZ (bd key 54++b)].flatten=bd key 92++aZ (bd key 54++b):=by simp
  rw[f1] at h1;rw[f2] at h2;have hl:=xe key;have hm1:(bd key 54++b).length≤140737488355328:=by rw[KJ,gL]; omega
  have hm2:(bd key 92++aZ (bd key 54++b)).length≤140737488355328:=by rw[KJ,gL,dL]; decide
  have hs:=dL (bd key 92++aZ (bd key 54++b));have hmac:bH key b=aZ (bd key 92++aZ (bd key 54++b)):=rfl;rw[hmac];simp only[A4,ah,ae,aa,seval,iteOmega,toNatUp];refine sD (H2 G hF hG key hk) ?_;refine sD (xh G (fu key) hl 54) ?_;refine sD (h1) ?_;refine sD (kv G hF hG _ hm1) ?_;refine sD (xh G (fu key) hl 92) ?_;refine sD (h2) ?_;refine sD (kv G hF hG _ hm2) ?_;exact cQ
def d6 (k:List UInt8) (x:UInt8) (i:Nat):List UInt8:=((cL k).take i).map (fun b=>aj b x)++List.replicate (64-i) 0
theorem GA {k:List UInt8} (hk:k.length≤64) (x:UInt8) (i:Nat) (hi:i≤64):(d6 k x i).length=64:=by
  unfold d6;rw[KJ,KN,KL,fY hk,KZ]; omega
theorem GC {k:List UInt8} (hk:k.length≤64) (x:UInt8) (i:Nat) (hi:i<64):(d6 k x i)[i]?=some 0:=by
  unfold d6;rw[Le (by rw[KN,KL]; omega),KN,KL,fY hk,List.getElem?_replicate,if_pos (by omega)]
theorem uv {k:List UInt8} (hk:k.length≤64) (x a:UInt8) (i:Nat) (hi:i<64) (ha:(cL k)[i]?=some a):(d6 k x i).set i (aj a x)=d6 k x (i+1):=by
  have h:=jV (((cL k).take i).map (fun b=>aj b x)) 0 (aj a x) (64-i) (by omega);have hl:(((cL k).take i).map (fun b=>aj b x)).length=i:=by rw[KN,KL,fY hk]; omega
  rw[hl] at h;unfold d6;rw[h,List.take_add_one,ha,LG];rfl
theorem H3 (k:List UInt8) (i:Nat) (h:i<k.length):(cL k)[i]?=some k[i]:=by
  unfold cL;rw[Lm h,KH h]
theorem H4 (k:List UInt8) (i:Nat) (h:k.length≤i) (h2:i<64):(cL k)[i]?=some 0:=by
  unfold cL;rw[Le h,List.getElem?_replicate,if_pos (by omega)]
theorem uw (k:List UInt8) (x:UInt8):d6 k x 0=List.replicate 64 0:=by simp[d6]
theorem EQ {k:List UInt8} (hk:k.length≤64) (x:UInt8):d6 k x 64=(cL k).map fun b=>aj b x:=by
  unfold d6;rw[KM (by rw[fY hk]; exact KT _),Nat.sub_self,LF,K5]
def kw (k:List UInt8) (x:UInt8) (i:Nat):St:=⟨aT [(0,.w (.c (.d (.sl (k.map bD))))),(1,.w (.c (.d (bD x)))),(5,.w (.c (.own 1 1 0 64))),(6,.w (.c (.d (.int .i64 (i:Int)))))],hL [(1,.row 1 ((d6 k x i).map bD))],uL [1]⟩
def jI:aH := .seq (.seq (.reg [oM 13 6,oO 14 (.bin .lss (.t 13) (kI 64))]) (.cond (.t 14) (.skip) (.exit 0))) (.seq (.block 1 (.seq (.seq (.reg [oM 17 6,oM 18 0,oO 19 (.len (.t 18)),oO 20 (.bin .lss (.t 17) (.t 19))]) (.cond (.t 20) (.reg [oM 21 5,oM 22 6,oM 23 0,oM 24 6,oO 25 (.idxSl 1 (.t 23) (.t 24)),oO 26 (.load .sc (.t 25)),oO 27 (.idxSl 1 (.t 21) (.t 22)),oN (.store .sc (.t 27) (.t 26))]) (.skip))) (.reg [oM 28 5,oM 29 6,oM 30 5,oM 31 6,oO 32 (.idxSl 1 (.t 30) (.t 31)),oO 33 (.load .sc (.t 32)),oM 34 1,oO 35 (.bin .xor (.t 33) (.t 34)),oO 36 (.idxSl 1 (.t 28) (.t 29)),oN (.store .sc (.t 36) (.t 35))]))) (.reg [oM 15 6,oO 16 (.bin .add (.t 15) (kI 1)),oM 6 16]))
def po:aB:=⟨2,38,.seq (.reg [oO 4 (.mv (.k (.c .nil)))]) (.seq (.seq (.reg [oM 7 0,oO 8 (.len (.t 7)),oO 9 (.bin .gtr (.t 8) (kI 64))]) (.cond (.t 9) (.reg [oM 10 0,oO 11 (.call 20 [(.t 10)] none),oM 0 11]) (.skip))) (.seq (.reg [oO 12 (.make true 1 1 (.int .u8 0) (kI 64) (kI 64)),oM 5 12]) (.seq (.seq (.reg [oO 6 (.mv (kI 0))]) (.block 0 (.loop jI))) (.seq (.reg [oM 37 5,oM 4 37]) (.ret))))),[(4,none)]⟩
theorem GD:aA Tryd.prog { own:=[],comp:=[],frz:=[],nils:=[] } Tryd.f65=some po:=by kernel_rfl
theorem y5 (G:ak) (k:List UInt8) (hk:k.length≤64) (x:UInt8) (Q:AX→St→Prop) (σ:St) (he:dd σ (kw k x 0)) (hq:∀ f,f 5=.w (.c (.own 1 1 0 64))→Q (.ex 0) ⟨f,hL [(1,.row 1 (((cL k).map fun b=>aj b x).map bD))],uL [1]⟩):a9 Tryd.prog G (.loop jI) Q σ:=by
  refine ba (kw k x) (fun i=>64-i) (fun i=>i≤64) 0 (KU _) he ?_;intro i hi;have hl:=GA hk x i hi;by_cases hlt:i<64
  ·have h1:=GC hk x i hlt;have h3:i<(d6 k x i).length:=by omega
   by_cases hkl:i<k.length
   ·have h2:=uv hk x k[i] i hlt (H3 k i hkl);have e2:k[i]?=some k[i]:=KH hkl;have h4:((d6 k x i).set i k[i])[i]?=some k[i]:=by rw[List.getElem?_set_self h3]
    have h5:i<((d6 k x i).set i k[i]).length:=by rw[Lw]; exact h3
    simp only[jI,kw,ae,aa,seval,iteOmega,toNatUp,bm,h1,e2,dN h3 (dm _),ec,h4,dN h5 (dm _),List.set_set,h2];refine aS (i+1) (by omega) (by omega) (az (fun _=>1) ?_ ?_ rfl rfl) <;> simp only[wx,aw,aO,aa,seval,iteOmega,toNatUp]
   ·have h2:=uv hk x 0 i hlt (H4 k i (by omega) hlt);simp only[jI,kw,ae,aa,seval,iteOmega,toNatUp,bm,h1,dN h3 (dm _),ec,h2];refine aS (i+1) (by omega) (by omega) (az (fun _=>1) ?_ ?_ rfl rfl) <;> simp only[wx,aw,aO,aa,seval,iteOmega,toNatUp]
  ·obtain rfl:i=64:=by omega
   simp only[jI,kw,ae,aa,seval,iteOmega,toNatUp,EQ hk x];exact hq _ (by simp only[ae,aa,seval,iteOmega,toNatUp])
theorem y6 (G:ak) (key:List UInt8) (hb:key.length≤140737488355328) (x:UInt8):ap Tryd.prog G 65 [.sl (key.map bD),bD x] (.w (.c (.fr 1 ((bd key x).map bD)))):=by
  refine aC Tryd.func65 GD rfl rfl ?_;by_cases h:64<key.length
  ·have e:bd key x=(cL (aZ key)).map fun b=>aj b x:=by unfold bd fu iJ; rw[if_pos h]
   have hl:=dL key;rw[e];simp only[po,ah,ae,aa,seval,iteOmega,toNatUp];refine sD (kg G key hb) ?_;generalize aZ key=s at *
   refine y5 G s (by omega) x _ _ (az (fun _=>96) ?_ ?_ rfl rfl) fun f hf=>?_
   ·simp only[wx,aw,aO,aa,seval,iteOmega,toNatUp]
   ·simp only[wx,aw,aO,aa,seval,iteOmega,toNatUp,uw];rfl
   ·simp only[ae,aa,seval,iteOmega,toNatUp,hf];exact cV (id:=1) (n:=64) (s:=1) (by simp only[wx,aa,seval,iteOmega,toNatUp,hf]) (by simp only[wx,aa,seval,iteOmega,toNatUp]) (by rw[KN,KN,fY (by omega)])
  ·have e:bd key x=(cL key).map fun b=>aj b x:=by unfold bd fu iJ; rw[if_neg h]
   rw[e];simp only[po,ah,ae,aa,seval,iteOmega,toNatUp];refine y5 G key (by omega) x _ _ (az (fun _=>96) ?_ ?_ rfl rfl) fun f hf=>?_
   ·simp only[wx,aw,aO,aa,seval,iteOmega,toNatUp]
   ·simp only[wx,aw,aO,aa,seval,iteOmega,toNatUp,uw];rfl
   ·simp only[ae,aa,seval,iteOmega,toNatUp,hf];exact cV (id:=1) (n:=64) (s:=1) (by simp only[wx,aa,seval,iteOmega,toNatUp,hf]) (by simp only[wx,aa,seval,iteOmega,toNatUp]) (by rw[KN,KN,fY (by omega)])
def y7:aB:=⟨2,16,.seq (.reg [oO 4 (.mv (.k (.c .nil)))]) (.seq (.reg [oM 5 0,oO 6 (.call 65 [(.t 5),(.k (.c (.d (.int .u8 92))))] none),oM 7 0,oO 8 (.call 65 [(.t 7),(.k (.c (.d (.int .u8 54))))] none),oM 9 1,oO 10 (.bldSl false 2 1 (.sl []) [(0,(.t 8)),(1,(.t 9))]),oO 11 (.call 16 [(.t 10)] none),oO 12 (.call 20 [(.t 11)] none),oO 13 (.bldSl false 2 1 (.sl []) [(0,(.t 6)),(1,(.t 12))]),oO 14 (.call 16 [(.t 13)] none),oO 15 (.call 20 [(.t 14)] (some (0,1))),oM 4 15]) (.ret)),[(4,none)]⟩
theorem H5:aA Tryd.prog { own:=[15],comp:=[],frz:=[],nils:=[] } Tryd.f54=some y7:=by kernel_rfl
theorem A5 (G:ak) (key b:List UInt8) (hk:key.length≤140737488355328) (hb:b.length≤70368744177664):ap Tryd.prog G 54 [.sl (key.map bD),.sl (b.map bD)] (.w (.c (.fr 1 ((bH key b).map bD)))):=by
  refine aC Tryd.func54 H5 rfl rfl ?_;have h1:=ig G [bd key 54,b] (by simp) (by simp[gL]; omega);have h2:=ig G [bd key 92,aZ (bd key 54++b)] (by simp) (by simp[gL,dL]);have f1:[bd key 54,b].flatten=bd key 54++b:=by simp
  have f2:[bd key 92,aZ (bd key 54++b)].flatten=bd key 92++aZ (bd key 54++b):=by simp
  rw[f1] at h1;rw[f2] at h2;have hm1:(bd key 54++b).length≤140737488355328:=by rw[KJ,gL]; omega
  have hm2:(bd key 92++aZ (bd key 54++b)).length≤140737488355328:=by rw[KJ,gL,dL]; decide
  have hs:=dL (bd key 92++aZ (bd key 54++b));have hmac:bH key b=aZ (bd key 92++aZ (bd key 54++b)):=rfl;rw[hmac];simp only[y7,ah,ae,aa,seval,iteOmega,toNatUp];refine sD (y6 G key hk 92) ?_;refine sD (y6 G key hk 54) ?_;refine sD (h1) ?_;refine sD (kg G _ hm1) ?_;refine sD (h2) ?_;refine sD (kg G _ hm2) ?_;exact cQ
def A6:aB:=⟨2,8,.seq (.reg [oO 4 (.mv (.k (.c .nil)))]) (.seq (.reg [oM 5 0,oM 6 1,oO 7 (.call 44 [(.t 5),(.t 6)] (some (0,1))),oM 4 7]) (.ret)),[(4,none)]⟩
theorem JA:aA Tryd.prog { own:=[7],comp:=[],frz:=[],nils:=[] } Tryd.f23=some A6:=by kernel_rfl
theorem BN (G:ak) (hF:G.at 0=some (.ra (bM.map wD))) (hG:G.at 1=some (.ra (aW.map wD))) (key b:List UInt8) (hk:key.length≤140737488355328) (hb:b.length≤70368744177664):ap Tryd.prog G 23 [.sl (key.map bD),.sl (b.map bD)] (.w (.c (.fr 1 ((bH key b).map bD)))):=by
  refine aC Tryd.func23 JA rfl rfl ?_;simp only[A6,ah,ae,aa,seval,iteOmega,toNatUp];refine sD (BM G hF hG key b hk hb) ?_;exact cQ
def y8:aB:=⟨2,8,.seq (.reg [oO 4 (.mv (.k (.c .nil)))]) (.seq (.reg [oM 5 0,oM 6 1,oO 7 (.call 54 [(.t 5),(.t 6)] (some (0,1))),oM 4 7]) (.ret)),[(4,none)]⟩
theorem H6:aA Tryd.prog { own:=[7],comp:=[],frz:=[],nils:=[] } Tryd.f39=some y8:=by kernel_rfl
theorem JB (G:ak) (key b:List UInt8) (hk:key.length≤140737488355328) (hb:b.length≤70368744177664):ap Tryd.prog G 39 [.sl (key.map bD),.sl (b.map bD)] (.w (.c (.fr 1 ((bH key b).map bD)))):=by
  refine aC Tryd.func39 H6 rfl rfl ?_;simp only[y8,ah,ae,aa,seval,iteOmega,toNatUp];refine sD (A5 G key b hk hb) ?_;exact cQ
def jt (n:Int):Int:=if 0≤n∧n≤8160 then 0 else 4
def fS (key info:List UInt8) (n:Int):List UInt8:=if 0≤n∧n≤8160 then cH key info n.toNat else []
theorem ij {n:Int} (h:0≤n∧n≤8160):jt n=0:=if_pos h
theorem ik (key info:List UInt8) {n:Int} (h:0≤n∧n≤8160):fS key info n=cH key info n.toNat:=if_pos h
theorem lQ {n:Int} (h:¬ (0≤n∧n≤8160)):jt n=4:=if_neg h
theorem lR (key info:List UInt8) {n:Int} (h:¬ (0≤n∧n≤8160)):fS key info n=[]:=if_neg h
def d7 (key info:List UInt8) (n i:Nat):List UInt8:=(dn key info i).take n
theorem xi (key info:List UInt8) (n i:Nat):(d7 key info n i).length=min n (32*i):=by
  unfold d7; rw[KL,ic]
theorem ER (key info:List UInt8) (n i:Nat) (h:32*i≤n):d7 key info n i++(ci key info (i+1)).take (n-32*i)=d7 key info n (i+1):=by
  unfold d7;rw[dn,List.take_append,ic]
theorem ux (key info:List UInt8) (i:Nat):bH key (ci key info i++info++[UInt8.ofNat (i+1)])=ci key info (i+1):=rfl
theorem Ck (v:Nat):aN v 1=[UInt8.ofNat v]:=by simp[aN]
def eR (key info:List UInt8):Nat→V
  | 0=>.w (.c .nil)
  | i+1=>.w (.c (.d (.sl ((ci key info (i+1)).map bD))))
theorem H7 (a b:Nat):List.foldl (fun x y:Int=>if y<x then y else x) (a:Int) [(b:Int)]=((min a b:Nat):Int):=by
  simp only[Ln,LL];split <;> omega
def mY (key info:List UInt8) (n i:Nat):St:=⟨aT [(0,.w (.c (.d (.sl (key.map bD))))),(1,.w (.c (.d (.sl (info.map bD))))),(2,.w (.c (.d (.int .i64 (n:Int))))),(8,.w (.c (.own 1 1 0 (d7 key info n i).length))),(9,eR key info i),(10,.w (.c (.d (.int .u64 ((i+1:Nat):Int)))))],hL [(1,.row 1 ((d7 key info n i).map bD))],uL [1]⟩
def lS:aH := .seq (.seq (.reg [oM 19 8,oO 20 (.len (.t 19)),oM 21 2,oO 22 (.bin .lss (.t 20) (.t 21))]) (.cond (.t 22) (.skip) (.exit 0))) (.seq (.block 1 (.seq (.reg [oM 25 0,oM 26 9,oM 27 1,oM 28 10,oO 29 (.call 25 [(.t 28),(kI 1)] none),oO 30 (.bldSl false 3 1 (.sl []) [(0,(.t 26)),(1,(.t 27)),(2,(.t 29))]),oO 31 (.call 24 [(.t 30)] none),oO 32 (.call 44 [(.t 25),(.t 31)] none),oM 9 32]) (.reg [oM 33 8,oM 34 9,oM 35 9,oO 36 (.len (.t 35)),oM 37 2,oM 38 8,oO 39 (.len (.t 38)),oO 40 (.bin .sub (.t 37) (.t 39)),oO 41 (.min [(.t 36),(.t 40)]),oO 42 (.slice 1 (.t 34) none (some (.t 41)) none),oO 43 (.app false 1 1 (.t 33) (.t 42)),oM 8 43]))) (.reg [oM 23 10,oO 24 (.bin .add (.t 23) (.k (.c (.d (.int .u64 1))))),oM 10 24]))
def mw:aB:=⟨3,45,.seq (.reg [oO 6 (.mv (.k (.c .nil))),oO 7 (.mv (kI 0))]) (.seq (.seq (.reg [oM 11 2,oO 12 (.bin .lss (.t 11) (kI 0)),oM 13 12,oG 14 (.mv (.t 2)) 13 false,oG 15 (.bin .gtr (.t 14) (kI 8160)) 13 false,oO 16 (.pick (.t 13) (.k (.c (.d (.bool true)))) (.t 15))]) (.cond (.t 16) (.seq (.reg [oO 6 (.mv (.k (.c .nil))),oO 7 (.mv (kI 4))]) (.ret)) (.skip))) (.seq (.reg [oM 17 2,oO 18 (.make true 1 1 (.int .u8 0) (kI 0) (.t 17)),oM 8 18]) (.seq (.reg [oO 9 (.mv (.k (.c .nil)))]) (.seq (.seq (.reg [oO 10 (.mv (.k (.c (.d (.int .u64 1)))))]) (.block 0 (.loop lS))) (.seq (.reg [oM 44 8,oM 6 44,oO 7 (.mv (kI 0))]) (.ret)))))),[(6,none),(7,none)]⟩
theorem JC:aA Tryd.prog { own:=[],comp:=[],frz:=[],nils:=[] } Tryd.f35=some mw:=by kernel_rfl
theorem qU (G:ak) (hF:G.at 0=some (.ra (bM.map wD))) (hG:G.at 1=some (.ra (aW.map wD))) (key info:List UInt8) (hk:key.length≤140737488355328) (hb:info.length≤35184372088832) (n:Int) (hn1:-9223372036854775808≤n) (hn2:n≤9223372036854775807):ap Tryd.prog G 35 [.sl (key.map bD),.sl (info.map bD),.int .i64 n] (.tup [.c (.d (.sl ((fS key info n).map bD))),.c (.d (.int .i64 (jt n)))]):=by
  refine aC Tryd.func35 JC rfl rfl ?_;by_cases h0:n<0
  ·have hc:¬ (0≤n∧n≤8160):=by omega
   rw[lQ hc,lR key info hc];simp only[mw,ah,ae,aa,seval,iteOmega,toNatUp];exact cP
  ·by_cases h1:8160<n
   ·have hc:¬ (0≤n∧n≤8160):=by omega
    rw[lQ hc,lR key info hc];simp only[mw,ah,ae,aa,seval,iteOmega,toNatUp];exact cP
   ·have hc:0≤n∧n≤8160:=by omega
    rw[ij hc,ik key info hc];obtain⟨m,rfl⟩:=Ly hc.1;rw[Ma];simp only[mw,ah,ae,aa,seval,iteOmega,toNatUp];refine ba (mY key info m) (fun i=>(m+31) / 32-i) (fun i=>i≤(m+31) / 32) 0 (KU _) ?_ ?_
    ·refine az (fun _=>144) ?_ ?_ rfl rfl <;> simp only[wx,aw,aO,aa,seval,iteOmega,toNatUp,d7,dn,eR]
    ·intro i hi;have hl:=xi key info m i;have hp:=uq key info i;by_cases hlt:i<(m+31) / 32
     ·have h32:32*i≤m:=by omega
      have hl:(d7 key info m i).length=32*i:=by omega
      have hj:=de G [ci key info i,info,aN (i+1) 1] (by simp) (by simp[cU]; omega);have hf:[ci key info i,info,aN (i+1) 1].flatten=ci key info i++info++[UInt8.ofNat (i+1)]:=by simp[Ck]
      rw[hf] at hj;have hm:=BM G hF hG key (ci key info i++info++[UInt8.ofNat (i+1)]) hk (by simp; omega);rw[ux] at hm;have hl2:(ci key info (i+1)).length=32:=fD _ _;have hs:=ER key info m i h32;have hs2:=xi key info m (i+1);have hmin:=H7 32 (m-32*i);rw[show ((m-32*i:Nat):Int)=(m:Int)-32*(i:Int) by omega] at hmin;have hs':d7 key info m i++(ci key info (i+1)).take (min 32 (m-32*i))=d7 key info m (i+1):=by
        rw[← hs]; congr 1
        rw[Nat.min_comm,← List.take_take,KM (l:=ci key info (i+1)) (by omega)]
      have hlt2:((d7 key info m i).length:Int)<(m:Int):=by omega
      have hmm:min 32 (m-32*i)≤32:=by omega
      have hml:((ci key info (i+1)).take (min 32 (m-32*i))).length=min 32 (m-32*i):=by rw[KL,hl2]; omega
      have hcl:(d7 key info m (i+1)).length=32*i+min 32 (m-32*i):=by omega
      generalize hq:min 32 (m-32*i)=q at *
      rcases i with _ | i
      ·simp only[LQ,L5,L6,LI,Int.mul_zero,Int.sub_zero,Nat.mul_zero,Lv] at hmin hl hl2 hs' hml hcl;simp only[lS,mY,eR,ae,aa,seval,iteOmega,toNatUp];refine sD (gO G (0+1) 1 (by decide)) ?_;refine sD (hj) ?_;refine sD (hm) ?_;simp only[ae,aa,seval,iteOmega,toNatUp,hl2,hl,hmin,hml,hs',cm,Int.sub_zero];refine aS (0+1) (by omega) (by omega) (az (fun _=>344) ?_ ?_ rfl rfl) <;> simp only[wx,aw,aO,aa,seval,iteOmega,toNatUp,eR,hcl]
      ·simp only[LQ,L5,L6,LI] at hmin;simp only[lS,mY,eR,ae,aa,seval,iteOmega,toNatUp];refine sD (gO G (i+1+1) 1 (by decide)) ?_;refine sD (hj) ?_;refine sD (hm) ?_;simp only[ae,aa,seval,iteOmega,toNatUp,hl2,hl,hmin,hml,hs',cm];refine aS (i+1+1) (by omega) (by omega) (az (fun _=>344) ?_ ?_ rfl rfl) <;> simp only[wx,aw,aO,aa,seval,iteOmega,toNatUp,eR,hcl]
     ·obtain rfl:i=(m+31) / 32:=by omega
      have hlt2:¬ ((d7 key info m ((m+31) / 32)).length:Int)<(m:Int):=by omega
      have he:d7 key info m ((m+31) / 32)=cH key info m:=rfl;rw[he] at hlt2;simp only[lS,mY,ae,aa,seval,iteOmega,toNatUp,he];exact cP
def my (key info:List UInt8) (n i:Nat):St:=⟨aT [(0,.w (.c (.d (.sl (key.map bD))))),(1,.w (.c (.d (.sl (info.map bD))))),(2,.w (.c (.d (.int .i64 (n:Int))))),(8,.w (.c (.own 1 1 0 (dn key info i).length))),(9,eR key info i),(10,.w (.c (.d (.int .i64 ((i+1:Nat):Int)))))],hL [(1,.row 1 ((dn key info i).map bD))],uL [1]⟩
def lw:aH := .seq (.seq (.reg [oM 19 8,oO 20 (.len (.t 19)),oM 21 2,oO 22 (.bin .lss (.t 20) (.t 21))]) (.cond (.t 22) (.skip) (.exit 0))) (.seq (.block 1 (.seq (.reg [oM 25 0,oM 26 9,oM 27 1,oM 28 10,oO 29 (.conv .u8 (.t 28)),oO 30 (.bldSl false 1 1 (.int .u8 0) [(0,(.t 29))]),oO 31 (.bldSl false 3 1 (.sl []) [(0,(.t 26)),(1,(.t 27)),(2,(.t 30))]),oO 32 (.call 16 [(.t 31)] none),oO 33 (.call 54 [(.t 25),(.t 32)] none),oM 9 33]) (.reg [oM 34 8,oM 35 9,oO 36 (.app false 1 1 (.t 34) (.t 35)),oM 8 36]))) (.reg [oM 23 10,oO 24 (.bin .add (.t 23) (kI 1)),oM 10 24]))
def l9:aB:=⟨3,40,.seq (.reg [oO 6 (.mv (.k (.c .nil))),oO 7 (.mv (kI 0))]) (.seq (.seq (.reg [oM 11 2,oO 12 (.bin .lss (.t 11) (kI 0)),oM 13 12,oG 14 (.mv (.t 2)) 13 false,oG 15 (.bin .gtr (.t 14) (kI 8160)) 13 false,oO 16 (.pick (.t 13) (.k (.c (.d (.bool true)))) (.t 15))]) (.cond (.t 16) (.seq (.reg [oO 6 (.mv (.k (.c .nil))),oO 7 (.mv (kI 4))]) (.ret)) (.skip))) (.seq (.reg [oO 17 (.bldSl true 0 1 (.int .u8 0) []),oO 18 (.bldSl false 0 1 (.int .u8 0) []),oM 8 17,oM 9 18]) (.seq (.seq (.reg [oO 10 (.mv (kI 1))]) (.block 0 (.loop lw))) (.seq (.reg [oM 37 8,oM 38 2,oO 39 (.slice 1 (.t 37) none (some (.t 38)) none),oM 6 39,oO 7 (.mv (kI 0))]) (.ret))))),[(6,none),(7,none)]⟩
theorem H8:aA Tryd.prog { own:=[17],comp:=[],frz:=[],nils:=[] } Tryd.f53=some l9:=by kernel_rfl
theorem A7 (G:ak) (key info:List UInt8) (hk:key.length≤140737488355328) (hb:info.length≤35184372088832) (n:Int) (hn1:-9223372036854775808≤n) (hn2:n≤9223372036854775807):ap Tryd.prog G 53 [.sl (key.map bD),.sl (info.map bD),.int .i64 n] (.tup [.c (.d (.sl ((fS key info n).map bD))),.c (.d (.int .i64 (jt n)))]):=by
  refine aC Tryd.func53 H8 rfl rfl ?_;by_cases h0:n<0
  ·have hc:¬ (0≤n∧n≤8160):=by omega
   rw[lQ hc,lR key info hc];simp only[l9,ah,ae,aa,seval,iteOmega,toNatUp];exact cP
  ·by_cases h1:8160<n
   ·have hc:¬ (0≤n∧n≤8160):=by omega
    rw[lQ hc,lR key info hc];simp only[l9,ah,ae,aa,seval,iteOmega,toNatUp];exact cP
   ·have hc:0≤n∧n≤8160:=by omega
    rw[ij hc,ik key info hc];obtain⟨m,rfl⟩:=Ly hc.1;rw[Ma];simp only[l9,ah,ae,aa,seval,iteOmega,toNatUp];refine ba (my key info m) (fun i=>(m+31) / 32-i) (fun i=>i≤(m+31) / 32) 0 (KU _) ?_ ?_
    ·refine az (fun _=>136) ?_ ?_ rfl rfl <;> simp only[wx,aw,aO,aa,seval,iteOmega,toNatUp,dn,eR]
    ·intro i hi;have hl:=ic key info i;have hp:=uq key info i;by_cases hlt:i<(m+31) / 32
     ·have hj:=ig G [ci key info i,info,[UInt8.ofNat (i+1)]] (by simp) (by simp; omega);have hf:[ci key info i,info,[UInt8.ofNat (i+1)]].flatten=ci key info i++info++[UInt8.ofNat (i+1)]:=by simp
      rw[hf] at hj;have hm:=A5 G key (ci key info i++info++[UInt8.ofNat (i+1)]) hk (by simp; omega);rw[ux] at hm;have hl2:(ci key info (i+1)).length=32:=fD _ _;have hs':dn key info i++ci key info (i+1)=dn key info (i+1):=rfl;have hcl:(dn key info (i+1)).length=32*i+32:=by rw[ic]; omega
      rcases i with _ | i
      ·simp only[LQ,L5,L6,LI,Int.mul_zero,Int.sub_zero,Nat.mul_zero,Lv] at hl hl2 hs' hcl;simp only[lw,my,eR,ae,aa,seval,iteOmega,toNatUp];refine sD (hj) ?_;refine sD (hm) ?_;simp only[ae,aa,seval,iteOmega,toNatUp,hl2,hl,hs',cm,Int.sub_zero];refine aS (0+1) (by omega) (by omega) (az (fun _=>288) ?_ ?_ rfl rfl) <;> simp only[wx,aw,aO,aa,seval,iteOmega,toNatUp,eR,hcl]
      ·have hby:D.int .u8 ((i:Int)+1+1)=bD (UInt8.ofNat (i+1+1)):=by rw[← byte_of,IntWalk.u8_in _ (by omega)]; rfl
       simp only[lw,my,eR,ae,aa,seval,iteOmega,toNatUp,hby];refine sD (hj) ?_;refine sD (hm) ?_;simp only[ae,aa,seval,iteOmega,toNatUp,hl2,hl,hs',cm];refine aS (i+1+1) (by omega) (by omega) (az (fun _=>288) ?_ ?_ rfl rfl) <;> simp only[wx,aw,aO,aa,seval,iteOmega,toNatUp,eR,hcl]
     ·obtain rfl:i=(m+31) / 32:=by omega
      have he:(dn key info ((m+31) / 32)).take m=cH key info m:=rfl;have hle:m≤(dn key info ((m+31) / 32)).length:=by omega
      simp only[lw,my,ae,aa,seval,iteOmega,toNatUp];exact mg (by simp only[ae,aa,seval,iteOmega,toNatUp,he]) (by simp only[ae,aa,seval,iteOmega,toNatUp])
def A8:aB:=⟨3,19,.seq (.reg [oO 6 (.mv (.k (.c .nil)))]) (.seq (.reg [oO 8 (.bldSl false 1 1 (.int .u8 0) [(0,(.k (.c (.d (.int .u8 0)))))]),oM 7 8]) (.seq (.reg [oM 9 0,oO 10 (.s2b false (.t 9)),oM 11 7,oM 12 1,oO 13 (.s2b false (.t 12)),oM 14 7,oM 15 2,oO 16 (.call 37 [(.t 15)] none),oO 17 (.bldSl false 5 1 (.sl []) [(0,(.t 10)),(1,(.t 11)),(2,(.t 13)),(3,(.t 14)),(4,(.t 16))]),oO 18 (.call 24 [(.t 17)] (some (0,1))),oM 6 18]) (.ret))),[(6,none)]⟩
theorem JD:aA Tryd.prog { own:=[18],comp:=[],frz:=[],nils:=[] } Tryd.f36=some A8:=by kernel_rfl
theorem Kk (G:ak) (hF:G.at 0=some (.ra (bM.map wD))) (hG:G.at 1=some (.ra (aW.map wD))) (p n:ByteArray) (c:List UInt8) (hp:p.size≤1099511627776) (hn:n.size≤1099511627776) (hc:c.length≤140737488355328):ap Tryd.prog G 36 [.str p,.str n,.sl (c.map bD)] (.w (.c (.fr 1 ((dF p.data.toList n.data.toList c).map bD)))):=by
  refine aC Tryd.func36 JD rfl rfl ?_;have hp':p.data.toList.length=p.size:=rfl;have hn':n.data.toList.length=n.size:=rfl;have hj:=de G [p.data.toList,[0],n.data.toList,[0],aZ c] (by simp) (by simp[dL]; omega);have hf:[p.data.toList,[0],n.data.toList,[0],aZ c].flatten=dF p.data.toList n.data.toList c:=by simp[dF]
  rw[hf] at hj;have hpm:p.size≤maxLen:=by unfold maxLen; omega
  have hnm:n.size≤maxLen:=by unfold maxLen; omega
  simp only[A8,ah,ae,aa,seval,iteOmega,toNatUp,hpm,hnm];refine sD (kv G hF hG c hc) ?_;refine sD (hj) ?_;exact cQ
theorem qy (G:ak) (v:Nat) (k:Int) (hk:0≤k∧k≤64):ap Tryd.prog G 25 [.int .u64 (v:Int),.int .i64 k] (.w (.c (.fr 1 ((aN v k.toNat).map bD)))):=by
  have c:=J2 G v k;rw[show rl v k=aN v k.toNat from if_pos hk] at c;exact c
def mB:aB:=⟨2,25,.seq (.reg [oO 4 (.mv (.k (.c .nil))),oO 5 (.mv (.k (.c .nil))),oO 6 (.mv (.k (.c (.d (.bool false)))))]) (.seq (.seq (.reg [oM 7 1,oO 8 (.bin .lss (.t 7) (kI 0)),oM 9 8,oG 10 (.mv (.t 1)) 9 false,oG 11 (.mv (.t 0)) 9 false,oG 12 (.len (.t 11)) 9 false,oG 13 (.bin .gtr (.t 10) (.t 12)) 9 false,oO 14 (.pick (.t 9) (.k (.c (.d (.bool true)))) (.t 13))]) (.cond (.t 14) (.seq (.reg [oO 4 (.mv (.k (.c .nil))),oO 5 (.mv (.k (.c .nil))),oO 6 (.mv (.k (.c (.d (.bool false)))))]) (.ret)) (.skip))) (.seq (.reg [oM 15 0,oM 16 1,oO 17 (.slice 1 (.t 15) none (some (.t 16)) none),oO 18 (.bldSl false 1 1 (.sl []) [(0,(.t 17))]),oO 19 (.call 24 [(.t 18)] none),oM 20 0,oM 21 1,oO 22 (.slice 1 (.t 20) (some (.t 21)) none none),oO 23 (.bldSl false 1 1 (.sl []) [(0,(.t 22))]),oO 24 (.call 24 [(.t 23)] none),
 oM 4 19,oM 5 24,oO 6 (.mv (.k (.c (.d (.bool true)))))]) (.ret))),[(4,none),(5,none),(6,none)]⟩
theorem Bb:aA Tryd.prog { own:=[],comp:=[],frz:=[],nils:=[] } Tryd.f47=some mB:=by kernel_rfl
set_option maxHeartbeats 800000 in
theorem JM (G:ak) (b:List UInt8) (n:Nat) (h:n≤b.length) (hb:b.length≤1099511627776):ap Tryd.prog G 47 [.sl (b.map bD),.int .i64 (n:Int)] (.tup [.c (.d (.sl ((b.take n).map bD))),.c (.d (.sl ((b.drop n).map bD))),.c (.d (.bool true))]):=by
  refine aC Tryd.func47 Bb rfl rfl ?_;have c1:=de G [b.take n] (by simp) (by simp; omega);have c2:=de G [b.drop n] (by simp) (by simp; omega);simp only[KR,Ls,List.flatten_cons,List.flatten_nil,K5] at c1 c2;have et:(b.drop n).take (b.length-n)=b.drop n:=KM (by simp);have g:((n:Int)>(b.length:Int))=False:=eq_false (by omega);simp only[mB,ah,ae,aa,seval,iteOmega,toNatUp,g];refine sC (c1) ?_;simp only[et,ae,aa,seval,iteOmega,toNatUp];refine sC (c2) ?_;simp only[et,ae,aa,seval,iteOmega,toNatUp];exact eZ
theorem JN (G:ak) (b:List UInt8) (n:Int) (h:n<0∨(b.length:Int)<n):ap Tryd.prog G 47 [.sl (b.map bD),.int .i64 n] (.tup [.c (.d (.sl [])),.c (.d (.sl [])),.c (.d (.bool false))]):=by
  refine aC Tryd.func47 Bb rfl rfl ?_;rcases Int.lt_or_le n 0 with h1 | h1
  ·simp only[mB,ah,ae,aa,seval,iteOmega,toNatUp];exact qa (by simp only[ae,aa,seval,iteOmega,toNatUp] <;> rfl) (by simp only[ae,aa,seval,iteOmega,toNatUp] <;> rfl) (by simp only[ae,aa,seval,iteOmega,toNatUp])
  ·have g:(n>(b.length:Int))=True:=eq_true (by omega);simp only[mB,ah,ae,aa,seval,iteOmega,toNatUp,g];exact qa (by simp only[ae,aa,seval,iteOmega,toNatUp] <;> rfl) (by simp only[ae,aa,seval,iteOmega,toNatUp] <;> rfl) (by simp only[ae,aa,seval,iteOmega,toNatUp])
def y9:aB:=⟨1,5,.seq (.reg [oO 2 (.mv (.k (.c .nil)))]) (.seq (.reg [oM 3 0,oO 4 (.call 9 [(.t 3),(kI 32)] none),oM 2 4]) (.ret)),[(2,none)]⟩
theorem Ic:aA Tryd.prog { own:=[],comp:=[],frz:=[],nils:=[] } Tryd.f19=some y9:=by kernel_rfl
theorem JV (G:ak) (seed:Int):ap Tryd.prog G 19 [.int .i64 seed] (.w (.c (.d (.sl ((cz seed 32).map bD))))):=by
  refine aC Tryd.func19 Ic rfl rfl ?_;simp only[y9,ah,ae,aa,seval,iteOmega,toNatUp];refine sD (xc G seed 32 (by decide)) ?_;exact a7
def j5:aB:=⟨2,14,.seq (.reg [oO 4 (.mv (.k (.c .nil)))]) (.seq (.reg [oM 5 0,oM 6 0,oO 7 (.len (.t 6)),oM 8 1,oO 9 (.max [(.t 8),(kI 0)]),oO 10 (.min [(.t 7),(.t 9)]),oO 11 (.slice 1 (.t 5) none (some (.t 10)) none),oO 12 (.bldSl false 1 1 (.sl []) [(0,(.t 11))]),oO 13 (.call 16 [(.t 12)] (some (0,1))),oM 4 13]) (.ret)),[(4,none)]⟩
theorem Ig:aA Tryd.prog { own:=[13],comp:=[],frz:=[],nils:=[] } Tryd.f8=some j5:=by kernel_rfl
set_option maxHeartbeats 800000 in
theorem JZ (G:ak) (l:List UInt8) (n:Nat) (hl:l.length≤9223372036854775807) (hn:n≤1000000):ap Tryd.prog G 8 [.sl (l.map bD),.int .i64 (n:Int)] (.w (.c (.fr 1 ((l.take n).map bD)))):=by
  refine aC Tryd.func8 Ig rfl rfl ?_;have cj:=ig G [l.take n] (by simp) (by simp; omega);simp only[KR,Ls,List.flatten_cons,List.flatten_nil,K5] at cj;rcases Li n with h0 | h0
  ·subst h0;have e1:((0:Int)>((0:Nat):Int))=False:=eq_false (by omega);have e2:((0:Int)<(l.length:Int))∨l.length=0:=by omega
   rcases e2 with e2 | e2
   ·simp only[j5,ah,ae,aa,seval,iteOmega,toNatUp,Ln,LL];refine aI cj (by simp only[ae,aa,seval,iteOmega,toNatUp]) (.inl rfl) ?_;simp only[ae,aa,seval,iteOmega,toNatUp];exact cQ
   ·have hl0:l=[]:=List.length_eq_zero_iff.1 e2;subst hl0;simp only[j5,ah,ae,aa,seval,iteOmega,toNatUp,Ln,LL];refine aI cj (by simp only[ae,aa,seval,iteOmega,toNatUp]) (.inl rfl) ?_;simp only[ae,aa,seval,iteOmega,toNatUp];exact cQ
  ·have e1:((0:Int)>(n:Int))=False:=eq_false (by omega);rcases Lu n l.length with h1 | h1
   ·simp only[j5,ah,ae,aa,seval,iteOmega,toNatUp,e1,Ln,LL];refine aI cj (by simp only[ae,aa,seval,iteOmega,toNatUp]) (.inl rfl) ?_;simp only[ae,aa,seval,iteOmega,toNatUp];exact cQ
   ·have e3:l.take n=l:=KM h1;rw[e3] at cj ⊢;simp only[j5,ah,ae,aa,seval,iteOmega,toNatUp,e1,Ln,LL];refine aI cj (by simp only[ae,aa,seval,iteOmega,toNatUp]) (.inl rfl) ?_;simp only[ae,aa,seval,iteOmega,toNatUp];exact cQ
end Go.Proofs.YtbkhllchjbjhgaaDoor
