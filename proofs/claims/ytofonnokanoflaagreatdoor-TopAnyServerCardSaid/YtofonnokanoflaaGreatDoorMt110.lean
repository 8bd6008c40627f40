/- Texts of one's own, merged: from: Layer 1 on data: Put,Get,Same,Join,Hex: what they return. Own work. -/
import Derived.Test.YtofonnokanoflaaGreatDoorProg
import Derived.Test.YtofonnokanoflaaGreatDoorMt17
set_option linter.unusedVariables false
set_option linter.unusedSimpArgs false
namespace Go.Proofs.YtofonnokanoflaaGreatDoor
open Go.RowKit IntWalk
set_option maxHeartbeats 400000
theorem kj {l:List UInt8} {i:Nat} {x:D} (hi:i<l.length) (hx:x.one=true):ot .sc (.c (.d x)) i 0 (.row 1 (l.map bD))=some (.row 1 ((l.map bD).set i x)):=by
  simp[ot,aon hi,bD,jJ,hx]
theorem BW {l:List UInt32} {i:Nat} {x:D} (hi:i<l.length) (hx:x.one=true):ot .sc (.c (.d x)) i 0 (.row 1 (l.map wD))=some (.row 1 ((l.map wD).set i x)):=by
  simp[ot,aon hi,wD,jJ,hx]
theorem lI (l:List UInt8) (i:Nat) (x:UInt8):(l.map bD).set i (bD x)=(l.set i x).map bD:=GK bD l i x
theorem BX (l:List UInt32) (i:Nat) (x:UInt32):(l.map wD).set i (wD x)=(l.set i x).map wD:=GK wD l i x
theorem I1 (n:Nat):List.replicate n (D.int .u8 0)=(List.replicate n (0:UInt8)).map bD:=by simp[bD]
def aC (v n:Nat):List UInt8:=(List.range n).map fun i=>UInt8.ofNat (v / 256^(n-1-i))
def ml (v n m:Nat):List UInt8:=List.replicate m 0++(aC v n).drop m
def DN (v:Nat) (n:Int):List UInt8:=if 0≤n∧n≤64 then aC v n.toNat else []
theorem bO (v n:Nat):(aC v n).length=n:=by simp[aC]
theorem EJ (v n m:Nat) (h:m≤n):(ml v n m).length=n:=by simp[ml,bO]; omega
theorem ME (v n:Nat):ml v n 0=aC v n:=by simp[ml]
theorem MF (v n:Nat):ml v n n=List.replicate n 0:=by simp[ml,bO]
theorem MG (v n i:Nat) (h:i+1≤n):ml v n i=(ml v n (i+1)).set i (UInt8.ofNat (v / 256^(n-(i+1)))):=by
  apply apF;intro j;rw[aqG];have hl:i<(aC v n).length:=by rw[bO]; omega
  by_cases hj:i=j
  ·subst hj;rw[if_pos rfl,if_pos (by rw[EJ _ _ _ h]; omega)];simp only[ml,List.getElem?_append,aoR,Nat.lt_irrefl,if_false,aqm,apo,apL];rw[aon hl];simp[aC,Nat.sub_sub,Nat.add_comm 1 i]
  ·rw[if_neg hj];simp only[ml,List.getElem?_append,aoR,List.getElem?_replicate,apo];by_cases h1:j<i
   ·rw[if_pos h1,if_pos h1,if_pos (by omega),if_pos (by omega)]
   ·rw[if_neg h1,if_neg (by omega)]
    congr 1; omega
theorem byte_of (v:Nat):D.int .u8 (IntKind.u8.wrap (v:Int))=bD (UInt8.ofNat v):=by
  rw[IntKind.wrap_u8];simp[bD]
def vS (v n m:Nat):St:=⟨bz [(0,.w (.c (.d (.int .u64 ((v / 256^(n-m):Nat):Int))))),(5,.w (.c (.own 1 1 0 n))),(6,.w (.c (.d (.int .i64 ((m:Int)-1)))))],hL [(1,.row 1 ((ml v n m).map bD))],uL [1]⟩
def FZ:bq := .seq (ae [oM 17 6,am .geq 18 17 0] (aw 18 .skip (.exit 0))) (.seq (.block 1 (ae [oM 21 5,oM 22 6,oM 23 0,oO 24 (.conv .u8 (.t 23)),bW 25 1 21 22,ei 25 24] (.reg [oM 26 0,oO 27 (.bin .shr (.t 26) (.k (.c (.d (.int .u64 8))))),oM 0 27]))) (.reg [oM 19 6,am .sub 20 19 1,oM 6 20]))
def BZ:aK:=⟨2,29,ae [aM 4] (.seq (ae [oM 7 1,am .lss 8 7 0,oM 9 8,bE 10 1 9 false,cu .gtr 11 10 64 9 false,cC 12 9 11] (aw 12 (ae [aM 4] .ret) .skip)) (ae [oM 13 1,oO 14 (.make true 1 1 aj (.t 13) (.t 13)),oM 5 14] (.seq (ae [oM 15 1,am .sub 16 15 1,oM 6 16] (.block 0 (.loop FZ))) (ae [oM 28 5,oM 4 28] .ret)))),[(4,none)]⟩
theorem U9:aI Tryz.prog {} Tryz.f76=some BZ:=by kernel_rfl
theorem rC (G:au) (v n:Nat) (hn:n≤64):aF Tryz.prog G 76 [.int .u64 v,.int .i64 n] (.w (.c (.fr 1 ((aC v n).map bD)))):=by
  refine aT Tryz.func76 U9 rfl rfl ?_;have e1:IntKind.i64.wrap ((n:Int)-1)=(n:Int)-1:=IntWalk.i64_in _ (by omega);simp only[BZ,ai,wx,seval,iteOmega,toNatUp,e1];refine bQ (vS v n) (fun m=>m) (fun m=>m≤n) n (aoz _) ?_ ?_
  ·refine aV (fun _=>112) ?_ ?_ rfl rfl <;> simp only[wx,aH,seval,MF,I1,aqm,Nat.pow_zero,Nat.div_one]
  ·intro m hm;rcases apt m with rfl | hpos
   ·simp only[FZ,vS,wx,seval,ME];refine iP (id:=1) (n:=n) (s:=1) ?_ ?_ ?_ <;> simp only[wx,seval,bO]
   ·obtain⟨i,rfl⟩:∃ i,m=i+1:=⟨m-1,by omega⟩
    have e2:((i+1:Nat):Int)-1=(i:Int):=by omega
    have hlt:i<(ml v n (i+1)).length:=by rw[EJ _ _ _ hm]; omega
    have e3:IntKind.i64.wrap ((i:Int)-1)=(i:Int)-1:=IntWalk.i64_in _ (by omega);simp only[FZ,vS,wx,aa,seval,iteOmega,toNatUp,e2,e3,aph,byte_of,kj hlt (js _),lI,← MG _ _ _ hm,IntKind.bits];refine bA i (by omega) (by omega) (aV id ?_ ?_ rfl rfl) <;> simp only[wx,aH,seval];have e4:v / 256^(n-(i+1)) / 256=v / 256^(n-i):=by
      rw[show n-i=n-(i+1)+1 by omega,Nat.pow_succ,← Nat.div_div_eq_div_mul]
    simpa using congrArg (Nat.cast:Nat→Int) e4
theorem XO (G:au) (v:Nat) (n:Int):aF Tryz.prog G 76 [.int .u64 v,.int .i64 n] (.w (.c (.fr 1 ((DN v n).map bD)))):=by
  unfold DN;by_cases h:0≤n∧n≤64
  ·rw[if_pos h];obtain⟨n,rfl⟩:=ao5 h.1;exact rC G v n (by omega)
  ·rw[if_neg h];refine aT Tryz.func76 U9 rfl rfl ?_;by_cases h0:n<0
   ·simp only[BZ,ai,wx,seval,iteOmega];exact GL (by simp[wx,seval])
   ·have h1:64<n:=by omega
    simp only[BZ,ai,wx,seval,iteOmega];exact GL (by simp[wx,seval])
def Fh:bq := .seq (ae [oM 17 6,am .geq 18 17 0] (aw 18 .skip (.exit 0))) (.seq (.block 1 (ae [oM 21 5,oM 22 6,oM 23 0,oO 24 (.conv .u8 (.t 23)),bW 25 1 21 22,ei 25 24] (.reg [oM 26 0,oO 27 (.bin .shr (.t 26) (.k (.c (.d (.int .u64 8))))),oM 0 27]))) (.reg [oM 19 6,am .sub 20 19 1,oM 6 20]))
def RE:aK:=⟨2,29,ae [aM 4] (.seq (ae [oM 7 1,am .lss 8 7 0,oM 9 8,bE 10 1 9 false,cu .gtr 11 10 64 9 false,cC 12 9 11] (aw 12 (ae [aM 4] .ret) .skip)) (ae [oM 13 1,oO 14 (.make true 1 1 aj (.t 13) (.t 13)),oM 5 14] (.seq (ae [oM 15 1,am .sub 16 15 1,oM 6 16] (.block 0 (.loop Fh))) (ae [oM 28 5,oM 4 28] .ret)))),[(4,none)]⟩
theorem aet:aI Tryz.prog {} Tryz.f46=some RE:=by kernel_rfl
theorem A6 (G:au) (v n:Nat) (hn:n≤64):aF Tryz.prog G 46 [.int .u64 v,.int .i64 n] (.w (.c (.fr 1 ((aC v n).map bD)))):=by
  refine aT Tryz.func46 aet rfl rfl ?_;have e1:IntKind.i64.wrap ((n:Int)-1)=(n:Int)-1:=IntWalk.i64_in _ (by omega);simp only[RE,ai,wx,seval,iteOmega,toNatUp,e1];refine bQ (vS v n) (fun m=>m) (fun m=>m≤n) n (aoz _) ?_ ?_
  ·refine aV (fun _=>112) ?_ ?_ rfl rfl <;> simp only[wx,aH,seval,MF,I1,aqm,Nat.pow_zero,Nat.div_one]
  ·intro m hm;rcases apt m with rfl | hpos
   ·simp only[Fh,vS,wx,seval,ME];refine iP (id:=1) (n:=n) (s:=1) ?_ ?_ ?_ <;> simp only[wx,seval,bO]
   ·obtain⟨i,rfl⟩:∃ i,m=i+1:=⟨m-1,by omega⟩
    have e2:((i+1:Nat):Int)-1=(i:Int):=by omega
    have hlt:i<(ml v n (i+1)).length:=by rw[EJ _ _ _ hm]; omega
    have e3:IntKind.i64.wrap ((i:Int)-1)=(i:Int)-1:=IntWalk.i64_in _ (by omega);simp only[Fh,vS,wx,aa,seval,iteOmega,toNatUp,e2,e3,aph,byte_of,kj hlt (js _),lI,← MG _ _ _ hm,IntKind.bits];refine bA i (by omega) (by omega) (aV id ?_ ?_ rfl rfl) <;> simp only[wx,aH,seval];have e4:v / 256^(n-(i+1)) / 256=v / 256^(n-i):=by
      rw[show n-i=n-(i+1)+1 by omega,Nat.pow_succ,← Nat.div_div_eq_div_mul]
    simpa using congrArg (Nat.cast:Nat→Int) e4
theorem toList_mk (l:List UInt8):(⟨l.toArray⟩:ByteArray).toList=l:=Go.ByteArray.toList_mk l
theorem MH (l m:List UInt8):pn .eql ⟨l.toArray⟩ ⟨m.toArray⟩=some (.bool (l==m)):=by
  simp only[pn,toList_mk]
def Pb:aK:=⟨2,10,ae [bH 4 false] (ae [oM 5 0,oO 6 (.b2s (.t 5)),oM 7 1,oO 8 (.b2s (.t 7)),aU .eql 9 6 8,oM 4 9] .ret),[(4,none)]⟩
theorem acp:aI Tryz.prog {} Tryz.f17=some Pb:=by kernel_rfl
theorem aeu (G:au) (l m:List UInt8):aF Tryz.prog G 17 [.sl (l.map bD),.sl (m.map bD)] (.w (.c (.d (.bool (l==m))))):=by
  refine aT Tryz.func17 acp rfl rfl ?_;simp only[Pb,ai,wx,seval,Aq,MH];exact qo (by simp only[wx,seval])
theorem ma (ls:List (List UInt8)):fL 1 (ls.map fun l=>D.sl (l.map bD))=true:=xz _ (fun _=>rfl) ls
def GN (ls:List (List UInt8)) (i:Nat):St:=⟨bz [(0,.w (.c (.d (.sl (ls.map fun l=>D.sl (l.map bD)))))),(3,.w (.c (.own 1 1 0 ((ls.take i).flatten).length))),(4,.w (.c (.d (.int .i64 (i:Int)))))],hL [(1,.row 1 (((ls.take i).flatten).map bD))],uL [1]⟩
theorem zY {α:Type} (ls:List (List α)) (i:Nat) (h:i<ls.length):(ls.take (i+1)).flatten=(ls.take i).flatten++ls[i]:=by
  rw[apr h,List.flatten_append]; simp
theorem GO {α:Type} (ls:List (List α)) (i:Nat) (h:i<ls.length):(ls.take i).flatten.length+ls[i].length≤ls.flatten.length:=by
  have h1:=zY ls i h;have h2:ls.flatten=(ls.take (i+1)).flatten++(ls.drop (i+1)).flatten:=by rw[← List.flatten_append,aoX]
  have h3:=congrArg List.length h2;rw[aoq,h1,aoq] at h3;omega
def EZ:bq := .seq (ae [oM 6 4,oM 7 0,bc 8 7,aU .lss 9 6 8] (aw 9 .skip (.exit 0))) (.seq (.block 1 (.reg [oM 12 3,oM 13 0,oM 14 4,bW 15 1 13 14,aA 16 15,oO 17 (.app false 1 1 (.t 12) (.t 16)),oM 3 17])) (.reg [oM 10 4,am .add 11 10 1,oM 4 11]))
def Pf:aK:=⟨1,19,ae [aM 2] (ae [oO 5 (.bldSl true 0 1 aj []),oM 3 5] (.seq (ae [ak 4 0] (.block 0 (.loop EZ))) (ae [oM 18 3,oM 2 18] .ret))),[(2,none)]⟩
theorem acq:aI Tryz.prog { own:=[5] } Tryz.f23=some Pf:=by kernel_rfl
theorem uW (G:au) (ls:List (List UInt8)) (hl:ls.length≤9223372036854775807) (hf:ls.flatten.length≤140737488355328):aF Tryz.prog G 23 [.sl (ls.map fun l=>D.sl (l.map bD))] (.w (.c (.fr 1 (ls.flatten.map bD)))):=by
  refine aT Tryz.func23 acq rfl rfl ?_;simp only[Pf,ai,wx,seval];refine bQ (GN ls) (fun i=>ls.length-i) (fun i=>i≤ls.length) 0 (aoy _) ?_ ?_
  ·refine aV (fun _=>40) ?_ ?_ rfl rfl <;> simp only[wx,aH,seval]
  ·intro i hi;by_cases hlt:i<ls.length
   ·have e2:ls[i]?=some ls[i]:=aon hlt;have e4:IntKind.i64.wrap ((i:Int)+1)=((i+1:Nat):Int):=by rw[IntWalk.i64_in _ (by omega)]; rfl
    have h5:=GO ls i hlt;simp only[EZ,GN,wx,seval,iteOmega,toNatUp,ba,e2,e4,apX,cG];refine bA (i+1) (by omega) (by omega) (aV (fun _=>136) ?_ ?_ rfl rfl) <;> simp only[wx,aH,seval,zY ls i hlt]
   ·have:ls.take i=ls:=aot (by omega);simp only[EZ,GN,wx,seval,iteOmega,this];refine iP (id:=1) (n:=ls.flatten.length) (s:=1) ?_ ?_ ?_ <;> simp only[wx,seval]
def GQ (ls:List (List UInt8)) (i:Nat):St:=⟨bz [(0,.w (.c (.d (.sl (ls.map fun l=>D.sl (l.map bD)))))),(3,.w (.c (.d (.int .i64 (((ls.take i).flatten).length:Int))))),(9,.w (.c (.d (.sl (ls.map fun l=>D.sl (l.map bD)))))),(10,.w (.c (.d (.int .i64 (ls.length:Int))))),(11,.w (.c (.d (.int .i64 (i:Int)))))],hL [],uL []⟩
def GR (ls:List (List UInt8)) (i:Nat):St:=⟨bz [(6,.w (.c (.own 1 1 0 ((ls.take i).flatten).length))),(22,.w (.c (.d (.sl (ls.map fun l=>D.sl (l.map bD)))))),(23,.w (.c (.d (.int .i64 (ls.length:Int))))),(24,.w (.c (.d (.int .i64 (i:Int)))))],hL [(1,.row 1 (((ls.take i).flatten).map bD))],uL [1]⟩
def Fi:bq := ae [aU .lss 12 11 10] (.seq (aw 12 .skip (.exit 0)) (.seq (.block 1 (ae [bW 13 1 9 11,aA 14 13,oM 5 14] (.reg [oM 15 3,oM 16 5,bc 17 16,aU .add 18 15 17,oM 3 18]))) (.reg [am .add 19 11 1,oM 11 19])))
def Fj:bq := ae [aU .lss 25 24 23] (.seq (aw 25 .skip (.exit 2)) (.seq (.block 3 (ae [bW 26 1 22 24,aA 27 26,oM 8 27] (.reg [oM 28 6,oM 29 8,oO 30 (.app false 1 1 (.t 28) (.t 29)),oM 6 30]))) (.reg [am .add 31 24 1,oM 24 31])))
def RF:aK:=⟨1,33,ae [aM 2] (ae [ak 3 0] (.seq (ae [oM 9 0,bc 10 9,ak 11 0] (.block 0 (.loop Fi))) (ae [oM 20 3,oO 21 (.make true 1 1 aj (kI 0) (.t 20)),oM 6 21] (.seq (ae [oM 22 0,bc 23 22,ak 24 0] (.block 2 (.loop Fj))) (ae [oM 32 6,oM 2 32] .ret))))),[(2,none)]⟩
theorem aev:aI Tryz.prog {} Tryz.f44=some RF:=by kernel_rfl
theorem dV (G:au) (ls:List (List UInt8)) (hl:ls.length≤9223372036854775807) (hf:ls.flatten.length≤140737488355328):aF Tryz.prog G 44 [.sl (ls.map fun l=>D.sl (l.map bD))] (.w (.c (.fr 1 (ls.flatten.map bD)))):=by
  refine aT Tryz.func44 aev rfl rfl ?_;simp only[RF,ai,wx,seval];refine bQ (GQ ls) (fun i=>ls.length-i) (fun i=>i≤ls.length) 0 (aoy _) ?_ ?_
  ·refine aV id ?_ ?_ rfl rfl <;> simp only[wx,aH,seval]
  ·intro i hi;by_cases hlt:i<ls.length
   ·have e2:ls[i]?=some ls[i]:=aon hlt;have e4:IntKind.i64.wrap ((i:Int)+1)=((i+1:Nat):Int):=by rw[IntWalk.i64_in _ (by omega)]; rfl
    have h5:=GO ls i hlt;have e5:IntKind.i64.wrap (((ls.take i).flatten.length:Int)+(ls[i].length:Int))=(((ls.take (i+1)).flatten.length:Nat):Int):=by
      rw[zY ls i hlt,aoq,IntWalk.i64_in _ (by omega)]; rfl
    simp only[Fi,GQ,wx,seval,iteOmega,toNatUp,ba,e2,e4,e5];refine bA (i+1) (by omega) (by omega) (aV id ?_ ?_ rfl rfl) <;> simp only[wx,aH,seval]
   ·have:ls.take i=ls:=aot (by omega);simp only[Fi,GQ,wx,seval,iteOmega,toNatUp,this];refine bQ (GR ls) (fun i=>ls.length-i) (fun i=>i≤ls.length) 0 (aoy _) ?_ ?_
    ·refine aV (fun _=>168) ?_ ?_ rfl rfl <;> simp only[wx,aH,seval]
    ·intro i hi;by_cases hlt:i<ls.length
     ·have e2:ls[i]?=some ls[i]:=aon hlt;have e4:IntKind.i64.wrap ((i:Int)+1)=((i+1:Nat):Int):=by rw[IntWalk.i64_in _ (by omega)]; rfl
      have h5:=GO ls i hlt;simp only[Fj,GR,wx,seval,iteOmega,toNatUp,ba,e2,e4,apX,cG];refine bA (i+1) (by omega) (by omega) (aV (fun _=>240) ?_ ?_ rfl rfl) <;> simp only[wx,aH,seval,zY ls i hlt]
     ·have:ls.take i=ls:=aot (by omega);simp only[Fj,GR,wx,seval,iteOmega,this];refine iP (id:=1) (n:=ls.flatten.length) (s:=1) ?_ ?_ ?_ <;> simp only[wx,seval]
def bi (l:List UInt8):Nat:=l.foldl (fun a x=>(a*256+x.toNat)%18446744073709551616) 0
theorem RG (l:List UInt8):bi l<18446744073709551616:=by
  unfold bi;rcases List.eq_nil_or_concat l with rfl | ⟨a,x,rfl⟩
  ·simp
  ·simp only[List.concat_eq_append,List.foldl_append,apB,ap9]; omega
theorem u64_in (n:Int) (h₀:0≤n) (h₁:n<2^64):IntKind.u64.wrap n=n:=by rw[IntKind.wrap_u64]; omega
theorem aa4 (a:List UInt8) (x:UInt8):bits .or .u64 (IntKind.u64.wrap ((bi a:Int)*256)) (x.toNat:Int)=(bi (a++[x]):Int):=by
  have hx:x.toNat<256:=x.toNat_lt
  have h1:=bits_join .u64 64 (by decide) u64_in 8 (IntKind.u64.wrap ((bi a:Int)*256)) (x.toNat:Int)
    (by rw[IntKind.wrap_u64]; omega) (by rw[IntKind.wrap_u64]; omega) (by rw[IntKind.wrap_u64]; omega) (by omega) (by omega) (by omega)
  rw[h1,IntKind.wrap_u64];simp only[bi,List.foldl_append,apB,ap9];omega
theorem aa5 (l:List UInt8) (j:Nat) (h:j<l.length):bits .or .u64 (IntKind.u64.wrap ((bi (l.take j):Int)*256)) (l[j].toNat:Int)=(bi (l.take (j+1)):Int):=by
  rw[aa4,apr h]
theorem acr (a b:List UInt8):bi (a++b)=(bi a*256^b.length+bi b)%18446744073709551616:=by
  have key:∀ (n:Nat) (b:List UInt8),b.length=n→bi (a++b)=(bi a*256^n+bi b)%18446744073709551616:=by
    intro n
    induction n with
    | zero =>
      intro b hb;have:b=[]:=apm hb;subst this;have h0:bi []=0:=rfl;rw[aoF,Nat.pow_zero,h0];have:=RG a;omega
    | succ n ih =>
      intro b hb;rcases List.eq_nil_or_concat b with rfl | ⟨c,x,rfl⟩
      ·simp at hb
      ·rw[List.concat_eq_append] at hb ⊢;rw[← aoC];have h1:∀ l:List UInt8,bi (l++[x])=(bi l*256+x.toNat)%18446744073709551616:=fun l=>by simp[bi]
       rw[h1,h1,ih c (by simpa using hb),Nat.pow_succ];generalize bi a=p;generalize bi c=q;generalize 256^n=r;have e:p*(r*256)=p*r*256:=by rw[Nat.mul_assoc]
       rw[e];generalize p*r=z;omega
  exact key _ b rfl
theorem aa6 (l:List UInt8) (h:8<l.length):bi (l.drop (l.length-8))=bi l:=by
  have h1:=acr (l.take (l.length-8)) (l.drop (l.length-8));rw[aoX] at h1;have h2:(l.drop (l.length-8)).length=8:=by rw[aoB]; omega
  rw[h2] at h1;have h3:=RG (l.drop (l.length-8));rw[h1];have:(256:Nat)^8=18446744073709551616:=by decide
  rw[this];omega
def CS (l:List UInt8) (i:Nat):St:=⟨bz [(3,.w (.c (.d (.int .u64 (bi (l.take i)))))),(14,.w (.c (.d (.sl (l.map bD))))),(15,.w (.c (.d (.int .i64 (l.length:Int))))),(16,.w (.c (.d (.int .i64 (i:Int)))))],hL [],uL []⟩
def Ar:bq := ae [aU .lss 17 16 15] (.seq (aw 17 .skip (.exit 0)) (.seq (.block 1 (ae [bW 18 1 14 16,aA 19 18,oM 5 19] (.reg [oM 20 3,oO 21 (.bin .shl (.t 20) (.k (.c (.d (.int .u64 8))))),oM 22 5,oO 23 (.conv .u64 (.t 22)),aU .or 24 21 23,oM 3 24]))) (.reg [am .add 25 16 1,oM 16 25])))
def HT:aK:=⟨1,27,ae [oO 2 (.mv (.k (.c aQ)))] (.seq (ae [oM 6 0,bc 7 6,am .gtr 8 7 8] (aw 8 (.reg [oM 9 0,oM 10 0,bc 11 10,am .sub 12 11 8,oO 13 (.slice 1 (.t 9) (some (.t 12)) none none),oM 0 13]) .skip)) (ae [oO 3 (.mv (.k (.c aQ)))] (.seq (ae [oM 14 0,bc 15 14,ak 16 0] (.block 0 (.loop Ar))) (ae [oM 26 3,oM 2 26] .ret)))),[(2,none)]⟩
theorem aib:aI Tryz.prog {} Tryz.f81=some HT:=by kernel_rfl
theorem XP (G:au) (Q:AX→St→Prop) (l:List UInt8) (hl:l.length≤8) (σ:St) (he:ft σ (CS l 0)) (hq:∀ f,f 3=.w (.c (.d (.int .u64 (bi l))))→Q (.ex 0) ⟨f,hN,uN⟩):cD Tryz.prog G (.loop Ar) Q σ:=by
  refine bQ (CS l) (fun i=>l.length-i) (fun i=>i≤l.length) 0 (aoy _) he ?_;intro i hi;by_cases hlt:i<l.length
  ·have hb:=l[i].toNat_lt;have e2:l[i]?=some l[i]:=aon hlt;have e3:IntKind.u64.wrap (l[i].toNat:Int)=(l[i].toNat:Int):=u64_in _ (by omega) (by omega);have e4:IntKind.i64.wrap ((i:Int)+1)=((i+1:Nat):Int):=by rw[IntWalk.i64_in _ (by omega)]; rfl
   have e5:=aa5 l i hlt;simp only[Ar,CS,wx,seval,iteOmega,toNatUp,ba,e2,IntKind.bits,e3,e4];refine bA (i+1) (by omega) (by omega) (aV id ?_ ?_ rfl rfl) <;> simp only[wx,aH,seval,← e5]
  ·have:l.take i=l:=aot (by omega);simp only[Ar,CS,wx,seval,iteOmega,this];exact hq _ (by simp only[wx,seval])
theorem ku (G:au) (l:List UInt8) (hl:l.length≤9223372036854775807):aF Tryz.prog G 81 [.sl (l.map bD)] (.w (.c (.d (.int .u64 (bi l))))):=by
  refine aT Tryz.func81 aib rfl rfl ?_;by_cases h8:8<l.length
  ·have e0:IntKind.i64.wrap ((l.length:Int)-8)=((l.length-8:Nat):Int):=by rw[IntWalk.i64_in _ (by omega)]; omega
   have e1:(l.drop (l.length-8)).take (l.length-(l.length-8))=l.drop (l.length-8):=aot (by rw[aoB]; omega);simp only[HT,ai,wx,seval,iteOmega,toNatUp,e0,e1];refine XP G _ (l.drop (l.length-8)) (by rw[aoB]; omega) _ ?_ fun f hf=>?_
   ·refine aV id ?_ ?_ rfl rfl <;> simp only[wx,aH,seval] <;> rfl
   ·rw[aa6 l h8] at hf;simp only[wx,seval,hf];exact qo (by simp only[wx,seval])
  ·simp only[HT,ai,wx,seval,iteOmega];refine XP G _ l (by omega) _ ?_ fun f hf=>?_
   ·refine aV id ?_ ?_ rfl rfl <;> simp only[wx,aH,seval] <;> rfl
   ·simp only[wx,seval,hf];exact qo (by simp only[wx,seval])
theorem MI (v k:Nat):aC v (k+1)=aC (v / 256) k++[UInt8.ofNat v]:=by
  unfold aC;rw[apv,aoH]
  congr 1
  ·apply ao1;intro i hi;have hi':i<k:=apI.1 hi;rw[show k+1-1-i=(k-1-i)+1 by omega,Nat.pow_succ,aqj,← Nat.div_div_eq_div_mul]
  ·simp
theorem Pg (a:List UInt8) (x:UInt8):bi (a++[x])=(bi a*256+x.toNat)%18446744073709551616:=by simp[bi]
theorem RH {k:Nat} (h:k≤8):256^k≤18446744073709551616:=apg (Nat.pow_le_pow_right (by decide) h) (by decide)
theorem get_put (k:Nat) (h:k≤8):∀ v,bi (aC v k)=v%256^k:=by
  induction k with
  | zero=>intro v; rw[Nat.pow_zero,Nat.mod_one]; rfl
  | succ k ih =>
    intro v;have hp:=RH h;have hv:v%256^(k+1)<256^(k+1):=ap7 _ (Nat.pow_pos (by decide));have e:v%256^(k+1)=v%256+256*(v / 256%256^k):=by rw[Nat.pow_succ',Nat.mod_mul]
    rw[MI,Pg,ih (by omega),UInt8.toNat_ofNat',aqH (by omega)];omega
theorem jc:∀ (k:Nat) (l:List UInt8),l.length=k→k≤8→bi l<256^k∧aC (bi l) k=l:=by
  intro k
  induction k with
  | zero=>intro l h _; rw[apm h]; exact⟨by decide,rfl⟩
  | succ k ih =>
    intro l h h8;rcases List.eq_nil_or_concat l with rfl | ⟨a,x,rfl⟩
    ·simp at h
    ·rw[List.concat_eq_append] at *
     obtain⟨a1,a2⟩:=ih a (by simpa using h) (by omega);have hx:x.toNat<256:=x.toNat_lt;have hp:=RH h8;have e:bi (a++[x])=bi a*256+x.toNat:=by
       rw[Pg,aqH];rw[Nat.pow_succ] at hp; omega
     refine⟨by rw[e,Nat.pow_succ]; omega,?_⟩;rw[e,MI,show (bi a*256+x.toNat) / 256=bi a by omega,a2]
     congr 2
     rw[← UInt8.toNat_inj,UInt8.toNat_ofNat'];omega
structure Hd where
  lp:Int
  vr:Int
  md:Int
  st:Int
  pl:Int
  pr:Int
  rd:Nat
  rp:Nat
  ri:Nat
  rf:Nat
  og:Nat
  rc:Nat
  tr:Nat
def Hd.z:Hd:=⟨0,0,0,0,0,0,0,0,0,0,0,0,0⟩
def tX (h:Hd):Prop:=0≤h.lp∧h.lp≤3∧(h.vr=3∨h.vr=4)∧0≤h.md∧h.md≤7∧0≤h.st∧h.st≤255∧-128≤h.pl∧h.pl≤127∧-128≤h.pr∧h.pr≤127
instance (h:Hd):Decidable (tX h):=by unfold tX; infer_instance
def mm (h:Hd):Bool:=decide (tX h)
def sF (h:Hd):Prop:=h.rd<4294967296∧h.rp<4294967296∧h.ri<4294967296∧h.rf<18446744073709551616∧h.og<18446744073709551616∧h.rc<18446744073709551616∧h.tr<18446744073709551616
def eI (v:Int):UInt8:=UInt8.ofNat (v%256).toNat
def pv (b:UInt8):Int:=if b.toNat>127 then (b.toNat:Int)-256 else (b.toNat:Int)
def zp (h:Hd):List UInt8:=aC h.rd 4++(aC h.rp 4++(aC h.ri 4++(aC h.rf 8++(aC h.og 8++(aC h.rc 8++aC h.tr 8)))))
def eZ (h:Hd):List UInt8:=[eI (h.lp*64+h.vr*8+h.md),eI h.st,eI h.pl,eI h.pr]++zp h
theorem aew (h:Hd):(zp h).length=44:=by simp[zp,bO]
theorem A7 (h:Hd):(eZ h).length=48:=by unfold eZ; rw[aoq,aew]; rfl
def aG (l:List UInt8) (a n:Nat):List UInt8:=(l.drop a).take n
def d6 (l:List UInt8):Hd:=⟨((l.getD 0 0).toNat / 64:Nat),((l.getD 0 0).toNat / 8%8:Nat),((l.getD 0 0).toNat%8:Nat),((l.getD 1 0).toNat:Nat),pv (l.getD 2 0),pv (l.getD 3 0),
  bi (aG l 4 4),bi (aG l 8 4),bi (aG l 12 4),bi (aG l 16 8),bi (aG l 24 8),bi (aG l 32 8),bi (aG l 40 8)⟩
theorem fj {l:List UInt8} {a n:Nat} (h:a+n≤l.length):(aG l a n).length=n:=by
  unfold aG; rw[aow,aoB]; omega
theorem mN (p q r:List UInt8):aG (p++(q++r)) p.length q.length=q:=by
  unfold aG; rw[List.drop_left,List.take_left]
theorem Ph (l:List UInt8) (a n m:Nat):aG l a n++aG l (a+n) m=aG l a (n+m):=by
  unfold aG;rw[List.take_add,ap8]
theorem GT (v:Int):((eI v).toNat:Int)=v%256:=by
  unfold eI;rw[UInt8.toNat_ofNat']; omega
theorem RI {v:Int} (h1:-128≤v) (h2:v≤127):pv (eI v)=v:=by
  have:=GT v;unfold pv;split <;> omega
theorem RJ (b:UInt8):-128≤pv b∧pv b≤127:=by
  have:=b.toNat_lt;unfold pv;split <;> omega
theorem aex (h:Hd) (r:List UInt8):eZ h++r=([eI (h.lp*64+h.vr*8+h.md),eI h.st,eI h.pl,eI h.pr]:List UInt8)++(aC h.rd 4++(aC h.rp 4++(aC h.ri 4++(aC h.rf 8++(aC h.og 8++(aC h.rc 8++(aC h.tr 8++r))))))):=by
  unfold eZ zp;simp only[aoC]
theorem aey (h:Hd) (r:List UInt8):aG (eZ h++r) 4 4=aC h.rd 4∧aG (eZ h++r) 8 4=aC h.rp 4∧aG (eZ h++r) 12 4=aC h.ri 4∧aG (eZ h++r) 16 8=aC h.rf 8∧aG (eZ h++r) 24 8=aC h.og 8∧aG (eZ h++r) 32 8=aC h.rc 8∧aG (eZ h++r) 40 8=aC h.tr 8:=by
  have key:∀ (p q s:List UInt8) (a n:Nat),eZ h++r=p++(q++s)→p.length=a→q.length=n→aG (eZ h++r) a n=q:=by
    intro p q s a n e ha hn;rw[e,← ha,← hn]; exact mN p q s
  have e:=aex h r;generalize ([eI (h.lp*64+h.vr*8+h.md),eI h.st,eI h.pl,eI h.pr]:List UInt8)=F at *
  have hF:F.length=4:=by
    have:=A7 h;have e':=congrArg List.length e;simp only[aoq,bO,this] at e';omega
  refine⟨key F _ _ _ _ e hF (bO _ _),key (F++aC h.rd 4) _ _ _ _ (by rw[e]; simp only[aoC] <;> rfl) ?_ (bO _ _),key (F++aC h.rd 4++aC h.rp 4) _ _ _ _ (by rw[e]; simp only[aoC] <;> rfl) ?_ (bO _ _),
    key (F++aC h.rd 4++aC h.rp 4++aC h.ri 4) _ _ _ _ (by rw[e]; simp only[aoC] <;> rfl) ?_ (bO _ _),key (F++aC h.rd 4++aC h.rp 4++aC h.ri 4++aC h.rf 8) _ _ _ _ (by rw[e]; simp only[aoC] <;> rfl) ?_ (bO _ _),
    key (F++aC h.rd 4++aC h.rp 4++aC h.ri 4++aC h.rf 8++aC h.og 8) _ _ _ _ (by rw[e]; simp only[aoC] <;> rfl) ?_ (bO _ _),key (F++aC h.rd 4++aC h.rp 4++aC h.ri 4++aC h.rf 8++aC h.og 8++aC h.rc 8) _ r _ _ (by rw[e]; simp only[aoC] <;> rfl) ?_ (bO _ _)⟩ <;>
    simp only[aoq,bO,hF]
theorem aez {h:Hd} (ok:tX h) (fit:sF h) (r:List UInt8):d6 (eZ h++r)=h:=by
  obtain⟨c1,c2,c3,c4,c5,c6,c7⟩:=aey h r;obtain⟨f1,f2,f3,f4,f5,f6,f7⟩:=fit;obtain⟨o1,o2,o3,o4,o5,o6,o7,o8,o9,o10,o11⟩:=ok;have g0:(eZ h++r).getD 0 0=eI (h.lp*64+h.vr*8+h.md):=rfl;have g1:(eZ h++r).getD 1 0=eI h.st:=rfl;have g2:(eZ h++r).getD 2 0=eI h.pl:=rfl;have g3:(eZ h++r).getD 3 0=eI h.pr:=rfl;unfold d6;rw[c1,c2,c3,c4,c5,c6,c7,g0,g1,g2,g3,get_put 4 (by decide),get_put 4 (by decide),get_put 4 (by decide),get_put 8 (by decide),get_put 8 (by decide),get_put 8 (by decide),get_put 8 (by decide),RI o8 o9,RI o10 o11];have n0:=GT (h.lp*64+h.vr*8+h.md);have n1:=GT h.st;obtain⟨lp,vr,md,st,pl,pr,rd,rp,ri,rf,og,rc,tr⟩:=h;simp only at *
  congr 1 <;> omega
theorem acE (x:UInt8):lW x=if il x 7==1 then aX (ik x 1) 27 else ik x 1:=by
  have:=rO (p:=fun x=>lW x==if il x 7==1 then aX (ik x 1) 27 else ik x 1) (by decide +kernel) x
  simpa using this
theorem Ve (x:UInt8):lJ x 2=lW x:=by
  have:=rO (p:=fun x=>lJ x 2==lW x) (by decide +kernel) x
  simpa using this
def H2:aK:=⟨1,11,ae [oO 2 (.mv (.k (.c (.d aj))))] (.seq (ae [oM 3 0,oO 4 (.bin .shr (.t 3) (.k (.c (.d (.int .u64 7))))),oO 5 (.bin .eql (.t 4) (.k (.c (.d (.int .u8 1)))))] (aw 5 (ae [oM 6 0,oO 7 (.bin .shl (.t 6) (.k (.c (.d (.int .u64 1))))),oO 8 (.bin .xor (.t 7) (.k (.c (.d (.int .u8 27))))),oM 2 8] .ret) .skip)) (ae [oM 9 0,oO 10 (.bin .shl (.t 9) (.k (.c (.d (.int .u64 1))))),oM 2 10] .ret)),[(2,none)]⟩
theorem aiu:aI Tryz.prog {} Tryz.f179=some H2:=by kernel_rfl
theorem XU (G:au) (x:UInt8):aF Tryz.prog G 179 [bD x] (.w (.c (.d (bD (lW x))))):=by
  refine aT Tryz.func179 aiu rfl rfl ?_;have h1:=U3 x .u64 7 7 rfl (by decide);have h2:=ah5 (il x 7) 1 1 rfl;have h3:=U4 x .u64 1 1 rfl (by decide);have h4:=ah7 (ik x 1) 27 27 rfl;rw[acE];cases h5:il x 7==1
  ·rw[h5] at h2;simp only[H2,ai,h1,h2,h3,af,seval,Bool.false_eq_true];exact aZ
  ·rw[h5] at h2;simp only[H2,ai,h1,h2,h3,h4,af,seval];exact aZ
def Y4:List UInt8:=[99,124,119,123,242,107,111,197,48,1,103,43,254,215,171,118,202,130,201,125,250,89,71,240,173,212,162,175,156,164,114,192,183,253,147,38,54,63,247,204,52,165,229,241,113,216,49,21,4,199,35,195,24,150,5,154,7,18,128,226,235,39,178,117,9,131,44,26,27,110,90,160,82,59,214,179,41,227,47,132,83,209,0,237,32,252,177,91,106,203,190,57,74,76,88,207,208,239,170,251,67,77,51,133,69,249,2,127,80,60,159,168,81,163,64,143,146,157,56,245,188,182,218,33,16,255,243,210,205,12,19,236,95,151,68,23,196,167,126,61,100,93,25,115,96,129,79,220,34,42,144,136,70,238,184,20,222,94,11,219,224,50,58,10,73,6,36,92,194,211,172,98,145,149,228,121,231,200,55,109,141,213,78,169,108,86,244,234,101,122,174,8,186,120,37,46,28,166,180,198,232,221,116,31,75,189,139,138,112,62,181,102,72,3,246,14,97,53,87,185,134,193,29,158,225,248,152,17,105,217,142,148,155,30,135,233,206,85,40,223,140,161,137,13,191,230,66,104,65,153,45,15,176,84,187,22]
theorem aeQ:Y4=Ke:=by decide +kernel
set_option maxRecDepth 100000 in
theorem acF:ByteArray.size ⟨#[99,124,119,123,242,107,111,197,48,1,103,43,254,215,171,118,202,130,201,125,250,89,71,240,173,212,162,175,156,164,114,192,183,253,147,38,54,63,247,204,52,165,229,241,113,216,49,21,4,199,35,195,24,150,5,154,7,18,128,226,235,39,178,117,9,131,44,26,27,110,90,160,82,59,214,179,41,227,47,132,83,209,0,237,32,252,177,91,106,203,190,57,74,76,88,207,208,239,170,251,67,77,51,133,69,249,2,127,80,60,159,168,81,163,64,143,146,157,56,245,188,182,218,33,16,255,243,210,205,12,19,236,95,151,68,23,196,167,126,61,100,93,25,115,96,129,79,220,34,42,144,136,70,238,184,20,222,94,11,219,224,50,58,10,73,6,36,92,194,211,172,98,145,149,228,121,231,200,55,109,141,213,78,169,108,86,244,234,101,122,174,8,186,120,37,46,28,166,180,198,232,221,116,31,75,189,139,138,112,62,181,102,72,3,246,14,97,53,87,185,134,193,29,158,225,248,152,17,105,217,142,148,155,30,135,233,206,85,40,223,140,161,137,13,191,230,66,104,65,153,45,15,176,84,187,22]⟩=256:=rfl
set_option maxRecDepth 100000 in
theorem aiv (x:UInt8):(ByteArray.data ⟨#[99,124,119,123,242,107,111,197,48,1,103,43,254,215,171,118,202,130,201,125,250,89,71,240,173,212,162,175,156,164,114,192,183,253,147,38,54,63,247,204,52,165,229,241,113,216,49,21,4,199,35,195,24,150,5,154,7,18,128,226,235,39,178,117,9,131,44,26,27,110,90,160,82,59,214,179,41,227,47,132,83,209,0,237,32,252,177,91,106,203,190,57,74,76,88,207,208,239,170,251,67,77,51,133,69,249,2,127,80,60,159,168,81,163,64,143,146,157,56,245,188,182,218,33,16,255,243,210,205,12,19,236,95,151,68,23,196,167,126,61,100,93,25,115,96,129,79,220,34,42,144,136,70,238,184,20,222,94,11,219,224,50,58,10,73,6,36,92,194,211,172,98,145,149,228,121,231,200,55,109,141,213,78,169,108,86,244,234,101,122,174,8,186,120,37,46,28,166,180,198,232,221,116,31,75,189,139,138,112,62,181,102,72,3,246,14,97,53,87,185,134,193,29,158,225,248,152,17,105,217,142,148,155,30,135,233,206,85,40,223,140,161,137,13,191,230,66,104,65,153,45,15,176,84,187,22]⟩).toList[x.toNat]?=some (gV x):=by
  have e:(ByteArray.data ⟨#[99,124,119,123,242,107,111,197,48,1,103,43,254,215,171,118,202,130,201,125,250,89,71,240,173,212,162,175,156,164,114,192,183,253,147,38,54,63,247,204,52,165,229,241,113,216,49,21,4,199,35,195,24,150,5,154,7,18,128,226,235,39,178,117,9,131,44,26,27,110,90,160,82,59,214,179,41,227,47,132,83,209,0,237,32,252,177,91,106,203,190,57,74,76,88,207,208,239,170,251,67,77,51,133,69,249,2,127,80,60,159,168,81,163,64,143,146,157,56,245,188,182,218,33,16,255,243,210,205,12,19,236,95,151,68,23,196,167,126,61,100,93,25,115,96,129,79,220,34,42,144,136,70,238,184,20,222,94,11,219,224,50,58,10,73,6,36,92,194,211,172,98,145,149,228,121,231,200,55,109,141,213,78,169,108,86,244,234,101,122,174,8,186,120,37,46,28,166,180,198,232,221,116,31,75,189,139,138,112,62,181,102,72,3,246,14,97,53,87,185,134,193,29,158,225,248,152,17,105,217,142,148,155,30,135,233,206,85,40,223,140,161,137,13,191,230,66,104,65,153,45,15,176,84,187,22]⟩).toList=Y4:=rfl;rw[e,aeQ]; exact acD x
set_option maxRecDepth 100000
def MO:ByteArray:=⟨#[99,124,119,123,242,107,111,197,48,1,103,43,254,215,171,118,202,130,201,125,250,89,71,240,173,212,162,175,156,164,114,192,183,253,147,38,54,63,247,204,52,165,229,241,113,216,49,21,4,199,35,195,24,150,5,154,7,18,128,226,235,39,178,117,9,131,44,26,27,110,90,160,82,59,214,179,41,227,47,132,83,209,0,237,32,252,177,91,106,203,190,57,74,76,88,207,208,239,170,251,67,77,51,133,69,249,2,127,80,60,159,168,81,163,64,143,146,157,56,245,188,182,218,33,16,255,243,210,205,12,19,236,95,151,68,23,196,167,126,61,100,93,25,115,96,129,79,220,34,42,144,136,70,238,184,20,222,94,11,219,224,50,58,10,73,6,36,92,194,211,172,98,145,149,228,121,231,200,55,109,141,213,78,169,108,86,244,234,101,122,174,8,186,120,37,46,28,166,180,198,232,221,116,31,75,189,139,138,112,62,181,102,72,3,246,14,97,53,87,185,134,193,29,158,225,248,152,17,105,217,142,148,155,30,135,233,206,85,40,223,140,161,137,13,191,230,66,104,65,153,45,15,176,84,187,22]⟩
def Vf:aK:=⟨1,5,ae [oO 2 (.mv (.k (.c (.d aj))))] (ae [oM 3 0,oO 4 (.idxStr (.k (.c (.d (.str MO)))) (.t 3)),oM 2 4] .ret),[(2,none)]⟩
theorem aiw:aI Tryz.prog {} Tryz.f191=some Vf:=by kernel_rfl
theorem yI (G:au) (x:UInt8):aF Tryz.prog G 191 [bD x] (.w (.c (.d (bD (gV x))))):=by
  refine aT Tryz.func191 aiw rfl rfl ?_;have h:=rj x;have e:=aiv x;simp only[Vf,MO,ai,af,seval,iteOmega,toNatUp,acF,e];exact aZ
def dp (f:Nat→UInt8) (l:List UInt8) (i:Nat):List UInt8:=(List.range i).map f++l.drop i
theorem u4 (f:Nat→UInt8) (l:List UInt8) {i:Nat} (h:i≤l.length):(dp f l i).length=l.length:=by
  unfold dp; rw[aoq,aox,apG,aoB]; omega
theorem xH (f:Nat→UInt8) (l:List UInt8):dp f l 0=l:=by simp[dp]
theorem Pr (f:Nat→UInt8) (l:List UInt8) {i:Nat} (h:l.length≤i):dp f l i=(List.range i).map f:=by
  unfold dp; rw[apA h,aoF]
theorem RZ (f:Nat→UInt8) (l:List UInt8) {i j:Nat} (hj:i≤j):(dp f l i)[j]?=l[j]?:=by
  unfold dp;rw[aoV (by simpa using hj),apo,aox,apG,show i+(j-i)=j by omega]
theorem acG (f:Nat→UInt8) (l:List UInt8) {i j:Nat} (hj:j<i):(dp f l i)[j]?=some (f j):=by
  unfold dp;rw[apb (by simpa using hj)];simp[hj]
theorem xI (f:Nat→UInt8) (l:List UInt8) {i:Nat} (h:i<l.length):(dp f l i).set i (f i)=dp f l (i+1):=by
  unfold dp;rw[aqy _ _ (by simp),aox,apG,aqm,aqh h,List.set_cons_zero,apv,aoH,aoC];rfl
theorem iC {l:List UInt8} {j:Nat} (h:j<l.length):l[j]?=some (l.getD j 0):=by
  rw[aor,aon h]; rfl
theorem bD1:bD 1=.int .u8 1:=rfl
set_option maxHeartbeats 1600000
def tP (s k:List UInt8):List UInt8:=dI (lP (bX s) (bX k))
def wq (s:List UInt8):List UInt8:=dI (mU (bX s))
def yZ (s:List UInt8):List UInt8:=dI (lQ (bX s))
theorem acH (s k:List UInt8):(tP s k).length=16:=kg _
theorem F1 (s:List UInt8):(wq s).length=16:=kg _
theorem Ps (s:List UInt8):(yZ s).length=16:=kg _
theorem tg (f:ga):XT (bX (dI f)) f:=fun j hj=>by
  unfold bX; rw[aor,A9 f hj]; rfl
theorem F2 (f g:ga):tP (dI f) (dI g)=dI (lP f g):=Fs fun j hj=>by
  unfold lP; rw[tg f j hj,tg g j hj]
theorem Pt (f:ga):wq (dI f)=dI (mU f):=Fs fun j hj=>by
  unfold mU; rw[tg f _ (by omega)]
theorem acI (f:ga):yZ (dI f)=dI (lQ f):=Fs fun j hj=>by
  unfold lQ; rw[tg f _ (by omega),tg f _ (by omega),tg f _ (by omega),tg f _ (by omega)]
theorem mz:[D.int .u8 0,.int .u8 0,.int .u8 0,.int .u8 0,.int .u8 0,.int .u8 0,.int .u8 0,.int .u8 0,.int .u8 0,.int .u8 0,.int .u8 0,.int .u8 0,.int .u8 0,.int .u8 0,.int .u8 0,.int .u8 0]=(cT 16 (0:UInt8)).map bD:=rfl
theorem Ba (f:ga) {l:List UInt8} (h:l.length=16):dp f l 16=dI f:=Pr f l (by omega)
theorem tC (a b:Nat):Int.tmod (a:Int) (b:Int)=((a%b:Nat):Int):=rfl
def I2 (s k:List UInt8) (i:Nat):St:=⟨bz [(2,.w (.c (.pa 1 1))),(4,.w (.c (.pa 2 1))),(7,.w (.c (.d (.agg (k.map bD))))),(8,.w (.c (.d (.int .i64 (i:Int)))))],hL [(1,.row 1 ((dp (lP (bX s) (bX k)) s i).map bD)),(2,.row 1 ((cT 16 (0:UInt8)).map bD))],uL [1,2]⟩
def F3:bq := ae [am .lss 9 8 16] (.seq (aw 9 .skip (.exit 0)) (.seq (.block 1 (ae [oM 10 8,oO 11 (.idxArr 1 16 .sc (.t 7) (.t 8)),oM 5 10,oM 6 11] (.reg [oM 12 5,oO 13 (.idxPa 1 16 (.t 2) (.t 12)),aA 14 13,oM 15 6,aU .xor 16 14 15,oO 17 (.idxPa 1 16 (.t 2) (.t 12)),ei 17 16]))) (.reg [am .add 18 8 1,oM 8 18])))
def Vg:aK:=⟨2,20,ae [oO 2 (.box .ownArr (.t 0)),oO 3 (.box .roArr (.t 1)),oO 4 (.allocArr [aj,aj,aj,aj,aj,aj,aj,aj,aj,aj,aj,aj,aj,aj,aj,aj])] (.seq (ae [bn 7 16 3,ak 8 0] (.block 0 (.loop F3))) (ae [bn 19 16 2,aS 16 4 19] .ret)),[(4,(some (.ag 16)))]⟩
theorem aix:aI Tryz.prog { own:=[2] } Tryz.f181=some Vg:=by kernel_rfl
theorem I3 (G:au) (s k:List UInt8) (hs:s.length=16) (hk:k.length=16):aF Tryz.prog G 181 [.agg (s.map bD),.agg (k.map bD)] (.w (.c (.d (.agg ((tP s k).map bD))))):=by
  refine aT Tryz.func181 aix rfl rfl ?_;simp only[Vg,ai,af,seval,mz,hk];refine bQ (I2 s k) (fun i=>16-i) (fun i=>i≤16) 0 (aoy _) ?_ ?_
  ·refine aV (fun i=>if i=1 then 16 else 32) ?_ ?_ rfl rfl <;> simp only[wx,aH,seval,xH]
  ·intro i hi;have hl:(dp (lP (bX s) (bX k)) s i).length=16:=by rw[u4 _ _ (by omega)]; exact hs
   by_cases hlt:i<16
   ·have g1:k[i]?=some (k.getD i 0):=iC (by omega);have g2:(dp (lP (bX s) (bX k)) s i)[i]?=some (s.getD i 0):=by rw[RZ _ _ (aoz i)]; exact iC (by omega)
    have h3:i<(dp (lP (bX s) (bX k)) s i).length:=by omega
    have h4:=lD (s.getD i 0) (k.getD i 0);have h5:(dp (lP (bX s) (bX k)) s i).set i (aX (s.getD i 0) (k.getD i 0))=dp (lP (bX s) (bX k)) s (i+1):=xI (lP (bX s) (bX k)) s (by omega);simp only[F3,I2,af,aa,seval,iteOmega,toNatUp,ba,g1,g2,h4,kj h3 (js _),lI,h5];refine bA (i+1) (by omega) (by omega) (aV (fun i=>i) ?_ ?_ rfl rfl) <;> simp only[wx,aH,aY,seval]
   ·obtain rfl:i=16:=by omega
    have e:dp (lP (bX s) (bX k)) s 16=tP s k:=Ba _ hs;have e2:=acH s k;simp only[F3,I2,e,af,aa,seval,e2,eR];exact aZ
def I4 (s:List UInt8) (i:Nat):St:=⟨bz [(1,.w (.c (.ra (s.map bD)))),(2,.w (.c (.pa 2 1))),(3,.w (.c (.pa 1 1))),(6,.w (.c (.d (.int .i64 (i:Int)))))],hL [(1,.row 1 ((dp (mU (bX s)) (cT 16 (0:UInt8)) i).map bD)),(2,.row 1 ((cT 16 (0:UInt8)).map bD))],uL [1,2]⟩
def Ft:bq := ae [am .lss 7 6 16] (.seq (aw 7 .skip (.exit 0)) (.seq (.block 1 (ae [oM 8 6,oM 4 8] (ae [oM 9 4,am .rem 10 9 4,oM 5 10] (.reg [oM 11 4,oM 12 4,oM 13 5,am .mul 14 13 4,aU .add 15 12 14,am .rem 16 15 16,oO 17 (.idxPa 1 16 (.t 1) (.t 16)),aA 18 17,aW 19 191 18,oO 20 (.idxPa 1 16 (.t 3) (.t 11)),ei 20 19])))) (.reg [am .add 21 6 1,oM 6 21])))
def R0:aK:=⟨1,23,ae [oO 1 (.box .roArr (.t 0)),oO 2 (.allocArr [aj,aj,aj,aj,aj,aj,aj,aj,aj,aj,aj,aj,aj,aj,aj,aj])] (ae [oO 3 (.allocArr [aj,aj,aj,aj,aj,aj,aj,aj,aj,aj,aj,aj,aj,aj,aj,aj])] (.seq (ae [ak 6 0] (.block 0 (.loop Ft))) (ae [bn 22 16 3,aS 16 2 22] .ret))),[(2,(some (.ag 16)))]⟩
theorem aeR:aI Tryz.prog {} Tryz.f183=some R0:=by kernel_rfl
theorem Vh (G:au) (s:List UInt8) (hs:s.length=16):aF Tryz.prog G 183 [.agg (s.map bD)] (.w (.c (.d (.agg ((wq s).map bD))))):=by
  refine aT Tryz.func183 aeR rfl rfl ?_;simp only[R0,ai,af,seval,mz];refine bQ (I4 s) (fun i=>16-i) (fun i=>i≤16) 0 (aoy _) ?_ ?_
  ·refine aV (fun i=>if i=1 then 24 else 16) ?_ ?_ rfl rfl <;> simp only[wx,aH,seval,xH]
  ·intro i hi;have hl:(dp (mU (bX s)) (cT 16 (0:UInt8)) i).length=16:=by rw[u4 _ _ (by rw[eR]; omega),eR]
   by_cases hlt:i<16
   ·have hm:(i+i%4*4)%16=i%4+4*((i / 4+i%4)%4):=by omega
    have hm2:(i+i%4*4)%16<16:=by omega
    have g1:s[(i+i%4*4)%16]?=some (bX s (i%4+4*((i / 4+i%4)%4))):=by rw[← hm]; exact iC (by omega)
    have h3:i<(dp (mU (bX s)) (cT 16 (0:UInt8)) i).length:=by omega
    have h5:(dp (mU (bX s)) (cT 16 (0:UInt8)) i).set i (gV (bX s (i%4+4*((i / 4+i%4)%4))))=dp (mU (bX s)) (cT 16 (0:UInt8)) (i+1):=xI (mU (bX s)) _ (by rw[eR]; omega);have t1:Int.tmod (i:Int) 4=((i%4:Nat):Int):=tC i 4;have t2:Int.tmod ((i:Int)+((i%4:Nat):Int)*4) 16=(((i+i%4*4)%16:Nat):Int):=tC (i+i%4*4) 16;have hb:(i%4:Nat)<4:=ap7 _ (by decide);generalize hq:i%4=q at *
    generalize hp:(i+q*4)%16=p at *
    simp only[Ft,I4,af,seval,iteOmega,toNatUp,ba,t1,t2,g1];refine sC (yI G (bX s (q+4*((i / 4+q)%4)))) ?_;simp only[kj h3 (js _),lI,h5,af,aa,seval,iteOmega,toNatUp];refine bA (i+1) (by omega) (by omega) (aV (fun i=>i) ?_ ?_ rfl rfl) <;> simp only[wx,aH,aY,seval]
   ·obtain rfl:i=16:=by omega
    have e:dp (mU (bX s)) (cT 16 (0:UInt8)) 16=wq s:=Ba _ (eR _ _);have e2:=F1 s;simp only[Ft,I4,e,af,aa,seval,e2,eR];exact aZ
theorem aiy (a b c d:UInt8):aX (aX (aX (lW (aX a b)) b) c) d=DO a b c d:=by
  unfold DO KA;rw[aeP a b,Ve,Ve]
def H3 (s:List UInt8) (i:Nat):St:=⟨bz [(1,.w (.c (.ra (s.map bD)))),(2,.w (.c (.pa 2 1))),(3,.w (.c (.pa 1 1))),(8,.w (.c (.d (.int .i64 (i:Int)))))],hL [(1,.row 1 ((dp (lQ (bX s)) (cT 16 (0:UInt8)) i).map bD)),(2,.row 1 ((cT 16 (0:UInt8)).map bD))],uL [1,2]⟩
def Fu:bq := ae [am .lss 9 8 16] (.seq (aw 9 .skip (.exit 0)) (.seq (.block 1 (ae [oM 10 8,oM 4 10] (ae [oM 11 4,am .rem 12 11 4,oM 5 12] (ae [oM 13 4,oM 14 5,aU .sub 15 13 14,oM 16 4,oM 17 5,aU .sub 18 16 17,am .add 19 18 4,oO 20 (.sliceArr 1 16 (.t 1) (some (.t 15)) (some (.t 19))),oM 6 20] (ae [oM 21 6,oM 22 5,am .add 23 22 1,am .rem 24 23 4,bW 25 1 21 24,aA 26 25,oM 7 26] (.reg [oM 27 4,oM 28 4,oO 29 (.idxPa 1 16 (.t 1) (.t 28)),aA 30 29,oM 31 7,aU .xor 32 30 31,aW 33 179 32,oM 34 7,aU .xor 35 33 34,oM 36 6,oM 37 5,am .add 38 37 2,am .rem 39 38 4,bW 40 1 36 39,aA 41 40,aU .xor 42 35 41,oM 43 6,oM 44 5,am .add 45 44 3,am .rem 46 45 4,bW 47 1 43 46,aA 48 47,aU .xor 49 42 48,oO 50 (.idxPa 1 16 (.t 3) (.t 27)),ei 50 49])))))) (.reg [am .add 51 8 1,oM 8 51])))
def R3:aK:=⟨1,53,ae [oO 1 (.box .roArr (.t 0)),oO 2 (.allocArr [aj,aj,aj,aj,aj,aj,aj,aj,aj,aj,aj,aj,aj,aj,aj,aj])] (ae [oO 3 (.allocArr [aj,aj,aj,aj,aj,aj,aj,aj,aj,aj,aj,aj,aj,aj,aj,aj])] (.seq (ae [ak 8 0] (.block 0 (.loop Fu))) (ae [bn 52 16 3,aS 16 2 52] .ret))),[(2,(some (.ag 16)))]⟩
theorem aeS:aI Tryz.prog {} Tryz.f182=some R3:=by kernel_rfl
theorem aiz (G:au) (s:List UInt8) (hs:s.length=16):aF Tryz.prog G 182 [.agg (s.map bD)] (.w (.c (.d (.agg ((yZ s).map bD))))):=by
  refine aT Tryz.func182 aeS rfl rfl ?_;simp only[R3,ai,af,seval,mz];refine bQ (H3 s) (fun i=>16-i) (fun i=>i≤16) 0 (aoy _) ?_ ?_
  ·refine aV (fun i=>if i=1 then 24 else 16) ?_ ?_ rfl rfl <;> simp only[wx,aH,seval,xH]
  ·intro i hi;have hl:(dp (lQ (bX s)) (cT 16 (0:UInt8)) i).length=16:=by rw[u4 _ _ (by rw[eR]; omega),eR]
   by_cases hlt:i<16
   ·have h3:i<(dp (lQ (bX s)) (cT 16 (0:UInt8)) i).length:=by omega
    have h5:(dp (lQ (bX s)) (cT 16 (0:UInt8)) i).set i (lQ (bX s) i)=dp (lQ (bX s)) (cT 16 (0:UInt8)) (i+1):=xI (lQ (bX s)) _ (by rw[eR]; omega);have g0:s[i]?=some (bX s i):=iC (by omega);obtain⟨q,r,hr,rfl⟩:∃ q r,r<4∧i=4*q+r:=⟨i / 4,i%4,ap7 _ (by decide),by omega⟩
    have hq:q<4:=by omega
    have col:∀ j,j<4→((s.drop (4*q)).take 4)[j]?=some (bX s (4*q+j)):=fun j hj=>by
      rw[aoY,if_pos hj,apo]; exact iC (by omega)
    have g1:=col ((r+1)%4) (ap7 _ (by decide));have g2:=col ((r+2)%4) (ap7 _ (by decide));have g3:=col ((r+3)%4) (ap7 _ (by decide));have t0:Int.tmod (4*(q:Int)+(r:Int)) 4=(r:Int):=by
      show Int.tmod ((4*q+r:Nat):Int) ((4:Nat):Int)=_
      rw[tC]; congr 1; omega
    have t1:Int.tmod ((r:Int)+1) 4=(((r+1)%4:Nat):Int):=tC (r+1) 4;have t2:Int.tmod ((r:Int)+2) 4=(((r+2)%4:Nat):Int):=tC (r+2) 4;have t3:Int.tmod ((r:Int)+3) 4=(((r+3)%4:Nat):Int):=tC (r+3) 4;have b1:(r+1)%4<4:=ap7 _ (by decide);have b2:(r+2)%4<4:=ap7 _ (by decide);have b3:(r+3)%4<4:=ap7 _ (by decide);have em:lQ (bX s) (4*q+r)=DO (bX s (4*q+r)) (bX s (4*q+(r+1)%4)) (bX s (4*q+(r+2)%4)) (bX s (4*q+(r+3)%4)):=by
      unfold lQ;rw[show (4*q+r) / 4=q by omega,show (4*q+r)%4=r by omega]
    rw[em,← aiy] at h5;have s1:4*q+r-r=4*q:=by omega
    have s2:4*q+4-4*q=4:=by omega
    have s3:((s.drop (4*q)).take 4).length=4:=by rw[aow,aoB]; omega
    generalize (r+1)%4=r1 at *
    generalize (r+2)%4=r2 at *
    generalize (r+3)%4=r3 at *
    generalize bX s (4*q+r)=a at *
    generalize bX s (4*q+r1)=b at *
    generalize bX s (4*q+r2)=c at *
    generalize bX s (4*q+r3)=d at *
    have x1:=lD a b;have x2:=lD (lW (aX a b)) b;have x3:=lD (aX (lW (aX a b)) b) c;have x4:=lD (aX (aX (lW (aX a b)) b) c) d;simp only[Fu,H3,af,seval,iteOmega,toNatUp,ba,t0,t1,g0,g1,s1,s2,s3,x1];refine sC (XU G (aX a b)) ?_;simp only[ba,t2,t3,g2,g3,s3,x2,x3,x4,kj h3 (js _),lI,h5,af,aa,seval,iteOmega,toNatUp];refine bA (4*q+r+1) (by omega) (by omega) (aV (fun i=>i) ?_ ?_ rfl rfl) <;> simp only[wx,aH,aY,seval]
   ·obtain rfl:i=16:=by omega
    have e:dp (lQ (bX s)) (cT 16 (0:UInt8)) 16=yZ s:=Ba _ (eR _ _);have e2:=Ps s;simp only[Fu,H3,e,af,aa,seval,e2,eR];exact aZ
def wV0 (l:List UInt8) (c:UInt8) (j:Nat):UInt8:=if j=0 then aX (gV (l.getD 13 0)) c else if j=1 then gV (l.getD 14 0) else if j=2 then gV (l.getD 15 0) else gV (l.getD 12 0)
def wV (l:List UInt8) (c:UInt8):Nat→Nat→UInt8
  | 0,j=>wV0 l c j
  | n+1,j=>if j=n%4 then aX (l.getD n 0) (wV l c n (n%4)) else wV l c n j
def kZ (l:List UInt8) (c:UInt8) (n:Nat):UInt8:=aX (l.getD n 0) (wV l c n (n%4))
def r9 (l:List UInt8) (c:UInt8):List UInt8:=dI (kZ l c)
theorem Au (l:List UInt8) (c:UInt8):(r9 l c).length=16:=kg _
def wL (l:List UInt8) (c:UInt8) (i:Nat):List UInt8:=(List.range 4).map (wV l c i)
theorem vp (l:List UInt8) (c:UInt8) (i:Nat):(wL l c i).length=4:=by simp[wL]
theorem H4 (l:List UInt8) (c:UInt8) (i:Nat) {j:Nat} (h:j<4):(wL l c i)[j]?=some (wV l c i j):=by simp[wL,h]
theorem aeT (l:List UInt8) (c:UInt8) (i:Nat):(wL l c i).set (i%4) (kZ l c i)=wL l c (i+1):=by
  apply apF;intro j;by_cases hj:j<4
  ·rw[H4 _ _ _ hj,aqG];by_cases e:i%4=j
   ·rw[if_pos e,if_pos (by rw[vp]; omega),wV,if_pos e.symm]; rfl
   ·rw[if_neg e,H4 _ _ _ hj,wV,if_neg (fun h=>e h.symm)]
  ·rw[api (by rw[apT,vp]; omega),api (by rw[vp]; omega)]
theorem aeU (l:List UInt8) (c:UInt8):[aX (gV (l.getD 13 0)) c,gV (l.getD 14 0),gV (l.getD 15 0),gV (l.getD 12 0)]=wL l c 0:=rfl
def I5 (l:List UInt8) (c:UInt8) (i:Nat):St:=⟨bz [(2,.w (.c (.pa 1 1))),(4,.w (.c (.pa 2 1))),(5,.w (.c (.pa 3 1))),(22,.w (.c (.d (.int .i64 (i:Int)))))],hL [(1,.row 1 ((dp (kZ l c) l i).map bD)),(2,.row 1 ((cT 16 (0:UInt8)).map bD)),(3,.row 1 ((wL l c i).map bD))],uL [1,2,3]⟩
def F4:bq := ae [am .lss 23 22 16] (.seq (aw 23 .skip (.exit 0)) (.seq (.block 1 (ae [oM 24 22,oM 6 24] (ae [oM 25 6,oO 26 (.idxPa 1 16 (.t 2) (.t 25)),aA 27 26,oM 28 6,am .rem 29 28 4,oO 30 (.idxPa 1 4 (.t 5) (.t 29)),aA 31 30,aU .xor 32 27 31,oO 33 (.idxPa 1 16 (.t 2) (.t 25)),ei 33 32] (.reg [oM 34 6,am .rem 35 34 4,oM 36 6,oO 37 (.idxPa 1 16 (.t 2) (.t 36)),aA 38 37,oO 39 (.idxPa 1 4 (.t 5) (.t 35)),ei 39 38])))) (.reg [am .add 40 22 1,oM 22 40])))
def Vi:aK:=⟨2,42,ae [oO 2 (.box .ownArr (.t 0)),oO 4 (.allocArr [aj,aj,aj,aj,aj,aj,aj,aj,aj,aj,aj,aj,aj,aj,aj,aj])] (ae [oO 7 (.idxPa 1 16 (.t 2) (kI 13)),aA 8 7,aW 9 191 8,oM 10 1,aU .xor 11 9 10,oO 12 (.idxPa 1 16 (.t 2) (kI 14)),aA 13 12,aW 14 191 13,oO 15 (.idxPa 1 16 (.t 2) (kI 15)),aA 16 15,aW 17 191 16,oO 18 (.idxPa 1 16 (.t 2) (kI 12)),aA 19 18,aW 20 191 19,oO 21 (.build [(.d aj),(.d aj),(.d aj),(.d aj)] [(0,1,(.t 11)),(1,1,(.t 14)),(2,1,(.t 17)),(3,1,(.t 20))]),oO 5 (.allocArr [aj,aj,aj,aj]),aS 4 5 21] (.seq (ae [ak 22 0] (.block 0 (.loop F4))) (ae [bn 41 16 2,aS 16 4 41] .ret))),[(4,(some (.ag 16)))]⟩
theorem aiA:aI Tryz.prog { own:=[2] } Tryz.f178=some Vi:=by kernel_rfl
set_option maxHeartbeats 3200000 in
theorem amd (G:au) (l:List UInt8) (c:UInt8) (hl:l.length=16):aF Tryz.prog G 178 [.agg (l.map bD),bD c] (.w (.c (.d (.agg ((r9 l c).map bD))))):=by
  refine aT Tryz.func178 aiA rfl rfl ?_;have a13:l[13]?=some (l.getD 13 0):=iC (by omega);have a14:l[14]?=some (l.getD 14 0):=iC (by omega);have a15:l[15]?=some (l.getD 15 0):=iC (by omega);have a12:l[12]?=some (l.getD 12 0):=iC (by omega);have x0:=lD (gV (l.getD 13 0)) c;have w0:=congrArg (List.map bD) (aeU l c);have wl:=vp l c 0;simp only[aos,aoA] at w0;simp only[Vi,ai,af,seval,toNatUp,mz,ba,a13];refine sC (yI G (l.getD 13 0)) ?_;simp only[x0,ba,a14,af,seval,toNatUp];refine sC (yI G (l.getD 14 0)) ?_;simp only[ba,a15,af,seval,toNatUp];refine sC (yI G (l.getD 15 0)) ?_;simp only[ba,a12,af,seval,toNatUp];refine sC (yI G (l.getD 12 0)) ?_;simp only[w0,af,aa,seval,iteOmega];refine bQ (I5 l c) (fun i=>16-i) (fun i=>i≤16) 0 (aoy _) ?_ ?_
  ·refine aV (fun i=>if i=1 then 16 else if i=2 then 32 else 40) ?_ ?_ rfl rfl <;> simp only[wx,aH,seval,xH]
  ·intro i hi;have hu:(dp (kZ l c) l i).length=16:=by rw[u4 _ _ (by omega)]; exact hl
   by_cases hlt:i<16
   ·have hm:i%4<4:=ap7 _ (by decide);have t1:Int.tmod (i:Int) 4=((i%4:Nat):Int):=tC i 4;have g1:(dp (kZ l c) l i)[i]?=some (l.getD i 0):=by rw[RZ _ _ (aoz i)]; exact iC (by omega)
    have g2:=H4 l c i hm;have x1:=lD (l.getD i 0) (wV l c i (i%4));have h3:i<(dp (kZ l c) l i).length:=by omega
    have h4:i%4<(wL l c i).length:=by rw[vp]; exact hm
    have h5:(dp (kZ l c) l i).set i (kZ l c i)=dp (kZ l c) l (i+1):=xI (kZ l c) l (by omega);have h6:=aeT l c i;have g3:(dp (kZ l c) l (i+1))[i]?=some (kZ l c i):=acG _ _ (Nat.lt_succ_self i);have hf:aX (l.getD i 0) (wV l c i (i%4))=kZ l c i:=rfl;have hwl:=vp l c i;have hu2:(dp (kZ l c) l (i+1)).length=16:=by rw[u4 _ _ (by omega)]; exact hl
    generalize hq:i%4=q at *
    simp only[F4,I5,af,aa,seval,iteOmega,toNatUp,ba,t1,g1,g2,x1,hf,kj h3 (js _),kj h4 (js _),lI,h5,h6,g3];refine bA (i+1) (by omega) (by omega) (aV (fun i=>i) ?_ ?_ rfl rfl) <;> simp only[wx,aH,aY,seval]
   ·obtain rfl:i=16:=by omega
    have e:dp (kZ l c) l 16=r9 l c:=Ba _ hl;have e2:=Au l c;simp only[F4,I5,e,af,aa,seval,e2,eR];exact aZ
theorem abe {P Q:List UInt8} {k n:Nat} (h:P.length=n):(P++Q).getD (n+k) 0=Q.getD k 0:=by
  rw[aor,aor,aoV (by omega),h,aqa]
theorem acJ {P Q:List UInt8} {k n:Nat} (h:P.length=n):(P++Q).drop (n+k)=Q.drop k:=by
  rw[← h,List.drop_append,apA (by omega),apa,aqa]
theorem z7 {P Q:List UInt8} {n:Nat} (h:P.length=4*n):qt (P++Q) n=(List.range 4).map fun k=>aX (Q.getD k 0) ((vV (Q.drop 12) n).getD k 0):=by
  unfold qt;refine ao1 fun k _=>?_
  rw[abe h,show 12+4*n=4*n+12 by omega,acJ h]
theorem ame (b0 b1 b2 b3 b4 b5 b6 b7 b8 b9 b10 b11 b12 b13 b14 b15 c:UInt8):∃ f0 f1 f2 f3,
    f0=aX b0 (aX (gV b13) c)∧f1=aX b1 (gV b14)∧f2=aX b2 (gV b15)∧f3=aX b3 (gV b12) ∧
    r9 [b0,b1,b2,b3,b4,b5,b6,b7,b8,b9,b10,b11,b12,b13,b14,b15] c =
      [f0,f1,f2,f3,aX b4 f0,aX b5 f1,aX b6 f2,aX b7 f3,aX b8 (aX b4 f0),aX b9 (aX b5 f1),aX b10 (aX b6 f2),aX b11 (aX b7 f3),
       aX b12 (aX b8 (aX b4 f0)),aX b13 (aX b9 (aX b5 f1)),aX b14 (aX b10 (aX b6 f2)),aX b15 (aX b11 (aX b7 f3))] :=
  ⟨_,_,_,_,rfl,rfl,rfl,rfl,rfl⟩
theorem Av (f:Nat→UInt8):(List.range 4).map f=[f 0,f 1,f 2,f 3]:=rfl
theorem acK {P:List UInt8} {r:Nat} (hP:P.length=16*r) (b0 b1 b2 b3 b4 b5 b6 b7 b8 b9 b10 b11 b12 b13 b14 b15:UInt8) (key:List UInt8)
    (h:gz key (4*r)=P++[b0,b1,b2,b3,b4,b5,b6,b7,b8,b9,b10,b11,b12,b13,b14,b15]) :
    gz key (4*(r+1))=gz key (4*r)++r9 [b0,b1,b2,b3,b4,b5,b6,b7,b8,b9,b10,b11,b12,b13,b14,b15] (mn r):=by
  obtain⟨f0,f1,f2,f3,e0,e1,e2,e3,ef⟩:=ame b0 b1 b2 b3 b4 b5 b6 b7 b8 b9 b10 b11 b12 b13 b14 b15 (mn r);have m0:4*r%4=0:=by omega
  have m1:(4*r+1)%4≠0:=by omega
  have m2:(4*r+2)%4≠0:=by omega
  have m3:(4*r+3)%4≠0:=by omega
  have d0:4*r / 4=r:=by omega
  have n0:qt (gz key (4*r)) (4*r)=[f0,f1,f2,f3]:=by
    rw[h,z7 (by omega),Av];unfold vV;rw[if_pos m0,d0,e0,e1,e2,e3]; rfl
  have s1:gz key (4*r+1)=(P++[b0,b1,b2,b3])++[b4,b5,b6,b7,b8,b9,b10,b11,b12,b13,b14,b15,f0,f1,f2,f3]:=by
    rw[gz,n0,h]; simp
  have n1:qt (gz key (4*r+1)) (4*r+1)=[aX b4 f0,aX b5 f1,aX b6 f2,aX b7 f3]:=by
    rw[s1,z7 (by simp; omega),Av];unfold vV;rw[if_neg m1]; rfl
  have s2:gz key (4*r+2)=(P++[b0,b1,b2,b3,b4,b5,b6,b7])++[b8,b9,b10,b11,b12,b13,b14,b15,f0,f1,f2,f3,aX b4 f0,aX b5 f1,aX b6 f2,aX b7 f3]:=by
    rw[show 4*r+2=(4*r+1)+1 from rfl,gz,n1,s1]; simp
  have n2:qt (gz key (4*r+2)) (4*r+2)=[aX b8 (aX b4 f0),aX b9 (aX b5 f1),aX b10 (aX b6 f2),aX b11 (aX b7 f3)]:=by
    rw[s2,z7 (by simp; omega),Av];unfold vV;rw[if_neg m2]; rfl
  have s3:gz key (4*r+3)=(P++[b0,b1,b2,b3,b4,b5,b6,b7,b8,b9,b10,b11])++[b12,b13,b14,b15,f0,f1,f2,f3,aX b4 f0,aX b5 f1,aX b6 f2,aX b7 f3,aX b8 (aX b4 f0),aX b9 (aX b5 f1),aX b10 (aX b6 f2),aX b11 (aX b7 f3)]:=by
    rw[show 4*r+3=(4*r+2)+1 from rfl,gz,n2,s2]; simp
  have n3:qt (gz key (4*r+3)) (4*r+3)=[aX b12 (aX b8 (aX b4 f0)),aX b13 (aX b9 (aX b5 f1)),aX b14 (aX b10 (aX b6 f2)),aX b15 (aX b11 (aX b7 f3))]:=by
    rw[s3,z7 (by simp; omega),Av];unfold vV;rw[if_neg m3]; rfl
  rw[show 4*(r+1)=(4*r+3)+1 by omega,gz,n3,s3,ef,h];simp
def kb (key:List UInt8) (r:Nat):List UInt8:=(gz key (4*r)).drop (16*r)
theorem H5 {key:List UInt8} (h:key.length=16) (r:Nat):(kb key r).length=16:=by
  unfold kb; rw[aoB,sZ h]; omega
theorem aiB {l:List UInt8} (h:l.length=16):∃ b0 b1 b2 b3 b4 b5 b6 b7 b8 b9 b10 b11 b12 b13 b14 b15,l=[b0,b1,b2,b3,b4,b5,b6,b7,b8,b9,b10,b11,b12,b13,b14,b15]:=by
  rcases l with _ | ⟨b0,l⟩ <;> simp at h
  rcases l with _ | ⟨b1,l⟩ <;> simp at h
  rcases l with _ | ⟨b2,l⟩ <;> simp at h
  rcases l with _ | ⟨b3,l⟩ <;> simp at h
  rcases l with _ | ⟨b4,l⟩ <;> simp at h
  rcases l with _ | ⟨b5,l⟩ <;> simp at h
  rcases l with _ | ⟨b6,l⟩ <;> simp at h
  rcases l with _ | ⟨b7,l⟩ <;> simp at h
  rcases l with _ | ⟨b8,l⟩ <;> simp at h
  rcases l with _ | ⟨b9,l⟩ <;> simp at h
  rcases l with _ | ⟨b10,l⟩ <;> simp at h
  rcases l with _ | ⟨b11,l⟩ <;> simp at h
  rcases l with _ | ⟨b12,l⟩ <;> simp at h
  rcases l with _ | ⟨b13,l⟩ <;> simp at h
  rcases l with _ | ⟨b14,l⟩ <;> simp at h
  rcases l with _ | ⟨b15,l⟩ <;> simp at h
  subst h;exact⟨_,_,_,_,_,_,_,_,_,_,_,_,_,_,_,_,rfl⟩
theorem aeV {key:List UInt8} (h:key.length=16) (r:Nat):gz key (4*(r+1))=gz key (4*r)++r9 (kb key r) (mn r):=by
  obtain⟨b0,b1,b2,b3,b4,b5,b6,b7,b8,b9,b10,b11,b12,b13,b14,b15,e⟩:=aiB (H5 h r);rw[e];refine acK (P:=(gz key (4*r)).take (16*r)) ?_ _ _ _ _ _ _ _ _ _ _ _ _ _ _ _ _ key ?_
  ·rw[aow,sZ h]; omega
  ·rw[← e]; exact (aoX _ _).symm
def jV (key:List UInt8) (i:Nat):List UInt8:=gz key (4*i)++cT (160-16*i) 0
theorem aeW {key:List UInt8} (h:key.length=16) {i:Nat} (hi:i≤10):(jV key i).length=176:=by
  unfold jV; rw[aoq,sZ h,eR]; omega
theorem acL {key:List UInt8} (h:key.length=16):eH (cT 176 (0:UInt8)) 0 key=jV key 0:=by
  unfold eH jV cT;rw[apJ,apa,List.drop_replicate,h]; rfl
theorem acM {key:List UInt8} (h:key.length=16) {i:Nat} (hi:i≤10):((jV key i).drop (i*16)).take 16=kb key i:=by
  unfold jV;rw[aqj,aqq (by rw[sZ h]; omega)];exact aqx (H5 h i)
theorem acN {key:List UInt8} (h:key.length=16) {i:Nat} (hi:i<10):eH (jV key i) ((i+1)*16) (r9 (kb key i) (mn i))=jV key (i+1):=by
  have hl:(gz key (4*i)).length=(i+1)*16:=by rw[sZ h]; omega
  unfold eH jV;rw[aeV h,apn (by omega),aot (by omega),Au,List.drop_append,apA (by omega),apa,hl]
  congr 1
  unfold cT;rw[List.drop_replicate]
  congr 1
  omega
theorem acO (key:List UInt8):jV key 10=bF key:=by
  unfold jV cT bF; rw[show 160-16*10=0 from rfl,apD,aoF]
set_option maxHeartbeats 3200000
def H6 (key:List UInt8) (i:Nat):St:=⟨bz [(2,.w (.c (.ptr 2 1 0 0))),(3,.w (.c (.ptr 1 1 0 0))),(4,.w (.c (.d (bD (mn i))))),(5,.w (.c (.d (.int .i64 ((i+1:Nat):Int)))))],hL [(1,.box ((jV key i).map bC)),(2,.box ((cT 176 (0:UInt8)).map bC))],uL [1,2]⟩
theorem an9:mn 0=1:=rfl
def Fv:bq := .seq (ae [oM 10 5,am .leq 11 10 10] (aw 11 .skip (.exit 0))) (.seq (.block 1 (ae [oM 14 5,oM 15 5,am .sub 16 15 1,oO 17 (.idxPa 16 11 (.t 3) (.t 16)),bn 18 16 17,oM 19 4,cd 20 178 18 19,oO 21 (.idxPa 16 11 (.t 3) (.t 14)),aS 16 21 20] (.reg [oM 22 4,aW 23 179 22,oM 4 23]))) (.reg [oM 12 5,am .add 13 12 1,oM 5 13]))
def R4:aK:=⟨1,25,ae [oO 2 (.alloc (cT 176 (.d aj)))] (ae [oO 3 (.alloc (cT 176 (.d aj)))] (ae [oO 6 (.idxPa 16 11 (.t 3) (kI 0)),oO 7 (.sliceArr 1 16 (.t 6) none none),oM 8 0,oO 9 (.copy 1 (.t 7) (.t 8))] (ae [oO 4 (.mv (.k (.c (.d (.int .u8 1)))))] (.seq (ae [ak 5 1] (.block 0 (.loop Fv))) (ae [bn 24 176 3,aS 176 2 24] .ret))))),[(2,(some (.ag 176)))]⟩
theorem aeX:aI Tryz.prog {} Tryz.f169=some R4:=by kernel_rfl
theorem Vj (G:au) (key:List UInt8) (h:key.length=16):aF Tryz.prog G 169 [.sl (key.map bD)] (.w (.c (.d (.agg ((bF key).map bD))))):=by
  refine aT Tryz.func169 aeX rfl rfl ?_;have ht:key.take 16=key:=aot (by omega);have h0:key++List.drop key.length (cT 176 (0:UInt8))=jV key 0:=by rw[← acL h]; simp[eH]
  have hid:=lH (jV key 0);have hid2:=lH (cT 176 (0:UInt8));simp only[R4,ai,af,seval,iteOmega,toNatUp,Ry,eR,ht,yF,h0];refine bQ (H6 key) (fun i=>10-i) (fun i=>i≤10) 0 (aoy _) ?_ ?_
  ·refine aV (fun i=>if i=1 then 24 else 16) ?_ ?_ rfl (by simp[V.ids,W.ids,C.ids,Ob.ids,lH]) <;> simp only[wx,aH,seval,an9,bD1,vm]
  ·intro i hi;have hl:=aeW h hi;by_cases hlt:i<10
   ·have g1:=acM h hi;have h5:List.take ((i+1)*16) (jV key i)++r9 (kb key i) (mn i)++List.drop ((i+1)*16+16) (jV key i)=jV key (i+1):=by
      rw[← acN h hlt]; unfold eH; rw[Au]
    have hf:=Au (kb key i) (mn i);have hx:lW (mn i)=mn (i+1):=rfl;have s1:((i:Int)+1-1).toNat=i:=by omega
    simp only[Fv,H6,af,seval,iteOmega,toNatUp,hl,g1,xP];refine sC (amd G (kb key i) (mn i) (H5 h i)) ?_;simp only[nO,hl,yF,hf,jF,oH,pZ,h5,af,aa,seval,iteOmega,toNatUp];refine sC (XU G (mn i)) ?_;simp only[hx,af,seval,iteOmega];refine bA (i+1) (by omega) (by omega) (aV (fun i=>i) ?_ ?_ rfl (by simp[V.ids,W.ids,C.ids,Ob.ids,lH])) <;> simp only[wx,aH,aY,seval,vm]
   ·obtain rfl:i=10:=by omega
    have e:=acO key;have e2:=GY h;rw[e] at hl;have t1:(bF key).take 176=bF key:=aot (by omega);have t2:List.drop 176 (cT 176 (0:UInt8))=[]:=apA (by rw[eR]; omega);have t3:bF key++List.drop (bF key).length (cT 176 (0:UInt8))=bF key:=by rw[e2,t2,aoF]
    simp only[Fv,H6,e,af,aa,seval,hl,t1,t2,xP,yF,eR];exact td (by simp only[af,seval,hl,t1,xP])
theorem acP (l:List UInt8):fK ((l.map bD).map C.d)=some (l.map bD):=by
  induction l with
  | nil=>rfl
  | cons x l ih =>
    show fK (C.d (bD x)::(l.map bD).map C.d)=_
    simp only[fK,ih,aos,apu]
theorem acQ (rk b:List UInt8) (hb:b.length=16):tP b (dI (gW rk 0))=dI (ng (gW rk) (bX b) 0):=by
  have:=F2 (bX b) (gW rk 0);rw[ait hb] at this;exact this
theorem aeY (rk b:List UInt8) {n:Nat} (h:n+1<10):tP (yZ (wq (dI (ng (gW rk) (bX b) n)))) (dI (gW rk (n+1)))=dI (ng (gW rk) (bX b) (n+1)):=by
  rw[Pt,acI,F2]
  show _=dI (H1 _ _ _)
  unfold H1;rw[if_pos h]
theorem acR (rk b:List UInt8):tP (wq (dI (ng (gW rk) (bX b) 9))) (dI (gW rk 10))=ip rk b:=by
  rw[Pt,F2];rfl
def I6 (rk b:List UInt8) (i:Nat):St:=⟨bz [(2,.w (.c (.rp (rk.map bD)))),(4,.w (.c (.pa 2 1))),(5,.w (.c (.pa 1 1))),(6,.w (.c (.d (.int .i64 ((i+1:Nat):Int)))))],hL [(1,.row 1 ((dI (ng (gW rk) (bX b) i)).map bD)),(2,.row 1 ((cT 16 (0:UInt8)).map bD))],uL [1,2]⟩
def Fx:bq := .seq (ae [oM 14 6,am .lss 15 14 10] (aw 15 .skip (.exit 0))) (.seq (.block 1 (.reg [bn 18 16 5,aW 19 183 18,aW 20 182 19,oM 21 6,oO 22 (.idxPa 16 11 (.t 2) (.t 21)),bn 23 16 22,cd 24 181 20 23,aS 16 5 24])) (.reg [oM 16 6,am .add 17 16 1,oM 6 17]))
def R5:aK:=⟨2,30,ae [cW 2 0,oO 4 (.allocArr [aj,aj,aj,aj,aj,aj,aj,aj,aj,aj,aj,aj,aj,aj,aj,aj])] (ae [oO 5 (.allocArr [aj,aj,aj,aj,aj,aj,aj,aj,aj,aj,aj,aj,aj,aj,aj,aj])] (ae [oO 7 (.sliceArr 1 16 (.t 5) none none),oM 8 1,oO 9 (.copy 1 (.t 7) (.t 8))] (ae [bn 10 16 5,oO 11 (.idxPa 16 11 (.t 2) (kI 0)),bn 12 16 11,cd 13 181 10 12,aS 16 5 13] (.seq (ae [ak 6 1] (.block 0 (.loop Fx))) (ae [bn 25 16 5,aW 26 183 25,oO 27 (.idxPa 16 11 (.t 2) (kI 10)),bn 28 16 27,cd 29 181 26 28,aS 16 4 29] .ret))))),[(4,(some (.ag 16)))]⟩
theorem aeZ:aI Tryz.prog {} Tryz.f171=some R5:=by kernel_rfl
theorem Vk (G:au) (rk b:List UInt8) (hk:rk.length=176) (hb:b.length=16):aF Tryz.prog G 171 [.agg (rk.map bD),.sl (b.map bD)] (.w (.c (.d (.agg ((ip rk b).map bD))))):=by
  refine aT Tryz.func171 aeZ rfl rfl ?_;have ht:b.take 16=b:=aot (by omega);have key:∀ r,r≤10→(rk.drop (16*r)).take 16=dI (gW rk r):=fun r hr=>by
    apply apF;intro j;by_cases hj:j<16
    ·rw[A9 _ hj,aoY,if_pos hj,apo]; exact iC (by omega)
    ·rw[api (by rw[aow]; omega),api (by rw[kg]; omega)]
  have d1:b++List.drop b.length (cT 16 (0:UInt8))=b:=by rw[hb,apA (by rw[eR]; omega),aoF]
  have d2:List.drop 16 (cT 16 (0:UInt8))=[]:=apA (by rw[eR]; omega);have k0:=key 0 (by decide);have l0:(dI (gW rk 0)).length=16:=kg _;have t0:(dI (gW rk 0)).take 16=dI (gW rk 0):=aot (by rw[kg]; omega);have a0:=acQ rk b hb;have la:=kg (ng (gW rk) (bX b) 0);simp only[aqL,apS] at k0;simp only[R5,ai,af,seval,toNatUp,mz,acP,eR,ht,d2,k0,hb,l0,t0];refine sC (I3 G b (dI (gW rk 0)) hb l0) ?_;simp only[a0,la,af,aa,seval,iteOmega];refine bQ (I6 rk b) (fun i=>9-i) (fun i=>i≤9) 0 (aoy _) ?_ ?_
  ·refine aV (fun i=>if i=1 then 40 else 32) ?_ ?_ rfl rfl <;> simp only[wx,aH,seval]
  ·intro i hi;have le:=kg (ng (gW rk) (bX b) i);have hr:i+1≤10:=by omega
   have k1:=key (i+1) hr;rw[aqj] at k1;have l1:(dI (gW rk (i+1))).length=16:=kg _;have t1:(dI (gW rk (i+1))).take 16=dI (gW rk (i+1)):=aot (by rw[kg]; omega);by_cases hlt:i<9
   ·have h5:=aeY rk b (n:=i) (by omega);have le2:=kg (ng (gW rk) (bX b) (i+1));simp only[Fx,I6,af,seval,iteOmega,le];refine sD (Vh G (dI (ng (gW rk) (bX b) i)) le) ?_;refine sC (aiz G _ (F1 _)) ?_;simp only[jF,oH,k1,l1,t1,af,seval,iteOmega,toNatUp];refine sC (I3 G _ _ (Ps _) l1) ?_;simp only[h5,le2,le,af,aa,seval,iteOmega];refine bA (i+1) (by omega) (by omega) (aV (fun i=>i) ?_ ?_ rfl rfl) <;> simp only[wx,aH,aY,seval]
   ·obtain rfl:i=9:=by omega
    have h5:=acR rk b;have le2:=nJ rk b;simp only[Fx,I6,af,seval,le];refine sC (Vh G (dI (ng (gW rk) (bX b) 9)) le) ?_;simp only[jF,oH,k1,l1,t1,af,seval,toNatUp];refine sC (I3 G _ _ (F1 _) l1) ?_;simp only[h5,le2,eR,af,aa,seval];exact td (by simp only[af,seval,le2])
def mB (a b c:List UInt8):List UInt8:=a++b++c

theorem Pu:∀ a b:List UInt8,fw (a++b)=if (fw b).2 then ((fw a).1++(fw b).1,(fw a).2) else (a++(fw b).1,false)
  | [],b=>by
    show fw b=if (fw b).2 then ([]++(fw b).1,true) else ([]++(fw b).1,false)
    rcases fw b with ⟨s,_ | _⟩ <;> rfl
  | x::a,b=>by
    have ih:=Pu a b;simp only[ape,fw,ih];cases h:(fw b).2
    ·simp
    ·simp only[if_true];cases h2:(fw a).2 <;> simp
def carry (c:List UInt8) (m:Nat):Prop:=(fw (c.drop m)).2=true
def jg (c:List UInt8) (m:Nat):List UInt8:=c.take m++(fw (c.drop m)).1
theorem Pv (c:List UInt8) (m:Nat):(jg c m).length=c.length:=by
  unfold jg; rw[aoq,F0,← aoq,aoX]
theorem aaa (c:List UInt8):jg c c.length=c:=by unfold jg; simp[fw]
theorem ZL (c:List UInt8):carry c c.length:=by unfold carry; simp[fw]
theorem abf (c:List UInt8):jg c 0=qu c:=by unfold jg qu; simp
theorem ae0 {c:List UInt8} {m:Nat} (h:m<c.length):(jg c (m+1))[m]?=some (c.getD m 0):=by
  unfold jg;rw[apb (by rw[aow]; omega),aoY,if_pos (by omega)];exact iC h
theorem MP {c:List UInt8} {m:Nat} (h:m<c.length):c.drop m=c.getD m 0::c.drop (m+1):=by
  rw[aqh h,aor,aon h]; rfl
theorem ae1 {c:List UInt8} {m:Nat} (h:m<c.length) (hc:carry c (m+1)):(jg c (m+1)).set m (c.getD m 0+1)=jg c m:=by
  have e:(fw (c.drop m)).1=(c.getD m 0+1)::(fw (c.drop (m+1))).1:=by
    rw[MP h];unfold carry at hc;simp only[fw,hc,if_true]
  have e2:c.take (m+1)=c.take m++[c.getD m 0]:=by
    rw[apR,iC h]; rfl
  unfold jg;rw[e,e2,aoC,aqy _ _ (by rw[aow]; omega),aow,show m-min m c.length=0 by omega];rfl
theorem aab {c:List UInt8} {m:Nat} (h:m<c.length) (hc:carry c (m+1)):(fw (c.drop m)).2=(c.getD m 0+1==0):=by
  rw[MP h];unfold carry at hc;simp only[fw,hc,if_true]
theorem ae2 {c:List UInt8} {m:Nat} (h:(fw (c.drop m)).2=false):jg c m=qu c:=by
  have:=Pu (c.take m) (c.drop m);rw[aoX,h] at this;unfold qu jg;rw[this]; rfl
theorem aiC (x c:UInt8) (n:Int) (h:n=(c.toNat:Int)):dc .add (.w (.c (.d (bD x)))) (.w (.c (.d (.int .u8 n))))=some (bD (x+c)):=by
  subst h
  show cO .add .u8 (x.toNat:Int) .u8 (c.toNat:Int)=_
  rw[Ai,IntKind.wrap_u8]
  show some (D.int .u8 (((x.toNat:Int)+(c.toNat:Int))%256))=_
  have:((x.toNat:Int)+(c.toNat:Int))%256=((x+c).toNat:Int):=by
    rw[UInt8.toNat_add]; simp
  rw[this]; rfl
def DR (c:List UInt8):List UInt8:=if c.length=16 then qu c else []
def DT (c:List UInt8) (m:Nat):St:=⟨bz [(3,.w (.c (.own 1 1 0 16))),(4,.w (.c (.d (.int .i64 ((m:Int)-1)))))],hL [(1,.row 1 ((jg c m).map bD))],uL [1]⟩
def Aw:bq := .seq (ae [oM 14 4,am .geq 15 14 0] (aw 15 .skip (.exit 0))) (.seq (.block 1 (ae [oM 18 3,oM 19 4,bW 20 1 18 19,aA 21 20,oO 22 (.bin .add (.t 21) (.k (.c (.d (.int .u8 1))))),bW 23 1 18 19,ei 23 22] (ae [oM 24 3,oM 25 4,bW 26 1 24 25,aA 27 26,oO 28 (.bin .neq (.t 27) (.k (.c (.d aj))))] (aw 28 (.exit 0) .skip)))) (.reg [oM 16 4,am .sub 17 16 1,oM 4 17]))
def H7:aK:=⟨1,30,ae [aM 2] (.seq (ae [oM 5 0,bc 6 5,am .neq 7 6 16] (aw 7 (ae [aM 2] .ret) .skip)) (ae [oM 8 0,oO 9 (.bldSl false 1 1 (.sl []) [(0,(.t 8))]),oO 10 (.call 44 [(.t 9)] (some (0,1))),oM 3 10] (.seq (ae [oM 11 3,bc 12 11,am .sub 13 12 1,oM 4 13] (.block 0 (.loop Aw))) (ae [oM 29 3,oM 2 29] .ret)))),[(2,none)]⟩
theorem aiD:aI Tryz.prog { own:=[10] } Tryz.f172=some H7:=by kernel_rfl
theorem amf (G:au) (c:List UInt8) (hc:c.length≤140737488355328):aF Tryz.prog G 172 [.sl (c.map bD)] (.w (.c (.fr 1 ((DR c).map bD)))):=by
  refine aT Tryz.func172 aiD rfl rfl ?_;unfold DR;by_cases h:c.length=16
  ·rw[if_pos h];have hj:=dV G [c] (by simp) (by simp; omega);have hf:[c].flatten=c:=by simp
   rw[hf] at hj;have hs:=aaa c;rw[h] at hs;simp only[H7,ai,af,seval,h];refine sD (hj) ?_;refine bQ (DT c) (fun m=>m) (fun m=>m≤16∧carry c m) 16 ⟨aoz _,by have:=ZL c; rwa [h] at this⟩ ?_ ?_
   ·refine aV (fun i=>80) ?_ ?_ rfl rfl <;> simp only[wx,aH,seval,hs,h] <;> rfl
   ·rintro m ⟨hm,hcar⟩;rcases m with _ | q
    ·have e0:=abf c;have hl:(qu c).length=16:=by rw[MN]; exact h
     simp only[Aw,DT,e0,Int.zero_sub,af,seval];exact iP (id:=1) (n:=16) (s:=1) (by simp only[wx,seval]) (by simp only[wx,seval]) (by simp[hl])
    ·have hq:q<c.length:=by omega
     have hl1:(jg c (q+1)).length=16:=by rw[Pv]; exact h
     have hl0:(jg c q).length=16:=by rw[Pv]; exact h
     have g1:=ae0 hq;have h3:q<(jg c (q+1)).length:=by omega
     have h5:=ae1 hq hcar;have g2:(jg c q)[q]?=some (c.getD q 0+1):=by
       rw[← h5,List.getElem?_set_self (by omega)]
     have x1:=aiC (c.getD q 0) 1 1 rfl;have x2:=ah6 (c.getD q 0+1) 0 0 rfl;have hcs:=aab hq hcar;have sub:((q:Int)+1-1)=(q:Int):=by omega
     by_cases hz:c.getD q 0+1=0
     ·have hz2:(c.getD q 0+1 != 0)=false:=by rw[hz]; rfl
      rw[hz2] at x2;have hcar2:carry c q:=by unfold carry; rw[hcs,hz]; rfl
      simp only[Aw,DT,af,aa,seval,iteOmega,toNatUp,sub,ba,g1,x1,kj h3 (js _),lI,h5,g2,x2];refine bA q (by omega) ⟨by omega,hcar2⟩ (aV (fun i=>i) ?_ ?_ rfl rfl) <;> simp only[wx,aH,seval]
     ·have hz2:(c.getD q 0+1 != 0)=true:=bne_iff_ne.2 hz;rw[hz2] at x2;have e0:jg c q=qu c:=ae2 (by rw[hcs]; exact beq_eq_false_iff_ne.2 hz);rw[e0] at hl0 g2 h5;simp only[Aw,DT,af,aa,seval,iteOmega,toNatUp,sub,ba,g1,x1,kj h3 (js _),lI,h5,g2,x2];exact iP (id:=1) (n:=16) (s:=1) (by simp only[wx,seval]) (by simp only[wx,seval]) (by simp[hl0])
  ·rw[if_neg h];simp only[H7,ai,af,seval,iteOmega];exact iJ
def y5 (key b:List UInt8):Int:=if key.length≠16 then 5 else if b.length≠16 then 3 else 0
def DU (key b:List UInt8):List UInt8:=if key.length=16∧b.length=16 then Ca key b else []
def Cb:aK:=⟨2,18,ae [aM 4,ak 5 0] (.seq (ae [oM 7 0,bc 8 7,am .neq 9 8 16] (aw 9 (ae [aM 4,ak 5 5] .ret) .skip)) (.seq (ae [oM 10 1,bc 11 10,am .neq 12 11 16] (aw 12 (ae [aM 4,ak 5 3] .ret) .skip)) (ae [oM 13 0,aW 14 169 13,oM 15 1,cd 16 171 14 15,oO 6 (.allocArr [aj,aj,aj,aj,aj,aj,aj,aj,aj,aj,aj,aj,aj,aj,aj,aj]),aS 16 6 16] (ae [oO 17 (.sliceArr 1 16 (.t 6) none none),oM 4 17,ak 5 0] .ret)))),[(4,none),(5,none)]⟩
theorem aiE:aI Tryz.prog {} Tryz.f184=some Cb:=by kernel_rfl
theorem I7 (G:au) (key b:List UInt8) (hk:key.length≤9223372036854775807) (hb:b.length≤9223372036854775807):aF Tryz.prog G 184 [.sl (key.map bD),.sl (b.map bD)] (.tup [.c (.fr 1 ((DU key b).map bD)),.c (.d (.int .i64 (y5 key b)))]):=by
  refine aT Tryz.func184 aiE rfl rfl ?_;unfold DU y5;by_cases h:key.length=16
  ·by_cases h2:b.length=16
   ·have hr:=GY h;have hl:(Ca key b).length=16:=nJ _ _;have ht:(Ca key b).take 16=Ca key b:=aot (by omega);rw[if_pos ⟨h,h2⟩,if_neg (by simp[h]),if_neg (by simp[h2])];simp only[Cb,ai,af,seval,h,h2,mz];refine sD (Vj G key h) ?_;refine sC (Vk G (bF key) b hr h2) ?_;simp only[nJ,eR,af,aa,seval];exact HR (by simp only[af,seval,po,nJ]; rfl) (by simp only[af,seval])
   ·rw[if_neg (fun k=>h2 k.2),if_neg (by simp[h]),if_pos h2];simp only[Cb,ai,af,seval,iteOmega,h];exact dZ
  ·rw[if_neg (fun k=>h k.1),if_pos h];simp only[Cb,ai,af,seval,iteOmega];exact dZ
def tQ (key:List UInt8):Int:=if key.length≠16 then 5 else 0
def kV (r n:Nat):Nat:=(n-r%n)%n
def fA (b:List UInt8) (n:Int):List UInt8:=if 1≤n∧n≤64 then b++List.replicate (kV b.length n.toNat) 0 else b
theorem R6 (b:List UInt8) {n:Nat} (h:1≤n∧n≤64):fA b (n:Int)=b++List.replicate (kV b.length n) 0:=by
  unfold fA; rw[if_pos (by omega),aqD]
theorem acV (b:List UInt8) {n:Int} (h:¬ (1≤n∧n≤64)):fA b n=b:=if_neg h
theorem acW (r:Nat) {n:Nat} (h:1≤n):kV r n<n:=ap7 _ (by omega)
theorem ae3 (n:Nat):aC 0 n=List.replicate n 0:=by
  unfold aC;simp only[Nat.zero_div]
  induction n with
  | zero=>rfl
  | succ n ih=>rw[apv,aoH,ih,List.replicate_succ']; rfl
theorem Vl (a b:Nat):Int.tmod (a:Int) (b:Int)=((a%b:Nat):Int):=rfl
def Cc:aK:=⟨2,28,ae [aM 4] (.seq (ae [oM 6 1,am .lss 7 6 1,oM 8 7,bE 9 1 8 false,cu .gtr 10 9 64 8 false,cC 11 8 10] (aw 11 (ae [oM 12 0,oO 13 (.bldSl false 1 1 (.sl []) [(0,(.t 12))]),oO 14 (.call 44 [(.t 13)] (some (0,1))),oM 4 14] .ret) .skip)) (ae [oM 15 1,oM 16 0,bc 17 16,oM 18 1,aU .rem 19 17 18,aU .sub 20 15 19,oM 21 1,aU .rem 22 20 21,oM 5 22] (ae [oM 23 0,oM 24 5,oO 25 (.call 76 [(.k (.c aQ)),(.t 24)] none),oO 26 (.bldSl false 2 1 (.sl []) [(0,(.t 23)),(1,(.t 25))]),oO 27 (.call 44 [(.t 26)] (some (0,1))),oM 4 27] .ret))),[(4,none)]⟩
theorem aiG:aI Tryz.prog { own:=[14,27] } Tryz.f119=some Cc:=by kernel_rfl
set_option maxHeartbeats 1600000 in
theorem CX (G:au) (b:List UInt8) (n:Int) (hb:b.length≤70368744177664):aF Tryz.prog G 119 [.sl (b.map bD),.int .i64 n] (.w (.c (.fr 1 ((fA b n).map bD)))):=by
  refine aT Tryz.func119 aiG rfl rfl ?_;by_cases hc:1≤n∧n≤64
  ·obtain⟨m,rfl⟩:=ao5 (show 0≤n by omega);rw[R6 b (by omega)];have hr:b.length%m<m:=ap7 _ (by omega);have hk:kV b.length m=(m-b.length%m)%m:=rfl;have hlt:=acW b.length (n:=m) (by omega);have e1:=Vl b.length m;have e2:Int.tmod ((m:Int)-((b.length%m:Nat):Int)) (m:Int)=((kV b.length m:Nat):Int):=by
     rw[show (m:Int)-((b.length%m:Nat):Int)=((m-b.length%m:Nat):Int) by omega,Vl,hk]
   have hm:((m:Int)=0)=False:=eq_false (by omega);have hp:=rC G 0 (kV b.length m) (by omega);have hj:=dV G [b,aC 0 (kV b.length m)] (by simp) (by simp[bO]; omega);have hf:[b,aC 0 (kV b.length m)].flatten=b++List.replicate (kV b.length m) 0:=by rw[ae3]; simp
   rw[hf] at hj;generalize kV b.length m=k at *
   simp only[Cc,ai,af,seval,iteOmega,e1,e2,hm];refine sD (hp) ?_;refine sD (hj) ?_;exact iJ
  ·rw[acV b hc];have hj:=dV G [b] (by simp) (by simp; omega);have hf:[b].flatten=b:=by simp
   rw[hf] at hj;by_cases h1:n<1
   ·simp only[Cc,ai,af,seval,iteOmega];refine sD (hj) ?_;exact iJ
   ·have h2:64<n:=by omega
    simp only[Cc,ai,af,seval,iteOmega];refine sD (hj) ?_;exact iJ
def dG (b:List UInt8) (j:Nat):UInt8:=if j<15 then pK (ik (b.getD j 0) 1) (il (b.getD (j+1) 0) 7) else ik (b.getD j 0) 1
def mC (b:List UInt8):List UInt8:=(List.range 16).map (dG b)
theorem GZ (b:List UInt8):(mC b).length=16:=by simp[mC]
theorem G1 (b:List UInt8) {j:Nat} (h:j<16):(mC b)[j]?=some (dG b j):=by simp[mC,h]
def y6 (b:List UInt8):UInt8:=px (pz (b.getD 0 0) 7) 135
theorem acX {b:List UInt8} (h:b.length=16):(mC b).set 15 (aX (dG b 15) (y6 b))=jh b:=by
  unfold jh;rw[if_pos h];apply apF;intro j;rw[aqG];by_cases hj:j<16
  ·rw[A9 _ hj];have hd:∀ k,bX b k=b.getD k 0:=fun _=>rfl
   by_cases h15:15=j
   ·subst h15;rw[if_pos rfl,if_pos (by rw[GZ]; decide)];simp only[dG,Kf,hd,y6,Nat.lt_irrefl,if_false,if_true,Fq]
   ·rw[if_neg h15,G1 _ hj];have:j<15:=by omega
    simp only[dG,Kf,hd,if_pos this,if_neg (show ¬ j=15 by omega),Fq,aiF]
  ·rw[if_neg (by omega),api (by rw[GZ]; omega),api (by rw[kg]; omega)]
theorem acY (b:List UInt8):dc .mul (.w (.c (.d (bD (il (b.getD 0 0) 7))))) (.w (.c (.d (.int .u8 135))))=some (bD (y6 b)):=by
  have key:=rO (p:=fun x=>(il x 7).toNat*135%256==(px (pz x 7) 135).toNat) (by decide +kernel) (b.getD 0 0);rw[beq_iff_eq] at key
  show cO .mul .u8 _ .u8 _=_
  rw[FW,IntKind.wrap_u8];unfold y6 bD;rw[← key]
  congr 2
theorem acZ (x:UInt8):pK x 0=x:=by
  have key:=rO (p:=fun x=>pK x 0==x) (by decide +kernel) x;rw[beq_iff_eq] at key;exact key
theorem bD0:bD 0=.int .u8 0:=rfl
def tY (b:List UInt8) (m:Nat):UInt8:=if m<16 then il (b.getD m 0) 7 else 0
theorem ac0 (b:List UInt8) {q:Nat} (h:q<16):pK (ik (b.getD q 0) 1) (tY b (q+1))=dG b q:=by
  unfold tY dG;by_cases h2:q<15
  ·rw[if_pos (by omega),if_pos h2]
  ·rw[if_neg (by omega),if_neg h2,acZ]
theorem aiH (b:List UInt8) {q:Nat} (h:q<16):il (b.getD q 0) 7=tY b q:=(if_pos h).symm
def nx (l:List UInt8) (m:Nat):List UInt8:=List.replicate m 0++l.drop m
theorem ae4 {l:List UInt8} {m:Nat} (h:m≤l.length):(nx l m).length=l.length:=by
  unfold nx; rw[aoq,aoR,aoB]; omega
theorem ac1 (l:List UInt8):nx l 0=l:=by simp[nx]
theorem ac2 {l:List UInt8} {m:Nat} (h:l.length=m):nx l m=List.replicate m 0:=by
  unfold nx; rw[apA (by omega),aoF]
theorem ac3 {l:List UInt8} {q:Nat} (h:q<l.length):(nx l (q+1)).set q (l.getD q 0)=nx l q:=by
  unfold nx;rw[List.replicate_succ',aoC,aqy _ _ (by simp),aoR,aqm,aqh h,aor,aon h];rfl
def Kg (b:List UInt8) (m:Nat):St:=⟨bz [(0,.w (.c (.d (.sl (b.map bD))))),(3,.w (.c (.own 1 1 0 16))),(4,.w (.c (.d (bD (tY b m))))),(5,.w (.c (.d (.int .i64 ((m:Int)-1)))))],hL [(1,.row 1 ((nx (mC b) m).map bD))],uL [1]⟩
theorem ae5 {b:List UInt8} (h:b.length≠16):jh b=[]:=if_neg h
def F6:bq := .seq (ae [oM 10 5,am .geq 11 10 0] (aw 11 .skip (.exit 0))) (.seq (.block 1 (ae [oM 14 3,oM 15 5,oM 16 0,oM 17 5,bW 18 1 16 17,aA 19 18,oO 20 (.bin .shl (.t 19) (.k (.c (.d (.int .u64 1))))),oM 21 4,aU .or 22 20 21,bW 23 1 14 15,ei 23 22] (.reg [oM 24 0,oM 25 5,bW 26 1 24 25,aA 27 26,oO 28 (.bin .shr (.t 27) (.k (.c (.d (.int .u64 7))))),oM 4 28]))) (.reg [oM 12 5,am .sub 13 12 1,oM 5 13]))
def H8:aK:=⟨1,37,ae [aM 2] (.seq (ae [oM 6 0,bc 7 6,am .neq 8 7 16] (aw 8 (ae [aM 2] .ret) .skip)) (ae [oO 9 (.make true 1 1 aj (kI 16) (kI 16)),oM 3 9] (ae [oO 4 (.mv (.k (.c (.d aj))))] (.seq (ae [ak 5 15] (.block 0 (.loop F6))) (ae [oM 29 3,oO 30 (.idxSl 1 (.t 29) (kI 15)),aA 31 30,oM 32 4,oO 33 (.bin .mul (.t 32) (.k (.c (.d (.int .u8 135))))),aU .xor 34 31 33,oO 35 (.idxSl 1 (.t 29) (kI 15)),ei 35 34] (ae [oM 36 3,oM 2 36] .ret)))))),[(2,none)]⟩
theorem aiI:aI Tryz.prog {} Tryz.f185=some H8:=by kernel_rfl
theorem CY (G:au) (b:List UInt8) (hb:b.length≤9223372036854775807):aF Tryz.prog G 185 [.sl (b.map bD)] (.w (.c (.fr 1 ((jh b).map bD)))):=by
  refine aT Tryz.func185 aiI rfl rfl ?_;by_cases h:b.length=16
  ·have hd:=acX h;have hl:=GZ b;simp only[H8,ai,af,seval,toNatUp,h,mz];refine bQ (Kg b) (fun m=>m) (fun m=>m≤16) 16 (aoz _) ?_ ?_
   ·have e1:nx (mC b) 16=cT 16 0:=ac2 hl;have e2:tY b 16=0:=rfl;refine aV (fun i=>72) ?_ ?_ rfl rfl <;> simp only[wx,aH,seval,e1,e2,bD0]
   ·intro m hm;rcases m with _ | q
    ·have e0:=ac1 (mC b);have c0:tY b 0=il (b.getD 0 0) 7:=rfl;have x1:=acY b;have g1:=G1 b (j:=15) (by decide);have x2:=lD (dG b 15) (y6 b);have h3:15<(mC b).length:=by omega
     have hdl:(jh b).length=16:=sV h;simp only[F6,Kg,e0,c0,Int.zero_sub,af,aa,seval,toNatUp,ba,g1,x1,x2,kj h3 (js _),lI,hd];exact iP (id:=1) (n:=16) (s:=1) (by simp only[wx,seval]) (by simp only[wx,seval]) (by simp[hdl])
    ·have hq:q<16:=by omega
     have g1:b[q]?=some (b.getD q 0):=iC (by omega);have hl1:=ae4 (l:=mC b) (m:=q+1) (by omega);have h3:q<(nx (mC b) (q+1)).length:=by omega
     have x1:=U4 (b.getD q 0) .u64 1 1 rfl (by decide);have x2:=FY (ik (b.getD q 0) 1) (tY b (q+1));have x3:=U3 (b.getD q 0) .u64 7 7 rfl (by decide);have c1:=ac0 b hq;have c2:=aiH b hq;have hs:=ac3 (l:=mC b) (q:=q) (by omega);have hg:(mC b).getD q 0=dG b q:=by rw[aor,G1 b hq]; rfl
     rw[hg] at hs;have sub:((q:Int)+1-1)=(q:Int):=by omega
     simp only[F6,Kg,af,aa,seval,iteOmega,toNatUp,sub,ba,g1,x1,x2,x3,c1,c2,h,kj h3 (js _),lI,hs];refine bA q (by omega) (by omega) (aV (fun i=>i) ?_ ?_ rfl rfl) <;> simp only[wx,aH,seval]
  ·rw[ae5 h];simp only[H8,ai,af,seval,iteOmega];exact iJ
def qQ (a b:List UInt8) (j:Nat):UInt8:=aX (a.getD j 0) (b.getD j 0)
theorem ae6 {a b:List UInt8} {n:Nat} (ha:a.length=n) (hb:b.length=n):(List.range n).map (qQ a b)=eL a b:=by
  apply apF;intro j;by_cases hj:j<n
  ·have:=Pw a b j (by omega) (by omega);have hl:j<(eL a b).length:=by rw[mP]; omega
   rw[iC hl,this];simp[hj,qQ]
  ·rw[api (by simpa using hj),api (by rw[mP]; omega)]
def I8 (a b:List UInt8) (i:Nat):St:=⟨bz [(0,.w (.c (.d (.sl (a.map bD))))),(1,.w (.c (.d (.sl (b.map bD))))),(5,.w (.c (.own 1 1 0 16))),(9,.w (.c (.d (.int .i64 16)))),(10,.w (.c (.d (.int .i64 (i:Int)))))],hL [(1,.row 1 ((dp (qQ a b) (cT 16 0) i).map bD))],uL [1]⟩
def F7:bq := ae [aU .lss 11 10 9] (.seq (aw 11 .skip (.exit 0)) (.seq (.block 1 (ae [oM 12 10,oM 6 12] (.reg [oM 13 5,oM 14 6,oM 15 0,oM 16 6,bW 17 1 15 16,aA 18 17,oM 19 1,oM 20 6,bW 21 1 19 20,aA 22 21,aU .xor 23 18 22,bW 24 1 13 14,ei 24 23]))) (.reg [am .add 25 10 1,oM 10 25])))
def Vm:aK:=⟨2,27,ae [aM 4] (ae [oO 7 (.make true 1 1 aj (kI 16) (kI 16)),oM 5 7] (.seq (ae [oM 8 5,bc 9 8,ak 10 0] (.block 0 (.loop F7))) (ae [oM 26 5,oM 4 26] .ret))),[(4,none)]⟩
theorem aiJ:aI Tryz.prog {} Tryz.f187=some Vm:=by kernel_rfl
theorem tD (G:au) (a b:List UInt8) (ha:a.length=16) (hb:b.length=16):aF Tryz.prog G 187 [.sl (a.map bD),.sl (b.map bD)] (.w (.c (.fr 1 ((eL a b).map bD)))):=by
  refine aT Tryz.func187 aiJ rfl rfl ?_;have zl:(cT 16 (0:UInt8)).length=16:=eR _ _;simp only[Vm,ai,af,seval,toNatUp,mz];refine bQ (I8 a b) (fun i=>16-i) (fun i=>i≤16) 0 (aoy _) ?_ ?_
  ·have e1:=xH (qQ a b) (cT 16 0);refine aV (fun i=>56) ?_ ?_ rfl rfl <;> simp only[wx,aH,seval,e1]
  ·intro i hi;by_cases hlt:i<16
   ·have g1:a[i]?=some (a.getD i 0):=iC (by omega);have g2:b[i]?=some (b.getD i 0):=iC (by omega);have hl1:=u4 (qQ a b) (cT 16 0) (i:=i) (by omega);have h3:i<(dp (qQ a b) (cT 16 0) i).length:=by omega
    have x1:=lD (a.getD i 0) (b.getD i 0);have hx:aX (a.getD i 0) (b.getD i 0)=qQ a b i:=rfl;have hs:=xI (qQ a b) (cT 16 0) (i:=i) (by omega);simp only[F7,I8,af,aa,seval,iteOmega,toNatUp,ba,g1,g2,x1,ha,hb,kj h3 (js _),lI,hx,hs];refine bA (i+1) (by omega) (by omega) (aV (fun i=>i) ?_ ?_ rfl rfl) <;> simp only[wx,aH,aY,seval]
   ·obtain rfl:i=16:=by omega
    have e1:dp (qQ a b) (cT 16 0) 16=eL a b:=by rw[Pr _ _ (by rw[eR]; decide),ae6 ha hb]
    have hl:(eL a b).length=16:=by rw[mP]; exact ha
    simp only[F7,I8,e1,af,seval];exact iP (id:=1) (n:=16) (s:=1) (by simp only[wx,seval]) (by simp only[wx,seval]) (by simp[hl])
theorem R7 {key b:List UInt8} (h:key.length=16) (hb:b.length=16):DU key b=ip (bF key) b:=if_pos ⟨h,hb⟩
theorem R8 {key b:List UInt8} (h:key.length=16) (hb:b.length=16):y5 key b=0:=by unfold y5; rw[if_neg (by omega),if_neg (by omega)]
theorem ae7 (b:List UInt8):fA b 16=nh b:=rfl
def kG (key:List UInt8):D:=.agg [.sl (key.map bD),.sl ((nj (bF key)).map bD),.sl ((qD (bF key)).map bD)]
def zr (key:List UInt8):D:=if key.length=16 then kG key else .agg [.sl [],.sl [],.sl []]
theorem I9 (s:Nat) (l:List UInt8) (k:IntKind) (n:Int):V.flat (.tup [.c (.fr s (l.map bD)),.c (.d (.int k n))])=true:=by
  have:=tM s l;simp only[V.flat,W.flat,aqB,List.all_nil,aqC] at this ⊢;rw[this]; rfl
def R9:aK:=⟨2,15,ae [cW 2 0,aM 4] (ae [aO 8 0 2,aA 9 8,oM 10 1,oO 11 (.call 184 [(.t 9),(.t 10)] (some (0,1))),oM 7 11,aB 12 7 0,aB 13 7 1,oM 5 12,oM 6 13] (ae [oM 14 5,oM 4 14] .ret)),[(4,none)]⟩
theorem ae8:aI Tryz.prog { comp:=[(11,0)] } Tryz.f192=some R9:=by kernel_rfl
theorem Vn (G:au) (key b:List UInt8) (h:key.length=16) (hb:b.length=16):aF Tryz.prog G 192 [.agg [.sl (key.map bD)],.sl (b.map bD)] (.w (.c (.fr 1 ((ip (bF key) b).map bD)))):=by
  refine aT Tryz.func192 ae8 rfl rfl ?_;have hx:=I7 G key b (by omega) (by omega);rw[R7 h hb,R8 h hb] at hx;simp only[R9,ai,af,seval];refine sD (hx) ?_;exact iJ
theorem aiK (G:au) (key b:List UInt8) (h:key.length=16) (hb:b.length=16):aF Tryz.prog G 192 [.agg [.sl (key.map bD)],.sl (b.map bD)] (.w (.c (.d (.sl ((ip (bF key) b).map bD))))):=qg (Vn G key b h hb)
def G2:aK:=⟨1,25,ae [oO 2 (.alloc [.nil,.nil,.nil]),ak 3 0] (ae [oM 8 0,oO 9 (.make true 1 1 aj (kI 16) (kI 16)),cd 10 184 8 9,oM 7 10,aB 11 7 0,aB 12 7 1,oM 4 11,oM 5 12] (.seq (ae [oM 13 5,am .neq 14 13 0] (aw 14 (ae [oO 15 (.build [.nil,.nil,.nil] []),oM 16 5,aS 3 2 15,oM 3 16] .ret) .skip)) (ae [oM 17 4,aW 18 185 17,oM 6 18] (ae [oM 19 0,oO 20 (.build [.nil] [(0,1,(.t 19))]),oM 21 6,oM 22 6,aW 23 185 22,oO 24 (.build [.nil,.nil,.nil] [(0,1,(.t 20)),(1,1,(.t 21)),(2,1,(.t 23))]),aS 3 2 24,ak 3 0] .ret)))),[(2,(some (.ag 3))),(3,none)]⟩
theorem ae9:aI Tryz.prog {} Tryz.f174=some G2:=by kernel_rfl
theorem aiL (G:au) (key:List UInt8) (hk:key.length≤9223372036854775807):aF Tryz.prog G 174 [.sl (key.map bD)] (.tup [.c (.d (zr key)),.c (.d (.int .i64 (tQ key)))]):=by
  refine aT Tryz.func174 ae9 rfl rfl ?_;have t0:(cT 16 (0:UInt8)).take 16=km:=rfl;by_cases h:key.length=16
  ·have hx:=I7 G key km (by omega) (by decide);rw[R7 h (by decide),R8 h (by decide)] at hx;have hv:zr key=kG key:=if_pos h;have he:tQ key=0:=by unfold tQ; rw[if_neg (by omega)]
   have h1:=CY G (ip (bF key) km) (by rw[nJ]; decide);have h2:=CY G (nj (bF key)) (by rw[F5]; decide);have s1:jh (ip (bF key) km)=nj (bF key):=rfl;have s2:jh (nj (bF key))=qD (bF key):=rfl;rw[s1] at h1;rw[s2] at h2;rw[hv,he];simp only[G2,ai,af,seval,toNatUp,mz];refine bK hx (by simp only[af,seval,t0,eR]) (.inr (I9 _ _ _ _)) ?_;simp only[af,seval];refine sD (h1) ?_;refine sD (h2) ?_;exact eW (by simp only[af,seval,kG]) (by simp only[af,seval])
  ·have hv:zr key=.agg [.sl [],.sl [],.sl []]:=if_neg h;have he:tQ key=5:=if_pos h;have hx:=I7 G key km (by omega) (by decide);have v1:DU key km=[]:=if_neg (fun k=>h k.1);have v2:y5 key km=5:=if_pos h;rw[v1,v2] at hx;rw[hv,he];simp only[G2,ai,af,seval,toNatUp,mz];refine bK hx (by simp only[af,seval,t0,eR]) (.inr (I9 _ _ _ _)) ?_;simp only[af,aa,seval];exact bu
def Sa:aK:=⟨1,8,ae [aM 2] (ae [oM 3 0,oO 4 (.bldSl false 1 1 aj [(0,(.k (.c (.d (.int .u8 128)))))]),oO 5 (.bldSl false 2 1 (.sl []) [(0,(.t 3)),(1,(.t 4))]),aW 6 44 5,oO 7 (.call 119 [(.t 6),(kI 16)] none),oM 2 7] .ret),[(2,none)]⟩
theorem afa:aI Tryz.prog {} Tryz.f194=some Sa:=by kernel_rfl
theorem Vo (G:au) (b:List UInt8) (hb:b.length≤70000):aF Tryz.prog G 194 [.sl (b.map bD)] (.w (.c (.d (.sl ((nh (b++[128])).map bD))))):=by
  refine aT Tryz.func194 afa rfl rfl ?_;have hj:=dV G [b,[128]] (by simp) (by simp; omega);have hf:[b,[128]].flatten=b++[128]:=by simp
  rw[hf] at hj;have hp:=CX G (b++[128]) 16 (by simp; omega);rw[ae7] at hp;simp only[Sa,ai,af,seval];refine sD (hj) ?_;refine sD (hp) ?_;exact aZ
theorem abg (rk:List UInt8) {e:List UInt8} (h:e.length=16):qF rk e=eL e (nj rk):=if_pos h
theorem abh (rk:List UInt8) {e:List UInt8} (h:e.length≠16):qF rk e=eL (nh (e++[128])) (qD rk):=if_neg h
def F8:aK:=⟨2,17,ae [cW 2 0,aM 4] (.seq (ae [oM 5 1,bc 6 5,am .eql 7 6 16] (aw 7 (ae [oM 8 1,aO 9 1 2,aA 10 9,cd 11 187 8 10,oM 4 11] .ret) .skip)) (ae [oM 12 1,aW 13 194 12,aO 14 2 2,aA 15 14,cd 16 187 13 15,oM 4 16] .ret)),[(4,none)]⟩
theorem ac4:aI Tryz.prog {} Tryz.f193=some F8:=by kernel_rfl
theorem afb (G:au) (key b:List UInt8) (hb:b.length≤16):aF Tryz.prog G 193 [kG key,.sl (b.map bD)] (.w (.c (.d (.sl ((qF (bF key) b).map bD))))):=by
  refine aT Tryz.func193 ac4 rfl rfl ?_;by_cases h:b.length=16
  ·rw[abg _ h];simp only[F8,ai,kG,af,seval,h];refine sD (tD G b (nj (bF key)) h (F5 _)) ?_;exact aZ
  ·rw[abh _ h];simp only[F8,ai,kG,af,seval,iteOmega];refine sD (Vo G b (by omega)) ?_;refine sD (tD G (nh (b++[128])) (qD (bF key)) (E3 (by omega)) (acS _)) ?_;exact aZ
def sg (key b:List UInt8):Nat→V
  | 0=>.w (.c (.own 1 1 0 16))
  | i+1=>.w (.c (.d (.sl ((lR (bF key) b (i+1)).map bD))))
def yK (key b:List UInt8) (i:Nat):St:=⟨bz [(1,.w (.c (.d (.sl ((b.drop (16*i)).map bD))))),(2,.w (.c (.rp [.sl (key.map bD),.sl ((nj (bF key)).map bD),.sl ((qD (bF key)).map bD)]))),(5,sg key b i)],hL [(1,.row 1 ((cT 16 (0:UInt8)).map bD))],uL [1]⟩
theorem aiM (b:List UInt8) (i:Nat):((b.drop (16*i)).drop 16).take ((b.drop (16*i)).length-16)=b.drop (16*(i+1)):=by
  rw[ap8,aot (by simp only[aoB]; omega)]; rfl
def xA:bq := .seq (ae [oM 7 1,bc 8 7,am .gtr 9 8 16] (aw 9 .skip (.exit 0))) (.block 1 (ae [aO 10 0 2,bn 11 1 10,oM 12 5,oM 13 1,oO 14 (.slice 1 (.t 13) none (some (kI 16)) none),cd 15 187 12 14,cd 16 192 11 15,oM 5 16] (.reg [oM 17 1,oO 18 (.slice 1 (.t 17) (some (kI 16)) none none),oM 1 18])))
def Sb:aK:=⟨2,27,ae [cW 2 0,aM 4] (ae [oO 6 (.make true 1 1 aj (kI 16) (kI 16)),oM 5 6] (.seq (.block 0 (.loop xA)) (ae [aO 19 0 2,bn 20 1 19,oM 21 5,bn 22 3 2,oM 23 1,cd 24 193 22 23,cd 25 187 21 24,oO 26 (.call 192 [(.t 20),(.t 25)] (some (0,1))),oM 4 26] .ret))),[(4,none)]⟩
theorem afc:aI Tryz.prog { own:=[26] } Tryz.f186=some Sb:=by kernel_rfl
theorem Cd (G:au) (key b:List UInt8) (h:key.length=16) (hb:b.length≤70000):aF Tryz.prog G 186 [kG key,.sl (b.map bD)] (.w (.c (.fr 1 ((mo (bF key) b).map bD)))):=by
  refine aT Tryz.func186 afc rfl rfl ?_;have t0:(cT 16 (0:UInt8)).take 16=km:=rfl;have hah:ti b=(b.length+15) / 16-1:=rfl;have hm:∀ i,i=ti b→mo (bF key) b=ip (bF key) (eL (lR (bF key) b i) (qF (bF key) (b.drop (16*i)))):=fun i e=>by rw[e]; rfl
  simp only[Sb,ai,kG,af,seval,toNatUp,mz];refine bQ (yK key b) (fun i=>ti b-i) (fun i=>i≤ti b) 0 (aoy _) ?_ ?_
  ·refine aV (fun i=>48) ?_ ?_ rfl rfl <;> simp only[wx,aH,seval,sg]
  ·intro i hi;have hcl:(b.drop (16*i)).length=b.length-16*i:=aoB;have hdr:=aiM b i;by_cases hlt:i<ti b
   ·have hT:((b.drop (16*i)).take 16).length=16:=by rw[aow]; omega
    have hstep:ip (bF key) (eL (lR (bF key) b i) ((b.drop (16*i)).take 16))=lR (bF key) b (i+1):=rfl;have h1:=tD G (lR (bF key) b i) ((b.drop (16*i)).take 16) (Ax _ _ _) hT;have h2:=aiK G key (eL (lR (bF key) b i) ((b.drop (16*i)).take 16)) h (by rw[mP,Ax]);rw[hstep] at h2;rcases i with _ | i
    ·have hz:lR (bF key) b 0=km:=rfl;rw[hz] at h1 h2;simp only[aqL,apS,aph,apX] at hdr;simp only[xA,yK,sg,af,seval,iteOmega,toNatUp];refine bK h1 (by simp only[af,seval,t0,eR]) (.inr (tM _ _)) ?_;simp only[af,seval];refine sC (h2) ?_;simp only[hdr,af,seval,iteOmega,toNatUp];refine bA (0+1) (by omega) (by omega) (aV (fun i=>i) ?_ ?_ rfl rfl) <;> simp only[wx,aH,seval,sg]
    ·simp only[xA,yK,sg,af,seval,iteOmega,toNatUp];refine sD (h1) ?_;refine sC (h2) ?_;simp only[hdr,af,seval,iteOmega,toNatUp];refine bA (i+1+1) (by omega) (by omega) (aV (fun i=>i) ?_ ?_ rfl rfl) <;> simp only[wx,aH,seval,sg]
   ·rw[hm i (by omega)];have hl16:(b.drop (16*i)).length≤16:=by omega
    have h1:=afb G key (b.drop (16*i)) hl16;have h2:=tD G (lR (bF key) b i) (qF (bF key) (b.drop (16*i))) (Ax _ _ _) (acT hl16);have h3:=Vn G key (eL (lR (bF key) b i) (qF (bF key) (b.drop (16*i)))) h (by rw[mP,Ax]);rcases i with _ | i
    ·have hz:lR (bF key) b 0=km:=rfl;rw[hz] at h2 h3 ⊢;simp only[xA,yK,sg,af,seval,iteOmega];refine sD (h1) ?_;refine bK h2 (by simp only[af,seval,t0,eR]) (.inr (tM _ _)) ?_;simp only[af,seval];refine sD (h3) ?_;exact iJ
    ·simp only[xA,yK,sg,af,seval,iteOmega];refine sD (h1) ?_;refine sD (h2) ?_;refine sD (h3) ?_;exact iJ
theorem aiN (G:au) (key b:List UInt8) (h:key.length=16) (hb:b.length≤70000):aF Tryz.prog G 186 [kG key,.sl (b.map bD)] (.w (.c (.d (.sl ((mo (bF key) b).map bD))))):=qg (Cd G key b h hb)
def G3:aK:=⟨2,26,ae [aM 4] (ae [oM 6 0,bc 7 6,am .sub 8 7 16,oM 5 8] (.seq (ae [oM 9 5,am .lss 10 9 0] (aw 10 (ae [oM 11 1,aW 12 185 11,oM 13 0,aW 14 194 13,cd 15 187 12 14,oM 4 15] .ret) .skip)) (ae [oM 16 0,oM 17 5,oO 18 (.slice 1 (.t 16) none (some (.t 17)) none),oM 19 0,oM 20 5,oO 21 (.slice 1 (.t 19) (some (.t 20)) none none),oM 22 1,cd 23 187 21 22,oO 24 (.bldSl false 2 1 (.sl []) [(0,(.t 18)),(1,(.t 23))]),aW 25 44 24,oM 4 25] .ret))),[(4,none)]⟩
theorem afd:aI Tryz.prog {} Tryz.f188=some G3:=by kernel_rfl
theorem aiO (G:au) (s d:List UInt8) (hs:s.length≤70000) (hd:d.length=16):aF Tryz.prog G 188 [.sl (s.map bD),.sl (d.map bD)] (.w (.c (.d (.sl ((if 16≤s.length then s.take (s.length-16)++eL (s.drop (s.length-16)) d else eL (jh d) (nh (s++[128]))).map bD))))):=by
  refine aT Tryz.func188 afd rfl rfl ?_;by_cases h:16≤s.length
  ·rw[if_pos h];have hl:(s.drop (s.length-16)).length=16:=by rw[aoB]; omega
   have ht:(s.drop (s.length-16)).take (s.length-(s.length-16))=s.drop (s.length-16):=aot (by omega);have hj:=dV G [s.take (s.length-16),eL (s.drop (s.length-16)) d] (by simp) (by simp[mP]; omega);have hf:[s.take (s.length-16),eL (s.drop (s.length-16)) d].flatten=s.take (s.length-16)++eL (s.drop (s.length-16)) d:=by simp
   rw[hf] at hj;have e1:(((s.length:Int)-16).toNat)=s.length-16:=by omega
   simp only[G3,ai,af,seval,iteOmega,e1,ht];refine sD (tD G (s.drop (s.length-16)) d hl hd) ?_;refine sD (hj) ?_;exact aZ
  ·rw[if_neg h];simp only[G3,ai,af,seval,iteOmega];refine sD (CY G d (by omega)) ?_;refine sD (Vo G s (by omega)) ?_;refine sD (tD G (jh d) (nh (s++[128])) (sV hd) (E3 (by omega))) ?_;exact aZ
def Ja (key:List UInt8) (l:List (List UInt8)) (i:Nat):St:=⟨bz [(1,.w (.c (.d (.sl (l.map fun l=>D.sl (l.map bD)))))),(2,.w (.c (.rp [.sl (key.map bD),.sl ((nj (bF key)).map bD),.sl ((qD (bF key)).map bD)]))),(5,.w (.c (.d (.sl ((mq (bF key) l i).map bD))))),(6,.w (.c (.d (.int .i64 ((l.length:Int)-1))))),(23,.w (.c (.d (.sl ((l.take (l.length-1)).map fun l=>D.sl (l.map bD)))))),(24,.w (.c (.d (.int .i64 ((l.length:Int)-1))))),(25,.w (.c (.d (.int .i64 (i:Int)))))],hL [(1,.row 1 ((cT 16 (0:UInt8)).map bD))],uL [1]⟩
theorem abi (rk:List UInt8) {l:List (List UInt8)} (h:l.length=0):od rk l=mo rk (aC 1 16):=by
  unfold od; rw[if_pos h]; congr 1
theorem abj (rk:List UInt8) {l:List (List UInt8)} (h:l.length≠0):od rk l=mo rk (if 16≤(l.getD (l.length-1) []).length then (l.getD (l.length-1) []).take ((l.getD (l.length-1) []).length-16)++eL ((l.getD (l.length-1) []).drop ((l.getD (l.length-1) []).length-16)) (mq rk l (l.length-1)) else eL (jh (mq rk l (l.length-1))) (nh (l.getD (l.length-1) []++[128]))):=by
  unfold od; rw[if_neg h]; dsimp only; split <;> rfl
theorem G4 {l:List (List UInt8)} {j:Nat} (h:j<l.length):l[j]?=some (l.getD j []):=by
  rw[aor,aon h]; rfl
theorem Az {l:List (List UInt8)} {j:Nat} (h:j<l.length):l.getD j []∈l:=by
  rw[aor,aon h]; exact aoS h
def Fy:bq := ae [aU .lss 26 25 24] (.seq (aw 26 .skip (.exit 0)) (.seq (.block 1 (ae [bW 27 1 23 25,aA 28 27,oM 8 28] (.reg [oM 29 5,aW 30 185 29,bn 31 3 2,oM 32 8,cd 33 186 31 32,cd 34 187 30 33,oM 5 34]))) (.reg [am .add 35 25 1,oM 25 35])))
def G5:aK:=⟨2,44,ae [cW 2 0,aM 4] (.seq (ae [oM 9 1,bc 10 9,am .eql 11 10 0] (aw 11 (ae [bn 12 3 2,oO 13 (.call 76 [(.k (.c (.d (.int .u64 1)))),(kI 16)] none),oO 14 (.call 186 [(.t 12),(.t 13)] (some (0,1))),oM 4 14] .ret) .skip)) (ae [bn 15 3 2,oO 16 (.make true 1 1 aj (kI 16) (kI 16)),cd 17 186 15 16,oM 5 17] (ae [oM 18 1,bc 19 18,am .sub 20 19 1,oM 6 20] (.seq (ae [oM 21 1,oM 22 6,oO 23 (.slice 1 (.t 21) none (some (.t 22)) none),bc 24 23,ak 25 0] (.block 0 (.loop Fy))) (ae [bn 36 3 2,oM 37 1,oM 38 6,bW 39 1 37 38,aA 40 39,oM 41 5,cd 42 188 40 41,oO 43 (.call 186 [(.t 36),(.t 42)] (some (0,1))),oM 4 43] .ret))))),[(4,none)]⟩
theorem afe:aI Tryz.prog { own:=[14,43] } Tryz.f175=some G5:=by kernel_rfl
theorem aiP (G:au) (key:List UInt8) (l:List (List UInt8)) (h:key.length=16) (hl:l.length≤17) (hb:∀ x∈l,x.length≤65535):aF Tryz.prog G 175 [kG key,.sl (l.map fun l=>D.sl (l.map bD))] (.w (.c (.fr 1 ((od (bF key) l).map bD)))):=by
  refine aT Tryz.func175 afe rfl rfl ?_;have t0:(cT 16 (0:UInt8)).take 16=km:=rfl;by_cases h0:l.length=0
  ·rw[abi _ h0];simp only[G5,ai,kG,af,seval,h0];refine sD (rC G 1 16 (by decide)) ?_;refine sD (Cd G key (aC 1 16) h (by rw[bO]; decide)) ?_;exact iJ
  ·rw[abj _ h0];have e1:(((l.length:Int)-1).toNat)=l.length-1:=by omega
   have e2:(l.take (l.length-1)).length=l.length-1:=by rw[aow]; omega
   have e3:((l.length-1:Nat):Int)=(l.length:Int)-1:=by omega
   simp only[G5,ai,kG,af,seval,iteOmega,toNatUp,mz];refine bK (Cd G key km h (by decide)) (by simp only[af,seval,t0,eR,kG]) (.inr (tM _ _)) ?_;simp only[af,seval,iteOmega,e1,e2,e3,ma];refine bQ (Ja key l) (fun i=>l.length-1-i) (fun i=>i≤l.length-1) 0 (aoy _) ?_ ?_
   ·refine aV (fun i=>128) ?_ ?_ rfl rfl <;> simp only[wx,aH,seval,mq]
   ·intro i hi;have hd:=Px (bF key) l i;by_cases hlt:i<l.length-1
    ·have g1:(l.take (l.length-1))[i]?=some (l.getD i []):=by rw[aoY,if_pos hlt,G4 (by omega)]
     have hx:=hb _ (Az (l:=l) (j:=i) (by omega));have hs:eL (jh (mq (bF key) l i)) (mo (bF key) (l.getD i []))=mq (bF key) l (i+1):=rfl;have h1:=CY G (mq (bF key) l i) (by omega);have h2:=aiN G key (l.getD i []) h (by omega);have h3:=tD G (jh (mq (bF key) l i)) (mo (bF key) (l.getD i [])) (sV hd) (Ay _ _);rw[hs] at h3;simp only[Fy,Ja,af,seval,iteOmega,toNatUp,ba,g1,e2,e3];refine sD (h1) ?_;refine sD (h2) ?_;refine sD (h3) ?_;refine bA (i+1) (by omega) (by omega) (aV (fun i=>i) ?_ ?_ rfl rfl) <;> simp only[wx,aH,aY,seval]
    ·obtain rfl:i=l.length-1:=by omega
     have g1:l[l.length-1]?=some (l.getD (l.length-1) []):=G4 (by omega);have hx:=hb _ (Az (l:=l) (j:=l.length-1) (by omega));have h1:=aiO G (l.getD (l.length-1) []) (mq (bF key) l (l.length-1)) (by omega) hd;have hcl:∀ s d:List UInt8,s.length≤65535→d.length=16→(if 16≤s.length then s.take (s.length-16)++eL (s.drop (s.length-16)) d else eL (jh d) (nh (s++[128]))).length≤70000:=by
       intro s d h1 h2;split
       ·rw[aoq,mP,← aoq,aoX]; omega
       ·rw[mP,sV h2]; decide
     have h2:=Cd G key _ h (hcl _ _ hx hd);simp only[Fy,Ja,af,seval,iteOmega,ba,g1,e1,e3];refine sD (h1) ?_;refine sD (h2) ?_;exact iJ
def pd (l:List (List UInt8)):Bool:=l.any fun x=>decide (65535<x.length)
def DV (key:List UInt8) (l:List (List UInt8)):Int:=if key.length≠16 then 5 else if 17<l.length then 8 else if pd l=true then 2 else 0
def Kh (key:List UInt8) (l:List (List UInt8)):List UInt8:=if key.length=16∧l.length≤17∧pd l=false then od (bF key) l else []
theorem ac5 {l:List (List UInt8)} (h:∀ j,j<l.length→(l.getD j []).length≤65535):pd l=false:=by
  unfold pd;rw[apz];intro x hx;obtain⟨j,hj,rfl⟩:=ao0 hx;have:=h j hj;rw[aor,aon hj] at this
  simpa using this
theorem abk {l:List (List UInt8)} {j:Nat} (hj:j<l.length) (h:65535<(l.getD j []).length):pd l=true:=by
  unfold pd;rw[apC];exact⟨_,Az hj,decide_eq_true h⟩
theorem abl {l:List (List UInt8)} (h:pd l=false):∀ x∈l,x.length≤65535:=by
  unfold pd at h;rw[apz] at h;intro x hx;have:=h x hx
  simpa using this
def CZ (key:List UInt8) (l:List (List UInt8)) (i:Nat):St:=⟨bz [(1,.w (.c (.d (.sl (l.map fun l=>D.sl (l.map bD)))))),(6,.w (.c (.ptr 1 1 0 0))),(21,.w (.c (.d (.sl (l.map fun l=>D.sl (l.map bD)))))),(22,.w (.c (.d (.int .i64 (l.length:Int))))),(23,.w (.c (.d (.int .i64 (i:Int)))))],hL [(1,.box [.d (.sl (key.map bD)),.d (.sl ((nj (bF key)).map bD)),.d (.sl ((qD (bF key)).map bD))])],uL [1]⟩
def z8:bq := ae [aU .lss 24 23 22] (.seq (aw 24 .skip (.exit 0)) (.seq (.block 1 (ae [bW 25 1 21 23,aA 26 25,oM 9 26] (ae [oM 27 9,bc 28 27,am .gtr 29 28 65535] (aw 29 (ae [aM 4,ak 5 2] .ret) .skip)))) (.reg [am .add 30 23 1,oM 23 30])))
def Bb:aK:=⟨2,34,ae [aM 4,ak 5 0] (ae [oM 11 0,aW 12 174 11,oM 10 12,aB 13 10 0,aB 14 10 1,oO 6 (.alloc [.nil,.nil,.nil]),aS 3 6 13,oM 7 14] (.seq (ae [oM 15 7,am .neq 16 15 0] (aw 16 (ae [oM 17 7,aM 4,oM 5 17] .ret) .skip)) (.seq (ae [oM 18 1,bc 19 18,am .gtr 20 19 17] (aw 20 (ae [aM 4,ak 5 8] .ret) .skip)) (.seq (ae [oM 21 1,bc 22 21,ak 23 0] (.block 0 (.loop z8))) (ae [bn 31 3 6,oM 32 1,oO 33 (.call 175 [(.t 31),(.t 32)] (some (0,1))),oM 4 33,ak 5 0] .ret))))),[(4,none),(5,none)]⟩
theorem aff:aI Tryz.prog { own:=[33] } Tryz.f157=some Bb:=by kernel_rfl
theorem aiQ (G:au) (key:List UInt8) (l:List (List UInt8)) (hk:key.length≤9223372036854775807) (hl:l.length≤9223372036854775807) (hb:∀ x∈l,x.length≤9223372036854775807):aF Tryz.prog G 157 [.sl (key.map bD),.sl (l.map fun l=>D.sl (l.map bD))] (.tup [.c (.fr 1 ((Kh key l).map bD)),.c (.d (.int .i64 (DV key l)))]):=by
  refine aT Tryz.func157 aff rfl rfl ?_;have hx:=aiL G key hk;unfold Kh DV;by_cases h:key.length=16
  ·have hv:zr key=kG key:=if_pos h;have he:tQ key=0:=by unfold tQ; rw[if_neg (by omega)]
   rw[hv,he] at hx;by_cases h2:l.length≤17
   ·rw[if_neg (by omega:¬ key.length≠16),if_neg (by omega:¬ 17<l.length)];simp only[Bb,ai,af,seval];refine sC (hx) ?_;simp only[kG,af,aa,seval,iteOmega];refine bQ (CZ key l) (fun i=>l.length-i) (fun i=>i≤l.length∧∀ j,j<i→(l.getD j []).length≤65535) 0 ⟨aoy _,fun j hj=>by omega⟩ ?_ ?_
    ·refine aV (fun i=>48) ?_ ?_ rfl rfl <;> simp only[wx,aH,seval]
    ·rintro i ⟨hi,hok⟩;by_cases hlt:i<l.length
     ·have g1:=G4 hlt;have hx:=hb _ (Az hlt);by_cases hlong:65535<(l.getD i []).length
      ·have hL:=abk hlt hlong;rw[hL,if_neg (by simp),if_pos rfl];simp only[z8,CZ,af,seval,iteOmega,toNatUp,ba,g1];exact dZ
      ·simp only[z8,CZ,af,seval,iteOmega,toNatUp,ba,g1];refine bA (i+1) (by omega) ⟨by omega,fun j hj=>?_⟩ (aV (fun i=>i) ?_ ?_ rfl rfl)
       ·rcases aoP j i with h | h
        ·exact hok j h
        ·obtain rfl:j=i:=by omega
         omega
       all_goals simp only[wx,aH,aY,seval]
     ·have hL:=ac5 (l:=l) (fun j hj=>hok j (by omega));rw[hL,if_pos ⟨h,h2,rfl⟩,if_neg (by simp)];simp only[z8,CZ,af,seval,iteOmega];refine sD (aiP G key l h h2 (abl hL)) ?_;exact dZ
   ·rw[if_neg (by omega),if_neg (by omega),if_pos (by omega)];have h3:17<l.length:=by omega
    simp only[Bb,ai,af,seval];refine sC (hx) ?_;simp only[kG,af,aa,seval,iteOmega];exact dZ
  ·have hv:zr key=.agg [.sl [],.sl [],.sl []]:=if_neg h;have he:tQ key=5:=if_pos h;rw[hv,he] at hx;rw[if_neg (by omega),if_pos h];simp only[Bb,ai,af,seval];refine sD (hx) ?_;exact dZ

theorem Py (rk c:List UInt8) {n k:Nat} (hk:k<16):∀ {m:Nat},n<m→(tO rk c m)[16*n+k]?=(ip rk (jf c n))[k]?
  | 0,h=>by omega
  | m+1,h=>by
    rw[tO];by_cases e:n=m
    ·subst e;rw[aoV (by rw[uJ]; omega),uJ,aqa]
    ·rw[apb (by rw[uJ]; omega)];exact Py rk c hk (by omega)
theorem ac6 (rk c b:List UInt8) {n k:Nat} (hk:k<16) (h:16*n+k<b.length):(jK rk c b)[16*n+k]?=some (aX (b.getD (16*n+k) 0) ((ip rk (jf c n)).getD k 0)):=by
  unfold jK r8;rw[List.getElem?_zipWith,Py rk c hk (by omega),iC h,iC (by rw[nJ]; exact hk)]
def oT (rk c b:List UInt8) (j:Nat):List UInt8:=(jK rk c b).take j
theorem Vp (rk c b:List UInt8) (j:Nat):(oT rk c b j).length=min j b.length:=by unfold oT; rw[aow,z6]
theorem Bc (rk c b:List UInt8) {j:Nat} (h:b.length≤j):oT rk c b j=jK rk c b:=aot (by rw[z6]; exact h)
theorem afg (rk c b:List UInt8) {n k:Nat} (hk:k<16) (h:16*n+k<b.length):oT rk c b (16*n+k)++[aX (b.getD (16*n+k) 0) ((ip rk (jf c n)).getD k 0)]=oT rk c b (16*n+k+1):=by
  unfold oT; rw[apR,ac6 rk c b hk h]; rfl
theorem G6 {c:List UInt8} (h:c.length=16) (n:Nat):(jf c n).length=16:=by rw[Pp]; exact h
theorem ac7 {c:List UInt8} (h:c.length=16) (n:Nat):DR (jf c n)=jf c (n+1):=by unfold DR; rw[if_pos (G6 h n)]; rfl
def pf (key c b:List UInt8):Int:=if key.length≠16 then 5 else if c.length≠16 then 3 else if 65535<b.length then 2 else 0
def C0 (key c b:List UInt8):List UInt8:=if key.length=16∧c.length=16∧b.length≤65535 then jK (bF key) c b else []
theorem abm {key:List UInt8} (c b:List UInt8) (h:key.length≠16):pf key c b=5:=if_pos h
theorem abn {key c:List UInt8} (b:List UInt8) (h:key.length=16) (h2:c.length≠16):pf key c b=3:=by unfold pf; rw[if_neg (by simp[h]),if_pos h2]
theorem aac {key c b:List UInt8} (h:key.length=16) (h2:c.length=16) (h3:65535<b.length):pf key c b=2:=by unfold pf; rw[if_neg (by simp[h]),if_neg (by simp[h2]),if_pos h3]
theorem ac8 {key c b:List UInt8} (h:key.length=16) (h2:c.length=16) (h3:b.length≤65535):pf key c b=0:=by unfold pf; rw[if_neg (by simp[h]),if_neg (by simp[h2]),if_neg (by omega)]
theorem ac9 {key c b:List UInt8} (h:key.length=16) (h2:c.length=16) (h3:b.length≤65535):C0 key c b=jK (bF key) c b:=if_pos ⟨h,h2,h3⟩
theorem F9 {key c b:List UInt8} (h:¬ (key.length=16∧c.length=16∧b.length≤65535)):C0 key c b=[]:=if_neg h
theorem oT0 (rk c b:List UInt8):oT rk c b 0=[]:=apJ

theorem XV (s:Nat) (l:List UInt8) (k:IntKind) (n:Int):V.flat (.tup [.c (.fr s (l.map bD)),.c (.d (.int k n))])=true:=by
  have:=tM s l;simp only[V.flat,W.flat,aqB,List.all_nil,aqC] at this ⊢;rw[this]; rfl
def Vr:aK:=⟨2,10,ae [bH 4 false] (ae [oM 5 0,oO 6 (.b2s (.t 5)),oM 7 1,oO 8 (.b2s (.t 7)),aU .eql 9 6 8,oM 4 9] .ret),[(4,none)]⟩
theorem aiU:aI Tryz.prog {} Tryz.f140=some Vr:=by kernel_rfl
theorem amh (G:au) (l m:List UInt8):aF Tryz.prog G 140 [.sl (l.map bD),.sl (m.map bD)] (.w (.c (.d (.bool (l==m))))):=by
  refine aT Tryz.func140 aiU rfl rfl ?_;simp only[Vr,ai,wx,seval,Aq,MH];exact qo (by simp only[wx,seval])
def Sd:aK:=⟨2,8,ae [bH 4 false] (ae [oM 5 0,oM 6 1,cd 7 140 5 6,oM 4 7] .ret),[(4,none)]⟩
theorem afi:aI Tryz.prog {} Tryz.f94=some Sd:=by kernel_rfl
theorem rD (G:au) (l m:List UInt8):aF Tryz.prog G 94 [.sl (l.map bD),.sl (m.map bD)] (.w (.c (.d (.bool (l==m))))):=by
  refine aT Tryz.func94 afi rfl rfl ?_;simp only[Sd,ai,af,seval];refine sD (amh G l m) ?_;exact aZ
def dW:List UInt32:=[0x6a09e667,0xbb67ae85,0x3c6ef372,0xa54ff53a,0x510e527f,0x9b05688c,0x1f83d9ab,0x5be0cd19]
def cy:List UInt32:=[
  0x428a2f98,0x71374491,0xb5c0fbcf,0xe9b5dba5,0x3956c25b,0x59f111f1,0x923f82a4,0xab1c5ed5,
  0xd807aa98,0x12835b01,0x243185be,0x550c7dc3,0x72be5d74,0x80deb1fe,0x9bdc06a7,0xc19bf174,
  0xe49b69c1,0xefbe4786,0x0fc19dc6,0x240ca1cc,0x2de92c6f,0x4a7484aa,0x5cb0a9dc,0x76f988da,
  0x983e5152,0xa831c66d,0xb00327c8,0xbf597fc7,0xc6e00bf3,0xd5a79147,0x06ca6351,0x14292967,
  0x27b70a85,0x2e1b2138,0x4d2c6dfc,0x53380d13,0x650a7354,0x766a0abb,0x81c2c92e,0x92722c85,
  0xa2bfe8a1,0xa81a664b,0xc24b8b70,0xc76c51a3,0xd192e819,0xd6990624,0xf40e3585,0x106aa070,
  0x19a4c116,0x1e376c08,0x2748774c,0x34b0bcb5,0x391c0cb3,0x4ed8aa4a,0x5b9cca4f,0x682e6ff3,
  0x748f82ee,0x78a5636f,0x84c87814,0x8cc70208,0x90befffa,0xa4506ceb,0xbef9a3f7,0xc67178f2]
theorem xq:dW.length=8:=rfl
theorem xr:cy.length=64:=rfl
def cZ (b:List UInt8) (t:Nat):UInt32 :=
  ov (ov (ov (pu (qp (b.getD (4*t) 0)) 24) (pu (qp (b.getD (4*t+1) 0)) 16)) (pu (qp (b.getD (4*t+2) 0)) 8)) (qp (b.getD (4*t+3) 0))
def oY (x:UInt32):UInt32:=ij (ij (kX x 7) (kX x 18)) (qA x 3)
def oZ (y:UInt32):UInt32:=ij (ij (kX y 17) (kX y 19)) (qA y 10)
def pg (s:List UInt32) (t:Nat):UInt32 :=
  bZ (bZ (bZ (oZ (s.getD (t-2) 0)) (s.getD (t-7) 0)) (oY (s.getD (t-15) 0))) (s.getD (t-16) 0)
def jd (b:List UInt8) (n:Nat):List UInt32:=(List.range n).map (cZ b)
def dm (b:List UInt8):Nat→List UInt32
  | 0=>jd b 16
  | n+1=>dm b n++[pg (dm b n) (16+n)]
def fT (b:List UInt8):List UInt32:=dm b 48
theorem PD (b:List UInt8) (m:Nat) (h:m=48):fT b=dm b m:=by rw[h]; rfl
def pD (e:UInt32):UInt32:=ij (ij (kX e 6) (kX e 11)) (kX e 25)
def qI (a:UInt32):UInt32:=ij (ij (kX a 2) (kX a 13)) (kX a 22)
def pM (e f g:UInt32):UInt32:=ij (pq e f) (pq (wn e) g)
def qK (a b c:UInt32):UInt32:=ij (ij (pq a b) (pq a c)) (pq b c)
structure cF where
  (a b c d e f g h:UInt32)
def cF.step (s:cF) (k w:UInt32):cF :=
  let t1:=bZ (bZ (bZ (bZ s.h (pD s.e)) (pM s.e s.f s.g)) k) w
  let t2:=bZ (qI s.a) (qK s.a s.b s.c)
  ⟨bZ t1 t2,s.a,s.b,s.c,bZ s.d t1,s.e,s.f,s.g⟩
def cF.of (h:List UInt32):cF:=⟨h.getD 0 0,h.getD 1 0,h.getD 2 0,h.getD 3 0,h.getD 4 0,h.getD 5 0,h.getD 6 0,h.getD 7 0⟩
def cF.rounds (s:cF) (k w:List UInt32):Nat→cF
  | 0=>s
  | n+1=>(s.rounds k w n).step (k.getD n 0) (w.getD n 0)
def cF.sum (s:cF) (h:List UInt32):List UInt32 :=
  [bZ (h.getD 0 0) s.a,bZ (h.getD 1 0) s.b,bZ (h.getD 2 0) s.c,bZ (h.getD 3 0) s.d,bZ (h.getD 4 0) s.e,bZ (h.getD 5 0) s.f,bZ (h.getD 6 0) s.g,bZ (h.getD 7 0) s.h]
def mV (h:List UInt32) (b:List UInt8):List UInt32:=((cF.of h).rounds cy (fT b) 64).sum h
theorem zP (h:List UInt32) (b:List UInt8):(mV h b).length=8:=rfl
theorem adc (x y:UInt32):ov x y=ov y x:=UInt32.or_comm x y
def PE:aK:=⟨2,15,ae [oO 4 (.mv (.k (.c be)))] (ae [oM 5 0,oM 6 1,oO 7 (.conv .u64 (.t 6)),aU .shr 8 5 7,oM 9 0,oM 10 1,oO 11 (.bin .sub (kI 32) (.t 10)),oO 12 (.conv .u64 (.t 11)),aU .shl 13 9 12,aU .or 14 8 13,oM 4 14] .ret),[(4,none)]⟩
theorem ade:aI Tryz.prog {} Tryz.f141=some PE:=by kernel_rfl
theorem oL (G:au) (x:UInt32) (n:Nat) (h0:0<n) (hn:n<32):aF Tryz.prog G 141 [wD x,.int .i64 n] (.w (.c (.d (wD (kX x n))))):=by
  refine aT Tryz.func141 ade rfl rfl ?_;have e1:IntKind.u64.wrap (n:Int)=(n:Int):=IntWalk.u64_in _ (by omega);have e2:IntKind.i64.wrap (32-(n:Int))=((32-n:Nat):Int):=by rw[IntWalk.i64_in _ (by omega)]; omega
  have e3:IntKind.u64.wrap ((32-n:Nat):Int)=((32-n:Nat):Int):=IntWalk.u64_in _ (by omega);simp only[PE,ai,wx,seval,iteOmega,toNatUp,e1,e2,e3];exact qo (by simp only[wx,seval] <;> rfl)
def Sg:aK:=⟨2,17,ae [oO 4 (.mv (.k (.c be)))] (ae [oM 6 1,oO 7 (.conv .u64 (.t 6)),oO 8 (.bin .and (.t 7) (.k (.c (.d (.int .u64 31))))),oM 5 8] (ae [oM 9 0,oM 10 5,aU .shl 11 9 10,oM 12 0,oM 13 5,oO 14 (.bin .sub (.k (.c (.d (.int .u64 32)))) (.t 13)),aU .shr 15 12 14,aU .or 16 11 15,oM 4 16] .ret)),[(4,none)]⟩
theorem afq:aI Tryz.prog {} Tryz.f195=some Sg:=by kernel_rfl
theorem ai2 (G:au) (x:UInt32) (n:Nat) (h0:0<n) (hn:n<32):aF Tryz.prog G 195 [wD x,.int .i64 (-(n:Int))] (.w (.c (.d (wD (kX x n))))):=by
  refine aT Tryz.func195 afq rfl rfl ?_;have e1:bits .and .u64 (IntKind.u64.wrap (-(n:Int))) 31=((32-n:Nat):Int):=by
    have h:=bits_mask .u64 64 (by decide) u64_in 5 (by decide) (IntKind.u64.wrap (-(n:Int))) (by rw[IntKind.wrap_u64]; omega) (by rw[IntKind.wrap_u64]; omega);rw[show (31:Int)=2^5-1 by decide,h,IntKind.wrap_u64];omega
  have e2:IntKind.u64.wrap (32-((32-n:Nat):Int))=((n:Nat):Int):=by rw[IntWalk.u64_in _ (by omega)]; omega
  simp only[Sg,ai,wx,seval,iteOmega,toNatUp,e1,e2];rw[adc];exact qo (by simp only[wx,seval] <;> rfl)
def Si:aK:=⟨2,9,ae [oO 4 (.mv (.k (.c be)))] (ae [oM 5 0,oM 6 1,oO 7 (.un .neg (.t 6)),cd 8 195 5 7,oM 4 8] .ret),[(4,none)]⟩
theorem afr:aI Tryz.prog {} Tryz.f190=some Si:=by kernel_rfl
theorem pb (G:au) (x:UInt32) (n:Nat) (h0:0<n) (hn:n<32):aF Tryz.prog G 190 [wD x,.int .i64 n] (.w (.c (.d (wD (kX x n))))):=by
  refine aT Tryz.func190 afr rfl rfl ?_;have e1:IntKind.i64.wrap (0-(n:Int)) = -(n:Int):=by rw[IntWalk.i64_in _ (by omega)]; omega
  simp only[Si,ai,wx,seval,e1];refine bK (ai2 G x n h0 hn) rfl (.inr rfl) ?_;simp only[wx,seval];exact qo (by simp only[wx,seval])
def Sj:aK:=⟨0,2,ae [aM 0] (ae [oO 1 (.bldSl true 8 1 ar [(0,(.k (.c (.d (.int .u32 1779033703))))),(1,(.k (.c (.d (.int .u32 3144134277))))),(2,(.k (.c (.d (.int .u32 1013904242))))),(3,(.k (.c (.d (.int .u32 2773480762))))),(4,(.k (.c (.d (.int .u32 1359893119))))),(5,(.k (.c (.d (.int .u32 2600822924))))),(6,(.k (.c (.d (.int .u32 528734635))))),(7,(.k (.c (.d (.int .u32 1541459225)))))]),oM 0 1] .ret),[(0,none)]⟩
theorem afs:aI Tryz.prog { own:=[1] } Tryz.f97=some Sj:=by kernel_rfl
theorem ai3 (G:au):aF Tryz.prog G 97 [] (.w (.c (.fr 1 (dW.map wD)))):=by
  refine aT Tryz.func97 afs rfl rfl ?_;simp only[Sj,ai,CL,CO,Bw,BN,BM,sx];refine QR (.w (.c (.own 8 1 0 8)),upd hN 8 (some (.row 1 (dW.map wD))),upd uN 8 true) (by kernel_rfl) ?_;simp only[wx,seval];exact iP (id:=8) (n:=8) (s:=1) (by simp only[wx,seval]) (by simp only[wx,seval]) rfl
def Sk:aK:=⟨0,2,ae [aM 0] (ae [oO 1 (.bldSl true 64 1 ar [(0,(.k (.c (.d (.int .u32 1116352408))))),(1,(.k (.c (.d (.int .u32 1899447441))))),(2,(.k (.c (.d (.int .u32 3049323471))))),(3,(.k (.c (.d (.int .u32 3921009573))))),(4,(.k (.c (.d (.int .u32 961987163))))),(5,(.k (.c (.d (.int .u32 1508970993))))),(6,(.k (.c (.d (.int .u32 2453635748))))),(7,(.k (.c (.d (.int .u32 2870763221))))),(8,(.k (.c (.d (.int .u32 3624381080))))),(9,(.k (.c (.d (.int .u32 310598401))))),(10,(.k (.c (.d (.int .u32 607225278))))),(11,(.k (.c (.d (.int .u32 1426881987))))),(12,(.k (.c (.d (.int .u32 1925078388))))),(13,(.k (.c (.d (.int .u32 2162078206))))),(14,(.k (.c (.d (.int .u32 2614888103))))),(15,(.k (.c (.d (.int .u32 3248222580))))),(16,(.k (.c (.d (.int .u32 3835390401))))),(17,(.k (.c (.d (.int .u32 4022224774))))),(18,(.k (.c (.d (.int .u32 264347078))))),(19,(.k (.c (.d (.int .u32 604807628))))),(20,(.k (.c (.d (.int .u32 770255983))))),(21,(.k (.c (.d (.int .u32 1249150122))))),(22,(.k (.c (.d (.int .u32 1555081692))))),(23,(.k (.c (.d (.int .u32 1996064986))))),(24,(.k (.c (.d (.int .u32 2554220882))))),(25,(.k (.c (.d (.int .u32 2821834349))))),(26,(.k (.c (.d (.int .u32 2952996808))))),(27,(.k (.c (.d (.int .u32 3210313671))))),(28,(.k (.c (.d (.int .u32 3336571891))))),(29,(.k (.c (.d (.int .u32 3584528711))))),(30,(.k (.c (.d (.int .u32 113926993))))),(31,(.k (.c (.d (.int .u32 338241895))))),(32,(.k (.c (.d (.int .u32 666307205))))),(33,(.k (.c (.d (.int .u32 773529912))))),(34,(.k (.c (.d (.int .u32 1294757372))))),(35,(.k (.c (.d (.int .u32 1396182291))))),(36,(.k (.c (.d (.int .u32 1695183700))))),(37,(.k (.c (.d (.int .u32 1986661051))))),(38,(.k (.c (.d (.int .u32 2177026350))))),(39,(.k (.c (.d (.int .u32 2456956037))))),(40,(.k (.c (.d (.int .u32 2730485921))))),(41,(.k (.c (.d (.int .u32 2820302411))))),(42,(.k (.c (.d (.int .u32 3259730800))))),(43,(.k (.c (.d (.int .u32 3345764771))))),(44,(.k (.c (.d (.int .u32 3516065817))))),(45,(.k (.c (.d (.int .u32 3600352804))))),(46,(.k (.c (.d (.int .u32 4094571909))))),(47,(.k (.c (.d (.int .u32 275423344))))),(48,(.k (.c (.d (.int .u32 430227734))))),(49,(.k (.c (.d (.int .u32 506948616))))),(50,(.k (.c (.d (.int .u32 659060556))))),(51,(.k (.c (.d (.int .u32 883997877))))),(52,(.k (.c (.d (.int .u32 958139571))))),(53,(.k (.c (.d (.int .u32 1322822218))))),(54,(.k (.c (.d (.int .u32 1537002063))))),(55,(.k (.c (.d (.int .u32 1747873779))))),(56,(.k (.c (.d (.int .u32 1955562222))))),(57,(.k (.c (.d (.int .u32 2024104815))))),(58,(.k (.c (.d (.int .u32 2227730452))))),(59,(.k (.c (.d (.int .u32 2361852424))))),(60,(.k (.c (.d (.int .u32 2428436474))))),(61,(.k (.c (.d (.int .u32 2756734187))))),(62,(.k (.c (.d (.int .u32 3204031479))))),(63,(.k (.c (.d (.int .u32 3329325298)))))]),
 oM 0 1] .ret),[(0,none)]⟩
theorem aft:aI Tryz.prog { own:=[1] } Tryz.f98=some Sk:=by kernel_rfl
theorem Vx (G:au):aF Tryz.prog G 98 [] (.w (.c (.fr 1 (cy.map wD)))):=by
  refine aT Tryz.func98 aft rfl rfl ?_;simp only[Sk,ai,CL,CO,Bw,BN,BM,sx];refine QR (.w (.c (.own 8 1 0 64)),upd hN 8 (some (.row 1 (cy.map wD))),upd uN 8 true) (by kernel_rfl) ?_;simp only[wx,seval];exact iP (id:=8) (n:=64) (s:=1) (by simp only[wx,seval]) (by simp only[wx,seval]) rfl
theorem Ly (b:UInt8):(qp b).toNat=b.toNat:=by have:=Mr b; omega
theorem Fz (b:UInt8) (n:Nat) (hn:n≤24):(pu (qp b) n).toNat=2^n*b.toNat:=by
  have hb:=b.toNat_lt;have h:(2:Nat)^n≤2^24:=Nat.pow_le_pow_right (by decide) hn;have h2:2^n*b.toNat≤2^24*255:=Nat.mul_le_mul h (by omega);unfold pu;rw[Ly,UInt32.toNat_ofNat_of_lt' (by rw[aqj]; simp only[UInt32.size]; omega),aqj]
theorem Hb (x y:UInt32):(ov x y).toNat=x.toNat ||| y.toNat:=UInt32.toNat_or x y
theorem xu (b:List UInt8) (t:Nat):(cZ b t).toNat=((((b.getD (4*t) 0).toNat*256+(b.getD (4*t+1) 0).toNat)*256+(b.getD (4*t+2) 0).toNat)*256+(b.getD (4*t+3) 0).toNat):=by
  unfold cZ;generalize b.getD (4*t) 0=p;generalize b.getD (4*t+1) 0=q;generalize b.getD (4*t+2) 0=r;generalize b.getD (4*t+3) 0=s;have hp:=p.toNat_lt;have hq:=q.toNat_lt;have hr:=r.toNat_lt;have hs:=s.toNat_lt;rw[Hb,Hb,Hb,Fz _ _ (by decide),Fz _ _ (by decide),Fz _ _ (by decide),Ly];have e1:=Nat.two_pow_add_eq_or_of_lt (i:=24) (b:=2^16*q.toNat) (by omega) p.toNat;rw[← e1];have e2:=Nat.two_pow_add_eq_or_of_lt (i:=16) (b:=2^8*r.toNat) (by omega) (2^8*p.toNat+q.toNat);have e3:2^24*p.toNat+2^16*q.toNat=2^16*(2^8*p.toNat+q.toNat):=by omega
  rw[e3,← e2];have e4:=Nat.two_pow_add_eq_or_of_lt (i:=8) (b:=s.toNat) (by omega) (2^8*(2^8*p.toNat+q.toNat)+r.toNat);have e5:2^16*(2^8*p.toNat+q.toNat)+2^8*r.toNat=2^8*(2^8*(2^8*p.toNat+q.toNat)+r.toNat):=by omega
  rw[e5,← e4];omega
theorem four (b:List UInt8) (t:Nat) (h:4*t+4≤b.length):(b.drop (4*t)).take 4=[b.getD (4*t) 0,b.getD (4*t+1) 0,b.getD (4*t+2) 0,b.getD (4*t+3) 0]:=by
  apply apF;intro j;rw[aoY,apo];rcases j with _ | _ | _ | _ | j
  ·simp[List.getD,aon (show 4*t<b.length by omega)]
  ·simp[List.getD,aon (show 4*t+1<b.length by omega)]
  ·simp[List.getD,aon (show 4*t+2<b.length by omega)]
  ·simp[List.getD,aon (show 4*t+3<b.length by omega)]
  ·rw[if_neg (by omega)];rfl
theorem aob (b:List UInt8) (t:Nat) (h:4*t+4≤b.length):D.int .u32 (IntKind.u32.wrap (bi ((b.drop (4*t)).take 4):Int))=wD (cZ b t):=by
  have h1:=xu b t;rw[four b t h];unfold wD;rw[h1];generalize b.getD (4*t) 0=p;generalize b.getD (4*t+1) 0=q;generalize b.getD (4*t+2) 0=r;generalize b.getD (4*t+3) 0=s;have hp:=p.toNat_lt;have hq:=q.toNat_lt;have hr:=r.toNat_lt;have hs:=s.toNat_lt;have e:bi [p,q,r,s]=(((p.toNat*256+q.toNat)*256+r.toNat)*256+s.toNat):=by
    simp only[bi,apB,ap9];omega
  rw[e,IntWalk.u32_in _ (by omega)]
theorem xo (b:List UInt8) (n:Nat):(jd b n).length=n:=by simp[jd]
theorem ut (b:List UInt8):∀ n,(dm b n).length=16+n
  | 0=>by simp[dm,xo]
  | n+1=>by rw[dm,aoq,ut b n]; simp; omega
theorem xJ {α:Type} (l:List α) (z x:α) (n:Nat) (h:0<n):(l++List.replicate n z).set l.length x=(l++[x])++List.replicate (n-1) z:=by
  obtain⟨k,rfl⟩:∃ k,n=k+1:=⟨n-1,by omega⟩
  rw[aqy _ _ (aoz _),aqm,List.replicate_succ,List.set_cons_zero];simp
theorem Vy {l:List UInt32} {r:List UInt32} {i:Nat} (h:i<l.length):(l++r)[i]?=some (l.getD i 0):=by
  rw[apb h];simp[h]
def Jd (b:List UInt8) (t:Nat):St:=⟨bz [(0,.w (.c (.d (.sl (b.map bD))))),(2,.w (.c (.pa 1 1))),(3,.w (.c (.pa 2 1))),(10,.w (.c (.d (.int .i64 (t:Int)))))],hL [(1,.row 1 ((List.replicate 64 (0:UInt32)).map wD)),(2,.row 1 ((jd b t++List.replicate (64-t) 0).map wD))],uL [1,2]⟩
def Je (b:List UInt8) (n:Nat):St:=⟨bz [(2,.w (.c (.pa 1 1))),(3,.w (.c (.pa 2 1))),(5,.w (.c (.d (.int .i64 ((16+n:Nat):Int)))))],hL [(1,.row 1 ((List.replicate 64 (0:UInt32)).map wD)),(2,.row 1 ((dm b n++List.replicate (48-n) 0).map wD))],uL [1,2]⟩
def EK:bq := ae [am .lss 11 10 16] (.seq (aw 11 .skip (.exit 0)) (.seq (.block 1 (ae [oM 12 10,oM 4 12] (.reg [oM 13 4,oM 14 0,oM 15 4,am .mul 16 15 4,oM 17 4,am .add 18 17 1,am .mul 19 18 4,oO 20 (.slice 1 (.t 14) (some (.t 16)) (some (.t 19)) none),aW 21 81 20,oO 22 (.conv .u32 (.t 21)),oO 23 (.idxPa 1 64 (.t 3) (.t 13)),ei 23 22]))) (.reg [am .add 24 10 1,oM 10 24])))
def EL:bq := .seq (ae [oM 25 5,am .lss 26 25 64] (aw 26 .skip (.exit 2))) (.seq (.block 3 (ae [oM 29 5,am .sub 30 29 15,oO 31 (.idxPa 1 64 (.t 3) (.t 30)),aA 32 31,oM 33 5,am .sub 34 33 2,oO 35 (.idxPa 1 64 (.t 3) (.t 34)),aA 36 35,oM 6 32,oM 7 36] (ae [oM 37 6,oO 38 (.call 190 [(.t 37),(kI 7)] none),oM 39 6,oO 40 (.call 190 [(.t 39),(kI 18)] none),aU .xor 41 38 40,oM 42 6,oO 43 (.bin .shr (.t 42) (.k (.c (.d (.int .u64 3))))),aU .xor 44 41 43,oM 8 44] (ae [oM 45 7,oO 46 (.call 190 [(.t 45),(kI 17)] none),oM 47 7,oO 48 (.call 190 [(.t 47),(kI 19)] none),aU .xor 49 46 48,oM 50 7,oO 51 (.bin .shr (.t 50) (.k (.c (.d (.int .u64 10))))),aU .xor 52 49 51,oM 9 52] (.reg [oM 53 5,oM 54 9,oM 55 5,am .sub 56 55 7,oO 57 (.idxPa 1 64 (.t 3) (.t 56)),aA 58 57,aU .add 59 54 58,
 oM 60 8,aU .add 61 59 60,oM 62 5,am .sub 63 62 16,oO 64 (.idxPa 1 64 (.t 3) (.t 63)),aA 65 64,aU .add 66 61 65,oO 67 (.idxPa 1 64 (.t 3) (.t 53)),ei 67 66]))))) (.reg [oM 27 5,am .add 28 27 1,oM 5 28]))
def MU:aK:=⟨1,69,ae [oO 2 (.allocArr [ar,ar,ar,ar,ar,ar,ar,ar,ar,ar,ar,ar,ar,ar,ar,ar,ar,ar,ar,ar,ar,ar,ar,ar,ar,ar,ar,ar,ar,ar,ar,ar,ar,ar,ar,ar,ar,ar,ar,ar,ar,ar,ar,ar,ar,ar,ar,ar,ar,ar,ar,ar,ar,ar,ar,ar,ar,ar,ar,ar,ar,ar,ar,ar])] (ae [oO 3 (.allocArr [ar,ar,ar,ar,ar,ar,ar,ar,ar,ar,ar,ar,ar,ar,ar,ar,ar,ar,ar,ar,ar,ar,ar,ar,ar,ar,ar,ar,ar,ar,ar,ar,ar,ar,ar,ar,ar,ar,ar,ar,ar,ar,ar,ar,ar,ar,ar,ar,ar,ar,ar,ar,ar,ar,ar,ar,ar,ar,ar,ar,ar,ar,ar,ar])] (.seq (ae [ak 10 0] (.block 0 (.loop EK))) (.seq (ae [ak 5 16] (.block 2 (.loop EL))) (ae [bn 68 64 3,aS 64 2 68] .ret)))),[(2,(some (.ag 64)))]⟩
theorem abr:aI Tryz.prog {} Tryz.f189=some MU:=by kernel_rfl
set_option maxHeartbeats 800000 in
theorem adf (G:au) (b:List UInt8) (hb:b.length=64):aF Tryz.prog G 189 [.sl (b.map bD)] (.w (.c (.d (.agg ((fT b).map wD))))):=by
  refine aT Tryz.func189 abr rfl rfl ?_;simp only[MU,ai,wx,seval];refine bQ (Jd b) (fun t=>16-t) (fun t=>t≤16) 0 (aoy _) ?_ ?_
  ·refine aV (fun i=>8*(i+1)) ?_ ?_ rfl rfl <;> simp only[wx,aH,seval];exact⟨rfl,rfl⟩
  ·intro t ht;by_cases hlt:t<16
   ·have e1:IntKind.i64.wrap ((t:Int)*4)=((4*t:Nat):Int):=by rw[IntWalk.i64_in _ (by omega)]; omega
    have e2:IntKind.i64.wrap ((t:Int)+1)=((t+1:Nat):Int):=by rw[IntWalk.i64_in _ (by omega)]; rfl
    have e3:IntKind.i64.wrap (((t+1:Nat):Int)*4)=((4*t+4:Nat):Int):=by rw[IntWalk.i64_in _ (by omega)]; omega
    have e4:4*t+4-4*t=4:=by omega
    simp only[EK,Jd,wx,seval,iteOmega,toNatUp,e1,e2,e3,e4];refine bK (ku G _ (by rw[aow,aoB]; omega)) rfl (.inr rfl) ?_;have h1:t<(jd b t++List.replicate (64-t) 0).length:=by rw[aoq,xo,aoR]; omega
    have h2:=xJ (jd b t) 0 (cZ b t) (64-t) (by omega);rw[xo] at h2;have h3:jd b t++[cZ b t]=jd b (t+1):=by simp[jd,apv]
    have h4:64-t-1=64-(t+1):=by omega
    rw[h3,h4] at h2;simp only[wx,aa,seval,iteOmega,toNatUp,aob b t (by omega),BW h1 (vQ _),BX,h2,e2];refine bA (t+1) (by omega) (by omega) (aV id ?_ ?_ rfl rfl) <;> simp only[wx,aH,seval]
   ·obtain rfl:t=16:=by omega
    simp only[EK,Jd,wx,seval];refine bQ (Je b) (fun n=>48-n) (fun n=>n≤48) 0 (aoy _) ?_ ?_
    ·have h0:jd b 16=dm b 0:=rfl;refine aV id ?_ ?_ rfl rfl <;> simp only[wx,aH,seval,h0]
    ·intro n hn;by_cases hlt:n<48
     ·have hl:=ut b n;have w1:∀ k:Nat,k≤16→IntKind.i64.wrap (((16+n:Nat):Int)-(k:Int))=((16+n-k:Nat):Int):=fun k hk=>by rw[IntWalk.i64_in _ (by omega)]; omega
      have e15:IntKind.i64.wrap (((16+n:Nat):Int)-15)=((16+n-15:Nat):Int):=w1 15 (by decide);have e2:IntKind.i64.wrap (((16+n:Nat):Int)-2)=((16+n-2:Nat):Int):=w1 2 (by decide);have e7:IntKind.i64.wrap (((16+n:Nat):Int)-7)=((16+n-7:Nat):Int):=w1 7 (by decide);have e16:IntKind.i64.wrap (((16+n:Nat):Int)-16)=((16+n-16:Nat):Int):=w1 16 (by decide);have e0:IntKind.i64.wrap (((16+n:Nat):Int)+1)=((16+(n+1):Nat):Int):=by rw[IntWalk.i64_in _ (by omega)]; omega
      have g:∀ k,k<16+n→((dm b n++List.replicate (48-n) 0).map wD)[k]?=some (wD ((dm b n).getD k 0)):=fun k hk=>by
        rw[apk,Vy (by omega)]; rfl
      have g15:=g (16+n-15) (by omega);have g2:=g (16+n-2) (by omega);have g7:=g (16+n-7) (by omega);have g16:=g (16+n-16) (by omega);simp only[EL,Je,wx,seval,iteOmega,toNatUp,e15,e2,g15,g2];refine bK (pb G _ 7 (by decide) (by decide)) rfl (.inr rfl) ?_;simp only[wx,seval];refine bK (pb G _ 18 (by decide) (by decide)) rfl (.inr rfl) ?_;simp only[wx,seval,toNatUp];refine bK (pb G _ 17 (by decide) (by decide)) rfl (.inr rfl) ?_;simp only[wx,seval];refine bK (pb G _ 19 (by decide) (by decide)) rfl (.inr rfl) ?_;have h1:16+n<(dm b n++List.replicate (48-n) 0).length:=by rw[aoq,hl,aoR]; omega
      have h2:=xJ (dm b n) 0 (pg (dm b n) (16+n)) (48-n) (by omega);rw[hl] at h2;have h4:48-n-1=48-(n+1):=by omega
      have h3:dm b n++[pg (dm b n) (16+n)]=dm b (n+1):=rfl;rw[h3,h4] at h2;simp only[pg,oY,oZ] at h2;simp only[wx,aa,seval,iteOmega,toNatUp,e7,e16,e0,g7,g16,BW h1 (vQ _),BX,h2];refine bA (n+1) (by omega) (by omega) (aV id ?_ ?_ rfl rfl) <;> simp only[wx,aH,seval]
     ·have hn48:n=48:=by omega
      have hl:(dm b n).length=64:=by rw[ut]; omega
      have h0:48-n=0:=by omega
      simp only[EL,Je,wx,aa,seval,iteOmega,h0,apD,hl];refine qo ?_;simp only[wx,seval,PD b n hn48,hl]
theorem Y5 {G:au} {n:Nat} {c:C} (h:G.at n=some c) (f:Nat→V):ev G f (.g n)=.w (.c c):=by simp[ev,h]
theorem getD_some {l:List UInt32} {i:Nat} (h:i<l.length):l[i]?=some (l.getD i 0):=by simp[h]
theorem eight {l:List UInt32} (h:l.length=8):∃ a b c d e f g i,l=[a,b,c,d,e,f,g,i]:=by
  match l,h with
  | [a,b,c,d,e,f,g,i],_=>exact⟨a,b,c,d,e,f,g,i,rfl⟩
def cF.list (s:cF):List UInt32:=[s.a,s.b,s.c,s.d,s.e,s.f,s.g,s.h]
theorem Vz (s:cF) (k w:UInt32):(s.step k w).a=bZ (bZ (bZ (bZ (bZ s.h (pD s.e)) (pM s.e s.f s.g)) k) w) (bZ (qI s.a) (qK s.a s.b s.c)):=rfl
theorem VA (s:cF) (k w:UInt32):(s.step k w).b=s.a:=rfl
theorem VB (s:cF) (k w:UInt32):(s.step k w).c=s.b:=rfl
theorem VC (s:cF) (k w:UInt32):(s.step k w).d=s.c:=rfl
theorem VD (s:cF) (k w:UInt32):(s.step k w).e=bZ s.d (bZ (bZ (bZ (bZ s.h (pD s.e)) (pM s.e s.f s.g)) k) w):=rfl
theorem VE (s:cF) (k w:UInt32):(s.step k w).f=s.e:=rfl
theorem VF (s:cF) (k w:UInt32):(s.step k w).g=s.f:=rfl
theorem VG (s:cF) (k w:UInt32):(s.step k w).h=s.g:=rfl
def C1 (h:List UInt32) (b:List UInt8) (s:cF) (n:Nat):St:=⟨bz [(2,.w (.c (.pa 1 1))),(4,.w (.c (.pa 2 1))),(5,.w (.c (.pa 3 1))),(6,.w (.c (.d (wD s.a)))),(7,.w (.c (.d (wD s.b)))),(8,.w (.c (.d (wD s.c)))),(9,.w (.c (.d (wD s.d)))),(10,.w (.c (.d (wD s.e)))),(11,.w (.c (.d (wD s.f)))),(12,.w (.c (.d (wD s.g)))),(13,.w (.c (.d (wD s.h)))),(37,.w (.c (.d (.int .i64 (n:Int)))))],
  hL [(1,.row 1 (h.map wD)),(2,.row 1 ((List.replicate 8 (0:UInt32)).map wD)),(3,.row 1 ((fT b).map wD))],uL [1,2,3]⟩
def y7 (h:List UInt32) (b:List UInt8) (n:Nat):St:=C1 h b ((cF.of h).rounds cy (fT b) n) n
def sumTo (s:cF) (h:List UInt32) (k:Nat):List UInt32:=(s.sum h).take k++h.drop k
def C2 (h:List UInt32) (s:cF) (n:Nat):St:=⟨bz [(2,.w (.c (.pa 1 1))),(4,.w (.c (.pa 2 1))),(108,.w (.c (.d (.agg (s.list.map wD))))),(109,.w (.c (.d (.int .i64 (n:Int)))))],
  hL [(1,.row 1 ((sumTo s h n).map wD)),(2,.row 1 ((List.replicate 8 (0:UInt32)).map wD))],uL [1,2]⟩
def E4:bq := ae [am .lss 38 37 64] (.seq (aw 38 .skip (.exit 0)) (.seq (.block 1 (ae [oM 39 37,oM 14 39] (ae [oM 40 13,oM 41 10,oO 42 (.call 190 [(.t 41),(kI 6)] none),oM 43 10,oO 44 (.call 190 [(.t 43),(kI 11)] none),aU .xor 45 42 44,oM 46 10,oO 47 (.call 190 [(.t 46),(kI 25)] none),aU .xor 48 45 47,aU .add 49 40 48,oM 50 10,oM 51 11,aU .and 52 50 51,oM 53 10,oO 54 (.un .xor (.t 53)),oM 55 12,aU .and 56 54 55,aU .xor 57 52 56,aU .add 58 49 57,oM 59 14,oO 60 (.idxPa 1 64 (.g 1) (.t 59)),aA 61 60,aU .add 62 58 61,oM 63 14,oO 64 (.idxPa 1 64 (.t 5) (.t 63)),aA 65 64,aU .add 66 62 65,oM 15 66] (ae [oM 67 6,oO 68 (.call 190 [(.t 67),(kI 2)] none),oM 69 6,oO 70 (.call 190 [(.t 69),(kI 13)] none),aU .xor 71 68 70,oM 72 6,oO 73 (.call 190 [(.t 72),(kI 22)] none),aU .xor 74 71 73,
 oM 75 6,oM 76 7,aU .and 77 75 76,oM 78 6,oM 79 8,aU .and 80 78 79,aU .xor 81 77 80,oM 82 7,oM 83 8,aU .and 84 82 83,aU .xor 85 81 84,aU .add 86 74 85,oM 16 86] (.reg [oM 87 12,oM 88 11,oM 89 10,oM 90 9,oM 91 15,aU .add 92 90 91,oM 93 8,oM 94 7,oM 95 6,oM 96 15,oM 97 16,aU .add 98 96 97,oM 13 87,oM 12 88,oM 11 89,oM 10 92,oM 9 93,oM 8 94,oM 7 95,oM 6 98]))))) (.reg [am .add 99 37 1,oM 37 99])))
def E5:bq := ae [am .lss 110 109 8] (.seq (aw 110 .skip (.exit 2)) (.seq (.block 3 (ae [oM 111 109,oO 112 (.idxArr 1 8 .sc (.t 108) (.t 109)),oM 17 111,oM 18 112] (.reg [oM 113 17,oO 114 (.idxPa 1 8 (.t 2) (.t 113)),aA 115 114,oM 116 18,aU .add 117 115 116,oO 118 (.idxPa 1 8 (.t 2) (.t 113)),ei 118 117]))) (.reg [am .add 119 109 1,oM 109 119])))
def PF:aK:=⟨2,121,ae [oO 2 (.box .ownArr (.t 0)),oO 4 (.allocArr [ar,ar,ar,ar,ar,ar,ar,ar])] (ae [oM 19 1,aW 20 189 19,oO 5 (.allocArr [ar,ar,ar,ar,ar,ar,ar,ar,ar,ar,ar,ar,ar,ar,ar,ar,ar,ar,ar,ar,ar,ar,ar,ar,ar,ar,ar,ar,ar,ar,ar,ar,ar,ar,ar,ar,ar,ar,ar,ar,ar,ar,ar,ar,ar,ar,ar,ar,ar,ar,ar,ar,ar,ar,ar,ar,ar,ar,ar,ar,ar,ar,ar,ar]),aS 64 5 20] (ae [oO 21 (.idxPa 1 8 (.t 2) (kI 0)),aA 22 21,oO 23 (.idxPa 1 8 (.t 2) (kI 1)),aA 24 23,oO 25 (.idxPa 1 8 (.t 2) (kI 2)),aA 26 25,oO 27 (.idxPa 1 8 (.t 2) (kI 3)),aA 28 27,oO 29 (.idxPa 1 8 (.t 2) (kI 4)),aA 30 29,oO 31 (.idxPa 1 8 (.t 2) (kI 5)),aA 32 31,oO 33 (.idxPa 1 8 (.t 2) (kI 6)),aA 34 33,oO 35 (.idxPa 1 8 (.t 2) (kI 7)),aA 36 35,oM 6 22,oM 7 24,oM 8 26,oM 9 28,
 oM 10 30,oM 11 32,oM 12 34,oM 13 36] (.seq (ae [ak 37 0] (.block 0 (.loop E4))) (.seq (ae [oM 100 6,oM 101 7,oM 102 8,oM 103 9,oM 104 10,oM 105 11,oM 106 12,oM 107 13,oO 108 (.build [be,be,be,be,be,be,be,be] [(0,1,(.t 100)),(1,1,(.t 101)),(2,1,(.t 102)),(3,1,(.t 103)),(4,1,(.t 104)),(5,1,(.t 105)),(6,1,(.t 106)),(7,1,(.t 107))]),ak 109 0] (.block 2 (.loop E5))) (ae [bn 120 8 2,aS 8 4 120] .ret))))),[(4,(some (.ag 8)))]⟩
theorem adg:aI Tryz.prog { own:=[2] } Tryz.f177=some PF:=by kernel_rfl
theorem afu (G:au) (hG:G.at 1=some (.ra (cy.map wD))) (h:List UInt32) (b:List UInt8) (hh:h.length=8) (hb:b.length=64):aF Tryz.prog G 177 [.agg (h.map wD),.sl (b.map bD)] (.w (.c (.d (.agg ((mV h b).map wD))))):=by
  refine aT Tryz.func177 adg rfl rfl ?_;have hsl:(fT b).length=64:=ut b 48;have eg:=@Y5 G 1 _ hG;have hcl:cy.length=64:=xr;obtain⟨h0,h1,h2,h3,h4,h5,h6,h7,rfl⟩:=eight hh;simp only[PF,ai,wx,seval];refine bK (adf G b hb) rfl (.inl rfl) ?_;simp only[wx,aa,seval,toNatUp,hsl];refine bQ (y7 [h0,h1,h2,h3,h4,h5,h6,h7] b) (fun n=>64-n) (fun n=>n≤64) 0 (aoy _) ?_ ?_
  ·refine aV (fun i=>match i with | 1=>16 | 2=>32 | _=>40) ?_ ?_ rfl rfl <;> simp only[wx,aH,seval]
   ·exact⟨rfl,rfl,rfl,rfl,rfl,rfl,rfl,rfl⟩
   ·rfl
  ·intro n hn;by_cases hlt:n<64
   ·have e1:IntKind.i64.wrap ((n:Int)+1)=((n+1:Nat):Int):=by rw[IntWalk.i64_in _ (by omega)]; rfl
    have g1:(cy.map wD)[n]?=some (wD (cy.getD n 0)):=by rw[ba,getD_some (by omega)]; rfl
    have g2:((fT b).map wD)[n]?=some (wD ((fT b).getD n 0)):=by rw[ba,getD_some (by omega)]; rfl
    have hr:(cF.of [h0,h1,h2,h3,h4,h5,h6,h7]).rounds cy (fT b) (n+1)=((cF.of [h0,h1,h2,h3,h4,h5,h6,h7]).rounds cy (fT b) n).step (cy.getD n 0) ((fT b).getD n 0):=rfl;generalize hs:(cF.of [h0,h1,h2,h3,h4,h5,h6,h7]).rounds cy (fT b) n=s at hr;simp only[E4,y7,C1,hs,wx,seval,iteOmega];refine bK (pb G _ 6 (by decide) (by decide)) rfl (.inr rfl) ?_;simp only[wx,seval];refine bK (pb G _ 11 (by decide) (by decide)) rfl (.inr rfl) ?_;simp only[wx,seval];refine bK (pb G _ 25 (by decide) (by decide)) rfl (.inr rfl) ?_;simp only[wx,seval,iteOmega,toNatUp,eg,g1,g2,hcl];refine bK (pb G _ 2 (by decide) (by decide)) rfl (.inr rfl) ?_;simp only[wx,seval];refine bK (pb G _ 13 (by decide) (by decide)) rfl (.inr rfl) ?_;simp only[wx,seval];refine bK (pb G _ 22 (by decide) (by decide)) rfl (.inr rfl) ?_;simp only[wx,seval,e1];refine bA (n+1) (by omega) (by omega) ?_;rw[y7,hr];refine (aV id ?_ ?_ rfl rfl) <;> simp only[wx,aH,seval,Vz,VA,VB,VC,VD,VE,VF,VG];exact⟨rfl,rfl⟩
   ·obtain rfl:n=64:=by omega
    have hK:mV [h0,h1,h2,h3,h4,h5,h6,h7] b=((cF.of [h0,h1,h2,h3,h4,h5,h6,h7]).rounds cy (fT b) 64).sum [h0,h1,h2,h3,h4,h5,h6,h7]:=rfl;rw[hK];simp only[y7];generalize (cF.of [h0,h1,h2,h3,h4,h5,h6,h7]).rounds cy (fT b) 64=s;simp only[E4,C1,wx,seval];refine bQ (C2 [h0,h1,h2,h3,h4,h5,h6,h7] s) (fun n=>8-n) (fun n=>n≤8) 0 (aoy _) ?_ ?_
    ·refine aV id ?_ ?_ rfl rfl <;> simp only[wx,aH,seval]
     ·rfl
     ·rfl
    ·have e8:s.sum [h0,h1,h2,h3,h4,h5,h6,h7]=[bZ h0 s.a,bZ h1 s.b,bZ h2 s.c,bZ h3 s.d,bZ h4 s.e,bZ h5 s.f,bZ h6 s.g,bZ h7 s.h]:=rfl;intro n hn;have hc:n=8∨n=0∨n=1∨n=2∨n=3∨n=4∨n=5∨n=6∨n=7:=by omega
     rcases hc with rfl | rfl | rfl | rfl | rfl | rfl | rfl | rfl | rfl
     ·simp only[E5,C2,sumTo,e8,cF.list,wx,aa,seval];exact qo (by simp only[wx,seval])
     all_goals
       simp only[E5,C2,sumTo,e8,cF.list,wx,wy,aa,seval,toNatUp]
       first | refine bA 1 (by decide) (by decide) ?_ | refine bA 2 (by decide) (by decide) ?_ | refine bA 3 (by decide) (by decide) ?_ | refine bA 4 (by decide) (by decide) ?_ | refine bA 5 (by decide) (by decide) ?_ | refine bA 6 (by decide) (by decide) ?_ | refine bA 7 (by decide) (by decide) ?_ | refine bA 8 (by decide) (by decide) ?_
       refine aV id ?_ ?_ rfl rfl <;> simp only[wx,aH,seval,sumTo,e8,cF.list] <;> rfl
theorem aaf {l:List UInt8} {i:Nat} (h:i<l.length):l[i]?=some (l.getD i 0):=by simp[h]
def Jf (h k:List UInt32) (b:List UInt8) (t:Nat):St:=⟨bz [(0,.w (.c (.d (.sl (h.map wD))))),(1,.w (.c (.d (.sl (k.map wD))))),(2,.w (.c (.d (.sl (b.map bD))))),(7,.w (.c (.pa 1 1))),(8,.w (.c (.d (.int .i64 (t:Int)))))],
  hL [(1,.row 1 ((jd b t++List.replicate (64-t) 0).map wD))],uL [1]⟩
def Jg (h k:List UInt32) (b:List UInt8) (n:Nat):St:=⟨bz [(0,.w (.c (.d (.sl (h.map wD))))),(1,.w (.c (.d (.sl (k.map wD))))),(7,.w (.c (.pa 1 1))),(9,.w (.c (.d (.int .i64 ((16+n:Nat):Int)))))],
  hL [(1,.row 1 ((dm b n++List.replicate (48-n) 0).map wD))],uL [1]⟩
def C3 (h:List UInt32) (b:List UInt8) (s:cF) (n:Nat):St:=⟨bz [(0,.w (.c (.d (.sl (h.map wD))))),(1,.w (.c (.d (.sl (cy.map wD))))),(7,.w (.c (.pa 1 1))),(12,.w (.c (.d (wD s.a)))),(13,.w (.c (.d (wD s.b)))),(14,.w (.c (.d (wD s.c)))),(15,.w (.c (.d (wD s.d)))),(16,.w (.c (.d (wD s.e)))),(17,.w (.c (.d (wD s.f)))),(18,.w (.c (.d (wD s.g)))),(19,.w (.c (.d (wD s.h)))),(20,.w (.c (.d (.int .i64 (n:Int)))))],
  hL [(1,.row 1 ((fT b).map wD))],uL [1]⟩
def y8 (h:List UInt32) (b:List UInt8) (n:Nat):St:=C3 h b ((cF.of h).rounds cy (fT b) n) n
def EM:bq := .seq (ae [oM 23 8,am .lss 24 23 16] (aw 24 .skip (.exit 0))) (.seq (.block 1 (.reg [oM 27 8,oM 28 2,oM 29 8,oO 30 (.bin .mul (kI 4) (.t 29)),bW 31 1 28 30,aA 32 31,oO 33 (.conv .u32 (.t 32)),oO 34 (.bin .shl (.t 33) (.k (.c (.d (.int .u64 24))))),oM 35 2,oM 36 8,oO 37 (.bin .mul (kI 4) (.t 36)),am .add 38 37 1,bW 39 1 35 38,aA 40 39,oO 41 (.conv .u32 (.t 40)),oO 42 (.bin .shl (.t 41) (.k (.c (.d (.int .u64 16))))),aU .or 43 34 42,oM 44 2,oM 45 8,oO 46 (.bin .mul (kI 4) (.t 45)),am .add 47 46 2,bW 48 1 44 47,aA 49 48,oO 50 (.conv .u32 (.t 49)),oO 51 (.bin .shl (.t 50) (.k (.c (.d (.int .u64 8))))),aU .or 52 43 51,oM 53 2,oM 54 8,oO 55 (.bin .mul (kI 4) (.t 54)),am .add 56 55 3,bW 57 1 53 56,aA 58 57,oO 59 (.conv .u32 (.t 58)),aU .or 60 52 59,oO 61 (.idxPa 1 64 (.t 7) (.t 27)),
 ei 61 60])) (.reg [oM 25 8,am .add 26 25 1,oM 8 26]))
def EO:bq := .seq (ae [oM 62 9,am .lss 63 62 64] (aw 63 .skip (.exit 2))) (.seq (.block 3 (ae [oM 66 9,am .sub 67 66 15,oO 68 (.idxPa 1 64 (.t 7) (.t 67)),aA 69 68,oM 70 9,am .sub 71 70 2,oO 72 (.idxPa 1 64 (.t 7) (.t 71)),aA 73 72,oM 10 69,oM 11 73] (.reg [oM 74 9,oM 75 11,oO 76 (.call 141 [(.t 75),(kI 17)] none),oM 77 11,oO 78 (.call 141 [(.t 77),(kI 19)] none),aU .xor 79 76 78,oM 80 11,oO 81 (.bin .shr (.t 80) (.k (.c (.d (.int .u64 10))))),aU .xor 82 79 81,oM 83 9,am .sub 84 83 7,oO 85 (.idxPa 1 64 (.t 7) (.t 84)),aA 86 85,aU .add 87 82 86,oM 88 10,oO 89 (.call 141 [(.t 88),(kI 7)] none),oM 90 10,oO 91 (.call 141 [(.t 90),(kI 18)] none),aU .xor 92 89 91,oM 93 10,oO 94 (.bin .shr (.t 93) (.k (.c (.d (.int .u64 3))))),aU .xor 95 92 94,aU .add 96 87 95,oM 97 9,
 am .sub 98 97 16,oO 99 (.idxPa 1 64 (.t 7) (.t 98)),aA 100 99,aU .add 101 96 100,oO 102 (.idxPa 1 64 (.t 7) (.t 74)),ei 102 101]))) (.reg [oM 64 9,am .add 65 64 1,oM 9 65]))
def EP:bq := .seq (ae [oM 127 20,am .lss 128 127 64] (aw 128 .skip (.exit 4))) (.seq (.block 5 (ae [oM 131 19,oM 132 16,oO 133 (.call 141 [(.t 132),(kI 6)] none),oM 134 16,oO 135 (.call 141 [(.t 134),(kI 11)] none),aU .xor 136 133 135,oM 137 16,oO 138 (.call 141 [(.t 137),(kI 25)] none),aU .xor 139 136 138,aU .add 140 131 139,oM 141 16,oM 142 17,aU .and 143 141 142,oM 144 16,oO 145 (.un .xor (.t 144)),oM 146 18,aU .and 147 145 146,aU .xor 148 143 147,aU .add 149 140 148,oM 150 1,oM 151 20,bW 152 1 150 151,aA 153 152,aU .add 154 149 153,oM 155 20,oO 156 (.idxPa 1 64 (.t 7) (.t 155)),aA 157 156,aU .add 158 154 157,oM 21 158] (ae [oM 159 12,oO 160 (.call 141 [(.t 159),(kI 2)] none),oM 161 12,oO 162 (.call 141 [(.t 161),(kI 13)] none),aU .xor 163 160 162,oM 164 12,
 oO 165 (.call 141 [(.t 164),(kI 22)] none),aU .xor 166 163 165,oM 167 12,oM 168 13,aU .and 169 167 168,oM 170 12,oM 171 14,aU .and 172 170 171,aU .xor 173 169 172,oM 174 13,oM 175 14,aU .and 176 174 175,aU .xor 177 173 176,aU .add 178 166 177,oM 22 178] (.reg [oM 179 21,oM 180 22,aU .add 181 179 180,oM 182 12,oM 183 13,oM 184 14,oM 185 15,oM 186 21,aU .add 187 185 186,oM 188 16,oM 189 17,oM 190 18,oM 12 181,oM 13 182,oM 14 183,oM 15 184,oM 16 187,oM 17 188,oM 18 189,oM 19 190])))) (.reg [oM 129 20,am .add 130 129 1,oM 20 130]))
def MV:aK:=⟨3,232,ae [aM 6] (ae [oO 7 (.allocArr [ar,ar,ar,ar,ar,ar,ar,ar,ar,ar,ar,ar,ar,ar,ar,ar,ar,ar,ar,ar,ar,ar,ar,ar,ar,ar,ar,ar,ar,ar,ar,ar,ar,ar,ar,ar,ar,ar,ar,ar,ar,ar,ar,ar,ar,ar,ar,ar,ar,ar,ar,ar,ar,ar,ar,ar,ar,ar,ar,ar,ar,ar,ar,ar])] (.seq (ae [ak 8 0] (.block 0 (.loop EM))) (.seq (ae [ak 9 16] (.block 2 (.loop EO))) (ae [oM 103 0,oO 104 (.idxSl 1 (.t 103) (kI 0)),aA 105 104,oM 106 0,oO 107 (.idxSl 1 (.t 106) (kI 1)),aA 108 107,oM 109 0,oO 110 (.idxSl 1 (.t 109) (kI 2)),aA 111 110,oM 112 0,oO 113 (.idxSl 1 (.t 112) (kI 3)),aA 114 113,oM 115 0,oO 116 (.idxSl 1 (.t 115) (kI 4)),aA 117 116,oM 118 0,oO 119 (.idxSl 1 (.t 118) (kI 5)),aA 120 119,oM 121 0,oO 122 (.idxSl 1 (.t 121) (kI 6)),
 aA 123 122,oM 124 0,oO 125 (.idxSl 1 (.t 124) (kI 7)),aA 126 125,oM 12 105,oM 13 108,oM 14 111,oM 15 114,oM 16 117,oM 17 120,oM 18 123,oM 19 126] (.seq (ae [ak 20 0] (.block 4 (.loop EP))) (ae [oM 191 0,oO 192 (.idxSl 1 (.t 191) (kI 0)),aA 193 192,oM 194 12,aU .add 195 193 194,oM 196 0,oO 197 (.idxSl 1 (.t 196) (kI 1)),aA 198 197,oM 199 13,aU .add 200 198 199,oM 201 0,oO 202 (.idxSl 1 (.t 201) (kI 2)),aA 203 202,oM 204 14,aU .add 205 203 204,oM 206 0,oO 207 (.idxSl 1 (.t 206) (kI 3)),aA 208 207,oM 209 15,aU .add 210 208 209,oM 211 0,oO 212 (.idxSl 1 (.t 211) (kI 4)),aA 213 212,oM 214 16,aU .add 215 213 214,oM 216 0,oO 217 (.idxSl 1 (.t 216) (kI 5)),aA 218 217,oM 219 17,aU .add 220 218 219,oM 221 0,oO 222 (.idxSl 1 (.t 221) (kI 6)),aA 223 222,oM 224 18,aU .add 225 223 224,
 oM 226 0,oO 227 (.idxSl 1 (.t 226) (kI 7)),aA 228 227,oM 229 19,aU .add 230 228 229,oO 231 (.bldSl true 8 1 ar [(0,(.t 195)),(1,(.t 200)),(2,(.t 205)),(3,(.t 210)),(4,(.t 215)),(5,(.t 220)),(6,(.t 225)),(7,(.t 230))]),oM 6 231] .ret)))))),[(6,none)]⟩
theorem abt:aI Tryz.prog { own:=[231] } Tryz.f99=some MV:=by kernel_rfl
theorem PG (G:au) (h:List UInt32) (b:List UInt8) (hh:h.length=8) (hb:b.length=64):aF Tryz.prog G 99 [.sl (h.map wD),.sl (cy.map wD),.sl (b.map bD)] (.w (.c (.fr 1 ((mV h b).map wD)))):=by
  refine aT Tryz.func99 abt rfl rfl ?_;have hsl:(fT b).length=64:=ut b 48;have hcl:cy.length=64:=xr;simp only[MV,ai,wx,seval];refine bQ (Jf h cy b) (fun t=>16-t) (fun t=>t≤16) 0 (aoy _) ?_ ?_
  ·refine aV (fun _=>56) ?_ ?_ rfl rfl <;> simp only[wx,aH,seval];rfl
  ·intro t ht;by_cases hlt:t<16
   ·have e0:IntKind.i64.wrap (4*(t:Int))=((4*t:Nat):Int):=by rw[IntWalk.i64_in _ (by omega)]; omega
    have e1:IntKind.i64.wrap (((4*t:Nat):Int)+1)=((4*t+1:Nat):Int):=by rw[IntWalk.i64_in _ (by omega)]; omega
    have e2:IntKind.i64.wrap (((4*t:Nat):Int)+2)=((4*t+2:Nat):Int):=by rw[IntWalk.i64_in _ (by omega)]; omega
    have e3:IntKind.i64.wrap (((4*t:Nat):Int)+3)=((4*t+3:Nat):Int):=by rw[IntWalk.i64_in _ (by omega)]; omega
    have e4:IntKind.i64.wrap ((t:Int)+1)=((t+1:Nat):Int):=by rw[IntWalk.i64_in _ (by omega)]; omega
    have g:∀ k,k<64→(b.map bD)[k]?=some (bD (b.getD k 0)):=fun k hk=>by rw[ba,aaf (by omega)]; rfl
    have g0:=g (4*t) (by omega);have g1:=g (4*t+1) (by omega);have g2:=g (4*t+2) (by omega);have g3:=g (4*t+3) (by omega);have h1:t<(jd b t++List.replicate (64-t) 0).length:=by rw[aoq,xo,aoR]; omega
    have h2:=xJ (jd b t) 0 (cZ b t) (64-t) (by omega);rw[xo] at h2;have h3:jd b t++[cZ b t]=jd b (t+1):=by simp[jd,apv]
    have h4:64-t-1=64-(t+1):=by omega
    rw[h3,h4] at h2;simp only[cZ] at h2;have m24:min (24:Int).toNat 32=24:=by decide
    have m16:min (16:Int).toNat 32=16:=by decide
    have m8:min (8:Int).toNat 32=8:=by decide
    simp only[EM,Jf,wx,aa,seval,iteOmega,toNatUp,e0,e1,e2,e3,e4,g0,g1,g2,g3,aph,BW h1 (vQ _),BX,h2];refine bA (t+1) (by omega) (by omega) (aV id ?_ ?_ rfl rfl) <;> simp only[wx,aH,seval]
   ·obtain rfl:t=16:=by omega
    simp only[EM,Jf,wx,seval];refine bQ (Jg h cy b) (fun n=>48-n) (fun n=>n≤48) 0 (aoy _) ?_ ?_
    ·have h0:jd b 16=dm b 0:=rfl;refine aV id ?_ ?_ rfl rfl <;> simp only[wx,aH,seval,h0]
    ·intro n hn;by_cases hlt:n<48
     ·have hl:=ut b n;have w1:∀ k:Nat,k≤16→IntKind.i64.wrap (((16+n:Nat):Int)-(k:Int))=((16+n-k:Nat):Int):=fun k hk=>by rw[IntWalk.i64_in _ (by omega)]; omega
      have e15:IntKind.i64.wrap (((16+n:Nat):Int)-15)=((16+n-15:Nat):Int):=w1 15 (by decide);have e2:IntKind.i64.wrap (((16+n:Nat):Int)-2)=((16+n-2:Nat):Int):=w1 2 (by decide);have e7:IntKind.i64.wrap (((16+n:Nat):Int)-7)=((16+n-7:Nat):Int):=w1 7 (by decide);have e16:IntKind.i64.wrap (((16+n:Nat):Int)-16)=((16+n-16:Nat):Int):=w1 16 (by decide);have e0:IntKind.i64.wrap (((16+n:Nat):Int)+1)=((16+(n+1):Nat):Int):=by rw[IntWalk.i64_in _ (by omega)]; omega
      have g:∀ k,k<16+n→((dm b n++List.replicate (48-n) 0).map wD)[k]?=some (wD ((dm b n).getD k 0)):=fun k hk=>by
        rw[apk,Vy (by omega)]; rfl
      have g15:=g (16+n-15) (by omega);have g2:=g (16+n-2) (by omega);have g7:=g (16+n-7) (by omega);have g16:=g (16+n-16) (by omega);simp only[EO,Jg,wx,seval,iteOmega,toNatUp,e15,e2,g15,g2];refine bK (oL G _ 17 (by decide) (by decide)) rfl (.inr rfl) ?_;simp only[wx,seval];refine bK (oL G _ 19 (by decide) (by decide)) rfl (.inr rfl) ?_;simp only[wx,seval,iteOmega,toNatUp,e7,g7];refine bK (oL G _ 7 (by decide) (by decide)) rfl (.inr rfl) ?_;simp only[wx,seval];refine bK (oL G _ 18 (by decide) (by decide)) rfl (.inr rfl) ?_;have h1:16+n<(dm b n++List.replicate (48-n) 0).length:=by rw[aoq,hl,aoR]; omega
      have h2:=xJ (dm b n) 0 (pg (dm b n) (16+n)) (48-n) (by omega);rw[hl] at h2;have h4:48-n-1=48-(n+1):=by omega
      have h3:dm b n++[pg (dm b n) (16+n)]=dm b (n+1):=rfl;rw[h3,h4] at h2;simp only[pg,oY,oZ] at h2;simp only[wx,aa,seval,iteOmega,toNatUp,e16,e0,g16,BW h1 (vQ _),BX,h2];refine bA (n+1) (by omega) (by omega) (aV id ?_ ?_ rfl rfl) <;> simp only[wx,aH,seval]
     ·have hn48:n=48:=by omega
      have h0:48-n=0:=by omega
      obtain⟨h0',h1,h2,h3,h4,h5,h6,h7,rfl⟩:=eight hh;simp only[EO,Jg,wx,seval,iteOmega,toNatUp,h0,apD,← PD b n hn48];refine bQ (y8 [h0',h1,h2,h3,h4,h5,h6,h7] b) (fun n=>64-n) (fun n=>n≤64) 0 (aoy _) ?_ ?_
      ·refine aV id ?_ ?_ rfl rfl <;> simp only[wx,aH,seval];exact⟨rfl,rfl,rfl,rfl,rfl,rfl,rfl,rfl⟩
      ·clear hn hlt hn48 h0;intro n hn;by_cases hlt:n<64
       ·have e1:IntKind.i64.wrap ((n:Int)+1)=((n+1:Nat):Int):=by rw[IntWalk.i64_in _ (by omega)]; rfl
        have g1:(cy.map wD)[n]?=some (wD (cy.getD n 0)):=by rw[ba,getD_some (by omega)]; rfl
        have g2:((fT b).map wD)[n]?=some (wD ((fT b).getD n 0)):=by rw[ba,getD_some (by omega)]; rfl
        have hr:(cF.of [h0',h1,h2,h3,h4,h5,h6,h7]).rounds cy (fT b) (n+1)=((cF.of [h0',h1,h2,h3,h4,h5,h6,h7]).rounds cy (fT b) n).step (cy.getD n 0) ((fT b).getD n 0):=rfl;generalize hs:(cF.of [h0',h1,h2,h3,h4,h5,h6,h7]).rounds cy (fT b) n=s at hr;simp only[EP,y8,C3,hs,wx,seval,iteOmega];refine bK (oL G _ 6 (by decide) (by decide)) rfl (.inr rfl) ?_;simp only[wx,seval];refine bK (oL G _ 11 (by decide) (by decide)) rfl (.inr rfl) ?_;simp only[wx,seval];refine bK (oL G _ 25 (by decide) (by decide)) rfl (.inr rfl) ?_;simp only[wx,seval,iteOmega,toNatUp,g1,g2,hcl];refine bK (oL G _ 2 (by decide) (by decide)) rfl (.inr rfl) ?_;simp only[wx,seval];refine bK (oL G _ 13 (by decide) (by decide)) rfl (.inr rfl) ?_;simp only[wx,seval];refine bK (oL G _ 22 (by decide) (by decide)) rfl (.inr rfl) ?_;simp only[wx,seval,e1];refine bA (n+1) (by omega) (by omega) ?_;rw[y8,hr];refine (aV id ?_ ?_ rfl rfl) <;> simp only[wx,aH,seval,Vz,VA,VB,VC,VD,VE,VF,VG];exact⟨rfl,rfl⟩
       ·obtain rfl:n=64:=by omega
        have hK:mV [h0',h1,h2,h3,h4,h5,h6,h7] b=((cF.of [h0',h1,h2,h3,h4,h5,h6,h7]).rounds cy (fT b) 64).sum [h0',h1,h2,h3,h4,h5,h6,h7]:=rfl;rw[hK];simp only[y8];generalize (cF.of [h0',h1,h2,h3,h4,h5,h6,h7]).rounds cy (fT b) 64=s;have e8:s.sum [h0',h1,h2,h3,h4,h5,h6,h7]=[bZ h0' s.a,bZ h1 s.b,bZ h2 s.c,bZ h3 s.d,bZ h4 s.e,bZ h5 s.f,bZ h6 s.g,bZ h7 s.h]:=rfl;simp only[EP,C3,e8,wx,seval,toNatUp];exact iP (id:=1848) (n:=8) (s:=1) (by simp only[wx,seval]) (by simp only[wx,seval] <;> rfl) rfl
def d9 (h:List UInt32) (b:List UInt8):Nat→List UInt32
  | 0=>h
  | n+1=>mV (d9 h b n) ((b.drop (64*n)).take 64)
theorem sS {h:List UInt32} (hh:h.length=8) (b:List UInt8):∀ n,(d9 h b n).length=8
  | 0=>hh
  | n+1=>zP _ _
def iq (rest:List UInt8) (count:Nat):List UInt8:=rest++[128]++List.replicate ((119-rest.length)%64) 0++aC (count*8) 8
def ig (ws:List UInt32):List UInt8:=ws.flatMap fun w=>aC w.toNat 4
def oe (s:List UInt32) (rest:List UInt8) (count:Nat):List UInt8:=ig (d9 s (iq rest count) ((iq rest count).length / 64))
def dM (b:List UInt8):List UInt8:=oe (d9 dW b (b.length / 64)) (b.drop (64*(b.length / 64))) b.length
theorem zQ:∀ ws:List UInt32,(ig ws).length=4*ws.length
  | []=>rfl
  | w::ws=>by
    have:ig (w::ws)=aC w.toNat 4++ig ws:=rfl;rw[this,aoq,bO,zQ ws,apj]; omega
theorem adh {s:List UInt32} (hs:s.length=8) (rest:List UInt8) (count:Nat):(oe s rest count).length=32:=by
  unfold oe;rw[zQ,sS hs]
theorem kR (b:List UInt8):(dM b).length=32:=adh (sS xq _ _) _ _
theorem abu (n:Nat):aC 0 n=List.replicate n 0:=by
  unfold aC;apply apF;intro i;simp only[apk,List.getElem?_replicate];by_cases h:i<n
  ·simp[h]
  ·simp[h]
theorem PH (rest:List UInt8) (count:Nat) (h:rest.length<64):(iq rest count).length=rest.length+9+(119-rest.length)%64∧(iq rest count).length%64=0:=by
  have:(iq rest count).length=rest.length+9+(119-rest.length)%64:=by simp[iq,bO]; omega
  exact⟨this,by omega⟩
theorem Lc (ws:List UInt32) (k:Nat) (h:k<ws.length):ig (ws.take k)++aC (ws.getD k 0).toNat 4=ig (ws.take (k+1)):=by
  rw[apr h];unfold ig;rw[apY];simp[h]
theorem abv {ws:List UInt32} {k:Nat} (h:k<ws.length):((ws.map wD).map C.d)[k]?=some (.d (wD (ws.getD k 0))):=by
  simp[h]
theorem Zt (b:List UInt8) (n:Nat):(b.drop (64*n)).drop 64=b.drop (64*(n+1)):=by rw[ap8,Nat.mul_succ]
def C4 (s:List UInt32) (b:List UInt8) (n:Nat):St:=⟨bz [(1,.w (.c (.d (.sl ((b.drop (64*n)).map bD))))),(2,.w (.c (.pa 1 1))),(4,.w (.c (.pa 2 1))),(5,.w (.c .nil))],hL [(1,.row 1 ((d9 s b n).map wD)),(2,.row 1 ((List.replicate 8 (0:UInt32)).map wD))],uL [1,2]⟩
def EQ:bq := .seq (ae [oM 6 1,bc 7 6,am .geq 8 7 64] (aw 8 .skip (.exit 0))) (.block 1 (ae [bn 9 8 2,oM 10 1,oO 11 (.slice 1 (.t 10) none (some (kI 64)) none),cd 12 177 9 11,aS 8 2 12] (.reg [oM 13 1,oO 14 (.slice 1 (.t 13) (some (kI 64)) none none),oM 1 14])))
def MW:aK:=⟨2,17,ae [oO 2 (.box .ownArr (.t 0)),oO 4 (.allocArr [ar,ar,ar,ar,ar,ar,ar,ar]),aM 5] (.seq (.block 0 (.loop EQ)) (ae [bn 15 8 2,oM 16 1,aS 8 4 15,oM 5 16] .ret)),[(4,(some (.ag 8))),(5,none)]⟩
theorem abw:aI Tryz.prog { own:=[2] } Tryz.f167=some MW:=by kernel_rfl
theorem PI (G:au) (hG:G.at 1=some (.ra (cy.map wD))) (s:List UInt32) (b:List UInt8) (hs:s.length=8) (hb:b.length≤140737488355328):aF Tryz.prog G 167 [.agg (s.map wD),.sl (b.map bD)] (.tup [.c (.d (.agg ((d9 s b (b.length / 64)).map wD))),.c (.d (.sl ((b.drop (64*(b.length / 64))).map bD)))]):=by
  refine aT Tryz.func167 abw rfl rfl ?_;simp only[MW,ai,wx,seval];refine bQ (C4 s b) (fun n=>b.length / 64-n) (fun n=>n≤b.length / 64) 0 (aoy _) ?_ ?_
  ·refine aV (fun i=>match i with | 1=>16 | _=>32) ?_ ?_ rfl rfl <;> simp only[wx,aH,seval,d9];rfl
  ·intro n hn;have hl:=sS hs b n;by_cases hlt:n<b.length / 64
   ·have h1:(64:Int)≤((b.drop (64*n)).length:Int):=by rw[aoB]; omega
    have h2:((b.drop (64*n)).take 64).length=64:=by rw[aow,aoB]; omega
    have e1:=Zt b n;simp only[EQ,C4,wx,seval,iteOmega,toNatUp,hl,h1];refine bK (afu G hG (d9 s b n) ((b.drop (64*n)).take 64) hl h2) rfl (.inl rfl) ?_;have e2:(mV (d9 s b n) ((b.drop (64*n)).take 64)).length=8:=zP _ _;have e3:(b.drop (64*n)).length-64=((b.drop (64*(n+1)))).length:=by rw[aoB,aoB]; omega
    simp only[wx,aa,seval,iteOmega,toNatUp,hl,e2,e1,e3];refine bA (n+1) (by omega) (by omega) (aV id ?_ ?_ rfl rfl) <;> simp only[wx,aH,seval,d9]
   ·obtain rfl:n=b.length / 64:=by omega
    have h1:¬ (64:Int)≤((b.drop (64*(b.length / 64))).length:Int):=by rw[aoB]; omega
    simp only[EQ,C4,wx,aa,seval,hl,h1];exact eW (by simp only[wx,seval,hl]) (by simp only[wx,seval])
def Jh (ws:List UInt32) (k:Nat):St:=⟨bz [(9,.w (.c (.own 1 1 0 (ig (ws.take k)).length))),(36,.w (.c (.d (.agg (ws.map wD))))),(37,.w (.c (.d (.int .i64 (k:Int)))))],hL [(1,.row 1 ((ig (ws.take k)).map bD))],uL [1]⟩
def Ge:bq := ae [am .lss 38 37 8] (.seq (aw 38 .skip (.exit 0)) (.seq (.block 1 (ae [oO 39 (.idxArr 1 8 .sc (.t 36) (.t 37)),oM 11 39] (.reg [oM 40 9,oM 41 11,oO 42 (.conv .u64 (.t 41)),oO 43 (.call 76 [(.t 42),(kI 4)] none),oO 44 (.app false 1 1 (.t 40) (.t 43)),oM 9 44]))) (.reg [am .add 45 37 1,oM 37 45])))
def VH:aK:=⟨3,47,ae [oO 3 (.box .ownArr (.t 0)),aM 6] (ae [oO 12 (.bldSl false 1 1 aj [(0,(.k (.c (.d (.int .u8 128)))))]),oM 7 12] (ae [oM 13 7,bc 14 13,oO 15 (.bin .sub (kI 120) (.t 14)),oM 16 1,bc 17 16,aU .sub 18 15 17,am .rem 19 18 64,oM 8 19] (ae [bn 21 8 3,oM 22 1,oM 23 7,oM 24 8,oO 25 (.call 76 [(.k (.c aQ)),(.t 24)] none),oM 26 2,oO 27 (.conv .u64 (.t 26)),oO 28 (.bin .mul (.t 27) (.k (.c (.d (.int .u64 8))))),oO 29 (.call 76 [(.t 28),(kI 8)] none),oO 30 (.bldSl false 4 1 (.sl []) [(0,(.t 22)),(1,(.t 23)),(2,(.t 25)),(3,(.t 29))]),aW 31 44 30,cd 32 167 21 31,oM 20 32,aB 33 20 0,aB 34 20 1,aS 8 3 33] (ae [oO 35 (.make true 1 1 aj (kI 0) (kI 32)),oM 9 35] (.seq (ae [bn 36 8 3,ak 37 0] (.block 0 (.loop Ge))) (ae [oM 46 9,oM 6 46] .ret)))))),[(6,none)]⟩
theorem ai4:aI Tryz.prog { own:=[3] } Tryz.f168=some VH:=by kernel_rfl
theorem amn (G:au) (hG:G.at 1=some (.ra (cy.map wD))) (s:List UInt32) (rest:List UInt8) (count:Nat) (hs:s.length=8) (hr:rest.length<64) (hc:count≤140737488355328):aF Tryz.prog G 168 [.agg (s.map wD),.sl (rest.map bD),.int .i64 (count:Int)] (.w (.c (.fr 1 ((oe s rest count).map bD)))):=by
  refine aT Tryz.func168 ai4 rfl rfl ?_;have e3:(119-(rest.length:Int)).tmod 64=(((119-rest.length)%64:Nat):Int):=by
    rw[show (119-(rest.length:Int))=((119-rest.length:Nat):Int) by omega]; rfl
  simp only[VH,ai,af,seval,iteOmega,hs,e3];have hz:(119-rest.length)%64≤64:=by omega
  refine bK (rC G 0 ((119-rest.length)%64) hz) rfl (.inl rfl) ?_;simp only[af,seval,iteOmega];refine bK (rC G (count*8) 8 (by decide)) ?_ (.inl rfl) ?_
  ·simp only[af,seval]
  obtain⟨hp1,hp2⟩:=PH rest count hr;have hp:[rest,[128],aC 0 ((119-rest.length)%64),aC (count*8) 8].flatten=iq rest count:=by
    rw[abu]; simp[iq]
  have hj:=dV G [rest,[128],aC 0 ((119-rest.length)%64),aC (count*8) 8] (by simp) (by rw[hp,hp1]; omega);rw[hp] at hj;simp only[af,seval];refine bK hj rfl (.inl rfl) ?_;simp only[af,seval];refine bK (PI G hG s (iq rest count) hs (by rw[hp1]; omega)) rfl (.inl rfl) ?_;have hw:(d9 s (iq rest count) ((iq rest count).length / 64)).length=8:=sS hs _ _;have hf:oe s rest count=ig (d9 s (iq rest count) ((iq rest count).length / 64)):=rfl;rw[hf];generalize d9 s (iq rest count) ((iq rest count).length / 64)=ws at hw;simp only[af,aa,seval,toNatUp,hs,hw];refine bQ (Jh ws) (fun k=>8-k) (fun k=>k≤8) 0 (aoy _) ?_ ?_
  ·refine aV (fun _=>280) ?_ ?_ rfl rfl <;> simp only[wx,aH,seval,ig]
  ·intro k hk;by_cases hlt:k<8
   ·have hw1:(ws.getD k 0).toNat<4294967296:=word_lt _;have hwl:=zQ (ws.take k);rw[aow] at hwl;simp only[Ge,Jh,af,seval,iteOmega,toNatUp,abv (show k<ws.length by omega)];refine bK (rC G (ws.getD k 0).toNat 4 (by decide)) ?_ (.inl rfl) ?_
    ·simp only[af,seval]
    simp only[af,seval,iteOmega,cG,Lc ws k (by omega),bO];refine bA (k+1) (by omega) (by omega) (aV (fun _=>352) ?_ ?_ rfl rfl) <;> simp only[wx,aH,aY,seval]
   ·obtain rfl:k=8:=by omega
    have:ws.take 8=ws:=aot (by omega);simp only[Ge,Jh,af,seval,this];exact iP (id:=1) (n:=(ig ws).length) (s:=1) (by simp only[wx,seval]) (by simp only[wx,seval]) (by rw[aox])
def VI:aK:=⟨1,16,ae [aM 2] (ae [oO 6 (.load (.ag 8) (.g 0)),oM 7 0,cd 8 167 6 7,oM 5 8,aB 9 5 0,aB 10 5 1,oO 3 (.allocArr [ar,ar,ar,ar,ar,ar,ar,ar]),aS 8 3 9,oM 4 10] (ae [bn 11 8 3,oM 12 4,oM 13 0,bc 14 13,oO 15 (.call 168 [(.t 11),(.t 12),(.t 14)] (some (0,1))),oM 2 15] .ret)),[(2,none)]⟩
theorem ai5:aI Tryz.prog { own:=[15] } Tryz.f149=some VI:=by kernel_rfl
theorem C5 (G:au) (hF:G.at 0=some (.ra (dW.map wD))) (hG:G.at 1=some (.ra (cy.map wD))) (b:List UInt8) (hb:b.length≤140737488355328):aF Tryz.prog G 149 [.sl (b.map bD)] (.w (.c (.fr 1 ((dM b).map bD)))):=by
  refine aT Tryz.func149 ai5 rfl rfl ?_;have eg:=@Y5 G 0 _ hF;have hl:(d9 dW b (b.length / 64)).length=8:=sS xq _ _;have h8:dW.length=8:=xq;simp only[VI,ai,af,seval,eg,h8];refine bK (PI G hG dW b xq hb) rfl (.inl rfl) ?_;simp only[af,aa,seval,hl];refine bK (amn G hG _ (b.drop (64*(b.length / 64))) b.length hl (by rw[aoB]; omega) hb) ?_ (.inl rfl) ?_
  ·simp only[af,seval]
  simp only[af,seval];exact iP (id:=120) (n:=(oe (d9 dW b (b.length / 64)) (b.drop (64*(b.length / 64))) b.length).length) (s:=1) (by simp only[wx,seval]) (by simp only[wx,seval] <;> rfl) (by rw[aox]; rfl)
theorem adi {α:Type} (a:α) (j:Nat):List.replicate j a++[a]=List.replicate (j+1) a:=by rw[List.replicate_succ']
def Ji (h:List UInt32) (rest:List UInt8) (count:Nat) (j:Nat):St:=⟨bz [(0,.w (.c (.d (.sl (h.map wD))))),(2,.w (.c (.d (.int .i64 (count:Int))))),(7,.w (.c (.d (.sl (cy.map wD))))),(8,.w (.c (.own 1 1 0 (rest++[128]++List.replicate j 0).length)))],hL [(1,.row 1 ((rest++[128]++List.replicate j 0).map bD))],uL [1]⟩
def Jj (h:List UInt32) (p:List UInt8) (n:Nat):St:=⟨bz [(0,.w (.c (.d (.sl ((d9 h p n).map wD))))),(7,.w (.c (.d (.sl (cy.map wD))))),(8,.w (.c (.own 1 1 0 p.length))),(9,.w (.c (.d (.int .i64 ((64*n:Nat):Int)))))],hL [(1,.row 1 (p.map bD))],uL [1]⟩
def Jk (ws:List UInt32) (k:Nat):St:=⟨bz [(0,.w (.c (.d (.sl (ws.map wD))))),(10,.w (.c (.own 1 1 0 (ig (ws.take k)).length))),(11,.w (.c (.d (.int .i64 (k:Int)))))],hL [(1,.row 1 ((ig (ws.take k)).map bD))],uL [1]⟩
theorem ai6 {ws:List UInt32} {k:Nat} (h:k<ws.length):(ws.map wD)[k]?=some (wD (ws.getD k 0)):=by
  simp[h]
theorem amo:D.int .u8 0=bD 0:=rfl
theorem afv:D.int .u8 128=bD 128:=rfl
theorem XX (l:List UInt8) (a:UInt8):l.map bD++[bD a]=(l++[a]).map bD:=by simp
def FA:bq := .seq (ae [oM 18 8,bc 19 18,am .rem 20 19 64,am .neq 21 20 56] (aw 21 .skip (.exit 0))) (.block 1 (.reg [oM 22 8,oO 23 (.bldSl false 1 1 aj [(0,(.k (.c (.d aj))))]),oO 24 (.app false 1 1 (.t 22) (.t 23)),oM 8 24]))
def FB:bq := .seq (ae [oM 31 9,oM 32 8,bc 33 32,aU .lss 34 31 33] (aw 34 .skip (.exit 2))) (.seq (.block 3 (.reg [oM 37 0,oM 38 7,oM 39 8,oM 40 9,oM 41 9,am .add 42 41 64,oO 43 (.slice 1 (.t 39) (some (.t 40)) (some (.t 42)) none),fZ 44 99 37 38 43,oM 0 44])) (.reg [oM 35 9,am .add 36 35 64,oM 9 36]))
def FC:bq := .seq (ae [oM 46 11,am .lss 47 46 8] (aw 47 .skip (.exit 4))) (.seq (.block 5 (.reg [oM 50 10,oM 51 0,oM 52 11,bW 53 1 51 52,aA 54 53,oO 55 (.conv .u64 (.t 54)),oO 56 (.call 46 [(.t 55),(kI 4)] none),oO 57 (.app false 1 1 (.t 50) (.t 56)),oM 10 57])) (.reg [oM 48 11,am .add 49 48 1,oM 11 49]))
def Sl:aK:=⟨3,59,ae [aM 6] (ae [oO 12 (.call 98 [] none),oM 7 12] (ae [oM 13 1,oO 14 (.bldSl false 1 1 (.sl []) [(0,(.t 13))]),oO 15 (.call 23 [(.t 14)] (some (0,1))),oO 16 (.bldSl false 1 1 aj [(0,(.k (.c (.d (.int .u8 128)))))]),oO 17 (.app false 1 1 (.t 15) (.t 16)),oM 8 17] (.seq (.block 0 (.loop FA)) (ae [oM 25 8,oM 26 2,oO 27 (.conv .u64 (.t 26)),oO 28 (.bin .mul (.t 27) (.k (.c (.d (.int .u64 8))))),oO 29 (.call 46 [(.t 28),(kI 8)] none),oO 30 (.app false 1 1 (.t 25) (.t 29)),oM 8 30] (.seq (ae [ak 9 0] (.block 2 (.loop FB))) (ae [oO 45 (.bldSl true 0 1 aj []),oM 10 45] (.seq (ae [ak 11 0] (.block 4 (.loop FC))) (ae [oM 58 10,oM 6 58] .ret)))))))),[(6,none)]⟩
theorem afw:aI Tryz.prog { own:=[15,45] } Tryz.f100=some Sl:=by kernel_rfl
theorem ai7 (G:au) (s:List UInt32) (rest:List UInt8) (count:Nat) (hs:s.length=8) (hr:rest.length<64) (hc:count≤140737488355328):aF Tryz.prog G 100 [.sl (s.map wD),.sl (rest.map bD),.int .i64 (count:Int)] (.w (.c (.fr 1 ((oe s rest count).map bD)))):=by
  refine aT Tryz.func100 afw rfl rfl ?_;have hj:=uW G [rest] (by simp) (by simp; omega);have hf:[rest].flatten=rest:=by simp
  rw[hf] at hj;obtain⟨hp1,hp2⟩:=PH rest count hr;simp only[Sl,ai,af,seval];refine bK (Vx G) rfl (.inl rfl) ?_;simp only[af,seval];refine bK hj rfl (.inl rfl) ?_;simp only[af,seval,iteOmega,cG,afv,XX];refine bQ (Ji s rest count) (fun j=>(119-rest.length)%64-j) (fun j=>j≤(119-rest.length)%64) 0 (aoy _) ?_ ?_
  ·refine aV (fun _=>136) ?_ ?_ rfl rfl <;> simp only[wx,aH,seval]
  ·intro j hj;have hl:(rest++[128]++List.replicate j 0).length=rest.length+1+j:=by simp; omega
   have ht:((rest++[128]++List.replicate j 0).length:Int).tmod 64=(((rest.length+1+j)%64:Nat):Int):=by rw[hl]; rfl
   by_cases hlt:j<(119-rest.length)%64
   ·have e1:rest++[128]++List.replicate j 0++[0]=rest++[128]++List.replicate (j+1) 0:=by
      rw[aoC,adi]
    generalize hx:rest++[128]++List.replicate j 0=x at *
    simp only[FA,Ji,hx,af,seval,iteOmega,ht,cG,amo,XX,e1];refine bA (j+1) (by omega) (by omega) (aV (fun _=>192) ?_ ?_ rfl rfl) <;> simp only[wx,aH,seval]
   ·obtain rfl:j=(119-rest.length)%64:=by omega
    generalize hx:rest++[128]++List.replicate ((119-rest.length)%64) 0=x at *
    simp only[FA,Ji,hx,af,seval,iteOmega,ht];refine bK (A6 G (count*8) 8 (by decide)) ?_ (.inl rfl) ?_
    ·simp only[af,seval]
    have hx2:x++aC (count*8) 8=iq rest count:=by rw[← hx]; rfl
    simp only[af,seval,iteOmega,cG,hx2,bO];refine bQ (Jj s (iq rest count)) (fun n=>(iq rest count).length / 64-n) (fun n=>n≤(iq rest count).length / 64) 0 (aoy _) ?_ ?_
    ·refine aV (fun _=>240) ?_ ?_ rfl rfl <;> simp only[wx,aH,seval,d9]
    ·generalize hpk:iq rest count=p at *
     intro n hn;have hl8:=sS hs p n;by_cases hlt:n<p.length / 64
     ·have h2:((p.drop (64*n)).take 64).length=64:=by rw[aow,aoB]; omega
      have e1:64*n+64-64*n=64:=by omega
      simp only[FB,Jj,af,seval,iteOmega,toNatUp];refine bK (PG G (d9 s p n) ((p.drop (64*n)).take 64) hl8 h2) ?_ (.inr (an7 _ _)) ?_
      ·simp only[af,seval,iteOmega,fv,e1]
      simp only[af,seval,iteOmega];have e2:64*(n:Int)+64=64*((n:Int)+1):=by omega
      refine bA (n+1) (by omega) (by omega) (aV id ?_ ?_ rfl rfl) <;> simp only[wx,aH,aY,seval,d9,e2]
     ·obtain rfl:n=p.length / 64:=by omega
      have hfk:oe s rest count=ig (d9 s p (p.length / 64)):=by unfold oe; rw[hpk]
      rw[hfk];simp only[Jj];generalize d9 s p (p.length / 64)=ws at hl8;have h64:¬ ((64*(p.length / 64):Nat):Int)<(p.length:Int):=by omega
      simp only[FB,af,seval,iteOmega];refine bQ (Jk ws) (fun k=>8-k) (fun k=>k≤8) 0 (aoy _) ?_ ?_
      ·refine aV (fun _=>360) ?_ ?_ rfl rfl <;> simp only[wx,aH,seval,ig]
      ·intro k hk;by_cases hlt:k<8
       ·have hw1:(ws.getD k 0).toNat<4294967296:=word_lt _;have hwl:=zQ (ws.take k);rw[aow] at hwl;simp only[FC,Jk,af,seval,iteOmega,toNatUp,ai6 (show k<ws.length by omega)];refine bK (A6 G (ws.getD k 0).toNat 4 (by decide)) ?_ (.inl rfl) ?_
        ·simp only[af,seval]
        simp only[af,seval,iteOmega,cG,Lc ws k (by omega),bO];refine bA (k+1) (by omega) (by omega) (aV (fun _=>456) ?_ ?_ rfl rfl) <;> simp only[wx,aH,aY,seval]
       ·obtain rfl:k=8:=by omega
        have:ws.take 8=ws:=aot (by omega);simp only[FC,Jk,af,seval,this];exact iP (id:=1) (n:=(ig ws).length) (s:=1) (by simp only[wx,seval]) (by simp only[wx,seval]) (by rw[aox])
def Kj (b:List UInt8) (n:Nat):St:=⟨bz [(0,.w (.c (.d (.sl (b.map bD))))),(3,.w (.c (.d (.sl ((d9 dW b n).map wD))))),(4,.w (.c (.d (.sl (cy.map wD))))),(5,.w (.c (.d (.int .i64 ((64*(b.length / 64):Nat):Int))))),(6,.w (.c (.d (.int .i64 ((64*n:Nat):Int)))))],hL [],uL []⟩
def FD:bq := .seq (ae [oM 13 6,oM 14 5,aU .lss 15 13 14] (aw 15 .skip (.exit 0))) (.seq (.block 1 (.reg [oM 18 3,oM 19 4,oM 20 0,oM 21 6,oM 22 6,am .add 23 22 64,oO 24 (.slice 1 (.t 20) (some (.t 21)) (some (.t 23)) none),fZ 25 99 18 19 24,oM 3 25])) (.reg [oM 16 6,am .add 17 16 64,oM 6 17]))
def Sm:aK:=⟨1,33,ae [aM 2] (ae [oO 7 (.call 97 [] none),oO 8 (.call 98 [] none),oM 3 7,oM 4 8] (ae [oM 9 0,bc 10 9,am .quo 11 10 64,am .mul 12 11 64,oM 5 12] (.seq (ae [ak 6 0] (.block 0 (.loop FD))) (ae [oM 26 3,oM 27 0,oM 28 5,oO 29 (.slice 1 (.t 27) (some (.t 28)) none none),oM 30 0,bc 31 30,oO 32 (.call 100 [(.t 26),(.t 29),(.t 31)] (some (0,1))),oM 2 32] .ret)))),[(2,none)]⟩
theorem afx:aI Tryz.prog { own:=[32] } Tryz.f45=some Sm:=by kernel_rfl
theorem yd (G:au) (b:List UInt8) (hb:b.length≤140737488355328):aF Tryz.prog G 45 [.sl (b.map bD)] (.w (.c (.fr 1 ((dM b).map bD)))):=by
  refine aT Tryz.func45 afx rfl rfl ?_;have e1:(b.length:Int).tdiv 64=((b.length / 64:Nat):Int):=rfl;have e2:((b.length / 64:Nat):Int)*64=((64*(b.length / 64):Nat):Int):=by omega
  have e3:IntKind.i64.wrap ((64*(b.length / 64):Nat):Int)=((64*(b.length / 64):Nat):Int):=IntWalk.i64_in _ (by omega);have e4:IntKind.i64.wrap ((b.length / 64:Nat):Int)=((b.length / 64:Nat):Int):=IntWalk.i64_in _ (by omega);simp only[Sm,ai,wx,seval];refine bK (ai3 G) rfl (.inl rfl) ?_;simp only[wx,seval];refine bK (Vx G) rfl (.inl rfl) ?_;simp only[wx,seval,e1,e2,e3,e4];refine bQ (Kj b) (fun n=>b.length / 64-n) (fun n=>n≤b.length / 64) 0 (aoy _) ?_ ?_
  ·refine aV id ?_ ?_ rfl rfl <;> simp only[wx,aH,seval,d9]
  ·intro n hn;have hl8:=sS xq b n;by_cases hlt:n<b.length / 64
   ·have h2:((b.drop (64*n)).take 64).length=64:=by rw[aow,aoB]; omega
    have e1:64*n+64-64*n=64:=by omega
    have e5:IntKind.i64.wrap (((64*n:Nat):Int)+64)=((64*(n+1):Nat):Int):=by rw[IntWalk.i64_in _ (by omega)]; omega
    have e6:64*(n+1)-64*n=64:=by omega
    simp only[FD,Kj,wx,seval,iteOmega,toNatUp,e5,e6];refine bK (PG G (d9 dW b n) ((b.drop (64*n)).take 64) hl8 h2) ?_ (.inl rfl) ?_
    ·simp only[wx,seval]
    simp only[wx,seval,e5];refine bA (n+1) (by omega) (by omega) (aV id ?_ ?_ rfl rfl) <;> simp only[wx,aH,seval,d9]
   ·obtain rfl:n=b.length / 64:=by omega
    have e1:List.take (b.length-64*(b.length / 64)) (b.drop (64*(b.length / 64)))=b.drop (64*(b.length / 64)):=aot (by rw[aoB]; exact aoz _);simp only[FD,Kj,wx,seval,iteOmega,toNatUp,e1];refine bK (ai7 G (d9 dW b (b.length / 64)) (b.drop (64*(b.length / 64))) b.length hl8 (by rw[aoB]; omega) hb) ?_ (.inl rfl) ?_
    ·simp only[wx,seval]
    simp only[wx,seval];exact iP (id:=256) (n:=(oe (d9 dW b (b.length / 64)) (b.drop (64*(b.length / 64))) b.length).length) (s:=1) (by simp only[wx,seval]) (by simp only[wx,seval] <;> rfl) (by rw[aox]; rfl)

def lF (v m:Int):Int:=if m<1 then 0 else v%m
theorem EB (v m:Int) (h:1≤m):0≤lF v m∧lF v m<m:=by
  unfold lF;rw[if_neg (by omega)];exact⟨aqn _ (by omega),Int.emod_lt_of_pos _ (by omega)⟩
theorem adj {v m:Int} (hm:0<m) (h:v.tmod m<0):v.tmod m+m=v%m:=by
  have h1:=Int.emod_add_mul_ediv v m;have h2:=Int.tmod_add_mul_tdiv v m;have h3:=aqn v (show m≠0 by omega);have h4:=Int.emod_lt_of_pos v hm;have h5:=Int.lt_tmod_of_pos v hm;have e:m*(v.tdiv m-v / m)=v%m-v.tmod m:=by rw[Int.mul_sub]; omega
  have k1:v.tdiv m-v / m=1:=by
    rcases Int.lt_trichotomy (v.tdiv m-v / m) 1 with hlt | heq | hgt
    ·exfalso;have:v.tdiv m-v / m≤0:=by omega
     have:=aqr this (show 0≤m by omega);omega
    ·exact heq
    ·exfalso;have:2≤v.tdiv m-v / m:=by omega
     have:=aqr this (show 0≤m by omega);omega
  rw[k1] at e;omega
theorem adk {v m:Int} (hm:0<m) (h:0≤v.tmod m):v.tmod m=v%m:=by
  have h1:=Int.emod_add_mul_ediv v m;have h2:=Int.tmod_add_mul_tdiv v m;have h3:=aqn v (show m≠0 by omega);have h4:=Int.emod_lt_of_pos v hm;have h5:=Int.tmod_lt_of_pos v hm;have e:m*(v.tdiv m-v / m)=v%m-v.tmod m:=by rw[Int.mul_sub]; omega
  have k1:v.tdiv m-v / m=0:=by
    rcases Int.lt_trichotomy (v.tdiv m-v / m) 0 with hlt | heq | hgt
    ·exfalso;have:v.tdiv m-v / m ≤ -1:=by omega
     have:=aqr this (show 0≤m by omega);omega
    ·exact heq
    ·exfalso;have:1≤v.tdiv m-v / m:=by omega
     have:=aqr this (show 0≤m by omega);omega
  rw[k1] at e;omega
def z9:aK:=⟨2,16,ae [ak 4 0] (.seq (ae [oM 5 1,am .lss 6 5 1] (aw 6 (ae [ak 4 0] .ret) .skip)) (ae [oM 7 0,oM 8 1,aU .rem 9 7 8,oM 0 9] (.seq (ae [oM 10 0,am .lss 11 10 0] (aw 11 (.reg [oM 12 0,oM 13 1,aU .add 14 12 13,oM 0 14]) .skip)) (ae [oM 15 0,oM 4 15] .ret)))),[(4,none)]⟩
theorem abx:aI Tryz.prog {} Tryz.f8=some z9:=by kernel_rfl
theorem AB (G:au) (v m:Int) (hm:m≤9223372036854775807):aF Tryz.prog G 8 [.int .i64 v,.int .i64 m] (.w (.c (.d (.int .i64 (lF v m))))):=by
  refine aT Tryz.func8 abx rfl rfl ?_;unfold lF;by_cases h:m<1
  ·rw[if_pos h];simp only[z9,ai,af,seval,iteOmega];exact aZ
  ·rw[if_neg h];have hne:¬ m=0:=by omega
   have h4:=Int.tmod_lt_of_pos v (show 0<m by omega);by_cases hn:v.tmod m<0
   ·have e:=adj (by omega) hn;have h3:=Int.emod_lt_of_pos v (show 0<m by omega);have h5:=aqn v (show m≠0 by omega);simp only[z9,ai,af,seval,iteOmega,hne];exact td (by simp only[af,seval,e])
   ·have e:=adk (v:=v) (show 0<m by omega) (by omega);simp only[z9,ai,af,seval,iteOmega,hne];exact td (by simp only[af,seval,e])
def nV (s i:Nat):List UInt8:=dM (aC s 8++aC i 4)
def kn (s:Nat) (k:Nat):List UInt8:=((List.range k).map (nV s)).flatten
theorem Ld (s k:Nat):kn s k++nV s k=kn s (k+1):=by simp[kn,apv]
theorem zR (s:Nat):∀ k,(kn s k).length=32*k
  | 0=>rfl
  | k+1=>by rw[← Ld,aoq,zR s k]; unfold nV; rw[kR]; omega
def bd (seed n:Int):List UInt8:=(kn (seed%18446744073709551616).toNat ((n.toNat+31) / 32)).take n.toNat
theorem jE (seed n:Int):(bd seed n).length=n.toNat:=by
  unfold bd; rw[aow,zR]; omega
def C6 (seed n:Int) (s:Nat) (k:Nat):St:=⟨bz [(0,.w (.c (.d (.int .i64 seed)))),(1,.w (.c (.d (.int .i64 n)))),(5,.w (.c (.own 1 1 0 (kn s k).length))),(6,.w (.c (.d (.int .i64 (k:Int)))))],hL [(1,.row 1 ((kn s k).map bD))],uL [1]⟩
def zM:bq := .seq (ae [oM 8 5,bc 9 8,oM 10 1,aU .lss 11 9 10] (aw 11 .skip (.exit 0))) (.seq (.block 1 (.reg [oM 14 5,oM 15 0,oO 16 (.conv .u64 (.t 15)),oO 17 (.call 46 [(.t 16),(kI 8)] none),oM 18 6,oO 19 (.conv .u64 (.t 18)),oO 20 (.call 46 [(.t 19),(kI 4)] none),oO 21 (.bldSl false 2 1 (.sl []) [(0,(.t 17)),(1,(.t 20))]),aW 22 23 21,aW 23 45 22,oO 24 (.app false 1 1 (.t 14) (.t 23)),oM 5 24])) (.reg [oM 12 6,am .add 13 12 1,oM 6 13]))
def MX:aK:=⟨2,29,ae [aM 4] (ae [oO 7 (.bldSl true 0 1 aj []),oM 5 7] (.seq (ae [ak 6 0] (.block 0 (.loop zM))) (ae [oM 25 5,oM 26 1,oO 27 (.max [(.t 26),(kI 0)]),oO 28 (.slice 1 (.t 25) none (some (.t 27)) none),oM 4 28] .ret))),[(4,none)]⟩
theorem aby:aI Tryz.prog { own:=[7] } Tryz.f13=some MX:=by kernel_rfl
set_option maxHeartbeats 1600000 in
theorem adl (G:au) (seed n:Int) (hn:n≤1099511627776):aF Tryz.prog G 13 [.int .i64 seed,.int .i64 n] (.w (.c (.fr 1 ((bd seed n).map bD)))):=by
  refine aT Tryz.func13 aby rfl rfl ?_;obtain⟨s,hs⟩:∃ s:Nat,(seed%18446744073709551616).toNat=s:=⟨_,rfl⟩
  have hw:IntKind.u64.wrap seed=(s:Int):=by rw[IntKind.wrap_u64,← hs]; omega
  have hs2:s<18446744073709551616:=by omega
  have hK:bd seed n=(kn s ((n.toNat+31) / 32)).take n.toNat:=by unfold bd; rw[hs]
  rw[hK];simp only[MX,ai,af,seval];refine bQ (C6 seed n s) (fun k=>(n.toNat+31) / 32-k) (fun k=>k≤(n.toNat+31) / 32) 0 (aoy _) ?_ ?_
  ·refine aV (fun _=>56) ?_ ?_ rfl rfl <;> simp only[wx,aH,seval] <;> rfl
  ·intro k hk;have hl:=zR s k;by_cases hlt:k<(n.toNat+31) / 32
   ·have hc:((kn s k).length:Int)<n:=by omega
    have hj:=uW G [aC s 8,aC k 4] (by simp) (by simp[bO]);have hf:[aC s 8,aC k 4].flatten=aC s 8++aC k 4:=by simp
    rw[hf] at hj;have hb:=Ld s k;have hk2:IntKind.u64.wrap (k:Int)=(k:Int):=u64_in _ (by omega) (by omega);simp only[zM,C6,wx,seval,iteOmega,hw];refine bK (A6 G s 8 (by decide)) rfl (.inl rfl) ?_;simp only[wx,seval,hk2];refine bK (A6 G k 4 (by decide)) rfl (.inl rfl) ?_;simp only[wx,seval];refine bK hj rfl (.inl rfl) ?_;simp only[wx,seval];refine bK (yd G (aC s 8++aC k 4) (by simp[bO])) rfl (.inl rfl) ?_;have hh:(dM (aC s 8++aC k 4)).length=32:=kR _;have hb':kn s k++dM (aC s 8++aC k 4)=kn s (k+1):=hb;simp only[af,seval,iteOmega,cG,hb',hh];refine bA (k+1) (by omega) (by omega) (aV (fun _=>192) ?_ ?_ rfl rfl) <;> simp only[wx,aH,aY,seval]
   ·obtain rfl:k=(n.toNat+31) / 32:=by omega
    have hc:¬ ((kn s ((n.toNat+31) / 32)).length:Int)<n:=by omega
    by_cases h0:n<0
    ·have e0:n.toNat=0:=by omega
     simp only[zM,C6,af,seval,iteOmega,toNatUp,hc,apB,ap9];rw[e0,List.map_take];exact OV (id:=1) (s:=1) (by simp only[wx,seval]) (by simp only[wx,seval]) (aoy _)
    ·simp only[zM,C6,af,seval,iteOmega,hc,apB,ap9];rw[List.map_take];exact OV (id:=1) (s:=1) (by simp only[wx,seval]) (by simp only[wx,seval]) (by rw[aox,zR]; omega)
theorem oJ (G:au) (seed n:Int) (hn:n≤1099511627776):aF Tryz.prog G 13 [.int .i64 seed,.int .i64 n] (.w (.c (.d (.sl ((bd seed n).map bD))))):=qg (adl G seed n hn)
def tR (key:List UInt8):List UInt8:=if 64<key.length then dM key else key
def iE (k:List UInt8):List UInt8:=k++List.replicate (64-k.length) 0
def oh (key:List UInt8):List UInt8:=iE (tR key)
def dF (key:List UInt8) (x:UInt8):List UInt8:=(oh key).map fun b=>aX b x
def lS (key b:List UInt8):List UInt8:=dM (dF key 92++dM (dF key 54++b))
def gJ (key info:List UInt8):Nat→List UInt8
  | 0=>[]
  | i+1=>lS key (gJ key info i++info++[UInt8.ofNat (i+1)])
def k9 (key info:List UInt8):Nat→List UInt8
  | 0=>[]
  | i+1=>k9 key info i++gJ key info (i+1)
def lT (key info:List UInt8) (n:Nat):List UInt8:=(k9 key info ((n+31) / 32)).take n
def qL (p n c:List UInt8):List UInt8:=p++[0]++n++[0]++dM c
theorem adm (key:List UInt8):(tR key).length≤64:=by
  unfold tR; split
  ·rw[kR]; decide
  ·omega
theorem pT {k:List UInt8} (h:k.length≤64):(iE k).length=64:=by
  simp[iE]; omega
theorem PK (key:List UInt8):(oh key).length=64:=pT (adm key)
theorem re (key:List UInt8) (x:UInt8):(dF key x).length=64:=by
  rw[dF,aox,PK]
theorem uK (key b:List UInt8):(lS key b).length=32:=kR _
theorem MY (key info:List UInt8):∀ i,(gJ key info i).length≤32
  | 0=>by simp[gJ]
  | i+1=>by rw[gJ,uK]; exact aoz _
theorem uM (key info:List UInt8):∀ i,(k9 key info i).length=32*i
  | 0=>rfl
  | i+1=>by rw[k9,aoq,uM key info i,gJ,uK]; omega
theorem xK (key info:List UInt8) (n:Nat):(lT key info n).length=n:=by
  rw[lT,aow,uM]; omega
theorem adn (p n c:List UInt8):(qL p n c).length=p.length+n.length+34:=by
  simp[qL,kR]; omega
theorem PM {k:List UInt8} (l:List D) (hl:l=List.replicate 64 (D.int .u8 0)):k.map bD++l.drop k.length=(iE k).map bD:=by
  subst hl;unfold iE;rw[List.drop_replicate,aoH,I1]
theorem PN {k:List UInt8} (hk:k.length≤64) (l:List D) (hl:l=List.replicate 64 (D.int .u8 0)):k.length+(l.drop k.length).length=64:=by
  subst hl;rw[List.drop_replicate,aoR]; omega
def Gf:aK:=⟨1,13,ae [oO 2 (.allocArr [aj,aj,aj,aj,aj,aj,aj,aj,aj,aj,aj,aj,aj,aj,aj,aj,aj,aj,aj,aj,aj,aj,aj,aj,aj,aj,aj,aj,aj,aj,aj,aj,aj,aj,aj,aj,aj,aj,aj,aj,aj,aj,aj,aj,aj,aj,aj,aj,aj,aj,aj,aj,aj,aj,aj,aj,aj,aj,aj,aj,aj,aj,aj,aj])] (.seq (ae [oM 4 0,bc 5 4,am .gtr 6 5 64] (aw 6 (.reg [oM 7 0,aW 8 149 7,oM 0 8]) .skip)) (ae [oO 3 (.allocArr [aj,aj,aj,aj,aj,aj,aj,aj,aj,aj,aj,aj,aj,aj,aj,aj,aj,aj,aj,aj,aj,aj,aj,aj,aj,aj,aj,aj,aj,aj,aj,aj,aj,aj,aj,aj,aj,aj,aj,aj,aj,aj,aj,aj,aj,aj,aj,aj,aj,aj,aj,aj,aj,aj,aj,aj,aj,aj,aj,aj,aj,aj,aj,aj])] (ae [oO 9 (.sliceArr 1 64 (.t 3) none none),oM 10 0,oO 11 (.copy 1 (.t 9) (.t 10))] (ae [bn 12 64 3,aS 64 2 12] .ret)))),
 [(2,(some (.ag 64)))]⟩
theorem ado:aI Tryz.prog {} Tryz.f148=some Gf:=by kernel_rfl
theorem afy (G:au) (hF:G.at 0=some (.ra (dW.map wD))) (hG:G.at 1=some (.ra (cy.map wD))) (key:List UInt8) (hb:key.length≤140737488355328):aF Tryz.prog G 148 [.sl (key.map bD)] (.w (.c (.d (.agg ((oh key).map bD))))):=by
  refine aT Tryz.func148 ado rfl rfl ?_;by_cases h:64<key.length
  ·have e:oh key=iE (dM key):=by unfold oh tR; rw[if_pos h]
   have hl:=kR key;rw[e];simp only[Gf,ai,af,seval,iteOmega];refine sD (C5 G hF hG key hb) ?_;generalize dM key=s at *
   have z:=PM (k:=s);have z2:=PN (k:=s) (by omega);have ht:s.take 64=s:=aot (by omega);have hf:(iE s).length=64:=pT (by omega);simp only[af,aa,seval,ht,z,z2,hf];exact td (by simp only[af,seval,hf])
  ·have e:oh key=iE key:=by unfold oh tR; rw[if_neg h]
   rw[e];have z:=PM (k:=key);have z2:=PN (k:=key) (by omega);have ht:key.take 64=key:=aot (by omega);have hf:(iE key).length=64:=pT (by omega);simp only[Gf,ai,af,aa,seval,iteOmega,ht,z,hf];exact td (by simp only[af,seval,hf])
def mf (l:List UInt8) (m:UInt8) (i:Nat):List UInt8:=(l.take i).map (fun b=>aX b m)++l.drop i
theorem abz (l:List UInt8) (m:UInt8) (i:Nat):(mf l m i).length=l.length:=by
  unfold mf; rw[aoq,aox,← aoq,aoX]
theorem abA (l:List UInt8) (m:UInt8) (i:Nat) (h:i<l.length):(mf l m i)[i]?=some l[i]:=by
  unfold mf;rw[aoV (by rw[aox,aow]; omega),apo,aox,aow];rw[show i+(i-min i l.length)=i by omega,aon h]
theorem aag (l:List UInt8) (m:UInt8) (i:Nat) (h:i<l.length):(mf l m i).set i (aX l[i] m)=mf l m (i+1):=by
  unfold mf;rw[aqy _ _ (by rw[aox,aow]; omega),aox,aow,show i-min i l.length=0 by omega,aqh h,List.set_cons_zero,apr h,aoH,aoC];rfl
theorem aah (l:List UInt8) (m:UInt8):mf l m 0=l:=by simp[mf]
theorem aai (l:List UInt8) (m:UInt8) (i:Nat) (h:l.length≤i):mf l m i=l.map fun b=>aX b m:=by
  unfold mf;rw[aot h,apA h,aoF]
def Ic (l:List UInt8) (m:UInt8) (i:Nat):St:=⟨bz [(1,.w (.c (.d (bD m)))),(2,.w (.c (.pa 1 1))),(6,.w (.c (.d (.int .i64 (i:Int)))))],hL [(1,.row 1 ((mf l m i).map bD))],uL [1]⟩
def ER:bq := ae [am .lss 7 6 64] (.seq (aw 7 .skip (.exit 0)) (.seq (.block 1 (ae [oM 8 6,oM 5 8] (.reg [oM 9 5,oO 10 (.idxPa 1 64 (.t 2) (.t 9)),aA 11 10,oM 12 1,aU .xor 13 11 12,oO 14 (.idxPa 1 64 (.t 2) (.t 9)),ei 14 13]))) (.reg [am .add 15 6 1,oM 6 15])))
def MZ:aK:=⟨2,17,ae [oO 2 (.box .ownArr (.t 0)),aM 4] (.seq (ae [ak 6 0] (.block 0 (.loop ER))) (ae [oO 16 (.sliceArr 1 64 (.t 2) none none),oM 4 16] .ret)),[(4,none)]⟩
theorem abB:aI Tryz.prog { own:=[2] } Tryz.f150=some MZ:=by kernel_rfl
theorem PO (G:au) (l:List UInt8) (hl:l.length=64) (m:UInt8):aF Tryz.prog G 150 [.agg (l.map bD),bD m] (.w (.c (.fr 1 ((l.map fun b=>aX b m).map bD)))):=by
  refine aT Tryz.func150 abB rfl rfl ?_;simp only[MZ,ai,af,seval];refine bQ (Ic l m) (fun i=>64-i) (fun i=>i≤64) 0 (aoy _) ?_ ?_
  ·refine aV (fun _=>16) ?_ ?_ rfl rfl <;> simp only[wx,aH,seval,aah]
  ·intro i hi;have hm:=abz l m i;by_cases hlt:i<64
   ·have h1:=abA l m i (by omega);have h2:=aag l m i (by omega);have h3:i<(mf l m i).length:=by omega
    simp only[ER,Ic,af,aa,seval,iteOmega,toNatUp,ba,h1,kj h3 (js _),lI,h2];refine bA (i+1) (by omega) (by omega) (aV (fun _=>1) ?_ ?_ rfl rfl) <;> simp only[wx,aH,aY,seval]
   ·obtain rfl:i=64:=by omega
    have h1:=aai l m 64 (by omega);simp only[ER,Ic,af,seval,h1,hl];exact iP (id:=1) (n:=64) (s:=1) (by simp only[wx,seval]) (by simp only[wx,seval]) (by simp[hl])
def VJ:aK:=⟨2,21,ae [aM 4] (ae [oM 7 0,aW 8 148 7,oO 5 (.allocArr [aj,aj,aj,aj,aj,aj,aj,aj,aj,aj,aj,aj,aj,aj,aj,aj,aj,aj,aj,aj,aj,aj,aj,aj,aj,aj,aj,aj,aj,aj,aj,aj,aj,aj,aj,aj,aj,aj,aj,aj,aj,aj,aj,aj,aj,aj,aj,aj,aj,aj,aj,aj,aj,aj,aj,aj,aj,aj,aj,aj,aj,aj,aj,aj]),aS 64 5 8] (ae [bn 9 64 5,oO 10 (.call 150 [(.t 9),(.k (.c (.d (.int .u8 54))))] none),oM 11 1,oO 12 (.bldSl false 2 1 (.sl []) [(0,(.t 10)),(1,(.t 11))]),aW 13 44 12,aW 14 149 13,oM 6 14] (ae [bn 15 64 5,oO 16 (.call 150 [(.t 15),(.k (.c (.d (.int .u8 92))))] none),oM 17 6,oO 18 (.bldSl false 2 1 (.sl []) [(0,(.t 16)),(1,(.t 17))]),aW 19 44 18,oO 20 (.call 149 [(.t 19)] (some (0,1))),oM 4 20] .ret))),[(4,none)]⟩
theorem ai8:aI Tryz.prog { own:=[20] } Tryz.f116=some VJ:=by kernel_rfl
theorem amq (G:au) (hF:G.at 0=some (.ra (dW.map wD))) (hG:G.at 1=some (.ra (cy.map wD))) (key b:List UInt8) (hk:key.length≤140737488355328) (hb:b.length≤70368744177664):aF Tryz.prog G 116 [.sl (key.map bD),.sl (b.map bD)] (.w (.c (.fr 1 ((lS key b).map bD)))):=by
  refine aT Tryz.func116 ai8 rfl rfl ?_;have h1:=dV G [dF key 54,b] (by simp) (by simp[re]; omega);have h2:=dV G [dF key 92,dM (dF key 54++b)] (by simp) (by simp[re,kR]);have f1:[dF key 54,b].flatten=dF key 54++b:=by simp
  have f2:[dF key 92,dM (dF key 54++b)].flatten=dF key 92++dM (dF key 54++b):=by simp
  rw[f1] at h1;rw[f2] at h2;have hl:=PK key;have hm1:(dF key 54++b).length≤140737488355328:=by rw[aoq,re]; omega
  have hm2:(dF key 92++dM (dF key 54++b)).length≤140737488355328:=by rw[aoq,re,kR]; decide
  have hs:=kR (dF key 92++dM (dF key 54++b));have hmac:lS key b=dM (dF key 92++dM (dF key 54++b)):=rfl;rw[hmac];simp only[VJ,ai,af,seval];refine sD (afy G hF hG key hk) ?_;refine sD (PO G (oh key) hl 54) ?_;refine sD (h1) ?_;refine sD (C5 G hF hG _ hm1) ?_;refine sD (PO G (oh key) hl 92) ?_;refine sD (h2) ?_;refine sD (C5 G hF hG _ hm2) ?_;exact iJ
def lg (k:List UInt8) (x:UInt8) (i:Nat):List UInt8:=((iE k).take i).map (fun b=>aX b x)++List.replicate (64-i) 0
theorem adp {k:List UInt8} (hk:k.length≤64) (x:UInt8) (i:Nat) (hi:i≤64):(lg k x i).length=64:=by
  unfold lg;rw[aoq,aox,aow,pT hk,aoR]; omega
theorem adq {k:List UInt8} (hk:k.length≤64) (x:UInt8) (i:Nat) (hi:i<64):(lg k x i)[i]?=some 0:=by
  unfold lg;rw[aoV (by rw[aox,aow]; omega),aox,aow,pT hk,List.getElem?_replicate,if_pos (by omega)]
theorem M0 {k:List UInt8} (hk:k.length≤64) (x a:UInt8) (i:Nat) (hi:i<64) (ha:(iE k)[i]?=some a):(lg k x i).set i (aX a x)=lg k x (i+1):=by
  have h:=xJ (((iE k).take i).map (fun b=>aX b x)) 0 (aX a x) (64-i) (by omega);have hl:(((iE k).take i).map (fun b=>aX b x)).length=i:=by rw[aox,aow,pT hk]; omega
  rw[hl] at h;unfold lg;rw[h,apR,ha,aoH];rfl
theorem afz (k:List UInt8) (i:Nat) (h:i<k.length):(iE k)[i]?=some k[i]:=by
  unfold iE;rw[apb h,aon h]
theorem afA (k:List UInt8) (i:Nat) (h:k.length≤i) (h2:i<64):(iE k)[i]?=some 0:=by
  unfold iE;rw[aoV h,List.getElem?_replicate,if_pos (by omega)]
theorem M1 (k:List UInt8) (x:UInt8):lg k x 0=List.replicate 64 0:=by simp[lg]
theorem abC {k:List UInt8} (hk:k.length≤64) (x:UInt8):lg k x 64=(iE k).map fun b=>aX b x:=by
  unfold lg;rw[aot (by rw[pT hk]; exact aoz _),aqm,apD,aoF]
def yL (k:List UInt8) (x:UInt8) (i:Nat):St:=⟨bz [(0,.w (.c (.d (.sl (k.map bD))))),(1,.w (.c (.d (bD x)))),(5,.w (.c (.own 1 1 0 64))),(6,.w (.c (.d (.int .i64 (i:Int)))))],hL [(1,.row 1 ((lg k x i).map bD))],uL [1]⟩
def xv:bq := .seq (ae [oM 13 6,am .lss 14 13 64] (aw 14 .skip (.exit 0))) (.seq (.block 1 (.seq (ae [oM 17 6,oM 18 0,bc 19 18,aU .lss 20 17 19] (aw 20 (.reg [oM 21 5,oM 22 6,oM 23 0,oM 24 6,bW 25 1 23 24,aA 26 25,bW 27 1 21 22,ei 27 26]) .skip)) (.reg [oM 28 5,oM 29 6,oM 30 5,oM 31 6,bW 32 1 30 31,aA 33 32,oM 34 1,aU .xor 35 33 34,bW 36 1 28 29,ei 36 35]))) (.reg [oM 15 6,am .add 16 15 1,oM 6 16]))
def Gg:aK:=⟨2,38,ae [aM 4] (.seq (ae [oM 7 0,bc 8 7,am .gtr 9 8 64] (aw 9 (.reg [oM 10 0,aW 11 45 10,oM 0 11]) .skip)) (ae [oO 12 (.make true 1 1 aj (kI 64) (kI 64)),oM 5 12] (.seq (ae [ak 6 0] (.block 0 (.loop xv))) (ae [oM 37 5,oM 4 37] .ret)))),[(4,none)]⟩
theorem adr:aI Tryz.prog {} Tryz.f158=some Gg:=by kernel_rfl
theorem Sn (G:au) (k:List UInt8) (hk:k.length≤64) (x:UInt8) (Q:AX→St→Prop) (σ:St) (he:ft σ (yL k x 0)) (hq:∀ f,f 5=.w (.c (.own 1 1 0 64))→Q (.ex 0) ⟨f,hL [(1,.row 1 (((iE k).map fun b=>aX b x).map bD))],uL [1]⟩):cD Tryz.prog G (.loop xv) Q σ:=by
  refine bQ (yL k x) (fun i=>64-i) (fun i=>i≤64) 0 (aoy _) he ?_;intro i hi;have hl:=adp hk x i hi;by_cases hlt:i<64
  ·have h1:=adq hk x i hlt;have h3:i<(lg k x i).length:=by omega
   by_cases hkl:i<k.length
   ·have h2:=M0 hk x k[i] i hlt (afz k i hkl);have e2:k[i]?=some k[i]:=aon hkl;have h4:((lg k x i).set i k[i])[i]?=some k[i]:=by rw[List.getElem?_set_self h3]
    have h5:i<((lg k x i).set i k[i]).length:=by rw[apT]; exact h3
    simp only[xv,yL,af,aa,seval,iteOmega,toNatUp,ba,e2,kj h3 (js _),lI,h4,kj h5 (js _),List.set_set,h2];refine bA (i+1) (by omega) (by omega) (aV (fun _=>1) ?_ ?_ rfl rfl) <;> simp only[wx,aH,aY,seval]
   ·have h2:=M0 hk x 0 i hlt (afA k i (by omega) hlt);simp only[xv,yL,af,aa,seval,iteOmega,toNatUp,ba,h1,kj h3 (js _),lI,h2];refine bA (i+1) (by omega) (by omega) (aV (fun _=>1) ?_ ?_ rfl rfl) <;> simp only[wx,aH,aY,seval]
  ·obtain rfl:i=64:=by omega
   simp only[xv,yL,af,seval,abC hk x];exact hq _ (by simp only[af,seval])
theorem Sp (G:au) (key:List UInt8) (hb:key.length≤140737488355328) (x:UInt8):aF Tryz.prog G 158 [.sl (key.map bD),bD x] (.w (.c (.fr 1 ((dF key x).map bD)))):=by
  refine aT Tryz.func158 adr rfl rfl ?_;by_cases h:64<key.length
  ·have e:dF key x=(iE (dM key)).map fun b=>aX b x:=by unfold dF oh tR; rw[if_pos h]
   have hl:=kR key;rw[e];simp only[Gg,ai,af,seval,iteOmega];refine sD (yd G key hb) ?_;generalize dM key=s at *
   refine Sn G s (by omega) x _ _ (aV (fun _=>96) ?_ ?_ rfl rfl) fun f hf=>?_
   ·simp only[wx,aH,seval]
   ·simp only[wx,aH,seval,M1];rfl
   ·simp only[af,seval,hf];exact iP (id:=1) (n:=64) (s:=1) (by simp only[wx,seval]) (by simp only[wx,seval]) (by rw[aox,aox,pT (by omega)])
  ·have e:dF key x=(iE key).map fun b=>aX b x:=by unfold dF oh tR; rw[if_neg h]
   rw[e];simp only[Gg,ai,af,seval,iteOmega,toNatUp];refine Sn G key (by omega) x _ _ (aV (fun _=>96) ?_ ?_ rfl rfl) fun f hf=>?_
   ·simp only[wx,aH,seval]
   ·simp only[wx,aH,seval,M1];rfl
   ·simp only[af,seval,hf];exact iP (id:=1) (n:=64) (s:=1) (by simp only[wx,seval]) (by simp only[wx,seval]) (by rw[aox,aox,pT (by omega)])
def Sq:aK:=⟨2,16,ae [aM 4] (ae [oM 5 0,oO 6 (.call 158 [(.t 5),(.k (.c (.d (.int .u8 92))))] none),oM 7 0,oO 8 (.call 158 [(.t 7),(.k (.c (.d (.int .u8 54))))] none),oM 9 1,oO 10 (.bldSl false 2 1 (.sl []) [(0,(.t 8)),(1,(.t 9))]),aW 11 23 10,aW 12 45 11,oO 13 (.bldSl false 2 1 (.sl []) [(0,(.t 6)),(1,(.t 12))]),aW 14 23 13,oO 15 (.call 45 [(.t 14)] (some (0,1))),oM 4 15] .ret),[(4,none)]⟩
theorem afB:aI Tryz.prog { own:=[15] } Tryz.f126=some Sq:=by kernel_rfl
theorem VK (G:au) (key b:List UInt8) (hk:key.length≤140737488355328) (hb:b.length≤70368744177664):aF Tryz.prog G 126 [.sl (key.map bD),.sl (b.map bD)] (.w (.c (.fr 1 ((lS key b).map bD)))):=by
  refine aT Tryz.func126 afB rfl rfl ?_;have h1:=uW G [dF key 54,b] (by simp) (by simp[re]; omega);have h2:=uW G [dF key 92,dM (dF key 54++b)] (by simp) (by simp[re,kR]);have f1:[dF key 54,b].flatten=dF key 54++b:=by simp
  have f2:[dF key 92,dM (dF key 54++b)].flatten=dF key 92++dM (dF key 54++b):=by simp
  rw[f1] at h1;rw[f2] at h2;have hm1:(dF key 54++b).length≤140737488355328:=by rw[aoq,re]; omega
  have hm2:(dF key 92++dM (dF key 54++b)).length≤140737488355328:=by rw[aoq,re,kR]; decide
  have hs:=kR (dF key 92++dM (dF key 54++b));have hmac:lS key b=dM (dF key 92++dM (dF key 54++b)):=rfl;rw[hmac];simp only[Sq,ai,af,seval];refine sD (Sp G key hk 92) ?_;refine sD (Sp G key hk 54) ?_;refine sD (h1) ?_;refine sD (yd G _ hm1) ?_;refine sD (h2) ?_;refine sD (yd G _ hm2) ?_;exact iJ
def Sr:aK:=⟨2,8,ae [aM 4] (ae [oM 5 0,oM 6 1,oO 7 (.call 126 [(.t 5),(.t 6)] (some (0,1))),oM 4 7] .ret),[(4,none)]⟩
theorem afC:aI Tryz.prog { own:=[7] } Tryz.f113=some Sr:=by kernel_rfl
theorem ai9 (G:au) (key b:List UInt8) (hk:key.length≤140737488355328) (hb:b.length≤70368744177664):aF Tryz.prog G 113 [.sl (key.map bD),.sl (b.map bD)] (.w (.c (.fr 1 ((lS key b).map bD)))):=by
  refine aT Tryz.func113 afC rfl rfl ?_;simp only[Sr,ai,af,seval];refine sD (VK G key b hk hb) ?_;exact iJ
def si (n:Int):Int:=if 0≤n∧n≤8160 then 0 else 4
def nk (key info:List UInt8) (n:Int):List UInt8:=if 0≤n∧n≤8160 then lT key info n.toNat else []
theorem s5 {n:Int} (h:0≤n∧n≤8160):si n=0:=if_pos h
theorem rm (key info:List UInt8) {n:Int} (h:0≤n∧n≤8160):nk key info n=lT key info n.toNat:=if_pos h
theorem AC {n:Int} (h:¬ (0≤n∧n≤8160)):si n=4:=if_neg h
theorem AD (key info:List UInt8) {n:Int} (h:¬ (0≤n∧n≤8160)):nk key info n=[]:=if_neg h
def lh (key info:List UInt8) (n i:Nat):List UInt8:=(k9 key info i).take n
theorem PP (key info:List UInt8) (n i:Nat):(lh key info n i).length=min n (32*i):=by
  unfold lh; rw[aow,uM]
theorem abD (key info:List UInt8) (n i:Nat) (h:32*i≤n):lh key info n i++(gJ key info (i+1)).take (n-32*i)=lh key info n (i+1):=by
  unfold lh;rw[k9,List.take_append,uM]
theorem M2 (key info:List UInt8) (i:Nat):lS key (gJ key info i++info++[UInt8.ofNat (i+1)])=gJ key info (i+1):=rfl
theorem Y6 (v:Nat):aC v 1=[UInt8.ofNat v]:=by simp[aC]
def mY (key info:List UInt8):Nat→V
  | 0=>.w (.c .nil)
  | i+1=>.w (.c (.d (.sl ((gJ key info (i+1)).map bD))))
theorem afD (a b:Nat):List.foldl (fun x y:Int=>if y<x then y else x) (a:Int) [(b:Int)]=((min a b:Nat):Int):=by
  simp only[apB,ap9];split <;> omega
def C7 (key info:List UInt8) (n i:Nat):St:=⟨bz [(0,.w (.c (.d (.sl (key.map bD))))),(1,.w (.c (.d (.sl (info.map bD))))),(2,.w (.c (.d (.int .i64 (n:Int))))),(8,.w (.c (.own 1 1 0 (lh key info n i).length))),(9,mY key info i),(10,.w (.c (.d (.int .u64 ((i+1:Nat):Int)))))],hL [(1,.row 1 ((lh key info n i).map bD))],uL [1]⟩
def AE:bq := .seq (ae [oM 19 8,bc 20 19,oM 21 2,aU .lss 22 20 21] (aw 22 .skip (.exit 0))) (.seq (.block 1 (ae [oM 25 0,oM 26 9,oM 27 1,oM 28 10,oO 29 (.call 76 [(.t 28),(kI 1)] none),oO 30 (.bldSl false 3 1 (.sl []) [(0,(.t 26)),(1,(.t 27)),(2,(.t 29))]),aW 31 44 30,cd 32 116 25 31,oM 9 32] (.reg [oM 33 8,oM 34 9,oM 35 9,bc 36 35,oM 37 2,oM 38 8,bc 39 38,aU .sub 40 37 39,oO 41 (.min [(.t 36),(.t 40)]),oO 42 (.slice 1 (.t 34) none (some (.t 41)) none),oO 43 (.app false 1 1 (.t 33) (.t 42)),oM 8 43]))) (.reg [oM 23 10,oO 24 (.bin .add (.t 23) (.k (.c (.d (.int .u64 1))))),oM 10 24]))
def Ce:aK:=⟨3,45,ae [aM 6,ak 7 0] (.seq (ae [oM 11 2,am .lss 12 11 0,oM 13 12,bE 14 2 13 false,cu .gtr 15 14 8160 13 false,cC 16 13 15] (aw 16 (ae [aM 6,ak 7 4] .ret) .skip)) (ae [oM 17 2,oO 18 (.make true 1 1 aj (kI 0) (.t 17)),oM 8 18] (ae [aM 9] (.seq (ae [oO 10 (.mv (.k (.c (.d (.int .u64 1)))))] (.block 0 (.loop AE))) (ae [oM 44 8,oM 6 44,ak 7 0] .ret))))),[(6,none),(7,none)]⟩
theorem aja:aI Tryz.prog {} Tryz.f96=some Ce:=by kernel_rfl
theorem Jl (G:au) (hF:G.at 0=some (.ra (dW.map wD))) (hG:G.at 1=some (.ra (cy.map wD))) (key info:List UInt8) (hk:key.length≤140737488355328) (hb:info.length≤35184372088832) (n:Int) (hn1:-9223372036854775808≤n) (hn2:n≤9223372036854775807):aF Tryz.prog G 96 [.sl (key.map bD),.sl (info.map bD),.int .i64 n] (.tup [.c (.d (.sl ((nk key info n).map bD))),.c (.d (.int .i64 (si n)))]):=by
  refine aT Tryz.func96 aja rfl rfl ?_;by_cases h0:n<0
  ·have hc:¬ (0≤n∧n≤8160):=by omega
   rw[AC hc,AD key info hc];simp only[Ce,ai,af,seval,iteOmega];exact bu
  ·by_cases h1:8160<n
   ·have hc:¬ (0≤n∧n≤8160):=by omega
    rw[AC hc,AD key info hc];simp only[Ce,ai,af,seval,iteOmega];exact bu
   ·have hc:0≤n∧n≤8160:=by omega
    rw[s5 hc,rm key info hc];obtain⟨m,rfl⟩:=ao5 hc.1;rw[aqD];simp only[Ce,ai,af,seval,iteOmega,toNatUp];refine bQ (C7 key info m) (fun i=>(m+31) / 32-i) (fun i=>i≤(m+31) / 32) 0 (aoy _) ?_ ?_
    ·refine aV (fun _=>144) ?_ ?_ rfl rfl <;> simp only[wx,aH,seval,lh,k9,mY]
    ·intro i hi;have hl:=PP key info m i;have hp:=MY key info i;by_cases hlt:i<(m+31) / 32
     ·have h32:32*i≤m:=by omega
      have hl:(lh key info m i).length=32*i:=by omega
      have hj:=dV G [gJ key info i,info,aC (i+1) 1] (by simp) (by simp[bO]; omega);have hf:[gJ key info i,info,aC (i+1) 1].flatten=gJ key info i++info++[UInt8.ofNat (i+1)]:=by simp[Y6]
      rw[hf] at hj;have hm:=amq G hF hG key (gJ key info i++info++[UInt8.ofNat (i+1)]) hk (by simp; omega);rw[M2] at hm;have hl2:(gJ key info (i+1)).length=32:=uK _ _;have hs:=abD key info m i h32;have hs2:=PP key info m (i+1);have hmin:=afD 32 (m-32*i);rw[show ((m-32*i:Nat):Int)=(m:Int)-32*(i:Int) by omega] at hmin;have hs':lh key info m i++(gJ key info (i+1)).take (min 32 (m-32*i))=lh key info m (i+1):=by
        rw[← hs]; congr 1
        rw[Nat.min_comm,← aqe,aot (l:=gJ key info (i+1)) (by omega)]
      have hlt2:((lh key info m i).length:Int)<(m:Int):=by omega
      have hmm:min 32 (m-32*i)≤32:=by omega
      have hml:((gJ key info (i+1)).take (min 32 (m-32*i))).length=min 32 (m-32*i):=by rw[aow,hl2]; omega
      have hcl:(lh key info m (i+1)).length=32*i+min 32 (m-32*i):=by omega
      generalize hq:min 32 (m-32*i)=q at *
      rcases i with _ | i
      ·simp only[ap6,Int.mul_zero,Int.sub_zero,aqL,aph] at hmin hl hl2 hs' hml hcl;simp only[AE,C7,mY,af,seval,iteOmega];refine sD (rC G (0+1) 1 (by decide)) ?_;refine sD (hj) ?_;refine sD (hm) ?_;simp only[af,seval,iteOmega,toNatUp,hl2,hl,hmin,hml,hs',cG,Int.sub_zero];refine bA (0+1) (by omega) (by omega) (aV (fun _=>344) ?_ ?_ rfl rfl) <;> simp only[wx,aH,seval,mY,hcl]
      ·simp only[ap6,aql] at hmin;simp only[AE,C7,mY,af,seval,iteOmega];refine sD (rC G (i+1+1) 1 (by decide)) ?_;refine sD (hj) ?_;refine sD (hm) ?_;simp only[af,seval,iteOmega,toNatUp,hl2,hl,hmin,hml,hs',cG];refine bA (i+1+1) (by omega) (by omega) (aV (fun _=>344) ?_ ?_ rfl rfl) <;> simp only[wx,aH,aY,seval,mY,hcl]
     ·obtain rfl:i=(m+31) / 32:=by omega
      have hlt2:¬ ((lh key info m ((m+31) / 32)).length:Int)<(m:Int):=by omega
      have he:lh key info m ((m+31) / 32)=lT key info m:=rfl;rw[he] at hlt2;simp only[AE,C7,af,seval,iteOmega,he];exact bu
def Cf (key info:List UInt8) (n i:Nat):St:=⟨bz [(0,.w (.c (.d (.sl (key.map bD))))),(1,.w (.c (.d (.sl (info.map bD))))),(2,.w (.c (.d (.int .i64 (n:Int))))),(8,.w (.c (.own 1 1 0 (k9 key info i).length))),(9,mY key info i),(10,.w (.c (.d (.int .i64 ((i+1:Nat):Int)))))],hL [(1,.row 1 ((k9 key info i).map bD))],uL [1]⟩
def Aa:bq := .seq (ae [oM 19 8,bc 20 19,oM 21 2,aU .lss 22 20 21] (aw 22 .skip (.exit 0))) (.seq (.block 1 (ae [oM 25 0,oM 26 9,oM 27 1,oM 28 10,oO 29 (.conv .u8 (.t 28)),oO 30 (.bldSl false 1 1 aj [(0,(.t 29))]),oO 31 (.bldSl false 3 1 (.sl []) [(0,(.t 26)),(1,(.t 27)),(2,(.t 30))]),aW 32 23 31,cd 33 126 25 32,oM 9 33] (.reg [oM 34 8,oM 35 9,oO 36 (.app false 1 1 (.t 34) (.t 35)),oM 8 36]))) (.reg [oM 23 10,am .add 24 23 1,oM 10 24]))
def Be:aK:=⟨3,40,ae [aM 6,ak 7 0] (.seq (ae [oM 11 2,am .lss 12 11 0,oM 13 12,bE 14 2 13 false,cu .gtr 15 14 8160 13 false,cC 16 13 15] (aw 16 (ae [aM 6,ak 7 4] .ret) .skip)) (ae [oO 17 (.bldSl true 0 1 aj []),oO 18 (.bldSl false 0 1 aj []),oM 8 17,oM 9 18] (.seq (ae [ak 10 1] (.block 0 (.loop Aa))) (ae [oM 37 8,oM 38 2,oO 39 (.slice 1 (.t 37) none (some (.t 38)) none),oM 6 39,ak 7 0] .ret)))),[(6,none),(7,none)]⟩
theorem afE:aI Tryz.prog { own:=[17] } Tryz.f71=some Be:=by kernel_rfl
theorem ajb (G:au) (key info:List UInt8) (hk:key.length≤140737488355328) (hb:info.length≤35184372088832) (n:Int) (hn1:-9223372036854775808≤n) (hn2:n≤9223372036854775807):aF Tryz.prog G 71 [.sl (key.map bD),.sl (info.map bD),.int .i64 n] (.tup [.c (.fr 1 ((nk key info n).map bD)),.c (.d (.int .i64 (si n)))]):=by
  refine aT Tryz.func71 afE rfl rfl ?_;by_cases h0:n<0
  ·have hc:¬ (0≤n∧n≤8160):=by omega
   rw[AC hc,AD key info hc];simp only[Be,ai,af,seval,iteOmega];exact dZ
  ·by_cases h1:8160<n
   ·have hc:¬ (0≤n∧n≤8160):=by omega
    rw[AC hc,AD key info hc];simp only[Be,ai,af,seval,iteOmega];exact dZ
   ·have hc:0≤n∧n≤8160:=by omega
    rw[s5 hc,rm key info hc];obtain⟨m,rfl⟩:=ao5 hc.1;rw[aqD];simp only[Be,ai,af,seval,iteOmega];refine bQ (Cf key info m) (fun i=>(m+31) / 32-i) (fun i=>i≤(m+31) / 32) 0 (aoy _) ?_ ?_
    ·refine aV (fun _=>136) ?_ ?_ rfl rfl <;> simp only[wx,aH,seval,k9,mY]
    ·intro i hi;have hl:=uM key info i;have hp:=MY key info i;by_cases hlt:i<(m+31) / 32
     ·have hj:=uW G [gJ key info i,info,[UInt8.ofNat (i+1)]] (by simp) (by simp; omega);have hf:[gJ key info i,info,[UInt8.ofNat (i+1)]].flatten=gJ key info i++info++[UInt8.ofNat (i+1)]:=by simp
      rw[hf] at hj;have hm:=VK G key (gJ key info i++info++[UInt8.ofNat (i+1)]) hk (by simp; omega);rw[M2] at hm;have hl2:(gJ key info (i+1)).length=32:=uK _ _;have hs':k9 key info i++gJ key info (i+1)=k9 key info (i+1):=rfl;have hcl:(k9 key info (i+1)).length=32*i+32:=by rw[uM]; omega
      rcases i with _ | i
      ·simp only[aqL,aph] at hl hl2 hs' hcl;simp only[Aa,Cf,mY,af,seval,iteOmega];refine sD (hj) ?_;refine sD (hm) ?_;simp only[af,seval,hl2,hl,hs',cG];refine bA (0+1) (by omega) (by omega) (aV (fun _=>288) ?_ ?_ rfl rfl) <;> simp only[wx,aH,seval,mY,hcl]
      ·have hby:D.int .u8 ((i:Int)+1+1)=bD (UInt8.ofNat (i+1+1)):=by rw[← byte_of,IntWalk.u8_in _ (by omega)]; rfl
       simp only[Aa,Cf,mY,af,seval,iteOmega,hby];refine sD (hj) ?_;refine sD (hm) ?_;simp only[af,seval,iteOmega,hl2,hl,hs',cG];refine bA (i+1+1) (by omega) (by omega) (aV (fun _=>288) ?_ ?_ rfl rfl) <;> simp only[wx,aH,aY,seval,mY,hcl]
     ·obtain rfl:i=(m+31) / 32:=by omega
      have he:(k9 key info ((m+31) / 32)).take m=lT key info m:=rfl;have hle:m≤(k9 key info ((m+31) / 32)).length:=by omega
      simp only[Aa,Cf,af,seval,iteOmega,toNatUp];rw[← he,List.map_take];exact aaj (id:=1) (s:=1) (by simp only[af,seval]) (by simp only[af,seval]) (by rw[aox]; exact hle) (by simp only[af,seval])
theorem Cg (G:au) (key info:List UInt8) (hk:key.length≤140737488355328) (hb:info.length≤35184372088832) (n:Int) (hn1:-9223372036854775808≤n) (hn2:n≤9223372036854775807):aF Tryz.prog G 71 [.sl (key.map bD),.sl (info.map bD),.int .i64 n] (.tup [.c (.d (.sl ((nk key info n).map bD))),.c (.d (.int .i64 (si n)))]):=uV (ajb G key info hk hb n hn1 hn2)
def VL:aK:=⟨3,19,ae [aM 6] (ae [oO 8 (.bldSl false 1 1 aj [(0,(.k (.c (.d aj))))]),oM 7 8] (ae [oM 9 0,oO 10 (.s2b false (.t 9)),oM 11 7,oM 12 1,oO 13 (.s2b false (.t 12)),oM 14 7,oM 15 2,aW 16 149 15,oO 17 (.bldSl false 5 1 (.sl []) [(0,(.t 10)),(1,(.t 11)),(2,(.t 13)),(3,(.t 14)),(4,(.t 16))]),oO 18 (.call 44 [(.t 17)] (some (0,1))),oM 6 18] .ret)),[(6,none)]⟩
theorem ajc:aI Tryz.prog { own:=[18] } Tryz.f151=some VL:=by kernel_rfl
theorem amr (G:au) (hF:G.at 0=some (.ra (dW.map wD))) (hG:G.at 1=some (.ra (cy.map wD))) (p n:ByteArray) (c:List UInt8) (hp:p.size≤1099511627776) (hn:n.size≤1099511627776) (hc:c.length≤140737488355328):aF Tryz.prog G 151 [.str p,.str n,.sl (c.map bD)] (.w (.c (.fr 1 ((qL p.data.toList n.data.toList c).map bD)))):=by
  refine aT Tryz.func151 ajc rfl rfl ?_;have hp':p.data.toList.length=p.size:=rfl;have hn':n.data.toList.length=n.size:=rfl;have hj:=dV G [p.data.toList,[0],n.data.toList,[0],dM c] (by simp) (by simp[kR]; omega);have hf:[p.data.toList,[0],n.data.toList,[0],dM c].flatten=qL p.data.toList n.data.toList c:=by simp[qL]
  rw[hf] at hj;have hpm:p.size≤maxLen:=by unfold maxLen; omega
  have hnm:n.size≤maxLen:=by unfold maxLen; omega
  simp only[VL,ai,af,seval,hpm,hnm];refine sD (C5 G hF hG c hc) ?_;refine sD (hj) ?_;exact iJ
theorem iD (G:au) (v:Nat) (k:Int) (hk:0≤k∧k≤64):aF Tryz.prog G 76 [.int .u64 (v:Int),.int .i64 k] (.w (.c (.fr 1 ((aC v k.toNat).map bD)))):=by
  have c:=XO G v k;rw[show DN v k=aC v k.toNat from if_pos hk] at c;exact c

def Cl:aK:=⟨2,25,ae [aM 4,aM 5,bH 6 false] (.seq (ae [oM 7 1,am .lss 8 7 0,oM 9 8,bE 10 1 9 false,bE 11 0 9 false,fB 12 11 9 false,sE .gtr 13 10 12 9 false,cC 14 9 13] (aw 14 (ae [aM 4,aM 5,bH 6 false] .ret) .skip)) (ae [oM 15 0,oM 16 1,oO 17 (.slice 1 (.t 15) none (some (.t 16)) none),oO 18 (.bldSl false 1 1 (.sl []) [(0,(.t 17))]),aW 19 44 18,oM 20 0,oM 21 1,oO 22 (.slice 1 (.t 20) (some (.t 21)) none none),oO 23 (.bldSl false 1 1 (.sl []) [(0,(.t 22))]),aW 24 44 23,oM 4 19,oM 5 24,bH 6 true] .ret)),[(4,none),(5,none),(6,none)]⟩
theorem V4:aI Tryz.prog {} Tryz.f118=some Cl:=by kernel_rfl
set_option maxHeartbeats 800000 in
theorem tm (G:au) (b:List UInt8) (n:Nat) (h:n≤b.length) (hb:b.length≤1099511627776):aF Tryz.prog G 118 [.sl (b.map bD),.int .i64 (n:Int)] (.tup [.c (.d (.sl ((b.take n).map bD))),.c (.d (.sl ((b.drop n).map bD))),.c (.d (.bool true))]):=by
  refine aT Tryz.func118 V4 rfl rfl ?_;have c1:=dV G [b.take n] (by simp) (by simp; omega);have c2:=dV G [b.drop n] (by simp) (by simp; omega);simp only[aos,aoA,apd,apf,aoF] at c1 c2;have et:(b.drop n).take (b.length-n)=b.drop n:=aot (by simp);have g:((n:Int)>(b.length:Int))=False:=eq_false (by omega);simp only[Cl,ai,af,seval,iteOmega,toNatUp,g];refine sC (c1) ?_;simp only[et,af,seval,iteOmega,toNatUp];refine sC (c2) ?_;simp only[af,seval];exact fg
theorem yj (G:au) (b:List UInt8) (n:Int) (h:n<0∨(b.length:Int)<n):aF Tryz.prog G 118 [.sl (b.map bD),.int .i64 n] (.tup [.c (.d (.sl [])),.c (.d (.sl [])),.c (.d (.bool false))]):=by
  refine aT Tryz.func118 V4 rfl rfl ?_;rcases aqo n 0 with h1 | h1
  ·simp only[Cl,ai,af,seval,iteOmega];exact lG (by simp only[af,seval] <;> rfl) (by simp only[af,seval] <;> rfl) (by simp only[af,seval])
  ·have g:(n>(b.length:Int))=True:=eq_true (by omega);simp only[Cl,ai,af,seval,iteOmega,g];exact lG (by simp only[af,seval] <;> rfl) (by simp only[af,seval] <;> rfl) (by simp only[af,seval])
def SK:aK:=⟨1,5,ae [aM 2] (ae [oM 3 0,oO 4 (.call 13 [(.t 3),(kI 32)] none),oM 2 4] .ret),[(2,none)]⟩
theorem afZ:aI Tryz.prog {} Tryz.f31=some SK:=by kernel_rfl
theorem V7 (G:au) (seed:Int):aF Tryz.prog G 31 [.int .i64 seed] (.w (.c (.d (.sl ((bd seed 32).map bD))))):=by
  refine aT Tryz.func31 afZ rfl rfl ?_;simp only[SK,ai,af,seval];refine sD (oJ G seed 32 (by decide)) ?_;exact aZ
def pk (f:Nat→Nat):Nat→Nat
  | 0=>0
  | L+1=>2^(64*L)*f L+pk f L
theorem YO {f:Nat→Nat} (hf:∀ s,f s<2^64):∀ L,pk f L<2^(64*L)
  | 0=>by simp[pk]
  | L+1=>by
    have ih:=YO hf L;have h:=hf L;have e:2^(64*(L+1))=2^(64*L)*2^64:=by rw[← Nat.pow_add]; congr 1
    have:2^(64*L)*f L+2^(64*L)≤2^(64*L)*2^64:=by
      rw[← Nat.mul_succ]; exact Nat.mul_le_mul_left _ h
    rw[pk,e]; omega
theorem lK {f:Nat→Nat} (hf:∀ s,f s<2^64):∀ (L j:Nat),(pk f L).testBit j=(decide (j / 64<L)&&(f (j / 64)).testBit (j%64))
  | 0,j=>by simp[pk]
  | L+1,j=>by
    rw[pk,Nat.testBit_two_pow_mul_add _ (YO hf L)];by_cases h:j<64*L
    ·rw[if_pos h,lK hf L j];rw[decide_eq_true (show j / 64<L by omega),decide_eq_true (show j / 64<L+1 by omega)]
    ·rw[if_neg h];by_cases h2:j / 64=L
     ·rw[h2,decide_eq_true (Nat.lt_succ_self L),aqp]
      congr 1; omega
     ·rw[decide_eq_false (show ¬ j / 64<L+1 by omega),Bool.false_and];refine Nat.testBit_lt_two_pow (Nat.lt_of_lt_of_le (hf L) (Nat.pow_le_pow_right (by decide) (by omega)))
theorem iB {f g:Nat→Nat}:∀ {L:Nat},(∀ s,s<L→f s=g s)→pk f L=pk g L
  | 0,_=>rfl
  | L+1,h=>by rw[pk,pk,h L (Nat.lt_succ_self L),iB fun s hs=>h s (by omega)]
theorem jI (f g:Nat→Nat):∀ L,Nat.add (pk f L) (pk g L)=pk (fun s=>Nat.add (f s) (g s)) L
  | 0=>rfl
  | L+1=>by
    have ih:=jI f g L
    show (2^(64*L)*f L+pk f L)+(2^(64*L)*g L+pk g L)=2^(64*L)*(f L+g L)+pk _ L
    rw[← ih,Nat.mul_add]
    show _=_+(pk f L+pk g L)
    omega
theorem IU (f:Nat→Nat) (c:Nat):∀ L,Nat.mul (pk f L) c=pk (fun s=>Nat.mul (f s) c) L
  | 0=>aqc c
  | L+1=>by
    have ih:=IU f c L
    show (2^(64*L)*f L+pk f L)*c=2^(64*L)*(f L*c)+pk _ L
    rw[← ih,ao9,Nat.mul_assoc]; rfl
theorem rA (f:Nat→Nat) (c L:Nat):Nat.mul c (pk f L)=pk (fun s=>Nat.mul c (f s)) L:=by
  show c*pk f L=_
  rw[aqj];refine (IU f c L).trans (iB fun s _=>aqj _ _)
theorem Gv {a b:Nat} (ha:a<2^64) (hb:b<2^64):Nat.xor a b<2^64:=Nat.xor_lt_two_pow ha hb
theorem AP {a b:Nat} (ha:a<2^64):Nat.land a b<2^64:=ap4 Nat.and_le_left ha
theorem yA {f g:Nat→Nat} (hf:∀ s,f s<2^64) (hg:∀ s,g s<2^64) (L:Nat):Nat.xor (pk f L) (pk g L)=pk (fun s=>Nat.xor (f s) (g s)) L:=by
  show pk f L ^^^ pk g L=_
  refine Nat.eq_of_testBit_eq fun j=>?_
  rw[apw,lK hf,lK hg,lK (fun s=>Gv (hf s) (hg s))]
  show _=(_&&(f (j / 64) ^^^ g (j / 64)).testBit _)
  rw[apw];cases decide (j / 64<L) <;> simp
theorem CF {f g:Nat→Nat} (hf:∀ s,f s<2^64) (hg:∀ s,g s<2^64) (L:Nat):Nat.land (pk f L) (pk g L)=pk (fun s=>Nat.land (f s) (g s)) L:=by
  show pk f L &&& pk g L=_
  refine Nat.eq_of_testBit_eq fun j=>?_
  rw[Nat.testBit_and,lK hf,lK hg,lK (fun s=>AP (hf s))]
  show _=(_&&(f (j / 64) &&& g (j / 64)).testBit _)
  rw[Nat.testBit_and];cases decide (j / 64<L) <;> simp
def nG:Nat:=4294967295
theorem xZ (j:Nat):nG.testBit j=decide (j<32):=Nat.testBit_two_pow_sub_one 32 j
theorem m64 (s:Nat):(fun _:Nat=>nG) s<2^64:=by show nG<_; decide
def sM (m x y:Nat) (a b c:Nat):Nat:=Nat.land (Nat.xor (Nat.xor (Nat.shiftRight x a) (Nat.shiftRight x b)) (Nat.shiftRight y c)) m
theorem vh (m x y a b c j:Nat):(sM m x y a b c).testBit j=((((x.testBit (a+j)) ^^ (x.testBit (b+j))) ^^ (y.testBit (c+j)))&&m.testBit j):=by
  show (((x >>> a ^^^ x >>> b) ^^^ y >>> c) &&& m).testBit j=_
  simp only[Nat.testBit_and,apw,Nat.testBit_shiftRight]
theorem yB (x y a b c:Nat):sM nG x y a b c<2^32:=ap4 Nat.and_le_right (by decide)
theorem CG {f g:Nat→Nat} (hf:∀ s,f s<2^64) (hg:∀ s,g s<2^64) {a b c:Nat} (ha:a≤32) (hb:b≤32) (hc:c≤32) (L:Nat):sM (pk (fun _=>nG) L) (pk f L) (pk g L) a b c=pk (fun s=>sM nG (f s) (g s) a b c) L:=by
  refine Nat.eq_of_testBit_eq fun j=>?_
  rw[vh,lK hf,lK hf,lK hg,lK m64,lK (fun s=>Nat.lt_trans (yB _ _ _ _ _) (by decide)),vh,xZ];by_cases h:j%64<32
  ·rw[show (a+j) / 64=j / 64 by omega,show (b+j) / 64=j / 64 by omega,show (c+j) / 64=j / 64 by omega,show (a+j)%64=a+j%64 by omega,show (b+j)%64=b+j%64 by omega,show (c+j)%64=c+j%64 by omega];cases decide (j / 64<L) <;> simp
  ·rw[decide_eq_false h]; simp
def nm (x:Nat):Nat:=Nat.mul x 4294967297
def zB (m x:Nat):Nat:=sM m (nm x) (nm x) 6 11 25
def zE (m x:Nat):Nat:=sM m (nm x) (nm x) 2 13 22
def zF (m x:Nat):Nat:=sM m (nm x) x 7 18 3
def zG (m x:Nat):Nat:=sM m (nm x) x 17 19 10
def Ey (e f g:Nat):Nat:=Nat.xor g (Nat.land e (Nat.xor f g))
def Ez (a b c:Nat):Nat:=Nat.xor (Nat.land a (Nat.xor b c)) (Nat.land b c)
theorem ahd {x:Nat} (hx:x<2^32) (j:Nat):(nm x).testBit j=if j<32 then x.testBit j else x.testBit (j-32):=by
  have e:nm x=2^32*x+x:=by show x*4294967297=_; omega
  rw[e,Nat.testBit_two_pow_mul_add _ hx]
theorem IV {x:Nat} (hx:x<2^32) {j:Nat} (h:32≤j):x.testBit j=false:=Nat.testBit_lt_two_pow (Nat.lt_of_lt_of_le hx (Nat.pow_le_pow_right (by decide) h))
theorem oQ (x:UInt32) {r:Nat} (h0:0<r) (h:r<32) {j:Nat} (hj:j<32):(kX x r).toNat.testBit j=(nm x.toNat).testBit (r+j):=by
  have hx:x.toNat<2^32:=x.toNat_lt;rw[ahd hx];unfold kX ov qA pu;rw[UInt32.toNat_or,UInt32.toNat_ofNat',UInt32.toNat_ofNat',Nat.testBit_or,Nat.testBit_mod_two_pow,Nat.testBit_mod_two_pow,decide_eq_true hj,aqp,aqp,Nat.testBit_div_two_pow,aqj,Nat.testBit_two_pow_mul];by_cases hr:r+j<32
  ·rw[if_pos hr,decide_eq_false (show ¬ j≥32-r by omega),Nat.add_comm]; simp
  ·rw[if_neg hr,decide_eq_true (show j≥32-r by omega),aqp,IV hx (by omega),Bool.false_or]
   congr 1; omega
theorem Tv (x:UInt32) {r j:Nat} (hj:j<32):(qA x r).toNat.testBit j=x.toNat.testBit (r+j):=by
  unfold qA;rw[UInt32.toNat_ofNat',Nat.testBit_mod_two_pow,decide_eq_true hj,aqp,Nat.testBit_div_two_pow,Nat.add_comm]
theorem vF {x:Nat} {y:UInt32} (h:∀ j,j<32→x.testBit j=y.toNat.testBit j) (hx:x<2^32):x=y.toNat:=by
  refine Nat.eq_of_testBit_eq fun j=>?_
  by_cases hj:j<32
  ·exact h j hj
  ·rw[IV hx (by omega),IV y.toNat_lt (by omega)]
theorem anC (x:UInt32):zB nG x.toNat=(pD x).toNat:=by
  refine vF (fun j hj=>?_) (yB _ _ _ _ _);unfold zB pD ij;rw[vh,UInt32.toNat_xor,UInt32.toNat_xor,apw,apw,oQ x (by decide) (by decide) hj,oQ x (by decide) (by decide) hj,oQ x (by decide) (by decide) hj,xZ,decide_eq_true hj,aqC]
theorem anD (x:UInt32):zE nG x.toNat=(qI x).toNat:=by
  refine vF (fun j hj=>?_) (yB _ _ _ _ _);unfold zE qI ij;rw[vh,UInt32.toNat_xor,UInt32.toNat_xor,apw,apw,oQ x (by decide) (by decide) hj,oQ x (by decide) (by decide) hj,oQ x (by decide) (by decide) hj,xZ,decide_eq_true hj,aqC]
theorem anF (x:UInt32):zF nG x.toNat=(oY x).toNat:=by
  refine vF (fun j hj=>?_) (yB _ _ _ _ _);unfold zF oY ij;rw[vh,UInt32.toNat_xor,UInt32.toNat_xor,apw,apw,oQ x (by decide) (by decide) hj,oQ x (by decide) (by decide) hj,Tv x hj,xZ,decide_eq_true hj,aqC]
theorem anG (x:UInt32):zG nG x.toNat=(oZ x).toNat:=by
  refine vF (fun j hj=>?_) (yB _ _ _ _ _);unfold zG oZ ij;rw[vh,UInt32.toNat_xor,UInt32.toNat_xor,apw,apw,oQ x (by decide) (by decide) hj,oQ x (by decide) (by decide) hj,Tv x hj,xZ,decide_eq_true hj,aqC]
theorem ahe (x:UInt32) {j:Nat} (hj:j<32):(wn x).toNat.testBit j=!x.toNat.testBit j:=by
  have h:=x.toNat_lt;unfold wn;rw[UInt32.toNat_ofNat_of_lt' (by simp[UInt32.size]; omega),show 4294967295-x.toNat=2^32-(x.toNat+1) by omega,Nat.testBit_two_pow_sub_succ h,decide_eq_true hj,aqp]
theorem anH (e f g:UInt32):Ey e.toNat f.toNat g.toNat=(pM e f g).toNat:=by
  have he:e.toNat<2^32:=e.toNat_lt;have hf:f.toNat<2^32:=f.toNat_lt;have hg:g.toNat<2^32:=g.toNat_lt;refine vF (fun j hj=>?_) (Nat.xor_lt_two_pow hg (ap4 Nat.and_le_left he))
  show (g.toNat ^^^ (e.toNat &&& (f.toNat ^^^ g.toNat))).testBit j=_
  unfold pM ij pq;rw[UInt32.toNat_xor,UInt32.toNat_and,UInt32.toNat_and];simp only[apw,Nat.testBit_and,ahe e hj];cases e.toNat.testBit j <;> cases f.toNat.testBit j <;> cases g.toNat.testBit j <;> rfl
theorem anI (a b c:UInt32):Ez a.toNat b.toNat c.toNat=(qK a b c).toNat:=by
  have ha:a.toNat<2^32:=a.toNat_lt;have hb:b.toNat<2^32:=b.toNat_lt;refine vF (fun j hj=>?_) (Nat.xor_lt_two_pow (ap4 Nat.and_le_left ha) (ap4 Nat.and_le_left hb))
  show ((a.toNat &&& (b.toNat ^^^ c.toNat)) ^^^ (b.toNat &&& c.toNat)).testBit j=_
  unfold qK ij pq;simp only[UInt32.toNat_xor,UInt32.toNat_and,apw,Nat.testBit_and];cases a.toNat.testBit j <;> cases b.toNat.testBit j <;> cases c.toNat.testBit j <;> rfl
structure E8 where
  (a b c d e f g h:Nat)
def kN:List Nat:=[0x428a2f98,0x71374491,0xb5c0fbcf,0xe9b5dba5,0x3956c25b,0x59f111f1,0x923f82a4,0xab1c5ed5,0xd807aa98,0x12835b01,0x243185be,0x550c7dc3,0x72be5d74,0x80deb1fe,0x9bdc06a7,0xc19bf174,0xe49b69c1,0xefbe4786,0x0fc19dc6,0x240ca1cc,0x2de92c6f,0x4a7484aa,0x5cb0a9dc,0x76f988da,0x983e5152,0xa831c66d,0xb00327c8,0xbf597fc7,0xc6e00bf3,0xd5a79147,0x06ca6351,0x14292967,0x27b70a85,0x2e1b2138,0x4d2c6dfc,0x53380d13,0x650a7354,0x766a0abb,0x81c2c92e,0x92722c85,0xa2bfe8a1,0xa81a664b,0xc24b8b70,0xc76c51a3,0xd192e819,0xd6990624,0xf40e3585,0x106aa070,0x19a4c116,0x1e376c08,0x2748774c,0x34b0bcb5,0x391c0cb3,0x4ed8aa4a,0x5b9cca4f,0x682e6ff3,0x748f82ee,0x78a5636f,0x84c87814,0x8cc70208,0x90befffa,0xa4506ceb,0xbef9a3f7,0xc67178f2]
theorem anK:kN=cy.map UInt32.toNat:=by decide
noncomputable def zi (T:Nat→Nat→Nat→Nat→Nat→Nat→Nat) (A:Nat→Nat→Nat→Nat→Nat) (E:Nat→Nat→Nat) (N:Nat→Nat→Nat→Nat→Nat) (ks:List Nat):Nat→Nat→Nat→Nat→Nat→Nat→Nat→Nat→Nat→Nat→Nat→Nat→Nat→Nat→Nat→Nat→Nat→Nat→Nat→Nat→Nat→Nat→Nat→Nat→E8 :=
  @List.rec Nat (fun _=>Nat→Nat→Nat→Nat→Nat→Nat→Nat→Nat→Nat→Nat→Nat→Nat→Nat→Nat→Nat→Nat→Nat→Nat→Nat→Nat→Nat→Nat→Nat→Nat→E8)
    (fun a b c d e f g h _ _ _ _ _ _ _ _ _ _ _ _ _ _ _ _=>E8.mk a b c d e f g h)
    (fun k _ ih a b c d e f g h w0 w1 w2 w3 w4 w5 w6 w7 w8 w9 w10 w11 w12 w13 w14 w15=>(fun t1=>ih (A t1 a b c) a b c (E d t1) e f g w1 w2 w3 w4 w5 w6 w7 w8 w9 w10 w11 w12 w13 w14 w15 (N w0 w1 w9 w14)) (T k h w0 e f g)) ks
section
variable (T:Nat→Nat→Nat→Nat→Nat→Nat→Nat) (A:Nat→Nat→Nat→Nat→Nat) (E:Nat→Nat→Nat) (N:Nat→Nat→Nat→Nat→Nat) (a b c d e f g h w0 w1 w2 w3 w4 w5 w6 w7 w8 w9 w10 w11 w12 w13 w14 w15:Nat)
theorem abJ (k:Nat) (ks:List Nat):zi T A E N (k::ks) a b c d e f g h w0 w1 w2 w3 w4 w5 w6 w7 w8 w9 w10 w11 w12 w13 w14 w15=zi T A E N ks (A (T k h w0 e f g) a b c) a b c (E d (T k h w0 e f g)) e f g w1 w2 w3 w4 w5 w6 w7 w8 w9 w10 w11 w12 w13 w14 w15 (N w0 w1 w9 w14):=rfl
end
def TN (one m k h w e f g:Nat):Nat:=Nat.add (Nat.add h (Nat.add w (Nat.mul k one))) (Nat.add (zB m e) (Ey e f g))
def AN (m t a b c:Nat):Nat:=Nat.land (Nat.add t (Nat.add (zE m a) (Ez a b c))) m
def EN (m d t:Nat):Nat:=Nat.land (Nat.add d t) m
def NN (m w0 w1 w9 w14:Nat):Nat:=Nat.land (Nat.add (Nat.add w0 (zF m w1)) (Nat.add w9 (zG m w14))) m
noncomputable def Kq (P:Nat→Nat→Nat) (s t:E8):E8 :=
  E8.rec (fun a b c d e f g h=>E8.rec (fun a' b' c' d' e' f' g' h'=>E8.mk (P a a') (P b b') (P c c') (P d d') (P e e') (P f f') (P g g') (P h h')) t) s
theorem ahf (P:Nat→Nat→Nat) (a b c d e f g h a' b' c' d' e' f' g' h':Nat):Kq P (E8.mk a b c d e f g h) (E8.mk a' b' c' d' e' f' g' h')=E8.mk (P a a') (P b b') (P c c') (P d d') (P e e') (P f f') (P g g') (P h h'):=rfl
noncomputable def Zc (T:Nat→Nat→Nat→Nat→Nat→Nat→Nat) (A:Nat→Nat→Nat→Nat→Nat) (E:Nat→Nat→Nat) (N:Nat→Nat→Nat→Nat→Nat) (ks:List Nat) (s:E8) (w0 w1 w2 w3 w4 w5 w6 w7 w8 w9 w10 w11 w12 w13 w14 w15:Nat):E8 :=
  E8.rec (fun a b c d e f g h=>zi T A E N ks a b c d e f g h w0 w1 w2 w3 w4 w5 w6 w7 w8 w9 w10 w11 w12 w13 w14 w15) s
theorem ahg (T:Nat→Nat→Nat→Nat→Nat→Nat→Nat) (A:Nat→Nat→Nat→Nat→Nat) (E:Nat→Nat→Nat) (N:Nat→Nat→Nat→Nat→Nat) (ks:List Nat) (a b c d e f g h w0 w1 w2 w3 w4 w5 w6 w7 w8 w9 w10 w11 w12 w13 w14 w15:Nat):Zc T A E N ks (E8.mk a b c d e f g h) w0 w1 w2 w3 w4 w5 w6 w7 w8 w9 w10 w11 w12 w13 w14 w15=zi T A E N ks a b c d e f g h w0 w1 w2 w3 w4 w5 w6 w7 w8 w9 w10 w11 w12 w13 w14 w15:=rfl
noncomputable def D8 (one m:Nat) (s:E8) (w0 w1 w2 w3 w4 w5 w6 w7 w8 w9 w10 w11 w12 w13 w14 w15:Nat):E8:=Kq (EN m) s (Zc (TN one m) (AN m) (EN m) (NN m) kN s w0 w1 w2 w3 w4 w5 w6 w7 w8 w9 w10 w11 w12 w13 w14 w15)
def pw (x:Nat→UInt32) (L:Nat):Nat:=pk (fun s=>(x s).toNat) L
abbrev eb (L:Nat):Nat:=pk (fun _=>1) L
abbrev gX (L:Nat):Nat:=pk (fun _=>nG) L
theorem jb (x:UInt32):x.toNat<2^64:=Nat.lt_trans x.toNat_lt (by decide)
theorem we (x:UInt32):nm x.toNat<2^64:=by
  have:=x.toNat_lt
  show x.toNat*4294967297<_
  omega
theorem CH (x:Nat→UInt32) (L:Nat):nm (pw x L)=pk (fun s=>nm (x s).toNat) L:=IU _ _ _
theorem alC (x:Nat→UInt32) (L:Nat):zB (gX L) (pw x L)=pw (fun s=>pD (x s)) L:=by
  unfold zB;rw[CH,CG (fun s=>we _) (fun s=>we _) (by decide) (by decide) (by decide)];exact iB fun s _=>anC (x s)
theorem alD (x:Nat→UInt32) (L:Nat):zE (gX L) (pw x L)=pw (fun s=>qI (x s)) L:=by
  unfold zE;rw[CH,CG (fun s=>we _) (fun s=>we _) (by decide) (by decide) (by decide)];exact iB fun s _=>anD (x s)
theorem alE (x:Nat→UInt32) (L:Nat):zF (gX L) (pw x L)=pw (fun s=>oY (x s)) L:=by
  unfold zF;rw[CH];unfold pw;rw[CG (fun s=>we _) (fun s=>jb _) (by decide) (by decide) (by decide)];exact iB fun s _=>anF (x s)
theorem alG (x:Nat→UInt32) (L:Nat):zG (gX L) (pw x L)=pw (fun s=>oZ (x s)) L:=by
  unfold zG;rw[CH];unfold pw;rw[CG (fun s=>we _) (fun s=>jb _) (by decide) (by decide) (by decide)];exact iB fun s _=>anG (x s)
theorem alH (e f g:Nat→UInt32) (L:Nat):Ey (pw e L) (pw f L) (pw g L)=pw (fun s=>pM (e s) (f s) (g s)) L:=by
  unfold Ey pw;rw[yA (fun s=>jb _) (fun s=>jb _),CF (fun s=>jb _) (fun s=>Gv (jb _) (jb _)),yA (fun s=>jb _) (fun s=>AP (jb _))];exact iB fun s _=>anH (e s) (f s) (g s)
theorem alI (a b c:Nat→UInt32) (L:Nat):Ez (pw a L) (pw b L) (pw c L)=pw (fun s=>qK (a s) (b s) (c s)) L:=by
  unfold Ez pw;rw[yA (fun s=>jb _) (fun s=>jb _),CF (fun s=>jb _) (fun s=>Gv (jb _) (jb _)),CF (fun s=>jb _) (fun s=>jb _),yA (fun s=>AP (jb _)) (fun s=>AP (jb _))];exact iB fun s _=>anI (a s) (b s) (c s)
theorem adS (x:Nat):Nat.land x nG=x%4294967296:=Nat.and_two_pow_sub_one_eq_mod x 32
theorem CI {f:Nat→Nat} (hf:∀ s,f s<2^64) (L:Nat):Nat.land (pk f L) (gX L)=pk (fun s=>f s%4294967296) L:=by
  rw[CF hf m64];exact iB fun s _=>adS (f s)
def oC (S:cF) (k w:UInt32):Nat:=(S.h.toNat+(w.toNat+k.toNat))+((pD S.e).toNat+(pM S.e S.f S.g).toNat)
theorem anL (S:Nat→cF) (k:UInt32) (w:Nat→UInt32) (L:Nat):TN (eb L) (gX L) k.toNat (pw (fun s=>(S s).h) L) (pw w L) (pw (fun s=>(S s).e) L) (pw (fun s=>(S s).f) L) (pw (fun s=>(S s).g) L)=pk (fun s=>oC (S s) k (w s)) L:=by
  unfold TN;rw[alC,alH,rA];unfold pw;rw[jI,jI,jI,jI];refine iB fun s _=>?_
  show ((S s).h.toNat+((w s).toNat+k.toNat*1))+_=_
  rw[apX]; rfl
theorem YP (S:cF) (k w:UInt32):oC S k w<21474836480:=by
  have h1:=S.h.toNat_lt;have h2:=w.toNat_lt;have h3:=k.toNat_lt;have h4:=(pD S.e).toNat_lt;have h5:=(pM S.e S.f S.g).toNat_lt;unfold oC;omega
theorem anM (S:cF) (k w:UInt32):(oC S k w+((qI S.a).toNat+(qK S.a S.b S.c).toNat))%4294967296=(S.step k w).a.toNat:=by
  show _=(bZ (bZ (bZ (bZ (bZ S.h (pD S.e)) (pM S.e S.f S.g)) k) w) (bZ (qI S.a) (qK S.a S.b S.c))).toNat
  unfold oC bZ;simp only[UInt32.toNat_add];omega
theorem anN (S:cF) (k w:UInt32):(S.d.toNat+oC S k w)%4294967296=(S.step k w).e.toNat:=by
  show _=(bZ S.d (bZ (bZ (bZ (bZ S.h (pD S.e)) (pM S.e S.f S.g)) k) w)).toNat
  unfold oC bZ;simp only[UInt32.toNat_add];omega
theorem ahh (S:Nat→cF) (k:UInt32) (w:Nat→UInt32) (L:Nat):AN (gX L) (pk (fun s=>oC (S s) k (w s)) L) (pw (fun s=>(S s).a) L) (pw (fun s=>(S s).b) L) (pw (fun s=>(S s).c) L)=pw (fun s=>((S s).step k (w s)).a) L:=by
  unfold AN;rw[alD,alI];unfold pw;rw[jI,jI,CI]
  ·exact iB fun s _=>anM (S s) k (w s)
  ·intro s;have h1:=YP (S s) k (w s);have h2:=(qI (S s).a).toNat_lt;have h3:=(qK (S s).a (S s).b (S s).c).toNat_lt
   show oC (S s) k (w s)+((qI (S s).a).toNat+(qK (S s).a (S s).b (S s).c).toNat)<_
   omega
theorem ahi (S:Nat→cF) (k:UInt32) (w:Nat→UInt32) (L:Nat):EN (gX L) (pw (fun s=>(S s).d) L) (pk (fun s=>oC (S s) k (w s)) L)=pw (fun s=>((S s).step k (w s)).e) L:=by
  unfold EN pw;rw[jI,CI]
  ·exact iB fun s _=>anN (S s) k (w s)
  ·intro s;have h1:=YP (S s) k (w s);have h2:=(S s).d.toNat_lt
   show (S s).d.toNat+oC (S s) k (w s)<_
   omega
def tW (w0 w1 w9 w14:UInt32):UInt32:=bZ (bZ (bZ (oZ w14) w9) (oY w1)) w0
theorem anO (w0 w1 w9 w14:UInt32):((w0.toNat+(oY w1).toNat)+(w9.toNat+(oZ w14).toNat))%4294967296=(tW w0 w1 w9 w14).toNat:=by
  unfold tW bZ;simp only[UInt32.toNat_add];omega
theorem ahj (w0 w1 w9 w14:Nat→UInt32) (L:Nat):NN (gX L) (pw w0 L) (pw w1 L) (pw w9 L) (pw w14 L)=pw (fun s=>tW (w0 s) (w1 s) (w9 s) (w14 s)) L:=by
  unfold NN;rw[alE,alG];unfold pw;rw[jI,jI,jI,CI]
  ·exact iB fun s _=>anO _ _ _ _
  ·intro s;have h1:=(w0 s).toNat_lt;have h2:=(oY (w1 s)).toNat_lt;have h3:=(w9 s).toNat_lt;have h4:=(oZ (w14 s)).toNat_lt
   show ((w0 s).toNat+(oY (w1 s)).toNat)+((w9 s).toNat+(oZ (w14 s)).toNat)<_
   omega
def jr:cF→List UInt32→(Nat→UInt32)→cF
  | S,[],_=>S
  | S,k::ks,w=>jr (S.step k (w 0)) ks (fun t=>w (t+1))
theorem Xe (L:Nat):∀ (ks:List UInt32) (S:Nat→cF) (W:Nat→Nat→UInt32),(∀ t s,W (t+16) s=tW (W t s) (W (t+1) s) (W (t+9) s) (W (t+14) s)) →
    zi (TN (eb L) (gX L)) (AN (gX L)) (EN (gX L)) (NN (gX L)) (ks.map UInt32.toNat) (pw (fun s=>(S s).a) L) (pw (fun s=>(S s).b) L) (pw (fun s=>(S s).c) L) (pw (fun s=>(S s).d) L) (pw (fun s=>(S s).e) L) (pw (fun s=>(S s).f) L) (pw (fun s=>(S s).g) L) (pw (fun s=>(S s).h) L) (pw (W 0) L) (pw (W 1) L) (pw (W 2) L) (pw (W 3) L) (pw (W 4) L) (pw (W 5) L) (pw (W 6) L) (pw (W 7) L) (pw (W 8) L) (pw (W 9) L) (pw (W 10) L) (pw (W 11) L) (pw (W 12) L) (pw (W 13) L) (pw (W 14) L) (pw (W 15) L)=E8.mk (pw (fun s=>(jr (S s) ks (fun t=>W t s)).a) L) (pw (fun s=>(jr (S s) ks (fun t=>W t s)).b) L) (pw (fun s=>(jr (S s) ks (fun t=>W t s)).c) L) (pw (fun s=>(jr (S s) ks (fun t=>W t s)).d) L) (pw (fun s=>(jr (S s) ks (fun t=>W t s)).e) L) (pw (fun s=>(jr (S s) ks (fun t=>W t s)).f) L) (pw (fun s=>(jr (S s) ks (fun t=>W t s)).g) L) (pw (fun s=>(jr (S s) ks (fun t=>W t s)).h) L)
  | [],_,_,_=>rfl
  | k::ks,S,W,hW=>by
    have e0:=anL S k (W 0) L;have e1:=ahh S k (W 0) L;have e2:=ahi S k (W 0) L;have e3:=ahj (W 0) (W 1) (W 9) (W 14) L;have e4:(fun s=>tW (W 0 s) (W 1 s) (W 9 s) (W 14 s))=W 16:=funext fun s=>(hW 0 s).symm
    rw[e4] at e3;have ih:=Xe L ks (fun s=>(S s).step k (W 0 s)) (fun t=>W (t+1)) (fun t s=>hW (t+1) s);rw[aos,abJ,e0,e1,e2,e3];exact ih
theorem Le (k:UInt32):∀ (ks:List UInt32) (S:cF) (w:Nat→UInt32),jr S (ks++[k]) w=(jr S ks w).step k (w ks.length)
  | [],_,_=>rfl
  | _::ks,S,w=>Le k ks (S.step _ (w 0)) (fun t=>w (t+1))
theorem KR:∀ (ks:List UInt32) (S:cF) (w v:Nat→UInt32),(∀ t,t<ks.length→w t=v t)→jr S ks w=jr S ks v
  | [],_,_,_,_=>rfl
  | k::ks,S,w,v,h=>by
    rw[jr,jr,h 0 (by simp)];exact KR ks _ _ _ fun t ht=>h (t+1) (by simpa using ht)
theorem KS (S:cF) (ks w:List UInt32):∀ n,n≤ks.length→S.rounds ks w n=jr S (ks.take n) (fun t=>w.getD t 0)
  | 0,_=>rfl
  | n+1,h=>by
    rw[cF.rounds,KS S ks w n (by omega),apr (by omega),Le,aow,apM (by omega),aor,aon (by omega)];rfl
theorem AQ (b:List UInt8):∀ n,(dm b n).length=16+n
  | 0=>by unfold dm jd; simp
  | n+1=>by rw[dm,aoq,AQ b n]; rfl
theorem FK (b:List UInt8) {j:Nat}:∀ (n d:Nat),j<16+n→(dm b (n+d)).getD j 0=(dm b n).getD j 0
  | _,0,_=>rfl
  | n,d+1,h=>by
    rw[← aqA,dm,aor,apb (by rw[AQ]; omega),← aor,FK b n d h]
theorem uB (b:List UInt8) {j m n:Nat} (h1:j<16+m) (h2:j<16+n):(dm b m).getD j 0=(dm b n).getD j 0:=by
  rcases Nat.le_total m n with h | h
  ·obtain⟨d,rfl⟩:=Nat.exists_eq_add_of_le h;exact (FK b m d h1).symm
  ·obtain⟨d,rfl⟩:=Nat.exists_eq_add_of_le h;exact FK b n d h2
def wS (b:List UInt8) (t:Nat):UInt32:=(dm b t).getD t 0
theorem alJ (b:List UInt8) (t:Nat):wS b (t+16)=tW (wS b t) (wS b (t+1)) (wS b (t+9)) (wS b (t+14)):=by
  have e:dm b (t+1)=dm b t++[pg (dm b t) (16+t)]:=rfl;have key:(dm b (t+1)).getD (t+16) 0=pg (dm b t) (16+t):=by
    rw[e,aor,aoV (by rw[AQ]; omega),AQ,show t+16-(16+t)=0 by omega]; rfl
  unfold wS;rw[uB b (show t+16<16+(t+16) by omega) (show t+16<16+(t+1) by omega),key];unfold pg tW;rw[show 16+t-2=t+14 by omega,show 16+t-7=t+9 by omega,show 16+t-15=t+1 by omega,show 16+t-16=t by omega];rw[uB b (show t+14<16+t by omega) (show t+14<16+(t+14) by omega),uB b (show t+9<16+t by omega) (show t+9<16+(t+9) by omega),uB b (show t+1<16+t by omega) (show t+1<16+(t+1) by omega)]
theorem anQ (b:List UInt8) {t:Nat} (h:t<16):wS b t=cZ b t:=by
  unfold wS;rw[uB b (show t<16+t by omega) (show t<16+0 by omega)];unfold dm jd;rw[aor,apk,apZ h]; rfl
theorem ZM (h:List UInt32) (b:List UInt8):(cF.of h).rounds cy (fT b) 64=jr (cF.of h) cy (wS b):=by
  rw[KS _ _ _ 64 (by rw[xr]; omega)];have e:cy.take 64=cy:=aot (by rw[xr]; omega);rw[e];refine KR _ _ _ _ fun t ht=>?_
  rw[xr] at ht
  show (dm b 48).getD t 0=(dm b t).getD t 0
  exact uB b (by omega) (by omega)
def sN (H:Nat→List UInt32) (L:Nat):E8:=E8.mk (pw (fun s=>(H s).getD 0 0) L) (pw (fun s=>(H s).getD 1 0) L) (pw (fun s=>(H s).getD 2 0) L) (pw (fun s=>(H s).getD 3 0) L) (pw (fun s=>(H s).getD 4 0) L) (pw (fun s=>(H s).getD 5 0) L) (pw (fun s=>(H s).getD 6 0) L) (pw (fun s=>(H s).getD 7 0) L)
theorem alK (x y:Nat→UInt32) (L:Nat):EN (gX L) (pw x L) (pw y L)=pw (fun s=>bZ (x s) (y s)) L:=by
  unfold EN pw;rw[jI,CI]
  ·refine iB fun s _=>?_
   unfold bZ;rw[UInt32.toNat_add]; rfl
  ·intro s;have h1:=(x s).toNat_lt;have h2:=(y s).toNat_lt
   show (x s).toNat+(y s).toNat<_
   omega
theorem Xf (H:Nat→List UInt32) (b:Nat→List UInt8) (L:Nat):D8 (eb L) (gX L) (sN H L) (pw (fun s=>cZ (b s) 0) L) (pw (fun s=>cZ (b s) 1) L) (pw (fun s=>cZ (b s) 2) L) (pw (fun s=>cZ (b s) 3) L) (pw (fun s=>cZ (b s) 4) L) (pw (fun s=>cZ (b s) 5) L) (pw (fun s=>cZ (b s) 6) L) (pw (fun s=>cZ (b s) 7) L) (pw (fun s=>cZ (b s) 8) L) (pw (fun s=>cZ (b s) 9) L) (pw (fun s=>cZ (b s) 10) L) (pw (fun s=>cZ (b s) 11) L) (pw (fun s=>cZ (b s) 12) L) (pw (fun s=>cZ (b s) 13) L) (pw (fun s=>cZ (b s) 14) L) (pw (fun s=>cZ (b s) 15) L)=sN (fun s=>mV (H s) (b s)) L:=by
  have hw:∀ t,t<16→(fun s=>cZ (b s) t)=(fun s=>wS (b s) t):=fun t ht=>funext fun s=>(anQ (b s) ht).symm
  rw[hw 0 (by decide),hw 1 (by decide),hw 2 (by decide),hw 3 (by decide),hw 4 (by decide),hw 5 (by decide),hw 6 (by decide),hw 7 (by decide),hw 8 (by decide),hw 9 (by decide),hw 10 (by decide),hw 11 (by decide),hw 12 (by decide),hw 13 (by decide),hw 14 (by decide),hw 15 (by decide)];have hr:=Xe L cy (fun s=>cF.of (H s)) (fun t s=>wS (b s) t) (fun t s=>alJ (b s) t);unfold D8 sN;rw[ahg,anK];refine (congrArg (Kq (EN (gX L)) _) hr).trans ?_;rw[ahf];simp only[alK];have hb:∀ s,mV (H s) (b s)=(jr (cF.of (H s)) cy (fun t=>wS (b s) t)).sum (H s):=fun s=>by
    unfold mV; rw[ZM]
  simp only[hb];rfl
def wJ (b:List UInt8):Nat:=b.foldl (fun a x=>a*256+x.toNat) 0
theorem abK (b:List UInt8) (x:UInt8):wJ (b++[x])=wJ b*256+x.toNat:=by unfold wJ; rw[List.foldl_append]; rfl
theorem Gw (v:Nat):∀ n,wJ (aC v n)=v%256^n
  | 0=>by simp[aC,wJ,Nat.mod_one]
  | n+1=>by
    have e:aC v (n+1)=aC (v / 256) n++[UInt8.ofNat v]:=by
      unfold aC;rw[apv,aoH]
      congr 1
      ·apply ao1;intro i hi;have hi:=apI.1 hi;rw[show n+1-1-i=(n-1-i)+1 by omega,Nat.pow_succ,aqj,Nat.div_div_eq_div_mul]
      ·simp
    rw[e,abK,Gw (v / 256) n,UInt8.toNat_ofNat',show 256^(n+1)=256*256^n from Nat.pow_succ',Nat.mod_mul];omega
theorem Ng (h:List UInt32) (b c:List UInt8):∀ n,64*n≤b.length→d9 h (b++c) n=d9 h b n
  | 0,_=>rfl
  | n+1,hn=>by
    rw[d9,d9,Ng h b c n (by omega),aqq (by omega),apn (by rw[aoB]; omega)]
theorem LC (h:List UInt32) (p:List UInt8) (q:Nat):∀ m,d9 (d9 h p q) (p.drop (64*q)) m=d9 h p (q+m)
  | 0=>rfl
  | m+1=>by
    rw[← aqA,d9,d9,LC h p q m,ap8,Nat.mul_add]
def pj (n:Nat):List UInt8:=[128]++List.replicate ((119-n%64)%64) 0++aC (n*8) 8
theorem abL (n:Nat):n+(pj n).length=64*((n+8) / 64+1):=by
  unfold pj;simp only[aoq,aoR,bO,ao6];omega
theorem Qo (b:List UInt8):dM b=ig (d9 dW (b++pj b.length) ((b.length+8) / 64+1)):=by
  have hl:=abL b.length;have hd:64*(b.length / 64)≤b.length:=by omega
  have hp:iq (b.drop (64*(b.length / 64))) b.length=(b++pj b.length).drop (64*(b.length / 64)):=by
    unfold iq pj;rw[aqq hd,aoB,show b.length-64*(b.length / 64)=b.length%64 by omega];simp only[aoC]
  unfold dM oe;rw[hp,← Ng dW b (pj b.length) _ hd,LC,aoB,aoq,hl]
  congr 2; omega

theorem vG (c:UInt32) (L:Nat):Nat.mul c.toNat (eb L)=pw (fun _=>c) L:=by
  rw[rA];exact iB fun s _=>apX _
theorem Tw (L:Nat):0=pw (fun _=>0) L:=by
  have:=vG 0 L;rw[← this]; exact (aqc _).symm
def b4 (w:UInt32):List UInt8:=[UInt8.ofNat (w.toNat / 16777216),UInt8.ofNat (w.toNat / 65536),UInt8.ofNat (w.toNat / 256),UInt8.ofNat w.toNat]
theorem ahk (w:UInt32):aC w.toNat 4=b4 w:=by
  show [UInt8.ofNat (w.toNat / 16777216),UInt8.ofNat (w.toNat / 65536),UInt8.ofNat (w.toNat / 256),UInt8.ofNat (w.toNat / 1)]=_
  rw[Nat.div_one]; rfl
theorem n0 (w:UInt32):(UInt8.ofNat w.toNat).toNat=w.toNat%256:=UInt8.toNat_ofNat'
theorem n1 (w:UInt32):(UInt8.ofNat (w.toNat / 256)).toNat=w.toNat / 256%256:=UInt8.toNat_ofNat'
theorem n2 (w:UInt32):(UInt8.ofNat (w.toNat / 65536)).toNat=w.toNat / 65536%256:=UInt8.toNat_ofNat'
theorem n3 (w:UInt32):(UInt8.ofNat (w.toNat / 16777216)).toNat=w.toNat / 16777216%256:=UInt8.toNat_ofNat'
theorem Xg {p:List UInt8} {t:Nat} (h0:p.getD (4*t) 0=0) (h1:p.getD (4*t+1) 0=0) (h2:p.getD (4*t+2) 0=0) (h3:p.getD (4*t+3) 0=0):cZ p t=0:=by
  rw[← UInt32.toNat_inj,xu,h0,h1,h2,h3]; rfl
theorem Xh {p:List UInt8} {t:Nat} {a b:UInt8} {c:UInt32} (h0:p.getD (4*t) 0=0) (h1:p.getD (4*t+1) 0=0) (h2:p.getD (4*t+2) 0=a) (h3:p.getD (4*t+3) 0=b) (hc:a.toNat*256+b.toNat=c.toNat):cZ p t=c:=by
  rw[← UInt32.toNat_inj,xu,h0,h1,h2,h3,← hc];have z:(0:UInt8).toNat=0:=by decide
  simp only[z,aqc,aph]
noncomputable def D9 (one:Nat):E8:=E8.mk (Nat.mul 1779033703 one) (Nat.mul 3144134277 one) (Nat.mul 1013904242 one) (Nat.mul 2773480762 one) (Nat.mul 1359893119 one) (Nat.mul 2600822924 one) (Nat.mul 528734635 one) (Nat.mul 1541459225 one)
theorem Xi (L:Nat):D9 (eb L)=sN (fun _=>dW) L:=by
  have h:=fun c=>vG c L
  unfold D9 sN;exact (congr (congr (congr (congr (congr (congr (congr (congrArg E8.mk (h 1779033703)) (h 3144134277)) (h 1013904242)) (h 2773480762)) (h 1359893119)) (h 2600822924)) (h 528734635)) (h 1541459225))

noncomputable def jS {α:Type} (n:Nat) (k:Nat→α):α:=@Nat.rec (fun _=>α) (k 0) (fun m _=>k (Nat.succ m)) n
theorem kh {α:Type} (n:Nat) (k:Nat→α):jS n k=k n:=by cases n <;> rfl
theorem IW {p:List UInt8} {t:Nat} {w:UInt32} (h0:(p.getD (4*t) 0).toNat=w.toNat / 16777216%256) (h1:(p.getD (4*t+1) 0).toNat=w.toNat / 65536%256) (h2:(p.getD (4*t+2) 0).toNat=w.toNat / 256%256) (h3:(p.getD (4*t+3) 0).toNat=w.toNat%256):cZ p t=w:=by
  have:=w.toNat_lt;rw[← UInt32.toNat_inj,xu,h0,h1,h2,h3];omega
theorem Xj {p:List UInt8} {t:Nat} {w:UInt32} {a b c d:UInt8} (h0:p.getD (4*t) 0=a) (h1:p.getD (4*t+1) 0=b) (h2:p.getD (4*t+2) 0=c) (h3:p.getD (4*t+3) 0=d) (hc:((a.toNat*256+b.toNat)*256+c.toNat)*256+d.toNat=w.toNat):cZ p t=w:=by
  rw[← UInt32.toNat_inj,xu,h0,h1,h2,h3,hc]
def mr (x:UInt32):List UInt8:=(aC x.toNat 8++aC 0 4)++pj 12
def zj (x:UInt32):List UInt32:=mV dW ((mr x).take 64)
theorem alL (x:UInt32):aC x.toNat 8=0::0::0::0::b4 x:=by
  have hx:=x.toNat_lt;have z:∀ k,4294967296≤k→UInt8.ofNat (x.toNat / k)=0:=fun k hk=>by
    rw[Nat.div_eq_of_lt (by omega)]; rfl
  have e:aC x.toNat 8=[UInt8.ofNat (x.toNat / 72057594037927936),UInt8.ofNat (x.toNat / 281474976710656),UInt8.ofNat (x.toNat / 1099511627776),UInt8.ofNat (x.toNat / 4294967296)]++aC x.toNat 4:=rfl;rw[e,ahk,z _ (by decide),z _ (by decide),z _ (by decide),z _ (by decide)]; rfl
theorem anR (x:UInt32):nV x.toNat 0=ig (zj x):=by
  have h1:(aC x.toNat 8++aC 0 4).length=12:=by simp[bO]
  unfold nV;rw[Qo,h1]; rfl
set_option maxRecDepth 20000 in
theorem Du (x:UInt32):(mr x).take 64=0::0::0::0::UInt8.ofNat (x.toNat / 16777216)::UInt8.ofNat (x.toNat / 65536)::UInt8.ofNat (x.toNat / 256)::UInt8.ofNat x.toNat::0::0::0::0::128::0::0::0::0::0::0::0::0::0::0::0::0::0::0::0::0::0::0::0::0::0::0::0::0::0::0::0::0::0::0::0::0::0::0::0::0::0::0::0::0::0::0::0::0::0::0::0::0::0::0::96::[]:=by
  have ht:pj 12=128::(List.replicate 50 0++[96]):=by decide
  have hz:aC 0 4=[0,0,0,0]:=by decide
  have e:mr x=0::0::0::0::UInt8.ofNat (x.toNat / 16777216)::UInt8.ofNat (x.toNat / 65536)::UInt8.ofNat (x.toNat / 256)::UInt8.ofNat x.toNat::0::0::0::0::128::0::0::0::0::0::0::0::0::0::0::0::0::0::0::0::0::0::0::0::0::0::0::0::0::0::0::0::0::0::0::0::0::0::0::0::0::0::0::0::0::0::0::0::0::0::0::0::0::0::0::96::[]:=by
    unfold mr;rw[alL,ht,hz];simp only[b4,ape,apa,List.replicate]
  rw[e]; rfl
set_option maxRecDepth 20000 in
theorem anS (x:UInt32):∀ t,t<15→t≠1→t≠3→cZ ((mr x).take 64) t=0:=by
  intro t h1 h2 h3;rw[Du];have:t=0∨t=2∨t=4∨t=5∨t=6∨t=7∨t=8∨t=9∨t=10∨t=11∨t=12∨t=13∨t=14:=by omega
  rcases this with rfl | rfl | rfl | rfl | rfl | rfl | rfl | rfl | rfl | rfl | rfl | rfl | rfl <;> exact Xg rfl rfl rfl rfl
set_option maxRecDepth 20000 in
theorem anT (x:UInt32):cZ ((mr x).take 64) 1=x:=by
  rw[Du]; exact IW (n3 _) (n2 _) (n1 _) (n0 _)
set_option maxRecDepth 20000 in
theorem anV (x:UInt32):cZ ((mr x).take 64) 3=2147483648:=by
  rw[Du]; exact Xj (a:=128) (b:=0) (c:=0) (d:=0) rfl rfl rfl rfl (by decide)
set_option maxRecDepth 20000 in
theorem anW (x:UInt32):cZ ((mr x).take 64) 15=96:=by
  rw[Du]; exact Xh rfl rfl rfl rfl rfl
noncomputable def sB (one m X:Nat):E8:=D8 one m (D9 one) 0 X 0 (Nat.mul 2147483648 one) 0 0 0 0 0 0 0 0 0 0 0 (Nat.mul 96 one)
theorem Tx (x:Nat→UInt32) (L:Nat):sB (eb L) (gX L) (pw x L)=sN (fun s=>zj (x s)) L:=by
  have g:=Xf (fun _=>dW) (fun s=>(mr (x s)).take 64) L;have z:∀ t,t<15→t≠1→t≠3→(fun s=>cZ ((mr (x s)).take 64) t)=fun _=>0:=fun t h1 h2 h3=>funext fun s=>anS (x s) t h1 h2 h3
  have v1:(fun s=>cZ ((mr (x s)).take 64) 1)=x:=funext fun s=>anT (x s)
  have v3:(fun s=>cZ ((mr (x s)).take 64) 3)=fun _=>2147483648:=funext fun s=>anV (x s)
  have ve:(fun s=>cZ ((mr (x s)).take 64) 15)=fun _=>96:=funext fun s=>anW (x s)
  have c2:Nat.mul 2147483648 (eb L)=pw (fun _=>2147483648) L:=vG 2147483648 L;have c3:Nat.mul 96 (eb L)=pw (fun _=>96) L:=vG 96 L;rw[v1,v3,ve,z 0 (by decide) (by decide) (by decide),z 2 (by decide) (by decide) (by decide),z 4 (by decide) (by decide) (by decide),z 5 (by decide) (by decide) (by decide),z 6 (by decide) (by decide) (by decide),z 7 (by decide) (by decide) (by decide),z 8 (by decide) (by decide) (by decide),z 9 (by decide) (by decide) (by decide),z 10 (by decide) (by decide) (by decide),z 11 (by decide) (by decide) (by decide),z 12 (by decide) (by decide) (by decide),z 13 (by decide) (by decide) (by decide),z 14 (by decide) (by decide) (by decide),← Tw,← Xi] at g;unfold sB;rw[c2,c3];exact g
inductive Tr where
  | lf (c:Nat)
  | nd (a b:Tr)
deriving DecidableEq
theorem alM (x y:Nat→UInt32) (L:Nat):Nat.xor (pw x L) (pw y L)=pw (fun s=>ij (x s) (y s)) L:=by
  unfold pw;rw[yA (fun s=>jb _) (fun s=>jb _)];exact iB fun s _=>(UInt32.toNat_xor _ _).symm
theorem abM {x:Nat→UInt32} {L s:Nat} (h:Nat.beq (Nat.land (Nat.shiftRight (Nat.add (pw x L) (Nat.mul 4294967295 (eb L))) 32) (eb L)) (eb L)=true) (hs:s<L):x s≠0:=by
  intro h0;have e:=Nat.eq_of_beq_eq_true h;have h1:∀ s:Nat,(fun _:Nat=>1) s<2^64:=fun _=>(by decide:1<2^64)
  have hg:∀ s,Nat.add (x s).toNat (Nat.mul 4294967295 1)<2^64:=fun s=>by
    have:=(x s).toNat_lt
    show (x s).toNat+4294967295*1<_
    omega
  have e2:Nat.add (pw x L) (Nat.mul 4294967295 (eb L))=pk (fun s=>Nat.add (x s).toNat (Nat.mul 4294967295 1)) L:=by
    unfold pw;rw[rA,jI]
  rw[e2] at e;have e3:((pk (fun s=>Nat.add (x s).toNat (Nat.mul 4294967295 1)) L >>> 32) &&& eb L).testBit (64*s)=(eb L).testBit (64*s):=congrArg (fun n=>Nat.testBit n (64*s)) e;rw[Nat.testBit_and,Nat.testBit_shiftRight,lK hg,lK h1,show (32+64*s) / 64=s by omega,show (32+64*s)%64=32 by omega,show 64*s / 64=s by omega,show 64*s%64=0 by omega,decide_eq_true hs,h0] at e3
  revert e3
  decide
def t2:Tr:=.nd (.lf 0) (.lf 1)
def t23:Tr:=.nd (.lf 2) (.lf 3)
def t4:Tr:=.nd t2 t23
noncomputable def sO (s:E8):Nat:=E8.rec (fun a _ _ _ _ _ _ _=>a) s
theorem JX (A:Nat→List UInt32) (L:Nat):sO (sN A L)=pw (fun s=>(A s).getD 0 0) L:=rfl
def zk (on one a b:Nat):Bool:=Nat.beq (Nat.land (Nat.shiftRight (Nat.add (Nat.xor a b) on) 32) one) one
theorem HD {x y:Nat→UInt32} {L s:Nat} (h:zk (Nat.mul 4294967295 (eb L)) (eb L) (pw x L) (pw y L)=true) (hs:s<L):x s≠y s:=by
  intro e;unfold zk at h;rw[alM] at h;refine abM h hs ?_;rw[e];simp[ij]
noncomputable def zm (F:Nat→Nat) (D:Nat→Nat→Bool) (os:List Nat):List Nat→Bool :=
  @List.rec Nat (fun _=>List Nat→Bool) (fun _=>true) (fun o _ ih acc=>jS (F o) fun w=>cond (acc.all (D w)) (ih (w::acc)) false) os
theorem abN (F:Nat→Nat) (D:Nat→Nat→Bool) (o:Nat) (os acc:List Nat):zm F D (o::os) acc=cond (acc.all (D (F o))) (zm F D os (F o::acc)) false:=kh (F o) fun w=>cond (acc.all (D w)) (zm F D os (w::acc)) false
theorem Ty {F:Nat→Nat} {D:Nat→Nat→Bool}:∀ {os acc:List Nat},zm F D os acc=true→os.Pairwise (fun a b=>D (F b) (F a)=true)∧∀ o∈os,∀ w∈acc,D (F o) w=true
  | [],_,_=>⟨List.Pairwise.nil,fun o ho=>by cases ho⟩
  | o::os,acc,h=>by
    rw[abN] at h;cases hc:acc.all (D (F o)) with
    | false=>rw[hc,cond_false] at h; cases h
    | true =>
      rw[hc,cond_true] at h;obtain⟨h1,h2⟩:=Ty h;refine⟨List.Pairwise.cons (fun b hb=>h2 b hb _ (aoW ..)) h1,fun b hb w hw=>?_⟩;rcases aoK.1 hb with rfl | hb
      ·exact aoE.1 hc w hw
      ·exact h2 b hb w (aoQ _ hw)
def l9 (x:Nat):UInt32:=(zj (UInt32.ofNat x)).getD 0 0
noncomputable def Kr (os:List Nat) (L:Nat):Bool:=jS (eb L) fun one=>jS (gX L) fun m=>jS (pk (fun s=>s) L) fun io=>jS (Nat.mul 4294967295 one) fun on=>zm (fun o=>sO (sB one m (Nat.add io (Nat.mul o one)))) (zk on one) os []
theorem ahl {os:List Nat} {L:Nat} (h:Kr os L=true) (hL:L≤100000) (hos:∀ o∈os,o≤4000000000) {s:Nat} (hs:s<L):os.Pairwise fun a b=>l9 (s+a)≠l9 (s+b):=by
  unfold Kr at h;rw[kh,kh,kh,kh] at h;have h1:=(Ty h).1;have key:∀ o,o≤4000000000→sO (sB (eb L) (gX L) (Nat.add (pk (fun s=>s) L) (Nat.mul o (eb L))))=pw (fun s=>l9 (s+o)) L:=fun o ho=>by
    have e:Nat.add (pk (fun s=>s) L) (Nat.mul o (eb L))=pw (fun s=>UInt32.ofNat (s+o)) L:=by
      rw[rA,jI];refine iB fun s hs=>?_
      rw[UInt32.toNat_ofNat_of_lt' (by simp only[UInt32.size]; omega)]
      show s+o*1=_
      omega
    rw[e,Tx,JX];rfl
  refine List.Pairwise.imp_of_mem ?_ h1;intro a b ha hb hd;rw[key a (hos a ha),key b (hos b hb)] at hd;exact (HD hd hs).symm
theorem Bt {x n:Nat} (hx:x<4294967296) (hn:4≤n):(bd (x:Int) (n:Int)).take 4=aC (l9 x).toNat 4:=by
  have e1:((x:Int)%18446744073709551616).toNat=x:=by omega
  have e2:((n:Int).toNat+31) / 32=((n:Int).toNat+31) / 32-1+1:=by omega
  have e3:kn x (((n:Int).toNat+31) / 32)=nV x 0++(((List.range (((n:Int).toNat+31) / 32-1)).map Nat.succ).map (nV x)).flatten:=by
    unfold kn;rw[e2,List.range_succ_eq_map,aos,apd];rfl
  have hw:=anR (UInt32.ofNat x);rw[UInt32.toNat_ofNat_of_lt' (show x<UInt32.size by simp only[UInt32.size]; omega)] at hw;have hl:(zj (UInt32.ofNat x)).length=8:=zP _ _;unfold bd;rw[e1,e3,hw,aqe,apM (by omega)];unfold l9
  match zj (UInt32.ofNat x),hl with
  | [a,b,c,d,e,f,g,i],_ =>
    unfold ig;simp only[aoL,aoC];exact aqx (bO _ _)
theorem IX {a b:UInt32} (h:aC a.toNat 4=aC b.toNat 4):a=b:=by
  have e:=congrArg wJ h;rw[Gw,Gw,aqH (show a.toNat<256^4 from a.toNat_lt),aqH (show b.toNat<256^4 from b.toNat_lt)] at e;exact UInt32.toNat_inj.1 e
theorem anX {x y n m:Nat} (hx:x<4294967296) (hy:y<4294967296) (hn:4≤n) (hm:4≤m) (h:l9 x≠l9 y):(bd (x:Int) (n:Int)).take 4≠(bd (y:Int) (m:Int)).take 4:=by
  rw[Bt hx hn,Bt hy hm];exact fun e=>h (IX e)

def Dv:List Nat:=[2000000,4000000]++(((List.range 8).map fun i=>77+i)++(((List.range 8).map fun i=>999+i)++(List.range 3).flatMap fun i=>(List.range 8).map fun k=>800000000+1000*i+k))
set_option maxRecDepth 100000 in
theorem alO:Kr Dv 1000=true:=by decide +kernel
theorem IY:∀ o∈Dv,o≤4000000000:=by decide +kernel
theorem anY {s:Nat} (hs:s<1000):(Dv.map fun o=>bd ((s+o:Nat):Int) 16).Nodup:=by
  rw[aqd,List.pairwise_map];refine (List.Pairwise.imp_of_mem ?_ (ahl alO (by decide) IY hs));intro a b ha hb hab e;have h1:=IY a ha;have h2:=IY b hb;exact anX (n:=16) (m:=16) (by omega) (by omega) (by decide) (by decide) hab (congrArg (List.take 4) e)
def kW (h x:UInt32):List UInt8:=(aC (h.toNat*4294967296+x.toNat) 8++aC 0 4)++pj 12
def yS (h x:UInt32):List UInt32:=mV dW ((kW h x).take 64)
theorem ahp (h x:UInt32):aC (h.toNat*4294967296+x.toNat) 8=b4 h++b4 x:=by
  have hx:=x.toNat_lt;have e:aC (h.toNat*4294967296+x.toNat) 8=[UInt8.ofNat ((h.toNat*4294967296+x.toNat) / 72057594037927936),UInt8.ofNat ((h.toNat*4294967296+x.toNat) / 281474976710656),UInt8.ofNat ((h.toNat*4294967296+x.toNat) / 1099511627776),UInt8.ofNat ((h.toNat*4294967296+x.toNat) / 4294967296),UInt8.ofNat ((h.toNat*4294967296+x.toNat) / 16777216),UInt8.ofNat ((h.toNat*4294967296+x.toNat) / 65536),UInt8.ofNat ((h.toNat*4294967296+x.toNat) / 256),UInt8.ofNat (h.toNat*4294967296+x.toNat)]:=by
    unfold aC;simp[apv,List.range_zero]
  have u:∀ a b:Nat,a%256=b%256→UInt8.ofNat a=UInt8.ofNat b:=fun a b e=>UInt8.toNat_inj.1 (by rw[UInt8.toNat_ofNat',UInt8.toNat_ofNat']; exact e)
  rw[e];unfold b4;rw[u ((h.toNat*4294967296+x.toNat) / 72057594037927936) (h.toNat / 16777216) (by omega),u ((h.toNat*4294967296+x.toNat) / 281474976710656) (h.toNat / 65536) (by omega),u ((h.toNat*4294967296+x.toNat) / 1099511627776) (h.toNat / 256) (by omega),u ((h.toNat*4294967296+x.toNat) / 4294967296) h.toNat (by omega),u ((h.toNat*4294967296+x.toNat) / 16777216) (x.toNat / 16777216) (by omega),u ((h.toNat*4294967296+x.toNat) / 65536) (x.toNat / 65536) (by omega),u ((h.toNat*4294967296+x.toNat) / 256) (x.toNat / 256) (by omega),u (h.toNat*4294967296+x.toNat) x.toNat (by omega)];rfl
theorem alT (h x:UInt32):nV (h.toNat*4294967296+x.toNat) 0=ig (yS h x):=by
  have h1:(aC (h.toNat*4294967296+x.toNat) 8++aC 0 4).length=12:=by simp[bO]
  unfold nV;rw[Qo,h1]; rfl
set_option maxRecDepth 20000 in
theorem yC (h x:UInt32):(kW h x).take 64=UInt8.ofNat (h.toNat / 16777216)::UInt8.ofNat (h.toNat / 65536)::UInt8.ofNat (h.toNat / 256)::UInt8.ofNat h.toNat::UInt8.ofNat (x.toNat / 16777216)::UInt8.ofNat (x.toNat / 65536)::UInt8.ofNat (x.toNat / 256)::UInt8.ofNat x.toNat::0::0::0::0::128::0::0::0::0::0::0::0::0::0::0::0::0::0::0::0::0::0::0::0::0::0::0::0::0::0::0::0::0::0::0::0::0::0::0::0::0::0::0::0::0::0::0::0::0::0::0::0::0::0::0::96::[]:=by
  have ht:pj 12=128::(List.replicate 50 0++[96]):=by decide
  have hz:aC 0 4=[0,0,0,0]:=by decide
  have e:kW h x=UInt8.ofNat (h.toNat / 16777216)::UInt8.ofNat (h.toNat / 65536)::UInt8.ofNat (h.toNat / 256)::UInt8.ofNat h.toNat::UInt8.ofNat (x.toNat / 16777216)::UInt8.ofNat (x.toNat / 65536)::UInt8.ofNat (x.toNat / 256)::UInt8.ofNat x.toNat::0::0::0::0::128::0::0::0::0::0::0::0::0::0::0::0::0::0::0::0::0::0::0::0::0::0::0::0::0::0::0::0::0::0::0::0::0::0::0::0::0::0::0::0::0::0::0::0::0::0::0::0::0::0::0::96::[]:=by
    unfold kW;rw[ahp,ht,hz];simp only[b4,ape,apa,List.replicate]
  rw[e]; rfl
set_option maxRecDepth 20000 in
theorem alU (h x:UInt32):∀ t,t<15→t≠0→t≠1→t≠3→cZ ((kW h x).take 64) t=0:=by
  intro t h1 h0 h2 h3;rw[yC];have:t=2∨t=4∨t=5∨t=6∨t=7∨t=8∨t=9∨t=10∨t=11∨t=12∨t=13∨t=14:=by omega
  rcases this with rfl | rfl | rfl | rfl | rfl | rfl | rfl | rfl | rfl | rfl | rfl | rfl <;> exact Xg rfl rfl rfl rfl
set_option maxRecDepth 20000 in
theorem alV (h x:UInt32):cZ ((kW h x).take 64) 0=h:=by
  rw[yC]; exact IW (n3 _) (n2 _) (n1 _) (n0 _)
set_option maxRecDepth 20000 in
theorem alW (h x:UInt32):cZ ((kW h x).take 64) 1=x:=by
  rw[yC]; exact IW (n3 _) (n2 _) (n1 _) (n0 _)
set_option maxRecDepth 20000 in
theorem alX (h x:UInt32):cZ ((kW h x).take 64) 3=2147483648:=by
  rw[yC]; exact Xj (a:=128) (b:=0) (c:=0) (d:=0) rfl rfl rfl rfl (by decide)
set_option maxRecDepth 20000 in
theorem alY (h x:UInt32):cZ ((kW h x).take 64) 15=96:=by
  rw[yC]; exact Xh rfl rfl rfl rfl rfl
noncomputable def JY (one m H X:Nat):E8:=D8 one m (D9 one) H X 0 (Nat.mul 2147483648 one) 0 0 0 0 0 0 0 0 0 0 0 (Nat.mul 96 one)
theorem adU (h x:Nat→UInt32) (L:Nat):JY (eb L) (gX L) (pw h L) (pw x L)=sN (fun s=>yS (h s) (x s)) L:=by
  have g:=Xf (fun _=>dW) (fun s=>(kW (h s) (x s)).take 64) L;have z:∀ t,t<15→t≠0→t≠1→t≠3→(fun s=>cZ ((kW (h s) (x s)).take 64) t)=fun _=>0:=fun t h1 h0 h2 h3=>funext fun s=>alU (h s) (x s) t h1 h0 h2 h3
  have v0:(fun s=>cZ ((kW (h s) (x s)).take 64) 0)=h:=funext fun s=>alV (h s) (x s)
  have v1:(fun s=>cZ ((kW (h s) (x s)).take 64) 1)=x:=funext fun s=>alW (h s) (x s)
  have v3:(fun s=>cZ ((kW (h s) (x s)).take 64) 3)=fun _=>2147483648:=funext fun s=>alX (h s) (x s)
  have ve:(fun s=>cZ ((kW (h s) (x s)).take 64) 15)=fun _=>96:=funext fun s=>alY (h s) (x s)
  have c2:Nat.mul 2147483648 (eb L)=pw (fun _=>2147483648) L:=vG 2147483648 L;have c3:Nat.mul 96 (eb L)=pw (fun _=>96) L:=vG 96 L;rw[v0,v1,v3,ve,z 2 (by decide) (by decide) (by decide) (by decide),z 4 (by decide) (by decide) (by decide) (by decide),z 5 (by decide) (by decide) (by decide) (by decide),z 6 (by decide) (by decide) (by decide) (by decide),z 7 (by decide) (by decide) (by decide) (by decide),z 8 (by decide) (by decide) (by decide) (by decide),z 9 (by decide) (by decide) (by decide) (by decide),z 10 (by decide) (by decide) (by decide) (by decide),z 11 (by decide) (by decide) (by decide) (by decide),z 12 (by decide) (by decide) (by decide) (by decide),z 13 (by decide) (by decide) (by decide) (by decide),z 14 (by decide) (by decide) (by decide) (by decide),← Tw,← Xi] at g;unfold JY;rw[c2,c3];exact g
theorem Qq {k:Nat}:∀ {L:Nat},k≤L→eb k=pk (fun s=>if s<k then 1 else 0) L
  | L,h=>by
    induction L with
    | zero =>
      obtain rfl:k=0:=by omega
      rfl
    | succ L ih =>
      by_cases e:k=L+1
      ·subst e;exact iB fun s hs=>(if_pos hs).symm
      ·rw[ih (by omega)]
       show pk _ L=2^(64*L)*(if L<k then 1 else 0)+pk _ L
       rw[if_neg (by omega),aqL,aph]
def sP (k s:Nat):UInt32:=if s<k then 4294967295 else 0
def pS (k s:Nat):UInt32:=UInt32.ofNat ((s+(if s<k then 4294967296 else 0))-k)
theorem an0 {k L:Nat} (h:k≤L):Nat.mul 4294967295 (eb k)=pw (sP k) L:=by
  rw[Qq h,rA];refine iB fun s _=>?_
  show 4294967295*(if s<k then 1 else 0)=(sP k s).toNat
  unfold sP;split <;> rfl
theorem an1 {k L:Nat} (h:k≤L) (hL:L≤100000):Nat.sub (Nat.add (pk (fun s=>s) L) (Nat.mul 4294967296 (eb k))) (Nat.mul k (eb L))=pw (pS k) L:=by
  have e:Nat.add (pw (pS k) L) (Nat.mul k (eb L))=Nat.add (pk (fun s=>s) L) (Nat.mul 4294967296 (eb k)):=by
    unfold pw;rw[Qq h,rA,rA,jI,jI];refine iB fun s hs=>?_
    show (pS k s).toNat+k*1=s+4294967296*(if s<k then 1 else 0)
    unfold pS;split
    ·rw[UInt32.toNat_ofNat_of_lt' (by simp only[UInt32.size]; omega)]; omega
    ·rw[UInt32.toNat_ofNat_of_lt' (by simp only[UInt32.size]; omega)]; omega
  rw[← e]
  show (pw (pS k) L+Nat.mul k (eb L))-Nat.mul k (eb L)=_
  exact Nat.add_sub_cancel _ _
theorem ahq {k s:Nat} (hk:1≤k) (hk2:k≤100000) (hs:s≤100000):(((s:Int)-(k:Int))%18446744073709551616).toNat=(sP k s).toNat*4294967296+(pS k s).toNat:=by
  unfold sP pS;by_cases h:s<k
  ·rw[if_pos h,if_pos h,UInt32.toNat_ofNat_of_lt' (by simp only[UInt32.size]; omega),show (4294967295:UInt32).toNat=4294967295 from rfl];omega
  ·rw[if_neg h,if_neg h,UInt32.toNat_ofNat_of_lt' (by simp only[UInt32.size]; omega),show (0:UInt32).toNat=0 from rfl];omega
theorem Zd {P:Nat→Bool} {n:Nat} (h:(List.range n).all P=true) {i:Nat} (hi:i<n):P i=true:=aoE.1 h i (apI.2 hi)
noncomputable def nr (b c n L:Nat):Bool:=jS (eb L) fun one=>jS (gX L) fun m=>jS (pk (fun s=>s) L) fun io=>jS (Nat.mul 4294967295 one) fun on=>jS (sO (sB one m (Nat.add io (Nat.mul b one)))) fun B =>
  (List.range n).all fun k=>jS (eb (Nat.add c k)) fun ok=>zk on one (sO (JY one m (Nat.mul 4294967295 ok) (Nat.sub (Nat.add io (Nat.mul 4294967296 ok)) (Nat.mul (Nat.add c k) one)))) B
noncomputable def nu (b c n L:Nat):Bool:=jS (eb L) fun one=>jS (gX L) fun m=>jS (pk (fun s=>s) L) fun io=>jS (Nat.mul 4294967295 one) fun on=>jS (sO (sB one m (Nat.add io (Nat.mul b one)))) fun B =>
  (List.range n).all fun k=>zk on one (sO (sB one m (Nat.add io (Nat.mul (Nat.add c k) one)))) B
theorem JZ {o L:Nat} (hL:L≤100000) (ho:o≤4000000000):sO (sB (eb L) (gX L) (Nat.add (pk (fun s=>s) L) (Nat.mul o (eb L))))=pw (fun s=>l9 (s+o)) L:=by
  have e:Nat.add (pk (fun s=>s) L) (Nat.mul o (eb L))=pw (fun s=>UInt32.ofNat (s+o)) L:=by
    rw[rA,jI];refine iB fun s hs=>?_
    rw[UInt32.toNat_ofNat_of_lt' (by simp only[UInt32.size]; omega)]
    show s+o*1=_
    omega
  rw[e,Tx,JX];rfl
def Ea (k s:Nat):UInt32:=(yS (sP k s) (pS k s)).getD 0 0
theorem oR {b c n L:Nat} (h:nr b c n L=true) (hL:L≤100000) (hn:c+n≤L+1) (hb:b≤4000000000) {k s:Nat} (hk:k<n) (hs:s<L):Ea (c+k) s≠l9 (s+b):=by
  unfold nr at h;rw[kh,kh,kh,kh,kh] at h;have h1:=Zd h hk;rw[kh,show Nat.add c k=c+k from rfl,JZ hL hb,an0 (show c+k≤L by omega),an1 (show c+k≤L by omega) hL,adU,JX] at h1;exact HD h1 hs
theorem oS {b c n L:Nat} (h:nu b c n L=true) (hL:L≤100000) (hn:c+n≤100000) (hb:b≤4000000000) {k s:Nat} (hk:k<n) (hs:s<L):l9 (s+(c+k))≠l9 (s+b):=by
  unfold nu at h;rw[kh,kh,kh,kh,kh] at h;have h1:=Zd h hk;rw[show Nat.add c k=c+k from rfl,JZ hL hb,JZ hL (by omega)] at h1;exact HD h1 hs
set_option maxRecDepth 100000 in
theorem ahr:nu 5000 0 100 1000=true:=by decide +kernel
set_option maxRecDepth 100000 in
theorem ahs:nr 5000 0 100 1000=true:=by decide +kernel
set_option maxRecDepth 100000 in
theorem aht:nu 5000 100 100 1000=true:=by decide +kernel
set_option maxRecDepth 100000 in
theorem ahu:nr 5000 100 100 1000=true:=by decide +kernel
set_option maxRecDepth 100000 in
theorem ahv:nu 5000 200 100 1000=true:=by decide +kernel
set_option maxRecDepth 100000 in
theorem ahw:nr 5000 200 100 1000=true:=by decide +kernel
set_option maxRecDepth 100000 in
theorem ahx:nu 5000 300 100 1000=true:=by decide +kernel
set_option maxRecDepth 100000 in
theorem ahy:nr 5000 300 100 1000=true:=by decide +kernel
set_option maxRecDepth 100000 in
theorem ahz:nu 5000 400 100 1000=true:=by decide +kernel
set_option maxRecDepth 100000 in
theorem ahA:nr 5000 400 100 1000=true:=by decide +kernel
set_option maxRecDepth 100000 in
theorem ahB:nu 5000 500 100 1000=true:=by decide +kernel
set_option maxRecDepth 100000 in
theorem ahC:nr 5000 500 100 1000=true:=by decide +kernel
set_option maxRecDepth 100000 in
theorem ahD:nu 5000 600 100 1000=true:=by decide +kernel
set_option maxRecDepth 100000 in
theorem ahE:nr 5000 600 100 1000=true:=by decide +kernel
set_option maxRecDepth 100000 in
theorem ahF:nu 5000 700 100 1000=true:=by decide +kernel
set_option maxRecDepth 100000 in
theorem ahG:nr 5000 700 100 1000=true:=by decide +kernel
set_option maxRecDepth 100000 in
theorem ahH:nu 5000 800 100 1000=true:=by decide +kernel
set_option maxRecDepth 100000 in
theorem ahI:nr 5000 800 100 1000=true:=by decide +kernel
set_option maxRecDepth 100000 in
theorem ahJ:nu 5000 900 100 1000=true:=by decide +kernel
set_option maxRecDepth 100000 in
theorem ahK:nr 5000 900 100 1000=true:=by decide +kernel
theorem adV {s k:Nat} (hs:s<1000) (hk:k<1000):l9 (s+k)≠l9 (s+5000):=by
  obtain⟨r,hr⟩:∃ r,r=k%100:=⟨_,rfl⟩
  have:k=0+r∨k=100+r∨k=200+r∨k=300+r∨k=400+r∨k=500+r∨k=600+r∨k=700+r∨k=800+r∨k=900+r:=by omega
  rcases this with h | h | h | h | h | h | h | h | h | h
  ·rw[h]; exact oS ahr (by decide) (by decide) (by decide) (by omega) hs
  ·rw[h]; exact oS aht (by decide) (by decide) (by decide) (by omega) hs
  ·rw[h]; exact oS ahv (by decide) (by decide) (by decide) (by omega) hs
  ·rw[h]; exact oS ahx (by decide) (by decide) (by decide) (by omega) hs
  ·rw[h]; exact oS ahz (by decide) (by decide) (by decide) (by omega) hs
  ·rw[h]; exact oS ahB (by decide) (by decide) (by decide) (by omega) hs
  ·rw[h]; exact oS ahD (by decide) (by decide) (by decide) (by omega) hs
  ·rw[h]; exact oS ahF (by decide) (by decide) (by decide) (by omega) hs
  ·rw[h]; exact oS ahH (by decide) (by decide) (by decide) (by omega) hs
  ·rw[h]; exact oS ahJ (by decide) (by decide) (by decide) (by omega) hs
theorem adW {s k:Nat} (hs:s<1000) (hk:k<1000):Ea k s≠l9 (s+5000):=by
  obtain⟨r,hr⟩:∃ r,r=k%100:=⟨_,rfl⟩
  have:k=0+r∨k=100+r∨k=200+r∨k=300+r∨k=400+r∨k=500+r∨k=600+r∨k=700+r∨k=800+r∨k=900+r:=by omega
  rcases this with h | h | h | h | h | h | h | h | h | h
  ·rw[h]; exact oR ahs (by decide) (by decide) (by decide) (by omega) hs
  ·rw[h]; exact oR ahu (by decide) (by decide) (by decide) (by omega) hs
  ·rw[h]; exact oR ahw (by decide) (by decide) (by decide) (by omega) hs
  ·rw[h]; exact oR ahy (by decide) (by decide) (by decide) (by omega) hs
  ·rw[h]; exact oR ahA (by decide) (by decide) (by decide) (by omega) hs
  ·rw[h]; exact oR ahC (by decide) (by decide) (by decide) (by omega) hs
  ·rw[h]; exact oR ahE (by decide) (by decide) (by decide) (by omega) hs
  ·rw[h]; exact oR ahG (by decide) (by decide) (by decide) (by omega) hs
  ·rw[h]; exact oR ahI (by decide) (by decide) (by decide) (by omega) hs
  ·rw[h]; exact oR ahK (by decide) (by decide) (by decide) (by omega) hs
theorem ahL {k s:Nat} (hk:1≤k) (hk2:k≤100000) (hs:s≤100000) {n:Nat} (hn:4≤n):(bd ((s:Int)-(k:Int)) (n:Int)).take 4=aC (Ea k s).toNat 4:=by
  have e1:=ahq hk hk2 hs;have e2:((n:Int).toNat+31) / 32=((n:Int).toNat+31) / 32-1+1:=by omega
  have e3:∀ x,kn x (((n:Int).toNat+31) / 32)=nV x 0++(((List.range (((n:Int).toNat+31) / 32-1)).map Nat.succ).map (nV x)).flatten:=fun x=>by
    unfold kn;rw[e2,List.range_succ_eq_map,aos,apd];rfl
  have hl:(yS (sP k s) (pS k s)).length=8:=zP _ _;unfold bd;rw[e1,e3,alT,aqe,apM (by omega)];unfold Ea
  match yS (sP k s) (pS k s),hl with
  | [a,b,c,d,e,f,g,i],_ =>
    unfold ig;simp only[aoL,aoC];exact aqx (bO _ _)
theorem an2 {s:Nat} (hs:s<1000) {o:Int} (h1:-1000<o) (h2:o<1000):bd ((s:Int)+o) 32≠bd ((s:Int)+5000) 32:=by
  intro e;have e5:(s:Int)+5000=((s+5000:Nat):Int):=by omega
  have t5:=Bt (x:=s+5000) (n:=32) (by omega) (by decide);rw[← e5] at t5;rcases aqo o 0 with h | h
  ·obtain⟨k,hk⟩:=ao5 (show 0 ≤ -o by omega);have hk : -o=(k:Int):=hk;have eo:(s:Int)+o=(s:Int)-(k:Int):=by omega
   have t1:=ahL (k:=k) (s:=s) (by omega) (by omega) (by omega) (n:=32) (by decide);rw[← eo] at t1;refine adW (k:=k) (s:=s) hs (by omega) (IX ?_);rw[← t1,← t5];exact congrArg (List.take 4) e
  ·obtain⟨k,rfl⟩:=ao5 h;have t1:=Bt (x:=s+k) (n:=32) (by omega) (by decide);rw[show ((s+k:Nat):Int)=(s:Int)+(k:Int) by omega] at t1;refine adV (k:=k) (s:=s) hs (by omega) (IX ?_);rw[← t1,← t5];exact congrArg (List.take 4) e
end Go.Proofs.YtofonnokanoflaaGreatDoor
