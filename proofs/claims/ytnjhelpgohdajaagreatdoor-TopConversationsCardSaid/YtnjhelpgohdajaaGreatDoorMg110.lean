/- Texts of one's own, merged: from: Layer 1 on data: Put,Get,Same,Join,Hex: what they return. Own work. -/
import Derived.Test.YtnjhelpgohdajaaGreatDoorProg
import Derived.Test.YtnjhelpgohdajaaGreatDoorMg17
set_option linter.unusedVariables false
set_option linter.unusedSimpArgs false
namespace Go.Proofs.YtnjhelpgohdajaaGreatDoor
open Go.RowKit IntWalk
set_option maxHeartbeats 400000
theorem kC {l:List UInt8} {i:Nat} {x:D} (hi:i<l.length) (hx:x.one=true):oA .sc (.c (.d x)) i 0 (.row 1 (l.map bD))=some (.row 1 ((l.map bD).set i x)):=by
  simp[oA,apR hi,bD,my,hx]
theorem Ce {l:List UInt32} {i:Nat} {x:D} (hi:i<l.length) (hx:x.one=true):oA .sc (.c (.d x)) i 0 (.row 1 (l.map wD))=some (.row 1 ((l.map wD).set i x)):=by
  simp[oA,apR hi,wD,my,hx]
theorem lU (l:List UInt8) (i:Nat) (x:UInt8):(l.map bD).set i (bD x)=(l.set i x).map bD:=Ha bD l i x
theorem Cf (l:List UInt32) (i:Nat) (x:UInt32):(l.map wD).set i (wD x)=(l.set i x).map wD:=Ha wD l i x
theorem JF (n:Nat):List.replicate n (D.int .u8 0)=(List.replicate n (0:UInt8)).map bD:=by simp[bD]
def aG (v n:Nat):List UInt8:=(List.range n).map fun i=>UInt8.ofNat (v / 256^(n-1-i))
def mJ (v n m:Nat):List UInt8:=List.replicate m 0++(aG v n).drop m
def DY (v:Nat) (n:Int):List UInt8:=if 0≤n∧n≤64 then aG v n.toNat else []
theorem bS (v n:Nat):(aG v n).length=n:=by simp[aG]
theorem ER (v n m:Nat) (h:m≤n):(mJ v n m).length=n:=by simp[mJ,bS]; omega
theorem ME (v n:Nat):mJ v n 0=aG v n:=by simp[mJ]
theorem MF (v n:Nat):mJ v n n=List.replicate n 0:=by simp[mJ,bS]
theorem MG (v n i:Nat) (h:i+1≤n):mJ v n i=(mJ v n (i+1)).set i (UInt8.ofNat (v / 256^(n-(i+1)))):=by
  apply aq2;intro j;rw[ar2];have hl:i<(aG v n).length:=by rw[bS]; omega
  by_cases hj:i=j
  ·subst hj;rw[if_pos rfl,if_pos (by rw[ER _ _ _ h]; omega)];simp only[mJ,List.getElem?_append,aqo,Nat.lt_irrefl,if_false,arE,aq7,ark];rw[apR hl];simp[aG,Nat.sub_sub,Nat.add_comm 1 i]
  ·rw[if_neg hj];simp only[mJ,List.getElem?_append,aqo,List.getElem?_replicate,aq7];by_cases h1:j<i
   ·rw[if_pos h1,if_pos h1,if_pos (by omega),if_pos (by omega)]
   ·rw[if_neg h1,if_neg (by omega)]
    congr 1; omega
theorem byte_of (v:Nat):D.int .u8 (IntKind.u8.wrap (v:Int))=bD (UInt8.ofNat v):=by
  rw[IntKind.wrap_u8];simp[bD]
def wd (v n m:Nat):St:=⟨bw [(0,.w (.c (.d (.int .u64 ((v / 256^(n-m):Nat):Int))))),(5,.w (.c (.own 1 1 0 n))),(6,.w (.c (.d (.int .i64 ((m:Int)-1)))))],hL [(1,.row 1 ((mJ v n m).map bD))],uL [1]⟩
def Gi:bp := .seq (ae [oM 17 6,ak .geq 18 17 0] (ar 18 .skip (.exit 0))) (.seq (.block 1 (ae [oM 21 5,oM 22 6,oM 23 0,oO 24 (.conv .u8 (.t 23)),bU 25 1 21 22,d6 25 24] (.reg [oM 26 0,oO 27 (.bin .shr (.t 26) (.k (.c (.d (.int .u64 8))))),oM 0 27]))) (.reg [oM 19 6,ak .sub 20 19 1,oM 6 20]))
def Cg:aO:=⟨2,29,ae [aQ 4] (.seq (ae [oM 7 1,ak .lss 8 7 0,oM 9 8,bJ 10 1 9 false,cC .gtr 11 10 64 9 false,cv 12 9 11] (ar 12 (ae [aQ 4] .ret) .skip)) (ae [oM 13 1,oO 14 (.make true 1 1 aj (.t 13) (.t 13)),oM 5 14] (.seq (ae [oM 15 1,ak .sub 16 15 1,oM 6 16] (.block 0 (.loop Gi))) (ae [oM 28 5,oM 4 28] .ret)))),[(4,none)]⟩
theorem RR:aM Tryz.prog {} Tryz.f62=some Cg:=by kernel_rfl
theorem rU (G:au) (v n:Nat) (hn:n≤64):aF Tryz.prog G 62 [.int .u64 v,.int .i64 n] (.w (.c (.fr 1 ((aG v n).map bD)))):=by
  refine aX Tryz.func62 RR rfl rfl ?_;have e1:IntKind.i64.wrap ((n:Int)-1)=(n:Int)-1:=IntWalk.i64_in _ (by omega);simp only[Cg,ai,wx,seval,iteOmega,toNatUp,e1];refine bO (wd v n) (fun m=>m) (fun m=>m≤n) n (ap3 _) ?_ ?_
  ·refine aR (fun _=>112) ?_ ?_ rfl rfl <;> simp only[wx,aH,seval,MF,JF,arE,Nat.pow_zero,Nat.div_one]
  ·intro m hm;rcases arh m with rfl | hpos
   ·simp only[Gi,wd,wx,seval,ME];refine iV (id:=1) (n:=n) (s:=1) ?_ ?_ ?_ <;> simp only[wx,seval,bS]
   ·obtain⟨i,rfl⟩:∃ i,m=i+1:=⟨m-1,by omega⟩
    have e2:((i+1:Nat):Int)-1=(i:Int):=by omega
    have hlt:i<(mJ v n (i+1)).length:=by rw[ER _ _ _ hm]; omega
    have e3:IntKind.i64.wrap ((i:Int)-1)=(i:Int)-1:=IntWalk.i64_in _ (by omega);simp only[Gi,wd,wx,aa,seval,iteOmega,toNatUp,e2,e3,aqO,byte_of,kC hlt (jU _),lU,← MG _ _ _ hm,IntKind.bits];refine bA i (by omega) (by omega) (aR id ?_ ?_ rfl rfl) <;> simp only[wx,aH,seval];have e4:v / 256^(n-(i+1)) / 256=v / 256^(n-i):=by
      rw[show n-i=n-(i+1)+1 by omega,Nat.pow_succ,← Nat.div_div_eq_div_mul]
    simpa using congrArg (Nat.cast:Nat→Int) e4
theorem Uc (G:au) (v:Nat) (n:Int):aF Tryz.prog G 62 [.int .u64 v,.int .i64 n] (.w (.c (.fr 1 ((DY v n).map bD)))):=by
  unfold DY;by_cases h:0≤n∧n≤64
  ·rw[if_pos h];obtain⟨n,rfl⟩:=aqB h.1;exact rU G v n (by omega)
  ·rw[if_neg h];refine aX Tryz.func62 RR rfl rfl ?_;by_cases h0:n<0
   ·simp only[Cg,ai,wx,seval,iteOmega];exact Hb (by simp[wx,seval])
   ·have h1:64<n:=by omega
    simp only[Cg,ai,wx,seval,iteOmega];exact Hb (by simp[wx,seval])
def Fu:bp := .seq (ae [oM 17 6,ak .geq 18 17 0] (ar 18 .skip (.exit 0))) (.seq (.block 1 (ae [oM 21 5,oM 22 6,oM 23 0,oO 24 (.conv .u8 (.t 23)),bU 25 1 21 22,d6 25 24] (.reg [oM 26 0,oO 27 (.bin .shr (.t 26) (.k (.c (.d (.int .u64 8))))),oM 0 27]))) (.reg [oM 19 6,ak .sub 20 19 1,oM 6 20]))
def PR:aO:=⟨2,29,ae [aQ 4] (.seq (ae [oM 7 1,ak .lss 8 7 0,oM 9 8,bJ 10 1 9 false,cC .gtr 11 10 64 9 false,cv 12 9 11] (ar 12 (ae [aQ 4] .ret) .skip)) (ae [oM 13 1,oO 14 (.make true 1 1 aj (.t 13) (.t 13)),oM 5 14] (.seq (ae [oM 15 1,ak .sub 16 15 1,oM 6 16] (.block 0 (.loop Fu))) (ae [oM 28 5,oM 4 28] .ret)))),[(4,none)]⟩
theorem adL:aM Tryz.prog {} Tryz.f38=some PR:=by kernel_rfl
theorem Bv (G:au) (v n:Nat) (hn:n≤64):aF Tryz.prog G 38 [.int .u64 v,.int .i64 n] (.w (.c (.fr 1 ((aG v n).map bD)))):=by
  refine aX Tryz.func38 adL rfl rfl ?_;have e1:IntKind.i64.wrap ((n:Int)-1)=(n:Int)-1:=IntWalk.i64_in _ (by omega);simp only[PR,ai,wx,seval,iteOmega,toNatUp,e1];refine bO (wd v n) (fun m=>m) (fun m=>m≤n) n (ap3 _) ?_ ?_
  ·refine aR (fun _=>112) ?_ ?_ rfl rfl <;> simp only[wx,aH,seval,MF,JF,arE,Nat.pow_zero,Nat.div_one]
  ·intro m hm;rcases arh m with rfl | hpos
   ·simp only[Fu,wd,wx,seval,ME];refine iV (id:=1) (n:=n) (s:=1) ?_ ?_ ?_ <;> simp only[wx,seval,bS]
   ·obtain⟨i,rfl⟩:∃ i,m=i+1:=⟨m-1,by omega⟩
    have e2:((i+1:Nat):Int)-1=(i:Int):=by omega
    have hlt:i<(mJ v n (i+1)).length:=by rw[ER _ _ _ hm]; omega
    have e3:IntKind.i64.wrap ((i:Int)-1)=(i:Int)-1:=IntWalk.i64_in _ (by omega);simp only[Fu,wd,wx,aa,seval,iteOmega,toNatUp,e2,e3,aqO,byte_of,kC hlt (jU _),lU,← MG _ _ _ hm,IntKind.bits];refine bA i (by omega) (by omega) (aR id ?_ ?_ rfl rfl) <;> simp only[wx,aH,seval];have e4:v / 256^(n-(i+1)) / 256=v / 256^(n-i):=by
      rw[show n-i=n-(i+1)+1 by omega,Nat.pow_succ,← Nat.div_div_eq_div_mul]
    simpa using congrArg (Nat.cast:Nat→Int) e4
theorem toList_mk (l:List UInt8):(⟨l.toArray⟩:ByteArray).toList=l:=Go.ByteArray.toList_mk l
theorem Yr (l m:List UInt8):pH .eql ⟨l.toArray⟩ ⟨m.toArray⟩=some (.bool (l==m)):=by
  simp only[pH,toList_mk]
theorem mq (ls:List (List UInt8)):eZ 1 (ls.map fun l=>D.sl (l.map bD))=true:=xW _ (fun _=>rfl) ls
def He (ls:List (List UInt8)) (i:Nat):St:=⟨bw [(0,.w (.c (.d (.sl (ls.map fun l=>D.sl (l.map bD)))))),(3,.w (.c (.own 1 1 0 ((ls.take i).flatten).length))),(4,.w (.c (.d (.int .i64 (i:Int)))))],hL [(1,.row 1 (((ls.take i).flatten).map bD))],uL [1]⟩
theorem Aw {α:Type} (ls:List (List α)) (i:Nat) (h:i<ls.length):(ls.take (i+1)).flatten=(ls.take i).flatten++ls[i]:=by
  rw[aqT h,List.flatten_append]; simp
theorem Hf {α:Type} (ls:List (List α)) (i:Nat) (h:i<ls.length):(ls.take i).flatten.length+ls[i].length≤ls.flatten.length:=by
  have h1:=Aw ls i h;have h2:ls.flatten=(ls.take (i+1)).flatten++(ls.drop (i+1)).flatten:=by rw[← List.flatten_append,aqq]
  have h3:=congrArg List.length h2;rw[apS,h1,apS] at h3;omega
def Fb:bp := .seq (ae [oM 6 4,oM 7 0,bd 8 7,aU .lss 9 6 8] (ar 9 .skip (.exit 0))) (.seq (.block 1 (.reg [oM 12 3,oM 13 0,oM 14 4,bU 15 1 13 14,aA 16 15,oO 17 (.app false 1 1 (.t 12) (.t 16)),oM 3 17])) (.reg [oM 10 4,ak .add 11 10 1,oM 4 11]))
def NW:aO:=⟨1,19,ae [aQ 2] (ae [oO 5 (.bldSl true 0 1 aj []),oM 3 5] (.seq (ae [am 4 0] (.block 0 (.loop Fb))) (ae [oM 18 3,oM 2 18] .ret))),[(2,none)]⟩
theorem aaT:aM Tryz.prog { own:=[5] } Tryz.f37=some NW:=by kernel_rfl
theorem vp (G:au) (ls:List (List UInt8)) (hl:ls.length≤9223372036854775807) (hf:ls.flatten.length≤140737488355328):aF Tryz.prog G 37 [.sl (ls.map fun l=>D.sl (l.map bD))] (.w (.c (.fr 1 (ls.flatten.map bD)))):=by
  refine aX Tryz.func37 aaT rfl rfl ?_;simp only[NW,ai,wx,seval];refine bO (He ls) (fun i=>ls.length-i) (fun i=>i≤ls.length) 0 (apZ _) ?_ ?_
  ·refine aR (fun _=>40) ?_ ?_ rfl rfl <;> simp only[wx,aH,seval]
  ·intro i hi;by_cases hlt:i<ls.length
   ·have e2:ls[i]?=some ls[i]:=apR hlt;have e4:IntKind.i64.wrap ((i:Int)+1)=((i+1:Nat):Int):=by rw[IntWalk.i64_in _ (by omega)]; rfl
    have h5:=Hf ls i hlt;simp only[Fb,He,wx,seval,iteOmega,toNatUp,bc,e2,e4,arD,cg];refine bA (i+1) (by omega) (by omega) (aR (fun _=>136) ?_ ?_ rfl rfl) <;> simp only[wx,aH,seval,Aw ls i hlt]
   ·have:ls.take i=ls:=apX (by omega);simp only[Fb,He,wx,seval,iteOmega,this];refine iV (id:=1) (n:=ls.flatten.length) (s:=1) ?_ ?_ ?_ <;> simp only[wx,seval]
def Hg (ls:List (List UInt8)) (i:Nat):St:=⟨bw [(0,.w (.c (.d (.sl (ls.map fun l=>D.sl (l.map bD)))))),(3,.w (.c (.d (.int .i64 (((ls.take i).flatten).length:Int))))),(9,.w (.c (.d (.sl (ls.map fun l=>D.sl (l.map bD)))))),(10,.w (.c (.d (.int .i64 (ls.length:Int))))),(11,.w (.c (.d (.int .i64 (i:Int)))))],hL [],uL []⟩
def Hh (ls:List (List UInt8)) (i:Nat):St:=⟨bw [(6,.w (.c (.own 1 1 0 ((ls.take i).flatten).length))),(22,.w (.c (.d (.sl (ls.map fun l=>D.sl (l.map bD)))))),(23,.w (.c (.d (.int .i64 (ls.length:Int))))),(24,.w (.c (.d (.int .i64 (i:Int)))))],hL [(1,.row 1 (((ls.take i).flatten).map bD))],uL [1]⟩
def Fv:bp := ae [aU .lss 12 11 10] (.seq (ar 12 .skip (.exit 0)) (.seq (.block 1 (ae [bU 13 1 9 11,aA 14 13,oM 5 14] (.reg [oM 15 3,oM 16 5,bd 17 16,aU .add 18 15 17,oM 3 18]))) (.reg [ak .add 19 11 1,oM 11 19])))
def Fx:bp := ae [aU .lss 25 24 23] (.seq (ar 25 .skip (.exit 2)) (.seq (.block 3 (ae [bU 26 1 22 24,aA 27 26,oM 8 27] (.reg [oM 28 6,oM 29 8,oO 30 (.app false 1 1 (.t 28) (.t 29)),oM 6 30]))) (.reg [ak .add 31 24 1,oM 24 31])))
def PS:aO:=⟨1,33,ae [aQ 2] (ae [am 3 0] (.seq (ae [oM 9 0,bd 10 9,am 11 0] (.block 0 (.loop Fv))) (ae [oM 20 3,oO 21 (.make true 1 1 aj (kI 0) (.t 20)),oM 6 21] (.seq (ae [oM 22 0,bd 23 22,am 24 0] (.block 2 (.loop Fx))) (ae [oM 32 6,oM 2 32] .ret))))),[(2,none)]⟩
theorem adM:aM Tryz.prog {} Tryz.f35=some PS:=by kernel_rfl
theorem dT (G:au) (ls:List (List UInt8)) (hl:ls.length≤9223372036854775807) (hf:ls.flatten.length≤140737488355328):aF Tryz.prog G 35 [.sl (ls.map fun l=>D.sl (l.map bD))] (.w (.c (.fr 1 (ls.flatten.map bD)))):=by
  refine aX Tryz.func35 adM rfl rfl ?_;simp only[PS,ai,wx,seval];refine bO (Hg ls) (fun i=>ls.length-i) (fun i=>i≤ls.length) 0 (apZ _) ?_ ?_
  ·refine aR id ?_ ?_ rfl rfl <;> simp only[wx,aH,seval]
  ·intro i hi;by_cases hlt:i<ls.length
   ·have e2:ls[i]?=some ls[i]:=apR hlt;have e4:IntKind.i64.wrap ((i:Int)+1)=((i+1:Nat):Int):=by rw[IntWalk.i64_in _ (by omega)]; rfl
    have h5:=Hf ls i hlt;have e5:IntKind.i64.wrap (((ls.take i).flatten.length:Int)+(ls[i].length:Int))=(((ls.take (i+1)).flatten.length:Nat):Int):=by
      rw[Aw ls i hlt,apS,IntWalk.i64_in _ (by omega)]; rfl
    simp only[Fv,Hg,wx,seval,iteOmega,toNatUp,bc,e2,e4,e5];refine bA (i+1) (by omega) (by omega) (aR id ?_ ?_ rfl rfl) <;> simp only[wx,aH,seval]
   ·have:ls.take i=ls:=apX (by omega);simp only[Fv,Hg,wx,seval,iteOmega,toNatUp,this];refine bO (Hh ls) (fun i=>ls.length-i) (fun i=>i≤ls.length) 0 (apZ _) ?_ ?_
    ·refine aR (fun _=>168) ?_ ?_ rfl rfl <;> simp only[wx,aH,seval]
    ·intro i hi;by_cases hlt:i<ls.length
     ·have e2:ls[i]?=some ls[i]:=apR hlt;have e4:IntKind.i64.wrap ((i:Int)+1)=((i+1:Nat):Int):=by rw[IntWalk.i64_in _ (by omega)]; rfl
      have h5:=Hf ls i hlt;simp only[Fx,Hh,wx,seval,iteOmega,toNatUp,bc,e2,e4,arD,cg];refine bA (i+1) (by omega) (by omega) (aR (fun _=>240) ?_ ?_ rfl rfl) <;> simp only[wx,aH,seval,Aw ls i hlt]
     ·have:ls.take i=ls:=apX (by omega);simp only[Fx,Hh,wx,seval,iteOmega,this];refine iV (id:=1) (n:=ls.flatten.length) (s:=1) ?_ ?_ ?_ <;> simp only[wx,seval]
def bq (l:List UInt8):Nat:=l.foldl (fun a x=>(a*256+x.toNat)%18446744073709551616) 0
theorem PT (l:List UInt8):bq l<18446744073709551616:=by
  unfold bq;rcases List.eq_nil_or_concat l with rfl | ⟨a,x,rfl⟩
  ·simp
  ·simp only[List.concat_eq_append,List.foldl_append,aq6,arz]; omega
theorem u64_in (n:Int) (h₀:0≤n) (h₁:n<2^64):IntKind.u64.wrap n=n:=by rw[IntKind.wrap_u64]; omega
theorem Ys (a:List UInt8) (x:UInt8):bits .or .u64 (IntKind.u64.wrap ((bq a:Int)*256)) (x.toNat:Int)=(bq (a++[x]):Int):=by
  have hx:x.toNat<256:=x.toNat_lt
  have h1:=bits_join .u64 64 (by decide) u64_in 8 (IntKind.u64.wrap ((bq a:Int)*256)) (x.toNat:Int)
    (by rw[IntKind.wrap_u64]; omega) (by rw[IntKind.wrap_u64]; omega) (by rw[IntKind.wrap_u64]; omega) (by omega) (by omega) (by omega)
  rw[h1,IntKind.wrap_u64];simp only[bq,List.foldl_append,aq6,arz];omega
theorem Yt (l:List UInt8) (j:Nat) (h:j<l.length):bits .or .u64 (IntKind.u64.wrap ((bq (l.take j):Int)*256)) (l[j].toNat:Int)=(bq (l.take (j+1)):Int):=by
  rw[Ys,aqT h]
theorem aaU (a b:List UInt8):bq (a++b)=(bq a*256^b.length+bq b)%18446744073709551616:=by
  have key:∀ (n:Nat) (b:List UInt8),b.length=n→bq (a++b)=(bq a*256^n+bq b)%18446744073709551616:=by
    intro n
    induction n with
    | zero =>
      intro b hb;have:b=[]:=aqJ hb;subst this;have h0:bq []=0:=rfl;rw[ap7,Nat.pow_zero,h0];have:=PT a;omega
    | succ n ih =>
      intro b hb;rcases List.eq_nil_or_concat b with rfl | ⟨c,x,rfl⟩
      ·simp at hb
      ·rw[List.concat_eq_append] at hb ⊢;rw[← ap6];have h1:∀ l:List UInt8,bq (l++[x])=(bq l*256+x.toNat)%18446744073709551616:=fun l=>by simp[bq]
       rw[h1,h1,ih c (by simpa using hb),Nat.pow_succ];generalize bq a=p;generalize bq c=q;generalize 256^n=r;have e:p*(r*256)=p*r*256:=by rw[Nat.mul_assoc]
       rw[e];generalize p*r=z;omega
  exact key _ b rfl
theorem Yu (l:List UInt8) (h:8<l.length):bq (l.drop (l.length-8))=bq l:=by
  have h1:=aaU (l.take (l.length-8)) (l.drop (l.length-8));rw[aqq] at h1;have h2:(l.drop (l.length-8)).length=8:=by rw[ap5]; omega
  rw[h2] at h1;have h3:=PT (l.drop (l.length-8));rw[h1];have:(256:Nat)^8=18446744073709551616:=by decide
  rw[this];omega
def C0 (l:List UInt8) (i:Nat):St:=⟨bw [(3,.w (.c (.d (.int .u64 (bq (l.take i)))))),(14,.w (.c (.d (.sl (l.map bD))))),(15,.w (.c (.d (.int .i64 (l.length:Int))))),(16,.w (.c (.d (.int .i64 (i:Int)))))],hL [],uL []⟩
def AR:bp := ae [aU .lss 17 16 15] (.seq (ar 17 .skip (.exit 0)) (.seq (.block 1 (ae [bU 18 1 14 16,aA 19 18,oM 5 19] (.reg [oM 20 3,oO 21 (.bin .shl (.t 20) (.k (.c (.d (.int .u64 8))))),oM 22 5,oO 23 (.conv .u64 (.t 22)),aU .or 24 21 23,oM 3 24]))) (.reg [ak .add 25 16 1,oM 16 25])))
def It:aO:=⟨1,27,ae [oO 2 (.mv (.k (.c aW)))] (.seq (ae [oM 6 0,bd 7 6,ak .gtr 8 7 8] (ar 8 (.reg [oM 9 0,oM 10 0,bd 11 10,ak .sub 12 11 8,oO 13 (.slice 1 (.t 9) (some (.t 12)) none none),oM 0 13]) .skip)) (ae [oO 3 (.mv (.k (.c aW)))] (.seq (ae [oM 14 0,bd 15 14,am 16 0] (.block 0 (.loop AR))) (ae [oM 26 3,oM 2 26] .ret)))),[(2,none)]⟩
theorem aiT:aM Tryz.prog {} Tryz.f68=some It:=by kernel_rfl
theorem Ud (G:au) (Q:AX→St→Prop) (l:List UInt8) (hl:l.length≤8) (σ:St) (he:fv σ (C0 l 0)) (hq:∀ f,f 3=.w (.c (.d (.int .u64 (bq l))))→Q (.ex 0) ⟨f,hN,uN⟩):cE Tryz.prog G (.loop AR) Q σ:=by
  refine bO (C0 l) (fun i=>l.length-i) (fun i=>i≤l.length) 0 (apZ _) he ?_;intro i hi;by_cases hlt:i<l.length
  ·have hb:=l[i].toNat_lt;have e2:l[i]?=some l[i]:=apR hlt;have e3:IntKind.u64.wrap (l[i].toNat:Int)=(l[i].toNat:Int):=u64_in _ (by omega) (by omega);have e4:IntKind.i64.wrap ((i:Int)+1)=((i+1:Nat):Int):=by rw[IntWalk.i64_in _ (by omega)]; rfl
   have e5:=Yt l i hlt;simp only[AR,C0,wx,seval,iteOmega,toNatUp,bc,e2,IntKind.bits,e3,e4];refine bA (i+1) (by omega) (by omega) (aR id ?_ ?_ rfl rfl) <;> simp only[wx,aH,seval,← e5]
  ·have:l.take i=l:=apX (by omega);simp only[AR,C0,wx,seval,iteOmega,this];exact hq _ (by simp only[wx,seval])
theorem kH (G:au) (l:List UInt8) (hl:l.length≤9223372036854775807):aF Tryz.prog G 68 [.sl (l.map bD)] (.w (.c (.d (.int .u64 (bq l))))):=by
  refine aX Tryz.func68 aiT rfl rfl ?_;by_cases h8:8<l.length
  ·have e0:IntKind.i64.wrap ((l.length:Int)-8)=((l.length-8:Nat):Int):=by rw[IntWalk.i64_in _ (by omega)]; omega
   have e1:(l.drop (l.length-8)).take (l.length-(l.length-8))=l.drop (l.length-8):=apX (by rw[ap5]; omega);simp only[It,ai,wx,seval,iteOmega,toNatUp,e0,e1];refine Ud G _ (l.drop (l.length-8)) (by rw[ap5]; omega) _ ?_ fun f hf=>?_
   ·refine aR id ?_ ?_ rfl rfl <;> simp only[wx,aH,seval] <;> rfl
   ·rw[Yu l h8] at hf;simp only[wx,seval,hf];exact r8 (by simp only[wx,seval])
  ·simp only[It,ai,wx,seval,iteOmega];refine Ud G _ l (by omega) _ ?_ fun f hf=>?_
   ·refine aR id ?_ ?_ rfl rfl <;> simp only[wx,aH,seval] <;> rfl
   ·simp only[wx,seval,hf];exact r8 (by simp only[wx,seval])
theorem MH (v k:Nat):aG v (k+1)=aG (v / 256) k++[UInt8.ofNat v]:=by
  unfold aG;rw[aqS,ap8]
  congr 1
  ·apply aqu;intro i hi;have hi':i<k:=arH.1 hi;rw[show k+1-1-i=(k-1-i)+1 by omega,Nat.pow_succ,arL,← Nat.div_div_eq_div_mul]
  ·simp
theorem NY (a:List UInt8) (x:UInt8):bq (a++[x])=(bq a*256+x.toNat)%18446744073709551616:=by simp[bq]
theorem PU {k:Nat} (h:k≤8):256^k≤18446744073709551616:=aqG (Nat.pow_le_pow_right (by decide) h) (by decide)
theorem get_put (k:Nat) (h:k≤8):∀ v,bq (aG v k)=v%256^k:=by
  induction k with
  | zero=>intro v; rw[Nat.pow_zero,Nat.mod_one]; rfl
  | succ k ih =>
    intro v;have hp:=PU h;have hv:v%256^(k+1)<256^(k+1):=arw _ (Nat.pow_pos (by decide));have e:v%256^(k+1)=v%256+256*(v / 256%256^k):=by rw[Nat.pow_succ',Nat.mod_mul]
    rw[MH,NY,ih (by omega),UInt8.toNat_ofNat',ar3 (by omega)];omega
theorem jk:∀ (k:Nat) (l:List UInt8),l.length=k→k≤8→bq l<256^k∧aG (bq l) k=l:=by
  intro k
  induction k with
  | zero=>intro l h _; rw[aqJ h]; exact⟨by decide,rfl⟩
  | succ k ih =>
    intro l h h8;rcases List.eq_nil_or_concat l with rfl | ⟨a,x,rfl⟩
    ·simp at h
    ·rw[List.concat_eq_append] at *
     obtain⟨a1,a2⟩:=ih a (by simpa using h) (by omega);have hx:x.toNat<256:=x.toNat_lt;have hp:=PU h8;have e:bq (a++[x])=bq a*256+x.toNat:=by
       rw[NY,ar3];rw[Nat.pow_succ] at hp; omega
     refine⟨by rw[e,Nat.pow_succ]; omega,?_⟩;rw[e,MH,show (bq a*256+x.toNat) / 256=bq a by omega,a2]
     congr 2
     rw[← UInt8.toNat_inj,UInt8.toNat_ofNat'];omega
structure Hd where
  lp:Int
  vr:Int
  md:Int
  st:Int
  pl:Int
  pr:Int
  rd:Nat
  rp:Nat
  ri:Nat
  rf:Nat
  og:Nat
  rc:Nat
  tr:Nat
def Hd.z:Hd:=⟨0,0,0,0,0,0,0,0,0,0,0,0,0⟩
def ut (h:Hd):Prop:=0≤h.lp∧h.lp≤3∧(h.vr=3∨h.vr=4)∧0≤h.md∧h.md≤7∧0≤h.st∧h.st≤255∧-128≤h.pl∧h.pl≤127∧-128≤h.pr∧h.pr≤127
instance (h:Hd):Decidable (ut h):=by unfold ut; infer_instance
def mK (h:Hd):Bool:=decide (ut h)
def sW (h:Hd):Prop:=h.rd<4294967296∧h.rp<4294967296∧h.ri<4294967296∧h.rf<18446744073709551616∧h.og<18446744073709551616∧h.rc<18446744073709551616∧h.tr<18446744073709551616
def eH (v:Int):UInt8:=UInt8.ofNat (v%256).toNat
def pL (b:UInt8):Int:=if b.toNat>127 then (b.toNat:Int)-256 else (b.toNat:Int)
def zT (h:Hd):List UInt8:=aG h.rd 4++(aG h.rp 4++(aG h.ri 4++(aG h.rf 8++(aG h.og 8++(aG h.rc 8++aG h.tr 8)))))
def fg (h:Hd):List UInt8:=[eH (h.lp*64+h.vr*8+h.md),eH h.st,eH h.pl,eH h.pr]++zT h
theorem adN (h:Hd):(zT h).length=44:=by simp[zT,bS]
theorem Bw (h:Hd):(fg h).length=48:=by unfold fg; rw[apS,adN]; rfl
def aK (l:List UInt8) (a n:Nat):List UInt8:=(l.drop a).take n
def d8 (l:List UInt8):Hd:=⟨((l.getD 0 0).toNat / 64:Nat),((l.getD 0 0).toNat / 8%8:Nat),((l.getD 0 0).toNat%8:Nat),((l.getD 1 0).toNat:Nat),pL (l.getD 2 0),pL (l.getD 3 0),
  bq (aK l 4 4),bq (aK l 8 4),bq (aK l 12 4),bq (aK l 16 8),bq (aK l 24 8),bq (aK l 32 8),bq (aK l 40 8)⟩
theorem fp {l:List UInt8} {a n:Nat} (h:a+n≤l.length):(aK l a n).length=n:=by
  unfold aK; rw[ap0,ap5]; omega
theorem ng (p q r:List UInt8):aK (p++(q++r)) p.length q.length=q:=by
  unfold aK; rw[List.drop_left,List.take_left]
theorem NZ (l:List UInt8) (a n m:Nat):aK l a n++aK l (a+n) m=aK l a (n+m):=by
  unfold aK;rw[List.take_add,arx]
theorem Hi (v:Int):((eH v).toNat:Int)=v%256:=by
  unfold eH;rw[UInt8.toNat_ofNat']; omega
theorem PV {v:Int} (h1:-128≤v) (h2:v≤127):pL (eH v)=v:=by
  have:=Hi v;unfold pL;split <;> omega
theorem PW (b:UInt8):-128≤pL b∧pL b≤127:=by
  have:=b.toNat_lt;unfold pL;split <;> omega
theorem adO (h:Hd) (r:List UInt8):fg h++r=([eH (h.lp*64+h.vr*8+h.md),eH h.st,eH h.pl,eH h.pr]:List UInt8)++(aG h.rd 4++(aG h.rp 4++(aG h.ri 4++(aG h.rf 8++(aG h.og 8++(aG h.rc 8++(aG h.tr 8++r))))))):=by
  unfold fg zT;simp only[ap6]
theorem adP (h:Hd) (r:List UInt8):aK (fg h++r) 4 4=aG h.rd 4∧aK (fg h++r) 8 4=aG h.rp 4∧aK (fg h++r) 12 4=aG h.ri 4∧aK (fg h++r) 16 8=aG h.rf 8∧aK (fg h++r) 24 8=aG h.og 8∧aK (fg h++r) 32 8=aG h.rc 8∧aK (fg h++r) 40 8=aG h.tr 8:=by
  have key:∀ (p q s:List UInt8) (a n:Nat),fg h++r=p++(q++s)→p.length=a→q.length=n→aK (fg h++r) a n=q:=by
    intro p q s a n e ha hn;rw[e,← ha,← hn]; exact ng p q s
  have e:=adO h r;generalize ([eH (h.lp*64+h.vr*8+h.md),eH h.st,eH h.pl,eH h.pr]:List UInt8)=F at *
  have hF:F.length=4:=by
    have:=Bw h;have e':=congrArg List.length e;simp only[apS,bS,this] at e';omega
  refine⟨key F _ _ _ _ e hF (bS _ _),key (F++aG h.rd 4) _ _ _ _ (by rw[e]; simp only[ap6] <;> rfl) ?_ (bS _ _),key (F++aG h.rd 4++aG h.rp 4) _ _ _ _ (by rw[e]; simp only[ap6] <;> rfl) ?_ (bS _ _),
    key (F++aG h.rd 4++aG h.rp 4++aG h.ri 4) _ _ _ _ (by rw[e]; simp only[ap6] <;> rfl) ?_ (bS _ _),key (F++aG h.rd 4++aG h.rp 4++aG h.ri 4++aG h.rf 8) _ _ _ _ (by rw[e]; simp only[ap6] <;> rfl) ?_ (bS _ _),
    key (F++aG h.rd 4++aG h.rp 4++aG h.ri 4++aG h.rf 8++aG h.og 8) _ _ _ _ (by rw[e]; simp only[ap6] <;> rfl) ?_ (bS _ _),key (F++aG h.rd 4++aG h.rp 4++aG h.ri 4++aG h.rf 8++aG h.og 8++aG h.rc 8) _ r _ _ (by rw[e]; simp only[ap6] <;> rfl) ?_ (bS _ _)⟩ <;>
    simp only[apS,bS,hF]
theorem adQ {h:Hd} (ok:ut h) (fit:sW h) (r:List UInt8):d8 (fg h++r)=h:=by
  obtain⟨c1,c2,c3,c4,c5,c6,c7⟩:=adP h r;obtain⟨f1,f2,f3,f4,f5,f6,f7⟩:=fit;obtain⟨o1,o2,o3,o4,o5,o6,o7,o8,o9,o10,o11⟩:=ok;have g0:(fg h++r).getD 0 0=eH (h.lp*64+h.vr*8+h.md):=rfl;have g1:(fg h++r).getD 1 0=eH h.st:=rfl;have g2:(fg h++r).getD 2 0=eH h.pl:=rfl;have g3:(fg h++r).getD 3 0=eH h.pr:=rfl;unfold d8;rw[c1,c2,c3,c4,c5,c6,c7,g0,g1,g2,g3,get_put 4 (by decide),get_put 4 (by decide),get_put 4 (by decide),get_put 8 (by decide),get_put 8 (by decide),get_put 8 (by decide),get_put 8 (by decide),PV o8 o9,PV o10 o11];have n0:=Hi (h.lp*64+h.vr*8+h.md);have n1:=Hi h.st;obtain⟨lp,vr,md,st,pl,pr,rd,rp,ri,rf,og,rc,tr⟩:=h;simp only at *
  congr 1 <;> omega
theorem aa6 (x:UInt8):mi x=if ir x 7==1 then a9 (iq x 1) 27 else iq x 1:=by
  have:=sg (p:=fun x=>mi x==if ir x 7==1 then a9 (iq x 1) 27 else iq x 1) (by decide +kernel) x
  simpa using this
theorem RY (x:UInt8):lV x 2=mi x:=by
  have:=sg (p:=fun x=>lV x 2==mi x) (by decide +kernel) x
  simpa using this
def IC:aO:=⟨1,11,ae [oO 2 (.mv (.k (.c (.d aj))))] (.seq (ae [oM 3 0,oO 4 (.bin .shr (.t 3) (.k (.c (.d (.int .u64 7))))),oO 5 (.bin .eql (.t 4) (.k (.c (.d (.int .u8 1)))))] (ar 5 (ae [oM 6 0,oO 7 (.bin .shl (.t 6) (.k (.c (.d (.int .u64 1))))),oO 8 (.bin .xor (.t 7) (.k (.c (.d (.int .u8 27))))),oM 2 8] .ret) .skip)) (ae [oM 9 0,oO 10 (.bin .shl (.t 9) (.k (.c (.d (.int .u64 1))))),oM 2 10] .ret)),[(2,none)]⟩
theorem ajc:aM Tryz.prog {} Tryz.f169=some IC:=by kernel_rfl
theorem Ui (G:au) (x:UInt8):aF Tryz.prog G 169 [bD x] (.w (.c (.d (bD (mi x))))):=by
  refine aX Tryz.func169 ajc rfl rfl ?_;have h1:=RI x .u64 7 7 rfl (by decide);have h2:=aiL (ir x 7) 1 1 rfl;have h3:=RJ x .u64 1 1 rfl (by decide);have h4:=aiN (iq x 1) 27 27 rfl;rw[aa6];cases h5:ir x 7==1
  ·rw[h5] at h2;simp only[IC,ai,h1,h2,h3,af,seval,Bool.false_eq_true];exact aZ
  ·rw[h5] at h2;simp only[IC,ai,h1,h2,h3,h4,af,seval];exact aZ
def Vp:List UInt8:=[99,124,119,123,242,107,111,197,48,1,103,43,254,215,171,118,202,130,201,125,250,89,71,240,173,212,162,175,156,164,114,192,183,253,147,38,54,63,247,204,52,165,229,241,113,216,49,21,4,199,35,195,24,150,5,154,7,18,128,226,235,39,178,117,9,131,44,26,27,110,90,160,82,59,214,179,41,227,47,132,83,209,0,237,32,252,177,91,106,203,190,57,74,76,88,207,208,239,170,251,67,77,51,133,69,249,2,127,80,60,159,168,81,163,64,143,146,157,56,245,188,182,218,33,16,255,243,210,205,12,19,236,95,151,68,23,196,167,126,61,100,93,25,115,96,129,79,220,34,42,144,136,70,238,184,20,222,94,11,219,224,50,58,10,73,6,36,92,194,211,172,98,145,149,228,121,231,200,55,109,141,213,78,169,108,86,244,234,101,122,174,8,186,120,37,46,28,166,180,198,232,221,116,31,75,189,139,138,112,62,181,102,72,3,246,14,97,53,87,185,134,193,29,158,225,248,152,17,105,217,142,148,155,30,135,233,206,85,40,223,140,161,137,13,191,230,66,104,65,153,45,15,176,84,187,22]
theorem aea:Vp=KN:=by decide +kernel
set_option maxRecDepth 100000 in
theorem aa7:ByteArray.size ⟨#[99,124,119,123,242,107,111,197,48,1,103,43,254,215,171,118,202,130,201,125,250,89,71,240,173,212,162,175,156,164,114,192,183,253,147,38,54,63,247,204,52,165,229,241,113,216,49,21,4,199,35,195,24,150,5,154,7,18,128,226,235,39,178,117,9,131,44,26,27,110,90,160,82,59,214,179,41,227,47,132,83,209,0,237,32,252,177,91,106,203,190,57,74,76,88,207,208,239,170,251,67,77,51,133,69,249,2,127,80,60,159,168,81,163,64,143,146,157,56,245,188,182,218,33,16,255,243,210,205,12,19,236,95,151,68,23,196,167,126,61,100,93,25,115,96,129,79,220,34,42,144,136,70,238,184,20,222,94,11,219,224,50,58,10,73,6,36,92,194,211,172,98,145,149,228,121,231,200,55,109,141,213,78,169,108,86,244,234,101,122,174,8,186,120,37,46,28,166,180,198,232,221,116,31,75,189,139,138,112,62,181,102,72,3,246,14,97,53,87,185,134,193,29,158,225,248,152,17,105,217,142,148,155,30,135,233,206,85,40,223,140,161,137,13,191,230,66,104,65,153,45,15,176,84,187,22]⟩=256:=rfl
set_option maxRecDepth 100000 in
theorem ajd (x:UInt8):(ByteArray.data ⟨#[99,124,119,123,242,107,111,197,48,1,103,43,254,215,171,118,202,130,201,125,250,89,71,240,173,212,162,175,156,164,114,192,183,253,147,38,54,63,247,204,52,165,229,241,113,216,49,21,4,199,35,195,24,150,5,154,7,18,128,226,235,39,178,117,9,131,44,26,27,110,90,160,82,59,214,179,41,227,47,132,83,209,0,237,32,252,177,91,106,203,190,57,74,76,88,207,208,239,170,251,67,77,51,133,69,249,2,127,80,60,159,168,81,163,64,143,146,157,56,245,188,182,218,33,16,255,243,210,205,12,19,236,95,151,68,23,196,167,126,61,100,93,25,115,96,129,79,220,34,42,144,136,70,238,184,20,222,94,11,219,224,50,58,10,73,6,36,92,194,211,172,98,145,149,228,121,231,200,55,109,141,213,78,169,108,86,244,234,101,122,174,8,186,120,37,46,28,166,180,198,232,221,116,31,75,189,139,138,112,62,181,102,72,3,246,14,97,53,87,185,134,193,29,158,225,248,152,17,105,217,142,148,155,30,135,233,206,85,40,223,140,161,137,13,191,230,66,104,65,153,45,15,176,84,187,22]⟩).toList[x.toNat]?=some (g9 x):=by
  have e:(ByteArray.data ⟨#[99,124,119,123,242,107,111,197,48,1,103,43,254,215,171,118,202,130,201,125,250,89,71,240,173,212,162,175,156,164,114,192,183,253,147,38,54,63,247,204,52,165,229,241,113,216,49,21,4,199,35,195,24,150,5,154,7,18,128,226,235,39,178,117,9,131,44,26,27,110,90,160,82,59,214,179,41,227,47,132,83,209,0,237,32,252,177,91,106,203,190,57,74,76,88,207,208,239,170,251,67,77,51,133,69,249,2,127,80,60,159,168,81,163,64,143,146,157,56,245,188,182,218,33,16,255,243,210,205,12,19,236,95,151,68,23,196,167,126,61,100,93,25,115,96,129,79,220,34,42,144,136,70,238,184,20,222,94,11,219,224,50,58,10,73,6,36,92,194,211,172,98,145,149,228,121,231,200,55,109,141,213,78,169,108,86,244,234,101,122,174,8,186,120,37,46,28,166,180,198,232,221,116,31,75,189,139,138,112,62,181,102,72,3,246,14,97,53,87,185,134,193,29,158,225,248,152,17,105,217,142,148,155,30,135,233,206,85,40,223,140,161,137,13,191,230,66,104,65,153,45,15,176,84,187,22]⟩).toList=Vp:=rfl;rw[e,aea]; exact aa5 x
set_option maxRecDepth 100000
def MO:ByteArray:=⟨#[99,124,119,123,242,107,111,197,48,1,103,43,254,215,171,118,202,130,201,125,250,89,71,240,173,212,162,175,156,164,114,192,183,253,147,38,54,63,247,204,52,165,229,241,113,216,49,21,4,199,35,195,24,150,5,154,7,18,128,226,235,39,178,117,9,131,44,26,27,110,90,160,82,59,214,179,41,227,47,132,83,209,0,237,32,252,177,91,106,203,190,57,74,76,88,207,208,239,170,251,67,77,51,133,69,249,2,127,80,60,159,168,81,163,64,143,146,157,56,245,188,182,218,33,16,255,243,210,205,12,19,236,95,151,68,23,196,167,126,61,100,93,25,115,96,129,79,220,34,42,144,136,70,238,184,20,222,94,11,219,224,50,58,10,73,6,36,92,194,211,172,98,145,149,228,121,231,200,55,109,141,213,78,169,108,86,244,234,101,122,174,8,186,120,37,46,28,166,180,198,232,221,116,31,75,189,139,138,112,62,181,102,72,3,246,14,97,53,87,185,134,193,29,158,225,248,152,17,105,217,142,148,155,30,135,233,206,85,40,223,140,161,137,13,191,230,66,104,65,153,45,15,176,84,187,22]⟩
def RZ:aO:=⟨1,5,ae [oO 2 (.mv (.k (.c (.d aj))))] (ae [oM 3 0,oO 4 (.idxStr (.k (.c (.d (.str MO)))) (.t 3)),oM 2 4] .ret),[(2,none)]⟩
theorem aje:aM Tryz.prog {} Tryz.f181=some RZ:=by kernel_rfl
theorem zi (G:au) (x:UInt8):aF Tryz.prog G 181 [bD x] (.w (.c (.d (bD (g9 x))))):=by
  refine aX Tryz.func181 aje rfl rfl ?_;have h:=rI x;have e:=ajd x;simp only[RZ,MO,ai,af,seval,iteOmega,toNatUp,aa7,e];exact aZ
def dm (f:Nat→UInt8) (l:List UInt8) (i:Nat):List UInt8:=(List.range i).map f++l.drop i
theorem vw (f:Nat→UInt8) (l:List UInt8) {i:Nat} (h:i≤l.length):(dm f l i).length=l.length:=by
  unfold dm; rw[apS,ap1,aqV,ap5]; omega
theorem ya (f:Nat→UInt8) (l:List UInt8):dm f l 0=l:=by simp[dm]
theorem Ol (f:Nat→UInt8) (l:List UInt8) {i:Nat} (h:l.length≤i):dm f l i=(List.range i).map f:=by
  unfold dm; rw[aqY h,ap7]
theorem Qa (f:Nat→UInt8) (l:List UInt8) {i j:Nat} (hj:i≤j):(dm f l i)[j]?=l[j]?:=by
  unfold dm;rw[aql (by simpa using hj),aq7,ap1,aqV,show i+(j-i)=j by omega]
theorem aa8 (f:Nat→UInt8) (l:List UInt8) {i j:Nat} (hj:j<i):(dm f l i)[j]?=some (f j):=by
  unfold dm;rw[aqM (by simpa using hj)];simp[hj]
theorem yb (f:Nat→UInt8) (l:List UInt8) {i:Nat} (h:i<l.length):(dm f l i).set i (f i)=dm f l (i+1):=by
  unfold dm;rw[art _ _ (by simp),ap1,aqV,arE,ars h,List.set_cons_zero,aqS,ap8,ap6];rfl
theorem iI {l:List UInt8} {j:Nat} (h:j<l.length):l[j]?=some (l.getD j 0):=by
  rw[apT,apR h]; rfl
theorem bD1:bD 1=.int .u8 1:=rfl
set_option maxHeartbeats 1600000
def ue (s k:List UInt8):List UInt8:=dJ (mc (bZ s) (bZ k))
def wQ (s:List UInt8):List UInt8:=dJ (nr (bZ s))
def zz (s:List UInt8):List UInt8:=dJ (me (bZ s))
theorem aa9 (s k:List UInt8):(ue s k).length=16:=kB _
theorem Gk (s:List UInt8):(wQ s).length=16:=kB _
theorem Om (s:List UInt8):(zz s).length=16:=kB _
theorem tG (f:fW):Uh (bZ (dJ f)) f:=fun j hj=>by
  unfold bZ; rw[apT,BC f hj]; rfl
theorem Gl (f g:fW):ue (dJ f) (dJ g)=dJ (mc f g):=FC fun j hj=>by
  unfold mc; rw[tG f j hj,tG g j hj]
theorem On (f:fW):wQ (dJ f)=dJ (nr f):=FC fun j hj=>by
  unfold nr; rw[tG f _ (by omega)]
theorem aba (f:fW):zz (dJ f)=dJ (me f):=FC fun j hj=>by
  unfold me; rw[tG f _ (by omega),tG f _ (by omega),tG f _ (by omega),tG f _ (by omega)]
theorem mT:[D.int .u8 0,.int .u8 0,.int .u8 0,.int .u8 0,.int .u8 0,.int .u8 0,.int .u8 0,.int .u8 0,.int .u8 0,.int .u8 0,.int .u8 0,.int .u8 0,.int .u8 0,.int .u8 0,.int .u8 0,.int .u8 0]=(cG 16 (0:UInt8)).map bD:=rfl
theorem BD (f:fW) {l:List UInt8} (h:l.length=16):dm f l 16=dJ f:=Ol f l (by omega)
theorem tT (a b:Nat):Int.tmod (a:Int) (b:Int)=((a%b:Nat):Int):=rfl
def JG (s k:List UInt8) (i:Nat):St:=⟨bw [(2,.w (.c (.pa 1 1))),(4,.w (.c (.pa 2 1))),(7,.w (.c (.d (.agg (k.map bD))))),(8,.w (.c (.d (.int .i64 (i:Int)))))],hL [(1,.row 1 ((dm (mc (bZ s) (bZ k)) s i).map bD)),(2,.row 1 ((cG 16 (0:UInt8)).map bD))],uL [1,2]⟩
def Gm:bp := ae [ak .lss 9 8 16] (.seq (ar 9 .skip (.exit 0)) (.seq (.block 1 (ae [oM 10 8,oO 11 (.idxArr 1 16 .sc (.t 7) (.t 8)),oM 5 10,oM 6 11] (.reg [oM 12 5,oO 13 (.idxPa 1 16 (.t 2) (.t 12)),aA 14 13,oM 15 6,aU .xor 16 14 15,oO 17 (.idxPa 1 16 (.t 2) (.t 12)),d6 17 16]))) (.reg [ak .add 18 8 1,oM 8 18])))
def R0:aO:=⟨2,20,ae [oO 2 (.box .ownArr (.t 0)),oO 3 (.box .roArr (.t 1)),oO 4 (.allocArr [aj,aj,aj,aj,aj,aj,aj,aj,aj,aj,aj,aj,aj,aj,aj,aj])] (.seq (ae [bn 7 16 3,am 8 0] (.block 0 (.loop Gm))) (ae [bn 19 16 2,aS 16 4 19] .ret)),[(4,(some (.ag 16)))]⟩
theorem ajf:aM Tryz.prog { own:=[2] } Tryz.f171=some R0:=by kernel_rfl
theorem JH (G:au) (s k:List UInt8) (hs:s.length=16) (hk:k.length=16):aF Tryz.prog G 171 [.agg (s.map bD),.agg (k.map bD)] (.w (.c (.d (.agg ((ue s k).map bD))))):=by
  refine aX Tryz.func171 ajf rfl rfl ?_;simp only[R0,ai,af,seval,mT,hk];refine bO (JG s k) (fun i=>16-i) (fun i=>i≤16) 0 (apZ _) ?_ ?_
  ·refine aR (fun i=>if i=1 then 16 else 32) ?_ ?_ rfl rfl <;> simp only[wx,aH,seval,ya]
  ·intro i hi;have hl:(dm (mc (bZ s) (bZ k)) s i).length=16:=by rw[vw _ _ (by omega)]; exact hs
   by_cases hlt:i<16
   ·have g1:k[i]?=some (k.getD i 0):=iI (by omega);have g2:(dm (mc (bZ s) (bZ k)) s i)[i]?=some (s.getD i 0):=by rw[Qa _ _ (ap3 i)]; exact iI (by omega)
    have h3:i<(dm (mc (bZ s) (bZ k)) s i).length:=by omega
    have h4:=mo (s.getD i 0) (k.getD i 0);have h5:(dm (mc (bZ s) (bZ k)) s i).set i (a9 (s.getD i 0) (k.getD i 0))=dm (mc (bZ s) (bZ k)) s (i+1):=yb (mc (bZ s) (bZ k)) s (by omega);simp only[Gm,JG,af,aa,seval,iteOmega,toNatUp,bc,g1,g2,h4,kC h3 (jU _),lU,h5];refine bA (i+1) (by omega) (by omega) (aR (fun i=>i) ?_ ?_ rfl rfl) <;> simp only[wx,aH,aV,seval]
   ·obtain rfl:i=16:=by omega
    have e:dm (mc (bZ s) (bZ k)) s 16=ue s k:=BD _ hs;have e2:=aa9 s k;simp only[Gm,JG,e,af,aa,seval,e2,eL];exact aZ
def JI (s:List UInt8) (i:Nat):St:=⟨bw [(1,.w (.c (.ra (s.map bD)))),(2,.w (.c (.pa 2 1))),(3,.w (.c (.pa 1 1))),(6,.w (.c (.d (.int .i64 (i:Int)))))],hL [(1,.row 1 ((dm (nr (bZ s)) (cG 16 (0:UInt8)) i).map bD)),(2,.row 1 ((cG 16 (0:UInt8)).map bD))],uL [1,2]⟩
def FD:bp := ae [ak .lss 7 6 16] (.seq (ar 7 .skip (.exit 0)) (.seq (.block 1 (ae [oM 8 6,oM 4 8] (ae [oM 9 4,ak .rem 10 9 4,oM 5 10] (.reg [oM 11 4,oM 12 4,oM 13 5,ak .mul 14 13 4,aU .add 15 12 14,ak .rem 16 15 16,oO 17 (.idxPa 1 16 (.t 1) (.t 16)),aA 18 17,aY 19 181 18,oO 20 (.idxPa 1 16 (.t 3) (.t 11)),d6 20 19])))) (.reg [ak .add 21 6 1,oM 6 21])))
def Qb:aO:=⟨1,23,ae [oO 1 (.box .roArr (.t 0)),oO 2 (.allocArr [aj,aj,aj,aj,aj,aj,aj,aj,aj,aj,aj,aj,aj,aj,aj,aj])] (ae [oO 3 (.allocArr [aj,aj,aj,aj,aj,aj,aj,aj,aj,aj,aj,aj,aj,aj,aj,aj])] (.seq (ae [am 6 0] (.block 0 (.loop FD))) (ae [bn 22 16 3,aS 16 2 22] .ret))),[(2,(some (.ag 16)))]⟩
theorem aeb:aM Tryz.prog {} Tryz.f173=some Qb:=by kernel_rfl
theorem R3 (G:au) (s:List UInt8) (hs:s.length=16):aF Tryz.prog G 173 [.agg (s.map bD)] (.w (.c (.d (.agg ((wQ s).map bD))))):=by
  refine aX Tryz.func173 aeb rfl rfl ?_;simp only[Qb,ai,af,seval,mT];refine bO (JI s) (fun i=>16-i) (fun i=>i≤16) 0 (apZ _) ?_ ?_
  ·refine aR (fun i=>if i=1 then 24 else 16) ?_ ?_ rfl rfl <;> simp only[wx,aH,seval,ya]
  ·intro i hi;have hl:(dm (nr (bZ s)) (cG 16 (0:UInt8)) i).length=16:=by rw[vw _ _ (by rw[eL]; omega),eL]
   by_cases hlt:i<16
   ·have hm:(i+i%4*4)%16=i%4+4*((i / 4+i%4)%4):=by omega
    have hm2:(i+i%4*4)%16<16:=by omega
    have g1:s[(i+i%4*4)%16]?=some (bZ s (i%4+4*((i / 4+i%4)%4))):=by rw[← hm]; exact iI (by omega)
    have h3:i<(dm (nr (bZ s)) (cG 16 (0:UInt8)) i).length:=by omega
    have h5:(dm (nr (bZ s)) (cG 16 (0:UInt8)) i).set i (g9 (bZ s (i%4+4*((i / 4+i%4)%4))))=dm (nr (bZ s)) (cG 16 (0:UInt8)) (i+1):=yb (nr (bZ s)) _ (by rw[eL]; omega);have t1:Int.tmod (i:Int) 4=((i%4:Nat):Int):=tT i 4;have t2:Int.tmod ((i:Int)+((i%4:Nat):Int)*4) 16=(((i+i%4*4)%16:Nat):Int):=tT (i+i%4*4) 16;have hb:(i%4:Nat)<4:=arw _ (by decide);generalize hq:i%4=q at *
    generalize hp:(i+q*4)%16=p at *
    simp only[FD,JI,af,seval,iteOmega,toNatUp,bc,t1,t2,g1];refine sC (zi G (bZ s (q+4*((i / 4+q)%4)))) ?_;simp only[kC h3 (jU _),lU,h5,af,aa,seval,iteOmega,toNatUp];refine bA (i+1) (by omega) (by omega) (aR (fun i=>i) ?_ ?_ rfl rfl) <;> simp only[wx,aH,aV,seval]
   ·obtain rfl:i=16:=by omega
    have e:dm (nr (bZ s)) (cG 16 (0:UInt8)) 16=wQ s:=BD _ (eL _ _);have e2:=Gk s;simp only[FD,JI,e,af,aa,seval,e2,eL];exact aZ
theorem ajg (a b c d:UInt8):a9 (a9 (a9 (mi (a9 a b)) b) c) d=DZ a b c d:=by
  unfold DZ Lf;rw[ad9 a b,RY,RY]
def ID (s:List UInt8) (i:Nat):St:=⟨bw [(1,.w (.c (.ra (s.map bD)))),(2,.w (.c (.pa 2 1))),(3,.w (.c (.pa 1 1))),(8,.w (.c (.d (.int .i64 (i:Int)))))],hL [(1,.row 1 ((dm (me (bZ s)) (cG 16 (0:UInt8)) i).map bD)),(2,.row 1 ((cG 16 (0:UInt8)).map bD))],uL [1,2]⟩
def FE:bp := ae [ak .lss 9 8 16] (.seq (ar 9 .skip (.exit 0)) (.seq (.block 1 (ae [oM 10 8,oM 4 10] (ae [oM 11 4,ak .rem 12 11 4,oM 5 12] (ae [oM 13 4,oM 14 5,aU .sub 15 13 14,oM 16 4,oM 17 5,aU .sub 18 16 17,ak .add 19 18 4,oO 20 (.sliceArr 1 16 (.t 1) (some (.t 15)) (some (.t 19))),oM 6 20] (ae [oM 21 6,oM 22 5,ak .add 23 22 1,ak .rem 24 23 4,bU 25 1 21 24,aA 26 25,oM 7 26] (.reg [oM 27 4,oM 28 4,oO 29 (.idxPa 1 16 (.t 1) (.t 28)),aA 30 29,oM 31 7,aU .xor 32 30 31,aY 33 169 32,oM 34 7,aU .xor 35 33 34,oM 36 6,oM 37 5,ak .add 38 37 2,ak .rem 39 38 4,bU 40 1 36 39,aA 41 40,aU .xor 42 35 41,oM 43 6,oM 44 5,ak .add 45 44 3,ak .rem 46 45 4,bU 47 1 43 46,aA 48 47,aU .xor 49 42 48,oO 50 (.idxPa 1 16 (.t 3) (.t 27)),d6 50 49])))))) (.reg [ak .add 51 8 1,oM 8 51])))
def Qc:aO:=⟨1,53,ae [oO 1 (.box .roArr (.t 0)),oO 2 (.allocArr [aj,aj,aj,aj,aj,aj,aj,aj,aj,aj,aj,aj,aj,aj,aj,aj])] (ae [oO 3 (.allocArr [aj,aj,aj,aj,aj,aj,aj,aj,aj,aj,aj,aj,aj,aj,aj,aj])] (.seq (ae [am 8 0] (.block 0 (.loop FE))) (ae [bn 52 16 3,aS 16 2 52] .ret))),[(2,(some (.ag 16)))]⟩
theorem aec:aM Tryz.prog {} Tryz.f172=some Qc:=by kernel_rfl
theorem ajh (G:au) (s:List UInt8) (hs:s.length=16):aF Tryz.prog G 172 [.agg (s.map bD)] (.w (.c (.d (.agg ((zz s).map bD))))):=by
  refine aX Tryz.func172 aec rfl rfl ?_;simp only[Qc,ai,af,seval,mT];refine bO (ID s) (fun i=>16-i) (fun i=>i≤16) 0 (apZ _) ?_ ?_
  ·refine aR (fun i=>if i=1 then 24 else 16) ?_ ?_ rfl rfl <;> simp only[wx,aH,seval,ya]
  ·intro i hi;have hl:(dm (me (bZ s)) (cG 16 (0:UInt8)) i).length=16:=by rw[vw _ _ (by rw[eL]; omega),eL]
   by_cases hlt:i<16
   ·have h3:i<(dm (me (bZ s)) (cG 16 (0:UInt8)) i).length:=by omega
    have h5:(dm (me (bZ s)) (cG 16 (0:UInt8)) i).set i (me (bZ s) i)=dm (me (bZ s)) (cG 16 (0:UInt8)) (i+1):=yb (me (bZ s)) _ (by rw[eL]; omega);have g0:s[i]?=some (bZ s i):=iI (by omega);obtain⟨q,r,hr,rfl⟩:∃ q r,r<4∧i=4*q+r:=⟨i / 4,i%4,arw _ (by decide),by omega⟩
    have hq:q<4:=by omega
    have col:∀ j,j<4→((s.drop (4*q)).take 4)[j]?=some (bZ s (4*q+j)):=fun j hj=>by
      rw[aq5,if_pos hj,aq7]; exact iI (by omega)
    have g1:=col ((r+1)%4) (arw _ (by decide));have g2:=col ((r+2)%4) (arw _ (by decide));have g3:=col ((r+3)%4) (arw _ (by decide));have t0:Int.tmod (4*(q:Int)+(r:Int)) 4=(r:Int):=by
      show Int.tmod ((4*q+r:Nat):Int) ((4:Nat):Int)=_
      rw[tT]; congr 1; omega
    have t1:Int.tmod ((r:Int)+1) 4=(((r+1)%4:Nat):Int):=tT (r+1) 4;have t2:Int.tmod ((r:Int)+2) 4=(((r+2)%4:Nat):Int):=tT (r+2) 4;have t3:Int.tmod ((r:Int)+3) 4=(((r+3)%4:Nat):Int):=tT (r+3) 4;have b1:(r+1)%4<4:=arw _ (by decide);have b2:(r+2)%4<4:=arw _ (by decide);have b3:(r+3)%4<4:=arw _ (by decide);have em:me (bZ s) (4*q+r)=DZ (bZ s (4*q+r)) (bZ s (4*q+(r+1)%4)) (bZ s (4*q+(r+2)%4)) (bZ s (4*q+(r+3)%4)):=by
      unfold me;rw[show (4*q+r) / 4=q by omega,show (4*q+r)%4=r by omega]
    rw[em,← ajg] at h5;have s1:4*q+r-r=4*q:=by omega
    have s2:4*q+4-4*q=4:=by omega
    have s3:((s.drop (4*q)).take 4).length=4:=by rw[ap0,ap5]; omega
    generalize (r+1)%4=r1 at *
    generalize (r+2)%4=r2 at *
    generalize (r+3)%4=r3 at *
    generalize bZ s (4*q+r)=a at *
    generalize bZ s (4*q+r1)=b at *
    generalize bZ s (4*q+r2)=c at *
    generalize bZ s (4*q+r3)=d at *
    have x1:=mo a b;have x2:=mo (mi (a9 a b)) b;have x3:=mo (a9 (mi (a9 a b)) b) c;have x4:=mo (a9 (a9 (mi (a9 a b)) b) c) d;simp only[FE,ID,af,seval,iteOmega,toNatUp,bc,t0,t1,g0,g1,s1,s2,s3,x1];refine sC (Ui G (a9 a b)) ?_;simp only[bc,t2,t3,g2,g3,s3,x2,x3,x4,kC h3 (jU _),lU,h5,af,aa,seval,iteOmega,toNatUp];refine bA (4*q+r+1) (by omega) (by omega) (aR (fun i=>i) ?_ ?_ rfl rfl) <;> simp only[wx,aH,aV,seval]
   ·obtain rfl:i=16:=by omega
    have e:dm (me (bZ s)) (cG 16 (0:UInt8)) 16=zz s:=BD _ (eL _ _);have e2:=Om s;simp only[FE,ID,e,af,aa,seval,e2,eL];exact aZ
def wV0 (l:List UInt8) (c:UInt8) (j:Nat):UInt8:=if j=0 then a9 (g9 (l.getD 13 0)) c else if j=1 then g9 (l.getD 14 0) else if j=2 then g9 (l.getD 15 0) else g9 (l.getD 12 0)
def wV (l:List UInt8) (c:UInt8):Nat→Nat→UInt8
  | 0,j=>wV0 l c j
  | n+1,j=>if j=n%4 then a9 (l.getD n 0) (wV l c n (n%4)) else wV l c n j
def lv (l:List UInt8) (c:UInt8) (n:Nat):UInt8:=a9 (l.getD n 0) (wV l c n (n%4))
def sM (l:List UInt8) (c:UInt8):List UInt8:=dJ (lv l c)
theorem AV (l:List UInt8) (c:UInt8):(sM l c).length=16:=kB _
def wL (l:List UInt8) (c:UInt8) (i:Nat):List UInt8:=(List.range 4).map (wV l c i)
theorem vM (l:List UInt8) (c:UInt8) (i:Nat):(wL l c i).length=4:=by simp[wL]
theorem IE (l:List UInt8) (c:UInt8) (i:Nat) {j:Nat} (h:j<4):(wL l c i)[j]?=some (wV l c i j):=by simp[wL,h]
theorem aed (l:List UInt8) (c:UInt8) (i:Nat):(wL l c i).set (i%4) (lv l c i)=wL l c (i+1):=by
  apply aq2;intro j;by_cases hj:j<4
  ·rw[IE _ _ _ hj,ar2];by_cases e:i%4=j
   ·rw[if_pos e,if_pos (by rw[vM]; omega),wV,if_pos e.symm]; rfl
   ·rw[if_neg e,IE _ _ _ hj,wV,if_neg (fun h=>e h.symm)]
  ·rw[aqI (by rw[arq,vM]; omega),aqI (by rw[vM]; omega)]
theorem aee (l:List UInt8) (c:UInt8):[a9 (g9 (l.getD 13 0)) c,g9 (l.getD 14 0),g9 (l.getD 15 0),g9 (l.getD 12 0)]=wL l c 0:=rfl
def JJ (l:List UInt8) (c:UInt8) (i:Nat):St:=⟨bw [(2,.w (.c (.pa 1 1))),(4,.w (.c (.pa 2 1))),(5,.w (.c (.pa 3 1))),(22,.w (.c (.d (.int .i64 (i:Int)))))],hL [(1,.row 1 ((dm (lv l c) l i).map bD)),(2,.row 1 ((cG 16 (0:UInt8)).map bD)),(3,.row 1 ((wL l c i).map bD))],uL [1,2,3]⟩
def Gn:bp := ae [ak .lss 23 22 16] (.seq (ar 23 .skip (.exit 0)) (.seq (.block 1 (ae [oM 24 22,oM 6 24] (ae [oM 25 6,oO 26 (.idxPa 1 16 (.t 2) (.t 25)),aA 27 26,oM 28 6,ak .rem 29 28 4,oO 30 (.idxPa 1 4 (.t 5) (.t 29)),aA 31 30,aU .xor 32 27 31,oO 33 (.idxPa 1 16 (.t 2) (.t 25)),d6 33 32] (.reg [oM 34 6,ak .rem 35 34 4,oM 36 6,oO 37 (.idxPa 1 16 (.t 2) (.t 36)),aA 38 37,oO 39 (.idxPa 1 4 (.t 5) (.t 35)),d6 39 38])))) (.reg [ak .add 40 22 1,oM 22 40])))
def R4:aO:=⟨2,42,ae [oO 2 (.box .ownArr (.t 0)),oO 4 (.allocArr [aj,aj,aj,aj,aj,aj,aj,aj,aj,aj,aj,aj,aj,aj,aj,aj])] (ae [oO 7 (.idxPa 1 16 (.t 2) (kI 13)),aA 8 7,aY 9 181 8,oM 10 1,aU .xor 11 9 10,oO 12 (.idxPa 1 16 (.t 2) (kI 14)),aA 13 12,aY 14 181 13,oO 15 (.idxPa 1 16 (.t 2) (kI 15)),aA 16 15,aY 17 181 16,oO 18 (.idxPa 1 16 (.t 2) (kI 12)),aA 19 18,aY 20 181 19,oO 21 (.build [(.d aj),(.d aj),(.d aj),(.d aj)] [(0,1,(.t 11)),(1,1,(.t 14)),(2,1,(.t 17)),(3,1,(.t 20))]),oO 5 (.allocArr [aj,aj,aj,aj]),aS 4 5 21] (.seq (ae [am 22 0] (.block 0 (.loop Gn))) (ae [bn 41 16 2,aS 16 4 41] .ret))),[(4,(some (.ag 16)))]⟩
theorem aji:aM Tryz.prog { own:=[2] } Tryz.f168=some R4:=by kernel_rfl
set_option maxHeartbeats 3200000 in
theorem ans (G:au) (l:List UInt8) (c:UInt8) (hl:l.length=16):aF Tryz.prog G 168 [.agg (l.map bD),bD c] (.w (.c (.d (.agg ((sM l c).map bD))))):=by
  refine aX Tryz.func168 aji rfl rfl ?_;have a13:l[13]?=some (l.getD 13 0):=iI (by omega);have a14:l[14]?=some (l.getD 14 0):=iI (by omega);have a15:l[15]?=some (l.getD 15 0):=iI (by omega);have a12:l[12]?=some (l.getD 12 0):=iI (by omega);have x0:=mo (g9 (l.getD 13 0)) c;have w0:=congrArg (List.map bD) (aee l c);have wl:=vM l c 0;simp only[apW,ap4] at w0;simp only[R4,ai,af,seval,toNatUp,mT,bc,a13];refine sC (zi G (l.getD 13 0)) ?_;simp only[x0,bc,a14,af,seval,toNatUp];refine sC (zi G (l.getD 14 0)) ?_;simp only[bc,a15,af,seval,toNatUp];refine sC (zi G (l.getD 15 0)) ?_;simp only[bc,a12,af,seval,toNatUp];refine sC (zi G (l.getD 12 0)) ?_;simp only[w0,af,aa,seval,iteOmega];refine bO (JJ l c) (fun i=>16-i) (fun i=>i≤16) 0 (apZ _) ?_ ?_
  ·refine aR (fun i=>if i=1 then 16 else if i=2 then 32 else 40) ?_ ?_ rfl rfl <;> simp only[wx,aH,seval,ya]
  ·intro i hi;have hu:(dm (lv l c) l i).length=16:=by rw[vw _ _ (by omega)]; exact hl
   by_cases hlt:i<16
   ·have hm:i%4<4:=arw _ (by decide);have t1:Int.tmod (i:Int) 4=((i%4:Nat):Int):=tT i 4;have g1:(dm (lv l c) l i)[i]?=some (l.getD i 0):=by rw[Qa _ _ (ap3 i)]; exact iI (by omega)
    have g2:=IE l c i hm;have x1:=mo (l.getD i 0) (wV l c i (i%4));have h3:i<(dm (lv l c) l i).length:=by omega
    have h4:i%4<(wL l c i).length:=by rw[vM]; exact hm
    have h5:(dm (lv l c) l i).set i (lv l c i)=dm (lv l c) l (i+1):=yb (lv l c) l (by omega);have h6:=aed l c i;have g3:(dm (lv l c) l (i+1))[i]?=some (lv l c i):=aa8 _ _ (Nat.lt_succ_self i);have hf:a9 (l.getD i 0) (wV l c i (i%4))=lv l c i:=rfl;have hwl:=vM l c i;have hu2:(dm (lv l c) l (i+1)).length=16:=by rw[vw _ _ (by omega)]; exact hl
    generalize hq:i%4=q at *
    simp only[Gn,JJ,af,aa,seval,iteOmega,toNatUp,bc,t1,g1,g2,x1,hf,kC h3 (jU _),kC h4 (jU _),lU,h5,h6,g3];refine bA (i+1) (by omega) (by omega) (aR (fun i=>i) ?_ ?_ rfl rfl) <;> simp only[wx,aH,aV,seval]
   ·obtain rfl:i=16:=by omega
    have e:dm (lv l c) l 16=sM l c:=BD _ hl;have e2:=AV l c;simp only[Gn,JJ,e,af,aa,seval,e2,eL];exact aZ
theorem YB {P Q:List UInt8} {k n:Nat} (h:P.length=n):(P++Q).getD (n+k) 0=Q.getD k 0:=by
  rw[apT,apT,aql (by omega),h,arA]
theorem abb {P Q:List UInt8} {k n:Nat} (h:P.length=n):(P++Q).drop (n+k)=Q.drop k:=by
  rw[← h,List.drop_append,aqY (by omega),aqz,arA]
theorem AB {P Q:List UInt8} {n:Nat} (h:P.length=4*n):qI (P++Q) n=(List.range 4).map fun k=>a9 (Q.getD k 0) ((wh (Q.drop 12) n).getD k 0):=by
  unfold qI;refine aqu fun k _=>?_
  rw[YB h,show 12+4*n=4*n+12 by omega,abb h]
theorem ant (b0 b1 b2 b3 b4 b5 b6 b7 b8 b9 b10 b11 b12 b13 b14 b15 c:UInt8):∃ f0 f1 f2 f3,
    f0=a9 b0 (a9 (g9 b13) c)∧f1=a9 b1 (g9 b14)∧f2=a9 b2 (g9 b15)∧f3=a9 b3 (g9 b12) ∧
    sM [b0,b1,b2,b3,b4,b5,b6,b7,b8,b9,b10,b11,b12,b13,b14,b15] c =
      [f0,f1,f2,f3,a9 b4 f0,a9 b5 f1,a9 b6 f2,a9 b7 f3,a9 b8 (a9 b4 f0),a9 b9 (a9 b5 f1),a9 b10 (a9 b6 f2),a9 b11 (a9 b7 f3),
       a9 b12 (a9 b8 (a9 b4 f0)),a9 b13 (a9 b9 (a9 b5 f1)),a9 b14 (a9 b10 (a9 b6 f2)),a9 b15 (a9 b11 (a9 b7 f3))] :=
  ⟨_,_,_,_,rfl,rfl,rfl,rfl,rfl⟩
theorem AW (f:Nat→UInt8):(List.range 4).map f=[f 0,f 1,f 2,f 3]:=rfl
theorem abc {P:List UInt8} {r:Nat} (hP:P.length=16*r) (b0 b1 b2 b3 b4 b5 b6 b7 b8 b9 b10 b11 b12 b13 b14 b15:UInt8) (key:List UInt8)
    (h:gy key (4*r)=P++[b0,b1,b2,b3,b4,b5,b6,b7,b8,b9,b10,b11,b12,b13,b14,b15]) :
    gy key (4*(r+1))=gy key (4*r)++sM [b0,b1,b2,b3,b4,b5,b6,b7,b8,b9,b10,b11,b12,b13,b14,b15] (mL r):=by
  obtain⟨f0,f1,f2,f3,e0,e1,e2,e3,ef⟩:=ant b0 b1 b2 b3 b4 b5 b6 b7 b8 b9 b10 b11 b12 b13 b14 b15 (mL r);have m0:4*r%4=0:=by omega
  have m1:(4*r+1)%4≠0:=by omega
  have m2:(4*r+2)%4≠0:=by omega
  have m3:(4*r+3)%4≠0:=by omega
  have d0:4*r / 4=r:=by omega
  have n0:qI (gy key (4*r)) (4*r)=[f0,f1,f2,f3]:=by
    rw[h,AB (by omega),AW];unfold wh;rw[if_pos m0,d0,e0,e1,e2,e3]; rfl
  have s1:gy key (4*r+1)=(P++[b0,b1,b2,b3])++[b4,b5,b6,b7,b8,b9,b10,b11,b12,b13,b14,b15,f0,f1,f2,f3]:=by
    rw[gy,n0,h]; simp
  have n1:qI (gy key (4*r+1)) (4*r+1)=[a9 b4 f0,a9 b5 f1,a9 b6 f2,a9 b7 f3]:=by
    rw[s1,AB (by simp; omega),AW];unfold wh;rw[if_neg m1]; rfl
  have s2:gy key (4*r+2)=(P++[b0,b1,b2,b3,b4,b5,b6,b7])++[b8,b9,b10,b11,b12,b13,b14,b15,f0,f1,f2,f3,a9 b4 f0,a9 b5 f1,a9 b6 f2,a9 b7 f3]:=by
    rw[show 4*r+2=(4*r+1)+1 from rfl,gy,n1,s1]; simp
  have n2:qI (gy key (4*r+2)) (4*r+2)=[a9 b8 (a9 b4 f0),a9 b9 (a9 b5 f1),a9 b10 (a9 b6 f2),a9 b11 (a9 b7 f3)]:=by
    rw[s2,AB (by simp; omega),AW];unfold wh;rw[if_neg m2]; rfl
  have s3:gy key (4*r+3)=(P++[b0,b1,b2,b3,b4,b5,b6,b7,b8,b9,b10,b11])++[b12,b13,b14,b15,f0,f1,f2,f3,a9 b4 f0,a9 b5 f1,a9 b6 f2,a9 b7 f3,a9 b8 (a9 b4 f0),a9 b9 (a9 b5 f1),a9 b10 (a9 b6 f2),a9 b11 (a9 b7 f3)]:=by
    rw[show 4*r+3=(4*r+2)+1 from rfl,gy,n2,s2]; simp
  have n3:qI (gy key (4*r+3)) (4*r+3)=[a9 b12 (a9 b8 (a9 b4 f0)),a9 b13 (a9 b9 (a9 b5 f1)),a9 b14 (a9 b10 (a9 b6 f2)),a9 b15 (a9 b11 (a9 b7 f3))]:=by
    rw[s3,AB (by simp; omega),AW];unfold wh;rw[if_neg m3]; rfl
  rw[show 4*(r+1)=(4*r+3)+1 by omega,gy,n3,s3,ef,h];simp
def kb (key:List UInt8) (r:Nat):List UInt8:=(gy key (4*r)).drop (16*r)
theorem IF {key:List UInt8} (h:key.length=16) (r:Nat):(kb key r).length=16:=by
  unfold kb; rw[ap5,tq h]; omega
theorem ajj {l:List UInt8} (h:l.length=16):∃ b0 b1 b2 b3 b4 b5 b6 b7 b8 b9 b10 b11 b12 b13 b14 b15,l=[b0,b1,b2,b3,b4,b5,b6,b7,b8,b9,b10,b11,b12,b13,b14,b15]:=by
  rcases l with _ | ⟨b0,l⟩ <;> simp at h
  rcases l with _ | ⟨b1,l⟩ <;> simp at h
  rcases l with _ | ⟨b2,l⟩ <;> simp at h
  rcases l with _ | ⟨b3,l⟩ <;> simp at h
  rcases l with _ | ⟨b4,l⟩ <;> simp at h
  rcases l with _ | ⟨b5,l⟩ <;> simp at h
  rcases l with _ | ⟨b6,l⟩ <;> simp at h
  rcases l with _ | ⟨b7,l⟩ <;> simp at h
  rcases l with _ | ⟨b8,l⟩ <;> simp at h
  rcases l with _ | ⟨b9,l⟩ <;> simp at h
  rcases l with _ | ⟨b10,l⟩ <;> simp at h
  rcases l with _ | ⟨b11,l⟩ <;> simp at h
  rcases l with _ | ⟨b12,l⟩ <;> simp at h
  rcases l with _ | ⟨b13,l⟩ <;> simp at h
  rcases l with _ | ⟨b14,l⟩ <;> simp at h
  rcases l with _ | ⟨b15,l⟩ <;> simp at h
  subst h;exact⟨_,_,_,_,_,_,_,_,_,_,_,_,_,_,_,_,rfl⟩
theorem aef {key:List UInt8} (h:key.length=16) (r:Nat):gy key (4*(r+1))=gy key (4*r)++sM (kb key r) (mL r):=by
  obtain⟨b0,b1,b2,b3,b4,b5,b6,b7,b8,b9,b10,b11,b12,b13,b14,b15,e⟩:=ajj (IF h r);rw[e];refine abc (P:=(gy key (4*r)).take (16*r)) ?_ _ _ _ _ _ _ _ _ _ _ _ _ _ _ _ _ key ?_
  ·rw[ap0,tq h]; omega
  ·rw[← e]; exact (aqq _ _).symm
def kf (key:List UInt8) (i:Nat):List UInt8:=gy key (4*i)++cG (160-16*i) 0
theorem aeg {key:List UInt8} (h:key.length=16) {i:Nat} (hi:i≤10):(kf key i).length=176:=by
  unfold kf; rw[apS,tq h,eL]; omega
theorem abd {key:List UInt8} (h:key.length=16):eO (cG 176 (0:UInt8)) 0 key=kf key 0:=by
  unfold eO kf cG;rw[arb,aqz,List.drop_replicate,h]; rfl
theorem abe {key:List UInt8} (h:key.length=16) {i:Nat} (hi:i≤10):((kf key i).drop (i*16)).take 16=kb key i:=by
  unfold kf;rw[arL,arP (by rw[tq h]; omega)];exact List.take_left' (IF h i)
theorem abf {key:List UInt8} (h:key.length=16) {i:Nat} (hi:i<10):eO (kf key i) ((i+1)*16) (sM (kb key i) (mL i))=kf key (i+1):=by
  have hl:(gy key (4*i)).length=(i+1)*16:=by rw[tq h]; omega
  unfold eO kf;rw[aef h,aqK (by omega),apX (by omega),AV,List.drop_append,aqY (by omega),aqz,hl]
  congr 1
  unfold cG;rw[List.drop_replicate]
  congr 1
  omega
theorem abg (key:List UInt8):kf key 10=bF key:=by
  unfold kf cG bF; rw[show 160-16*10=0 from rfl,aro,ap7]
set_option maxHeartbeats 3200000
def IG (key:List UInt8) (i:Nat):St:=⟨bw [(2,.w (.c (.ptr 2 1 0 0))),(3,.w (.c (.ptr 1 1 0 0))),(4,.w (.c (.d (bD (mL i))))),(5,.w (.c (.d (.int .i64 ((i+1:Nat):Int)))))],hL [(1,.box ((kf key i).map bC)),(2,.box ((cG 176 (0:UInt8)).map bC))],uL [1,2]⟩
theorem apB:mL 0=1:=rfl
def FF:bp := .seq (ae [oM 10 5,ak .leq 11 10 10] (ar 11 .skip (.exit 0))) (.seq (.block 1 (ae [oM 14 5,oM 15 5,ak .sub 16 15 1,oO 17 (.idxPa 16 11 (.t 3) (.t 16)),bn 18 16 17,oM 19 4,ct 20 168 18 19,oO 21 (.idxPa 16 11 (.t 3) (.t 14)),aS 16 21 20] (.reg [oM 22 4,aY 23 169 22,oM 4 23]))) (.reg [oM 12 5,ak .add 13 12 1,oM 5 13]))
def Qd:aO:=⟨1,25,ae [oO 2 (.alloc (cG 176 (.d aj)))] (ae [oO 3 (.alloc (cG 176 (.d aj)))] (ae [oO 6 (.idxPa 16 11 (.t 3) (kI 0)),oO 7 (.sliceArr 1 16 (.t 6) none none),oM 8 0,oO 9 (.copy 1 (.t 7) (.t 8))] (ae [oO 4 (.mv (.k (.c (.d (.int .u8 1)))))] (.seq (ae [am 5 1] (.block 0 (.loop FF))) (ae [bn 24 176 3,aS 176 2 24] .ret))))),[(2,(some (.ag 176)))]⟩
theorem aeh:aM Tryz.prog {} Tryz.f157=some Qd:=by kernel_rfl
theorem R5 (G:au) (key:List UInt8) (h:key.length=16):aF Tryz.prog G 157 [.sl (key.map bD)] (.w (.c (.d (.agg ((bF key).map bD))))):=by
  refine aX Tryz.func157 aeh rfl rfl ?_;have ht:key.take 16=key:=apX (by omega);have h0:key++List.drop key.length (cG 176 (0:UInt8))=kf key 0:=by rw[← abd h]; simp[eO]
  have hid:=lT (kf key 0);have hid2:=lT (cG 176 (0:UInt8));simp only[Qd,ai,af,seval,iteOmega,toNatUp,PM,eL,ht,zf,h0];refine bO (IG key) (fun i=>10-i) (fun i=>i≤10) 0 (apZ _) ?_ ?_
  ·refine aR (fun i=>if i=1 then 24 else 16) ?_ ?_ rfl (by simp[V.ids,W.ids,C.ids,Ob.ids,lT]) <;> simp only[wx,aH,seval,apB,bD1,vK]
  ·intro i hi;have hl:=aeg h hi;by_cases hlt:i<10
   ·have g1:=abe h hi;have h5:List.take ((i+1)*16) (kf key i)++sM (kb key i) (mL i)++List.drop ((i+1)*16+16) (kf key i)=kf key (i+1):=by
      rw[← abf h hlt]; unfold eO; rw[AV]
    have hf:=AV (kb key i) (mL i);have hx:mi (mL i)=mL (i+1):=rfl;have s1:((i:Int)+1-1).toNat=i:=by omega
    simp only[FF,IG,af,seval,iteOmega,toNatUp,hl,g1,yn];refine sC (ans G (kb key i) (mL i) (IF h i)) ?_;simp only[oY,hl,zf,hf,kA,qi,rH,h5,af,aa,seval,iteOmega,toNatUp];refine sC (Ui G (mL i)) ?_;simp only[hx,af,seval,iteOmega];refine bA (i+1) (by omega) (by omega) (aR (fun i=>i) ?_ ?_ rfl (by simp[V.ids,W.ids,C.ids,Ob.ids,lT])) <;> simp only[wx,aH,aV,seval,vK]
   ·obtain rfl:i=10:=by omega
    have e:=abg key;have e2:=Hm h;rw[e] at hl;have t1:(bF key).take 176=bF key:=apX (by omega);have t2:List.drop 176 (cG 176 (0:UInt8))=[]:=aqY (by rw[eL]; omega);have t3:bF key++List.drop (bF key).length (cG 176 (0:UInt8))=bF key:=by rw[e2,t2,ap7]
    simp only[FF,IG,e,af,aa,seval,hl,t1,t2,yn,zf,eL];exact tD (by simp only[af,seval,hl,t1,yn])
theorem abh (l:List UInt8):gY ((l.map bD).map C.d)=some (l.map bD):=by
  induction l with
  | nil=>rfl
  | cons x l ih =>
    show gY (C.d (bD x)::(l.map bD).map C.d)=_
    simp only[gY,ih,apW,aq4]
theorem abi (rk b:List UInt8) (hb:b.length=16):ue b (dJ (hY rk 0))=dJ (nB (hY rk) (bZ b) 0):=by
  have:=Gl (bZ b) (hY rk 0);rw[ajb hb] at this;exact this
theorem aei (rk b:List UInt8) {n:Nat} (h:n+1<10):ue (zz (wQ (dJ (nB (hY rk) (bZ b) n)))) (dJ (hY rk (n+1)))=dJ (nB (hY rk) (bZ b) (n+1)):=by
  rw[On,aba,Gl]
  show _=dJ (IB _ _ _)
  unfold IB;rw[if_pos h]
theorem abj (rk b:List UInt8):ue (wQ (dJ (nB (hY rk) (bZ b) 9))) (dJ (hY rk 10))=iv rk b:=by
  rw[On,Gl];rfl
def JK (rk b:List UInt8) (i:Nat):St:=⟨bw [(2,.w (.c (.rp (rk.map bD)))),(4,.w (.c (.pa 2 1))),(5,.w (.c (.pa 1 1))),(6,.w (.c (.d (.int .i64 ((i+1:Nat):Int)))))],hL [(1,.row 1 ((dJ (nB (hY rk) (bZ b) i)).map bD)),(2,.row 1 ((cG 16 (0:UInt8)).map bD))],uL [1,2]⟩
def FG:bp := .seq (ae [oM 14 6,ak .lss 15 14 10] (ar 15 .skip (.exit 0))) (.seq (.block 1 (.reg [bn 18 16 5,aY 19 173 18,aY 20 172 19,oM 21 6,oO 22 (.idxPa 16 11 (.t 2) (.t 21)),bn 23 16 22,ct 24 171 20 23,aS 16 5 24])) (.reg [oM 16 6,ak .add 17 16 1,oM 6 17]))
def Qe:aO:=⟨2,30,ae [cX 2 0,oO 4 (.allocArr [aj,aj,aj,aj,aj,aj,aj,aj,aj,aj,aj,aj,aj,aj,aj,aj])] (ae [oO 5 (.allocArr [aj,aj,aj,aj,aj,aj,aj,aj,aj,aj,aj,aj,aj,aj,aj,aj])] (ae [oO 7 (.sliceArr 1 16 (.t 5) none none),oM 8 1,oO 9 (.copy 1 (.t 7) (.t 8))] (ae [bn 10 16 5,oO 11 (.idxPa 16 11 (.t 2) (kI 0)),bn 12 16 11,ct 13 171 10 12,aS 16 5 13] (.seq (ae [am 6 1] (.block 0 (.loop FG))) (ae [bn 25 16 5,aY 26 173 25,oO 27 (.idxPa 16 11 (.t 2) (kI 10)),bn 28 16 27,ct 29 171 26 28,aS 16 4 29] .ret))))),[(4,(some (.ag 16)))]⟩
theorem aej:aM Tryz.prog {} Tryz.f159=some Qe:=by kernel_rfl
theorem R6 (G:au) (rk b:List UInt8) (hk:rk.length=176) (hb:b.length=16):aF Tryz.prog G 159 [.agg (rk.map bD),.sl (b.map bD)] (.w (.c (.d (.agg ((iv rk b).map bD))))):=by
  refine aX Tryz.func159 aej rfl rfl ?_;have ht:b.take 16=b:=apX (by omega);have key:∀ r,r≤10→(rk.drop (16*r)).take 16=dJ (hY rk r):=fun r hr=>by
    apply aq2;intro j;by_cases hj:j<16
    ·rw[BC _ hj,aq5,if_pos hj,aq7]; exact iI (by omega)
    ·rw[aqI (by rw[ap0]; omega),aqI (by rw[kB]; omega)]
  have d1:b++List.drop b.length (cG 16 (0:UInt8))=b:=by rw[hb,aqY (by rw[eL]; omega),ap7]
  have d2:List.drop 16 (cG 16 (0:UInt8))=[]:=aqY (by rw[eL]; omega);have k0:=key 0 (by decide);have l0:(dJ (hY rk 0)).length=16:=kB _;have t0:(dJ (hY rk 0)).take 16=dJ (hY rk 0):=apX (by rw[kB]; omega);have a0:=abi rk b hb;have la:=kB (nB (hY rk) (bZ b) 0);simp only[Nat.mul_zero,arm] at k0;simp only[Qe,ai,af,seval,toNatUp,mT,abh,eL,ht,d2,k0,hb,l0,t0];refine sC (JH G b (dJ (hY rk 0)) hb l0) ?_;simp only[a0,la,af,aa,seval,iteOmega];refine bO (JK rk b) (fun i=>9-i) (fun i=>i≤9) 0 (apZ _) ?_ ?_
  ·refine aR (fun i=>if i=1 then 40 else 32) ?_ ?_ rfl rfl <;> simp only[wx,aH,seval]
  ·intro i hi;have le:=kB (nB (hY rk) (bZ b) i);have hr:i+1≤10:=by omega
   have k1:=key (i+1) hr;rw[arL] at k1;have l1:(dJ (hY rk (i+1))).length=16:=kB _;have t1:(dJ (hY rk (i+1))).take 16=dJ (hY rk (i+1)):=apX (by rw[kB]; omega);by_cases hlt:i<9
   ·have h5:=aei rk b (n:=i) (by omega);have le2:=kB (nB (hY rk) (bZ b) (i+1));simp only[FG,JK,af,seval,iteOmega,le];refine sD (R3 G (dJ (nB (hY rk) (bZ b) i)) le) ?_;refine sC (ajh G _ (Gk _)) ?_;simp only[kA,qi,k1,l1,t1,af,seval,iteOmega,toNatUp];refine sC (JH G _ _ (Om _) l1) ?_;simp only[h5,le2,le,af,aa,seval,iteOmega];refine bA (i+1) (by omega) (by omega) (aR (fun i=>i) ?_ ?_ rfl rfl) <;> simp only[wx,aH,aV,seval]
   ·obtain rfl:i=9:=by omega
    have h5:=abj rk b;have le2:=nR rk b;simp only[FG,JK,af,seval,le];refine sC (R3 G (dJ (nB (hY rk) (bZ b) 9)) le) ?_;simp only[kA,qi,k1,l1,t1,af,seval,toNatUp];refine sC (JH G _ _ (Gk _) l1) ?_;simp only[h5,le2,eL,af,aa,seval];exact tD (by simp only[af,seval,le2])
def mB (a b c:List UInt8):List UInt8:=a++b++c

theorem Oo:∀ a b:List UInt8,fA (a++b)=if (fA b).2 then ((fA a).1++(fA b).1,(fA a).2) else (a++(fA b).1,false)
  | [],b=>by
    show fA b=if (fA b).2 then ([]++(fA b).1,true) else ([]++(fA b).1,false)
    rcases fA b with ⟨s,_ | _⟩ <;> rfl
  | x::a,b=>by
    have ih:=Oo a b;simp only[aqE,fA,ih];cases h:(fA b).2
    ·simp
    ·simp only[if_true];cases h2:(fA a).2 <;> simp
def carry (c:List UInt8) (m:Nat):Prop:=(fA (c.drop m)).2=true
def jo (c:List UInt8) (m:Nat):List UInt8:=c.take m++(fA (c.drop m)).1
theorem Oq (c:List UInt8) (m:Nat):(jo c m).length=c.length:=by
  unfold jo; rw[apS,Gj,← apS,aqq]
theorem WS (c:List UInt8):jo c c.length=c:=by unfold jo; simp[fA]
theorem Wg (c:List UInt8):carry c c.length:=by unfold carry; simp[fA]
theorem YC (c:List UInt8):jo c 0=qK c:=by unfold jo qK; simp
theorem aek {c:List UInt8} {m:Nat} (h:m<c.length):(jo c (m+1))[m]?=some (c.getD m 0):=by
  unfold jo;rw[aqM (by rw[ap0]; omega),aq5,if_pos (by omega)];exact iI h
theorem MP {c:List UInt8} {m:Nat} (h:m<c.length):c.drop m=c.getD m 0::c.drop (m+1):=by
  rw[ars h,apT,apR h]; rfl
theorem ael {c:List UInt8} {m:Nat} (h:m<c.length) (hc:carry c (m+1)):(jo c (m+1)).set m (c.getD m 0+1)=jo c m:=by
  have e:(fA (c.drop m)).1=(c.getD m 0+1)::(fA (c.drop (m+1))).1:=by
    rw[MP h];unfold carry at hc;simp only[fA,hc,if_true]
  have e2:c.take (m+1)=c.take m++[c.getD m 0]:=by
    rw[aq3,iI h]; rfl
  unfold jo;rw[e,e2,ap6,art _ _ (by rw[ap0]; omega),ap0,show m-min m c.length=0 by omega];rfl
theorem WT {c:List UInt8} {m:Nat} (h:m<c.length) (hc:carry c (m+1)):(fA (c.drop m)).2=(c.getD m 0+1==0):=by
  rw[MP h];unfold carry at hc;simp only[fA,hc,if_true]
theorem aem {c:List UInt8} {m:Nat} (h:(fA (c.drop m)).2=false):jo c m=qK c:=by
  have:=Oo (c.take m) (c.drop m);rw[aqq,h] at this;unfold qK jo;rw[this]; rfl
theorem ajk (x c:UInt8) (n:Int) (h:n=(c.toNat:Int)):db .add (.w (.c (.d (bD x)))) (.w (.c (.d (.int .u8 n))))=some (bD (x+c)):=by
  subst h
  show cS .add .u8 (x.toNat:Int) .u8 (c.toNat:Int)=_
  rw[F6,IntKind.wrap_u8]
  show some (D.int .u8 (((x.toNat:Int)+(c.toNat:Int))%256))=_
  have:((x.toNat:Int)+(c.toNat:Int))%256=((x+c).toNat:Int):=by
    rw[UInt8.toNat_add]; simp
  rw[this]; rfl
def D3 (c:List UInt8):List UInt8:=if c.length=16 then qK c else []
def D4 (c:List UInt8) (m:Nat):St:=⟨bw [(3,.w (.c (.own 1 1 0 16))),(4,.w (.c (.d (.int .i64 ((m:Int)-1)))))],hL [(1,.row 1 ((jo c m).map bD))],uL [1]⟩
def AY:bp := .seq (ae [oM 14 4,ak .geq 15 14 0] (ar 15 .skip (.exit 0))) (.seq (.block 1 (ae [oM 18 3,oM 19 4,bU 20 1 18 19,aA 21 20,oO 22 (.bin .add (.t 21) (.k (.c (.d (.int .u8 1))))),bU 23 1 18 19,d6 23 22] (ae [oM 24 3,oM 25 4,bU 26 1 24 25,aA 27 26,oO 28 (.bin .neq (.t 27) (.k (.c (.d aj))))] (ar 28 (.exit 0) .skip)))) (.reg [oM 16 4,ak .sub 17 16 1,oM 4 17]))
def IH:aO:=⟨1,30,ae [aQ 2] (.seq (ae [oM 5 0,bd 6 5,ak .neq 7 6 16] (ar 7 (ae [aQ 2] .ret) .skip)) (ae [oM 8 0,oO 9 (.bldSl false 1 1 (.sl []) [(0,(.t 8))]),oO 10 (.call 35 [(.t 9)] (some (0,1))),oM 3 10] (.seq (ae [oM 11 3,bd 12 11,ak .sub 13 12 1,oM 4 13] (.block 0 (.loop AY))) (ae [oM 29 3,oM 2 29] .ret)))),[(2,none)]⟩
theorem ajl:aM Tryz.prog { own:=[10] } Tryz.f160=some IH:=by kernel_rfl
theorem anu (G:au) (c:List UInt8) (hc:c.length≤140737488355328):aF Tryz.prog G 160 [.sl (c.map bD)] (.w (.c (.fr 1 ((D3 c).map bD)))):=by
  refine aX Tryz.func160 ajl rfl rfl ?_;unfold D3;by_cases h:c.length=16
  ·rw[if_pos h];have hj:=dT G [c] (by simp) (by simp; omega);have hf:[c].flatten=c:=by simp
   rw[hf] at hj;have hs:=WS c;rw[h] at hs;simp only[IH,ai,af,seval,h];refine sD (hj) ?_;refine bO (D4 c) (fun m=>m) (fun m=>m≤16∧carry c m) 16 ⟨ap3 _,by have:=Wg c; rwa [h] at this⟩ ?_ ?_
   ·refine aR (fun i=>80) ?_ ?_ rfl rfl <;> simp only[wx,aH,seval,hs,h] <;> rfl
   ·rintro m ⟨hm,hcar⟩;rcases m with _ | q
    ·have e0:=YC c;have hl:(qK c).length=16:=by rw[MN]; exact h
     simp only[AY,D4,e0,Int.zero_sub,af,seval];exact iV (id:=1) (n:=16) (s:=1) (by simp only[wx,seval]) (by simp only[wx,seval]) (by simp[hl])
    ·have hq:q<c.length:=by omega
     have hl1:(jo c (q+1)).length=16:=by rw[Oq]; exact h
     have hl0:(jo c q).length=16:=by rw[Oq]; exact h
     have g1:=aek hq;have h3:q<(jo c (q+1)).length:=by omega
     have h5:=ael hq hcar;have g2:(jo c q)[q]?=some (c.getD q 0+1):=by
       rw[← h5,List.getElem?_set_self (by omega)]
     have x1:=ajk (c.getD q 0) 1 1 rfl;have x2:=aiM (c.getD q 0+1) 0 0 rfl;have hcs:=WT hq hcar;have sub:((q:Int)+1-1)=(q:Int):=by omega
     by_cases hz:c.getD q 0+1=0
     ·have hz2:(c.getD q 0+1 != 0)=false:=by rw[hz]; rfl
      rw[hz2] at x2;have hcar2:carry c q:=by unfold carry; rw[hcs,hz]; rfl
      simp only[AY,D4,af,aa,seval,iteOmega,toNatUp,sub,bc,g1,x1,kC h3 (jU _),lU,h5,g2,x2];refine bA q (by omega) ⟨by omega,hcar2⟩ (aR (fun i=>i) ?_ ?_ rfl rfl) <;> simp only[wx,aH,seval]
     ·have hz2:(c.getD q 0+1 != 0)=true:=bne_iff_ne.2 hz;rw[hz2] at x2;have e0:jo c q=qK c:=aem (by rw[hcs]; exact beq_eq_false_iff_ne.2 hz);rw[e0] at hl0 g2 h5;simp only[AY,D4,af,aa,seval,iteOmega,toNatUp,sub,bc,g1,x1,kC h3 (jU _),lU,h5,g2,x2];exact iV (id:=1) (n:=16) (s:=1) (by simp only[wx,seval]) (by simp only[wx,seval]) (by simp[hl0])
  ·rw[if_neg h];simp only[IH,ai,af,seval,iteOmega];exact iP
def zA (key b:List UInt8):Int:=if key.length≠16 then 5 else if b.length≠16 then 3 else 0
def D5 (key b:List UInt8):List UInt8:=if key.length=16∧b.length=16 then Ci key b else []
def Cj:aO:=⟨2,18,ae [aQ 4,am 5 0] (.seq (ae [oM 7 0,bd 8 7,ak .neq 9 8 16] (ar 9 (ae [aQ 4,am 5 5] .ret) .skip)) (.seq (ae [oM 10 1,bd 11 10,ak .neq 12 11 16] (ar 12 (ae [aQ 4,am 5 3] .ret) .skip)) (ae [oM 13 0,aY 14 157 13,oM 15 1,ct 16 159 14 15,oO 6 (.allocArr [aj,aj,aj,aj,aj,aj,aj,aj,aj,aj,aj,aj,aj,aj,aj,aj]),aS 16 6 16] (ae [oO 17 (.sliceArr 1 16 (.t 6) none none),oM 4 17,am 5 0] .ret)))),[(4,none),(5,none)]⟩
theorem ajm:aM Tryz.prog {} Tryz.f174=some Cj:=by kernel_rfl
theorem JL (G:au) (key b:List UInt8) (hk:key.length≤9223372036854775807) (hb:b.length≤9223372036854775807):aF Tryz.prog G 174 [.sl (key.map bD),.sl (b.map bD)] (.tup [.c (.fr 1 ((D5 key b).map bD)),.c (.d (.int .i64 (zA key b)))]):=by
  refine aX Tryz.func174 ajm rfl rfl ?_;unfold D5 zA;by_cases h:key.length=16
  ·by_cases h2:b.length=16
   ·have hr:=Hm h;have hl:(Ci key b).length=16:=nR _ _;have ht:(Ci key b).take 16=Ci key b:=apX (by omega);rw[if_pos ⟨h,h2⟩,if_neg (by simp[h]),if_neg (by simp[h2])];simp only[Cj,ai,af,seval,h,h2,mT];refine sD (R5 G key h) ?_;refine sC (R6 G (bF key) b hr h2) ?_;simp only[nR,eL,af,aa,seval];exact Ir (by simp only[af,seval,pI,nR]; rfl) (by simp only[af,seval])
   ·rw[if_neg (fun k=>h2 k.2),if_neg (by simp[h]),if_pos h2];simp only[Cj,ai,af,seval,iteOmega,h];exact d7
  ·rw[if_neg (fun k=>h k.1),if_pos h];simp only[Cj,ai,af,seval,iteOmega];exact d7
def ug (key:List UInt8):Int:=if key.length≠16 then 5 else 0
def lj (r n:Nat):Nat:=(n-r%n)%n
def fB (b:List UInt8) (n:Int):List UInt8:=if 1≤n∧n≤64 then b++List.replicate (lj b.length n.toNat) 0 else b
theorem Qf (b:List UInt8) {n:Nat} (h:1≤n∧n≤64):fB b (n:Int)=b++List.replicate (lj b.length n) 0:=by
  unfold fB; rw[if_pos (by omega),ar0]
theorem abn (b:List UInt8) {n:Int} (h:¬ (1≤n∧n≤64)):fB b n=b:=if_neg h
theorem abo (r:Nat) {n:Nat} (h:1≤n):lj r n<n:=arw _ (by omega)
theorem aen (n:Nat):aG 0 n=List.replicate n 0:=by
  unfold aG;simp only[Nat.zero_div]
  induction n with
  | zero=>rfl
  | succ n ih=>rw[aqS,ap8,ih,ary]; rfl
theorem R7 (a b:Nat):Int.tmod (a:Int) (b:Int)=((a%b:Nat):Int):=rfl
def Ck:aO:=⟨2,28,ae [aQ 4] (.seq (ae [oM 6 1,ak .lss 7 6 1,oM 8 7,bJ 9 1 8 false,cC .gtr 10 9 64 8 false,cv 11 8 10] (ar 11 (ae [oM 12 0,oO 13 (.bldSl false 1 1 (.sl []) [(0,(.t 12))]),oO 14 (.call 35 [(.t 13)] (some (0,1))),oM 4 14] .ret) .skip)) (ae [oM 15 1,oM 16 0,bd 17 16,oM 18 1,aU .rem 19 17 18,aU .sub 20 15 19,oM 21 1,aU .rem 22 20 21,oM 5 22] (ae [oM 23 0,oM 24 5,oO 25 (.call 62 [(.k (.c aW)),(.t 24)] none),oO 26 (.bldSl false 2 1 (.sl []) [(0,(.t 23)),(1,(.t 25))]),oO 27 (.call 35 [(.t 26)] (some (0,1))),oM 4 27] .ret))),[(4,none)]⟩
theorem ajo:aM Tryz.prog { own:=[14,27] } Tryz.f131=some Ck:=by kernel_rfl
set_option maxHeartbeats 1600000 in
theorem C4 (G:au) (b:List UInt8) (n:Int) (hb:b.length≤70368744177664):aF Tryz.prog G 131 [.sl (b.map bD),.int .i64 n] (.w (.c (.fr 1 ((fB b n).map bD)))):=by
  refine aX Tryz.func131 ajo rfl rfl ?_;by_cases hc:1≤n∧n≤64
  ·obtain⟨m,rfl⟩:=aqB (show 0≤n by omega);rw[Qf b (by omega)];have hr:b.length%m<m:=arw _ (by omega);have hk:lj b.length m=(m-b.length%m)%m:=rfl;have hlt:=abo b.length (n:=m) (by omega);have e1:=R7 b.length m;have e2:Int.tmod ((m:Int)-((b.length%m:Nat):Int)) (m:Int)=((lj b.length m:Nat):Int):=by
     rw[show (m:Int)-((b.length%m:Nat):Int)=((m-b.length%m:Nat):Int) by omega,R7,hk]
   have hm:((m:Int)=0)=False:=eq_false (by omega);have hp:=rU G 0 (lj b.length m) (by omega);have hj:=dT G [b,aG 0 (lj b.length m)] (by simp) (by simp[bS]; omega);have hf:[b,aG 0 (lj b.length m)].flatten=b++List.replicate (lj b.length m) 0:=by rw[aen]; simp
   rw[hf] at hj;generalize lj b.length m=k at *
   simp only[Ck,ai,af,seval,iteOmega,e1,e2,hm];refine sD (hp) ?_;refine sD (hj) ?_;exact iP
  ·rw[abn b hc];have hj:=dT G [b] (by simp) (by simp; omega);have hf:[b].flatten=b:=by simp
   rw[hf] at hj;by_cases h1:n<1
   ·simp only[Ck,ai,af,seval,iteOmega];refine sD (hj) ?_;exact iP
   ·have h2:64<n:=by omega
    simp only[Ck,ai,af,seval,iteOmega];refine sD (hj) ?_;exact iP
def dG (b:List UInt8) (j:Nat):UInt8:=if j<15 then pT (iq (b.getD j 0) 1) (ir (b.getD (j+1) 0) 7) else iq (b.getD j 0) 1
def mU (b:List UInt8):List UInt8:=(List.range 16).map (dG b)
theorem Hn (b:List UInt8):(mU b).length=16:=by simp[mU]
theorem Ho (b:List UInt8) {j:Nat} (h:j<16):(mU b)[j]?=some (dG b j):=by simp[mU,h]
def zB (b:List UInt8):UInt8:=pM (pN (b.getD 0 0) 7) 135
theorem abp {b:List UInt8} (h:b.length=16):(mU b).set 15 (a9 (dG b 15) (zB b))=jp b:=by
  unfold jp;rw[if_pos h];apply aq2;intro j;rw[ar2];by_cases hj:j<16
  ·rw[BC _ hj];have hd:∀ k,bZ b k=b.getD k 0:=fun _=>rfl
   by_cases h15:15=j
   ·subst h15;rw[if_pos rfl,if_pos (by rw[Hn]; decide)];simp only[dG,KO,hd,zB,Nat.lt_irrefl,if_false,if_true,FB]
   ·rw[if_neg h15,Ho _ hj];have:j<15:=by omega
    simp only[dG,KO,hd,if_pos this,if_neg (show ¬ j=15 by omega),FB,ajn]
  ·rw[if_neg (by omega),aqI (by rw[Hn]; omega),aqI (by rw[kB]; omega)]
theorem abq (b:List UInt8):db .mul (.w (.c (.d (bD (ir (b.getD 0 0) 7))))) (.w (.c (.d (.int .u8 135))))=some (bD (zB b)):=by
  have key:=sg (p:=fun x=>(ir x 7).toNat*135%256==(pM (pN x 7) 135).toNat) (by decide +kernel) (b.getD 0 0);rw[beq_iff_eq] at key
  show cS .mul .u8 _ .u8 _=_
  rw[NO,IntKind.wrap_u8];unfold zB bD;rw[← key]
  congr 2
theorem abr (x:UInt8):pT x 0=x:=by
  have key:=sg (p:=fun x=>pT x 0==x) (by decide +kernel) x;rw[beq_iff_eq] at key;exact key
theorem bD0:bD 0=.int .u8 0:=rfl
def uu (b:List UInt8) (m:Nat):UInt8:=if m<16 then ir (b.getD m 0) 7 else 0
theorem abt (b:List UInt8) {q:Nat} (h:q<16):pT (iq (b.getD q 0) 1) (uu b (q+1))=dG b q:=by
  unfold uu dG;by_cases h2:q<15
  ·rw[if_pos (by omega),if_pos h2]
  ·rw[if_neg (by omega),if_neg h2,abr]
theorem ajp (b:List UInt8) {q:Nat} (h:q<16):ir (b.getD q 0) 7=uu b q:=(if_pos h).symm
def nG (l:List UInt8) (m:Nat):List UInt8:=List.replicate m 0++l.drop m
theorem aeo {l:List UInt8} {m:Nat} (h:m≤l.length):(nG l m).length=l.length:=by
  unfold nG; rw[apS,aqo,ap5]; omega
theorem abu (l:List UInt8):nG l 0=l:=by simp[nG]
theorem abv {l:List UInt8} {m:Nat} (h:l.length=m):nG l m=List.replicate m 0:=by
  unfold nG; rw[aqY (by omega),ap7]
theorem abw {l:List UInt8} {q:Nat} (h:q<l.length):(nG l (q+1)).set q (l.getD q 0)=nG l q:=by
  unfold nG;rw[ary,ap6,art _ _ (by simp),aqo,arE,ars h,apT,apR h];rfl
def KP (b:List UInt8) (m:Nat):St:=⟨bw [(0,.w (.c (.d (.sl (b.map bD))))),(3,.w (.c (.own 1 1 0 16))),(4,.w (.c (.d (bD (uu b m))))),(5,.w (.c (.d (.int .i64 ((m:Int)-1)))))],hL [(1,.row 1 ((nG (mU b) m).map bD))],uL [1]⟩
theorem aep {b:List UInt8} (h:b.length≠16):jp b=[]:=if_neg h
def Gq:bp := .seq (ae [oM 10 5,ak .geq 11 10 0] (ar 11 .skip (.exit 0))) (.seq (.block 1 (ae [oM 14 3,oM 15 5,oM 16 0,oM 17 5,bU 18 1 16 17,aA 19 18,oO 20 (.bin .shl (.t 19) (.k (.c (.d (.int .u64 1))))),oM 21 4,aU .or 22 20 21,bU 23 1 14 15,d6 23 22] (.reg [oM 24 0,oM 25 5,bU 26 1 24 25,aA 27 26,oO 28 (.bin .shr (.t 27) (.k (.c (.d (.int .u64 7))))),oM 4 28]))) (.reg [oM 12 5,ak .sub 13 12 1,oM 5 13]))
def II:aO:=⟨1,37,ae [aQ 2] (.seq (ae [oM 6 0,bd 7 6,ak .neq 8 7 16] (ar 8 (ae [aQ 2] .ret) .skip)) (ae [oO 9 (.make true 1 1 aj (kI 16) (kI 16)),oM 3 9] (ae [oO 4 (.mv (.k (.c (.d aj))))] (.seq (ae [am 5 15] (.block 0 (.loop Gq))) (ae [oM 29 3,oO 30 (.idxSl 1 (.t 29) (kI 15)),aA 31 30,oM 32 4,oO 33 (.bin .mul (.t 32) (.k (.c (.d (.int .u8 135))))),aU .xor 34 31 33,oO 35 (.idxSl 1 (.t 29) (kI 15)),d6 35 34] (ae [oM 36 3,oM 2 36] .ret)))))),[(2,none)]⟩
theorem ajq:aM Tryz.prog {} Tryz.f175=some II:=by kernel_rfl
theorem C5 (G:au) (b:List UInt8) (hb:b.length≤9223372036854775807):aF Tryz.prog G 175 [.sl (b.map bD)] (.w (.c (.fr 1 ((jp b).map bD)))):=by
  refine aX Tryz.func175 ajq rfl rfl ?_;by_cases h:b.length=16
  ·have hd:=abp h;have hl:=Hn b;simp only[II,ai,af,seval,toNatUp,h,mT];refine bO (KP b) (fun m=>m) (fun m=>m≤16) 16 (ap3 _) ?_ ?_
   ·have e1:nG (mU b) 16=cG 16 0:=abv hl;have e2:uu b 16=0:=rfl;refine aR (fun i=>72) ?_ ?_ rfl rfl <;> simp only[wx,aH,seval,e1,e2,bD0]
   ·intro m hm;rcases m with _ | q
    ·have e0:=abu (mU b);have c0:uu b 0=ir (b.getD 0 0) 7:=rfl;have x1:=abq b;have g1:=Ho b (j:=15) (by decide);have x2:=mo (dG b 15) (zB b);have h3:15<(mU b).length:=by omega
     have hdl:(jp b).length=16:=ti h;simp only[Gq,KP,e0,c0,Int.zero_sub,af,aa,seval,toNatUp,bc,g1,x1,x2,kC h3 (jU _),lU,hd];exact iV (id:=1) (n:=16) (s:=1) (by simp only[wx,seval]) (by simp only[wx,seval]) (by simp[hdl])
    ·have hq:q<16:=by omega
     have g1:b[q]?=some (b.getD q 0):=iI (by omega);have hl1:=aeo (l:=mU b) (m:=q+1) (by omega);have h3:q<(nG (mU b) (q+1)).length:=by omega
     have x1:=RJ (b.getD q 0) .u64 1 1 rfl (by decide);have x2:=NQ (iq (b.getD q 0) 1) (uu b (q+1));have x3:=RI (b.getD q 0) .u64 7 7 rfl (by decide);have c1:=abt b hq;have c2:=ajp b hq;have hs:=abw (l:=mU b) (q:=q) (by omega);have hg:(mU b).getD q 0=dG b q:=by rw[apT,Ho b hq]; rfl
     rw[hg] at hs;have sub:((q:Int)+1-1)=(q:Int):=by omega
     simp only[Gq,KP,af,aa,seval,iteOmega,toNatUp,sub,bc,g1,x1,x2,x3,c1,c2,h,kC h3 (jU _),lU,hs];refine bA q (by omega) (by omega) (aR (fun i=>i) ?_ ?_ rfl rfl) <;> simp only[wx,aH,seval]
  ·rw[aep h];simp only[II,ai,af,seval,iteOmega];exact iP
def rr (a b:List UInt8) (j:Nat):UInt8:=a9 (a.getD j 0) (b.getD j 0)
theorem aeq {a b:List UInt8} {n:Nat} (ha:a.length=n) (hb:b.length=n):(List.range n).map (rr a b)=eQ a b:=by
  apply aq2;intro j;by_cases hj:j<n
  ·have:=Or a b j (by omega) (by omega);have hl:j<(eQ a b).length:=by rw[nh]; omega
   rw[iI hl,this];simp[hj,rr]
  ·rw[aqI (by simpa using hj),aqI (by rw[nh]; omega)]
def JM (a b:List UInt8) (i:Nat):St:=⟨bw [(0,.w (.c (.d (.sl (a.map bD))))),(1,.w (.c (.d (.sl (b.map bD))))),(5,.w (.c (.own 1 1 0 16))),(9,.w (.c (.d (.int .i64 16)))),(10,.w (.c (.d (.int .i64 (i:Int)))))],hL [(1,.row 1 ((dm (rr a b) (cG 16 0) i).map bD))],uL [1]⟩
def Gr:bp := ae [aU .lss 11 10 9] (.seq (ar 11 .skip (.exit 0)) (.seq (.block 1 (ae [oM 12 10,oM 6 12] (.reg [oM 13 5,oM 14 6,oM 15 0,oM 16 6,bU 17 1 15 16,aA 18 17,oM 19 1,oM 20 6,bU 21 1 19 20,aA 22 21,aU .xor 23 18 22,bU 24 1 13 14,d6 24 23]))) (.reg [ak .add 25 10 1,oM 10 25])))
def R8:aO:=⟨2,27,ae [aQ 4] (ae [oO 7 (.make true 1 1 aj (kI 16) (kI 16)),oM 5 7] (.seq (ae [oM 8 5,bd 9 8,am 10 0] (.block 0 (.loop Gr))) (ae [oM 26 5,oM 4 26] .ret))),[(4,none)]⟩
theorem ajr:aM Tryz.prog {} Tryz.f177=some R8:=by kernel_rfl
theorem tU (G:au) (a b:List UInt8) (ha:a.length=16) (hb:b.length=16):aF Tryz.prog G 177 [.sl (a.map bD),.sl (b.map bD)] (.w (.c (.fr 1 ((eQ a b).map bD)))):=by
  refine aX Tryz.func177 ajr rfl rfl ?_;have zl:(cG 16 (0:UInt8)).length=16:=eL _ _;simp only[R8,ai,af,seval,toNatUp,mT];refine bO (JM a b) (fun i=>16-i) (fun i=>i≤16) 0 (apZ _) ?_ ?_
  ·have e1:=ya (rr a b) (cG 16 0);refine aR (fun i=>56) ?_ ?_ rfl rfl <;> simp only[wx,aH,seval,e1]
  ·intro i hi;by_cases hlt:i<16
   ·have g1:a[i]?=some (a.getD i 0):=iI (by omega);have g2:b[i]?=some (b.getD i 0):=iI (by omega);have hl1:=vw (rr a b) (cG 16 0) (i:=i) (by omega);have h3:i<(dm (rr a b) (cG 16 0) i).length:=by omega
    have x1:=mo (a.getD i 0) (b.getD i 0);have hx:a9 (a.getD i 0) (b.getD i 0)=rr a b i:=rfl;have hs:=yb (rr a b) (cG 16 0) (i:=i) (by omega);simp only[Gr,JM,af,aa,seval,iteOmega,toNatUp,bc,g1,g2,x1,ha,hb,kC h3 (jU _),lU,hx,hs];refine bA (i+1) (by omega) (by omega) (aR (fun i=>i) ?_ ?_ rfl rfl) <;> simp only[wx,aH,aV,seval]
   ·obtain rfl:i=16:=by omega
    have e1:dm (rr a b) (cG 16 0) 16=eQ a b:=by rw[Ol _ _ (by rw[eL]; decide),aeq ha hb]
    have hl:(eQ a b).length=16:=by rw[nh]; exact ha
    simp only[Gr,JM,e1,af,seval];exact iV (id:=1) (n:=16) (s:=1) (by simp only[wx,seval]) (by simp only[wx,seval]) (by simp[hl])
theorem Qg {key b:List UInt8} (h:key.length=16) (hb:b.length=16):D5 key b=iv (bF key) b:=if_pos ⟨h,hb⟩
theorem Qh {key b:List UInt8} (h:key.length=16) (hb:b.length=16):zA key b=0:=by unfold zA; rw[if_neg (by omega),if_neg (by omega)]
theorem aer (b:List UInt8):fB b 16=nC b:=rfl
def kS (key:List UInt8):D:=.agg [.sl (key.map bD),.sl ((nD (bF key)).map bD),.sl ((qT (bF key)).map bD)]
def zV (key:List UInt8):D:=if key.length=16 then kS key else .agg [.sl [],.sl [],.sl []]
theorem JN (s:Nat) (l:List UInt8) (k:IntKind) (n:Int):V.flat (.tup [.c (.fr s (l.map bD)),.c (.d (.int k n))])=true:=by
  have:=ub s l;simp only[V.flat,W.flat,arY,List.all_nil,Bool.and_true] at this ⊢;rw[this]; rfl
def Qi:aO:=⟨2,15,ae [cX 2 0,aQ 4] (ae [aL 8 0 2,aA 9 8,oM 10 1,oO 11 (.call 174 [(.t 9),(.t 10)] (some (0,1))),oM 7 11,aC 12 7 0,aC 13 7 1,oM 5 12,oM 6 13] (ae [oM 14 5,oM 4 14] .ret)),[(4,none)]⟩
theorem aes:aM Tryz.prog { comp:=[(11,0)] } Tryz.f182=some Qi:=by kernel_rfl
theorem R9 (G:au) (key b:List UInt8) (h:key.length=16) (hb:b.length=16):aF Tryz.prog G 182 [.agg [.sl (key.map bD)],.sl (b.map bD)] (.w (.c (.fr 1 ((iv (bF key) b).map bD)))):=by
  refine aX Tryz.func182 aes rfl rfl ?_;have hx:=JL G key b (by omega) (by omega);rw[Qg h hb,Qh h hb] at hx;simp only[Qi,ai,af,seval];refine sD (hx) ?_;exact iP
theorem ajs (G:au) (key b:List UInt8) (h:key.length=16) (hb:b.length=16):aF Tryz.prog G 182 [.agg [.sl (key.map bD)],.sl (b.map bD)] (.w (.c (.d (.sl ((iv (bF key) b).map bD))))):=qw (R9 G key b h hb)
def Hp:aO:=⟨1,25,ae [oO 2 (.alloc [.nil,.nil,.nil]),am 3 0] (ae [oM 8 0,oO 9 (.make true 1 1 aj (kI 16) (kI 16)),ct 10 174 8 9,oM 7 10,aC 11 7 0,aC 12 7 1,oM 4 11,oM 5 12] (.seq (ae [oM 13 5,ak .neq 14 13 0] (ar 14 (ae [oO 15 (.build [.nil,.nil,.nil] []),oM 16 5,aS 3 2 15,oM 3 16] .ret) .skip)) (ae [oM 17 4,aY 18 175 17,oM 6 18] (ae [oM 19 0,oO 20 (.build [.nil] [(0,1,(.t 19))]),oM 21 6,oM 22 6,aY 23 175 22,oO 24 (.build [.nil,.nil,.nil] [(0,1,(.t 20)),(1,1,(.t 21)),(2,1,(.t 23))]),aS 3 2 24,am 3 0] .ret)))),[(2,(some (.ag 3))),(3,none)]⟩
theorem aet:aM Tryz.prog {} Tryz.f162=some Hp:=by kernel_rfl
theorem ajt (G:au) (key:List UInt8) (hk:key.length≤9223372036854775807):aF Tryz.prog G 162 [.sl (key.map bD)] (.tup [.c (.d (zV key)),.c (.d (.int .i64 (ug key)))]):=by
  refine aX Tryz.func162 aet rfl rfl ?_;have t0:(cG 16 (0:UInt8)).take 16=kD:=rfl;by_cases h:key.length=16
  ·have hx:=JL G key kD (by omega) (by decide);rw[Qg h (by decide),Qh h (by decide)] at hx;have hv:zV key=kS key:=if_pos h;have he:ug key=0:=by unfold ug; rw[if_neg (by omega)]
   have h1:=C5 G (iv (bF key) kD) (by rw[nR]; decide);have h2:=C5 G (nD (bF key)) (by rw[Gp]; decide);have s1:jp (iv (bF key) kD)=nD (bF key):=rfl;have s2:jp (nD (bF key))=qT (bF key):=rfl;rw[s1] at h1;rw[s2] at h2;rw[hv,he];simp only[Hp,ai,af,seval,toNatUp,mT];refine bM hx (by simp only[af,seval,t0,eL]) (.inr (JN _ _ _ _)) ?_;simp only[af,seval];refine sD (h1) ?_;refine sD (h2) ?_;exact eM (by simp only[af,seval,kS]) (by simp only[af,seval])
  ·have hv:zV key=.agg [.sl [],.sl [],.sl []]:=if_neg h;have he:ug key=5:=if_pos h;have hx:=JL G key kD (by omega) (by decide);have v1:D5 key kD=[]:=if_neg (fun k=>h k.1);have v2:zA key kD=5:=if_pos h;rw[v1,v2] at hx;rw[hv,he];simp only[Hp,ai,af,seval,toNatUp,mT];refine bM hx (by simp only[af,seval,t0,eL]) (.inr (JN _ _ _ _)) ?_;simp only[af,aa,seval];exact bz
def Qj:aO:=⟨1,8,ae [aQ 2] (ae [oM 3 0,oO 4 (.bldSl false 1 1 aj [(0,(.k (.c (.d (.int .u8 128)))))]),oO 5 (.bldSl false 2 1 (.sl []) [(0,(.t 3)),(1,(.t 4))]),aY 6 35 5,oO 7 (.call 131 [(.t 6),(kI 16)] none),oM 2 7] .ret),[(2,none)]⟩
theorem aeu:aM Tryz.prog {} Tryz.f184=some Qj:=by kernel_rfl
theorem Sa (G:au) (b:List UInt8) (hb:b.length≤70000):aF Tryz.prog G 184 [.sl (b.map bD)] (.w (.c (.d (.sl ((nC (b++[128])).map bD))))):=by
  refine aX Tryz.func184 aeu rfl rfl ?_;have hj:=dT G [b,[128]] (by simp) (by simp; omega);have hf:[b,[128]].flatten=b++[128]:=by simp
  rw[hf] at hj;have hp:=C4 G (b++[128]) 16 (by simp; omega);rw[aer] at hp;simp only[Qj,ai,af,seval];refine sD (hj) ?_;refine sD (hp) ?_;exact aZ
theorem YD (rk:List UInt8) {e:List UInt8} (h:e.length=16):qU rk e=eQ e (nD rk):=if_pos h
theorem YE (rk:List UInt8) {e:List UInt8} (h:e.length≠16):qU rk e=eQ (nC (e++[128])) (qT rk):=if_neg h
def Gs:aO:=⟨2,17,ae [cX 2 0,aQ 4] (.seq (ae [oM 5 1,bd 6 5,ak .eql 7 6 16] (ar 7 (ae [oM 8 1,aL 9 1 2,aA 10 9,ct 11 177 8 10,oM 4 11] .ret) .skip)) (ae [oM 12 1,aY 13 184 12,aL 14 2 2,aA 15 14,ct 16 177 13 15,oM 4 16] .ret)),[(4,none)]⟩
theorem abx:aM Tryz.prog {} Tryz.f183=some Gs:=by kernel_rfl
theorem aev (G:au) (key b:List UInt8) (hb:b.length≤16):aF Tryz.prog G 183 [kS key,.sl (b.map bD)] (.w (.c (.d (.sl ((qU (bF key) b).map bD))))):=by
  refine aX Tryz.func183 abx rfl rfl ?_;by_cases h:b.length=16
  ·rw[YD _ h];simp only[Gs,ai,kS,af,seval,h];refine sD (tU G b (nD (bF key)) h (Gp _)) ?_;exact aZ
  ·rw[YE _ h];simp only[Gs,ai,kS,af,seval,iteOmega];refine sD (Sa G b (by omega)) ?_;refine sD (tU G (nC (b++[128])) (qT (bF key)) (Fe (by omega)) (abk _)) ?_;exact aZ
def sN (key b:List UInt8):Nat→V
  | 0=>.w (.c (.own 1 1 0 16))
  | i+1=>.w (.c (.d (.sl ((mf (bF key) b (i+1)).map bD))))
def zj (key b:List UInt8) (i:Nat):St:=⟨bw [(1,.w (.c (.d (.sl ((b.drop (16*i)).map bD))))),(2,.w (.c (.rp [.sl (key.map bD),.sl ((nD (bF key)).map bD),.sl ((qT (bF key)).map bD)]))),(5,sN key b i)],hL [(1,.row 1 ((cG 16 (0:UInt8)).map bD))],uL [1]⟩
theorem aju (b:List UInt8) (i:Nat):((b.drop (16*i)).drop 16).take ((b.drop (16*i)).length-16)=b.drop (16*(i+1)):=by
  rw[arx,apX (by simp only[ap5]; omega)]; rfl
def xX:bp := .seq (ae [oM 7 1,bd 8 7,ak .gtr 9 8 16] (ar 9 .skip (.exit 0))) (.block 1 (ae [aL 10 0 2,bn 11 1 10,oM 12 5,oM 13 1,oO 14 (.slice 1 (.t 13) none (some (kI 16)) none),ct 15 177 12 14,ct 16 182 11 15,oM 5 16] (.reg [oM 17 1,oO 18 (.slice 1 (.t 17) (some (kI 16)) none none),oM 1 18])))
def Qk:aO:=⟨2,27,ae [cX 2 0,aQ 4] (ae [oO 6 (.make true 1 1 aj (kI 16) (kI 16)),oM 5 6] (.seq (.block 0 (.loop xX)) (ae [aL 19 0 2,bn 20 1 19,oM 21 5,bn 22 3 2,oM 23 1,ct 24 183 22 23,ct 25 177 21 24,oO 26 (.call 182 [(.t 20),(.t 25)] (some (0,1))),oM 4 26] .ret))),[(4,none)]⟩
theorem aew:aM Tryz.prog { own:=[26] } Tryz.f176=some Qk:=by kernel_rfl
theorem Cl (G:au) (key b:List UInt8) (h:key.length=16) (hb:b.length≤70000):aF Tryz.prog G 176 [kS key,.sl (b.map bD)] (.w (.c (.fr 1 ((mM (bF key) b).map bD)))):=by
  refine aX Tryz.func176 aew rfl rfl ?_;have t0:(cG 16 (0:UInt8)).take 16=kD:=rfl;have hah:tH b=(b.length+15) / 16-1:=rfl;have hm:∀ i,i=tH b→mM (bF key) b=iv (bF key) (eQ (mf (bF key) b i) (qU (bF key) (b.drop (16*i)))):=fun i e=>by rw[e]; rfl
  simp only[Qk,ai,kS,af,seval,toNatUp,mT];refine bO (zj key b) (fun i=>tH b-i) (fun i=>i≤tH b) 0 (apZ _) ?_ ?_
  ·refine aR (fun i=>48) ?_ ?_ rfl rfl <;> simp only[wx,aH,seval,sN]
  ·intro i hi;have hcl:(b.drop (16*i)).length=b.length-16*i:=ap5;have hdr:=aju b i;by_cases hlt:i<tH b
   ·have hT:((b.drop (16*i)).take 16).length=16:=by rw[ap0]; omega
    have hstep:iv (bF key) (eQ (mf (bF key) b i) ((b.drop (16*i)).take 16))=mf (bF key) b (i+1):=rfl;have h1:=tU G (mf (bF key) b i) ((b.drop (16*i)).take 16) (AZ _ _ _) hT;have h2:=ajs G key (eQ (mf (bF key) b i) ((b.drop (16*i)).take 16)) h (by rw[nh,AZ]);rw[hstep] at h2;rcases i with _ | i
    ·have hz:mf (bF key) b 0=kD:=rfl;rw[hz] at h1 h2;simp only[Nat.mul_zero,arm,aqO,arD] at hdr;simp only[xX,zj,sN,af,seval,iteOmega,toNatUp];refine bM h1 (by simp only[af,seval,t0,eL]) (.inr (ub _ _)) ?_;simp only[af,seval];refine sC (h2) ?_;simp only[hdr,af,seval,iteOmega,toNatUp];refine bA (0+1) (by omega) (by omega) (aR (fun i=>i) ?_ ?_ rfl rfl) <;> simp only[wx,aH,seval,sN]
    ·simp only[xX,zj,sN,af,seval,iteOmega,toNatUp];refine sD (h1) ?_;refine sC (h2) ?_;simp only[hdr,af,seval,iteOmega,toNatUp];refine bA (i+1+1) (by omega) (by omega) (aR (fun i=>i) ?_ ?_ rfl rfl) <;> simp only[wx,aH,seval,sN]
   ·rw[hm i (by omega)];have hl16:(b.drop (16*i)).length≤16:=by omega
    have h1:=aev G key (b.drop (16*i)) hl16;have h2:=tU G (mf (bF key) b i) (qU (bF key) (b.drop (16*i))) (AZ _ _ _) (abl hl16);have h3:=R9 G key (eQ (mf (bF key) b i) (qU (bF key) (b.drop (16*i)))) h (by rw[nh,AZ]);rcases i with _ | i
    ·have hz:mf (bF key) b 0=kD:=rfl;rw[hz] at h2 h3 ⊢;simp only[xX,zj,sN,af,seval,iteOmega];refine sD (h1) ?_;refine bM h2 (by simp only[af,seval,t0,eL]) (.inr (ub _ _)) ?_;simp only[af,seval];refine sD (h3) ?_;exact iP
    ·simp only[xX,zj,sN,af,seval,iteOmega];refine sD (h1) ?_;refine sD (h2) ?_;refine sD (h3) ?_;exact iP
theorem ajv (G:au) (key b:List UInt8) (h:key.length=16) (hb:b.length≤70000):aF Tryz.prog G 176 [kS key,.sl (b.map bD)] (.w (.c (.d (.sl ((mM (bF key) b).map bD))))):=qw (Cl G key b h hb)
def Hq:aO:=⟨2,26,ae [aQ 4] (ae [oM 6 0,bd 7 6,ak .sub 8 7 16,oM 5 8] (.seq (ae [oM 9 5,ak .lss 10 9 0] (ar 10 (ae [oM 11 1,aY 12 175 11,oM 13 0,aY 14 184 13,ct 15 177 12 14,oM 4 15] .ret) .skip)) (ae [oM 16 0,oM 17 5,oO 18 (.slice 1 (.t 16) none (some (.t 17)) none),oM 19 0,oM 20 5,oO 21 (.slice 1 (.t 19) (some (.t 20)) none none),oM 22 1,ct 23 177 21 22,oO 24 (.bldSl false 2 1 (.sl []) [(0,(.t 18)),(1,(.t 23))]),aY 25 35 24,oM 4 25] .ret))),[(4,none)]⟩
theorem aex:aM Tryz.prog {} Tryz.f178=some Hq:=by kernel_rfl
theorem ajw (G:au) (s d:List UInt8) (hs:s.length≤70000) (hd:d.length=16):aF Tryz.prog G 178 [.sl (s.map bD),.sl (d.map bD)] (.w (.c (.d (.sl ((if 16≤s.length then s.take (s.length-16)++eQ (s.drop (s.length-16)) d else eQ (jp d) (nC (s++[128]))).map bD))))):=by
  refine aX Tryz.func178 aex rfl rfl ?_;by_cases h:16≤s.length
  ·rw[if_pos h];have hl:(s.drop (s.length-16)).length=16:=by rw[ap5]; omega
   have ht:(s.drop (s.length-16)).take (s.length-(s.length-16))=s.drop (s.length-16):=apX (by omega);have hj:=dT G [s.take (s.length-16),eQ (s.drop (s.length-16)) d] (by simp) (by simp[nh]; omega);have hf:[s.take (s.length-16),eQ (s.drop (s.length-16)) d].flatten=s.take (s.length-16)++eQ (s.drop (s.length-16)) d:=by simp
   rw[hf] at hj;have e1:(((s.length:Int)-16).toNat)=s.length-16:=by omega
   simp only[Hq,ai,af,seval,iteOmega,e1,ht];refine sD (tU G (s.drop (s.length-16)) d hl hd) ?_;refine sD (hj) ?_;exact aZ
  ·rw[if_neg h];simp only[Hq,ai,af,seval,iteOmega];refine sD (C5 G d (by omega)) ?_;refine sD (Sa G s (by omega)) ?_;refine sD (tU G (jp d) (nC (s++[128])) (ti hd) (Fe (by omega))) ?_;exact aZ
def JO (key:List UInt8) (l:List (List UInt8)) (i:Nat):St:=⟨bw [(1,.w (.c (.d (.sl (l.map fun l=>D.sl (l.map bD)))))),(2,.w (.c (.rp [.sl (key.map bD),.sl ((nD (bF key)).map bD),.sl ((qT (bF key)).map bD)]))),(5,.w (.c (.d (.sl ((mN (bF key) l i).map bD))))),(6,.w (.c (.d (.int .i64 ((l.length:Int)-1))))),(23,.w (.c (.d (.sl ((l.take (l.length-1)).map fun l=>D.sl (l.map bD)))))),(24,.w (.c (.d (.int .i64 ((l.length:Int)-1))))),(25,.w (.c (.d (.int .i64 (i:Int)))))],hL [(1,.row 1 ((cG 16 (0:UInt8)).map bD))],uL [1]⟩
theorem YF (rk:List UInt8) {l:List (List UInt8)} (h:l.length=0):ot rk l=mM rk (aG 1 16):=by
  unfold ot; rw[if_pos h]; congr 1
theorem YG (rk:List UInt8) {l:List (List UInt8)} (h:l.length≠0):ot rk l=mM rk (if 16≤(l.getD (l.length-1) []).length then (l.getD (l.length-1) []).take ((l.getD (l.length-1) []).length-16)++eQ ((l.getD (l.length-1) []).drop ((l.getD (l.length-1) []).length-16)) (mN rk l (l.length-1)) else eQ (jp (mN rk l (l.length-1))) (nC (l.getD (l.length-1) []++[128]))):=by
  unfold ot; rw[if_neg h]; dsimp only; split <;> rfl
theorem Hr {l:List (List UInt8)} {j:Nat} (h:j<l.length):l[j]?=some (l.getD j []):=by
  rw[apT,apR h]; rfl
theorem A3 {l:List (List UInt8)} {j:Nat} (h:j<l.length):l.getD j []∈l:=by
  rw[apT,apR h]; exact aqr h
def FH:bp := ae [aU .lss 26 25 24] (.seq (ar 26 .skip (.exit 0)) (.seq (.block 1 (ae [bU 27 1 23 25,aA 28 27,oM 8 28] (.reg [oM 29 5,aY 30 175 29,bn 31 3 2,oM 32 8,ct 33 176 31 32,ct 34 177 30 33,oM 5 34]))) (.reg [ak .add 35 25 1,oM 25 35])))
def Hs:aO:=⟨2,44,ae [cX 2 0,aQ 4] (.seq (ae [oM 9 1,bd 10 9,ak .eql 11 10 0] (ar 11 (ae [bn 12 3 2,oO 13 (.call 62 [(.k (.c (.d (.int .u64 1)))),(kI 16)] none),oO 14 (.call 176 [(.t 12),(.t 13)] (some (0,1))),oM 4 14] .ret) .skip)) (ae [bn 15 3 2,oO 16 (.make true 1 1 aj (kI 16) (kI 16)),ct 17 176 15 16,oM 5 17] (ae [oM 18 1,bd 19 18,ak .sub 20 19 1,oM 6 20] (.seq (ae [oM 21 1,oM 22 6,oO 23 (.slice 1 (.t 21) none (some (.t 22)) none),bd 24 23,am 25 0] (.block 0 (.loop FH))) (ae [bn 36 3 2,oM 37 1,oM 38 6,bU 39 1 37 38,aA 40 39,oM 41 5,ct 42 178 40 41,oO 43 (.call 176 [(.t 36),(.t 42)] (some (0,1))),oM 4 43] .ret))))),[(4,none)]⟩
theorem aey:aM Tryz.prog { own:=[14,43] } Tryz.f163=some Hs:=by kernel_rfl
theorem ajx (G:au) (key:List UInt8) (l:List (List UInt8)) (h:key.length=16) (hl:l.length≤17) (hb:∀ x∈l,x.length≤65535):aF Tryz.prog G 163 [kS key,.sl (l.map fun l=>D.sl (l.map bD))] (.w (.c (.fr 1 ((ot (bF key) l).map bD)))):=by
  refine aX Tryz.func163 aey rfl rfl ?_;have t0:(cG 16 (0:UInt8)).take 16=kD:=rfl;by_cases h0:l.length=0
  ·rw[YF _ h0];simp only[Hs,ai,kS,af,seval,h0];refine sD (rU G 1 16 (by decide)) ?_;refine sD (Cl G key (aG 1 16) h (by rw[bS]; decide)) ?_;exact iP
  ·rw[YG _ h0];have e1:(((l.length:Int)-1).toNat)=l.length-1:=by omega
   have e2:(l.take (l.length-1)).length=l.length-1:=by rw[ap0]; omega
   have e3:((l.length-1:Nat):Int)=(l.length:Int)-1:=by omega
   simp only[Hs,ai,kS,af,seval,iteOmega,toNatUp,mT];refine bM (Cl G key kD h (by decide)) (by simp only[af,seval,t0,eL,kS]) (.inr (ub _ _)) ?_;simp only[af,seval,iteOmega,e1,e2,e3,mq];refine bO (JO key l) (fun i=>l.length-1-i) (fun i=>i≤l.length-1) 0 (apZ _) ?_ ?_
   ·refine aR (fun i=>128) ?_ ?_ rfl rfl <;> simp only[wx,aH,seval,mN]
   ·intro i hi;have hd:=Ot (bF key) l i;by_cases hlt:i<l.length-1
    ·have g1:(l.take (l.length-1))[i]?=some (l.getD i []):=by rw[aq5,if_pos hlt,Hr (by omega)]
     have hx:=hb _ (A3 (l:=l) (j:=i) (by omega));have hs:eQ (jp (mN (bF key) l i)) (mM (bF key) (l.getD i []))=mN (bF key) l (i+1):=rfl;have h1:=C5 G (mN (bF key) l i) (by omega);have h2:=ajv G key (l.getD i []) h (by omega);have h3:=tU G (jp (mN (bF key) l i)) (mM (bF key) (l.getD i [])) (ti hd) (A0 _ _);rw[hs] at h3;simp only[FH,JO,af,seval,iteOmega,toNatUp,bc,g1,e2,e3];refine sD (h1) ?_;refine sD (h2) ?_;refine sD (h3) ?_;refine bA (i+1) (by omega) (by omega) (aR (fun i=>i) ?_ ?_ rfl rfl) <;> simp only[wx,aH,aV,seval]
    ·obtain rfl:i=l.length-1:=by omega
     have g1:l[l.length-1]?=some (l.getD (l.length-1) []):=Hr (by omega);have hx:=hb _ (A3 (l:=l) (j:=l.length-1) (by omega));have h1:=ajw G (l.getD (l.length-1) []) (mN (bF key) l (l.length-1)) (by omega) hd;have hcl:∀ s d:List UInt8,s.length≤65535→d.length=16→(if 16≤s.length then s.take (s.length-16)++eQ (s.drop (s.length-16)) d else eQ (jp d) (nC (s++[128]))).length≤70000:=by
       intro s d h1 h2;split
       ·rw[apS,nh,← apS,aqq]; omega
       ·rw[nh,ti h2]; decide
     have h2:=Cl G key _ h (hcl _ _ hx hd);simp only[FH,JO,af,seval,iteOmega,bc,g1,e1,e3];refine sD (h1) ?_;refine sD (h2) ?_;exact iP
def pv (l:List (List UInt8)):Bool:=l.any fun x=>decide (65535<x.length)
def D6 (key:List UInt8) (l:List (List UInt8)):Int:=if key.length≠16 then 5 else if 17<l.length then 8 else if pv l=true then 2 else 0
def KQ (key:List UInt8) (l:List (List UInt8)):List UInt8:=if key.length=16∧l.length≤17∧pv l=false then ot (bF key) l else []
theorem aby {l:List (List UInt8)} (h:∀ j,j<l.length→(l.getD j []).length≤65535):pv l=false:=by
  unfold pv;rw[aqU];intro x hx;obtain⟨j,hj,rfl⟩:=aqs hx;have:=h j hj;rw[apT,apR hj] at this
  simpa using this
theorem YH {l:List (List UInt8)} {j:Nat} (hj:j<l.length) (h:65535<(l.getD j []).length):pv l=true:=by
  unfold pv;rw[aqP];exact⟨_,A3 hj,decide_eq_true h⟩
theorem YI {l:List (List UInt8)} (h:pv l=false):∀ x∈l,x.length≤65535:=by
  unfold pv at h;rw[aqU] at h;intro x hx;have:=h x hx
  simpa using this
def C6 (key:List UInt8) (l:List (List UInt8)) (i:Nat):St:=⟨bw [(1,.w (.c (.d (.sl (l.map fun l=>D.sl (l.map bD)))))),(6,.w (.c (.ptr 1 1 0 0))),(21,.w (.c (.d (.sl (l.map fun l=>D.sl (l.map bD)))))),(22,.w (.c (.d (.int .i64 (l.length:Int))))),(23,.w (.c (.d (.int .i64 (i:Int)))))],hL [(1,.box [.d (.sl (key.map bD)),.d (.sl ((nD (bF key)).map bD)),.d (.sl ((qT (bF key)).map bD))])],uL [1]⟩
def AC:bp := ae [aU .lss 24 23 22] (.seq (ar 24 .skip (.exit 0)) (.seq (.block 1 (ae [bU 25 1 21 23,aA 26 25,oM 9 26] (ae [oM 27 9,bd 28 27,ak .gtr 29 28 65535] (ar 29 (ae [aQ 4,am 5 2] .ret) .skip)))) (.reg [ak .add 30 23 1,oM 23 30])))
def BE:aO:=⟨2,34,ae [aQ 4,am 5 0] (ae [oM 11 0,aY 12 162 11,oM 10 12,aC 13 10 0,aC 14 10 1,oO 6 (.alloc [.nil,.nil,.nil]),aS 3 6 13,oM 7 14] (.seq (ae [oM 15 7,ak .neq 16 15 0] (ar 16 (ae [oM 17 7,aQ 4,oM 5 17] .ret) .skip)) (.seq (ae [oM 18 1,bd 19 18,ak .gtr 20 19 17] (ar 20 (ae [aQ 4,am 5 8] .ret) .skip)) (.seq (ae [oM 21 1,bd 22 21,am 23 0] (.block 0 (.loop AC))) (ae [bn 31 3 6,oM 32 1,oO 33 (.call 163 [(.t 31),(.t 32)] (some (0,1))),oM 4 33,am 5 0] .ret))))),[(4,none),(5,none)]⟩
theorem aez:aM Tryz.prog { own:=[33] } Tryz.f143=some BE:=by kernel_rfl
theorem ajy (G:au) (key:List UInt8) (l:List (List UInt8)) (hk:key.length≤9223372036854775807) (hl:l.length≤9223372036854775807) (hb:∀ x∈l,x.length≤9223372036854775807):aF Tryz.prog G 143 [.sl (key.map bD),.sl (l.map fun l=>D.sl (l.map bD))] (.tup [.c (.fr 1 ((KQ key l).map bD)),.c (.d (.int .i64 (D6 key l)))]):=by
  refine aX Tryz.func143 aez rfl rfl ?_;have hx:=ajt G key hk;unfold KQ D6;by_cases h:key.length=16
  ·have hv:zV key=kS key:=if_pos h;have he:ug key=0:=by unfold ug; rw[if_neg (by omega)]
   rw[hv,he] at hx;by_cases h2:l.length≤17
   ·rw[if_neg (by omega:¬ key.length≠16),if_neg (by omega:¬ 17<l.length)];simp only[BE,ai,af,seval];refine sC (hx) ?_;simp only[kS,af,aa,seval,iteOmega];refine bO (C6 key l) (fun i=>l.length-i) (fun i=>i≤l.length∧∀ j,j<i→(l.getD j []).length≤65535) 0 ⟨apZ _,fun j hj=>by omega⟩ ?_ ?_
    ·refine aR (fun i=>48) ?_ ?_ rfl rfl <;> simp only[wx,aH,seval]
    ·rintro i ⟨hi,hok⟩;by_cases hlt:i<l.length
     ·have g1:=Hr hlt;have hx:=hb _ (A3 hlt);by_cases hlong:65535<(l.getD i []).length
      ·have hL:=YH hlt hlong;rw[hL,if_neg (by simp),if_pos rfl];simp only[AC,C6,af,seval,iteOmega,toNatUp,bc,g1];exact d7
      ·simp only[AC,C6,af,seval,iteOmega,toNatUp,bc,g1];refine bA (i+1) (by omega) ⟨by omega,fun j hj=>?_⟩ (aR (fun i=>i) ?_ ?_ rfl rfl)
       ·rcases aqk j i with h | h
        ·exact hok j h
        ·obtain rfl:j=i:=by omega
         omega
       all_goals simp only[wx,aH,aV,seval]
     ·have hL:=aby (l:=l) (fun j hj=>hok j (by omega));rw[hL,if_pos ⟨h,h2,rfl⟩,if_neg (by simp)];simp only[AC,C6,af,seval,iteOmega];refine sD (ajx G key l h h2 (YI hL)) ?_;exact d7
   ·rw[if_neg (by omega),if_neg (by omega),if_pos (by omega)];have h3:17<l.length:=by omega
    simp only[BE,ai,af,seval];refine sC (hx) ?_;simp only[kS,af,aa,seval,iteOmega];exact d7
  ·have hv:zV key=.agg [.sl [],.sl [],.sl []]:=if_neg h;have he:ug key=5:=if_pos h;rw[hv,he] at hx;rw[if_neg (by omega),if_pos h];simp only[BE,ai,af,seval];refine sD (hx) ?_;exact d7

theorem Ou (rk c:List UInt8) {n k:Nat} (hk:k<16):∀ {m:Nat},n<m→(ud rk c m)[16*n+k]?=(iv rk (jn c n))[k]?
  | 0,h=>by omega
  | m+1,h=>by
    rw[ud];by_cases e:n=m
    ·subst e;rw[aql (by rw[u6]; omega),u6,arA]
    ·rw[aqM (by rw[u6]; omega)];exact Ou rk c hk (by omega)
theorem abz (rk c b:List UInt8) {n k:Nat} (hk:k<16) (h:16*n+k<b.length):(jV rk c b)[16*n+k]?=some (a9 (b.getD (16*n+k) 0) ((iv rk (jn c n)).getD k 0)):=by
  unfold jV sL;rw[List.getElem?_zipWith,Ou rk c hk (by omega),iI h,iI (by rw[nR]; exact hk)]
def oT (rk c b:List UInt8) (j:Nat):List UInt8:=(jV rk c b).take j
theorem Sb (rk c b:List UInt8) (j:Nat):(oT rk c b j).length=min j b.length:=by unfold oT; rw[ap0,AA]
theorem BF (rk c b:List UInt8) {j:Nat} (h:b.length≤j):oT rk c b j=jV rk c b:=apX (by rw[AA]; exact h)
theorem aeA (rk c b:List UInt8) {n k:Nat} (hk:k<16) (h:16*n+k<b.length):oT rk c b (16*n+k)++[a9 (b.getD (16*n+k) 0) ((iv rk (jn c n)).getD k 0)]=oT rk c b (16*n+k+1):=by
  unfold oT; rw[aq3,abz rk c b hk h]; rfl
theorem Ht {c:List UInt8} (h:c.length=16) (n:Nat):(jn c n).length=16:=by rw[Oi]; exact h
theorem abA {c:List UInt8} (h:c.length=16) (n:Nat):D3 (jn c n)=jn c (n+1):=by unfold D3; rw[if_pos (Ht h n)]; rfl
def px (key c b:List UInt8):Int:=if key.length≠16 then 5 else if c.length≠16 then 3 else if 65535<b.length then 2 else 0
def C7 (key c b:List UInt8):List UInt8:=if key.length=16∧c.length=16∧b.length≤65535 then jV (bF key) c b else []
theorem YJ {key:List UInt8} (c b:List UInt8) (h:key.length≠16):px key c b=5:=if_pos h
theorem YK {key c:List UInt8} (b:List UInt8) (h:key.length=16) (h2:c.length≠16):px key c b=3:=by unfold px; rw[if_neg (by simp[h]),if_pos h2]
theorem WU {key c b:List UInt8} (h:key.length=16) (h2:c.length=16) (h3:65535<b.length):px key c b=2:=by unfold px; rw[if_neg (by simp[h]),if_neg (by simp[h2]),if_pos h3]
theorem abB {key c b:List UInt8} (h:key.length=16) (h2:c.length=16) (h3:b.length≤65535):px key c b=0:=by unfold px; rw[if_neg (by simp[h]),if_neg (by simp[h2]),if_neg (by omega)]
theorem abC {key c b:List UInt8} (h:key.length=16) (h2:c.length=16) (h3:b.length≤65535):C7 key c b=jV (bF key) c b:=if_pos ⟨h,h2,h3⟩
theorem Gt {key c b:List UInt8} (h:¬ (key.length=16∧c.length=16∧b.length≤65535)):C7 key c b=[]:=if_neg h
theorem oT0 (rk c b:List UInt8):oT rk c b 0=[]:=arb

theorem Uj (s:Nat) (l:List UInt8) (k:IntKind) (n:Int):V.flat (.tup [.c (.fr s (l.map bD)),.c (.d (.int k n))])=true:=by
  have:=ub s l;simp only[V.flat,W.flat,arY,List.all_nil,Bool.and_true] at this ⊢;rw[this]; rfl
def Sd:aO:=⟨2,10,ae [bG 4 false] (ae [oM 5 0,oO 6 (.b2s (.t 5)),oM 7 1,oO 8 (.b2s (.t 7)),aU .eql 9 6 8,oM 4 9] .ret),[(4,none)]⟩
theorem ajC:aM Tryz.prog {} Tryz.f125=some Sd:=by kernel_rfl
theorem anw (G:au) (l m:List UInt8):aF Tryz.prog G 125 [.sl (l.map bD),.sl (m.map bD)] (.w (.c (.d (.bool (l==m))))):=by
  refine aX Tryz.func125 ajC rfl rfl ?_;simp only[Sd,ai,wx,seval,Gg,Yr];exact r8 (by simp only[wx,seval])
def Qm:aO:=⟨2,8,ae [bG 4 false] (ae [oM 5 0,oM 6 1,ct 7 125 5 6,oM 4 7] .ret),[(4,none)]⟩
theorem aeC:aM Tryz.prog {} Tryz.f81=some Qm:=by kernel_rfl
theorem rV (G:au) (l m:List UInt8):aF Tryz.prog G 81 [.sl (l.map bD),.sl (m.map bD)] (.w (.c (.d (.bool (l==m))))):=by
  refine aX Tryz.func81 aeC rfl rfl ?_;simp only[Qm,ai,af,seval];refine sD (anw G l m) ?_;exact aZ
def dY:List UInt32:=[0x6a09e667,0xbb67ae85,0x3c6ef372,0xa54ff53a,0x510e527f,0x9b05688c,0x1f83d9ab,0x5be0cd19]
def cy:List UInt32:=[
  0x428a2f98,0x71374491,0xb5c0fbcf,0xe9b5dba5,0x3956c25b,0x59f111f1,0x923f82a4,0xab1c5ed5,
  0xd807aa98,0x12835b01,0x243185be,0x550c7dc3,0x72be5d74,0x80deb1fe,0x9bdc06a7,0xc19bf174,
  0xe49b69c1,0xefbe4786,0x0fc19dc6,0x240ca1cc,0x2de92c6f,0x4a7484aa,0x5cb0a9dc,0x76f988da,
  0x983e5152,0xa831c66d,0xb00327c8,0xbf597fc7,0xc6e00bf3,0xd5a79147,0x06ca6351,0x14292967,
  0x27b70a85,0x2e1b2138,0x4d2c6dfc,0x53380d13,0x650a7354,0x766a0abb,0x81c2c92e,0x92722c85,
  0xa2bfe8a1,0xa81a664b,0xc24b8b70,0xc76c51a3,0xd192e819,0xd6990624,0xf40e3585,0x106aa070,
  0x19a4c116,0x1e376c08,0x2748774c,0x34b0bcb5,0x391c0cb3,0x4ed8aa4a,0x5b9cca4f,0x682e6ff3,
  0x748f82ee,0x78a5636f,0x84c87814,0x8cc70208,0x90befffa,0xa4506ceb,0xbef9a3f7,0xc67178f2]
theorem xO:dY.length=8:=rfl
theorem xP:cy.length=64:=rfl
def dU (b:List UInt8) (t:Nat):UInt32 :=
  oD (oD (oD (pK (qF (b.getD (4*t) 0)) 24) (pK (qF (b.getD (4*t+1) 0)) 16)) (pK (qF (b.getD (4*t+2) 0)) 8)) (qF (b.getD (4*t+3) 0))
def pm (x:UInt32):UInt32:=ip (ip (lq x 7) (lq x 18)) (qR x 3)
def pn (y:UInt32):UInt32:=ip (ip (lq y 17) (lq y 19)) (qR y 10)
def pz (s:List UInt32) (t:Nat):UInt32 :=
  cb (cb (cb (pn (s.getD (t-2) 0)) (s.getD (t-7) 0)) (pm (s.getD (t-15) 0))) (s.getD (t-16) 0)
def jl (b:List UInt8) (n:Nat):List UInt32:=(List.range n).map (dU b)
def dk (b:List UInt8):Nat→List UInt32
  | 0=>jl b 16
  | n+1=>dk b n++[pz (dk b n) (16+n)]
def fS (b:List UInt8):List UInt32:=dk b 48
theorem Ox (b:List UInt8) (m:Nat) (h:m=48):fS b=dk b m:=by rw[h]; rfl
def pO (e:UInt32):UInt32:=ip (ip (lq e 6) (lq e 11)) (lq e 25)
def qX (a:UInt32):UInt32:=ip (ip (lq a 2) (lq a 13)) (lq a 22)
def pW (e f g:UInt32):UInt32:=ip (pJ e f) (pJ (wP e) g)
def qY (a b c:UInt32):UInt32:=ip (ip (pJ a b) (pJ a c)) (pJ b c)
structure cJ where
  (a b c d e f g h:UInt32)
def cJ.step (s:cJ) (k w:UInt32):cJ :=
  let t1:=cb (cb (cb (cb s.h (pO s.e)) (pW s.e s.f s.g)) k) w
  let t2:=cb (qX s.a) (qY s.a s.b s.c)
  ⟨cb t1 t2,s.a,s.b,s.c,cb s.d t1,s.e,s.f,s.g⟩
def cJ.of (h:List UInt32):cJ:=⟨h.getD 0 0,h.getD 1 0,h.getD 2 0,h.getD 3 0,h.getD 4 0,h.getD 5 0,h.getD 6 0,h.getD 7 0⟩
def cJ.rounds (s:cJ) (k w:List UInt32):Nat→cJ
  | 0=>s
  | n+1=>(s.rounds k w n).step (k.getD n 0) (w.getD n 0)
def cJ.sum (s:cJ) (h:List UInt32):List UInt32 :=
  [cb (h.getD 0 0) s.a,cb (h.getD 1 0) s.b,cb (h.getD 2 0) s.c,cb (h.getD 3 0) s.d,cb (h.getD 4 0) s.e,cb (h.getD 5 0) s.f,cb (h.getD 6 0) s.g,cb (h.getD 7 0) s.h]
def oc (h:List UInt32) (b:List UInt8):List UInt32:=((cJ.of h).rounds cy (fS b) 64).sum h
theorem Ff (h:List UInt32) (b:List UInt8):(oc h b).length=8:=rfl
theorem abF (x y:UInt32):oD x y=oD y x:=UInt32.or_comm x y
def Oy:aO:=⟨2,15,ae [oO 4 (.mv (.k (.c bh)))] (ae [oM 5 0,oM 6 1,oO 7 (.conv .u64 (.t 6)),aU .shr 8 5 7,oM 9 0,oM 10 1,oO 11 (.bin .sub (kI 32) (.t 10)),oO 12 (.conv .u64 (.t 11)),aU .shl 13 9 12,aU .or 14 8 13,oM 4 14] .ret),[(4,none)]⟩
theorem abG:aM Tryz.prog {} Tryz.f127=some Oy:=by kernel_rfl
theorem oZ (G:au) (x:UInt32) (n:Nat) (h0:0<n) (hn:n<32):aF Tryz.prog G 127 [wD x,.int .i64 n] (.w (.c (.d (wD (lq x n))))):=by
  refine aX Tryz.func127 abG rfl rfl ?_;have e1:IntKind.u64.wrap (n:Int)=(n:Int):=IntWalk.u64_in _ (by omega);have e2:IntKind.i64.wrap (32-(n:Int))=((32-n:Nat):Int):=by rw[IntWalk.i64_in _ (by omega)]; omega
  have e3:IntKind.u64.wrap ((32-n:Nat):Int)=((32-n:Nat):Int):=IntWalk.u64_in _ (by omega);simp only[Oy,ai,wx,seval,iteOmega,toNatUp,e1,e2,e3];exact r8 (by simp only[wx,seval] <;> rfl)
def Qp:aO:=⟨2,17,ae [oO 4 (.mv (.k (.c bh)))] (ae [oM 6 1,oO 7 (.conv .u64 (.t 6)),oO 8 (.bin .and (.t 7) (.k (.c (.d (.int .u64 31))))),oM 5 8] (ae [oM 9 0,oM 10 5,aU .shl 11 9 10,oM 12 0,oM 13 5,oO 14 (.bin .sub (.k (.c (.d (.int .u64 32)))) (.t 13)),aU .shr 15 12 14,aU .or 16 11 15,oM 4 16] .ret)),[(4,none)]⟩
theorem aeL:aM Tryz.prog {} Tryz.f187=some Qp:=by kernel_rfl
theorem ajK (G:au) (x:UInt32) (n:Nat) (h0:0<n) (hn:n<32):aF Tryz.prog G 187 [wD x,.int .i64 (-(n:Int))] (.w (.c (.d (wD (lq x n))))):=by
  refine aX Tryz.func187 aeL rfl rfl ?_;have e1:bits .and .u64 (IntKind.u64.wrap (-(n:Int))) 31=((32-n:Nat):Int):=by
    have h:=bits_mask .u64 64 (by decide) u64_in 5 (by decide) (IntKind.u64.wrap (-(n:Int))) (by rw[IntKind.wrap_u64]; omega) (by rw[IntKind.wrap_u64]; omega);rw[show (31:Int)=2^5-1 by decide,h,IntKind.wrap_u64];omega
  have e2:IntKind.u64.wrap (32-((32-n:Nat):Int))=((n:Nat):Int):=by rw[IntWalk.u64_in _ (by omega)]; omega
  simp only[Qp,ai,wx,seval,iteOmega,toNatUp,e1,e2];rw[abF];exact r8 (by simp only[wx,seval] <;> rfl)
def Qq:aO:=⟨2,9,ae [oO 4 (.mv (.k (.c bh)))] (ae [oM 5 0,oM 6 1,oO 7 (.un .neg (.t 6)),ct 8 187 5 7,oM 4 8] .ret),[(4,none)]⟩
theorem aeM:aM Tryz.prog {} Tryz.f186=some Qq:=by kernel_rfl
theorem po (G:au) (x:UInt32) (n:Nat) (h0:0<n) (hn:n<32):aF Tryz.prog G 186 [wD x,.int .i64 n] (.w (.c (.d (wD (lq x n))))):=by
  refine aX Tryz.func186 aeM rfl rfl ?_;have e1:IntKind.i64.wrap (0-(n:Int)) = -(n:Int):=by rw[IntWalk.i64_in _ (by omega)]; omega
  simp only[Qq,ai,wx,seval,e1];refine bM (ajK G x n h0 hn) rfl (.inr rfl) ?_;simp only[wx,seval];exact r8 (by simp only[wx,seval])
def Qr:aO:=⟨0,2,ae [aQ 0] (ae [oO 1 (.bldSl true 8 1 aw [(0,(.k (.c (.d (.int .u32 1779033703))))),(1,(.k (.c (.d (.int .u32 3144134277))))),(2,(.k (.c (.d (.int .u32 1013904242))))),(3,(.k (.c (.d (.int .u32 2773480762))))),(4,(.k (.c (.d (.int .u32 1359893119))))),(5,(.k (.c (.d (.int .u32 2600822924))))),(6,(.k (.c (.d (.int .u32 528734635))))),(7,(.k (.c (.d (.int .u32 1541459225)))))]),oM 0 1] .ret),[(0,none)]⟩
theorem aeN:aM Tryz.prog { own:=[1] } Tryz.f84=some Qr:=by kernel_rfl
theorem ajL (G:au):aF Tryz.prog G 84 [] (.w (.c (.fr 1 (dY.map wD)))):=by
  refine aX Tryz.func84 aeN rfl rfl ?_;simp only[Qr,ai,Jz,JC,H4,Ij,Ii,sx];refine PI (.w (.c (.own 8 1 0 8)),upd hN 8 (some (.row 1 (dY.map wD))),upd uN 8 true) (by kernel_rfl) ?_;simp only[wx,seval];exact iV (id:=8) (n:=8) (s:=1) (by simp only[wx,seval]) (by simp only[wx,seval]) rfl
def Qs:aO:=⟨0,2,ae [aQ 0] (ae [oO 1 (.bldSl true 64 1 aw [(0,(.k (.c (.d (.int .u32 1116352408))))),(1,(.k (.c (.d (.int .u32 1899447441))))),(2,(.k (.c (.d (.int .u32 3049323471))))),(3,(.k (.c (.d (.int .u32 3921009573))))),(4,(.k (.c (.d (.int .u32 961987163))))),(5,(.k (.c (.d (.int .u32 1508970993))))),(6,(.k (.c (.d (.int .u32 2453635748))))),(7,(.k (.c (.d (.int .u32 2870763221))))),(8,(.k (.c (.d (.int .u32 3624381080))))),(9,(.k (.c (.d (.int .u32 310598401))))),(10,(.k (.c (.d (.int .u32 607225278))))),(11,(.k (.c (.d (.int .u32 1426881987))))),(12,(.k (.c (.d (.int .u32 1925078388))))),(13,(.k (.c (.d (.int .u32 2162078206))))),(14,(.k (.c (.d (.int .u32 2614888103))))),(15,(.k (.c (.d (.int .u32 3248222580))))),(16,(.k (.c (.d (.int .u32 3835390401))))),(17,(.k (.c (.d (.int .u32 4022224774))))),(18,(.k (.c (.d (.int .u32 264347078))))),(19,(.k (.c (.d (.int .u32 604807628))))),(20,(.k (.c (.d (.int .u32 770255983))))),(21,(.k (.c (.d (.int .u32 1249150122))))),(22,(.k (.c (.d (.int .u32 1555081692))))),(23,(.k (.c (.d (.int .u32 1996064986))))),(24,(.k (.c (.d (.int .u32 2554220882))))),(25,(.k (.c (.d (.int .u32 2821834349))))),(26,(.k (.c (.d (.int .u32 2952996808))))),(27,(.k (.c (.d (.int .u32 3210313671))))),(28,(.k (.c (.d (.int .u32 3336571891))))),(29,(.k (.c (.d (.int .u32 3584528711))))),(30,(.k (.c (.d (.int .u32 113926993))))),(31,(.k (.c (.d (.int .u32 338241895))))),(32,(.k (.c (.d (.int .u32 666307205))))),(33,(.k (.c (.d (.int .u32 773529912))))),(34,(.k (.c (.d (.int .u32 1294757372))))),(35,(.k (.c (.d (.int .u32 1396182291))))),(36,(.k (.c (.d (.int .u32 1695183700))))),(37,(.k (.c (.d (.int .u32 1986661051))))),(38,(.k (.c (.d (.int .u32 2177026350))))),(39,(.k (.c (.d (.int .u32 2456956037))))),(40,(.k (.c (.d (.int .u32 2730485921))))),(41,(.k (.c (.d (.int .u32 2820302411))))),(42,(.k (.c (.d (.int .u32 3259730800))))),(43,(.k (.c (.d (.int .u32 3345764771))))),(44,(.k (.c (.d (.int .u32 3516065817))))),(45,(.k (.c (.d (.int .u32 3600352804))))),(46,(.k (.c (.d (.int .u32 4094571909))))),(47,(.k (.c (.d (.int .u32 275423344))))),(48,(.k (.c (.d (.int .u32 430227734))))),(49,(.k (.c (.d (.int .u32 506948616))))),(50,(.k (.c (.d (.int .u32 659060556))))),(51,(.k (.c (.d (.int .u32 883997877))))),(52,(.k (.c (.d (.int .u32 958139571))))),(53,(.k (.c (.d (.int .u32 1322822218))))),(54,(.k (.c (.d (.int .u32 1537002063))))),(55,(.k (.c (.d (.int .u32 1747873779))))),(56,(.k (.c (.d (.int .u32 1955562222))))),(57,(.k (.c (.d (.int .u32 2024104815))))),(58,(.k (.c (.d (.int .u32 2227730452))))),(59,(.k (.c (.d (.int .u32 2361852424))))),(60,(.k (.c (.d (.int .u32 2428436474))))),(61,(.k (.c (.d (.int .u32 2756734187))))),(62,(.k (.c (.d (.int .u32 3204031479))))),(63,(.k (.c (.d (.int .u32 3329325298)))))]),
 oM 0 1] .ret),[(0,none)]⟩
theorem aeO:aM Tryz.prog { own:=[1] } Tryz.f85=some Qs:=by kernel_rfl
theorem Sk (G:au):aF Tryz.prog G 85 [] (.w (.c (.fr 1 (cy.map wD)))):=by
  refine aX Tryz.func85 aeO rfl rfl ?_;simp only[Qs,ai,Jz,JC,H4,Ij,Ii,sx];refine PI (.w (.c (.own 8 1 0 64)),upd hN 8 (some (.row 1 (cy.map wD))),upd uN 8 true) (by kernel_rfl) ?_;simp only[wx,seval];exact iV (id:=8) (n:=64) (s:=1) (by simp only[wx,seval]) (by simp only[wx,seval]) rfl
theorem Mb (b:UInt8):(qF b).toNat=b.toNat:=by have:=Mz b; omega
theorem FI (b:UInt8) (n:Nat) (hn:n≤24):(pK (qF b) n).toNat=2^n*b.toNat:=by
  have hb:=b.toNat_lt;have h:(2:Nat)^n≤2^24:=Nat.pow_le_pow_right (by decide) hn;have h2:2^n*b.toNat≤2^24*255:=Nat.mul_le_mul h (by omega);unfold pK;rw[Mb,UInt32.toNat_ofNat_of_lt' (by rw[arL]; simp only[UInt32.size]; omega),arL]
theorem Hz (x y:UInt32):(oD x y).toNat=x.toNat ||| y.toNat:=UInt32.toNat_or x y
theorem xQ (b:List UInt8) (t:Nat):(dU b t).toNat=((((b.getD (4*t) 0).toNat*256+(b.getD (4*t+1) 0).toNat)*256+(b.getD (4*t+2) 0).toNat)*256+(b.getD (4*t+3) 0).toNat):=by
  unfold dU;generalize b.getD (4*t) 0=p;generalize b.getD (4*t+1) 0=q;generalize b.getD (4*t+2) 0=r;generalize b.getD (4*t+3) 0=s;have hp:=p.toNat_lt;have hq:=q.toNat_lt;have hr:=r.toNat_lt;have hs:=s.toNat_lt;rw[Hz,Hz,Hz,FI _ _ (by decide),FI _ _ (by decide),FI _ _ (by decide),Mb];have e1:=Nat.two_pow_add_eq_or_of_lt (i:=24) (b:=2^16*q.toNat) (by omega) p.toNat;rw[← e1];have e2:=Nat.two_pow_add_eq_or_of_lt (i:=16) (b:=2^8*r.toNat) (by omega) (2^8*p.toNat+q.toNat);have e3:2^24*p.toNat+2^16*q.toNat=2^16*(2^8*p.toNat+q.toNat):=by omega
  rw[e3,← e2];have e4:=Nat.two_pow_add_eq_or_of_lt (i:=8) (b:=s.toNat) (by omega) (2^8*(2^8*p.toNat+q.toNat)+r.toNat);have e5:2^16*(2^8*p.toNat+q.toNat)+2^8*r.toNat=2^8*(2^8*(2^8*p.toNat+q.toNat)+r.toNat):=by omega
  rw[e5,← e4];omega
theorem four (b:List UInt8) (t:Nat) (h:4*t+4≤b.length):(b.drop (4*t)).take 4=[b.getD (4*t) 0,b.getD (4*t+1) 0,b.getD (4*t+2) 0,b.getD (4*t+3) 0]:=by
  apply aq2;intro j;rw[aq5,aq7];rcases j with _ | _ | _ | _ | j
  ·simp[List.getD,apR (show 4*t<b.length by omega)]
  ·simp[List.getD,apR (show 4*t+1<b.length by omega)]
  ·simp[List.getD,apR (show 4*t+2<b.length by omega)]
  ·simp[List.getD,apR (show 4*t+3<b.length by omega)]
  ·rw[if_neg (by omega)];rfl
theorem apD (b:List UInt8) (t:Nat) (h:4*t+4≤b.length):D.int .u32 (IntKind.u32.wrap (bq ((b.drop (4*t)).take 4):Int))=wD (dU b t):=by
  have h1:=xQ b t;rw[four b t h];unfold wD;rw[h1];generalize b.getD (4*t) 0=p;generalize b.getD (4*t+1) 0=q;generalize b.getD (4*t+2) 0=r;generalize b.getD (4*t+3) 0=s;have hp:=p.toNat_lt;have hq:=q.toNat_lt;have hr:=r.toNat_lt;have hs:=s.toNat_lt;have e:bq [p,q,r,s]=(((p.toNat*256+q.toNat)*256+r.toNat)*256+s.toNat):=by
    simp only[bq,aq6,arz];omega
  rw[e,IntWalk.u32_in _ (by omega)]
theorem xN (b:List UInt8) (n:Nat):(jl b n).length=n:=by simp[jl]
theorem uP (b:List UInt8):∀ n,(dk b n).length=16+n
  | 0=>by simp[dk,xN]
  | n+1=>by rw[dk,apS,uP b n]; simp; omega
theorem yc {α:Type} (l:List α) (z x:α) (n:Nat) (h:0<n):(l++List.replicate n z).set l.length x=(l++[x])++List.replicate (n-1) z:=by
  obtain⟨k,rfl⟩:∃ k,n=k+1:=⟨n-1,by omega⟩
  rw[art _ _ (ap3 _),arE,List.replicate_succ,List.set_cons_zero];simp
theorem Sl {l:List UInt32} {r:List UInt32} {i:Nat} (h:i<l.length):(l++r)[i]?=some (l.getD i 0):=by
  rw[aqM h];simp[h]
def JR (b:List UInt8) (t:Nat):St:=⟨bw [(0,.w (.c (.d (.sl (b.map bD))))),(2,.w (.c (.pa 1 1))),(3,.w (.c (.pa 2 1))),(10,.w (.c (.d (.int .i64 (t:Int)))))],hL [(1,.row 1 ((List.replicate 64 (0:UInt32)).map wD)),(2,.row 1 ((jl b t++List.replicate (64-t) 0).map wD))],uL [1,2]⟩
def JS (b:List UInt8) (n:Nat):St:=⟨bw [(2,.w (.c (.pa 1 1))),(3,.w (.c (.pa 2 1))),(5,.w (.c (.d (.int .i64 ((16+n:Nat):Int)))))],hL [(1,.row 1 ((List.replicate 64 (0:UInt32)).map wD)),(2,.row 1 ((dk b n++List.replicate (48-n) 0).map wD))],uL [1,2]⟩
def ES:bp := ae [ak .lss 11 10 16] (.seq (ar 11 .skip (.exit 0)) (.seq (.block 1 (ae [oM 12 10,oM 4 12] (.reg [oM 13 4,oM 14 0,oM 15 4,ak .mul 16 15 4,oM 17 4,ak .add 18 17 1,ak .mul 19 18 4,oO 20 (.slice 1 (.t 14) (some (.t 16)) (some (.t 19)) none),aY 21 68 20,oO 22 (.conv .u32 (.t 21)),oO 23 (.idxPa 1 64 (.t 3) (.t 13)),d6 23 22]))) (.reg [ak .add 24 10 1,oM 10 24])))
def ET:bp := .seq (ae [oM 25 5,ak .lss 26 25 64] (ar 26 .skip (.exit 2))) (.seq (.block 3 (ae [oM 29 5,ak .sub 30 29 15,oO 31 (.idxPa 1 64 (.t 3) (.t 30)),aA 32 31,oM 33 5,ak .sub 34 33 2,oO 35 (.idxPa 1 64 (.t 3) (.t 34)),aA 36 35,oM 6 32,oM 7 36] (ae [oM 37 6,oO 38 (.call 186 [(.t 37),(kI 7)] none),oM 39 6,oO 40 (.call 186 [(.t 39),(kI 18)] none),aU .xor 41 38 40,oM 42 6,oO 43 (.bin .shr (.t 42) (.k (.c (.d (.int .u64 3))))),aU .xor 44 41 43,oM 8 44] (ae [oM 45 7,oO 46 (.call 186 [(.t 45),(kI 17)] none),oM 47 7,oO 48 (.call 186 [(.t 47),(kI 19)] none),aU .xor 49 46 48,oM 50 7,oO 51 (.bin .shr (.t 50) (.k (.c (.d (.int .u64 10))))),aU .xor 52 49 51,oM 9 52] (.reg [oM 53 5,oM 54 9,oM 55 5,ak .sub 56 55 7,oO 57 (.idxPa 1 64 (.t 3) (.t 56)),aA 58 57,aU .add 59 54 58,
 oM 60 8,aU .add 61 59 60,oM 62 5,ak .sub 63 62 16,oO 64 (.idxPa 1 64 (.t 3) (.t 63)),aA 65 64,aU .add 66 61 65,oO 67 (.idxPa 1 64 (.t 3) (.t 53)),d6 67 66]))))) (.reg [oM 27 5,ak .add 28 27 1,oM 5 28]))
def MU:aO:=⟨1,69,ae [oO 2 (.allocArr [aw,aw,aw,aw,aw,aw,aw,aw,aw,aw,aw,aw,aw,aw,aw,aw,aw,aw,aw,aw,aw,aw,aw,aw,aw,aw,aw,aw,aw,aw,aw,aw,aw,aw,aw,aw,aw,aw,aw,aw,aw,aw,aw,aw,aw,aw,aw,aw,aw,aw,aw,aw,aw,aw,aw,aw,aw,aw,aw,aw,aw,aw,aw,aw])] (ae [oO 3 (.allocArr [aw,aw,aw,aw,aw,aw,aw,aw,aw,aw,aw,aw,aw,aw,aw,aw,aw,aw,aw,aw,aw,aw,aw,aw,aw,aw,aw,aw,aw,aw,aw,aw,aw,aw,aw,aw,aw,aw,aw,aw,aw,aw,aw,aw,aw,aw,aw,aw,aw,aw,aw,aw,aw,aw,aw,aw,aw,aw,aw,aw,aw,aw,aw,aw])] (.seq (ae [am 10 0] (.block 0 (.loop ES))) (.seq (ae [am 5 16] (.block 2 (.loop ET))) (ae [bn 68 64 3,aS 64 2 68] .ret)))),[(2,(some (.ag 64)))]⟩
theorem YO:aM Tryz.prog {} Tryz.f185=some MU:=by kernel_rfl
set_option maxHeartbeats 800000 in
theorem abH (G:au) (b:List UInt8) (hb:b.length=64):aF Tryz.prog G 185 [.sl (b.map bD)] (.w (.c (.d (.agg ((fS b).map wD))))):=by
  refine aX Tryz.func185 YO rfl rfl ?_;simp only[MU,ai,wx,seval];refine bO (JR b) (fun t=>16-t) (fun t=>t≤16) 0 (apZ _) ?_ ?_
  ·refine aR (fun i=>8*(i+1)) ?_ ?_ rfl rfl <;> simp only[wx,aH,seval];exact⟨rfl,rfl⟩
  ·intro t ht;by_cases hlt:t<16
   ·have e1:IntKind.i64.wrap ((t:Int)*4)=((4*t:Nat):Int):=by rw[IntWalk.i64_in _ (by omega)]; omega
    have e2:IntKind.i64.wrap ((t:Int)+1)=((t+1:Nat):Int):=by rw[IntWalk.i64_in _ (by omega)]; rfl
    have e3:IntKind.i64.wrap (((t+1:Nat):Int)*4)=((4*t+4:Nat):Int):=by rw[IntWalk.i64_in _ (by omega)]; omega
    have e4:4*t+4-4*t=4:=by omega
    simp only[ES,JR,wx,seval,iteOmega,toNatUp,e1,e2,e3,e4];refine bM (kH G _ (by rw[ap0,ap5]; omega)) rfl (.inr rfl) ?_;have h1:t<(jl b t++List.replicate (64-t) 0).length:=by rw[apS,xN,aqo]; omega
    have h2:=yc (jl b t) 0 (dU b t) (64-t) (by omega);rw[xN] at h2;have h3:jl b t++[dU b t]=jl b (t+1):=by simp[jl,aqS]
    have h4:64-t-1=64-(t+1):=by omega
    rw[h3,h4] at h2;simp only[wx,aa,seval,iteOmega,toNatUp,apD b t (by omega),Ce h1 (ze _),Cf,h2,e2];refine bA (t+1) (by omega) (by omega) (aR id ?_ ?_ rfl rfl) <;> simp only[wx,aH,seval]
   ·obtain rfl:t=16:=by omega
    simp only[ES,JR,wx,seval];refine bO (JS b) (fun n=>48-n) (fun n=>n≤48) 0 (apZ _) ?_ ?_
    ·have h0:jl b 16=dk b 0:=rfl;refine aR id ?_ ?_ rfl rfl <;> simp only[wx,aH,seval,h0]
    ·intro n hn;by_cases hlt:n<48
     ·have hl:=uP b n;have w1:∀ k:Nat,k≤16→IntKind.i64.wrap (((16+n:Nat):Int)-(k:Int))=((16+n-k:Nat):Int):=fun k hk=>by rw[IntWalk.i64_in _ (by omega)]; omega
      have e15:IntKind.i64.wrap (((16+n:Nat):Int)-15)=((16+n-15:Nat):Int):=w1 15 (by decide);have e2:IntKind.i64.wrap (((16+n:Nat):Int)-2)=((16+n-2:Nat):Int):=w1 2 (by decide);have e7:IntKind.i64.wrap (((16+n:Nat):Int)-7)=((16+n-7:Nat):Int):=w1 7 (by decide);have e16:IntKind.i64.wrap (((16+n:Nat):Int)-16)=((16+n-16:Nat):Int):=w1 16 (by decide);have e0:IntKind.i64.wrap (((16+n:Nat):Int)+1)=((16+(n+1):Nat):Int):=by rw[IntWalk.i64_in _ (by omega)]; omega
      have g:∀ k,k<16+n→((dk b n++List.replicate (48-n) 0).map wD)[k]?=some (wD ((dk b n).getD k 0)):=fun k hk=>by
        rw[aqH,Sl (by omega)]; rfl
      have g15:=g (16+n-15) (by omega);have g2:=g (16+n-2) (by omega);have g7:=g (16+n-7) (by omega);have g16:=g (16+n-16) (by omega);simp only[ET,JS,wx,seval,iteOmega,toNatUp,e15,e2,g15,g2];refine bM (po G _ 7 (by decide) (by decide)) rfl (.inr rfl) ?_;simp only[wx,seval];refine bM (po G _ 18 (by decide) (by decide)) rfl (.inr rfl) ?_;simp only[wx,seval,toNatUp];refine bM (po G _ 17 (by decide) (by decide)) rfl (.inr rfl) ?_;simp only[wx,seval];refine bM (po G _ 19 (by decide) (by decide)) rfl (.inr rfl) ?_;have h1:16+n<(dk b n++List.replicate (48-n) 0).length:=by rw[apS,hl,aqo]; omega
      have h2:=yc (dk b n) 0 (pz (dk b n) (16+n)) (48-n) (by omega);rw[hl] at h2;have h4:48-n-1=48-(n+1):=by omega
      have h3:dk b n++[pz (dk b n) (16+n)]=dk b (n+1):=rfl;rw[h3,h4] at h2;simp only[pz,pm,pn] at h2;simp only[wx,aa,seval,iteOmega,toNatUp,e7,e16,e0,g7,g16,Ce h1 (ze _),Cf,h2];refine bA (n+1) (by omega) (by omega) (aR id ?_ ?_ rfl rfl) <;> simp only[wx,aH,seval]
     ·have hn48:n=48:=by omega
      have hl:(dk b n).length=64:=by rw[uP]; omega
      have h0:48-n=0:=by omega
      simp only[ET,JS,wx,aa,seval,iteOmega,h0,aro,hl];refine r8 ?_;simp only[wx,seval,Ox b n hn48,hl]
theorem Vq {G:au} {n:Nat} {c:C} (h:G.at n=some c) (f:Nat→V):ev G f (.g n)=.w (.c c):=by simp[ev,h]
theorem getD_some {l:List UInt32} {i:Nat} (h:i<l.length):l[i]?=some (l.getD i 0):=by simp[h]
theorem eight {l:List UInt32} (h:l.length=8):∃ a b c d e f g i,l=[a,b,c,d,e,f,g,i]:=by
  match l,h with
  | [a,b,c,d,e,f,g,i],_=>exact⟨a,b,c,d,e,f,g,i,rfl⟩
def cJ.list (s:cJ):List UInt32:=[s.a,s.b,s.c,s.d,s.e,s.f,s.g,s.h]
theorem Sm (s:cJ) (k w:UInt32):(s.step k w).a=cb (cb (cb (cb (cb s.h (pO s.e)) (pW s.e s.f s.g)) k) w) (cb (qX s.a) (qY s.a s.b s.c)):=rfl
theorem Sn (s:cJ) (k w:UInt32):(s.step k w).b=s.a:=rfl
theorem Sp (s:cJ) (k w:UInt32):(s.step k w).c=s.b:=rfl
theorem Sq (s:cJ) (k w:UInt32):(s.step k w).d=s.c:=rfl
theorem Sr (s:cJ) (k w:UInt32):(s.step k w).e=cb s.d (cb (cb (cb (cb s.h (pO s.e)) (pW s.e s.f s.g)) k) w):=rfl
theorem Ss (s:cJ) (k w:UInt32):(s.step k w).f=s.e:=rfl
theorem Su (s:cJ) (k w:UInt32):(s.step k w).g=s.f:=rfl
theorem Sv (s:cJ) (k w:UInt32):(s.step k w).h=s.g:=rfl
def C8 (h:List UInt32) (b:List UInt8) (s:cJ) (n:Nat):St:=⟨bw [(2,.w (.c (.pa 1 1))),(4,.w (.c (.pa 2 1))),(5,.w (.c (.pa 3 1))),(6,.w (.c (.d (wD s.a)))),(7,.w (.c (.d (wD s.b)))),(8,.w (.c (.d (wD s.c)))),(9,.w (.c (.d (wD s.d)))),(10,.w (.c (.d (wD s.e)))),(11,.w (.c (.d (wD s.f)))),(12,.w (.c (.d (wD s.g)))),(13,.w (.c (.d (wD s.h)))),(37,.w (.c (.d (.int .i64 (n:Int)))))],
  hL [(1,.row 1 (h.map wD)),(2,.row 1 ((List.replicate 8 (0:UInt32)).map wD)),(3,.row 1 ((fS b).map wD))],uL [1,2,3]⟩
def zE (h:List UInt32) (b:List UInt8) (n:Nat):St:=C8 h b ((cJ.of h).rounds cy (fS b) n) n
def sumTo (s:cJ) (h:List UInt32) (k:Nat):List UInt32:=(s.sum h).take k++h.drop k
def C9 (h:List UInt32) (s:cJ) (n:Nat):St:=⟨bw [(2,.w (.c (.pa 1 1))),(4,.w (.c (.pa 2 1))),(108,.w (.c (.d (.agg (s.list.map wD))))),(109,.w (.c (.d (.int .i64 (n:Int)))))],
  hL [(1,.row 1 ((sumTo s h n).map wD)),(2,.row 1 ((List.replicate 8 (0:UInt32)).map wD))],uL [1,2]⟩
def Fg:bp := ae [ak .lss 38 37 64] (.seq (ar 38 .skip (.exit 0)) (.seq (.block 1 (ae [oM 39 37,oM 14 39] (ae [oM 40 13,oM 41 10,oO 42 (.call 186 [(.t 41),(kI 6)] none),oM 43 10,oO 44 (.call 186 [(.t 43),(kI 11)] none),aU .xor 45 42 44,oM 46 10,oO 47 (.call 186 [(.t 46),(kI 25)] none),aU .xor 48 45 47,aU .add 49 40 48,oM 50 10,oM 51 11,aU .and 52 50 51,oM 53 10,oO 54 (.un .xor (.t 53)),oM 55 12,aU .and 56 54 55,aU .xor 57 52 56,aU .add 58 49 57,oM 59 14,oO 60 (.idxPa 1 64 (.g 1) (.t 59)),aA 61 60,aU .add 62 58 61,oM 63 14,oO 64 (.idxPa 1 64 (.t 5) (.t 63)),aA 65 64,aU .add 66 62 65,oM 15 66] (ae [oM 67 6,oO 68 (.call 186 [(.t 67),(kI 2)] none),oM 69 6,oO 70 (.call 186 [(.t 69),(kI 13)] none),aU .xor 71 68 70,oM 72 6,oO 73 (.call 186 [(.t 72),(kI 22)] none),aU .xor 74 71 73,
 oM 75 6,oM 76 7,aU .and 77 75 76,oM 78 6,oM 79 8,aU .and 80 78 79,aU .xor 81 77 80,oM 82 7,oM 83 8,aU .and 84 82 83,aU .xor 85 81 84,aU .add 86 74 85,oM 16 86] (.reg [oM 87 12,oM 88 11,oM 89 10,oM 90 9,oM 91 15,aU .add 92 90 91,oM 93 8,oM 94 7,oM 95 6,oM 96 15,oM 97 16,aU .add 98 96 97,oM 13 87,oM 12 88,oM 11 89,oM 10 92,oM 9 93,oM 8 94,oM 7 95,oM 6 98]))))) (.reg [ak .add 99 37 1,oM 37 99])))
def Fh:bp := ae [ak .lss 110 109 8] (.seq (ar 110 .skip (.exit 2)) (.seq (.block 3 (ae [oM 111 109,oO 112 (.idxArr 1 8 .sc (.t 108) (.t 109)),oM 17 111,oM 18 112] (.reg [oM 113 17,oO 114 (.idxPa 1 8 (.t 2) (.t 113)),aA 115 114,oM 116 18,aU .add 117 115 116,oO 118 (.idxPa 1 8 (.t 2) (.t 113)),d6 118 117]))) (.reg [ak .add 119 109 1,oM 109 119])))
def Oz:aO:=⟨2,121,ae [oO 2 (.box .ownArr (.t 0)),oO 4 (.allocArr [aw,aw,aw,aw,aw,aw,aw,aw])] (ae [oM 19 1,aY 20 185 19,oO 5 (.allocArr [aw,aw,aw,aw,aw,aw,aw,aw,aw,aw,aw,aw,aw,aw,aw,aw,aw,aw,aw,aw,aw,aw,aw,aw,aw,aw,aw,aw,aw,aw,aw,aw,aw,aw,aw,aw,aw,aw,aw,aw,aw,aw,aw,aw,aw,aw,aw,aw,aw,aw,aw,aw,aw,aw,aw,aw,aw,aw,aw,aw,aw,aw,aw,aw]),aS 64 5 20] (ae [oO 21 (.idxPa 1 8 (.t 2) (kI 0)),aA 22 21,oO 23 (.idxPa 1 8 (.t 2) (kI 1)),aA 24 23,oO 25 (.idxPa 1 8 (.t 2) (kI 2)),aA 26 25,oO 27 (.idxPa 1 8 (.t 2) (kI 3)),aA 28 27,oO 29 (.idxPa 1 8 (.t 2) (kI 4)),aA 30 29,oO 31 (.idxPa 1 8 (.t 2) (kI 5)),aA 32 31,oO 33 (.idxPa 1 8 (.t 2) (kI 6)),aA 34 33,oO 35 (.idxPa 1 8 (.t 2) (kI 7)),aA 36 35,oM 6 22,oM 7 24,oM 8 26,oM 9 28,
 oM 10 30,oM 11 32,oM 12 34,oM 13 36] (.seq (ae [am 37 0] (.block 0 (.loop Fg))) (.seq (ae [oM 100 6,oM 101 7,oM 102 8,oM 103 9,oM 104 10,oM 105 11,oM 106 12,oM 107 13,oO 108 (.build [bh,bh,bh,bh,bh,bh,bh,bh] [(0,1,(.t 100)),(1,1,(.t 101)),(2,1,(.t 102)),(3,1,(.t 103)),(4,1,(.t 104)),(5,1,(.t 105)),(6,1,(.t 106)),(7,1,(.t 107))]),am 109 0] (.block 2 (.loop Fh))) (ae [bn 120 8 2,aS 8 4 120] .ret))))),[(4,(some (.ag 8)))]⟩
theorem abI:aM Tryz.prog { own:=[2] } Tryz.f180=some Oz:=by kernel_rfl
theorem aeP (G:au) (hG:G.at 1=some (.ra (cy.map wD))) (h:List UInt32) (b:List UInt8) (hh:h.length=8) (hb:b.length=64):aF Tryz.prog G 180 [.agg (h.map wD),.sl (b.map bD)] (.w (.c (.d (.agg ((oc h b).map wD))))):=by
  refine aX Tryz.func180 abI rfl rfl ?_;have hsl:(fS b).length=64:=uP b 48;have eg:=@Vq G 1 _ hG;have hcl:cy.length=64:=xP;obtain⟨h0,h1,h2,h3,h4,h5,h6,h7,rfl⟩:=eight hh;simp only[Oz,ai,wx,seval];refine bM (abH G b hb) rfl (.inl rfl) ?_;simp only[wx,aa,seval,toNatUp,hsl];refine bO (zE [h0,h1,h2,h3,h4,h5,h6,h7] b) (fun n=>64-n) (fun n=>n≤64) 0 (apZ _) ?_ ?_
  ·refine aR (fun i=>match i with | 1=>16 | 2=>32 | _=>40) ?_ ?_ rfl rfl <;> simp only[wx,aH,seval]
   ·exact⟨rfl,rfl,rfl,rfl,rfl,rfl,rfl,rfl⟩
   ·rfl
  ·intro n hn;by_cases hlt:n<64
   ·have e1:IntKind.i64.wrap ((n:Int)+1)=((n+1:Nat):Int):=by rw[IntWalk.i64_in _ (by omega)]; rfl
    have g1:(cy.map wD)[n]?=some (wD (cy.getD n 0)):=by rw[bc,getD_some (by omega)]; rfl
    have g2:((fS b).map wD)[n]?=some (wD ((fS b).getD n 0)):=by rw[bc,getD_some (by omega)]; rfl
    have hr:(cJ.of [h0,h1,h2,h3,h4,h5,h6,h7]).rounds cy (fS b) (n+1)=((cJ.of [h0,h1,h2,h3,h4,h5,h6,h7]).rounds cy (fS b) n).step (cy.getD n 0) ((fS b).getD n 0):=rfl;generalize hs:(cJ.of [h0,h1,h2,h3,h4,h5,h6,h7]).rounds cy (fS b) n=s at hr;simp only[Fg,zE,C8,hs,wx,seval,iteOmega];refine bM (po G _ 6 (by decide) (by decide)) rfl (.inr rfl) ?_;simp only[wx,seval];refine bM (po G _ 11 (by decide) (by decide)) rfl (.inr rfl) ?_;simp only[wx,seval];refine bM (po G _ 25 (by decide) (by decide)) rfl (.inr rfl) ?_;simp only[wx,seval,iteOmega,toNatUp,eg,g1,g2,hcl];refine bM (po G _ 2 (by decide) (by decide)) rfl (.inr rfl) ?_;simp only[wx,seval];refine bM (po G _ 13 (by decide) (by decide)) rfl (.inr rfl) ?_;simp only[wx,seval];refine bM (po G _ 22 (by decide) (by decide)) rfl (.inr rfl) ?_;simp only[wx,seval,e1];refine bA (n+1) (by omega) (by omega) ?_;rw[zE,hr];refine (aR id ?_ ?_ rfl rfl) <;> simp only[wx,aH,seval,Sm,Sn,Sp,Sq,Sr,Ss,Su,Sv];exact⟨rfl,rfl⟩
   ·obtain rfl:n=64:=by omega
    have hK:oc [h0,h1,h2,h3,h4,h5,h6,h7] b=((cJ.of [h0,h1,h2,h3,h4,h5,h6,h7]).rounds cy (fS b) 64).sum [h0,h1,h2,h3,h4,h5,h6,h7]:=rfl;rw[hK];simp only[zE];generalize (cJ.of [h0,h1,h2,h3,h4,h5,h6,h7]).rounds cy (fS b) 64=s;simp only[Fg,C8,wx,seval];refine bO (C9 [h0,h1,h2,h3,h4,h5,h6,h7] s) (fun n=>8-n) (fun n=>n≤8) 0 (apZ _) ?_ ?_
    ·refine aR id ?_ ?_ rfl rfl <;> simp only[wx,aH,seval]
     ·rfl
     ·rfl
    ·have e8:s.sum [h0,h1,h2,h3,h4,h5,h6,h7]=[cb h0 s.a,cb h1 s.b,cb h2 s.c,cb h3 s.d,cb h4 s.e,cb h5 s.f,cb h6 s.g,cb h7 s.h]:=rfl;intro n hn;have hc:n=8∨n=0∨n=1∨n=2∨n=3∨n=4∨n=5∨n=6∨n=7:=by omega
     rcases hc with rfl | rfl | rfl | rfl | rfl | rfl | rfl | rfl | rfl
     ·simp only[Fh,C9,sumTo,e8,cJ.list,wx,aa,seval];exact r8 (by simp only[wx,seval])
     all_goals
       simp only[Fh,C9,sumTo,e8,cJ.list,wx,wy,aa,seval,toNatUp]
       first | refine bA 1 (by decide) (by decide) ?_ | refine bA 2 (by decide) (by decide) ?_ | refine bA 3 (by decide) (by decide) ?_ | refine bA 4 (by decide) (by decide) ?_ | refine bA 5 (by decide) (by decide) ?_ | refine bA 6 (by decide) (by decide) ?_ | refine bA 7 (by decide) (by decide) ?_ | refine bA 8 (by decide) (by decide) ?_
       refine aR id ?_ ?_ rfl rfl <;> simp only[wx,aH,seval,sumTo,e8,cJ.list] <;> rfl
theorem WX {l:List UInt8} {i:Nat} (h:i<l.length):l[i]?=some (l.getD i 0):=by simp[h]
def JU (h k:List UInt32) (b:List UInt8) (t:Nat):St:=⟨bw [(0,.w (.c (.d (.sl (h.map wD))))),(1,.w (.c (.d (.sl (k.map wD))))),(2,.w (.c (.d (.sl (b.map bD))))),(7,.w (.c (.pa 1 1))),(8,.w (.c (.d (.int .i64 (t:Int)))))],
  hL [(1,.row 1 ((jl b t++List.replicate (64-t) 0).map wD))],uL [1]⟩
def JV (h k:List UInt32) (b:List UInt8) (n:Nat):St:=⟨bw [(0,.w (.c (.d (.sl (h.map wD))))),(1,.w (.c (.d (.sl (k.map wD))))),(7,.w (.c (.pa 1 1))),(9,.w (.c (.d (.int .i64 ((16+n:Nat):Int)))))],
  hL [(1,.row 1 ((dk b n++List.replicate (48-n) 0).map wD))],uL [1]⟩
def Da (h:List UInt32) (b:List UInt8) (s:cJ) (n:Nat):St:=⟨bw [(0,.w (.c (.d (.sl (h.map wD))))),(1,.w (.c (.d (.sl (cy.map wD))))),(7,.w (.c (.pa 1 1))),(12,.w (.c (.d (wD s.a)))),(13,.w (.c (.d (wD s.b)))),(14,.w (.c (.d (wD s.c)))),(15,.w (.c (.d (wD s.d)))),(16,.w (.c (.d (wD s.e)))),(17,.w (.c (.d (wD s.f)))),(18,.w (.c (.d (wD s.g)))),(19,.w (.c (.d (wD s.h)))),(20,.w (.c (.d (.int .i64 (n:Int)))))],
  hL [(1,.row 1 ((fS b).map wD))],uL [1]⟩
def zF (h:List UInt32) (b:List UInt8) (n:Nat):St:=Da h b ((cJ.of h).rounds cy (fS b) n) n
def EU:bp := .seq (ae [oM 23 8,ak .lss 24 23 16] (ar 24 .skip (.exit 0))) (.seq (.block 1 (.reg [oM 27 8,oM 28 2,oM 29 8,oO 30 (.bin .mul (kI 4) (.t 29)),bU 31 1 28 30,aA 32 31,oO 33 (.conv .u32 (.t 32)),oO 34 (.bin .shl (.t 33) (.k (.c (.d (.int .u64 24))))),oM 35 2,oM 36 8,oO 37 (.bin .mul (kI 4) (.t 36)),ak .add 38 37 1,bU 39 1 35 38,aA 40 39,oO 41 (.conv .u32 (.t 40)),oO 42 (.bin .shl (.t 41) (.k (.c (.d (.int .u64 16))))),aU .or 43 34 42,oM 44 2,oM 45 8,oO 46 (.bin .mul (kI 4) (.t 45)),ak .add 47 46 2,bU 48 1 44 47,aA 49 48,oO 50 (.conv .u32 (.t 49)),oO 51 (.bin .shl (.t 50) (.k (.c (.d (.int .u64 8))))),aU .or 52 43 51,oM 53 2,oM 54 8,oO 55 (.bin .mul (kI 4) (.t 54)),ak .add 56 55 3,bU 57 1 53 56,aA 58 57,oO 59 (.conv .u32 (.t 58)),aU .or 60 52 59,oO 61 (.idxPa 1 64 (.t 7) (.t 27)),
 d6 61 60])) (.reg [oM 25 8,ak .add 26 25 1,oM 8 26]))
def EV:bp := .seq (ae [oM 62 9,ak .lss 63 62 64] (ar 63 .skip (.exit 2))) (.seq (.block 3 (ae [oM 66 9,ak .sub 67 66 15,oO 68 (.idxPa 1 64 (.t 7) (.t 67)),aA 69 68,oM 70 9,ak .sub 71 70 2,oO 72 (.idxPa 1 64 (.t 7) (.t 71)),aA 73 72,oM 10 69,oM 11 73] (.reg [oM 74 9,oM 75 11,oO 76 (.call 127 [(.t 75),(kI 17)] none),oM 77 11,oO 78 (.call 127 [(.t 77),(kI 19)] none),aU .xor 79 76 78,oM 80 11,oO 81 (.bin .shr (.t 80) (.k (.c (.d (.int .u64 10))))),aU .xor 82 79 81,oM 83 9,ak .sub 84 83 7,oO 85 (.idxPa 1 64 (.t 7) (.t 84)),aA 86 85,aU .add 87 82 86,oM 88 10,oO 89 (.call 127 [(.t 88),(kI 7)] none),oM 90 10,oO 91 (.call 127 [(.t 90),(kI 18)] none),aU .xor 92 89 91,oM 93 10,oO 94 (.bin .shr (.t 93) (.k (.c (.d (.int .u64 3))))),aU .xor 95 92 94,aU .add 96 87 95,oM 97 9,
 ak .sub 98 97 16,oO 99 (.idxPa 1 64 (.t 7) (.t 98)),aA 100 99,aU .add 101 96 100,oO 102 (.idxPa 1 64 (.t 7) (.t 74)),d6 102 101]))) (.reg [oM 64 9,ak .add 65 64 1,oM 9 65]))
def EW:bp := .seq (ae [oM 127 20,ak .lss 128 127 64] (ar 128 .skip (.exit 4))) (.seq (.block 5 (ae [oM 131 19,oM 132 16,oO 133 (.call 127 [(.t 132),(kI 6)] none),oM 134 16,oO 135 (.call 127 [(.t 134),(kI 11)] none),aU .xor 136 133 135,oM 137 16,oO 138 (.call 127 [(.t 137),(kI 25)] none),aU .xor 139 136 138,aU .add 140 131 139,oM 141 16,oM 142 17,aU .and 143 141 142,oM 144 16,oO 145 (.un .xor (.t 144)),oM 146 18,aU .and 147 145 146,aU .xor 148 143 147,aU .add 149 140 148,oM 150 1,oM 151 20,bU 152 1 150 151,aA 153 152,aU .add 154 149 153,oM 155 20,oO 156 (.idxPa 1 64 (.t 7) (.t 155)),aA 157 156,aU .add 158 154 157,oM 21 158] (ae [oM 159 12,oO 160 (.call 127 [(.t 159),(kI 2)] none),oM 161 12,oO 162 (.call 127 [(.t 161),(kI 13)] none),aU .xor 163 160 162,oM 164 12,
 oO 165 (.call 127 [(.t 164),(kI 22)] none),aU .xor 166 163 165,oM 167 12,oM 168 13,aU .and 169 167 168,oM 170 12,oM 171 14,aU .and 172 170 171,aU .xor 173 169 172,oM 174 13,oM 175 14,aU .and 176 174 175,aU .xor 177 173 176,aU .add 178 166 177,oM 22 178] (.reg [oM 179 21,oM 180 22,aU .add 181 179 180,oM 182 12,oM 183 13,oM 184 14,oM 185 15,oM 186 21,aU .add 187 185 186,oM 188 16,oM 189 17,oM 190 18,oM 12 181,oM 13 182,oM 14 183,oM 15 184,oM 16 187,oM 17 188,oM 18 189,oM 19 190])))) (.reg [oM 129 20,ak .add 130 129 1,oM 20 130]))
def MV:aO:=⟨3,232,ae [aQ 6] (ae [oO 7 (.allocArr [aw,aw,aw,aw,aw,aw,aw,aw,aw,aw,aw,aw,aw,aw,aw,aw,aw,aw,aw,aw,aw,aw,aw,aw,aw,aw,aw,aw,aw,aw,aw,aw,aw,aw,aw,aw,aw,aw,aw,aw,aw,aw,aw,aw,aw,aw,aw,aw,aw,aw,aw,aw,aw,aw,aw,aw,aw,aw,aw,aw,aw,aw,aw,aw])] (.seq (ae [am 8 0] (.block 0 (.loop EU))) (.seq (ae [am 9 16] (.block 2 (.loop EV))) (ae [oM 103 0,oO 104 (.idxSl 1 (.t 103) (kI 0)),aA 105 104,oM 106 0,oO 107 (.idxSl 1 (.t 106) (kI 1)),aA 108 107,oM 109 0,oO 110 (.idxSl 1 (.t 109) (kI 2)),aA 111 110,oM 112 0,oO 113 (.idxSl 1 (.t 112) (kI 3)),aA 114 113,oM 115 0,oO 116 (.idxSl 1 (.t 115) (kI 4)),aA 117 116,oM 118 0,oO 119 (.idxSl 1 (.t 118) (kI 5)),aA 120 119,oM 121 0,oO 122 (.idxSl 1 (.t 121) (kI 6)),
 aA 123 122,oM 124 0,oO 125 (.idxSl 1 (.t 124) (kI 7)),aA 126 125,oM 12 105,oM 13 108,oM 14 111,oM 15 114,oM 16 117,oM 17 120,oM 18 123,oM 19 126] (.seq (ae [am 20 0] (.block 4 (.loop EW))) (ae [oM 191 0,oO 192 (.idxSl 1 (.t 191) (kI 0)),aA 193 192,oM 194 12,aU .add 195 193 194,oM 196 0,oO 197 (.idxSl 1 (.t 196) (kI 1)),aA 198 197,oM 199 13,aU .add 200 198 199,oM 201 0,oO 202 (.idxSl 1 (.t 201) (kI 2)),aA 203 202,oM 204 14,aU .add 205 203 204,oM 206 0,oO 207 (.idxSl 1 (.t 206) (kI 3)),aA 208 207,oM 209 15,aU .add 210 208 209,oM 211 0,oO 212 (.idxSl 1 (.t 211) (kI 4)),aA 213 212,oM 214 16,aU .add 215 213 214,oM 216 0,oO 217 (.idxSl 1 (.t 216) (kI 5)),aA 218 217,oM 219 17,aU .add 220 218 219,oM 221 0,oO 222 (.idxSl 1 (.t 221) (kI 6)),aA 223 222,oM 224 18,aU .add 225 223 224,
 oM 226 0,oO 227 (.idxSl 1 (.t 226) (kI 7)),aA 228 227,oM 229 19,aU .add 230 228 229,oO 231 (.bldSl true 8 1 aw [(0,(.t 195)),(1,(.t 200)),(2,(.t 205)),(3,(.t 210)),(4,(.t 215)),(5,(.t 220)),(6,(.t 225)),(7,(.t 230))]),oM 6 231] .ret)))))),[(6,none)]⟩
theorem YP:aM Tryz.prog { own:=[231] } Tryz.f86=some MV:=by kernel_rfl
theorem OA (G:au) (h:List UInt32) (b:List UInt8) (hh:h.length=8) (hb:b.length=64):aF Tryz.prog G 86 [.sl (h.map wD),.sl (cy.map wD),.sl (b.map bD)] (.w (.c (.fr 1 ((oc h b).map wD)))):=by
  refine aX Tryz.func86 YP rfl rfl ?_;have hsl:(fS b).length=64:=uP b 48;have hcl:cy.length=64:=xP;simp only[MV,ai,wx,seval];refine bO (JU h cy b) (fun t=>16-t) (fun t=>t≤16) 0 (apZ _) ?_ ?_
  ·refine aR (fun _=>56) ?_ ?_ rfl rfl <;> simp only[wx,aH,seval];rfl
  ·intro t ht;by_cases hlt:t<16
   ·have e0:IntKind.i64.wrap (4*(t:Int))=((4*t:Nat):Int):=by rw[IntWalk.i64_in _ (by omega)]; omega
    have e1:IntKind.i64.wrap (((4*t:Nat):Int)+1)=((4*t+1:Nat):Int):=by rw[IntWalk.i64_in _ (by omega)]; omega
    have e2:IntKind.i64.wrap (((4*t:Nat):Int)+2)=((4*t+2:Nat):Int):=by rw[IntWalk.i64_in _ (by omega)]; omega
    have e3:IntKind.i64.wrap (((4*t:Nat):Int)+3)=((4*t+3:Nat):Int):=by rw[IntWalk.i64_in _ (by omega)]; omega
    have e4:IntKind.i64.wrap ((t:Int)+1)=((t+1:Nat):Int):=by rw[IntWalk.i64_in _ (by omega)]; omega
    have g:∀ k,k<64→(b.map bD)[k]?=some (bD (b.getD k 0)):=fun k hk=>by rw[bc,WX (by omega)]; rfl
    have g0:=g (4*t) (by omega);have g1:=g (4*t+1) (by omega);have g2:=g (4*t+2) (by omega);have g3:=g (4*t+3) (by omega);have h1:t<(jl b t++List.replicate (64-t) 0).length:=by rw[apS,xN,aqo]; omega
    have h2:=yc (jl b t) 0 (dU b t) (64-t) (by omega);rw[xN] at h2;have h3:jl b t++[dU b t]=jl b (t+1):=by simp[jl,aqS]
    have h4:64-t-1=64-(t+1):=by omega
    rw[h3,h4] at h2;simp only[dU] at h2;have m24:min (24:Int).toNat 32=24:=by decide
    have m16:min (16:Int).toNat 32=16:=by decide
    have m8:min (8:Int).toNat 32=8:=by decide
    simp only[EU,JU,wx,aa,seval,iteOmega,toNatUp,e0,e1,e2,e3,e4,g0,g1,g2,g3,aqO,Ce h1 (ze _),Cf,h2];refine bA (t+1) (by omega) (by omega) (aR id ?_ ?_ rfl rfl) <;> simp only[wx,aH,seval]
   ·obtain rfl:t=16:=by omega
    simp only[EU,JU,wx,seval];refine bO (JV h cy b) (fun n=>48-n) (fun n=>n≤48) 0 (apZ _) ?_ ?_
    ·have h0:jl b 16=dk b 0:=rfl;refine aR id ?_ ?_ rfl rfl <;> simp only[wx,aH,seval,h0]
    ·intro n hn;by_cases hlt:n<48
     ·have hl:=uP b n;have w1:∀ k:Nat,k≤16→IntKind.i64.wrap (((16+n:Nat):Int)-(k:Int))=((16+n-k:Nat):Int):=fun k hk=>by rw[IntWalk.i64_in _ (by omega)]; omega
      have e15:IntKind.i64.wrap (((16+n:Nat):Int)-15)=((16+n-15:Nat):Int):=w1 15 (by decide);have e2:IntKind.i64.wrap (((16+n:Nat):Int)-2)=((16+n-2:Nat):Int):=w1 2 (by decide);have e7:IntKind.i64.wrap (((16+n:Nat):Int)-7)=((16+n-7:Nat):Int):=w1 7 (by decide);have e16:IntKind.i64.wrap (((16+n:Nat):Int)-16)=((16+n-16:Nat):Int):=w1 16 (by decide);have e0:IntKind.i64.wrap (((16+n:Nat):Int)+1)=((16+(n+1):Nat):Int):=by rw[IntWalk.i64_in _ (by omega)]; omega
      have g:∀ k,k<16+n→((dk b n++List.replicate (48-n) 0).map wD)[k]?=some (wD ((dk b n).getD k 0)):=fun k hk=>by
        rw[aqH,Sl (by omega)]; rfl
      have g15:=g (16+n-15) (by omega);have g2:=g (16+n-2) (by omega);have g7:=g (16+n-7) (by omega);have g16:=g (16+n-16) (by omega);simp only[EV,JV,wx,seval,iteOmega,toNatUp,e15,e2,g15,g2];refine bM (oZ G _ 17 (by decide) (by decide)) rfl (.inr rfl) ?_;simp only[wx,seval];refine bM (oZ G _ 19 (by decide) (by decide)) rfl (.inr rfl) ?_;simp only[wx,seval,iteOmega,toNatUp,e7,g7];refine bM (oZ G _ 7 (by decide) (by decide)) rfl (.inr rfl) ?_;simp only[wx,seval];refine bM (oZ G _ 18 (by decide) (by decide)) rfl (.inr rfl) ?_;have h1:16+n<(dk b n++List.replicate (48-n) 0).length:=by rw[apS,hl,aqo]; omega
      have h2:=yc (dk b n) 0 (pz (dk b n) (16+n)) (48-n) (by omega);rw[hl] at h2;have h4:48-n-1=48-(n+1):=by omega
      have h3:dk b n++[pz (dk b n) (16+n)]=dk b (n+1):=rfl;rw[h3,h4] at h2;simp only[pz,pm,pn] at h2;simp only[wx,aa,seval,iteOmega,toNatUp,e16,e0,g16,Ce h1 (ze _),Cf,h2];refine bA (n+1) (by omega) (by omega) (aR id ?_ ?_ rfl rfl) <;> simp only[wx,aH,seval]
     ·have hn48:n=48:=by omega
      have h0:48-n=0:=by omega
      obtain⟨h0',h1,h2,h3,h4,h5,h6,h7,rfl⟩:=eight hh;simp only[EV,JV,wx,seval,iteOmega,toNatUp,h0,aro,← Ox b n hn48];refine bO (zF [h0',h1,h2,h3,h4,h5,h6,h7] b) (fun n=>64-n) (fun n=>n≤64) 0 (apZ _) ?_ ?_
      ·refine aR id ?_ ?_ rfl rfl <;> simp only[wx,aH,seval];exact⟨rfl,rfl,rfl,rfl,rfl,rfl,rfl,rfl⟩
      ·clear hn hlt hn48 h0;intro n hn;by_cases hlt:n<64
       ·have e1:IntKind.i64.wrap ((n:Int)+1)=((n+1:Nat):Int):=by rw[IntWalk.i64_in _ (by omega)]; rfl
        have g1:(cy.map wD)[n]?=some (wD (cy.getD n 0)):=by rw[bc,getD_some (by omega)]; rfl
        have g2:((fS b).map wD)[n]?=some (wD ((fS b).getD n 0)):=by rw[bc,getD_some (by omega)]; rfl
        have hr:(cJ.of [h0',h1,h2,h3,h4,h5,h6,h7]).rounds cy (fS b) (n+1)=((cJ.of [h0',h1,h2,h3,h4,h5,h6,h7]).rounds cy (fS b) n).step (cy.getD n 0) ((fS b).getD n 0):=rfl;generalize hs:(cJ.of [h0',h1,h2,h3,h4,h5,h6,h7]).rounds cy (fS b) n=s at hr;simp only[EW,zF,Da,hs,wx,seval,iteOmega];refine bM (oZ G _ 6 (by decide) (by decide)) rfl (.inr rfl) ?_;simp only[wx,seval];refine bM (oZ G _ 11 (by decide) (by decide)) rfl (.inr rfl) ?_;simp only[wx,seval];refine bM (oZ G _ 25 (by decide) (by decide)) rfl (.inr rfl) ?_;simp only[wx,seval,iteOmega,toNatUp,g1,g2,hcl];refine bM (oZ G _ 2 (by decide) (by decide)) rfl (.inr rfl) ?_;simp only[wx,seval];refine bM (oZ G _ 13 (by decide) (by decide)) rfl (.inr rfl) ?_;simp only[wx,seval];refine bM (oZ G _ 22 (by decide) (by decide)) rfl (.inr rfl) ?_;simp only[wx,seval,e1];refine bA (n+1) (by omega) (by omega) ?_;rw[zF,hr];refine (aR id ?_ ?_ rfl rfl) <;> simp only[wx,aH,seval,Sm,Sn,Sp,Sq,Sr,Ss,Su,Sv];exact⟨rfl,rfl⟩
       ·obtain rfl:n=64:=by omega
        have hK:oc [h0',h1,h2,h3,h4,h5,h6,h7] b=((cJ.of [h0',h1,h2,h3,h4,h5,h6,h7]).rounds cy (fS b) 64).sum [h0',h1,h2,h3,h4,h5,h6,h7]:=rfl;rw[hK];simp only[zF];generalize (cJ.of [h0',h1,h2,h3,h4,h5,h6,h7]).rounds cy (fS b) 64=s;have e8:s.sum [h0',h1,h2,h3,h4,h5,h6,h7]=[cb h0' s.a,cb h1 s.b,cb h2 s.c,cb h3 s.d,cb h4 s.e,cb h5 s.f,cb h6 s.g,cb h7 s.h]:=rfl;simp only[EW,Da,e8,wx,seval,toNatUp];exact iV (id:=1848) (n:=8) (s:=1) (by simp only[wx,seval]) (by simp only[wx,seval] <;> rfl) rfl
def ei (h:List UInt32) (b:List UInt8):Nat→List UInt32
  | 0=>h
  | n+1=>oc (ei h b n) ((b.drop (64*n)).take 64)
theorem te {h:List UInt32} (hh:h.length=8) (b:List UInt8):∀ n,(ei h b n).length=8
  | 0=>hh
  | n+1=>Ff _ _
def iw (rest:List UInt8) (count:Nat):List UInt8:=rest++[128]++List.replicate ((119-rest.length)%64) 0++aG (count*8) 8
def iY (ws:List UInt32):List UInt8:=ws.flatMap fun w=>aG w.toNat 4
def ou (s:List UInt32) (rest:List UInt8) (count:Nat):List UInt8:=iY (ei s (iw rest count) ((iw rest count).length / 64))
def dN (b:List UInt8):List UInt8:=ou (ei dY b (b.length / 64)) (b.drop (64*(b.length / 64))) b.length
theorem Am:∀ ws:List UInt32,(iY ws).length=4*ws.length
  | []=>rfl
  | w::ws=>by
    have:iY (w::ws)=aG w.toNat 4++iY ws:=rfl;rw[this,apS,bS,Am ws,aqx]; omega
theorem abJ {s:List UInt32} (hs:s.length=8) (rest:List UInt8) (count:Nat):(ou s rest count).length=32:=by
  unfold ou;rw[Am,te hs]
theorem k9 (b:List UInt8):(dN b).length=32:=abJ (te xO _ _) _ _
theorem YQ (n:Nat):aG 0 n=List.replicate n 0:=by
  unfold aG;apply aq2;intro i;simp only[aqH,List.getElem?_replicate];by_cases h:i<n
  ·simp[h]
  ·simp[h]
theorem OB (rest:List UInt8) (count:Nat) (h:rest.length<64):(iw rest count).length=rest.length+9+(119-rest.length)%64∧(iw rest count).length%64=0:=by
  have:(iw rest count).length=rest.length+9+(119-rest.length)%64:=by simp[iw,bS]; omega
  exact⟨this,by omega⟩
theorem LH (ws:List UInt32) (k:Nat) (h:k<ws.length):iY (ws.take k)++aG (ws.getD k 0).toNat 4=iY (ws.take (k+1)):=by
  rw[aqT h];unfold iY;rw[arn];simp[h]
theorem YR {ws:List UInt32} {k:Nat} (h:k<ws.length):((ws.map wD).map C.d)[k]?=some (.d (wD (ws.getD k 0))):=by
  simp[h]
theorem VN (b:List UInt8) (n:Nat):(b.drop (64*n)).drop 64=b.drop (64*(n+1)):=by rw[arx,Nat.mul_succ]
def Db (s:List UInt32) (b:List UInt8) (n:Nat):St:=⟨bw [(1,.w (.c (.d (.sl ((b.drop (64*n)).map bD))))),(2,.w (.c (.pa 1 1))),(4,.w (.c (.pa 2 1))),(5,.w (.c .nil))],hL [(1,.row 1 ((ei s b n).map wD)),(2,.row 1 ((List.replicate 8 (0:UInt32)).map wD))],uL [1,2]⟩
def EX:bp := .seq (ae [oM 6 1,bd 7 6,ak .geq 8 7 64] (ar 8 .skip (.exit 0))) (.block 1 (ae [bn 9 8 2,oM 10 1,oO 11 (.slice 1 (.t 10) none (some (kI 64)) none),ct 12 180 9 11,aS 8 2 12] (.reg [oM 13 1,oO 14 (.slice 1 (.t 13) (some (kI 64)) none none),oM 1 14])))
def MW:aO:=⟨2,17,ae [oO 2 (.box .ownArr (.t 0)),oO 4 (.allocArr [aw,aw,aw,aw,aw,aw,aw,aw]),aQ 5] (.seq (.block 0 (.loop EX)) (ae [bn 15 8 2,oM 16 1,aS 8 4 15,oM 5 16] .ret)),[(4,(some (.ag 8))),(5,none)]⟩
theorem YS:aM Tryz.prog { own:=[2] } Tryz.f166=some MW:=by kernel_rfl
theorem OC (G:au) (hG:G.at 1=some (.ra (cy.map wD))) (s:List UInt32) (b:List UInt8) (hs:s.length=8) (hb:b.length≤140737488355328):aF Tryz.prog G 166 [.agg (s.map wD),.sl (b.map bD)] (.tup [.c (.d (.agg ((ei s b (b.length / 64)).map wD))),.c (.d (.sl ((b.drop (64*(b.length / 64))).map bD)))]):=by
  refine aX Tryz.func166 YS rfl rfl ?_;simp only[MW,ai,wx,seval];refine bO (Db s b) (fun n=>b.length / 64-n) (fun n=>n≤b.length / 64) 0 (apZ _) ?_ ?_
  ·refine aR (fun i=>match i with | 1=>16 | _=>32) ?_ ?_ rfl rfl <;> simp only[wx,aH,seval,ei];rfl
  ·intro n hn;have hl:=te hs b n;by_cases hlt:n<b.length / 64
   ·have h1:(64:Int)≤((b.drop (64*n)).length:Int):=by rw[ap5]; omega
    have h2:((b.drop (64*n)).take 64).length=64:=by rw[ap0,ap5]; omega
    have e1:=VN b n;simp only[EX,Db,wx,seval,iteOmega,toNatUp,hl,h1];refine bM (aeP G hG (ei s b n) ((b.drop (64*n)).take 64) hl h2) rfl (.inl rfl) ?_;have e2:(oc (ei s b n) ((b.drop (64*n)).take 64)).length=8:=Ff _ _;have e3:(b.drop (64*n)).length-64=((b.drop (64*(n+1)))).length:=by rw[ap5,ap5]; omega
    simp only[wx,aa,seval,iteOmega,toNatUp,hl,e2,e1,e3];refine bA (n+1) (by omega) (by omega) (aR id ?_ ?_ rfl rfl) <;> simp only[wx,aH,seval,ei]
   ·obtain rfl:n=b.length / 64:=by omega
    have h1:¬ (64:Int)≤((b.drop (64*(b.length / 64))).length:Int):=by rw[ap5]; omega
    simp only[EX,Db,wx,aa,seval,hl,h1];exact eM (by simp only[wx,seval,hl]) (by simp only[wx,seval])
def JW (ws:List UInt32) (k:Nat):St:=⟨bw [(9,.w (.c (.own 1 1 0 (iY (ws.take k)).length))),(36,.w (.c (.d (.agg (ws.map wD))))),(37,.w (.c (.d (.int .i64 (k:Int)))))],hL [(1,.row 1 ((iY (ws.take k)).map bD))],uL [1]⟩
def Gx:bp := ae [ak .lss 38 37 8] (.seq (ar 38 .skip (.exit 0)) (.seq (.block 1 (ae [oO 39 (.idxArr 1 8 .sc (.t 36) (.t 37)),oM 11 39] (.reg [oM 40 9,oM 41 11,oO 42 (.conv .u64 (.t 41)),oO 43 (.call 62 [(.t 42),(kI 4)] none),oO 44 (.app false 1 1 (.t 40) (.t 43)),oM 9 44]))) (.reg [ak .add 45 37 1,oM 37 45])))
def Sw:aO:=⟨3,47,ae [oO 3 (.box .ownArr (.t 0)),aQ 6] (ae [oO 12 (.bldSl false 1 1 aj [(0,(.k (.c (.d (.int .u8 128)))))]),oM 7 12] (ae [oM 13 7,bd 14 13,oO 15 (.bin .sub (kI 120) (.t 14)),oM 16 1,bd 17 16,aU .sub 18 15 17,ak .rem 19 18 64,oM 8 19] (ae [bn 21 8 3,oM 22 1,oM 23 7,oM 24 8,oO 25 (.call 62 [(.k (.c aW)),(.t 24)] none),oM 26 2,oO 27 (.conv .u64 (.t 26)),oO 28 (.bin .mul (.t 27) (.k (.c (.d (.int .u64 8))))),oO 29 (.call 62 [(.t 28),(kI 8)] none),oO 30 (.bldSl false 4 1 (.sl []) [(0,(.t 22)),(1,(.t 23)),(2,(.t 25)),(3,(.t 29))]),aY 31 35 30,ct 32 166 21 31,oM 20 32,aC 33 20 0,aC 34 20 1,aS 8 3 33] (ae [oO 35 (.make true 1 1 aj (kI 0) (kI 32)),oM 9 35] (.seq (ae [bn 36 8 3,am 37 0] (.block 0 (.loop Gx))) (ae [oM 46 9,oM 6 46] .ret)))))),[(6,none)]⟩
theorem ajM:aM Tryz.prog { own:=[3] } Tryz.f167=some Sw:=by kernel_rfl
theorem anD (G:au) (hG:G.at 1=some (.ra (cy.map wD))) (s:List UInt32) (rest:List UInt8) (count:Nat) (hs:s.length=8) (hr:rest.length<64) (hc:count≤140737488355328):aF Tryz.prog G 167 [.agg (s.map wD),.sl (rest.map bD),.int .i64 (count:Int)] (.w (.c (.fr 1 ((ou s rest count).map bD)))):=by
  refine aX Tryz.func167 ajM rfl rfl ?_;have e3:(119-(rest.length:Int)).tmod 64=(((119-rest.length)%64:Nat):Int):=by
    rw[show (119-(rest.length:Int))=((119-rest.length:Nat):Int) by omega]; rfl
  simp only[Sw,ai,af,seval,iteOmega,hs,e3];have hz:(119-rest.length)%64≤64:=by omega
  refine bM (rU G 0 ((119-rest.length)%64) hz) rfl (.inl rfl) ?_;simp only[af,seval,iteOmega];refine bM (rU G (count*8) 8 (by decide)) ?_ (.inl rfl) ?_
  ·simp only[af,seval]
  obtain⟨hp1,hp2⟩:=OB rest count hr;have hp:[rest,[128],aG 0 ((119-rest.length)%64),aG (count*8) 8].flatten=iw rest count:=by
    rw[YQ]; simp[iw]
  have hj:=dT G [rest,[128],aG 0 ((119-rest.length)%64),aG (count*8) 8] (by simp) (by rw[hp,hp1]; omega);rw[hp] at hj;simp only[af,seval];refine bM hj rfl (.inl rfl) ?_;simp only[af,seval];refine bM (OC G hG s (iw rest count) hs (by rw[hp1]; omega)) rfl (.inl rfl) ?_;have hw:(ei s (iw rest count) ((iw rest count).length / 64)).length=8:=te hs _ _;have hf:ou s rest count=iY (ei s (iw rest count) ((iw rest count).length / 64)):=rfl;rw[hf];generalize ei s (iw rest count) ((iw rest count).length / 64)=ws at hw;simp only[af,aa,seval,toNatUp,hs,hw];refine bO (JW ws) (fun k=>8-k) (fun k=>k≤8) 0 (apZ _) ?_ ?_
  ·refine aR (fun _=>280) ?_ ?_ rfl rfl <;> simp only[wx,aH,seval,iY]
  ·intro k hk;by_cases hlt:k<8
   ·have hw1:(ws.getD k 0).toNat<4294967296:=word_lt _;have hwl:=Am (ws.take k);rw[ap0] at hwl;simp only[Gx,JW,af,seval,iteOmega,toNatUp,YR (show k<ws.length by omega)];refine bM (rU G (ws.getD k 0).toNat 4 (by decide)) ?_ (.inl rfl) ?_
    ·simp only[af,seval]
    simp only[af,seval,iteOmega,cg,LH ws k (by omega),bS];refine bA (k+1) (by omega) (by omega) (aR (fun _=>352) ?_ ?_ rfl rfl) <;> simp only[wx,aH,aV,seval]
   ·obtain rfl:k=8:=by omega
    have:ws.take 8=ws:=apX (by omega);simp only[Gx,JW,af,seval,this];exact iV (id:=1) (n:=(iY ws).length) (s:=1) (by simp only[wx,seval]) (by simp only[wx,seval]) (by rw[ap1])
def Sx:aO:=⟨1,16,ae [aQ 2] (ae [oO 6 (.load (.ag 8) (.g 0)),oM 7 0,ct 8 166 6 7,oM 5 8,aC 9 5 0,aC 10 5 1,oO 3 (.allocArr [aw,aw,aw,aw,aw,aw,aw,aw]),aS 8 3 9,oM 4 10] (ae [bn 11 8 3,oM 12 4,oM 13 0,bd 14 13,oO 15 (.call 167 [(.t 11),(.t 12),(.t 14)] (some (0,1))),oM 2 15] .ret)),[(2,none)]⟩
theorem ajN:aM Tryz.prog { own:=[15] } Tryz.f152=some Sx:=by kernel_rfl
theorem Dc (G:au) (hF:G.at 0=some (.ra (dY.map wD))) (hG:G.at 1=some (.ra (cy.map wD))) (b:List UInt8) (hb:b.length≤140737488355328):aF Tryz.prog G 152 [.sl (b.map bD)] (.w (.c (.fr 1 ((dN b).map bD)))):=by
  refine aX Tryz.func152 ajN rfl rfl ?_;have eg:=@Vq G 0 _ hF;have hl:(ei dY b (b.length / 64)).length=8:=te xO _ _;have h8:dY.length=8:=xO;simp only[Sx,ai,af,seval,eg,h8];refine bM (OC G hG dY b xO hb) rfl (.inl rfl) ?_;simp only[af,aa,seval,hl];refine bM (anD G hG _ (b.drop (64*(b.length / 64))) b.length hl (by rw[ap5]; omega) hb) ?_ (.inl rfl) ?_
  ·simp only[af,seval]
  simp only[af,seval];exact iV (id:=120) (n:=(ou (ei dY b (b.length / 64)) (b.drop (64*(b.length / 64))) b.length).length) (s:=1) (by simp only[wx,seval]) (by simp only[wx,seval] <;> rfl) (by rw[ap1]; rfl)
theorem abK {α:Type} (a:α) (j:Nat):List.replicate j a++[a]=List.replicate (j+1) a:=by rw[ary]
def JX (h:List UInt32) (rest:List UInt8) (count:Nat) (j:Nat):St:=⟨bw [(0,.w (.c (.d (.sl (h.map wD))))),(2,.w (.c (.d (.int .i64 (count:Int))))),(7,.w (.c (.d (.sl (cy.map wD))))),(8,.w (.c (.own 1 1 0 (rest++[128]++List.replicate j 0).length)))],hL [(1,.row 1 ((rest++[128]++List.replicate j 0).map bD))],uL [1]⟩
def JY (h:List UInt32) (p:List UInt8) (n:Nat):St:=⟨bw [(0,.w (.c (.d (.sl ((ei h p n).map wD))))),(7,.w (.c (.d (.sl (cy.map wD))))),(8,.w (.c (.own 1 1 0 p.length))),(9,.w (.c (.d (.int .i64 ((64*n:Nat):Int)))))],hL [(1,.row 1 (p.map bD))],uL [1]⟩
def JZ (ws:List UInt32) (k:Nat):St:=⟨bw [(0,.w (.c (.d (.sl (ws.map wD))))),(10,.w (.c (.own 1 1 0 (iY (ws.take k)).length))),(11,.w (.c (.d (.int .i64 (k:Int)))))],hL [(1,.row 1 ((iY (ws.take k)).map bD))],uL [1]⟩
theorem ajO {ws:List UInt32} {k:Nat} (h:k<ws.length):(ws.map wD)[k]?=some (wD (ws.getD k 0)):=by
  simp[h]
theorem anF:D.int .u8 0=bD 0:=rfl
theorem aeQ:D.int .u8 128=bD 128:=rfl
theorem Ul (l:List UInt8) (a:UInt8):l.map bD++[bD a]=(l++[a]).map bD:=by simp
def FJ:bp := .seq (ae [oM 18 8,bd 19 18,ak .rem 20 19 64,ak .neq 21 20 56] (ar 21 .skip (.exit 0))) (.block 1 (.reg [oM 22 8,oO 23 (.bldSl false 1 1 aj [(0,(.k (.c (.d aj))))]),oO 24 (.app false 1 1 (.t 22) (.t 23)),oM 8 24]))
def FK:bp := .seq (ae [oM 31 9,oM 32 8,bd 33 32,aU .lss 34 31 33] (ar 34 .skip (.exit 2))) (.seq (.block 3 (.reg [oM 37 0,oM 38 7,oM 39 8,oM 40 9,oM 41 9,ak .add 42 41 64,oO 43 (.slice 1 (.t 39) (some (.t 40)) (some (.t 42)) none),gq 44 86 37 38 43,oM 0 44])) (.reg [oM 35 9,ak .add 36 35 64,oM 9 36]))
def FL:bp := .seq (ae [oM 46 11,ak .lss 47 46 8] (ar 47 .skip (.exit 4))) (.seq (.block 5 (.reg [oM 50 10,oM 51 0,oM 52 11,bU 53 1 51 52,aA 54 53,oO 55 (.conv .u64 (.t 54)),oO 56 (.call 38 [(.t 55),(kI 4)] none),oO 57 (.app false 1 1 (.t 50) (.t 56)),oM 10 57])) (.reg [oM 48 11,ak .add 49 48 1,oM 11 49]))
def Qt:aO:=⟨3,59,ae [aQ 6] (ae [oO 12 (.call 85 [] none),oM 7 12] (ae [oM 13 1,oO 14 (.bldSl false 1 1 (.sl []) [(0,(.t 13))]),oO 15 (.call 37 [(.t 14)] (some (0,1))),oO 16 (.bldSl false 1 1 aj [(0,(.k (.c (.d (.int .u8 128)))))]),oO 17 (.app false 1 1 (.t 15) (.t 16)),oM 8 17] (.seq (.block 0 (.loop FJ)) (ae [oM 25 8,oM 26 2,oO 27 (.conv .u64 (.t 26)),oO 28 (.bin .mul (.t 27) (.k (.c (.d (.int .u64 8))))),oO 29 (.call 38 [(.t 28),(kI 8)] none),oO 30 (.app false 1 1 (.t 25) (.t 29)),oM 8 30] (.seq (ae [am 9 0] (.block 2 (.loop FK))) (ae [oO 45 (.bldSl true 0 1 aj []),oM 10 45] (.seq (ae [am 11 0] (.block 4 (.loop FL))) (ae [oM 58 10,oM 6 58] .ret)))))))),[(6,none)]⟩
theorem aeR:aM Tryz.prog { own:=[15,45] } Tryz.f87=some Qt:=by kernel_rfl
theorem ajP (G:au) (s:List UInt32) (rest:List UInt8) (count:Nat) (hs:s.length=8) (hr:rest.length<64) (hc:count≤140737488355328):aF Tryz.prog G 87 [.sl (s.map wD),.sl (rest.map bD),.int .i64 (count:Int)] (.w (.c (.fr 1 ((ou s rest count).map bD)))):=by
  refine aX Tryz.func87 aeR rfl rfl ?_;have hj:=vp G [rest] (by simp) (by simp; omega);have hf:[rest].flatten=rest:=by simp
  rw[hf] at hj;obtain⟨hp1,hp2⟩:=OB rest count hr;simp only[Qt,ai,af,seval];refine bM (Sk G) rfl (.inl rfl) ?_;simp only[af,seval];refine bM hj rfl (.inl rfl) ?_;simp only[af,seval,iteOmega,cg,aeQ,Ul];refine bO (JX s rest count) (fun j=>(119-rest.length)%64-j) (fun j=>j≤(119-rest.length)%64) 0 (apZ _) ?_ ?_
  ·refine aR (fun _=>136) ?_ ?_ rfl rfl <;> simp only[wx,aH,seval]
  ·intro j hj;have hl:(rest++[128]++List.replicate j 0).length=rest.length+1+j:=by simp; omega
   have ht:((rest++[128]++List.replicate j 0).length:Int).tmod 64=(((rest.length+1+j)%64:Nat):Int):=by rw[hl]; rfl
   by_cases hlt:j<(119-rest.length)%64
   ·have e1:rest++[128]++List.replicate j 0++[0]=rest++[128]++List.replicate (j+1) 0:=by
      rw[ap6,abK]
    generalize hx:rest++[128]++List.replicate j 0=x at *
    simp only[FJ,JX,hx,af,seval,iteOmega,ht,cg,anF,Ul,e1];refine bA (j+1) (by omega) (by omega) (aR (fun _=>192) ?_ ?_ rfl rfl) <;> simp only[wx,aH,seval]
   ·obtain rfl:j=(119-rest.length)%64:=by omega
    generalize hx:rest++[128]++List.replicate ((119-rest.length)%64) 0=x at *
    simp only[FJ,JX,hx,af,seval,iteOmega,ht];refine bM (Bv G (count*8) 8 (by decide)) ?_ (.inl rfl) ?_
    ·simp only[af,seval]
    have hx2:x++aG (count*8) 8=iw rest count:=by rw[← hx]; rfl
    simp only[af,seval,iteOmega,cg,hx2,bS];refine bO (JY s (iw rest count)) (fun n=>(iw rest count).length / 64-n) (fun n=>n≤(iw rest count).length / 64) 0 (apZ _) ?_ ?_
    ·refine aR (fun _=>240) ?_ ?_ rfl rfl <;> simp only[wx,aH,seval,ei]
    ·generalize hpk:iw rest count=p at *
     intro n hn;have hl8:=te hs p n;by_cases hlt:n<p.length / 64
     ·have h2:((p.drop (64*n)).take 64).length=64:=by rw[ap0,ap5]; omega
      have e1:64*n+64-64*n=64:=by omega
      simp only[FK,JY,af,seval,iteOmega,toNatUp];refine bM (OA G (ei s p n) ((p.drop (64*n)).take 64) hl8 h2) ?_ (.inr (apq _ _)) ?_
      ·simp only[af,seval,iteOmega,fZ,e1]
      simp only[af,seval,iteOmega];have e2:64*(n:Int)+64=64*((n:Int)+1):=by omega
      refine bA (n+1) (by omega) (by omega) (aR id ?_ ?_ rfl rfl) <;> simp only[wx,aH,aV,seval,ei,e2]
     ·obtain rfl:n=p.length / 64:=by omega
      have hfk:ou s rest count=iY (ei s p (p.length / 64)):=by unfold ou; rw[hpk]
      rw[hfk];simp only[JY];generalize ei s p (p.length / 64)=ws at hl8;have h64:¬ ((64*(p.length / 64):Nat):Int)<(p.length:Int):=by omega
      simp only[FK,af,seval,iteOmega];refine bO (JZ ws) (fun k=>8-k) (fun k=>k≤8) 0 (apZ _) ?_ ?_
      ·refine aR (fun _=>360) ?_ ?_ rfl rfl <;> simp only[wx,aH,seval,iY]
      ·intro k hk;by_cases hlt:k<8
       ·have hw1:(ws.getD k 0).toNat<4294967296:=word_lt _;have hwl:=Am (ws.take k);rw[ap0] at hwl;simp only[FL,JZ,af,seval,iteOmega,toNatUp,ajO (show k<ws.length by omega)];refine bM (Bv G (ws.getD k 0).toNat 4 (by decide)) ?_ (.inl rfl) ?_
        ·simp only[af,seval]
        simp only[af,seval,iteOmega,cg,LH ws k (by omega),bS];refine bA (k+1) (by omega) (by omega) (aR (fun _=>456) ?_ ?_ rfl rfl) <;> simp only[wx,aH,aV,seval]
       ·obtain rfl:k=8:=by omega
        have:ws.take 8=ws:=apX (by omega);simp only[FL,JZ,af,seval,this];exact iV (id:=1) (n:=(iY ws).length) (s:=1) (by simp only[wx,seval]) (by simp only[wx,seval]) (by rw[ap1])
def KS (b:List UInt8) (n:Nat):St:=⟨bw [(0,.w (.c (.d (.sl (b.map bD))))),(3,.w (.c (.d (.sl ((ei dY b n).map wD))))),(4,.w (.c (.d (.sl (cy.map wD))))),(5,.w (.c (.d (.int .i64 ((64*(b.length / 64):Nat):Int))))),(6,.w (.c (.d (.int .i64 ((64*n:Nat):Int)))))],hL [],uL []⟩
def FM:bp := .seq (ae [oM 13 6,oM 14 5,aU .lss 15 13 14] (ar 15 .skip (.exit 0))) (.seq (.block 1 (.reg [oM 18 3,oM 19 4,oM 20 0,oM 21 6,oM 22 6,ak .add 23 22 64,oO 24 (.slice 1 (.t 20) (some (.t 21)) (some (.t 23)) none),gq 25 86 18 19 24,oM 3 25])) (.reg [oM 16 6,ak .add 17 16 64,oM 6 17]))
def Qu:aO:=⟨1,33,ae [aQ 2] (ae [oO 7 (.call 84 [] none),oO 8 (.call 85 [] none),oM 3 7,oM 4 8] (ae [oM 9 0,bd 10 9,ak .quo 11 10 64,ak .mul 12 11 64,oM 5 12] (.seq (ae [am 6 0] (.block 0 (.loop FM))) (ae [oM 26 3,oM 27 0,oM 28 5,oO 29 (.slice 1 (.t 27) (some (.t 28)) none none),oM 30 0,bd 31 30,oO 32 (.call 87 [(.t 26),(.t 29),(.t 31)] (some (0,1))),oM 2 32] .ret)))),[(2,none)]⟩
theorem aeS:aM Tryz.prog { own:=[32] } Tryz.f36=some Qu:=by kernel_rfl
theorem yL (G:au) (b:List UInt8) (hb:b.length≤140737488355328):aF Tryz.prog G 36 [.sl (b.map bD)] (.w (.c (.fr 1 ((dN b).map bD)))):=by
  refine aX Tryz.func36 aeS rfl rfl ?_;have e1:(b.length:Int).tdiv 64=((b.length / 64:Nat):Int):=rfl;have e2:((b.length / 64:Nat):Int)*64=((64*(b.length / 64):Nat):Int):=by omega
  have e3:IntKind.i64.wrap ((64*(b.length / 64):Nat):Int)=((64*(b.length / 64):Nat):Int):=IntWalk.i64_in _ (by omega);have e4:IntKind.i64.wrap ((b.length / 64:Nat):Int)=((b.length / 64:Nat):Int):=IntWalk.i64_in _ (by omega);simp only[Qu,ai,wx,seval];refine bM (ajL G) rfl (.inl rfl) ?_;simp only[wx,seval];refine bM (Sk G) rfl (.inl rfl) ?_;simp only[wx,seval,e1,e2,e3,e4];refine bO (KS b) (fun n=>b.length / 64-n) (fun n=>n≤b.length / 64) 0 (apZ _) ?_ ?_
  ·refine aR id ?_ ?_ rfl rfl <;> simp only[wx,aH,seval,ei]
  ·intro n hn;have hl8:=te xO b n;by_cases hlt:n<b.length / 64
   ·have h2:((b.drop (64*n)).take 64).length=64:=by rw[ap0,ap5]; omega
    have e1:64*n+64-64*n=64:=by omega
    have e5:IntKind.i64.wrap (((64*n:Nat):Int)+64)=((64*(n+1):Nat):Int):=by rw[IntWalk.i64_in _ (by omega)]; omega
    have e6:64*(n+1)-64*n=64:=by omega
    simp only[FM,KS,wx,seval,iteOmega,toNatUp,e5,e6];refine bM (OA G (ei dY b n) ((b.drop (64*n)).take 64) hl8 h2) ?_ (.inl rfl) ?_
    ·simp only[wx,seval]
    simp only[wx,seval,e5];refine bA (n+1) (by omega) (by omega) (aR id ?_ ?_ rfl rfl) <;> simp only[wx,aH,seval,ei]
   ·obtain rfl:n=b.length / 64:=by omega
    have e1:List.take (b.length-64*(b.length / 64)) (b.drop (64*(b.length / 64)))=b.drop (64*(b.length / 64)):=apX (by rw[ap5]; exact ap3 _);simp only[FM,KS,wx,seval,iteOmega,toNatUp,e1];refine bM (ajP G (ei dY b (b.length / 64)) (b.drop (64*(b.length / 64))) b.length hl8 (by rw[ap5]; omega) hb) ?_ (.inl rfl) ?_
    ·simp only[wx,seval]
    simp only[wx,seval];exact iV (id:=256) (n:=(ou (ei dY b (b.length / 64)) (b.drop (64*(b.length / 64))) b.length).length) (s:=1) (by simp only[wx,seval]) (by simp only[wx,seval] <;> rfl) (by rw[ap1]; rfl)

def lR (v m:Int):Int:=if m<1 then 0 else v%m
theorem Ae (v m:Int) (h:1≤m):0≤lR v m∧lR v m<m:=by
  unfold lR;rw[if_neg (by omega)];exact⟨arN _ (by omega),Int.emod_lt_of_pos _ (by omega)⟩
theorem abL {v m:Int} (hm:0<m) (h:v.tmod m<0):v.tmod m+m=v%m:=by
  have h1:=Int.emod_add_mul_ediv v m;have h2:=Int.tmod_add_mul_tdiv v m;have h3:=arN v (show m≠0 by omega);have h4:=Int.emod_lt_of_pos v hm;have h5:=Int.lt_tmod_of_pos v hm;have e:m*(v.tdiv m-v / m)=v%m-v.tmod m:=by rw[Int.mul_sub]; omega
  have k1:v.tdiv m-v / m=1:=by
    rcases Int.lt_trichotomy (v.tdiv m-v / m) 1 with hlt | heq | hgt
    ·exfalso;have:v.tdiv m-v / m≤0:=by omega
     have:=arQ this (show 0≤m by omega);omega
    ·exact heq
    ·exfalso;have:2≤v.tdiv m-v / m:=by omega
     have:=arQ this (show 0≤m by omega);omega
  rw[k1] at e;omega
theorem abM {v m:Int} (hm:0<m) (h:0≤v.tmod m):v.tmod m=v%m:=by
  have h1:=Int.emod_add_mul_ediv v m;have h2:=Int.tmod_add_mul_tdiv v m;have h3:=arN v (show m≠0 by omega);have h4:=Int.emod_lt_of_pos v hm;have h5:=Int.tmod_lt_of_pos v hm;have e:m*(v.tdiv m-v / m)=v%m-v.tmod m:=by rw[Int.mul_sub]; omega
  have k1:v.tdiv m-v / m=0:=by
    rcases Int.lt_trichotomy (v.tdiv m-v / m) 0 with hlt | heq | hgt
    ·exfalso;have:v.tdiv m-v / m ≤ -1:=by omega
     have:=arQ this (show 0≤m by omega);omega
    ·exact heq
    ·exfalso;have:1≤v.tdiv m-v / m:=by omega
     have:=arQ this (show 0≤m by omega);omega
  rw[k1] at e;omega
def AD:aO:=⟨2,16,ae [am 4 0] (.seq (ae [oM 5 1,ak .lss 6 5 1] (ar 6 (ae [am 4 0] .ret) .skip)) (ae [oM 7 0,oM 8 1,aU .rem 9 7 8,oM 0 9] (.seq (ae [oM 10 0,ak .lss 11 10 0] (ar 11 (.reg [oM 12 0,oM 13 1,aU .add 14 12 13,oM 0 14]) .skip)) (ae [oM 15 0,oM 4 15] .ret)))),[(4,none)]⟩
theorem YT:aM Tryz.prog {} Tryz.f6=some AD:=by kernel_rfl
theorem yd (G:au) (v m:Int) (hm:m≤9223372036854775807):aF Tryz.prog G 6 [.int .i64 v,.int .i64 m] (.w (.c (.d (.int .i64 (lR v m))))):=by
  refine aX Tryz.func6 YT rfl rfl ?_;unfold lR;by_cases h:m<1
  ·rw[if_pos h];simp only[AD,ai,af,seval,iteOmega];exact aZ
  ·rw[if_neg h];have hne:¬ m=0:=by omega
   have h4:=Int.tmod_lt_of_pos v (show 0<m by omega);by_cases hn:v.tmod m<0
   ·have e:=abL (by omega) hn;have h3:=Int.emod_lt_of_pos v (show 0<m by omega);have h5:=arN v (show m≠0 by omega);simp only[AD,ai,af,seval,iteOmega,hne];exact tD (by simp only[af,seval,e])
   ·have e:=abM (v:=v) (show 0<m by omega) (by omega);simp only[AD,ai,af,seval,iteOmega,hne];exact tD (by simp only[af,seval,e])
def tI (s i:Nat):List UInt8:=dN (aG s 8++aG i 4)
def lW (s:Nat) (k:Nat):List UInt8:=((List.range k).map (tI s)).flatten
theorem LI (s k:Nat):lW s k++tI s k=lW s (k+1):=by simp[lW,aqS]
theorem An (s:Nat):∀ k,(lW s k).length=32*k
  | 0=>rfl
  | k+1=>by rw[← LI,apS,An s k]; unfold tI; rw[k9]; omega
def bu (seed n:Int):List UInt8:=(lW (seed%18446744073709551616).toNat ((n.toNat+31) / 32)).take n.toNat
theorem ku (seed n:Int):(bu seed n).length=n.toNat:=by
  unfold bu; rw[ap0,An]; omega
def Dd (seed n:Int) (s:Nat) (k:Nat):St:=⟨bw [(0,.w (.c (.d (.int .i64 seed)))),(1,.w (.c (.d (.int .i64 n)))),(5,.w (.c (.own 1 1 0 (lW s k).length))),(6,.w (.c (.d (.int .i64 (k:Int)))))],hL [(1,.row 1 ((lW s k).map bD))],uL [1]⟩
def Aj:bp := .seq (ae [oM 8 5,bd 9 8,oM 10 1,aU .lss 11 9 10] (ar 11 .skip (.exit 0))) (.seq (.block 1 (.reg [oM 14 5,oM 15 0,oO 16 (.conv .u64 (.t 15)),oO 17 (.call 38 [(.t 16),(kI 8)] none),oM 18 6,oO 19 (.conv .u64 (.t 18)),oO 20 (.call 38 [(.t 19),(kI 4)] none),oO 21 (.bldSl false 2 1 (.sl []) [(0,(.t 17)),(1,(.t 20))]),aY 22 37 21,aY 23 36 22,oO 24 (.app false 1 1 (.t 14) (.t 23)),oM 5 24])) (.reg [oM 12 6,ak .add 13 12 1,oM 6 13]))
def MX:aO:=⟨2,29,ae [aQ 4] (ae [oO 7 (.bldSl true 0 1 aj []),oM 5 7] (.seq (ae [am 6 0] (.block 0 (.loop Aj))) (ae [oM 25 5,oM 26 1,oO 27 (.max [(.t 26),(kI 0)]),oO 28 (.slice 1 (.t 25) none (some (.t 27)) none),oM 4 28] .ret))),[(4,none)]⟩
theorem YU:aM Tryz.prog { own:=[7] } Tryz.f11=some MX:=by kernel_rfl
set_option maxHeartbeats 1600000 in
theorem abN (G:au) (seed n:Int) (hn:n≤1099511627776):aF Tryz.prog G 11 [.int .i64 seed,.int .i64 n] (.w (.c (.fr 1 ((bu seed n).map bD)))):=by
  refine aX Tryz.func11 YU rfl rfl ?_;obtain⟨s,hs⟩:∃ s:Nat,(seed%18446744073709551616).toNat=s:=⟨_,rfl⟩
  have hw:IntKind.u64.wrap seed=(s:Int):=by rw[IntKind.wrap_u64,← hs]; omega
  have hs2:s<18446744073709551616:=by omega
  have hK:bu seed n=(lW s ((n.toNat+31) / 32)).take n.toNat:=by unfold bu; rw[hs]
  rw[hK];simp only[MX,ai,af,seval];refine bO (Dd seed n s) (fun k=>(n.toNat+31) / 32-k) (fun k=>k≤(n.toNat+31) / 32) 0 (apZ _) ?_ ?_
  ·refine aR (fun _=>56) ?_ ?_ rfl rfl <;> simp only[wx,aH,seval] <;> rfl
  ·intro k hk;have hl:=An s k;by_cases hlt:k<(n.toNat+31) / 32
   ·have hc:((lW s k).length:Int)<n:=by omega
    have hj:=vp G [aG s 8,aG k 4] (by simp) (by simp[bS]);have hf:[aG s 8,aG k 4].flatten=aG s 8++aG k 4:=by simp
    rw[hf] at hj;have hb:=LI s k;have hk2:IntKind.u64.wrap (k:Int)=(k:Int):=u64_in _ (by omega) (by omega);simp only[Aj,Dd,wx,seval,iteOmega,hw];refine bM (Bv G s 8 (by decide)) rfl (.inl rfl) ?_;simp only[wx,seval,hk2];refine bM (Bv G k 4 (by decide)) rfl (.inl rfl) ?_;simp only[wx,seval];refine bM hj rfl (.inl rfl) ?_;simp only[wx,seval];refine bM (yL G (aG s 8++aG k 4) (by simp[bS])) rfl (.inl rfl) ?_;have hh:(dN (aG s 8++aG k 4)).length=32:=k9 _;have hb':lW s k++dN (aG s 8++aG k 4)=lW s (k+1):=hb;simp only[af,seval,iteOmega,cg,hb',hh];refine bA (k+1) (by omega) (by omega) (aR (fun _=>192) ?_ ?_ rfl rfl) <;> simp only[wx,aH,aV,seval]
   ·obtain rfl:k=(n.toNat+31) / 32:=by omega
    have hc:¬ ((lW s ((n.toNat+31) / 32)).length:Int)<n:=by omega
    by_cases h0:n<0
    ·have e0:n.toNat=0:=by omega
     simp only[Aj,Dd,af,seval,iteOmega,toNatUp,hc,aq6,arz];rw[e0,List.map_take];exact NP (id:=1) (s:=1) (by simp only[wx,seval]) (by simp only[wx,seval]) (apZ _)
    ·simp only[Aj,Dd,af,seval,iteOmega,hc,aq6,arz];rw[List.map_take];exact NP (id:=1) (s:=1) (by simp only[wx,seval]) (by simp only[wx,seval]) (by rw[ap1,An]; omega)
theorem qj (G:au) (seed n:Int) (hn:n≤1099511627776):aF Tryz.prog G 11 [.int .i64 seed,.int .i64 n] (.w (.c (.d (.sl ((bu seed n).map bD))))):=qw (abN G seed n hn)
def uh (key:List UInt8):List UInt8:=if 64<key.length then dN key else key
def iK (k:List UInt8):List UInt8:=k++List.replicate (64-k.length) 0
def ov (key:List UInt8):List UInt8:=iK (uh key)
def dE (key:List UInt8) (x:UInt8):List UInt8:=(ov key).map fun b=>a9 b x
def mg (key b:List UInt8):List UInt8:=dN (dE key 92++dN (dE key 54++b))
def gI (key info:List UInt8):Nat→List UInt8
  | 0=>[]
  | i+1=>mg key (gI key info i++info++[UInt8.ofNat (i+1)])
def lw (key info:List UInt8):Nat→List UInt8
  | 0=>[]
  | i+1=>lw key info i++gI key info (i+1)
def j5 (key info:List UInt8) (n:Nat):List UInt8:=(lw key info ((n+31) / 32)).take n
def qZ (p n c:List UInt8):List UInt8:=p++[0]++n++[0]++dN c
theorem abO (key:List UInt8):(uh key).length≤64:=by
  unfold uh; split
  ·rw[k9]; decide
  ·omega
theorem qf {k:List UInt8} (h:k.length≤64):(iK k).length=64:=by
  simp[iK]; omega
theorem OD (key:List UInt8):(ov key).length=64:=qf (abO key)
theorem rF (key:List UInt8) (x:UInt8):(dE key x).length=64:=by
  rw[dE,ap1,OD]
theorem u7 (key b:List UInt8):(mg key b).length=32:=k9 _
theorem MY (key info:List UInt8):∀ i,(gI key info i).length≤32
  | 0=>by simp[gI]
  | i+1=>by rw[gI,u7]; exact ap3 _
theorem u9 (key info:List UInt8):∀ i,(lw key info i).length=32*i
  | 0=>rfl
  | i+1=>by rw[lw,apS,u9 key info i,gI,u7]; omega
theorem yf (key info:List UInt8) (n:Nat):(j5 key info n).length=n:=by
  rw[j5,ap0,u9]; omega
theorem abP (p n c:List UInt8):(qZ p n c).length=p.length+n.length+34:=by
  simp[qZ,k9]; omega
theorem OE {k:List UInt8} (l:List D) (hl:l=List.replicate 64 (D.int .u8 0)):k.map bD++l.drop k.length=(iK k).map bD:=by
  subst hl;unfold iK;rw[List.drop_replicate,ap8,JF]
theorem OG {k:List UInt8} (hk:k.length≤64) (l:List D) (hl:l=List.replicate 64 (D.int .u8 0)):k.length+(l.drop k.length).length=64:=by
  subst hl;rw[List.drop_replicate,aqo]; omega
def Gy:aO:=⟨1,13,ae [oO 2 (.allocArr [aj,aj,aj,aj,aj,aj,aj,aj,aj,aj,aj,aj,aj,aj,aj,aj,aj,aj,aj,aj,aj,aj,aj,aj,aj,aj,aj,aj,aj,aj,aj,aj,aj,aj,aj,aj,aj,aj,aj,aj,aj,aj,aj,aj,aj,aj,aj,aj,aj,aj,aj,aj,aj,aj,aj,aj,aj,aj,aj,aj,aj,aj,aj,aj])] (.seq (ae [oM 4 0,bd 5 4,ak .gtr 6 5 64] (ar 6 (.reg [oM 7 0,aY 8 152 7,oM 0 8]) .skip)) (ae [oO 3 (.allocArr [aj,aj,aj,aj,aj,aj,aj,aj,aj,aj,aj,aj,aj,aj,aj,aj,aj,aj,aj,aj,aj,aj,aj,aj,aj,aj,aj,aj,aj,aj,aj,aj,aj,aj,aj,aj,aj,aj,aj,aj,aj,aj,aj,aj,aj,aj,aj,aj,aj,aj,aj,aj,aj,aj,aj,aj,aj,aj,aj,aj,aj,aj,aj,aj])] (ae [oO 9 (.sliceArr 1 64 (.t 3) none none),oM 10 0,oO 11 (.copy 1 (.t 9) (.t 10))] (ae [bn 12 64 3,aS 64 2 12] .ret)))),
 [(2,(some (.ag 64)))]⟩
theorem abQ:aM Tryz.prog {} Tryz.f151=some Gy:=by kernel_rfl
theorem aeT (G:au) (hF:G.at 0=some (.ra (dY.map wD))) (hG:G.at 1=some (.ra (cy.map wD))) (key:List UInt8) (hb:key.length≤140737488355328):aF Tryz.prog G 151 [.sl (key.map bD)] (.w (.c (.d (.agg ((ov key).map bD))))):=by
  refine aX Tryz.func151 abQ rfl rfl ?_;by_cases h:64<key.length
  ·have e:ov key=iK (dN key):=by unfold ov uh; rw[if_pos h]
   have hl:=k9 key;rw[e];simp only[Gy,ai,af,seval,iteOmega];refine sD (Dc G hF hG key hb) ?_;generalize dN key=s at *
   have z:=OE (k:=s);have z2:=OG (k:=s) (by omega);have ht:s.take 64=s:=apX (by omega);have hf:(iK s).length=64:=qf (by omega);simp only[af,aa,seval,ht,z,z2,hf];exact tD (by simp only[af,seval,hf])
  ·have e:ov key=iK key:=by unfold ov uh; rw[if_neg h]
   rw[e];have z:=OE (k:=key);have z2:=OG (k:=key) (by omega);have ht:key.take 64=key:=apX (by omega);have hf:(iK key).length=64:=qf (by omega);simp only[Gy,ai,af,aa,seval,iteOmega,ht,z,hf];exact tD (by simp only[af,seval,hf])
def mE (l:List UInt8) (m:UInt8) (i:Nat):List UInt8:=(l.take i).map (fun b=>a9 b m)++l.drop i
theorem YV (l:List UInt8) (m:UInt8) (i:Nat):(mE l m i).length=l.length:=by
  unfold mE; rw[apS,ap1,← apS,aqq]
theorem YW (l:List UInt8) (m:UInt8) (i:Nat) (h:i<l.length):(mE l m i)[i]?=some l[i]:=by
  unfold mE;rw[aql (by rw[ap1,ap0]; omega),aq7,ap1,ap0];rw[show i+(i-min i l.length)=i by omega,apR h]
theorem WY (l:List UInt8) (m:UInt8) (i:Nat) (h:i<l.length):(mE l m i).set i (a9 l[i] m)=mE l m (i+1):=by
  unfold mE;rw[art _ _ (by rw[ap1,ap0]; omega),ap1,ap0,show i-min i l.length=0 by omega,ars h,List.set_cons_zero,aqT h,ap8,ap6];rfl
theorem WZ (l:List UInt8) (m:UInt8):mE l m 0=l:=by simp[mE]
theorem W0 (l:List UInt8) (m:UInt8) (i:Nat) (h:l.length≤i):mE l m i=l.map fun b=>a9 b m:=by
  unfold mE;rw[apX h,aqY h,ap7]
def IM (l:List UInt8) (m:UInt8) (i:Nat):St:=⟨bw [(1,.w (.c (.d (bD m)))),(2,.w (.c (.pa 1 1))),(6,.w (.c (.d (.int .i64 (i:Int)))))],hL [(1,.row 1 ((mE l m i).map bD))],uL [1]⟩
def EY:bp := ae [ak .lss 7 6 64] (.seq (ar 7 .skip (.exit 0)) (.seq (.block 1 (ae [oM 8 6,oM 5 8] (.reg [oM 9 5,oO 10 (.idxPa 1 64 (.t 2) (.t 9)),aA 11 10,oM 12 1,aU .xor 13 11 12,oO 14 (.idxPa 1 64 (.t 2) (.t 9)),d6 14 13]))) (.reg [ak .add 15 6 1,oM 6 15])))
def MZ:aO:=⟨2,17,ae [oO 2 (.box .ownArr (.t 0)),aQ 4] (.seq (ae [am 6 0] (.block 0 (.loop EY))) (ae [oO 16 (.sliceArr 1 64 (.t 2) none none),oM 4 16] .ret)),[(4,none)]⟩
theorem YX:aM Tryz.prog { own:=[2] } Tryz.f153=some MZ:=by kernel_rfl
theorem OH (G:au) (l:List UInt8) (hl:l.length=64) (m:UInt8):aF Tryz.prog G 153 [.agg (l.map bD),bD m] (.w (.c (.fr 1 ((l.map fun b=>a9 b m).map bD)))):=by
  refine aX Tryz.func153 YX rfl rfl ?_;simp only[MZ,ai,af,seval];refine bO (IM l m) (fun i=>64-i) (fun i=>i≤64) 0 (apZ _) ?_ ?_
  ·refine aR (fun _=>16) ?_ ?_ rfl rfl <;> simp only[wx,aH,seval,WZ]
  ·intro i hi;have hm:=YV l m i;by_cases hlt:i<64
   ·have h1:=YW l m i (by omega);have h2:=WY l m i (by omega);have h3:i<(mE l m i).length:=by omega
    simp only[EY,IM,af,aa,seval,iteOmega,toNatUp,bc,h1,kC h3 (jU _),lU,h2];refine bA (i+1) (by omega) (by omega) (aR (fun _=>1) ?_ ?_ rfl rfl) <;> simp only[wx,aH,aV,seval]
   ·obtain rfl:i=64:=by omega
    have h1:=W0 l m 64 (by omega);simp only[EY,IM,af,seval,h1,hl];exact iV (id:=1) (n:=64) (s:=1) (by simp only[wx,seval]) (by simp only[wx,seval]) (by simp[hl])
def Sy:aO:=⟨2,21,ae [aQ 4] (ae [oM 7 0,aY 8 151 7,oO 5 (.allocArr [aj,aj,aj,aj,aj,aj,aj,aj,aj,aj,aj,aj,aj,aj,aj,aj,aj,aj,aj,aj,aj,aj,aj,aj,aj,aj,aj,aj,aj,aj,aj,aj,aj,aj,aj,aj,aj,aj,aj,aj,aj,aj,aj,aj,aj,aj,aj,aj,aj,aj,aj,aj,aj,aj,aj,aj,aj,aj,aj,aj,aj,aj,aj,aj]),aS 64 5 8] (ae [bn 9 64 5,oO 10 (.call 153 [(.t 9),(.k (.c (.d (.int .u8 54))))] none),oM 11 1,oO 12 (.bldSl false 2 1 (.sl []) [(0,(.t 10)),(1,(.t 11))]),aY 13 35 12,aY 14 152 13,oM 6 14] (ae [bn 15 64 5,oO 16 (.call 153 [(.t 15),(.k (.c (.d (.int .u8 92))))] none),oM 17 6,oO 18 (.bldSl false 2 1 (.sl []) [(0,(.t 16)),(1,(.t 17))]),aY 19 35 18,oO 20 (.call 152 [(.t 19)] (some (0,1))),oM 4 20] .ret))),[(4,none)]⟩
theorem ajQ:aM Tryz.prog { own:=[20] } Tryz.f126=some Sy:=by kernel_rfl
theorem anG (G:au) (hF:G.at 0=some (.ra (dY.map wD))) (hG:G.at 1=some (.ra (cy.map wD))) (key b:List UInt8) (hk:key.length≤140737488355328) (hb:b.length≤70368744177664):aF Tryz.prog G 126 [.sl (key.map bD),.sl (b.map bD)] (.w (.c (.fr 1 ((mg key b).map bD)))):=by
  refine aX Tryz.func126 ajQ rfl rfl ?_;have h1:=dT G [dE key 54,b] (by simp) (by simp[rF]; omega);have h2:=dT G [dE key 92,dN (dE key 54++b)] (by simp) (by simp[rF,k9]);have f1:[dE key 54,b].flatten=dE key 54++b:=by simp
  have f2:[dE key 92,dN (dE key 54++b)].flatten=dE key 92++dN (dE key 54++b):=by simp
  rw[f1] at h1;rw[f2] at h2;have hl:=OD key;have hm1:(dE key 54++b).length≤140737488355328:=by rw[apS,rF]; omega
  have hm2:(dE key 92++dN (dE key 54++b)).length≤140737488355328:=by rw[apS,rF,k9]; decide
  have hs:=k9 (dE key 92++dN (dE key 54++b));have hmac:mg key b=dN (dE key 92++dN (dE key 54++b)):=rfl;rw[hmac];simp only[Sy,ai,af,seval];refine sD (aeT G hF hG key hk) ?_;refine sD (OH G (ov key) hl 54) ?_;refine sD (h1) ?_;refine sD (Dc G hF hG _ hm1) ?_;refine sD (OH G (ov key) hl 92) ?_;refine sD (h2) ?_;refine sD (Dc G hF hG _ hm2) ?_;exact iP
def ly (k:List UInt8) (x:UInt8) (i:Nat):List UInt8:=((iK k).take i).map (fun b=>a9 b x)++List.replicate (64-i) 0
theorem abR {k:List UInt8} (hk:k.length≤64) (x:UInt8) (i:Nat) (hi:i≤64):(ly k x i).length=64:=by
  unfold ly;rw[apS,ap1,ap0,qf hk,aqo]; omega
theorem abS {k:List UInt8} (hk:k.length≤64) (x:UInt8) (i:Nat) (hi:i<64):(ly k x i)[i]?=some 0:=by
  unfold ly;rw[aql (by rw[ap1,ap0]; omega),ap1,ap0,qf hk,List.getElem?_replicate,if_pos (by omega)]
theorem M0 {k:List UInt8} (hk:k.length≤64) (x a:UInt8) (i:Nat) (hi:i<64) (ha:(iK k)[i]?=some a):(ly k x i).set i (a9 a x)=ly k x (i+1):=by
  have h:=yc (((iK k).take i).map (fun b=>a9 b x)) 0 (a9 a x) (64-i) (by omega);have hl:(((iK k).take i).map (fun b=>a9 b x)).length=i:=by rw[ap1,ap0,qf hk]; omega
  rw[hl] at h;unfold ly;rw[h,aq3,ha,ap8];rfl
theorem aeU (k:List UInt8) (i:Nat) (h:i<k.length):(iK k)[i]?=some k[i]:=by
  unfold iK;rw[aqM h,apR h]
theorem aeV (k:List UInt8) (i:Nat) (h:k.length≤i) (h2:i<64):(iK k)[i]?=some 0:=by
  unfold iK;rw[aql h,List.getElem?_replicate,if_pos (by omega)]
theorem M1 (k:List UInt8) (x:UInt8):ly k x 0=List.replicate 64 0:=by simp[ly]
theorem YY {k:List UInt8} (hk:k.length≤64) (x:UInt8):ly k x 64=(iK k).map fun b=>a9 b x:=by
  unfold ly;rw[apX (by rw[qf hk]; exact ap3 _),arE,aro,ap7]
def zk (k:List UInt8) (x:UInt8) (i:Nat):St:=⟨bw [(0,.w (.c (.d (.sl (k.map bD))))),(1,.w (.c (.d (bD x)))),(5,.w (.c (.own 1 1 0 64))),(6,.w (.c (.d (.int .i64 (i:Int)))))],hL [(1,.row 1 ((ly k x i).map bD))],uL [1]⟩
def xR:bp := .seq (ae [oM 13 6,ak .lss 14 13 64] (ar 14 .skip (.exit 0))) (.seq (.block 1 (.seq (ae [oM 17 6,oM 18 0,bd 19 18,aU .lss 20 17 19] (ar 20 (.reg [oM 21 5,oM 22 6,oM 23 0,oM 24 6,bU 25 1 23 24,aA 26 25,bU 27 1 21 22,d6 27 26]) .skip)) (.reg [oM 28 5,oM 29 6,oM 30 5,oM 31 6,bU 32 1 30 31,aA 33 32,oM 34 1,aU .xor 35 33 34,bU 36 1 28 29,d6 36 35]))) (.reg [oM 15 6,ak .add 16 15 1,oM 6 16]))
def Gz:aO:=⟨2,38,ae [aQ 4] (.seq (ae [oM 7 0,bd 8 7,ak .gtr 9 8 64] (ar 9 (.reg [oM 10 0,aY 11 36 10,oM 0 11]) .skip)) (ae [oO 12 (.make true 1 1 aj (kI 64) (kI 64)),oM 5 12] (.seq (ae [am 6 0] (.block 0 (.loop xR))) (ae [oM 37 5,oM 4 37] .ret)))),[(4,none)]⟩
theorem abT:aM Tryz.prog {} Tryz.f138=some Gz:=by kernel_rfl
theorem Qv (G:au) (k:List UInt8) (hk:k.length≤64) (x:UInt8) (Q:AX→St→Prop) (σ:St) (he:fv σ (zk k x 0)) (hq:∀ f,f 5=.w (.c (.own 1 1 0 64))→Q (.ex 0) ⟨f,hL [(1,.row 1 (((iK k).map fun b=>a9 b x).map bD))],uL [1]⟩):cE Tryz.prog G (.loop xR) Q σ:=by
  refine bO (zk k x) (fun i=>64-i) (fun i=>i≤64) 0 (apZ _) he ?_;intro i hi;have hl:=abR hk x i hi;by_cases hlt:i<64
  ·have h1:=abS hk x i hlt;have h3:i<(ly k x i).length:=by omega
   by_cases hkl:i<k.length
   ·have h2:=M0 hk x k[i] i hlt (aeU k i hkl);have e2:k[i]?=some k[i]:=apR hkl;have h4:((ly k x i).set i k[i])[i]?=some k[i]:=by rw[List.getElem?_set_self h3]
    have h5:i<((ly k x i).set i k[i]).length:=by rw[arq]; exact h3
    simp only[xR,zk,af,aa,seval,iteOmega,toNatUp,bc,e2,kC h3 (jU _),lU,h4,kC h5 (jU _),List.set_set,h2];refine bA (i+1) (by omega) (by omega) (aR (fun _=>1) ?_ ?_ rfl rfl) <;> simp only[wx,aH,aV,seval]
   ·have h2:=M0 hk x 0 i hlt (aeV k i (by omega) hlt);simp only[xR,zk,af,aa,seval,iteOmega,toNatUp,bc,h1,kC h3 (jU _),lU,h2];refine bA (i+1) (by omega) (by omega) (aR (fun _=>1) ?_ ?_ rfl rfl) <;> simp only[wx,aH,aV,seval]
  ·obtain rfl:i=64:=by omega
   simp only[xR,zk,af,seval,YY hk x];exact hq _ (by simp only[af,seval])
theorem Qw (G:au) (key:List UInt8) (hb:key.length≤140737488355328) (x:UInt8):aF Tryz.prog G 138 [.sl (key.map bD),bD x] (.w (.c (.fr 1 ((dE key x).map bD)))):=by
  refine aX Tryz.func138 abT rfl rfl ?_;by_cases h:64<key.length
  ·have e:dE key x=(iK (dN key)).map fun b=>a9 b x:=by unfold dE ov uh; rw[if_pos h]
   have hl:=k9 key;rw[e];simp only[Gz,ai,af,seval,iteOmega];refine sD (yL G key hb) ?_;generalize dN key=s at *
   refine Qv G s (by omega) x _ _ (aR (fun _=>96) ?_ ?_ rfl rfl) fun f hf=>?_
   ·simp only[wx,aH,seval]
   ·simp only[wx,aH,seval,M1];rfl
   ·simp only[af,seval,hf];exact iV (id:=1) (n:=64) (s:=1) (by simp only[wx,seval]) (by simp only[wx,seval]) (by rw[ap1,ap1,qf (by omega)])
  ·have e:dE key x=(iK key).map fun b=>a9 b x:=by unfold dE ov uh; rw[if_neg h]
   rw[e];simp only[Gz,ai,af,seval,iteOmega,toNatUp];refine Qv G key (by omega) x _ _ (aR (fun _=>96) ?_ ?_ rfl rfl) fun f hf=>?_
   ·simp only[wx,aH,seval]
   ·simp only[wx,aH,seval,M1];rfl
   ·simp only[af,seval,hf];exact iV (id:=1) (n:=64) (s:=1) (by simp only[wx,seval]) (by simp only[wx,seval]) (by rw[ap1,ap1,qf (by omega)])
def Qx:aO:=⟨2,16,ae [aQ 4] (ae [oM 5 0,oO 6 (.call 138 [(.t 5),(.k (.c (.d (.int .u8 92))))] none),oM 7 0,oO 8 (.call 138 [(.t 7),(.k (.c (.d (.int .u8 54))))] none),oM 9 1,oO 10 (.bldSl false 2 1 (.sl []) [(0,(.t 8)),(1,(.t 9))]),aY 11 37 10,aY 12 36 11,oO 13 (.bldSl false 2 1 (.sl []) [(0,(.t 6)),(1,(.t 12))]),aY 14 37 13,oO 15 (.call 36 [(.t 14)] (some (0,1))),oM 4 15] .ret),[(4,none)]⟩
theorem aeW:aM Tryz.prog { own:=[15] } Tryz.f102=some Qx:=by kernel_rfl
theorem Sz (G:au) (key b:List UInt8) (hk:key.length≤140737488355328) (hb:b.length≤70368744177664):aF Tryz.prog G 102 [.sl (key.map bD),.sl (b.map bD)] (.w (.c (.fr 1 ((mg key b).map bD)))):=by
  refine aX Tryz.func102 aeW rfl rfl ?_;have h1:=vp G [dE key 54,b] (by simp) (by simp[rF]; omega);have h2:=vp G [dE key 92,dN (dE key 54++b)] (by simp) (by simp[rF,k9]);have f1:[dE key 54,b].flatten=dE key 54++b:=by simp
  have f2:[dE key 92,dN (dE key 54++b)].flatten=dE key 92++dN (dE key 54++b):=by simp
  rw[f1] at h1;rw[f2] at h2;have hm1:(dE key 54++b).length≤140737488355328:=by rw[apS,rF]; omega
  have hm2:(dE key 92++dN (dE key 54++b)).length≤140737488355328:=by rw[apS,rF,k9]; decide
  have hs:=k9 (dE key 92++dN (dE key 54++b));have hmac:mg key b=dN (dE key 92++dN (dE key 54++b)):=rfl;rw[hmac];simp only[Qx,ai,af,seval];refine sD (Qw G key hk 92) ?_;refine sD (Qw G key hk 54) ?_;refine sD (h1) ?_;refine sD (yL G _ hm1) ?_;refine sD (h2) ?_;refine sD (yL G _ hm2) ?_;exact iP
def Qy:aO:=⟨2,8,ae [aQ 4] (ae [oM 5 0,oM 6 1,oO 7 (.call 102 [(.t 5),(.t 6)] (some (0,1))),oM 4 7] .ret),[(4,none)]⟩
theorem aeX:aM Tryz.prog { own:=[7] } Tryz.f104=some Qy:=by kernel_rfl
theorem ajR (G:au) (key b:List UInt8) (hk:key.length≤140737488355328) (hb:b.length≤70368744177664):aF Tryz.prog G 104 [.sl (key.map bD),.sl (b.map bD)] (.w (.c (.fr 1 ((mg key b).map bD)))):=by
  refine aX Tryz.func104 aeX rfl rfl ?_;simp only[Qy,ai,af,seval];refine sD (Sz G key b hk hb) ?_;exact iP
def sO (n:Int):Int:=if 0≤n∧n≤8160 then 0 else 4
def nE (key info:List UInt8) (n:Int):List UInt8:=if 0≤n∧n≤8160 then j5 key info n.toNat else []
theorem tw {n:Int} (h:0≤n∧n≤8160):sO n=0:=if_pos h
theorem rJ (key info:List UInt8) {n:Int} (h:0≤n∧n≤8160):nE key info n=j5 key info n.toNat:=if_pos h
theorem A5 {n:Int} (h:¬ (0≤n∧n≤8160)):sO n=4:=if_neg h
theorem A6 (key info:List UInt8) {n:Int} (h:¬ (0≤n∧n≤8160)):nE key info n=[]:=if_neg h
def lz (key info:List UInt8) (n i:Nat):List UInt8:=(lw key info i).take n
theorem OI (key info:List UInt8) (n i:Nat):(lz key info n i).length=min n (32*i):=by
  unfold lz; rw[ap0,u9]
theorem YZ (key info:List UInt8) (n i:Nat) (h:32*i≤n):lz key info n i++(gI key info (i+1)).take (n-32*i)=lz key info n (i+1):=by
  unfold lz;rw[lw,List.take_append,u9]
theorem M2 (key info:List UInt8) (i:Nat):mg key (gI key info i++info++[UInt8.ofNat (i+1)])=gI key info (i+1):=rfl
theorem Vr (v:Nat):aG v 1=[UInt8.ofNat v]:=by simp[aG]
def nx (key info:List UInt8):Nat→V
  | 0=>.w (.c .nil)
  | i+1=>.w (.c (.d (.sl ((gI key info (i+1)).map bD))))
theorem Qz (a b:Nat):List.foldl (fun x y:Int=>if y<x then y else x) (a:Int) [(b:Int)]=((min a b:Nat):Int):=by
  simp only[aq6,arz];split <;> omega
def De (key info:List UInt8) (n i:Nat):St:=⟨bw [(0,.w (.c (.d (.sl (key.map bD))))),(1,.w (.c (.d (.sl (info.map bD))))),(2,.w (.c (.d (.int .i64 (n:Int))))),(8,.w (.c (.own 1 1 0 (lz key info n i).length))),(9,nx key info i),(10,.w (.c (.d (.int .u64 ((i+1:Nat):Int)))))],hL [(1,.row 1 ((lz key info n i).map bD))],uL [1]⟩
def A7:bp := .seq (ae [oM 19 8,bd 20 19,oM 21 2,aU .lss 22 20 21] (ar 22 .skip (.exit 0))) (.seq (.block 1 (ae [oM 25 0,oM 26 9,oM 27 1,oM 28 10,oO 29 (.call 62 [(.t 28),(kI 1)] none),oO 30 (.bldSl false 3 1 (.sl []) [(0,(.t 26)),(1,(.t 27)),(2,(.t 29))]),aY 31 35 30,ct 32 126 25 31,oM 9 32] (.reg [oM 33 8,oM 34 9,oM 35 9,bd 36 35,oM 37 2,oM 38 8,bd 39 38,aU .sub 40 37 39,oO 41 (.min [(.t 36),(.t 40)]),oO 42 (.slice 1 (.t 34) none (some (.t 41)) none),oO 43 (.app false 1 1 (.t 33) (.t 42)),oM 8 43]))) (.reg [oM 23 10,oO 24 (.bin .add (.t 23) (.k (.c (.d (.int .u64 1))))),oM 10 24]))
def Cm:aO:=⟨3,45,ae [aQ 6,am 7 0] (.seq (ae [oM 11 2,ak .lss 12 11 0,oM 13 12,bJ 14 2 13 false,cC .gtr 15 14 8160 13 false,cv 16 13 15] (ar 16 (ae [aQ 6,am 7 4] .ret) .skip)) (ae [oM 17 2,oO 18 (.make true 1 1 aj (kI 0) (.t 17)),oM 8 18] (ae [aQ 9] (.seq (ae [oO 10 (.mv (.k (.c (.d (.int .u64 1)))))] (.block 0 (.loop A7))) (ae [oM 44 8,oM 6 44,am 7 0] .ret))))),[(6,none),(7,none)]⟩
theorem ajS:aM Tryz.prog {} Tryz.f83=some Cm:=by kernel_rfl
theorem Df (G:au) (hF:G.at 0=some (.ra (dY.map wD))) (hG:G.at 1=some (.ra (cy.map wD))) (key info:List UInt8) (hk:key.length≤140737488355328) (hb:info.length≤35184372088832) (n:Int) (hn1:-9223372036854775808≤n) (hn2:n≤9223372036854775807):aF Tryz.prog G 83 [.sl (key.map bD),.sl (info.map bD),.int .i64 n] (.tup [.c (.d (.sl ((nE key info n).map bD))),.c (.d (.int .i64 (sO n)))]):=by
  refine aX Tryz.func83 ajS rfl rfl ?_;by_cases h0:n<0
  ·have hc:¬ (0≤n∧n≤8160):=by omega
   rw[A5 hc,A6 key info hc];simp only[Cm,ai,af,seval,iteOmega];exact bz
  ·by_cases h1:8160<n
   ·have hc:¬ (0≤n∧n≤8160):=by omega
    rw[A5 hc,A6 key info hc];simp only[Cm,ai,af,seval,iteOmega];exact bz
   ·have hc:0≤n∧n≤8160:=by omega
    rw[tw hc,rJ key info hc];obtain⟨m,rfl⟩:=aqB hc.1;rw[ar0];simp only[Cm,ai,af,seval,iteOmega,toNatUp];refine bO (De key info m) (fun i=>(m+31) / 32-i) (fun i=>i≤(m+31) / 32) 0 (apZ _) ?_ ?_
    ·refine aR (fun _=>144) ?_ ?_ rfl rfl <;> simp only[wx,aH,seval,lz,lw,nx]
    ·intro i hi;have hl:=OI key info m i;have hp:=MY key info i;by_cases hlt:i<(m+31) / 32
     ·have h32:32*i≤m:=by omega
      have hl:(lz key info m i).length=32*i:=by omega
      have hj:=dT G [gI key info i,info,aG (i+1) 1] (by simp) (by simp[bS]; omega);have hf:[gI key info i,info,aG (i+1) 1].flatten=gI key info i++info++[UInt8.ofNat (i+1)]:=by simp[Vr]
      rw[hf] at hj;have hm:=anG G hF hG key (gI key info i++info++[UInt8.ofNat (i+1)]) hk (by simp; omega);rw[M2] at hm;have hl2:(gI key info (i+1)).length=32:=u7 _ _;have hs:=YZ key info m i h32;have hs2:=OI key info m (i+1);have hmin:=Qz 32 (m-32*i);rw[show ((m-32*i:Nat):Int)=(m:Int)-32*(i:Int) by omega] at hmin;have hs':lz key info m i++(gI key info (i+1)).take (min 32 (m-32*i))=lz key info m (i+1):=by
        rw[← hs]; congr 1
        rw[Nat.min_comm,← arU,apX (l:=gI key info (i+1)) (by omega)]
      have hlt2:((lz key info m i).length:Int)<(m:Int):=by omega
      have hmm:min 32 (m-32*i)≤32:=by omega
      have hml:((gI key info (i+1)).take (min 32 (m-32*i))).length=min 32 (m-32*i):=by rw[ap0,hl2]; omega
      have hcl:(lz key info m (i+1)).length=32*i+min 32 (m-32*i):=by omega
      generalize hq:min 32 (m-32*i)=q at *
      rcases i with _ | i
      ·simp only[arW,Int.mul_zero,Int.sub_zero,Nat.mul_zero,aqO] at hmin hl hl2 hs' hml hcl;simp only[A7,De,nx,af,seval,iteOmega];refine sD (rU G (0+1) 1 (by decide)) ?_;refine sD (hj) ?_;refine sD (hm) ?_;simp only[af,seval,iteOmega,toNatUp,hl2,hl,hmin,hml,hs',cg,Int.sub_zero];refine bA (0+1) (by omega) (by omega) (aR (fun _=>344) ?_ ?_ rfl rfl) <;> simp only[wx,aH,seval,nx,hcl]
      ·simp only[arW,Int.natCast_add] at hmin;simp only[A7,De,nx,af,seval,iteOmega];refine sD (rU G (i+1+1) 1 (by decide)) ?_;refine sD (hj) ?_;refine sD (hm) ?_;simp only[af,seval,iteOmega,toNatUp,hl2,hl,hmin,hml,hs',cg];refine bA (i+1+1) (by omega) (by omega) (aR (fun _=>344) ?_ ?_ rfl rfl) <;> simp only[wx,aH,aV,seval,nx,hcl]
     ·obtain rfl:i=(m+31) / 32:=by omega
      have hlt2:¬ ((lz key info m ((m+31) / 32)).length:Int)<(m:Int):=by omega
      have he:lz key info m ((m+31) / 32)=j5 key info m:=rfl;rw[he] at hlt2;simp only[A7,De,af,seval,iteOmega,he];exact bz
def Cn (key info:List UInt8) (n i:Nat):St:=⟨bw [(0,.w (.c (.d (.sl (key.map bD))))),(1,.w (.c (.d (.sl (info.map bD))))),(2,.w (.c (.d (.int .i64 (n:Int))))),(8,.w (.c (.own 1 1 0 (lw key info i).length))),(9,nx key info i),(10,.w (.c (.d (.int .i64 ((i+1:Nat):Int)))))],hL [(1,.row 1 ((lw key info i).map bD))],uL [1]⟩
def AE:bp := .seq (ae [oM 19 8,bd 20 19,oM 21 2,aU .lss 22 20 21] (ar 22 .skip (.exit 0))) (.seq (.block 1 (ae [oM 25 0,oM 26 9,oM 27 1,oM 28 10,oO 29 (.conv .u8 (.t 28)),oO 30 (.bldSl false 1 1 aj [(0,(.t 29))]),oO 31 (.bldSl false 3 1 (.sl []) [(0,(.t 26)),(1,(.t 27)),(2,(.t 30))]),aY 32 37 31,ct 33 102 25 32,oM 9 33] (.reg [oM 34 8,oM 35 9,oO 36 (.app false 1 1 (.t 34) (.t 35)),oM 8 36]))) (.reg [oM 23 10,ak .add 24 23 1,oM 10 24]))
def BG:aO:=⟨3,40,ae [aQ 6,am 7 0] (.seq (ae [oM 11 2,ak .lss 12 11 0,oM 13 12,bJ 14 2 13 false,cC .gtr 15 14 8160 13 false,cv 16 13 15] (ar 16 (ae [aQ 6,am 7 4] .ret) .skip)) (ae [oO 17 (.bldSl true 0 1 aj []),oO 18 (.bldSl false 0 1 aj []),oM 8 17,oM 9 18] (.seq (ae [am 10 1] (.block 0 (.loop AE))) (ae [oM 37 8,oM 38 2,oO 39 (.slice 1 (.t 37) none (some (.t 38)) none),oM 6 39,am 7 0] .ret)))),[(6,none),(7,none)]⟩
theorem aeY:aM Tryz.prog { own:=[17] } Tryz.f53=some BG:=by kernel_rfl
theorem ajT (G:au) (key info:List UInt8) (hk:key.length≤140737488355328) (hb:info.length≤35184372088832) (n:Int) (hn1:-9223372036854775808≤n) (hn2:n≤9223372036854775807):aF Tryz.prog G 53 [.sl (key.map bD),.sl (info.map bD),.int .i64 n] (.tup [.c (.fr 1 ((nE key info n).map bD)),.c (.d (.int .i64 (sO n)))]):=by
  refine aX Tryz.func53 aeY rfl rfl ?_;by_cases h0:n<0
  ·have hc:¬ (0≤n∧n≤8160):=by omega
   rw[A5 hc,A6 key info hc];simp only[BG,ai,af,seval,iteOmega];exact d7
  ·by_cases h1:8160<n
   ·have hc:¬ (0≤n∧n≤8160):=by omega
    rw[A5 hc,A6 key info hc];simp only[BG,ai,af,seval,iteOmega];exact d7
   ·have hc:0≤n∧n≤8160:=by omega
    rw[tw hc,rJ key info hc];obtain⟨m,rfl⟩:=aqB hc.1;rw[ar0];simp only[BG,ai,af,seval,iteOmega];refine bO (Cn key info m) (fun i=>(m+31) / 32-i) (fun i=>i≤(m+31) / 32) 0 (apZ _) ?_ ?_
    ·refine aR (fun _=>136) ?_ ?_ rfl rfl <;> simp only[wx,aH,seval,lw,nx]
    ·intro i hi;have hl:=u9 key info i;have hp:=MY key info i;by_cases hlt:i<(m+31) / 32
     ·have hj:=vp G [gI key info i,info,[UInt8.ofNat (i+1)]] (by simp) (by simp; omega);have hf:[gI key info i,info,[UInt8.ofNat (i+1)]].flatten=gI key info i++info++[UInt8.ofNat (i+1)]:=by simp
      rw[hf] at hj;have hm:=Sz G key (gI key info i++info++[UInt8.ofNat (i+1)]) hk (by simp; omega);rw[M2] at hm;have hl2:(gI key info (i+1)).length=32:=u7 _ _;have hs':lw key info i++gI key info (i+1)=lw key info (i+1):=rfl;have hcl:(lw key info (i+1)).length=32*i+32:=by rw[u9]; omega
      rcases i with _ | i
      ·simp only[Nat.mul_zero,aqO] at hl hl2 hs' hcl;simp only[AE,Cn,nx,af,seval,iteOmega];refine sD (hj) ?_;refine sD (hm) ?_;simp only[af,seval,hl2,hl,hs',cg];refine bA (0+1) (by omega) (by omega) (aR (fun _=>288) ?_ ?_ rfl rfl) <;> simp only[wx,aH,seval,nx,hcl]
      ·have hby:D.int .u8 ((i:Int)+1+1)=bD (UInt8.ofNat (i+1+1)):=by rw[← byte_of,IntWalk.u8_in _ (by omega)]; rfl
       simp only[AE,Cn,nx,af,seval,iteOmega,hby];refine sD (hj) ?_;refine sD (hm) ?_;simp only[af,seval,iteOmega,hl2,hl,hs',cg];refine bA (i+1+1) (by omega) (by omega) (aR (fun _=>288) ?_ ?_ rfl rfl) <;> simp only[wx,aH,aV,seval,nx,hcl]
     ·obtain rfl:i=(m+31) / 32:=by omega
      have he:(lw key info ((m+31) / 32)).take m=j5 key info m:=rfl;have hle:m≤(lw key info ((m+31) / 32)).length:=by omega
      simp only[AE,Cn,af,seval,iteOmega,toNatUp];rw[← he,List.map_take];exact W4 (id:=1) (s:=1) (by simp only[af,seval]) (by simp only[af,seval]) (by rw[ap1]; exact hle) (by simp only[af,seval])
theorem Co (G:au) (key info:List UInt8) (hk:key.length≤140737488355328) (hb:info.length≤35184372088832) (n:Int) (hn1:-9223372036854775808≤n) (hn2:n≤9223372036854775807):aF Tryz.prog G 53 [.sl (key.map bD),.sl (info.map bD),.int .i64 n] (.tup [.c (.d (.sl ((nE key info n).map bD))),.c (.d (.int .i64 (sO n)))]):=vn (ajT G key info hk hb n hn1 hn2)
def SA:aO:=⟨3,19,ae [aQ 6] (ae [oO 8 (.bldSl false 1 1 aj [(0,(.k (.c (.d aj))))]),oM 7 8] (ae [oM 9 0,oO 10 (.s2b false (.t 9)),oM 11 7,oM 12 1,oO 13 (.s2b false (.t 12)),oM 14 7,oM 15 2,aY 16 152 15,oO 17 (.bldSl false 5 1 (.sl []) [(0,(.t 10)),(1,(.t 11)),(2,(.t 13)),(3,(.t 14)),(4,(.t 16))]),oO 18 (.call 35 [(.t 17)] (some (0,1))),oM 6 18] .ret)),[(6,none)]⟩
theorem ajU:aM Tryz.prog { own:=[18] } Tryz.f179=some SA:=by kernel_rfl
theorem anH (G:au) (hF:G.at 0=some (.ra (dY.map wD))) (hG:G.at 1=some (.ra (cy.map wD))) (p n:ByteArray) (c:List UInt8) (hp:p.size≤1099511627776) (hn:n.size≤1099511627776) (hc:c.length≤140737488355328):aF Tryz.prog G 179 [.str p,.str n,.sl (c.map bD)] (.w (.c (.fr 1 ((qZ p.data.toList n.data.toList c).map bD)))):=by
  refine aX Tryz.func179 ajU rfl rfl ?_;have hp':p.data.toList.length=p.size:=rfl;have hn':n.data.toList.length=n.size:=rfl;have hj:=dT G [p.data.toList,[0],n.data.toList,[0],dN c] (by simp) (by simp[k9]; omega);have hf:[p.data.toList,[0],n.data.toList,[0],dN c].flatten=qZ p.data.toList n.data.toList c:=by simp[qZ]
  rw[hf] at hj;have hpm:p.size≤maxLen:=by unfold maxLen; omega
  have hnm:n.size≤maxLen:=by unfold maxLen; omega
  simp only[SA,ai,af,seval,hpm,hnm];refine sD (Dc G hF hG c hc) ?_;refine sD (hj) ?_;exact iP
theorem iJ (G:au) (v:Nat) (k:Int) (hk:0≤k∧k≤64):aF Tryz.prog G 62 [.int .u64 (v:Int),.int .i64 k] (.w (.c (.fr 1 ((aG v k.toNat).map bD)))):=by
  have c:=Uc G v k;rw[show DY v k=aG v k.toNat from if_pos hk] at c;exact c

def Cu:aO:=⟨2,25,ae [aQ 4,aQ 5,bG 6 false] (.seq (ae [oM 7 1,ak .lss 8 7 0,oM 9 8,bJ 10 1 9 false,bJ 11 0 9 false,eY 12 11 9 false,rh .gtr 13 10 12 9 false,cv 14 9 13] (ar 14 (ae [aQ 4,aQ 5,bG 6 false] .ret) .skip)) (ae [oM 15 0,oM 16 1,oO 17 (.slice 1 (.t 15) none (some (.t 16)) none),oO 18 (.bldSl false 1 1 (.sl []) [(0,(.t 17))]),aY 19 35 18,oM 20 0,oM 21 1,oO 22 (.slice 1 (.t 20) (some (.t 21)) none none),oO 23 (.bldSl false 1 1 (.sl []) [(0,(.t 22))]),aY 24 35 23,oM 4 19,oM 5 24,bG 6 true] .ret)),[(4,none),(5,none),(6,none)]⟩
theorem SR:aM Tryz.prog {} Tryz.f110=some Cu:=by kernel_rfl
set_option maxHeartbeats 800000 in
theorem tK (G:au) (b:List UInt8) (n:Nat) (h:n≤b.length) (hb:b.length≤1099511627776):aF Tryz.prog G 110 [.sl (b.map bD),.int .i64 (n:Int)] (.tup [.c (.d (.sl ((b.take n).map bD))),.c (.d (.sl ((b.drop n).map bD))),.c (.d (.bool true))]):=by
  refine aX Tryz.func110 SR rfl rfl ?_;have c1:=dT G [b.take n] (by simp) (by simp; omega);have c2:=dT G [b.drop n] (by simp) (by simp; omega);simp only[apW,ap4,aqD,aqF,ap7] at c1 c2;have et:(b.drop n).take (b.length-n)=b.drop n:=apX (by simp);have g:((n:Int)>(b.length:Int))=False:=eq_false (by omega);simp only[Cu,ai,af,seval,iteOmega,toNatUp,g];refine sC (c1) ?_;simp only[et,af,seval,iteOmega,toNatUp];refine sC (c2) ?_;simp only[af,seval];exact fj
theorem yR (G:au) (b:List UInt8) (n:Int) (h:n<0∨(b.length:Int)<n):aF Tryz.prog G 110 [.sl (b.map bD),.int .i64 n] (.tup [.c (.d (.sl [])),.c (.d (.sl [])),.c (.d (.bool false))]):=by
  refine aX Tryz.func110 SR rfl rfl ?_;rcases arX n 0 with h1 | h1
  ·simp only[Cu,ai,af,seval,iteOmega];exact lS (by simp only[af,seval] <;> rfl) (by simp only[af,seval] <;> rfl) (by simp only[af,seval])
  ·have g:(n>(b.length:Int))=True:=eq_true (by omega);simp only[Cu,ai,af,seval,iteOmega,g];exact lS (by simp only[af,seval] <;> rfl) (by simp only[af,seval] <;> rfl) (by simp only[af,seval])
def QR:aO:=⟨1,5,ae [aQ 2] (ae [oM 3 0,oO 4 (.call 11 [(.t 3),(kI 32)] none),oM 2 4] .ret),[(2,none)]⟩
theorem afk:aM Tryz.prog {} Tryz.f21=some QR:=by kernel_rfl
theorem SV (G:au) (seed:Int):aF Tryz.prog G 21 [.int .i64 seed] (.w (.c (.d (.sl ((bu seed 32).map bD))))):=by
  refine aX Tryz.func21 afk rfl rfl ?_;simp only[QR,ai,af,seval];refine sD (qj G seed 32 (by decide)) ?_;exact aZ
def pk (f:Nat→Nat):Nat→Nat
  | 0=>0
  | L+1=>2^(64*L)*f L+pk f L
theorem Vi {f:Nat→Nat} (hf:∀ s,f s<2^64):∀ L,pk f L<2^(64*L)
  | 0=>by simp[pk]
  | L+1=>by
    have ih:=Vi hf L;have h:=hf L;have e:2^(64*(L+1))=2^(64*L)*2^64:=by rw[← Nat.pow_add]; congr 1
    have:2^(64*L)*f L+2^(64*L)≤2^(64*L)*2^64:=by
      rw[← Nat.mul_succ]; exact Nat.mul_le_mul_left _ h
    rw[pk,e]; omega
theorem lX {f:Nat→Nat} (hf:∀ s,f s<2^64):∀ (L j:Nat),(pk f L).testBit j=(decide (j / 64<L)&&(f (j / 64)).testBit (j%64))
  | 0,j=>by simp[pk]
  | L+1,j=>by
    rw[pk,Nat.testBit_two_pow_mul_add _ (Vi hf L)];by_cases h:j<64*L
    ·rw[if_pos h,lX hf L j];rw[decide_eq_true (show j / 64<L by omega),decide_eq_true (show j / 64<L+1 by omega)]
    ·rw[if_neg h];by_cases h2:j / 64=L
     ·rw[h2,decide_eq_true (Nat.lt_succ_self L),arZ]
      congr 1; omega
     ·rw[decide_eq_false (show ¬ j / 64<L+1 by omega),Bool.false_and];refine Nat.testBit_lt_two_pow (Nat.lt_of_lt_of_le (hf L) (Nat.pow_le_pow_right (by decide) (by omega)))
theorem jP {f g:Nat→Nat}:∀ {L:Nat},(∀ s,s<L→f s=g s)→pk f L=pk g L
  | 0,_=>rfl
  | L+1,h=>by rw[pk,pk,h L (Nat.lt_succ_self L),jP fun s hs=>h s (by omega)]
theorem lY (f g:Nat→Nat):∀ L,Nat.add (pk f L) (pk g L)=pk (fun s=>Nat.add (f s) (g s)) L
  | 0=>rfl
  | L+1=>by
    have ih:=lY f g L
    show (2^(64*L)*f L+pk f L)+(2^(64*L)*g L+pk g L)=2^(64*L)*(f L+g L)+pk _ L
    rw[← ih,Nat.mul_add]
    show _=_+(pk f L+pk g L)
    omega
theorem Js (f:Nat→Nat) (c:Nat):∀ L,Nat.mul (pk f L) c=pk (fun s=>Nat.mul (f s) c) L
  | 0=>ar4 c
  | L+1=>by
    have ih:=Js f c L
    show (2^(64*L)*f L+pk f L)*c=2^(64*L)*(f L*c)+pk _ L
    rw[← ih,aqC,Nat.mul_assoc]; rfl
theorem BS (f:Nat→Nat) (c L:Nat):Nat.mul c (pk f L)=pk (fun s=>Nat.mul c (f s)) L:=by
  show c*pk f L=_
  rw[arL];refine (Js f c L).trans (jP fun s _=>arL _ _)
theorem GO {a b:Nat} (ha:a<2^64) (hb:b<2^64):Nat.xor a b<2^64:=Nat.xor_lt_two_pow ha hb
theorem Bh {a b:Nat} (ha:a<2^64):Nat.land a b<2^64:=arG Nat.and_le_left ha
theorem y9 {f g:Nat→Nat} (hf:∀ s,f s<2^64) (hg:∀ s,g s<2^64) (L:Nat):Nat.xor (pk f L) (pk g L)=pk (fun s=>Nat.xor (f s) (g s)) L:=by
  show pk f L ^^^ pk g L=_
  refine Nat.eq_of_testBit_eq fun j=>?_
  rw[aqW,lX hf,lX hg,lX (fun s=>GO (hf s) (hg s))]
  show _=(_&&(f (j / 64) ^^^ g (j / 64)).testBit _)
  rw[aqW];cases decide (j / 64<L) <;> simp
theorem CP {f g:Nat→Nat} (hf:∀ s,f s<2^64) (hg:∀ s,g s<2^64) (L:Nat):Nat.land (pk f L) (pk g L)=pk (fun s=>Nat.land (f s) (g s)) L:=by
  show pk f L &&& pk g L=_
  refine Nat.eq_of_testBit_eq fun j=>?_
  rw[Nat.testBit_and,lX hf,lX hg,lX (fun s=>Bh (hf s))]
  show _=(_&&(f (j / 64) &&& g (j / 64)).testBit _)
  rw[Nat.testBit_and];cases decide (j / 64<L) <;> simp
def nP:Nat:=4294967295
theorem yA (j:Nat):nP.testBit j=decide (j<32):=Nat.testBit_two_pow_sub_one 32 j
theorem m64 (s:Nat):(fun _:Nat=>nP) s<2^64:=by show nP<_; decide
def s9 (m x y:Nat) (a b c:Nat):Nat:=Nat.land (Nat.xor (Nat.xor (Nat.shiftRight x a) (Nat.shiftRight x b)) (Nat.shiftRight y c)) m
theorem vH (m x y a b c j:Nat):(s9 m x y a b c).testBit j=((((x.testBit (a+j)) ^^ (x.testBit (b+j))) ^^ (y.testBit (c+j)))&&m.testBit j):=by
  show (((x >>> a ^^^ x >>> b) ^^^ y >>> c) &&& m).testBit j=_
  simp only[Nat.testBit_and,aqW,Nat.testBit_shiftRight]
theorem za (x y a b c:Nat):s9 nP x y a b c<2^32:=arG Nat.and_le_right (by decide)
theorem CQ {f g:Nat→Nat} (hf:∀ s,f s<2^64) (hg:∀ s,g s<2^64) {a b c:Nat} (ha:a≤32) (hb:b≤32) (hc:c≤32) (L:Nat):s9 (pk (fun _=>nP) L) (pk f L) (pk g L) a b c=pk (fun s=>s9 nP (f s) (g s) a b c) L:=by
  refine Nat.eq_of_testBit_eq fun j=>?_
  rw[vH,lX hf,lX hf,lX hg,lX m64,lX (fun s=>Nat.lt_trans (za _ _ _ _ _) (by decide)),vH,yA];by_cases h:j%64<32
  ·rw[show (a+j) / 64=j / 64 by omega,show (b+j) / 64=j / 64 by omega,show (c+j) / 64=j / 64 by omega,show (a+j)%64=a+j%64 by omega,show (b+j)%64=b+j%64 by omega,show (c+j)%64=c+j%64 by omega];cases decide (j / 64<L) <;> simp
  ·rw[decide_eq_false h]; simp
def nF (x:Nat):Nat:=Nat.mul x 4294967297
def z8 (m x:Nat):Nat:=s9 m (nF x) (nF x) 6 11 25
def z9 (m x:Nat):Nat:=s9 m (nF x) (nF x) 2 13 22
def Aa (m x:Nat):Nat:=s9 m (nF x) x 7 18 3
def Ab (m x:Nat):Nat:=s9 m (nF x) x 17 19 10
def EH (e f g:Nat):Nat:=Nat.xor g (Nat.land e (Nat.xor f g))
def EI (a b c:Nat):Nat:=Nat.xor (Nat.land a (Nat.xor b c)) (Nat.land b c)
theorem agP {x:Nat} (hx:x<2^32) (j:Nat):(nF x).testBit j=if j<32 then x.testBit j else x.testBit (j-32):=by
  have e:nF x=2^32*x+x:=by show x*4294967297=_; omega
  rw[e,Nat.testBit_two_pow_mul_add _ hx]
theorem Jt {x:Nat} (hx:x<2^32) {j:Nat} (h:32≤j):x.testBit j=false:=Nat.testBit_lt_two_pow (Nat.lt_of_lt_of_le hx (Nat.pow_le_pow_right (by decide) h))
theorem pd (x:UInt32) {r:Nat} (h0:0<r) (h:r<32) {j:Nat} (hj:j<32):(lq x r).toNat.testBit j=(nF x.toNat).testBit (r+j):=by
  have hx:x.toNat<2^32:=x.toNat_lt;rw[agP hx];unfold lq oD qR pK;rw[UInt32.toNat_or,UInt32.toNat_ofNat',UInt32.toNat_ofNat',Nat.testBit_or,Nat.testBit_mod_two_pow,Nat.testBit_mod_two_pow,decide_eq_true hj,arZ,arZ,Nat.testBit_div_two_pow,arL,Nat.testBit_two_pow_mul];by_cases hr:r+j<32
  ·rw[if_pos hr,decide_eq_false (show ¬ j≥32-r by omega),Nat.add_comm]; simp
  ·rw[if_neg hr,decide_eq_true (show j≥32-r by omega),arZ,Jt hx (by omega),Bool.false_or]
   congr 1; omega
theorem Rm (x:UInt32) {r j:Nat} (hj:j<32):(qR x r).toNat.testBit j=x.toNat.testBit (r+j):=by
  unfold qR;rw[UInt32.toNat_ofNat',Nat.testBit_mod_two_pow,decide_eq_true hj,arZ,Nat.testBit_div_two_pow,Nat.add_comm]
theorem vZ {x:Nat} {y:UInt32} (h:∀ j,j<32→x.testBit j=y.toNat.testBit j) (hx:x<2^32):x=y.toNat:=by
  refine Nat.eq_of_testBit_eq fun j=>?_
  by_cases hj:j<32
  ·exact h j hj
  ·rw[Jt hx (by omega),Jt y.toNat_lt (by omega)]
theorem aoU (x:UInt32):z8 nP x.toNat=(pO x).toNat:=by
  refine vZ (fun j hj=>?_) (za _ _ _ _ _);unfold z8 pO ip;rw[vH,UInt32.toNat_xor,UInt32.toNat_xor,aqW,aqW,pd x (by decide) (by decide) hj,pd x (by decide) (by decide) hj,pd x (by decide) (by decide) hj,yA,decide_eq_true hj,Bool.and_true]
theorem aoV (x:UInt32):z9 nP x.toNat=(qX x).toNat:=by
  refine vZ (fun j hj=>?_) (za _ _ _ _ _);unfold z9 qX ip;rw[vH,UInt32.toNat_xor,UInt32.toNat_xor,aqW,aqW,pd x (by decide) (by decide) hj,pd x (by decide) (by decide) hj,pd x (by decide) (by decide) hj,yA,decide_eq_true hj,Bool.and_true]
theorem aoW (x:UInt32):Aa nP x.toNat=(pm x).toNat:=by
  refine vZ (fun j hj=>?_) (za _ _ _ _ _);unfold Aa pm ip;rw[vH,UInt32.toNat_xor,UInt32.toNat_xor,aqW,aqW,pd x (by decide) (by decide) hj,pd x (by decide) (by decide) hj,Rm x hj,yA,decide_eq_true hj,Bool.and_true]
theorem aoX (x:UInt32):Ab nP x.toNat=(pn x).toNat:=by
  refine vZ (fun j hj=>?_) (za _ _ _ _ _);unfold Ab pn ip;rw[vH,UInt32.toNat_xor,UInt32.toNat_xor,aqW,aqW,pd x (by decide) (by decide) hj,pd x (by decide) (by decide) hj,Rm x hj,yA,decide_eq_true hj,Bool.and_true]
theorem agQ (x:UInt32) {j:Nat} (hj:j<32):(wP x).toNat.testBit j=!x.toNat.testBit j:=by
  have h:=x.toNat_lt;unfold wP;rw[UInt32.toNat_ofNat_of_lt' (by simp[UInt32.size]; omega),show 4294967295-x.toNat=2^32-(x.toNat+1) by omega,Nat.testBit_two_pow_sub_succ h,decide_eq_true hj,arZ]
theorem aoY (e f g:UInt32):EH e.toNat f.toNat g.toNat=(pW e f g).toNat:=by
  have he:e.toNat<2^32:=e.toNat_lt;have hf:f.toNat<2^32:=f.toNat_lt;have hg:g.toNat<2^32:=g.toNat_lt;refine vZ (fun j hj=>?_) (Nat.xor_lt_two_pow hg (arG Nat.and_le_left he))
  show (g.toNat ^^^ (e.toNat &&& (f.toNat ^^^ g.toNat))).testBit j=_
  unfold pW ip pJ;rw[UInt32.toNat_xor,UInt32.toNat_and,UInt32.toNat_and];simp only[aqW,Nat.testBit_and,agQ e hj];cases e.toNat.testBit j <;> cases f.toNat.testBit j <;> cases g.toNat.testBit j <;> rfl
theorem aoZ (a b c:UInt32):EI a.toNat b.toNat c.toNat=(qY a b c).toNat:=by
  have ha:a.toNat<2^32:=a.toNat_lt;have hb:b.toNat<2^32:=b.toNat_lt;refine vZ (fun j hj=>?_) (Nat.xor_lt_two_pow (arG Nat.and_le_left ha) (arG Nat.and_le_left hb))
  show ((a.toNat &&& (b.toNat ^^^ c.toNat)) ^^^ (b.toNat &&& c.toNat)).testBit j=_
  unfold qY ip pJ;simp only[UInt32.toNat_xor,UInt32.toNat_and,aqW,Nat.testBit_and];cases a.toNat.testBit j <;> cases b.toNat.testBit j <;> cases c.toNat.testBit j <;> rfl
structure E8 where
  (a b c d e f g h:Nat)
def kN:List Nat:=[0x428a2f98,0x71374491,0xb5c0fbcf,0xe9b5dba5,0x3956c25b,0x59f111f1,0x923f82a4,0xab1c5ed5,0xd807aa98,0x12835b01,0x243185be,0x550c7dc3,0x72be5d74,0x80deb1fe,0x9bdc06a7,0xc19bf174,0xe49b69c1,0xefbe4786,0x0fc19dc6,0x240ca1cc,0x2de92c6f,0x4a7484aa,0x5cb0a9dc,0x76f988da,0x983e5152,0xa831c66d,0xb00327c8,0xbf597fc7,0xc6e00bf3,0xd5a79147,0x06ca6351,0x14292967,0x27b70a85,0x2e1b2138,0x4d2c6dfc,0x53380d13,0x650a7354,0x766a0abb,0x81c2c92e,0x92722c85,0xa2bfe8a1,0xa81a664b,0xc24b8b70,0xc76c51a3,0xd192e819,0xd6990624,0xf40e3585,0x106aa070,0x19a4c116,0x1e376c08,0x2748774c,0x34b0bcb5,0x391c0cb3,0x4ed8aa4a,0x5b9cca4f,0x682e6ff3,0x748f82ee,0x78a5636f,0x84c87814,0x8cc70208,0x90befffa,0xa4506ceb,0xbef9a3f7,0xc67178f2]
theorem ao0:kN=cy.map UInt32.toNat:=by decide
noncomputable def zO (T:Nat→Nat→Nat→Nat→Nat→Nat→Nat) (A:Nat→Nat→Nat→Nat→Nat) (E:Nat→Nat→Nat) (N:Nat→Nat→Nat→Nat→Nat) (ks:List Nat):Nat→Nat→Nat→Nat→Nat→Nat→Nat→Nat→Nat→Nat→Nat→Nat→Nat→Nat→Nat→Nat→Nat→Nat→Nat→Nat→Nat→Nat→Nat→Nat→E8 :=
  @List.rec Nat (fun _=>Nat→Nat→Nat→Nat→Nat→Nat→Nat→Nat→Nat→Nat→Nat→Nat→Nat→Nat→Nat→Nat→Nat→Nat→Nat→Nat→Nat→Nat→Nat→Nat→E8)
    (fun a b c d e f g h _ _ _ _ _ _ _ _ _ _ _ _ _ _ _ _=>E8.mk a b c d e f g h)
    (fun k _ ih a b c d e f g h w0 w1 w2 w3 w4 w5 w6 w7 w8 w9 w10 w11 w12 w13 w14 w15=>(fun t1=>ih (A t1 a b c) a b c (E d t1) e f g w1 w2 w3 w4 w5 w6 w7 w8 w9 w10 w11 w12 w13 w14 w15 (N w0 w1 w9 w14)) (T k h w0 e f g)) ks
section
variable (T:Nat→Nat→Nat→Nat→Nat→Nat→Nat) (A:Nat→Nat→Nat→Nat→Nat) (E:Nat→Nat→Nat) (N:Nat→Nat→Nat→Nat→Nat) (a b c d e f g h w0 w1 w2 w3 w4 w5 w6 w7 w8 w9 w10 w11 w12 w13 w14 w15:Nat)
theorem Y6 (k:Nat) (ks:List Nat):zO T A E N (k::ks) a b c d e f g h w0 w1 w2 w3 w4 w5 w6 w7 w8 w9 w10 w11 w12 w13 w14 w15=zO T A E N ks (A (T k h w0 e f g) a b c) a b c (E d (T k h w0 e f g)) e f g w1 w2 w3 w4 w5 w6 w7 w8 w9 w10 w11 w12 w13 w14 w15 (N w0 w1 w9 w14):=rfl
end
def TN (one m k h w e f g:Nat):Nat:=Nat.add (Nat.add h (Nat.add w (Nat.mul k one))) (Nat.add (z8 m e) (EH e f g))
def AN (m t a b c:Nat):Nat:=Nat.land (Nat.add t (Nat.add (z9 m a) (EI a b c))) m
def EN (m d t:Nat):Nat:=Nat.land (Nat.add d t) m
def NN (m w0 w1 w9 w14:Nat):Nat:=Nat.land (Nat.add (Nat.add w0 (Aa m w1)) (Nat.add w9 (Ab m w14))) m
noncomputable def KZ (P:Nat→Nat→Nat) (s t:E8):E8 :=
  E8.rec (fun a b c d e f g h=>E8.rec (fun a' b' c' d' e' f' g' h'=>E8.mk (P a a') (P b b') (P c c') (P d d') (P e e') (P f f') (P g g') (P h h')) t) s
theorem agS (P:Nat→Nat→Nat) (a b c d e f g h a' b' c' d' e' f' g' h':Nat):KZ P (E8.mk a b c d e f g h) (E8.mk a' b' c' d' e' f' g' h')=E8.mk (P a a') (P b b') (P c c') (P d d') (P e e') (P f f') (P g g') (P h h'):=rfl
noncomputable def Vx (T:Nat→Nat→Nat→Nat→Nat→Nat→Nat) (A:Nat→Nat→Nat→Nat→Nat) (E:Nat→Nat→Nat) (N:Nat→Nat→Nat→Nat→Nat) (ks:List Nat) (s:E8) (w0 w1 w2 w3 w4 w5 w6 w7 w8 w9 w10 w11 w12 w13 w14 w15:Nat):E8 :=
  E8.rec (fun a b c d e f g h=>zO T A E N ks a b c d e f g h w0 w1 w2 w3 w4 w5 w6 w7 w8 w9 w10 w11 w12 w13 w14 w15) s
theorem agT (T:Nat→Nat→Nat→Nat→Nat→Nat→Nat) (A:Nat→Nat→Nat→Nat→Nat) (E:Nat→Nat→Nat) (N:Nat→Nat→Nat→Nat→Nat) (ks:List Nat) (a b c d e f g h w0 w1 w2 w3 w4 w5 w6 w7 w8 w9 w10 w11 w12 w13 w14 w15:Nat):Vx T A E N ks (E8.mk a b c d e f g h) w0 w1 w2 w3 w4 w5 w6 w7 w8 w9 w10 w11 w12 w13 w14 w15=zO T A E N ks a b c d e f g h w0 w1 w2 w3 w4 w5 w6 w7 w8 w9 w10 w11 w12 w13 w14 w15:=rfl
noncomputable def K0 (one m:Nat) (s:E8) (w0 w1 w2 w3 w4 w5 w6 w7 w8 w9 w10 w11 w12 w13 w14 w15:Nat):E8:=KZ (EN m) s (Vx (TN one m) (AN m) (EN m) (NN m) kN s w0 w1 w2 w3 w4 w5 w6 w7 w8 w9 w10 w11 w12 w13 w14 w15)
def pw (x:Nat→UInt32) (L:Nat):Nat:=pk (fun s=>(x s).toNat) L
abbrev jb (L:Nat):Nat:=pk (fun _=>1) L
abbrev jr (L:Nat):Nat:=pk (fun _=>nP) L
theorem jj (x:UInt32):x.toNat<2^64:=Nat.lt_trans x.toNat_lt (by decide)
theorem wH (x:UInt32):nF x.toNat<2^64:=by
  have:=x.toNat_lt
  show x.toNat*4294967297<_
  omega
theorem CR (x:Nat→UInt32) (L:Nat):nF (pw x L)=pk (fun s=>nF (x s).toNat) L:=Js _ _ _
theorem amD (x:Nat→UInt32) (L:Nat):z8 (jr L) (pw x L)=pw (fun s=>pO (x s)) L:=by
  unfold z8;rw[CR,CQ (fun s=>wH _) (fun s=>wH _) (by decide) (by decide) (by decide)];exact jP fun s _=>aoU (x s)
theorem amE (x:Nat→UInt32) (L:Nat):z9 (jr L) (pw x L)=pw (fun s=>qX (x s)) L:=by
  unfold z9;rw[CR,CQ (fun s=>wH _) (fun s=>wH _) (by decide) (by decide) (by decide)];exact jP fun s _=>aoV (x s)
theorem amF (x:Nat→UInt32) (L:Nat):Aa (jr L) (pw x L)=pw (fun s=>pm (x s)) L:=by
  unfold Aa;rw[CR];unfold pw;rw[CQ (fun s=>wH _) (fun s=>jj _) (by decide) (by decide) (by decide)];exact jP fun s _=>aoW (x s)
theorem amG (x:Nat→UInt32) (L:Nat):Ab (jr L) (pw x L)=pw (fun s=>pn (x s)) L:=by
  unfold Ab;rw[CR];unfold pw;rw[CQ (fun s=>wH _) (fun s=>jj _) (by decide) (by decide) (by decide)];exact jP fun s _=>aoX (x s)
theorem amH (e f g:Nat→UInt32) (L:Nat):EH (pw e L) (pw f L) (pw g L)=pw (fun s=>pW (e s) (f s) (g s)) L:=by
  unfold EH pw;rw[y9 (fun s=>jj _) (fun s=>jj _),CP (fun s=>jj _) (fun s=>GO (jj _) (jj _)),y9 (fun s=>jj _) (fun s=>Bh (jj _))];exact jP fun s _=>aoY (e s) (f s) (g s)
theorem amI (a b c:Nat→UInt32) (L:Nat):EI (pw a L) (pw b L) (pw c L)=pw (fun s=>qY (a s) (b s) (c s)) L:=by
  unfold EI pw;rw[y9 (fun s=>jj _) (fun s=>jj _),CP (fun s=>jj _) (fun s=>GO (jj _) (jj _)),CP (fun s=>jj _) (fun s=>jj _),y9 (fun s=>Bh (jj _)) (fun s=>Bh (jj _))];exact jP fun s _=>aoZ (a s) (b s) (c s)
theorem acu (x:Nat):Nat.land x nP=x%4294967296:=Nat.and_two_pow_sub_one_eq_mod x 32
theorem CS {f:Nat→Nat} (hf:∀ s,f s<2^64) (L:Nat):Nat.land (pk f L) (jr L)=pk (fun s=>f s%4294967296) L:=by
  rw[CP hf m64];exact jP fun s _=>acu (f s)
def oL (S:cJ) (k w:UInt32):Nat:=(S.h.toNat+(w.toNat+k.toNat))+((pO S.e).toNat+(pW S.e S.f S.g).toNat)
theorem ao1 (S:Nat→cJ) (k:UInt32) (w:Nat→UInt32) (L:Nat):TN (jb L) (jr L) k.toNat (pw (fun s=>(S s).h) L) (pw w L) (pw (fun s=>(S s).e) L) (pw (fun s=>(S s).f) L) (pw (fun s=>(S s).g) L)=pk (fun s=>oL (S s) k (w s)) L:=by
  unfold TN;rw[amD,amH,BS];unfold pw;rw[lY,lY,lY,lY];refine jP fun s _=>?_
  show ((S s).h.toNat+((w s).toNat+k.toNat*1))+_=_
  rw[arD]; rfl
theorem Vj (S:cJ) (k w:UInt32):oL S k w<21474836480:=by
  have h1:=S.h.toNat_lt;have h2:=w.toNat_lt;have h3:=k.toNat_lt;have h4:=(pO S.e).toNat_lt;have h5:=(pW S.e S.f S.g).toNat_lt;unfold oL;omega
theorem ao2 (S:cJ) (k w:UInt32):(oL S k w+((qX S.a).toNat+(qY S.a S.b S.c).toNat))%4294967296=(S.step k w).a.toNat:=by
  show _=(cb (cb (cb (cb (cb S.h (pO S.e)) (pW S.e S.f S.g)) k) w) (cb (qX S.a) (qY S.a S.b S.c))).toNat
  unfold oL cb;simp only[UInt32.toNat_add];omega
theorem ao3 (S:cJ) (k w:UInt32):(S.d.toNat+oL S k w)%4294967296=(S.step k w).e.toNat:=by
  show _=(cb S.d (cb (cb (cb (cb S.h (pO S.e)) (pW S.e S.f S.g)) k) w)).toNat
  unfold oL cb;simp only[UInt32.toNat_add];omega
theorem agU (S:Nat→cJ) (k:UInt32) (w:Nat→UInt32) (L:Nat):AN (jr L) (pk (fun s=>oL (S s) k (w s)) L) (pw (fun s=>(S s).a) L) (pw (fun s=>(S s).b) L) (pw (fun s=>(S s).c) L)=pw (fun s=>((S s).step k (w s)).a) L:=by
  unfold AN;rw[amE,amI];unfold pw;rw[lY,lY,CS]
  ·exact jP fun s _=>ao2 (S s) k (w s)
  ·intro s;have h1:=Vj (S s) k (w s);have h2:=(qX (S s).a).toNat_lt;have h3:=(qY (S s).a (S s).b (S s).c).toNat_lt
   show oL (S s) k (w s)+((qX (S s).a).toNat+(qY (S s).a (S s).b (S s).c).toNat)<_
   omega
theorem agV (S:Nat→cJ) (k:UInt32) (w:Nat→UInt32) (L:Nat):EN (jr L) (pw (fun s=>(S s).d) L) (pk (fun s=>oL (S s) k (w s)) L)=pw (fun s=>((S s).step k (w s)).e) L:=by
  unfold EN pw;rw[lY,CS]
  ·exact jP fun s _=>ao3 (S s) k (w s)
  ·intro s;have h1:=Vj (S s) k (w s);have h2:=(S s).d.toNat_lt
   show (S s).d.toNat+oL (S s) k (w s)<_
   omega
def uo (w0 w1 w9 w14:UInt32):UInt32:=cb (cb (cb (pn w14) w9) (pm w1)) w0
theorem ao4 (w0 w1 w9 w14:UInt32):((w0.toNat+(pm w1).toNat)+(w9.toNat+(pn w14).toNat))%4294967296=(uo w0 w1 w9 w14).toNat:=by
  unfold uo cb;simp only[UInt32.toNat_add];omega
theorem agW (w0 w1 w9 w14:Nat→UInt32) (L:Nat):NN (jr L) (pw w0 L) (pw w1 L) (pw w9 L) (pw w14 L)=pw (fun s=>uo (w0 s) (w1 s) (w9 s) (w14 s)) L:=by
  unfold NN;rw[amF,amG];unfold pw;rw[lY,lY,lY,CS]
  ·exact jP fun s _=>ao4 _ _ _ _
  ·intro s;have h1:=(w0 s).toNat_lt;have h2:=(pm (w1 s)).toNat_lt;have h3:=(w9 s).toNat_lt;have h4:=(pn (w14 s)).toNat_lt
   show ((w0 s).toNat+(pm (w1 s)).toNat)+((w9 s).toNat+(pn (w14 s)).toNat)<_
   omega
def jB:cJ→List UInt32→(Nat→UInt32)→cJ
  | S,[],_=>S
  | S,k::ks,w=>jB (S.step k (w 0)) ks (fun t=>w (t+1))
theorem TX (L:Nat):∀ (ks:List UInt32) (S:Nat→cJ) (W:Nat→Nat→UInt32),(∀ t s,W (t+16) s=uo (W t s) (W (t+1) s) (W (t+9) s) (W (t+14) s)) →
    zO (TN (jb L) (jr L)) (AN (jr L)) (EN (jr L)) (NN (jr L)) (ks.map UInt32.toNat) (pw (fun s=>(S s).a) L) (pw (fun s=>(S s).b) L) (pw (fun s=>(S s).c) L) (pw (fun s=>(S s).d) L) (pw (fun s=>(S s).e) L) (pw (fun s=>(S s).f) L) (pw (fun s=>(S s).g) L) (pw (fun s=>(S s).h) L) (pw (W 0) L) (pw (W 1) L) (pw (W 2) L) (pw (W 3) L) (pw (W 4) L) (pw (W 5) L) (pw (W 6) L) (pw (W 7) L) (pw (W 8) L) (pw (W 9) L) (pw (W 10) L) (pw (W 11) L) (pw (W 12) L) (pw (W 13) L) (pw (W 14) L) (pw (W 15) L)=E8.mk (pw (fun s=>(jB (S s) ks (fun t=>W t s)).a) L) (pw (fun s=>(jB (S s) ks (fun t=>W t s)).b) L) (pw (fun s=>(jB (S s) ks (fun t=>W t s)).c) L) (pw (fun s=>(jB (S s) ks (fun t=>W t s)).d) L) (pw (fun s=>(jB (S s) ks (fun t=>W t s)).e) L) (pw (fun s=>(jB (S s) ks (fun t=>W t s)).f) L) (pw (fun s=>(jB (S s) ks (fun t=>W t s)).g) L) (pw (fun s=>(jB (S s) ks (fun t=>W t s)).h) L)
  | [],_,_,_=>rfl
  | k::ks,S,W,hW=>by
    have e0:=ao1 S k (W 0) L;have e1:=agU S k (W 0) L;have e2:=agV S k (W 0) L;have e3:=agW (W 0) (W 1) (W 9) (W 14) L;have e4:(fun s=>uo (W 0 s) (W 1 s) (W 9 s) (W 14 s))=W 16:=funext fun s=>(hW 0 s).symm
    rw[e4] at e3;have ih:=TX L ks (fun s=>(S s).step k (W 0 s)) (fun t=>W (t+1)) (fun t s=>hW (t+1) s);rw[apW,Y6,e0,e1,e2,e3];exact ih
theorem LJ (k:UInt32):∀ (ks:List UInt32) (S:cJ) (w:Nat→UInt32),jB S (ks++[k]) w=(jB S ks w).step k (w ks.length)
  | [],_,_=>rfl
  | _::ks,S,w=>LJ k ks (S.step _ (w 0)) (fun t=>w (t+1))
theorem Lu:∀ (ks:List UInt32) (S:cJ) (w v:Nat→UInt32),(∀ t,t<ks.length→w t=v t)→jB S ks w=jB S ks v
  | [],_,_,_,_=>rfl
  | k::ks,S,w,v,h=>by
    rw[jB,jB,h 0 (by simp)];exact Lu ks _ _ _ fun t ht=>h (t+1) (by simpa using ht)
theorem Lv (S:cJ) (ks w:List UInt32):∀ n,n≤ks.length→S.rounds ks w n=jB S (ks.take n) (fun t=>w.getD t 0)
  | 0,_=>rfl
  | n+1,h=>by
    rw[cJ.rounds,Lv S ks w n (by omega),aqT (by omega),LJ,ap0,aq0 (by omega),apT,apR (by omega)];rfl
theorem Bi (b:List UInt8):∀ n,(dk b n).length=16+n
  | 0=>by unfold dk jl; simp
  | n+1=>by rw[dk,apS,Bi b n]; rfl
theorem FT (b:List UInt8) {j:Nat}:∀ (n d:Nat),j<16+n→(dk b (n+d)).getD j 0=(dk b n).getD j 0
  | _,0,_=>rfl
  | n,d+1,h=>by
    rw[← arO,dk,apT,aqM (by rw[Bi]; omega),← apT,FT b n d h]
theorem uV (b:List UInt8) {j m n:Nat} (h1:j<16+m) (h2:j<16+n):(dk b m).getD j 0=(dk b n).getD j 0:=by
  rcases Nat.le_total m n with h | h
  ·obtain⟨d,rfl⟩:=Nat.exists_eq_add_of_le h;exact (FT b m d h1).symm
  ·obtain⟨d,rfl⟩:=Nat.exists_eq_add_of_le h;exact FT b n d h2
def wS (b:List UInt8) (t:Nat):UInt32:=(dk b t).getD t 0
theorem amJ (b:List UInt8) (t:Nat):wS b (t+16)=uo (wS b t) (wS b (t+1)) (wS b (t+9)) (wS b (t+14)):=by
  have e:dk b (t+1)=dk b t++[pz (dk b t) (16+t)]:=rfl;have key:(dk b (t+1)).getD (t+16) 0=pz (dk b t) (16+t):=by
    rw[e,apT,aql (by rw[Bi]; omega),Bi,show t+16-(16+t)=0 by omega]; rfl
  unfold wS;rw[uV b (show t+16<16+(t+16) by omega) (show t+16<16+(t+1) by omega),key];unfold pz uo;rw[show 16+t-2=t+14 by omega,show 16+t-7=t+9 by omega,show 16+t-15=t+1 by omega,show 16+t-16=t by omega];rw[uV b (show t+14<16+t by omega) (show t+14<16+(t+14) by omega),uV b (show t+9<16+t by omega) (show t+9<16+(t+9) by omega),uV b (show t+1<16+t by omega) (show t+1<16+(t+1) by omega)]
theorem ao5 (b:List UInt8) {t:Nat} (h:t<16):wS b t=dU b t:=by
  unfold wS;rw[uV b (show t<16+t by omega) (show t<16+0 by omega)];unfold dk jl;rw[apT,aqH,arp h]; rfl
theorem Wh (h:List UInt32) (b:List UInt8):(cJ.of h).rounds cy (fS b) 64=jB (cJ.of h) cy (wS b):=by
  rw[Lv _ _ _ 64 (by rw[xP]; omega)];have e:cy.take 64=cy:=apX (by rw[xP]; omega);rw[e];refine Lu _ _ _ _ fun t ht=>?_
  rw[xP] at ht
  show (dk b 48).getD t 0=(dk b t).getD t 0
  exact uV b (by omega) (by omega)
def uF (H:Nat→List UInt32) (L:Nat):E8:=E8.mk (pw (fun s=>(H s).getD 0 0) L) (pw (fun s=>(H s).getD 1 0) L) (pw (fun s=>(H s).getD 2 0) L) (pw (fun s=>(H s).getD 3 0) L) (pw (fun s=>(H s).getD 4 0) L) (pw (fun s=>(H s).getD 5 0) L) (pw (fun s=>(H s).getD 6 0) L) (pw (fun s=>(H s).getD 7 0) L)
theorem amK (x y:Nat→UInt32) (L:Nat):EN (jr L) (pw x L) (pw y L)=pw (fun s=>cb (x s) (y s)) L:=by
  unfold EN pw;rw[lY,CS]
  ·refine jP fun s _=>?_
   unfold cb;rw[UInt32.toNat_add]; rfl
  ·intro s;have h1:=(x s).toNat_lt;have h2:=(y s).toNat_lt
   show (x s).toNat+(y s).toNat<_
   omega
theorem amL (H:Nat→List UInt32) (b:Nat→List UInt8) (L:Nat):K0 (jb L) (jr L) (uF H L) (pw (fun s=>dU (b s) 0) L) (pw (fun s=>dU (b s) 1) L) (pw (fun s=>dU (b s) 2) L) (pw (fun s=>dU (b s) 3) L) (pw (fun s=>dU (b s) 4) L) (pw (fun s=>dU (b s) 5) L) (pw (fun s=>dU (b s) 6) L) (pw (fun s=>dU (b s) 7) L) (pw (fun s=>dU (b s) 8) L) (pw (fun s=>dU (b s) 9) L) (pw (fun s=>dU (b s) 10) L) (pw (fun s=>dU (b s) 11) L) (pw (fun s=>dU (b s) 12) L) (pw (fun s=>dU (b s) 13) L) (pw (fun s=>dU (b s) 14) L) (pw (fun s=>dU (b s) 15) L)=uF (fun s=>oc (H s) (b s)) L:=by
  have hw:∀ t,t<16→(fun s=>dU (b s) t)=(fun s=>wS (b s) t):=fun t ht=>funext fun s=>(ao5 (b s) ht).symm
  rw[hw 0 (by decide),hw 1 (by decide),hw 2 (by decide),hw 3 (by decide),hw 4 (by decide),hw 5 (by decide),hw 6 (by decide),hw 7 (by decide),hw 8 (by decide),hw 9 (by decide),hw 10 (by decide),hw 11 (by decide),hw 12 (by decide),hw 13 (by decide),hw 14 (by decide),hw 15 (by decide)];have hr:=TX L cy (fun s=>cJ.of (H s)) (fun t s=>wS (b s) t) (fun t s=>amJ (b s) t);unfold K0 uF;rw[agT,ao0];refine (congrArg (KZ (EN (jr L)) _) hr).trans ?_;rw[agS];simp only[amK];have hb:∀ s,oc (H s) (b s)=(jB (cJ.of (H s)) cy (fun t=>wS (b s) t)).sum (H s):=fun s=>by
    unfold oc; rw[Wh]
  simp only[hb];rfl
def xa (b:List UInt8):Nat:=b.foldl (fun a x=>a*256+x.toNat) 0
theorem Y7 (b:List UInt8) (x:UInt8):xa (b++[x])=xa b*256+x.toNat:=by unfold xa; rw[List.foldl_append]; rfl
theorem GQ (v:Nat):∀ n,xa (aG v n)=v%256^n
  | 0=>by simp[aG,xa,Nat.mod_one]
  | n+1=>by
    have e:aG v (n+1)=aG (v / 256) n++[UInt8.ofNat v]:=by
      unfold aG;rw[aqS,ap8]
      congr 1
      ·apply aqu;intro i hi;have hi:=arH.1 hi;rw[show n+1-1-i=(n-1-i)+1 by omega,Nat.pow_succ,arL,Nat.div_div_eq_div_mul]
      ·simp
    rw[e,Y7,GQ (v / 256) n,UInt8.toNat_ofNat',show 256^(n+1)=256*256^n from Nat.pow_succ',Nat.mod_mul];omega
theorem Nf (h:List UInt32) (b c:List UInt8):∀ n,64*n≤b.length→ei h (b++c) n=ei h b n
  | 0,_=>rfl
  | n+1,hn=>by
    rw[ei,ei,Nf h b c n (by omega),arP (by omega),aqK (by rw[ap5]; omega)]
theorem Md (h:List UInt32) (p:List UInt8) (q:Nat):∀ m,ei (ei h p q) (p.drop (64*q)) m=ei h p (q+m)
  | 0=>rfl
  | m+1=>by
    rw[← arO,ei,ei,Md h p q m,arx,Nat.mul_add]
def su (n:Nat):List UInt8:=[128]++List.replicate ((119-n%64)%64) 0++aG (n*8) 8
theorem Y8 (n:Nat):n+(su n).length=64*((n+8) / 64+1):=by
  unfold su;simp only[apS,aqo,bS,aqw];omega
theorem acv (b:List UInt8):dN b=iY (ei dY (b++su b.length) ((b.length+8) / 64+1)):=by
  have hl:=Y8 b.length;have hd:64*(b.length / 64)≤b.length:=by omega
  have hp:iw (b.drop (64*(b.length / 64))) b.length=(b++su b.length).drop (64*(b.length / 64)):=by
    unfold iw su;rw[arP hd,ap5,show b.length-64*(b.length / 64)=b.length%64 by omega];simp only[ap6]
  unfold dN ou;rw[hp,← Nf dY b (su b.length) _ hd,Md,ap5,apS,hl]
  congr 2; omega

theorem CU (c:UInt32) (L:Nat):Nat.mul c.toNat (jb L)=pw (fun _=>c) L:=by
  rw[BS];exact jP fun s _=>arD _
theorem agX (L:Nat):0=pw (fun _=>0) L:=by
  have:=CU 0 L;rw[← this]; exact (ar4 _).symm
def b4 (w:UInt32):List UInt8:=[UInt8.ofNat (w.toNat / 16777216),UInt8.ofNat (w.toNat / 65536),UInt8.ofNat (w.toNat / 256),UInt8.ofNat w.toNat]
theorem agY (w:UInt32):aG w.toNat 4=b4 w:=by
  show [UInt8.ofNat (w.toNat / 16777216),UInt8.ofNat (w.toNat / 65536),UInt8.ofNat (w.toNat / 256),UInt8.ofNat (w.toNat / 1)]=_
  rw[Nat.div_one]; rfl
theorem n0 (w:UInt32):(UInt8.ofNat w.toNat).toNat=w.toNat%256:=UInt8.toNat_ofNat'
theorem n1 (w:UInt32):(UInt8.ofNat (w.toNat / 256)).toNat=w.toNat / 256%256:=UInt8.toNat_ofNat'
theorem n2 (w:UInt32):(UInt8.ofNat (w.toNat / 65536)).toNat=w.toNat / 65536%256:=UInt8.toNat_ofNat'
theorem n3 (w:UInt32):(UInt8.ofNat (w.toNat / 16777216)).toNat=w.toNat / 16777216%256:=UInt8.toNat_ofNat'
theorem amM {p:List UInt8} {t:Nat} (h0:p.getD (4*t) 0=0) (h1:p.getD (4*t+1) 0=0) (h2:p.getD (4*t+2) 0=0) (h3:p.getD (4*t+3) 0=0):dU p t=0:=by
  rw[← UInt32.toNat_inj,xQ,h0,h1,h2,h3]; rfl
theorem amN {p:List UInt8} {t:Nat} {a b:UInt8} {c:UInt32} (h0:p.getD (4*t) 0=0) (h1:p.getD (4*t+1) 0=0) (h2:p.getD (4*t+2) 0=a) (h3:p.getD (4*t+3) 0=b) (hc:a.toNat*256+b.toNat=c.toNat):dU p t=c:=by
  rw[← UInt32.toNat_inj,xQ,h0,h1,h2,h3,← hc];have z:(0:UInt8).toNat=0:=by decide
  simp only[z,ar4,aqO]
noncomputable def K5 (one:Nat):E8:=E8.mk (Nat.mul 1779033703 one) (Nat.mul 3144134277 one) (Nat.mul 1013904242 one) (Nat.mul 2773480762 one) (Nat.mul 1359893119 one) (Nat.mul 2600822924 one) (Nat.mul 528734635 one) (Nat.mul 1541459225 one)
theorem amO (L:Nat):K5 (jb L)=uF (fun _=>dY) L:=by
  have h:=fun c=>CU c L
  unfold K5 uF;exact (congr (congr (congr (congr (congr (congr (congr (congrArg E8.mk (h 1779033703)) (h 3144134277)) (h 1013904242)) (h 2773480762)) (h 1359893119)) (h 2600822924)) (h 528734635)) (h 1541459225))

noncomputable def xf {α:Type} (n:Nat) (k:Nat→α):α:=@Nat.rec (fun _=>α) (k 0) (fun m _=>k (Nat.succ m)) n
theorem yB {α:Type} (n:Nat) (k:Nat→α):xf n k=k n:=by cases n <;> rfl
theorem amP {p:List UInt8} {t:Nat} {w:UInt32} (h0:(p.getD (4*t) 0).toNat=w.toNat / 16777216%256) (h1:(p.getD (4*t+1) 0).toNat=w.toNat / 65536%256) (h2:(p.getD (4*t+2) 0).toNat=w.toNat / 256%256) (h3:(p.getD (4*t+3) 0).toNat=w.toNat%256):dU p t=w:=by
  have:=w.toNat_lt;rw[← UInt32.toNat_inj,xQ,h0,h1,h2,h3];omega
theorem amQ {p:List UInt8} {t:Nat} {w:UInt32} {a b c d:UInt8} (h0:p.getD (4*t) 0=a) (h1:p.getD (4*t+1) 0=b) (h2:p.getD (4*t+2) 0=c) (h3:p.getD (4*t+3) 0=d) (hc:((a.toNat*256+b.toNat)*256+c.toNat)*256+d.toNat=w.toNat):dU p t=w:=by
  rw[← UInt32.toNat_inj,xQ,h0,h1,h2,h3,hc]
def mO (x:UInt32):List UInt8:=(aG x.toNat 8++aG 0 4)++su 12
def zP (x:UInt32):List UInt32:=oc dY ((mO x).take 64)
theorem amR (x:UInt32):aG x.toNat 8=0::0::0::0::b4 x:=by
  have hx:=x.toNat_lt;have z:∀ k,4294967296≤k→UInt8.ofNat (x.toNat / k)=0:=fun k hk=>by
    rw[Nat.div_eq_of_lt (by omega)]; rfl
  have e:aG x.toNat 8=[UInt8.ofNat (x.toNat / 72057594037927936),UInt8.ofNat (x.toNat / 281474976710656),UInt8.ofNat (x.toNat / 1099511627776),UInt8.ofNat (x.toNat / 4294967296)]++aG x.toNat 4:=rfl;rw[e,agY,z _ (by decide),z _ (by decide),z _ (by decide),z _ (by decide)]; rfl
theorem ao6 (x:UInt32):tI x.toNat 0=iY (zP x):=by
  have h1:(aG x.toNat 8++aG 0 4).length=12:=by simp[bS]
  unfold tI;rw[acv,h1]; rfl
set_option maxRecDepth 20000 in
theorem DG (x:UInt32):(mO x).take 64=0::0::0::0::UInt8.ofNat (x.toNat / 16777216)::UInt8.ofNat (x.toNat / 65536)::UInt8.ofNat (x.toNat / 256)::UInt8.ofNat x.toNat::0::0::0::0::128::0::0::0::0::0::0::0::0::0::0::0::0::0::0::0::0::0::0::0::0::0::0::0::0::0::0::0::0::0::0::0::0::0::0::0::0::0::0::0::0::0::0::0::0::0::0::0::0::0::0::96::[]:=by
  have ht:su 12=128::(List.replicate 50 0++[96]):=by decide
  have hz:aG 0 4=[0,0,0,0]:=by decide
  have e:mO x=0::0::0::0::UInt8.ofNat (x.toNat / 16777216)::UInt8.ofNat (x.toNat / 65536)::UInt8.ofNat (x.toNat / 256)::UInt8.ofNat x.toNat::0::0::0::0::128::0::0::0::0::0::0::0::0::0::0::0::0::0::0::0::0::0::0::0::0::0::0::0::0::0::0::0::0::0::0::0::0::0::0::0::0::0::0::0::0::0::0::0::0::0::0::0::0::0::0::96::[]:=by
    unfold mO;rw[amR,ht,hz];simp only[b4,aqE,aqz,List.replicate]
  rw[e]; rfl
set_option maxRecDepth 20000 in
theorem ao7 (x:UInt32):∀ t,t<15→t≠1→t≠3→dU ((mO x).take 64) t=0:=by
  intro t h1 h2 h3;rw[DG];have:t=0∨t=2∨t=4∨t=5∨t=6∨t=7∨t=8∨t=9∨t=10∨t=11∨t=12∨t=13∨t=14:=by omega
  rcases this with rfl | rfl | rfl | rfl | rfl | rfl | rfl | rfl | rfl | rfl | rfl | rfl | rfl <;> exact amM rfl rfl rfl rfl
set_option maxRecDepth 20000 in
theorem ao8 (x:UInt32):dU ((mO x).take 64) 1=x:=by
  rw[DG]; exact amP (n3 _) (n2 _) (n1 _) (n0 _)
set_option maxRecDepth 20000 in
theorem ao9 (x:UInt32):dU ((mO x).take 64) 3=2147483648:=by
  rw[DG]; exact amQ (a:=128) (b:=0) (c:=0) (d:=0) rfl rfl rfl rfl (by decide)
set_option maxRecDepth 20000 in
theorem apa (x:UInt32):dU ((mO x).take 64) 15=96:=by
  rw[DG]; exact amN rfl rfl rfl rfl rfl
noncomputable def Eg (one m X:Nat):E8:=K0 one m (K5 one) 0 X 0 (Nat.mul 2147483648 one) 0 0 0 0 0 0 0 0 0 0 0 (Nat.mul 96 one)
theorem agZ (x:Nat→UInt32) (L:Nat):Eg (jb L) (jr L) (pw x L)=uF (fun s=>zP (x s)) L:=by
  have g:=amL (fun _=>dY) (fun s=>(mO (x s)).take 64) L;have z:∀ t,t<15→t≠1→t≠3→(fun s=>dU ((mO (x s)).take 64) t)=fun _=>0:=fun t h1 h2 h3=>funext fun s=>ao7 (x s) t h1 h2 h3
  have v1:(fun s=>dU ((mO (x s)).take 64) 1)=x:=funext fun s=>ao8 (x s)
  have v3:(fun s=>dU ((mO (x s)).take 64) 3)=fun _=>2147483648:=funext fun s=>ao9 (x s)
  have ve:(fun s=>dU ((mO (x s)).take 64) 15)=fun _=>96:=funext fun s=>apa (x s)
  have c2:Nat.mul 2147483648 (jb L)=pw (fun _=>2147483648) L:=CU 2147483648 L;have c3:Nat.mul 96 (jb L)=pw (fun _=>96) L:=CU 96 L;rw[v1,v3,ve,z 0 (by decide) (by decide) (by decide),z 2 (by decide) (by decide) (by decide),z 4 (by decide) (by decide) (by decide),z 5 (by decide) (by decide) (by decide),z 6 (by decide) (by decide) (by decide),z 7 (by decide) (by decide) (by decide),z 8 (by decide) (by decide) (by decide),z 9 (by decide) (by decide) (by decide),z 10 (by decide) (by decide) (by decide),z 11 (by decide) (by decide) (by decide),z 12 (by decide) (by decide) (by decide),z 13 (by decide) (by decide) (by decide),z 14 (by decide) (by decide) (by decide),← agX,← amO] at g;unfold Eg;rw[c2,c3];exact g
inductive Tr where
  | lf (c:Nat)
  | nd (a b:Tr)
deriving DecidableEq
theorem amS (x y:Nat→UInt32) (L:Nat):Nat.xor (pw x L) (pw y L)=pw (fun s=>ip (x s) (y s)) L:=by
  unfold pw;rw[y9 (fun s=>jj _) (fun s=>jj _)];exact jP fun s _=>(UInt32.toNat_xor _ _).symm
theorem Y9 {x:Nat→UInt32} {L s:Nat} (h:Nat.beq (Nat.land (Nat.shiftRight (Nat.add (pw x L) (Nat.mul 4294967295 (jb L))) 32) (jb L)) (jb L)=true) (hs:s<L):x s≠0:=by
  intro h0;have e:=Nat.eq_of_beq_eq_true h;have h1:∀ s:Nat,(fun _:Nat=>1) s<2^64:=fun _=>(by decide:1<2^64)
  have hg:∀ s,Nat.add (x s).toNat (Nat.mul 4294967295 1)<2^64:=fun s=>by
    have:=(x s).toNat_lt
    show (x s).toNat+4294967295*1<_
    omega
  have e2:Nat.add (pw x L) (Nat.mul 4294967295 (jb L))=pk (fun s=>Nat.add (x s).toNat (Nat.mul 4294967295 1)) L:=by
    unfold pw;rw[BS,lY]
  rw[e2] at e;have e3:((pk (fun s=>Nat.add (x s).toNat (Nat.mul 4294967295 1)) L >>> 32) &&& jb L).testBit (64*s)=(jb L).testBit (64*s):=congrArg (fun n=>Nat.testBit n (64*s)) e;rw[Nat.testBit_and,Nat.testBit_shiftRight,lX hg,lX h1,show (32+64*s) / 64=s by omega,show (32+64*s)%64=32 by omega,show 64*s / 64=s by omega,show 64*s%64=0 by omega,decide_eq_true hs,h0] at e3
  revert e3
  decide
def t2:Tr:=.nd (.lf 0) (.lf 1)
def t23:Tr:=.nd (.lf 2) (.lf 3)
def t4:Tr:=.nd t2 t23
noncomputable def Lk (s:E8):Nat:=E8.rec (fun a _ _ _ _ _ _ _=>a) s
theorem apb (A:Nat→List UInt32) (L:Nat):Lk (uF A L)=pw (fun s=>(A s).getD 0 0) L:=rfl
def K6 (on one a b:Nat):Bool:=Nat.beq (Nat.land (Nat.shiftRight (Nat.add (Nat.xor a b) on) 32) one) one
theorem ag0 {x y:Nat→UInt32} {L s:Nat} (h:K6 (Nat.mul 4294967295 (jb L)) (jb L) (pw x L) (pw y L)=true) (hs:s<L):x s≠y s:=by
  intro e;unfold K6 at h;rw[amS] at h;refine Y9 h hs ?_;rw[e];simp[ip]
noncomputable def zQ (F:Nat→Nat) (D:Nat→Nat→Bool) (os:List Nat):List Nat→Bool :=
  @List.rec Nat (fun _=>List Nat→Bool) (fun _=>true) (fun o _ ih acc=>xf (F o) fun w=>cond (acc.all (D w)) (ih (w::acc)) false) os
theorem Za (F:Nat→Nat) (D:Nat→Nat→Bool) (o:Nat) (os acc:List Nat):zQ F D (o::os) acc=cond (acc.all (D (F o))) (zQ F D os (F o::acc)) false:=yB (F o) fun w=>cond (acc.all (D w)) (zQ F D os (w::acc)) false
theorem Rn {F:Nat→Nat} {D:Nat→Nat→Bool}:∀ {os acc:List Nat},zQ F D os acc=true→os.Pairwise (fun a b=>D (F b) (F a)=true)∧∀ o∈os,∀ w∈acc,D (F o) w=true
  | [],_,_=>⟨List.Pairwise.nil,fun o ho=>by cases ho⟩
  | o::os,acc,h=>by
    rw[Za] at h;cases hc:acc.all (D (F o)) with
    | false=>rw[hc,cond_false] at h; cases h
    | true =>
      rw[hc,cond_true] at h;obtain⟨h1,h2⟩:=Rn h;refine⟨List.Pairwise.cons (fun b hb=>h2 b hb _ (aqj ..)) h1,fun b hb w hw=>?_⟩;rcases aqh.1 hb with rfl | hb
      ·exact ap9.1 hc w hw
      ·exact h2 b hb w (aqf _ hw)
def uG (x:Nat):UInt32:=(zP (UInt32.ofNat x)).getD 0 0
noncomputable def Eh (os:List Nat) (L:Nat):Bool:=xf (jb L) fun one=>xf (jr L) fun m=>xf (pk (fun s=>s) L) fun io=>xf (Nat.mul 4294967295 one) fun on=>zQ (fun o=>Lk (Eg one m (Nat.add io (Nat.mul o one)))) (K6 on one) os []
theorem Ro {os:List Nat} {L:Nat} (h:Eh os L=true) (hL:L≤100000) (hos:∀ o∈os,o≤4000000000) {s:Nat} (hs:s<L):os.Pairwise fun a b=>uG (s+a)≠uG (s+b):=by
  unfold Eh at h;rw[yB,yB,yB,yB] at h;have h1:=(Rn h).1;have key:∀ o,o≤4000000000→Lk (Eg (jb L) (jr L) (Nat.add (pk (fun s=>s) L) (Nat.mul o (jb L))))=pw (fun s=>uG (s+o)) L:=fun o ho=>by
    have e:Nat.add (pk (fun s=>s) L) (Nat.mul o (jb L))=pw (fun s=>UInt32.ofNat (s+o)) L:=by
      rw[BS,lY];refine jP fun s hs=>?_
      rw[UInt32.toNat_ofNat_of_lt' (by simp only[UInt32.size]; omega)]
      show s+o*1=_
      omega
    rw[e,agZ,apb];rfl
  refine List.Pairwise.imp_of_mem ?_ h1;intro a b ha hb hd;rw[key a (hos a ha),key b (hos b hb)] at hd;exact (ag0 hd hs).symm
theorem Rp {x n:Nat} (hx:x<4294967296) (hn:4≤n):(bu (x:Int) (n:Int)).take 4=aG (uG x).toNat 4:=by
  have e1:((x:Int)%18446744073709551616).toNat=x:=by omega
  have e2:((n:Int).toNat+31) / 32=((n:Int).toNat+31) / 32-1+1:=by omega
  have e3:lW x (((n:Int).toNat+31) / 32)=tI x 0++(((List.range (((n:Int).toNat+31) / 32-1)).map Nat.succ).map (tI x)).flatten:=by
    unfold lW;rw[e2,List.range_succ_eq_map,apW,aqD];rfl
  have hw:=ao6 (UInt32.ofNat x);rw[UInt32.toNat_ofNat_of_lt' (show x<UInt32.size by simp only[UInt32.size]; omega)] at hw;have hl:(zP (UInt32.ofNat x)).length=8:=Ff _ _;unfold bu;rw[e1,e3,hw,arU,aq0 (by omega)];unfold uG
  match zP (UInt32.ofNat x),hl with
  | [a,b,c,d,e,f,g,i],_ =>
    unfold iY;simp only[aqb,ap6];exact List.take_left' (bS _ _)
theorem amT {a b:UInt32} (h:aG a.toNat 4=aG b.toNat 4):a=b:=by
  have e:=congrArg xa h;rw[GQ,GQ,ar3 (show a.toNat<256^4 from a.toNat_lt),ar3 (show b.toNat<256^4 from b.toNat_lt)] at e;exact UInt32.toNat_inj.1 e
theorem Vk {x y n m:Nat} (hx:x<4294967296) (hy:y<4294967296) (hn:4≤n) (hm:4≤m) (h:uG x≠uG y):(bu (x:Int) (n:Int)).take 4≠(bu (y:Int) (m:Int)).take 4:=by
  rw[Rp hx hn,Rp hy hm];exact fun e=>h (amT e)

def DI:List Nat:=[2000000,4000000]++(((List.range 8).map fun i=>77+i)++(((List.range 8).map fun i=>999+i)++(List.range 3).flatMap fun i=>(List.range 8).map fun k=>800000000+1000*i+k))
set_option maxRecDepth 100000 in
theorem amU:Eh DI 1000=true:=by decide +kernel
theorem Ju:∀ o∈DI,o≤4000000000:=by decide +kernel
theorem apc {s:Nat} (hs:s<1000):(DI.map fun o=>bu ((s+o:Nat):Int) 16).Nodup:=by
  rw[arl,List.pairwise_map];refine (List.Pairwise.imp_of_mem ?_ (Ro amU (by decide) Ju hs));intro a b ha hb hab e;have h1:=Ju a ha;have h2:=Ju b hb;exact Vk (n:=16) (m:=16) (by omega) (by omega) (by decide) (by decide) hab (congrArg (List.take 4) e)
def wI:List Nat:=(List.range 8).map fun i=>2000000*(i+1)
def DJ:List Nat:=(List.range 6).flatMap fun i=>(List.range 8).map fun k=>500000000+1000*i+k
set_option maxRecDepth 100000 in
theorem amZ:Eh (wI++DJ) 1000=true:=by decide +kernel
theorem Jv:∀ o∈wI++DJ,o≤4000000000:=by decide +kernel
theorem ape {s:Nat} (hs:s<1000):((wI++DJ).map fun o=>bu ((s+o:Nat):Int) 16).Nodup:=by
  rw[arl,List.pairwise_map];refine (List.Pairwise.imp_of_mem ?_ (Ro amZ (by decide) Jv hs));intro a b ha hb hab e;have h1:=Jv a ha;have h2:=Jv b hb;exact Vk (n:=16) (m:=16) (by omega) (by omega) (by decide) (by decide) hab (congrArg (List.take 4) e)
end Go.Proofs.YtnjhelpgohdajaaGreatDoor
