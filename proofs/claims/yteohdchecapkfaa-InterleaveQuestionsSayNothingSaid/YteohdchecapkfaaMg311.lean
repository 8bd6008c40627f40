/- Texts of one's own, merged: from: Layer 1 on data: Put,Get,Same,Join,Hex: what they return. Own work. -/
import Derived.Test.YteohdchecapkfaaProg
import Derived.Test.YteohdchecapkfaaMg37
set_option linter.unusedVariables false
set_option linter.unusedSimpArgs false
namespace Go.Proofs.Yteohdchecapkfaa
open Go.RowKit IntWalk
set_option maxHeartbeats 400000
theorem zh {l:List UInt8} {i:Nat} {x:D} (hi:i<l.length) (hx:x.one=true):dZ .sc (.c (.d x)) i 0 (.row 1 (l.map bD))=some (.row 1 ((l.map bD).set i x)):=by
  simp[dZ,gd,z4 hi,bD,cu,hx]
theorem zi (l:List UInt8) (i:Nat) (x:UInt8):(l.map bD).set i (bD x)=(l.set i x).map bD:=yo bD l i x
theorem zK (n:Nat):List.replicate n (D.int .u8 0)=(List.replicate n (0:UInt8)).map bD:=by simp[bD]
def aR (v n:Nat):List UInt8:=(List.range n).map fun i=>UInt8.ofNat (v / 256^(n-1-i))
def c8 (v n m:Nat):List UInt8:=List.replicate m 0++(aR v n).drop m
def kH (v:Nat) (n:Int):List UInt8:=if 0≤n∧n≤64 then aR v n.toNat else []
theorem fS (v n:Nat):(aR v n).length=n:=by simp[aR]
theorem lB (v n m:Nat) (h:m≤n):(c8 v n m).length=n:=by simp[c8,fS]; omega
theorem w9 (v n:Nat):c8 v n 0=aR v n:=by simp[c8]
theorem xa (v n:Nat):c8 v n n=List.replicate n 0:=by simp[c8,fS]
theorem xb (v n i:Nat) (h:i+1≤n):c8 v n i=(c8 v n (i+1)).set i (UInt8.ofNat (v / 256^(n-(i+1)))):=by
  apply List.ext_getElem?;intro j;rw[List.getElem?_set];have hl:i<(aR v n).length:=by rw[fS]; omega
  by_cases hj:i=j
  ·subst hj;rw[if_pos rfl,if_pos (by rw[lB _ _ _ h]; omega)];simp only[c8,List.getElem?_append,AC,Nat.lt_irrefl,if_false,Nat.sub_self,AP,A5];rw[z4 hl];simp[aR,Nat.sub_sub,Nat.add_comm 1 i]
  ·rw[if_neg hj];simp only[c8,List.getElem?_append,AC,List.getElem?_replicate,AP];by_cases h1:j<i
   ·rw[if_pos h1,if_pos h1,if_pos (by omega),if_pos (by omega)]
   ·rw[if_neg h1,if_neg (by omega)]
    congr 1; omega
theorem byte_of (v:Nat):D.int .u8 (IntKind.u8.wrap (v:Int))=bD (UInt8.ofNat v):=by
  rw[IntKind.wrap_u8];simp[bD]
def kl (v n m:Nat):St:=⟨dq [(0,.w (.c (.d (.int .u64 ((v / 256^(n-m):Nat):Int))))),(5,.w (.c (.own 1 1 0 n))),(6,.w (.c (.d (.int .i64 ((m:Int)-1)))))],hL [(1,.row 1 ((c8 v n m).map bD))],uL [1]⟩
def jm:aL := .seq (ak [oM 17 6,ca .geq 18 17 0] (bc 18 .skip (.exit 0))) (.seq (.block 1 (ak [oM 21 5,oM 22 6,oM 23 0,oO 24 (.conv .u8 (.t 23)),gz 25 1 21 22,fF 25 24] (.reg [oM 26 0,oO 27 (.bin .shr (.t 26) (.k (.c (.d (.int .u64 8))))),oM 0 27]))) (.reg [oM 19 6,ca .sub 20 19 1,oM 6 20]))
def hP:bd:=⟨2,29,ak [dn 4] (.seq (ak [oM 7 1,ca .lss 8 7 0,oM 9 8,cA 10 1 9 false,cr .gtr 11 10 64 9 false,cq 12 9 11] (bc 12 (ak [dn 4] .ret) .skip)) (ak [oM 13 1,oO 14 (.make true 1 1 iJ (.t 13) (.t 13)),oM 5 14] (.seq (ak [oM 15 1,ca .sub 16 15 1,oM 6 16] (.block 0 (.loop jm))) (ak [oM 28 5,oM 4 28] .ret)))),[(4,none)]⟩
theorem rn:a7 Try.prog {} Try.f28=some hP:=by kernel_rfl
theorem yy (G:ap) (v n:Nat) (hn:n≤64):aW Try.prog G 28 [.int .u64 v,.int .i64 n] (.w (.c (.fr 1 ((aR v n).map bD)))):=by
  refine bB Try.func28 rn rfl rfl ?_;have e1:IntKind.i64.wrap ((n:Int)-1)=(n:Int)-1:=IntWalk.i64_in _ (by omega);simp only[hP,ar,wx,ai,seval,iteOmega,toNatUp,e1];refine jU (kl v n) (fun m=>m) (fun m=>m≤n) n (Ac _) ?_ ?_
  ·refine fv (fun _=>112) ?_ ?_ rfl rfl <;> simp only[wx,fJ,ai,seval,iteOmega,toNatUp,xa,zK,Nat.sub_self,Nat.pow_zero,Nat.div_one]
  ·intro m hm;rcases AK m with rfl | hpos
   ·simp only[jm,kl,wx,ai,seval,iteOmega,toNatUp,w9];refine jV (id:=1) (n:=n) (s:=1) ?_ ?_ ?_ <;> simp only[wx,ai,seval,iteOmega,toNatUp,fS]
   ·obtain⟨i,rfl⟩:∃ i,m=i+1:=⟨m-1,by omega⟩
    have e2:((i+1:Nat):Int)-1=(i:Int):=by omega
    have hlt:i<(c8 v n (i+1)).length:=by rw[lB _ _ _ hm]; omega
    have e3:IntKind.i64.wrap ((i:Int)-1)=(i:Int)-1:=IntWalk.i64_in _ (by omega);simp only[jm,kl,wx,ai,seval,iteOmega,toNatUp,e2,e3,Nat.zero_add,A5,byte_of,zh hlt (kj _),zi,← xb _ _ _ hm,IntKind.bits];refine jE i (by omega) (by omega) (fv id ?_ ?_ rfl rfl) <;> simp only[wx,fJ,ai,seval,iteOmega,toNatUp];have e4:v / 256^(n-(i+1)) / 256=v / 256^(n-i):=by
      rw[show n-i=n-(i+1)+1 by omega,Nat.pow_succ,← Nat.div_div_eq_div_mul]
    simpa using congrArg (Nat.cast:Nat→Int) e4
theorem zj (G:ap) (v:Nat) (n:Int):aW Try.prog G 28 [.int .u64 v,.int .i64 n] (.w (.c (.fr 1 ((kH v n).map bD)))):=by
  unfold kH;by_cases h:0≤n∧n≤64
  ·rw[if_pos h];obtain⟨n,rfl⟩:=A4 h.1;exact yy G v n (by omega)
  ·rw[if_neg h];refine bB Try.func28 rn rfl rfl ?_;by_cases h0:n<0
   ·simp only[hP,ar,wx,ai,seval,iteOmega,toNatUp];exact qX (by simp[wx,ai,seval,iteOmega,toNatUp])
   ·have h1:64<n:=by omega
    simp only[hP,ar,wx,ai,seval,iteOmega,toNatUp];exact qX (by simp[wx,ai,seval,iteOmega,toNatUp])
theorem toList_mk (l:List UInt8):(⟨l.toArray⟩:ByteArray).toList=l:=Go.ByteArray.toList_mk l
theorem xc (l m:List UInt8):em .eql ⟨l.toArray⟩ ⟨m.toArray⟩=some (.bool (l==m)):=by
  simp only[em,toList_mk]
def px:bd:=⟨2,10,ak [ce 4 false] (ak [oM 5 0,oO 6 (.b2s (.t 5)),oM 7 1,oO 8 (.b2s (.t 7)),dE .eql 9 6 8,oM 4 9] .ret),[(4,none)]⟩
theorem xP:a7 Try.prog {} Try.f16=some px:=by kernel_rfl
theorem yz (G:ap) (l m:List UInt8):aW Try.prog G 16 [.sl (l.map bD),.sl (m.map bD)] (.w (.c (.d (.bool (l==m))))):=by
  refine bB Try.func16 xP rfl rfl ?_;simp only[px,ar,wx,ai,seval,iteOmega,toNatUp,pc,xc];exact zI (by simp only[wx,ai,seval,iteOmega,toNatUp])
def jY (ls:List (List UInt8)) (i:Nat):St:=⟨dq [(0,.w (.c (.d (.sl (ls.map fun l=>D.sl (l.map bD)))))),(3,.w (.c (.own 1 1 0 ((ls.take i).flatten).length))),(4,.w (.c (.d (.int .i64 (i:Int)))))],hL [(1,.row 1 (((ls.take i).flatten).map bD))],uL [1]⟩
theorem m8 {α:Type} (ls:List (List α)) (i:Nat) (h:i<ls.length):(ls.take (i+1)).flatten=(ls.take i).flatten++ls[i]:=by
  rw[List.take_succ_eq_append_getElem h,List.flatten_append]; simp
theorem yA {α:Type} (ls:List (List α)) (i:Nat) (h:i<ls.length):(ls.take i).flatten.length+ls[i].length≤ls.flatten.length:=by
  have h1:=m8 ls i h;have h2:ls.flatten=(ls.take (i+1)).flatten++(ls.drop (i+1)).flatten:=by rw[← List.flatten_append,List.take_append_drop]
  have h3:=congrArg List.length h2;rw[Av,h1,Av] at h3;omega
def je:aL := .seq (ak [oM 6 4,oM 7 0,gy 8 7,dE .lss 9 6 8] (bc 9 .skip (.exit 0))) (.seq (.block 1 (.reg [oM 12 3,oM 13 0,oM 14 4,gz 15 1 13 14,aP 16 15,oO 17 (.app false 1 1 (.t 12) (.t 16)),oM 3 17])) (.reg [oM 10 4,ca .add 11 10 1,oM 4 11]))
def py:bd:=⟨1,19,ak [dn 2] (ak [oO 5 (.bldSl true 0 1 iJ []),oM 3 5] (.seq (ak [aX 4 0] (.block 0 (.loop je))) (ak [oM 18 3,oM 2 18] .ret))),[(2,none)]⟩
theorem xQ:a7 Try.prog { own:=[5] } Try.f27=some py:=by kernel_rfl
theorem yB (G:ap) (ls:List (List UInt8)) (hl:ls.length≤9223372036854775807) (hf:ls.flatten.length≤140737488355328):aW Try.prog G 27 [.sl (ls.map fun l=>D.sl (l.map bD))] (.w (.c (.fr 1 (ls.flatten.map bD)))):=by
  refine bB Try.func27 xQ rfl rfl ?_;simp only[py,ar,wx,ai,seval,iteOmega,toNatUp];refine jU (jY ls) (fun i=>ls.length-i) (fun i=>i≤ls.length) 0 (A9 _) ?_ ?_
  ·refine fv (fun _=>40) ?_ ?_ rfl rfl <;> simp only[wx,fJ,ai,seval,iteOmega,toNatUp]
  ·intro i hi;by_cases hlt:i<ls.length
   ·have e2:ls[i]?=some ls[i]:=z4 hlt;have e4:IntKind.i64.wrap ((i:Int)+1)=((i+1:Nat):Int):=by rw[IntWalk.i64_in _ (by omega)]; rfl
    have h5:=yA ls i hlt;simp only[je,jY,wx,ai,seval,iteOmega,toNatUp,gd,e2,e4,Nat.mul_one,cY];refine jE (i+1) (by omega) (by omega) (fv (fun _=>136) ?_ ?_ rfl rfl) <;> simp only[wx,fJ,ai,seval,iteOmega,toNatUp,m8 ls i hlt]
   ·have:ls.take i=ls:=AM (by omega);simp only[je,jY,wx,ai,seval,iteOmega,toNatUp,this];refine jV (id:=1) (n:=ls.flatten.length) (s:=1) ?_ ?_ ?_ <;> simp only[wx,ai,seval,iteOmega,toNatUp]
theorem u64_in (n:Int) (h₀:0≤n) (h₁:n<2^64):IntKind.u64.wrap n=n:=by rw[IntKind.wrap_u64]; omega
structure Hd where
  lp:Int
  vr:Int
  md:Int
  st:Int
  pl:Int
  pr:Int
  rd:Nat
  rp:Nat
  ri:Nat
  rf:Nat
  og:Nat
  rc:Nat
  tr:Nat
def Hd.z:Hd:=⟨0,0,0,0,0,0,0,0,0,0,0,0,0⟩
def eD (h:Hd):Prop:=0≤h.lp∧h.lp≤3∧(h.vr=3∨h.vr=4)∧0≤h.md∧h.md≤7∧0≤h.st∧h.st≤255∧-128≤h.pl∧h.pl≤127∧-128≤h.pr∧h.pr≤127
instance (h:Hd):Decidable (eD h):=by unfold eD; infer_instance
def c9 (h:Hd):Bool:=decide (eD h)
def vk (h:Hd):Prop:=h.rd<4294967296∧h.rp<4294967296∧h.ri<4294967296∧h.rf<18446744073709551616∧h.og<18446744073709551616∧h.rc<18446744073709551616∧h.tr<18446744073709551616
def cJ (v:Int):UInt8:=UInt8.ofNat (v%256).toNat
def vl (h:Hd):List UInt8:=aR h.rd 4++(aR h.rp 4++(aR h.ri 4++(aR h.rf 8++(aR h.og 8++(aR h.rc 8++aR h.tr 8)))))
def iO (h:Hd):List UInt8:=[cJ (h.lp*64+h.vr*8+h.md),cJ h.st,cJ h.pl,cJ h.pr]++vl h
theorem yC (v:Int):((cJ v).toNat:Int)=v%256:=by
  unfold cJ;rw[UInt8.toNat_ofNat']; omega
theorem eM (G:ap) (v:Nat) (k:Int) (hk:0≤k∧k≤64):aW Try.prog G 28 [.int .u64 (v:Int),.int .i64 k] (.w (.c (.fr 1 ((aR v k.toNat).map bD)))):=by
  have c:=zj G v k;rw[show kH v k=aR v k.toNat from if_pos hk] at c;exact c


end Go.Proofs.Yteohdchecapkfaa
