/- Texts of one's own, merged: from: Layer 1 on data: Put,Get,Same,Join,Hex: what they return. Own work. -/
import Derived.Test.YtofonnokanoflaaProg
import Derived.Test.YtofonnokanoflaaMg27
set_option linter.unusedVariables false
set_option linter.unusedSimpArgs false
namespace Go.Proofs.Ytofonnokanoflaa
open Go.RowKit IntWalk
set_option maxHeartbeats 400000
theorem gM {l:List UInt8} {i:Nat} {x:D} (hi:i<l.length) (hx:x.one=true):iy .sc (.c (.d x)) i 0 (.row 1 (l.map bD))=some (.row 1 ((l.map bD).set i x)):=by
  simp[iy,aV,UB hi,bD,eK,hx]
theorem Gp {l:List UInt32} {i:Nat} {x:D} (hi:i<l.length) (hx:x.one=true):iy .sc (.c (.d x)) i 0 (.row 1 (l.map wD))=some (.row 1 ((l.map wD).set i x)):=by
  simp[iy,aV,UB hi,wD,eK,hx]
theorem im (l:List UInt8) (i:Nat) (x:UInt8):(l.map bD).set i (bD x)=(l.set i x).map bD:=vg bD l i x
theorem Gq (l:List UInt32) (i:Nat) (x:UInt32):(l.map wD).set i (wD x)=(l.set i x).map wD:=vg wD l i x
theorem HW (n:Nat):List.replicate n (D.int .u8 0)=(List.replicate n (0:UInt8)).map bD:=by simp[bD]
def al (v n:Nat):List UInt8:=(List.range n).map fun i=>UInt8.ofNat (v / 256^(n-1-i))
def gn (v n m:Nat):List UInt8:=List.replicate m 0++(al v n).drop m
def sw (v:Nat) (n:Int):List UInt8:=if 0≤n∧n≤64 then al v n.toNat else []
theorem bp (v n:Nat):(al v n).length=n:=by simp[al]
theorem td (v n m:Nat) (h:m≤n):(gn v n m).length=n:=by simp[gn,bp]; omega
theorem zU (v n:Nat):gn v n 0=al v n:=by simp[gn]
theorem zV (v n:Nat):gn v n n=List.replicate n 0:=by simp[gn,bp]
theorem zW (v n i:Nat) (h:i+1≤n):gn v n i=(gn v n (i+1)).set i (UInt8.ofNat (v / 256^(n-(i+1)))):=by
  apply V9;intro j;rw[List.getElem?_set];have hl:i<(al v n).length:=by rw[bp]; omega
  by_cases hj:i=j
  ·subst hj;rw[if_pos rfl,if_pos (by rw[td _ _ _ h]; omega)];simp only[gn,List.getElem?_append,UW,Nat.lt_irrefl,if_false,Nat.sub_self,Vo,VH];rw[UB hl];simp[al,Nat.sub_sub,Nat.add_comm 1 i]
  ·rw[if_neg hj];simp only[gn,List.getElem?_append,UW,List.getElem?_replicate,Vo];by_cases h1:j<i
   ·rw[if_pos h1,if_pos h1,if_pos (by omega),if_pos (by omega)]
   ·rw[if_neg h1,if_neg (by omega)]
    congr 1; omega
theorem byte_of (v:Nat):D.int .u8 (IntKind.u8.wrap (v:Int))=bD (UInt8.ofNat v):=by
  rw[IntKind.wrap_u8];simp[bD]
def my (v n m:Nat):St:=⟨bc [(0,.w (.c (.d (.int .u64 ((v / 256^(n-m):Nat):Int))))),(5,.w (.c (.own 1 1 0 n))),(6,.w (.c (.d (.int .i64 ((m:Int)-1)))))],hL [(1,.row 1 ((gn v n m).map bD))],uL [1]⟩
def uE:aL := .seq (.seq (.reg [oM 17 6,oO 18 (.bin .geq (.t 17) (kI 0))]) (.cond (.t 18) (.skip) (.exit 0))) (.seq (.block 1 (.seq (.reg [oM 21 5,oM 22 6,oM 23 0,oO 24 (.conv .u8 (.t 23)),oO 25 (.idxSl 1 (.t 21) (.t 22)),oN (.store .sc (.t 25) (.t 24))]) (.reg [oM 26 0,oO 27 (.bin .shr (.t 26) (.k (.c (.d (.int .u64 8))))),oM 0 27]))) (.reg [oM 19 6,oO 20 (.bin .sub (.t 19) (kI 1)),oM 6 20]))
def qY:aB:=⟨2,29,.seq (.reg [oO 4 (.mv (.k (.c .nil)))]) (.seq (.seq (.reg [oM 7 1,oO 8 (.bin .lss (.t 7) (kI 0)),oM 9 8,oG 10 (.mv (.t 1)) 9 false,oG 11 (.bin .gtr (.t 10) (kI 64)) 9 false,oO 12 (.pick (.t 9) (.k (.c (.d (.bool true)))) (.t 11))]) (.cond (.t 12) (.seq (.reg [oO 4 (.mv (.k (.c .nil)))]) (.ret)) (.skip))) (.seq (.reg [oM 13 1,oO 14 (.make true 1 1 (.int .u8 0) (.t 13) (.t 13)),oM 5 14]) (.seq (.seq (.reg [oM 15 1,oO 16 (.bin .sub (.t 15) (kI 1)),oM 6 16]) (.block 0 (.loop uE))) (.seq (.reg [oM 28 5,oM 4 28]) (.ret))))),[(4,none)]⟩
theorem Gr:aA Try.prog { own:=[],comp:=[],frz:=[],nils:=[] } Try.f71=some qY:=by kernel_rfl
theorem v8 (G:aj) (v n:Nat) (hn:n≤64):ar Try.prog G 71 [.int .u64 v,.int .i64 n] (.w (.c (.fr 1 ((al v n).map bD)))):=by
  refine aF Try.func71 Gr rfl rfl ?_;have e1:IntKind.i64.wrap ((n:Int)-1)=(n:Int)-1:=IntWalk.i64_in _ (by omega);simp only[qY,ah,wx,aa,seval,iteOmega,toNatUp,e1];refine bH (my v n) (fun m=>m) (fun m=>m≤n) n (UJ _) ?_ ?_
  ·refine aG (fun _=>112) ?_ ?_ rfl rfl <;> simp only[wx,aw,aa,seval,iteOmega,toNatUp,zV,HW,Nat.sub_self,Nat.pow_zero,Nat.div_one]
  ·intro m hm;rcases Vs m with rfl | hpos
   ·simp only[uE,my,wx,aa,seval,iteOmega,toNatUp,zU];refine ft (id:=1) (n:=n) (s:=1) ?_ ?_ ?_ <;> simp only[wx,aa,seval,iteOmega,toNatUp,bp]
   ·obtain⟨i,rfl⟩:∃ i,m=i+1:=⟨m-1,by omega⟩
    have e2:((i+1:Nat):Int)-1=(i:Int):=by omega
    have hlt:i<(gn v n (i+1)).length:=by rw[td _ _ _ hm]; omega
    have e3:IntKind.i64.wrap ((i:Int)-1)=(i:Int)-1:=IntWalk.i64_in _ (by omega);simp only[uE,my,wx,aa,seval,iteOmega,toNatUp,e2,e3,VG,VH,byte_of,gM hlt (fO _),im,← zW _ _ _ hm,IntKind.bits];refine br i (by omega) (by omega) (aG id ?_ ?_ rfl rfl) <;> simp only[wx,aw,aa,seval,iteOmega,toNatUp];have e4:v / 256^(n-(i+1)) / 256=v / 256^(n-i):=by
      rw[show n-i=n-(i+1)+1 by omega,Nat.pow_succ,← Nat.div_div_eq_div_mul]
    simpa using congrArg (Nat.cast:Nat→Int) e4
theorem HX (G:aj) (v:Nat) (n:Int):ar Try.prog G 71 [.int .u64 v,.int .i64 n] (.w (.c (.fr 1 ((sw v n).map bD)))):=by
  unfold sw;by_cases h:0≤n∧n≤64
  ·rw[if_pos h];obtain⟨n,rfl⟩:=Vz h.1;exact v8 G v n (by omega)
  ·rw[if_neg h];refine aF Try.func71 Gr rfl rfl ?_;by_cases h0:n<0
   ·simp only[qY,ah,wx,aa,seval,iteOmega,toNatUp];exact vh (by simp[wx,aa,seval,iteOmega,toNatUp])
   ·have h1:64<n:=by omega
    simp only[qY,ah,wx,aa,seval,iteOmega,toNatUp];exact vh (by simp[wx,aa,seval,iteOmega,toNatUp])
def tM:aL := .seq (.seq (.reg [oM 17 6,oO 18 (.bin .geq (.t 17) (kI 0))]) (.cond (.t 18) (.skip) (.exit 0))) (.seq (.block 1 (.seq (.reg [oM 21 5,oM 22 6,oM 23 0,oO 24 (.conv .u8 (.t 23)),oO 25 (.idxSl 1 (.t 21) (.t 22)),oN (.store .sc (.t 25) (.t 24))]) (.reg [oM 26 0,oO 27 (.bin .shr (.t 26) (.k (.c (.d (.int .u64 8))))),oM 0 27]))) (.reg [oM 19 6,oO 20 (.bin .sub (.t 19) (kI 1)),oM 6 20]))
def D3:aB:=⟨2,29,.seq (.reg [oO 4 (.mv (.k (.c .nil)))]) (.seq (.seq (.reg [oM 7 1,oO 8 (.bin .lss (.t 7) (kI 0)),oM 9 8,oG 10 (.mv (.t 1)) 9 false,oG 11 (.bin .gtr (.t 10) (kI 64)) 9 false,oO 12 (.pick (.t 9) (.k (.c (.d (.bool true)))) (.t 11))]) (.cond (.t 12) (.seq (.reg [oO 4 (.mv (.k (.c .nil)))]) (.ret)) (.skip))) (.seq (.reg [oM 13 1,oO 14 (.make true 1 1 (.int .u8 0) (.t 13) (.t 13)),oM 5 14]) (.seq (.seq (.reg [oM 15 1,oO 16 (.bin .sub (.t 15) (kI 1)),oM 6 16]) (.block 0 (.loop tM))) (.seq (.reg [oM 28 5,oM 4 28]) (.ret))))),[(4,none)]⟩
theorem NP:aA Try.prog { own:=[],comp:=[],frz:=[],nils:=[] } Try.f26=some D3:=by kernel_rfl
theorem qD (G:aj) (v n:Nat) (hn:n≤64):ar Try.prog G 26 [.int .u64 v,.int .i64 n] (.w (.c (.fr 1 ((al v n).map bD)))):=by
  refine aF Try.func26 NP rfl rfl ?_;have e1:IntKind.i64.wrap ((n:Int)-1)=(n:Int)-1:=IntWalk.i64_in _ (by omega);simp only[D3,ah,wx,aa,seval,iteOmega,toNatUp,e1];refine bH (my v n) (fun m=>m) (fun m=>m≤n) n (UJ _) ?_ ?_
  ·refine aG (fun _=>112) ?_ ?_ rfl rfl <;> simp only[wx,aw,aa,seval,iteOmega,toNatUp,zV,HW,Nat.sub_self,Nat.pow_zero,Nat.div_one]
  ·intro m hm;rcases Vs m with rfl | hpos
   ·simp only[tM,my,wx,aa,seval,iteOmega,toNatUp,zU];refine ft (id:=1) (n:=n) (s:=1) ?_ ?_ ?_ <;> simp only[wx,aa,seval,iteOmega,toNatUp,bp]
   ·obtain⟨i,rfl⟩:∃ i,m=i+1:=⟨m-1,by omega⟩
    have e2:((i+1:Nat):Int)-1=(i:Int):=by omega
    have hlt:i<(gn v n (i+1)).length:=by rw[td _ _ _ hm]; omega
    have e3:IntKind.i64.wrap ((i:Int)-1)=(i:Int)-1:=IntWalk.i64_in _ (by omega);simp only[tM,my,wx,aa,seval,iteOmega,toNatUp,e2,e3,VG,VH,byte_of,gM hlt (fO _),im,← zW _ _ _ hm,IntKind.bits];refine br i (by omega) (by omega) (aG id ?_ ?_ rfl rfl) <;> simp only[wx,aw,aa,seval,iteOmega,toNatUp];have e4:v / 256^(n-(i+1)) / 256=v / 256^(n-i):=by
      rw[show n-i=n-(i+1)+1 by omega,Nat.pow_succ,← Nat.div_div_eq_div_mul]
    simpa using congrArg (Nat.cast:Nat→Int) e4
theorem toList_mk (l:List UInt8):(⟨l.toArray⟩:ByteArray).toList=l:=Go.ByteArray.toList_mk l
theorem zX (l m:List UInt8):kk .eql ⟨l.toArray⟩ ⟨m.toArray⟩=some (.bool (l==m)):=by
  simp only[kk,toList_mk]
def BX:aB:=⟨2,10,.seq (.reg [oO 4 (.mv (.k (.c (.d (.bool false)))))]) (.seq (.reg [oM 5 0,oO 6 (.b2s (.t 5)),oM 7 1,oO 8 (.b2s (.t 7)),oO 9 (.bin .eql (.t 6) (.t 8)),oM 4 9]) (.ret)),[(4,none)]⟩
theorem LS:aA Try.prog { own:=[],comp:=[],frz:=[],nils:=[] } Try.f14=some BX:=by kernel_rfl
theorem vj (G:aj) (l m:List UInt8):ar Try.prog G 14 [.sl (l.map bD),.sl (m.map bD)] (.w (.c (.d (.bool (l==m))))):=by
  refine aF Try.func14 LS rfl rfl ?_;simp only[BX,ah,wx,aa,seval,iteOmega,toNatUp,uC,zX];exact oe (by simp only[wx,aa,seval,iteOmega,toNatUp])
theorem kP (ls:List (List UInt8)):dh 1 (ls.map fun l=>D.sl (l.map bD))=true:=pF _ (fun _=>rfl) ls
def vk (ls:List (List UInt8)) (i:Nat):St:=⟨bc [(0,.w (.c (.d (.sl (ls.map fun l=>D.sl (l.map bD)))))),(3,.w (.c (.own 1 1 0 ((ls.take i).flatten).length))),(4,.w (.c (.d (.int .i64 (i:Int)))))],hL [(1,.row 1 (((ls.take i).flatten).map bD))],uL [1]⟩
theorem pH {α:Type} (ls:List (List α)) (i:Nat) (h:i<ls.length):(ls.take (i+1)).flatten=(ls.take i).flatten++ls[i]:=by
  rw[Vu h,List.flatten_append]; simp
theorem vl {α:Type} (ls:List (List α)) (i:Nat) (h:i<ls.length):(ls.take i).flatten.length+ls[i].length≤ls.flatten.length:=by
  have h1:=pH ls i h;have h2:ls.flatten=(ls.take (i+1)).flatten++(ls.drop (i+1)).flatten:=by rw[← List.flatten_append,Vh]
  have h3:=congrArg List.length h2;rw[UF,h1,UF] at h3;omega
def tx:aL := .seq (.seq (.reg [oM 6 4,oM 7 0,oO 8 (.len (.t 7)),oO 9 (.bin .lss (.t 6) (.t 8))]) (.cond (.t 9) (.skip) (.exit 0))) (.seq (.block 1 (.reg [oM 12 3,oM 13 0,oM 14 4,oO 15 (.idxSl 1 (.t 13) (.t 14)),oO 16 (.load .sc (.t 15)),oO 17 (.app false 1 1 (.t 12) (.t 16)),oM 3 17])) (.reg [oM 10 4,oO 11 (.bin .add (.t 10) (kI 1)),oM 4 11]))
def BZ:aB:=⟨1,19,.seq (.reg [oO 2 (.mv (.k (.c .nil)))]) (.seq (.reg [oO 5 (.bldSl true 0 1 (.int .u8 0) []),oM 3 5]) (.seq (.seq (.reg [oO 4 (.mv (kI 0))]) (.block 0 (.loop tx))) (.seq (.reg [oM 18 3,oM 2 18]) (.ret)))),[(2,none)]⟩
theorem LU:aA Try.prog { own:=[5],comp:=[],frz:=[],nils:=[] } Try.f25=some BZ:=by kernel_rfl
theorem D4 (G:aj) (ls:List (List UInt8)) (hl:ls.length≤9223372036854775807) (hf:ls.flatten.length≤140737488355328):ar Try.prog G 25 [.sl (ls.map fun l=>D.sl (l.map bD))] (.w (.c (.fr 1 (ls.flatten.map bD)))):=by
  refine aF Try.func25 LU rfl rfl ?_;simp only[BZ,ah,wx,aa,seval,iteOmega,toNatUp];refine bH (vk ls) (fun i=>ls.length-i) (fun i=>i≤ls.length) 0 (UR _) ?_ ?_
  ·refine aG (fun _=>40) ?_ ?_ rfl rfl <;> simp only[wx,aw,aa,seval,iteOmega,toNatUp]
  ·intro i hi;by_cases hlt:i<ls.length
   ·have e2:ls[i]?=some ls[i]:=UB hlt;have e4:IntKind.i64.wrap ((i:Int)+1)=((i+1:Nat):Int):=by rw[IntWalk.i64_in _ (by omega)]; rfl
    have h5:=vl ls i hlt;simp only[tx,vk,wx,aa,seval,iteOmega,toNatUp,aV,e2,e4,VT,ct];refine br (i+1) (by omega) (by omega) (aG (fun _=>136) ?_ ?_ rfl rfl) <;> simp only[wx,aw,aa,seval,iteOmega,toNatUp,pH ls i hlt]
   ·have:ls.take i=ls:=UG (by omega);simp only[tx,vk,wx,aa,seval,iteOmega,toNatUp,this];refine ft (id:=1) (n:=ls.flatten.length) (s:=1) ?_ ?_ ?_ <;> simp only[wx,aa,seval,iteOmega,toNatUp]
def vm (ls:List (List UInt8)) (i:Nat):St:=⟨bc [(0,.w (.c (.d (.sl (ls.map fun l=>D.sl (l.map bD)))))),(3,.w (.c (.d (.int .i64 (((ls.take i).flatten).length:Int))))),(9,.w (.c (.d (.sl (ls.map fun l=>D.sl (l.map bD)))))),(10,.w (.c (.d (.int .i64 (ls.length:Int))))),(11,.w (.c (.d (.int .i64 (i:Int)))))],hL [],uL []⟩
def vn (ls:List (List UInt8)) (i:Nat):St:=⟨bc [(6,.w (.c (.own 1 1 0 ((ls.take i).flatten).length))),(22,.w (.c (.d (.sl (ls.map fun l=>D.sl (l.map bD)))))),(23,.w (.c (.d (.int .i64 (ls.length:Int))))),(24,.w (.c (.d (.int .i64 (i:Int)))))],hL [(1,.row 1 (((ls.take i).flatten).map bD))],uL [1]⟩
def tN:aL := .seq (.reg [oO 12 (.bin .lss (.t 11) (.t 10))]) (.seq (.cond (.t 12) (.skip) (.exit 0)) (.seq (.block 1 (.seq (.reg [oO 13 (.idxSl 1 (.t 9) (.t 11)),oO 14 (.load .sc (.t 13)),oM 5 14]) (.reg [oM 15 3,oM 16 5,oO 17 (.len (.t 16)),oO 18 (.bin .add (.t 15) (.t 17)),oM 3 18]))) (.reg [oO 19 (.bin .add (.t 11) (kI 1)),oM 11 19])))
def tO:aL := .seq (.reg [oO 25 (.bin .lss (.t 24) (.t 23))]) (.seq (.cond (.t 25) (.skip) (.exit 2)) (.seq (.block 3 (.seq (.reg [oO 26 (.idxSl 1 (.t 22) (.t 24)),oO 27 (.load .sc (.t 26)),oM 8 27]) (.reg [oM 28 6,oM 29 8,oO 30 (.app false 1 1 (.t 28) (.t 29)),oM 6 30]))) (.reg [oO 31 (.bin .add (.t 24) (kI 1)),oM 24 31])))
def D5:aB:=⟨1,33,.seq (.reg [oO 2 (.mv (.k (.c .nil)))]) (.seq (.reg [oO 3 (.mv (kI 0))]) (.seq (.seq (.reg [oM 9 0,oO 10 (.len (.t 9)),oO 11 (.mv (kI 0))]) (.block 0 (.loop tN))) (.seq (.reg [oM 20 3,oO 21 (.make true 1 1 (.int .u8 0) (kI 0) (.t 20)),oM 6 21]) (.seq (.seq (.reg [oM 22 0,oO 23 (.len (.t 22)),oO 24 (.mv (kI 0))]) (.block 2 (.loop tO))) (.seq (.reg [oM 32 6,oM 2 32]) (.ret)))))),[(2,none)]⟩
theorem NQ:aA Try.prog { own:=[],comp:=[],frz:=[],nils:=[] } Try.f30=some D5:=by kernel_rfl
theorem dw (G:aj) (ls:List (List UInt8)) (hl:ls.length≤9223372036854775807) (hf:ls.flatten.length≤140737488355328):ar Try.prog G 30 [.sl (ls.map fun l=>D.sl (l.map bD))] (.w (.c (.fr 1 (ls.flatten.map bD)))):=by
  refine aF Try.func30 NQ rfl rfl ?_;simp only[D5,ah,wx,aa,seval,iteOmega,toNatUp];refine bH (vm ls) (fun i=>ls.length-i) (fun i=>i≤ls.length) 0 (UR _) ?_ ?_
  ·refine aG id ?_ ?_ rfl rfl <;> simp only[wx,aw,aa,seval,iteOmega,toNatUp]
  ·intro i hi;by_cases hlt:i<ls.length
   ·have e2:ls[i]?=some ls[i]:=UB hlt;have e4:IntKind.i64.wrap ((i:Int)+1)=((i+1:Nat):Int):=by rw[IntWalk.i64_in _ (by omega)]; rfl
    have h5:=vl ls i hlt;have e5:IntKind.i64.wrap (((ls.take i).flatten.length:Int)+(ls[i].length:Int))=(((ls.take (i+1)).flatten.length:Nat):Int):=by
      rw[pH ls i hlt,UF,IntWalk.i64_in _ (by omega)]; rfl
    simp only[tN,vm,wx,aa,seval,iteOmega,toNatUp,aV,e2,e4,e5];refine br (i+1) (by omega) (by omega) (aG id ?_ ?_ rfl rfl) <;> simp only[wx,aw,aa,seval,iteOmega,toNatUp]
   ·have:ls.take i=ls:=UG (by omega);simp only[tN,vm,wx,aa,seval,iteOmega,toNatUp,this,VT];refine bH (vn ls) (fun i=>ls.length-i) (fun i=>i≤ls.length) 0 (UR _) ?_ ?_
    ·refine aG (fun _=>168) ?_ ?_ rfl rfl <;> simp only[wx,aw,aa,seval,iteOmega,toNatUp]
    ·intro i hi;by_cases hlt:i<ls.length
     ·have e2:ls[i]?=some ls[i]:=UB hlt;have e4:IntKind.i64.wrap ((i:Int)+1)=((i+1:Nat):Int):=by rw[IntWalk.i64_in _ (by omega)]; rfl
      have h5:=vl ls i hlt;simp only[tO,vn,wx,aa,seval,iteOmega,toNatUp,aV,e2,e4,VT,ct];refine br (i+1) (by omega) (by omega) (aG (fun _=>240) ?_ ?_ rfl rfl) <;> simp only[wx,aw,aa,seval,iteOmega,toNatUp,pH ls i hlt]
     ·have:ls.take i=ls:=UG (by omega);simp only[tO,vn,wx,aa,seval,iteOmega,toNatUp,this];refine ft (id:=1) (n:=ls.flatten.length) (s:=1) ?_ ?_ ?_ <;> simp only[wx,aa,seval,iteOmega,toNatUp]
def aU (l:List UInt8):Nat:=l.foldl (fun a x=>(a*256+x.toNat)%18446744073709551616) 0
theorem D6 (l:List UInt8):aU l<18446744073709551616:=by
  unfold aU;rcases List.eq_nil_or_concat l with rfl | ⟨a,x,rfl⟩
  ·simp
  ·simp only[List.concat_eq_append,List.foldl_append,VD,Wl]; omega
theorem u64_in (n:Int) (h₀:0≤n) (h₁:n<2^64):IntKind.u64.wrap n=n:=by rw[IntKind.wrap_u64]; omega
theorem KH (a:List UInt8) (x:UInt8):bits .or .u64 (IntKind.u64.wrap ((aU a:Int)*256)) (x.toNat:Int)=(aU (a++[x]):Int):=by
  have hx:x.toNat<256:=x.toNat_lt
  have h1:=bits_join .u64 64 (by decide) u64_in 8 (IntKind.u64.wrap ((aU a:Int)*256)) (x.toNat:Int)
    (by rw[IntKind.wrap_u64]; omega) (by rw[IntKind.wrap_u64]; omega) (by rw[IntKind.wrap_u64]; omega) (by omega) (by omega) (by omega)
  rw[h1,IntKind.wrap_u64];simp only[aU,List.foldl_append,VD,Wl];omega
theorem KI (l:List UInt8) (j:Nat) (h:j<l.length):bits .or .u64 (IntKind.u64.wrap ((aU (l.take j):Int)*256)) (l[j].toNat:Int)=(aU (l.take (j+1)):Int):=by
  rw[KH,Vu h]
theorem LW (a b:List UInt8):aU (a++b)=(aU a*256^b.length+aU b)%18446744073709551616:=by
  have key:∀ (n:Nat) (b:List UInt8),b.length=n→aU (a++b)=(aU a*256^n+aU b)%18446744073709551616:=by
    intro n
    induction n with
    | zero =>
      intro b hb;have:b=[]:=Vi hb;subst this;have h0:aU []=0:=rfl;rw[UX,Nat.pow_zero,h0];have:=D6 a;omega
    | succ n ih =>
      intro b hb;rcases List.eq_nil_or_concat b with rfl | ⟨c,x,rfl⟩
      ·simp at hb
      ·rw[List.concat_eq_append] at hb ⊢;rw[← UV];have h1:∀ l:List UInt8,aU (l++[x])=(aU l*256+x.toNat)%18446744073709551616:=fun l=>by simp[aU]
       rw[h1,h1,ih c (by simpa using hb),Nat.pow_succ];generalize aU a=p;generalize aU c=q;generalize 256^n=r;have e:p*(r*256)=p*r*256:=by rw[Nat.mul_assoc]
       rw[e];generalize p*r=z;omega
  exact key _ b rfl
theorem KJ (l:List UInt8) (h:8<l.length):aU (l.drop (l.length-8))=aU l:=by
  have h1:=LW (l.take (l.length-8)) (l.drop (l.length-8));rw[Vh] at h1;have h2:(l.drop (l.length-8)).length=8:=by rw[UK]; omega
  rw[h2] at h1;have h3:=D6 (l.drop (l.length-8));rw[h1];have:(256:Nat)^8=18446744073709551616:=by decide
  rw[this];omega
def rJ (l:List UInt8) (i:Nat):St:=⟨bc [(3,.w (.c (.d (.int .u64 (aU (l.take i)))))),(14,.w (.c (.d (.sl (l.map bD))))),(15,.w (.c (.d (.int .i64 (l.length:Int))))),(16,.w (.c (.d (.int .i64 (i:Int)))))],hL [],uL []⟩
def qa:aL := .seq (.reg [oO 17 (.bin .lss (.t 16) (.t 15))]) (.seq (.cond (.t 17) (.skip) (.exit 0)) (.seq (.block 1 (.seq (.reg [oO 18 (.idxSl 1 (.t 14) (.t 16)),oO 19 (.load .sc (.t 18)),oM 5 19]) (.reg [oM 20 3,oO 21 (.bin .shl (.t 20) (.k (.c (.d (.int .u64 8))))),oM 22 5,oO 23 (.conv .u64 (.t 22)),oO 24 (.bin .or (.t 21) (.t 23)),oM 3 24]))) (.reg [oO 25 (.bin .add (.t 16) (kI 1)),oM 16 25])))
def v9:aB:=⟨1,27,.seq (.reg [oO 2 (.mv (.k (.c (.d (.int .u64 0)))))]) (.seq (.seq (.reg [oM 6 0,oO 7 (.len (.t 6)),oO 8 (.bin .gtr (.t 7) (kI 8))]) (.cond (.t 8) (.reg [oM 9 0,oM 10 0,oO 11 (.len (.t 10)),oO 12 (.bin .sub (.t 11) (kI 8)),oO 13 (.slice 1 (.t 9) (some (.t 12)) none none),oM 0 13]) (.skip))) (.seq (.reg [oO 3 (.mv (.k (.c (.d (.int .u64 0)))))]) (.seq (.seq (.reg [oM 14 0,oO 15 (.len (.t 14)),oO 16 (.mv (kI 0))]) (.block 0 (.loop qa))) (.seq (.reg [oM 26 3,oM 2 26]) (.ret))))),[(2,none)]⟩
theorem Qw:aA Try.prog { own:=[],comp:=[],frz:=[],nils:=[] } Try.f56=some v9:=by kernel_rfl
theorem HY (G:aj) (Q:AX→St→Prop) (l:List UInt8) (hl:l.length≤8) (σ:St) (he:ei σ (rJ l 0)) (hq:∀ f,f 3=.w (.c (.d (.int .u64 (aU l))))→Q (.ex 0) ⟨f,hN,uN⟩):bd Try.prog G (.loop qa) Q σ:=by
  refine bH (rJ l) (fun i=>l.length-i) (fun i=>i≤l.length) 0 (UR _) he ?_;intro i hi;by_cases hlt:i<l.length
  ·have hb:=l[i].toNat_lt;have e2:l[i]?=some l[i]:=UB hlt;have e3:IntKind.u64.wrap (l[i].toNat:Int)=(l[i].toNat:Int):=u64_in _ (by omega) (by omega);have e4:IntKind.i64.wrap ((i:Int)+1)=((i+1:Nat):Int):=by rw[IntWalk.i64_in _ (by omega)]; rfl
   have e5:=KI l i hlt;simp only[qa,rJ,wx,aa,seval,iteOmega,toNatUp,aV,e2,IntKind.bits,e3,e4];refine br (i+1) (by omega) (by omega) (aG id ?_ ?_ rfl rfl) <;> simp only[wx,aw,aa,seval,iteOmega,toNatUp,← e5]
  ·have:l.take i=l:=UG (by omega);simp only[qa,rJ,wx,aa,seval,iteOmega,toNatUp,this];exact hq _ (by simp only[wx,aa,seval,iteOmega,toNatUp])
theorem mz (G:aj) (l:List UInt8) (hl:l.length≤9223372036854775807):ar Try.prog G 56 [.sl (l.map bD)] (.w (.c (.d (.int .u64 (aU l))))):=by
  refine aF Try.func56 Qw rfl rfl ?_;by_cases h8:8<l.length
  ·have e0:IntKind.i64.wrap ((l.length:Int)-8)=((l.length-8:Nat):Int):=by rw[IntWalk.i64_in _ (by omega)]; omega
   have e1:(l.drop (l.length-8)).take (l.length-(l.length-8))=l.drop (l.length-8):=UG (by rw[UK]; omega);simp only[v9,ah,wx,aa,seval,iteOmega,toNatUp,e0,e1];refine HY G _ (l.drop (l.length-8)) (by rw[UK]; omega) _ ?_ fun f hf=>?_
   ·refine aG id ?_ ?_ rfl rfl <;> simp only[wx,aw,aa,seval,iteOmega,toNatUp] <;> rfl
   ·rw[KJ l h8] at hf;simp only[wx,aa,seval,iteOmega,toNatUp,hf];exact oe (by simp only[wx,aa,seval,iteOmega,toNatUp])
  ·simp only[v9,ah,wx,aa,seval,iteOmega,toNatUp];refine HY G _ l (by omega) _ ?_ fun f hf=>?_
   ·refine aG id ?_ ?_ rfl rfl <;> simp only[wx,aw,aa,seval,iteOmega,toNatUp] <;> rfl
   ·simp only[wx,aa,seval,iteOmega,toNatUp,hf];exact oe (by simp only[wx,aa,seval,iteOmega,toNatUp])
theorem Mb (x:UInt8):fW x=if dC x 7==1 then am (dB x 1) 27 else dB x 1:=by
  have:=kg (p:=fun x=>fW x==if dC x 7==1 then am (dB x 1) 27 else dB x 1) (by decide +kernel) x
  simpa using this
theorem Gt (x:UInt8):fI x 2=fW x:=by
  have:=kg (p:=fun x=>fI x 2==fW x) (by decide +kernel) x
  simpa using this
def wd:aB:=⟨1,11,.seq (.reg [oO 2 (.mv (.k (.c (.d (.int .u8 0)))))]) (.seq (.seq (.reg [oM 3 0,oO 4 (.bin .shr (.t 3) (.k (.c (.d (.int .u64 7))))),oO 5 (.bin .eql (.t 4) (.k (.c (.d (.int .u8 1)))))]) (.cond (.t 5) (.seq (.reg [oM 6 0,oO 7 (.bin .shl (.t 6) (.k (.c (.d (.int .u64 1))))),oO 8 (.bin .xor (.t 7) (.k (.c (.d (.int .u8 27))))),oM 2 8]) (.ret)) (.skip))) (.seq (.reg [oM 9 0,oO 10 (.bin .shl (.t 9) (.k (.c (.d (.int .u64 1))))),oM 2 10]) (.ret))),[(2,none)]⟩
theorem QC:aA Try.prog { own:=[],comp:=[],frz:=[],nils:=[] } Try.f93=some wd:=by kernel_rfl
theorem H1 (G:aj) (x:UInt8):ar Try.prog G 93 [bD x] (.w (.c (.d (bD (fW x))))):=by
  refine aF Try.func93 QC rfl rfl ?_;have h1:=Gj x .u64 7 7 rfl (by decide);have h2:=Qp (dC x 7) 1 1 rfl;have h3:=Gk x .u64 1 1 rfl (by decide);have h4:=Qr (dB x 1) 27 27 rfl;rw[Mb];cases h5:dC x 7==1
  ·rw[h5] at h2;simp only[wd,ah,h1,h2,h3,h4,ae,aa,seval,iteOmega,toNatUp,if_false,Bool.false_eq_true];exact aP
  ·rw[h5] at h2;simp only[wd,ah,h1,h2,h3,h4,ae,aa,seval,iteOmega,toNatUp,if_true];exact aP
def IQ:List UInt8:=[99,124,119,123,242,107,111,197,48,1,103,43,254,215,171,118,202,130,201,125,250,89,71,240,173,212,162,175,156,164,114,192,183,253,147,38,54,63,247,204,52,165,229,241,113,216,49,21,4,199,35,195,24,150,5,154,7,18,128,226,235,39,178,117,9,131,44,26,27,110,90,160,82,59,214,179,41,227,47,132,83,209,0,237,32,252,177,91,106,203,190,57,74,76,88,207,208,239,170,251,67,77,51,133,69,249,2,127,80,60,159,168,81,163,64,143,146,157,56,245,188,182,218,33,16,255,243,210,205,12,19,236,95,151,68,23,196,167,126,61,100,93,25,115,96,129,79,220,34,42,144,136,70,238,184,20,222,94,11,219,224,50,58,10,73,6,36,92,194,211,172,98,145,149,228,121,231,200,55,109,141,213,78,169,108,86,244,234,101,122,174,8,186,120,37,46,28,166,180,198,232,221,116,31,75,189,139,138,112,62,181,102,72,3,246,14,97,53,87,185,134,193,29,158,225,248,152,17,105,217,142,148,155,30,135,233,206,85,40,223,140,161,137,13,191,230,66,104,65,153,45,15,176,84,187,22]
theorem NW:IQ=xF:=by decide +kernel
set_option maxRecDepth 100000 in
theorem Mc:ByteArray.size ⟨#[99,124,119,123,242,107,111,197,48,1,103,43,254,215,171,118,202,130,201,125,250,89,71,240,173,212,162,175,156,164,114,192,183,253,147,38,54,63,247,204,52,165,229,241,113,216,49,21,4,199,35,195,24,150,5,154,7,18,128,226,235,39,178,117,9,131,44,26,27,110,90,160,82,59,214,179,41,227,47,132,83,209,0,237,32,252,177,91,106,203,190,57,74,76,88,207,208,239,170,251,67,77,51,133,69,249,2,127,80,60,159,168,81,163,64,143,146,157,56,245,188,182,218,33,16,255,243,210,205,12,19,236,95,151,68,23,196,167,126,61,100,93,25,115,96,129,79,220,34,42,144,136,70,238,184,20,222,94,11,219,224,50,58,10,73,6,36,92,194,211,172,98,145,149,228,121,231,200,55,109,141,213,78,169,108,86,244,234,101,122,174,8,186,120,37,46,28,166,180,198,232,221,116,31,75,189,139,138,112,62,181,102,72,3,246,14,97,53,87,185,134,193,29,158,225,248,152,17,105,217,142,148,155,30,135,233,206,85,40,223,140,161,137,13,191,230,66,104,65,153,45,15,176,84,187,22]⟩=256:=rfl
set_option maxRecDepth 100000 in
theorem QD (x:UInt8):(ByteArray.data ⟨#[99,124,119,123,242,107,111,197,48,1,103,43,254,215,171,118,202,130,201,125,250,89,71,240,173,212,162,175,156,164,114,192,183,253,147,38,54,63,247,204,52,165,229,241,113,216,49,21,4,199,35,195,24,150,5,154,7,18,128,226,235,39,178,117,9,131,44,26,27,110,90,160,82,59,214,179,41,227,47,132,83,209,0,237,32,252,177,91,106,203,190,57,74,76,88,207,208,239,170,251,67,77,51,133,69,249,2,127,80,60,159,168,81,163,64,143,146,157,56,245,188,182,218,33,16,255,243,210,205,12,19,236,95,151,68,23,196,167,126,61,100,93,25,115,96,129,79,220,34,42,144,136,70,238,184,20,222,94,11,219,224,50,58,10,73,6,36,92,194,211,172,98,145,149,228,121,231,200,55,109,141,213,78,169,108,86,244,234,101,122,174,8,186,120,37,46,28,166,180,198,232,221,116,31,75,189,139,138,112,62,181,102,72,3,246,14,97,53,87,185,134,193,29,158,225,248,152,17,105,217,142,148,155,30,135,233,206,85,40,223,140,161,137,13,191,230,66,104,65,153,45,15,176,84,187,22]⟩).toList[x.toNat]?=some (dl x):=by
  have e:(ByteArray.data ⟨#[99,124,119,123,242,107,111,197,48,1,103,43,254,215,171,118,202,130,201,125,250,89,71,240,173,212,162,175,156,164,114,192,183,253,147,38,54,63,247,204,52,165,229,241,113,216,49,21,4,199,35,195,24,150,5,154,7,18,128,226,235,39,178,117,9,131,44,26,27,110,90,160,82,59,214,179,41,227,47,132,83,209,0,237,32,252,177,91,106,203,190,57,74,76,88,207,208,239,170,251,67,77,51,133,69,249,2,127,80,60,159,168,81,163,64,143,146,157,56,245,188,182,218,33,16,255,243,210,205,12,19,236,95,151,68,23,196,167,126,61,100,93,25,115,96,129,79,220,34,42,144,136,70,238,184,20,222,94,11,219,224,50,58,10,73,6,36,92,194,211,172,98,145,149,228,121,231,200,55,109,141,213,78,169,108,86,244,234,101,122,174,8,186,120,37,46,28,166,180,198,232,221,116,31,75,189,139,138,112,62,181,102,72,3,246,14,97,53,87,185,134,193,29,158,225,248,152,17,105,217,142,148,155,30,135,233,206,85,40,223,140,161,137,13,191,230,66,104,65,153,45,15,176,84,187,22]⟩).toList=IQ:=rfl;rw[e,NW]; exact Ma x
set_option maxRecDepth 100000
def z1:ByteArray:=⟨#[99,124,119,123,242,107,111,197,48,1,103,43,254,215,171,118,202,130,201,125,250,89,71,240,173,212,162,175,156,164,114,192,183,253,147,38,54,63,247,204,52,165,229,241,113,216,49,21,4,199,35,195,24,150,5,154,7,18,128,226,235,39,178,117,9,131,44,26,27,110,90,160,82,59,214,179,41,227,47,132,83,209,0,237,32,252,177,91,106,203,190,57,74,76,88,207,208,239,170,251,67,77,51,133,69,249,2,127,80,60,159,168,81,163,64,143,146,157,56,245,188,182,218,33,16,255,243,210,205,12,19,236,95,151,68,23,196,167,126,61,100,93,25,115,96,129,79,220,34,42,144,136,70,238,184,20,222,94,11,219,224,50,58,10,73,6,36,92,194,211,172,98,145,149,228,121,231,200,55,109,141,213,78,169,108,86,244,234,101,122,174,8,186,120,37,46,28,166,180,198,232,221,116,31,75,189,139,138,112,62,181,102,72,3,246,14,97,53,87,185,134,193,29,158,225,248,152,17,105,217,142,148,155,30,135,233,206,85,40,223,140,161,137,13,191,230,66,104,65,153,45,15,176,84,187,22]⟩
def Gu:aB:=⟨1,5,.seq (.reg [oO 2 (.mv (.k (.c (.d (.int .u8 0)))))]) (.seq (.reg [oM 3 0,oO 4 (.idxStr (.k (.c (.d (.str z1)))) (.t 3)),oM 2 4]) (.ret)),[(2,none)]⟩
theorem QE:aA Try.prog { own:=[],comp:=[],frz:=[],nils:=[] } Try.f103=some Gu:=by kernel_rfl
theorem om (G:aj) (x:UInt8):ar Try.prog G 103 [bD x] (.w (.c (.d (bD (dl x))))):=by
  refine aF Try.func103 QE rfl rfl ?_;have h:=jX x;have e:=QD x;simp only[Gu,z1,ah,ae,aa,seval,iteOmega,toNatUp,Mc,e];exact aP
def bq (f:Nat→UInt8) (l:List UInt8) (i:Nat):List UInt8:=(List.range i).map f++l.drop i
theorem l5 (f:Nat→UInt8) (l:List UInt8) {i:Nat} (h:i≤l.length):(bq f l i).length=l.length:=by
  unfold bq; rw[UF,UQ,VX,UK]; omega
theorem nv (f:Nat→UInt8) (l:List UInt8):bq f l 0=l:=by simp[bq]
theorem Cd (f:Nat→UInt8) (l:List UInt8) {i:Nat} (h:l.length≤i):bq f l i=(List.range i).map f:=by
  unfold bq; rw[VA h,UX]
theorem D9 (f:Nat→UInt8) (l:List UInt8) {i j:Nat} (hj:i≤j):(bq f l i)[j]?=l[j]?:=by
  unfold bq;rw[Vm (by simpa using hj),Vo,UQ,VX,show i+(j-i)=j by omega]
theorem Md (f:Nat→UInt8) (l:List UInt8) {i j:Nat} (hj:j<i):(bq f l i)[j]?=some (f j):=by
  unfold bq;rw[Vk (by simpa using hj)];simp[hj]
theorem nx (f:Nat→UInt8) (l:List UInt8) {i:Nat} (h:i<l.length):(bq f l i).set i (f i)=bq f l (i+1):=by
  unfold bq;rw[List.set_append_right _ _ (by simp),UQ,VX,Nat.sub_self,List.drop_eq_getElem_cons h,List.set_cons_zero,VZ,U6,UV];rfl
theorem dJ {l:List UInt8} {j:Nat} (h:j<l.length):l[j]?=some (l.getD j 0):=by
  rw[UD,UB h]; rfl
theorem Us:bD 1=.int .u8 1:=rfl
set_option maxHeartbeats 1600000
def lw (s k:List UInt8):List UInt8:=bF (fR (aS s) (aS k))
def mO (s:List UInt8):List UInt8:=bF (gO (aS s))
def oB (s:List UInt8):List UInt8:=bF (fS (aS s))
theorem Me (s k:List UInt8):(lw s k).length=16:=eY _
theorem uG (s:List UInt8):(mO s).length=16:=eY _
theorem Ce (s:List UInt8):(oB s).length=16:=eY _
theorem kX (f:cV):H0 (aS (bF f)) f:=fun j hj=>by
  unfold aS; rw[UD,qF f hj]; rfl
theorem uH (f g:cV):lw (bF f) (bF g)=bF (fR f g):=tS fun j hj=>by
  unfold fR; rw[kX f j hj,kX g j hj]
theorem Cf (f:cV):mO (bF f)=bF (gO f):=tS fun j hj=>by
  unfold gO; rw[kX f _ (by omega)]
theorem Mf (f:cV):oB (bF f)=bF (fS f):=tS fun j hj=>by
  unfold fS; rw[kX f _ (by omega),kX f _ (by omega),kX f _ (by omega),kX f _ (by omega)]
theorem fF:[D.int .u8 0,.int .u8 0,.int .u8 0,.int .u8 0,.int .u8 0,.int .u8 0,.int .u8 0,.int .u8 0,.int .u8 0,.int .u8 0,.int .u8 0,.int .u8 0,.int .u8 0,.int .u8 0,.int .u8 0,.int .u8 0]=(bf 16 (0:UInt8)).map bD:=rfl
theorem qG (f:cV) {l:List UInt8} (h:l.length=16):bq f l 16=bF f:=Cd f l (by omega)
theorem lh (a b:Nat):Int.tmod (a:Int) (b:Int)=((a%b:Nat):Int):=rfl
def wT (s k:List UInt8) (i:Nat):St:=⟨bc [(2,.w (.c (.pa 1 1))),(4,.w (.c (.pa 2 1))),(7,.w (.c (.d (.agg (k.map bD))))),(8,.w (.c (.d (.int .i64 (i:Int)))))],hL [(1,.row 1 ((bq (fR (aS s) (aS k)) s i).map bD)),(2,.row 1 ((bf 16 (0:UInt8)).map bD))],uL [1,2]⟩
def uI:aL := .seq (.reg [oO 9 (.bin .lss (.t 8) (kI 16))]) (.seq (.cond (.t 9) (.skip) (.exit 0)) (.seq (.block 1 (.seq (.reg [oM 10 8,oO 11 (.idxArr 1 16 .sc (.t 7) (.t 8)),oM 5 10,oM 6 11]) (.reg [oM 12 5,oO 13 (.idxPa 1 16 (.t 2) (.t 12)),oO 14 (.load .sc (.t 13)),oM 15 6,oO 16 (.bin .xor (.t 14) (.t 15)),oO 17 (.idxPa 1 16 (.t 2) (.t 12)),oN (.store .sc (.t 17) (.t 16))]))) (.reg [oO 18 (.bin .add (.t 8) (kI 1)),oM 8 18])))
def Gv:aB:=⟨2,20,.seq (.reg [oO 2 (.box .ownArr (.t 0)),oO 3 (.box .roArr (.t 1)),oO 4 (.allocArr [(.int .u8 0),(.int .u8 0),(.int .u8 0),(.int .u8 0),(.int .u8 0),(.int .u8 0),(.int .u8 0),(.int .u8 0),(.int .u8 0),(.int .u8 0),(.int .u8 0),(.int .u8 0),(.int .u8 0),(.int .u8 0),(.int .u8 0),(.int .u8 0)])]) (.seq (.seq (.reg [oO 7 (.load (.ag 16) (.t 3)),oO 8 (.mv (kI 0))]) (.block 0 (.loop uI))) (.seq (.reg [oO 19 (.load (.ag 16) (.t 2)),oN (.store (.ag 16) (.t 4) (.t 19))]) (.ret))),[(4,(some (.ag 16)))]⟩
theorem QF:aA Try.prog { own:=[2],comp:=[],frz:=[],nils:=[] } Try.f95=some Gv:=by kernel_rfl
theorem wU (G:aj) (s k:List UInt8) (hs:s.length=16) (hk:k.length=16):ar Try.prog G 95 [.agg (s.map bD),.agg (k.map bD)] (.w (.c (.d (.agg ((lw s k).map bD))))):=by
  refine aF Try.func95 QF rfl rfl ?_;simp only[Gv,ah,ae,aa,seval,iteOmega,toNatUp,fF,gH,hk];refine bH (wT s k) (fun i=>16-i) (fun i=>i≤16) 0 (UR _) ?_ ?_
  ·refine aG (fun i=>if i=1 then 16 else 32) ?_ ?_ rfl rfl <;> simp only[wx,aw,aH,aa,seval,iteOmega,toNatUp,nv]
  ·intro i hi;have hl:(bq (fR (aS s) (aS k)) s i).length=16:=by rw[l5 _ _ (by omega)]; exact hs
   by_cases hlt:i<16
   ·have g1:k[i]?=some (k.getD i 0):=dJ (by omega);have g2:(bq (fR (aS s) (aS k)) s i)[i]?=some (s.getD i 0):=by rw[D9 _ _ (UJ i)]; exact dJ (by omega)
    have h3:i<(bq (fR (aS s) (aS k)) s i).length:=by omega
    have h4:=fY (s.getD i 0) (k.getD i 0);have h5:(bq (fR (aS s) (aS k)) s i).set i (am (s.getD i 0) (k.getD i 0))=bq (fR (aS s) (aS k)) s (i+1):=nx (fR (aS s) (aS k)) s (by omega);simp only[uI,wT,ae,aa,seval,iteOmega,toNatUp,aV,g1,g2,h4,gM h3 (fO _),im,h5];refine br (i+1) (by omega) (by omega) (aG (fun i=>i) ?_ ?_ rfl rfl) <;> simp only[wx,aw,aH,aa,seval,iteOmega,toNatUp]
   ·obtain rfl:i=16:=by omega
    have e:bq (fR (aS s) (aS k)) s 16=lw s k:=qG _ hs;have e2:=Me s k;simp only[uI,wT,e,ae,aa,seval,iteOmega,toNatUp,e2,gH,cd];exact aP
def wW (s:List UInt8) (i:Nat):St:=⟨bc [(1,.w (.c (.ra (s.map bD)))),(2,.w (.c (.pa 2 1))),(3,.w (.c (.pa 1 1))),(6,.w (.c (.d (.int .i64 (i:Int)))))],hL [(1,.row 1 ((bq (gO (aS s)) (bf 16 (0:UInt8)) i).map bD)),(2,.row 1 ((bf 16 (0:UInt8)).map bD))],uL [1,2]⟩
def tT:aL := .seq (.reg [oO 7 (.bin .lss (.t 6) (kI 16))]) (.seq (.cond (.t 7) (.skip) (.exit 0)) (.seq (.block 1 (.seq (.reg [oM 8 6,oM 4 8]) (.seq (.reg [oM 9 4,oO 10 (.bin .rem (.t 9) (kI 4)),oM 5 10]) (.reg [oM 11 4,oM 12 4,oM 13 5,oO 14 (.bin .mul (.t 13) (kI 4)),oO 15 (.bin .add (.t 12) (.t 14)),oO 16 (.bin .rem (.t 15) (kI 16)),oO 17 (.idxPa 1 16 (.t 1) (.t 16)),oO 18 (.load .sc (.t 17)),oO 19 (.call 103 [(.t 18)] none),oO 20 (.idxPa 1 16 (.t 3) (.t 11)),oN (.store .sc (.t 20) (.t 19))])))) (.reg [oO 21 (.bin .add (.t 6) (kI 1)),oM 6 21])))
def Ea:aB:=⟨1,23,.seq (.reg [oO 1 (.box .roArr (.t 0)),oO 2 (.allocArr [(.int .u8 0),(.int .u8 0),(.int .u8 0),(.int .u8 0),(.int .u8 0),(.int .u8 0),(.int .u8 0),(.int .u8 0),(.int .u8 0),(.int .u8 0),(.int .u8 0),(.int .u8 0),(.int .u8 0),(.int .u8 0),(.int .u8 0),(.int .u8 0)])]) (.seq (.reg [oO 3 (.allocArr [(.int .u8 0),(.int .u8 0),(.int .u8 0),(.int .u8 0),(.int .u8 0),(.int .u8 0),(.int .u8 0),(.int .u8 0),(.int .u8 0),(.int .u8 0),(.int .u8 0),(.int .u8 0),(.int .u8 0),(.int .u8 0),(.int .u8 0),(.int .u8 0)])]) (.seq (.seq (.reg [oO 6 (.mv (kI 0))]) (.block 0 (.loop tT))) (.seq (.reg [oO 22 (.load (.ag 16) (.t 3)),oN (.store (.ag 16) (.t 2) (.t 22))]) (.ret)))),[(2,(some (.ag 16)))]⟩
theorem NY:aA Try.prog { own:=[],comp:=[],frz:=[],nils:=[] } Try.f97=some Ea:=by kernel_rfl
theorem Gw (G:aj) (s:List UInt8) (hs:s.length=16):ar Try.prog G 97 [.agg (s.map bD)] (.w (.c (.d (.agg ((mO s).map bD))))):=by
  refine aF Try.func97 NY rfl rfl ?_;simp only[Ea,ah,ae,aa,seval,iteOmega,toNatUp,fF];refine bH (wW s) (fun i=>16-i) (fun i=>i≤16) 0 (UR _) ?_ ?_
  ·refine aG (fun i=>if i=1 then 24 else 16) ?_ ?_ rfl rfl <;> simp only[wx,aw,aH,aa,seval,iteOmega,toNatUp,nv]
  ·intro i hi;have hl:(bq (gO (aS s)) (bf 16 (0:UInt8)) i).length=16:=by rw[l5 _ _ (by rw[cd]; omega),cd]
   by_cases hlt:i<16
   ·have hm:(i+i%4*4)%16=i%4+4*((i / 4+i%4)%4):=by omega
    have hm2:(i+i%4*4)%16<16:=by omega
    have g1:s[(i+i%4*4)%16]?=some (aS s (i%4+4*((i / 4+i%4)%4))):=by rw[← hm]; exact dJ (by omega)
    have h3:i<(bq (gO (aS s)) (bf 16 (0:UInt8)) i).length:=by omega
    have h5:(bq (gO (aS s)) (bf 16 (0:UInt8)) i).set i (dl (aS s (i%4+4*((i / 4+i%4)%4))))=bq (gO (aS s)) (bf 16 (0:UInt8)) (i+1):=nx (gO (aS s)) _ (by rw[cd]; omega);have t1:Int.tmod (i:Int) 4=((i%4:Nat):Int):=lh i 4;have t2:Int.tmod ((i:Int)+((i%4:Nat):Int)*4) 16=(((i+i%4*4)%16:Nat):Int):=lh (i+i%4*4) 16;have hb:(i%4:Nat)<4:=VV _ (by decide);generalize hq:i%4=q at *
    generalize hp:(i+q*4)%16=p at *
    simp only[tT,wW,ae,aa,seval,iteOmega,toNatUp,aV,t1,t2,g1];refine sC (om G (aS s (q+4*((i / 4+q)%4)))) ?_;simp only[gM h3 (fO _),im,h5,aV,hl,ae,aa,seval,iteOmega,toNatUp];refine br (i+1) (by omega) (by omega) (aG (fun i=>i) ?_ ?_ rfl rfl) <;> simp only[wx,aw,aH,aa,seval,iteOmega,toNatUp]
   ·obtain rfl:i=16:=by omega
    have e:bq (gO (aS s)) (bf 16 (0:UInt8)) 16=mO s:=qG _ (cd _ _);have e2:=uG s;simp only[tT,wW,e,ae,aa,seval,iteOmega,toNatUp,e2,gH,cd];exact aP
theorem QG (a b c d:UInt8):am (am (am (fW (am a b)) b) c) d=sy a b c d:=by
  unfold sy x5;rw[NV a b,Gt,Gt]
def we (s:List UInt8) (i:Nat):St:=⟨bc [(1,.w (.c (.ra (s.map bD)))),(2,.w (.c (.pa 2 1))),(3,.w (.c (.pa 1 1))),(8,.w (.c (.d (.int .i64 (i:Int)))))],hL [(1,.row 1 ((bq (fS (aS s)) (bf 16 (0:UInt8)) i).map bD)),(2,.row 1 ((bf 16 (0:UInt8)).map bD))],uL [1,2]⟩
def tU:aL := .seq (.reg [oO 9 (.bin .lss (.t 8) (kI 16))]) (.seq (.cond (.t 9) (.skip) (.exit 0)) (.seq (.block 1 (.seq (.reg [oM 10 8,oM 4 10]) (.seq (.reg [oM 11 4,oO 12 (.bin .rem (.t 11) (kI 4)),oM 5 12]) (.seq (.reg [oM 13 4,oM 14 5,oO 15 (.bin .sub (.t 13) (.t 14)),oM 16 4,oM 17 5,oO 18 (.bin .sub (.t 16) (.t 17)),oO 19 (.bin .add (.t 18) (kI 4)),oO 20 (.sliceArr 1 16 (.t 1) (some (.t 15)) (some (.t 19))),oM 6 20]) (.seq (.reg [oM 21 6,oM 22 5,oO 23 (.bin .add (.t 22) (kI 1)),oO 24 (.bin .rem (.t 23) (kI 4)),oO 25 (.idxSl 1 (.t 21) (.t 24)),oO 26 (.load .sc (.t 25)),oM 7 26]) (.reg [oM 27 4,oM 28 4,oO 29 (.idxPa 1 16 (.t 1) (.t 28)),oO 30 (.load .sc (.t 29)),oM 31 7,oO 32 (.bin .xor (.t 30) (.t 31)),oO 33 (.call 93 [(.t 32)] none),oM 34 7,oO 35 (.bin .xor (.t 33) (.t 34)),oM 36 6,
 oM 37 5,oO 38 (.bin .add (.t 37) (kI 2)),oO 39 (.bin .rem (.t 38) (kI 4)),oO 40 (.idxSl 1 (.t 36) (.t 39)),oO 41 (.load .sc (.t 40)),oO 42 (.bin .xor (.t 35) (.t 41)),oM 43 6,oM 44 5,oO 45 (.bin .add (.t 44) (kI 3)),oO 46 (.bin .rem (.t 45) (kI 4)),oO 47 (.idxSl 1 (.t 43) (.t 46)),oO 48 (.load .sc (.t 47)),oO 49 (.bin .xor (.t 42) (.t 48)),oO 50 (.idxPa 1 16 (.t 3) (.t 27)),oN (.store .sc (.t 50) (.t 49))])))))) (.reg [oO 51 (.bin .add (.t 8) (kI 1)),oM 8 51])))
def Eb:aB:=⟨1,53,.seq (.reg [oO 1 (.box .roArr (.t 0)),oO 2 (.allocArr [(.int .u8 0),(.int .u8 0),(.int .u8 0),(.int .u8 0),(.int .u8 0),(.int .u8 0),(.int .u8 0),(.int .u8 0),(.int .u8 0),(.int .u8 0),(.int .u8 0),(.int .u8 0),(.int .u8 0),(.int .u8 0),(.int .u8 0),(.int .u8 0)])]) (.seq (.reg [oO 3 (.allocArr [(.int .u8 0),(.int .u8 0),(.int .u8 0),(.int .u8 0),(.int .u8 0),(.int .u8 0),(.int .u8 0),(.int .u8 0),(.int .u8 0),(.int .u8 0),(.int .u8 0),(.int .u8 0),(.int .u8 0),(.int .u8 0),(.int .u8 0),(.int .u8 0)])]) (.seq (.seq (.reg [oO 8 (.mv (kI 0))]) (.block 0 (.loop tU))) (.seq (.reg [oO 52 (.load (.ag 16) (.t 3)),oN (.store (.ag 16) (.t 2) (.t 52))]) (.ret)))),[(2,(some (.ag 16)))]⟩
theorem NZ:aA Try.prog { own:=[],comp:=[],frz:=[],nils:=[] } Try.f96=some Eb:=by kernel_rfl
theorem QH (G:aj) (s:List UInt8) (hs:s.length=16):ar Try.prog G 96 [.agg (s.map bD)] (.w (.c (.d (.agg ((oB s).map bD))))):=by
  refine aF Try.func96 NZ rfl rfl ?_;simp only[Eb,ah,ae,aa,seval,iteOmega,toNatUp,fF];refine bH (we s) (fun i=>16-i) (fun i=>i≤16) 0 (UR _) ?_ ?_
  ·refine aG (fun i=>if i=1 then 24 else 16) ?_ ?_ rfl rfl <;> simp only[wx,aw,aH,aa,seval,iteOmega,toNatUp,nv]
  ·intro i hi;have hl:(bq (fS (aS s)) (bf 16 (0:UInt8)) i).length=16:=by rw[l5 _ _ (by rw[cd]; omega),cd]
   by_cases hlt:i<16
   ·have h3:i<(bq (fS (aS s)) (bf 16 (0:UInt8)) i).length:=by omega
    have h5:(bq (fS (aS s)) (bf 16 (0:UInt8)) i).set i (fS (aS s) i)=bq (fS (aS s)) (bf 16 (0:UInt8)) (i+1):=nx (fS (aS s)) _ (by rw[cd]; omega);have g0:s[i]?=some (aS s i):=dJ (by omega);obtain⟨q,r,hr,rfl⟩:∃ q r,r<4∧i=4*q+r:=⟨i / 4,i%4,VV _ (by decide),by omega⟩
    have hq:q<4:=by omega
    have col:∀ j,j<4→((s.drop (4*q)).take 4)[j]?=some (aS s (4*q+j)):=fun j hj=>by
      rw[U2,if_pos hj,Vo]; exact dJ (by omega)
    have g1:=col ((r+1)%4) (VV _ (by decide));have g2:=col ((r+2)%4) (VV _ (by decide));have g3:=col ((r+3)%4) (VV _ (by decide));have t0:Int.tmod (4*(q:Int)+(r:Int)) 4=(r:Int):=by
      show Int.tmod ((4*q+r:Nat):Int) ((4:Nat):Int)=_
      rw[lh]; congr 1; omega
    have t1:Int.tmod ((r:Int)+1) 4=(((r+1)%4:Nat):Int):=lh (r+1) 4;have t2:Int.tmod ((r:Int)+2) 4=(((r+2)%4:Nat):Int):=lh (r+2) 4;have t3:Int.tmod ((r:Int)+3) 4=(((r+3)%4:Nat):Int):=lh (r+3) 4;have b1:(r+1)%4<4:=VV _ (by decide);have b2:(r+2)%4<4:=VV _ (by decide);have b3:(r+3)%4<4:=VV _ (by decide);have em:fS (aS s) (4*q+r)=sy (aS s (4*q+r)) (aS s (4*q+(r+1)%4)) (aS s (4*q+(r+2)%4)) (aS s (4*q+(r+3)%4)):=by
      unfold fS;rw[show (4*q+r) / 4=q by omega,show (4*q+r)%4=r by omega]
    rw[em,← QG] at h5;have s1:4*q+r-r=4*q:=by omega
    have s2:4*q+4-4*q=4:=by omega
    have s3:((s.drop (4*q)).take 4).length=4:=by rw[UI,UK]; omega
    generalize (r+1)%4=r1 at *
    generalize (r+2)%4=r2 at *
    generalize (r+3)%4=r3 at *
    generalize aS s (4*q+r)=a at *
    generalize aS s (4*q+r1)=b at *
    generalize aS s (4*q+r2)=c at *
    generalize aS s (4*q+r3)=d at *
    have x1:=fY a b;have x2:=fY (fW (am a b)) b;have x3:=fY (am (fW (am a b)) b) c;have x4:=fY (am (am (fW (am a b)) b) c) d;simp only[tU,we,ae,aa,seval,iteOmega,toNatUp,aV,t0,t1,t2,t3,g0,g1,g2,g3,s1,s2,s3,x1];refine sC (H1 G (am a b)) ?_;simp only[aV,t0,t1,t2,t3,g0,g1,g2,g3,s1,s2,s3,x2,x3,x4,gM h3 (fO _),im,h5,hl,ae,aa,seval,iteOmega,toNatUp];refine br (4*q+r+1) (by omega) (by omega) (aG (fun i=>i) ?_ ?_ rfl rfl) <;> simp only[wx,aw,aH,aa,seval,iteOmega,toNatUp]
   ·obtain rfl:i=16:=by omega
    have e:bq (fS (aS s)) (bf 16 (0:UInt8)) 16=oB s:=qG _ (cd _ _);have e2:=Ce s;simp only[tU,we,e,ae,aa,seval,iteOmega,toNatUp,e2,gH,cd];exact aP
def Ut (l:List UInt8) (c:UInt8) (j:Nat):UInt8:=if j=0 then am (dl (l.getD 13 0)) c else if j=1 then dl (l.getD 14 0) else if j=2 then dl (l.getD 15 0) else dl (l.getD 12 0)
def wV (l:List UInt8) (c:UInt8):Nat→Nat→UInt8
  | 0,j=>Ut l c j
  | n+1,j=>if j=n%4 then am (l.getD n 0) (wV l c n (n%4)) else wV l c n j
def fB (l:List UInt8) (c:UInt8) (n:Nat):UInt8:=am (l.getD n 0) (wV l c n (n%4))
def kz (l:List UInt8) (c:UInt8):List UInt8:=bF (fB l c)
theorem qb (l:List UInt8) (c:UInt8):(kz l c).length=16:=eY _
def wL (l:List UInt8) (c:UInt8) (i:Nat):List UInt8:=(List.range 4).map (wV l c i)
theorem mh (l:List UInt8) (c:UInt8) (i:Nat):(wL l c i).length=4:=by simp[wL]
theorem wg (l:List UInt8) (c:UInt8) (i:Nat) {j:Nat} (h:j<4):(wL l c i)[j]?=some (wV l c i j):=by simp[wL,h]
theorem Oa (l:List UInt8) (c:UInt8) (i:Nat):(wL l c i).set (i%4) (fB l c i)=wL l c (i+1):=by
  apply V9;intro j;by_cases hj:j<4
  ·rw[wg _ _ _ hj,List.getElem?_set];by_cases e:i%4=j
   ·rw[if_pos e,if_pos (by rw[mh]; omega),wV,if_pos e.symm]; rfl
   ·rw[if_neg e,wg _ _ _ hj,wV,if_neg (fun h=>e h.symm)]
  ·rw[Vj (by rw[VO,mh]; omega),Vj (by rw[mh]; omega)]
theorem Oc (l:List UInt8) (c:UInt8):[am (dl (l.getD 13 0)) c,dl (l.getD 14 0),dl (l.getD 15 0),dl (l.getD 12 0)]=wL l c 0:=rfl
def wX (l:List UInt8) (c:UInt8) (i:Nat):St:=⟨bc [(2,.w (.c (.pa 1 1))),(4,.w (.c (.pa 2 1))),(5,.w (.c (.pa 3 1))),(22,.w (.c (.d (.int .i64 (i:Int)))))],hL [(1,.row 1 ((bq (fB l c) l i).map bD)),(2,.row 1 ((bf 16 (0:UInt8)).map bD)),(3,.row 1 ((wL l c i).map bD))],uL [1,2,3]⟩
def uJ:aL := .seq (.reg [oO 23 (.bin .lss (.t 22) (kI 16))]) (.seq (.cond (.t 23) (.skip) (.exit 0)) (.seq (.block 1 (.seq (.reg [oM 24 22,oM 6 24]) (.seq (.reg [oM 25 6,oO 26 (.idxPa 1 16 (.t 2) (.t 25)),oO 27 (.load .sc (.t 26)),oM 28 6,oO 29 (.bin .rem (.t 28) (kI 4)),oO 30 (.idxPa 1 4 (.t 5) (.t 29)),oO 31 (.load .sc (.t 30)),oO 32 (.bin .xor (.t 27) (.t 31)),oO 33 (.idxPa 1 16 (.t 2) (.t 25)),oN (.store .sc (.t 33) (.t 32))]) (.reg [oM 34 6,oO 35 (.bin .rem (.t 34) (kI 4)),oM 36 6,oO 37 (.idxPa 1 16 (.t 2) (.t 36)),oO 38 (.load .sc (.t 37)),oO 39 (.idxPa 1 4 (.t 5) (.t 35)),oN (.store .sc (.t 39) (.t 38))])))) (.reg [oO 40 (.bin .add (.t 22) (kI 1)),oM 22 40])))
def Gx:aB:=⟨2,42,.seq (.reg [oO 2 (.box .ownArr (.t 0)),oO 4 (.allocArr [(.int .u8 0),(.int .u8 0),(.int .u8 0),(.int .u8 0),(.int .u8 0),(.int .u8 0),(.int .u8 0),(.int .u8 0),(.int .u8 0),(.int .u8 0),(.int .u8 0),(.int .u8 0),(.int .u8 0),(.int .u8 0),(.int .u8 0),(.int .u8 0)])]) (.seq (.reg [oO 7 (.idxPa 1 16 (.t 2) (kI 13)),oO 8 (.load .sc (.t 7)),oO 9 (.call 103 [(.t 8)] none),oM 10 1,oO 11 (.bin .xor (.t 9) (.t 10)),oO 12 (.idxPa 1 16 (.t 2) (kI 14)),oO 13 (.load .sc (.t 12)),oO 14 (.call 103 [(.t 13)] none),oO 15 (.idxPa 1 16 (.t 2) (kI 15)),oO 16 (.load .sc (.t 15)),oO 17 (.call 103 [(.t 16)] none),oO 18 (.idxPa 1 16 (.t 2) (kI 12)),oO 19 (.load .sc (.t 18)),oO 20 (.call 103 [(.t 19)] none),oO 21 (.build [(.d (.int .u8 0)),(.d (.int .u8 0)),(.d (.int .u8 0)),(.d (.int .u8 0))] [(0,1,(.t 11)),(1,1,(.t 14)),(2,1,(.t 17)),(3,1,(.t 20))]),
 oO 5 (.allocArr [(.int .u8 0),(.int .u8 0),(.int .u8 0),(.int .u8 0)]),oN (.store (.ag 4) (.t 5) (.t 21))]) (.seq (.seq (.reg [oO 22 (.mv (kI 0))]) (.block 0 (.loop uJ))) (.seq (.reg [oO 41 (.load (.ag 16) (.t 2)),oN (.store (.ag 16) (.t 4) (.t 41))]) (.ret)))),[(4,(some (.ag 16)))]⟩
theorem QI:aA Try.prog { own:=[2],comp:=[],frz:=[],nils:=[] } Try.f92=some Gx:=by kernel_rfl
set_option maxHeartbeats 3200000 in
theorem S5 (G:aj) (l:List UInt8) (c:UInt8) (hl:l.length=16):ar Try.prog G 92 [.agg (l.map bD),bD c] (.w (.c (.d (.agg ((kz l c).map bD))))):=by
  refine aF Try.func92 QI rfl rfl ?_;have a13:l[13]?=some (l.getD 13 0):=dJ (by omega);have a14:l[14]?=some (l.getD 14 0):=dJ (by omega);have a15:l[15]?=some (l.getD 15 0):=dJ (by omega);have a12:l[12]?=some (l.getD 12 0):=dJ (by omega);have x0:=fY (dl (l.getD 13 0)) c;have w0:=congrArg (List.map bD) (Oc l c);have wl:=mh l c 0;simp only[UE,UT] at w0;simp only[Gx,ah,ae,aa,seval,iteOmega,toNatUp,fF,hl,aV,a13];refine sC (om G (l.getD 13 0)) ?_;simp only[x0,aV,a14,hl,ae,aa,seval,iteOmega,toNatUp];refine sC (om G (l.getD 14 0)) ?_;simp only[aV,a15,hl,ae,aa,seval,iteOmega,toNatUp];refine sC (om G (l.getD 15 0)) ?_;simp only[aV,a12,hl,ae,aa,seval,iteOmega,toNatUp];refine sC (om G (l.getD 12 0)) ?_;simp only[w0,ae,aa,seval,iteOmega,toNatUp];refine bH (wX l c) (fun i=>16-i) (fun i=>i≤16) 0 (UR _) ?_ ?_
  ·refine aG (fun i=>if i=1 then 16 else if i=2 then 32 else 40) ?_ ?_ rfl rfl <;> simp only[wx,aw,aH,aa,seval,iteOmega,toNatUp,nv]
  ·intro i hi;have hu:(bq (fB l c) l i).length=16:=by rw[l5 _ _ (by omega)]; exact hl
   by_cases hlt:i<16
   ·have hm:i%4<4:=VV _ (by decide);have t1:Int.tmod (i:Int) 4=((i%4:Nat):Int):=lh i 4;have g1:(bq (fB l c) l i)[i]?=some (l.getD i 0):=by rw[D9 _ _ (UJ i)]; exact dJ (by omega)
    have g2:=wg l c i hm;have x1:=fY (l.getD i 0) (wV l c i (i%4));have h3:i<(bq (fB l c) l i).length:=by omega
    have h4:i%4<(wL l c i).length:=by rw[mh]; exact hm
    have h5:(bq (fB l c) l i).set i (fB l c i)=bq (fB l c) l (i+1):=nx (fB l c) l (by omega);have h6:=Oa l c i;have g3:(bq (fB l c) l (i+1))[i]?=some (fB l c i):=Md _ _ (Nat.lt_succ_self i);have hf:am (l.getD i 0) (wV l c i (i%4))=fB l c i:=rfl;have hwl:=mh l c i;have hu2:(bq (fB l c) l (i+1)).length=16:=by rw[l5 _ _ (by omega)]; exact hl
    generalize hq:i%4=q at *
    simp only[uJ,wX,ae,aa,seval,iteOmega,toNatUp,aV,t1,g1,g2,x1,hf,gM h3 (fO _),gM h4 (fO _),im,h5,h6,g3,hu,hu2,hwl];refine br (i+1) (by omega) (by omega) (aG (fun i=>i) ?_ ?_ rfl rfl) <;> simp only[wx,aw,aH,aa,seval,iteOmega,toNatUp]
   ·obtain rfl:i=16:=by omega
    have e:bq (fB l c) l 16=kz l c:=qG _ hl;have e2:=qb l c;simp only[uJ,wX,e,ae,aa,seval,iteOmega,toNatUp,e2,gH,cd];exact aP
theorem KQ {P Q:List UInt8} {k n:Nat} (h:P.length=n):(P++Q).getD (n+k) 0=Q.getD k 0:=by
  rw[UD,UD,Vm (by omega),h,Nat.add_sub_cancel_left]
theorem Mg {P Q:List UInt8} {k n:Nat} (h:P.length=n):(P++Q).drop (n+k)=Q.drop k:=by
  rw[← h,List.drop_append,VA (by omega),Vq,Nat.add_sub_cancel_left]
theorem pK {P Q:List UInt8} {n:Nat} (h:P.length=4*n):ju (P++Q) n=(List.range 4).map fun k=>am (Q.getD k 0) ((mA (Q.drop 12) n).getD k 0):=by
  unfold ju;refine Vd fun k _=>?_
  rw[KQ h,show 12+4*n=4*n+12 by omega,Mg h]
theorem S6 (b0 b1 b2 b3 b4 b5 b6 b7 b8 b9 b10 b11 b12 b13 b14 b15 c:UInt8):∃ f0 f1 f2 f3,
    f0=am b0 (am (dl b13) c)∧f1=am b1 (dl b14)∧f2=am b2 (dl b15)∧f3=am b3 (dl b12) ∧
    kz [b0,b1,b2,b3,b4,b5,b6,b7,b8,b9,b10,b11,b12,b13,b14,b15] c =
      [f0,f1,f2,f3,am b4 f0,am b5 f1,am b6 f2,am b7 f3,am b8 (am b4 f0),am b9 (am b5 f1),am b10 (am b6 f2),am b11 (am b7 f3),
       am b12 (am b8 (am b4 f0)),am b13 (am b9 (am b5 f1)),am b14 (am b10 (am b6 f2)),am b15 (am b11 (am b7 f3))] :=
  ⟨_,_,_,_,rfl,rfl,rfl,rfl,rfl⟩
theorem qc (f:Nat→UInt8):(List.range 4).map f=[f 0,f 1,f 2,f 3]:=rfl
theorem Mh {P:List UInt8} {r:Nat} (hP:P.length=16*r) (b0 b1 b2 b3 b4 b5 b6 b7 b8 b9 b10 b11 b12 b13 b14 b15:UInt8) (key:List UInt8)
    (h:df key (4*r)=P++[b0,b1,b2,b3,b4,b5,b6,b7,b8,b9,b10,b11,b12,b13,b14,b15]) :
    df key (4*(r+1))=df key (4*r)++kz [b0,b1,b2,b3,b4,b5,b6,b7,b8,b9,b10,b11,b12,b13,b14,b15] (gr r):=by
  obtain⟨f0,f1,f2,f3,e0,e1,e2,e3,ef⟩:=S6 b0 b1 b2 b3 b4 b5 b6 b7 b8 b9 b10 b11 b12 b13 b14 b15 (gr r);have m0:4*r%4=0:=by omega
  have m1:(4*r+1)%4≠0:=by omega
  have m2:(4*r+2)%4≠0:=by omega
  have m3:(4*r+3)%4≠0:=by omega
  have d0:4*r / 4=r:=by omega
  have n0:ju (df key (4*r)) (4*r)=[f0,f1,f2,f3]:=by
    rw[h,pK (by omega),qc];unfold mA;rw[if_pos m0,d0,e0,e1,e2,e3]; rfl
  have s1:df key (4*r+1)=(P++[b0,b1,b2,b3])++[b4,b5,b6,b7,b8,b9,b10,b11,b12,b13,b14,b15,f0,f1,f2,f3]:=by
    rw[df,n0,h]; simp
  have n1:ju (df key (4*r+1)) (4*r+1)=[am b4 f0,am b5 f1,am b6 f2,am b7 f3]:=by
    rw[s1,pK (by simp; omega),qc];unfold mA;rw[if_neg m1]; rfl
  have s2:df key (4*r+2)=(P++[b0,b1,b2,b3,b4,b5,b6,b7])++[b8,b9,b10,b11,b12,b13,b14,b15,f0,f1,f2,f3,am b4 f0,am b5 f1,am b6 f2,am b7 f3]:=by
    rw[show 4*r+2=(4*r+1)+1 from rfl,df,n1,s1]; simp
  have n2:ju (df key (4*r+2)) (4*r+2)=[am b8 (am b4 f0),am b9 (am b5 f1),am b10 (am b6 f2),am b11 (am b7 f3)]:=by
    rw[s2,pK (by simp; omega),qc];unfold mA;rw[if_neg m2]; rfl
  have s3:df key (4*r+3)=(P++[b0,b1,b2,b3,b4,b5,b6,b7,b8,b9,b10,b11])++[b12,b13,b14,b15,f0,f1,f2,f3,am b4 f0,am b5 f1,am b6 f2,am b7 f3,am b8 (am b4 f0),am b9 (am b5 f1),am b10 (am b6 f2),am b11 (am b7 f3)]:=by
    rw[show 4*r+3=(4*r+2)+1 from rfl,df,n2,s2]; simp
  have n3:ju (df key (4*r+3)) (4*r+3)=[am b12 (am b8 (am b4 f0)),am b13 (am b9 (am b5 f1)),am b14 (am b10 (am b6 f2)),am b15 (am b11 (am b7 f3))]:=by
    rw[s3,pK (by simp; omega),qc];unfold mA;rw[if_neg m3]; rfl
  rw[show 4*(r+1)=(4*r+3)+1 by omega,df,n3,s3,ef,h];simp
def kb (key:List UInt8) (r:Nat):List UInt8:=(df key (4*r)).drop (16*r)
theorem wh {key:List UInt8} (h:key.length=16) (r:Nat):(kb key r).length=16:=by
  unfold kb; rw[UK,kU h]; omega
theorem QJ {l:List UInt8} (h:l.length=16):∃ b0 b1 b2 b3 b4 b5 b6 b7 b8 b9 b10 b11 b12 b13 b14 b15,l=[b0,b1,b2,b3,b4,b5,b6,b7,b8,b9,b10,b11,b12,b13,b14,b15]:=by
  rcases l with _ | ⟨b0,l⟩ <;> simp at h
  rcases l with _ | ⟨b1,l⟩ <;> simp at h
  rcases l with _ | ⟨b2,l⟩ <;> simp at h
  rcases l with _ | ⟨b3,l⟩ <;> simp at h
  rcases l with _ | ⟨b4,l⟩ <;> simp at h
  rcases l with _ | ⟨b5,l⟩ <;> simp at h
  rcases l with _ | ⟨b6,l⟩ <;> simp at h
  rcases l with _ | ⟨b7,l⟩ <;> simp at h
  rcases l with _ | ⟨b8,l⟩ <;> simp at h
  rcases l with _ | ⟨b9,l⟩ <;> simp at h
  rcases l with _ | ⟨b10,l⟩ <;> simp at h
  rcases l with _ | ⟨b11,l⟩ <;> simp at h
  rcases l with _ | ⟨b12,l⟩ <;> simp at h
  rcases l with _ | ⟨b13,l⟩ <;> simp at h
  rcases l with _ | ⟨b14,l⟩ <;> simp at h
  rcases l with _ | ⟨b15,l⟩ <;> simp at h
  subst h;exact⟨_,_,_,_,_,_,_,_,_,_,_,_,_,_,_,_,rfl⟩
theorem Od {key:List UInt8} (h:key.length=16) (r:Nat):df key (4*(r+1))=df key (4*r)++kz (kb key r) (gr r):=by
  obtain⟨b0,b1,b2,b3,b4,b5,b6,b7,b8,b9,b10,b11,b12,b13,b14,b15,e⟩:=QJ (wh h r);rw[e];refine Mh (P:=(df key (4*r)).take (16*r)) ?_ _ _ _ _ _ _ _ _ _ _ _ _ _ _ _ _ key ?_
  ·rw[UI,kU h]; omega
  ·rw[← e]; exact (Vh _ _).symm
def eT (key:List UInt8) (i:Nat):List UInt8:=df key (4*i)++bf (160-16*i) 0
theorem Oe {key:List UInt8} (h:key.length=16) {i:Nat} (hi:i≤10):(eT key i).length=176:=by
  unfold eT; rw[UF,kU h,cd]; omega
theorem Mi {key:List UInt8} (h:key.length=16):bV (bf 176 (0:UInt8)) 0 key=eT key 0:=by
  unfold bV eT bf;rw[List.take_zero,Vq,List.drop_replicate,h]; rfl
theorem Mj {key:List UInt8} (h:key.length=16) {i:Nat} (hi:i≤10):((eT key i).drop (i*16)).take 16=kb key i:=by
  unfold eT;rw[V5,List.drop_append_of_le_length (by rw[kU h]; omega)];exact List.take_left' (wh h i)
theorem Mk {key:List UInt8} (h:key.length=16) {i:Nat} (hi:i<10):bV (eT key i) ((i+1)*16) (kz (kb key i) (gr i))=eT key (i+1):=by
  have hl:(df key (4*i)).length=(i+1)*16:=by rw[kU h]; omega
  unfold bV eT;rw[Od h,VB (by omega),UG (by omega),qb,List.drop_append,VA (by omega),Vq,hl]
  congr 1
  unfold bf;rw[List.drop_replicate]
  congr 1
  omega
theorem Ml (key:List UInt8):eT key 10=aC key:=by
  unfold eT bf aC; rw[show 160-16*10=0 from rfl,VM,UX]
set_option maxHeartbeats 3200000
def wi (key:List UInt8) (i:Nat):St:=⟨bc [(2,.w (.c (.ptr 2 1 0 0))),(3,.w (.c (.ptr 1 1 0 0))),(4,.w (.c (.d (bD (gr i))))),(5,.w (.c (.d (.int .i64 ((i+1:Nat):Int)))))],hL [(1,.box ((eT key i).map bC)),(2,.box ((bf 176 (0:UInt8)).map bC))],uL [1,2]⟩
theorem Un:gr 0=1:=rfl
def tV:aL := .seq (.seq (.reg [oM 10 5,oO 11 (.bin .leq (.t 10) (kI 10))]) (.cond (.t 11) (.skip) (.exit 0))) (.seq (.block 1 (.seq (.reg [oM 14 5,oM 15 5,oO 16 (.bin .sub (.t 15) (kI 1)),oO 17 (.idxPa 16 11 (.t 3) (.t 16)),oO 18 (.load (.ag 16) (.t 17)),oM 19 4,oO 20 (.call 92 [(.t 18),(.t 19)] none),oO 21 (.idxPa 16 11 (.t 3) (.t 14)),oN (.store (.ag 16) (.t 21) (.t 20))]) (.reg [oM 22 4,oO 23 (.call 93 [(.t 22)] none),oM 4 23]))) (.reg [oM 12 5,oO 13 (.bin .add (.t 12) (kI 1)),oM 5 13]))
def Ec:aB:=⟨1,25,.seq (.reg [oO 2 (.alloc (bf 176 (.d (.int .u8 0))))]) (.seq (.reg [oO 3 (.alloc (bf 176 (.d (.int .u8 0))))]) (.seq (.reg [oO 6 (.idxPa 16 11 (.t 3) (kI 0)),oO 7 (.sliceArr 1 16 (.t 6) none none),oM 8 0,oO 9 (.copy 1 (.t 7) (.t 8))]) (.seq (.reg [oO 4 (.mv (.k (.c (.d (.int .u8 1)))))]) (.seq (.seq (.reg [oO 5 (.mv (kI 1))]) (.block 0 (.loop tV))) (.seq (.reg [oO 24 (.load (.ag 176) (.t 3)),oN (.store (.ag 176) (.t 2) (.t 24))]) (.ret)))))),[(2,(some (.ag 176)))]⟩
theorem Of:aA Try.prog { own:=[],comp:=[],frz:=[],nils:=[] } Try.f84=some Ec:=by kernel_rfl
theorem Gy (G:aj) (key:List UInt8) (h:key.length=16):ar Try.prog G 84 [.sl (key.map bD)] (.w (.c (.d (.agg ((aC key).map bD))))):=by
  refine aF Try.func84 Of rfl rfl ?_;have ht:key.take 16=key:=UG (by omega);have h0:key++List.drop key.length (bf 176 (0:UInt8))=eT key 0:=by rw[← Mi h]; simp[bV]
  have hid:=fH (eT key 0);have hid2:=fH (bf 176 (0:UInt8));simp only[Ec,ah,ae,aa,seval,iteOmega,toNatUp,DY,ie,cd,eF,ht,gH,oh,LP,h0];refine bH (wi key) (fun i=>10-i) (fun i=>i≤10) 0 (UR _) ?_ ?_
  ·refine aG (fun i=>if i=1 then 24 else 16) ?_ ?_ rfl (by simp[V.ids,W.ids,C.ids,Ob.ids,fH]) <;> simp only[wx,aw,aH,aa,seval,iteOmega,toNatUp,Un,Us,mf,fH]
  ·intro i hi;have hl:=Oe h hi;by_cases hlt:i<10
   ·have g1:=Mj h hi;have h5:List.take ((i+1)*16) (eT key i)++kz (kb key i) (gr i)++List.drop ((i+1)*16+16) (eT key i)=eT key (i+1):=by
      rw[← Mk h hlt]; unfold bV; rw[qb]
    have hf:=qb (kb key i) (gr i);have hx:fW (gr i)=gr (i+1):=rfl;have s1:((i:Int)+1-1).toNat=i:=by omega
    simp only[tV,wi,ae,aa,seval,iteOmega,toNatUp,ie,hl,eF,iG,g1,nD];refine sC (S5 G (kb key i) (gr i) (wh h i)) ?_;simp only[ie,hl,oh,hf,eF,iG,ji,h5,ae,aa,seval,iteOmega,toNatUp];refine sC (H1 G (gr i)) ?_;simp only[hx,ae,aa,seval,iteOmega,toNatUp];refine br (i+1) (by omega) (by omega) (aG (fun i=>i) ?_ ?_ rfl (by simp[V.ids,W.ids,C.ids,Ob.ids,fH])) <;> simp only[wx,aw,aH,aa,seval,iteOmega,toNatUp,mf,fH]
   ·obtain rfl:i=10:=by omega
    have e:=Ml key;have e2:=vq h;rw[e] at hl;have t1:(aC key).take 176=aC key:=UG (by omega);have t2:List.drop 176 (bf 176 (0:UInt8))=[]:=VA (by rw[cd]; omega);have t3:aC key++List.drop (aC key).length (bf 176 (0:UInt8))=aC key:=by rw[e2,t2,UX]
    simp only[tV,wi,e,ae,aa,seval,iteOmega,toNatUp,ie,hl,e2,t1,t2,t3,nD,oh,cd,eF,iG,ji,UX];exact nR (by simp only[ae,aa,seval,iteOmega,toNatUp,ie,hl,e2,t1,t2,t3,nD,oh,cd,eF,iG,ji,UX])
theorem Mm (l:List UInt8):cZ ((l.map bD).map C.d)=some (l.map bD):=by
  induction l with
  | nil=>rfl
  | cons x l ih =>
    show cZ (C.d (bD x)::(l.map bD).map C.d)=_
    simp only[cZ,ih,UE,VY]
theorem Mn (rk b:List UInt8) (hb:b.length=16):lw b (bF (dm rk 0))=bF (gR (dm rk) (aS b) 0):=by
  have:=uH (aS b) (dm rk 0);rw[QB hb] at this;exact this
theorem Og (rk b:List UInt8) {n:Nat} (h:n+1<10):lw (oB (mO (bF (gR (dm rk) (aS b) n)))) (bF (dm rk (n+1)))=bF (gR (dm rk) (aS b) (n+1)):=by
  rw[Cf,Mf,uH]
  show _=bF (wc _ _ _)
  unfold wc;rw[if_pos h]
theorem Mo (rk b:List UInt8):lw (mO (bF (gR (dm rk) (aS b) 9))) (bF (dm rk 10))=dD rk b:=by
  rw[Cf,uH];rfl
def wY (rk b:List UInt8) (i:Nat):St:=⟨bc [(2,.w (.c (.rp (rk.map bD)))),(4,.w (.c (.pa 2 1))),(5,.w (.c (.pa 1 1))),(6,.w (.c (.d (.int .i64 ((i+1:Nat):Int)))))],hL [(1,.row 1 ((bF (gR (dm rk) (aS b) i)).map bD)),(2,.row 1 ((bf 16 (0:UInt8)).map bD))],uL [1,2]⟩
def tW:aL := .seq (.seq (.reg [oM 14 6,oO 15 (.bin .lss (.t 14) (kI 10))]) (.cond (.t 15) (.skip) (.exit 0))) (.seq (.block 1 (.reg [oO 18 (.load (.ag 16) (.t 5)),oO 19 (.call 97 [(.t 18)] none),oO 20 (.call 96 [(.t 19)] none),oM 21 6,oO 22 (.idxPa 16 11 (.t 2) (.t 21)),oO 23 (.load (.ag 16) (.t 22)),oO 24 (.call 95 [(.t 20),(.t 23)] none),oN (.store (.ag 16) (.t 5) (.t 24))])) (.reg [oM 16 6,oO 17 (.bin .add (.t 16) (kI 1)),oM 6 17]))
def Ed:aB:=⟨2,30,.seq (.reg [oO 2 (.box .roBox (.t 0)),oO 4 (.allocArr [(.int .u8 0),(.int .u8 0),(.int .u8 0),(.int .u8 0),(.int .u8 0),(.int .u8 0),(.int .u8 0),(.int .u8 0),(.int .u8 0),(.int .u8 0),(.int .u8 0),(.int .u8 0),(.int .u8 0),(.int .u8 0),(.int .u8 0),(.int .u8 0)])]) (.seq (.reg [oO 5 (.allocArr [(.int .u8 0),(.int .u8 0),(.int .u8 0),(.int .u8 0),(.int .u8 0),(.int .u8 0),(.int .u8 0),(.int .u8 0),(.int .u8 0),(.int .u8 0),(.int .u8 0),(.int .u8 0),(.int .u8 0),(.int .u8 0),(.int .u8 0),(.int .u8 0)])]) (.seq (.reg [oO 7 (.sliceArr 1 16 (.t 5) none none),oM 8 1,oO 9 (.copy 1 (.t 7) (.t 8))]) (.seq (.reg [oO 10 (.load (.ag 16) (.t 5)),oO 11 (.idxPa 16 11 (.t 2) (kI 0)),oO 12 (.load (.ag 16) (.t 11)),oO 13 (.call 95 [(.t 10),(.t 12)] none),oN (.store (.ag 16) (.t 5) (.t 13))])
 (.seq (.seq (.reg [oO 6 (.mv (kI 1))]) (.block 0 (.loop tW))) (.seq (.reg [oO 25 (.load (.ag 16) (.t 5)),oO 26 (.call 97 [(.t 25)] none),oO 27 (.idxPa 16 11 (.t 2) (kI 10)),oO 28 (.load (.ag 16) (.t 27)),oO 29 (.call 95 [(.t 26),(.t 28)] none),oN (.store (.ag 16) (.t 4) (.t 29))]) (.ret)))))),[(4,(some (.ag 16)))]⟩
theorem Oh:aA Try.prog { own:=[],comp:=[],frz:=[],nils:=[] } Try.f86=some Ed:=by kernel_rfl
theorem Gz (G:aj) (rk b:List UInt8) (hk:rk.length=176) (hb:b.length=16):ar Try.prog G 86 [.agg (rk.map bD),.sl (b.map bD)] (.w (.c (.d (.agg ((dD rk b).map bD))))):=by
  refine aF Try.func86 Oh rfl rfl ?_;have ht:b.take 16=b:=UG (by omega);have key:∀ r,r≤10→(rk.drop (16*r)).take 16=bF (dm rk r):=fun r hr=>by
    apply V9;intro j;by_cases hj:j<16
    ·rw[qF _ hj,U2,if_pos hj,Vo]; exact dJ (by omega)
    ·rw[Vj (by rw[UI]; omega),Vj (by rw[eY]; omega)]
  have d1:b++List.drop b.length (bf 16 (0:UInt8))=b:=by rw[hb,VA (by rw[cd]; omega),UX]
  have d2:List.drop 16 (bf 16 (0:UInt8))=[]:=VA (by rw[cd]; omega);have k0:=key 0 (by decide);have l0:(bF (dm rk 0)).length=16:=eY _;have t0:(bF (dm rk 0)).take 16=bF (dm rk 0):=UG (by rw[eY]; omega);have a0:=Mn rk b hb;have la:=eY (gR (dm rk) (aS b) 0);simp only[Nat.mul_zero,VI] at k0;simp only[Ed,ah,ae,aa,seval,iteOmega,toNatUp,fF,Mm,cd,eF,ht,iG,ji,d1,d2,k0,gH,hb,l0,t0,UX,V7];refine sC (wU G b (bF (dm rk 0)) hb l0) ?_;simp only[a0,la,cd,ae,aa,seval,iteOmega,toNatUp];refine bH (wY rk b) (fun i=>9-i) (fun i=>i≤9) 0 (UR _) ?_ ?_
  ·refine aG (fun i=>if i=1 then 40 else 32) ?_ ?_ rfl rfl <;> simp only[wx,aw,aH,aa,seval,iteOmega,toNatUp]
  ·intro i hi;have le:=eY (gR (dm rk) (aS b) i);have hr:i+1≤10:=by omega
   have k1:=key (i+1) hr;rw[V5] at k1;have l1:(bF (dm rk (i+1))).length=16:=eY _;have t1:(bF (dm rk (i+1))).take 16=bF (dm rk (i+1)):=UG (by rw[eY]; omega);by_cases hlt:i<9
   ·have h5:=Og rk b (n:=i) (by omega);have le2:=eY (gR (dm rk) (aS b) (i+1));simp only[tW,wY,ae,aa,seval,iteOmega,toNatUp,le,gH];refine sD (Gw G (bF (gR (dm rk) (aS b) i)) le) ?_;refine sC (QH G _ (uG _)) ?_;simp only[eF,iG,k1,l1,t1,ae,aa,seval,iteOmega,toNatUp];refine sC (wU G _ _ (Ce _) l1) ?_;simp only[h5,le2,le,ae,aa,seval,iteOmega,toNatUp];refine br (i+1) (by omega) (by omega) (aG (fun i=>i) ?_ ?_ rfl rfl) <;> simp only[wx,aw,aH,aa,seval,iteOmega,toNatUp]
   ·obtain rfl:i=9:=by omega
    have h5:=Mo rk b;have le2:=ib rk b;simp only[tW,wY,ae,aa,seval,iteOmega,toNatUp,le,gH];refine sC (Gw G (bF (gR (dm rk) (aS b) 9)) le) ?_;simp only[eF,iG,k1,l1,t1,ae,aa,seval,iteOmega,toNatUp];refine sC (wU G _ _ (uG _) l1) ?_;simp only[h5,le2,cd,ae,aa,seval,iteOmega,toNatUp];exact nR (by simp only[ae,aa,seval,iteOmega,toNatUp,le2,gH])


theorem Cg:∀ a b:List UInt8,cE (a++b)=if (cE b).2 then ((cE a).1++(cE b).1,(cE a).2) else (a++(cE b).1,false)
  | [],b=>by
    show cE b=if (cE b).2 then ([]++(cE b).1,true) else ([]++(cE b).1,false)
    rcases cE b with ⟨s,_ | _⟩ <;> rfl
  | x::a,b=>by
    have ih:=Cg a b;simp only[Vt,cE,ih];cases h:(cE b).2
    ·simp
    ·simp only[if_true];cases h2:(cE a).2 <;> simp
def carry (c:List UInt8) (m:Nat):Prop:=(cE (c.drop m)).2=true
def d9 (c:List UInt8) (m:Nat):List UInt8:=c.take m++(cE (c.drop m)).1
theorem Ch (c:List UInt8) (m:Nat):(d9 c m).length=c.length:=by
  unfold d9; rw[UF,uF,← UF,Vh]
theorem JR (c:List UInt8):d9 c c.length=c:=by unfold d9; simp[cE]
theorem Jq (c:List UInt8):carry c c.length:=by unfold carry; simp[cE]
theorem KR (c:List UInt8):d9 c 0=jv c:=by unfold d9 jv; simp
theorem Oi {c:List UInt8} {m:Nat} (h:m<c.length):(d9 c (m+1))[m]?=some (c.getD m 0):=by
  unfold d9;rw[Vk (by rw[UI]; omega),U2,if_pos (by omega)];exact dJ h
theorem z2 {c:List UInt8} {m:Nat} (h:m<c.length):c.drop m=c.getD m 0::c.drop (m+1):=by
  rw[List.drop_eq_getElem_cons h,UD,UB h]; rfl
theorem Oj {c:List UInt8} {m:Nat} (h:m<c.length) (hc:carry c (m+1)):(d9 c (m+1)).set m (c.getD m 0+1)=d9 c m:=by
  have e:(cE (c.drop m)).1=(c.getD m 0+1)::(cE (c.drop (m+1))).1:=by
    rw[z2 h];unfold carry at hc;simp only[cE,hc,if_true]
  have e2:c.take (m+1)=c.take m++[c.getD m 0]:=by
    rw[List.take_add_one,dJ h]; rfl
  unfold d9;rw[e,e2,UV,List.set_append_right _ _ (by rw[UI]; omega),UI,show m-min m c.length=0 by omega];rfl
theorem JS {c:List UInt8} {m:Nat} (h:m<c.length) (hc:carry c (m+1)):(cE (c.drop m)).2=(c.getD m 0+1==0):=by
  rw[z2 h];unfold carry at hc;simp only[cE,hc,if_true]
theorem Ol {c:List UInt8} {m:Nat} (h:(cE (c.drop m)).2=false):d9 c m=jv c:=by
  have:=Cg (c.take m) (c.drop m);rw[Vh,h] at this;unfold jv d9;rw[this]; rfl
theorem QK (x c:UInt8) (n:Int) (h:n=(c.toNat:Int)):bg .add (.w (.c (.d (bD x)))) (.w (.c (.d (.int .u8 n))))=some (bD (x+c)):=by
  subst h
  show ba .add .u8 (x.toNat:Int) .u8 (c.toNat:Int)=_
  rw[pT,IntKind.wrap_u8]
  show some (D.int .u8 (((x.toNat:Int)+(c.toNat:Int))%256))=_
  have:((x.toNat:Int)+(c.toNat:Int))%256=((x+c).toNat:Int):=by
    rw[UInt8.toNat_add]; simp
  rw[this]; rfl
def sA (c:List UInt8):List UInt8:=if c.length=16 then jv c else []
def sB (c:List UInt8) (m:Nat):St:=⟨bc [(3,.w (.c (.own 1 1 0 16))),(4,.w (.c (.d (.int .i64 ((m:Int)-1)))))],hL [(1,.row 1 ((d9 c m).map bD))],uL [1]⟩
def qd:aL := .seq (.seq (.reg [oM 14 4,oO 15 (.bin .geq (.t 14) (kI 0))]) (.cond (.t 15) (.skip) (.exit 0))) (.seq (.block 1 (.seq (.reg [oM 18 3,oM 19 4,oO 20 (.idxSl 1 (.t 18) (.t 19)),oO 21 (.load .sc (.t 20)),oO 22 (.bin .add (.t 21) (.k (.c (.d (.int .u8 1))))),oO 23 (.idxSl 1 (.t 18) (.t 19)),oN (.store .sc (.t 23) (.t 22))]) (.seq (.reg [oM 24 3,oM 25 4,oO 26 (.idxSl 1 (.t 24) (.t 25)),oO 27 (.load .sc (.t 26)),oO 28 (.bin .neq (.t 27) (.k (.c (.d (.int .u8 0)))))]) (.cond (.t 28) (.exit 0) (.skip))))) (.reg [oM 16 4,oO 17 (.bin .sub (.t 16) (kI 1)),oM 4 17]))
def wj:aB:=⟨1,30,.seq (.reg [oO 2 (.mv (.k (.c .nil)))]) (.seq (.seq (.reg [oM 5 0,oO 6 (.len (.t 5)),oO 7 (.bin .neq (.t 6) (kI 16))]) (.cond (.t 7) (.seq (.reg [oO 2 (.mv (.k (.c .nil)))]) (.ret)) (.skip))) (.seq (.reg [oM 8 0,oO 9 (.bldSl false 1 1 (.sl []) [(0,(.t 8))]),oO 10 (.call 30 [(.t 9)] (some (0,1))),oM 3 10]) (.seq (.seq (.reg [oM 11 3,oO 12 (.len (.t 11)),oO 13 (.bin .sub (.t 12) (kI 1)),oM 4 13]) (.block 0 (.loop qd))) (.seq (.reg [oM 29 3,oM 2 29]) (.ret))))),[(2,none)]⟩
theorem QL:aA Try.prog { own:=[10],comp:=[],frz:=[],nils:=[] } Try.f87=some wj:=by kernel_rfl
theorem S7 (G:aj) (c:List UInt8) (hc:c.length≤140737488355328):ar Try.prog G 87 [.sl (c.map bD)] (.w (.c (.fr 1 ((sA c).map bD)))):=by
  refine aF Try.func87 QL rfl rfl ?_;unfold sA;by_cases h:c.length=16
  ·rw[if_pos h];have hj:=dw G [c] (by simp) (by simp; omega);have hf:[c].flatten=c:=by simp
   rw[hf] at hj;have hs:=JR c;rw[h] at hs;simp only[wj,ah,ae,aa,seval,iteOmega,toNatUp,h];refine sD (hj) ?_;refine bH (sB c) (fun m=>m) (fun m=>m≤16∧carry c m) 16 ⟨UJ _,by have:=Jq c; rwa [h] at this⟩ ?_ ?_
   ·refine aG (fun i=>80) ?_ ?_ rfl rfl <;> simp only[wx,aw,aH,aa,seval,iteOmega,toNatUp,hs,h] <;> rfl
   ·rintro m ⟨hm,hcar⟩;rcases m with _ | q
    ·have e0:=KR c;have hl:(jv c).length=16:=by rw[z0]; exact h
     simp only[qd,sB,e0,Wq,Int.zero_sub,ae,aa,seval,iteOmega,toNatUp];exact ft (id:=1) (n:=16) (s:=1) (by simp only[wx,aa,seval,iteOmega,toNatUp]) (by simp only[wx,aa,seval,iteOmega,toNatUp]) (by simp[hl])
    ·have hq:q<c.length:=by omega
     have hl1:(d9 c (q+1)).length=16:=by rw[Ch]; exact h
     have hl0:(d9 c q).length=16:=by rw[Ch]; exact h
     have g1:=Oi hq;have h3:q<(d9 c (q+1)).length:=by omega
     have h5:=Oj hq hcar;have g2:(d9 c q)[q]?=some (c.getD q 0+1):=by
       rw[← h5,List.getElem?_set_self (by omega)]
     have x1:=QK (c.getD q 0) 1 1 rfl;have x2:=Qq (c.getD q 0+1) 0 0 rfl;have hcs:=JS hq hcar;have sub:((q:Int)+1-1)=(q:Int):=by omega
     by_cases hz:c.getD q 0+1=0
     ·have hz2:(c.getD q 0+1 != 0)=false:=by rw[hz]; rfl
      rw[hz2] at x2;have hcar2:carry c q:=by unfold carry; rw[hcs,hz]; rfl
      simp only[qd,sB,ae,aa,seval,iteOmega,toNatUp,sub,aV,g1,x1,gM h3 (fO _),im,h5,g2,x2,hl1,hl0];refine br q (by omega) ⟨by omega,hcar2⟩ (aG (fun i=>i) ?_ ?_ rfl rfl) <;> simp only[wx,aw,aH,aa,seval,iteOmega,toNatUp]
     ·have hz2:(c.getD q 0+1 != 0)=true:=bne_iff_ne.2 hz;rw[hz2] at x2;have e0:d9 c q=jv c:=Ol (by rw[hcs]; exact beq_eq_false_iff_ne.2 hz);rw[e0] at hl0 g2 h5;simp only[qd,sB,ae,aa,seval,iteOmega,toNatUp,sub,aV,g1,x1,gM h3 (fO _),im,h5,g2,x2,hl1,e0];exact ft (id:=1) (n:=16) (s:=1) (by simp only[wx,aa,seval,iteOmega,toNatUp]) (by simp only[wx,aa,seval,iteOmega,toNatUp]) (by simp[hl0])
  ·rw[if_neg h];simp only[wj,ah,ae,aa,seval,iteOmega,toNatUp];exact gz
def oC (key b:List UInt8):Int:=if key.length≠16 then 5 else if b.length≠16 then 3 else 0
def sE (key b:List UInt8):List UInt8:=if key.length=16∧b.length=16 then qZ key b else []
def q9:aB:=⟨2,18,.seq (.reg [oO 4 (.mv (.k (.c .nil))),oO 5 (.mv (kI 0))]) (.seq (.seq (.reg [oM 7 0,oO 8 (.len (.t 7)),oO 9 (.bin .neq (.t 8) (kI 16))]) (.cond (.t 9) (.seq (.reg [oO 4 (.mv (.k (.c .nil))),oO 5 (.mv (kI 5))]) (.ret)) (.skip))) (.seq (.seq (.reg [oM 10 1,oO 11 (.len (.t 10)),oO 12 (.bin .neq (.t 11) (kI 16))]) (.cond (.t 12) (.seq (.reg [oO 4 (.mv (.k (.c .nil))),oO 5 (.mv (kI 3))]) (.ret)) (.skip))) (.seq (.reg [oM 13 0,oO 14 (.call 84 [(.t 13)] none),oM 15 1,oO 16 (.call 86 [(.t 14),(.t 15)] none),oO 6 (.allocArr [(.int .u8 0),(.int .u8 0),(.int .u8 0),(.int .u8 0),(.int .u8 0),(.int .u8 0),(.int .u8 0),(.int .u8 0),(.int .u8 0),(.int .u8 0),(.int .u8 0),(.int .u8 0),(.int .u8 0),(.int .u8 0),(.int .u8 0),(.int .u8 0)]),oN (.store (.ag 16) (.t 6) (.t 16))]) (.seq (.reg [oO 17 (.sliceArr 1 16 (.t 6) none none),
 oM 4 17,oO 5 (.mv (kI 0))]) (.ret))))),[(4,none),(5,none)]⟩
theorem QM:aA Try.prog { own:=[],comp:=[],frz:=[],nils:=[] } Try.f98=some q9:=by kernel_rfl
theorem wZ (G:aj) (key b:List UInt8) (hk:key.length≤9223372036854775807) (hb:b.length≤9223372036854775807):ar Try.prog G 98 [.sl (key.map bD),.sl (b.map bD)] (.tup [.c (.fr 1 ((sE key b).map bD)),.c (.d (.int .i64 (oC key b)))]):=by
  refine aF Try.func98 QM rfl rfl ?_;unfold sE oC;by_cases h:key.length=16
  ·by_cases h2:b.length=16
   ·have hr:=vq h;have hl:(qZ key b).length=16:=ib _ _;have ht:(qZ key b).take 16=qZ key b:=UG (by omega);rw[if_pos ⟨h,h2⟩,if_neg (by simp[h]),if_neg (by simp[h2])];simp only[q9,ah,ae,aa,seval,iteOmega,toNatUp,h,h2,fF];refine sD (Gy G key h) ?_;refine sC (Gz G (aC key) b hr h2) ?_;simp only[ib,cd,hl,ae,aa,seval,iteOmega,toNatUp];exact v7 (by simp only[ae,aa,seval,iteOmega,toNatUp,iU,ib,hl,ie]; rfl) (by simp only[ae,aa,seval,iteOmega,toNatUp])
   ·rw[if_neg (fun k=>h2 k.2),if_neg (by simp[h]),if_pos h2];simp only[q9,ah,ae,aa,seval,iteOmega,toNatUp,h];exact cv
  ·rw[if_neg (fun k=>h k.1),if_pos h];simp only[q9,ah,ae,aa,seval,iteOmega,toNatUp];exact cv
def ly (key:List UInt8):Int:=if key.length≠16 then 5 else 0
def fy (r n:Nat):Nat:=(n-r%n)%n
def cF (b:List UInt8) (n:Int):List UInt8:=if 1≤n∧n≤64 then b++List.replicate (fy b.length n.toNat) 0 else b
theorem Ee (b:List UInt8) {n:Nat} (h:1≤n∧n≤64):cF b (n:Int)=b++List.replicate (fy b.length n) 0:=by
  unfold cF; rw[if_pos (by omega),Int.toNat_natCast]
theorem Mt (b:List UInt8) {n:Int} (h:¬ (1≤n∧n≤64)):cF b n=b:=if_neg h
theorem Mu (r:Nat) {n:Nat} (h:1≤n):fy r n<n:=VV _ (by omega)
theorem Om (n:Nat):al 0 n=List.replicate n 0:=by
  unfold al;simp only[Nat.zero_div]
  induction n with
  | zero=>rfl
  | succ n ih=>rw[VZ,U6,ih,List.replicate_succ']; rfl
theorem GA (a b:Nat):Int.tmod (a:Int) (b:Int)=((a%b:Nat):Int):=rfl
def rb:aB:=⟨2,28,.seq (.reg [oO 4 (.mv (.k (.c .nil)))]) (.seq (.seq (.reg [oM 6 1,oO 7 (.bin .lss (.t 6) (kI 1)),oM 8 7,oG 9 (.mv (.t 1)) 8 false,oG 10 (.bin .gtr (.t 9) (kI 64)) 8 false,oO 11 (.pick (.t 8) (.k (.c (.d (.bool true)))) (.t 10))]) (.cond (.t 11) (.seq (.reg [oM 12 0,oO 13 (.bldSl false 1 1 (.sl []) [(0,(.t 12))]),oO 14 (.call 30 [(.t 13)] (some (0,1))),oM 4 14]) (.ret)) (.skip))) (.seq (.reg [oM 15 1,oM 16 0,oO 17 (.len (.t 16)),oM 18 1,oO 19 (.bin .rem (.t 17) (.t 18)),oO 20 (.bin .sub (.t 15) (.t 19)),oM 21 1,oO 22 (.bin .rem (.t 20) (.t 21)),oM 5 22]) (.seq (.reg [oM 23 0,oM 24 5,oO 25 (.call 71 [(.k (.c (.d (.int .u64 0)))),(.t 24)] none),oO 26 (.bldSl false 2 1 (.sl []) [(0,(.t 23)),(1,(.t 25))]),oO 27 (.call 30 [(.t 26)] (some (0,1))),oM 4 27]) (.ret)))),[(4,none)]⟩
theorem QO:aA Try.prog { own:=[14,27],comp:=[],frz:=[],nils:=[] } Try.f57=some rb:=by kernel_rfl
set_option maxHeartbeats 1600000 in
theorem rM (G:aj) (b:List UInt8) (n:Int) (hb:b.length≤70368744177664):ar Try.prog G 57 [.sl (b.map bD),.int .i64 n] (.w (.c (.fr 1 ((cF b n).map bD)))):=by
  refine aF Try.func57 QO rfl rfl ?_;by_cases hc:1≤n∧n≤64
  ·obtain⟨m,rfl⟩:=Vz (show 0≤n by omega);rw[Ee b (by omega)];have hr:b.length%m<m:=VV _ (by omega);have hk:fy b.length m=(m-b.length%m)%m:=rfl;have hlt:=Mu b.length (n:=m) (by omega);have e1:=GA b.length m;have e2:Int.tmod ((m:Int)-((b.length%m:Nat):Int)) (m:Int)=((fy b.length m:Nat):Int):=by
     rw[show (m:Int)-((b.length%m:Nat):Int)=((m-b.length%m:Nat):Int) by omega,GA,hk]
   have hm:((m:Int)=0)=False:=eq_false (by omega);have hp:=v8 G 0 (fy b.length m) (by omega);have hj:=dw G [b,al 0 (fy b.length m)] (by simp) (by simp[bp]; omega);have hf:[b,al 0 (fy b.length m)].flatten=b++List.replicate (fy b.length m) 0:=by rw[Om]; simp
   rw[hf] at hj;generalize fy b.length m=k at *
   simp only[rb,ah,ae,aa,seval,iteOmega,toNatUp,e1,e2,hm];refine sD (hp) ?_;refine sD (hj) ?_;exact gz
  ·rw[Mt b hc];have hj:=dw G [b] (by simp) (by simp; omega);have hf:[b].flatten=b:=by simp
   rw[hf] at hj;by_cases h1:n<1
   ·simp only[rb,ah,ae,aa,seval,iteOmega,toNatUp];refine sD (hj) ?_;exact gz
   ·have h2:64<n:=by omega
    simp only[rb,ah,ae,aa,seval,iteOmega,toNatUp];refine sD (hj) ?_;exact gz
def dG (b:List UInt8) (j:Nat):UInt8:=if j<15 then ja (dB (b.getD j 0) 1) (dC (b.getD (j+1) 0) 7) else dB (b.getD j 0) 1
def gA (b:List UInt8):List UInt8:=(List.range 16).map (dG b)
theorem vt (b:List UInt8):(gA b).length=16:=by simp[gA]
theorem vu (b:List UInt8) {j:Nat} (h:j<16):(gA b)[j]?=some (dG b j):=by simp[gA,h]
def oD (b:List UInt8):UInt8:=iX (iY (b.getD 0 0) 7) 135
theorem Mv {b:List UInt8} (h:b.length=16):(gA b).set 15 (am (dG b 15) (oD b))=eb b:=by
  unfold eb;rw[if_pos h];apply V9;intro j;rw[List.getElem?_set];by_cases hj:j<16
  ·rw[qF _ hj];have hd:∀ k,aS b k=b.getD k 0:=fun _=>rfl
   by_cases h15:15=j
   ·subst h15;rw[if_pos rfl,if_pos (by rw[vt]; decide)];simp only[dG,xG,hd,oD,Nat.lt_irrefl,if_false,if_true,tR]
   ·rw[if_neg h15,vu _ hj];have:j<15:=by omega
    simp only[dG,xG,hd,if_pos this,if_neg (show ¬ j=15 by omega),tR,QN]
  ·rw[if_neg (by omega),Vj (by rw[vt]; omega),Vj (by rw[eY]; omega)]
theorem Mw (b:List UInt8):bg .mul (.w (.c (.d (bD (dC (b.getD 0 0) 7))))) (.w (.c (.d (.int .u8 135))))=some (bD (oD b)):=by
  have key:=kg (p:=fun x=>(dC x 7).toNat*135%256==(iX (iY x 7) 135).toNat) (by decide +kernel) (b.getD 0 0);rw[beq_iff_eq] at key
  show ba .mul .u8 _ .u8 _=_
  rw[uA,IntKind.wrap_u8];unfold oD bD;rw[← key]
  congr 2
theorem Mx (x:UInt8):ja x 0=x:=by
  have key:=kg (p:=fun x=>ja x 0==x) (by decide +kernel) x;rw[beq_iff_eq] at key;exact key
theorem Uu:bD 0=.int .u8 0:=rfl
def lC (b:List UInt8) (m:Nat):UInt8:=if m<16 then dC (b.getD m 0) 7 else 0
theorem My (b:List UInt8) {q:Nat} (h:q<16):ja (dB (b.getD q 0) 1) (lC b (q+1))=dG b q:=by
  unfold lC dG;by_cases h2:q<15
  ·rw[if_pos (by omega),if_pos h2]
  ·rw[if_neg (by omega),if_neg h2,Mx]
theorem QP (b:List UInt8) {q:Nat} (h:q<16):dC (b.getD q 0) 7=lC b q:=(if_pos h).symm
def gY (l:List UInt8) (m:Nat):List UInt8:=List.replicate m 0++l.drop m
theorem On {l:List UInt8} {m:Nat} (h:m≤l.length):(gY l m).length=l.length:=by
  unfold gY; rw[UF,UW,UK]; omega
theorem Mz (l:List UInt8):gY l 0=l:=by simp[gY]
theorem MA {l:List UInt8} {m:Nat} (h:l.length=m):gY l m=List.replicate m 0:=by
  unfold gY; rw[VA (by omega),UX]
theorem MB {l:List UInt8} {q:Nat} (h:q<l.length):(gY l (q+1)).set q (l.getD q 0)=gY l q:=by
  unfold gY;rw[List.replicate_succ',UV,List.set_append_right _ _ (by simp),UW,Nat.sub_self,List.drop_eq_getElem_cons h,UD,UB h];rfl
def xH (b:List UInt8) (m:Nat):St:=⟨bc [(0,.w (.c (.d (.sl (b.map bD))))),(3,.w (.c (.own 1 1 0 16))),(4,.w (.c (.d (bD (lC b m))))),(5,.w (.c (.d (.int .i64 ((m:Int)-1)))))],hL [(1,.row 1 ((gY (gA b) m).map bD))],uL [1]⟩
theorem Oo {b:List UInt8} (h:b.length≠16):eb b=[]:=if_neg h
def uM:aL := .seq (.seq (.reg [oM 10 5,oO 11 (.bin .geq (.t 10) (kI 0))]) (.cond (.t 11) (.skip) (.exit 0))) (.seq (.block 1 (.seq (.reg [oM 14 3,oM 15 5,oM 16 0,oM 17 5,oO 18 (.idxSl 1 (.t 16) (.t 17)),oO 19 (.load .sc (.t 18)),oO 20 (.bin .shl (.t 19) (.k (.c (.d (.int .u64 1))))),oM 21 4,oO 22 (.bin .or (.t 20) (.t 21)),oO 23 (.idxSl 1 (.t 14) (.t 15)),oN (.store .sc (.t 23) (.t 22))]) (.reg [oM 24 0,oM 25 5,oO 26 (.idxSl 1 (.t 24) (.t 25)),oO 27 (.load .sc (.t 26)),oO 28 (.bin .shr (.t 27) (.k (.c (.d (.int .u64 7))))),oM 4 28]))) (.reg [oM 12 5,oO 13 (.bin .sub (.t 12) (kI 1)),oM 5 13]))
def wk:aB:=⟨1,37,.seq (.reg [oO 2 (.mv (.k (.c .nil)))]) (.seq (.seq (.reg [oM 6 0,oO 7 (.len (.t 6)),oO 8 (.bin .neq (.t 7) (kI 16))]) (.cond (.t 8) (.seq (.reg [oO 2 (.mv (.k (.c .nil)))]) (.ret)) (.skip))) (.seq (.reg [oO 9 (.make true 1 1 (.int .u8 0) (kI 16) (kI 16)),oM 3 9]) (.seq (.reg [oO 4 (.mv (.k (.c (.d (.int .u8 0)))))]) (.seq (.seq (.reg [oO 5 (.mv (kI 15))]) (.block 0 (.loop uM))) (.seq (.reg [oM 29 3,oO 30 (.idxSl 1 (.t 29) (kI 15)),oO 31 (.load .sc (.t 30)),oM 32 4,oO 33 (.bin .mul (.t 32) (.k (.c (.d (.int .u8 135))))),oO 34 (.bin .xor (.t 31) (.t 33)),oO 35 (.idxSl 1 (.t 29) (kI 15)),oN (.store .sc (.t 35) (.t 34))]) (.seq (.reg [oM 36 3,oM 2 36]) (.ret))))))),[(2,none)]⟩
theorem QQ:aA Try.prog { own:=[],comp:=[],frz:=[],nils:=[] } Try.f99=some wk:=by kernel_rfl
theorem rN (G:aj) (b:List UInt8) (hb:b.length≤9223372036854775807):ar Try.prog G 99 [.sl (b.map bD)] (.w (.c (.fr 1 ((eb b).map bD)))):=by
  refine aF Try.func99 QQ rfl rfl ?_;by_cases h:b.length=16
  ·have hd:=Mv h;have hl:=vt b;simp only[wk,ah,ae,aa,seval,iteOmega,toNatUp,h,fF];refine bH (xH b) (fun m=>m) (fun m=>m≤16) 16 (UJ _) ?_ ?_
   ·have e1:gY (gA b) 16=bf 16 0:=MA hl;have e2:lC b 16=0:=rfl;refine aG (fun i=>72) ?_ ?_ rfl rfl <;> simp only[wx,aw,aH,aa,seval,iteOmega,toNatUp,e1,e2,Uu]
   ·intro m hm;rcases m with _ | q
    ·have e0:=Mz (gA b);have c0:lC b 0=dC (b.getD 0 0) 7:=rfl;have x1:=Mw b;have g1:=vu b (j:=15) (by decide);have x2:=fY (dG b 15) (oD b);have h3:15<(gA b).length:=by omega
     have hdl:(eb b).length=16:=kQ h;simp only[uM,xH,e0,c0,Wq,Int.zero_sub,ae,aa,seval,iteOmega,toNatUp,aV,g1,x1,x2,gM h3 (fO _),im,hd];exact ft (id:=1) (n:=16) (s:=1) (by simp only[wx,aa,seval,iteOmega,toNatUp]) (by simp only[wx,aa,seval,iteOmega,toNatUp]) (by simp[hdl])
    ·have hq:q<16:=by omega
     have g1:b[q]?=some (b.getD q 0):=dJ (by omega);have hl1:=On (l:=gA b) (m:=q+1) (by omega);have h3:q<(gY (gA b) (q+1)).length:=by omega
     have x1:=Gk (b.getD q 0) .u64 1 1 rfl (by decide);have x2:=uD (dB (b.getD q 0) 1) (lC b (q+1));have x3:=Gj (b.getD q 0) .u64 7 7 rfl (by decide);have c1:=My b hq;have c2:=QP b hq;have hs:=MB (l:=gA b) (q:=q) (by omega);have hg:(gA b).getD q 0=dG b q:=by rw[UD,vu b hq]; rfl
     rw[hg] at hs;have sub:((q:Int)+1-1)=(q:Int):=by omega
     simp only[uM,xH,ae,aa,seval,iteOmega,toNatUp,sub,aV,g1,x1,x2,x3,c1,c2,h,gM h3 (fO _),im,hs];refine br q (by omega) (by omega) (aG (fun i=>i) ?_ ?_ rfl rfl) <;> simp only[wx,aw,aH,aa,seval,iteOmega,toNatUp]
  ·rw[Oo h];simp only[wk,ah,ae,aa,seval,iteOmega,toNatUp];exact gz
def jS (a b:List UInt8) (j:Nat):UInt8:=am (a.getD j 0) (b.getD j 0)
theorem Oq {a b:List UInt8} {n:Nat} (ha:a.length=n) (hb:b.length=n):(List.range n).map (jS a b)=bZ a b:=by
  apply V9;intro j;by_cases hj:j<n
  ·have:=Ci a b j (by omega) (by omega);have hl:j<(bZ a b).length:=by rw[gE]; omega
   rw[dJ hl,this];simp[hj,jS]
  ·rw[Vj (by simpa using hj),Vj (by rw[gE]; omega)]
def xa (a b:List UInt8) (i:Nat):St:=⟨bc [(0,.w (.c (.d (.sl (a.map bD))))),(1,.w (.c (.d (.sl (b.map bD))))),(5,.w (.c (.own 1 1 0 16))),(9,.w (.c (.d (.int .i64 16)))),(10,.w (.c (.d (.int .i64 (i:Int)))))],hL [(1,.row 1 ((bq (jS a b) (bf 16 0) i).map bD))],uL [1]⟩
def uO:aL := .seq (.reg [oO 11 (.bin .lss (.t 10) (.t 9))]) (.seq (.cond (.t 11) (.skip) (.exit 0)) (.seq (.block 1 (.seq (.reg [oM 12 10,oM 6 12]) (.reg [oM 13 5,oM 14 6,oM 15 0,oM 16 6,oO 17 (.idxSl 1 (.t 15) (.t 16)),oO 18 (.load .sc (.t 17)),oM 19 1,oM 20 6,oO 21 (.idxSl 1 (.t 19) (.t 20)),oO 22 (.load .sc (.t 21)),oO 23 (.bin .xor (.t 18) (.t 22)),oO 24 (.idxSl 1 (.t 13) (.t 14)),oN (.store .sc (.t 24) (.t 23))]))) (.reg [oO 25 (.bin .add (.t 10) (kI 1)),oM 10 25])))
def GC:aB:=⟨2,27,.seq (.reg [oO 4 (.mv (.k (.c .nil)))]) (.seq (.reg [oO 7 (.make true 1 1 (.int .u8 0) (kI 16) (kI 16)),oM 5 7]) (.seq (.seq (.reg [oM 8 5,oO 9 (.len (.t 8)),oO 10 (.mv (kI 0))]) (.block 0 (.loop uO))) (.seq (.reg [oM 26 5,oM 4 26]) (.ret)))),[(4,none)]⟩
theorem QR:aA Try.prog { own:=[],comp:=[],frz:=[],nils:=[] } Try.f101=some GC:=by kernel_rfl
theorem li (G:aj) (a b:List UInt8) (ha:a.length=16) (hb:b.length=16):ar Try.prog G 101 [.sl (a.map bD),.sl (b.map bD)] (.w (.c (.fr 1 ((bZ a b).map bD)))):=by
  refine aF Try.func101 QR rfl rfl ?_;have zl:(bf 16 (0:UInt8)).length=16:=cd _ _;simp only[GC,ah,ae,aa,seval,iteOmega,toNatUp,fF];refine bH (xa a b) (fun i=>16-i) (fun i=>i≤16) 0 (UR _) ?_ ?_
  ·have e1:=nv (jS a b) (bf 16 0);refine aG (fun i=>56) ?_ ?_ rfl rfl <;> simp only[wx,aw,aH,aa,seval,iteOmega,toNatUp,e1]
  ·intro i hi;by_cases hlt:i<16
   ·have g1:a[i]?=some (a.getD i 0):=dJ (by omega);have g2:b[i]?=some (b.getD i 0):=dJ (by omega);have hl1:=l5 (jS a b) (bf 16 0) (i:=i) (by omega);have h3:i<(bq (jS a b) (bf 16 0) i).length:=by omega
    have x1:=fY (a.getD i 0) (b.getD i 0);have hx:am (a.getD i 0) (b.getD i 0)=jS a b i:=rfl;have hs:=nx (jS a b) (bf 16 0) (i:=i) (by omega);simp only[uO,xa,ae,aa,seval,iteOmega,toNatUp,aV,g1,g2,x1,ha,hb,gM h3 (fO _),im,hx,hs];refine br (i+1) (by omega) (by omega) (aG (fun i=>i) ?_ ?_ rfl rfl) <;> simp only[wx,aw,aH,aa,seval,iteOmega,toNatUp]
   ·obtain rfl:i=16:=by omega
    have e1:bq (jS a b) (bf 16 0) 16=bZ a b:=by rw[Cd _ _ (by rw[cd]; decide),Oq ha hb]
    have hl:(bZ a b).length=16:=by rw[gE]; exact ha
    simp only[uO,xa,e1,ae,aa,seval,iteOmega,toNatUp];exact ft (id:=1) (n:=16) (s:=1) (by simp only[wx,aa,seval,iteOmega,toNatUp]) (by simp only[wx,aa,seval,iteOmega,toNatUp]) (by simp[hl])
theorem Ef {key b:List UInt8} (h:key.length=16) (hb:b.length=16):sE key b=dD (aC key) b:=if_pos ⟨h,hb⟩
theorem Eg {key b:List UInt8} (h:key.length=16) (hb:b.length=16):oC key b=0:=by unfold oC; rw[if_neg (by omega),if_neg (by omega)]
theorem Or (b:List UInt8):cF b 16=gS b:=rfl
def fe (key:List UInt8):D:=.agg [.sl (key.map bD),.sl ((gT (aC key)).map bD),.sl ((jD (aC key)).map bD)]
def oR (key:List UInt8):D:=if key.length=16 then fe key else .agg [.sl [],.sl [],.sl []]
theorem H2 (s:Nat) (l:List UInt8) (k:IntKind) (n:Int):V.flat (.tup [.c (.fr s (l.map bD)),.c (.d (.int k n))])=true:=by
  have:=lu s l;simp only[V.flat,W.flat,Wg,List.all_nil,Wh] at this ⊢;rw[this]; rfl
def Eh:aB:=⟨2,15,.seq (.reg [oO 2 (.box .roBox (.t 0)),oO 4 (.mv (.k (.c .nil)))]) (.seq (.reg [oO 8 (.fieldAddr 0 (.t 2)),oO 9 (.load .sc (.t 8)),oM 10 1,oO 11 (.call 98 [(.t 9),(.t 10)] (some (0,1))),oM 7 11,oO 12 (.extract (.t 7) 0),oO 13 (.extract (.t 7) 1),oM 5 12,oM 6 13]) (.seq (.reg [oM 14 5,oM 4 14]) (.ret))),[(4,none)]⟩
theorem Ot:aA Try.prog { own:=[],comp:=[(11,0)],frz:=[],nils:=[] } Try.f104=some Eh:=by kernel_rfl
theorem GD (G:aj) (key b:List UInt8) (h:key.length=16) (hb:b.length=16):ar Try.prog G 104 [.agg [.sl (key.map bD)],.sl (b.map bD)] (.w (.c (.fr 1 ((dD (aC key) b).map bD)))):=by
  refine aF Try.func104 Ot rfl rfl ?_;have hx:=wZ G key b (by omega) (by omega);rw[Ef h hb,Eg h hb] at hx;simp only[Eh,ah,ae,aa,seval,iteOmega,toNatUp];refine sD (hx) ?_;exact gz
theorem QS (G:aj) (key b:List UInt8) (h:key.length=16) (hb:b.length=16):ar Try.prog G 104 [.agg [.sl (key.map bD)],.sl (b.map bD)] (.w (.c (.d (.sl ((dD (aC key) b).map bD))))):=j5 (GD G key b h hb)
def vw:aB:=⟨1,25,.seq (.reg [oO 2 (.alloc [.nil,.nil,.nil]),oO 3 (.mv (kI 0))]) (.seq (.reg [oM 8 0,oO 9 (.make true 1 1 (.int .u8 0) (kI 16) (kI 16)),oO 10 (.call 98 [(.t 8),(.t 9)] none),oM 7 10,oO 11 (.extract (.t 7) 0),oO 12 (.extract (.t 7) 1),oM 4 11,oM 5 12]) (.seq (.seq (.reg [oM 13 5,oO 14 (.bin .neq (.t 13) (kI 0))]) (.cond (.t 14) (.seq (.reg [oO 15 (.build [.nil,.nil,.nil] []),oM 16 5,oN (.store (.ag 3) (.t 2) (.t 15)),oM 3 16]) (.ret)) (.skip))) (.seq (.reg [oM 17 4,oO 18 (.call 99 [(.t 17)] none),oM 6 18]) (.seq (.reg [oM 19 0,oO 20 (.build [.nil] [(0,1,(.t 19))]),oM 21 6,oM 22 6,oO 23 (.call 99 [(.t 22)] none),oO 24 (.build [.nil,.nil,.nil] [(0,1,(.t 20)),(1,1,(.t 21)),(2,1,(.t 23))]),oN (.store (.ag 3) (.t 2) (.t 24)),oO 3 (.mv (kI 0))]) (.ret))))),[(2,(some (.ag 3))),(3,none)]⟩
theorem Ou:aA Try.prog { own:=[],comp:=[],frz:=[],nils:=[] } Try.f89=some vw:=by kernel_rfl
theorem QT (G:aj) (key:List UInt8) (hk:key.length≤9223372036854775807):ar Try.prog G 89 [.sl (key.map bD)] (.tup [.c (.d (oR key)),.c (.d (.int .i64 (ly key)))]):=by
  refine aF Try.func89 Ou rfl rfl ?_;have t0:(bf 16 (0:UInt8)).take 16=eZ:=rfl;by_cases h:key.length=16
  ·have hx:=wZ G key eZ (by omega) (by decide);rw[Ef h (by decide),Eg h (by decide)] at hx;have hv:oR key=fe key:=if_pos h;have he:ly key=0:=by unfold ly; rw[if_neg (by omega)]
   have h1:=rN G (dD (aC key) eZ) (by rw[ib]; decide);have h2:=rN G (gT (aC key)) (by rw[uK]; decide);have s1:eb (dD (aC key) eZ)=gT (aC key):=rfl;have s2:eb (gT (aC key))=jD (aC key):=rfl;rw[s1] at h1;rw[s2] at h2;rw[hv,he];simp only[vw,ah,ae,aa,seval,iteOmega,toNatUp,fF];refine bE hx (by simp only[ae,aa,seval,iteOmega,toNatUp,eF,t0,cd]) (.inr (H2 _ _ _ _)) ?_;simp only[ae,aa,seval,iteOmega,toNatUp];refine sD (h1) ?_;refine sD (h2) ?_;exact dv (by simp only[ae,aa,seval,iteOmega,toNatUp,fe]) (by simp only[ae,aa,seval,iteOmega,toNatUp])
  ·have hv:oR key=.agg [.sl [],.sl [],.sl []]:=if_neg h;have he:ly key=5:=if_pos h;have hx:=wZ G key eZ (by omega) (by decide);have v1:sE key eZ=[]:=if_neg (fun k=>h k.1);have v2:oC key eZ=5:=if_pos h;rw[v1,v2] at hx;rw[hv,he];simp only[vw,ah,ae,aa,seval,iteOmega,toNatUp,fF];refine bE hx (by simp only[ae,aa,seval,iteOmega,toNatUp,eF,t0,cd]) (.inr (H2 _ _ _ _)) ?_;simp only[ae,aa,seval,iteOmega,toNatUp];exact eS
def Ei:aB:=⟨1,8,.seq (.reg [oO 2 (.mv (.k (.c .nil)))]) (.seq (.reg [oM 3 0,oO 4 (.bldSl false 1 1 (.int .u8 0) [(0,(.k (.c (.d (.int .u8 128)))))]),oO 5 (.bldSl false 2 1 (.sl []) [(0,(.t 3)),(1,(.t 4))]),oO 6 (.call 30 [(.t 5)] none),oO 7 (.call 57 [(.t 6),(kI 16)] none),oM 2 7]) (.ret)),[(2,none)]⟩
theorem Ov:aA Try.prog { own:=[],comp:=[],frz:=[],nils:=[] } Try.f106=some Ei:=by kernel_rfl
theorem GE (G:aj) (b:List UInt8) (hb:b.length≤70000):ar Try.prog G 106 [.sl (b.map bD)] (.w (.c (.d (.sl ((gS (b++[128])).map bD))))):=by
  refine aF Try.func106 Ov rfl rfl ?_;have hj:=dw G [b,[128]] (by simp) (by simp; omega);have hf:[b,[128]].flatten=b++[128]:=by simp
  rw[hf] at hj;have hp:=rM G (b++[128]) 16 (by simp; omega);rw[Or] at hp;simp only[Ei,ah,ae,aa,seval,iteOmega,toNatUp];refine sD (hj) ?_;refine sD (hp) ?_;exact aP
theorem KS (rk:List UInt8) {e:List UInt8} (h:e.length=16):jE rk e=bZ e (gT rk):=if_pos h
theorem KT (rk:List UInt8) {e:List UInt8} (h:e.length≠16):jE rk e=bZ (gS (e++[128])) (jD rk):=if_neg h
def uP:aB:=⟨2,17,.seq (.reg [oO 2 (.box .roBox (.t 0)),oO 4 (.mv (.k (.c .nil)))]) (.seq (.seq (.reg [oM 5 1,oO 6 (.len (.t 5)),oO 7 (.bin .eql (.t 6) (kI 16))]) (.cond (.t 7) (.seq (.reg [oM 8 1,oO 9 (.fieldAddr 1 (.t 2)),oO 10 (.load .sc (.t 9)),oO 11 (.call 101 [(.t 8),(.t 10)] none),oM 4 11]) (.ret)) (.skip))) (.seq (.reg [oM 12 1,oO 13 (.call 106 [(.t 12)] none),oO 14 (.fieldAddr 2 (.t 2)),oO 15 (.load .sc (.t 14)),oO 16 (.call 101 [(.t 13),(.t 15)] none),oM 4 16]) (.ret))),[(4,none)]⟩
theorem MC:aA Try.prog { own:=[],comp:=[],frz:=[],nils:=[] } Try.f105=some uP:=by kernel_rfl
theorem Ow (G:aj) (key b:List UInt8) (hb:b.length≤16):ar Try.prog G 105 [fe key,.sl (b.map bD)] (.w (.c (.d (.sl ((jE (aC key) b).map bD))))):=by
  refine aF Try.func105 MC rfl rfl ?_;by_cases h:b.length=16
  ·rw[KS _ h];simp only[uP,ah,fe,ae,aa,seval,iteOmega,toNatUp,h];refine sD (li G b (gT (aC key)) h (uK _)) ?_;exact aP
  ·rw[KT _ h];simp only[uP,ah,fe,ae,aa,seval,iteOmega,toNatUp];refine sD (GE G b (by omega)) ?_;refine sD (li G (gS (b++[128])) (jD (aC key)) (tA (by omega)) (Mq _)) ?_;exact aP
def kA (key b:List UInt8):Nat→V
  | 0=>.w (.c (.own 1 1 0 16))
  | i+1=>.w (.c (.d (.sl ((fT (aC key) b (i+1)).map bD))))
def oo (key b:List UInt8) (i:Nat):St:=⟨bc [(1,.w (.c (.d (.sl ((b.drop (16*i)).map bD))))),(2,.w (.c (.rp [.sl (key.map bD),.sl ((gT (aC key)).map bD),.sl ((jD (aC key)).map bD)]))),(5,kA key b i)],hL [(1,.row 1 ((bf 16 (0:UInt8)).map bD))],uL [1]⟩
theorem QU (b:List UInt8) (i:Nat):((b.drop (16*i)).drop 16).take ((b.drop (16*i)).length-16)=b.drop (16*(i+1)):=by
  rw[Wk,UG (by simp only[UK]; omega)]; rfl
def nl:aL := .seq (.seq (.reg [oM 7 1,oO 8 (.len (.t 7)),oO 9 (.bin .gtr (.t 8) (kI 16))]) (.cond (.t 9) (.skip) (.exit 0))) (.block 1 (.seq (.reg [oO 10 (.fieldAddr 0 (.t 2)),oO 11 (.load (.ag 1) (.t 10)),oM 12 5,oM 13 1,oO 14 (.slice 1 (.t 13) none (some (kI 16)) none),oO 15 (.call 101 [(.t 12),(.t 14)] none),oO 16 (.call 104 [(.t 11),(.t 15)] none),oM 5 16]) (.reg [oM 17 1,oO 18 (.slice 1 (.t 17) (some (kI 16)) none none),oM 1 18])))
def Ej:aB:=⟨2,27,.seq (.reg [oO 2 (.box .roBox (.t 0)),oO 4 (.mv (.k (.c .nil)))]) (.seq (.reg [oO 6 (.make true 1 1 (.int .u8 0) (kI 16) (kI 16)),oM 5 6]) (.seq (.block 0 (.loop nl)) (.seq (.reg [oO 19 (.fieldAddr 0 (.t 2)),oO 20 (.load (.ag 1) (.t 19)),oM 21 5,oO 22 (.load (.ag 3) (.t 2)),oM 23 1,oO 24 (.call 105 [(.t 22),(.t 23)] none),oO 25 (.call 101 [(.t 21),(.t 24)] none),oO 26 (.call 104 [(.t 20),(.t 25)] (some (0,1))),oM 4 26]) (.ret)))),[(4,none)]⟩
theorem Ox:aA Try.prog { own:=[26],comp:=[],frz:=[],nils:=[] } Try.f100=some Ej:=by kernel_rfl
theorem re (G:aj) (key b:List UInt8) (h:key.length=16) (hb:b.length≤70000):ar Try.prog G 100 [fe key,.sl (b.map bD)] (.w (.c (.fr 1 ((gv (aC key) b).map bD)))):=by
  refine aF Try.func100 Ox rfl rfl ?_;have t0:(bf 16 (0:UInt8)).take 16=eZ:=rfl;have hah:kY b=(b.length+15) / 16-1:=rfl;have hm:∀ i,i=kY b→gv (aC key) b=dD (aC key) (bZ (fT (aC key) b i) (jE (aC key) (b.drop (16*i)))):=fun i e=>by rw[e]; rfl
  simp only[Ej,ah,fe,ae,aa,seval,iteOmega,toNatUp,fF];refine bH (oo key b) (fun i=>kY b-i) (fun i=>i≤kY b) 0 (UR _) ?_ ?_
  ·refine aG (fun i=>48) ?_ ?_ rfl rfl <;> simp only[wx,aw,aH,aa,seval,iteOmega,toNatUp,kA]
  ·intro i hi;have hcl:(b.drop (16*i)).length=b.length-16*i:=UK;have hdr:=QU b i;by_cases hlt:i<kY b
   ·have hT:((b.drop (16*i)).take 16).length=16:=by rw[UI]; omega
    have hstep:dD (aC key) (bZ (fT (aC key) b i) ((b.drop (16*i)).take 16))=fT (aC key) b (i+1):=rfl;have h1:=li G (fT (aC key) b i) ((b.drop (16*i)).take 16) (qe _ _ _) hT;have h2:=QS G key (bZ (fT (aC key) b i) ((b.drop (16*i)).take 16)) h (by rw[gE,qe]);rw[hstep] at h2;rcases i with _ | i
    ·have hz:fT (aC key) b 0=eZ:=rfl;rw[hz] at h1 h2;simp only[Nat.mul_zero,VI,VG,VT] at hdr;simp only[nl,oo,kA,ae,aa,seval,iteOmega,toNatUp];refine bE h1 (by simp only[ae,aa,seval,iteOmega,toNatUp,eF,t0,cd]) (.inr (lu _ _)) ?_;simp only[ae,aa,seval,iteOmega,toNatUp];refine sC (h2) ?_;simp only[hdr,ae,aa,seval,iteOmega,toNatUp];refine br (0+1) (by omega) (by omega) (aG (fun i=>i) ?_ ?_ rfl rfl) <;> simp only[wx,aw,aH,aa,seval,iteOmega,toNatUp,kA]
    ·simp only[nl,oo,kA,ae,aa,seval,iteOmega,toNatUp];refine sD (h1) ?_;refine sC (h2) ?_;simp only[hdr,ae,aa,seval,iteOmega,toNatUp];refine br (i+1+1) (by omega) (by omega) (aG (fun i=>i) ?_ ?_ rfl rfl) <;> simp only[wx,aw,aH,aa,seval,iteOmega,toNatUp,kA]
   ·rw[hm i (by omega)];have hl16:(b.drop (16*i)).length≤16:=by omega
    have h1:=Ow G key (b.drop (16*i)) hl16;have h2:=li G (fT (aC key) b i) (jE (aC key) (b.drop (16*i))) (qe _ _ _) (Mr hl16);have h3:=GD G key (bZ (fT (aC key) b i) (jE (aC key) (b.drop (16*i)))) h (by rw[gE,qe]);rcases i with _ | i
    ·have hz:fT (aC key) b 0=eZ:=rfl;rw[hz] at h2 h3 ⊢;simp only[nl,oo,kA,ae,aa,seval,iteOmega,toNatUp];refine sD (h1) ?_;refine bE h2 (by simp only[ae,aa,seval,iteOmega,toNatUp,eF,t0,cd]) (.inr (lu _ _)) ?_;simp only[ae,aa,seval,iteOmega,toNatUp];refine sD (h3) ?_;exact gz
    ·simp only[nl,oo,kA,ae,aa,seval,iteOmega,toNatUp];refine sD (h1) ?_;refine sD (h2) ?_;refine sD (h3) ?_;exact gz
theorem QV (G:aj) (key b:List UInt8) (h:key.length=16) (hb:b.length≤70000):ar Try.prog G 100 [fe key,.sl (b.map bD)] (.w (.c (.d (.sl ((gv (aC key) b).map bD))))):=j5 (re G key b h hb)
def vx:aB:=⟨2,26,.seq (.reg [oO 4 (.mv (.k (.c .nil)))]) (.seq (.reg [oM 6 0,oO 7 (.len (.t 6)),oO 8 (.bin .sub (.t 7) (kI 16)),oM 5 8]) (.seq (.seq (.reg [oM 9 5,oO 10 (.bin .lss (.t 9) (kI 0))]) (.cond (.t 10) (.seq (.reg [oM 11 1,oO 12 (.call 99 [(.t 11)] none),oM 13 0,oO 14 (.call 106 [(.t 13)] none),oO 15 (.call 101 [(.t 12),(.t 14)] none),oM 4 15]) (.ret)) (.skip))) (.seq (.reg [oM 16 0,oM 17 5,oO 18 (.slice 1 (.t 16) none (some (.t 17)) none),oM 19 0,oM 20 5,oO 21 (.slice 1 (.t 19) (some (.t 20)) none none),oM 22 1,oO 23 (.call 101 [(.t 21),(.t 22)] none),oO 24 (.bldSl false 2 1 (.sl []) [(0,(.t 18)),(1,(.t 23))]),oO 25 (.call 30 [(.t 24)] none),oM 4 25]) (.ret)))),[(4,none)]⟩
theorem Oy:aA Try.prog { own:=[],comp:=[],frz:=[],nils:=[] } Try.f102=some vx:=by kernel_rfl
theorem QW (G:aj) (s d:List UInt8) (hs:s.length≤70000) (hd:d.length=16):ar Try.prog G 102 [.sl (s.map bD),.sl (d.map bD)] (.w (.c (.d (.sl ((if 16≤s.length then s.take (s.length-16)++bZ (s.drop (s.length-16)) d else bZ (eb d) (gS (s++[128]))).map bD))))):=by
  refine aF Try.func102 Oy rfl rfl ?_;by_cases h:16≤s.length
  ·rw[if_pos h];have hl:(s.drop (s.length-16)).length=16:=by rw[UK]; omega
   have ht:(s.drop (s.length-16)).take (s.length-(s.length-16))=s.drop (s.length-16):=UG (by omega);have hj:=dw G [s.take (s.length-16),bZ (s.drop (s.length-16)) d] (by simp) (by simp[gE]; omega);have hf:[s.take (s.length-16),bZ (s.drop (s.length-16)) d].flatten=s.take (s.length-16)++bZ (s.drop (s.length-16)) d:=by simp
   rw[hf] at hj;have e1:(((s.length:Int)-16).toNat)=s.length-16:=by omega
   simp only[vx,ah,ae,aa,seval,iteOmega,toNatUp,e1,ht];refine sD (li G (s.drop (s.length-16)) d hl hd) ?_;refine sD (hj) ?_;exact aP
  ·rw[if_neg h];simp only[vx,ah,ae,aa,seval,iteOmega,toNatUp];refine sD (rN G d (by omega)) ?_;refine sD (GE G s (by omega)) ?_;refine sD (li G (eb d) (gS (s++[128])) (kQ hd) (tA (by omega))) ?_;exact aP
def xb (key:List UInt8) (l:List (List UInt8)) (i:Nat):St:=⟨bc [(1,.w (.c (.d (.sl (l.map fun l=>D.sl (l.map bD)))))),(2,.w (.c (.rp [.sl (key.map bD),.sl ((gT (aC key)).map bD),.sl ((jD (aC key)).map bD)]))),(5,.w (.c (.d (.sl ((gw (aC key) l i).map bD))))),(6,.w (.c (.d (.int .i64 ((l.length:Int)-1))))),(23,.w (.c (.d (.sl ((l.take (l.length-1)).map fun l=>D.sl (l.map bD)))))),(24,.w (.c (.d (.int .i64 ((l.length:Int)-1))))),(25,.w (.c (.d (.int .i64 (i:Int)))))],hL [(1,.row 1 ((bf 16 (0:UInt8)).map bD))],uL [1]⟩
theorem KU (rk:List UInt8) {l:List (List UInt8)} (h:l.length=0):ix rk l=gv rk (al 1 16):=by
  unfold ix; rw[if_pos h]; congr 1
theorem KV (rk:List UInt8) {l:List (List UInt8)} (h:l.length≠0):ix rk l=gv rk (if 16≤(l.getD (l.length-1) []).length then (l.getD (l.length-1) []).take ((l.getD (l.length-1) []).length-16)++bZ ((l.getD (l.length-1) []).drop ((l.getD (l.length-1) []).length-16)) (gw rk l (l.length-1)) else bZ (eb (gw rk l (l.length-1))) (gS (l.getD (l.length-1) []++[128]))):=by
  unfold ix; rw[if_neg h]; dsimp only; split <;> rfl
theorem vy {l:List (List UInt8)} {j:Nat} (h:j<l.length):l[j]?=some (l.getD j []):=by
  rw[UD,UB h]; rfl
theorem qg {l:List (List UInt8)} {j:Nat} (h:j<l.length):l.getD j []∈l:=by
  rw[UD,UB h]; exact U3 h
def tX:aL := .seq (.reg [oO 26 (.bin .lss (.t 25) (.t 24))]) (.seq (.cond (.t 26) (.skip) (.exit 0)) (.seq (.block 1 (.seq (.reg [oO 27 (.idxSl 1 (.t 23) (.t 25)),oO 28 (.load .sc (.t 27)),oM 8 28]) (.reg [oM 29 5,oO 30 (.call 99 [(.t 29)] none),oO 31 (.load (.ag 3) (.t 2)),oM 32 8,oO 33 (.call 100 [(.t 31),(.t 32)] none),oO 34 (.call 101 [(.t 30),(.t 33)] none),oM 5 34]))) (.reg [oO 35 (.bin .add (.t 25) (kI 1)),oM 25 35])))
def vz:aB:=⟨2,44,.seq (.reg [oO 2 (.box .roBox (.t 0)),oO 4 (.mv (.k (.c .nil)))]) (.seq (.seq (.reg [oM 9 1,oO 10 (.len (.t 9)),oO 11 (.bin .eql (.t 10) (kI 0))]) (.cond (.t 11) (.seq (.reg [oO 12 (.load (.ag 3) (.t 2)),oO 13 (.call 71 [(.k (.c (.d (.int .u64 1)))),(kI 16)] none),oO 14 (.call 100 [(.t 12),(.t 13)] (some (0,1))),oM 4 14]) (.ret)) (.skip))) (.seq (.reg [oO 15 (.load (.ag 3) (.t 2)),oO 16 (.make true 1 1 (.int .u8 0) (kI 16) (kI 16)),oO 17 (.call 100 [(.t 15),(.t 16)] none),oM 5 17]) (.seq (.reg [oM 18 1,oO 19 (.len (.t 18)),oO 20 (.bin .sub (.t 19) (kI 1)),oM 6 20]) (.seq (.seq (.reg [oM 21 1,oM 22 6,oO 23 (.slice 1 (.t 21) none (some (.t 22)) none),oO 24 (.len (.t 23)),oO 25 (.mv (kI 0))]) (.block 0 (.loop tX))) (.seq (.reg [oO 36 (.load (.ag 3) (.t 2)),oM 37 1,
 oM 38 6,oO 39 (.idxSl 1 (.t 37) (.t 38)),oO 40 (.load .sc (.t 39)),oM 41 5,oO 42 (.call 102 [(.t 40),(.t 41)] none),oO 43 (.call 100 [(.t 36),(.t 42)] (some (0,1))),oM 4 43]) (.ret)))))),[(4,none)]⟩
theorem Oz:aA Try.prog { own:=[14,43],comp:=[],frz:=[],nils:=[] } Try.f90=some vz:=by kernel_rfl
theorem QX (G:aj) (key:List UInt8) (l:List (List UInt8)) (h:key.length=16) (hl:l.length≤17) (hb:∀ x∈l,x.length≤65535):ar Try.prog G 90 [fe key,.sl (l.map fun l=>D.sl (l.map bD))] (.w (.c (.fr 1 ((ix (aC key) l).map bD)))):=by
  refine aF Try.func90 Oz rfl rfl ?_;have t0:(bf 16 (0:UInt8)).take 16=eZ:=rfl;by_cases h0:l.length=0
  ·rw[KU _ h0];simp only[vz,ah,fe,ae,aa,seval,iteOmega,toNatUp,h0];refine sD (v8 G 1 16 (by decide)) ?_;refine sD (re G key (al 1 16) h (by rw[bp]; decide)) ?_;exact gz
  ·rw[KV _ h0];have e1:(((l.length:Int)-1).toNat)=l.length-1:=by omega
   have e2:(l.take (l.length-1)).length=l.length-1:=by rw[UI]; omega
   have e3:((l.length-1:Nat):Int)=(l.length:Int)-1:=by omega
   simp only[vz,ah,fe,ae,aa,seval,iteOmega,toNatUp,fF];refine bE (re G key eZ h (by decide)) (by simp only[ae,aa,seval,iteOmega,toNatUp,eF,t0,cd,fe]) (.inr (lu _ _)) ?_;simp only[ae,aa,seval,iteOmega,toNatUp,e1,e2,e3,kP];refine bH (xb key l) (fun i=>l.length-1-i) (fun i=>i≤l.length-1) 0 (UR _) ?_ ?_
   ·refine aG (fun i=>128) ?_ ?_ rfl rfl <;> simp only[wx,aw,aH,aa,seval,iteOmega,toNatUp,gw,e2,e3]
   ·intro i hi;have hd:=Cj (aC key) l i;by_cases hlt:i<l.length-1
    ·have g1:(l.take (l.length-1))[i]?=some (l.getD i []):=by rw[U2,if_pos hlt,vy (by omega)]
     have hx:=hb _ (qg (l:=l) (j:=i) (by omega));have hs:bZ (eb (gw (aC key) l i)) (gv (aC key) (l.getD i []))=gw (aC key) l (i+1):=rfl;have h1:=rN G (gw (aC key) l i) (by omega);have h2:=QV G key (l.getD i []) h (by omega);have h3:=li G (eb (gw (aC key) l i)) (gv (aC key) (l.getD i [])) (kQ hd) (qf _ _);rw[hs] at h3;simp only[tX,xb,ae,aa,seval,iteOmega,toNatUp,aV,g1,e2,e3];refine sD (h1) ?_;refine sD (h2) ?_;refine sD (h3) ?_;refine br (i+1) (by omega) (by omega) (aG (fun i=>i) ?_ ?_ rfl rfl) <;> simp only[wx,aw,aH,aa,seval,iteOmega,toNatUp]
    ·obtain rfl:i=l.length-1:=by omega
     have g1:l[l.length-1]?=some (l.getD (l.length-1) []):=vy (by omega);have hx:=hb _ (qg (l:=l) (j:=l.length-1) (by omega));have h1:=QW G (l.getD (l.length-1) []) (gw (aC key) l (l.length-1)) (by omega) hd;have hcl:∀ s d:List UInt8,s.length≤65535→d.length=16→(if 16≤s.length then s.take (s.length-16)++bZ (s.drop (s.length-16)) d else bZ (eb d) (gS (s++[128]))).length≤70000:=by
       intro s d h1 h2;split
       ·rw[UF,gE,← UF,Vh]; omega
       ·rw[gE,kQ h2]; decide
     have h2:=re G key _ h (hcl _ _ hx hd);simp only[tX,xb,ae,aa,seval,iteOmega,toNatUp,aV,g1,e1,e3];refine sD (h1) ?_;refine sD (h2) ?_;exact gz
def iQ (l:List (List UInt8)):Bool:=l.any fun x=>decide (65535<x.length)
def sF (key:List UInt8) (l:List (List UInt8)):Int:=if key.length≠16 then 5 else if 17<l.length then 8 else if iQ l=true then 2 else 0
def xI (key:List UInt8) (l:List (List UInt8)):List UInt8:=if key.length=16∧l.length≤17∧iQ l=false then ix (aC key) l else []
theorem MD {l:List (List UInt8)} (h:∀ j,j<l.length→(l.getD j []).length≤65535):iQ l=false:=by
  unfold iQ;rw[VW];intro x hx;obtain⟨j,hj,rfl⟩:=Va hx;have:=h j hj;rw[UD,UB hj] at this
  simpa using this
theorem KW {l:List (List UInt8)} {j:Nat} (hj:j<l.length) (h:65535<(l.getD j []).length):iQ l=true:=by
  unfold iQ;rw[List.any_eq_true];exact⟨_,qg hj,decide_eq_true h⟩
theorem KX {l:List (List UInt8)} (h:iQ l=false):∀ x∈l,x.length≤65535:=by
  unfold iQ at h;rw[VW] at h;intro x hx;have:=h x hx
  simpa using this
def rO (key:List UInt8) (l:List (List UInt8)) (i:Nat):St:=⟨bc [(1,.w (.c (.d (.sl (l.map fun l=>D.sl (l.map bD)))))),(6,.w (.c (.ptr 1 1 0 0))),(21,.w (.c (.d (.sl (l.map fun l=>D.sl (l.map bD)))))),(22,.w (.c (.d (.int .i64 (l.length:Int))))),(23,.w (.c (.d (.int .i64 (i:Int)))))],hL [(1,.box [.d (.sl (key.map bD)),.d (.sl ((gT (aC key)).map bD)),.d (.sl ((jD (aC key)).map bD))])],uL [1]⟩
def pL:aL := .seq (.reg [oO 24 (.bin .lss (.t 23) (.t 22))]) (.seq (.cond (.t 24) (.skip) (.exit 0)) (.seq (.block 1 (.seq (.reg [oO 25 (.idxSl 1 (.t 21) (.t 23)),oO 26 (.load .sc (.t 25)),oM 9 26]) (.seq (.reg [oM 27 9,oO 28 (.len (.t 27)),oO 29 (.bin .gtr (.t 28) (kI 65535))]) (.cond (.t 29) (.seq (.reg [oO 4 (.mv (.k (.c .nil))),oO 5 (.mv (kI 2))]) (.ret)) (.skip))))) (.reg [oO 30 (.bin .add (.t 23) (kI 1)),oM 23 30])))
def qH:aB:=⟨2,34,.seq (.reg [oO 4 (.mv (.k (.c .nil))),oO 5 (.mv (kI 0))]) (.seq (.reg [oM 11 0,oO 12 (.call 89 [(.t 11)] none),oM 10 12,oO 13 (.extract (.t 10) 0),oO 14 (.extract (.t 10) 1),oO 6 (.alloc [.nil,.nil,.nil]),oN (.store (.ag 3) (.t 6) (.t 13)),oM 7 14]) (.seq (.seq (.reg [oM 15 7,oO 16 (.bin .neq (.t 15) (kI 0))]) (.cond (.t 16) (.seq (.reg [oM 17 7,oO 4 (.mv (.k (.c .nil))),oM 5 17]) (.ret)) (.skip))) (.seq (.seq (.reg [oM 18 1,oO 19 (.len (.t 18)),oO 20 (.bin .gtr (.t 19) (kI 17))]) (.cond (.t 20) (.seq (.reg [oO 4 (.mv (.k (.c .nil))),oO 5 (.mv (kI 8))]) (.ret)) (.skip))) (.seq (.seq (.reg [oM 21 1,oO 22 (.len (.t 21)),oO 23 (.mv (kI 0))]) (.block 0 (.loop pL))) (.seq (.reg [oO 31 (.load (.ag 3) (.t 6)),oM 32 1,oO 33 (.call 90 [(.t 31),(.t 32)] (some (0,1))),oM 4 33,
 oO 5 (.mv (kI 0))]) (.ret)))))),[(4,none),(5,none)]⟩
theorem OA:aA Try.prog { own:=[33],comp:=[],frz:=[],nils:=[] } Try.f79=some qH:=by kernel_rfl
theorem QY (G:aj) (key:List UInt8) (l:List (List UInt8)) (hk:key.length≤9223372036854775807) (hl:l.length≤9223372036854775807) (hb:∀ x∈l,x.length≤9223372036854775807):ar Try.prog G 79 [.sl (key.map bD),.sl (l.map fun l=>D.sl (l.map bD))] (.tup [.c (.fr 1 ((xI key l).map bD)),.c (.d (.int .i64 (sF key l)))]):=by
  refine aF Try.func79 OA rfl rfl ?_;have hx:=QT G key hk;unfold xI sF;by_cases h:key.length=16
  ·have hv:oR key=fe key:=if_pos h;have he:ly key=0:=by unfold ly; rw[if_neg (by omega)]
   rw[hv,he] at hx;by_cases h2:l.length≤17
   ·rw[if_neg (by omega:¬ key.length≠16),if_neg (by omega:¬ 17<l.length)];simp only[qH,ah,ae,aa,seval,iteOmega,toNatUp];refine sC (hx) ?_;simp only[fe,ae,aa,seval,iteOmega,toNatUp];refine bH (rO key l) (fun i=>l.length-i) (fun i=>i≤l.length∧∀ j,j<i→(l.getD j []).length≤65535) 0 ⟨UR _,fun j hj=>by omega⟩ ?_ ?_
    ·refine aG (fun i=>48) ?_ ?_ rfl rfl <;> simp only[wx,aw,aH,aa,seval,iteOmega,toNatUp]
    ·rintro i ⟨hi,hok⟩;by_cases hlt:i<l.length
     ·have g1:=vy hlt;have hx:=hb _ (qg hlt);by_cases hlong:65535<(l.getD i []).length
      ·have hL:=KW hlt hlong;rw[hL,if_neg (by simp),if_pos rfl];simp only[pL,rO,ae,aa,seval,iteOmega,toNatUp,aV,g1];exact cv
      ·simp only[pL,rO,ae,aa,seval,iteOmega,toNatUp,aV,g1];refine br (i+1) (by omega) ⟨by omega,fun j hj=>?_⟩ (aG (fun i=>i) ?_ ?_ rfl rfl)
       ·rcases U5 j i with h | h
        ·exact hok j h
        ·obtain rfl:j=i:=by omega
         omega
       all_goals simp only[wx,aw,aH,aa,seval,iteOmega,toNatUp]
     ·have hL:=MD (l:=l) (fun j hj=>hok j (by omega));rw[hL,if_pos ⟨h,h2,rfl⟩,if_neg (by simp)];simp only[pL,rO,ae,aa,seval,iteOmega,toNatUp];refine sD (QX G key l h h2 (KX hL)) ?_;exact cv
   ·rw[if_neg (by omega),if_neg (by omega),if_pos (by omega)];have h3:17<l.length:=by omega
    simp only[qH,ah,ae,aa,seval,iteOmega,toNatUp];refine sC (hx) ?_;simp only[fe,ae,aa,seval,iteOmega,toNatUp];exact cv
  ·have hv:oR key=.agg [.sl [],.sl [],.sl []]:=if_neg h;have he:ly key=5:=if_pos h;rw[hv,he] at hx;rw[if_neg (by omega),if_pos h];simp only[qH,ah,ae,aa,seval,iteOmega,toNatUp];refine sD (hx) ?_;exact cv

theorem Ck (rk c:List UInt8) {n k:Nat} (hk:k<16):∀ {m:Nat},n<m→(lv rk c m)[16*n+k]?=(dD rk (d8 c n))[k]?
  | 0,h=>by omega
  | m+1,h=>by
    rw[lv];by_cases e:n=m
    ·subst e;rw[Vm (by rw[lW]; omega),lW,Nat.add_sub_cancel_left]
    ·rw[Vk (by rw[lW]; omega)];exact Ck rk c hk (by omega)
theorem ME (rk c b:List UInt8) {n k:Nat} (hk:k<16) (h:16*n+k<b.length):(eL rk c b)[16*n+k]?=some (am (b.getD (16*n+k) 0) ((dD rk (d8 c n)).getD k 0)):=by
  unfold eL kx;rw[List.getElem?_zipWith,Ck rk c hk (by omega),dJ h,dJ (by rw[ib]; exact hk)]
def oT (rk c b:List UInt8) (j:Nat):List UInt8:=(eL rk c b).take j
theorem GF (rk c b:List UInt8) (j:Nat):(oT rk c b j).length=min j b.length:=by unfold oT; rw[UI,pJ]
theorem qI (rk c b:List UInt8) {j:Nat} (h:b.length≤j):oT rk c b j=eL rk c b:=UG (by rw[pJ]; exact h)
theorem OB (rk c b:List UInt8) {n k:Nat} (hk:k<16) (h:16*n+k<b.length):oT rk c b (16*n+k)++[am (b.getD (16*n+k) 0) ((dD rk (d8 c n)).getD k 0)]=oT rk c b (16*n+k+1):=by
  unfold oT; rw[List.take_add_one,ME rk c b hk h]; rfl
theorem vA {c:List UInt8} (h:c.length=16) (n:Nat):(d8 c n).length=16:=by rw[Cb]; exact h
theorem MF {c:List UInt8} (h:c.length=16) (n:Nat):sA (d8 c n)=d8 c (n+1):=by unfold sA; rw[if_pos (vA h n)]; rfl
def iR (key c b:List UInt8):Int:=if key.length≠16 then 5 else if c.length≠16 then 3 else if 65535<b.length then 2 else 0
def rP (key c b:List UInt8):List UInt8:=if key.length=16∧c.length=16∧b.length≤65535 then eL (aC key) c b else []
theorem KY {key:List UInt8} (c b:List UInt8) (h:key.length≠16):iR key c b=5:=if_pos h
theorem KZ {key c:List UInt8} (b:List UInt8) (h:key.length=16) (h2:c.length≠16):iR key c b=3:=by unfold iR; rw[if_neg (by simp[h]),if_pos h2]
theorem JU {key c b:List UInt8} (h:key.length=16) (h2:c.length=16) (h3:65535<b.length):iR key c b=2:=by unfold iR; rw[if_neg (by simp[h]),if_neg (by simp[h2]),if_pos h3]
theorem MG {key c b:List UInt8} (h:key.length=16) (h2:c.length=16) (h3:b.length≤65535):iR key c b=0:=by unfold iR; rw[if_neg (by simp[h]),if_neg (by simp[h2]),if_neg (by omega)]
theorem MH {key c b:List UInt8} (h:key.length=16) (h2:c.length=16) (h3:b.length≤65535):rP key c b=eL (aC key) c b:=if_pos ⟨h,h2,h3⟩
theorem uQ {key c b:List UInt8} (h:¬ (key.length=16∧c.length=16∧b.length≤65535)):rP key c b=[]:=if_neg h
theorem Uv (rk c b:List UInt8):oT rk c b 0=[]:=List.take_zero

theorem S9 (s:Nat) (l:List UInt8) (k:IntKind) (n:Int):V.flat (.tup [.c (.fr s (l.map bD)),.c (.d (.int k n))])=true:=by
  have:=lu s l;simp only[V.flat,W.flat,Wg,List.all_nil,Wh] at this ⊢;rw[this]; rfl
def GI:aB:=⟨2,10,.seq (.reg [oO 4 (.mv (.k (.c (.d (.bool false)))))]) (.seq (.reg [oM 5 0,oO 6 (.b2s (.t 5)),oM 7 1,oO 8 (.b2s (.t 7)),oO 9 (.bin .eql (.t 6) (.t 8)),oM 4 9]) (.ret)),[(4,none)]⟩
theorem Q2:aA Try.prog { own:=[],comp:=[],frz:=[],nils:=[] } Try.f65=some GI:=by kernel_rfl
theorem Ta (G:aj) (l m:List UInt8):ar Try.prog G 65 [.sl (l.map bD),.sl (m.map bD)] (.w (.c (.d (.bool (l==m))))):=by
  refine aF Try.func65 Q2 rfl rfl ?_;simp only[GI,ah,wx,aa,seval,iteOmega,toNatUp,uC,zX];exact oe (by simp only[wx,aa,seval,iteOmega,toNatUp])
def El:aB:=⟨2,8,.seq (.reg [oO 4 (.mv (.k (.c (.d (.bool false)))))]) (.seq (.reg [oM 5 0,oM 6 1,oO 7 (.call 65 [(.t 5),(.t 6)] none),oM 4 7]) (.ret)),[(4,none)]⟩
theorem OD:aA Try.prog { own:=[],comp:=[],frz:=[],nils:=[] } Try.f46=some El:=by kernel_rfl
theorem wm (G:aj) (l m:List UInt8):ar Try.prog G 46 [.sl (l.map bD),.sl (m.map bD)] (.w (.c (.d (.bool (l==m))))):=by
  refine aF Try.func46 OD rfl rfl ?_;simp only[El,ah,ae,aa,seval,iteOmega,toNatUp];refine sD (Ta G l m) ?_;exact aP
theorem Ac (v k:Nat):al v (k+1)=al (v / 256) k++[UInt8.ofNat v]:=by
  unfold al;rw[VZ,U6]
  congr 1
  ·apply Vd;intro i hi;have hi':i<k:=Wj.1 hi;rw[show k+1-1-i=(k-1-i)+1 by omega,Nat.pow_succ,V5,← Nat.div_div_eq_div_mul]
  ·simp
theorem Cw (a:List UInt8) (x:UInt8):aU (a++[x])=(aU a*256+x.toNat)%18446744073709551616:=by simp[aU]
theorem Eq {k:Nat} (h:k≤8):256^k≤18446744073709551616:=Vl (Nat.pow_le_pow_right (by decide) h) (by decide)
theorem get_put (k:Nat) (h:k≤8):∀ v,aU (al v k)=v%256^k:=by
  induction k with
  | zero=>intro v; rw[Nat.pow_zero,Nat.mod_one]; rfl
  | succ k ih =>
    intro v;have hp:=Eq h;have hv:v%256^(k+1)<256^(k+1):=VV _ (Nat.pow_pos (by decide));have e:v%256^(k+1)=v%256+256*(v / 256%256^k):=by rw[Nat.pow_succ',Nat.mod_mul]
    rw[Ac,Cw,ih (by omega),UInt8.toNat_ofNat',Wm (by omega)];omega
theorem jV:∀ (k:Nat) (l:List UInt8),l.length=k→k≤8→aU l<256^k∧al (aU l) k=l:=by
  intro k
  induction k with
  | zero=>intro l h _; rw[Vi h]; exact⟨by decide,rfl⟩
  | succ k ih =>
    intro l h h8;rcases List.eq_nil_or_concat l with rfl | ⟨a,x,rfl⟩
    ·simp at h
    ·rw[List.concat_eq_append] at *
     obtain⟨a1,a2⟩:=ih a (by simpa using h) (by omega);have hx:x.toNat<256:=x.toNat_lt;have hp:=Eq h8;have e:aU (a++[x])=aU a*256+x.toNat:=by
       rw[Cw,Wm];rw[Nat.pow_succ] at hp; omega
     refine⟨by rw[e,Nat.pow_succ]; omega,?_⟩;rw[e,Ac,show (aU a*256+x.toNat) / 256=aU a by omega,a2]
     congr 2
     rw[← UInt8.toNat_inj,UInt8.toNat_ofNat'];omega
structure Hd where
  lp:Int
  vr:Int
  md:Int
  st:Int
  pl:Int
  pr:Int
  rd:Nat
  rp:Nat
  ri:Nat
  rf:Nat
  og:Nat
  rc:Nat
  tr:Nat
def Hd.z:Hd:=⟨0,0,0,0,0,0,0,0,0,0,0,0,0⟩
def lD (h:Hd):Prop:=0≤h.lp∧h.lp≤3∧(h.vr=3∨h.vr=4)∧0≤h.md∧h.md≤7∧0≤h.st∧h.st≤255∧-128≤h.pl∧h.pl≤127∧-128≤h.pr∧h.pr≤127
instance (h:Hd):Decidable (lD h):=by unfold lD; infer_instance
def jH (h:Hd):Bool:=decide (lD h)
def mX (h:Hd):Prop:=h.rd<4294967296∧h.rp<4294967296∧h.ri<4294967296∧h.rf<18446744073709551616∧h.og<18446744073709551616∧h.rc<18446744073709551616∧h.tr<18446744073709551616
def bW (v:Int):UInt8:=UInt8.ofNat (v%256).toNat
def iZ (b:UInt8):Int:=if b.toNat>127 then (b.toNat:Int)-256 else (b.toNat:Int)
def oS (h:Hd):List UInt8:=al h.rd 4++(al h.rp 4++(al h.ri 4++(al h.rf 8++(al h.og 8++(al h.rc 8++al h.tr 8)))))
def cp (h:Hd):List UInt8:=[bW (h.lp*64+h.vr*8+h.md),bW h.st,bW h.pl,bW h.pr]++oS h
theorem OO (h:Hd):(oS h).length=44:=by simp[oS,bp]
theorem qJ (h:Hd):(cp h).length=48:=by unfold cp; rw[UF,OO]; rfl
def aE (l:List UInt8) (a n:Nat):List UInt8:=(l.drop a).take n
def bN (l:List UInt8):Hd:=⟨((l.getD 0 0).toNat / 64:Nat),((l.getD 0 0).toNat / 8%8:Nat),((l.getD 0 0).toNat%8:Nat),((l.getD 1 0).toNat:Nat),iZ (l.getD 2 0),iZ (l.getD 3 0),
  aU (aE l 4 4),aU (aE l 8 4),aU (aE l 12 4),aU (aE l 16 8),aU (aE l 24 8),aU (aE l 32 8),aU (aE l 40 8)⟩
theorem d6 {l:List UInt8} {a n:Nat} (h:a+n≤l.length):(aE l a n).length=n:=by
  unfold aE; rw[UI,UK]; omega
theorem ny (p q r:List UInt8):aE (p++(q++r)) p.length q.length=q:=by
  unfold aE; rw[List.drop_left,List.take_left]
theorem vG (v:Int):((bW v).toNat:Int)=v%256:=by
  unfold bW;rw[UInt8.toNat_ofNat']; omega
theorem Er {v:Int} (h1:-128≤v) (h2:v≤127):iZ (bW v)=v:=by
  have:=vG v;unfold iZ;split <;> omega
theorem Es (b:UInt8):-128≤iZ b∧iZ b≤127:=by
  have:=b.toNat_lt;unfold iZ;split <;> omega
theorem OP (h:Hd) (r:List UInt8):cp h++r=([bW (h.lp*64+h.vr*8+h.md),bW h.st,bW h.pl,bW h.pr]:List UInt8)++(al h.rd 4++(al h.rp 4++(al h.ri 4++(al h.rf 8++(al h.og 8++(al h.rc 8++(al h.tr 8++r))))))):=by
  unfold cp oS;simp only[UV]
theorem OQ (h:Hd) (r:List UInt8):aE (cp h++r) 4 4=al h.rd 4∧aE (cp h++r) 8 4=al h.rp 4∧aE (cp h++r) 12 4=al h.ri 4∧aE (cp h++r) 16 8=al h.rf 8∧aE (cp h++r) 24 8=al h.og 8∧aE (cp h++r) 32 8=al h.rc 8∧aE (cp h++r) 40 8=al h.tr 8:=by
  have key:∀ (p q s:List UInt8) (a n:Nat),cp h++r=p++(q++s)→p.length=a→q.length=n→aE (cp h++r) a n=q:=by
    intro p q s a n e ha hn;rw[e,← ha,← hn]; exact ny p q s
  have e:=OP h r;generalize ([bW (h.lp*64+h.vr*8+h.md),bW h.st,bW h.pl,bW h.pr]:List UInt8)=F at *
  have hF:F.length=4:=by
    have:=qJ h;have e':=congrArg List.length e;simp only[UF,bp,this] at e';omega
  refine⟨key F _ _ _ _ e hF (bp _ _),key (F++al h.rd 4) _ _ _ _ (by rw[e]; simp only[UV] <;> rfl) ?_ (bp _ _),key (F++al h.rd 4++al h.rp 4) _ _ _ _ (by rw[e]; simp only[UV] <;> rfl) ?_ (bp _ _),
    key (F++al h.rd 4++al h.rp 4++al h.ri 4) _ _ _ _ (by rw[e]; simp only[UV] <;> rfl) ?_ (bp _ _),key (F++al h.rd 4++al h.rp 4++al h.ri 4++al h.rf 8) _ _ _ _ (by rw[e]; simp only[UV] <;> rfl) ?_ (bp _ _),
    key (F++al h.rd 4++al h.rp 4++al h.ri 4++al h.rf 8++al h.og 8) _ _ _ _ (by rw[e]; simp only[UV] <;> rfl) ?_ (bp _ _),key (F++al h.rd 4++al h.rp 4++al h.ri 4++al h.rf 8++al h.og 8++al h.rc 8) _ r _ _ (by rw[e]; simp only[UV] <;> rfl) ?_ (bp _ _)⟩ <;>
    simp only[UF,bp,hF]
theorem OR {h:Hd} (ok:lD h) (fit:mX h) (r:List UInt8):bN (cp h++r)=h:=by
  obtain⟨c1,c2,c3,c4,c5,c6,c7⟩:=OQ h r;obtain⟨f1,f2,f3,f4,f5,f6,f7⟩:=fit;obtain⟨o1,o2,o3,o4,o5,o6,o7,o8,o9,o10,o11⟩:=ok;have g0:(cp h++r).getD 0 0=bW (h.lp*64+h.vr*8+h.md):=rfl;have g1:(cp h++r).getD 1 0=bW h.st:=rfl;have g2:(cp h++r).getD 2 0=bW h.pl:=rfl;have g3:(cp h++r).getD 3 0=bW h.pr:=rfl;unfold bN;rw[c1,c2,c3,c4,c5,c6,c7,g0,g1,g2,g3,get_put 4 (by decide),get_put 4 (by decide),get_put 4 (by decide),get_put 8 (by decide),get_put 8 (by decide),get_put 8 (by decide),get_put 8 (by decide),Er o8 o9,Er o10 o11];have n0:=vG (h.lp*64+h.vr*8+h.md);have n1:=vG h.st;obtain⟨lp,vr,md,st,pl,pr,rd,rp,ri,rf,og,rc,tr⟩:=h;simp only at *
  congr 1 <;> omega
theorem gP (G:aj) (v:Nat) (k:Int) (hk:0≤k∧k≤64):ar Try.prog G 71 [.int .u64 (v:Int),.int .i64 k] (.w (.c (.fr 1 ((al v k.toNat).map bD)))):=by
  have c:=HX G v k;rw[show sw v k=al v k.toNat from if_pos hk] at c;exact c
def rq:aB:=⟨2,25,.seq (.reg [oO 4 (.mv (.k (.c .nil))),oO 5 (.mv (.k (.c .nil))),oO 6 (.mv (.k (.c (.d (.bool false)))))]) (.seq (.seq (.reg [oM 7 1,oO 8 (.bin .lss (.t 7) (kI 0)),oM 9 8,oG 10 (.mv (.t 1)) 9 false,oG 11 (.mv (.t 0)) 9 false,oG 12 (.len (.t 11)) 9 false,oG 13 (.bin .gtr (.t 10) (.t 12)) 9 false,oO 14 (.pick (.t 9) (.k (.c (.d (.bool true)))) (.t 13))]) (.cond (.t 14) (.seq (.reg [oO 4 (.mv (.k (.c .nil))),oO 5 (.mv (.k (.c .nil))),oO 6 (.mv (.k (.c (.d (.bool false)))))]) (.ret)) (.skip))) (.seq (.reg [oM 15 0,oM 16 1,oO 17 (.slice 1 (.t 15) none (some (.t 16)) none),oO 18 (.bldSl false 1 1 (.sl []) [(0,(.t 17))]),oO 19 (.call 30 [(.t 18)] none),oM 20 0,oM 21 1,oO 22 (.slice 1 (.t 20) (some (.t 21)) none none),oO 23 (.bldSl false 1 1 (.sl []) [(0,(.t 22))]),oO 24 (.call 30 [(.t 23)] none),
 oM 4 19,oM 5 24,oO 6 (.mv (.k (.c (.d (.bool true)))))]) (.ret))),[(4,none),(5,none),(6,none)]⟩
theorem Hk:aA Try.prog { own:=[],comp:=[],frz:=[],nils:=[] } Try.f55=some rq:=by kernel_rfl
set_option maxHeartbeats 800000 in
theorem rr (G:aj) (b:List UInt8) (n:Nat) (h:n≤b.length) (hb:b.length≤1099511627776):ar Try.prog G 55 [.sl (b.map bD),.int .i64 (n:Int)] (.tup [.c (.d (.sl ((b.take n).map bD))),.c (.d (.sl ((b.drop n).map bD))),.c (.d (.bool true))]):=by
  refine aF Try.func55 Hk rfl rfl ?_;have c1:=dw G [b.take n] (by simp) (by simp; omega);have c2:=dw G [b.drop n] (by simp) (by simp; omega);simp only[UE,UT,Vw,Vv,UX] at c1 c2;have et:(b.drop n).take (b.length-n)=b.drop n:=UG (by simp);have g:((n:Int)>(b.length:Int))=False:=eq_false (by omega);simp only[rq,ah,ae,aa,seval,iteOmega,toNatUp,g];refine sC (c1) ?_;simp only[et,ae,aa,seval,iteOmega,toNatUp];refine sC (c2) ?_;simp only[et,ae,aa,seval,iteOmega,toNatUp];exact gX
theorem rt (G:aj) (b:List UInt8) (n:Int) (h:n<0∨(b.length:Int)<n):ar Try.prog G 55 [.sl (b.map bD),.int .i64 n] (.tup [.c (.d (.sl [])),.c (.d (.sl [])),.c (.d (.bool false))]):=by
  refine aF Try.func55 Hk rfl rfl ?_;rcases Int.lt_or_le n 0 with h1 | h1
  ·simp only[rq,ah,ae,aa,seval,iteOmega,toNatUp];exact gL (by simp only[ae,aa,seval,iteOmega,toNatUp] <;> rfl) (by simp only[ae,aa,seval,iteOmega,toNatUp] <;> rfl) (by simp only[ae,aa,seval,iteOmega,toNatUp])
  ·have g:(n>(b.length:Int))=True:=eq_true (by omega);simp only[rq,ah,ae,aa,seval,iteOmega,toNatUp,g];exact gL (by simp only[ae,aa,seval,iteOmega,toNatUp] <;> rfl) (by simp only[ae,aa,seval,iteOmega,toNatUp] <;> rfl) (by simp only[ae,aa,seval,iteOmega,toNatUp])

def ga:List UInt32:=[0x6a09e667,0xbb67ae85,0x3c6ef372,0xa54ff53a,0x510e527f,0x9b05688c,0x1f83d9ab,0x5be0cd19]
def cB:List UInt32:=[
  0x428a2f98,0x71374491,0xb5c0fbcf,0xe9b5dba5,0x3956c25b,0x59f111f1,0x923f82a4,0xab1c5ed5,
  0xd807aa98,0x12835b01,0x243185be,0x550c7dc3,0x72be5d74,0x80deb1fe,0x9bdc06a7,0xc19bf174,
  0xe49b69c1,0xefbe4786,0x0fc19dc6,0x240ca1cc,0x2de92c6f,0x4a7484aa,0x5cb0a9dc,0x76f988da,
  0x983e5152,0xa831c66d,0xb00327c8,0xbf597fc7,0xc6e00bf3,0xd5a79147,0x06ca6351,0x14292967,
  0x27b70a85,0x2e1b2138,0x4d2c6dfc,0x53380d13,0x650a7354,0x766a0abb,0x81c2c92e,0x92722c85,
  0xa2bfe8a1,0xa81a664b,0xc24b8b70,0xc76c51a3,0xd192e819,0xd6990624,0xf40e3585,0x106aa070,
  0x19a4c116,0x1e376c08,0x2748774c,0x34b0bcb5,0x391c0cb3,0x4ed8aa4a,0x5b9cca4f,0x682e6ff3,
  0x748f82ee,0x78a5636f,0x84c87814,0x8cc70208,0x90befffa,0xa4506ceb,0xbef9a3f7,0xc67178f2]
theorem yW:ga.length=8:=rfl
theorem pu:cB.length=64:=rfl
def bR (b:List UInt8) (t:Nat):UInt32 :=
  jP (jP (jP (iW (js (b.getD (4*t) 0)) 24) (iW (js (b.getD (4*t+1) 0)) 16)) (iW (js (b.getD (4*t+2) 0)) 8)) (js (b.getD (4*t+3) 0))
def jn (x:UInt32):UInt32:=dA (dA (gm x 7) (gm x 18)) (jC x 3)
def jo (y:UInt32):UInt32:=dA (dA (gm y 17) (gm y 19)) (jC y 10)
def ln (s:List UInt32) (t:Nat):UInt32 :=
  aX (aX (aX (jo (s.getD (t-2) 0)) (s.getD (t-7) 0)) (jn (s.getD (t-15) 0))) (s.getD (t-16) 0)
def gI (b:List UInt8) (n:Nat):List UInt32:=(List.range n).map (bR b)
def bY (b:List UInt8):Nat→List UInt32
  | 0=>gI b 16
  | n+1=>bY b n++[ln (bY b n) (16+n)]
def fP (b:List UInt8):List UInt32:=bY b 48
theorem M3 (b:List UInt8) (m:Nat) (h:m=48):fP b=bY b m:=by rw[h]; rfl
def i6 (e:UInt32):UInt32:=dA (dA (gm e 6) (gm e 11)) (gm e 25)
def jK (a:UInt32):UInt32:=dA (dA (gm a 2) (gm a 13)) (gm a 22)
def jb (e f g:UInt32):UInt32:=dA (iV e f) (iV (mN e) g)
def jL (a b c:UInt32):UInt32:=dA (dA (iV a b) (iV a c)) (iV b c)
structure bi where
  (a b c d e f g h:UInt32)
def bi.step (s:bi) (k w:UInt32):bi :=
  let t1:=aX (aX (aX (aX s.h (i6 s.e)) (jb s.e s.f s.g)) k) w
  let t2:=aX (jK s.a) (jL s.a s.b s.c)
  ⟨aX t1 t2,s.a,s.b,s.c,aX s.d t1,s.e,s.f,s.g⟩
def bi.of (h:List UInt32):bi:=⟨h.getD 0 0,h.getD 1 0,h.getD 2 0,h.getD 3 0,h.getD 4 0,h.getD 5 0,h.getD 6 0,h.getD 7 0⟩
def bi.rounds (s:bi) (k w:List UInt32):Nat→bi
  | 0=>s
  | n+1=>(s.rounds k w n).step (k.getD n 0) (w.getD n 0)
def bi.sum (s:bi) (h:List UInt32):List UInt32 :=
  [aX (h.getD 0 0) s.a,aX (h.getD 1 0) s.b,aX (h.getD 2 0) s.c,aX (h.getD 3 0) s.d,aX (h.getD 4 0) s.e,aX (h.getD 5 0) s.f,aX (h.getD 6 0) s.g,aX (h.getD 7 0) s.h]
def j9 (h:List UInt32) (b:List UInt8):List UInt32:=((bi.of h).rounds cB (fP b) 64).sum h
theorem yX (h:List UInt32) (b:List UInt8):(j9 h b).length=8:=rfl
def CI:aB:=⟨2,15,.seq (.reg [oO 4 (.mv (.k (.c (.d (.int .u32 0)))))]) (.seq (.reg [oM 5 0,oM 6 1,oO 7 (.conv .u64 (.t 6)),oO 8 (.bin .shr (.t 5) (.t 7)),oM 9 0,oM 10 1,oO 11 (.bin .sub (kI 32) (.t 10)),oO 12 (.conv .u64 (.t 11)),oO 13 (.bin .shl (.t 9) (.t 12)),oO 14 (.bin .or (.t 8) (.t 13)),oM 4 14]) (.ret)),[(4,none)]⟩
theorem M4:aA Try.prog { own:=[],comp:=[],frz:=[],nils:=[] } Try.f64=some CI:=by kernel_rfl
theorem iK (G:aj) (x:UInt32) (n:Nat) (h0:0<n) (hn:n<32):ar Try.prog G 64 [wD x,.int .i64 n] (.w (.c (.d (wD (gm x n))))):=by
  refine aF Try.func64 M4 rfl rfl ?_;have e1:IntKind.u64.wrap (n:Int)=(n:Int):=IntWalk.u64_in _ (by omega);have e2:IntKind.i64.wrap (32-(n:Int))=((32-n:Nat):Int):=by rw[IntWalk.i64_in _ (by omega)]; omega
  have e3:IntKind.u64.wrap ((32-n:Nat):Int)=((32-n:Nat):Int):=IntWalk.u64_in _ (by omega);simp only[CI,ah,wx,aa,seval,iteOmega,toNatUp,e1,e2,e3];exact oe (by simp only[wx,aa,seval,iteOmega,toNatUp] <;> rfl)
def EW:aB:=⟨0,2,.seq (.reg [oO 0 (.mv (.k (.c .nil)))]) (.seq (.reg [oO 1 (.bldSl true 8 1 (.int .u32 0) [(0,(.k (.c (.d (.int .u32 1779033703))))),(1,(.k (.c (.d (.int .u32 3144134277))))),(2,(.k (.c (.d (.int .u32 1013904242))))),(3,(.k (.c (.d (.int .u32 2773480762))))),(4,(.k (.c (.d (.int .u32 1359893119))))),(5,(.k (.c (.d (.int .u32 2600822924))))),(6,(.k (.c (.d (.int .u32 528734635))))),(7,(.k (.c (.d (.int .u32 1541459225)))))]),oM 0 1]) (.ret)),[(0,none)]⟩
theorem PK:aA Try.prog { own:=[1],comp:=[],frz:=[],nils:=[] } Try.f42=some EW:=by kernel_rfl
theorem Sg (G:aj):ar Try.prog G 42 [] (.w (.c (.fr 1 (ga.map wD)))):=by
  refine aF Try.func42 PK rfl rfl ?_;simp only[EW,ah,rB,rC,rD,rE,rF,sx];refine De (.w (.c (.own 8 1 0 8)),upd hN 8 (some (.row 1 (ga.map wD))),upd uN 8 true) (by kernel_rfl) ?_;simp only[wx,aa,seval,iteOmega,toNatUp];exact ft (id:=8) (n:=8) (s:=1) (by simp only[wx,aa,seval,iteOmega,toNatUp]) (by simp only[wx,aa,seval,iteOmega,toNatUp]) rfl
def EX:aB:=⟨0,2,.seq (.reg [oO 0 (.mv (.k (.c .nil)))]) (.seq (.reg [oO 1 (.bldSl true 64 1 (.int .u32 0) [(0,(.k (.c (.d (.int .u32 1116352408))))),(1,(.k (.c (.d (.int .u32 1899447441))))),(2,(.k (.c (.d (.int .u32 3049323471))))),(3,(.k (.c (.d (.int .u32 3921009573))))),(4,(.k (.c (.d (.int .u32 961987163))))),(5,(.k (.c (.d (.int .u32 1508970993))))),(6,(.k (.c (.d (.int .u32 2453635748))))),(7,(.k (.c (.d (.int .u32 2870763221))))),(8,(.k (.c (.d (.int .u32 3624381080))))),(9,(.k (.c (.d (.int .u32 310598401))))),(10,(.k (.c (.d (.int .u32 607225278))))),(11,(.k (.c (.d (.int .u32 1426881987))))),(12,(.k (.c (.d (.int .u32 1925078388))))),(13,(.k (.c (.d (.int .u32 2162078206))))),(14,(.k (.c (.d (.int .u32 2614888103))))),(15,(.k (.c (.d (.int .u32 3248222580))))),(16,(.k (.c (.d (.int .u32 3835390401))))),(17,(.k (.c (.d (.int .u32 4022224774))))),(18,(.k (.c (.d (.int .u32 264347078))))),(19,(.k (.c (.d (.int .u32 604807628))))),(20,(.k (.c (.d (.int .u32 770255983))))),(21,(.k (.c (.d (.int .u32 1249150122))))),(22,(.k (.c (.d (.int .u32 1555081692))))),(23,(.k (.c (.d (.int .u32 1996064986))))),(24,(.k (.c (.d (.int .u32 2554220882))))),(25,(.k (.c (.d (.int .u32 2821834349))))),(26,(.k (.c (.d (.int .u32 2952996808))))),(27,(.k (.c (.d (.int .u32 3210313671))))),(28,(.k (.c (.d (.int .u32 3336571891))))),(29,(.k (.c (.d (.int .u32 3584528711))))),(30,(.k (.c (.d (.int .u32 113926993))))),(31,(.k (.c (.d (.int .u32 338241895))))),(32,(.k (.c (.d (.int .u32 666307205))))),(33,(.k (.c (.d (.int .u32 773529912))))),(34,(.k (.c (.d (.int .u32 1294757372))))),(35,(.k (.c (.d (.int .u32 1396182291))))),(36,(.k (.c (.d (.int .u32 1695183700))))),(37,(.k (.c (.d (.int .u32 1986661051))))),(38,(.k (.c (.d (.int .u32 2177026350))))),(39,(.k (.c (.d (.int .u32 2456956037))))),(40,(.k (.c (.d (.int .u32 2730485921))))),(41,(.k (.c (.d (.int .u32 2820302411))))),(42,(.k (.c (.d (.int .u32 3259730800))))),(43,(.k (.c (.d (.int .u32 3345764771))))),(44,(.k (.c (.d (.int .u32 3516065817))))),(45,(.k (.c (.d (.int .u32 3600352804))))),(46,(.k (.c (.d (.int .u32 4094571909))))),(47,(.k (.c (.d (.int .u32 275423344))))),(48,(.k (.c (.d (.int .u32 430227734))))),(49,(.k (.c (.d (.int .u32 506948616))))),(50,(.k (.c (.d (.int .u32 659060556))))),(51,(.k (.c (.d (.int .u32 883997877))))),(52,(.k (.c (.d (.int .u32 958139571))))),(53,(.k (.c (.d (.int .u32 1322822218))))),(54,(.k (.c (.d (.int .u32 1537002063))))),(55,(.k (.c (.d (.int .u32 1747873779))))),(56,(.k (.c (.d (.int .u32 1955562222))))),(57,(.k (.c (.d (.int .u32 2024104815))))),(58,(.k (.c (.d (.int .u32 2227730452))))),(59,(.k (.c (.d (.int .u32 2361852424))))),(60,(.k (.c (.d (.int .u32 2428436474))))),(61,(.k (.c (.d (.int .u32 2756734187))))),(62,(.k (.c (.d (.int .u32 3204031479))))),(63,(.k (.c (.d (.int .u32 3329325298)))))]),
 oM 0 1]) (.ret)),[(0,none)]⟩
theorem PM:aA Try.prog { own:=[1],comp:=[],frz:=[],nils:=[] } Try.f43=some EX:=by kernel_rfl
theorem Hr (G:aj):ar Try.prog G 43 [] (.w (.c (.fr 1 (cB.map wD)))):=by
  refine aF Try.func43 PM rfl rfl ?_;simp only[EX,ah,rB,rC,rD,rE,rF,sx];refine De (.w (.c (.own 8 1 0 64)),upd hN 8 (some (.row 1 (cB.map wD))),upd uN 8 true) (by kernel_rfl) ?_;simp only[wx,aa,seval,iteOmega,toNatUp];exact ft (id:=8) (n:=64) (s:=1) (by simp only[wx,aa,seval,iteOmega,toNatUp]) (by simp only[wx,aa,seval,iteOmega,toNatUp]) rfl
theorem yY (b:UInt8):(js b).toNat=b.toNat:=by have:=zJ b; omega
theorem ub (b:UInt8) (n:Nat) (hn:n≤24):(iW (js b) n).toNat=2^n*b.toNat:=by
  have hb:=b.toNat_lt;have h:(2:Nat)^n≤2^24:=Nat.pow_le_pow_right (by decide) hn;have h2:2^n*b.toNat≤2^24*255:=Nat.mul_le_mul h (by omega);unfold iW;rw[yY,UInt32.toNat_ofNat_of_lt' (by rw[V5]; simp only[UInt32.size]; omega),V5]
theorem vO (x y:UInt32):(jP x y).toNat=x.toNat ||| y.toNat:=UInt32.toNat_or x y
theorem pv (b:List UInt8) (t:Nat):(bR b t).toNat=((((b.getD (4*t) 0).toNat*256+(b.getD (4*t+1) 0).toNat)*256+(b.getD (4*t+2) 0).toNat)*256+(b.getD (4*t+3) 0).toNat):=by
  unfold bR;generalize b.getD (4*t) 0=p;generalize b.getD (4*t+1) 0=q;generalize b.getD (4*t+2) 0=r;generalize b.getD (4*t+3) 0=s;have hp:=p.toNat_lt;have hq:=q.toNat_lt;have hr:=r.toNat_lt;have hs:=s.toNat_lt;rw[vO,vO,vO,ub _ _ (by decide),ub _ _ (by decide),ub _ _ (by decide),yY];have e1:=Nat.two_pow_add_eq_or_of_lt (i:=24) (b:=2^16*q.toNat) (by omega) p.toNat;rw[← e1];have e2:=Nat.two_pow_add_eq_or_of_lt (i:=16) (b:=2^8*r.toNat) (by omega) (2^8*p.toNat+q.toNat);have e3:2^24*p.toNat+2^16*q.toNat=2^16*(2^8*p.toNat+q.toNat):=by omega
  rw[e3,← e2];have e4:=Nat.two_pow_add_eq_or_of_lt (i:=8) (b:=s.toNat) (by omega) (2^8*(2^8*p.toNat+q.toNat)+r.toNat);have e5:2^16*(2^8*p.toNat+q.toNat)+2^8*r.toNat=2^8*(2^8*(2^8*p.toNat+q.toNat)+r.toNat):=by omega
  rw[e5,← e4];omega
theorem te (b:List UInt8) (n:Nat):(gI b n).length=n:=by simp[gI]
theorem tB (b:List UInt8):∀ n,(bY b n).length=16+n
  | 0=>by simp[bY,te]
  | n+1=>by rw[bY,UF,tB b n]; simp; omega
theorem CJ {α:Type} (l:List α) (z x:α) (n:Nat) (h:0<n):(l++List.replicate n z).set l.length x=(l++[x])++List.replicate (n-1) z:=by
  obtain⟨k,rfl⟩:∃ k,n=k+1:=⟨n-1,by omega⟩
  rw[List.set_append_right _ _ (UJ _),Nat.sub_self,List.replicate_succ,List.set_cons_zero];simp
theorem Si {l:List UInt32} {r:List UInt32} {i:Nat} (h:i<l.length):(l++r)[i]?=some (l.getD i 0):=by
  rw[Vk h];simp[h]
theorem getD_some {l:List UInt32} {i:Nat} (h:i<l.length):l[i]?=some (l.getD i 0):=by simp[h]
theorem eight {l:List UInt32} (h:l.length=8):∃ a b c d e f g i,l=[a,b,c,d,e,f,g,i]:=by
  match l,h with
  | [a,b,c,d,e,f,g,i],_=>exact⟨a,b,c,d,e,f,g,i,rfl⟩
def bi.list (s:bi):List UInt32:=[s.a,s.b,s.c,s.d,s.e,s.f,s.g,s.h]
theorem Sj (s:bi) (k w:UInt32):(s.step k w).a=aX (aX (aX (aX (aX s.h (i6 s.e)) (jb s.e s.f s.g)) k) w) (aX (jK s.a) (jL s.a s.b s.c)):=rfl
theorem Sk (s:bi) (k w:UInt32):(s.step k w).b=s.a:=rfl
theorem Sl (s:bi) (k w:UInt32):(s.step k w).c=s.b:=rfl
theorem Sm (s:bi) (k w:UInt32):(s.step k w).d=s.c:=rfl
theorem Sn (s:bi) (k w:UInt32):(s.step k w).e=aX s.d (aX (aX (aX (aX s.h (i6 s.e)) (jb s.e s.f s.g)) k) w):=rfl
theorem Sp (s:bi) (k w:UInt32):(s.step k w).f=s.e:=rfl
theorem Sq (s:bi) (k w:UInt32):(s.step k w).g=s.f:=rfl
theorem Sr (s:bi) (k w:UInt32):(s.step k w).h=s.g:=rfl
theorem JX {l:List UInt8} {i:Nat} (h:i<l.length):l[i]?=some (l.getD i 0):=by simp[h]
def xn (h k:List UInt32) (b:List UInt8) (t:Nat):St:=⟨bc [(0,.w (.c (.d (.sl (h.map wD))))),(1,.w (.c (.d (.sl (k.map wD))))),(2,.w (.c (.d (.sl (b.map bD))))),(7,.w (.c (.pa 1 1))),(8,.w (.c (.d (.int .i64 (t:Int)))))],
  hL [(1,.row 1 ((gI b t++List.replicate (64-t) 0).map wD))],uL [1]⟩
def xo (h k:List UInt32) (b:List UInt8) (n:Nat):St:=⟨bc [(0,.w (.c (.d (.sl (h.map wD))))),(1,.w (.c (.d (.sl (k.map wD))))),(7,.w (.c (.pa 1 1))),(9,.w (.c (.d (.int .i64 ((16+n:Nat):Int)))))],
  hL [(1,.row 1 ((bY b n++List.replicate (48-n) 0).map wD))],uL [1]⟩
def rX (h:List UInt32) (b:List UInt8) (s:bi) (n:Nat):St:=⟨bc [(0,.w (.c (.d (.sl (h.map wD))))),(1,.w (.c (.d (.sl (cB.map wD))))),(7,.w (.c (.pa 1 1))),(12,.w (.c (.d (wD s.a)))),(13,.w (.c (.d (wD s.b)))),(14,.w (.c (.d (wD s.c)))),(15,.w (.c (.d (wD s.d)))),(16,.w (.c (.d (wD s.e)))),(17,.w (.c (.d (wD s.f)))),(18,.w (.c (.d (wD s.g)))),(19,.w (.c (.d (wD s.h)))),(20,.w (.c (.d (.int .i64 (n:Int)))))],
  hL [(1,.row 1 ((fP b).map wD))],uL [1]⟩
def oI (h:List UInt32) (b:List UInt8) (n:Nat):St:=rX h b ((bi.of h).rounds cB (fP b) n) n
def tg:aL := .seq (.seq (.reg [oM 23 8,oO 24 (.bin .lss (.t 23) (kI 16))]) (.cond (.t 24) (.skip) (.exit 0))) (.seq (.block 1 (.reg [oM 27 8,oM 28 2,oM 29 8,oO 30 (.bin .mul (kI 4) (.t 29)),oO 31 (.idxSl 1 (.t 28) (.t 30)),oO 32 (.load .sc (.t 31)),oO 33 (.conv .u32 (.t 32)),oO 34 (.bin .shl (.t 33) (.k (.c (.d (.int .u64 24))))),oM 35 2,oM 36 8,oO 37 (.bin .mul (kI 4) (.t 36)),oO 38 (.bin .add (.t 37) (kI 1)),oO 39 (.idxSl 1 (.t 35) (.t 38)),oO 40 (.load .sc (.t 39)),oO 41 (.conv .u32 (.t 40)),oO 42 (.bin .shl (.t 41) (.k (.c (.d (.int .u64 16))))),oO 43 (.bin .or (.t 34) (.t 42)),oM 44 2,oM 45 8,oO 46 (.bin .mul (kI 4) (.t 45)),oO 47 (.bin .add (.t 46) (kI 2)),oO 48 (.idxSl 1 (.t 44) (.t 47)),oO 49 (.load .sc (.t 48)),oO 50 (.conv .u32 (.t 49)),oO 51 (.bin .shl (.t 50) (.k (.c (.d (.int .u64 8))))),
 oO 52 (.bin .or (.t 43) (.t 51)),oM 53 2,oM 54 8,oO 55 (.bin .mul (kI 4) (.t 54)),oO 56 (.bin .add (.t 55) (kI 3)),oO 57 (.idxSl 1 (.t 53) (.t 56)),oO 58 (.load .sc (.t 57)),oO 59 (.conv .u32 (.t 58)),oO 60 (.bin .or (.t 52) (.t 59)),oO 61 (.idxPa 1 64 (.t 7) (.t 27)),oN (.store .sc (.t 61) (.t 60))])) (.reg [oM 25 8,oO 26 (.bin .add (.t 25) (kI 1)),oM 8 26]))
def ti:aL := .seq (.seq (.reg [oM 62 9,oO 63 (.bin .lss (.t 62) (kI 64))]) (.cond (.t 63) (.skip) (.exit 2))) (.seq (.block 3 (.seq (.reg [oM 66 9,oO 67 (.bin .sub (.t 66) (kI 15)),oO 68 (.idxPa 1 64 (.t 7) (.t 67)),oO 69 (.load .sc (.t 68)),oM 70 9,oO 71 (.bin .sub (.t 70) (kI 2)),oO 72 (.idxPa 1 64 (.t 7) (.t 71)),oO 73 (.load .sc (.t 72)),oM 10 69,oM 11 73]) (.reg [oM 74 9,oM 75 11,oO 76 (.call 64 [(.t 75),(kI 17)] none),oM 77 11,oO 78 (.call 64 [(.t 77),(kI 19)] none),oO 79 (.bin .xor (.t 76) (.t 78)),oM 80 11,oO 81 (.bin .shr (.t 80) (.k (.c (.d (.int .u64 10))))),oO 82 (.bin .xor (.t 79) (.t 81)),oM 83 9,oO 84 (.bin .sub (.t 83) (kI 7)),oO 85 (.idxPa 1 64 (.t 7) (.t 84)),oO 86 (.load .sc (.t 85)),oO 87 (.bin .add (.t 82) (.t 86)),oM 88 10,oO 89 (.call 64 [(.t 88),(kI 7)] none),
 oM 90 10,oO 91 (.call 64 [(.t 90),(kI 18)] none),oO 92 (.bin .xor (.t 89) (.t 91)),oM 93 10,oO 94 (.bin .shr (.t 93) (.k (.c (.d (.int .u64 3))))),oO 95 (.bin .xor (.t 92) (.t 94)),oO 96 (.bin .add (.t 87) (.t 95)),oM 97 9,oO 98 (.bin .sub (.t 97) (kI 16)),oO 99 (.idxPa 1 64 (.t 7) (.t 98)),oO 100 (.load .sc (.t 99)),oO 101 (.bin .add (.t 96) (.t 100)),oO 102 (.idxPa 1 64 (.t 7) (.t 74)),oN (.store .sc (.t 102) (.t 101))]))) (.reg [oM 64 9,oO 65 (.bin .add (.t 64) (kI 1)),oM 9 65]))
def tj:aL := .seq (.seq (.reg [oM 127 20,oO 128 (.bin .lss (.t 127) (kI 64))]) (.cond (.t 128) (.skip) (.exit 4))) (.seq (.block 5 (.seq (.reg [oM 131 19,oM 132 16,oO 133 (.call 64 [(.t 132),(kI 6)] none),oM 134 16,oO 135 (.call 64 [(.t 134),(kI 11)] none),oO 136 (.bin .xor (.t 133) (.t 135)),oM 137 16,oO 138 (.call 64 [(.t 137),(kI 25)] none),oO 139 (.bin .xor (.t 136) (.t 138)),oO 140 (.bin .add (.t 131) (.t 139)),oM 141 16,oM 142 17,oO 143 (.bin .and (.t 141) (.t 142)),oM 144 16,oO 145 (.un .xor (.t 144)),oM 146 18,oO 147 (.bin .and (.t 145) (.t 146)),oO 148 (.bin .xor (.t 143) (.t 147)),oO 149 (.bin .add (.t 140) (.t 148)),oM 150 1,oM 151 20,oO 152 (.idxSl 1 (.t 150) (.t 151)),oO 153 (.load .sc (.t 152)),oO 154 (.bin .add (.t 149) (.t 153)),oM 155 20,oO 156 (.idxPa 1 64 (.t 7) (.t 155)),
 oO 157 (.load .sc (.t 156)),oO 158 (.bin .add (.t 154) (.t 157)),oM 21 158]) (.seq (.reg [oM 159 12,oO 160 (.call 64 [(.t 159),(kI 2)] none),oM 161 12,oO 162 (.call 64 [(.t 161),(kI 13)] none),oO 163 (.bin .xor (.t 160) (.t 162)),oM 164 12,oO 165 (.call 64 [(.t 164),(kI 22)] none),oO 166 (.bin .xor (.t 163) (.t 165)),oM 167 12,oM 168 13,oO 169 (.bin .and (.t 167) (.t 168)),oM 170 12,oM 171 14,oO 172 (.bin .and (.t 170) (.t 171)),oO 173 (.bin .xor (.t 169) (.t 172)),oM 174 13,oM 175 14,oO 176 (.bin .and (.t 174) (.t 175)),oO 177 (.bin .xor (.t 173) (.t 176)),oO 178 (.bin .add (.t 166) (.t 177)),oM 22 178]) (.reg [oM 179 21,oM 180 22,oO 181 (.bin .add (.t 179) (.t 180)),oM 182 12,oM 183 13,oM 184 14,oM 185 15,oM 186 21,oO 187 (.bin .add (.t 185) (.t 186)),oM 188 16,oM 189 17,oM 190 18,oM 12 181,
 oM 13 182,oM 14 183,oM 15 184,oM 16 187,oM 17 188,oM 18 189,oM 19 190])))) (.reg [oM 129 20,oO 130 (.bin .add (.t 129) (kI 1)),oM 20 130]))
def Af:aB:=⟨3,232,.seq (.reg [oO 6 (.mv (.k (.c .nil)))]) (.seq (.reg [oO 7 (.allocArr [(.int .u32 0),(.int .u32 0),(.int .u32 0),(.int .u32 0),(.int .u32 0),(.int .u32 0),(.int .u32 0),(.int .u32 0),(.int .u32 0),(.int .u32 0),(.int .u32 0),(.int .u32 0),(.int .u32 0),(.int .u32 0),(.int .u32 0),(.int .u32 0),(.int .u32 0),(.int .u32 0),(.int .u32 0),(.int .u32 0),(.int .u32 0),(.int .u32 0),(.int .u32 0),(.int .u32 0),(.int .u32 0),(.int .u32 0),(.int .u32 0),(.int .u32 0),(.int .u32 0),(.int .u32 0),(.int .u32 0),(.int .u32 0),(.int .u32 0),(.int .u32 0),(.int .u32 0),(.int .u32 0),(.int .u32 0),(.int .u32 0),(.int .u32 0),(.int .u32 0),(.int .u32 0),(.int .u32 0),(.int .u32 0),(.int .u32 0),(.int .u32 0),(.int .u32 0),(.int .u32 0),(.int .u32 0),(.int .u32 0),(.int .u32 0),(.int .u32 0),(.int .u32 0),(.int .u32 0),(.int .u32 0),(.int .u32 0),(.int .u32 0),(.int .u32 0),(.int .u32 0),(.int .u32 0),(.int .u32 0),(.int .u32 0),(.int .u32 0),(.int .u32 0),(.int .u32 0)])])
 (.seq (.seq (.reg [oO 8 (.mv (kI 0))]) (.block 0 (.loop tg))) (.seq (.seq (.reg [oO 9 (.mv (kI 16))]) (.block 2 (.loop ti))) (.seq (.reg [oM 103 0,oO 104 (.idxSl 1 (.t 103) (kI 0)),oO 105 (.load .sc (.t 104)),oM 106 0,oO 107 (.idxSl 1 (.t 106) (kI 1)),oO 108 (.load .sc (.t 107)),oM 109 0,oO 110 (.idxSl 1 (.t 109) (kI 2)),oO 111 (.load .sc (.t 110)),oM 112 0,oO 113 (.idxSl 1 (.t 112) (kI 3)),oO 114 (.load .sc (.t 113)),oM 115 0,oO 116 (.idxSl 1 (.t 115) (kI 4)),oO 117 (.load .sc (.t 116)),oM 118 0,oO 119 (.idxSl 1 (.t 118) (kI 5)),oO 120 (.load .sc (.t 119)),oM 121 0,oO 122 (.idxSl 1 (.t 121) (kI 6)),oO 123 (.load .sc (.t 122)),oM 124 0,oO 125 (.idxSl 1 (.t 124) (kI 7)),oO 126 (.load .sc (.t 125)),oM 12 105,oM 13 108,oM 14 111,oM 15 114,oM 16 117,oM 17 120,oM 18 123,oM 19 126])
 (.seq (.seq (.reg [oO 20 (.mv (kI 0))]) (.block 4 (.loop tj))) (.seq (.reg [oM 191 0,oO 192 (.idxSl 1 (.t 191) (kI 0)),oO 193 (.load .sc (.t 192)),oM 194 12,oO 195 (.bin .add (.t 193) (.t 194)),oM 196 0,oO 197 (.idxSl 1 (.t 196) (kI 1)),oO 198 (.load .sc (.t 197)),oM 199 13,oO 200 (.bin .add (.t 198) (.t 199)),oM 201 0,oO 202 (.idxSl 1 (.t 201) (kI 2)),oO 203 (.load .sc (.t 202)),oM 204 14,oO 205 (.bin .add (.t 203) (.t 204)),oM 206 0,oO 207 (.idxSl 1 (.t 206) (kI 3)),oO 208 (.load .sc (.t 207)),oM 209 15,oO 210 (.bin .add (.t 208) (.t 209)),oM 211 0,oO 212 (.idxSl 1 (.t 211) (kI 4)),oO 213 (.load .sc (.t 212)),oM 214 16,oO 215 (.bin .add (.t 213) (.t 214)),oM 216 0,oO 217 (.idxSl 1 (.t 216) (kI 5)),oO 218 (.load .sc (.t 217)),oM 219 17,oO 220 (.bin .add (.t 218) (.t 219)),oM 221 0,
 oO 222 (.idxSl 1 (.t 221) (kI 6)),oO 223 (.load .sc (.t 222)),oM 224 18,oO 225 (.bin .add (.t 223) (.t 224)),oM 226 0,oO 227 (.idxSl 1 (.t 226) (kI 7)),oO 228 (.load .sc (.t 227)),oM 229 19,oO 230 (.bin .add (.t 228) (.t 229)),oO 231 (.bldSl true 8 1 (.int .u32 0) [(0,(.t 195)),(1,(.t 200)),(2,(.t 205)),(3,(.t 210)),(4,(.t 215)),(5,(.t 220)),(6,(.t 225)),(7,(.t 230))]),oM 6 231]) (.ret))))))),[(6,none)]⟩
theorem K6:aA Try.prog { own:=[231],comp:=[],frz:=[],nils:=[] } Try.f44=some Af:=by kernel_rfl
set_option maxHeartbeats 1600000 in
theorem CK (G:aj) (h:List UInt32) (b:List UInt8) (hh:h.length=8) (hb:b.length=64):ar Try.prog G 44 [.sl (h.map wD),.sl (cB.map wD),.sl (b.map bD)] (.w (.c (.fr 1 ((j9 h b).map wD)))):=by
  refine aF Try.func44 K6 rfl rfl ?_;have hsl:(fP b).length=64:=tB b 48;have hcl:cB.length=64:=pu;simp only[Af,ah,wx,aa,seval,iteOmega,toNatUp];refine bH (xn h cB b) (fun t=>16-t) (fun t=>t≤16) 0 (UR _) ?_ ?_
  ·refine aG (fun _=>56) ?_ ?_ rfl rfl <;> simp only[wx,aw,aa,seval,iteOmega,toNatUp];rfl
  ·intro t ht;by_cases hlt:t<16
   ·have e0:IntKind.i64.wrap (4*(t:Int))=((4*t:Nat):Int):=by rw[IntWalk.i64_in _ (by omega)]; omega
    have e1:IntKind.i64.wrap (((4*t:Nat):Int)+1)=((4*t+1:Nat):Int):=by rw[IntWalk.i64_in _ (by omega)]; omega
    have e2:IntKind.i64.wrap (((4*t:Nat):Int)+2)=((4*t+2:Nat):Int):=by rw[IntWalk.i64_in _ (by omega)]; omega
    have e3:IntKind.i64.wrap (((4*t:Nat):Int)+3)=((4*t+3:Nat):Int):=by rw[IntWalk.i64_in _ (by omega)]; omega
    have e4:IntKind.i64.wrap ((t:Int)+1)=((t+1:Nat):Int):=by rw[IntWalk.i64_in _ (by omega)]; omega
    have g:∀ k,k<64→(b.map bD)[k]?=some (bD (b.getD k 0)):=fun k hk=>by rw[aV,JX (by omega)]; rfl
    have g0:=g (4*t) (by omega);have g1:=g (4*t+1) (by omega);have g2:=g (4*t+2) (by omega);have g3:=g (4*t+3) (by omega);have h1:t<(gI b t++List.replicate (64-t) 0).length:=by rw[UF,te,UW]; omega
    have h2:=CJ (gI b t) 0 (bR b t) (64-t) (by omega);rw[te] at h2;have h3:gI b t++[bR b t]=gI b (t+1):=by simp[gI,VZ]
    have h4:64-t-1=64-(t+1):=by omega
    rw[h3,h4] at h2;simp only[bR] at h2;have m24:min (24:Int).toNat 32=24:=by decide
    have m16:min (16:Int).toNat 32=16:=by decide
    have m8:min (8:Int).toNat 32=8:=by decide
    simp only[tg,xn,wx,aa,seval,iteOmega,toNatUp,e0,e1,e2,e3,e4,g0,g1,g2,g3,VG,Gp h1 (rH _),Gq,h2];refine br (t+1) (by omega) (by omega) (aG id ?_ ?_ rfl rfl) <;> simp only[wx,aw,aa,seval,iteOmega,toNatUp]
   ·obtain rfl:t=16:=by omega
    simp only[tg,xn,wx,aa,seval,iteOmega,toNatUp];refine bH (xo h cB b) (fun n=>48-n) (fun n=>n≤48) 0 (UR _) ?_ ?_
    ·have h0:gI b 16=bY b 0:=rfl;refine aG id ?_ ?_ rfl rfl <;> simp only[wx,aw,aa,seval,iteOmega,toNatUp,h0]
    ·intro n hn;by_cases hlt:n<48
     ·have hl:=tB b n;have w1:∀ k:Nat,k≤16→IntKind.i64.wrap (((16+n:Nat):Int)-(k:Int))=((16+n-k:Nat):Int):=fun k hk=>by rw[IntWalk.i64_in _ (by omega)]; omega
      have e15:IntKind.i64.wrap (((16+n:Nat):Int)-15)=((16+n-15:Nat):Int):=w1 15 (by decide);have e2:IntKind.i64.wrap (((16+n:Nat):Int)-2)=((16+n-2:Nat):Int):=w1 2 (by decide);have e7:IntKind.i64.wrap (((16+n:Nat):Int)-7)=((16+n-7:Nat):Int):=w1 7 (by decide);have e16:IntKind.i64.wrap (((16+n:Nat):Int)-16)=((16+n-16:Nat):Int):=w1 16 (by decide);have e0:IntKind.i64.wrap (((16+n:Nat):Int)+1)=((16+(n+1):Nat):Int):=by rw[IntWalk.i64_in _ (by omega)]; omega
      have g:∀ k,k<16+n→((bY b n++List.replicate (48-n) 0).map wD)[k]?=some (wD ((bY b n).getD k 0)):=fun k hk=>by
        rw[VC,Si (by omega)]; rfl
      have g15:=g (16+n-15) (by omega);have g2:=g (16+n-2) (by omega);have g7:=g (16+n-7) (by omega);have g16:=g (16+n-16) (by omega);simp only[ti,xo,wx,aa,seval,iteOmega,toNatUp,e15,e2,e7,e16,e0,g15,g2,g7,g16];refine bE (iK G _ 17 (by decide) (by decide)) rfl (.inr rfl) ?_;simp only[wx,aa,seval,iteOmega,toNatUp];refine bE (iK G _ 19 (by decide) (by decide)) rfl (.inr rfl) ?_;simp only[wx,aa,seval,iteOmega,toNatUp,e15,e2,e7,e16,e0,g15,g2,g7,g16];refine bE (iK G _ 7 (by decide) (by decide)) rfl (.inr rfl) ?_;simp only[wx,aa,seval,iteOmega,toNatUp];refine bE (iK G _ 18 (by decide) (by decide)) rfl (.inr rfl) ?_;have h1:16+n<(bY b n++List.replicate (48-n) 0).length:=by rw[UF,hl,UW]; omega
      have h2:=CJ (bY b n) 0 (ln (bY b n) (16+n)) (48-n) (by omega);rw[hl] at h2;have h4:48-n-1=48-(n+1):=by omega
      have h3:bY b n++[ln (bY b n) (16+n)]=bY b (n+1):=rfl;rw[h3,h4] at h2;simp only[ln,jn,jo] at h2;simp only[wx,aa,seval,iteOmega,toNatUp,e15,e2,e7,e16,e0,g15,g2,g7,g16,Gp h1 (rH _),Gq,h2];refine br (n+1) (by omega) (by omega) (aG id ?_ ?_ rfl rfl) <;> simp only[wx,aw,aa,seval,iteOmega,toNatUp]
     ·have hn48:n=48:=by omega
      have h0:48-n=0:=by omega
      obtain⟨h0',h1,h2,h3,h4,h5,h6,h7,rfl⟩:=eight hh;simp only[ti,xo,wx,aa,seval,iteOmega,toNatUp,h0,UX,VM,← M3 b n hn48];refine bH (oI [h0',h1,h2,h3,h4,h5,h6,h7] b) (fun n=>64-n) (fun n=>n≤64) 0 (UR _) ?_ ?_
      ·refine aG id ?_ ?_ rfl rfl <;> simp only[oI,rX,wx,aw,aa,seval,iteOmega,toNatUp];exact⟨rfl,rfl,rfl,rfl,rfl,rfl,rfl,rfl⟩
      ·clear hn hlt hn48 h0;intro n hn;by_cases hlt:n<64
       ·have e1:IntKind.i64.wrap ((n:Int)+1)=((n+1:Nat):Int):=by rw[IntWalk.i64_in _ (by omega)]; rfl
        have g1:(cB.map wD)[n]?=some (wD (cB.getD n 0)):=by rw[aV,getD_some (by omega)]; rfl
        have g2:((fP b).map wD)[n]?=some (wD ((fP b).getD n 0)):=by rw[aV,getD_some (by omega)]; rfl
        have hr:(bi.of [h0',h1,h2,h3,h4,h5,h6,h7]).rounds cB (fP b) (n+1)=((bi.of [h0',h1,h2,h3,h4,h5,h6,h7]).rounds cB (fP b) n).step (cB.getD n 0) ((fP b).getD n 0):=rfl;generalize hs:(bi.of [h0',h1,h2,h3,h4,h5,h6,h7]).rounds cB (fP b) n=s at hr;simp only[tj,oI,rX,hs,wx,aa,seval,iteOmega,toNatUp,hcl,hsl,g1,g2,e1];refine bE (iK G _ 6 (by decide) (by decide)) rfl (.inr rfl) ?_;simp only[wx,aa,seval,iteOmega,toNatUp];refine bE (iK G _ 11 (by decide) (by decide)) rfl (.inr rfl) ?_;simp only[wx,aa,seval,iteOmega,toNatUp];refine bE (iK G _ 25 (by decide) (by decide)) rfl (.inr rfl) ?_;simp only[wx,aa,seval,iteOmega,toNatUp,g1,g2,hcl,hsl];refine bE (iK G _ 2 (by decide) (by decide)) rfl (.inr rfl) ?_;simp only[wx,aa,seval,iteOmega,toNatUp];refine bE (iK G _ 13 (by decide) (by decide)) rfl (.inr rfl) ?_;simp only[wx,aa,seval,iteOmega,toNatUp];refine bE (iK G _ 22 (by decide) (by decide)) rfl (.inr rfl) ?_;simp only[wx,aa,seval,iteOmega,toNatUp,e1];refine br (n+1) (by omega) (by omega) ?_;rw[oI,hr];refine (aG id ?_ ?_ rfl rfl) <;> simp only[wx,aw,aa,seval,iteOmega,toNatUp,Sj,Sk,Sl,Sm,Sn,Sp,Sq,Sr];exact⟨rfl,rfl⟩
       ·obtain rfl:n=64:=by omega
        have hK:j9 [h0',h1,h2,h3,h4,h5,h6,h7] b=((bi.of [h0',h1,h2,h3,h4,h5,h6,h7]).rounds cB (fP b) 64).sum [h0',h1,h2,h3,h4,h5,h6,h7]:=rfl;rw[hK];simp only[oI];generalize (bi.of [h0',h1,h2,h3,h4,h5,h6,h7]).rounds cB (fP b) 64=s;have e8:s.sum [h0',h1,h2,h3,h4,h5,h6,h7]=[aX h0' s.a,aX h1 s.b,aX h2 s.c,aX h3 s.d,aX h4 s.e,aX h5 s.f,aX h6 s.g,aX h7 s.h]:=rfl;simp only[tj,rX,e8,wx,aa,seval,iteOmega,toNatUp];exact ft (id:=1848) (n:=8) (s:=1) (by simp only[wx,aa,seval,iteOmega,toNatUp]) (by simp only[wx,aa,seval,iteOmega,toNatUp] <;> rfl) rfl
def cP (h:List UInt32) (b:List UInt8):Nat→List UInt32
  | 0=>h
  | n+1=>j9 (cP h b n) ((b.drop (64*n)).take 64)
theorem pQ {h:List UInt32} (hh:h.length=8) (b:List UInt8):∀ n,(cP h b n).length=8
  | 0=>hh
  | n+1=>yX _ _
def gx (rest:List UInt8) (count:Nat):List UInt8:=rest++[128]++List.replicate ((119-rest.length)%64) 0++al (count*8) 8
def fv (ws:List UInt32):List UInt8:=ws.flatMap fun w=>al w.toNat 4
def kD (s:List UInt32) (rest:List UInt8) (count:Nat):List UInt8:=fv (cP s (gx rest count) ((gx rest count).length / 64))
def lz (b:List UInt8):List UInt8:=kD (cP ga b (b.length / 64)) (b.drop (64*(b.length / 64))) b.length
theorem tC:∀ ws:List UInt32,(fv ws).length=4*ws.length
  | []=>rfl
  | w::ws=>by
    have:fv (w::ws)=al w.toNat 4++fv ws:=rfl;rw[this,UF,bp,tC ws,Wn]; omega
theorem M5 {s:List UInt32} (hs:s.length=8) (rest:List UInt8) (count:Nat):(kD s rest count).length=32:=by
  unfold kD;rw[tC,pQ hs]
theorem CL (b:List UInt8):(lz b).length=32:=M5 (pQ yW _ _) _ _
theorem M6 (rest:List UInt8) (count:Nat) (h:rest.length<64):(gx rest count).length=rest.length+9+(119-rest.length)%64∧(gx rest count).length%64=0:=by
  have:(gx rest count).length=rest.length+9+(119-rest.length)%64:=by simp[gx,bp]; omega
  exact⟨this,by omega⟩
theorem Js (ws:List UInt32) (k:Nat) (h:k<ws.length):fv (ws.take k)++al (ws.getD k 0).toNat 4=fv (ws.take (k+1)):=by
  rw[Vu h];unfold fv;rw[VL];simp[h]
theorem M7 {α:Type} (a:α) (j:Nat):List.replicate j a++[a]=List.replicate (j+1) a:=by rw[List.replicate_succ']
def xp (h:List UInt32) (rest:List UInt8) (count:Nat) (j:Nat):St:=⟨bc [(0,.w (.c (.d (.sl (h.map wD))))),(2,.w (.c (.d (.int .i64 (count:Int))))),(7,.w (.c (.d (.sl (cB.map wD))))),(8,.w (.c (.own 1 1 0 (rest++[128]++List.replicate j 0).length)))],hL [(1,.row 1 ((rest++[128]++List.replicate j 0).map bD))],uL [1]⟩
def xq (h:List UInt32) (p:List UInt8) (n:Nat):St:=⟨bc [(0,.w (.c (.d (.sl ((cP h p n).map wD))))),(7,.w (.c (.d (.sl (cB.map wD))))),(8,.w (.c (.own 1 1 0 p.length))),(9,.w (.c (.d (.int .i64 ((64*n:Nat):Int)))))],hL [(1,.row 1 (p.map bD))],uL [1]⟩
def xr (ws:List UInt32) (k:Nat):St:=⟨bc [(0,.w (.c (.d (.sl (ws.map wD))))),(10,.w (.c (.own 1 1 0 (fv (ws.take k)).length))),(11,.w (.c (.d (.int .i64 (k:Int)))))],hL [(1,.row 1 ((fv (ws.take k)).map bD))],uL [1]⟩
theorem Ss {ws:List UInt32} {k:Nat} (h:k<ws.length):(ws.map wD)[k]?=some (wD (ws.getD k 0)):=by
  simp[h]
theorem TP:D.int .u8 0=bD 0:=rfl
theorem PN:D.int .u8 128=bD 128:=rfl
theorem Iu (l:List UInt8) (a:UInt8):l.map bD++[bD a]=(l++[a]).map bD:=by simp
def uc:aL := .seq (.seq (.reg [oM 18 8,oO 19 (.len (.t 18)),oO 20 (.bin .rem (.t 19) (kI 64)),oO 21 (.bin .neq (.t 20) (kI 56))]) (.cond (.t 21) (.skip) (.exit 0))) (.block 1 (.reg [oM 22 8,oO 23 (.bldSl false 1 1 (.int .u8 0) [(0,(.k (.c (.d (.int .u8 0)))))]),oO 24 (.app false 1 1 (.t 22) (.t 23)),oM 8 24]))
def ud:aL := .seq (.seq (.reg [oM 31 9,oM 32 8,oO 33 (.len (.t 32)),oO 34 (.bin .lss (.t 31) (.t 33))]) (.cond (.t 34) (.skip) (.exit 2))) (.seq (.block 3 (.reg [oM 37 0,oM 38 7,oM 39 8,oM 40 9,oM 41 9,oO 42 (.bin .add (.t 41) (kI 64)),oO 43 (.slice 1 (.t 39) (some (.t 40)) (some (.t 42)) none),oO 44 (.call 44 [(.t 37),(.t 38),(.t 43)] none),oM 0 44])) (.reg [oM 35 9,oO 36 (.bin .add (.t 35) (kI 64)),oM 9 36]))
def ue:aL := .seq (.seq (.reg [oM 46 11,oO 47 (.bin .lss (.t 46) (kI 8))]) (.cond (.t 47) (.skip) (.exit 4))) (.seq (.block 5 (.reg [oM 50 10,oM 51 0,oM 52 11,oO 53 (.idxSl 1 (.t 51) (.t 52)),oO 54 (.load .sc (.t 53)),oO 55 (.conv .u64 (.t 54)),oO 56 (.call 26 [(.t 55),(kI 4)] none),oO 57 (.app false 1 1 (.t 50) (.t 56)),oM 10 57])) (.reg [oM 48 11,oO 49 (.bin .add (.t 48) (kI 1)),oM 11 49]))
def EY:aB:=⟨3,59,.seq (.reg [oO 6 (.mv (.k (.c .nil)))]) (.seq (.reg [oO 12 (.call 43 [] none),oM 7 12]) (.seq (.reg [oM 13 1,oO 14 (.bldSl false 1 1 (.sl []) [(0,(.t 13))]),oO 15 (.call 25 [(.t 14)] (some (0,1))),oO 16 (.bldSl false 1 1 (.int .u8 0) [(0,(.k (.c (.d (.int .u8 128)))))]),oO 17 (.app false 1 1 (.t 15) (.t 16)),oM 8 17]) (.seq (.block 0 (.loop uc)) (.seq (.reg [oM 25 8,oM 26 2,oO 27 (.conv .u64 (.t 26)),oO 28 (.bin .mul (.t 27) (.k (.c (.d (.int .u64 8))))),oO 29 (.call 26 [(.t 28),(kI 8)] none),oO 30 (.app false 1 1 (.t 25) (.t 29)),oM 8 30]) (.seq (.seq (.reg [oO 9 (.mv (kI 0))]) (.block 2 (.loop ud))) (.seq (.reg [oO 45 (.bldSl true 0 1 (.int .u8 0) []),oM 10 45]) (.seq (.seq (.reg [oO 11 (.mv (kI 0))]) (.block 4 (.loop ue))) (.seq (.reg [oM 58 10,
 oM 6 58]) (.ret))))))))),[(6,none)]⟩
theorem PO:aA Try.prog { own:=[15,45],comp:=[],frz:=[],nils:=[] } Try.f45=some EY:=by kernel_rfl
theorem Su (G:aj) (s:List UInt32) (rest:List UInt8) (count:Nat) (hs:s.length=8) (hr:rest.length<64) (hc:count≤140737488355328):ar Try.prog G 45 [.sl (s.map wD),.sl (rest.map bD),.int .i64 (count:Int)] (.w (.c (.fr 1 ((kD s rest count).map bD)))):=by
  refine aF Try.func45 PO rfl rfl ?_;have hj:=D4 G [rest] (by simp) (by simp; omega);have hf:[rest].flatten=rest:=by simp
  rw[hf] at hj;obtain⟨hp1,hp2⟩:=M6 rest count hr;simp only[EY,ah,ae,aa,seval,iteOmega,toNatUp];refine bE (Hr G) rfl (.inl rfl) ?_;simp only[ae,aa,seval,iteOmega,toNatUp];refine bE hj rfl (.inl rfl) ?_;simp only[ae,aa,seval,iteOmega,toNatUp,ct,PN,Iu];refine bH (xp s rest count) (fun j=>(119-rest.length)%64-j) (fun j=>j≤(119-rest.length)%64) 0 (UR _) ?_ ?_
  ·refine aG (fun _=>136) ?_ ?_ rfl rfl <;> simp only[wx,aw,aH,aa,seval,iteOmega,toNatUp]
  ·intro j hj;have hl:(rest++[128]++List.replicate j 0).length=rest.length+1+j:=by simp; omega
   have ht:((rest++[128]++List.replicate j 0).length:Int).tmod 64=(((rest.length+1+j)%64:Nat):Int):=by rw[hl]; rfl
   by_cases hlt:j<(119-rest.length)%64
   ·have e1:rest++[128]++List.replicate j 0++[0]=rest++[128]++List.replicate (j+1) 0:=by
      rw[UV,M7]
    generalize hx:rest++[128]++List.replicate j 0=x at *
    simp only[uc,xp,hx,ae,aa,seval,iteOmega,toNatUp,ht,ct,TP,Iu,e1];refine br (j+1) (by omega) (by omega) (aG (fun _=>192) ?_ ?_ rfl rfl) <;> simp only[wx,aw,aH,aa,seval,iteOmega,toNatUp]
   ·obtain rfl:j=(119-rest.length)%64:=by omega
    generalize hx:rest++[128]++List.replicate ((119-rest.length)%64) 0=x at *
    simp only[uc,xp,hx,ae,aa,seval,iteOmega,toNatUp,ht];refine bE (qD G (count*8) 8 (by decide)) ?_ (.inl rfl) ?_
    ·simp only[ae,aa,seval,iteOmega,toNatUp]
    have hx2:x++al (count*8) 8=gx rest count:=by rw[← hx]; rfl
    simp only[ae,aa,seval,iteOmega,toNatUp,ct,ji,hx2,bp];refine bH (xq s (gx rest count)) (fun n=>(gx rest count).length / 64-n) (fun n=>n≤(gx rest count).length / 64) 0 (UR _) ?_ ?_
    ·refine aG (fun _=>240) ?_ ?_ rfl rfl <;> simp only[wx,aw,aH,aa,seval,iteOmega,toNatUp,cP]
    ·generalize hpk:gx rest count=p at *
     intro n hn;have hl8:=pQ hs p n;by_cases hlt:n<p.length / 64
     ·have h2:((p.drop (64*n)).take 64).length=64:=by rw[UI,UK]; omega
      have e1:64*n+64-64*n=64:=by omega
      simp only[ud,xq,ae,aa,seval,iteOmega,toNatUp];refine bE (CK G (cP s p n) ((p.drop (64*n)).take 64) hl8 h2) ?_ (.inr (Ul _ _)) ?_
      ·simp only[ae,aa,seval,iteOmega,toNatUp,cQ,e1]
      simp only[ae,aa,seval,iteOmega,toNatUp];have e2:64*(n:Int)+64=64*((n:Int)+1):=by omega
      refine br (n+1) (by omega) (by omega) (aG id ?_ ?_ rfl rfl) <;> simp only[wx,aw,aH,aa,seval,iteOmega,toNatUp,cP,e2]
     ·obtain rfl:n=p.length / 64:=by omega
      have hfk:kD s rest count=fv (cP s p (p.length / 64)):=by unfold kD; rw[hpk]
      rw[hfk];simp only[xq];generalize cP s p (p.length / 64)=ws at hl8;have h64:¬ ((64*(p.length / 64):Nat):Int)<(p.length:Int):=by omega
      simp only[ud,ae,aa,seval,iteOmega,toNatUp,h64];refine bH (xr ws) (fun k=>8-k) (fun k=>k≤8) 0 (UR _) ?_ ?_
      ·refine aG (fun _=>360) ?_ ?_ rfl rfl <;> simp only[wx,aw,aH,aa,seval,iteOmega,toNatUp,fv]
      ·intro k hk;by_cases hlt:k<8
       ·have hw1:(ws.getD k 0).toNat<4294967296:=word_lt _;have hwl:=tC (ws.take k);rw[UI] at hwl;simp only[ue,xr,ae,aa,seval,iteOmega,toNatUp,Ss (show k<ws.length by omega)];refine bE (qD G (ws.getD k 0).toNat 4 (by decide)) ?_ (.inl rfl) ?_
        ·simp only[ae,aa,seval,iteOmega,toNatUp]
        simp only[ae,aa,seval,iteOmega,toNatUp,ct,Js ws k (by omega),bp];refine br (k+1) (by omega) (by omega) (aG (fun _=>456) ?_ ?_ rfl rfl) <;> simp only[wx,aw,aH,aa,seval,iteOmega,toNatUp]
       ·obtain rfl:k=8:=by omega
        have:ws.take 8=ws:=UG (by omega);simp only[ue,xr,ae,aa,seval,iteOmega,toNatUp,this];exact ft (id:=1) (n:=(fv ws).length) (s:=1) (by simp only[wx,aa,seval,iteOmega,toNatUp]) (by simp only[wx,aa,seval,iteOmega,toNatUp]) (by rw[UQ])
def xO (b:List UInt8) (n:Nat):St:=⟨bc [(0,.w (.c (.d (.sl (b.map bD))))),(3,.w (.c (.d (.sl ((cP ga b n).map wD))))),(4,.w (.c (.d (.sl (cB.map wD))))),(5,.w (.c (.d (.int .i64 ((64*(b.length / 64):Nat):Int))))),(6,.w (.c (.d (.int .i64 ((64*n:Nat):Int)))))],hL [],uL []⟩
def ug:aL := .seq (.seq (.reg [oM 13 6,oM 14 5,oO 15 (.bin .lss (.t 13) (.t 14))]) (.cond (.t 15) (.skip) (.exit 0))) (.seq (.block 1 (.reg [oM 18 3,oM 19 4,oM 20 0,oM 21 6,oM 22 6,oO 23 (.bin .add (.t 22) (kI 64)),oO 24 (.slice 1 (.t 20) (some (.t 21)) (some (.t 23)) none),oO 25 (.call 44 [(.t 18),(.t 19),(.t 24)] none),oM 3 25])) (.reg [oM 16 6,oO 17 (.bin .add (.t 16) (kI 64)),oM 6 17]))
def EZ:aB:=⟨1,33,.seq (.reg [oO 2 (.mv (.k (.c .nil)))]) (.seq (.reg [oO 7 (.call 42 [] none),oO 8 (.call 43 [] none),oM 3 7,oM 4 8]) (.seq (.reg [oM 9 0,oO 10 (.len (.t 9)),oO 11 (.bin .quo (.t 10) (kI 64)),oO 12 (.bin .mul (.t 11) (kI 64)),oM 5 12]) (.seq (.seq (.reg [oO 6 (.mv (kI 0))]) (.block 0 (.loop ug))) (.seq (.reg [oM 26 3,oM 27 0,oM 28 5,oO 29 (.slice 1 (.t 27) (some (.t 28)) none none),oM 30 0,oO 31 (.len (.t 30)),oO 32 (.call 45 [(.t 26),(.t 29),(.t 31)] (some (0,1))),oM 2 32]) (.ret))))),[(2,none)]⟩
theorem PP:aA Try.prog { own:=[32],comp:=[],frz:=[],nils:=[] } Try.f24=some EZ:=by kernel_rfl
theorem Sv (G:aj) (b:List UInt8) (hb:b.length≤140737488355328):ar Try.prog G 24 [.sl (b.map bD)] (.w (.c (.fr 1 ((lz b).map bD)))):=by
  refine aF Try.func24 PP rfl rfl ?_;have e1:(b.length:Int).tdiv 64=((b.length / 64:Nat):Int):=rfl;have e2:((b.length / 64:Nat):Int)*64=((64*(b.length / 64):Nat):Int):=by omega
  have e3:IntKind.i64.wrap ((64*(b.length / 64):Nat):Int)=((64*(b.length / 64):Nat):Int):=IntWalk.i64_in _ (by omega);have e4:IntKind.i64.wrap ((b.length / 64:Nat):Int)=((b.length / 64:Nat):Int):=IntWalk.i64_in _ (by omega);simp only[EZ,ah,wx,wy,aa,seval,iteOmega,toNatUp];refine bE (Sg G) rfl (.inl rfl) ?_;simp only[wx,wy,aa,seval,iteOmega,toNatUp];refine bE (Hr G) rfl (.inl rfl) ?_;simp only[wx,wy,aa,seval,iteOmega,toNatUp,e1,e2,e3,e4];refine bH (xO b) (fun n=>b.length / 64-n) (fun n=>n≤b.length / 64) 0 (UR _) ?_ ?_
  ·refine aG id ?_ ?_ rfl rfl <;> simp only[wx,aw,aa,seval,iteOmega,toNatUp,cP]
  ·intro n hn;have hl8:=pQ yW b n;by_cases hlt:n<b.length / 64
   ·have h2:((b.drop (64*n)).take 64).length=64:=by rw[UI,UK]; omega
    have e1:64*n+64-64*n=64:=by omega
    have e5:IntKind.i64.wrap (((64*n:Nat):Int)+64)=((64*(n+1):Nat):Int):=by rw[IntWalk.i64_in _ (by omega)]; omega
    have e6:64*(n+1)-64*n=64:=by omega
    simp only[ug,xO,wx,wy,aa,seval,iteOmega,toNatUp,e1,e5,e6];refine bE (CK G (cP ga b n) ((b.drop (64*n)).take 64) hl8 h2) ?_ (.inl rfl) ?_
    ·simp only[wx,wy,aa,seval,iteOmega,toNatUp]
    simp only[wx,wy,aa,seval,iteOmega,toNatUp,e5];refine br (n+1) (by omega) (by omega) (aG id ?_ ?_ rfl rfl) <;> simp only[wx,aw,aa,seval,iteOmega,toNatUp,cP]
   ·obtain rfl:n=b.length / 64:=by omega
    have e1:List.take (b.length-64*(b.length / 64)) (b.drop (64*(b.length / 64)))=b.drop (64*(b.length / 64)):=UG (by rw[UK]; exact UJ _);simp only[ug,xO,wx,wy,aa,seval,iteOmega,toNatUp,e1];refine bE (Su G (cP ga b (b.length / 64)) (b.drop (64*(b.length / 64))) b.length hl8 (by rw[UK]; omega) hb) ?_ (.inl rfl) ?_
    ·simp only[wx,wy,aa,seval,iteOmega,toNatUp]
    simp only[wx,wy,aa,seval,iteOmega,toNatUp];exact ft (id:=256) (n:=(kD (cP ga b (b.length / 64)) (b.drop (64*(b.length / 64))) b.length).length) (s:=1) (by simp only[wx,aa,seval,iteOmega,toNatUp]) (by simp only[wx,aa,seval,iteOmega,toNatUp] <;> rfl) (by rw[UQ]; rfl)

def eH (v m:Int):Int:=if m<1 then 0 else v%m
theorem sY (v m:Int) (h:1≤m):0≤eH v m∧eH v m<m:=by
  unfold eH;rw[if_neg (by omega)];exact⟨Int.emod_nonneg _ (by omega),Int.emod_lt_of_pos _ (by omega)⟩
theorem M8 {v m:Int} (hm:0<m) (h:v.tmod m<0):v.tmod m+m=v%m:=by
  have h1:=Int.emod_add_mul_ediv v m;have h2:=Int.tmod_add_mul_tdiv v m;have h3:=Int.emod_nonneg v (show m≠0 by omega);have h4:=Int.emod_lt_of_pos v hm;have h5:=Int.lt_tmod_of_pos v hm;have e:m*(v.tdiv m-v / m)=v%m-v.tmod m:=by rw[Int.mul_sub]; omega
  have k1:v.tdiv m-v / m=1:=by
    rcases Int.lt_trichotomy (v.tdiv m-v / m) 1 with hlt | heq | hgt
    ·exfalso;have:v.tdiv m-v / m≤0:=by omega
     have:=Wa this (show 0≤m by omega);omega
    ·exact heq
    ·exfalso;have:2≤v.tdiv m-v / m:=by omega
     have:=Wa this (show 0≤m by omega);omega
  rw[k1] at e;omega
theorem M9 {v m:Int} (hm:0<m) (h:0≤v.tmod m):v.tmod m=v%m:=by
  have h1:=Int.emod_add_mul_ediv v m;have h2:=Int.tmod_add_mul_tdiv v m;have h3:=Int.emod_nonneg v (show m≠0 by omega);have h4:=Int.emod_lt_of_pos v hm;have h5:=Int.tmod_lt_of_pos v hm;have e:m*(v.tdiv m-v / m)=v%m-v.tmod m:=by rw[Int.mul_sub]; omega
  have k1:v.tdiv m-v / m=0:=by
    rcases Int.lt_trichotomy (v.tdiv m-v / m) 0 with hlt | heq | hgt
    ·exfalso;have:v.tdiv m-v / m ≤ -1:=by omega
     have:=Wa this (show 0≤m by omega);omega
    ·exact heq
    ·exfalso;have:1≤v.tdiv m-v / m:=by omega
     have:=Wa this (show 0≤m by omega);omega
  rw[k1] at e;omega
def pR:aB:=⟨2,16,.seq (.reg [oO 4 (.mv (kI 0))]) (.seq (.seq (.reg [oM 5 1,oO 6 (.bin .lss (.t 5) (kI 1))]) (.cond (.t 6) (.seq (.reg [oO 4 (.mv (kI 0))]) (.ret)) (.skip))) (.seq (.reg [oM 7 0,oM 8 1,oO 9 (.bin .rem (.t 7) (.t 8)),oM 0 9]) (.seq (.seq (.reg [oM 10 0,oO 11 (.bin .lss (.t 10) (kI 0))]) (.cond (.t 11) (.reg [oM 12 0,oM 13 1,oO 14 (.bin .add (.t 12) (.t 13)),oM 0 14]) (.skip))) (.seq (.reg [oM 15 0,oM 4 15]) (.ret))))),[(4,none)]⟩
theorem K7:aA Try.prog { own:=[],comp:=[],frz:=[],nils:=[] } Try.f8=some pR:=by kernel_rfl
theorem nz (G:aj) (v m:Int) (hm:m≤9223372036854775807):ar Try.prog G 8 [.int .i64 v,.int .i64 m] (.w (.c (.d (.int .i64 (eH v m))))):=by
  refine aF Try.func8 K7 rfl rfl ?_;unfold eH;by_cases h:m<1
  ·rw[if_pos h];simp only[pR,ah,ae,aa,seval,iteOmega,toNatUp];exact aP
  ·rw[if_neg h];have hne:¬ m=0:=by omega
   have h4:=Int.tmod_lt_of_pos v (show 0<m by omega);by_cases hn:v.tmod m<0
   ·have e:=M8 (by omega) hn;have h3:=Int.emod_lt_of_pos v (show 0<m by omega);have h5:=Int.emod_nonneg v (show m≠0 by omega);simp only[pR,ah,ae,aa,seval,iteOmega,toNatUp,hne];exact nR (by simp only[ae,aa,seval,iteOmega,toNatUp,e])
   ·have e:=M9 (v:=v) (show 0<m by omega) (by omega);simp only[pR,ah,ae,aa,seval,iteOmega,toNatUp,hne];exact nR (by simp only[ae,aa,seval,iteOmega,toNatUp,e])
def k9 (s i:Nat):List UInt8:=lz (al s 8++al i 4)
def fJ (s:Nat) (k:Nat):List UInt8:=((List.range k).map (k9 s)).flatten
theorem yC (s k:Nat):fJ s k++k9 s k=fJ s (k+1):=by simp[fJ,VZ]
theorem px (s:Nat):∀ k,(fJ s k).length=32*k
  | 0=>rfl
  | k+1=>by rw[← yC,UF,px s k]; unfold k9; rw[CL]; omega
def cY (seed n:Int):List UInt8:=(fJ (seed%18446744073709551616).toNat ((n.toNat+31) / 32)).take n.toNat
theorem lO (seed n:Int):(cY seed n).length=n.toNat:=by
  unfold cY; rw[UI,px]; omega
def rY (seed n:Int) (s:Nat) (k:Nat):St:=⟨bc [(0,.w (.c (.d (.int .i64 seed)))),(1,.w (.c (.d (.int .i64 n)))),(5,.w (.c (.own 1 1 0 (fJ s k).length))),(6,.w (.c (.d (.int .i64 (k:Int)))))],hL [(1,.row 1 ((fJ s k).map bD))],uL [1]⟩
def pq:aL := .seq (.seq (.reg [oM 8 5,oO 9 (.len (.t 8)),oM 10 1,oO 11 (.bin .lss (.t 9) (.t 10))]) (.cond (.t 11) (.skip) (.exit 0))) (.seq (.block 1 (.reg [oM 14 5,oM 15 0,oO 16 (.conv .u64 (.t 15)),oO 17 (.call 26 [(.t 16),(kI 8)] none),oM 18 6,oO 19 (.conv .u64 (.t 18)),oO 20 (.call 26 [(.t 19),(kI 4)] none),oO 21 (.bldSl false 2 1 (.sl []) [(0,(.t 17)),(1,(.t 20))]),oO 22 (.call 25 [(.t 21)] none),oO 23 (.call 24 [(.t 22)] none),oO 24 (.app false 1 1 (.t 14) (.t 23)),oM 5 24])) (.reg [oM 12 6,oO 13 (.bin .add (.t 12) (kI 1)),oM 6 13]))
def Ag:aB:=⟨2,29,.seq (.reg [oO 4 (.mv (.k (.c .nil)))]) (.seq (.reg [oO 7 (.bldSl true 0 1 (.int .u8 0) []),oM 5 7]) (.seq (.seq (.reg [oO 6 (.mv (kI 0))]) (.block 0 (.loop pq))) (.seq (.reg [oM 25 5,oM 26 1,oO 27 (.max [(.t 26),(kI 0)]),oO 28 (.slice 1 (.t 25) none (some (.t 27)) none),oM 4 28]) (.ret)))),[(4,none)]⟩
theorem K8:aA Try.prog { own:=[7],comp:=[],frz:=[],nils:=[] } Try.f10=some Ag:=by kernel_rfl
set_option maxHeartbeats 1600000 in
theorem Na (G:aj) (seed n:Int) (hn:n≤1099511627776):ar Try.prog G 10 [.int .i64 seed,.int .i64 n] (.w (.c (.fr 1 ((cY seed n).map bD)))):=by
  refine aF Try.func10 K8 rfl rfl ?_;obtain⟨s,hs⟩:∃ s:Nat,(seed%18446744073709551616).toNat=s:=⟨_,rfl⟩
  have hw:IntKind.u64.wrap seed=(s:Int):=by rw[IntKind.wrap_u64,← hs]; omega
  have hs2:s<18446744073709551616:=by omega
  have hK:cY seed n=(fJ s ((n.toNat+31) / 32)).take n.toNat:=by unfold cY; rw[hs]
  rw[hK];simp only[Ag,ah,ae,aa,seval,iteOmega,toNatUp];refine bH (rY seed n s) (fun k=>(n.toNat+31) / 32-k) (fun k=>k≤(n.toNat+31) / 32) 0 (UR _) ?_ ?_
  ·refine aG (fun _=>56) ?_ ?_ rfl rfl <;> simp only[wx,aw,aH,aa,seval,iteOmega,toNatUp] <;> rfl
  ·intro k hk;have hl:=px s k;by_cases hlt:k<(n.toNat+31) / 32
   ·have hc:((fJ s k).length:Int)<n:=by omega
    have hj:=D4 G [al s 8,al k 4] (by simp) (by simp[bp]);have hf:[al s 8,al k 4].flatten=al s 8++al k 4:=by simp
    rw[hf] at hj;have hb:=yC s k;have hk2:IntKind.u64.wrap (k:Int)=(k:Int):=u64_in _ (by omega) (by omega);simp only[pq,rY,wx,wy,aa,seval,iteOmega,toNatUp,hw,hk2];refine bE (qD G s 8 (by decide)) rfl (.inl rfl) ?_;simp only[wx,wy,aa,seval,iteOmega,toNatUp,hw,hk2];refine bE (qD G k 4 (by decide)) rfl (.inl rfl) ?_;simp only[wx,wy,aa,seval,iteOmega,toNatUp];refine bE hj rfl (.inl rfl) ?_;simp only[wx,wy,aa,seval,iteOmega,toNatUp];refine bE (Sv G (al s 8++al k 4) (by simp[bp])) rfl (.inl rfl) ?_;have hh:(lz (al s 8++al k 4)).length=32:=CL _;have hb':fJ s k++lz (al s 8++al k 4)=fJ s (k+1):=hb;simp only[ae,aa,seval,iteOmega,toNatUp,ct,ji,hb',hh];refine br (k+1) (by omega) (by omega) (aG (fun _=>192) ?_ ?_ rfl rfl) <;> simp only[wx,aw,aH,aa,seval,iteOmega,toNatUp]
   ·obtain rfl:k=(n.toNat+31) / 32:=by omega
    have hc:¬ ((fJ s ((n.toNat+31) / 32)).length:Int)<n:=by omega
    by_cases h0:n<0
    ·have e0:n.toNat=0:=by omega
     simp only[pq,rY,ae,aa,seval,iteOmega,toNatUp,hc,VD,Wl];rw[e0,List.map_take];exact BM (id:=1) (s:=1) (by simp only[wx,aa,seval,iteOmega,toNatUp]) (by simp only[wx,aa,seval,iteOmega,toNatUp]) (UR _)
    ·simp only[pq,rY,ae,aa,seval,iteOmega,toNatUp,hc,VD,Wl];rw[List.map_take];exact BM (id:=1) (s:=1) (by simp only[wx,aa,seval,iteOmega,toNatUp]) (by simp only[wx,aa,seval,iteOmega,toNatUp]) (by rw[UQ,px]; omega)
theorem qo (G:aj) (seed n:Int) (hn:n≤1099511627776):ar Try.prog G 10 [.int .i64 seed,.int .i64 n] (.w (.c (.d (.sl ((cY seed n).map bD))))):=j5 (Na G seed n hn)
def pk (f:Nat→Nat):Nat→Nat
  | 0=>0
  | L+1=>2^(64*L)*f L+pk f L
theorem Ix {f:Nat→Nat} (hf:∀ s,f s<2^64):∀ L,pk f L<2^(64*L)
  | 0=>by simp[pk]
  | L+1=>by
    have ih:=Ix hf L;have h:=hf L;have e:2^(64*(L+1))=2^(64*L)*2^64:=by rw[← Nat.pow_add]; congr 1
    have:2^(64*L)*f L+2^(64*L)≤2^(64*L)*2^64:=by
      rw[← Nat.mul_succ]; exact Nat.mul_le_mul_left _ h
    rw[pk,e]; omega
theorem fK {f:Nat→Nat} (hf:∀ s,f s<2^64):∀ (L j:Nat),(pk f L).testBit j=(decide (j / 64<L)&&(f (j / 64)).testBit (j%64))
  | 0,j=>by simp[pk]
  | L+1,j=>by
    rw[pk,Nat.testBit_two_pow_mul_add _ (Ix hf L)];by_cases h:j<64*L
    ·rw[if_pos h,fK hf L j];rw[decide_eq_true (show j / 64<L by omega),decide_eq_true (show j / 64<L+1 by omega)]
    ·rw[if_neg h];by_cases h2:j / 64=L
     ·rw[h2,decide_eq_true (Nat.lt_succ_self L),Wi]
      congr 1; omega
     ·rw[decide_eq_false (show ¬ j / 64<L+1 by omega),Bool.false_and];refine Nat.testBit_lt_two_pow (Nat.lt_of_lt_of_le (hf L) (Nat.pow_le_pow_right (by decide) (by omega)))
theorem eG {f g:Nat→Nat}:∀ {L:Nat},(∀ s,s<L→f s=g s)→pk f L=pk g L
  | 0,_=>rfl
  | L+1,h=>by rw[pk,pk,h L (Nat.lt_succ_self L),eG fun s hs=>h s (by omega)]
theorem fL (f g:Nat→Nat):∀ L,Nat.add (pk f L) (pk g L)=pk (fun s=>Nat.add (f s) (g s)) L
  | 0=>rfl
  | L+1=>by
    have ih:=fL f g L
    show (2^(64*L)*f L+pk f L)+(2^(64*L)*g L+pk g L)=2^(64*L)*(f L+g L)+pk _ L
    rw[← ih,Nat.mul_add]
    show _=_+(pk f L+pk g L)
    omega
theorem wP (f:Nat→Nat) (c:Nat):∀ L,Nat.mul (pk f L) c=pk (fun s=>Nat.mul (f s) c) L
  | 0=>V6 c
  | L+1=>by
    have ih:=wP f c L
    show (2^(64*L)*f L+pk f L)*c=2^(64*L)*(f L*c)+pk _ L
    rw[← ih,U8,Nat.mul_assoc]; rfl
theorem qR (f:Nat→Nat) (c L:Nat):Nat.mul c (pk f L)=pk (fun s=>Nat.mul c (f s)) L:=by
  show c*pk f L=_
  rw[V5];refine (wP f c L).trans (eG fun s _=>V5 _ _)
theorem uW {a b:Nat} (ha:a<2^64) (hb:b<2^64):Nat.xor a b<2^64:=Nat.xor_lt_two_pow ha hb
theorem qp {a b:Nat} (ha:a<2^64):Nat.land a b<2^64:=VS Nat.and_le_left ha
theorem nY {f g:Nat→Nat} (hf:∀ s,f s<2^64) (hg:∀ s,g s<2^64) (L:Nat):Nat.xor (pk f L) (pk g L)=pk (fun s=>Nat.xor (f s) (g s)) L:=by
  show pk f L ^^^ pk g L=_
  refine Nat.eq_of_testBit_eq fun j=>?_
  rw[Vr,fK hf,fK hg,fK (fun s=>uW (hf s) (hg s))]
  show _=(_&&(f (j / 64) ^^^ g (j / 64)).testBit _)
  rw[Vr];cases decide (j / 64<L) <;> simp
theorem ru {f g:Nat→Nat} (hf:∀ s,f s<2^64) (hg:∀ s,g s<2^64) (L:Nat):Nat.land (pk f L) (pk g L)=pk (fun s=>Nat.land (f s) (g s)) L:=by
  show pk f L &&& pk g L=_
  refine Nat.eq_of_testBit_eq fun j=>?_
  rw[Nat.testBit_and,fK hf,fK hg,fK (fun s=>qp (hf s))]
  show _=(_&&(f (j / 64) &&& g (j / 64)).testBit _)
  rw[Nat.testBit_and];cases decide (j / 64<L) <;> simp
def hO:Nat:=4294967295
theorem nL (j:Nat):hO.testBit j=decide (j<32):=Nat.testBit_two_pow_sub_one 32 j
theorem m64 (s:Nat):(fun _:Nat=>hO) s<2^64:=by show hO<_; decide
def kJ (m x y:Nat) (a b c:Nat):Nat:=Nat.land (Nat.xor (Nat.xor (Nat.shiftRight x a) (Nat.shiftRight x b)) (Nat.shiftRight y c)) m
theorem mb (m x y a b c j:Nat):(kJ m x y a b c).testBit j=((((x.testBit (a+j)) ^^ (x.testBit (b+j))) ^^ (y.testBit (c+j)))&&m.testBit j):=by
  show (((x >>> a ^^^ x >>> b) ^^^ y >>> c) &&& m).testBit j=_
  simp only[Nat.testBit_and,Vr,Nat.testBit_shiftRight]
theorem nZ (x y a b c:Nat):kJ hO x y a b c<2^32:=VS Nat.and_le_right (by decide)
theorem rv {f g:Nat→Nat} (hf:∀ s,f s<2^64) (hg:∀ s,g s<2^64) {a b c:Nat} (ha:a≤32) (hb:b≤32) (hc:c≤32) (L:Nat):kJ (pk (fun _=>hO) L) (pk f L) (pk g L) a b c=pk (fun s=>kJ hO (f s) (g s) a b c) L:=by
  refine Nat.eq_of_testBit_eq fun j=>?_
  rw[mb,fK hf,fK hf,fK hg,fK m64,fK (fun s=>Nat.lt_trans (nZ _ _ _ _ _) (by decide)),mb,nL];by_cases h:j%64<32
  ·rw[show (a+j) / 64=j / 64 by omega,show (b+j) / 64=j / 64 by omega,show (c+j) / 64=j / 64 by omega,show (a+j)%64=a+j%64 by omega,show (b+j)%64=b+j%64 by omega,show (c+j)%64=c+j%64 by omega];cases decide (j / 64<L) <;> simp
  ·rw[decide_eq_false h]; simp
def gU (x:Nat):Nat:=Nat.mul x 4294967297
def pc (m x:Nat):Nat:=kJ m (gU x) (gU x) 6 11 25
def pd (m x:Nat):Nat:=kJ m (gU x) (gU x) 2 13 22
def pf (m x:Nat):Nat:=kJ m (gU x) x 7 18 3
def pg (m x:Nat):Nat:=kJ m (gU x) x 17 19 10
def sV (e f g:Nat):Nat:=Nat.xor g (Nat.land e (Nat.xor f g))
def sW (a b c:Nat):Nat:=Nat.xor (Nat.land a (Nat.xor b c)) (Nat.land b c)
theorem PQ {x:Nat} (hx:x<2^32) (j:Nat):(gU x).testBit j=if j<32 then x.testBit j else x.testBit (j-32):=by
  have e:gU x=2^32*x+x:=by show x*4294967297=_; omega
  rw[e,Nat.testBit_two_pow_mul_add _ hx]
theorem wQ {x:Nat} (hx:x<2^32) {j:Nat} (h:32≤j):x.testBit j=false:=Nat.testBit_lt_two_pow (Nat.lt_of_lt_of_le hx (Nat.pow_le_pow_right (by decide) h))
theorem iL (x:UInt32) {r:Nat} (h0:0<r) (h:r<32) {j:Nat} (hj:j<32):(gm x r).toNat.testBit j=(gU x.toNat).testBit (r+j):=by
  have hx:x.toNat<2^32:=x.toNat_lt;rw[PQ hx];unfold gm jP jC iW;rw[UInt32.toNat_or,UInt32.toNat_ofNat',UInt32.toNat_ofNat',Nat.testBit_or,Nat.testBit_mod_two_pow,Nat.testBit_mod_two_pow,decide_eq_true hj,Wi,Wi,Nat.testBit_div_two_pow,V5,Nat.testBit_two_pow_mul];by_cases hr:r+j<32
  ·rw[if_pos hr,decide_eq_false (show ¬ j≥32-r by omega),Nat.add_comm]; simp
  ·rw[if_neg hr,decide_eq_true (show j≥32-r by omega),Wi,wQ hx (by omega),Bool.false_or]
   congr 1; omega
theorem E1 (x:UInt32) {r j:Nat} (hj:j<32):(jC x r).toNat.testBit j=x.toNat.testBit (r+j):=by
  unfold jC;rw[UInt32.toNat_ofNat',Nat.testBit_mod_two_pow,decide_eq_true hj,Wi,Nat.testBit_div_two_pow,Nat.add_comm]
theorem ml {x:Nat} {y:UInt32} (h:∀ j,j<32→x.testBit j=y.toNat.testBit j) (hx:x<2^32):x=y.toNat:=by
  refine Nat.eq_of_testBit_eq fun j=>?_
  by_cases hj:j<32
  ·exact h j hj
  ·rw[wQ hx (by omega),wQ y.toNat_lt (by omega)]
theorem TS (x:UInt32):pc hO x.toNat=(i6 x).toNat:=by
  refine ml (fun j hj=>?_) (nZ _ _ _ _ _);unfold pc i6 dA;rw[mb,UInt32.toNat_xor,UInt32.toNat_xor,Vr,Vr,iL x (by decide) (by decide) hj,iL x (by decide) (by decide) hj,iL x (by decide) (by decide) hj,nL,decide_eq_true hj,Wh]
theorem TT (x:UInt32):pd hO x.toNat=(jK x).toNat:=by
  refine ml (fun j hj=>?_) (nZ _ _ _ _ _);unfold pd jK dA;rw[mb,UInt32.toNat_xor,UInt32.toNat_xor,Vr,Vr,iL x (by decide) (by decide) hj,iL x (by decide) (by decide) hj,iL x (by decide) (by decide) hj,nL,decide_eq_true hj,Wh]
theorem TU (x:UInt32):pf hO x.toNat=(jn x).toNat:=by
  refine ml (fun j hj=>?_) (nZ _ _ _ _ _);unfold pf jn dA;rw[mb,UInt32.toNat_xor,UInt32.toNat_xor,Vr,Vr,iL x (by decide) (by decide) hj,iL x (by decide) (by decide) hj,E1 x hj,nL,decide_eq_true hj,Wh]
theorem TV (x:UInt32):pg hO x.toNat=(jo x).toNat:=by
  refine ml (fun j hj=>?_) (nZ _ _ _ _ _);unfold pg jo dA;rw[mb,UInt32.toNat_xor,UInt32.toNat_xor,Vr,Vr,iL x (by decide) (by decide) hj,iL x (by decide) (by decide) hj,E1 x hj,nL,decide_eq_true hj,Wh]
theorem PR (x:UInt32) {j:Nat} (hj:j<32):(mN x).toNat.testBit j=!x.toNat.testBit j:=by
  have h:=x.toNat_lt;unfold mN;rw[UInt32.toNat_ofNat_of_lt' (by simp[UInt32.size]; omega),show 4294967295-x.toNat=2^32-(x.toNat+1) by omega,Nat.testBit_two_pow_sub_succ h,decide_eq_true hj,Wi]
theorem TW (e f g:UInt32):sV e.toNat f.toNat g.toNat=(jb e f g).toNat:=by
  have he:e.toNat<2^32:=e.toNat_lt;have hf:f.toNat<2^32:=f.toNat_lt;have hg:g.toNat<2^32:=g.toNat_lt;refine ml (fun j hj=>?_) (Nat.xor_lt_two_pow hg (VS Nat.and_le_left he))
  show (g.toNat ^^^ (e.toNat &&& (f.toNat ^^^ g.toNat))).testBit j=_
  unfold jb dA iV;rw[UInt32.toNat_xor,UInt32.toNat_and,UInt32.toNat_and];simp only[Vr,Nat.testBit_and,PR e hj];cases e.toNat.testBit j <;> cases f.toNat.testBit j <;> cases g.toNat.testBit j <;> rfl
theorem TX (a b c:UInt32):sW a.toNat b.toNat c.toNat=(jL a b c).toNat:=by
  have ha:a.toNat<2^32:=a.toNat_lt;have hb:b.toNat<2^32:=b.toNat_lt;refine ml (fun j hj=>?_) (Nat.xor_lt_two_pow (VS Nat.and_le_left ha) (VS Nat.and_le_left hb))
  show ((a.toNat &&& (b.toNat ^^^ c.toNat)) ^^^ (b.toNat &&& c.toNat)).testBit j=_
  unfold jL dA iV;simp only[UInt32.toNat_xor,UInt32.toNat_and,Vr,Nat.testBit_and];cases a.toNat.testBit j <;> cases b.toNat.testBit j <;> cases c.toNat.testBit j <;> rfl
structure E8 where
  (a b c d e f g h:Nat)
def kN:List Nat:=[0x428a2f98,0x71374491,0xb5c0fbcf,0xe9b5dba5,0x3956c25b,0x59f111f1,0x923f82a4,0xab1c5ed5,0xd807aa98,0x12835b01,0x243185be,0x550c7dc3,0x72be5d74,0x80deb1fe,0x9bdc06a7,0xc19bf174,0xe49b69c1,0xefbe4786,0x0fc19dc6,0x240ca1cc,0x2de92c6f,0x4a7484aa,0x5cb0a9dc,0x76f988da,0x983e5152,0xa831c66d,0xb00327c8,0xbf597fc7,0xc6e00bf3,0xd5a79147,0x06ca6351,0x14292967,0x27b70a85,0x2e1b2138,0x4d2c6dfc,0x53380d13,0x650a7354,0x766a0abb,0x81c2c92e,0x92722c85,0xa2bfe8a1,0xa81a664b,0xc24b8b70,0xc76c51a3,0xd192e819,0xd6990624,0xf40e3585,0x106aa070,0x19a4c116,0x1e376c08,0x2748774c,0x34b0bcb5,0x391c0cb3,0x4ed8aa4a,0x5b9cca4f,0x682e6ff3,0x748f82ee,0x78a5636f,0x84c87814,0x8cc70208,0x90befffa,0xa4506ceb,0xbef9a3f7,0xc67178f2]
theorem TY:kN=cB.map UInt32.toNat:=by decide
noncomputable def oJ (T:Nat→Nat→Nat→Nat→Nat→Nat→Nat) (A:Nat→Nat→Nat→Nat→Nat) (E:Nat→Nat→Nat) (N:Nat→Nat→Nat→Nat→Nat) (ks:List Nat):Nat→Nat→Nat→Nat→Nat→Nat→Nat→Nat→Nat→Nat→Nat→Nat→Nat→Nat→Nat→Nat→Nat→Nat→Nat→Nat→Nat→Nat→Nat→Nat→E8 :=
  @List.rec Nat (fun _=>Nat→Nat→Nat→Nat→Nat→Nat→Nat→Nat→Nat→Nat→Nat→Nat→Nat→Nat→Nat→Nat→Nat→Nat→Nat→Nat→Nat→Nat→Nat→Nat→E8)
    (fun a b c d e f g h _ _ _ _ _ _ _ _ _ _ _ _ _ _ _ _=>E8.mk a b c d e f g h)
    (fun k _ ih a b c d e f g h w0 w1 w2 w3 w4 w5 w6 w7 w8 w9 w10 w11 w12 w13 w14 w15=>(fun t1=>ih (A t1 a b c) a b c (E d t1) e f g w1 w2 w3 w4 w5 w6 w7 w8 w9 w10 w11 w12 w13 w14 w15 (N w0 w1 w9 w14)) (T k h w0 e f g)) ks
section
variable (T:Nat→Nat→Nat→Nat→Nat→Nat→Nat) (A:Nat→Nat→Nat→Nat→Nat) (E:Nat→Nat→Nat) (N:Nat→Nat→Nat→Nat→Nat) (a b c d e f g h w0 w1 w2 w3 w4 w5 w6 w7 w8 w9 w10 w11 w12 w13 w14 w15:Nat)
theorem La (k:Nat) (ks:List Nat):oJ T A E N (k::ks) a b c d e f g h w0 w1 w2 w3 w4 w5 w6 w7 w8 w9 w10 w11 w12 w13 w14 w15=oJ T A E N ks (A (T k h w0 e f g) a b c) a b c (E d (T k h w0 e f g)) e f g w1 w2 w3 w4 w5 w6 w7 w8 w9 w10 w11 w12 w13 w14 w15 (N w0 w1 w9 w14):=rfl
end
def TN (one m k h w e f g:Nat):Nat:=Nat.add (Nat.add h (Nat.add w (Nat.mul k one))) (Nat.add (pc m e) (sV e f g))
def AN (m t a b c:Nat):Nat:=Nat.land (Nat.add t (Nat.add (pd m a) (sW a b c))) m
def EN (m d t:Nat):Nat:=Nat.land (Nat.add d t) m
def NN (m w0 w1 w9 w14:Nat):Nat:=Nat.land (Nat.add (Nat.add w0 (pf m w1)) (Nat.add w9 (pg m w14))) m
noncomputable def xP (P:Nat→Nat→Nat) (s t:E8):E8 :=
  E8.rec (fun a b c d e f g h=>E8.rec (fun a' b' c' d' e' f' g' h'=>E8.mk (P a a') (P b b') (P c c') (P d d') (P e e') (P f f') (P g g') (P h h')) t) s
theorem PS (P:Nat→Nat→Nat) (a b c d e f g h a' b' c' d' e' f' g' h':Nat):xP P (E8.mk a b c d e f g h) (E8.mk a' b' c' d' e' f' g' h')=E8.mk (P a a') (P b b') (P c c') (P d d') (P e e') (P f f') (P g g') (P h h'):=rfl
noncomputable def IV (T:Nat→Nat→Nat→Nat→Nat→Nat→Nat) (A:Nat→Nat→Nat→Nat→Nat) (E:Nat→Nat→Nat) (N:Nat→Nat→Nat→Nat→Nat) (ks:List Nat) (s:E8) (w0 w1 w2 w3 w4 w5 w6 w7 w8 w9 w10 w11 w12 w13 w14 w15:Nat):E8 :=
  E8.rec (fun a b c d e f g h=>oJ T A E N ks a b c d e f g h w0 w1 w2 w3 w4 w5 w6 w7 w8 w9 w10 w11 w12 w13 w14 w15) s
theorem PT (T:Nat→Nat→Nat→Nat→Nat→Nat→Nat) (A:Nat→Nat→Nat→Nat→Nat) (E:Nat→Nat→Nat) (N:Nat→Nat→Nat→Nat→Nat) (ks:List Nat) (a b c d e f g h w0 w1 w2 w3 w4 w5 w6 w7 w8 w9 w10 w11 w12 w13 w14 w15:Nat):IV T A E N ks (E8.mk a b c d e f g h) w0 w1 w2 w3 w4 w5 w6 w7 w8 w9 w10 w11 w12 w13 w14 w15=oJ T A E N ks a b c d e f g h w0 w1 w2 w3 w4 w5 w6 w7 w8 w9 w10 w11 w12 w13 w14 w15:=rfl
noncomputable def xQ (one m:Nat) (s:E8) (w0 w1 w2 w3 w4 w5 w6 w7 w8 w9 w10 w11 w12 w13 w14 w15:Nat):E8:=xP (EN m) s (IV (TN one m) (AN m) (EN m) (NN m) kN s w0 w1 w2 w3 w4 w5 w6 w7 w8 w9 w10 w11 w12 w13 w14 w15)
def pw (x:Nat→UInt32) (L:Nat):Nat:=pk (fun s=>(x s).toNat) L
abbrev dU (L:Nat):Nat:=pk (fun _=>1) L
abbrev eh (L:Nat):Nat:=pk (fun _=>hO) L
theorem dZ (x:UInt32):x.toNat<2^64:=Nat.lt_trans x.toNat_lt (by decide)
theorem mG (x:UInt32):gU x.toNat<2^64:=by
  have:=x.toNat_lt
  show x.toNat*4294967297<_
  omega
theorem rx (x:Nat→UInt32) (L:Nat):gU (pw x L)=pk (fun s=>gU (x s).toNat) L:=wP _ _ _
theorem Sz (x:Nat→UInt32) (L:Nat):pc (eh L) (pw x L)=pw (fun s=>i6 (x s)) L:=by
  unfold pc;rw[rx,rv (fun s=>mG _) (fun s=>mG _) (by decide) (by decide) (by decide)];exact eG fun s _=>TS (x s)
theorem SA (x:Nat→UInt32) (L:Nat):pd (eh L) (pw x L)=pw (fun s=>jK (x s)) L:=by
  unfold pd;rw[rx,rv (fun s=>mG _) (fun s=>mG _) (by decide) (by decide) (by decide)];exact eG fun s _=>TT (x s)
theorem SB (x:Nat→UInt32) (L:Nat):pf (eh L) (pw x L)=pw (fun s=>jn (x s)) L:=by
  unfold pf;rw[rx];unfold pw;rw[rv (fun s=>mG _) (fun s=>dZ _) (by decide) (by decide) (by decide)];exact eG fun s _=>TU (x s)
theorem SC (x:Nat→UInt32) (L:Nat):pg (eh L) (pw x L)=pw (fun s=>jo (x s)) L:=by
  unfold pg;rw[rx];unfold pw;rw[rv (fun s=>mG _) (fun s=>dZ _) (by decide) (by decide) (by decide)];exact eG fun s _=>TV (x s)
theorem SD (e f g:Nat→UInt32) (L:Nat):sV (pw e L) (pw f L) (pw g L)=pw (fun s=>jb (e s) (f s) (g s)) L:=by
  unfold sV pw;rw[nY (fun s=>dZ _) (fun s=>dZ _),ru (fun s=>dZ _) (fun s=>uW (dZ _) (dZ _)),nY (fun s=>dZ _) (fun s=>qp (dZ _))];exact eG fun s _=>TW (e s) (f s) (g s)
theorem SE (a b c:Nat→UInt32) (L:Nat):sW (pw a L) (pw b L) (pw c L)=pw (fun s=>jL (a s) (b s) (c s)) L:=by
  unfold sW pw;rw[nY (fun s=>dZ _) (fun s=>dZ _),ru (fun s=>dZ _) (fun s=>uW (dZ _) (dZ _)),ru (fun s=>dZ _) (fun s=>dZ _),nY (fun s=>qp (dZ _)) (fun s=>qp (dZ _))];exact eG fun s _=>TX (a s) (b s) (c s)
theorem Nb (x:Nat):Nat.land x hO=x%4294967296:=Nat.and_two_pow_sub_one_eq_mod x 32
theorem ry {f:Nat→Nat} (hf:∀ s,f s<2^64) (L:Nat):Nat.land (pk f L) (eh L)=pk (fun s=>f s%4294967296) L:=by
  rw[ru hf m64];exact eG fun s _=>Nb (f s)
def iE (S:bi) (k w:UInt32):Nat:=(S.h.toNat+(w.toNat+k.toNat))+((i6 S.e).toNat+(jb S.e S.f S.g).toNat)
theorem TZ (S:Nat→bi) (k:UInt32) (w:Nat→UInt32) (L:Nat):TN (dU L) (eh L) k.toNat (pw (fun s=>(S s).h) L) (pw w L) (pw (fun s=>(S s).e) L) (pw (fun s=>(S s).f) L) (pw (fun s=>(S s).g) L)=pk (fun s=>iE (S s) k (w s)) L:=by
  unfold TN;rw[Sz,SD,qR];unfold pw;rw[fL,fL,fL,fL];refine eG fun s _=>?_
  show ((S s).h.toNat+((w s).toNat+k.toNat*1))+_=_
  rw[VT]; rfl
theorem Iy (S:bi) (k w:UInt32):iE S k w<21474836480:=by
  have h1:=S.h.toNat_lt;have h2:=w.toNat_lt;have h3:=k.toNat_lt;have h4:=(i6 S.e).toNat_lt;have h5:=(jb S.e S.f S.g).toNat_lt;unfold iE;omega
theorem T1 (S:bi) (k w:UInt32):(iE S k w+((jK S.a).toNat+(jL S.a S.b S.c).toNat))%4294967296=(S.step k w).a.toNat:=by
  show _=(aX (aX (aX (aX (aX S.h (i6 S.e)) (jb S.e S.f S.g)) k) w) (aX (jK S.a) (jL S.a S.b S.c))).toNat
  unfold iE aX;simp only[UInt32.toNat_add];omega
theorem T2 (S:bi) (k w:UInt32):(S.d.toNat+iE S k w)%4294967296=(S.step k w).e.toNat:=by
  show _=(aX S.d (aX (aX (aX (aX S.h (i6 S.e)) (jb S.e S.f S.g)) k) w)).toNat
  unfold iE aX;simp only[UInt32.toNat_add];omega
theorem PU (S:Nat→bi) (k:UInt32) (w:Nat→UInt32) (L:Nat):AN (eh L) (pk (fun s=>iE (S s) k (w s)) L) (pw (fun s=>(S s).a) L) (pw (fun s=>(S s).b) L) (pw (fun s=>(S s).c) L)=pw (fun s=>((S s).step k (w s)).a) L:=by
  unfold AN;rw[SA,SE];unfold pw;rw[fL,fL,ry]
  ·exact eG fun s _=>T1 (S s) k (w s)
  ·intro s;have h1:=Iy (S s) k (w s);have h2:=(jK (S s).a).toNat_lt;have h3:=(jL (S s).a (S s).b (S s).c).toNat_lt
   show iE (S s) k (w s)+((jK (S s).a).toNat+(jL (S s).a (S s).b (S s).c).toNat)<_
   omega
theorem PV (S:Nat→bi) (k:UInt32) (w:Nat→UInt32) (L:Nat):EN (eh L) (pw (fun s=>(S s).d) L) (pk (fun s=>iE (S s) k (w s)) L)=pw (fun s=>((S s).step k (w s)).e) L:=by
  unfold EN pw;rw[fL,ry]
  ·exact eG fun s _=>T2 (S s) k (w s)
  ·intro s;have h1:=Iy (S s) k (w s);have h2:=(S s).d.toNat_lt
   show (S s).d.toNat+iE (S s) k (w s)<_
   omega
def lB (w0 w1 w9 w14:UInt32):UInt32:=aX (aX (aX (jo w14) w9) (jn w1)) w0
theorem T3 (w0 w1 w9 w14:UInt32):((w0.toNat+(jn w1).toNat)+(w9.toNat+(jo w14).toNat))%4294967296=(lB w0 w1 w9 w14).toNat:=by
  unfold lB aX;simp only[UInt32.toNat_add];omega
theorem PW (w0 w1 w9 w14:Nat→UInt32) (L:Nat):NN (eh L) (pw w0 L) (pw w1 L) (pw w9 L) (pw w14 L)=pw (fun s=>lB (w0 s) (w1 s) (w9 s) (w14 s)) L:=by
  unfold NN;rw[SB,SC];unfold pw;rw[fL,fL,fL,ry]
  ·exact eG fun s _=>T3 _ _ _ _
  ·intro s;have h1:=(w0 s).toNat_lt;have h2:=(jn (w1 s)).toNat_lt;have h3:=(w9 s).toNat_lt;have h4:=(jo (w14 s)).toNat_lt
   show ((w0 s).toNat+(jn (w1 s)).toNat)+((w9 s).toNat+(jo (w14 s)).toNat)<_
   omega
def eo:bi→List UInt32→(Nat→UInt32)→bi
  | S,[],_=>S
  | S,k::ks,w=>eo (S.step k (w 0)) ks (fun t=>w (t+1))
theorem Hy (L:Nat):∀ (ks:List UInt32) (S:Nat→bi) (W:Nat→Nat→UInt32),(∀ t s,W (t+16) s=lB (W t s) (W (t+1) s) (W (t+9) s) (W (t+14) s)) →
    oJ (TN (dU L) (eh L)) (AN (eh L)) (EN (eh L)) (NN (eh L)) (ks.map UInt32.toNat) (pw (fun s=>(S s).a) L) (pw (fun s=>(S s).b) L) (pw (fun s=>(S s).c) L) (pw (fun s=>(S s).d) L) (pw (fun s=>(S s).e) L) (pw (fun s=>(S s).f) L) (pw (fun s=>(S s).g) L) (pw (fun s=>(S s).h) L) (pw (W 0) L) (pw (W 1) L) (pw (W 2) L) (pw (W 3) L) (pw (W 4) L) (pw (W 5) L) (pw (W 6) L) (pw (W 7) L) (pw (W 8) L) (pw (W 9) L) (pw (W 10) L) (pw (W 11) L) (pw (W 12) L) (pw (W 13) L) (pw (W 14) L) (pw (W 15) L)=E8.mk (pw (fun s=>(eo (S s) ks (fun t=>W t s)).a) L) (pw (fun s=>(eo (S s) ks (fun t=>W t s)).b) L) (pw (fun s=>(eo (S s) ks (fun t=>W t s)).c) L) (pw (fun s=>(eo (S s) ks (fun t=>W t s)).d) L) (pw (fun s=>(eo (S s) ks (fun t=>W t s)).e) L) (pw (fun s=>(eo (S s) ks (fun t=>W t s)).f) L) (pw (fun s=>(eo (S s) ks (fun t=>W t s)).g) L) (pw (fun s=>(eo (S s) ks (fun t=>W t s)).h) L)
  | [],_,_,_=>rfl
  | k::ks,S,W,hW=>by
    have e0:=TZ S k (W 0) L;have e1:=PU S k (W 0) L;have e2:=PV S k (W 0) L;have e3:=PW (W 0) (W 1) (W 9) (W 14) L;have e4:(fun s=>lB (W 0 s) (W 1 s) (W 9 s) (W 14 s))=W 16:=funext fun s=>(hW 0 s).symm
    rw[e4] at e3;have ih:=Hy L ks (fun s=>(S s).step k (W 0 s)) (fun t=>W (t+1)) (fun t s=>hW (t+1) s);rw[UE,La,e0,e1,e2,e3];exact ih
theorem yD (k:UInt32):∀ (ks:List UInt32) (S:bi) (w:Nat→UInt32),eo S (ks++[k]) w=(eo S ks w).step k (w ks.length)
  | [],_,_=>rfl
  | _::ks,S,w=>yD k ks (S.step _ (w 0)) (fun t=>w (t+1))
theorem yj:∀ (ks:List UInt32) (S:bi) (w v:Nat→UInt32),(∀ t,t<ks.length→w t=v t)→eo S ks w=eo S ks v
  | [],_,_,_,_=>rfl
  | k::ks,S,w,v,h=>by
    rw[eo,eo,h 0 (by simp)];exact yj ks _ _ _ fun t ht=>h (t+1) (by simpa using ht)
theorem yk (S:bi) (ks w:List UInt32):∀ n,n≤ks.length→S.rounds ks w n=eo S (ks.take n) (fun t=>w.getD t 0)
  | 0,_=>rfl
  | n+1,h=>by
    rw[bi.rounds,yk S ks w n (by omega),Vu (by omega),yD,UI,VP (by omega),UD,UB (by omega)];rfl
theorem qq (b:List UInt8):∀ n,(bY b n).length=16+n
  | 0=>by unfold bY gI; simp
  | n+1=>by rw[bY,UF,qq b n]; rfl
theorem uh (b:List UInt8) {j:Nat}:∀ (n d:Nat),j<16+n→(bY b (n+d)).getD j 0=(bY b n).getD j 0
  | _,0,_=>rfl
  | n,d+1,h=>by
    rw[← We,bY,UD,Vk (by rw[qq]; omega),← UD,uh b n d h]
theorem lS (b:List UInt8) {j m n:Nat} (h1:j<16+m) (h2:j<16+n):(bY b m).getD j 0=(bY b n).getD j 0:=by
  rcases Nat.le_total m n with h | h
  ·obtain⟨d,rfl⟩:=Nat.exists_eq_add_of_le h;exact (uh b m d h1).symm
  ·obtain⟨d,rfl⟩:=Nat.exists_eq_add_of_le h;exact uh b n d h2
def wS (b:List UInt8) (t:Nat):UInt32:=(bY b t).getD t 0
theorem SF (b:List UInt8) (t:Nat):wS b (t+16)=lB (wS b t) (wS b (t+1)) (wS b (t+9)) (wS b (t+14)):=by
  have e:bY b (t+1)=bY b t++[ln (bY b t) (16+t)]:=rfl;have key:(bY b (t+1)).getD (t+16) 0=ln (bY b t) (16+t):=by
    rw[e,UD,Vm (by rw[qq]; omega),qq,show t+16-(16+t)=0 by omega]; rfl
  unfold wS;rw[lS b (show t+16<16+(t+16) by omega) (show t+16<16+(t+1) by omega),key];unfold ln lB;rw[show 16+t-2=t+14 by omega,show 16+t-7=t+9 by omega,show 16+t-15=t+1 by omega,show 16+t-16=t by omega];rw[lS b (show t+14<16+t by omega) (show t+14<16+(t+14) by omega),lS b (show t+9<16+t by omega) (show t+9<16+(t+9) by omega),lS b (show t+1<16+t by omega) (show t+1<16+(t+1) by omega)]
theorem T4 (b:List UInt8) {t:Nat} (h:t<16):wS b t=bR b t:=by
  unfold wS;rw[lS b (show t<16+t by omega) (show t<16+0 by omega)];unfold bY gI;rw[UD,VC,List.getElem?_range h]; rfl
theorem Jt (h:List UInt32) (b:List UInt8):(bi.of h).rounds cB (fP b) 64=eo (bi.of h) cB (wS b):=by
  rw[yk _ _ _ 64 (by rw[pu]; omega)];have e:cB.take 64=cB:=UG (by rw[pu]; omega);rw[e];refine yj _ _ _ _ fun t ht=>?_
  rw[pu] at ht
  show (bY b 48).getD t 0=(bY b t).getD t 0
  exact lS b (by omega) (by omega)
def lG (H:Nat→List UInt32) (L:Nat):E8:=E8.mk (pw (fun s=>(H s).getD 0 0) L) (pw (fun s=>(H s).getD 1 0) L) (pw (fun s=>(H s).getD 2 0) L) (pw (fun s=>(H s).getD 3 0) L) (pw (fun s=>(H s).getD 4 0) L) (pw (fun s=>(H s).getD 5 0) L) (pw (fun s=>(H s).getD 6 0) L) (pw (fun s=>(H s).getD 7 0) L)
theorem SG (x y:Nat→UInt32) (L:Nat):EN (eh L) (pw x L) (pw y L)=pw (fun s=>aX (x s) (y s)) L:=by
  unfold EN pw;rw[fL,ry]
  ·refine eG fun s _=>?_
   unfold aX;rw[UInt32.toNat_add]; rfl
  ·intro s;have h1:=(x s).toNat_lt;have h2:=(y s).toNat_lt
   show (x s).toNat+(y s).toNat<_
   omega
theorem SH (H:Nat→List UInt32) (b:Nat→List UInt8) (L:Nat):xQ (dU L) (eh L) (lG H L) (pw (fun s=>bR (b s) 0) L) (pw (fun s=>bR (b s) 1) L) (pw (fun s=>bR (b s) 2) L) (pw (fun s=>bR (b s) 3) L) (pw (fun s=>bR (b s) 4) L) (pw (fun s=>bR (b s) 5) L) (pw (fun s=>bR (b s) 6) L) (pw (fun s=>bR (b s) 7) L) (pw (fun s=>bR (b s) 8) L) (pw (fun s=>bR (b s) 9) L) (pw (fun s=>bR (b s) 10) L) (pw (fun s=>bR (b s) 11) L) (pw (fun s=>bR (b s) 12) L) (pw (fun s=>bR (b s) 13) L) (pw (fun s=>bR (b s) 14) L) (pw (fun s=>bR (b s) 15) L)=lG (fun s=>j9 (H s) (b s)) L:=by
  have hw:∀ t,t<16→(fun s=>bR (b s) t)=(fun s=>wS (b s) t):=fun t ht=>funext fun s=>(T4 (b s) ht).symm
  rw[hw 0 (by decide),hw 1 (by decide),hw 2 (by decide),hw 3 (by decide),hw 4 (by decide),hw 5 (by decide),hw 6 (by decide),hw 7 (by decide),hw 8 (by decide),hw 9 (by decide),hw 10 (by decide),hw 11 (by decide),hw 12 (by decide),hw 13 (by decide),hw 14 (by decide),hw 15 (by decide)];have hr:=Hy L cB (fun s=>bi.of (H s)) (fun t s=>wS (b s) t) (fun t s=>SF (b s) t);unfold xQ lG;rw[PT,TY];refine (congrArg (xP (EN (eh L)) _) hr).trans ?_;rw[PS];simp only[SG];have hb:∀ s,j9 (H s) (b s)=(eo (bi.of (H s)) cB (fun t=>wS (b s) t)).sum (H s):=fun s=>by
    unfold j9; rw[Jt]
  simp only[hb];rfl
def mR (b:List UInt8):Nat:=b.foldl (fun a x=>a*256+x.toNat) 0
theorem Lb (b:List UInt8) (x:UInt8):mR (b++[x])=mR b*256+x.toNat:=by unfold mR; rw[List.foldl_append]; rfl
theorem uX (v:Nat):∀ n,mR (al v n)=v%256^n
  | 0=>by simp[al,mR,Nat.mod_one]
  | n+1=>by
    have e:al v (n+1)=al (v / 256) n++[UInt8.ofNat v]:=by
      unfold al;rw[VZ,U6]
      congr 1
      ·apply Vd;intro i hi;have hi:=Wj.1 hi;rw[show n+1-1-i=(n-1-i)+1 by omega,Nat.pow_succ,V5,Nat.div_div_eq_div_mul]
      ·simp
    rw[e,Lb,uX (v / 256) n,UInt8.toNat_ofNat',show 256^(n+1)=256*256^n from Nat.pow_succ',Nat.mod_mul];omega
theorem Ah (h:List UInt32) (b c:List UInt8):∀ n,64*n≤b.length→cP h (b++c) n=cP h b n
  | 0,_=>rfl
  | n+1,hn=>by
    rw[cP,cP,Ah h b c n (by omega),List.drop_append_of_le_length (by omega),VB (by rw[UK]; omega)]
theorem y0 (h:List UInt32) (p:List UInt8) (q:Nat):∀ m,cP (cP h p q) (p.drop (64*q)) m=cP h p (q+m)
  | 0=>rfl
  | m+1=>by
    rw[← We,cP,cP,y0 h p q m,Wk,Nat.mul_add]
def ki (n:Nat):List UInt8:=[128]++List.replicate ((119-n%64)%64) 0++al (n*8) 8
theorem Lc (n:Nat):n+(ki n).length=64*((n+8) / 64+1):=by
  unfold ki;simp only[UF,UW,bp,VQ];omega
theorem Nc (b:List UInt8):lz b=fv (cP ga (b++ki b.length) ((b.length+8) / 64+1)):=by
  have hl:=Lc b.length;have hd:64*(b.length / 64)≤b.length:=by omega
  have hp:gx (b.drop (64*(b.length / 64))) b.length=(b++ki b.length).drop (64*(b.length / 64)):=by
    unfold gx ki;rw[List.drop_append_of_le_length hd,UK,show b.length-64*(b.length / 64)=b.length%64 by omega];simp only[UV]
  unfold lz kD;rw[hp,← Ah ga b (ki b.length) _ hd,y0,UK,UF,hl]
  congr 2; omega

theorem rz (c:UInt32) (L:Nat):Nat.mul c.toNat (dU L)=pw (fun _=>c) L:=by
  rw[qR];exact eG fun s _=>VT _
theorem PX (L:Nat):0=pw (fun _=>0) L:=by
  have:=rz 0 L;rw[← this]; exact (V6 _).symm
def b4 (w:UInt32):List UInt8:=[UInt8.ofNat (w.toNat / 16777216),UInt8.ofNat (w.toNat / 65536),UInt8.ofNat (w.toNat / 256),UInt8.ofNat w.toNat]
theorem PY (w:UInt32):al w.toNat 4=b4 w:=by
  show [UInt8.ofNat (w.toNat / 16777216),UInt8.ofNat (w.toNat / 65536),UInt8.ofNat (w.toNat / 256),UInt8.ofNat (w.toNat / 1)]=_
  rw[Nat.div_one]; rfl
theorem n0 (w:UInt32):(UInt8.ofNat w.toNat).toNat=w.toNat%256:=UInt8.toNat_ofNat'
theorem n1 (w:UInt32):(UInt8.ofNat (w.toNat / 256)).toNat=w.toNat / 256%256:=UInt8.toNat_ofNat'
theorem n2 (w:UInt32):(UInt8.ofNat (w.toNat / 65536)).toNat=w.toNat / 65536%256:=UInt8.toNat_ofNat'
theorem n3 (w:UInt32):(UInt8.ofNat (w.toNat / 16777216)).toNat=w.toNat / 16777216%256:=UInt8.toNat_ofNat'
theorem SI {p:List UInt8} {t:Nat} (h0:p.getD (4*t) 0=0) (h1:p.getD (4*t+1) 0=0) (h2:p.getD (4*t+2) 0=0) (h3:p.getD (4*t+3) 0=0):bR p t=0:=by
  rw[← UInt32.toNat_inj,pv,h0,h1,h2,h3]; rfl
theorem SJ {p:List UInt8} {t:Nat} {a b:UInt8} {c:UInt32} (h0:p.getD (4*t) 0=0) (h1:p.getD (4*t+1) 0=0) (h2:p.getD (4*t+2) 0=a) (h3:p.getD (4*t+3) 0=b) (hc:a.toNat*256+b.toNat=c.toNat):bR p t=c:=by
  rw[← UInt32.toNat_inj,pv,h0,h1,h2,h3,← hc];have z:(0:UInt8).toNat=0:=by decide
  simp only[z,V6,VG]
noncomputable def xR (one:Nat):E8:=E8.mk (Nat.mul 1779033703 one) (Nat.mul 3144134277 one) (Nat.mul 1013904242 one) (Nat.mul 2773480762 one) (Nat.mul 1359893119 one) (Nat.mul 2600822924 one) (Nat.mul 528734635 one) (Nat.mul 1541459225 one)
theorem SK (L:Nat):xR (dU L)=lG (fun _=>ga) L:=by
  have h:=fun c=>rz c L
  unfold xR lG;exact (congr (congr (congr (congr (congr (congr (congr (congrArg E8.mk (h 1779033703)) (h 3144134277)) (h 1013904242)) (h 2773480762)) (h 1359893119)) (h 2600822924)) (h 528734635)) (h 1541459225))

noncomputable def mS {α:Type} (n:Nat) (k:Nat→α):α:=@Nat.rec (fun _=>α) (k 0) (fun m _=>k (Nat.succ m)) n
theorem nM {α:Type} (n:Nat) (k:Nat→α):mS n k=k n:=by cases n <;> rfl
theorem SL {p:List UInt8} {t:Nat} {w:UInt32} (h0:(p.getD (4*t) 0).toNat=w.toNat / 16777216%256) (h1:(p.getD (4*t+1) 0).toNat=w.toNat / 65536%256) (h2:(p.getD (4*t+2) 0).toNat=w.toNat / 256%256) (h3:(p.getD (4*t+3) 0).toNat=w.toNat%256):bR p t=w:=by
  have:=w.toNat_lt;rw[← UInt32.toNat_inj,pv,h0,h1,h2,h3];omega
theorem SN {p:List UInt8} {t:Nat} {w:UInt32} {a b c d:UInt8} (h0:p.getD (4*t) 0=a) (h1:p.getD (4*t+1) 0=b) (h2:p.getD (4*t+2) 0=c) (h3:p.getD (4*t+3) 0=d) (hc:((a.toNat*256+b.toNat)*256+c.toNat)*256+d.toNat=w.toNat):bR p t=w:=by
  rw[← UInt32.toNat_inj,pv,h0,h1,h2,h3,hc]
def gy (x:UInt32):List UInt8:=(al x.toNat 8++al 0 4)++ki 12
def oK (x:UInt32):List UInt32:=j9 ga ((gy x).take 64)
theorem SO (x:UInt32):al x.toNat 8=0::0::0::0::b4 x:=by
  have hx:=x.toNat_lt;have z:∀ k,4294967296≤k→UInt8.ofNat (x.toNat / k)=0:=fun k hk=>by
    rw[Nat.div_eq_of_lt (by omega)]; rfl
  have e:al x.toNat 8=[UInt8.ofNat (x.toNat / 72057594037927936),UInt8.ofNat (x.toNat / 281474976710656),UInt8.ofNat (x.toNat / 1099511627776),UInt8.ofNat (x.toNat / 4294967296)]++al x.toNat 4:=rfl;rw[e,PY,z _ (by decide),z _ (by decide),z _ (by decide),z _ (by decide)]; rfl
theorem T5 (x:UInt32):k9 x.toNat 0=fv (oK x):=by
  have h1:(al x.toNat 8++al 0 4).length=12:=by simp[bp]
  unfold k9;rw[Nc,h1]; rfl
set_option maxRecDepth 20000 in
theorem rZ (x:UInt32):(gy x).take 64=0::0::0::0::UInt8.ofNat (x.toNat / 16777216)::UInt8.ofNat (x.toNat / 65536)::UInt8.ofNat (x.toNat / 256)::UInt8.ofNat x.toNat::0::0::0::0::128::0::0::0::0::0::0::0::0::0::0::0::0::0::0::0::0::0::0::0::0::0::0::0::0::0::0::0::0::0::0::0::0::0::0::0::0::0::0::0::0::0::0::0::0::0::0::0::0::0::0::96::[]:=by
  have ht:ki 12=128::(List.replicate 50 0++[96]):=by decide
  have hz:al 0 4=[0,0,0,0]:=by decide
  have e:gy x=0::0::0::0::UInt8.ofNat (x.toNat / 16777216)::UInt8.ofNat (x.toNat / 65536)::UInt8.ofNat (x.toNat / 256)::UInt8.ofNat x.toNat::0::0::0::0::128::0::0::0::0::0::0::0::0::0::0::0::0::0::0::0::0::0::0::0::0::0::0::0::0::0::0::0::0::0::0::0::0::0::0::0::0::0::0::0::0::0::0::0::0::0::0::0::0::0::0::96::[]:=by
    unfold gy;rw[SO,ht,hz];simp only[b4,Vt,Vq,List.replicate]
  rw[e]; rfl
set_option maxRecDepth 20000 in
theorem T6 (x:UInt32):∀ t,t<15→t≠1→t≠3→bR ((gy x).take 64) t=0:=by
  intro t h1 h2 h3;rw[rZ];have:t=0∨t=2∨t=4∨t=5∨t=6∨t=7∨t=8∨t=9∨t=10∨t=11∨t=12∨t=13∨t=14:=by omega
  rcases this with rfl | rfl | rfl | rfl | rfl | rfl | rfl | rfl | rfl | rfl | rfl | rfl | rfl <;> exact SI rfl rfl rfl rfl
set_option maxRecDepth 20000 in
theorem T7 (x:UInt32):bR ((gy x).take 64) 1=x:=by
  rw[rZ]; exact SL (n3 _) (n2 _) (n1 _) (n0 _)
set_option maxRecDepth 20000 in
theorem T8 (x:UInt32):bR ((gy x).take 64) 3=2147483648:=by
  rw[rZ]; exact SN (a:=128) (b:=0) (c:=0) (d:=0) rfl rfl rfl rfl (by decide)
set_option maxRecDepth 20000 in
theorem T9 (x:UInt32):bR ((gy x).take 64) 15=96:=by
  rw[rZ]; exact SJ rfl rfl rfl rfl rfl
noncomputable def sM (one m X:Nat):E8:=xQ one m (xR one) 0 X 0 (Nat.mul 2147483648 one) 0 0 0 0 0 0 0 0 0 0 0 (Nat.mul 96 one)
theorem PZ (x:Nat→UInt32) (L:Nat):sM (dU L) (eh L) (pw x L)=lG (fun s=>oK (x s)) L:=by
  have g:=SH (fun _=>ga) (fun s=>(gy (x s)).take 64) L;have z:∀ t,t<15→t≠1→t≠3→(fun s=>bR ((gy (x s)).take 64) t)=fun _=>0:=fun t h1 h2 h3=>funext fun s=>T6 (x s) t h1 h2 h3
  have v1:(fun s=>bR ((gy (x s)).take 64) 1)=x:=funext fun s=>T7 (x s)
  have v3:(fun s=>bR ((gy (x s)).take 64) 3)=fun _=>2147483648:=funext fun s=>T8 (x s)
  have ve:(fun s=>bR ((gy (x s)).take 64) 15)=fun _=>96:=funext fun s=>T9 (x s)
  have c2:Nat.mul 2147483648 (dU L)=pw (fun _=>2147483648) L:=rz 2147483648 L;have c3:Nat.mul 96 (dU L)=pw (fun _=>96) L:=rz 96 L;rw[v1,v3,ve,z 0 (by decide) (by decide) (by decide),z 2 (by decide) (by decide) (by decide),z 4 (by decide) (by decide) (by decide),z 5 (by decide) (by decide) (by decide),z 6 (by decide) (by decide) (by decide),z 7 (by decide) (by decide) (by decide),z 8 (by decide) (by decide) (by decide),z 9 (by decide) (by decide) (by decide),z 10 (by decide) (by decide) (by decide),z 11 (by decide) (by decide) (by decide),z 12 (by decide) (by decide) (by decide),z 13 (by decide) (by decide) (by decide),z 14 (by decide) (by decide) (by decide),← PX,← SK] at g;unfold sM;rw[c2,c3];exact g
inductive Tr where
  | lf (c:Nat)
  | nd (a b:Tr)
deriving DecidableEq
theorem SP (x y:Nat→UInt32) (L:Nat):Nat.xor (pw x L) (pw y L)=pw (fun s=>dA (x s) (y s)) L:=by
  unfold pw;rw[nY (fun s=>dZ _) (fun s=>dZ _)];exact eG fun s _=>(UInt32.toNat_xor _ _).symm
theorem Ld {x:Nat→UInt32} {L s:Nat} (h:Nat.beq (Nat.land (Nat.shiftRight (Nat.add (pw x L) (Nat.mul 4294967295 (dU L))) 32) (dU L)) (dU L)=true) (hs:s<L):x s≠0:=by
  intro h0;have e:=Nat.eq_of_beq_eq_true h;have h1:∀ s:Nat,(fun _:Nat=>1) s<2^64:=fun _=>(by decide:1<2^64)
  have hg:∀ s,Nat.add (x s).toNat (Nat.mul 4294967295 1)<2^64:=fun s=>by
    have:=(x s).toNat_lt
    show (x s).toNat+4294967295*1<_
    omega
  have e2:Nat.add (pw x L) (Nat.mul 4294967295 (dU L))=pk (fun s=>Nat.add (x s).toNat (Nat.mul 4294967295 1)) L:=by
    unfold pw;rw[qR,fL]
  rw[e2] at e;have e3:((pk (fun s=>Nat.add (x s).toNat (Nat.mul 4294967295 1)) L >>> 32) &&& dU L).testBit (64*s)=(dU L).testBit (64*s):=congrArg (fun n=>Nat.testBit n (64*s)) e;rw[Nat.testBit_and,Nat.testBit_shiftRight,fK hg,fK h1,show (32+64*s) / 64=s by omega,show (32+64*s)%64=32 by omega,show 64*s / 64=s by omega,show 64*s%64=0 by omega,decide_eq_true hs,h0] at e3
  revert e3
  decide
def t2:Tr:=.nd (.lf 0) (.lf 1)
def Uw:Tr:=.nd (.lf 2) (.lf 3)
def t4:Tr:=.nd t2 Uw
noncomputable def x7 (s:E8):Nat:=E8.rec (fun a _ _ _ _ _ _ _=>a) s
theorem Ua (A:Nat→List UInt32) (L:Nat):x7 (lG A L)=pw (fun s=>(A s).getD 0 0) L:=rfl
def xS (on one a b:Nat):Bool:=Nat.beq (Nat.land (Nat.shiftRight (Nat.add (Nat.xor a b) on) 32) one) one
theorem P0 {x y:Nat→UInt32} {L s:Nat} (h:xS (Nat.mul 4294967295 (dU L)) (dU L) (pw x L) (pw y L)=true) (hs:s<L):x s≠y s:=by
  intro e;unfold xS at h;rw[SP] at h;refine Ld h hs ?_;rw[e];simp[dA]
noncomputable def oL (F:Nat→Nat) (D:Nat→Nat→Bool) (os:List Nat):List Nat→Bool :=
  @List.rec Nat (fun _=>List Nat→Bool) (fun _=>true) (fun o _ ih acc=>mS (F o) fun w=>cond (acc.all (D w)) (ih (w::acc)) false) os
theorem Le (F:Nat→Nat) (D:Nat→Nat→Bool) (o:Nat) (os acc:List Nat):oL F D (o::os) acc=cond (acc.all (D (F o))) (oL F D os (F o::acc)) false:=nM (F o) fun w=>cond (acc.all (D w)) (oL F D os (w::acc)) false
theorem E2 {F:Nat→Nat} {D:Nat→Nat→Bool}:∀ {os acc:List Nat},oL F D os acc=true→os.Pairwise (fun a b=>D (F b) (F a)=true)∧∀ o∈os,∀ w∈acc,D (F o) w=true
  | [],_,_=>⟨List.Pairwise.nil,fun o ho=>by cases ho⟩
  | o::os,acc,h=>by
    rw[Le] at h;cases hc:acc.all (D (F o)) with
    | false=>rw[hc,cond_false] at h; cases h
    | true =>
      rw[hc,cond_true] at h;obtain⟨h1,h2⟩:=E2 h;refine⟨List.Pairwise.cons (fun b hb=>h2 b hb _ (Vp ..)) h1,fun b hb w hw=>?_⟩;rcases U9.1 hb with rfl | hb
      ·exact UN.1 hc w hw
      ·exact h2 b hb w (Ve _ hw)
def lH (x:Nat):UInt32:=(oK (UInt32.ofNat x)).getD 0 0
noncomputable def sN (os:List Nat) (L:Nat):Bool:=mS (dU L) fun one=>mS (eh L) fun m=>mS (pk (fun s=>s) L) fun io=>mS (Nat.mul 4294967295 one) fun on=>oL (fun o=>x7 (sM one m (Nat.add io (Nat.mul o one)))) (xS on one) os []
theorem P1 {os:List Nat} {L:Nat} (h:sN os L=true) (hL:L≤100000) (hos:∀ o∈os,o≤4000000000) {s:Nat} (hs:s<L):os.Pairwise fun a b=>lH (s+a)≠lH (s+b):=by
  unfold sN at h;rw[nM,nM,nM,nM] at h;have h1:=(E2 h).1;have key:∀ o,o≤4000000000→x7 (sM (dU L) (eh L) (Nat.add (pk (fun s=>s) L) (Nat.mul o (dU L))))=pw (fun s=>lH (s+o)) L:=fun o ho=>by
    have e:Nat.add (pk (fun s=>s) L) (Nat.mul o (dU L))=pw (fun s=>UInt32.ofNat (s+o)) L:=by
      rw[qR,fL];refine eG fun s hs=>?_
      rw[UInt32.toNat_ofNat_of_lt' (by simp only[UInt32.size]; omega)]
      show s+o*1=_
      omega
    rw[e,PZ,Ua];rfl
  refine List.Pairwise.imp_of_mem ?_ h1;intro a b ha hb hd;rw[key a (hos a ha),key b (hos b hb)] at hd;exact (P0 hd hs).symm
theorem E3 {x n:Nat} (hx:x<4294967296) (hn:4≤n):(cY (x:Int) (n:Int)).take 4=al (lH x).toNat 4:=by
  have e1:((x:Int)%18446744073709551616).toNat=x:=by omega
  have e2:((n:Int).toNat+31) / 32=((n:Int).toNat+31) / 32-1+1:=by omega
  have e3:fJ x (((n:Int).toNat+31) / 32)=k9 x 0++(((List.range (((n:Int).toNat+31) / 32-1)).map Nat.succ).map (k9 x)).flatten:=by
    unfold fJ;rw[e2,List.range_succ_eq_map,UE,Vw];rfl
  have hw:=T5 (UInt32.ofNat x);rw[UInt32.toNat_ofNat_of_lt' (show x<UInt32.size by simp only[UInt32.size]; omega)] at hw;have hl:(oK (UInt32.ofNat x)).length=8:=yX _ _;unfold cY;rw[e1,e3,hw,List.take_take,VP (by omega)];unfold lH
  match oK (UInt32.ofNat x),hl with
  | [a,b,c,d,e,f,g,i],_ =>
    unfold fv;simp only[UP,UV];exact List.take_left' (bp _ _)
theorem SQ {a b:UInt32} (h:al a.toNat 4=al b.toNat 4):a=b:=by
  have e:=congrArg mR h;rw[uX,uX,Wm (show a.toNat<256^4 from a.toNat_lt),Wm (show b.toNat<256^4 from b.toNat_lt)] at e;exact UInt32.toNat_inj.1 e
theorem Ub {x y n m:Nat} (hx:x<4294967296) (hy:y<4294967296) (hn:4≤n) (hm:4≤m) (h:lH x≠lH y):(cY (x:Int) (n:Int)).take 4≠(cY (y:Int) (m:Int)).take 4:=by
  rw[E3 hx hn,E3 hy hm];exact fun e=>h (SQ e)
def pi:List Nat:=(List.range 8).map fun i=>1000003*(i+1)
def Ux:List Nat:=(List.range 100).map fun i=>5000000*(i+1)
def x8:List Nat:=(List.range 8).map fun i=>7000000*(i+1)
def Uy:List Nat:=(List.range 11).map fun i=>9000000*(i+1)
set_option maxRecDepth 100000 in
theorem SR:sN (pi++x8) 1000=true:=by decide +kernel
theorem of_le:∀ o∈pi++(Ux++(x8++Uy)),o≤4000000000:=by decide +kernel
theorem Uc {os:List Nat} (h:sN os 1000=true) (hos:∀ o∈os,o≤4000000000) {s:Nat} (hs:s<1000):(os.map fun o=>cY ((s+o:Nat):Int) 104).Nodup:=by
  rw[List.nodup_iff_pairwise_ne,List.pairwise_map];refine (List.Pairwise.imp_of_mem ?_ (P1 h (by decide) hos hs));intro a b ha hb hab e;have h1:=hos a ha;have h2:=hos b hb;exact Ub (n:=104) (m:=104) (by omega) (by omega) (by decide) (by decide) hab (congrArg (List.take 4) e)
theorem Uq {s:Nat} (hs:s<1000):((pi++x8).map fun o=>cY ((s+o:Nat):Int) 104).Nodup:=Uc SR (fun o ho=>of_le o (by
  rcases UY.1 ho with h | h
  ·exact U0 _ h
  ·exact UM _ (UM _ (U0 _ h)))) hs
end Go.Proofs.Ytofonnokanoflaa
