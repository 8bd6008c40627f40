/- Texts of one's own, merged: from: world.Within on data: a number within bounds. Own work. -/
import Derived.Test.YtlghfnidknfakaaGreatDoorProg
import Derived.Test.YtlghfnidknfakaaGreatDoorMg27
import Derived.Test.YtlghfnidknfakaaGreatDoorMg210
set_option linter.unusedVariables false
set_option linter.unusedSimpArgs false
namespace Go.Proofs.YtlghfnidknfakaaGreatDoor
open Go.RowKit IntWalk
def jk (v m:Int):Int:=if m<1 then 0 else v%m
theorem D1 (v m:Int) (h:1≤m):0≤jk v m∧jk v m<m:=by
  unfold jk;rw[if_neg (by omega)];exact⟨Int.emod_nonneg _ (by omega),Int.emod_lt_of_pos _ (by omega)⟩
theorem Ua {v m:Int} (hm:0<m) (h:v.tmod m<0):v.tmod m+m=v%m:=by
  have h1:=Int.emod_add_mul_ediv v m;have h2:=Int.tmod_add_mul_tdiv v m;have h3:=Int.emod_nonneg v (show m≠0 by omega);have h4:=Int.emod_lt_of_pos v hm;have h5:=Int.lt_tmod_of_pos v hm;have e:m*(v.tdiv m-v / m)=v%m-v.tmod m:=by rw[Int.mul_sub]; omega
  have k1:v.tdiv m-v / m=1:=by
    rcases Int.lt_trichotomy (v.tdiv m-v / m) 1 with hlt | heq | hgt
    ·exfalso;have:v.tdiv m-v / m≤0:=by omega
     have:=acW this (show 0≤m by omega);omega
    ·exact heq
    ·exfalso;have:2≤v.tdiv m-v / m:=by omega
     have:=acW this (show 0≤m by omega);omega
  rw[k1] at e;omega
theorem Ub {v m:Int} (hm:0<m) (h:0≤v.tmod m):v.tmod m=v%m:=by
  have h1:=Int.emod_add_mul_ediv v m;have h2:=Int.tmod_add_mul_tdiv v m;have h3:=Int.emod_nonneg v (show m≠0 by omega);have h4:=Int.emod_lt_of_pos v hm;have h5:=Int.tmod_lt_of_pos v hm;have e:m*(v.tdiv m-v / m)=v%m-v.tmod m:=by rw[Int.mul_sub]; omega
  have k1:v.tdiv m-v / m=0:=by
    rcases Int.lt_trichotomy (v.tdiv m-v / m) 0 with hlt | heq | hgt
    ·exfalso;have:v.tdiv m-v / m ≤ -1:=by omega
     have:=acW this (show 0≤m by omega);omega
    ·exact heq
    ·exfalso;have:1≤v.tdiv m-v / m:=by omega
     have:=acW this (show 0≤m by omega);omega
  rw[k1] at e;omega
def uk:aH:=⟨2,16,.seq (.reg [oO 4 (.mv (kI 0))]) (.seq (.seq (.reg [oM 5 1,oO 6 (.bin .lss (.t 5) (kI 1))]) (.cond (.t 6) (.seq (.reg [oO 4 (.mv (kI 0))]) (.ret)) (.skip))) (.seq (.reg [oM 7 0,oM 8 1,oO 9 (.bin .rem (.t 7) (.t 8)),oM 0 9]) (.seq (.seq (.reg [oM 10 0,oO 11 (.bin .lss (.t 10) (kI 0))]) (.cond (.t 11) (.reg [oM 12 0,oM 13 1,oO 14 (.bin .add (.t 12) (.t 13)),oM 0 14]) (.skip))) (.seq (.reg [oM 15 0,oM 4 15]) (.ret))))),[(4,none)]⟩
theorem Sr:aG Tryz.prog { own:=[],comp:=[],frz:=[],nils:=[] } Tryz.f24=some uk:=by kernel_rfl
theorem z7 (G:ah) (v m:Int) (hm:m≤9223372036854775807):aw Tryz.prog G 24 [.int .i64 v,.int .i64 m] (.w (.c (.d (.int .i64 (jk v m))))):=by
  refine aI Tryz.func24 Sr rfl rfl ?_;unfold jk;by_cases h:m<1
  ·rw[if_pos h];simp only[uk,af,ae,aa,seval,iteOmega,toNatUp];exact aL
  ·rw[if_neg h];have hne:¬ m=0:=by omega
   have h4:=Int.tmod_lt_of_pos v (show 0<m by omega);by_cases hn:v.tmod m<0
   ·have e:=Ua (by omega) hn;have h3:=Int.emod_lt_of_pos v (show 0<m by omega);have h5:=Int.emod_nonneg v (show m≠0 by omega);simp only[uk,af,ae,aa,seval,iteOmega,toNatUp,hne];exact mX (by simp only[ae,aa,seval,iteOmega,toNatUp,e])
   ·have e:=Ub (v:=v) (show 0<m by omega) (by omega);simp only[uk,af,ae,aa,seval,iteOmega,toNatUp,hne];exact mX (by simp only[ae,aa,seval,iteOmega,toNatUp,e])
def BH (s i:Nat):List UInt8:=cC (aV s 8++aV i 4)
def jE (s:Nat) (k:Nat):List UInt8:=((List.range k).map (BH s)).flatten
theorem Es (s k:Nat):jE s k++BH s k=jE s (k+1):=by simp[jE,acJ]
theorem tP (s:Nat):∀ k,(jE s k).length=32*k
  | 0=>rfl
  | k+1=>by rw[← Es,aba,tP s k]; unfold BH; rw[ie]; omega
def bE (seed n:Int):List UInt8:=(jE (seed%18446744073709551616).toNat ((n.toNat+31) / 32)).take n.toNat
theorem qW (seed n:Int):(bE seed n).length=n.toNat:=by
  unfold bE; rw[abg,tP]; omega
def w7 (seed n:Int) (s:Nat) (k:Nat):St:=⟨aQ [(0,.w (.c (.d (.int .i64 seed)))),(1,.w (.c (.d (.int .i64 n)))),(5,.w (.c (.own 1 1 0 (jE s k).length))),(6,.w (.c (.d (.int .i64 (k:Int)))))],hL [(1,.row 1 ((jE s k).map bD))],uL [1]⟩
def tK:aN := .seq (.seq (.reg [oM 8 5,oO 9 (.len (.t 8)),oM 10 1,oO 11 (.bin .lss (.t 9) (.t 10))]) (.cond (.t 11) (.skip) (.exit 0))) (.seq (.block 1 (.reg [oM 14 5,oM 15 0,oO 16 (.conv .u64 (.t 15)),oO 17 (.call 44 [(.t 16),(kI 8)] none),oM 18 6,oO 19 (.conv .u64 (.t 18)),oO 20 (.call 44 [(.t 19),(kI 4)] none),oO 21 (.bldSl false 2 1 (.sl []) [(0,(.t 17)),(1,(.t 20))]),oO 22 (.call 43 [(.t 21)] none),oO 23 (.call 84 [(.t 22)] none),oO 24 (.app false 1 1 (.t 14) (.t 23)),oM 5 24])) (.reg [oM 12 6,oO 13 (.bin .add (.t 12) (kI 1)),oM 6 13]))
def Gg:aH:=⟨2,29,.seq (.reg [oO 4 (.mv (.k (.c .nil)))]) (.seq (.reg [oO 7 (.bldSl true 0 1 (.int .u8 0) []),oM 5 7]) (.seq (.seq (.reg [oO 6 (.mv (kI 0))]) (.block 0 (.loop tK))) (.seq (.reg [oM 25 5,oM 26 1,oO 27 (.max [(.t 26),(kI 0)]),oO 28 (.slice 1 (.t 25) none (some (.t 27)) none),oM 4 28]) (.ret)))),[(4,none)]⟩
theorem Ss:aG Tryz.prog { own:=[7],comp:=[],frz:=[],nils:=[] } Tryz.f35=some Gg:=by kernel_rfl
set_option maxHeartbeats 1600000 in
theorem Uc (G:ah) (seed n:Int) (hn:n≤1099511627776):aw Tryz.prog G 35 [.int .i64 seed,.int .i64 n] (.w (.c (.fr 1 ((bE seed n).map bD)))):=by
  refine aI Tryz.func35 Ss rfl rfl ?_;obtain⟨s,hs⟩:∃ s:Nat,(seed%18446744073709551616).toNat=s:=⟨_,rfl⟩
  have hw:IntKind.u64.wrap seed=(s:Int):=by rw[IntKind.wrap_u64,← hs]; omega
  have hs2:s<18446744073709551616:=by omega
  have hK:bE seed n=(jE s ((n.toNat+31) / 32)).take n.toNat:=by unfold bE; rw[hs]
  rw[hK];simp only[Gg,af,ae,aa,seval,iteOmega,toNatUp];refine aU (w7 seed n s) (fun k=>(n.toNat+31) / 32-k) (fun k=>k≤(n.toNat+31) / 32) 0 (abc _) ?_ ?_
  ·refine aj (fun _=>56) ?_ ?_ rfl rfl <;> simp only[wx,ai,am,aa,seval,iteOmega,toNatUp] <;> rfl
  ·intro k hk;have hl:=tP s k;by_cases hlt:k<(n.toNat+31) / 32
   ·have hc:((jE s k).length:Int)<n:=by omega
    have hj:=fQ G [aV s 8,aV k 4] (by simp) (by simp[bU]);have hf:[aV s 8,aV k 4].flatten=aV s 8++aV k 4:=by simp
    rw[hf] at hj;have hb:=Es s k;have hk2:IntKind.u64.wrap (k:Int)=(k:Int):=u64_in _ (by omega) (by omega);simp only[tK,w7,wx,wy,aa,seval,iteOmega,toNatUp,hw,hk2];refine aW (rO G s 8 (by decide)) rfl (.inl rfl) ?_;simp only[wx,wy,aa,seval,iteOmega,toNatUp,hw,hk2];refine aW (rO G k 4 (by decide)) rfl (.inl rfl) ?_;simp only[wx,wy,aa,seval,iteOmega,toNatUp];refine aW hj rfl (.inl rfl) ?_;simp only[wx,wy,aa,seval,iteOmega,toNatUp];refine aW (pQ G (aV s 8++aV k 4) (by simp[bU])) rfl (.inl rfl) ?_;have hh:(cC (aV s 8++aV k 4)).length=32:=ie _;have hb':jE s k++cC (aV s 8++aV k 4)=jE s (k+1):=hb;simp only[ae,aa,seval,iteOmega,toNatUp,a7,ig,hb',hh];refine aM (k+1) (by omega) (by omega) (aj (fun _=>192) ?_ ?_ rfl rfl) <;> simp only[wx,ai,am,aa,seval,iteOmega,toNatUp]
   ·obtain rfl:k=(n.toNat+31) / 32:=by omega
    have hc:¬ ((jE s ((n.toNat+31) / 32)).length:Int)<n:=by omega
    by_cases h0:n<0
    ·have e0:n.toNat=0:=by omega
     simp only[tK,w7,ae,aa,seval,iteOmega,toNatUp,hc,acD,List.foldl_nil];rw[e0,List.map_take];exact HT (id:=1) (s:=1) (by simp only[wx,aa,seval,iteOmega,toNatUp]) (by simp only[wx,aa,seval,iteOmega,toNatUp]) (abc _)
    ·simp only[tK,w7,ae,aa,seval,iteOmega,toNatUp,hc,acD,List.foldl_nil];rw[List.map_take];exact HT (id:=1) (s:=1) (by simp only[wx,aa,seval,iteOmega,toNatUp]) (by simp only[wx,aa,seval,iteOmega,toNatUp]) (by rw[abh,tP]; omega)
theorem uS (G:ah) (seed n:Int) (hn:n≤1099511627776):aw Tryz.prog G 35 [.int .i64 seed,.int .i64 n] (.w (.c (.d (.sl ((bE seed n).map bD))))):=li (Uc G seed n hn)
def oP (key:List UInt8):List UInt8:=if 64<key.length then cC key else key
def fG (k:List UInt8):List UInt8:=k++List.replicate (64-k.length) 0
def kO (key:List UInt8):List UInt8:=fG (oP key)
def cx (key:List UInt8) (x:UInt8):List UInt8:=(kO key).map fun b=>au b x
def jc (key b:List UInt8):List UInt8:=cC (cx key 92++cC (cx key 54++b))
def eY (key info:List UInt8):Nat→List UInt8
  | 0=>[]
  | i+1=>jc key (eY key info i++info++[UInt8.ofNat (i+1)])
def iM (key info:List UInt8):Nat→List UInt8
  | 0=>[]
  | i+1=>iM key info i++eY key info (i+1)
def jd (key info:List UInt8) (n:Nat):List UInt8:=(iM key info ((n+31) / 32)).take n
def je (p n c:List UInt8):List UInt8:=p++[0]++n++[0]++cC c
theorem Ud (key:List UInt8):(oP key).length≤64:=by
  unfold oP; split
  ·rw[ie]; decide
  ·omega
theorem lM {k:List UInt8} (h:k.length≤64):(fG k).length=64:=by
  simp[fG]; omega
theorem IL (key:List UInt8):(kO key).length=64:=lM (Ud key)
theorem mM (key:List UInt8) (x:UInt8):(cx key x).length=64:=by
  rw[cx,abh,IL]
theorem pq (key b:List UInt8):(jc key b).length=32:=ie _
theorem Gi (key info:List UInt8):∀ i,(eY key info i).length≤32
  | 0=>by simp[eY]
  | i+1=>by rw[eY,pq]; exact abl _
theorem pu (key info:List UInt8):∀ i,(iM key info i).length=32*i
  | 0=>rfl
  | i+1=>by rw[iM,aba,pu key info i,eY,pq]; omega
theorem z8 (key info:List UInt8) (n:Nat):(jd key info n).length=n:=by
  rw[jd,abg,pu]; omega
theorem IM (p n c:List UInt8):(je p n c).length=p.length+n.length+34:=by
  simp[je,ie]; omega
set_option maxHeartbeats 1600000
theorem IP {k:List UInt8} (l:List D) (hl:l=List.replicate 64 (D.int .u8 0)):k.map bD++l.drop k.length=(fG k).map bD:=by
  subst hl;unfold fG;rw[acY,abk,Cn]
theorem IQ {k:List UInt8} (hk:k.length≤64) (l:List D) (hl:l=List.replicate 64 (D.int .u8 0)):k.length+(l.drop k.length).length=64:=by
  subst hl;rw[acY,abC]; omega
def z9:aH:=⟨1,13,.seq (.reg [oO 2 (.allocArr [(.int .u8 0),(.int .u8 0),(.int .u8 0),(.int .u8 0),(.int .u8 0),(.int .u8 0),(.int .u8 0),(.int .u8 0),(.int .u8 0),(.int .u8 0),(.int .u8 0),(.int .u8 0),(.int .u8 0),(.int .u8 0),(.int .u8 0),(.int .u8 0),(.int .u8 0),(.int .u8 0),(.int .u8 0),(.int .u8 0),(.int .u8 0),(.int .u8 0),(.int .u8 0),(.int .u8 0),(.int .u8 0),(.int .u8 0),(.int .u8 0),(.int .u8 0),(.int .u8 0),(.int .u8 0),(.int .u8 0),(.int .u8 0),(.int .u8 0),(.int .u8 0),(.int .u8 0),(.int .u8 0),(.int .u8 0),(.int .u8 0),(.int .u8 0),(.int .u8 0),(.int .u8 0),(.int .u8 0),(.int .u8 0),(.int .u8 0),(.int .u8 0),(.int .u8 0),(.int .u8 0),(.int .u8 0),(.int .u8 0),(.int .u8 0),(.int .u8 0),(.int .u8 0),(.int .u8 0),(.int .u8 0),(.int .u8 0),(.int .u8 0),(.int .u8 0),(.int .u8 0),(.int .u8 0),(.int .u8 0),(.int .u8 0),(.int .u8 0),(.int .u8 0),(.int .u8 0)])])
 (.seq (.seq (.reg [oM 4 0,oO 5 (.len (.t 4)),oO 6 (.bin .gtr (.t 5) (kI 64))]) (.cond (.t 6) (.reg [oM 7 0,oO 8 (.call 141 [(.t 7)] none),oM 0 8]) (.skip))) (.seq (.reg [oO 3 (.allocArr [(.int .u8 0),(.int .u8 0),(.int .u8 0),(.int .u8 0),(.int .u8 0),(.int .u8 0),(.int .u8 0),(.int .u8 0),(.int .u8 0),(.int .u8 0),(.int .u8 0),(.int .u8 0),(.int .u8 0),(.int .u8 0),(.int .u8 0),(.int .u8 0),(.int .u8 0),(.int .u8 0),(.int .u8 0),(.int .u8 0),(.int .u8 0),(.int .u8 0),(.int .u8 0),(.int .u8 0),(.int .u8 0),(.int .u8 0),(.int .u8 0),(.int .u8 0),(.int .u8 0),(.int .u8 0),(.int .u8 0),(.int .u8 0),(.int .u8 0),(.int .u8 0),(.int .u8 0),(.int .u8 0),(.int .u8 0),(.int .u8 0),(.int .u8 0),(.int .u8 0),(.int .u8 0),(.int .u8 0),(.int .u8 0),(.int .u8 0),(.int .u8 0),(.int .u8 0),(.int .u8 0),(.int .u8 0),(.int .u8 0),(.int .u8 0),(.int .u8 0),(.int .u8 0),(.int .u8 0),(.int .u8 0),(.int .u8 0),(.int .u8 0),(.int .u8 0),(.int .u8 0),(.int .u8 0),(.int .u8 0),(.int .u8 0),(.int .u8 0),(.int .u8 0),(.int .u8 0)])])
 (.seq (.reg [oO 9 (.sliceArr 1 64 (.t 3) none none),oM 10 0,oO 11 (.copy 1 (.t 9) (.t 10))]) (.seq (.reg [oO 12 (.load (.ag 64) (.t 3)),oN (.store (.ag 64) (.t 2) (.t 12))]) (.ret))))),[(2,(some (.ag 64)))]⟩
theorem Ue:aG Tryz.prog { own:=[],comp:=[],frz:=[],nils:=[] } Tryz.f140=some z9:=by kernel_rfl
theorem Wg (G:ah) (hF:G.at 0=some (.ra (dR.map wD))) (hG:G.at 1=some (.ra (bK.map wD))) (key:List UInt8) (hb:key.length≤140737488355328):aw Tryz.prog G 140 [.sl (key.map bD)] (.w (.c (.d (.agg ((kO key).map bD))))):=by
  refine aI Tryz.func140 Ue rfl rfl ?_;by_cases h:64<key.length
  ·have e:kO key=fG (cC key):=by unfold kO oP; rw[if_pos h]
   have hl:=ie key;rw[e];simp only[z9,af,ae,aa,seval,iteOmega,toNatUp];refine sD (w6 G hF hG key hb) ?_;generalize cC key=s at *
   have z:=IP (k:=s);have z2:=IQ (k:=s) (by omega);have ht:s.take 64=s:=aa9 (by omega);have hf:(fG s).length=64:=lM (by omega);simp only[ae,aa,seval,iteOmega,toNatUp,ht,z,z2,hf];exact mX (by simp only[ae,aa,seval,iteOmega,toNatUp,hf])
  ·have e:kO key=fG key:=by unfold kO oP; rw[if_neg h]
   rw[e];have z:=IP (k:=key);have z2:=IQ (k:=key) (by omega);have ht:key.take 64=key:=aa9 (by omega);have hf:(fG key).length=64:=lM (by omega);simp only[z9,af,ae,aa,seval,iteOmega,toNatUp,ht,z,z2,hf];exact mX (by simp only[ae,aa,seval,iteOmega,toNatUp,hf])
def jo (l:List UInt8) (m:UInt8) (i:Nat):List UInt8:=(l.take i).map (fun b=>au b m)++l.drop i
theorem Su (l:List UInt8) (m:UInt8) (i:Nat):(jo l m i).length=l.length:=by
  unfold jo; rw[aba,abh,← aba,abP]
theorem Sv (l:List UInt8) (m:UInt8) (i:Nat) (h:i<l.length):(jo l m i)[i]?=some l[i]:=by
  unfold jo;rw[abE (by rw[abh,abg]; omega),abN,abh,abg];rw[show i+(i-min i l.length)=i by omega,aa7 h]
theorem Q6 (l:List UInt8) (m:UInt8) (i:Nat) (h:i<l.length):(jo l m i).set i (au l[i] m)=jo l m (i+1):=by
  unfold jo;rw[acF _ _ (by rw[abh,abg]; omega),abh,abg,show i-min i l.length=0 by omega,List.drop_eq_getElem_cons h,ac4,acm h,abk,abq];rfl
theorem Q7 (l:List UInt8) (m:UInt8):jo l m 0=l:=by simp[jo]
theorem Q8 (l:List UInt8) (m:UInt8) (i:Nat) (h:l.length≤i):jo l m i=l.map fun b=>au b m:=by
  unfold jo;rw[aa9 h,abZ h,abm]
def BI (l:List UInt8) (m:UInt8) (i:Nat):St:=⟨aQ [(1,.w (.c (.d (bD m)))),(2,.w (.c (.pa 1 1))),(6,.w (.c (.d (.int .i64 (i:Int)))))],hL [(1,.row 1 ((jo l m i).map bD))],uL [1]⟩
def yn:aN := .seq (.reg [oO 7 (.bin .lss (.t 6) (kI 64))]) (.seq (.cond (.t 7) (.skip) (.exit 0)) (.seq (.block 1 (.seq (.reg [oM 8 6,oM 5 8]) (.reg [oM 9 5,oO 10 (.idxPa 1 64 (.t 2) (.t 9)),oO 11 (.load .sc (.t 10)),oM 12 1,oO 13 (.bin .xor (.t 11) (.t 12)),oO 14 (.idxPa 1 64 (.t 2) (.t 9)),oN (.store .sc (.t 14) (.t 13))]))) (.reg [oO 15 (.bin .add (.t 6) (kI 1)),oM 6 15])))
def Gj:aH:=⟨2,17,.seq (.reg [oO 2 (.box .ownArr (.t 0)),oO 4 (.mv (.k (.c .nil)))]) (.seq (.seq (.reg [oO 6 (.mv (kI 0))]) (.block 0 (.loop yn))) (.seq (.reg [oO 16 (.sliceArr 1 64 (.t 2) none none),oM 4 16]) (.ret))),[(4,none)]⟩
theorem Sw:aG Tryz.prog { own:=[2],comp:=[],frz:=[],nils:=[] } Tryz.f142=some Gj:=by kernel_rfl
theorem IR (G:ah) (l:List UInt8) (hl:l.length=64) (m:UInt8):aw Tryz.prog G 142 [.agg (l.map bD),bD m] (.w (.c (.fr 1 ((l.map fun b=>au b m).map bD)))):=by
  refine aI Tryz.func142 Sw rfl rfl ?_;simp only[Gj,af,ae,aa,seval,iteOmega,toNatUp];refine aU (BI l m) (fun i=>64-i) (fun i=>i≤64) 0 (abc _) ?_ ?_
  ·refine aj (fun _=>16) ?_ ?_ rfl rfl <;> simp only[wx,ai,am,aa,seval,iteOmega,toNatUp,Q7]
  ·intro i hi;have hm:=Su l m i;by_cases hlt:i<64
   ·have h1:=Sv l m i (by omega);have h2:=Q6 l m i (by omega);have h3:i<(jo l m i).length:=by omega
    simp only[yn,BI,ae,aa,seval,iteOmega,toNatUp,aC,h1,dp,dH h3 (du _),eV,h2];refine aM (i+1) (by omega) (by omega) (aj (fun _=>1) ?_ ?_ rfl rfl) <;> simp only[wx,ai,am,aa,seval,iteOmega,toNatUp]
   ·obtain rfl:i=64:=by omega
    have h1:=Q8 l m 64 (by omega);simp only[yn,BI,ae,aa,seval,iteOmega,toNatUp,h1,hl];exact dE (id:=1) (n:=64) (s:=1) (by simp only[wx,aa,seval,iteOmega,toNatUp]) (by simp only[wx,aa,seval,iteOmega,toNatUp]) (by simp[hl])
def Ns:aH:=⟨2,21,.seq (.reg [oO 4 (.mv (.k (.c .nil)))]) (.seq (.reg [oM 7 0,oO 8 (.call 140 [(.t 7)] none),oO 5 (.allocArr [(.int .u8 0),(.int .u8 0),(.int .u8 0),(.int .u8 0),(.int .u8 0),(.int .u8 0),(.int .u8 0),(.int .u8 0),(.int .u8 0),(.int .u8 0),(.int .u8 0),(.int .u8 0),(.int .u8 0),(.int .u8 0),(.int .u8 0),(.int .u8 0),(.int .u8 0),(.int .u8 0),(.int .u8 0),(.int .u8 0),(.int .u8 0),(.int .u8 0),(.int .u8 0),(.int .u8 0),(.int .u8 0),(.int .u8 0),(.int .u8 0),(.int .u8 0),(.int .u8 0),(.int .u8 0),(.int .u8 0),(.int .u8 0),(.int .u8 0),(.int .u8 0),(.int .u8 0),(.int .u8 0),(.int .u8 0),(.int .u8 0),(.int .u8 0),(.int .u8 0),(.int .u8 0),(.int .u8 0),(.int .u8 0),(.int .u8 0),(.int .u8 0),(.int .u8 0),(.int .u8 0),(.int .u8 0),(.int .u8 0),(.int .u8 0),(.int .u8 0),(.int .u8 0),(.int .u8 0),(.int .u8 0),(.int .u8 0),(.int .u8 0),(.int .u8 0),(.int .u8 0),(.int .u8 0),(.int .u8 0),(.int .u8 0),(.int .u8 0),(.int .u8 0),(.int .u8 0)]),
 oN (.store (.ag 64) (.t 5) (.t 8))]) (.seq (.reg [oO 9 (.load (.ag 64) (.t 5)),oO 10 (.call 142 [(.t 9),(.k (.c (.d (.int .u8 54))))] none),oM 11 1,oO 12 (.bldSl false 2 1 (.sl []) [(0,(.t 10)),(1,(.t 11))]),oO 13 (.call 90 [(.t 12)] none),oO 14 (.call 141 [(.t 13)] none),oM 6 14]) (.seq (.reg [oO 15 (.load (.ag 64) (.t 5)),oO 16 (.call 142 [(.t 15),(.k (.c (.d (.int .u8 92))))] none),oM 17 6,oO 18 (.bldSl false 2 1 (.sl []) [(0,(.t 16)),(1,(.t 17))]),oO 19 (.call 90 [(.t 18)] none),oO 20 (.call 141 [(.t 19)] (some (0,1))),oM 4 20]) (.ret)))),[(4,none)]⟩
theorem Yr:aG Tryz.prog { own:=[20],comp:=[],frz:=[],nils:=[] } Tryz.f126=some Ns:=by kernel_rfl
theorem aal (G:ah) (hF:G.at 0=some (.ra (dR.map wD))) (hG:G.at 1=some (.ra (bK.map wD))) (key b:List UInt8) (hk:key.length≤140737488355328) (hb:b.length≤70368744177664):aw Tryz.prog G 126 [.sl (key.map bD),.sl (b.map bD)] (.w (.c (.fr 1 ((jc key b).map bD)))):=by
  refine aI Tryz.func126 Yr rfl rfl ?_;have h1:=gV G [cx key 54,b] (by simp) (by simp[mM]; omega);have h2:=gV G [cx key 92,cC (cx key 54++b)] (by simp) (by simp[mM,ie]);have f1:[cx key 54,b].flatten=cx key 54++b:=by simp
  have f2:[cx key 92,cC (cx key 54++b)].flatten=cx key 92++cC (cx key 54++b):=by simp
  rw[f1] at h1;rw[f2] at h2;have hl:=IL key;have hm1:(cx key 54++b).length≤140737488355328:=by rw[aba,mM]; omega
  have hm2:(cx key 92++cC (cx key 54++b)).length≤140737488355328:=by rw[aba,mM,ie]; decide
  have hs:=ie (cx key 92++cC (cx key 54++b));have hmac:jc key b=cC (cx key 92++cC (cx key 54++b)):=rfl;rw[hmac];simp only[Ns,af,ae,aa,seval,iteOmega,toNatUp];refine sD (Wg G hF hG key hk) ?_;refine sD (IR G (kO key) hl 54) ?_;refine sD (h1) ?_;refine sD (w6 G hF hG _ hm1) ?_;refine sD (IR G (kO key) hl 92) ?_;refine sD (h2) ?_;refine sD (w6 G hF hG _ hm2) ?_;exact dA
def iN (k:List UInt8) (x:UInt8) (i:Nat):List UInt8:=((fG k).take i).map (fun b=>au b x)++List.replicate (64-i) 0
theorem Uf {k:List UInt8} (hk:k.length≤64) (x:UInt8) (i:Nat) (hi:i≤64):(iN k x i).length=64:=by
  unfold iN;rw[aba,abh,abg,lM hk,abC]; omega
theorem Ug {k:List UInt8} (hk:k.length≤64) (x:UInt8) (i:Nat) (hi:i<64):(iN k x i)[i]?=some 0:=by
  unfold iN;rw[abE (by rw[abh,abg]; omega),abh,abg,lM hk,acX,if_pos (by omega)]
theorem Gk {k:List UInt8} (hk:k.length≤64) (x a:UInt8) (i:Nat) (hi:i<64) (ha:(fG k)[i]?=some a):(iN k x i).set i (au a x)=iN k x (i+1):=by
  have h:=rD (((fG k).take i).map (fun b=>au b x)) 0 (au a x) (64-i) (by omega);have hl:(((fG k).take i).map (fun b=>au b x)).length=i:=by rw[abh,abg,lM hk]; omega
  rw[hl] at h;unfold iN;rw[h,aco,ha,abk];rfl
theorem Wh (k:List UInt8) (i:Nat) (h:i<k.length):(fG k)[i]?=some k[i]:=by
  unfold fG;rw[abO h,aa7 h]
theorem Wi (k:List UInt8) (i:Nat) (h:k.length≤i) (h2:i<64):(fG k)[i]?=some 0:=by
  unfold fG;rw[abE h,acX,if_pos (by omega)]
theorem Gl (k:List UInt8) (x:UInt8):iN k x 0=List.replicate 64 0:=by simp[iN]
theorem Sx {k:List UInt8} (hk:k.length≤64) (x:UInt8):iN k x 64=(fG k).map fun b=>au b x:=by
  unfold iN;rw[aa9 (by rw[lM hk]; exact abl _),ac5,acv,abm]
def sU (k:List UInt8) (x:UInt8) (i:Nat):St:=⟨aQ [(0,.w (.c (.d (.sl (k.map bD))))),(1,.w (.c (.d (bD x)))),(5,.w (.c (.own 1 1 0 64))),(6,.w (.c (.d (.int .i64 (i:Int)))))],hL [(1,.row 1 ((iN k x i).map bD))],uL [1]⟩
def qX:aN := .seq (.seq (.reg [oM 13 6,oO 14 (.bin .lss (.t 13) (kI 64))]) (.cond (.t 14) (.skip) (.exit 0))) (.seq (.block 1 (.seq (.seq (.reg [oM 17 6,oM 18 0,oO 19 (.len (.t 18)),oO 20 (.bin .lss (.t 17) (.t 19))]) (.cond (.t 20) (.reg [oM 21 5,oM 22 6,oM 23 0,oM 24 6,oO 25 (.idxSl 1 (.t 23) (.t 24)),oO 26 (.load .sc (.t 25)),oO 27 (.idxSl 1 (.t 21) (.t 22)),oN (.store .sc (.t 27) (.t 26))]) (.skip))) (.reg [oM 28 5,oM 29 6,oM 30 5,oM 31 6,oO 32 (.idxSl 1 (.t 30) (.t 31)),oO 33 (.load .sc (.t 32)),oM 34 1,oO 35 (.bin .xor (.t 33) (.t 34)),oO 36 (.idxSl 1 (.t 28) (.t 29)),oN (.store .sc (.t 36) (.t 35))]))) (.reg [oM 15 6,oO 16 (.bin .add (.t 15) (kI 1)),oM 6 16]))
def Aa:aH:=⟨2,38,.seq (.reg [oO 4 (.mv (.k (.c .nil)))]) (.seq (.seq (.reg [oM 7 0,oO 8 (.len (.t 7)),oO 9 (.bin .gtr (.t 8) (kI 64))]) (.cond (.t 9) (.reg [oM 10 0,oO 11 (.call 84 [(.t 10)] none),oM 0 11]) (.skip))) (.seq (.reg [oO 12 (.make true 1 1 (.int .u8 0) (kI 64) (kI 64)),oM 5 12]) (.seq (.seq (.reg [oO 6 (.mv (kI 0))]) (.block 0 (.loop qX))) (.seq (.reg [oM 37 5,oM 4 37]) (.ret))))),[(4,none)]⟩
theorem Uh:aG Tryz.prog { own:=[],comp:=[],frz:=[],nils:=[] } Tryz.f143=some Aa:=by kernel_rfl
theorem Lb (G:ah) (k:List UInt8) (hk:k.length≤64) (x:UInt8) (Q:AX→St→Prop) (σ:St) (he:eP σ (sU k x 0)) (hq:∀ f,f 5=.w (.c (.own 1 1 0 64))→Q (.ex 0) ⟨f,hL [(1,.row 1 (((fG k).map fun b=>au b x).map bD))],uL [1]⟩):bI Tryz.prog G (.loop qX) Q σ:=by
  refine aU (sU k x) (fun i=>64-i) (fun i=>i≤64) 0 (abc _) he ?_;intro i hi;have hl:=Uf hk x i hi;by_cases hlt:i<64
  ·have h1:=Ug hk x i hlt;have h3:i<(iN k x i).length:=by omega
   by_cases hkl:i<k.length
   ·have h2:=Gk hk x k[i] i hlt (Wh k i hkl);have e2:k[i]?=some k[i]:=aa7 hkl;have h4:((iN k x i).set i k[i])[i]?=some k[i]:=by rw[List.getElem?_set_self h3]
    have h5:i<((iN k x i).set i k[i]).length:=by rw[aci]; exact h3
    simp only[qX,sU,ae,aa,seval,iteOmega,toNatUp,aC,h1,e2,dH h3 (du _),eV,h4,dH h5 (du _),List.set_set,h2];refine aM (i+1) (by omega) (by omega) (aj (fun _=>1) ?_ ?_ rfl rfl) <;> simp only[wx,ai,am,aa,seval,iteOmega,toNatUp]
   ·have h2:=Gk hk x 0 i hlt (Wi k i (by omega) hlt);simp only[qX,sU,ae,aa,seval,iteOmega,toNatUp,aC,h1,dH h3 (du _),eV,h2];refine aM (i+1) (by omega) (by omega) (aj (fun _=>1) ?_ ?_ rfl rfl) <;> simp only[wx,ai,am,aa,seval,iteOmega,toNatUp]
  ·obtain rfl:i=64:=by omega
   simp only[qX,sU,ae,aa,seval,iteOmega,toNatUp,Sx hk x];exact hq _ (by simp only[ae,aa,seval,iteOmega,toNatUp])
theorem Lc (G:ah) (key:List UInt8) (hb:key.length≤140737488355328) (x:UInt8):aw Tryz.prog G 143 [.sl (key.map bD),bD x] (.w (.c (.fr 1 ((cx key x).map bD)))):=by
  refine aI Tryz.func143 Uh rfl rfl ?_;by_cases h:64<key.length
  ·have e:cx key x=(fG (cC key)).map fun b=>au b x:=by unfold cx kO oP; rw[if_pos h]
   have hl:=ie key;rw[e];simp only[Aa,af,ae,aa,seval,iteOmega,toNatUp];refine sD (pQ G key hb) ?_;generalize cC key=s at *
   refine Lb G s (by omega) x _ _ (aj (fun _=>96) ?_ ?_ rfl rfl) fun f hf=>?_
   ·simp only[wx,ai,am,aa,seval,iteOmega,toNatUp]
   ·simp only[wx,ai,am,aa,seval,iteOmega,toNatUp,Gl];rfl
   ·simp only[ae,aa,seval,iteOmega,toNatUp,hf];exact dE (id:=1) (n:=64) (s:=1) (by simp only[wx,aa,seval,iteOmega,toNatUp,hf]) (by simp only[wx,aa,seval,iteOmega,toNatUp]) (by rw[abh,abh,lM (by omega)])
  ·have e:cx key x=(fG key).map fun b=>au b x:=by unfold cx kO oP; rw[if_neg h]
   rw[e];simp only[Aa,af,ae,aa,seval,iteOmega,toNatUp];refine Lb G key (by omega) x _ _ (aj (fun _=>96) ?_ ?_ rfl rfl) fun f hf=>?_
   ·simp only[wx,ai,am,aa,seval,iteOmega,toNatUp]
   ·simp only[wx,ai,am,aa,seval,iteOmega,toNatUp,Gl];rfl
   ·simp only[ae,aa,seval,iteOmega,toNatUp,hf];exact dE (id:=1) (n:=64) (s:=1) (by simp only[wx,aa,seval,iteOmega,toNatUp,hf]) (by simp only[wx,aa,seval,iteOmega,toNatUp]) (by rw[abh,abh,lM (by omega)])
def Ld:aH:=⟨2,16,.seq (.reg [oO 4 (.mv (.k (.c .nil)))]) (.seq (.reg [oM 5 0,oO 6 (.call 143 [(.t 5),(.k (.c (.d (.int .u8 92))))] none),oM 7 0,oO 8 (.call 143 [(.t 7),(.k (.c (.d (.int .u8 54))))] none),oM 9 1,oO 10 (.bldSl false 2 1 (.sl []) [(0,(.t 8)),(1,(.t 9))]),oO 11 (.call 43 [(.t 10)] none),oO 12 (.call 84 [(.t 11)] none),oO 13 (.bldSl false 2 1 (.sl []) [(0,(.t 6)),(1,(.t 12))]),oO 14 (.call 43 [(.t 13)] none),oO 15 (.call 84 [(.t 14)] (some (0,1))),oM 4 15]) (.ret)),[(4,none)]⟩
theorem Wj:aG Tryz.prog { own:=[15],comp:=[],frz:=[],nils:=[] } Tryz.f127=some Ld:=by kernel_rfl
theorem Nt (G:ah) (key b:List UInt8) (hk:key.length≤140737488355328) (hb:b.length≤70368744177664):aw Tryz.prog G 127 [.sl (key.map bD),.sl (b.map bD)] (.w (.c (.fr 1 ((jc key b).map bD)))):=by
  refine aI Tryz.func127 Wj rfl rfl ?_;have h1:=fQ G [cx key 54,b] (by simp) (by simp[mM]; omega);have h2:=fQ G [cx key 92,cC (cx key 54++b)] (by simp) (by simp[mM,ie]);have f1:[cx key 54,b].flatten=cx key 54++b:=by simp
  have f2:[cx key 92,cC (cx key 54++b)].flatten=cx key 92++cC (cx key 54++b):=by simp
  rw[f1] at h1;rw[f2] at h2;have hm1:(cx key 54++b).length≤140737488355328:=by rw[aba,mM]; omega
  have hm2:(cx key 92++cC (cx key 54++b)).length≤140737488355328:=by rw[aba,mM,ie]; decide
  have hs:=ie (cx key 92++cC (cx key 54++b));have hmac:jc key b=cC (cx key 92++cC (cx key 54++b)):=rfl;rw[hmac];simp only[Ld,af,ae,aa,seval,iteOmega,toNatUp];refine sD (Lc G key hk 92) ?_;refine sD (Lc G key hk 54) ?_;refine sD (h1) ?_;refine sD (pQ G _ hm1) ?_;refine sD (h2) ?_;refine sD (pQ G _ hm2) ?_;exact dA
def Le:aH:=⟨2,8,.seq (.reg [oO 4 (.mv (.k (.c .nil)))]) (.seq (.reg [oM 5 0,oM 6 1,oO 7 (.call 127 [(.t 5),(.t 6)] (some (0,1))),oM 4 7]) (.ret)),[(4,none)]⟩
theorem Wl:aG Tryz.prog { own:=[7],comp:=[],frz:=[],nils:=[] } Tryz.f100=some Le:=by kernel_rfl
theorem Ys (G:ah) (key b:List UInt8) (hk:key.length≤140737488355328) (hb:b.length≤70368744177664):aw Tryz.prog G 100 [.sl (key.map bD),.sl (b.map bD)] (.w (.c (.fr 1 ((jc key b).map bD)))):=by
  refine aI Tryz.func100 Wl rfl rfl ?_;simp only[Le,af,ae,aa,seval,iteOmega,toNatUp];refine sD (Nt G key b hk hb) ?_;exact dA
def mu (n:Int):Int:=if 0≤n∧n≤8160 then 0 else 4
def ju (key info:List UInt8) (n:Int):List UInt8:=if 0≤n∧n≤8160 then jd key info n.toNat else []
theorem mQ {n:Int} (h:0≤n∧n≤8160):mu n=0:=if_pos h
theorem lT (key info:List UInt8) {n:Int} (h:0≤n∧n≤8160):ju key info n=jd key info n.toNat:=if_pos h
theorem uT {n:Int} (h:¬ (0≤n∧n≤8160)):mu n=4:=if_neg h
theorem uU (key info:List UInt8) {n:Int} (h:¬ (0≤n∧n≤8160)):ju key info n=[]:=if_neg h
def iO (key info:List UInt8) (n i:Nat):List UInt8:=(iM key info i).take n
theorem IU (key info:List UInt8) (n i:Nat):(iO key info n i).length=min n (32*i):=by
  unfold iO; rw[abg,pu]
theorem Sy (key info:List UInt8) (n i:Nat) (h:32*i≤n):iO key info n i++(eY key info (i+1)).take (n-32*i)=iO key info n (i+1):=by
  unfold iO;rw[iM,List.take_append,pu]
theorem Gm (key info:List UInt8) (i:Nat):jc key (eY key info i++info++[UInt8.ofNat (i+1)])=eY key info (i+1):=rfl
theorem aaZ (v:Nat):aV v 1=[UInt8.ofNat v]:=by simp[aV]
def jL (key info:List UInt8):Nat→V
  | 0=>.w (.c .nil)
  | i+1=>.w (.c (.d (.sl ((eY key info (i+1)).map bD))))
theorem Wm (a b:Nat):List.foldl (fun x y:Int=>if y<x then y else x) (a:Int) [(b:Int)]=((min a b:Nat):Int):=by
  simp only[acD,List.foldl_nil];split <;> omega
def w8 (key info:List UInt8) (n i:Nat):St:=⟨aQ [(0,.w (.c (.d (.sl (key.map bD))))),(1,.w (.c (.d (.sl (info.map bD))))),(2,.w (.c (.d (.int .i64 (n:Int))))),(8,.w (.c (.own 1 1 0 (iO key info n i).length))),(9,jL key info i),(10,.w (.c (.d (.int .u64 ((i+1:Nat):Int)))))],hL [(1,.row 1 ((iO key info n i).map bD))],uL [1]⟩
def uV:aN := .seq (.seq (.reg [oM 19 8,oO 20 (.len (.t 19)),oM 21 2,oO 22 (.bin .lss (.t 20) (.t 21))]) (.cond (.t 22) (.skip) (.exit 0))) (.seq (.block 1 (.seq (.reg [oM 25 0,oM 26 9,oM 27 1,oM 28 10,oO 29 (.call 91 [(.t 28),(kI 1)] none),oO 30 (.bldSl false 3 1 (.sl []) [(0,(.t 26)),(1,(.t 27)),(2,(.t 29))]),oO 31 (.call 90 [(.t 30)] none),oO 32 (.call 126 [(.t 25),(.t 31)] none),oM 9 32]) (.reg [oM 33 8,oM 34 9,oM 35 9,oO 36 (.len (.t 35)),oM 37 2,oM 38 8,oO 39 (.len (.t 38)),oO 40 (.bin .sub (.t 37) (.t 39)),oO 41 (.min [(.t 36),(.t 40)]),oO 42 (.slice 1 (.t 34) none (some (.t 41)) none),oO 43 (.app false 1 1 (.t 33) (.t 42)),oM 8 43]))) (.reg [oM 23 10,oO 24 (.bin .add (.t 23) (.k (.c (.d (.int .u64 1))))),oM 10 24]))
def v9:aH:=⟨3,45,.seq (.reg [oO 6 (.mv (.k (.c .nil))),oO 7 (.mv (kI 0))]) (.seq (.seq (.reg [oM 11 2,oO 12 (.bin .lss (.t 11) (kI 0)),oM 13 12,oG 14 (.mv (.t 2)) 13 false,oG 15 (.bin .gtr (.t 14) (kI 8160)) 13 false,oO 16 (.pick (.t 13) (.k (.c (.d (.bool true)))) (.t 15))]) (.cond (.t 16) (.seq (.reg [oO 6 (.mv (.k (.c .nil))),oO 7 (.mv (kI 4))]) (.ret)) (.skip))) (.seq (.reg [oM 17 2,oO 18 (.make true 1 1 (.int .u8 0) (kI 0) (.t 17)),oM 8 18]) (.seq (.reg [oO 9 (.mv (.k (.c .nil)))]) (.seq (.seq (.reg [oO 10 (.mv (.k (.c (.d (.int .u64 1)))))]) (.block 0 (.loop uV))) (.seq (.reg [oM 44 8,oM 6 44,oO 7 (.mv (kI 0))]) (.ret)))))),[(6,none),(7,none)]⟩
theorem Yt:aG Tryz.prog { own:=[],comp:=[],frz:=[],nils:=[] } Tryz.f128=some v9:=by kernel_rfl
theorem CP (G:ah) (hF:G.at 0=some (.ra (dR.map wD))) (hG:G.at 1=some (.ra (bK.map wD))) (key info:List UInt8) (hk:key.length≤140737488355328) (hb:info.length≤35184372088832) (n:Int) (hn1:-9223372036854775808≤n) (hn2:n≤9223372036854775807):aw Tryz.prog G 128 [.sl (key.map bD),.sl (info.map bD),.int .i64 n] (.tup [.c (.d (.sl ((ju key info n).map bD))),.c (.d (.int .i64 (mu n)))]):=by
  refine aI Tryz.func128 Yt rfl rfl ?_;by_cases h0:n<0
  ·have hc:¬ (0≤n∧n≤8160):=by omega
   rw[uT hc,uU key info hc];simp only[v9,af,ae,aa,seval,iteOmega,toNatUp];exact aE
  ·by_cases h1:8160<n
   ·have hc:¬ (0≤n∧n≤8160):=by omega
    rw[uT hc,uU key info hc];simp only[v9,af,ae,aa,seval,iteOmega,toNatUp];exact aE
   ·have hc:0≤n∧n≤8160:=by omega
    rw[mQ hc,lT key info hc];obtain⟨m,rfl⟩:=ab7 hc.1;rw[adb];simp only[v9,af,ae,aa,seval,iteOmega,toNatUp];refine aU (w8 key info m) (fun i=>(m+31) / 32-i) (fun i=>i≤(m+31) / 32) 0 (abc _) ?_ ?_
    ·refine aj (fun _=>144) ?_ ?_ rfl rfl <;> simp only[wx,ai,am,aa,seval,iteOmega,toNatUp,iO,iM,jL]
    ·intro i hi;have hl:=IU key info m i;have hp:=Gi key info i;by_cases hlt:i<(m+31) / 32
     ·have h32:32*i≤m:=by omega
      have hl:(iO key info m i).length=32*i:=by omega
      have hj:=gV G [eY key info i,info,aV (i+1) 1] (by simp) (by simp[bU]; omega);have hf:[eY key info i,info,aV (i+1) 1].flatten=eY key info i++info++[UInt8.ofNat (i+1)]:=by simp[aaZ]
      rw[hf] at hj;have hm:=aal G hF hG key (eY key info i++info++[UInt8.ofNat (i+1)]) hk (by simp; omega);rw[Gm] at hm;have hl2:(eY key info (i+1)).length=32:=pq _ _;have hs:=Sy key info m i h32;have hs2:=IU key info m (i+1);have hmin:=Wm 32 (m-32*i);rw[show ((m-32*i:Nat):Int)=(m:Int)-32*(i:Int) by omega] at hmin;have hs':iO key info m i++(eY key info (i+1)).take (min 32 (m-32*i))=iO key info m (i+1):=by
        rw[← hs]; congr 1
        rw[Nat.min_comm,← List.take_take,aa9 (l:=eY key info (i+1)) (by omega)]
      have hlt2:((iO key info m i).length:Int)<(m:Int):=by omega
      have hmm:min 32 (m-32*i)≤32:=by omega
      have hml:((eY key info (i+1)).take (min 32 (m-32*i))).length=min 32 (m-32*i):=by rw[abg,hl2]; omega
      have hcl:(iO key info m (i+1)).length=32*i+min 32 (m-32*i):=by omega
      generalize hq:min 32 (m-32*i)=q at *
      rcases i with _ | i
      ·simp only[acx,acT,ac8,acu,Int.mul_zero,Int.sub_zero,acM,ab5] at hmin hl hl2 hs' hml hcl;simp only[uV,w8,jL,ae,aa,seval,iteOmega,toNatUp];refine sD (na G (0+1) 1 (by decide)) ?_;refine sD (hj) ?_;refine sD (hm) ?_;simp only[ae,aa,seval,iteOmega,toNatUp,hl2,hl,hmin,hml,hs',a7,Int.sub_zero];refine aM (0+1) (by omega) (by omega) (aj (fun _=>344) ?_ ?_ rfl rfl) <;> simp only[wx,ai,am,aa,seval,iteOmega,toNatUp,jL,hcl]
      ·simp only[acx,acT,ac8,acu] at hmin;simp only[uV,w8,jL,ae,aa,seval,iteOmega,toNatUp];refine sD (na G (i+1+1) 1 (by decide)) ?_;refine sD (hj) ?_;refine sD (hm) ?_;simp only[ae,aa,seval,iteOmega,toNatUp,hl2,hl,hmin,hml,hs',a7];refine aM (i+1+1) (by omega) (by omega) (aj (fun _=>344) ?_ ?_ rfl rfl) <;> simp only[wx,ai,am,aa,seval,iteOmega,toNatUp,jL,hcl]
     ·obtain rfl:i=(m+31) / 32:=by omega
      have hlt2:¬ ((iO key info m ((m+31) / 32)).length:Int)<(m:Int):=by omega
      have he:iO key info m ((m+31) / 32)=jd key info m:=rfl;rw[he] at hlt2;simp only[uV,w8,ae,aa,seval,iteOmega,toNatUp,he];exact aE
def wa (key info:List UInt8) (n i:Nat):St:=⟨aQ [(0,.w (.c (.d (.sl (key.map bD))))),(1,.w (.c (.d (.sl (info.map bD))))),(2,.w (.c (.d (.int .i64 (n:Int))))),(8,.w (.c (.own 1 1 0 (iM key info i).length))),(9,jL key info i),(10,.w (.c (.d (.int .i64 ((i+1:Nat):Int)))))],hL [(1,.row 1 ((iM key info i).map bD))],uL [1]⟩
def um:aN := .seq (.seq (.reg [oM 19 8,oO 20 (.len (.t 19)),oM 21 2,oO 22 (.bin .lss (.t 20) (.t 21))]) (.cond (.t 22) (.skip) (.exit 0))) (.seq (.block 1 (.seq (.reg [oM 25 0,oM 26 9,oM 27 1,oM 28 10,oO 29 (.conv .u8 (.t 28)),oO 30 (.bldSl false 1 1 (.int .u8 0) [(0,(.t 29))]),oO 31 (.bldSl false 3 1 (.sl []) [(0,(.t 26)),(1,(.t 27)),(2,(.t 30))]),oO 32 (.call 43 [(.t 31)] none),oO 33 (.call 127 [(.t 25),(.t 32)] none),oM 9 33]) (.reg [oM 34 8,oM 35 9,oO 36 (.app false 1 1 (.t 34) (.t 35)),oM 8 36]))) (.reg [oM 23 10,oO 24 (.bin .add (.t 23) (kI 1)),oM 10 24]))
def vB:aH:=⟨3,40,.seq (.reg [oO 6 (.mv (.k (.c .nil))),oO 7 (.mv (kI 0))]) (.seq (.seq (.reg [oM 11 2,oO 12 (.bin .lss (.t 11) (kI 0)),oM 13 12,oG 14 (.mv (.t 2)) 13 false,oG 15 (.bin .gtr (.t 14) (kI 8160)) 13 false,oO 16 (.pick (.t 13) (.k (.c (.d (.bool true)))) (.t 15))]) (.cond (.t 16) (.seq (.reg [oO 6 (.mv (.k (.c .nil))),oO 7 (.mv (kI 4))]) (.ret)) (.skip))) (.seq (.reg [oO 17 (.bldSl true 0 1 (.int .u8 0) []),oO 18 (.bldSl false 0 1 (.int .u8 0) []),oM 8 17,oM 9 18]) (.seq (.seq (.reg [oO 10 (.mv (kI 1))]) (.block 0 (.loop um))) (.seq (.reg [oM 37 8,oM 38 2,oO 39 (.slice 1 (.t 37) none (some (.t 38)) none),oM 6 39,oO 7 (.mv (kI 0))]) (.ret))))),[(6,none),(7,none)]⟩
theorem Wn:aG Tryz.prog { own:=[17],comp:=[],frz:=[],nils:=[] } Tryz.f101=some vB:=by kernel_rfl
theorem Nu (G:ah) (key info:List UInt8) (hk:key.length≤140737488355328) (hb:info.length≤35184372088832) (n:Int) (hn1:-9223372036854775808≤n) (hn2:n≤9223372036854775807):aw Tryz.prog G 101 [.sl (key.map bD),.sl (info.map bD),.int .i64 n] (.tup [.c (.fr 1 ((ju key info n).map bD)),.c (.d (.int .i64 (mu n)))]):=by
  refine aI Tryz.func101 Wn rfl rfl ?_;by_cases h0:n<0
  ·have hc:¬ (0≤n∧n≤8160):=by omega
   rw[uT hc,uU key info hc];simp only[vB,af,ae,aa,seval,iteOmega,toNatUp];exact bY
  ·by_cases h1:8160<n
   ·have hc:¬ (0≤n∧n≤8160):=by omega
    rw[uT hc,uU key info hc];simp only[vB,af,ae,aa,seval,iteOmega,toNatUp];exact bY
   ·have hc:0≤n∧n≤8160:=by omega
    rw[mQ hc,lT key info hc];obtain⟨m,rfl⟩:=ab7 hc.1;rw[adb];simp only[vB,af,ae,aa,seval,iteOmega,toNatUp];refine aU (wa key info m) (fun i=>(m+31) / 32-i) (fun i=>i≤(m+31) / 32) 0 (abc _) ?_ ?_
    ·refine aj (fun _=>136) ?_ ?_ rfl rfl <;> simp only[wx,ai,am,aa,seval,iteOmega,toNatUp,iM,jL]
    ·intro i hi;have hl:=pu key info i;have hp:=Gi key info i;by_cases hlt:i<(m+31) / 32
     ·have hj:=fQ G [eY key info i,info,[UInt8.ofNat (i+1)]] (by simp) (by simp; omega);have hf:[eY key info i,info,[UInt8.ofNat (i+1)]].flatten=eY key info i++info++[UInt8.ofNat (i+1)]:=by simp
      rw[hf] at hj;have hm:=Nt G key (eY key info i++info++[UInt8.ofNat (i+1)]) hk (by simp; omega);rw[Gm] at hm;have hl2:(eY key info (i+1)).length=32:=pq _ _;have hs':iM key info i++eY key info (i+1)=iM key info (i+1):=rfl;have hcl:(iM key info (i+1)).length=32*i+32:=by rw[pu]; omega
      rcases i with _ | i
      ·simp only[acx,acT,ac8,acu,Int.mul_zero,Int.sub_zero,acM,ab5] at hl hl2 hs' hcl;simp only[um,wa,jL,ae,aa,seval,iteOmega,toNatUp];refine sD (hj) ?_;refine sD (hm) ?_;simp only[ae,aa,seval,iteOmega,toNatUp,hl2,hl,hs',a7,Int.sub_zero];refine aM (0+1) (by omega) (by omega) (aj (fun _=>288) ?_ ?_ rfl rfl) <;> simp only[wx,ai,am,aa,seval,iteOmega,toNatUp,jL,hcl]
      ·have hby:D.int .u8 ((i:Int)+1+1)=bD (UInt8.ofNat (i+1+1)):=by rw[← byte_of,IntWalk.u8_in _ (by omega)]; rfl
       simp only[um,wa,jL,ae,aa,seval,iteOmega,toNatUp,hby];refine sD (hj) ?_;refine sD (hm) ?_;simp only[ae,aa,seval,iteOmega,toNatUp,hl2,hl,hs',a7];refine aM (i+1+1) (by omega) (by omega) (aj (fun _=>288) ?_ ?_ rfl rfl) <;> simp only[wx,ai,am,aa,seval,iteOmega,toNatUp,jL,hcl]
     ·obtain rfl:i=(m+31) / 32:=by omega
      have he:(iM key info ((m+31) / 32)).take m=jd key info m:=rfl;have hle:m≤(iM key info ((m+31) / 32)).length:=by omega
      simp only[um,wa,ae,aa,seval,iteOmega,toNatUp];rw[← he,List.map_take];exact Q9 (id:=1) (s:=1) (by simp only[ae,aa,seval,iteOmega,toNatUp]) (by simp only[ae,aa,seval,iteOmega,toNatUp]) (by rw[abh]; exact hle) (by simp only[ae,aa,seval,iteOmega,toNatUp])
theorem wb (G:ah) (key info:List UInt8) (hk:key.length≤140737488355328) (hb:info.length≤35184372088832) (n:Int) (hn1:-9223372036854775808≤n) (hn2:n≤9223372036854775807):aw Tryz.prog G 101 [.sl (key.map bD),.sl (info.map bD),.int .i64 n] (.tup [.c (.d (.sl ((ju key info n).map bD))),.c (.d (.int .i64 (mu n)))]):=mP (Nu G key info hk hb n hn1 hn2)
def Nv:aH:=⟨3,19,.seq (.reg [oO 6 (.mv (.k (.c .nil)))]) (.seq (.reg [oO 8 (.bldSl false 1 1 (.int .u8 0) [(0,(.k (.c (.d (.int .u8 0)))))]),oM 7 8]) (.seq (.reg [oM 9 0,oO 10 (.s2b false (.t 9)),oM 11 7,oM 12 1,oO 13 (.s2b false (.t 12)),oM 14 7,oM 15 2,oO 16 (.call 141 [(.t 15)] none),oO 17 (.bldSl false 5 1 (.sl []) [(0,(.t 10)),(1,(.t 11)),(2,(.t 13)),(3,(.t 14)),(4,(.t 16))]),oO 18 (.call 90 [(.t 17)] (some (0,1))),oM 6 18]) (.ret))),[(6,none)]⟩
theorem Yu:aG Tryz.prog { own:=[18],comp:=[],frz:=[],nils:=[] } Tryz.f130=some Nv:=by kernel_rfl
theorem aam (G:ah) (hF:G.at 0=some (.ra (dR.map wD))) (hG:G.at 1=some (.ra (bK.map wD))) (p n:ByteArray) (c:List UInt8) (hp:p.size≤1099511627776) (hn:n.size≤1099511627776) (hc:c.length≤140737488355328):aw Tryz.prog G 130 [.str p,.str n,.sl (c.map bD)] (.w (.c (.fr 1 ((je p.data.toList n.data.toList c).map bD)))):=by
  refine aI Tryz.func130 Yu rfl rfl ?_;have hp':p.data.toList.length=p.size:=rfl;have hn':n.data.toList.length=n.size:=rfl;have hj:=gV G [p.data.toList,[0],n.data.toList,[0],cC c] (by simp) (by simp[ie]; omega);have hf:[p.data.toList,[0],n.data.toList,[0],cC c].flatten=je p.data.toList n.data.toList c:=by simp[je]
  rw[hf] at hj;have hpm:p.size≤maxLen:=by unfold maxLen; omega
  have hnm:n.size≤maxLen:=by unfold maxLen; omega
  simp only[Nv,af,ae,aa,seval,iteOmega,toNatUp,hpm,hnm];refine sD (w6 G hF hG c hc) ?_;refine sD (hj) ?_;exact dA
def Lf:aH:=⟨3,17,.seq (.reg [oO 6 (.mv (.k (.c .nil)))]) (.seq (.reg [oM 7 0,oO 8 (.s2b false (.t 7)),oO 9 (.bldSl false 1 1 (.int .u8 0) [(0,(.k (.c (.d (.int .u8 0)))))]),oM 10 1,oO 11 (.s2b false (.t 10)),oO 12 (.bldSl false 1 1 (.int .u8 0) [(0,(.k (.c (.d (.int .u8 0)))))]),oM 13 2,oO 14 (.call 84 [(.t 13)] none),oO 15 (.bldSl false 5 1 (.sl []) [(0,(.t 8)),(1,(.t 9)),(2,(.t 11)),(3,(.t 12)),(4,(.t 14))]),oO 16 (.call 43 [(.t 15)] (some (0,1))),oM 6 16]) (.ret)),[(6,none)]⟩
theorem Wo:aG Tryz.prog { own:=[16],comp:=[],frz:=[],nils:=[] } Tryz.f106=some Lf:=by kernel_rfl
theorem Yv (G:ah) (p n:ByteArray) (c:List UInt8) (hp:p.size≤1099511627776) (hn:n.size≤1099511627776) (hc:c.length≤140737488355328):aw Tryz.prog G 106 [.str p,.str n,.sl (c.map bD)] (.w (.c (.fr 1 ((je p.data.toList n.data.toList c).map bD)))):=by
  refine aI Tryz.func106 Wo rfl rfl ?_;have hp':p.data.toList.length=p.size:=rfl;have hn':n.data.toList.length=n.size:=rfl;have hj:=fQ G [p.data.toList,[0],n.data.toList,[0],cC c] (by simp) (by simp[ie]; omega);have hf:[p.data.toList,[0],n.data.toList,[0],cC c].flatten=je p.data.toList n.data.toList c:=by simp[je]
  rw[hf] at hj;have hpm:p.size≤maxLen:=by unfold maxLen; omega
  have hnm:n.size≤maxLen:=by unfold maxLen; omega
  simp only[Lf,af,ae,aa,seval,iteOmega,toNatUp,hpm,hnm];refine sD (pQ G c hc) ?_;refine sD (hj) ?_;exact dA
theorem pR (G:ah) (v:Nat) (k:Int) (hk:0≤k∧k≤64):aw Tryz.prog G 91 [.int .u64 (v:Int),.int .i64 k] (.w (.c (.fr 1 ((aV v k.toNat).map bD)))):=by
  have c:=Z4 G v k;rw[show qv v k=aV v k.toNat from if_pos hk] at c;exact c
theorem rV (G:ah) (v:Nat) (k:Int) (hk:0≤k∧k≤64):aw Tryz.prog G 44 [.int .u64 (v:Int),.int .i64 k] (.w (.c (.fr 1 ((aV v k.toNat).map bD)))):=by
  have c:=Xn G v k;rw[show qv v k=aV v k.toNat from if_pos hk] at c;exact c
def BK (l:List UInt8) (i:Nat):St:=⟨aQ [(0,.w (.c (.d (.sl (l.map bD))))),(3,.w (.c (.d (.int .u64 (aY (l.take i)))))),(4,.w (.c (.d (.int .i64 (i:Int)))))],hL [],uL []⟩
def zm:aN := .seq (.seq (.reg [oM 5 4,oM 6 0,oO 7 (.len (.t 6)),oO 8 (.bin .lss (.t 5) (.t 7))]) (.cond (.t 8) (.skip) (.exit 0))) (.seq (.block 1 (.reg [oM 11 3,oO 12 (.bin .shl (.t 11) (.k (.c (.d (.int .u64 8))))),oM 13 0,oM 14 4,oO 15 (.idxSl 1 (.t 13) (.t 14)),oO 16 (.load .sc (.t 15)),oO 17 (.conv .u64 (.t 16)),oO 18 (.bin .or (.t 12) (.t 17)),oM 3 18])) (.reg [oM 9 4,oO 10 (.bin .add (.t 9) (kI 1)),oM 4 10]))
def Li:aH:=⟨1,20,.seq (.reg [oO 2 (.mv (.k (.c (.d (.int .u64 0)))))]) (.seq (.reg [oO 3 (.mv (.k (.c (.d (.int .u64 0)))))]) (.seq (.seq (.reg [oO 4 (.mv (kI 0))]) (.block 0 (.loop zm))) (.seq (.reg [oM 19 3,oM 2 19]) (.ret)))),[(2,none)]⟩
theorem Ws:aG Tryz.prog { own:=[],comp:=[],frz:=[],nils:=[] } Tryz.f49=some Li:=by kernel_rfl
set_option maxHeartbeats 400000 in
theorem sE (G:ah) (l:List UInt8) (hl:l.length≤9223372036854775807):aw Tryz.prog G 49 [.sl (l.map bD)] (.w (.c (.d (.int .u64 (aY l))))):=by
  refine aI Tryz.func49 Ws rfl rfl ?_;simp only[Li,af,ae,aa,seval,iteOmega,toNatUp];refine aU (BK l) (fun i=>l.length-i) (fun i=>i≤l.length) 0 (abc _) ?_ ?_
  ·refine aj (fun i=>i) ?_ ?_ rfl rfl <;> simp only[wx,ai,am,aa,seval,iteOmega,toNatUp] <;> rfl
  ·intro i hi;by_cases hlt:i<l.length
   ·have hb:=l[i].toNat_lt;have e2:l[i]?=some l[i]:=aa7 hlt;have e3:IntKind.u64.wrap (l[i].toNat:Int)=(l[i].toNat:Int):=u64_in _ (by omega) (by omega);have e4:IntKind.i64.wrap ((i:Int)+1)=((i+1:Nat):Int):=by rw[IntWalk.i64_in _ (by omega)]; rfl
    have e5:=FT l i hlt;simp only[zm,BK,wx,aa,seval,iteOmega,toNatUp,aC,e2,IntKind.bits,e3,e4];refine aM (i+1) (by omega) (by omega) (aj id ?_ ?_ rfl rfl) <;> simp only[wx,ai,aa,seval,iteOmega,toNatUp,← e5]
   ·have:l.take i=l:=aa9 (by omega);simp only[zm,BK,wx,aa,seval,iteOmega,toNatUp,this];exact lu (by simp only[wx,aa,seval,iteOmega,toNatUp])

def Lk:aH:=⟨1,5,.seq (.reg [oO 2 (.mv (.k (.c .nil)))]) (.seq (.reg [oM 3 0,oO 4 (.call 35 [(.t 3),(kI 32)] none),oM 2 4]) (.ret)),[(2,none)]⟩
theorem Wv:aG Tryz.prog { own:=[],comp:=[],frz:=[],nils:=[] } Tryz.f59=some Lk:=by kernel_rfl
theorem NJ (G:ah) (seed:Int):aw Tryz.prog G 59 [.int .i64 seed] (.w (.c (.d (.sl ((bE seed 32).map bD))))):=by
  refine aI Tryz.func59 Wv rfl rfl ?_;simp only[Lk,af,ae,aa,seval,iteOmega,toNatUp];refine sD (uS G seed 32 (by decide)) ?_;exact aL
end Go.Proofs.YtlghfnidknfakaaGreatDoor
