/- Texts of one's own, merged: from: Layer 18,without code: packets as data,and what the functions return. Own work. -/
import Derived.Test.YtofonnokanoflaaGreatMz113
import Derived.Test.YtofonnokanoflaaGreatMz110
import Derived.Test.YtofonnokanoflaaGreatMz115
import Derived.Test.YtofonnokanoflaaGreatMz111
import Derived.Test.YtofonnokanoflaaGreatMz114
import Derived.Test.YtofonnokanoflaaGreatMz19
set_option linter.unusedVariables false
set_option linter.unusedSimpArgs false
namespace Go.Proofs.YtofonnokanoflaaGreat
open Go.RowKit
structure cn where
  hd:Hd
  pl:List Fd
  se:List Fd
  gu:Bool
def dL:cn:=⟨Hd.z,[],[],false⟩
def a9 (p:cn):D:=.agg [.int .i64 p.hd.lp,.int .i64 p.hd.vr,.int .i64 p.hd.md,.int .i64 p.hd.st,.int .i64 p.hd.pl,.int .i64 p.hd.pr,.int .u32 (p.hd.rd:Int),.int .u32 (p.hd.rp:Int),.int .u32 (p.hd.ri:Int),.int .u64 (p.hd.rf:Int),.int .u64 (p.hd.og:Int),.int .u64 (p.hd.rc:Int),.int .u64 (p.hd.tr:Int),.sl (p.pl.map aJ),.sl (p.se.map aJ),.bool p.gu]
def cB (p:cn):Int:=if d9 p.hd=0 then bI p.pl else d9 p.hd
def bR (p:cn):List UInt8:=d8 p.hd++be p.pl
def vN (p:cn):List UInt8:=if cB p=0 then bR p else []
def fD (b:List UInt8):Int:=if dz b=0 then cm (b.drop 48) else dz b
def jL (b:List UInt8):cn:=if fD b=0 then ⟨bQ b,aR (b.drop 48),[],false⟩ else dL
def cG (n s:List UInt8):List UInt8:=aI n.length 2++(aI s.length 2++(dJ n 4++dJ s 4))
def dB (n s:List UInt8):Fd:=⟨1028,cG n s⟩
def dU (key:List UInt8) (p:cn) (n:List UInt8):List UInt8:=jb key [bR p,n] (be p.se)
def bS (key:List UInt8) (p:cn) (n:List UInt8):Fd:=dB n (dU key p n)
def dC (key:List UInt8) (p:cn) (n:List UInt8):Int :=
  if key.length≠32 then 5 else if n.length<16∨32<n.length then 4 else if cB p≠0 then cB p else if bI p.se≠0 then bI p.se else if (aS p.pl 1028).length≠0 then 3 else if p.pl.length=24 then 8 else if bI [bS key p n]≠0∨1280<(bR p).length+bY [bS key p n] then 2 else 0
def fF (key:List UInt8) (p:cn) (n:List UInt8):List UInt8:=if dC key p n=0 then bR p++be [bS key p n] else []
def bN (d:List UInt8):Nat:=aZ (aO d 0 2)
def eH (d:List UInt8):Nat:=aZ (aO d 2 2)
def dr (d:List UInt8):Nat:=4+(bN d+3) / 4*4
def br (d:List UInt8):List UInt8:=aO d 4 (bN d)
def bL (d:List UInt8):List UInt8:=aO d (dr d) (eH d)
def dV (d:List UInt8):Prop:=4≤d.length∧16≤bN d∧bN d≤32∧dr d+eH d≤d.length∧cG (br d) (bL d)=d
instance (d:List UInt8):Decidable (dV d):=by unfold dV; infer_instance
def lC (d:List UInt8):List UInt8:=if dV d then br d else []
def lD (d:List UInt8):List UInt8:=if dV d then bL d else []
def bW (b:List UInt8):Nat:=(aR (b.drop 48)).length-1
def bJ (b:List UInt8):List UInt8:=((aR (b.drop 48)).getD (bW b) default).da
def fG (b:List UInt8):List UInt8:=b.take (48+aE (b.drop 48) (bW b))
def kF (key b:List UInt8):Int:=fM key [fG b,br (bJ b)] (bL (bJ b))
def dW (key b:List UInt8):List UInt8:=gJ key [fG b,br (bJ b)] (bL (bJ b))
def fo (key b:List UInt8):Int :=
  if key.length≠32 then 5 else if fD b≠0 then fD b else if (aS (aR (b.drop 48)) 1028).length=0 then 10 else if (aS (aR (b.drop 48)) 1028).getD 0 0≠(bW b:Int)∨¬ dV (bJ b) then 3 else if kF key b≠0 then 6 else cm (dW key b)
def ee (key b:List UInt8):cn:=if fo key b=0 then ⟨bQ b,(aR (b.drop 48)).take (bW b),aR (dW key b),true⟩ else dL
def Yk (n:Int):Nat:=max 16 ((n.toNat+7) / 4*4)
def Nh (l:List Int):Nat:=(l.map Yk).sum
theorem Xr (b:List UInt8):dJ b 4=b++List.replicate (eK b.length 4) 0:=yu b (n:=4) (by decide)
theorem Xs (n:Nat):n+eK n 4=(n+3) / 4*4:=by unfold eK; omega
theorem sI (b:List UInt8):(dJ b 4).length=(b.length+3) / 4*4:=by rw[Xr,Yr,YK,Xs]
theorem mK (n s:List UInt8):(cG n s).length=4+(n.length+3) / 4*4+(s.length+3) / 4*4:=by
  unfold cG;simp only[Yr,dD,sI]; omega
theorem u6 {n s:List UInt8} (h:12≤(cG n s).length):bu (dB n s)=4+(cG n s).length:=by
  have:=mK n s;unfold bu dB;dsimp only;omega
theorem Mv {n s:List UInt8} (h:12≤(cG n s).length) (h2:4+(cG n s).length≤1232):cy (dB n s)=0:=KT (by show (0:Int)≤1028; decide) (by show (1028:Int)≤65535; decide) (by rw[u6 h]; exact h2)
theorem F6 {l:List Fd} {k:Int} (h:∀ f∈l,f.ty≠k):∀ n,n≤l.length→eb l k n=[]
  | 0,_=>rfl
  | n+1,hn=>by
    rw[uZ (h _ (nI (by omega))),F6 h n (by omega)]
theorem Al {h:Hd}:d9 h=0↔iM h=true:=by
  unfold d9;split <;> simp_all
theorem Mw {p:cn} (h:cB p=0):iM p.hd=true∧d9 p.hd=0∧bI p.pl=0:=by
  unfold cB at h;split at h
  ·rename_i h0; exact⟨Al.1 h0,h0,h⟩
  ·rename_i h0; exact absurd h h0
theorem mV {l:List Fd} (h:bI l=0):(∀ f∈l,cy f=0)∧l.length≤24∧bY l≤1232∧dK l=be l:=by
  have hB:dK l=be l:=if_pos h;unfold bI at h;split at h
  ·rename_i h0;split at h
   ·cases h
   ·split at h
    ·cases h
    ·exact⟨qY.1 h0,by omega,by omega,hB⟩
  ·rename_i h0; exact absurd h h0
theorem zG {l:List Fd} (h1:∀ f∈l,cy f=0) (h2:l.length≤24) (h3:bY l≤1232):bI l=0:=(yI (qY.2 h1) h2 h3).1
theorem tN (p:cn):(bR p).length=48+bY p.pl:=by unfold bR; rw[Yr,Tp,iB]
theorem zH {key a n:List UInt8} {m:Int} (hk:key.length=32) (ha:a.length≤65519) (hn:n.length≤65519) (hm:m≤65519):bZ key [a,n] m=0:=Rb hk (by simp) (fun x hx=>by simp at hx; rcases hx with rfl | rfl <;> assumption) hm
structure A5 (key:List UInt8) (p:cn) (n:List UInt8):Prop where
  ky:key.length=32
  n1:16≤n.length
  n2:n.length≤32
  un:cB p=0
  se:bI p.se=0
  no:(aS p.pl 1028).length=0
  lt:p.pl.length≤23
  gd:cy (bS key p n)=0
  all:48+bY p.pl+bu (bS key p n)≤1280
theorem zI {key:List UInt8} {p:cn} {n:List UInt8} (h:A5 key p n):dC key p n=0∧fF key p n=bR p++be [bS key p n]:=by
  have ht:bY [bS key p n]=bu (bS key p n):=by simp[bY]
  have hx:bI [bS key p n]=0:=zG (fun f hf=>by simp at hf; subst hf; exact h.gd) (by simp) (by rw[ht]; exact (oK h.gd).2.2);have e:dC key p n=0:=by
    unfold dC;have a:=h.ky; have b:=h.n1; have c:=h.n2; have d:=h.lt; have f:=h.all
    rw[if_neg (by omega),if_neg (by omega),if_neg (by simp[h.un]),if_neg (by simp[h.se]),if_neg (by simp[h.no]),if_neg (by omega),if_neg];rw[tN,ht];rintro (k | k)
    ·exact k hx
    ·omega
  exact⟨e,if_pos e⟩
structure Jr where
  up:List UInt8
  dn:List UInt8
  ck:List (List UInt8)
  la:List UInt8
  nw:Int
  sn:Int
def aW (j:Jr):D:=.agg [.sl (j.up.map bD),.sl (j.dn.map bD),.sl (j.ck.map fun l=>D.sl (l.map bD)),.sl (j.la.map bD),.int .i64 j.nw,.int .i64 j.sn]
def cC:Jr:=⟨[],[],[],[],0,0⟩
theorem iP {l:List (List UInt8)} {i:Nat} (h:i<l.length):l[i]?=some (l.getD i []):=by
  rw[Ys,Yn h]; rfl
theorem iz {l:List (List UInt8)} {i:Nat} (h:i<l.length):l.getD i []∈l:=by
  rw[Ys,Yn h];exact YQ h
theorem nk {l:List (List UInt8)} {i:Nat} (h:i<l.length):l.take (i+1)=l.take i++[l.getD i []]:=by
  rw[Zq,iP h]; rfl
def eZ (l:List (List UInt8)) (c:List UInt8):Bool:=l.any (·==c)
theorem IC {l:List (List UInt8)} {c:List UInt8}:eZ l c=true↔c∈l:=by
  unfold eZ;rw[Z7];exact⟨fun ⟨x,hx,e⟩=>by rw[← beq_iff_eq.1 e]; exact hx,fun h=>⟨c,h,beq_self_eq_true c⟩⟩
theorem qL {l:List (List UInt8)} {c:List UInt8}:eZ l c=false↔c∉l:=by
  rw[← IC,Bool.not_eq_true]
def jk (l:List (List UInt8)) (i:Nat):Prop:=(l.getD i []).length=104∧eZ (l.take i) (l.getD i [])=false
def iA (j:Jr):Prop:=j.up.length=32∧j.dn.length=32∧j.ck.length≤8∧(j.la.length=0∨j.la.length=104)∧eZ j.ck j.la=false∧0≤j.nw∧0≤j.sn∧j.sn≤1099511627776
instance (j:Jr):Decidable (iA j):=by unfold iA; infer_instance
instance (l:List (List UInt8)) (i:Nat):Decidable (jk l i):=by unfold jk; infer_instance
def cK (j:Jr):Prop:=iA j∧∀ i,i<j.ck.length→jk j.ck i
instance (j:Jr):Decidable (cK j):=by unfold cK; infer_instance
theorem VV {l:List (List UInt8)}:(∀ i,i<l.length→eZ (l.take i) (l.getD i [])=false)↔l.Nodup:=by
  rw[List.nodup_iff_pairwise_ne,List.pairwise_iff_getElem];constructor
  ·intro h i k hi hk hik e;have:=qL.1 (h k hk);rw[Ys,Yn hk] at this;exact this (List.mem_take_iff_getElem.2 ⟨i,by omega,e⟩)
  ·intro h k hk;refine qL.2 fun hm=>?_
   obtain⟨i,hi,e⟩:=List.mem_take_iff_getElem.1 hm;rw[Ys,Yn hk] at e;exact h i k (by omega) hk (by omega) e
theorem nT {j:Jr}:cK j↔iA j∧(∀ c∈j.ck,c.length=104)∧j.ck.Nodup:=by
  unfold cK jk;rw[← VV];constructor
  ·rintro⟨h,a⟩;refine⟨h,fun c hc=>?_,fun i hi=>(a i hi).2⟩;obtain⟨i,hi,rfl⟩:=YX hc;have:=(a i hi).1;rw[Ys,Yn hi] at this;exact this
  ·rintro⟨h,a,b⟩;exact⟨h,fun i hi=>⟨a _ (iz hi),b i hi⟩⟩
def cL (j:Jr):Int:=if ¬ cK j then 3 else if j.ck.length=0 then 10 else if j.sn=1099511627776 then 7 else 0
def cY (j:Jr):Jr:=⟨j.up,j.dn,j.ck.drop 1,j.ck.getD 0 [],j.nw,j.sn+1⟩
def nl (j:Jr):Jr:=if cL j=0 then cY j else cC
def nm (j:Jr):List UInt8:=if cL j=0 then j.ck.getD 0 [] else []
def rH (j:Jr):Int:=if cK j then 0 else 3
def rI (j:Jr):Int:=if cK j then 8-(j.ck.length:Int) else 0
def rx (la:List UInt8) (l:List (List UInt8)) (c:List UInt8):Bool:=!eZ l c&&(!(la==c)&&decide (l.length<8))
def kG (la:List UInt8) (l:List (List UInt8)) (c:List UInt8):List (List UInt8):=if rx la l c=true then l++[c] else l
def cD (la:List UInt8) (l cs:List (List UInt8)):List (List UInt8):=cs.foldl (kG la) l
def dI (cs:List (List UInt8)):Bool:=cs.all fun c=>c.length==104
def kH (j:Jr) (cs:List (List UInt8)):Int:=if ¬ cK j then 3 else if dI cs=true then 0 else 3
def lE (j:Jr) (cs:List (List UInt8)):Jr:=⟨j.up,j.dn,cD j.la j.ck cs,j.la,j.nw,j.sn⟩
def rJ (j:Jr) (cs:List (List UInt8)):Jr:=if kH j cs=0 then lE j cs else cC
theorem kK {cs:List (List UInt8)}:dI cs=true↔∀ c∈cs,c.length=104:=by
  unfold dI;rw[YB];exact⟨fun h c hc=>beq_iff_eq.1 (h c hc),fun h c hc=>beq_iff_eq.2 (h c hc)⟩
theorem F7 (la:List UInt8) (l cs:List (List UInt8)) (c:List UInt8):cD la l (cs++[c])=kG la (cD la l cs) c:=by
  unfold cD;rw[List.foldl_append]; rfl
theorem yN {la:List UInt8} {l:List (List UInt8)}:∀ cs:List (List UInt8),l.length≤8→(cD la l cs).length≤8:=by
  intro cs
  induction cs generalizing l with
  | nil=>exact id
  | cons c cs ih =>
    intro h;refine ih (l:=kG la l c) ?_;unfold kG;split
    ·rename_i g;unfold rx at g;rw[YS,YS] at g;have:=of_decide_eq_true g.2.2;rw[Yr,ZG]; omega
    ·exact h
def lF:Fd:=⟨772,List.replicate 104 0⟩
def bX (u c:List UInt8) (n:Nat):List Fd:=[⟨260,u⟩,⟨516,c⟩]++List.replicate n lF
def eh (j:Jr) (t:Nat) (u:List UInt8):cn:=⟨fO t,bX u (j.ck.getD 0 []) (8-j.ck.length),[],false⟩
def eI (j:Jr) (u n:List UInt8):Int:=if ¬ cK j∨u.length≠32∨n.length≠16 then 3 else cL j
def jS (j:Jr) (u n:List UInt8):Jr:=if eI j u n=0 then cY j else cC
def lG (j:Jr) (t:Nat) (u n:List UInt8):List UInt8:=if eI j u n=0 then fF j.up (eh j t u) n else []
def bG (l:List Fd):List (List UInt8):=(l.filter fun f=>decide (f.ty=516)).map Fd.da
def lH (u b:List UInt8) (p:cn):Bool:=match aS p.pl 260 with
  | [i]=>(p.pl.getD i.toNat default).da==u
  | _=>false
def ei (j:Jr) (u b:List UInt8):Int:=if ¬ cK j∨u.length≠32 then 3 else if fo j.dn b≠0 then fo j.dn b else if (ee j.dn b).hd.md≠4 then 3 else if lH u b (ee j.dn b)=false then 7 else if dI (bG (ee j.dn b).se)=true then 0 else 3
def jT (j:Jr) (u b:List UInt8):Jr:=if ei j u b=0 then lE j (bG (ee j.dn b).se) else cC
def jl (j:Jr) (u b:List UInt8):cn:=if ei j u b=0 then ee j.dn b else dL
theorem K2 (l:List Fd) (k:Int):∀ n,n≤l.length→(eb l k n).map (fun i=>(l.getD i.toNat default).da)=((l.take n).filter fun f=>decide (f.ty=k)).map Fd.da
  | 0,_=>rfl
  | n+1,h=>by
    have hn:=K2 l k n (by omega);have ht:l.take (n+1)=l.take n++[l.getD n default]:=by
      rw[Zq,Ys,Yn (by omega)]; rfl
    rw[ht,List.filter_append,YD,← hn];by_cases hk:(l.getD n default).ty=k
    ·rw[Ak hk,YD,List.filter_cons_of_pos (by rw[hk]; simp)]; rfl
    ·rw[uZ hk,List.filter_cons_of_neg (by simpa using hk),List.filter_nil,Yv,Yy]
theorem VW (l:List Fd):(aS l 516).map (fun i=>(l.getD i.toNat default).da)=bG l:=by
  have:=K2 l 516 l.length (Yz _);rw[YR] at this;exact this
open IntWalk
set_option maxHeartbeats 3200000
theorem Xt {l:List (List UInt8)} {c:List UInt8} {i:Nat} (h:i<l.length):eZ (l.take (i+1)) c=(eZ (l.take i) c || (l.getD i []==c)):=by
  unfold eZ;rw[nk h,List.any_append,List.any_cons,List.any_nil,Bool.or_false]
theorem VX {l:List (List UInt8)} {c:List UInt8} {i:Nat} (h:i<l.length) (e:(l.getD i []==c)=true):eZ l c=true:=IC.2 (by rw[← beq_iff_eq.1 e]; exact iz h)
def u7 (l:List (List UInt8)) (c:List UInt8) (i:Nat):St:=⟨aP [(0,.w (.c (.d (.sl (l.map fun x=>D.sl (x.map bD)))))),(1,.w (.c (.d (.sl (c.map bD))))),(5,.w (.c (.d (.int .i64 (i:Int)))))],hL [],uL []⟩
def ta:aN := .seq (.seq (.reg [oM 6 5,oM 7 0,oO 8 (.len (.t 7)),oO 9 (.bin .lss (.t 6) (.t 8))]) (.cond (.t 9) (.skip) (.exit 0))) (.seq (.block 1 (.seq (.reg [oM 12 0,oM 13 5,oO 14 (.idxSl 1 (.t 12) (.t 13)),oO 15 (.load .sc (.t 14)),oM 16 1,oO 17 (.call 12 [(.t 15),(.t 16)] none)]) (.cond (.t 17) (.seq (.reg [oO 4 (.mv (.k (.c (.d (.bool true)))))]) (.ret)) (.skip)))) (.reg [oM 10 5,oO 11 (.bin .add (.t 10) (kI 1)),oM 5 11]))
def K3:aD:=⟨2,18,.seq (.reg [oO 4 (.mv (.k (.c (.d (.bool false)))))]) (.seq (.seq (.reg [oO 5 (.mv (kI 0))]) (.block 0 (.loop ta))) (.seq (.reg [oO 4 (.mv (.k (.c (.d (.bool false)))))]) (.ret))),[(4,none)]⟩
theorem VY:aB Tryz.prog { own:=[],comp:=[],frz:=[],nils:=[] } Tryz.f56=some K3:=by kernel_rfl
theorem Am (G:ah) (l:List (List UInt8)) (c:List UInt8) (hl:l.length≤9000000000000000000):au Tryz.prog G 56 [.sl (l.map fun x=>D.sl (x.map bD)),.sl (c.map bD)] (.w (.c (.d (.bool (eZ l c))))):=by
  refine aF Tryz.func56 VY rfl rfl ?_;simp only[K3,af,ae,aa,seval,iteOmega,toNatUp];refine aV (u7 l c) (fun i=>l.length-i) (fun i=>i≤l.length∧eZ (l.take i) c=false) 0 ⟨Yt _,by rw[Zs]; rfl⟩ ?_ ?_
  ·refine ap (fun _=>0) ?_ ?_ rfl rfl <;> simp only[wx,aj,ar,aa,seval,iteOmega,toNatUp] <;> first | rfl | exact⟨rfl,rfl⟩ | skip
  ·rintro i ⟨hi,hp⟩;by_cases hlt:i<l.length
   ·have g:=iP hlt;have hs:=Xt (c:=c) hlt;have ha:=VX (c:=c) hlt;generalize l.getD i []=x at *
    have c1:=jq G x c;cases hx:x==c
    ·rw[hx] at c1 hs;rw[hp] at hs;simp only[ta,u7,ae,aa,seval,iteOmega,toNatUp,aC,g];refine sD (c1) ?_;refine aQ (i+1) (by omega) ⟨by omega,hs⟩ (ap (fun i=>i) ?_ ?_ rfl rfl) <;> simp only[wx,aj,ar,aa,seval,iteOmega,toNatUp] <;> first | rfl | exact⟨rfl,rfl⟩ | skip
    ·rw[hx] at c1;rw[ha hx];simp only[ta,u7,ae,aa,seval,iteOmega,toNatUp,aC,g];refine sD (c1) ?_;exact aG
   ·rw[Yo (by omega)] at hp;rw[hp];simp only[ta,u7,ae,aa,seval,iteOmega,toNatUp];exact aG
def bp (j:Jr):List D:=[.sl (j.up.map bD),.sl (j.dn.map bD),.sl (j.ck.map fun l=>D.sl (l.map bD)),.sl (j.la.map bD),.int .i64 j.nw,.int .i64 j.sn]
def qZ (j:Jr) (i:Nat):St:=⟨aP [(1,.w (.c (.rp (bp j)))),(3,.w (.c (.d (.int .i64 (i:Int)))))],hL [],uL []⟩
def qc:aN := .seq (.seq (.reg [oM 56 3,oO 57 (.fieldAddr 2 (.t 1)),oO 58 (.load .sc (.t 57)),oO 59 (.len (.t 58)),oO 60 (.bin .lss (.t 56) (.t 59))]) (.cond (.t 60) (.skip) (.exit 0))) (.seq (.block 1 (.seq (.reg [oO 63 (.fieldAddr 2 (.t 1)),oO 64 (.load .sc (.t 63)),oM 65 3,oO 66 (.idxSl 1 (.t 64) (.t 65)),oO 67 (.load .sc (.t 66)),oO 68 (.len (.t 67)),oO 69 (.bin .neq (.t 68) (kI 104)),oM 70 69,oG 71 (.fieldAddr 2 (.t 1)) 70 false,oG 72 (.load .sc (.t 71)) 70 false,oG 73 (.mv (.t 3)) 70 false,oG 74 (.slice 1 (.t 72) none (some (.t 73)) none) 70 false,oG 75 (.fieldAddr 2 (.t 1)) 70 false,oG 76 (.load .sc (.t 75)) 70 false,oG 77 (.mv (.t 3)) 70 false,oG 78 (.idxSl 1 (.t 76) (.t 77)) 70 false,oG 79 (.load .sc (.t 78)) 70 false,oG 80 (.call 56 [(.t 74),(.t 79)] none) 70 false,oO 81 (.pick (.t 70) (.k (.c (.d (.bool true)))) (.t 80))])
 (.cond (.t 81) (.seq (.reg [oO 2 (.mv (.k (.c (.d (.bool false)))))]) (.ret)) (.skip)))) (.reg [oM 61 3,oO 62 (.bin .add (.t 61) (kI 1)),oM 3 62]))
def kn:aD:=⟨1,82,.seq (.reg [oO 1 (.box .roBox (.t 0)),oO 2 (.mv (.k (.c (.d (.bool false)))))]) (.seq (.seq (.reg [oO 4 (.fieldAddr 0 (.t 1)),oO 5 (.fieldAddr 0 (.t 4)),oO 6 (.load .sc (.t 5)),oO 7 (.len (.t 6)),oO 8 (.bin .neq (.t 7) (kI 32)),oM 9 8,oG 10 (.fieldAddr 0 (.t 1)) 9 false,oG 11 (.fieldAddr 1 (.t 10)) 9 false,oG 12 (.load .sc (.t 11)) 9 false,oG 13 (.len (.t 12)) 9 false,oG 14 (.bin .neq (.t 13) (kI 32)) 9 false,oO 15 (.pick (.t 9) (.k (.c (.d (.bool true)))) (.t 14)),oM 16 15,oG 17 (.fieldAddr 2 (.t 1)) 16 false,oG 18 (.load .sc (.t 17)) 16 false,oG 19 (.len (.t 18)) 16 false,oG 20 (.bin .gtr (.t 19) (kI 8)) 16 false,oO 21 (.pick (.t 16) (.k (.c (.d (.bool true)))) (.t 20)),oM 22 21,oG 23 (.fieldAddr 3 (.t 1)) 22 false,oG 24 (.load .sc (.t 23)) 22 false,oG 25 (.len (.t 24)) 22 false,
 oG 26 (.bin .neq (.t 25) (kI 0)) 22 false,oG 27 (.mv (.t 26)) 22 false,oG 28 (.fieldAddr 3 (.t 1)) 27 true,oG 29 (.load .sc (.t 28)) 27 true,oG 30 (.len (.t 29)) 27 true,oG 31 (.bin .neq (.t 30) (kI 104)) 27 true,oG 32 (.pick (.t 27) (.t 31) (.k (.c (.d (.bool false))))) 22 false,oO 33 (.pick (.t 22) (.k (.c (.d (.bool true)))) (.t 32)),oM 34 33,oG 35 (.fieldAddr 2 (.t 1)) 34 false,oG 36 (.load .sc (.t 35)) 34 false,oG 37 (.fieldAddr 3 (.t 1)) 34 false,oG 38 (.load .sc (.t 37)) 34 false,oG 39 (.call 56 [(.t 36),(.t 38)] none) 34 false,oO 40 (.pick (.t 34) (.k (.c (.d (.bool true)))) (.t 39)),oM 41 40,oG 42 (.fieldAddr 4 (.t 1)) 41 false,oG 43 (.load .sc (.t 42)) 41 false,oG 44 (.bin .lss (.t 43) (kI 0)) 41 false,oO 45 (.pick (.t 41) (.k (.c (.d (.bool true)))) (.t 44)),oM 46 45,oG 47 (.fieldAddr 5 (.t 1)) 46 false,
 oG 48 (.load .sc (.t 47)) 46 false,oG 49 (.bin .lss (.t 48) (kI 0)) 46 false,oO 50 (.pick (.t 46) (.k (.c (.d (.bool true)))) (.t 49)),oM 51 50,oG 52 (.fieldAddr 5 (.t 1)) 51 false,oG 53 (.load .sc (.t 52)) 51 false,oG 54 (.bin .gtr (.t 53) (kI 1099511627776)) 51 false,oO 55 (.pick (.t 51) (.k (.c (.d (.bool true)))) (.t 54))]) (.cond (.t 55) (.seq (.reg [oO 2 (.mv (.k (.c (.d (.bool false)))))]) (.ret)) (.skip))) (.seq (.seq (.reg [oO 3 (.mv (kI 0))]) (.block 0 (.loop qc))) (.seq (.reg [oO 2 (.mv (.k (.c (.d (.bool true)))))]) (.ret)))),[(2,none)]⟩
theorem VZ:aB Tryz.prog { own:=[],comp:=[],frz:=[],nils:=[] } Tryz.f26=some kn:=by kernel_rfl
theorem u9 (G:ah) (j:Jr):au Tryz.prog G 26 [aW j] (.w (.c (.d (.bool (decide (cK j)))))):=by
  refine aF Tryz.func26 VZ rfl rfl ?_;have no:¬ iA j→decide (cK j)=false:=fun h=>decide_eq_false fun v=>h v.1
  unfold aW;by_cases h1:j.up.length=32
  ·have g1:((j.up.length:Int)=32)=True:=eq_true (by omega);by_cases h2:j.dn.length=32
   ·have g2:((j.dn.length:Int)=32)=True:=eq_true (by omega);by_cases h3:8<j.ck.length
    ·have g3:((j.ck.length:Int)>8)=True:=eq_true (by omega);rw[no (fun h=>by unfold iA at h; omega)];simp only[kn,af,ae,aa,seval,iteOmega,toNatUp,g1,g2,g3];exact aG
    ·have g3:((j.ck.length:Int)>8)=False:=eq_false (by omega);have c1:=Am G j.ck j.la (by omega);by_cases h4:j.la.length=0∨j.la.length=104
     ·rcases h4 with h4 | h4
      all_goals
        have hm:=congrArg (Nat.cast (R:=Int)) h4;simp only[Z1] at hm;cases hb:eZ j.ck j.la
        ·rw[hb] at c1;by_cases h5:j.nw<0
         ·have g5:(j.nw<0)=True:=eq_true h5;rw[no (fun h=>by unfold iA at h; omega)];simp only[kn,af,ae,aa,seval,iteOmega,toNatUp,g1,g2,g3,hm];refine sC (c1) ?_;simp only[g5,ae,aa,seval,iteOmega,toNatUp];exact aG
         ·have g5:(j.nw<0)=False:=eq_false h5;by_cases h6:j.sn<0
          ·have g6:(j.sn<0)=True:=eq_true h6;rw[no (fun h=>by unfold iA at h; omega)];simp only[kn,af,ae,aa,seval,iteOmega,toNatUp,g1,g2,g3,hm];refine sC (c1) ?_;simp only[g5,g6,ae,aa,seval,iteOmega,toNatUp];exact aG
          ·have g6:(j.sn<0)=False:=eq_false h6;by_cases h7:1099511627776<j.sn
           ·have g7:(j.sn>1099511627776)=True:=eq_true h7;rw[no (fun h=>by unfold iA at h; omega)];simp only[kn,af,ae,aa,seval,iteOmega,toNatUp,g1,g2,g3,hm];refine sC (c1) ?_;simp only[g5,g6,g7,ae,aa,seval,iteOmega,toNatUp];exact aG
           ·have g7:(j.sn>1099511627776)=False:=eq_false h7;have hH:iA j:=⟨h1,h2,by omega,by omega,hb,by omega,by omega,by omega⟩
            simp only[kn,af,ae,aa,seval,iteOmega,toNatUp,g1,g2,g3,hm];refine sC (c1) ?_;simp only[g5,g6,g7,ae,aa,seval,iteOmega,toNatUp];refine aV (qZ j) (fun i=>j.ck.length-i) (fun i=>i≤j.ck.length∧∀ k,k<i→jk j.ck k) 0 ⟨Yt _,fun k hk=>by omega⟩ ?_ ?_
            ·refine ap (fun _=>0) ?_ ?_ rfl rfl <;> simp only[bp,wx,aj,ar,aa,seval,iteOmega,toNatUp] <;> first | rfl | exact⟨rfl,rfl⟩ | skip
            ·clear hm c1 g5 g6 g7 h5 h6 h7 hb;rintro i ⟨hi,hp⟩;by_cases hlt:i<j.ck.length
             ·have g:=iP hlt;have hno:¬ jk j.ck i→decide (cK j)=false:=fun h=>decide_eq_false fun v=>h (v.2 i hlt)
              have hgo:jk j.ck i→∀ k,k<i+1→jk j.ck k:=fun a k hk=>by
                rcases YE k i with h | h
                ·exact hp k h
                ·obtain rfl:k=i:=by omega
                 exact a
              have az:=fa j.ck;have c2:=Am G (j.ck.take i) (j.ck.getD i []) (by rw[Yu]; omega);by_cases hx:(j.ck.getD i []).length=104
              ·have gx:(((j.ck.getD i []).length:Int)=104)=True:=eq_true (by omega);cases hq:eZ (j.ck.take i) (j.ck.getD i [])
               ·have hgo:=hgo ⟨hx,hq⟩;rw[hq] at c2;clear hno hp hq hx;generalize j.ck.getD i []=x at *
                simp only[qc,qZ,bp,ae,aa,seval,iteOmega,toNatUp,aC,g,gx,az];refine sD (c2) ?_;refine aQ (i+1) (by omega) ⟨by omega,hgo⟩ (ap (fun i=>i) ?_ ?_ rfl rfl) <;> simp only[bp,wx,aj,ar,aa,seval,iteOmega,toNatUp] <;> first | rfl | exact⟨rfl,rfl⟩ | skip
               ·rw[hno (fun h=>by rw[h.2] at hq; cases hq)];rw[hq] at c2;clear hno hp hgo hq hx;generalize j.ck.getD i []=x at *
                simp only[qc,qZ,bp,ae,aa,seval,iteOmega,toNatUp,aC,g,gx,az];refine sD (c2) ?_;exact aG
              ·have gx:(((j.ck.getD i []).length:Int)=104)=False:=eq_false (by omega);rw[hno (fun h=>hx h.1)];clear hno hp hgo hx;generalize j.ck.getD i []=x at *
               simp only[qc,qZ,bp,ae,aa,seval,iteOmega,toNatUp,aC,g,gx];exact aG
             ·rw[decide_eq_true (show cK j from ⟨hH,fun k hk=>hp k (by omega)⟩)];simp only[qc,qZ,bp,ae,aa,seval,iteOmega,toNatUp];exact aG
        ·rw[hb] at c1;rw[no (fun h=>by have:=h.2.2.2.2.1; rw[hb] at this; cases this)];simp only[kn,af,ae,aa,seval,iteOmega,toNatUp,g1,g2,g3,hm];refine sD (c1) ?_;exact aG
     ·have ga:((j.la.length:Int)=0)=False:=eq_false (by omega);have gb:((j.la.length:Int)=104)=False:=eq_false (by omega);rw[no (fun h=>by unfold iA at h; omega)];simp only[kn,af,ae,aa,seval,iteOmega,toNatUp,g1,g2,g3,ga,gb];exact aG
   ·have g2:((j.dn.length:Int)=32)=False:=eq_false (by omega);rw[no (fun h=>by unfold iA at h; omega)];simp only[kn,af,ae,aa,seval,iteOmega,toNatUp,g1,g2];exact aG
  ·have g1:((j.up.length:Int)=32)=False:=eq_false (by omega);rw[no (fun h=>by unfold iA at h; omega)];simp only[kn,af,ae,aa,seval,iteOmega,toNatUp,g1];exact aG
def bh:Ob:=.box [.nil,.nil,.nil,.nil,.d (.int .i64 0),.d (.int .i64 0)]
def bK (j:Jr) (k:C):Ob:=.box [.d (.sl (j.up.map bD)),.d (.sl (j.dn.map bD)),k,.d (.sl (j.la.map bD)),.d (.int .i64 j.nw),.d (.int .i64 j.sn)]
def lq (j:Jr) (i:Nat):List (Nat×V):=[(1,.w (.c (.rp (bp j)))),(2,.w (.c (.ptr 3 1 0 0))),(3,.w (.c (.ptr 1 1 0 0))),(4,.w (.c (.d (.int .i64 (i:Int)))))]
def mW (j:Jr):Nat→St
  | 0=>⟨aP (lq j 0),hL [(1,bK j .nil),(3,bh)],uL [1,3]⟩
  | i+1=>⟨aP (lq j (i+1)),hL [(1,bK j (.own 2 1 0 (j.ck.take (i+1)).length)),(2,.row 1 ((j.ck.take (i+1)).map fun l=>D.sl (l.map bD))),(3,bh)],uL [1,2,3]⟩
def rK (j:Jr):List C:=[.d (.sl (j.up.map bD)),.d (.sl (j.dn.map bD)),.fr 1 (j.ck.map fun l=>D.sl (l.map bD)),.d (.sl (j.la.map bD)),.d (.int .i64 j.nw),.d (.int .i64 j.sn)]
theorem zJ {σ:St} {p:Nat×Option Kd} {j:Jr} {k:C} (h1:cv σ p=some (.mix [.d (.sl (j.up.map bD)),.d (.sl (j.dn.map bD)),k,.d (.sl (j.la.map bD)),.d (.int .i64 j.nw),.d (.int .i64 j.sn)])) (hk:pq σ.h k (.fr 1 (j.ck.map fun l=>D.sl (l.map bD)))) (hd:k.ids.Nodup):dH σ [p] (.w (.mix (rK j))):=by
  refine⟨[.mix [.d (.sl (j.up.map bD)),.d (.sl (j.dn.map bD)),k,.d (.sl (j.la.map bD)),.d (.int .i64 j.nw),.d (.int .i64 j.sn)]],by simp[aT,h1],.inl ⟨?_,?_⟩⟩
  ·simpa [W.ids,C.ids] using hd
  ·exact .cons rfl (.cons rfl (.cons hk (.cons rfl (.cons rfl (.cons rfl .nil)))))
theorem ID {P:Program} {G:ah} {F:FuncId} {args:List D} {cs:List C} {ds:List D} (hds:fJ (cs.map C.ro)=.c (.d (.agg ds))) (h:au P G F args (.w (.mix cs))):au P G F args (.w (.c (.d (.agg ds)))):=by
  intro w S vs h1 h2 h3;refine (h w S vs h1 h2 h3).mono ?_;rintro e w' ⟨v,S',bl,rfl,k1,k2,k3,k4⟩;have cs0:∀ {us:List Value} {cs:List C} {bk:List Nat},gX S' w' w.heap.size us cs bk→∀ b∈bk,w.heap.size≤b∧b<w'.heap.size:=by
    intro us cs bk hc
    induction hc with
    | nil=>intro b hb; cases hb
    | cons h1 _ ih =>
      rename_i c _ _ _ _ _;intro b hb;rcases YM.1 hb with hb | hb
      ·cases c <;> simp only[gp] at h1 <;> first | exact h1.elim | skip
       ·rw[h1.2] at hb; cases hb
       ·rcases h1 with ⟨_,_,rfl⟩ | ⟨b',cap,ty,N,rfl,_,_,_,q1,_,q2⟩
        ·cases hb
        ·simp only[YA] at hb;subst hb;obtain⟨f1,_,cur,ty',fz,f3,_⟩:=q2;exact⟨f1,(YC.1 f3).1⟩
      ·exact ih b hb
  have hfresh:∀ b∈bl,w.heap.size≤b∧b<w'.heap.size:=by
    obtain⟨us,_,hc⟩:=k4;exact cs0 hc
  refine⟨v,fun b i=>S' b i∨b∈bl,[],rfl,k1,fun b i hs=>?_,.nil,?_⟩
  ·rcases hs with hs | hs
   ·exact k2 b i hs
   ·exact⟨.inr (hfresh b hs).1,(hfresh b hs).2⟩
  ·have:=oz (m:=fun _=>none) (x:=.mix cs) k4 (T:=fun b i=>S' b i∨b∈bl) (fun _ _ h=>.inl h) (fun b hb _=>.inr hb);rw[show W.ro (.mix cs)=_ from hds] at this;exact⟨this.1,rfl⟩
def qd:aN := .seq (.seq (.reg [oM 25 4,oO 26 (.fieldAddr 2 (.t 1)),oO 27 (.load .sc (.t 26)),oO 28 (.len (.t 27)),oO 29 (.bin .lss (.t 25) (.t 28))]) (.cond (.t 29) (.skip) (.exit 0))) (.seq (.block 1 (.reg [oO 32 (.fieldAddr 2 (.t 3)),oO 33 (.load .sc (.t 32)),oO 34 (.fieldAddr 2 (.t 1)),oO 35 (.load .sc (.t 34)),oM 36 4,oO 37 (.idxSl 1 (.t 35) (.t 36)),oO 38 (.load .sc (.t 37)),oO 39 (.bldSl false 1 1 (.sl []) [(0,(.t 38))]),oO 40 (.call 41 [(.t 39)] none),oO 41 (.bldSl false 1 1 (.sl []) [(0,(.t 40))]),oO 42 (.app false 1 24 (.t 33) (.t 41)),oO 43 (.fieldAddr 2 (.t 3)),oN (.store .sc (.t 43) (.t 42))])) (.reg [oM 30 4,oO 31 (.bin .add (.t 30) (kI 1)),oM 4 31]))
def K4:aD:=⟨1,45,.seq (.reg [oO 1 (.box .roBox (.t 0)),oO 2 (.alloc [.nil,.nil,.nil,.nil,(.d (.int .i64 0)),(.d (.int .i64 0))])]) (.seq (.reg [oO 5 (.fieldAddr 0 (.t 1)),oO 6 (.fieldAddr 0 (.t 5)),oO 7 (.load .sc (.t 6)),oO 8 (.bldSl false 1 1 (.sl []) [(0,(.t 7))]),oO 9 (.call 41 [(.t 8)] none),oO 10 (.fieldAddr 0 (.t 1)),oO 11 (.fieldAddr 1 (.t 10)),oO 12 (.load .sc (.t 11)),oO 13 (.bldSl false 1 1 (.sl []) [(0,(.t 12))]),oO 14 (.call 41 [(.t 13)] none),oO 15 (.build [.nil,.nil] [(0,1,(.t 9)),(1,1,(.t 14))]),oO 16 (.fieldAddr 3 (.t 1)),oO 17 (.load .sc (.t 16)),oO 18 (.bldSl false 1 1 (.sl []) [(0,(.t 17))]),oO 19 (.call 41 [(.t 18)] none),oO 20 (.fieldAddr 4 (.t 1)),oO 21 (.load .sc (.t 20)),oO 22 (.fieldAddr 5 (.t 1)),oO 23 (.load .sc (.t 22)),oO 24 (.build [.nil,.nil,.nil,.nil,(.d (.int .i64 0)),(.d (.int .i64 0))] [(0,2,(.t 15)),(3,1,(.t 19)),(4,1,(.t 21)),(5,1,(.t 23))]),
 oO 3 (.alloc [.nil,.nil,.nil,.nil,(.d (.int .i64 0)),(.d (.int .i64 0))]),oN (.store (.ag 6) (.t 3) (.t 24))]) (.seq (.seq (.reg [oO 4 (.mv (kI 0))]) (.block 0 (.loop qd))) (.seq (.reg [oO 44 (.load (.ag 6) (.t 3)),oN (.store (.ag 6) (.t 2) (.t 44))]) (.ret)))),[(2,(some (.ag 6)))]⟩
theorem V0:aB Tryz.prog { own:=[],comp:=[],frz:=[],nils:=[] } Tryz.f57=some K4:=by kernel_rfl
theorem Mx (G:ah) (j:Jr) (h1:j.up.length≤140737488355328) (h2:j.dn.length≤140737488355328) (h3:j.la.length≤140737488355328) (h4:∀ c∈j.ck,c.length≤140737488355328) (h5:j.ck.length≤1000000):au Tryz.prog G 57 [aW j] (.w (.mix (rK j))):=by
  refine aF Tryz.func57 V0 rfl rfl ?_;have c1:=eo G [j.up] (by simp) (by simp; omega);have c2:=eo G [j.dn] (by simp) (by simp; omega);have c3:=eo G [j.la] (by simp) (by simp; omega);simp only[Yp,Yv,YZ,YU,Yy] at c1 c2 c3;unfold aW;simp only[K4,af,ae,aa,seval,iteOmega,toNatUp];refine sD (c1) ?_;refine sD (c2) ?_;refine sD (c3) ?_;refine aV (mW j) (fun i=>j.ck.length-i) (fun i=>i≤j.ck.length) 0 (Yt _) ?_ ?_
  ·refine ap (fun i=>if i=1 then 24 else 16) ?_ ?_ rfl rfl <;> simp only[lq,bp,bK,bh,wx,aj,ar,aa,seval,iteOmega,toNatUp] <;> first | rfl | exact⟨rfl,rfl⟩ | skip
  ·intro i hi;clear c1 c2 c3;by_cases hlt:i<j.ck.length
   ·have g:=iP hlt;have hs:=nk hlt;have hm:=h4 _ (iz hlt);have tl:(j.ck.take i).length=i:=by rw[Yu]; omega
    have az:=fa (j.ck.take i);generalize j.ck.getD i []=x at *
    have c4:=eo G [x] (by simp) (by simp; omega);simp only[Yp,Yv,YZ,YU,Yy] at c4;rcases i with _ | i
    ·have e1:j.ck.take (0+1)=[x]:=hs;simp only[qd,mW,lq,bp,bK,bh,ae,aa,seval,iteOmega,toNatUp,aC,g];refine sC (c4) ?_;simp only[bH,ae,aa,seval,iteOmega,toNatUp];refine aQ (0+1) (by omega) (by omega) (ap (fun i=>if i=1 then 1 else if i=2 then 336 else 3) ?_ ?_ rfl rfl) <;> simp only[mW,lq,bp,bK,bh,e1,wx,aj,ar,aa,seval,iteOmega,toNatUp] <;> first | rfl | exact⟨rfl,rfl⟩ | skip
    ·simp only[qd,mW,lq,bp,bK,bh,ae,aa,seval,iteOmega,toNatUp,aC,g,tl];refine sC (c4) ?_;simp only[bH,tl,ae,aa,seval,iteOmega,toNatUp];refine aQ (i+1+1) (by omega) (by omega) (ap (fun i=>if i=1 then 1 else if i=2 then 336 else 3) ?_ ?_ rfl rfl) <;> simp only[mW,lq,bp,bK,bh,hs,YD,tl,wx,aj,ar,aa,seval,iteOmega,toNatUp] <;> first | rfl | exact⟨rfl,rfl⟩ | skip
   ·obtain rfl:i=j.ck.length:=by omega
    have hk:j.ck.take j.ck.length=j.ck:=YR;have az:=fa j.ck;generalize hn:j.ck.length=n at *
    rcases n with _ | n
    ·have e0:j.ck=[]:=Y9 hn;simp only[qd,mW,lq,bp,bK,bh,ae,aa,seval,iteOmega,toNatUp];exact zJ (k:=.nil) (by simp only[ae,aa,seval,iteOmega,toNatUp] <;> rfl) (by rw[e0]; exact rfl) .nil
    ·simp only[qd,mW,lq,bp,bK,bh,hk,hn,ae,aa,seval,iteOmega,toNatUp];exact zJ (k:=.own 2 1 0 (n+1)) (by simp only[ae,aa,seval,iteOmega,toNatUp] <;> rfl) ⟨rfl,rfl,by simp only[ae,aa,seval,iteOmega,toNatUp,hn,hk]⟩ (by simp[C.ids])
theorem Xu (G:ah) (j:Jr) (h1:j.up.length≤140737488355328) (h2:j.dn.length≤140737488355328) (h3:j.la.length≤140737488355328) (h4:∀ c∈j.ck,c.length≤140737488355328) (h5:j.ck.length≤1000000):au Tryz.prog G 57 [aW j] (.w (.c (.d (aW j)))):=ID rfl (Mx G j h1 h2 h3 h4 h5)
theorem kV {j:Jr} (v:cK j):j.up.length=32∧j.dn.length=32∧j.ck.length≤8∧j.la.length≤104∧∀ c∈j.ck,c.length=104:=by
  obtain⟨⟨a,b,c,d,_⟩,h,_⟩:=nT.1 v;exact⟨a,b,c,by omega,h⟩
theorem oQ {j:Jr} {e:Int} (h:cL j=e) (he:e≠0):nl j=cC∧nm j=[]:=⟨if_neg (by rw[h]; exact he),if_neg (by rw[h]; exact he)⟩
def qM:aD:=⟨1,39,.seq (.reg [oO 1 (.box .roBox (.t 0)),oO 2 (.alloc [.nil,.nil,.nil,.nil,(.d (.int .i64 0)),(.d (.int .i64 0))]),oO 3 (.mv (.k (.c .nil))),oO 4 (.mv (kI 0))]) (.seq (.seq (.reg [oO 6 (.load (.ag 6) (.t 1)),oO 7 (.call 26 [(.t 6)] none),oO 8 (.un .not (.t 7))]) (.cond (.t 8) (.seq (.reg [oO 9 (.build [.nil,.nil,.nil,.nil,(.d (.int .i64 0)),(.d (.int .i64 0))] []),oN (.store (.ag 6) (.t 2) (.t 9)),oO 3 (.mv (.k (.c .nil))),oO 4 (.mv (kI 3))]) (.ret)) (.skip))) (.seq (.seq (.reg [oO 10 (.fieldAddr 2 (.t 1)),oO 11 (.load .sc (.t 10)),oO 12 (.len (.t 11)),oO 13 (.bin .eql (.t 12) (kI 0))]) (.cond (.t 13) (.seq (.reg [oO 14 (.build [.nil,.nil,.nil,.nil,(.d (.int .i64 0)),(.d (.int .i64 0))] []),oN (.store (.ag 6) (.t 2) (.t 14)),oO 3 (.mv (.k (.c .nil))),oO 4 (.mv (kI 10))])
 (.ret)) (.skip))) (.seq (.seq (.reg [oO 15 (.fieldAddr 5 (.t 1)),oO 16 (.load .sc (.t 15)),oO 17 (.bin .eql (.t 16) (kI 1099511627776))]) (.cond (.t 17) (.seq (.reg [oO 18 (.build [.nil,.nil,.nil,.nil,(.d (.int .i64 0)),(.d (.int .i64 0))] []),oN (.store (.ag 6) (.t 2) (.t 18)),oO 3 (.mv (.k (.c .nil))),oO 4 (.mv (kI 7))]) (.ret)) (.skip))) (.seq (.reg [oO 19 (.load (.ag 6) (.t 1)),oO 20 (.call 57 [(.t 19)] none),oO 5 (.alloc [.nil,.nil,.nil,.nil,(.d (.int .i64 0)),(.d (.int .i64 0))]),oN (.store (.ag 6) (.t 5) (.t 20))]) (.seq (.reg [oO 21 (.fieldAddr 2 (.t 5)),oO 22 (.load .sc (.t 21)),oO 23 (.idxSl 1 (.t 22) (kI 0)),oO 24 (.load .sc (.t 23)),oO 25 (.fieldAddr 2 (.t 5)),oO 26 (.load .sc (.t 25)),oO 27 (.slice 1 (.t 26) (some (kI 1)) none none),oO 28 (.fieldAddr 3 (.t 5)),oN (.store .sc (.t 28) (.t 24)),
 oO 29 (.fieldAddr 2 (.t 5)),oN (.store .sc (.t 29) (.t 27))]) (.seq (.reg [oO 30 (.fieldAddr 5 (.t 5)),oO 31 (.load .sc (.t 30)),oO 32 (.bin .add (.t 31) (kI 1)),oO 33 (.fieldAddr 5 (.t 5)),oN (.store .sc (.t 33) (.t 32))]) (.seq (.reg [oO 34 (.load (.ag 6) (.t 5)),oO 35 (.fieldAddr 3 (.t 5)),oO 36 (.load .sc (.t 35)),oO 37 (.bldSl false 1 1 (.sl []) [(0,(.t 36))]),oO 38 (.call 41 [(.t 37)] none),oN (.store (.ag 6) (.t 2) (.t 34)),oM 3 38,oO 4 (.mv (kI 0))]) (.ret)))))))),[(2,(some (.ag 6))),(3,none),(4,none)]⟩
theorem V4:aB Tryz.prog { own:=[],comp:=[],frz:=[],nils:=[] } Tryz.f27=some qM:=by kernel_rfl
theorem Xv (G:ah) (j:Jr):au Tryz.prog G 27 [aW j] (.tup [.c (.d (aW (nl j))),.c (.d (.sl ((nm j).map bD))),.c (.d (.int .i64 (cL j)))]):=by
  refine aF Tryz.func27 V4 rfl rfl ?_;have c1:=u9 G j;by_cases v:cK j
  ·rw[decide_eq_true v] at c1;obtain⟨v1,v2,v3,v4,v5⟩:=kV v;by_cases h1:j.ck.length=0
   ·have e:cL j=10:=by unfold cL; rw[if_neg (not_not_intro v),if_pos h1]
    obtain⟨q1,q2⟩:=oQ e (by decide);have g1:((j.ck.length:Int)=0)=True:=eq_true (by omega);rw[q1,q2,e];unfold aW cC at *
    simp only[qM,af,ae,aa,seval,iteOmega,toNatUp];refine sC (c1) ?_;simp only[g1,ae,aa,seval,iteOmega,toNatUp];exact bP
   ·have g1:((j.ck.length:Int)=0)=False:=eq_false (by omega);by_cases h2:j.sn=1099511627776
    ·have e:cL j=7:=by unfold cL; rw[if_neg (not_not_intro v),if_neg h1,if_pos h2]
     obtain⟨q1,q2⟩:=oQ e (by decide);have g2:(j.sn=1099511627776)=True:=eq_true h2;rw[q1,q2,e];unfold aW cC at *
     simp only[qM,af,ae,aa,seval,iteOmega,toNatUp];refine sC (c1) ?_;simp only[g1,g2,ae,aa,seval,iteOmega,toNatUp];exact bP
    ·have e:cL j=0:=by unfold cL; rw[if_neg (not_not_intro v),if_neg h1,if_neg h2]
     have g2:(j.sn=1099511627776)=False:=eq_false h2;rw[show nl j=cY j from if_pos e,show nm j=j.ck.getD 0 [] from if_pos e,e];have c2:=Xu G j (by omega) (by omega) (by omega) (fun c hc=>by have:=v5 c hc; omega) (by omega);have f0:=iP (l:=j.ck) (i:=0) (by omega);have m0:=v5 _ (iz (l:=j.ck) (i:=0) (by omega));have s8:0≤j.sn∧j.sn≤1099511627776:=v.1.2.2.2.2.2.2;have az:=fa j.ck;have d1:(j.ck.drop 1).take (j.ck.length-1)=j.ck.drop 1:=Yo (by rw[Yw]; omega);unfold cY aW at *
     dsimp only at *
     generalize j.ck.getD 0 []=x at *
     have c3:=eo G [x] (by simp) (by simp; omega);simp only[Yp,Yv,YZ,YU,Yy] at c3;simp only[qM,af,ae,aa,seval,iteOmega,toNatUp];refine sC (c1) ?_;simp only[g1,g2,ae,aa,seval,iteOmega,toNatUp];refine sC (c2) ?_;simp only[aC,f0,az,ae,aa,seval,iteOmega,toNatUp];refine sC (c3) ?_;simp only[d1,ae,aa,seval,iteOmega,toNatUp];exact bP
  ·rw[decide_eq_false v] at c1;have e:cL j=3:=if_pos v;obtain⟨q1,q2⟩:=oQ e (by decide);rw[q1,q2,e];unfold aW cC at *
   simp only[qM,af,ae,aa,seval,iteOmega,toNatUp];refine sD (c1) ?_;exact bP
def K5:aD:=⟨2,49,.seq (.reg [oO 2 (.box .roBox (.t 0)),oO 3 (.box .roBox (.t 1)),oO 4 (.mv (.k (.c (.d (.bool false)))))]) (.seq (.reg [oO 5 (.fieldAddr 0 (.t 2)),oO 6 (.fieldAddr 0 (.t 5)),oO 7 (.load .sc (.t 6)),oO 8 (.fieldAddr 0 (.t 3)),oO 9 (.fieldAddr 0 (.t 8)),oO 10 (.load .sc (.t 9)),oO 11 (.call 12 [(.t 7),(.t 10)] none),oM 12 11,oG 13 (.fieldAddr 0 (.t 2)) 12 true,oG 14 (.fieldAddr 1 (.t 13)) 12 true,oG 15 (.load .sc (.t 14)) 12 true,oG 16 (.fieldAddr 0 (.t 3)) 12 true,oG 17 (.fieldAddr 1 (.t 16)) 12 true,oG 18 (.load .sc (.t 17)) 12 true,oG 19 (.call 12 [(.t 15),(.t 18)] none) 12 true,oO 20 (.pick (.t 12) (.t 19) (.k (.c (.d (.bool false))))),oM 21 20,oG 22 (.fieldAddr 2 (.t 2)) 21 true,oG 23 (.load .sc (.t 22)) 21 true,oG 24 (.fieldAddr 2 (.t 3)) 21 true,oG 25 (.load .sc (.t 24)) 21 true,
 oG 26 (.call 37 [(.t 23),(.t 25)] none) 21 true,oO 27 (.pick (.t 21) (.t 26) (.k (.c (.d (.bool false))))),oM 28 27,oG 29 (.fieldAddr 3 (.t 2)) 28 true,oG 30 (.load .sc (.t 29)) 28 true,oG 31 (.fieldAddr 3 (.t 3)) 28 true,oG 32 (.load .sc (.t 31)) 28 true,oG 33 (.call 12 [(.t 30),(.t 32)] none) 28 true,oO 34 (.pick (.t 28) (.t 33) (.k (.c (.d (.bool false))))),oM 35 34,oG 36 (.fieldAddr 4 (.t 2)) 35 true,oG 37 (.load .sc (.t 36)) 35 true,oG 38 (.fieldAddr 4 (.t 3)) 35 true,oG 39 (.load .sc (.t 38)) 35 true,oG 40 (.bin .eql (.t 37) (.t 39)) 35 true,oO 41 (.pick (.t 35) (.t 40) (.k (.c (.d (.bool false))))),oM 42 41,oG 43 (.fieldAddr 5 (.t 2)) 42 true,oG 44 (.load .sc (.t 43)) 42 true,oG 45 (.fieldAddr 5 (.t 3)) 42 true,oG 46 (.load .sc (.t 45)) 42 true,oG 47 (.bin .eql (.t 44) (.t 46)) 42 true,
 oO 48 (.pick (.t 42) (.t 47) (.k (.c (.d (.bool false))))),oM 4 48]) (.ret)),[(4,none)]⟩
theorem V5:aB Tryz.prog { own:=[],comp:=[],frz:=[],nils:=[] } Tryz.f11=some K5:=by kernel_rfl
theorem My (G:ah) (j:Jr) (h5:j.ck.length≤1000000):au Tryz.prog G 11 [aW j,aW j] (.w (.c (.d (.bool true)))):=by
  refine aF Tryz.func11 V5 rfl rfl ?_;have c1:=jq G j.up j.up;have c2:=jq G j.dn j.dn;have c3:=Xe G j.ck j.ck (by omega) (by omega);have c4:=jq G j.la j.la;rw[beq_self_eq_true] at c1 c2 c3 c4;unfold mO at c3;unfold aW;simp only[K5,af,ae,aa,seval,iteOmega,toNatUp];refine sD (c1) ?_;refine sD (c2) ?_;refine sD (c3) ?_;refine sD (c4) ?_;exact aG
def va (j:Jr) (cs:List (List UInt8)) (i:Nat):St:=⟨aP [(1,.w (.c (.d (.sl (cs.map fun l=>D.sl (l.map bD)))))),(2,.w (.c (.rp (bp j)))),(4,.w (.c (.ptr 1 1 0 0))),(6,.w (.c (.d (.int .i64 (i:Int)))))],hL [(1,bh)],uL [1]⟩
def An (j:Jr) (cs:List (List UInt8)) (i:Nat):St:=⟨aP [(1,.w (.c (.d (.sl (cs.map fun l=>D.sl (l.map bD)))))),(4,.w (.c (.ptr 3 1 0 0))),(7,.w (.c (.ptr 1 1 0 0))),(8,.w (.c (.d (.int .i64 (i:Int)))))],hL [(1,bK j (.own 2 1 0 (cD j.la j.ck (cs.take i)).length)),(2,.row 1 ((cD j.la j.ck (cs.take i)).map fun l=>D.sl (l.map bD))),(3,bh)],uL [1,2,3]⟩
theorem Mz {j:Jr} {cs:List (List UInt8)} {e:Int} (h:kH j cs=e) (he:e≠0):rJ j cs=cC:=if_neg (by rw[h]; exact he)
theorem IE {cs:List (List UInt8)} {i:Nat} (h:i<cs.length) (h1:dI (cs.take i)=true) (h2:(cs.getD i []).length=104):dI (cs.take (i+1))=true:=by
  unfold dI at *
  rw[nk h,List.all_append,h1,Z4,List.all_nil,beq_iff_eq.2 h2]; rfl
def te:aN := .seq (.seq (.reg [oM 13 6,oM 14 1,oO 15 (.len (.t 14)),oO 16 (.bin .lss (.t 13) (.t 15))]) (.cond (.t 16) (.skip) (.exit 0))) (.seq (.block 1 (.seq (.reg [oM 19 1,oM 20 6,oO 21 (.idxSl 1 (.t 19) (.t 20)),oO 22 (.load .sc (.t 21)),oO 23 (.len (.t 22)),oO 24 (.bin .neq (.t 23) (kI 104))]) (.cond (.t 24) (.seq (.reg [oO 25 (.build [.nil,.nil,.nil,.nil,(.d (.int .i64 0)),(.d (.int .i64 0))] []),oN (.store (.ag 6) (.t 4) (.t 25)),oO 5 (.mv (kI 3))]) (.ret)) (.skip)))) (.reg [oM 17 6,oO 18 (.bin .add (.t 17) (kI 1)),oM 6 18]))
def nJ:aN := .seq (.seq (.reg [oM 28 8,oM 29 1,oO 30 (.len (.t 29)),oO 31 (.bin .lss (.t 28) (.t 30))]) (.cond (.t 31) (.skip) (.exit 2))) (.seq (.block 3 (.seq (.reg [oO 34 (.fieldAddr 2 (.t 7)),oO 35 (.load .sc (.t 34)),oM 36 1,oM 37 8,oO 38 (.idxSl 1 (.t 36) (.t 37)),oO 39 (.load .sc (.t 38)),oO 40 (.call 56 [(.t 35),(.t 39)] none),oO 41 (.un .not (.t 40)),oM 42 41,oG 43 (.fieldAddr 3 (.t 7)) 42 true,oG 44 (.load .sc (.t 43)) 42 true,oG 45 (.mv (.t 1)) 42 true,oG 46 (.mv (.t 8)) 42 true,oG 47 (.idxSl 1 (.t 45) (.t 46)) 42 true,oG 48 (.load .sc (.t 47)) 42 true,oG 49 (.call 12 [(.t 44),(.t 48)] none) 42 true,oG 50 (.un .not (.t 49)) 42 true,oO 51 (.pick (.t 42) (.t 50) (.k (.c (.d (.bool false))))),oM 52 51,oG 53 (.fieldAddr 2 (.t 7)) 52 true,oG 54 (.load .sc (.t 53)) 52 true,oG 55 (.len (.t 54)) 52 true,
 oG 56 (.bin .lss (.t 55) (kI 8)) 52 true,oO 57 (.pick (.t 52) (.t 56) (.k (.c (.d (.bool false)))))]) (.cond (.t 57) (.reg [oO 58 (.fieldAddr 2 (.t 7)),oO 59 (.load .sc (.t 58)),oM 60 1,oM 61 8,oO 62 (.idxSl 1 (.t 60) (.t 61)),oO 63 (.load .sc (.t 62)),oO 64 (.bldSl false 1 1 (.sl []) [(0,(.t 63))]),oO 65 (.call 41 [(.t 64)] none),oO 66 (.bldSl false 1 1 (.sl []) [(0,(.t 65))]),oO 67 (.app false 1 24 (.t 59) (.t 66)),oO 68 (.fieldAddr 2 (.t 7)),oN (.store .sc (.t 68) (.t 67))]) (.skip)))) (.reg [oM 32 8,oO 33 (.bin .add (.t 32) (kI 1)),oM 8 33]))
def zK:aD:=⟨2,70,.seq (.reg [oO 2 (.box .roBox (.t 0)),oO 4 (.alloc [.nil,.nil,.nil,.nil,(.d (.int .i64 0)),(.d (.int .i64 0))]),oO 5 (.mv (kI 0))]) (.seq (.seq (.reg [oO 9 (.load (.ag 6) (.t 2)),oO 10 (.call 26 [(.t 9)] none),oO 11 (.un .not (.t 10))]) (.cond (.t 11) (.seq (.reg [oO 12 (.build [.nil,.nil,.nil,.nil,(.d (.int .i64 0)),(.d (.int .i64 0))] []),oN (.store (.ag 6) (.t 4) (.t 12)),oO 5 (.mv (kI 3))]) (.ret)) (.skip))) (.seq (.seq (.reg [oO 6 (.mv (kI 0))]) (.block 0 (.loop te))) (.seq (.reg [oO 26 (.load (.ag 6) (.t 2)),oO 27 (.call 57 [(.t 26)] (some (2,1))),oO 7 (.alloc [.nil,.nil,.nil,.nil,(.d (.int .i64 0)),(.d (.int .i64 0))]),oN (.store (.ag 6) (.t 7) (.t 27))]) (.seq (.seq (.reg [oO 8 (.mv (kI 0))]) (.block 2 (.loop nJ))) (.seq (.reg [oO 69 (.load (.ag 6) (.t 7)),
 oN (.store (.ag 6) (.t 4) (.t 69)),oO 5 (.mv (kI 0))]) (.ret)))))),[(4,(some (.ag 6))),(5,none)]⟩
theorem V6:aB Tryz.prog { own:=[],comp:=[(27,1002)],frz:=[],nils:=[] } Tryz.f36=some zK:=by kernel_rfl
set_option maxHeartbeats 6400000 in
theorem Xw (G:ah) (j:Jr) (cs:List (List UInt8)) (hcs:cs.length≤9000000000000000000):au Tryz.prog G 36 [aW j,.sl (cs.map fun l=>D.sl (l.map bD))] (.tup [.c (.d (aW (rJ j cs))),.c (.d (.int .i64 (kH j cs)))]):=by
  refine aF Tryz.func36 V6 rfl rfl ?_;have c1:=u9 G j;by_cases v:cK j
  ·rw[decide_eq_true v] at c1;obtain⟨v1,v2,v3,v4,v5⟩:=kV v;have c2:=Mx G j (by omega) (by omega) (by omega) (fun c hc=>by have:=v5 c hc; omega) (by omega);have eE:kH j cs=if dI cs=true then 0 else 3:=by unfold kH; rw[if_neg (not_not_intro v)]
   unfold aW rK at *
   simp only[zK,af,ae,aa,seval,iteOmega,toNatUp];refine sD (c1) ?_;refine aV (va j cs) (fun i=>cs.length-i) (fun i=>i≤cs.length∧dI (cs.take i)=true) 0 ⟨Yt _,rfl⟩ ?_ ?_
   ·refine ap (fun i=>32) ?_ ?_ rfl rfl <;> simp only[bp,bh,wx,aj,ar,aa,seval,iteOmega,toNatUp] <;> first | rfl | exact⟨rfl,rfl⟩ | skip
   ·rintro i ⟨hi,hp⟩;by_cases hlt:i<cs.length
    ·have g:=iP hlt;have hm:=iz hlt;have hs:=IE hlt hp;by_cases hx:(cs.getD i []).length=104
     ·have gx:(((cs.getD i []).length:Int)=104)=True:=eq_true (by omega);have hs2:=hs hx;clear hm hx hs;generalize cs.getD i []=x at *
      simp only[te,va,bp,bh,ae,aa,seval,iteOmega,toNatUp,aC,g,gx];refine aQ (i+1) (by omega) ⟨by omega,hs2⟩ (ap (fun i=>i) ?_ ?_ rfl rfl) <;> simp only[bp,bh,wx,aj,ar,aa,seval,iteOmega,toNatUp] <;> first | rfl | exact⟨rfl,rfl⟩ | skip
     ·have gx:(((cs.getD i []).length:Int)=104)=False:=eq_false (by omega);have e:kH j cs=3:=by rw[eE,if_neg (fun h=>hx (kK.1 h _ hm))]
      rw[Mz e (by decide),e];clear hm hx hs eE e;generalize cs.getD i []=x at *
      unfold cC;simp only[te,va,bp,bh,ae,aa,seval,iteOmega,toNatUp,aC,g,gx];exact cF
    ·obtain rfl:i=cs.length:=by omega
     rw[YR] at hp;have e:kH j cs=0:=by rw[eE,if_pos hp]
     rw[show rJ j cs=lE j cs from if_pos e,e];clear eE e c1;unfold lE;dsimp only;simp only[te,va,bp,bh,ae,aa,seval,iteOmega,toNatUp];refine sD (c2) ?_;refine aV (An j cs) (fun i=>cs.length-i) (fun i=>i≤cs.length) 0 (Yt _) ?_ ?_
     ·refine ap (fun i=>if i=1 then 56 else if i=2 then 216 else 1) ?_ ?_ rfl rfl <;> simp only[Zs,cD,Zt,bK,bh,wx,aj,ar,aa,seval,iteOmega,toNatUp] <;> first | rfl | exact⟨rfl,rfl⟩ | skip
     ·intro i hi;clear c2;have L8:=yN (la:=j.la) (l:=j.ck) (cs.take i) v3;by_cases hlt:i<cs.length
      ·have g:=iP hlt;have hn:cD j.la j.ck (cs.take (i+1))=kG j.la (cD j.la j.ck (cs.take i)) (cs.getD i []):=by rw[nk hlt,F7]
       have m4:=kK.1 hp _ (iz hlt);have az:=fa (cD j.la j.ck (cs.take i));unfold kG rx at hn;have e2:An j cs i=⟨aP [(1,.w (.c (.d (.sl (cs.map fun l=>D.sl (l.map bD)))))),(4,.w (.c (.ptr 3 1 0 0))),(7,.w (.c (.ptr 1 1 0 0))),(8,.w (.c (.d (.int .i64 (i:Int)))))],hL [(1,bK j (.own 2 1 0 (cD j.la j.ck (cs.take i)).length)),(2,.row 1 ((cD j.la j.ck (cs.take i)).map fun l=>D.sl (l.map bD))),(3,bh)],uL [1,2,3]⟩:=rfl;rw[e2];clear e2;generalize cD j.la j.ck (cs.take i)=L at *
       generalize cs.getD i []=x at *
       have c3:=Am G L x (by omega);have c4:=jq G j.la x;have c5:=eo G [x] (by simp) (by simp; omega);simp only[Yp,Yv,YZ,YU,Yy] at c5;cases q1:eZ L x
       ·rw[q1] at c3;cases q2:j.la==x
        ·rw[q2] at c4;by_cases h8:L.length<8
         ·have g8:((L.length:Int)<8)=True:=eq_true (by omega);rw[if_pos (by rw[q1,q2,decide_eq_true h8]; rfl)] at hn;simp only[nJ,bK,bh,ae,aa,seval,iteOmega,toNatUp,aC,g];refine aY c3 (by simp only[ae,aa,seval,iteOmega,toNatUp,YR]) (.inr rfl) ?_;simp only[ae,aa,seval,iteOmega,toNatUp,aC,g];refine sC (c4) ?_;simp only[g8,aC,g,ae,aa,seval,iteOmega,toNatUp];refine sC (c5) ?_;simp only[bH,ae,aa,seval,iteOmega,toNatUp];refine aQ (i+1) (by omega) (by omega) (ap (fun i=>if i=1 then 1 else if i=2 then 536 else 3) ?_ ?_ rfl rfl) <;> simp only[hn,YD,bK,bh,wx,aj,ar,aa,seval,iteOmega,toNatUp] <;> first | rfl | exact⟨rfl,rfl⟩ | skip
         ·have g8:((L.length:Int)<8)=False:=eq_false (by omega);rw[if_neg (by rw[q1,q2,decide_eq_false h8]; decide)] at hn;simp only[nJ,bK,bh,ae,aa,seval,iteOmega,toNatUp,aC,g];refine aY c3 (by simp only[ae,aa,seval,iteOmega,toNatUp,YR]) (.inr rfl) ?_;simp only[ae,aa,seval,iteOmega,toNatUp,aC,g];refine sC (c4) ?_;simp only[g8,ae,aa,seval,iteOmega,toNatUp];refine aQ (i+1) (by omega) (by omega) (ap (fun i=>i) ?_ ?_ rfl rfl) <;> simp only[hn,bK,bh,wx,aj,ar,aa,seval,iteOmega,toNatUp] <;> first | rfl | exact⟨rfl,rfl⟩ | skip
        ·rw[q2] at c4;rw[if_neg (by rw[q1,q2]; simp)] at hn;simp only[nJ,bK,bh,ae,aa,seval,iteOmega,toNatUp,aC,g];refine aY c3 (by simp only[ae,aa,seval,iteOmega,toNatUp,YR]) (.inr rfl) ?_;simp only[ae,aa,seval,iteOmega,toNatUp,aC,g];refine sD (c4) ?_;refine aQ (i+1) (by omega) (by omega) (ap (fun i=>i) ?_ ?_ rfl rfl) <;> simp only[hn,bK,bh,wx,aj,ar,aa,seval,iteOmega,toNatUp] <;> first | rfl | exact⟨rfl,rfl⟩ | skip
       ·rw[q1] at c3;rw[if_neg (by rw[q1]; simp)] at hn;simp only[nJ,bK,bh,ae,aa,seval,iteOmega,toNatUp,aC,g];refine aY c3 (by simp only[ae,aa,seval,iteOmega,toNatUp,YR]) (.inr rfl) ?_;simp only[ae,aa,seval,iteOmega,toNatUp];refine aQ (i+1) (by omega) (by omega) (ap (fun i=>i) ?_ ?_ rfl rfl) <;> simp only[hn,bK,bh,wx,aj,ar,aa,seval,iteOmega,toNatUp] <;> first | rfl | exact⟨rfl,rfl⟩ | skip
      ·obtain rfl:i=cs.length:=by omega
       have hk:cs.take cs.length=cs:=YR;have az:=fa (cD j.la j.ck cs);simp only[nJ,An,bK,bh,hk,ae,aa,seval,iteOmega,toNatUp];exact cF
  ·rw[decide_eq_false v] at c1;have e:kH j cs=3:=if_pos v;rw[Mz e (by decide),e];unfold aW cC at *
   simp only[zK,af,ae,aa,seval,iteOmega,toNatUp];refine sD (c1) ?_;exact cF
theorem F8 {la:List UInt8} {l:List (List UInt8)} (h:8≤l.length):∀ cs,cD la l cs=l
  | []=>rfl
  | c::cs=>by
    have e:kG la l c=l:=if_neg (by
      unfold rx;rw[decide_eq_false (by omega),Bool.and_false,Bool.and_false]; decide)
    show cD la (kG la l c) cs=l
    rw[e];exact F8 h cs
theorem Rl {la:List UInt8} {l cs:List (List UInt8)} {i:Nat} (h:(cD la l (cs.take i)).length=8):cD la l cs=cD la l (cs.take i):=by
  have e:cD la l cs=cD la (cD la l (cs.take i)) (cs.drop i):=by
    unfold cD;rw[← List.foldl_append,Y7]
  rw[e];exact F8 (by omega) _
theorem Xx {j:Jr} (v:cK j) (h:j.ck.length≠0) (hs:j.sn≠1099511627776):cL j=0∧cK (cY j):=by
  refine⟨by unfold cL; rw[if_neg (not_not_intro v),if_neg h,if_neg hs],?_⟩;obtain⟨⟨a1,a2,a3,a4,a5,a6,a7,a8⟩,b,c⟩:=nT.1 v;obtain⟨up,dn,ck,la,nw,sn⟩:=j
  match ck,h with
  | x::r,_ =>
    have c:=List.nodup_cons.1 c;refine nT.2 ⟨⟨a1,a2,?_,.inr (b x (Zk ..)),qL.2 c.1,a6,?_,?_⟩,fun y hy=>b y (Y4 _ hy),c.2⟩
    ·have a3:r.length+1≤8:=a3
     show r.length≤8
     omega
    ·have a7:0≤sn:=a7
     show 0≤sn+1
     omega
    ·have a8:sn≤1099511627776:=a8;have hs:sn≠1099511627776:=hs
     show sn+1≤1099511627776
     omega
def nn (up dn:List UInt8):Prop:=up.length=32∧dn.length=32
instance (up dn:List UInt8):Decidable (nn up dn):=by unfold nn; infer_instance
def uj:aD:=⟨1,13,.seq (.reg [oO 1 (.box .roBox (.t 0)),oO 2 (.mv (.k (.c (.d (.bool false)))))]) (.seq (.reg [oO 3 (.fieldAddr 0 (.t 1)),oO 4 (.load .sc (.t 3)),oO 5 (.len (.t 4)),oO 6 (.bin .eql (.t 5) (kI 32)),oM 7 6,oG 8 (.fieldAddr 1 (.t 1)) 7 true,oG 9 (.load .sc (.t 8)) 7 true,oG 10 (.len (.t 9)) 7 true,oG 11 (.bin .eql (.t 10) (kI 32)) 7 true,oO 12 (.pick (.t 7) (.t 11) (.k (.c (.d (.bool false))))),oM 2 12]) (.ret)),[(2,none)]⟩
theorem V7:aB Tryz.prog { own:=[],comp:=[],frz:=[],nils:=[] } Tryz.f51=some uj:=by kernel_rfl
theorem Xy (G:ah) (up dn:List UInt8):au Tryz.prog G 51 [.agg [.sl (up.map bD),.sl (dn.map bD)]] (.w (.c (.d (.bool (decide (nn up dn)))))):=by
  refine aF Tryz.func51 V7 rfl rfl ?_;by_cases h1:up.length=32
  ·have g1:((up.length:Int)=32)=True:=eq_true (by omega);by_cases h2:dn.length=32
   ·have g2:((dn.length:Int)=32)=True:=eq_true (by omega);rw[decide_eq_true (show nn up dn from ⟨h1,h2⟩)];simp only[uj,af,ae,aa,seval,iteOmega,toNatUp,g1,g2];exact aG
   ·have g2:((dn.length:Int)=32)=False:=eq_false (by omega);rw[decide_eq_false (show ¬ nn up dn from fun h=>h2 h.2)];simp only[uj,af,ae,aa,seval,iteOmega,toNatUp,g1,g2];exact aG
  ·have g1:((up.length:Int)=32)=False:=eq_false (by omega);rw[decide_eq_false (show ¬ nn up dn from fun h=>h1 h.1)];simp only[uj,af,ae,aa,seval,iteOmega,toNatUp,g1];exact aG
def zL:aD:=⟨1,6,.seq (.reg [oO 2 (.mv (.k (.c (.d (.bool false)))))]) (.seq (.reg [oM 3 0,oO 4 (.len (.t 3)),oO 5 (.bin .eql (.t 4) (kI 104)),oM 2 5]) (.ret)),[(2,none)]⟩
theorem V8:aB Tryz.prog { own:=[],comp:=[],frz:=[],nils:=[] } Tryz.f54=some zL:=by kernel_rfl
theorem Ao (G:ah) (b:List UInt8):au Tryz.prog G 54 [.sl (b.map bD)] (.w (.c (.d (.bool (b.length==104))))):=by
  refine aF Tryz.func54 V8 rfl rfl ?_;by_cases h1:b.length=104
  ·have g1:((b.length:Int)=104)=True:=eq_true (by omega);rw[beq_iff_eq.2 h1];simp only[zL,af,ae,aa,seval,iteOmega,toNatUp,g1];exact aG
  ·have g1:((b.length:Int)=104)=False:=eq_false (by omega);rw[beq_eq_false_iff_ne.2 h1];simp only[zL,af,ae,aa,seval,iteOmega,toNatUp,g1];exact aG
def ve (l:List (List UInt8)) (i:Nat):St:=⟨aP [(5,.w (.c (.d (.sl (l.map fun x=>D.sl (x.map bD)))))),(6,.w (.c (.d (.int .i64 (l.length:Int))))),(7,.w (.c (.d (.int .i64 (i:Int)))))],hL [],uL []⟩
def tg:aN := .seq (.reg [oO 8 (.bin .lss (.t 7) (.t 6))]) (.seq (.cond (.t 8) (.skip) (.exit 0)) (.seq (.block 1 (.seq (.reg [oO 9 (.idxSl 1 (.t 5) (.t 7)),oO 10 (.load .sc (.t 9)),oM 4 10]) (.seq (.reg [oM 11 4,oO 12 (.call 54 [(.t 11)] none),oO 13 (.un .not (.t 12))]) (.cond (.t 13) (.seq (.reg [oO 2 (.mv (.k (.c (.d (.bool false)))))]) (.ret)) (.skip))))) (.reg [oO 14 (.bin .add (.t 7) (kI 1)),oM 7 14])))
def K6:aD:=⟨1,15,.seq (.reg [oO 2 (.mv (.k (.c (.d (.bool false)))))]) (.seq (.seq (.reg [oM 5 0,oO 6 (.len (.t 5)),oO 7 (.mv (kI 0))]) (.block 0 (.loop tg))) (.seq (.reg [oO 2 (.mv (.k (.c (.d (.bool true)))))]) (.ret))),[(2,none)]⟩
theorem V9:aB Tryz.prog { own:=[],comp:=[],frz:=[],nils:=[] } Tryz.f52=some K6:=by kernel_rfl
theorem Xz (G:ah) (l:List (List UInt8)) (hl:l.length≤9000000000000000000):au Tryz.prog G 52 [.sl (l.map fun x=>D.sl (x.map bD))] (.w (.c (.d (.bool (dI l))))):=by
  refine aF Tryz.func52 V9 rfl rfl ?_;simp only[K6,af,ae,aa,seval,iteOmega,toNatUp];refine aV (ve l) (fun i=>l.length-i) (fun i=>i≤l.length∧dI (l.take i)=true) 0 ⟨Yt _,rfl⟩ ?_ ?_
  ·refine ap (fun _=>0) ?_ ?_ rfl rfl <;> simp only[wx,aj,ar,aa,seval,iteOmega,toNatUp] <;> first | rfl | exact⟨rfl,rfl⟩ | skip
  ·rintro i ⟨hi,hp⟩;by_cases hlt:i<l.length
   ·have g:=iP hlt;have hs:=IE hlt hp;have hm:=iz hlt;have no:dI l=true→(l.getD i []).length=104:=fun h=>kK.1 h _ hm
    clear hm;generalize l.getD i []=x at *
    have c1:=Ao G x;by_cases hx:x.length=104
    ·rw[beq_iff_eq.2 hx] at c1;have hs:=hs hx;simp only[tg,ve,ae,aa,seval,iteOmega,toNatUp,aC,g];refine sD (c1) ?_;refine aQ (i+1) (by omega) ⟨by omega,hs⟩ (ap (fun i=>i) ?_ ?_ rfl rfl) <;> simp only[wx,aj,ar,aa,seval,iteOmega,toNatUp] <;> first | rfl | exact⟨rfl,rfl⟩ | skip
    ·rw[beq_eq_false_iff_ne.2 hx] at c1;have e:dI l=false:=by
       cases h:dI l
       ·rfl
       ·exact absurd (no h) hx
     rw[e];simp only[tg,ve,ae,aa,seval,iteOmega,toNatUp,aC,g];refine sD (c1) ?_;exact aG
   ·obtain rfl:i=l.length:=by omega
    rw[YR] at hp;rw[hp];simp only[tg,ve,ae,aa,seval,iteOmega,toNatUp];exact aG
def K7:aD:=⟨2,7,.seq (.reg [oO 3 (.mv (.k (.c (.d (.bool false)))))]) (.seq (.reg [oM 4 0,oO 5 (.load .sc (.t 1)),oO 6 (.call 55 [(.t 4),(.t 5)] none),oM 3 6]) (.ret)),[(3,none)]⟩
theorem Wa:aB Tryz.prog { own:=[],comp:=[],frz:=[],nils:=[] } Tryz.f84=some K7:=by kernel_rfl
theorem XB (G:ah) (c x:List UInt8):pb Tryz.prog G 84 [.ref [.sl (c.map bD)]] [.sl (x.map bD)] (.w (.c (.d (.bool (x==c))))):=by
  refine⟨enters_of Tryz.func84 (by kernel_rfl) rfl,?_⟩;refine PE Tryz.func84 Wa rfl rfl ?_;have c1:=qH G x c;simp only[K7,Zm,Zu,Yp,Yv,D.up,fN,ae,aa,seval,iteOmega,toNatUp];refine sD (c1) ?_;exact aG
def K8:aD:=⟨2,8,.seq (.reg [oO 3 (.box .roBox (.t 1)),oO 4 (.mv (.k (.c (.d (.bool false)))))]) (.seq (.reg [oM 5 0,oO 6 (.clos 84 [(.t 3)]),oO 7 (.call 83 [(.t 5),(.t 6)] none),oM 4 7]) (.ret)),[(4,none)]⟩
theorem Wb:aB Tryz.prog { own:=[],comp:=[],frz:=[],nils:=[] } Tryz.f53=some K8:=by kernel_rfl
theorem Ap (G:ah) (l:List (List UInt8)) (c:List UInt8) (hl:l.length≤9000000000000000000):au Tryz.prog G 53 [.sl (l.map fun x=>D.sl (x.map bD)),.sl (c.map bD)] (.w (.c (.d (.bool (eZ l c))))):=by
  refine aF Tryz.func53 Wb rfl rfl ?_;have c1:=Kh G l 84 [.ref [.sl (c.map bD)]] (fun x=>x==c) (by omega) (fun x _=>XB G c x);rw[show l.any (fun x=>x==c)=eZ l c from rfl] at c1;simp only[K8,af,ae,aa,seval,iteOmega,toNatUp];refine sD (c1) ?_;exact aG
def ry (j:Jr) (n i:Nat):List (Nat×V):=[(1,.w (.c (.ptr 1 1 0 0))),(2,.w (.c (.ptr 3 1 0 0))),(3,.w (.c (.own 2 1 0 n))),(25,.w (.c (.d (.sl (j.ck.map fun l=>D.sl (l.map bD)))))),(26,.w (.c (.d (.int .i64 (j.ck.length:Int))))),(27,.w (.c (.d (.int .i64 (i:Int)))))]
def vf (j:Jr) (i:Nat):St:=⟨aP (ry j (j.ck.take i).length i),hL [(1,bK j (.d (.sl (j.ck.map fun l=>D.sl (l.map bD))))),(2,.row 1 ((j.ck.take i).map fun l=>D.sl (l.map bD))),(3,bh)],uL [1,2,3]⟩
def xZ:aN := .seq (.reg [oO 28 (.bin .lss (.t 27) (.t 26))]) (.seq (.cond (.t 28) (.skip) (.exit 0)) (.seq (.block 1 (.seq (.reg [oO 29 (.idxSl 1 (.t 25) (.t 27)),oO 30 (.load .sc (.t 29)),oM 5 30]) (.reg [oM 31 3,oM 32 5,oO 33 (.bldSl false 1 1 (.sl []) [(0,(.t 32))]),oO 34 (.call 50 [(.t 33)] none),oO 35 (.bldSl false 1 1 (.sl []) [(0,(.t 34))]),oO 36 (.app false 1 24 (.t 31) (.t 35)),oM 3 36]))) (.reg [oO 37 (.bin .add (.t 27) (kI 1)),oM 27 37])))
def K9:aD:=⟨1,41,.seq (.reg [oO 1 (.box .ownBox (.t 0)),oO 2 (.alloc [.nil,.nil,.nil,.nil,(.d (.int .i64 0)),(.d (.int .i64 0))])]) (.seq (.reg [oO 6 (.fieldAddr 0 (.t 1)),oO 7 (.fieldAddr 0 (.t 6)),oO 8 (.load .sc (.t 7)),oO 9 (.bldSl false 1 1 (.sl []) [(0,(.t 8))]),oO 10 (.call 50 [(.t 9)] none),oO 11 (.fieldAddr 0 (.t 1)),oO 12 (.fieldAddr 1 (.t 11)),oO 13 (.load .sc (.t 12)),oO 14 (.bldSl false 1 1 (.sl []) [(0,(.t 13))]),oO 15 (.call 50 [(.t 14)] none),oO 16 (.build [.nil,.nil] [(0,1,(.t 10)),(1,1,(.t 15))]),oO 17 (.fieldAddr 0 (.t 1)),oN (.store (.ag 2) (.t 17) (.t 16))]) (.seq (.reg [oO 18 (.fieldAddr 3 (.t 1)),oO 19 (.load .sc (.t 18)),oO 20 (.bldSl false 1 1 (.sl []) [(0,(.t 19))]),oO 21 (.call 50 [(.t 20)] none),oO 22 (.fieldAddr 3 (.t 1)),oN (.store .sc (.t 22) (.t 21))]) (.seq (.reg [oO 23 (.make true 1 24 (.sl []) (kI 0) (kI 8)),
 oM 3 23]) (.seq (.seq (.reg [oO 24 (.fieldAddr 2 (.t 1)),oO 25 (.load .sc (.t 24)),oO 26 (.len (.t 25)),oO 27 (.mv (kI 0))]) (.block 0 (.loop xZ))) (.seq (.reg [oM 38 3,oO 39 (.fieldAddr 2 (.t 1)),oN (.store .sc (.t 39) (.t 38))]) (.seq (.reg [oO 40 (.load (.ag 6) (.t 1)),oN (.store (.ag 6) (.t 2) (.t 40))]) (.ret))))))),[(2,(some (.ag 6)))]⟩
theorem Wc:aB Tryz.prog { own:=[1],comp:=[],frz:=[],nils:=[] } Tryz.f33=some K9:=by kernel_rfl
theorem MA (G:ah) (j:Jr) (h1:j.up.length≤140737488355328) (h2:j.dn.length≤140737488355328) (h3:j.la.length≤140737488355328) (h4:∀ c∈j.ck,c.length≤140737488355328) (h5:j.ck.length≤1000000):au Tryz.prog G 33 [aW j] (.w (.mix (rK j))):=by
  refine aF Tryz.func33 Wc rfl rfl ?_;have c1:=eJ G [j.up] (by simp) (by simp; omega);have c2:=eJ G [j.dn] (by simp) (by simp; omega);have c3:=eJ G [j.la] (by simp) (by simp; omega);simp only[Yp,Yv,YZ,YU,Yy] at c1 c2 c3;unfold aW;simp only[K9,af,ae,aa,seval,iteOmega,toNatUp];refine sD (c1) ?_;refine sD (c2) ?_;refine sD (c3) ?_;refine aV (vf j) (fun i=>j.ck.length-i) (fun i=>i≤j.ck.length) 0 (Yt _) ?_ ?_
  ·refine ap (fun i=>if i=1 then 8 else if i=2 then 184 else 16) ?_ ?_ rfl rfl <;> simp only[ry,bp,bK,bh,wx,aj,ar,aa,seval,iteOmega,toNatUp] <;> first | rfl | exact⟨rfl,rfl⟩ | skip
  ·intro i hi;clear c1 c2 c3;by_cases hlt:i<j.ck.length
   ·have g:=iP hlt;have hs:=nk hlt;have hm:=h4 _ (iz hlt);have tl:(j.ck.take i).length=i:=by rw[Yu]; omega
    have az:=fa (j.ck.take i);generalize j.ck.getD i []=x at *
    have c4:=eJ G [x] (by simp) (by simp; omega);simp only[Yp,Yv,YZ,YU,Yy] at c4;simp only[xZ,vf,ry,bp,bK,bh,ae,aa,seval,iteOmega,toNatUp,aC,g,tl];refine sC (c4) ?_;simp only[bH,tl,ae,aa,seval,iteOmega,toNatUp];refine aQ (i+1) (by omega) (by omega) (ap (fun i=>if i=1 then 1 else if i=2 then 288 else 3) ?_ ?_ rfl rfl) <;> simp only[vf,ry,bp,bK,bh,hs,Yr,ZG,YD,tl,wx,aj,ar,aa,seval,iteOmega,toNatUp] <;> first | rfl | exact⟨rfl,rfl⟩ | skip
   ·obtain rfl:i=j.ck.length:=by omega
    have hk:j.ck.take j.ck.length=j.ck:=YR;have az:=fa j.ck;simp only[xZ,vf,ry,bp,bK,bh,hk,ae,aa,seval,iteOmega,toNatUp];exact zJ (k:=.own 2 1 0 j.ck.length) (by simp only[ae,aa,seval,iteOmega,toNatUp] <;> rfl) ⟨rfl,rfl,by simp only[ae,aa,seval,iteOmega,toNatUp,hk]⟩ (by simp[C.ids])
theorem XC (G:ah) (j:Jr) (h1:j.up.length≤140737488355328) (h2:j.dn.length≤140737488355328) (h3:j.la.length≤140737488355328) (h4:∀ c∈j.ck,c.length≤140737488355328) (h5:j.ck.length≤1000000):au Tryz.prog G 33 [aW j] (.w (.c (.d (aW j)))):=ID rfl (MA G j h1 h2 h3 h4 h5)
set_option maxHeartbeats 6400000
def mX (j:Jr) (i:Nat):St:=⟨aP [(1,.w (.c (.rp (bp j)))),(35,.w (.c (.d (.sl (j.ck.map fun l=>D.sl (l.map bD)))))),(36,.w (.c (.d (.int .i64 (j.ck.length:Int))))),(37,.w (.c (.d (.int .i64 (i:Int)))))],hL [],uL []⟩
def mC:aN := .seq (.reg [oO 38 (.bin .lss (.t 37) (.t 36))]) (.seq (.cond (.t 38) (.skip) (.exit 0)) (.seq (.block 1 (.seq (.reg [oM 39 37,oO 40 (.idxSl 1 (.t 35) (.t 37)),oO 41 (.load .sc (.t 40)),oM 3 39,oM 4 41]) (.seq (.reg [oO 42 (.fieldAddr 2 (.t 1)),oO 43 (.load .sc (.t 42)),oM 44 3,oO 45 (.slice 1 (.t 43) none (some (.t 44)) none),oM 46 4,oO 47 (.call 53 [(.t 45),(.t 46)] none)]) (.cond (.t 47) (.seq (.reg [oO 2 (.mv (.k (.c (.d (.bool false)))))]) (.ret)) (.skip))))) (.reg [oO 48 (.bin .add (.t 37) (kI 1)),oM 37 48])))
def lT:aD:=⟨1,66,.seq (.reg [oO 1 (.box .roBox (.t 0)),oO 2 (.mv (.k (.c (.d (.bool false)))))]) (.seq (.seq (.reg [oO 5 (.fieldAddr 0 (.t 1)),oO 6 (.load (.ag 2) (.t 5)),oO 7 (.call 51 [(.t 6)] none),oO 8 (.un .not (.t 7)),oM 9 8,oG 10 (.fieldAddr 4 (.t 1)) 9 false,oG 11 (.load .sc (.t 10)) 9 false,oG 12 (.bin .lss (.t 11) (kI 0)) 9 false,oO 13 (.pick (.t 9) (.k (.c (.d (.bool true)))) (.t 12)),oM 14 13,oG 15 (.fieldAddr 5 (.t 1)) 14 false,oG 16 (.load .sc (.t 15)) 14 false,oG 17 (.bin .lss (.t 16) (kI 0)) 14 false,oO 18 (.pick (.t 14) (.k (.c (.d (.bool true)))) (.t 17)),oM 19 18,oG 20 (.fieldAddr 5 (.t 1)) 19 false,oG 21 (.load .sc (.t 20)) 19 false,oG 22 (.bin .gtr (.t 21) (kI 1099511627776)) 19 false,oO 23 (.pick (.t 19) (.k (.c (.d (.bool true)))) (.t 22))]) (.cond (.t 23) (.seq (.reg [oO 2 (.mv (.k (.c (.d (.bool false)))))])
 (.ret)) (.skip))) (.seq (.seq (.reg [oO 24 (.fieldAddr 2 (.t 1)),oO 25 (.load .sc (.t 24)),oO 26 (.len (.t 25)),oO 27 (.bin .gtr (.t 26) (kI 8)),oM 28 27,oG 29 (.fieldAddr 2 (.t 1)) 28 false,oG 30 (.load .sc (.t 29)) 28 false,oG 31 (.call 52 [(.t 30)] none) 28 false,oG 32 (.un .not (.t 31)) 28 false,oO 33 (.pick (.t 28) (.k (.c (.d (.bool true)))) (.t 32))]) (.cond (.t 33) (.seq (.reg [oO 2 (.mv (.k (.c (.d (.bool false)))))]) (.ret)) (.skip))) (.seq (.seq (.reg [oO 34 (.fieldAddr 2 (.t 1)),oO 35 (.load .sc (.t 34)),oO 36 (.len (.t 35)),oO 37 (.mv (kI 0))]) (.block 0 (.loop mC))) (.seq (.reg [oO 49 (.fieldAddr 3 (.t 1)),oO 50 (.load .sc (.t 49)),oO 51 (.len (.t 50)),oO 52 (.bin .eql (.t 51) (kI 0)),oM 53 52,oG 54 (.fieldAddr 3 (.t 1)) 53 false,oG 55 (.load .sc (.t 54)) 53 false,oG 56 (.call 54 [(.t 55)] none) 53 false,
 oG 57 (.mv (.t 56)) 53 false,oG 58 (.fieldAddr 2 (.t 1)) 57 true,oG 59 (.load .sc (.t 58)) 57 true,oG 60 (.fieldAddr 3 (.t 1)) 57 true,oG 61 (.load .sc (.t 60)) 57 true,oG 62 (.call 53 [(.t 59),(.t 61)] none) 57 true,oG 63 (.un .not (.t 62)) 57 true,oG 64 (.pick (.t 57) (.t 63) (.k (.c (.d (.bool false))))) 53 false,oO 65 (.pick (.t 53) (.k (.c (.d (.bool true)))) (.t 64)),oM 2 65]) (.ret))))),[(2,none)]⟩
theorem Wd:aB Tryz.prog { own:=[],comp:=[],frz:=[],nils:=[] } Tryz.f21=some lT:=by kernel_rfl
theorem vg (G:ah) (j:Jr):au Tryz.prog G 21 [aW j] (.w (.c (.d (.bool (decide (cK j)))))):=by
  refine aF Tryz.func21 Wd rfl rfl ?_;have no:¬ cK j→decide (cK j)=false:=fun h=>decide_eq_false h
  have c1:=Xy G j.up j.dn;unfold aW;by_cases h1:nn j.up j.dn
  ·rw[decide_eq_true h1] at c1;by_cases h2:j.nw<0
   ·have g2:(j.nw<0)=True:=eq_true h2;rw[no (fun h=>by have:=h.1.2.2.2.2.2.1; omega)];simp only[lT,af,ae,aa,seval,iteOmega,toNatUp];refine sC (c1) ?_;simp only[g2,ae,aa,seval,iteOmega,toNatUp];exact aG
   ·have g2:(j.nw<0)=False:=eq_false h2;by_cases h3:j.sn<0
    ·have g3:(j.sn<0)=True:=eq_true h3;rw[no (fun h=>by have:=h.1.2.2.2.2.2.2.1; omega)];simp only[lT,af,ae,aa,seval,iteOmega,toNatUp];refine sC (c1) ?_;simp only[g2,g3,ae,aa,seval,iteOmega,toNatUp];exact aG
    ·have g3:(j.sn<0)=False:=eq_false h3;by_cases h4:1099511627776<j.sn
     ·have g4:(j.sn>1099511627776)=True:=eq_true h4;rw[no (fun h=>by have:=h.1.2.2.2.2.2.2.2; omega)];simp only[lT,af,ae,aa,seval,iteOmega,toNatUp];refine sC (c1) ?_;simp only[g2,g3,g4,ae,aa,seval,iteOmega,toNatUp];exact aG
     ·have g4:(j.sn>1099511627776)=False:=eq_false h4;by_cases h5:8<j.ck.length
      ·have g5:((j.ck.length:Int)>8)=True:=eq_true (by omega);rw[no (fun h=>by have:=h.1.2.2.1; omega)];simp only[lT,af,ae,aa,seval,iteOmega,toNatUp];refine sC (c1) ?_;simp only[g2,g3,g4,g5,ae,aa,seval,iteOmega,toNatUp];exact aG
      ·have g5:((j.ck.length:Int)>8)=False:=eq_false (by omega);have c2:=Xz G j.ck (by omega);by_cases h6:dI j.ck=true
       ·rw[h6] at c2;have a4:=kK.1 h6;simp only[lT,af,ae,aa,seval,iteOmega,toNatUp];refine sC (c1) ?_;simp only[g2,g3,g4,g5,ae,aa,seval,iteOmega,toNatUp];refine sD (c2) ?_;refine aV (mX j) (fun i=>j.ck.length-i) (fun i=>i≤j.ck.length∧∀ k,k<i→jk j.ck k) 0 ⟨Yt _,fun k hk=>by omega⟩ ?_ ?_
        ·refine ap (fun _=>0) ?_ ?_ rfl rfl <;> simp only[bp,wx,aj,ar,aa,seval,iteOmega,toNatUp] <;> first | rfl | exact⟨rfl,rfl⟩ | skip
        ·clear c1 c2 g2 g3 g4 g5 h6;rintro i ⟨hi,hp⟩;by_cases hlt:i<j.ck.length
         ·have g:=iP hlt;have m4:=a4 _ (iz hlt);have hno:¬ jk j.ck i→decide (cK j)=false:=fun h=>decide_eq_false fun v=>h (v.2 i hlt)
          have hgo:jk j.ck i→∀ k,k<i+1→jk j.ck k:=fun a k hk=>by
            rcases YE k i with h | h
            ·exact hp k h
            ·obtain rfl:k=i:=by omega
             exact a
          have az:=fa j.ck;have c3:=Ap G (j.ck.take i) (j.ck.getD i []) (by rw[Yu]; omega);cases hq:eZ (j.ck.take i) (j.ck.getD i [])
          ·have hgo:=hgo ⟨m4,hq⟩;rw[hq] at c3;clear hno hp hq m4 no a4;generalize j.ck.getD i []=x at *
           simp only[mC,mX,bp,ae,aa,seval,iteOmega,toNatUp,aC,g,az];refine sD (c3) ?_;refine aQ (i+1) (by omega) ⟨by omega,hgo⟩ (ap (fun i=>i) ?_ ?_ rfl rfl) <;> simp only[bp,wx,aj,ar,aa,seval,iteOmega,toNatUp] <;> first | rfl | exact⟨rfl,rfl⟩ | skip
          ·rw[hno (fun h=>by rw[h.2] at hq; cases hq)];rw[hq] at c3;clear hno hp hgo hq m4 no a4;generalize j.ck.getD i []=x at *
           simp only[mC,mX,bp,ae,aa,seval,iteOmega,toNatUp,aC,g,az];refine sD (c3) ?_;exact aG
         ·have hv:(j.la.length=0∨j.la.length=104)→eZ j.ck j.la=false→cK j:=fun a b=>⟨⟨h1.1,h1.2,by omega,a,b,by omega,by omega,by omega⟩,fun k hk=>hp k (by omega)⟩
          clear hp;by_cases h7:j.la.length=0
          ·have g7:((j.la.length:Int)=0)=True:=eq_true (by omega);rw[decide_eq_true (hv (.inl h7) (qL.2 fun h=>by have:=a4 _ h; omega))];clear hv no a4;simp only[mC,mX,bp,ae,aa,seval,iteOmega,toNatUp,g7];exact aG
          ·have g7:((j.la.length:Int)=0)=False:=eq_false (by omega);have c4:=Ao G j.la;by_cases h8:j.la.length=104
           ·rw[beq_iff_eq.2 h8] at c4;have c5:=Ap G j.ck j.la (by omega);cases hq:eZ j.ck j.la
            ·rw[hq] at c5;rw[decide_eq_true (hv (.inr h8) hq)];clear hv no a4 hq;simp only[mC,mX,bp,ae,aa,seval,iteOmega,toNatUp,g7];refine sD (c4) ?_;refine sD (c5) ?_;exact aG
            ·rw[hq] at c5;rw[no (fun h=>by have:=h.1.2.2.2.2.1; rw[hq] at this; cases this)];clear hv no a4 hq;simp only[mC,mX,bp,ae,aa,seval,iteOmega,toNatUp,g7];refine sD (c4) ?_;refine sD (c5) ?_;exact aG
           ·rw[beq_eq_false_iff_ne.2 h8] at c4;rw[no (fun h=>by have:=h.1.2.2.2.1; omega)];clear hv no a4;simp only[mC,mX,bp,ae,aa,seval,iteOmega,toNatUp,g7];refine sD (c4) ?_;exact aG
       ·rw[Bool.not_eq_true] at h6;rw[h6] at c2;rw[no (fun h=>by rw[kK.2 ((nT.1 h).2.1)] at h6; cases h6)];simp only[lT,af,ae,aa,seval,iteOmega,toNatUp];refine sC (c1) ?_;simp only[g2,g3,g4,g5,ae,aa,seval,iteOmega,toNatUp];refine sD (c2) ?_;exact aG
  ·rw[decide_eq_false h1] at c1;rw[no (fun h=>h1 ⟨h.1.1,h.1.2.1⟩)];simp only[lT,af,ae,aa,seval,iteOmega,toNatUp];refine sD (c1) ?_;exact aG
def jU (j:Jr) (id n:Nat):List C:=[.d (.sl (j.up.map bD)),.d (.sl (j.dn.map bD)),.own id 1 0 n,.d (.sl (j.la.map bD)),.d (.int .i64 j.nw),.d (.int .i64 j.sn)]
theorem MB (g:Nat→Nat) (cs:List C):W.ren g (.mix cs)=.mix (cs.map (C.ren g)):=rfl
def ml (l:List (List UInt8)):List D:=l.map fun x=>D.sl (x.map bD)
def Aq (j:Jr) (cs:List (List UInt8)) (i:Nat):St:=⟨aP [(2,.w (.c (.ptr 1 1 0 0))),(4,.w (.c (.ptr 3 1 0 0))),(7,.w (.c (.d (.sl (cs.map fun l=>D.sl (l.map bD)))))),(8,.w (.c (.d (.int .i64 (cs.length:Int))))),(9,.w (.c (.d (.int .i64 (i:Int)))))],hL [(1,bK j (.own 2 1 0 (cD j.la j.ck (cs.take i)).length)),(2,.row 1 ((cD j.la j.ck (cs.take i)).map fun l=>D.sl (l.map bD))),(3,bh)],uL [1,2,3]⟩
def nK:aN := .seq (.reg [oO 10 (.bin .lss (.t 9) (.t 8))]) (.seq (.cond (.t 10) (.skip) (.exit 0)) (.seq (.block 1 (.seq (.reg [oO 11 (.idxSl 1 (.t 7) (.t 9)),oO 12 (.load .sc (.t 11)),oM 6 12]) (.seq (.seq (.reg [oO 13 (.fieldAddr 2 (.t 2)),oO 14 (.load .sc (.t 13)),oO 15 (.len (.t 14)),oO 16 (.bin .eql (.t 15) (kI 8))]) (.cond (.t 16) (.exit 0) (.skip))) (.seq (.reg [oO 17 (.fieldAddr 2 (.t 2)),oO 18 (.load .sc (.t 17)),oM 19 6,oO 20 (.call 53 [(.t 18),(.t 19)] none),oO 21 (.un .not (.t 20)),oM 22 21,oG 23 (.fieldAddr 3 (.t 2)) 22 true,oG 24 (.load .sc (.t 23)) 22 true,oG 25 (.mv (.t 6)) 22 true,oG 26 (.call 55 [(.t 24),(.t 25)] none) 22 true,oG 27 (.un .not (.t 26)) 22 true,oO 28 (.pick (.t 22) (.t 27) (.k (.c (.d (.bool false)))))]) (.cond (.t 28) (.reg [oO 29 (.fieldAddr 2 (.t 2)),
 oO 30 (.load .sc (.t 29)),oM 31 6,oO 32 (.bldSl false 1 1 (.sl []) [(0,(.t 31))]),oO 33 (.call 50 [(.t 32)] none),oO 34 (.bldSl false 1 1 (.sl []) [(0,(.t 33))]),oO 35 (.app false 1 24 (.t 30) (.t 34)),oO 36 (.fieldAddr 2 (.t 2)),oN (.store .sc (.t 36) (.t 35))]) (.skip)))))) (.reg [oO 37 (.bin .add (.t 9) (kI 1)),oM 9 37])))
def La:aD:=⟨2,39,.seq (.reg [oO 2 (.box .ownBox (.t 0)),oO 4 (.alloc [.nil,.nil,.nil,.nil,(.d (.int .i64 0)),(.d (.int .i64 0))])]) (.seq (.seq (.reg [oM 7 1,oO 8 (.len (.t 7)),oO 9 (.mv (kI 0))]) (.block 0 (.loop nK))) (.seq (.reg [oO 38 (.load (.ag 6) (.t 2)),oN (.store (.ag 6) (.t 4) (.t 38))]) (.ret))),[(4,(some (.ag 6)))]⟩
theorem We:aB Tryz.prog { own:=[2],comp:=[],frz:=[],nils:=[] } Tryz.f32=some La:=by kernel_rfl
theorem XD (G:ah) (j:Jr) (cs:List (List UInt8)) (v3:j.ck.length≤8) (m4:∀ c∈cs,c.length≤140737488355328) (hcs:cs.length≤9000000000000000000) :
    gL Tryz.prog G 32 [.mix (jU j 1 j.ck.length),.c (.d (.sl (ml cs)))] [(1,.row 1 (ml j.ck))] (.w (.mix (jU j 3 (cD j.la j.ck cs).length))) [(3,.row 1 (ml (cD j.la j.ck cs)))]:=by
  refine nz Tryz.func32 We [] rfl rfl rfl rfl rfl rfl rfl ?_;unfold jU ml;simp only[La,fN,gU,iS,ae,aa,seval,iteOmega,toNatUp];refine aV (Aq j cs) (fun i=>cs.length-i) (fun i=>i≤cs.length) 0 (Yt _) ?_ ?_
  ·refine ap (fun i=>if i=1 then 16 else if i=2 then 1 else 32) ?_ ?_ rfl rfl <;> simp only[Zs,cD,Zt,bK,bh,wx,aj,ar,aa,seval,iteOmega,toNatUp] <;> first | rfl | exact⟨rfl,rfl⟩ | skip
  ·intro i hi;have L8:=yN (la:=j.la) (l:=j.ck) (cs.take i) v3;have stop:=fun h=>Rl (la:=j.la) (l:=j.ck) (cs:=cs) (i:=i) h
   by_cases hlt:i<cs.length
   ·have g:=iP hlt;have hn:cD j.la j.ck (cs.take (i+1))=kG j.la (cD j.la j.ck (cs.take i)) (cs.getD i []):=by rw[nk hlt,F7]
    have m4:=m4 _ (iz hlt);have az:=fa (cD j.la j.ck (cs.take i));unfold kG rx at hn;have e2:Aq j cs i=⟨aP [(2,.w (.c (.ptr 1 1 0 0))),(4,.w (.c (.ptr 3 1 0 0))),(7,.w (.c (.d (.sl (cs.map fun l=>D.sl (l.map bD)))))),(8,.w (.c (.d (.int .i64 (cs.length:Int))))),(9,.w (.c (.d (.int .i64 (i:Int)))))],hL [(1,bK j (.own 2 1 0 (cD j.la j.ck (cs.take i)).length)),(2,.row 1 ((cD j.la j.ck (cs.take i)).map fun l=>D.sl (l.map bD))),(3,bh)],uL [1,2,3]⟩:=rfl;rw[e2];clear e2;generalize cD j.la j.ck (cs.take i)=L at *
    generalize cs.getD i []=x at *
    by_cases h8:L.length=8
    ·have g8:((L.length:Int)=8)=True:=eq_true (by omega);rw[stop h8];simp only[nK,bK,bh,gU,iS,ae,aa,seval,iteOmega,toNatUp,aC,g,g8];refine lZ [(3,2)] [] (ws:=[.mix (jU j 2 L.length)]) ?_ rfl ?_ rfl trivial ⟨by simp,fun id h h1=>by simp at h h1; omega⟩
     ·simp only[aT,jU,ae,aa,seval,iteOmega,toNatUp] <;> rfl
     ·simp only[ib,wx,aj,ar,aa,seval,iteOmega,toNatUp,bV]
    ·have g8:((L.length:Int)=8)=False:=eq_false (by omega);have h8':L.length<8:=by omega
     have c3:=Ap G L x (by omega);have c4:=qH G j.la x;have c5:=eJ G [x] (by simp) (by simp; omega);simp only[Yp,Yv,YZ,YU,Yy] at c5;clear stop;cases q1:eZ L x
     ·rw[q1] at c3;cases q2:j.la==x
      ·rw[q2] at c4;rw[if_pos (by rw[q1,q2,decide_eq_true h8']; rfl)] at hn;simp only[nK,bK,bh,gU,iS,ae,aa,seval,iteOmega,toNatUp,aC,g,g8];refine aY c3 (by simp only[ae,aa,seval,iteOmega,toNatUp,YR]) (.inr rfl) ?_;simp only[ae,aa,seval,iteOmega,toNatUp,aC,g];refine sC (c4) ?_;simp only[aC,g,ae,aa,seval,iteOmega,toNatUp];refine sC (c5) ?_;simp only[bH,ae,aa,seval,iteOmega,toNatUp];refine aQ (i+1) (by omega) (by omega) (ap (fun i=>if i=1 then 1 else if i=2 then 280 else 3) ?_ ?_ rfl rfl) <;> simp only[hn,YD,bK,bh,wx,aj,ar,aa,seval,iteOmega,toNatUp] <;> first | rfl | exact⟨rfl,rfl⟩ | skip
      ·rw[q2] at c4;rw[if_neg (by rw[q1,q2]; simp)] at hn;simp only[nK,bK,bh,gU,iS,ae,aa,seval,iteOmega,toNatUp,aC,g,g8];refine aY c3 (by simp only[ae,aa,seval,iteOmega,toNatUp,YR]) (.inr rfl) ?_;simp only[ae,aa,seval,iteOmega,toNatUp,aC,g];refine sD (c4) ?_;refine aQ (i+1) (by omega) (by omega) (ap (fun i=>i) ?_ ?_ rfl rfl) <;> simp only[hn,bK,bh,wx,aj,ar,aa,seval,iteOmega,toNatUp] <;> first | rfl | exact⟨rfl,rfl⟩ | skip
     ·rw[q1] at c3;rw[if_neg (by rw[q1]; simp)] at hn;simp only[nK,bK,bh,gU,iS,ae,aa,seval,iteOmega,toNatUp,aC,g,g8];refine aY c3 (by simp only[ae,aa,seval,iteOmega,toNatUp,YR]) (.inr rfl) ?_;simp only[ae,aa,seval,iteOmega,toNatUp];refine aQ (i+1) (by omega) (by omega) (ap (fun i=>i) ?_ ?_ rfl rfl) <;> simp only[hn,bK,bh,wx,aj,ar,aa,seval,iteOmega,toNatUp] <;> first | rfl | exact⟨rfl,rfl⟩ | skip
   ·obtain rfl:i=cs.length:=by omega
    have hk:cs.take cs.length=cs:=YR;have az:=fa (cD j.la j.ck cs);simp only[nK,Aq,bK,bh,gU,iS,hk,ae,aa,seval,iteOmega,toNatUp];refine lZ [(3,2)] [] (ws:=[.mix (jU j 2 (cD j.la j.ck cs).length)]) ?_ rfl ?_ rfl trivial ⟨by simp,fun id h h1=>by simp at h h1; omega⟩
    ·simp only[aT,jU,hk,ae,aa,seval,iteOmega,toNatUp] <;> rfl
    ·simp only[ib,hk,wx,aj,ar,aa,seval,iteOmega,toNatUp,bV]
def qN:aD:=⟨1,39,.seq (.reg [oO 1 (.box .roBox (.t 0)),oO 2 (.alloc [.nil,.nil,.nil,.nil,(.d (.int .i64 0)),(.d (.int .i64 0))]),oO 3 (.mv (.k (.c .nil))),oO 4 (.mv (kI 0))]) (.seq (.seq (.reg [oO 6 (.load (.ag 6) (.t 1)),oO 7 (.call 21 [(.t 6)] none),oO 8 (.un .not (.t 7))]) (.cond (.t 8) (.seq (.reg [oO 9 (.build [.nil,.nil,.nil,.nil,(.d (.int .i64 0)),(.d (.int .i64 0))] []),oN (.store (.ag 6) (.t 2) (.t 9)),oO 3 (.mv (.k (.c .nil))),oO 4 (.mv (kI 3))]) (.ret)) (.skip))) (.seq (.seq (.reg [oO 10 (.fieldAddr 2 (.t 1)),oO 11 (.load .sc (.t 10)),oO 12 (.len (.t 11)),oO 13 (.bin .eql (.t 12) (kI 0))]) (.cond (.t 13) (.seq (.reg [oO 14 (.build [.nil,.nil,.nil,.nil,(.d (.int .i64 0)),(.d (.int .i64 0))] []),oN (.store (.ag 6) (.t 2) (.t 14)),oO 3 (.mv (.k (.c .nil))),oO 4 (.mv (kI 10))])
 (.ret)) (.skip))) (.seq (.seq (.reg [oO 15 (.fieldAddr 5 (.t 1)),oO 16 (.load .sc (.t 15)),oO 17 (.bin .eql (.t 16) (kI 1099511627776))]) (.cond (.t 17) (.seq (.reg [oO 18 (.build [.nil,.nil,.nil,.nil,(.d (.int .i64 0)),(.d (.int .i64 0))] []),oN (.store (.ag 6) (.t 2) (.t 18)),oO 3 (.mv (.k (.c .nil))),oO 4 (.mv (kI 7))]) (.ret)) (.skip))) (.seq (.reg [oO 19 (.load (.ag 6) (.t 1)),oO 20 (.call 33 [(.t 19)] none),oO 5 (.alloc [.nil,.nil,.nil,.nil,(.d (.int .i64 0)),(.d (.int .i64 0))]),oN (.store (.ag 6) (.t 5) (.t 20))]) (.seq (.reg [oO 21 (.fieldAddr 2 (.t 5)),oO 22 (.load .sc (.t 21)),oO 23 (.idxSl 1 (.t 22) (kI 0)),oO 24 (.load .sc (.t 23)),oO 25 (.fieldAddr 2 (.t 5)),oO 26 (.load .sc (.t 25)),oO 27 (.slice 1 (.t 26) (some (kI 1)) none none),oO 28 (.fieldAddr 3 (.t 5)),oN (.store .sc (.t 28) (.t 24)),
 oO 29 (.fieldAddr 2 (.t 5)),oN (.store .sc (.t 29) (.t 27))]) (.seq (.reg [oO 30 (.fieldAddr 5 (.t 5)),oO 31 (.load .sc (.t 30)),oO 32 (.bin .add (.t 31) (kI 1)),oO 33 (.fieldAddr 5 (.t 5)),oN (.store .sc (.t 33) (.t 32))]) (.seq (.reg [oO 34 (.load (.ag 6) (.t 5)),oO 35 (.fieldAddr 3 (.t 5)),oO 36 (.load .sc (.t 35)),oO 37 (.bldSl false 1 1 (.sl []) [(0,(.t 36))]),oO 38 (.call 50 [(.t 37)] (some (0,1))),oN (.store (.ag 6) (.t 2) (.t 34)),oM 3 38,oO 4 (.mv (kI 0))]) (.ret)))))))),[(2,(some (.ag 6))),(3,none),(4,none)]⟩
theorem Wg:aB Tryz.prog { own:=[38],comp:=[],frz:=[],nils:=[] } Tryz.f24=some qN:=by kernel_rfl
theorem XE (G:ah) (j:Jr):au Tryz.prog G 24 [aW j] (.tup [.c (.d (aW (nl j))),.c (.d (.sl ((nm j).map bD))),.c (.d (.int .i64 (cL j)))]):=by
  refine aF Tryz.func24 Wg rfl rfl ?_;have c1:=vg G j;by_cases v:cK j
  ·rw[decide_eq_true v] at c1;obtain⟨v1,v2,v3,v4,v5⟩:=kV v;by_cases h1:j.ck.length=0
   ·have e:cL j=10:=by unfold cL; rw[if_neg (not_not_intro v),if_pos h1]
    obtain⟨q1,q2⟩:=oQ e (by decide);have g1:((j.ck.length:Int)=0)=True:=eq_true (by omega);rw[q1,q2,e];unfold aW cC at *
    simp only[qN,af,ae,aa,seval,iteOmega,toNatUp];refine sC (c1) ?_;simp only[g1,ae,aa,seval,iteOmega,toNatUp];exact bP
   ·have g1:((j.ck.length:Int)=0)=False:=eq_false (by omega);by_cases h2:j.sn=1099511627776
    ·have e:cL j=7:=by unfold cL; rw[if_neg (not_not_intro v),if_neg h1,if_pos h2]
     obtain⟨q1,q2⟩:=oQ e (by decide);have g2:(j.sn=1099511627776)=True:=eq_true h2;rw[q1,q2,e];unfold aW cC at *
     simp only[qN,af,ae,aa,seval,iteOmega,toNatUp];refine sC (c1) ?_;simp only[g1,g2,ae,aa,seval,iteOmega,toNatUp];exact bP
    ·have e:cL j=0:=by unfold cL; rw[if_neg (not_not_intro v),if_neg h1,if_neg h2]
     have g2:(j.sn=1099511627776)=False:=eq_false h2;rw[show nl j=cY j from if_pos e,show nm j=j.ck.getD 0 [] from if_pos e,e];have c2:=XC G j (by omega) (by omega) (by omega) (fun c hc=>by have:=v5 c hc; omega) (by omega);have f0:=iP (l:=j.ck) (i:=0) (by omega);have m0:=v5 _ (iz (l:=j.ck) (i:=0) (by omega));have s8:0≤j.sn∧j.sn≤1099511627776:=v.1.2.2.2.2.2.2;have az:=fa j.ck;have d1:(j.ck.drop 1).take (j.ck.length-1)=j.ck.drop 1:=Yo (by rw[Yw]; omega);unfold cY aW at *
     dsimp only at *
     generalize j.ck.getD 0 []=x at *
     have c3:=eJ G [x] (by simp) (by simp; omega);simp only[Yp,Yv,YZ,YU,Yy] at c3;simp only[qN,af,ae,aa,seval,iteOmega,toNatUp];refine sC (c1) ?_;simp only[g1,g2,ae,aa,seval,iteOmega,toNatUp];refine sC (c2) ?_;simp only[aC,f0,az,ae,aa,seval,iteOmega,toNatUp];refine sC (c3) ?_;simp only[d1,ae,aa,seval,iteOmega,toNatUp];exact bP
  ·rw[decide_eq_false v] at c1;have e:cL j=3:=if_pos v;obtain⟨q1,q2⟩:=oQ e (by decide);rw[q1,q2,e];unfold aW cC at *
   simp only[qN,af,ae,aa,seval,iteOmega,toNatUp];refine sD (c1) ?_;exact bP
def zM:aD:=⟨1,11,.seq (.reg [oO 1 (.box .roBox (.t 0)),oO 2 (.mv (kI 0)),oO 3 (.mv (kI 0))]) (.seq (.seq (.reg [oO 4 (.load (.ag 6) (.t 1)),oO 5 (.call 21 [(.t 4)] none),oO 6 (.un .not (.t 5))]) (.cond (.t 6) (.seq (.reg [oO 2 (.mv (kI 0)),oO 3 (.mv (kI 3))]) (.ret)) (.skip))) (.seq (.reg [oO 7 (.fieldAddr 2 (.t 1)),oO 8 (.load .sc (.t 7)),oO 9 (.len (.t 8)),oO 10 (.bin .sub (kI 8) (.t 9)),oM 2 10,oO 3 (.mv (kI 0))]) (.ret))),[(2,none),(3,none)]⟩
theorem Wh:aB Tryz.prog { own:=[],comp:=[],frz:=[],nils:=[] } Tryz.f17=some zM:=by kernel_rfl
theorem MC (G:ah) (j:Jr):au Tryz.prog G 17 [aW j] (.tup [.c (.d (.int .i64 (rI j))),.c (.d (.int .i64 (rH j)))]):=by
  refine aF Tryz.func17 Wh rfl rfl ?_;have c1:=vg G j;by_cases v:cK j
  ·rw[decide_eq_true v] at c1;obtain⟨v1,v2,v3,v4,v5⟩:=kV v;rw[show rI j=8-(j.ck.length:Int) from if_pos v,show rH j=0 from if_pos v];unfold aW at *
   simp only[zM,af,ae,aa,seval,iteOmega,toNatUp];refine sD (c1) ?_;exact cF
  ·rw[decide_eq_false v] at c1;rw[show rI j=0 from if_neg v,show rH j=3 from if_neg v];unfold aW at *
   simp only[zM,af,ae,aa,seval,iteOmega,toNatUp];refine sD (c1) ?_;exact cF
def tO:aD:=⟨1,9,.seq (.reg [oO 2 (.mv (.k (.c (.d (.bool false)))))]) (.seq (.reg [oM 3 0,oO 4 (.bin .leq (kI 16) (.t 3)),oM 5 4,oG 6 (.mv (.t 0)) 5 true,oG 7 (.bin .leq (.t 6) (kI 32)) 5 true,oO 8 (.pick (.t 5) (.t 7) (.k (.c (.d (.bool false))))),oM 2 8]) (.ret)),[(2,none)]⟩
theorem TO:aB Tryz.prog { own:=[],comp:=[],frz:=[],nils:=[] } Tryz.f44=some tO:=by kernel_rfl
theorem Lc (G:ah) (n:Int):au Tryz.prog G 44 [.int .i64 n] (.w (.c (.d (.bool (decide (16≤n∧n≤32)))))):=by
  refine aF Tryz.func44 TO rfl rfl ?_;by_cases h1:16≤n
  ·by_cases h2:n≤32
   ·rw[decide_eq_true ⟨h1,h2⟩];simp only[tO,af,ae,aa,seval,iteOmega,toNatUp];exact aG
   ·rw[decide_eq_false (fun h=>h2 h.2)];simp only[tO,af,ae,aa,seval,iteOmega,toNatUp];exact aG
  ·rw[decide_eq_false (fun h=>h1 h.1)];simp only[tO,af,ae,aa,seval,iteOmega,toNatUp];exact aG
theorem IF (n s:List UInt8):([aI n.length 2,aI s.length 2,dJ n 4,dJ s 4]:List (List UInt8)).flatten=cG n s:=by
  unfold cG;simp only[YZ,YU,Yy]
def Ld:aD:=⟨2,20,.seq (.reg [oO 4 (.alloc [(.d (.int .i64 0)),.nil])]) (.seq (.reg [oM 5 0,oO 6 (.len (.t 5)),oO 7 (.conv .u64 (.t 6)),oO 8 (.call 81 [(.t 7),(kI 2)] none),oM 9 1,oO 10 (.len (.t 9)),oO 11 (.conv .u64 (.t 10)),oO 12 (.call 81 [(.t 11),(kI 2)] none),oM 13 0,oO 14 (.call 82 [(.t 13),(kI 4)] none),oM 15 1,oO 16 (.call 82 [(.t 15),(kI 4)] none),oO 17 (.bldSl false 4 1 (.sl []) [(0,(.t 8)),(1,(.t 12)),(2,(.t 14)),(3,(.t 16))]),oO 18 (.call 50 [(.t 17)] none),oO 19 (.build [(.d (.int .i64 0)),.nil] [(0,1,(kI 1028)),(1,1,(.t 18))]),oN (.store (.ag 2) (.t 4) (.t 19))]) (.ret)),[(4,(some (.ag 2)))]⟩
theorem Wi:aB Tryz.prog { own:=[],comp:=[],frz:=[],nils:=[] } Tryz.f49=some Ld:=by kernel_rfl
theorem MD (G:ah) (n s:List UInt8) (hn:n.length≤1000000) (hs:s.length≤1000000):au Tryz.prog G 49 [.sl (n.map bD),.sl (s.map bD)] (.w (.c (.d (aJ (dB n s))))):=by
  refine aF Tryz.func49 Wi rfl rfl ?_;have c1:=iY G n.length 2 (by decide);have c2:=iY G s.length 2 (by decide);rw[show (2:Int).toNat=2 from rfl] at c1 c2;have c3:=uR G n 4 (by omega);have c4:=uR G s 4 (by omega);have cj:=eJ G [aI n.length 2,aI s.length 2,dJ n 4,dJ s 4] (by simp) (by simp[dD,sI]; omega);rw[IF] at cj;unfold dB aJ;generalize cG n s=B at *
  generalize aI n.length 2=B1 at *
  generalize aI s.length 2=B2 at *
  generalize dJ n 4=B3 at *
  generalize dJ s 4=B4 at *
  simp only[Yp,Yv] at cj;simp only[Ld,af,ae,aa,seval,iteOmega,toNatUp];refine sD (c1) ?_;refine sD (c2) ?_;refine sD (c3) ?_;refine sD (c4) ?_;refine sD (cj) ?_;exact aG
def lP:aD:=⟨1,70,.seq (.reg [oO 2 (.mv (.k (.c .nil))),oO 3 (.mv (.k (.c .nil))),oO 4 (.mv (.k (.c (.d (.bool false)))))]) (.seq (.reg [oM 10 0,oO 11 (.call 92 [(.t 10),(kI 4)] none),oM 9 11,oO 12 (.extract (.t 9) 0),oO 13 (.extract (.t 9) 1),oO 14 (.extract (.t 9) 2),oM 5 12,oM 6 13,oM 4 14]) (.seq (.seq (.reg [oM 15 4,oO 16 (.un .not (.t 15))]) (.cond (.t 16) (.seq (.reg [oO 2 (.mv (.k (.c .nil))),oO 3 (.mv (.k (.c .nil))),oO 4 (.mv (.k (.c (.d (.bool false)))))]) (.ret)) (.skip))) (.seq (.reg [oM 17 5,oO 18 (.slice 1 (.t 17) none (some (kI 2)) none),oO 19 (.call 93 [(.t 18)] none),oO 20 (.conv .i64 (.t 19)),oM 21 5,oO 22 (.slice 1 (.t 21) (some (kI 2)) none none),oO 23 (.call 93 [(.t 22)] none),oO 24 (.conv .i64 (.t 23)),oM 7 20,oM 8 24]) (.seq (.reg [oM 26 6,oM 27 7,oO 28 (.call 92 [(.t 26),(.t 27)] none),
 oM 25 28,oO 29 (.extract (.t 25) 0),oO 30 (.extract (.t 25) 1),oO 31 (.extract (.t 25) 2),oM 2 29,oM 4 31]) (.seq (.seq (.reg [oM 32 4,oO 33 (.un .not (.t 32)),oM 34 33,oG 35 (.mv (.t 7)) 34 false,oG 36 (.call 44 [(.t 35)] none) 34 false,oG 37 (.un .not (.t 36)) 34 false,oO 38 (.pick (.t 34) (.k (.c (.d (.bool true)))) (.t 37))]) (.cond (.t 38) (.seq (.reg [oO 2 (.mv (.k (.c .nil))),oO 3 (.mv (.k (.c .nil))),oO 4 (.mv (.k (.c (.d (.bool false)))))]) (.ret)) (.skip))) (.seq (.reg [oM 40 6,oM 41 2,oO 42 (.call 82 [(.t 41),(kI 4)] none),oO 43 (.len (.t 42)),oO 44 (.call 92 [(.t 40),(.t 43)] none),oM 39 44,oO 45 (.extract (.t 39) 0),oO 46 (.extract (.t 39) 1),oO 47 (.extract (.t 39) 2),oM 6 46,oM 4 47]) (.seq (.seq (.reg [oM 48 4,oO 49 (.un .not (.t 48))]) (.cond (.t 49) (.seq (.reg [oO 2 (.mv (.k (.c .nil))),
 oO 3 (.mv (.k (.c .nil))),oO 4 (.mv (.k (.c (.d (.bool false)))))]) (.ret)) (.skip))) (.seq (.reg [oM 51 6,oM 52 8,oO 53 (.call 92 [(.t 51),(.t 52)] none),oM 50 53,oO 54 (.extract (.t 50) 0),oO 55 (.extract (.t 50) 1),oO 56 (.extract (.t 50) 2),oM 3 54,oM 4 56]) (.seq (.seq (.reg [oM 57 4,oO 58 (.un .not (.t 57)),oM 59 58,oG 60 (.mv (.t 2)) 59 false,oG 61 (.mv (.t 3)) 59 false,oG 62 (.call 49 [(.t 60),(.t 61)] none) 59 false,oG 63 (.field 1 .sc (.t 62)) 59 false,oG 64 (.mv (.t 0)) 59 false,oG 65 (.call 55 [(.t 63),(.t 64)] none) 59 false,oG 66 (.un .not (.t 65)) 59 false,oO 67 (.pick (.t 59) (.k (.c (.d (.bool true)))) (.t 66))]) (.cond (.t 67) (.seq (.reg [oO 2 (.mv (.k (.c .nil))),oO 3 (.mv (.k (.c .nil))),oO 4 (.mv (.k (.c (.d (.bool false)))))]) (.ret)) (.skip))) (.seq (.reg [oM 68 2,
 oM 69 3,oM 2 68,oM 3 69,oO 4 (.mv (.k (.c (.d (.bool true)))))]) (.ret))))))))))),[(2,none),(3,none),(4,none)]⟩
theorem TP:aB Tryz.prog { own:=[],comp:=[],frz:=[],nils:=[] } Tryz.f63=some lP:=by kernel_rfl
theorem Wj (G:ah) (d:List UInt8) (hd:d.length≤100000):au Tryz.prog G 63 [.sl (d.map bD)] (.tup [.c (.d (.sl ((lC d).map bD))),.c (.d (.sl ((lD d).map bD))),.c (.d (.bool (decide (dV d))))]):=by
  refine aF Tryz.func63 TP rfl rfl ?_;unfold lC lD;rcases YE d.length 4 with h4 | h4
  ·have hno:¬ dV d:=fun h=>by have:=h.1; omega
   rw[if_neg hno,if_neg hno,decide_eq_false hno];have c1:=uo G d 4 (.inr (by omega));simp only[lP,af,ae,aa,seval,iteOmega,toNatUp];refine sD (c1) ?_;exact fq (by simp only[ae,aa,seval,iteOmega,toNatUp] <;> rfl) (by simp only[ae,aa,seval,iteOmega,toNatUp] <;> rfl) (by simp only[ae,aa,seval,iteOmega,toNatUp])
  ·have c1:=um G d 4 h4 (by omega);rw[show ((4:Nat):Int)=4 from rfl] at c1;have t1:(d.take 4).take 2=aO d 0 2:=by rw[List.take_take]; rfl
   have t2:(d.take 4).drop 2=aO d 2 2:=by rw[List.drop_take]; rfl
   have c2:=oE G (aO d 0 2) (by rw[cS (by omega)]; decide);have c3:=oE G (aO d 2 2) (by rw[cS (by omega)]; decide);have b1:=(ie 2 (aO d 0 2) (cS (by omega)) (by decide)).1;have b2:=(ie 2 (aO d 2 2) (cS (by omega)) (by decide)).1;have hl1:(aO d 0 2).length=2:=cS (by omega);have hl2:(aO d 2 2).length=2:=cS (by omega);have hl4:(d.take 4).length=4:=by simp; omega
   have hld:(d.drop 4).length=d.length-4:=by simp
   have t3:(aO d 2 2).take 2=aO d 2 2:=Yo (by omega);rw[show aZ (aO d 0 2)=bN d from rfl] at c2 b1;rw[show aZ (aO d 2 2)=eH d from rfl] at c3 b2;have cf:=Lc G (bN d:Int);rcases YE (d.length-4) (bN d) with h5 | h5
   ·have hno:¬ dV d:=fun h=>by have:=h.2.2.2.1; unfold dr at this; omega
    rw[if_neg hno,if_neg hno,decide_eq_false hno];clear hno;have c4:=uo G (d.drop 4) (bN d:Int) (.inr (by omega));generalize bN d=n at *
    generalize eH d=m at *
    simp only[lP,af,ae,aa,seval,iteOmega,toNatUp];refine sC (c1) ?_;simp only[t1,t2,t3,hl4,ae,aa,seval,iteOmega,toNatUp];refine sC (c2) ?_;simp only[t1,t2,t3,hl4,ae,aa,seval,iteOmega,toNatUp];refine sD (c3) ?_;refine sD (c4) ?_;exact fq (by simp only[ae,aa,seval,iteOmega,toNatUp] <;> rfl) (by simp only[ae,aa,seval,iteOmega,toNatUp] <;> rfl) (by simp only[ae,aa,seval,iteOmega,toNatUp])
   ·have c4:=um G (d.drop 4) (bN d) (by omega) (by omega);have e4:(d.drop 4).take (bN d)=br d:=rfl;have hlB:(br d).length=bN d:=cS (by omega);rw[e4] at c4;by_cases h6:16≤bN d∧bN d≤32
    ·have h6':16≤(bN d:Int)∧(bN d:Int)≤32:=by omega
     rw[decide_eq_true h6'] at cf;have c5:=kj (uR G (br d) 4 (by omega));have hlp:=sI (br d);rw[hlB] at hlp;rcases YE (d.length-4) ((bN d+3) / 4*4) with h7 | h7
     ·have hno:¬ dV d:=fun h=>by have:=h.2.2.2.1; unfold dr at this; omega
      rw[if_neg hno,if_neg hno,decide_eq_false hno];clear hno;have c6:=uo G (d.drop 4) ((dJ (br d) 4).length:Int) (.inr (by omega));generalize dJ (br d) 4=B4 at *
      generalize br d=B3 at *
      generalize bN d=n at *
      generalize eH d=m at *
      simp only[lP,af,ae,aa,seval,iteOmega,toNatUp];refine sC (c1) ?_;simp only[t1,t2,t3,hl4,ae,aa,seval,iteOmega,toNatUp];refine sC (c2) ?_;simp only[t1,t2,t3,hl4,ae,aa,seval,iteOmega,toNatUp];refine sD (c3) ?_;refine sD (c4) ?_;refine sD (cf) ?_;refine sD (c5) ?_;refine sD (c6) ?_;exact fq (by simp only[ae,aa,seval,iteOmega,toNatUp] <;> rfl) (by simp only[ae,aa,seval,iteOmega,toNatUp] <;> rfl) (by simp only[ae,aa,seval,iteOmega,toNatUp])
     ·have c6:=um G (d.drop 4) (dJ (br d) 4).length (by omega) (by omega);have e6:(d.drop 4).drop (dJ (br d) 4).length=d.drop (dr d):=by rw[List.drop_drop,hlp]; rfl
      rw[e6] at c6;have hl6:(d.drop (dr d)).length=d.length-dr d:=by simp
      have hpf:dr d=4+(bN d+3) / 4*4:=rfl;rcases YE (d.length-dr d) (eH d) with h8 | h8
      ·have hno:¬ dV d:=fun h=>by have:=h.2.2.2.1; omega
       rw[if_neg hno,if_neg hno,decide_eq_false hno];clear hno;have c7:=uo G (d.drop (dr d)) (eH d:Int) (.inr (by omega));generalize d.drop (dr d)=D2 at *
       generalize dJ (br d) 4=B4 at *
       generalize br d=B3 at *
       generalize bN d=n at *
       generalize eH d=m at *
       simp only[lP,af,ae,aa,seval,iteOmega,toNatUp];refine sC (c1) ?_;simp only[t1,t2,t3,hl4,ae,aa,seval,iteOmega,toNatUp];refine sC (c2) ?_;simp only[t1,t2,t3,hl4,ae,aa,seval,iteOmega,toNatUp];refine sD (c3) ?_;refine sD (c4) ?_;refine sD (cf) ?_;refine sD (c5) ?_;refine sD (c6) ?_;refine sD (c7) ?_;exact fq (by simp only[ae,aa,seval,iteOmega,toNatUp] <;> rfl) (by simp only[ae,aa,seval,iteOmega,toNatUp] <;> rfl) (by simp only[ae,aa,seval,iteOmega,toNatUp])
      ·have c7:=um G (d.drop (dr d)) (eH d) (by omega) (by omega);have e7:(d.drop (dr d)).take (eH d)=bL d:=rfl;rw[e7] at c7;have hlS:(bL d).length=eH d:=cS (by omega);have c8:=MD G (br d) (bL d) (by omega) (by omega);unfold dB aJ at c8;have c9:=qH G (cG (br d) (bL d)) d;by_cases hq:cG (br d) (bL d)=d
       ·have hok:dV d:=⟨h4,h6.1,h6.2,by omega,hq⟩
        rw[if_pos hok,if_pos hok,decide_eq_true hok];clear hok;rw[hq,beq_self_eq_true] at c9;rw[hq] at c8;clear hq;generalize d.drop (dr d)=D2 at *
        generalize dJ (br d) 4=B4 at *
        generalize bL d=B5 at *
        generalize br d=B3 at *
        generalize bN d=n at *
        generalize eH d=m at *
        simp only[lP,af,ae,aa,seval,iteOmega,toNatUp];refine sC (c1) ?_;simp only[t1,t2,t3,hl4,ae,aa,seval,iteOmega,toNatUp];refine sC (c2) ?_;simp only[t1,t2,t3,hl4,ae,aa,seval,iteOmega,toNatUp];refine sD (c3) ?_;refine sD (c4) ?_;refine sD (cf) ?_;refine sD (c5) ?_;refine sD (c6) ?_;refine sD (c7) ?_;refine sD (c8) ?_;refine sD (c9) ?_;exact bP
       ·have hno:¬ dV d:=fun h=>hq h.2.2.2.2
        rw[if_neg hno,if_neg hno,decide_eq_false hno];clear hno;have e9:(cG (br d) (bL d)==d)=false:=by simpa using hq
        rw[e9] at c9;clear hq e9;generalize cG (br d) (bL d)=B6 at *
        generalize d.drop (dr d)=D2 at *
        generalize dJ (br d) 4=B4 at *
        generalize bL d=B5 at *
        generalize br d=B3 at *
        generalize bN d=n at *
        generalize eH d=m at *
        simp only[lP,af,ae,aa,seval,iteOmega,toNatUp];refine sC (c1) ?_;simp only[t1,t2,t3,hl4,ae,aa,seval,iteOmega,toNatUp];refine sC (c2) ?_;simp only[t1,t2,t3,hl4,ae,aa,seval,iteOmega,toNatUp];refine sD (c3) ?_;refine sD (c4) ?_;refine sD (cf) ?_;refine sD (c5) ?_;refine sD (c6) ?_;refine sD (c7) ?_;refine sD (c8) ?_;refine sD (c9) ?_;exact fq (by simp only[ae,aa,seval,iteOmega,toNatUp] <;> rfl) (by simp only[ae,aa,seval,iteOmega,toNatUp] <;> rfl) (by simp only[ae,aa,seval,iteOmega,toNatUp])
    ·have hno:¬ dV d:=fun h=>h6 ⟨h.2.1,h.2.2.1⟩
     rw[if_neg hno,if_neg hno,decide_eq_false hno];clear hno;have h6':¬ (16≤(bN d:Int)∧(bN d:Int)≤32):=by omega
     rw[decide_eq_false h6'] at cf;clear h6 h6';generalize br d=B3 at *
     generalize bN d=n at *
     generalize eH d=m at *
     simp only[lP,af,ae,aa,seval,iteOmega,toNatUp];refine sC (c1) ?_;simp only[t1,t2,t3,hl4,ae,aa,seval,iteOmega,toNatUp];refine sC (c2) ?_;simp only[t1,t2,t3,hl4,ae,aa,seval,iteOmega,toNatUp];refine sD (c3) ?_;refine sD (c4) ?_;refine sD (cf) ?_;exact fq (by simp only[ae,aa,seval,iteOmega,toNatUp] <;> rfl) (by simp only[ae,aa,seval,iteOmega,toNatUp] <;> rfl) (by simp only[ae,aa,seval,iteOmega,toNatUp])
theorem ME {p:cn} (h:cB p=0):vN p=bR p:=if_pos h
theorem Le {p:cn} (h:cB p≠0):vN p=[]:=if_neg h
theorem yO {h:Hd} (e:d9 h=0):na h=d8 h:=if_pos (Al.1 e)
theorem zN {p:cn} (h:d9 p.hd≠0):cB p=d9 p.hd:=if_neg h
theorem uq {p:cn} (h:d9 p.hd=0):cB p=bI p.pl:=if_pos h
theorem zO {p:cn} (h:cB p=0):(bR p).length≤1280:=by
  have:=(mV (Mw h).2.2).2.2.1;rw[tN]; omega
def tP:aD:=⟨1,29,.seq (.reg [oO 1 (.box .roBox (.t 0)),oO 2 (.mv (.k (.c .nil))),oO 3 (.mv (kI 0))]) (.seq (.reg [oO 8 (.fieldAddr 0 (.t 1)),oO 9 (.load (.ag 13) (.t 8)),oO 10 (.call 76 [(.t 9)] none),oM 7 10,oO 11 (.extract (.t 7) 0),oO 12 (.extract (.t 7) 1),oM 4 11,oM 5 12]) (.seq (.seq (.reg [oM 13 5,oO 14 (.bin .neq (.t 13) (kI 0))]) (.cond (.t 14) (.seq (.reg [oM 15 5,oO 2 (.mv (.k (.c .nil))),oM 3 15]) (.ret)) (.skip))) (.seq (.reg [oO 17 (.fieldAddr 13 (.t 1)),oO 18 (.load .sc (.t 17)),oO 19 (.call 46 [(.t 18)] none),oM 16 19,oO 20 (.extract (.t 16) 0),oO 21 (.extract (.t 16) 1),oM 6 20,oM 5 21]) (.seq (.seq (.reg [oM 22 5,oO 23 (.bin .neq (.t 22) (kI 0))]) (.cond (.t 23) (.seq (.reg [oM 24 5,oO 2 (.mv (.k (.c .nil))),oM 3 24]) (.ret)) (.skip))) (.seq (.reg [oM 25 4,oM 26 6,oO 27 (.bldSl false 2 1 (.sl []) [(0,(.t 25)),(1,(.t 26))]),
 oO 28 (.call 50 [(.t 27)] none),oM 2 28,oO 3 (.mv (kI 0))]) (.ret)))))),[(2,none),(3,none)]⟩
theorem TQ:aB Tryz.prog { own:=[],comp:=[],frz:=[],nils:=[] } Tryz.f45=some tP:=by kernel_rfl
theorem Wk (G:ah) (p:cn) (hf:pv p.hd) (hl:p.pl.length≤1000000) (hd:∀ f∈p.pl,f.da.length≤8000000000000000000):au Tryz.prog G 45 [a9 p] (.tup [.c (.d (.sl ((vN p).map bD))),.c (.d (.int .i64 (cB p)))]):=by
  refine aF Tryz.func45 TQ rfl rfl ?_;have c1:=VI G p.hd hf;have c2:=zE G p.pl hl hd;by_cases h1:d9 p.hd=0
  ·rw[yO h1,h1] at c1;by_cases h2:bI p.pl=0
   ·have h0:cB p=0:=by rw[uq h1,h2]
    have hle:=zO h0;have cj:=eJ G [d8 p.hd,be p.pl] (by simp) (by
      have:[d8 p.hd,be p.pl].flatten=bR p:=by simp[bR]
      rw[this]; omega)
    have hX:[d8 p.hd,be p.pl].flatten=bR p:=by simp[bR]
    rw[hX] at cj;simp only[Yp,Yv] at cj;rw[(mV h2).2.2.2,h2] at c2;rw[h0,ME h0];clear hX hle h0 h1 h2;generalize bR p=X at *
    generalize d8 p.hd=B1 at *
    generalize be p.pl=B2 at *
    unfold a9;unfold cc at c1;simp only[tP,af,ae,aa,seval,iteOmega,toNatUp];refine sD (c1) ?_;refine sD (c2) ?_;refine sD (cj) ?_;exact cF
   ·have h0:cB p≠0:=by rw[uq h1]; exact h2
    have g:(cB p=0)=False:=eq_false h0;rw[Le h0];rw[show bI p.pl=cB p from (uq h1).symm] at c2;clear h0 h1 h2;generalize cB p=e at *
    generalize d8 p.hd=B1 at *
    generalize dK p.pl=B2 at *
    unfold a9;unfold cc at c1;simp only[tP,af,ae,aa,seval,iteOmega,toNatUp];refine sD (c1) ?_;refine sC (c2) ?_;simp only[g,ae,aa,seval,iteOmega,toNatUp];exact cF
  ·have h0:cB p≠0:=by rw[zN h1]; exact h1
   have g:(cB p=0)=False:=eq_false h0;rw[Le h0];rw[show d9 p.hd=cB p from (zN h1).symm] at c1;clear h0 h1 c2;generalize cB p=e at *
   generalize na p.hd=B1 at *
   unfold a9;unfold cc at c1;simp only[tP,af,ae,aa,seval,iteOmega,toNatUp];refine sC (c1) ?_;simp only[g,ae,aa,seval,iteOmega,toNatUp];exact cF
theorem x7 {b:List UInt8} (h:dz b≠0):fD b=dz b∧jL b=dL:=by
  have e:fD b=dz b:=if_neg h;exact⟨e,if_neg (by rw[e]; exact h)⟩
theorem xe {b:List UInt8} (h:dz b=0):fD b=cm (b.drop 48)∧nc b=b.drop 48∧nb b=bQ b:=⟨if_pos h,if_pos h,if_pos h⟩
def tQ:aD:=⟨1,30,.seq (.reg [oO 2 (.alloc [(.d (.int .i64 0)),(.d (.int .i64 0)),(.d (.int .i64 0)),(.d (.int .i64 0)),(.d (.int .i64 0)),(.d (.int .i64 0)),(.d (.int .u32 0)),(.d (.int .u32 0)),(.d (.int .u32 0)),(.d (.int .u64 0)),(.d (.int .u64 0)),(.d (.int .u64 0)),(.d (.int .u64 0)),.nil,.nil,(.d (.bool false))]),oO 3 (.mv (kI 0))]) (.seq (.reg [oM 9 0,oO 10 (.call 91 [(.t 9)] none),oM 8 10,oO 11 (.extract (.t 8) 0),oO 12 (.extract (.t 8) 1),oO 13 (.extract (.t 8) 2),oO 4 (.alloc [(.d (.int .i64 0)),(.d (.int .i64 0)),(.d (.int .i64 0)),(.d (.int .i64 0)),(.d (.int .i64 0)),(.d (.int .i64 0)),(.d (.int .u32 0)),(.d (.int .u32 0)),(.d (.int .u32 0)),(.d (.int .u64 0)),(.d (.int .u64 0)),(.d (.int .u64 0)),(.d (.int .u64 0))]),oN (.store (.ag 13) (.t 4) (.t 11)),oM 5 12,oM 6 13])
 (.seq (.seq (.reg [oM 14 6,oO 15 (.bin .neq (.t 14) (kI 0))]) (.cond (.t 15) (.seq (.reg [oO 16 (.build [(.d (.int .i64 0)),(.d (.int .i64 0)),(.d (.int .i64 0)),(.d (.int .i64 0)),(.d (.int .i64 0)),(.d (.int .i64 0)),(.d (.int .u32 0)),(.d (.int .u32 0)),(.d (.int .u32 0)),(.d (.int .u64 0)),(.d (.int .u64 0)),(.d (.int .u64 0)),(.d (.int .u64 0)),.nil,.nil,(.d (.bool false))] []),oM 17 6,oN (.store (.ag 16) (.t 2) (.t 16)),oM 3 17]) (.ret)) (.skip))) (.seq (.reg [oM 19 5,oO 20 (.call 66 [(.t 19)] none),oM 18 20,oO 21 (.extract (.t 18) 0),oO 22 (.extract (.t 18) 1),oM 7 21,oM 6 22]) (.seq (.seq (.reg [oM 23 6,oO 24 (.bin .neq (.t 23) (kI 0))]) (.cond (.t 24) (.seq (.reg [oO 25 (.build [(.d (.int .i64 0)),(.d (.int .i64 0)),(.d (.int .i64 0)),(.d (.int .i64 0)),(.d (.int .i64 0)),(.d (.int .i64 0)),(.d (.int .u32 0)),(.d (.int .u32 0)),(.d (.int .u32 0)),(.d (.int .u64 0)),(.d (.int .u64 0)),(.d (.int .u64 0)),(.d (.int .u64 0)),.nil,.nil,(.d (.bool false))] []),
 oM 26 6,oN (.store (.ag 16) (.t 2) (.t 25)),oM 3 26]) (.ret)) (.skip))) (.seq (.reg [oO 27 (.load (.ag 13) (.t 4)),oM 28 7,oO 29 (.build [(.d (.int .i64 0)),(.d (.int .i64 0)),(.d (.int .i64 0)),(.d (.int .i64 0)),(.d (.int .i64 0)),(.d (.int .i64 0)),(.d (.int .u32 0)),(.d (.int .u32 0)),(.d (.int .u32 0)),(.d (.int .u64 0)),(.d (.int .u64 0)),(.d (.int .u64 0)),(.d (.int .u64 0)),.nil,.nil,(.d (.bool false))] [(0,13,(.t 27)),(13,1,(.t 28))]),oN (.store (.ag 16) (.t 2) (.t 29)),oO 3 (.mv (kI 0))]) (.ret)))))),[(2,(some (.ag 16))),(3,none)]⟩
theorem TR:aB Tryz.prog { own:=[],comp:=[],frz:=[],nils:=[] } Tryz.f62=some tQ:=by kernel_rfl
theorem Wl (G:ah) (b:List UInt8) (hb:b.length≤9000000000000000000):au Tryz.prog G 62 [.sl (b.map bD)] (.tup [.c (.d (a9 (jL b))),.c (.d (.int .i64 (fD b)))]):=by
  refine aF Tryz.func62 TR rfl rfl ?_;have c1:=VF G b (by omega);by_cases h1:dz b=0
  ·obtain⟨e1,e2,e3⟩:=xe h1;have c2:=K1 G (b.drop 48) (by simp; omega);rw[h1,e2,e3] at c1;by_cases h2:cm (b.drop 48)=0
   ·have e4:jL b=⟨bQ b,aR (b.drop 48),[],false⟩:=if_pos (by rw[e1,h2]);rw[e4,e1,h2];rw[h2] at c2;clear e1 e2 e3 e4 h1 h2;generalize bQ b=q at *
    generalize b.drop 48=R at *
    generalize aR R=L at *
    unfold a9;unfold cc at c1;simp only[tQ,af,ae,aa,seval,iteOmega,toNatUp];refine sD (c1) ?_;refine sD (c2) ?_;exact cM (by simp only[ae,aa,seval,iteOmega,toNatUp] <;> rfl) (by simp only[ae,aa,seval,iteOmega,toNatUp])
   ·have e4:jL b=dL:=if_neg (by rw[e1]; exact h2);have g:(cm (b.drop 48)=0)=False:=eq_false h2;rw[e4,e1];clear e1 e2 e3 e4 h1 h2;generalize cm (b.drop 48)=E at *
    generalize bQ b=q at *
    generalize b.drop 48=R at *
    generalize aR R=L at *
    unfold a9 dL Hd.z;unfold cc at c1;simp only[tQ,af,ae,aa,seval,iteOmega,toNatUp];refine sD (c1) ?_;refine sC (c2) ?_;simp only[g,ae,aa,seval,iteOmega,toNatUp];exact cM (by simp only[ae,aa,seval,iteOmega,toNatUp] <;> rfl) (by simp only[ae,aa,seval,iteOmega,toNatUp])
  ·obtain⟨e1,e4⟩:=x7 h1;have g:(dz b=0)=False:=eq_false h1;rw[e4,e1];clear e1 e4 h1;generalize dz b=E at *
   generalize nc b=R at *
   generalize nb b=q at *
   unfold a9 dL Hd.z;unfold cc at c1;simp only[tQ,af,ae,aa,seval,iteOmega,toNatUp];refine sC (c1) ?_;simp only[g,ae,aa,seval,iteOmega,toNatUp];exact cM (by simp only[ae,aa,seval,iteOmega,toNatUp] <;> rfl) (by simp only[ae,aa,seval,iteOmega,toNatUp])
theorem gE {key:List UInt8} {p:cn} {n:List UInt8} {e:Int} (h:dC key p n=e) (he:e≠0):fF key p n=[]:=if_neg (by rw[h]; exact he)
theorem MF {key:List UInt8} {p:cn} {n:List UInt8} (h:key.length≠32):dC key p n=5:=if_pos h
theorem MG {key:List UInt8} {p:cn} {n:List UInt8} (h1:key.length=32) (h:n.length<16∨32<n.length):dC key p n=4:=by
  unfold dC; rw[if_neg (by omega),if_pos h]
theorem MH {key:List UInt8} {p:cn} {n:List UInt8} (h1:key.length=32) (h2:16≤n.length∧n.length≤32) (h:cB p≠0):dC key p n=cB p:=by
  unfold dC; rw[if_neg (by omega),if_neg (by omega),if_pos h]
theorem MI {key:List UInt8} {p:cn} {n:List UInt8} (h1:key.length=32) (h2:16≤n.length∧n.length≤32) (h3:cB p=0) (h:bI p.se≠0):dC key p n=bI p.se:=by
  unfold dC; rw[if_neg (by omega),if_neg (by omega),if_neg (by simp[h3]),if_pos h]
theorem MJ {key:List UInt8} {p:cn} {n:List UInt8} (h1:key.length=32) (h2:16≤n.length∧n.length≤32) (h3:cB p=0) (h4:bI p.se=0) (h:(aS p.pl 1028).length≠0):dC key p n=3:=by
  unfold dC; rw[if_neg (by omega),if_neg (by omega),if_neg (by simp[h3]),if_neg (by simp[h4]),if_pos h]
theorem MK {key:List UInt8} {p:cn} {n:List UInt8} (h1:key.length=32) (h2:16≤n.length∧n.length≤32) (h3:cB p=0) (h4:bI p.se=0) (h5:(aS p.pl 1028).length=0) (h:p.pl.length=24):dC key p n=8:=by
  unfold dC; rw[if_neg (by omega),if_neg (by omega),if_neg (by simp[h3]),if_neg (by simp[h4]),if_neg (by simp[h5]),if_pos h]
theorem ML {key:List UInt8} {p:cn} {n:List UInt8} (h1:key.length=32) (h2:16≤n.length∧n.length≤32) (h3:cB p=0) (h4:bI p.se=0) (h5:(aS p.pl 1028).length=0) (h6:p.pl.length≠24):dC key p n=if bI [bS key p n]≠0∨1280<(bR p).length+bY [bS key p n] then 2 else 0:=by
  unfold dC; rw[if_neg (by omega),if_neg (by omega),if_neg (by simp[h3]),if_neg (by simp[h4]),if_neg (by simp[h5]),if_neg h6]
def j9:aD:=⟨3,78,.seq (.reg [oO 4 (.box .roBox (.t 1)),oO 6 (.mv (.k (.c .nil))),oO 7 (.mv (kI 0))]) (.seq (.seq (.reg [oM 14 0,oO 15 (.len (.t 14)),oO 16 (.bin .neq (.t 15) (kI 32))]) (.cond (.t 16) (.seq (.reg [oO 6 (.mv (.k (.c .nil))),oO 7 (.mv (kI 5))]) (.ret)) (.skip))) (.seq (.seq (.reg [oM 17 2,oO 18 (.len (.t 17)),oO 19 (.call 44 [(.t 18)] none),oO 20 (.un .not (.t 19))]) (.cond (.t 20) (.seq (.reg [oO 6 (.mv (.k (.c .nil))),oO 7 (.mv (kI 4))]) (.ret)) (.skip))) (.seq (.reg [oO 22 (.load (.ag 16) (.t 4)),oO 23 (.call 45 [(.t 22)] none),oM 21 23,oO 24 (.extract (.t 21) 0),oO 25 (.extract (.t 21) 1),oM 8 24,oM 9 25]) (.seq (.seq (.reg [oM 26 9,oO 27 (.bin .neq (.t 26) (kI 0))]) (.cond (.t 27) (.seq (.reg [oM 28 9,oO 6 (.mv (.k (.c .nil))),oM 7 28]) (.ret)) (.skip))) (.seq (.reg [oO 30 (.fieldAddr 14 (.t 4)),
 oO 31 (.load .sc (.t 30)),oO 32 (.call 46 [(.t 31)] none),oM 29 32,oO 33 (.extract (.t 29) 0),oO 34 (.extract (.t 29) 1),oM 10 33,oM 9 34]) (.seq (.seq (.reg [oM 35 9,oO 36 (.bin .neq (.t 35) (kI 0))]) (.cond (.t 36) (.seq (.reg [oM 37 9,oO 6 (.mv (.k (.c .nil))),oM 7 37]) (.ret)) (.skip))) (.seq (.seq (.reg [oO 38 (.fieldAddr 13 (.t 4)),oO 39 (.load .sc (.t 38)),oO 40 (.call 47 [(.t 39),(kI 1028)] none),oO 41 (.len (.t 40)),oO 42 (.bin .gtr (.t 41) (kI 0))]) (.cond (.t 42) (.seq (.reg [oO 6 (.mv (.k (.c .nil))),oO 7 (.mv (kI 3))]) (.ret)) (.skip))) (.seq (.seq (.reg [oO 43 (.fieldAddr 13 (.t 4)),oO 44 (.load .sc (.t 43)),oO 45 (.len (.t 44)),oO 46 (.bin .eql (.t 45) (kI 24))]) (.cond (.t 46) (.seq (.reg [oO 6 (.mv (.k (.c .nil))),oO 7 (.mv (kI 8))]) (.ret)) (.skip))) (.seq (.reg [oM 48 0,
 oM 49 8,oM 50 2,oO 51 (.bldSl false 2 1 (.sl []) [(0,(.t 49)),(1,(.t 50))]),oM 52 10,oO 53 (.call 48 [(.t 48),(.t 51),(.t 52)] none),oM 47 53,oO 54 (.extract (.t 47) 0),oO 55 (.extract (.t 47) 1),oM 11 54,oM 12 55]) (.seq (.reg [oM 57 2,oM 58 11,oO 59 (.call 49 [(.t 57),(.t 58)] none),oO 60 (.bldSl false 1 2 (.agg [(.int .i64 0),(.sl [])]) [(0,(.t 59))]),oO 61 (.call 46 [(.t 60)] none),oM 56 61,oO 62 (.extract (.t 56) 0),oO 63 (.extract (.t 56) 1),oM 13 62,oM 9 63]) (.seq (.seq (.reg [oM 64 9,oO 65 (.bin .neq (.t 64) (kI 0)),oM 66 65,oG 67 (.mv (.t 8)) 66 false,oG 68 (.len (.t 67)) 66 false,oG 69 (.mv (.t 13)) 66 false,oG 70 (.len (.t 69)) 66 false,oG 71 (.bin .add (.t 68) (.t 70)) 66 false,oG 72 (.bin .gtr (.t 71) (kI 1280)) 66 false,oO 73 (.pick (.t 66) (.k (.c (.d (.bool true)))) (.t 72))])
 (.cond (.t 73) (.seq (.reg [oO 6 (.mv (.k (.c .nil))),oO 7 (.mv (kI 2))]) (.ret)) (.skip))) (.seq (.reg [oM 74 8,oM 75 13,oO 76 (.bldSl false 2 1 (.sl []) [(0,(.t 74)),(1,(.t 75))]),oO 77 (.call 50 [(.t 76)] (some (0,1))),oM 6 77,oO 7 (.mv (kI 0))]) (.ret))))))))))))),[(6,none),(7,none)]⟩
theorem TS:aB Tryz.prog { own:=[77],comp:=[],frz:=[],nils:=[] } Tryz.f20=some j9:=by kernel_rfl
theorem Wm (G:ah) (key:List UInt8) (p:cn) (n:List UInt8) (hk:key.length≤9223372036854775807) (hf:pv p.hd) (hl:p.pl.length≤1000000) (hd:∀ f∈p.pl,f.da.length≤8000000000000000000) (hl2:p.se.length≤1000000) (hd2:∀ f∈p.se,f.da.length≤8000000000000000000) (hn:n.length≤9223372036854775807):au Tryz.prog G 20 [.sl (key.map bD),a9 p,.sl (n.map bD)] (.tup [.c (.fr 1 ((fF key p n).map bD)),.c (.d (.int .i64 (dC key p n)))]):=by
  refine aF Tryz.func20 TS rfl rfl ?_;have cf:=Lc G (n.length:Int);have c1:=Wk G p hf hl hd;have c2:=zE G p.se hl2 hd2;have c3:=zF G p.pl 1028 hl;by_cases h1:key.length=32
  ·by_cases h2:16≤n.length∧n.length≤32
   ·rw[decide_eq_true (by omega)] at cf;by_cases h3:cB p=0
    ·have hXl:=zO h3;rw[ME h3,h3] at c1;by_cases h4:bI p.se=0
     ·obtain⟨_,_,s3,s4⟩:=mV h4;rw[h4,s4] at c2;by_cases h5:(aS p.pl 1028).length=0
      ·by_cases h6:p.pl.length=24
       ·have e:=MK (key:=key) (n:=n) h1 h2 h3 h4 h5 h6;rw[gE e (by decide),e];clear e h3 h4;generalize bR p=X at *
        generalize be p.se=Y at *
        generalize aS p.pl 1028=Z at *
        unfold a9 at *
        simp only[j9,af,ae,aa,seval,iteOmega,toNatUp,h1];refine sD (cf) ?_;refine sD (c1) ?_;refine sD (c2) ?_;refine sC (c3) ?_;simp only[h5,h6,ae,aa,seval,iteOmega,toNatUp];exact bw
       ·have e7:=ML (key:=key) (n:=n) h1 h2 h3 h4 h5 h6;have hae:bZ key [bR p,n] ((be p.se).length:Int)=0:=zH h1 (by omega) (by omega) (by rw[iB]; omega);have hsl:(dU key p n).length=16+bY p.se:=by unfold dU; rw[xT hae,Yr,lK,lM,iB]
        have c4:=Vt G key [bR p,n] (be p.se) hk (by simp) (fun x hx=>by simp at hx; rcases hx with rfl | rfl <;> omega) (by rw[iB]; omega);rw[hae,show jb key [bR p,n] (be p.se)=dU key p n from rfl] at c4;have c5:=MD G n (dU key p n) (by omega) (by omega);have hgl:(cG n (dU key p n)).length≤4000:=by rw[mK]; omega
        have c6:=zE G [bS key p n] (by simp) (fun f hf=>by rw[YA.1 hf]; show (cG n (dU key p n)).length≤_; omega);rw[show aJ (dB n (dU key p n))=aJ (bS key p n) from rfl] at c5;rw[List.map_singleton] at c6;by_cases h7:bI [bS key p n]=0
        ·obtain⟨_,_,g3,g4⟩:=mV h7;rw[h7,g4] at c6;have hGl:=iB [bS key p n];rcases YE 1280 ((bR p).length+bY [bS key p n]) with h8 | h8
         ·have e:dC key p n=2:=by rw[e7,if_pos (.inr h8)]
          rw[gE e (by decide),e];rw[← hGl] at h8;have g8:(((bR p).length:Int)+((be [bS key p n]).length:Int)>1280)=True:=eq_true (by omega);clear e e7 h3 h4 h7 hae hsl;unfold cX at c4;simp only[Yp,Yv] at c4;generalize be [bS key p n]=W at *
          generalize bS key p n=g at *
          generalize dU key p n=S at *
          generalize bR p=X at *
          generalize be p.se=Y at *
          generalize aS p.pl 1028=Z at *
          unfold a9 aJ at *
          simp only[j9,af,ae,aa,seval,iteOmega,toNatUp,h1];refine sD (cf) ?_;refine sD (c1) ?_;refine sD (c2) ?_;refine sC (c3) ?_;simp only[h5,h6,ae,aa,seval,iteOmega,toNatUp];refine sD (c4) ?_;refine sD (c5) ?_;refine sC (c6) ?_;simp only[g8,ae,aa,seval,iteOmega,toNatUp];exact bw
         ·have e:dC key p n=0:=by rw[e7,if_neg (by omega)]
          have eB:fF key p n=bR p++be [bS key p n]:=if_pos e;have cj:=eJ G [bR p,be [bS key p n]] (by simp) (by simp; omega);have hfl:[bR p,be [bS key p n]].flatten=fF key p n:=by rw[eB]; simp
          rw[hfl] at cj;simp only[Yp,Yv] at cj;rw[e];rw[← hGl] at h8;have g8:(((bR p).length:Int)+((be [bS key p n]).length:Int)>1280)=False:=eq_false (by omega);clear e e7 h3 h4 h7 hae hsl eB hfl;unfold cX at c4;simp only[Yp,Yv] at c4;generalize fF key p n=V at *
          generalize be [bS key p n]=W at *
          generalize bS key p n=g at *
          generalize dU key p n=S at *
          generalize bR p=X at *
          generalize be p.se=Y at *
          generalize aS p.pl 1028=Z at *
          unfold a9 aJ at *
          simp only[j9,af,ae,aa,seval,iteOmega,toNatUp,h1];refine sD (cf) ?_;refine sD (c1) ?_;refine sD (c2) ?_;refine sC (c3) ?_;simp only[h5,h6,ae,aa,seval,iteOmega,toNatUp];refine sD (c4) ?_;refine sD (c5) ?_;refine sC (c6) ?_;simp only[g8,ae,aa,seval,iteOmega,toNatUp];refine sD (cj) ?_;exact bw
        ·have e:dC key p n=2:=by rw[e7,if_pos (.inl h7)]
         rw[gE e (by decide),e];have g7:(bI [bS key p n]=0)=False:=eq_false h7;clear e e7 h3 h4 h7 hae hsl;unfold cX at c4;simp only[Yp,Yv] at c4;generalize bI [bS key p n]=E at *
         generalize dK [bS key p n]=W at *
         generalize bS key p n=g at *
         generalize dU key p n=S at *
         generalize bR p=X at *
         generalize be p.se=Y at *
         generalize aS p.pl 1028=Z at *
         unfold a9 aJ at *
         simp only[j9,af,ae,aa,seval,iteOmega,toNatUp,h1];refine sD (cf) ?_;refine sD (c1) ?_;refine sD (c2) ?_;refine sC (c3) ?_;simp only[h5,h6,ae,aa,seval,iteOmega,toNatUp];refine sD (c4) ?_;refine sD (c5) ?_;refine sC (c6) ?_;simp only[g7,ae,aa,seval,iteOmega,toNatUp];exact bw
      ·have e:=MJ (key:=key) (n:=n) h1 h2 h3 h4 h5;rw[gE e (by decide),e];clear e h3 h4;generalize bR p=X at *
       generalize be p.se=Y at *
       generalize aS p.pl 1028=Z at *
       unfold a9 at *
       simp only[j9,af,ae,aa,seval,iteOmega,toNatUp,h1];refine sD (cf) ?_;refine sD (c1) ?_;refine sD (c2) ?_;refine sD (c3) ?_;exact bw
     ·have e:=MI (key:=key) (n:=n) h1 h2 h3 h4;rw[gE e h4,e];have g4:(bI p.se=0)=False:=eq_false h4;clear e h3 h4;generalize bR p=X at *
      generalize bI p.se=E at *
      generalize dK p.se=Y at *
      unfold a9 at *
      simp only[j9,af,ae,aa,seval,iteOmega,toNatUp,h1];refine sD (cf) ?_;refine sD (c1) ?_;refine sC (c2) ?_;simp only[g4,ae,aa,seval,iteOmega,toNatUp];exact bw
    ·have e:=MH (key:=key) (n:=n) h1 h2 h3;rw[gE e h3,e];have g3:(cB p=0)=False:=eq_false h3;clear e h3;generalize cB p=E at *
     generalize vN p=X at *
     unfold a9 at *
     simp only[j9,af,ae,aa,seval,iteOmega,toNatUp,h1];refine sD (cf) ?_;refine sC (c1) ?_;simp only[g3,ae,aa,seval,iteOmega,toNatUp];exact bw
   ·have e:=MG (key:=key) (p:=p) (n:=n) h1 (by omega);rw[decide_eq_false (by omega)] at cf;rw[gE e (by decide),e];unfold a9;simp only[j9,af,ae,aa,seval,iteOmega,toNatUp,h1];refine sD (cf) ?_;exact bw
  ·have e:=MF (key:=key) (p:=p) (n:=n) h1;rw[gE e (by decide),e];unfold a9;simp only[j9,af,ae,aa,seval,iteOmega,toNatUp];exact bw
theorem zP (l:List Fd) (k:Int):∀ n,∀ x∈eb l k n,0≤x∧x<(n:Int)
  | 0,x,h=>by cases h
  | n+1,x,h=>by
    rw[eb,YM] at h;rcases h with h | h
    ·have:=zP l k n x h; omega
    ·split at h
     ·rw[YA] at h; omega
     ·cases h
theorem F9 {L:List Fd} (h:(aS L 1028).length≠0):∃ i:Nat,i<L.length∧(aS L 1028).getD 0 0=(i:Int)∧(aS L 1028)[0]?=some (i:Int):=by
  have h0:0<(aS L 1028).length:=by omega
  obtain⟨h1,h2⟩:=zP L 1028 L.length (aS L 1028)[0] (YQ h0);have e:(((aS L 1028)[0].toNat:Nat):Int)=(aS L 1028)[0]:=by omega
  refine⟨(aS L 1028)[0].toNat,by omega,?_,?_⟩
  ·rw[Ys,Yn h0,e]; rfl
  ·rw[Yn h0,e]
theorem Lf {b:List UInt8} (h:fD b=0):dz b=0∧cm (b.drop 48)=0∧48≤b.length∧b.length≤1280∧jL b=⟨bQ b,aR (b.drop 48),[],false⟩:=by
  have hd:dz b=0:=by
    by_cases e:dz b=0
    ·exact e
    ·rw[(x7 e).1] at h; exact absurd h e
  have h2:=(xe hd).1;rw[h] at h2;have hl:48≤b.length∧b.length≤1280:=by
    unfold dz at hd;split at hd
    ·cases hd
    ·split at hd
     ·cases hd
     ·omega
  exact⟨hd,h2.symm,hl.1,hl.2,if_pos h⟩
theorem IG {r:List UInt8} {f:Fd} (h:f∈aR r):f.da.length≤r.length:=by
  unfold aR at h;split at h
  ·obtain⟨i,_,rfl⟩:=YN.1 h;unfold vM aO; simp; omega
  ·cases h
theorem nU {r:List UInt8}:(aR r).length≤24:=by
  unfold aR;split
  ·rw[tK]; exact (ui r).1
  ·exact Yt _
theorem Lg {r:List UInt8} {i:Nat} (h:cm r=0) (hi:i<(aR r).length):(fQ r)[i]?=some (aE r i:Int)∧aE r i≤r.length:=by
  obtain⟨h1,h2,h3,h4⟩:=Mu h;have e1:aR r=dT r (cQ r):=by unfold aR; rw[if_pos h,h3]
  have e2:fQ r=eG r (cQ r):=by unfold fQ; rw[if_pos h,h3]
  rw[e1,tK] at hi;refine⟨?_,ug r i (by omega)⟩;rw[e2];unfold eG;rw[Zn,List.getElem?_range hi];rfl
theorem ik {key b:List UInt8} {e:Int} (h:fo key b=e) (he:e≠0):ee key b=dL:=if_neg (by rw[h]; exact he)
theorem MM {key b:List UInt8} (h:key.length≠32):fo key b=5:=if_pos h
theorem MN {key b:List UInt8} (h1:key.length=32) (h:fD b≠0):fo key b=fD b:=by unfold fo; rw[if_neg (by omega),if_pos h]
theorem MO {key b:List UInt8} (h1:key.length=32) (h2:fD b=0) (h:(aS (aR (b.drop 48)) 1028).length=0):fo key b=10:=by
  unfold fo; rw[if_neg (by omega),if_neg (by simp[h2]),if_pos h]
theorem vh {key b:List UInt8} (h1:key.length=32) (h2:fD b=0) (h3:(aS (aR (b.drop 48)) 1028).length≠0) (h:(aS (aR (b.drop 48)) 1028).getD 0 0≠(bW b:Int)∨¬ dV (bJ b)):fo key b=3:=by
  unfold fo; rw[if_neg (by omega),if_neg (by simp[h2]),if_neg h3,if_pos h]
theorem MP {key b:List UInt8} (h1:key.length=32) (h2:fD b=0) (h3:(aS (aR (b.drop 48)) 1028).length≠0) (h4:(aS (aR (b.drop 48)) 1028).getD 0 0=(bW b:Int)) (h5:dV (bJ b)):fo key b=if kF key b≠0 then 6 else cm (dW key b):=by
  unfold fo; rw[if_neg (by omega),if_neg (by simp[h2]),if_neg h3,if_neg (by rintro (k | k); exact k h4; exact k h5)]
theorem Ga {key:List UInt8} {ad:List (List UInt8)} {s:List UInt8}:(gJ key ad s).length≤s.length:=by
  unfold gJ;split
  ·rw[lM]; simp
  ·exact Yt _
structure Yl (b:List UInt8) where
  l1:48≤b.length
  l2:b.length≤1280
  ea:cm (b.drop 48)=0
  rd:jL b=⟨bQ b,aR (b.drop 48),[],false⟩
theorem Lh {d:List UInt8} (h:dV d):lC d=br d∧lD d=bL d:=⟨if_pos h,if_pos h⟩
theorem MQ {d:List UInt8} (h:dV d):(br d).length≤32∧(bL d).length≤d.length:=by
  obtain⟨h1,h2,h3,h4,h5⟩:=h;unfold br bL aO;simp;omega
def kS:aD:=⟨2,108,.seq (.reg [oO 4 (.alloc [(.d (.int .i64 0)),(.d (.int .i64 0)),(.d (.int .i64 0)),(.d (.int .i64 0)),(.d (.int .i64 0)),(.d (.int .i64 0)),(.d (.int .u32 0)),(.d (.int .u32 0)),(.d (.int .u32 0)),(.d (.int .u64 0)),(.d (.int .u64 0)),(.d (.int .u64 0)),(.d (.int .u64 0)),.nil,.nil,(.d (.bool false))]),oO 5 (.mv (kI 0))]) (.seq (.seq (.reg [oM 18 0,oO 19 (.len (.t 18)),oO 20 (.bin .neq (.t 19) (kI 32))]) (.cond (.t 20) (.seq (.reg [oO 21 (.build [(.d (.int .i64 0)),(.d (.int .i64 0)),(.d (.int .i64 0)),(.d (.int .i64 0)),(.d (.int .i64 0)),(.d (.int .i64 0)),(.d (.int .u32 0)),(.d (.int .u32 0)),(.d (.int .u32 0)),(.d (.int .u64 0)),(.d (.int .u64 0)),(.d (.int .u64 0)),(.d (.int .u64 0)),.nil,.nil,(.d (.bool false))] []),oN (.store (.ag 16) (.t 4) (.t 21)),oO 5 (.mv (kI 5))])
 (.ret)) (.skip))) (.seq (.reg [oM 23 1,oO 24 (.call 62 [(.t 23)] none),oM 22 24,oO 25 (.extract (.t 22) 0),oO 26 (.extract (.t 22) 1),oO 6 (.alloc [(.d (.int .i64 0)),(.d (.int .i64 0)),(.d (.int .i64 0)),(.d (.int .i64 0)),(.d (.int .i64 0)),(.d (.int .i64 0)),(.d (.int .u32 0)),(.d (.int .u32 0)),(.d (.int .u32 0)),(.d (.int .u64 0)),(.d (.int .u64 0)),(.d (.int .u64 0)),(.d (.int .u64 0)),.nil,.nil,(.d (.bool false))]),oN (.store (.ag 16) (.t 6) (.t 25)),oM 7 26]) (.seq (.seq (.reg [oM 27 7,oO 28 (.bin .neq (.t 27) (kI 0))]) (.cond (.t 28) (.seq (.reg [oO 29 (.build [(.d (.int .i64 0)),(.d (.int .i64 0)),(.d (.int .i64 0)),(.d (.int .i64 0)),(.d (.int .i64 0)),(.d (.int .i64 0)),(.d (.int .u32 0)),(.d (.int .u32 0)),(.d (.int .u32 0)),(.d (.int .u64 0)),(.d (.int .u64 0)),(.d (.int .u64 0)),(.d (.int .u64 0)),.nil,.nil,(.d (.bool false))] []),
 oM 30 7,oN (.store (.ag 16) (.t 4) (.t 29)),oM 5 30]) (.ret)) (.skip))) (.seq (.reg [oO 31 (.fieldAddr 13 (.t 6)),oO 32 (.load .sc (.t 31)),oO 33 (.call 47 [(.t 32),(kI 1028)] none),oM 8 33]) (.seq (.seq (.reg [oM 34 8,oO 35 (.len (.t 34)),oO 36 (.bin .eql (.t 35) (kI 0))]) (.cond (.t 36) (.seq (.reg [oO 37 (.build [(.d (.int .i64 0)),(.d (.int .i64 0)),(.d (.int .i64 0)),(.d (.int .i64 0)),(.d (.int .i64 0)),(.d (.int .i64 0)),(.d (.int .u32 0)),(.d (.int .u32 0)),(.d (.int .u32 0)),(.d (.int .u64 0)),(.d (.int .u64 0)),(.d (.int .u64 0)),(.d (.int .u64 0)),.nil,.nil,(.d (.bool false))] []),oN (.store (.ag 16) (.t 4) (.t 37)),oO 5 (.mv (kI 10))]) (.ret)) (.skip))) (.seq (.reg [oO 38 (.fieldAddr 13 (.t 6)),oO 39 (.load .sc (.t 38)),oO 40 (.len (.t 39)),oO 41 (.bin .sub (.t 40) (kI 1)),oM 9 41])
 (.seq (.reg [oO 43 (.fieldAddr 13 (.t 6)),oO 44 (.load .sc (.t 43)),oM 45 8,oO 46 (.idxSl 1 (.t 45) (kI 0)),oO 47 (.load .sc (.t 46)),oO 48 (.idxSl 2 (.t 44) (.t 47)),oO 49 (.fieldAddr 1 (.t 48)),oO 50 (.load .sc (.t 49)),oO 51 (.call 63 [(.t 50)] none),oM 42 51,oO 52 (.extract (.t 42) 0),oO 53 (.extract (.t 42) 1),oO 54 (.extract (.t 42) 2),oM 10 52,oM 11 53,oM 12 54]) (.seq (.seq (.reg [oM 55 8,oO 56 (.idxSl 1 (.t 55) (kI 0)),oO 57 (.load .sc (.t 56)),oM 58 9,oO 59 (.bin .neq (.t 57) (.t 58)),oM 60 59,oG 61 (.mv (.t 12)) 60 false,oG 62 (.un .not (.t 61)) 60 false,oO 63 (.pick (.t 60) (.k (.c (.d (.bool true)))) (.t 62))]) (.cond (.t 63) (.seq (.reg [oO 64 (.build [(.d (.int .i64 0)),(.d (.int .i64 0)),(.d (.int .i64 0)),(.d (.int .i64 0)),(.d (.int .i64 0)),(.d (.int .i64 0)),(.d (.int .u32 0)),(.d (.int .u32 0)),(.d (.int .u32 0)),(.d (.int .u64 0)),(.d (.int .u64 0)),(.d (.int .u64 0)),(.d (.int .u64 0)),.nil,.nil,(.d (.bool false))] []),
 oN (.store (.ag 16) (.t 4) (.t 64)),oO 5 (.mv (kI 3))]) (.ret)) (.skip))) (.seq (.reg [oM 66 1,oO 67 (.slice 1 (.t 66) (some (kI 48)) none none),oO 68 (.call 64 [(.t 67)] none),oM 65 68,oO 69 (.extract (.t 65) 0),oO 70 (.extract (.t 65) 1),oM 13 69,oM 14 70]) (.seq (.reg [oM 71 1,oM 72 13,oM 73 9,oO 74 (.idxSl 1 (.t 72) (.t 73)),oO 75 (.load .sc (.t 74)),oO 76 (.bin .add (kI 48) (.t 75)),oO 77 (.slice 1 (.t 71) none (some (.t 76)) none),oM 15 77]) (.seq (.reg [oM 79 0,oM 80 15,oM 81 10,oO 82 (.bldSl false 2 1 (.sl []) [(0,(.t 80)),(1,(.t 81))]),oM 83 11,oO 84 (.call 65 [(.t 79),(.t 82),(.t 83)] none),oM 78 84,oO 85 (.extract (.t 78) 0),oO 86 (.extract (.t 78) 1),oM 16 85,oM 7 86]) (.seq (.seq (.reg [oM 87 7,oO 88 (.bin .neq (.t 87) (kI 0))]) (.cond (.t 88) (.seq (.reg [oO 89 (.build [(.d (.int .i64 0)),(.d (.int .i64 0)),(.d (.int .i64 0)),(.d (.int .i64 0)),(.d (.int .i64 0)),(.d (.int .i64 0)),(.d (.int .u32 0)),(.d (.int .u32 0)),(.d (.int .u32 0)),(.d (.int .u64 0)),(.d (.int .u64 0)),(.d (.int .u64 0)),(.d (.int .u64 0)),.nil,.nil,(.d (.bool false))] []),
 oN (.store (.ag 16) (.t 4) (.t 89)),oO 5 (.mv (kI 6))]) (.ret)) (.skip))) (.seq (.reg [oM 91 16,oO 92 (.call 66 [(.t 91)] none),oM 90 92,oO 93 (.extract (.t 90) 0),oO 94 (.extract (.t 90) 1),oM 17 93,oM 7 94]) (.seq (.seq (.reg [oM 95 7,oO 96 (.bin .neq (.t 95) (kI 0))]) (.cond (.t 96) (.seq (.reg [oO 97 (.build [(.d (.int .i64 0)),(.d (.int .i64 0)),(.d (.int .i64 0)),(.d (.int .i64 0)),(.d (.int .i64 0)),(.d (.int .i64 0)),(.d (.int .u32 0)),(.d (.int .u32 0)),(.d (.int .u32 0)),(.d (.int .u64 0)),(.d (.int .u64 0)),(.d (.int .u64 0)),(.d (.int .u64 0)),.nil,.nil,(.d (.bool false))] []),oM 98 7,oN (.store (.ag 16) (.t 4) (.t 97)),oM 5 98]) (.ret)) (.skip))) (.seq (.reg [oO 99 (.fieldAddr 0 (.t 6)),oO 100 (.load (.ag 13) (.t 99)),oO 101 (.fieldAddr 13 (.t 6)),oO 102 (.load .sc (.t 101)),
 oM 103 9,oM 104 9,oO 105 (.slice 2 (.t 102) none (some (.t 103)) (some (.t 104))),oM 106 17,oO 107 (.build [(.d (.int .i64 0)),(.d (.int .i64 0)),(.d (.int .i64 0)),(.d (.int .i64 0)),(.d (.int .i64 0)),(.d (.int .i64 0)),(.d (.int .u32 0)),(.d (.int .u32 0)),(.d (.int .u32 0)),(.d (.int .u64 0)),(.d (.int .u64 0)),(.d (.int .u64 0)),(.d (.int .u64 0)),.nil,.nil,(.d (.bool false))] [(0,13,(.t 100)),(13,1,(.t 105)),(14,1,(.t 106)),(15,1,(.k (.c (.d (.bool true)))))]),oN (.store (.ag 16) (.t 4) (.t 107)),oO 5 (.mv (kI 0))]) (.ret)))))))))))))))),[(4,(some (.ag 16))),(5,none)]⟩
theorem TT:aB Tryz.prog { own:=[],comp:=[],frz:=[],nils:=[] } Tryz.f29=some kS:=by kernel_rfl
set_option maxHeartbeats 3200000 in
theorem Wn (G:ah) (key b:List UInt8) (hk:key.length≤9223372036854775807) (hb:b.length≤9000000000000000000):au Tryz.prog G 29 [.sl (key.map bD),.sl (b.map bD)] (.tup [.c (.d (a9 (ee key b))),.c (.d (.int .i64 (fo key b)))]):=by
  refine aF Tryz.func29 TT rfl rfl ?_;have c1:=Wl G b hb;by_cases h1:key.length=32
  ·by_cases h2:fD b=0
   ·obtain⟨d1,d2,d3,d4,d5⟩:=Lf h2;rw[h2,d5] at c1;have hRl:(b.drop 48).length=b.length-48:=by simp
    have c2:=zF G (aR (b.drop 48)) 1028 (by have:=@nU (b.drop 48); omega);by_cases h3:(aS (aR (b.drop 48)) 1028).length=0
    ·have e:=MO h1 h2 h3;rw[ik e (by decide),e];clear e d1 d2 d5 h2;generalize aS (aR (b.drop 48)) 1028=Z at *
     generalize aR (b.drop 48)=L at *
     generalize bQ b=q at *
     unfold a9 dL Hd.z at *
     simp only[kS,af,ae,aa,seval,iteOmega,toNatUp,h1];refine sD (c1) ?_;refine sC (c2) ?_;simp only[h3,ae,aa,seval,iteOmega,toNatUp];exact cM (by simp only[ae,aa,seval,iteOmega,toNatUp] <;> rfl) (by simp only[ae,aa,seval,iteOmega,toNatUp])
    ·obtain⟨i,hi,i2,i3⟩:=F9 h3;have hLl:=@nU (b.drop 48);have gi:=iv hi;have hdl:=IG (nI hi);have c3:=Wj G ((aR (b.drop 48)).getD i default).da (by omega);have hz3:((aS (aR (b.drop 48)) 1028).length:Int)≠0:=by omega
     have hz3':(((aS (aR (b.drop 48)) 1028).length:Int)=0)=False:=eq_false hz3;have hz4:(0:Int)<((aS (aR (b.drop 48)) 1028).length:Int):=by omega
     by_cases h4:i=bW b
     ·have hL1:(bW b:Int)=((aR (b.drop 48)).length:Int)-1:=by unfold bW; omega
      rw[h4] at i2 i3 gi c3 hdl hi;have hfd:((aR (b.drop 48)).getD (bW b) default).da=bJ b:=rfl;rw[hfd] at c3 hdl;by_cases h5:dV (bJ b)
      ·obtain⟨p1,p2⟩:=Lh h5;obtain⟨q1,q2⟩:=MQ h5;have hgl:(bJ b).length≤1280:=by
         omega
       obtain⟨x1,x2⟩:=Lg d2 hi;have x3:(bW b:Int)<((fQ (b.drop 48)).length:Int):=by
         have:=(YH.1 x1).1;omega
       have c4:=VU G (b.drop 48) (by omega);rw[d2] at c4;have hAl:(fG b).length≤1280:=by unfold fG; simp; omega
       have c5:=Xl G key [fG b,br (bJ b)] (bL (bJ b)) hk (by simp) (fun x hx=>by simp at hx; rcases hx with rfl | rfl <;> omega) (by omega);rw[show fM key [fG b,br (bJ b)] (bL (bJ b))=kF key b from rfl,show gJ key [fG b,br (bJ b)] (bL (bJ b))=dW key b from rfl] at c5;have hVl:(dW key b).length≤1280:=by
         have:(dW key b).length≤(bL (bJ b)).length:=Ga;omega
       have c6:=K1 G (dW key b) (by omega);have e5:=MP h1 h2 h3 i2 h5;rw[p1,p2,decide_eq_true h5] at c3;have hcut:b.take (48+aE (b.drop 48) (bW b))=fG b:=rfl;unfold cX at c5;simp only[Yp,Yv] at c5;have hdr:(b.drop 48).take (b.length-48)=b.drop 48:=Yo (by omega);by_cases h6:kF key b=0
       ·rw[if_neg (by simp[h6])] at e5;rw[h6] at c5;by_cases h7:cm (dW key b)=0
        ·rw[h7] at e5 c6;have eP:ee key b=⟨bQ b,(aR (b.drop 48)).take (bW b),aR (dW key b),true⟩:=if_pos e5;rw[eP,e5];have az:=mA (aR (b.drop 48));have hle:(bW b≤(aR (b.drop 48)).length)=True:=eq_true (by omega);clear eP e5 d1 d2 d5 h2 h7 h6 p1 p2 h5 q1 q2 hgl h4 hz3;generalize hZ:aS (aR (b.drop 48)) 1028=Z at *
         generalize aE (b.drop 48) (bW b)=pp at *
         generalize fQ (b.drop 48)=PL at *
         generalize dW key b=V at *
         generalize fG b=A at *
         generalize br (bJ b)=n at *
         generalize bL (bJ b)=s at *
         generalize bJ b=GG at *
         generalize bW b=last at *
         generalize bQ b=q at *
         generalize aR V=LV at *
         generalize aR (b.drop 48)=L at *
         generalize L.getD last default=gf at *
         unfold a9 aJ at *
         simp only[kS,af,ae,aa,seval,iteOmega,toNatUp,h1];refine sD (c1) ?_;refine sC (c2) ?_;simp only[hz3',aC,i3,zD,← hL1,gi,aJ,hfd,ae,aa,seval,iteOmega,toNatUp];refine sC (c3) ?_;simp only[aC,i3,zD,← hL1,hdr,ae,aa,seval,iteOmega,toNatUp];refine sC (c4) ?_;simp only[hdr,x1,aC,zD,hcut,ae,aa,seval,iteOmega,toNatUp];refine sD (c5) ?_;refine sC (c6) ?_;simp only[az,hle,Yt,and_self,ae,aa,seval,iteOmega,toNatUp];exact cM (by simp only[ae,aa,seval,iteOmega,toNatUp] <;> rfl) (by simp only[ae,aa,seval,iteOmega,toNatUp])
        ·rw[ik e5 h7,e5];have g7:(cm (dW key b)=0)=False:=eq_false h7;clear e5 d1 d2 d5 h2 h7 h6 p1 p2 h5 q1 q2 hgl h4 hz3;generalize cm (dW key b)=E at *
         generalize hZ:aS (aR (b.drop 48)) 1028=Z at *
         generalize aE (b.drop 48) (bW b)=pp at *
         generalize fQ (b.drop 48)=PL at *
         generalize dW key b=V at *
         generalize fG b=A at *
         generalize br (bJ b)=n at *
         generalize bL (bJ b)=s at *
         generalize bJ b=GG at *
         generalize bW b=last at *
         generalize bQ b=q at *
         generalize aR V=LV at *
         generalize aR (b.drop 48)=L at *
         generalize L.getD last default=gf at *
         unfold dL Hd.z;unfold a9 aJ at *
         simp only[kS,af,ae,aa,seval,iteOmega,toNatUp,h1];refine sD (c1) ?_;refine sC (c2) ?_;simp only[hz3',aC,i3,zD,← hL1,gi,aJ,hfd,ae,aa,seval,iteOmega,toNatUp];refine sC (c3) ?_;simp only[aC,i3,zD,← hL1,hdr,ae,aa,seval,iteOmega,toNatUp];refine sC (c4) ?_;simp only[hdr,x1,aC,zD,hcut,ae,aa,seval,iteOmega,toNatUp];refine sD (c5) ?_;refine sC (c6) ?_;simp only[g7,ae,aa,seval,iteOmega,toNatUp];exact cM (by simp only[ae,aa,seval,iteOmega,toNatUp] <;> rfl) (by simp only[ae,aa,seval,iteOmega,toNatUp])
       ·rw[if_pos h6] at e5;rw[ik e5 (by decide),e5];have g6:(kF key b=0)=False:=eq_false h6;clear e5 d1 d2 d5 h2 h6 p1 p2 h5 q1 q2 hgl h4 hz3 c6;generalize kF key b=E at *
        generalize hZ:aS (aR (b.drop 48)) 1028=Z at *
        generalize aE (b.drop 48) (bW b)=pp at *
        generalize fQ (b.drop 48)=PL at *
        generalize dW key b=V at *
        generalize fG b=A at *
        generalize br (bJ b)=n at *
        generalize bL (bJ b)=s at *
        generalize bJ b=GG at *
        generalize bW b=last at *
        generalize bQ b=q at *
        generalize aR (b.drop 48)=L at *
        generalize L.getD last default=gf at *
        unfold dL Hd.z;unfold a9 aJ at *
        simp only[kS,af,ae,aa,seval,iteOmega,toNatUp,h1];refine sD (c1) ?_;refine sC (c2) ?_;simp only[hz3',aC,i3,zD,← hL1,gi,aJ,hfd,ae,aa,seval,iteOmega,toNatUp];refine sC (c3) ?_;simp only[aC,i3,zD,← hL1,hdr,ae,aa,seval,iteOmega,toNatUp];refine sC (c4) ?_;simp only[hdr,x1,aC,zD,hcut,ae,aa,seval,iteOmega,toNatUp];refine sC (c5) ?_;simp only[g6,ae,aa,seval,iteOmega,toNatUp];exact cM (by simp only[ae,aa,seval,iteOmega,toNatUp] <;> rfl) (by simp only[ae,aa,seval,iteOmega,toNatUp])
      ·have e:=vh h1 h2 h3 (.inr h5);rw[ik e (by decide),e];rw[decide_eq_false h5] at c3;clear e d1 d2 d5 h2 h5 h4 hz3;generalize hZ:aS (aR (b.drop 48)) 1028=Z at *
       generalize lC (bJ b)=n at *
       generalize lD (bJ b)=s at *
       generalize bJ b=GG at *
       generalize bW b=last at *
       generalize bQ b=q at *
       generalize aR (b.drop 48)=L at *
       generalize L.getD last default=gf at *
       unfold dL Hd.z a9 aJ at *
       simp only[kS,af,ae,aa,seval,iteOmega,toNatUp,h1];refine sD (c1) ?_;refine sC (c2) ?_;simp only[hz3',aC,i3,zD,← hL1,gi,aJ,hfd,ae,aa,seval,iteOmega,toNatUp];refine sC (c3) ?_;simp only[aC,i3,zD,← hL1,ae,aa,seval,iteOmega,toNatUp];exact cM (by simp only[ae,aa,seval,iteOmega,toNatUp] <;> rfl) (by simp only[ae,aa,seval,iteOmega,toNatUp])
     ·have e:=vh h1 h2 h3 (.inl (by rw[i2]; omega));rw[ik e (by decide),e];have hL1:(bW b:Int)=((aR (b.drop 48)).length:Int)-1:=by unfold bW; omega
      have g4:(i:Int)≠(bW b:Int):=by omega
      have g4':((i:Int)=(bW b:Int))=False:=eq_false g4;clear e d1 d2 d5 h2 h4 hz3;generalize decide (dV ((aR (b.drop 48)).getD i default).da)=ok at *
      generalize lC ((aR (b.drop 48)).getD i default).da=n at *
      generalize lD ((aR (b.drop 48)).getD i default).da=s at *
      generalize hZ:aS (aR (b.drop 48)) 1028=Z at *
      generalize bW b=last at *
      generalize bQ b=q at *
      generalize aR (b.drop 48)=L at *
      generalize L.getD i default=gf at *
      unfold dL Hd.z a9 aJ at *
      simp only[kS,af,ae,aa,seval,iteOmega,toNatUp,h1];refine sD (c1) ?_;refine sC (c2) ?_;simp only[hz3',aC,i3,zD,← hL1,gi,aJ,ae,aa,seval,iteOmega,toNatUp];refine sC (c3) ?_;simp only[aC,i3,zD,← hL1,g4',ae,aa,seval,iteOmega,toNatUp];exact cM (by simp only[ae,aa,seval,iteOmega,toNatUp] <;> rfl) (by simp only[ae,aa,seval,iteOmega,toNatUp])
   ·have e:=MN h1 h2;have g:(fD b=0)=False:=eq_false h2;rw[ik e h2,e];clear e h2;generalize fD b=E at *
    generalize jL b=q at *
    unfold a9 dL Hd.z at *
    simp only[kS,af,ae,aa,seval,iteOmega,toNatUp,h1];refine sC (c1) ?_;simp only[g,ae,aa,seval,iteOmega,toNatUp];exact cM (by simp only[ae,aa,seval,iteOmega,toNatUp] <;> rfl) (by simp only[ae,aa,seval,iteOmega,toNatUp])
  ·have e:=MM (b:=b) h1;rw[ik e (by decide),e];unfold a9 dL Hd.z;simp only[kS,af,ae,aa,seval,iteOmega,toNatUp];exact cM (by simp only[ae,aa,seval,iteOmega,toNatUp] <;> rfl) (by simp only[ae,aa,seval,iteOmega,toNatUp])
theorem zQ:lF.da.length=104:=YK ..
theorem Ar (u c:List UInt8) (k:Nat):bX u c (k+1)=bX u c k++[lF]:=by
  unfold bX;rw[ZI,YY]
theorem nV (u c:List UInt8) (k:Nat):(bX u c k).length=k+2:=by
  unfold bX;rw[Yr,YK]
  show 2+k=_
  omega
theorem yQ {u c:List UInt8} {k:Nat} {f:Fd} (h:f∈bX u c k):f=⟨260,u⟩∨f=⟨516,c⟩∨f=lF:=by
  unfold bX at h;rcases YM.1 h with h | h
  ·rcases Y1.1 h with h | h
   ·exact .inl h
   ·exact .inr (.inl (YA.1 h))
  ·exact .inr (.inr (List.eq_of_mem_replicate h))
theorem yR {u c:List UInt8} (hu:u.length=32) (hc:c.length=104):∀ k,bY (bX u c k)=144+108*k
  | 0=>by
    unfold bX bY bu;simp[hu,hc]
  | k+1=>by
    rw[Ar,xW,yR hu hc k];have:bY [lF]=108:=by
      unfold bY bu;simp[zQ]
    omega
theorem zR {f:Fd} (h1:0≤f.ty) (h2:f.ty≤65535) (h3:f.da.length≤1228):cy f=0:=by
  unfold cy bu;rw[if_neg (by omega),if_neg (by omega)]
theorem XF {u c:List UInt8} (hu:u.length=32) (hc:c.length=104) {k:Nat} (hk:k≤8):bI (bX u c k)=0:=by
  refine zG (fun f hf=>?_) (by rw[nV]; omega) (by rw[yR hu hc]; omega);rcases yQ hf with rfl | rfl | rfl
  ·exact zR (show (0:Int)≤260 by decide) (show (260:Int)≤65535 by decide) (by show u.length≤_; omega)
  ·exact zR (show (0:Int)≤516 by decide) (show (516:Int)≤65535 by decide) (by show c.length≤_; omega)
  ·exact zR (by decide) (by decide) (by rw[zQ]; decide)
theorem Wo {l:List Fd} {k:Int} (h:∀ f∈l,f.ty≠k):aS l k=[]:=F6 h _ (Yz _)
theorem Wp {u c:List UInt8} {k:Nat}:aS (bX u c k) 1028=[]:=Wo fun f hf=>by
  rcases yQ hf with rfl | rfl | rfl
  ·exact show (260:Int)≠1028 by decide
  ·exact show (516:Int)≠1028 by decide
  ·exact show (772:Int)≠1028 by decide
theorem XG (t:Nat):d9 (fO t)=0:=Al.2 rfl
theorem MR {t:Nat} (h:t<18446744073709551616):pv (fO t):=⟨show 0<_ by decide,show 0<_ by decide,show 0<_ by decide,show 0<_ by decide,show 0<_ by decide,show 0<_ by decide,h⟩
theorem As {key u c n:List UInt8} {t k:Nat} (h1:key.length=32) (hu:u.length=32) (hc:c.length=104) (hn:n.length=16) (hk:k≤8):A5 key ⟨fO t,bX u c k,[],false⟩ n∧(fF key ⟨fO t,bX u c k,[],false⟩ n).length=232+108*k:=by
  have s:bY ([]:List Fd)=0:=rfl;have e:=XF hu hc hk;have un:cB ⟨fO t,bX u c k,[],false⟩=0:=by
    unfold cB;rw[if_pos (XG t)]; exact e
  have ht:=yR hu hc k;have ha:bZ key [bR ⟨fO t,bX u c k,[],false⟩,n] ((be []).length:Int)=0:=zH h1 (by rw[tN,ht]; omega) (by omega) (by decide);have hs:(dU key ⟨fO t,bX u c k,[],false⟩ n).length=16:=by
    unfold dU;rw[xT ha,Yr,lK,lM]; rfl
  have hl:=mK n (dU key ⟨fO t,bX u c k,[],false⟩ n);have hT:bu (bS key ⟨fO t,bX u c k,[],false⟩ n)=40:=by
    unfold bS;rw[u6 (by omega),hl,hs]; omega
  have ok:A5 key ⟨fO t,bX u c k,[],false⟩ n:=⟨h1,by omega,by omega,un,rfl,by rw[show aS (bX u c k) 1028=[] from Wp]; rfl,by rw[nV]; omega,Mv (by omega) (by unfold bS at hT; rw[u6 (by omega)] at hT; omega),by rw[hT,ht]; omega⟩
  refine⟨ok,?_⟩;have hx:bY [bS key ⟨fO t,bX u c k,[],false⟩ n]=40:=by unfold bY; simp[hT]
  rw[(zI ok).2,Yr,tN,iB,hx,ht];omega
theorem l5 {j:Jr} {u n:List UInt8} {e:Int} (h:eI j u n=e) (he:e≠0):jS j u n=cC∧∀ t,lG j t u n=[]:=⟨if_neg (by rw[h]; exact he),fun t=>if_neg (by rw[h]; exact he)⟩
theorem oR {j:Jr} {u b:List UInt8} {e:Int} (h:ei j u b=e) (he:e≠0):jT j u b=cC∧jl j u b=dL:=⟨if_neg (by rw[h]; exact he),if_neg (by rw[h]; exact he)⟩
def IR:aD:=⟨2,19,.seq (.reg [oO 4 (.mv (.k (.c .nil)))]) (.seq (.reg [oM 5 0,oO 6 (.len (.t 5)),oO 7 (.conv .u64 (.t 6)),oO 8 (.call 42 [(.t 7),(kI 2)] none),oM 9 1,oO 10 (.len (.t 9)),oO 11 (.conv .u64 (.t 10)),oO 12 (.call 42 [(.t 11),(kI 2)] none),oM 13 0,oO 14 (.call 90 [(.t 13),(kI 4)] none),oM 15 1,oO 16 (.call 90 [(.t 15),(kI 4)] none),oO 17 (.bldSl false 4 1 (.sl []) [(0,(.t 8)),(1,(.t 12)),(2,(.t 14)),(3,(.t 16))]),oO 18 (.call 41 [(.t 17)] none),oM 4 18]) (.ret)),[(4,none)]⟩
theorem T8:aB Tryz.prog { own:=[],comp:=[],frz:=[],nils:=[] } Tryz.f61=some IR:=by kernel_rfl
theorem Ln (G:ah) (n s:List UInt8) (hn:n.length≤1000000) (hs:s.length≤1000000):au Tryz.prog G 61 [.sl (n.map bD),.sl (s.map bD)] (.w (.c (.d (.sl ((cG n s).map bD))))):=by
  refine aF Tryz.func61 T8 rfl rfl ?_;have c1:=ju G n.length 2 (by decide);have c2:=ju G s.length 2 (by decide);rw[show (2:Int).toNat=2 from rfl] at c1 c2;have c3:=qC G n 4 (by omega);have c4:=qC G s 4 (by omega);have cj:=eo G [aI n.length 2,aI s.length 2,dJ n 4,dJ s 4] (by simp) (by simp[dD,sI]; omega);rw[IF] at cj;generalize cG n s=B at *
  generalize aI n.length 2=B1 at *
  generalize aI s.length 2=B2 at *
  generalize dJ n 4=B3 at *
  generalize dJ s 4=B4 at *
  simp only[Yp,Yv] at cj;simp only[IR,af,ae,aa,seval,iteOmega,toNatUp];refine sD (c1) ?_;refine sD (c2) ?_;refine sD (c3) ?_;refine sD (c4) ?_;refine sD (cj) ?_;exact aG
def uw:aD:=⟨1,30,.seq (.reg [oO 2 (.alloc [(.d (.int .i64 0)),(.d (.int .i64 0)),(.d (.int .i64 0)),(.d (.int .i64 0)),(.d (.int .i64 0)),(.d (.int .i64 0)),(.d (.int .u32 0)),(.d (.int .u32 0)),(.d (.int .u32 0)),(.d (.int .u64 0)),(.d (.int .u64 0)),(.d (.int .u64 0)),(.d (.int .u64 0)),.nil,.nil,(.d (.bool false))]),oO 3 (.mv (kI 0))]) (.seq (.reg [oM 9 0,oO 10 (.call 99 [(.t 9)] none),oM 8 10,oO 11 (.extract (.t 8) 0),oO 12 (.extract (.t 8) 1),oO 13 (.extract (.t 8) 2),oO 4 (.alloc [(.d (.int .i64 0)),(.d (.int .i64 0)),(.d (.int .i64 0)),(.d (.int .i64 0)),(.d (.int .i64 0)),(.d (.int .i64 0)),(.d (.int .u32 0)),(.d (.int .u32 0)),(.d (.int .u32 0)),(.d (.int .u64 0)),(.d (.int .u64 0)),(.d (.int .u64 0)),(.d (.int .u64 0))]),oN (.store (.ag 13) (.t 4) (.t 11)),oM 5 12,oM 6 13]) (.seq (.seq (.reg [oM 14 6,
 oO 15 (.bin .neq (.t 14) (kI 0))]) (.cond (.t 15) (.seq (.reg [oO 16 (.build [(.d (.int .i64 0)),(.d (.int .i64 0)),(.d (.int .i64 0)),(.d (.int .i64 0)),(.d (.int .i64 0)),(.d (.int .i64 0)),(.d (.int .u32 0)),(.d (.int .u32 0)),(.d (.int .u32 0)),(.d (.int .u64 0)),(.d (.int .u64 0)),(.d (.int .u64 0)),(.d (.int .u64 0)),.nil,.nil,(.d (.bool false))] []),oM 17 6,oN (.store (.ag 16) (.t 2) (.t 16)),oM 3 17]) (.ret)) (.skip))) (.seq (.reg [oM 19 5,oO 20 (.call 71 [(.t 19)] none),oM 18 20,oO 21 (.extract (.t 18) 0),oO 22 (.extract (.t 18) 1),oM 7 21,oM 6 22]) (.seq (.seq (.reg [oM 23 6,oO 24 (.bin .neq (.t 23) (kI 0))]) (.cond (.t 24) (.seq (.reg [oO 25 (.build [(.d (.int .i64 0)),(.d (.int .i64 0)),(.d (.int .i64 0)),(.d (.int .i64 0)),(.d (.int .i64 0)),(.d (.int .i64 0)),(.d (.int .u32 0)),(.d (.int .u32 0)),(.d (.int .u32 0)),(.d (.int .u64 0)),(.d (.int .u64 0)),(.d (.int .u64 0)),(.d (.int .u64 0)),.nil,.nil,(.d (.bool false))] []),
 oM 26 6,oN (.store (.ag 16) (.t 2) (.t 25)),oM 3 26]) (.ret)) (.skip))) (.seq (.reg [oO 27 (.load (.ag 13) (.t 4)),oM 28 7,oO 29 (.build [(.d (.int .i64 0)),(.d (.int .i64 0)),(.d (.int .i64 0)),(.d (.int .i64 0)),(.d (.int .i64 0)),(.d (.int .i64 0)),(.d (.int .u32 0)),(.d (.int .u32 0)),(.d (.int .u32 0)),(.d (.int .u64 0)),(.d (.int .u64 0)),(.d (.int .u64 0)),(.d (.int .u64 0)),.nil,.nil,(.d (.bool false))] [(0,13,(.t 27)),(13,1,(.t 28))]),oN (.store (.ag 16) (.t 2) (.t 29)),oO 3 (.mv (kI 0))]) (.ret)))))),[(2,(some (.ag 16))),(3,none)]⟩
theorem Ww:aB Tryz.prog { own:=[],comp:=[],frz:=[],nils:=[] } Tryz.f67=some uw:=by kernel_rfl
theorem XJ (G:ah) (b:List UInt8) (hb:b.length≤9000000000000000000):au Tryz.prog G 67 [.sl (b.map bD)] (.tup [.c (.d (a9 (jL b))),.c (.d (.int .i64 (fD b)))]):=by
  refine aF Tryz.func67 Ww rfl rfl ?_;have c1:=Ws G b (by omega);by_cases h1:dz b=0
  ·obtain⟨e1,e2,e3⟩:=xe h1;have c2:=Ll G (b.drop 48) (by simp; omega);rw[h1,e2,e3] at c1;by_cases h2:cm (b.drop 48)=0
   ·have e4:jL b=⟨bQ b,aR (b.drop 48),[],false⟩:=if_pos (by rw[e1,h2]);rw[e4,e1,h2];rw[h2] at c2;clear e1 e2 e3 e4 h1 h2;generalize bQ b=q at *
    generalize b.drop 48=R at *
    generalize aR R=L at *
    unfold a9;unfold cc at c1;simp only[uw,af,ae,aa,seval,iteOmega,toNatUp];refine sD (c1) ?_;refine sD (c2) ?_;exact cM (by simp only[ae,aa,seval,iteOmega,toNatUp] <;> rfl) (by simp only[ae,aa,seval,iteOmega,toNatUp])
   ·have e4:jL b=dL:=if_neg (by rw[e1]; exact h2);have g:(cm (b.drop 48)=0)=False:=eq_false h2;rw[e4,e1];clear e1 e2 e3 e4 h1 h2;generalize cm (b.drop 48)=E at *
    generalize bQ b=q at *
    generalize b.drop 48=R at *
    generalize aR R=L at *
    unfold a9 dL Hd.z;unfold cc at c1;simp only[uw,af,ae,aa,seval,iteOmega,toNatUp];refine sD (c1) ?_;refine sC (c2) ?_;simp only[g,ae,aa,seval,iteOmega,toNatUp];exact cM (by simp only[ae,aa,seval,iteOmega,toNatUp] <;> rfl) (by simp only[ae,aa,seval,iteOmega,toNatUp])
  ·obtain⟨e1,e4⟩:=x7 h1;have g:(dz b=0)=False:=eq_false h1;rw[e4,e1];clear e1 e4 h1;generalize dz b=E at *
   generalize nc b=R at *
   generalize nb b=q at *
   unfold a9 dL Hd.z;unfold cc at c1;simp only[uw,af,ae,aa,seval,iteOmega,toNatUp];refine sC (c1) ?_;simp only[g,ae,aa,seval,iteOmega,toNatUp];exact cM (by simp only[ae,aa,seval,iteOmega,toNatUp] <;> rfl) (by simp only[ae,aa,seval,iteOmega,toNatUp])
def iV:aD:=⟨3,99,.seq (.reg [oO 4 (.box .roBox (.t 1)),oO 6 (.mv (.k (.c .nil))),oO 7 (.mv (kI 0))]) (.seq (.seq (.reg [oM 16 0,oO 17 (.len (.t 16)),oO 18 (.bin .neq (.t 17) (kI 32))]) (.cond (.t 18) (.seq (.reg [oO 6 (.mv (.k (.c .nil))),oO 7 (.mv (kI 5))]) (.ret)) (.skip))) (.seq (.seq (.reg [oM 19 2,oO 20 (.len (.t 19)),oO 21 (.bin .lss (.t 20) (kI 16)),oM 22 21,oG 23 (.mv (.t 2)) 22 false,oG 24 (.len (.t 23)) 22 false,oG 25 (.bin .gtr (.t 24) (kI 32)) 22 false,oO 26 (.pick (.t 22) (.k (.c (.d (.bool true)))) (.t 25))]) (.cond (.t 26) (.seq (.reg [oO 6 (.mv (.k (.c .nil))),oO 7 (.mv (kI 4))]) (.ret)) (.skip))) (.seq (.reg [oO 28 (.fieldAddr 0 (.t 4)),oO 29 (.load (.ag 13) (.t 28)),oO 30 (.call 58 [(.t 29)] none),oM 27 30,oO 31 (.extract (.t 27) 0),oO 32 (.extract (.t 27) 1),oM 8 31,
 oM 9 32]) (.seq (.seq (.reg [oM 33 9,oO 34 (.bin .neq (.t 33) (kI 0))]) (.cond (.t 34) (.seq (.reg [oM 35 9,oO 6 (.mv (.k (.c .nil))),oM 7 35]) (.ret)) (.skip))) (.seq (.reg [oO 37 (.fieldAddr 13 (.t 4)),oO 38 (.load .sc (.t 37)),oO 39 (.call 59 [(.t 38)] none),oM 36 39,oO 40 (.extract (.t 36) 0),oO 41 (.extract (.t 36) 1),oM 10 40,oM 9 41]) (.seq (.seq (.reg [oM 42 9,oO 43 (.bin .neq (.t 42) (kI 0))]) (.cond (.t 43) (.seq (.reg [oM 44 9,oO 6 (.mv (.k (.c .nil))),oM 7 44]) (.ret)) (.skip))) (.seq (.reg [oO 46 (.fieldAddr 14 (.t 4)),oO 47 (.load .sc (.t 46)),oO 48 (.call 59 [(.t 47)] none),oM 45 48,oO 49 (.extract (.t 45) 0),oO 50 (.extract (.t 45) 1),oM 11 49,oM 9 50]) (.seq (.seq (.reg [oM 51 9,oO 52 (.bin .neq (.t 51) (kI 0))]) (.cond (.t 52) (.seq (.reg [oM 53 9,oO 6 (.mv (.k (.c .nil))),
 oM 7 53]) (.ret)) (.skip))) (.seq (.seq (.reg [oO 54 (.fieldAddr 13 (.t 4)),oO 55 (.load .sc (.t 54)),oO 56 (.call 35 [(.t 55),(kI 1028)] none),oO 57 (.len (.t 56)),oO 58 (.bin .gtr (.t 57) (kI 0))]) (.cond (.t 58) (.seq (.reg [oO 6 (.mv (.k (.c .nil))),oO 7 (.mv (kI 3))]) (.ret)) (.skip))) (.seq (.seq (.reg [oO 59 (.fieldAddr 13 (.t 4)),oO 60 (.load .sc (.t 59)),oO 61 (.len (.t 60)),oO 62 (.bin .eql (.t 61) (kI 24))]) (.cond (.t 62) (.seq (.reg [oO 6 (.mv (.k (.c .nil))),oO 7 (.mv (kI 8))]) (.ret)) (.skip))) (.seq (.reg [oM 63 8,oM 64 10,oO 65 (.bldSl false 2 1 (.sl []) [(0,(.t 63)),(1,(.t 64))]),oO 66 (.call 41 [(.t 65)] none),oM 12 66]) (.seq (.reg [oM 68 0,oM 69 12,oM 70 2,oO 71 (.bldSl false 2 1 (.sl []) [(0,(.t 69)),(1,(.t 70))]),oM 72 11,oO 73 (.call 60 [(.t 68),(.t 71),(.t 72)] none),
 oM 67 73,oO 74 (.extract (.t 67) 0),oO 75 (.extract (.t 67) 1),oM 13 74,oM 14 75]) (.seq (.reg [oM 77 2,oM 78 13,oO 79 (.call 61 [(.t 77),(.t 78)] none),oO 80 (.build [(.d (.int .i64 0)),.nil] [(0,1,(kI 1028)),(1,1,(.t 79))]),oO 81 (.bldSl false 1 2 (.agg [(.int .i64 0),(.sl [])]) [(0,(.t 80))]),oO 82 (.call 59 [(.t 81)] none),oM 76 82,oO 83 (.extract (.t 76) 0),oO 84 (.extract (.t 76) 1),oM 15 83,oM 9 84]) (.seq (.seq (.reg [oM 85 9,oO 86 (.bin .neq (.t 85) (kI 0)),oM 87 86,oG 88 (.mv (.t 12)) 87 false,oG 89 (.len (.t 88)) 87 false,oG 90 (.mv (.t 15)) 87 false,oG 91 (.len (.t 90)) 87 false,oG 92 (.bin .add (.t 89) (.t 91)) 87 false,oG 93 (.bin .gtr (.t 92) (kI 1280)) 87 false,oO 94 (.pick (.t 87) (.k (.c (.d (.bool true)))) (.t 93))]) (.cond (.t 94) (.seq (.reg [oO 6 (.mv (.k (.c .nil))),
 oO 7 (.mv (kI 2))]) (.ret)) (.skip))) (.seq (.reg [oM 95 12,oM 96 15,oO 97 (.bldSl false 2 1 (.sl []) [(0,(.t 95)),(1,(.t 96))]),oO 98 (.call 41 [(.t 97)] (some (0,1))),oM 6 98,oO 7 (.mv (kI 0))]) (.ret)))))))))))))))),[(6,none),(7,none)]⟩
theorem T9:aB Tryz.prog { own:=[98],comp:=[],frz:=[],nils:=[] } Tryz.f28=some iV:=by kernel_rfl
theorem Wx (G:ah) (key:List UInt8) (p:cn) (n:List UInt8) (hk:key.length≤9223372036854775807) (hf:pv p.hd) (hl:p.pl.length≤1000000) (hl2:p.se.length≤1000000) (hn:n.length≤9223372036854775807):au Tryz.prog G 28 [.sl (key.map bD),a9 p,.sl (n.map bD)] (.tup [.c (.fr 1 ((fF key p n).map bD)),.c (.d (.int .i64 (dC key p n)))]):=by
  refine aF Tryz.func28 T9 rfl rfl ?_;have ca:=Wt G p.hd hf;have cb:=uu G p.pl hl;have c2:=uu G p.se hl2;have c3:=uv G p.pl 1028 hl;by_cases h1:key.length=32
  ·by_cases h2:16≤n.length∧n.length≤32
   ·by_cases h3:cB p=0
    ·have hXl:=zO h3;obtain⟨_,u2,u3⟩:=Mw h3;have hX:[d8 p.hd,be p.pl].flatten=bR p:=by simp[bR]
     have cu:=eo G [d8 p.hd,be p.pl] (by simp) (by rw[hX]; omega);rw[hX] at cu;simp only[Yp,Yv] at cu;rw[yO u2,u2] at ca;rw[(mV u3).2.2.2,u3] at cb;clear u2 u3 hX;by_cases h4:bI p.se=0
     ·obtain⟨_,_,s3,s4⟩:=mV h4;rw[h4,s4] at c2;by_cases h5:(aS p.pl 1028).length=0
      ·by_cases h6:p.pl.length=24
       ·have e:=MK (key:=key) (n:=n) h1 h2 h3 h4 h5 h6;rw[gE e (by decide),e];clear e h3 h4;generalize d8 p.hd=B1 at *
        generalize be p.pl=B2 at *
        generalize bR p=X at *
        generalize be p.se=Y at *
        generalize aS p.pl 1028=Z at *
        unfold a9 cc at *
        simp only[iV,af,ae,aa,seval,iteOmega,toNatUp,h1];refine sD (ca) ?_;refine sD (cb) ?_;refine sD (c2) ?_;refine sC (c3) ?_;simp only[h5,h6,ae,aa,seval,iteOmega,toNatUp];exact bw
       ·have e7:=ML (key:=key) (n:=n) h1 h2 h3 h4 h5 h6;have hae:bZ key [bR p,n] ((be p.se).length:Int)=0:=zH h1 (by omega) (by omega) (by rw[iB]; omega);have hsl:(dU key p n).length=16+bY p.se:=by unfold dU; rw[xT hae,Yr,lK,lM,iB]
        have c4:=Tj G key [bR p,n] (be p.se) hk (by simp) (fun x hx=>by simp at hx; rcases hx with rfl | rfl <;> omega) (by rw[iB]; omega);rw[hae,show jb key [bR p,n] (be p.se)=dU key p n from rfl] at c4;have c5:=Ln G n (dU key p n) (by omega) (by omega);have hgl:(cG n (dU key p n)).length≤4000:=by rw[mK]; omega
        have c6:=uu G [bS key p n] (by simp);have hgf:aJ (bS key p n)=.agg [.int .i64 1028,.sl ((cG n (dU key p n)).map bD)]:=rfl;rw[List.map_singleton,hgf] at c6;clear hgf;by_cases h7:bI [bS key p n]=0
        ·obtain⟨_,_,g3,g4⟩:=mV h7;rw[h7,g4] at c6;have hGl:=iB [bS key p n];rcases YE 1280 ((bR p).length+bY [bS key p n]) with h8 | h8
         ·have e:dC key p n=2:=by rw[e7,if_pos (.inr h8)]
          rw[gE e (by decide),e];rw[← hGl] at h8;have g8:(((bR p).length:Int)+((be [bS key p n]).length:Int)>1280)=True:=eq_true (by omega);clear e e7 h3 h4 h7 hae hsl;unfold cX at c4;simp only[Yp,Yv] at c4;generalize be [bS key p n]=W at *
          generalize cG n (dU key p n)=g at *
          generalize dU key p n=S at *
          generalize d8 p.hd=B1 at *
          generalize be p.pl=B2 at *
          generalize bR p=X at *
          generalize be p.se=Y at *
          generalize aS p.pl 1028=Z at *
          unfold a9 cc at *
          simp only[iV,af,ae,aa,seval,iteOmega,toNatUp,h1];refine sD (ca) ?_;refine sD (cb) ?_;refine sD (c2) ?_;refine sC (c3) ?_;simp only[h5,h6,ae,aa,seval,iteOmega,toNatUp];refine sD (cu) ?_;refine sD (c4) ?_;refine sD (c5) ?_;refine sC (c6) ?_;simp only[g8,ae,aa,seval,iteOmega,toNatUp];exact bw
         ·have e:dC key p n=0:=by rw[e7,if_neg (by omega)]
          have eB:fF key p n=bR p++be [bS key p n]:=if_pos e;have cj:=eo G [bR p,be [bS key p n]] (by simp) (by simp; omega);have hfl:[bR p,be [bS key p n]].flatten=fF key p n:=by rw[eB]; simp
          rw[hfl] at cj;simp only[Yp,Yv] at cj;rw[e];rw[← hGl] at h8;have g8:(((bR p).length:Int)+((be [bS key p n]).length:Int)>1280)=False:=eq_false (by omega);clear e e7 h3 h4 h7 hae hsl eB hfl;unfold cX at c4;simp only[Yp,Yv] at c4;generalize fF key p n=V at *
          generalize be [bS key p n]=W at *
          generalize cG n (dU key p n)=g at *
          generalize dU key p n=S at *
          generalize d8 p.hd=B1 at *
          generalize be p.pl=B2 at *
          generalize bR p=X at *
          generalize be p.se=Y at *
          generalize aS p.pl 1028=Z at *
          unfold a9 cc at *
          simp only[iV,af,ae,aa,seval,iteOmega,toNatUp,h1];refine sD (ca) ?_;refine sD (cb) ?_;refine sD (c2) ?_;refine sC (c3) ?_;simp only[h5,h6,ae,aa,seval,iteOmega,toNatUp];refine sD (cu) ?_;refine sD (c4) ?_;refine sD (c5) ?_;refine sC (c6) ?_;simp only[g8,ae,aa,seval,iteOmega,toNatUp];refine sD (cj) ?_;exact bw
        ·have e:dC key p n=2:=by rw[e7,if_pos (.inl h7)]
         rw[gE e (by decide),e];have g7:(bI [bS key p n]=0)=False:=eq_false h7;clear e e7 h3 h4 h7 hae hsl;unfold cX at c4;simp only[Yp,Yv] at c4;generalize bI [bS key p n]=E at *
         generalize dK [bS key p n]=W at *
         generalize cG n (dU key p n)=g at *
         generalize dU key p n=S at *
         generalize d8 p.hd=B1 at *
         generalize be p.pl=B2 at *
         generalize bR p=X at *
         generalize be p.se=Y at *
         generalize aS p.pl 1028=Z at *
         unfold a9 cc at *
         simp only[iV,af,ae,aa,seval,iteOmega,toNatUp,h1];refine sD (ca) ?_;refine sD (cb) ?_;refine sD (c2) ?_;refine sC (c3) ?_;simp only[h5,h6,ae,aa,seval,iteOmega,toNatUp];refine sD (cu) ?_;refine sD (c4) ?_;refine sD (c5) ?_;refine sC (c6) ?_;simp only[g7,ae,aa,seval,iteOmega,toNatUp];exact bw
      ·have e:=MJ (key:=key) (n:=n) h1 h2 h3 h4 h5;rw[gE e (by decide),e];clear e h3 h4;generalize d8 p.hd=B1 at *
       generalize be p.pl=B2 at *
       generalize bR p=X at *
       generalize be p.se=Y at *
       generalize aS p.pl 1028=Z at *
       unfold a9 cc at *
       simp only[iV,af,ae,aa,seval,iteOmega,toNatUp,h1];refine sD (ca) ?_;refine sD (cb) ?_;refine sD (c2) ?_;refine sD (c3) ?_;exact bw
     ·have e:=MI (key:=key) (n:=n) h1 h2 h3 h4;rw[gE e h4,e];have g4:(bI p.se=0)=False:=eq_false h4;clear e h3 h4;generalize d8 p.hd=B1 at *
      generalize be p.pl=B2 at *
      generalize bR p=X at *
      generalize bI p.se=E at *
      generalize dK p.se=Y at *
      unfold a9 cc at *
      simp only[iV,af,ae,aa,seval,iteOmega,toNatUp,h1];refine sD (ca) ?_;refine sD (cb) ?_;refine sC (c2) ?_;simp only[g4,ae,aa,seval,iteOmega,toNatUp];exact bw
    ·have e:=MH (key:=key) (n:=n) h1 h2 h3;rw[gE e h3,e];have g3:(cB p=0)=False:=eq_false h3;by_cases h8:d9 p.hd=0
     ·rw[yO h8,h8] at ca;rw[show bI p.pl=cB p from (uq h8).symm] at cb;clear e h3 h8;generalize cB p=E at *
      generalize d8 p.hd=B1 at *
      generalize dK p.pl=B2 at *
      unfold a9 cc at *
      simp only[iV,af,ae,aa,seval,iteOmega,toNatUp,h1];refine sD (ca) ?_;refine sC (cb) ?_;simp only[g3,ae,aa,seval,iteOmega,toNatUp];exact bw
     ·rw[show d9 p.hd=cB p from (zN h8).symm] at ca;clear e h3 h8;generalize cB p=E at *
      generalize na p.hd=B1 at *
      unfold a9 cc at *
      simp only[iV,af,ae,aa,seval,iteOmega,toNatUp,h1];refine sC (ca) ?_;simp only[g3,ae,aa,seval,iteOmega,toNatUp];exact bw
   ·have e:=MG (key:=key) (p:=p) (n:=n) h1 (by omega);rw[gE e (by decide),e];unfold a9;by_cases h3:(n.length:Int)<16
    ·simp only[iV,af,ae,aa,seval,iteOmega,toNatUp,h1];exact bw
    ·have g3:((n.length:Int)>32)=True:=eq_true (by omega);simp only[iV,af,ae,aa,seval,iteOmega,toNatUp,h1,g3];exact bw
  ·have e:=MF (key:=key) (p:=p) (n:=n) h1;rw[gE e (by decide),e];unfold a9;simp only[iV,af,ae,aa,seval,iteOmega,toNatUp];exact bw
theorem XK (n:Nat):Int.tdiv ((n:Int)+3) 4=(((n+3) / 4:Nat):Int):=by
  rw[Int.tdiv_eq_ediv_of_nonneg (by omega)]; omega
theorem Wy {n s:List UInt8} (h1:16≤n.length) (h:(cG n s).length≤1231):bI [dB n s]=0∧(dK [dB n s]).drop 4=cG n s∧(dK [dB n s]).length=4+(cG n s).length:=by
  have hl:=mK n s;have hT:=u6 (n:=n) (s:=s) (by omega);have ht:bY [dB n s]=bu (dB n s):=by simp[bY]
  have h0:bI [dB n s]=0:=zG (fun f hf=>by rw[YA.1 hf]; exact Mv (by omega) (by omega)) (by simp) (by rw[ht,hT]; omega);have hB:dK [dB n s]=be [dB n s]:=if_pos h0;refine⟨h0,?_,by rw[hB,iB,ht,hT]⟩;have hx:be [dB n s]=(aI 1028 2++aI (bu (dB n s)) 2)++cG n s:=by
    show iy (dB n s)++[]=_
    unfold iy;rw[hT];have:(dB n s).da=cG n s:=rfl;rw[this,show 4+(cG n s).length-4-(cG n s).length=0 by omega,ZD];simp[dB]
  rw[hB,hx];exact List.drop_left' (by simp[dD])
def mM:aD:=⟨1,72,.seq (.reg [oO 2 (.mv (.k (.c .nil))),oO 3 (.mv (.k (.c .nil))),oO 4 (.mv (.k (.c (.d (.bool false)))))]) (.seq (.seq (.reg [oM 12 0,oO 13 (.len (.t 12)),oO 14 (.bin .lss (.t 13) (kI 4))]) (.cond (.t 14) (.seq (.reg [oO 2 (.mv (.k (.c .nil))),oO 3 (.mv (.k (.c .nil))),oO 4 (.mv (.k (.c (.d (.bool false)))))]) (.ret)) (.skip))) (.seq (.reg [oM 15 0,oO 16 (.slice 1 (.t 15) none (some (kI 2)) none),oO 17 (.call 100 [(.t 16)] none),oO 18 (.conv .i64 (.t 17)),oM 19 0,oO 20 (.slice 1 (.t 19) (some (kI 2)) (some (kI 4)) none),oO 21 (.call 100 [(.t 20)] none),oO 22 (.conv .i64 (.t 21)),oM 5 18,oM 6 22]) (.seq (.reg [oM 23 5,oO 24 (.bin .add (.t 23) (kI 3)),oO 25 (.bin .quo (.t 24) (kI 4)),oO 26 (.bin .mul (.t 25) (kI 4)),oO 27 (.bin .add (kI 4) (.t 26)),oM 7 27]) (.seq (.seq (.reg [oM 28 5,
 oO 29 (.bin .lss (.t 28) (kI 16)),oM 30 29,oG 31 (.mv (.t 5)) 30 false,oG 32 (.bin .gtr (.t 31) (kI 32)) 30 false,oO 33 (.pick (.t 30) (.k (.c (.d (.bool true)))) (.t 32)),oM 34 33,oG 35 (.mv (.t 7)) 34 false,oG 36 (.mv (.t 6)) 34 false,oG 37 (.bin .add (.t 35) (.t 36)) 34 false,oG 38 (.mv (.t 0)) 34 false,oG 39 (.len (.t 38)) 34 false,oG 40 (.bin .gtr (.t 37) (.t 39)) 34 false,oO 41 (.pick (.t 34) (.k (.c (.d (.bool true)))) (.t 40))]) (.cond (.t 41) (.seq (.reg [oO 2 (.mv (.k (.c .nil))),oO 3 (.mv (.k (.c .nil))),oO 4 (.mv (.k (.c (.d (.bool false)))))]) (.ret)) (.skip))) (.seq (.reg [oM 42 0,oM 43 5,oO 44 (.bin .add (kI 4) (.t 43)),oO 45 (.slice 1 (.t 42) (some (kI 4)) (some (.t 44)) none),oM 46 0,oM 47 7,oM 48 7,oM 49 6,oO 50 (.bin .add (.t 48) (.t 49)),oO 51 (.slice 1 (.t 46) (some (.t 47)) (some (.t 50)) none),
 oM 8 45,oM 9 51]) (.seq (.reg [oM 53 8,oM 54 9,oO 55 (.call 61 [(.t 53),(.t 54)] none),oO 56 (.build [(.d (.int .i64 0)),.nil] [(0,1,(kI 1028)),(1,1,(.t 55))]),oO 57 (.bldSl false 1 2 (.agg [(.int .i64 0),(.sl [])]) [(0,(.t 56))]),oO 58 (.call 59 [(.t 57)] none),oM 52 58,oO 59 (.extract (.t 52) 0),oO 60 (.extract (.t 52) 1),oM 10 59,oM 11 60]) (.seq (.seq (.reg [oM 61 11,oO 62 (.bin .neq (.t 61) (kI 0)),oM 63 62,oG 64 (.mv (.t 10)) 63 false,oG 65 (.slice 1 (.t 64) (some (kI 4)) none none) 63 false,oG 66 (.mv (.t 0)) 63 false,oG 67 (.call 12 [(.t 65),(.t 66)] none) 63 false,oG 68 (.un .not (.t 67)) 63 false,oO 69 (.pick (.t 63) (.k (.c (.d (.bool true)))) (.t 68))]) (.cond (.t 69) (.seq (.reg [oO 2 (.mv (.k (.c .nil))),oO 3 (.mv (.k (.c .nil))),oO 4 (.mv (.k (.c (.d (.bool false)))))]) (.ret))
 (.skip))) (.seq (.reg [oM 70 8,oM 71 9,oM 2 70,oM 3 71,oO 4 (.mv (.k (.c (.d (.bool true)))))]) (.ret))))))))),[(2,none),(3,none),(4,none)]⟩
theorem Ua:aB Tryz.prog { own:=[],comp:=[],frz:=[],nils:=[] } Tryz.f68=some mM:=by kernel_rfl
theorem Wz (G:ah) (d:List UInt8) (hd:d.length≤1228):au Tryz.prog G 68 [.sl (d.map bD)] (.tup [.c (.d (.sl ((lC d).map bD))),.c (.d (.sl ((lD d).map bD))),.c (.d (.bool (decide (dV d))))]):=by
  refine aF Tryz.func68 Ua rfl rfl ?_;unfold lC lD;rcases YE d.length 4 with h4 | h4
  ·have hno:¬ dV d:=fun h=>by have:=h.1; omega
   rw[if_neg hno,if_neg hno,decide_eq_false hno];simp only[mM,af,ae,aa,seval,iteOmega,toNatUp];exact fq (by simp only[ae,aa,seval,iteOmega,toNatUp] <;> rfl) (by simp only[ae,aa,seval,iteOmega,toNatUp] <;> rfl) (by simp only[ae,aa,seval,iteOmega,toNatUp])
  ·have t1:d.take 2=aO d 0 2:=rfl;have t2:(d.drop 2).take (4-2)=aO d 2 2:=rfl;have c2:=jB G (aO d 0 2) (by rw[cS (by omega)]; decide);have c3:=jB G (aO d 2 2) (by rw[cS (by omega)]; decide);have b1:=(ie 2 (aO d 0 2) (cS (by omega)) (by decide)).1;have b2:=(ie 2 (aO d 2 2) (cS (by omega)) (by decide)).1;rw[show aZ (aO d 0 2)=bN d from rfl] at c2 b1;rw[show aZ (aO d 2 2)=eH d from rfl] at c3 b2;have td:=XK (bN d);have hF:4+(((bN d+3) / 4:Nat):Int)*4=(dr d:Int):=by unfold dr; omega
   have hpf:dr d=4+(bN d+3) / 4*4:=rfl;by_cases h6:16≤bN d∧bN d≤32∧dr d+eH d≤d.length
   ·obtain⟨h6,h7,h8⟩:=h6;have h9:4+bN d≤d.length:=by omega
    have e1:(d.drop 4).take (4+bN d-4)=br d:=by rw[Ze]; rfl
    have e2:(d.drop (dr d)).take (dr d+eH d-dr d)=bL d:=by rw[Ze]; rfl
    have hlB:(br d).length=bN d:=cS (by omega);have hlS:(bL d).length=eH d:=cS (by omega);have c8:=Ln G (br d) (bL d) (by omega) (by omega);have hgl:=mK (br d) (bL d);obtain⟨w1,w2,w3⟩:=Wy (n:=br d) (s:=bL d) (by omega) (by omega);have c9:=uu G [dB (br d) (bL d)] (by simp);rw[w1,List.map_singleton] at c9;have hgf:aJ (dB (br d) (bL d))=.agg [.int .i64 1028,.sl ((cG (br d) (bL d)).map bD)]:=rfl;rw[hgf] at c9;have w4:((dK [dB (br d) (bL d)]).drop 4).take ((dK [dB (br d) (bL d)]).length-4)=cG (br d) (bL d):=by rw[w2,w3]; exact Yo (by omega)
    have cA:=jq G (cG (br d) (bL d)) d;clear hgf w1 w2 hgl;have hB:4≤(dK [dB (br d) (bL d)]).length:=by omega
    have hB2:(dK [dB (br d) (bL d)]).length≤2000:=by rw[w3,mK]; omega
    clear w3;generalize dK [dB (br d) (bL d)]=W at *
    by_cases hq:cG (br d) (bL d)=d
    ·have hok:dV d:=⟨h4,h6,h7,h8,hq⟩
     rw[if_pos hok,if_pos hok,decide_eq_true hok];clear hok;rw[hq,beq_self_eq_true] at cA;rw[hq] at c8 c9 w4;clear hq;generalize bL d=B5 at *
     generalize br d=B3 at *
     generalize (bN d+3) / 4=q at *
     generalize dr d=F at *
     generalize bN d=n at *
     generalize eH d=m at *
     simp only[mM,af,ae,aa,seval,iteOmega,toNatUp];refine sC (c2) ?_;simp only[t2,ae,aa,seval,iteOmega,toNatUp];refine sC (c3) ?_;simp only[td,hF,e1,e2,ae,aa,seval,iteOmega,toNatUp];refine sD (c8) ?_;refine sC (c9) ?_;simp only[w4,ae,aa,seval,iteOmega,toNatUp];refine sD (cA) ?_;exact bP
    ·have hno:¬ dV d:=fun h=>hq h.2.2.2.2
     rw[if_neg hno,if_neg hno,decide_eq_false hno];clear hno;have e9:(cG (br d) (bL d)==d)=false:=by simpa using hq
     rw[e9] at cA;clear hq e9;generalize cG (br d) (bL d)=B6 at *
     generalize bL d=B5 at *
     generalize br d=B3 at *
     generalize (bN d+3) / 4=q at *
     generalize dr d=F at *
     generalize bN d=n at *
     generalize eH d=m at *
     simp only[mM,af,ae,aa,seval,iteOmega,toNatUp];refine sC (c2) ?_;simp only[t2,ae,aa,seval,iteOmega,toNatUp];refine sC (c3) ?_;simp only[td,hF,e1,e2,ae,aa,seval,iteOmega,toNatUp];refine sD (c8) ?_;refine sC (c9) ?_;simp only[w4,ae,aa,seval,iteOmega,toNatUp];refine sD (cA) ?_;exact fq (by simp only[ae,aa,seval,iteOmega,toNatUp] <;> rfl) (by simp only[ae,aa,seval,iteOmega,toNatUp] <;> rfl) (by simp only[ae,aa,seval,iteOmega,toNatUp])
   ·have hno:¬ dV d:=fun h=>h6 ⟨h.2.1,h.2.2.1,h.2.2.2.1⟩
    rw[if_neg hno,if_neg hno,decide_eq_false hno];clear hno;have hq:(bN d+3) / 4≤20000:=by omega
    rcases YE (bN d) 16 with k1 | k1
    ·clear h6 hpf;generalize (bN d+3) / 4=q at *
     generalize dr d=F at *
     generalize bN d=n at *
     generalize eH d=m at *
     simp only[mM,af,ae,aa,seval,iteOmega,toNatUp];refine sC (c2) ?_;simp only[t2,ae,aa,seval,iteOmega,toNatUp];refine sC (c3) ?_;simp only[td,hF,ae,aa,seval,iteOmega,toNatUp];exact fq (by simp only[ae,aa,seval,iteOmega,toNatUp] <;> rfl) (by simp only[ae,aa,seval,iteOmega,toNatUp] <;> rfl) (by simp only[ae,aa,seval,iteOmega,toNatUp])
    ·rcases YE 32 (bN d) with k2 | k2
     ·have g2:((bN d:Int)>32)=True:=eq_true (by omega);clear h6 hpf;generalize (bN d+3) / 4=q at *
      generalize dr d=F at *
      generalize bN d=n at *
      generalize eH d=m at *
      simp only[mM,af,ae,aa,seval,iteOmega,toNatUp];refine sC (c2) ?_;simp only[t2,ae,aa,seval,iteOmega,toNatUp];refine sC (c3) ?_;simp only[td,hF,g2,ae,aa,seval,iteOmega,toNatUp];exact fq (by simp only[ae,aa,seval,iteOmega,toNatUp] <;> rfl) (by simp only[ae,aa,seval,iteOmega,toNatUp] <;> rfl) (by simp only[ae,aa,seval,iteOmega,toNatUp])
     ·have g2:((bN d:Int)>32)=False:=eq_false (by omega);have g3:((dr d:Int)+(eH d:Int)>(d.length:Int))=True:=eq_true (by omega);have k3:dr d≤100:=by omega
      clear h6 hpf;generalize (bN d+3) / 4=q at *
      generalize dr d=F at *
      generalize bN d=n at *
      generalize eH d=m at *
      simp only[mM,af,ae,aa,seval,iteOmega,toNatUp];refine sC (c2) ?_;simp only[t2,ae,aa,seval,iteOmega,toNatUp];refine sC (c3) ?_;simp only[td,hF,g2,g3,ae,aa,seval,iteOmega,toNatUp];exact fq (by simp only[ae,aa,seval,iteOmega,toNatUp] <;> rfl) (by simp only[ae,aa,seval,iteOmega,toNatUp] <;> rfl) (by simp only[ae,aa,seval,iteOmega,toNatUp])
theorem Rm {r:List UInt8} {f:Fd} (h:f∈aR r) (he:cm r=0):f.da.length≤1228:=by
  obtain⟨h1,h2,h3,h4⟩:=Mu he;have e1:aR r=dT r (cQ r):=by unfold aR; rw[if_pos he,h3]
  rw[e1] at h;obtain⟨i,hi,rfl⟩:=YN.1 h;have:=qK ((mJ r).2.2 i (List.mem_range.1 hi));unfold vM aO; simp; omega
def kM:aD:=⟨2,106,.seq (.reg [oO 4 (.alloc [(.d (.int .i64 0)),(.d (.int .i64 0)),(.d (.int .i64 0)),(.d (.int .i64 0)),(.d (.int .i64 0)),(.d (.int .i64 0)),(.d (.int .u32 0)),(.d (.int .u32 0)),(.d (.int .u32 0)),(.d (.int .u64 0)),(.d (.int .u64 0)),(.d (.int .u64 0)),(.d (.int .u64 0)),.nil,.nil,(.d (.bool false))]),oO 5 (.mv (kI 0))]) (.seq (.seq (.reg [oM 16 0,oO 17 (.len (.t 16)),oO 18 (.bin .neq (.t 17) (kI 32))]) (.cond (.t 18) (.seq (.reg [oO 19 (.build [(.d (.int .i64 0)),(.d (.int .i64 0)),(.d (.int .i64 0)),(.d (.int .i64 0)),(.d (.int .i64 0)),(.d (.int .i64 0)),(.d (.int .u32 0)),(.d (.int .u32 0)),(.d (.int .u32 0)),(.d (.int .u64 0)),(.d (.int .u64 0)),(.d (.int .u64 0)),(.d (.int .u64 0)),.nil,.nil,(.d (.bool false))] []),oN (.store (.ag 16) (.t 4) (.t 19)),oO 5 (.mv (kI 5))])
 (.ret)) (.skip))) (.seq (.reg [oM 21 1,oO 22 (.call 67 [(.t 21)] none),oM 20 22,oO 23 (.extract (.t 20) 0),oO 24 (.extract (.t 20) 1),oO 6 (.alloc [(.d (.int .i64 0)),(.d (.int .i64 0)),(.d (.int .i64 0)),(.d (.int .i64 0)),(.d (.int .i64 0)),(.d (.int .i64 0)),(.d (.int .u32 0)),(.d (.int .u32 0)),(.d (.int .u32 0)),(.d (.int .u64 0)),(.d (.int .u64 0)),(.d (.int .u64 0)),(.d (.int .u64 0)),.nil,.nil,(.d (.bool false))]),oN (.store (.ag 16) (.t 6) (.t 23)),oM 7 24]) (.seq (.seq (.reg [oM 25 7,oO 26 (.bin .neq (.t 25) (kI 0))]) (.cond (.t 26) (.seq (.reg [oO 27 (.build [(.d (.int .i64 0)),(.d (.int .i64 0)),(.d (.int .i64 0)),(.d (.int .i64 0)),(.d (.int .i64 0)),(.d (.int .i64 0)),(.d (.int .u32 0)),(.d (.int .u32 0)),(.d (.int .u32 0)),(.d (.int .u64 0)),(.d (.int .u64 0)),(.d (.int .u64 0)),(.d (.int .u64 0)),.nil,.nil,(.d (.bool false))] []),
 oM 28 7,oN (.store (.ag 16) (.t 4) (.t 27)),oM 5 28]) (.ret)) (.skip))) (.seq (.reg [oO 29 (.fieldAddr 13 (.t 6)),oO 30 (.load .sc (.t 29)),oO 31 (.call 35 [(.t 30),(kI 1028)] none),oM 8 31]) (.seq (.seq (.reg [oM 32 8,oO 33 (.len (.t 32)),oO 34 (.bin .eql (.t 33) (kI 0))]) (.cond (.t 34) (.seq (.reg [oO 35 (.build [(.d (.int .i64 0)),(.d (.int .i64 0)),(.d (.int .i64 0)),(.d (.int .i64 0)),(.d (.int .i64 0)),(.d (.int .i64 0)),(.d (.int .u32 0)),(.d (.int .u32 0)),(.d (.int .u32 0)),(.d (.int .u64 0)),(.d (.int .u64 0)),(.d (.int .u64 0)),(.d (.int .u64 0)),.nil,.nil,(.d (.bool false))] []),oN (.store (.ag 16) (.t 4) (.t 35)),oO 5 (.mv (kI 10))]) (.ret)) (.skip))) (.seq (.seq (.reg [oM 36 8,oO 37 (.idxSl 1 (.t 36) (kI 0)),oO 38 (.load .sc (.t 37)),oO 39 (.fieldAddr 13 (.t 6)),oO 40 (.load .sc (.t 39)),
 oO 41 (.len (.t 40)),oO 42 (.bin .sub (.t 41) (kI 1)),oO 43 (.bin .neq (.t 38) (.t 42))]) (.cond (.t 43) (.seq (.reg [oO 44 (.build [(.d (.int .i64 0)),(.d (.int .i64 0)),(.d (.int .i64 0)),(.d (.int .i64 0)),(.d (.int .i64 0)),(.d (.int .i64 0)),(.d (.int .u32 0)),(.d (.int .u32 0)),(.d (.int .u32 0)),(.d (.int .u64 0)),(.d (.int .u64 0)),(.d (.int .u64 0)),(.d (.int .u64 0)),.nil,.nil,(.d (.bool false))] []),oN (.store (.ag 16) (.t 4) (.t 44)),oO 5 (.mv (kI 3))]) (.ret)) (.skip))) (.seq (.reg [oO 46 (.fieldAddr 13 (.t 6)),oO 47 (.load .sc (.t 46)),oM 48 8,oO 49 (.idxSl 1 (.t 48) (kI 0)),oO 50 (.load .sc (.t 49)),oO 51 (.idxSl 2 (.t 47) (.t 50)),oO 52 (.fieldAddr 1 (.t 51)),oO 53 (.load .sc (.t 52)),oO 54 (.call 68 [(.t 53)] none),oM 45 54,oO 55 (.extract (.t 45) 0),oO 56 (.extract (.t 45) 1),
 oO 57 (.extract (.t 45) 2),oM 9 55,oM 10 56,oM 11 57]) (.seq (.seq (.reg [oM 58 11,oO 59 (.un .not (.t 58))]) (.cond (.t 59) (.seq (.reg [oO 60 (.build [(.d (.int .i64 0)),(.d (.int .i64 0)),(.d (.int .i64 0)),(.d (.int .i64 0)),(.d (.int .i64 0)),(.d (.int .i64 0)),(.d (.int .u32 0)),(.d (.int .u32 0)),(.d (.int .u32 0)),(.d (.int .u64 0)),(.d (.int .u64 0)),(.d (.int .u64 0)),(.d (.int .u64 0)),.nil,.nil,(.d (.bool false))] []),oN (.store (.ag 16) (.t 4) (.t 60)),oO 5 (.mv (kI 3))]) (.ret)) (.skip))) (.seq (.reg [oM 62 1,oO 63 (.slice 1 (.t 62) (some (kI 48)) none none),oO 64 (.call 69 [(.t 63)] none),oM 61 64,oO 65 (.extract (.t 61) 0),oO 66 (.extract (.t 61) 1),oM 12 65,oM 13 66]) (.seq (.reg [oM 68 0,oM 69 1,oM 70 12,oM 71 8,oO 72 (.idxSl 1 (.t 71) (kI 0)),oO 73 (.load .sc (.t 72)),oO 74 (.idxSl 1 (.t 70) (.t 73)),
 oO 75 (.load .sc (.t 74)),oO 76 (.bin .add (kI 48) (.t 75)),oO 77 (.slice 1 (.t 69) none (some (.t 76)) none),oM 78 9,oO 79 (.bldSl false 2 1 (.sl []) [(0,(.t 77)),(1,(.t 78))]),oM 80 10,oO 81 (.call 70 [(.t 68),(.t 79),(.t 80)] none),oM 67 81,oO 82 (.extract (.t 67) 0),oO 83 (.extract (.t 67) 1),oM 14 82,oM 7 83]) (.seq (.seq (.reg [oM 84 7,oO 85 (.bin .neq (.t 84) (kI 0))]) (.cond (.t 85) (.seq (.reg [oO 86 (.build [(.d (.int .i64 0)),(.d (.int .i64 0)),(.d (.int .i64 0)),(.d (.int .i64 0)),(.d (.int .i64 0)),(.d (.int .i64 0)),(.d (.int .u32 0)),(.d (.int .u32 0)),(.d (.int .u32 0)),(.d (.int .u64 0)),(.d (.int .u64 0)),(.d (.int .u64 0)),(.d (.int .u64 0)),.nil,.nil,(.d (.bool false))] []),oN (.store (.ag 16) (.t 4) (.t 86)),oO 5 (.mv (kI 6))]) (.ret)) (.skip))) (.seq (.reg [oM 88 14,
 oO 89 (.call 71 [(.t 88)] none),oM 87 89,oO 90 (.extract (.t 87) 0),oO 91 (.extract (.t 87) 1),oM 15 90,oM 7 91]) (.seq (.seq (.reg [oM 92 7,oO 93 (.bin .neq (.t 92) (kI 0))]) (.cond (.t 93) (.seq (.reg [oO 94 (.build [(.d (.int .i64 0)),(.d (.int .i64 0)),(.d (.int .i64 0)),(.d (.int .i64 0)),(.d (.int .i64 0)),(.d (.int .i64 0)),(.d (.int .u32 0)),(.d (.int .u32 0)),(.d (.int .u32 0)),(.d (.int .u64 0)),(.d (.int .u64 0)),(.d (.int .u64 0)),(.d (.int .u64 0)),.nil,.nil,(.d (.bool false))] []),oM 95 7,oN (.store (.ag 16) (.t 4) (.t 94)),oM 5 95]) (.ret)) (.skip))) (.seq (.reg [oO 96 (.fieldAddr 0 (.t 6)),oO 97 (.load (.ag 13) (.t 96)),oO 98 (.fieldAddr 13 (.t 6)),oO 99 (.load .sc (.t 98)),oM 100 8,oO 101 (.idxSl 1 (.t 100) (kI 0)),oO 102 (.load .sc (.t 101)),oO 103 (.slice 2 (.t 99) none (some (.t 102)) none),
 oM 104 15,oO 105 (.build [(.d (.int .i64 0)),(.d (.int .i64 0)),(.d (.int .i64 0)),(.d (.int .i64 0)),(.d (.int .i64 0)),(.d (.int .i64 0)),(.d (.int .u32 0)),(.d (.int .u32 0)),(.d (.int .u32 0)),(.d (.int .u64 0)),(.d (.int .u64 0)),(.d (.int .u64 0)),(.d (.int .u64 0)),.nil,.nil,(.d (.bool false))] [(0,13,(.t 97)),(13,1,(.t 103)),(14,1,(.t 104)),(15,1,(.k (.c (.d (.bool true)))))]),oN (.store (.ag 16) (.t 4) (.t 105)),oO 5 (.mv (kI 0))]) (.ret))))))))))))))),[(4,(some (.ag 16))),(5,none)]⟩
theorem Rn:aB Tryz.prog { own:=[],comp:=[],frz:=[],nils:=[] } Tryz.f34=some kM:=by kernel_rfl
theorem Ub (G:ah) (key b:List UInt8) (hk:key.length≤9223372036854775807) (hb:b.length≤9000000000000000000):au Tryz.prog G 34 [.sl (key.map bD),.sl (b.map bD)] (.tup [.c (.d (a9 (ee key b))),.c (.d (.int .i64 (fo key b)))]):=by
  refine aF Tryz.func34 Rn rfl rfl ?_;have c1:=XJ G b hb;by_cases h1:key.length=32
  ·by_cases h2:fD b=0
   ·obtain⟨d1,d2,d3,d4,d5⟩:=Lf h2;rw[h2,d5] at c1;have hRl:(b.drop 48).length=b.length-48:=by simp
    have c2:=uv G (aR (b.drop 48)) 1028 (by have:=@nU (b.drop 48); omega);by_cases h3:(aS (aR (b.drop 48)) 1028).length=0
    ·have e:=MO h1 h2 h3;rw[ik e (by decide),e];clear e d1 d2 d5 h2;generalize aS (aR (b.drop 48)) 1028=Z at *
     generalize aR (b.drop 48)=L at *
     generalize bQ b=q at *
     unfold a9 dL Hd.z at *
     simp only[kM,af,ae,aa,seval,iteOmega,toNatUp,h1];refine sD (c1) ?_;refine sC (c2) ?_;simp only[h3,ae,aa,seval,iteOmega,toNatUp];exact cM (by simp only[ae,aa,seval,iteOmega,toNatUp] <;> rfl) (by simp only[ae,aa,seval,iteOmega,toNatUp])
    ·obtain⟨i,hi,i2,i3⟩:=F9 h3;have hLl:=@nU (b.drop 48);have gi:=iv hi;have hdl:=IG (nI hi);have c3:=Wz G ((aR (b.drop 48)).getD i default).da (Rm (nI hi) d2);have hz3:((aS (aR (b.drop 48)) 1028).length:Int)≠0:=by omega
     have hz3':(((aS (aR (b.drop 48)) 1028).length:Int)=0)=False:=eq_false hz3;have hz4:(0:Int)<((aS (aR (b.drop 48)) 1028).length:Int):=by omega
     by_cases h4:i=bW b
     ·have hL1:(bW b:Int)=((aR (b.drop 48)).length:Int)-1:=by unfold bW; omega
      rw[h4] at i2 i3 gi c3 hdl hi;have hfd:((aR (b.drop 48)).getD (bW b) default).da=bJ b:=rfl;rw[hfd] at c3 hdl;by_cases h5:dV (bJ b)
      ·obtain⟨p1,p2⟩:=Lh h5;obtain⟨q1,q2⟩:=MQ h5;have hgl:(bJ b).length≤1280:=by
         omega
       obtain⟨x1,x2⟩:=Lg d2 hi;have x3:(bW b:Int)<((fQ (b.drop 48)).length:Int):=by
         have:=(YH.1 x1).1;omega
       have c4:=Wv G (b.drop 48) (by omega);rw[d2] at c4;have hAl:(fG b).length≤1280:=by unfold fG; simp; omega
       have c5:=Vx G key [fG b,br (bJ b)] (bL (bJ b)) hk (by simp) (fun x hx=>by simp at hx; rcases hx with rfl | rfl <;> omega) (by omega);rw[show fM key [fG b,br (bJ b)] (bL (bJ b))=kF key b from rfl,show gJ key [fG b,br (bJ b)] (bL (bJ b))=dW key b from rfl] at c5;have hVl:(dW key b).length≤1280:=by
         have:(dW key b).length≤(bL (bJ b)).length:=Ga;omega
       have c6:=Ll G (dW key b) (by omega);have e5:=MP h1 h2 h3 i2 h5;rw[p1,p2,decide_eq_true h5] at c3;have hcut:b.take (48+aE (b.drop 48) (bW b))=fG b:=rfl;unfold cX at c5;simp only[Yp,Yv] at c5;have hdr:(b.drop 48).take (b.length-48)=b.drop 48:=Yo (by omega);by_cases h6:kF key b=0
       ·rw[if_neg (by simp[h6])] at e5;rw[h6] at c5;by_cases h7:cm (dW key b)=0
        ·rw[h7] at e5 c6;have eP:ee key b=⟨bQ b,(aR (b.drop 48)).take (bW b),aR (dW key b),true⟩:=if_pos e5;rw[eP,e5];have az:=mA (aR (b.drop 48));have hle:(bW b≤(aR (b.drop 48)).length)=True:=eq_true (by omega);clear eP e5 d1 d2 d5 h2 h7 h6 p1 p2 h5 q1 q2 hgl h4 hz3;generalize hZ:aS (aR (b.drop 48)) 1028=Z at *
         generalize aE (b.drop 48) (bW b)=pp at *
         generalize fQ (b.drop 48)=PL at *
         generalize dW key b=V at *
         generalize fG b=A at *
         generalize br (bJ b)=n at *
         generalize bL (bJ b)=s at *
         generalize bJ b=GG at *
         generalize bW b=last at *
         generalize bQ b=q at *
         generalize aR V=LV at *
         generalize aR (b.drop 48)=L at *
         generalize L.getD last default=gf at *
         unfold a9 aJ at *
         simp only[kM,af,ae,aa,seval,iteOmega,toNatUp,h1];refine sD (c1) ?_;refine sC (c2) ?_;simp only[hz3',aC,i3,zD,← hL1,gi,aJ,hfd,ae,aa,seval,iteOmega,toNatUp];refine sC (c3) ?_;simp only[aC,i3,zD,← hL1,hdr,ae,aa,seval,iteOmega,toNatUp];refine sC (c4) ?_;simp only[hdr,i3,x1,aC,zD,hcut,ae,aa,seval,iteOmega,toNatUp];refine sD (c5) ?_;refine sC (c6) ?_;simp only[az,hle,Yt,and_self,aC,i3,zD,ae,aa,seval,iteOmega,toNatUp];exact cM (by simp only[ae,aa,seval,iteOmega,toNatUp] <;> rfl) (by simp only[ae,aa,seval,iteOmega,toNatUp])
        ·rw[ik e5 h7,e5];have g7:(cm (dW key b)=0)=False:=eq_false h7;clear e5 d1 d2 d5 h2 h7 h6 p1 p2 h5 q1 q2 hgl h4 hz3;generalize cm (dW key b)=E at *
         generalize hZ:aS (aR (b.drop 48)) 1028=Z at *
         generalize aE (b.drop 48) (bW b)=pp at *
         generalize fQ (b.drop 48)=PL at *
         generalize dW key b=V at *
         generalize fG b=A at *
         generalize br (bJ b)=n at *
         generalize bL (bJ b)=s at *
         generalize bJ b=GG at *
         generalize bW b=last at *
         generalize bQ b=q at *
         generalize aR V=LV at *
         generalize aR (b.drop 48)=L at *
         generalize L.getD last default=gf at *
         unfold dL Hd.z;unfold a9 aJ at *
         simp only[kM,af,ae,aa,seval,iteOmega,toNatUp,h1];refine sD (c1) ?_;refine sC (c2) ?_;simp only[hz3',aC,i3,zD,← hL1,gi,aJ,hfd,ae,aa,seval,iteOmega,toNatUp];refine sC (c3) ?_;simp only[aC,i3,zD,← hL1,hdr,ae,aa,seval,iteOmega,toNatUp];refine sC (c4) ?_;simp only[hdr,i3,x1,aC,zD,hcut,ae,aa,seval,iteOmega,toNatUp];refine sD (c5) ?_;refine sC (c6) ?_;simp only[g7,ae,aa,seval,iteOmega,toNatUp];exact cM (by simp only[ae,aa,seval,iteOmega,toNatUp] <;> rfl) (by simp only[ae,aa,seval,iteOmega,toNatUp])
       ·rw[if_pos h6] at e5;rw[ik e5 (by decide),e5];have g6:(kF key b=0)=False:=eq_false h6;clear e5 d1 d2 d5 h2 h6 p1 p2 h5 q1 q2 hgl h4 hz3 c6;generalize kF key b=E at *
        generalize hZ:aS (aR (b.drop 48)) 1028=Z at *
        generalize aE (b.drop 48) (bW b)=pp at *
        generalize fQ (b.drop 48)=PL at *
        generalize dW key b=V at *
        generalize fG b=A at *
        generalize br (bJ b)=n at *
        generalize bL (bJ b)=s at *
        generalize bJ b=GG at *
        generalize bW b=last at *
        generalize bQ b=q at *
        generalize aR (b.drop 48)=L at *
        generalize L.getD last default=gf at *
        unfold dL Hd.z;unfold a9 aJ at *
        simp only[kM,af,ae,aa,seval,iteOmega,toNatUp,h1];refine sD (c1) ?_;refine sC (c2) ?_;simp only[hz3',aC,i3,zD,← hL1,gi,aJ,hfd,ae,aa,seval,iteOmega,toNatUp];refine sC (c3) ?_;simp only[aC,i3,zD,← hL1,hdr,ae,aa,seval,iteOmega,toNatUp];refine sC (c4) ?_;simp only[hdr,i3,x1,aC,zD,hcut,ae,aa,seval,iteOmega,toNatUp];refine sC (c5) ?_;simp only[g6,ae,aa,seval,iteOmega,toNatUp];exact cM (by simp only[ae,aa,seval,iteOmega,toNatUp] <;> rfl) (by simp only[ae,aa,seval,iteOmega,toNatUp])
      ·have e:=vh h1 h2 h3 (.inr h5);rw[ik e (by decide),e];rw[decide_eq_false h5] at c3;clear e d1 d2 d5 h2 h5 h4 hz3;generalize hZ:aS (aR (b.drop 48)) 1028=Z at *
       generalize lC (bJ b)=n at *
       generalize lD (bJ b)=s at *
       generalize bJ b=GG at *
       generalize bW b=last at *
       generalize bQ b=q at *
       generalize aR (b.drop 48)=L at *
       generalize L.getD last default=gf at *
       unfold dL Hd.z a9 aJ at *
       simp only[kM,af,ae,aa,seval,iteOmega,toNatUp,h1];refine sD (c1) ?_;refine sC (c2) ?_;simp only[hz3',aC,i3,zD,← hL1,gi,aJ,hfd,ae,aa,seval,iteOmega,toNatUp];refine sC (c3) ?_;simp only[aC,i3,zD,← hL1,ae,aa,seval,iteOmega,toNatUp];exact cM (by simp only[ae,aa,seval,iteOmega,toNatUp] <;> rfl) (by simp only[ae,aa,seval,iteOmega,toNatUp])
     ·have e:=vh h1 h2 h3 (.inl (by rw[i2]; omega));rw[ik e (by decide),e];have hL1:(bW b:Int)=((aR (b.drop 48)).length:Int)-1:=by unfold bW; omega
      have g4:(i:Int)≠(bW b:Int):=by omega
      have g4':((i:Int)=(bW b:Int))=False:=eq_false g4;clear e d1 d2 d5 h2 h4 hz3;generalize decide (dV ((aR (b.drop 48)).getD i default).da)=ok at *
      generalize lC ((aR (b.drop 48)).getD i default).da=n at *
      generalize lD ((aR (b.drop 48)).getD i default).da=s at *
      generalize hZ:aS (aR (b.drop 48)) 1028=Z at *
      generalize bW b=last at *
      generalize bQ b=q at *
      generalize aR (b.drop 48)=L at *
      generalize L.getD i default=gf at *
      unfold dL Hd.z a9 aJ at *
      simp only[kM,af,ae,aa,seval,iteOmega,toNatUp,h1];refine sD (c1) ?_;refine sC (c2) ?_;simp only[hz3',aC,i3,zD,← hL1,gi,aJ,g4',ae,aa,seval,iteOmega,toNatUp];exact cM (by simp only[ae,aa,seval,iteOmega,toNatUp] <;> rfl) (by simp only[ae,aa,seval,iteOmega,toNatUp])
   ·have e:=MN h1 h2;have g:(fD b=0)=False:=eq_false h2;rw[ik e h2,e];clear e h2;generalize fD b=E at *
    generalize jL b=q at *
    unfold a9 dL Hd.z at *
    simp only[kM,af,ae,aa,seval,iteOmega,toNatUp,h1];refine sC (c1) ?_;simp only[g,ae,aa,seval,iteOmega,toNatUp];exact cM (by simp only[ae,aa,seval,iteOmega,toNatUp] <;> rfl) (by simp only[ae,aa,seval,iteOmega,toNatUp])
  ·have e:=MM (b:=b) h1;rw[ik e (by decide),e];unfold a9 dL Hd.z;simp only[kM,af,ae,aa,seval,iteOmega,toNatUp];exact cM (by simp only[ae,aa,seval,iteOmega,toNatUp] <;> rfl) (by simp only[ae,aa,seval,iteOmega,toNatUp])
def jc (p:cn):List C:=[.d (.int .i64 p.hd.lp),.d (.int .i64 p.hd.vr),.d (.int .i64 p.hd.md),.d (.int .i64 p.hd.st),.d (.int .i64 p.hd.pl),.d (.int .i64 p.hd.pr),.d (.int .u32 (p.hd.rd:Int)),.d (.int .u32 (p.hd.rp:Int)),.d (.int .u32 (p.hd.ri:Int)),.d (.int .u64 (p.hd.rf:Int)),.d (.int .u64 (p.hd.og:Int)),.d (.int .u64 (p.hd.rc:Int)),.d (.int .u64 (p.hd.tr:Int)),.d (.sl (p.pl.map aJ)),.d (.sl (p.se.map aJ)),.d (.bool p.gu)]
def Aw (j:Jr) (t:Nat) (n:List UInt8) (T:Jr) (u c:List UInt8) (k:Nat):St:=⟨aP [(1,.w (.c (.d (.int .u64 (t:Int))))),(3,.w (.c (.d (.sl (n.map bD))))),(4,.w (.c (.rp (bp j)))),(8,.w (.c (.ptr 3 1 0 0))),(11,.w (.c (.ptr 1 1 0 0))),(14,.w (.c (.own 2 2 0 (bX u c k).length))),(15,.w (.c (.d (.int .i64 ((j.ck.length+k:Nat):Int)))))],hL [(1,bK T (.d (.sl (T.ck.map fun l=>D.sl (l.map bD))))),(2,.row 2 ((bX u c k).map aJ)),(3,bh)],uL [1,2,3]⟩
def x8:aN := .seq (.seq (.reg [oM 50 15,oO 51 (.bin .lss (.t 50) (kI 8))]) (.cond (.t 51) (.skip) (.exit 0))) (.seq (.block 1 (.reg [oM 54 14,oO 55 (.make true 1 1 (.int .u8 0) (kI 104) (kI 104)),oO 56 (.build [(.d (.int .i64 0)),.nil] [(0,1,(kI 772)),(1,1,(.t 55))]),oO 57 (.bldFz 1 2 (.agg [(.int .i64 0),(.sl [])]) [(0,(.t 56))]),oO 58 (.app false 2 32 (.t 54) (.t 57)),oM 14 58])) (.reg [oM 52 15,oO 53 (.bin .add (.t 52) (kI 1)),oM 15 53]))
def oq:aD:=⟨4,77,.seq (.reg [oO 4 (.box .roBox (.t 0)),oO 8 (.alloc [.nil,.nil,.nil,.nil,(.d (.int .i64 0)),(.d (.int .i64 0))]),oO 9 (.mv (.k (.c .nil))),oO 10 (.mv (kI 0))]) (.seq (.seq (.reg [oO 17 (.load (.ag 6) (.t 4)),oO 18 (.call 26 [(.t 17)] none),oO 19 (.un .not (.t 18)),oM 20 19,oG 21 (.mv (.t 2)) 20 false,oG 22 (.len (.t 21)) 20 false,oG 23 (.bin .neq (.t 22) (kI 32)) 20 false,oO 24 (.pick (.t 20) (.k (.c (.d (.bool true)))) (.t 23)),oM 25 24,oG 26 (.mv (.t 3)) 25 false,oG 27 (.len (.t 26)) 25 false,oG 28 (.bin .neq (.t 27) (kI 16)) 25 false,oO 29 (.pick (.t 25) (.k (.c (.d (.bool true)))) (.t 28))]) (.cond (.t 29) (.seq (.reg [oO 30 (.build [.nil,.nil,.nil,.nil,(.d (.int .i64 0)),(.d (.int .i64 0))] []),oN (.store (.ag 6) (.t 8) (.t 30)),oO 9 (.mv (.k (.c .nil))),oO 10 (.mv (kI 3))])
 (.ret)) (.skip))) (.seq (.reg [oO 32 (.load (.ag 6) (.t 4)),oO 33 (.call 27 [(.t 32)] none),oM 31 33,oO 34 (.extract (.t 31) 0),oO 35 (.extract (.t 31) 1),oO 36 (.extract (.t 31) 2),oO 11 (.alloc [.nil,.nil,.nil,.nil,(.d (.int .i64 0)),(.d (.int .i64 0))]),oN (.store (.ag 6) (.t 11) (.t 34)),oM 12 35,oM 13 36]) (.seq (.seq (.reg [oM 37 13,oO 38 (.bin .neq (.t 37) (kI 0))]) (.cond (.t 38) (.seq (.reg [oO 39 (.build [.nil,.nil,.nil,.nil,(.d (.int .i64 0)),(.d (.int .i64 0))] []),oM 40 13,oN (.store (.ag 6) (.t 8) (.t 39)),oO 9 (.mv (.k (.c .nil))),oM 10 40]) (.ret)) (.skip))) (.seq (.reg [oM 41 2,oO 42 (.build [(.d (.int .i64 0)),.nil] [(0,1,(kI 260)),(1,1,(.t 41))]),oM 43 12,oO 44 (.build [(.d (.int .i64 0)),.nil] [(0,1,(kI 516)),(1,1,(.t 43))]),oO 45 (.bldSl true 2 2 (.agg [(.int .i64 0),(.sl [])]) [(0,(.t 42)),(1,(.t 44))]),
 oM 14 45]) (.seq (.seq (.reg [oO 46 (.fieldAddr 2 (.t 11)),oO 47 (.load .sc (.t 46)),oO 48 (.len (.t 47)),oO 49 (.bin .add (.t 48) (kI 1)),oM 15 49]) (.block 0 (.loop x8))) (.seq (.reg [oO 60 (.fieldAddr 0 (.t 4)),oO 61 (.fieldAddr 0 (.t 60)),oO 62 (.load .sc (.t 61)),oM 63 1,oO 64 (.call 19 [(.t 63)] none),oM 65 14,oO 66 (.build [(.d (.int .i64 0)),(.d (.int .i64 0)),(.d (.int .i64 0)),(.d (.int .i64 0)),(.d (.int .i64 0)),(.d (.int .i64 0)),(.d (.int .u32 0)),(.d (.int .u32 0)),(.d (.int .u32 0)),(.d (.int .u64 0)),(.d (.int .u64 0)),(.d (.int .u64 0)),(.d (.int .u64 0)),.nil,.nil,(.d (.bool false))] [(0,13,(.t 64)),(13,1,(.t 65))]),oM 67 3,oO 68 (.call 28 [(.t 62),(.t 66),(.t 67)] none),oM 59 68,oO 69 (.extract (.t 59) 0),oO 70 (.extract (.t 59) 1),oM 16 69,oM 13 70]) (.seq (.seq (.reg [oM 71 13,
 oO 72 (.bin .neq (.t 71) (kI 0))]) (.cond (.t 72) (.seq (.reg [oO 73 (.build [.nil,.nil,.nil,.nil,(.d (.int .i64 0)),(.d (.int .i64 0))] []),oM 74 13,oN (.store (.ag 6) (.t 8) (.t 73)),oO 9 (.mv (.k (.c .nil))),oM 10 74]) (.ret)) (.skip))) (.seq (.reg [oO 75 (.load (.ag 6) (.t 11)),oM 76 16,oN (.store (.ag 6) (.t 8) (.t 75)),oM 9 76,oO 10 (.mv (kI 0))]) (.ret))))))))),[(8,(some (.ag 6))),(9,none),(10,none)]⟩
theorem WA:aB Tryz.prog { own:=[45],comp:=[],frz:=[57],nils:=[] } Tryz.f8=some oq:=by kernel_rfl
set_option maxHeartbeats 6400000 in
theorem XL (G:ah) (j:Jr) (t:Nat) (u n:List UInt8) (ht:t<18446744073709551616):au Tryz.prog G 8 [aW j,.int .u64 (t:Int),.sl (u.map bD),.sl (n.map bD)] (.tup [.c (.d (aW (jS j u n))),.c (.d (.sl ((lG j t u n).map bD))),.c (.d (.int .i64 (eI j u n)))]):=by
  refine aF Tryz.func8 WA rfl rfl ?_;have c1:=u9 G j;by_cases v:cK j
  ·rw[decide_eq_true v] at c1;by_cases h1:u.length=32
   ·have g1:((u.length:Int)=32)=True:=eq_true (by omega);by_cases h2:n.length=16
    ·have g2:((n.length:Int)=16)=True:=eq_true (by omega);have eE:eI j u n=cL j:=by unfold eI; rw[if_neg (fun h=>h.elim (· v) (fun h=>h.elim (· h1) (· h2)))]
     have c2:=Xv G j;by_cases h3:cL j=0
     ·obtain⟨v1,v2,v3,v4,v5⟩:=kV v;have hk:j.ck.length≠0:=fun h=>by
        unfold cL at h3;rw[if_neg (not_not_intro v),if_pos h] at h3;cases h3
      have m0:=v5 _ (iz (l:=j.ck) (i:=0) (by omega));rw[h3] at eE;rw[show jS j u n=cY j from if_pos eE,show lG j t u n=fF j.up (eh j t u) n from if_pos eE,eE];rw[show nl j=cY j from if_pos h3,show nm j=j.ck.getD 0 [] from if_pos h3,h3] at c2;have c3:=Wr G t;obtain⟨ok,_⟩:=As (key:=j.up) (u:=u) (c:=j.ck.getD 0 []) (n:=n) (t:=t) (k:=8-j.ck.length) v1 h1 m0 h2 (by omega);have c4:=Wx G j.up (eh j t u) n (by omega) (MR ht) (by unfold eh; rw[nV]; omega) (Yt _) (by omega);rw[show dC j.up (eh j t u) n=0 from (zI ok).1] at c4;have fl:=Me 1 (fF j.up (eh j t u) n) .i64 0;have hq:(eh j t u).pl=bX u (j.ck.getD 0 []) (8-j.ck.length):=rfl;have hT:((cY j).ck.length:Int)+1=(j.ck.length:Int):=by
        show ((j.ck.drop 1).length:Int)+1=_
        rw[Yw]; omega
      unfold a9 at c4;rw[hq,show (eh j t u).hd=fO t from rfl,show (eh j t u).se=[] from rfl,show (eh j t u).gu=false from rfl] at c4;clear ok eE h3;generalize fF j.up (eh j t u) n=B at *
      generalize j.ck.getD 0 []=c at *
      generalize cY j=T at *
      generalize hK:8-j.ck.length=K at *
      unfold aW at *
      simp only[oq,af,ae,aa,seval,iteOmega,toNatUp];refine sC (c1) ?_;simp only[g1,g2,ae,aa,seval,iteOmega,toNatUp];refine sC (c2) ?_;simp only[hT,ae,aa,seval,iteOmega,toNatUp];refine aV (Aw j t n T u c) (fun k=>K-k) (fun k=>k≤K) 0 (Yt _) ?_ ?_
      ·refine ap (fun i=>if i=1 then 88 else if i=2 then 360 else 64) ?_ ?_ rfl rfl <;> simp only[bX,aJ,bp,bK,bh,wx,aj,ar,aa,seval,iteOmega,toNatUp] <;> first | rfl | exact⟨rfl,rfl⟩ | skip
      ·intro k hk2;clear c1 c2;have ql:=nV u c k;have az:=mA (bX u c k);by_cases hlt:k<K
       ·have gk:(((j.ck.length+k:Nat):Int)<8)=True:=eq_true (by omega);have hs:=Ar u c k;have hp:aJ lF=.agg [.int .i64 772,.sl (List.replicate 104 (.int .u8 0))]:=by
          unfold aJ lF;rw[Z0]; rfl
        have e0:Aw j t n T u c k=⟨aP [(1,.w (.c (.d (.int .u64 (t:Int))))),(3,.w (.c (.d (.sl (n.map bD))))),(4,.w (.c (.rp (bp j)))),(8,.w (.c (.ptr 3 1 0 0))),(11,.w (.c (.ptr 1 1 0 0))),(14,.w (.c (.own 2 2 0 (bX u c k).length))),(15,.w (.c (.d (.int .i64 ((j.ck.length+k:Nat):Int)))))],hL [(1,bK T (.d (.sl (T.ck.map fun l=>D.sl (l.map bD))))),(2,.row 2 ((bX u c k).map aJ)),(3,bh)],uL [1,2,3]⟩:=rfl;rw[e0];clear e0;generalize bX u c k=L at *
        simp only[x8,bp,bK,bh,ae,aa,seval,iteOmega,toNatUp,gk,bH];refine aQ (k+1) (by omega) (by omega) (ap (fun i=>if i=1 then 1 else if i=2 then 464 else 3) ?_ ?_ rfl rfl) <;> simp only[hs,hp,List.replicate,YD,Yp,Yv,bp,bK,bh,wx,aj,ar,aa,seval,iteOmega,toNatUp] <;> first | rfl | exact⟨rfl,rfl⟩ | skip
       ·obtain rfl:k=K:=by omega
        have gk:(((j.ck.length+k:Nat):Int)<8)=False:=eq_false (by omega);have e0:Aw j t n T u c k=⟨aP [(1,.w (.c (.d (.int .u64 (t:Int))))),(3,.w (.c (.d (.sl (n.map bD))))),(4,.w (.c (.rp (bp j)))),(8,.w (.c (.ptr 3 1 0 0))),(11,.w (.c (.ptr 1 1 0 0))),(14,.w (.c (.own 2 2 0 (bX u c k).length))),(15,.w (.c (.d (.int .i64 ((j.ck.length+k:Nat):Int)))))],hL [(1,bK T (.d (.sl (T.ck.map fun l=>D.sl (l.map bD))))),(2,.row 2 ((bX u c k).map aJ)),(3,bh)],uL [1,2,3]⟩:=rfl;rw[e0];clear e0;generalize bX u c k=L at *
        unfold cc at c3;simp only[x8,bp,bK,bh,ae,aa,seval,iteOmega,toNatUp,gk];refine sD (c3) ?_;refine aY c4 (by simp only[ae,aa,seval,iteOmega,toNatUp] <;> rfl) (.inr fl) ?_;simp only[ae,aa,seval,iteOmega,toNatUp];exact bP
     ·have g3:(cL j=0)=False:=eq_false h3;obtain⟨q1,q2⟩:=l5 eE h3;rw[q1,q2,eE];unfold aW cC at *
      generalize cL j=e at *
      simp only[oq,af,ae,aa,seval,iteOmega,toNatUp];refine sC (c1) ?_;simp only[g1,g2,ae,aa,seval,iteOmega,toNatUp];refine sC (c2) ?_;simp only[g3,ae,aa,seval,iteOmega,toNatUp];exact bP
    ·have g2:((n.length:Int)=16)=False:=eq_false (by omega);have e:eI j u n=3:=by unfold eI; rw[if_pos (.inr (.inr h2))]
     obtain⟨q1,q2⟩:=l5 e (by decide);rw[q1,q2,e];unfold aW cC at *
     simp only[oq,af,ae,aa,seval,iteOmega,toNatUp];refine sC (c1) ?_;simp only[g1,g2,ae,aa,seval,iteOmega,toNatUp];exact bP
   ·have g1:((u.length:Int)=32)=False:=eq_false (by omega);have e:eI j u n=3:=by unfold eI; rw[if_pos (.inr (.inl h1))]
    obtain⟨q1,q2⟩:=l5 e (by decide);rw[q1,q2,e];unfold aW cC at *
    simp only[oq,af,ae,aa,seval,iteOmega,toNatUp];refine sC (c1) ?_;simp only[g1,ae,aa,seval,iteOmega,toNatUp];exact bP
  ·rw[decide_eq_false v] at c1;have e:eI j u n=3:=by unfold eI; rw[if_pos (.inl v)]
   obtain⟨q1,q2⟩:=l5 e (by decide);rw[q1,q2,e];unfold aW cC at *
   simp only[oq,af,ae,aa,seval,iteOmega,toNatUp];refine sD (c1) ?_;exact bP
theorem WB {u c:List UInt8} {k:Nat} (hu:u.length=32) (hc:c.length=104):∀ f∈bX u c k,f.da.length≤104:=fun f hf=>by
  rcases yQ hf with rfl | rfl | rfl
  ·show u.length≤104; omega
  ·show c.length≤104; omega
  ·exact Nat.le_of_eq zQ
def Ax (t:Nat) (n:List UInt8) (T:Jr) (u c:List UInt8) (K k:Nat):St:=⟨aP [(1,.w (.c (.d (.int .u64 (t:Int))))),(3,.w (.c (.d (.sl (n.map bD))))),(8,.w (.c (.ptr 3 1 0 0))),(11,.w (.c (.ptr 1 1 0 0))),(14,.w (.c (.own 2 2 0 (bX u c k).length))),(54,.w (.c (.d (.int .i64 (K:Int))))),(55,.w (.c (.d (.int .i64 (k:Int)))))],hL [(1,bK T (.d (.sl (T.ck.map fun l=>D.sl (l.map bD))))),(2,.row 2 ((bX u c k).map aJ)),(3,bh)],uL [1,2,3]⟩
def x9:aN := .seq (.reg [oO 56 (.bin .lss (.t 55) (.t 54))]) (.seq (.cond (.t 56) (.skip) (.exit 0)) (.seq (.block 1 (.reg [oM 57 14,oO 58 (.make true 1 1 (.int .u8 0) (kI 104) (kI 104)),oO 59 (.build [(.d (.int .i64 0)),.nil] [(0,1,(kI 772)),(1,1,(.t 58))]),oO 60 (.bldFz 1 2 (.agg [(.int .i64 0),(.sl [])]) [(0,(.t 59))]),oO 61 (.app false 2 32 (.t 57) (.t 60)),oM 14 61])) (.reg [oO 62 (.bin .add (.t 55) (kI 1)),oM 55 62])))
def ot:aD:=⟨4,77,.seq (.reg [oO 4 (.box .roBox (.t 0)),oO 8 (.alloc [.nil,.nil,.nil,.nil,(.d (.int .i64 0)),(.d (.int .i64 0))]),oO 9 (.mv (.k (.c .nil))),oO 10 (.mv (kI 0))]) (.seq (.seq (.reg [oO 19 (.load (.ag 6) (.t 4)),oO 20 (.call 21 [(.t 19)] none),oO 21 (.un .not (.t 20)),oM 22 21,oG 23 (.mv (.t 2)) 22 false,oG 24 (.len (.t 23)) 22 false,oG 25 (.bin .neq (.t 24) (kI 32)) 22 false,oO 26 (.pick (.t 22) (.k (.c (.d (.bool true)))) (.t 25)),oM 27 26,oG 28 (.mv (.t 3)) 27 false,oG 29 (.len (.t 28)) 27 false,oG 30 (.bin .neq (.t 29) (kI 16)) 27 false,oO 31 (.pick (.t 27) (.k (.c (.d (.bool true)))) (.t 30))]) (.cond (.t 31) (.seq (.reg [oO 32 (.build [.nil,.nil,.nil,.nil,(.d (.int .i64 0)),(.d (.int .i64 0))] []),oN (.store (.ag 6) (.t 8) (.t 32)),oO 9 (.mv (.k (.c .nil))),oO 10 (.mv (kI 3))])
 (.ret)) (.skip))) (.seq (.reg [oO 34 (.load (.ag 6) (.t 4)),oO 35 (.call 24 [(.t 34)] none),oM 33 35,oO 36 (.extract (.t 33) 0),oO 37 (.extract (.t 33) 1),oO 38 (.extract (.t 33) 2),oO 11 (.alloc [.nil,.nil,.nil,.nil,(.d (.int .i64 0)),(.d (.int .i64 0))]),oN (.store (.ag 6) (.t 11) (.t 36)),oM 12 37,oM 13 38]) (.seq (.seq (.reg [oM 39 13,oO 40 (.bin .neq (.t 39) (kI 0))]) (.cond (.t 40) (.seq (.reg [oO 41 (.build [.nil,.nil,.nil,.nil,(.d (.int .i64 0)),(.d (.int .i64 0))] []),oM 42 13,oN (.store (.ag 6) (.t 8) (.t 41)),oO 9 (.mv (.k (.c .nil))),oM 10 42]) (.ret)) (.skip))) (.seq (.reg [oM 43 2,oO 44 (.build [(.d (.int .i64 0)),.nil] [(0,1,(kI 260)),(1,1,(.t 43))]),oM 45 12,oO 46 (.build [(.d (.int .i64 0)),.nil] [(0,1,(kI 516)),(1,1,(.t 45))]),oO 47 (.bldSl true 2 2 (.agg [(.int .i64 0),(.sl [])]) [(0,(.t 44)),(1,(.t 46))]),
 oM 14 47]) (.seq (.reg [oO 49 (.load (.ag 6) (.t 11)),oO 50 (.call 17 [(.t 49)] none),oM 48 50,oO 51 (.extract (.t 48) 0),oO 52 (.extract (.t 48) 1),oM 15 51,oM 16 52]) (.seq (.seq (.reg [oM 53 15,oO 54 (.bin .sub (.t 53) (kI 1)),oO 55 (.mv (kI 0))]) (.block 0 (.loop x9))) (.seq (.reg [oO 64 (.fieldAddr 0 (.t 11)),oO 65 (.fieldAddr 0 (.t 64)),oO 66 (.load .sc (.t 65)),oM 67 1,oO 68 (.call 25 [(.t 67)] none),oM 69 14,oO 70 (.build [(.d (.int .i64 0)),(.d (.int .i64 0)),(.d (.int .i64 0)),(.d (.int .i64 0)),(.d (.int .i64 0)),(.d (.int .i64 0)),(.d (.int .u32 0)),(.d (.int .u32 0)),(.d (.int .u32 0)),(.d (.int .u64 0)),(.d (.int .u64 0)),(.d (.int .u64 0)),(.d (.int .u64 0)),.nil,.nil,(.d (.bool false))] [(0,13,(.t 68)),(13,1,(.t 69))]),oM 71 3,oO 72 (.call 20 [(.t 66),(.t 70),(.t 71)] none),
 oM 63 72,oO 73 (.extract (.t 63) 0),oO 74 (.extract (.t 63) 1),oM 17 73,oM 18 74]) (.seq (.reg [oO 75 (.load (.ag 6) (.t 11)),oM 76 17,oN (.store (.ag 6) (.t 8) (.t 75)),oM 9 76,oO 10 (.mv (kI 0))]) (.ret))))))))),[(8,(some (.ag 6))),(9,none),(10,none)]⟩
theorem WC:aB Tryz.prog { own:=[47],comp:=[],frz:=[60],nils:=[] } Tryz.f7=some ot:=by kernel_rfl
set_option maxHeartbeats 6400000 in
theorem MU (G:ah) (j:Jr) (t:Nat) (u n:List UInt8) (ht:t<18446744073709551616):au Tryz.prog G 7 [aW j,.int .u64 (t:Int),.sl (u.map bD),.sl (n.map bD)] (.tup [.c (.d (aW (jS j u n))),.c (.d (.sl ((lG j t u n).map bD))),.c (.d (.int .i64 (eI j u n)))]):=by
  refine aF Tryz.func7 WC rfl rfl ?_;have c1:=vg G j;by_cases v:cK j
  ·rw[decide_eq_true v] at c1;by_cases h1:u.length=32
   ·have g1:((u.length:Int)=32)=True:=eq_true (by omega);by_cases h2:n.length=16
    ·have g2:((n.length:Int)=16)=True:=eq_true (by omega);have eE:eI j u n=cL j:=by unfold eI; rw[if_neg (fun h=>h.elim (· v) (fun h=>h.elim (· h1) (· h2)))]
     have c2:=XE G j;by_cases h3:cL j=0
     ·obtain⟨v1,v2,v3,v4,v5⟩:=kV v;have hk:j.ck.length≠0:=fun h=>by
        unfold cL at h3;rw[if_neg (not_not_intro v),if_pos h] at h3;cases h3
      have hs:j.sn≠1099511627776:=fun h=>by
        unfold cL at h3;rw[if_neg (not_not_intro v),if_neg hk,if_pos h] at h3;cases h3
      have m0:=v5 _ (iz (l:=j.ck) (i:=0) (by omega));rw[h3] at eE;rw[show jS j u n=cY j from if_pos eE,show lG j t u n=fF j.up (eh j t u) n from if_pos eE,eE];rw[show nl j=cY j from if_pos h3,show nm j=j.ck.getD 0 [] from if_pos h3,h3] at c2;have cw:=MC G (cY j);have tv:cK (cY j):=(Xx v hk hs).2;have hT:(8-((cY j).ck.length:Int))-1=((8-j.ck.length:Nat):Int):=by
        show (8-((j.ck.drop 1).length:Int))-1=_
        rw[Yw]; omega
      have hT8:(cY j).ck.length≤8:=by
        show (j.ck.drop 1).length≤8
        rw[Yw]; omega
      rw[show rI (cY j)=8-((cY j).ck.length:Int) from if_pos tv,show rH (cY j)=0 from if_pos tv] at cw;have c3:=VE G t;obtain⟨ok,_⟩:=As (key:=j.up) (u:=u) (c:=j.ck.getD 0 []) (n:=n) (t:=t) (k:=8-j.ck.length) v1 h1 m0 h2 (by omega);have c4:=Wm G j.up (eh j t u) n (by omega) (MR ht) (by unfold eh; rw[nV]; omega) (fun f hf=>by
        have:=WB (u:=u) (c:=j.ck.getD 0 []) h1 m0 f hf;omega) (Yt _) (fun f hf=>by cases hf) (by omega)
      rw[show dC j.up (eh j t u) n=0 from (zI ok).1] at c4;have fl:=Me 1 (fF j.up (eh j t u) n) .i64 0;have hq:(eh j t u).pl=bX u (j.ck.getD 0 []) (8-j.ck.length):=rfl;unfold a9 at c4;rw[hq,show (eh j t u).hd=fO t from rfl,show (eh j t u).se=[] from rfl,show (eh j t u).gu=false from rfl] at c4;have tup:(cY j).up=j.up:=rfl;rw[← tup] at c4 fl ⊢;clear ok eE h3 tv hs v tup;generalize fF (cY j).up (eh j t u) n=B at *
      generalize j.ck.getD 0 []=c at *
      generalize cY j=T at *
      generalize hK:8-j.ck.length=K at *
      have gK:(8-(T.ck.length:Int))-1=(K:Int):=hT;unfold aW at *
      simp only[ot,af,ae,aa,seval,iteOmega,toNatUp];refine sC (c1) ?_;simp only[g1,g2,ae,aa,seval,iteOmega,toNatUp];refine sD (c2) ?_;refine sC (cw) ?_;simp only[gK,ae,aa,seval,iteOmega,toNatUp];refine aV (Ax t n T u c K) (fun k=>K-k) (fun k=>k≤K) 0 (Yt _) ?_ ?_
      ·refine ap (fun i=>if i=1 then 88 else if i=2 then 376 else 64) ?_ ?_ rfl rfl <;> simp only[bX,aJ,bp,bK,bh,wx,aj,ar,aa,seval,iteOmega,toNatUp] <;> first | rfl | exact⟨rfl,rfl⟩ | skip
      ·intro k hk2;clear c1 c2 cw;have ql:=nV u c k;have az:=mA (bX u c k);by_cases hlt:k<K
       ·have gk:((k:Int)<(K:Int))=True:=eq_true (by omega);have hs:=Ar u c k;have hp:aJ lF=.agg [.int .i64 772,.sl (List.replicate 104 (.int .u8 0))]:=by
          unfold aJ lF;rw[Z0]; rfl
        have e0:Ax t n T u c K k=⟨aP [(1,.w (.c (.d (.int .u64 (t:Int))))),(3,.w (.c (.d (.sl (n.map bD))))),(8,.w (.c (.ptr 3 1 0 0))),(11,.w (.c (.ptr 1 1 0 0))),(14,.w (.c (.own 2 2 0 (bX u c k).length))),(54,.w (.c (.d (.int .i64 (K:Int))))),(55,.w (.c (.d (.int .i64 (k:Int)))))],hL [(1,bK T (.d (.sl (T.ck.map fun l=>D.sl (l.map bD))))),(2,.row 2 ((bX u c k).map aJ)),(3,bh)],uL [1,2,3]⟩:=rfl;rw[e0];clear e0;generalize bX u c k=L at *
        simp only[x9,bp,bK,bh,ae,aa,seval,iteOmega,toNatUp,gk,bH];refine aQ (k+1) (by omega) (by omega) (ap (fun i=>if i=1 then 1 else if i=2 then 488 else 3) ?_ ?_ rfl rfl) <;> simp only[hs,hp,List.replicate,YD,Yp,Yv,bp,bK,bh,wx,aj,ar,aa,seval,iteOmega,toNatUp] <;> first | rfl | exact⟨rfl,rfl⟩ | skip
       ·obtain rfl:k=K:=by omega
        have gk:((k:Int)<(k:Int))=False:=eq_false (by omega);have e0:Ax t n T u c k k=⟨aP [(1,.w (.c (.d (.int .u64 (t:Int))))),(3,.w (.c (.d (.sl (n.map bD))))),(8,.w (.c (.ptr 3 1 0 0))),(11,.w (.c (.ptr 1 1 0 0))),(14,.w (.c (.own 2 2 0 (bX u c k).length))),(54,.w (.c (.d (.int .i64 (k:Int))))),(55,.w (.c (.d (.int .i64 (k:Int)))))],hL [(1,bK T (.d (.sl (T.ck.map fun l=>D.sl (l.map bD))))),(2,.row 2 ((bX u c k).map aJ)),(3,bh)],uL [1,2,3]⟩:=rfl;rw[e0];clear e0;generalize bX u c k=L at *
        unfold cc at c3;simp only[x9,bp,bK,bh,ae,aa,seval,iteOmega,toNatUp,gk];refine sD (c3) ?_;refine aY c4 (by simp only[ae,aa,seval,iteOmega,toNatUp] <;> rfl) (.inr fl) ?_;simp only[ae,aa,seval,iteOmega,toNatUp];exact bP
     ·have g3:(cL j=0)=False:=eq_false h3;obtain⟨q1,q2⟩:=l5 eE h3;rw[q1,q2,eE];unfold aW cC at *
      generalize cL j=e at *
      simp only[ot,af,ae,aa,seval,iteOmega,toNatUp];refine sC (c1) ?_;simp only[g1,g2,ae,aa,seval,iteOmega,toNatUp];refine sC (c2) ?_;simp only[g3,ae,aa,seval,iteOmega,toNatUp];exact bP
    ·have g2:((n.length:Int)=16)=False:=eq_false (by omega);have e:eI j u n=3:=by unfold eI; rw[if_pos (.inr (.inr h2))]
     obtain⟨q1,q2⟩:=l5 e (by decide);rw[q1,q2,e];unfold aW cC at *
     simp only[ot,af,ae,aa,seval,iteOmega,toNatUp];refine sC (c1) ?_;simp only[g1,g2,ae,aa,seval,iteOmega,toNatUp];exact bP
   ·have g1:((u.length:Int)=32)=False:=eq_false (by omega);have e:eI j u n=3:=by unfold eI; rw[if_pos (.inr (.inl h1))]
    obtain⟨q1,q2⟩:=l5 e (by decide);rw[q1,q2,e];unfold aW cC at *
    simp only[ot,af,ae,aa,seval,iteOmega,toNatUp];refine sC (c1) ?_;simp only[g1,ae,aa,seval,iteOmega,toNatUp];exact bP
  ·rw[decide_eq_false v] at c1;have e:eI j u n=3:=by unfold eI; rw[if_pos (.inl v)]
   obtain⟨q1,q2⟩:=l5 e (by decide);rw[q1,q2,e];unfold aW cC at *
   simp only[ot,af,ae,aa,seval,iteOmega,toNatUp];refine sD (c1) ?_;exact bP
def jM:Ob:=.box [.d (.int .i64 0),.d (.int .i64 0),.d (.int .i64 0),.d (.int .i64 0),.d (.int .i64 0),.d (.int .i64 0),.d (.int .u32 0),.d (.int .u32 0),.d (.int .u32 0),.d (.int .u64 0),.d (.int .u64 0),.d (.int .u64 0),.d (.int .u64 0),.nil,.nil,.d (.bool false)]
def jV (l:List Fd) (i:Nat):List (List UInt8):=((aS l 516).take i).map fun k=>(l.getD k.toNat default).da
theorem yW (l:List Fd):jV l (aS l 516).length=bG l:=by
  unfold jV;rw[YR,VW]
theorem XM {l:List Fd} {i:Nat} (h:i<(aS l 516).length):jV l (i+1)=jV l i++[(l.getD ((aS l 516).getD i 0).toNat default).da]:=by
  unfold jV;rw[Zq,Ys (l:=aS l 516),Yn h,YD]; rfl
theorem tR {l:List Fd} {i:Nat} (h:i≤(aS l 516).length):(jV l i).length=i:=by
  unfold jV;rw[YI,Yu]; omega
theorem zU {l:List Fd} {k:Int} {i:Nat} (h:i<(aS l k).length):∃ m:Nat,(aS l k)[i]?=some (m:Int)∧(aS l k).getD i 0=(m:Int)∧m<l.length:=by
  have e:(aS l k)[i]?=some ((aS l k)[i]):=Yn h;obtain⟨h1,h2⟩:=zP l k l.length _ (show (aS l k)[i]∈eb l k l.length from YQ h);obtain⟨m,hm⟩:=Zh h1;have hm:(aS l k)[i]=(m:Int):=hm;refine⟨m,by rw[e,hm],by rw[Ys,e,hm]; rfl,by omega⟩
theorem Lo (l:List Fd) (k:Int):(aS l k).length≤l.length:=tL l k _
theorem Ay {key b:List UInt8}:(ee key b).pl.length≤24∧(ee key b).se.length≤24:=by
  unfold ee;split
  ·have h1:=@nU (b.drop 48);have h2:=@nU (dW key b);exact⟨by simp; omega,h2⟩
  ·exact⟨by decide,by decide⟩
theorem Lp {u b:List UInt8} {p:cn} (h:(aS p.pl 260).length≠1):lH u b p=false:=by
  unfold lH;split
  ·rename_i i e;rw[e] at h;exact absurd rfl h
  ·rfl
theorem MV {u b:List UInt8} {p:cn} {m:Nat} (h:(aS p.pl 260).length=1) (hm:(aS p.pl 260)[0]?=some (m:Int)):lH u b p=((p.pl.getD m default).da==u):=by
  obtain⟨i,e⟩:=List.length_eq_one_iff.1 h;unfold lH;rw[e] at hm ⊢;obtain rfl:i=(m:Int):=Option.some.inj hm;rfl
theorem iF:a9 dL=.agg [.int .i64 0,.int .i64 0,.int .i64 0,.int .i64 0,.int .i64 0,.int .i64 0,.int .u32 0,.int .u32 0,.int .u32 0,.int .u64 0,.int .u64 0,.int .u64 0,.int .u64 0,.sl [],.sl [],.bool false]:=rfl
def jN (j:Jr) (p:cn) (i:Nat):List (Nat×V):=[(3,.w (.c (.rp (bp j)))),(6,.w (.c (.ptr 3 1 0 0))),(7,.w (.c (.ptr 4 1 0 0))),(9,.w (.c (.ptr 1 1 0 0))),(13,.w (.c (.d (.sl ((aS p.se 516).map zD))))),(14,.w (.c (.d (.int .i64 (i:Int)))))]
def k9 (j:Jr) (p:cn):Nat→St
  | 0=>⟨aP ((12,.w (.c .nil))::jN j p 0),hL [(1,.box (jc p)),(3,bh),(4,jM)],uL [1,3,4]⟩
  | i+1=>⟨aP ((12,.w (.c (.own 2 1 0 (jV p.se (i+1)).length)))::jN j p (i+1)),hL [(1,.box (jc p)),(2,.row 1 ((jV p.se (i+1)).map fun l=>D.sl (l.map bD))),(3,bh),(4,jM)],uL [1,2,3,4]⟩
def mD:aN := .seq (.seq (.reg [oM 69 14,oM 70 13,oO 71 (.len (.t 70)),oO 72 (.bin .lss (.t 69) (.t 71))]) (.cond (.t 72) (.skip) (.exit 0))) (.seq (.block 1 (.reg [oM 75 12,oO 76 (.fieldAddr 14 (.t 9)),oO 77 (.load .sc (.t 76)),oM 78 13,oM 79 14,oO 80 (.idxSl 1 (.t 78) (.t 79)),oO 81 (.load .sc (.t 80)),oO 82 (.idxSl 2 (.t 77) (.t 81)),oO 83 (.fieldAddr 1 (.t 82)),oO 84 (.load .sc (.t 83)),oO 85 (.bldSl false 1 1 (.sl []) [(0,(.t 84))]),oO 86 (.app false 1 24 (.t 75) (.t 85)),oM 12 86])) (.reg [oM 73 14,oO 74 (.bin .add (.t 73) (kI 1)),oM 14 74]))
def lU:aD:=⟨3,100,.seq (.reg [oO 3 (.box .roBox (.t 0)),oO 6 (.alloc [.nil,.nil,.nil,.nil,(.d (.int .i64 0)),(.d (.int .i64 0))]),oO 7 (.alloc [(.d (.int .i64 0)),(.d (.int .i64 0)),(.d (.int .i64 0)),(.d (.int .i64 0)),(.d (.int .i64 0)),(.d (.int .i64 0)),(.d (.int .u32 0)),(.d (.int .u32 0)),(.d (.int .u32 0)),(.d (.int .u64 0)),(.d (.int .u64 0)),(.d (.int .u64 0)),(.d (.int .u64 0)),.nil,.nil,(.d (.bool false))]),oO 8 (.mv (kI 0))]) (.seq (.seq (.reg [oO 16 (.load (.ag 6) (.t 3)),oO 17 (.call 26 [(.t 16)] none),oO 18 (.un .not (.t 17)),oM 19 18,oG 20 (.mv (.t 1)) 19 false,oG 21 (.len (.t 20)) 19 false,oG 22 (.bin .neq (.t 21) (kI 32)) 19 false,oO 23 (.pick (.t 19) (.k (.c (.d (.bool true)))) (.t 22))]) (.cond (.t 23) (.seq (.reg [oO 24 (.build [.nil,.nil,.nil,.nil,(.d (.int .i64 0)),(.d (.int .i64 0))] []),
 oO 25 (.build [(.d (.int .i64 0)),(.d (.int .i64 0)),(.d (.int .i64 0)),(.d (.int .i64 0)),(.d (.int .i64 0)),(.d (.int .i64 0)),(.d (.int .u32 0)),(.d (.int .u32 0)),(.d (.int .u32 0)),(.d (.int .u64 0)),(.d (.int .u64 0)),(.d (.int .u64 0)),(.d (.int .u64 0)),.nil,.nil,(.d (.bool false))] []),oN (.store (.ag 6) (.t 6) (.t 24)),oN (.store (.ag 16) (.t 7) (.t 25)),oO 8 (.mv (kI 3))]) (.ret)) (.skip))) (.seq (.reg [oO 27 (.fieldAddr 0 (.t 3)),oO 28 (.fieldAddr 1 (.t 27)),oO 29 (.load .sc (.t 28)),oM 30 2,oO 31 (.call 34 [(.t 29),(.t 30)] none),oM 26 31,oO 32 (.extract (.t 26) 0),oO 33 (.extract (.t 26) 1),oO 9 (.alloc [(.d (.int .i64 0)),(.d (.int .i64 0)),(.d (.int .i64 0)),(.d (.int .i64 0)),(.d (.int .i64 0)),(.d (.int .i64 0)),(.d (.int .u32 0)),(.d (.int .u32 0)),(.d (.int .u32 0)),(.d (.int .u64 0)),(.d (.int .u64 0)),(.d (.int .u64 0)),(.d (.int .u64 0)),.nil,.nil,(.d (.bool false))]),
 oN (.store (.ag 16) (.t 9) (.t 32)),oM 10 33]) (.seq (.seq (.reg [oM 34 10,oO 35 (.bin .neq (.t 34) (kI 0))]) (.cond (.t 35) (.seq (.reg [oO 36 (.build [.nil,.nil,.nil,.nil,(.d (.int .i64 0)),(.d (.int .i64 0))] []),oO 37 (.build [(.d (.int .i64 0)),(.d (.int .i64 0)),(.d (.int .i64 0)),(.d (.int .i64 0)),(.d (.int .i64 0)),(.d (.int .i64 0)),(.d (.int .u32 0)),(.d (.int .u32 0)),(.d (.int .u32 0)),(.d (.int .u64 0)),(.d (.int .u64 0)),(.d (.int .u64 0)),(.d (.int .u64 0)),.nil,.nil,(.d (.bool false))] []),oM 38 10,oN (.store (.ag 6) (.t 6) (.t 36)),oN (.store (.ag 16) (.t 7) (.t 37)),oM 8 38]) (.ret)) (.skip))) (.seq (.seq (.reg [oO 39 (.fieldAddr 0 (.t 9)),oO 40 (.fieldAddr 2 (.t 39)),oO 41 (.load .sc (.t 40)),oO 42 (.bin .neq (.t 41) (kI 4))]) (.cond (.t 42) (.seq (.reg [oO 43 (.build [.nil,.nil,.nil,.nil,(.d (.int .i64 0)),(.d (.int .i64 0))] []),
 oO 44 (.build [(.d (.int .i64 0)),(.d (.int .i64 0)),(.d (.int .i64 0)),(.d (.int .i64 0)),(.d (.int .i64 0)),(.d (.int .i64 0)),(.d (.int .u32 0)),(.d (.int .u32 0)),(.d (.int .u32 0)),(.d (.int .u64 0)),(.d (.int .u64 0)),(.d (.int .u64 0)),(.d (.int .u64 0)),.nil,.nil,(.d (.bool false))] []),oN (.store (.ag 6) (.t 6) (.t 43)),oN (.store (.ag 16) (.t 7) (.t 44)),oO 8 (.mv (kI 3))]) (.ret)) (.skip))) (.seq (.reg [oO 45 (.fieldAddr 13 (.t 9)),oO 46 (.load .sc (.t 45)),oO 47 (.call 35 [(.t 46),(kI 260)] none),oM 11 47]) (.seq (.seq (.reg [oM 48 11,oO 49 (.len (.t 48)),oO 50 (.bin .neq (.t 49) (kI 1)),oM 51 50,oG 52 (.fieldAddr 13 (.t 9)) 51 false,oG 53 (.load .sc (.t 52)) 51 false,oG 54 (.mv (.t 11)) 51 false,oG 55 (.idxSl 1 (.t 54) (kI 0)) 51 false,oG 56 (.load .sc (.t 55)) 51 false,oG 57 (.idxSl 2 (.t 53) (.t 56)) 51 false,
 oG 58 (.fieldAddr 1 (.t 57)) 51 false,oG 59 (.load .sc (.t 58)) 51 false,oG 60 (.mv (.t 1)) 51 false,oG 61 (.call 12 [(.t 59),(.t 60)] none) 51 false,oG 62 (.un .not (.t 61)) 51 false,oO 63 (.pick (.t 51) (.k (.c (.d (.bool true)))) (.t 62))]) (.cond (.t 63) (.seq (.reg [oO 64 (.build [.nil,.nil,.nil,.nil,(.d (.int .i64 0)),(.d (.int .i64 0))] []),oO 65 (.build [(.d (.int .i64 0)),(.d (.int .i64 0)),(.d (.int .i64 0)),(.d (.int .i64 0)),(.d (.int .i64 0)),(.d (.int .i64 0)),(.d (.int .u32 0)),(.d (.int .u32 0)),(.d (.int .u32 0)),(.d (.int .u64 0)),(.d (.int .u64 0)),(.d (.int .u64 0)),(.d (.int .u64 0)),.nil,.nil,(.d (.bool false))] []),oN (.store (.ag 6) (.t 6) (.t 64)),oN (.store (.ag 16) (.t 7) (.t 65)),oO 8 (.mv (kI 7))]) (.ret)) (.skip))) (.seq (.reg [oO 12 (.mv (.k (.c .nil)))]) (.seq (.reg [oO 66 (.fieldAddr 14 (.t 9)),
 oO 67 (.load .sc (.t 66)),oO 68 (.call 35 [(.t 67),(kI 516)] none),oM 13 68]) (.seq (.seq (.reg [oO 14 (.mv (kI 0))]) (.block 0 (.loop mD))) (.seq (.reg [oO 88 (.load (.ag 6) (.t 3)),oO 89 (.frz (.t 12)),oO 90 (.call 36 [(.t 88),(.t 89)] none),oM 87 90,oO 91 (.extract (.t 87) 0),oO 92 (.extract (.t 87) 1),oO 15 (.alloc [.nil,.nil,.nil,.nil,(.d (.int .i64 0)),(.d (.int .i64 0))]),oN (.store (.ag 6) (.t 15) (.t 91)),oM 10 92]) (.seq (.seq (.reg [oM 93 10,oO 94 (.bin .neq (.t 93) (kI 0))]) (.cond (.t 94) (.seq (.reg [oO 95 (.build [.nil,.nil,.nil,.nil,(.d (.int .i64 0)),(.d (.int .i64 0))] []),oO 96 (.build [(.d (.int .i64 0)),(.d (.int .i64 0)),(.d (.int .i64 0)),(.d (.int .i64 0)),(.d (.int .i64 0)),(.d (.int .i64 0)),(.d (.int .u32 0)),(.d (.int .u32 0)),(.d (.int .u32 0)),(.d (.int .u64 0)),(.d (.int .u64 0)),(.d (.int .u64 0)),(.d (.int .u64 0)),.nil,.nil,(.d (.bool false))] []),
 oM 97 10,oN (.store (.ag 6) (.t 6) (.t 95)),oN (.store (.ag 16) (.t 7) (.t 96)),oM 8 97]) (.ret)) (.skip))) (.seq (.reg [oO 98 (.loadX (.ag 6) (.t 15) [(.t 6),(.t 7)]),oO 99 (.loadX (.ag 16) (.t 9) [(.t 6),(.t 7)]),oN (.store (.ag 6) (.t 6) (.t 98)),oN (.store (.ag 16) (.t 7) (.t 99)),oO 8 (.mv (kI 0))]) (.ret))))))))))))),[(6,(some (.ag 6))),(7,(some (.ag 16))),(8,none)]⟩
theorem WE:aB Tryz.prog { own:=[],comp:=[],frz:=[89],nils:=[],lx:=[(98,[6,7]),(99,[6,7])] } Tryz.f10=some lU:=by kernel_rfl
set_option maxHeartbeats 6400000 in
theorem XN (G:ah) (j:Jr) (u b:List UInt8) (hb:b.length≤9000000000000000000):au Tryz.prog G 10 [aW j,.sl (u.map bD),.sl (b.map bD)] (.tup [.c (.d (aW (jT j u b))),.c (.d (a9 (jl j u b))),.c (.d (.int .i64 (ei j u b)))]):=by
  refine aF Tryz.func10 WE rfl rfl ?_;have c1:=u9 G j;by_cases v:cK j
  ·rw[decide_eq_true v] at c1;by_cases h1:u.length=32
   ·have g1:((u.length:Int)=32)=True:=eq_true (by omega);have e0:ei j u b=if fo j.dn b≠0 then fo j.dn b else if (ee j.dn b).hd.md≠4 then 3 else if lH u b (ee j.dn b)=false then 7 else if dI (bG (ee j.dn b).se)=true then 0 else 3:=by unfold ei; rw[if_neg (fun h=>h.elim (· v) (· h1))]
    have no:=fun (e:Int) (h:ei j u b=e) (he:e≠0)=>oR (u:=u) h he
    have yes:ei j u b=0→jT j u b=lE j (bG (ee j.dn b).se)∧jl j u b=ee j.dn b:=fun h=>⟨if_pos h,if_pos h⟩
    obtain⟨v1,v2,v3,v4,v5⟩:=kV v;have c2:=Ub G j.dn b (by omega) hb;obtain⟨p1,p2⟩:=Ay (key:=j.dn) (b:=b);have pE:∀ cs,kH j cs=if dI cs=true then 0 else 3:=fun cs=>by unfold kH; rw[if_neg (not_not_intro v)]
    generalize ee j.dn b=p at *
    generalize fo j.dn b=q at *
    generalize ei j u b=e at *
    generalize jT j u b=J at *
    generalize jl j u b=P at *
    by_cases h2:q=0
    ·have g2:(q=0)=True:=eq_true h2;rw[if_neg (not_not_intro h2)] at e0;by_cases h3:p.hd.md=4
     ·have g3:(p.hd.md=4)=True:=eq_true h3;rw[if_neg (not_not_intro h3)] at e0;have c3:=uv G p.pl 260 (by omega);by_cases h4:(aS p.pl 260).length=1
      ·have g4:(((aS p.pl 260).length:Int)=1)=True:=eq_true (by omega);obtain⟨m,m1,m2,m3⟩:=zU (l:=p.pl) (k:=260) (i:=0) (by omega);have f0:=iv m3;rw[MV h4 m1] at e0;have c4:=jq G (p.pl.getD m default).da u;have c5:=uv G p.se 516 (by omega);have fl:=Lo p.se 516;cases h5:(p.pl.getD m default).da==u
       ·rw[h5] at c4 e0;rw[if_pos rfl] at e0;obtain⟨rfl,rfl⟩:=no _ e0 (by decide);subst e0;clear no yes c5;generalize p.pl.getD m default=x at *
        generalize aS p.pl 260=A at *
        rw[iF];unfold aW cC at *
        try unfold a9 at *
        simp only[lU,af,ae,aa,seval,iteOmega,toNatUp];refine sC (c1) ?_;simp only[g1,ae,aa,seval,iteOmega,toNatUp];refine sC (c2) ?_;simp only[g2,g3,ae,aa,seval,iteOmega,toNatUp];refine sC (c3) ?_;simp only[g4,aC,m1,zD,f0,aJ,ae,aa,seval,iteOmega,toNatUp];refine sD (c4) ?_;exact bP
       ·rw[h5] at c4 e0;rw[if_neg (by decide)] at e0;have c6:=Xw G j (bG p.se);have hl:(bG p.se).length≤24:=by
          rw[← yW,tR (Yz _)]; omega
        have c6:=c6 (by omega);rw[pE] at c6;generalize p.pl.getD m default=x at *
        generalize aS p.pl 260=A at *
        generalize hJ:aW J=DJ;generalize hP:a9 P=DP;unfold aW at c1 c6 ⊢;unfold a9 at c2;simp only[lU,af,ae,aa,seval,iteOmega,toNatUp];refine sC (c1) ?_;simp only[g1,ae,aa,seval,iteOmega,toNatUp];refine sC (c2) ?_;simp only[g2,g3,ae,aa,seval,iteOmega,toNatUp];refine sC (c3) ?_;simp only[g4,aC,m1,zD,f0,aJ,ae,aa,seval,iteOmega,toNatUp];refine sD (c4) ?_;refine sD (c5) ?_;refine aV (k9 j p) (fun i=>(aS p.se 516).length-i) (fun i=>i≤(aS p.se 516).length) 0 (Yt _) ?_ ?_
        ·refine ap (fun i=>if i=1 then 72 else if i=3 then 48 else 56) ?_ ?_ rfl rfl <;> simp only[jN,bp,jc,bh,jM,wx,aj,ar,aa,seval,iteOmega,toNatUp] <;> first | rfl | exact⟨rfl,rfl⟩ | skip
        ·intro i hi;clear c1 c2 c3 c4 c5;by_cases hlt:i<(aS p.se 516).length
         ·obtain⟨k,k1,k2,k3⟩:=zU hlt;have f2:=iv k3;have hs:=XM hlt;rw[k2,Int.toNat_natCast] at hs;have tl:=tR (l:=p.se) (i:=i) hi;have tl2:=tR (l:=p.se) (i:=i+1) hlt;have az:=fa (jV p.se i);clear c6 no yes e0;generalize p.se.getD k default=y at *
          rcases i with _ | i
          ·have e1:jV p.se (0+1)=[y.da]:=hs;simp only[mD,k9,jN,bp,jc,bh,jM,ae,aa,seval,iteOmega,toNatUp,aC,k1,zD,f2,aJ,bH];refine aQ (0+1) (by omega) (by omega) (ap (fun i=>if i=1 then 1 else if i=2 then 688 else i) ?_ ?_ rfl rfl) <;> simp only[k9,jN,bp,jc,bh,jM,e1,zD,wx,aj,ar,aa,seval,iteOmega,toNatUp] <;> first | rfl | exact⟨rfl,rfl⟩ | skip
          ·simp only[mD,k9,jN,bp,jc,bh,jM,ae,aa,seval,iteOmega,toNatUp,aC,k1,zD,f2,aJ,bH,tl];refine aQ (i+1+1) (by omega) (by omega) (ap (fun i=>if i=1 then 1 else if i=2 then 688 else i) ?_ ?_ rfl rfl) <;> simp only[k9,jN,bp,jc,bh,jM,hs,YD,tl,zD,wx,aj,ar,aa,seval,iteOmega,toNatUp] <;> first | rfl | exact⟨rfl,rfl⟩ | skip
         ·obtain rfl:i=(aS p.se 516).length:=by omega
          have hk:=yW p.se;have az:=fa (bG p.se);have zz:(aS p.se 516).length=0→bG p.se=[]:=fun h=>by rw[← hk,h]; rfl
          by_cases hA:dI (bG p.se)=true
          ·rw[if_pos hA] at c6 e0;obtain⟨yJ,yP⟩:=yes e0;rw[yJ] at hJ;rw[yP] at hP;unfold aW at hJ;unfold a9 at hP;subst e0 hJ hP;rw[show rJ j (bG p.se)=lE j (bG p.se) from if_pos (by rw[pE,if_pos hA])] at c6;clear no yes;generalize bG p.se=C at *
           unfold lE at *
           dsimp only at *
           generalize hn:(aS p.se 516).length=n at *
           rcases n with _ | n
           ·obtain rfl:=zz rfl;simp only[Yv] at c6;simp only[mD,k9,jN,bp,jc,bh,jM,ae,aa,seval,iteOmega,toNatUp,hn];refine sD (c6) ?_;exact bP
           ·simp only[mD,k9,jN,bp,jc,bh,jM,ae,aa,seval,iteOmega,toNatUp,hk,hn];refine sD (c6) ?_;exact bP
          ·rw[if_neg hA] at c6 e0;obtain⟨yJ,yP⟩:=no _ e0 (by decide);rw[yJ] at hJ;rw[yP,iF] at hP;unfold aW at hJ;subst e0 hJ hP;rw[show rJ j (bG p.se)=cC from if_neg (by rw[pE,if_neg hA]; decide)] at c6;clear no yes;generalize bG p.se=C at *
           unfold cC at *
           simp only[Yv] at c6;generalize hn:(aS p.se 516).length=n at *
           rcases n with _ | n
           ·obtain rfl:=zz rfl;simp only[Yv] at c6;simp only[mD,k9,jN,bp,jc,bh,jM,ae,aa,seval,iteOmega,toNatUp,hn];refine sD (c6) ?_;exact bP
           ·simp only[mD,k9,jN,bp,jc,bh,jM,ae,aa,seval,iteOmega,toNatUp,hk,hn];refine sD (c6) ?_;exact bP
      ·have g4:(((aS p.pl 260).length:Int)=1)=False:=eq_false (by omega);rw[Lp h4,if_pos rfl] at e0;obtain⟨rfl,rfl⟩:=no _ e0 (by decide);subst e0;clear no yes;generalize aS p.pl 260=A at *
       rw[iF];unfold aW cC at *
       try unfold a9 at *
       simp only[lU,af,ae,aa,seval,iteOmega,toNatUp];refine sC (c1) ?_;simp only[g1,ae,aa,seval,iteOmega,toNatUp];refine sC (c2) ?_;simp only[g2,g3,ae,aa,seval,iteOmega,toNatUp];refine sC (c3) ?_;simp only[g4,ae,aa,seval,iteOmega,toNatUp];exact bP
     ·have g3:(p.hd.md=4)=False:=eq_false h3;rw[if_pos h3] at e0;obtain⟨rfl,rfl⟩:=no _ e0 (by decide);subst e0;clear no yes;rw[iF];unfold aW cC at *
      try unfold a9 at *
      simp only[lU,af,ae,aa,seval,iteOmega,toNatUp];refine sC (c1) ?_;simp only[g1,ae,aa,seval,iteOmega,toNatUp];refine sC (c2) ?_;simp only[g2,g3,ae,aa,seval,iteOmega,toNatUp];exact bP
    ·have g2:(q=0)=False:=eq_false h2;rw[if_pos h2] at e0;obtain⟨rfl,rfl⟩:=no _ e0 h2;subst e0;clear no yes;rw[iF];unfold aW cC at *
     try unfold a9 at *
     simp only[lU,af,ae,aa,seval,iteOmega,toNatUp];refine sC (c1) ?_;simp only[g1,ae,aa,seval,iteOmega,toNatUp];refine sC (c2) ?_;simp only[g2,ae,aa,seval,iteOmega,toNatUp];exact bP
   ·have g1:((u.length:Int)=32)=False:=eq_false (by omega);have e:ei j u b=3:=by unfold ei; rw[if_pos (.inr h1)]
    obtain⟨q1,q2⟩:=oR e (by decide);rw[q1,q2,e];rw[iF];unfold aW cC at *
    try unfold a9 at *
    simp only[lU,af,ae,aa,seval,iteOmega,toNatUp];refine sC (c1) ?_;simp only[g1,ae,aa,seval,iteOmega,toNatUp];exact bP
  ·rw[decide_eq_false v] at c1;have e:ei j u b=3:=by unfold ei; rw[if_pos (.inl v)]
   obtain⟨q1,q2⟩:=oR e (by decide);rw[q1,q2,e];rw[iF];unfold aW cC at *
   try unfold a9 at *
   simp only[lU,af,ae,aa,seval,iteOmega,toNatUp];refine sD (c1) ?_;exact bP
def zV:aD:=⟨2,22,.seq (.reg [oO 4 (.mv (.k (.c (.d (.bool false)))))]) (.seq (.reg [oM 6 0,oO 7 (.call 47 [(.t 6),(kI 260)] none),oM 5 7]) (.seq (.reg [oM 8 5,oO 9 (.len (.t 8)),oO 10 (.bin .eql (.t 9) (kI 1)),oM 11 10,oG 12 (.mv (.t 0)) 11 true,oG 13 (.mv (.t 5)) 11 true,oG 14 (.idxSl 1 (.t 13) (kI 0)) 11 true,oG 15 (.load .sc (.t 14)) 11 true,oG 16 (.idxSl 2 (.t 12) (.t 15)) 11 true,oG 17 (.fieldAddr 1 (.t 16)) 11 true,oG 18 (.load .sc (.t 17)) 11 true,oG 19 (.mv (.t 1)) 11 true,oG 20 (.call 55 [(.t 18),(.t 19)] none) 11 true,oO 21 (.pick (.t 11) (.t 20) (.k (.c (.d (.bool false))))),oM 4 21]) (.ret))),[(4,none)]⟩
theorem WF:aB Tryz.prog { own:=[],comp:=[],frz:=[],nils:=[] } Tryz.f30=some zV:=by kernel_rfl
theorem XO (G:ah) (p:cn) (u b:List UInt8) (hl:p.pl.length≤1000000):au Tryz.prog G 30 [.sl (p.pl.map aJ),.sl (u.map bD)] (.w (.c (.d (.bool (lH u b p))))):=by
  refine aF Tryz.func30 WF rfl rfl ?_;have c3:=zF G p.pl 260 hl;by_cases h4:(aS p.pl 260).length=1
  ·have g4:(((aS p.pl 260).length:Int)=1)=True:=eq_true (by omega);obtain⟨m,m1,m2,m3⟩:=zU (l:=p.pl) (k:=260) (i:=0) (by omega);have f0:=iv m3;rw[MV h4 m1];have c4:=qH G (p.pl.getD m default).da u;have az:=mA p.pl;generalize p.pl.getD m default=x at *
   generalize aS p.pl 260=A at *
   simp only[zV,af,ae,aa,seval,iteOmega,toNatUp];refine sC (c3) ?_;simp only[g4,aC,m1,zD,f0,aJ,az,ae,aa,seval,iteOmega,toNatUp];refine sD (c4) ?_;exact aG
  ·have g4:(((aS p.pl 260).length:Int)=1)=False:=eq_false (by omega);rw[Lp h4];generalize aS p.pl 260=A at *
   simp only[zV,af,ae,aa,seval,iteOmega,toNatUp];refine sC (c3) ?_;simp only[g4,ae,aa,seval,iteOmega,toNatUp];exact aG
theorem XP {l:List Fd} {i:Nat} (h:i<l.length):bG (l.take (i+1))=if (l.getD i default).ty=516 then bG (l.take i)++[(l.getD i default).da] else bG (l.take i):=by
  have e:l.take (i+1)=l.take i++[l.getD i default]:=by
    rw[Zq,Ys,Yn h]; rfl
  unfold bG;rw[e,List.filter_append,YD];by_cases hk:(l.getD i default).ty=516
  ·rw[if_pos hk,List.filter_cons_of_pos (by rw[hk]; rfl)]; rfl
  ·rw[if_neg hk,List.filter_cons_of_neg (by simpa using hk),List.filter_nil,Yv,Yy]
theorem XQ {l:List Fd} {i:Nat} (h:i<l.length) (hk:(l.getD i default).ty=516):(l.getD i default).da∈bG l:=by
  unfold bG;refine YN.2 ⟨_,List.mem_filter.2 ⟨?_,by rw[hk]; rfl⟩,rfl⟩;rw[Ys,Yn h];exact YQ h
theorem WG (l:List Fd):(bG l).length≤l.length:=by
  unfold bG;rw[YI];exact List.length_filter_le _ _
def gw (l:List Fd) (i:Nat):List (Nat×V):=[(3,.w (.c (.d (.int .i64 0)))),(6,.w (.c (.d (.sl (l.map aJ))))),(7,.w (.c (.d (.int .i64 (l.length:Int))))),(8,.w (.c (.d (.int .i64 (i:Int)))))]
def mj (l:List Fd) (i:Nat):List (List UInt8)→St
  | []=>⟨aP ((2,.w (.c .nil))::gw l i),hL [],uL []⟩
  | x::r=>⟨aP ((2,.w (.c (.own 1 1 0 (x::r).length)))::gw l i),hL [(1,.row 1 ((x::r).map fun l=>D.sl (l.map bD)))],uL [1]⟩
def Az (l:List Fd) (i:Nat):St:=mj l i (bG (l.take i))
theorem qO (l:List Fd) (i:Nat):mj l i []=⟨aP ((2,.w (.c .nil))::gw l i),hL [],uL []⟩:=rfl
theorem mQ (l:List Fd) (i:Nat) (x:List UInt8) (r:List (List UInt8)):mj l i (x::r)=⟨aP ((2,.w (.c (.own 1 1 0 (x::r).length)))::gw l i),hL [(1,.row 1 ((x::r).map fun l=>D.sl (l.map bD)))],uL [1]⟩:=rfl
def rz (l:List Fd):Int:=if dI (bG l)=true then 0 else 3
def rA (l:List Fd):List (List UInt8):=if dI (bG l)=true then bG l else []
def kN:aN := .seq (.reg [oO 9 (.bin .lss (.t 8) (.t 7))]) (.seq (.cond (.t 9) (.skip) (.exit 0)) (.seq (.block 1 (.seq (.reg [oO 10 (.idxSl 2 (.t 6) (.t 8)),oO 11 (.load (.ag 2) (.t 10)),oO 5 (.alloc [(.d (.int .i64 0)),.nil]),oN (.store (.ag 2) (.t 5) (.t 11))]) (.seq (.block 2 (.seq (.reg [oO 13 (.fieldAddr 0 (.t 5)),oO 14 (.load .sc (.t 13)),oO 15 (.bin .neq (.t 14) (kI 516)),oM 12 15]) (.cond (.t 12) (.exit 1) (.seq (.reg [oO 17 (.fieldAddr 1 (.t 5)),oO 18 (.load .sc (.t 17)),oO 19 (.call 54 [(.t 18)] none),oO 20 (.un .not (.t 19)),oM 16 20]) (.cond (.t 16) (.seq (.reg [oO 2 (.mv (.k (.c .nil))),oO 3 (.mv (kI 3))]) (.exit 0)) (.skip)))))) (.reg [oM 21 2,oO 22 (.fieldAddr 1 (.t 5)),oO 23 (.load .sc (.t 22)),oO 24 (.bldSl false 1 1 (.sl []) [(0,(.t 23))]),oO 25 (.app false 1 24 (.t 21) (.t 24)),
 oM 2 25])))) (.reg [oO 26 (.bin .add (.t 8) (kI 1)),oM 8 26])))
def Lq:aD:=⟨1,29,.seq (.reg [oO 2 (.mv (.k (.c .nil))),oO 3 (.mv (kI 0))]) (.seq (.skip) (.seq (.seq (.reg [oM 6 0,oO 7 (.len (.t 6)),oO 8 (.mv (kI 0))]) (.block 0 (.loop kN))) (.seq (.reg [oM 27 2,oM 28 3,oM 2 27,oM 3 28]) (.ret)))),[(2,none),(3,none)]⟩
theorem WH:aB Tryz.prog { own:=[],comp:=[],frz:=[],nils:=[] } Tryz.f31=some Lq:=by kernel_rfl
theorem XR (G:ah) (l:List Fd) (hl:l.length≤1000000):au Tryz.prog G 31 [.sl (l.map aJ)] (.tup [.c (.d (.sl ((rA l).map fun x=>D.sl (x.map bD)))),.c (.d (.int .i64 (rz l)))]):=by
  refine aF Tryz.func31 WH rfl rfl ?_;simp only[Lq,af,ae,aa,seval,iteOmega,toNatUp];refine aV (Az l) (fun i=>l.length-i) (fun i=>i≤l.length∧dI (bG (l.take i))=true) 0 ⟨Yt _,rfl⟩ ?_ ?_
  ·refine ap (fun _=>0) ?_ ?_ rfl rfl <;> simp only[gw,wx,aj,ar,aa,seval,iteOmega,toNatUp] <;> first | rfl | exact⟨rfl,rfl⟩ | skip
  ·rintro i ⟨hi,hp⟩;by_cases hlt:i<l.length
   ·have g:=iv hlt;have hn:=XP hlt;have hm:=fun h=>XQ hlt h
    have az:=mA l;have al:=fun (h:dI (bG l)=true)=>kK.1 h
    have e0:Az l i=mj l i (bG (l.take i)):=rfl;rw[e0];have lL:=WG (l.take i);rw[Yu] at lL;clear e0;generalize l.getD i default=y at *
    have c1:=Ao G y.da;by_cases h1:y.ty=516
    ·have g1:(y.ty=516)=True:=eq_true h1;rw[if_pos h1] at hn;by_cases h2:y.da.length=104
     ·rw[beq_iff_eq.2 h2] at c1;have hp':dI (bG (l.take (i+1)))=true:=by
        rw[hn];refine kK.2 fun c hc=>?_
        rcases YM.1 hc with hc | hc
        ·exact kK.1 hp c hc
        ·rw[YA.1 hc]; exact h2
      clear hm al h2;have tl:=congrArg List.length hn;rw[Yr,ZG] at tl;have hx:=hn;have azl:=fa (bG (l.take i));generalize bG (l.take i)=L at *
      rcases L with _ | ⟨x,r⟩
      ·rw[qO];simp only[kN,gw,ae,aa,seval,iteOmega,toNatUp,aC,g,aJ,az,g1];refine sC (c1) ?_;simp only[bH,ae,aa,seval,iteOmega,toNatUp];refine aQ (i+1) (by omega) ⟨by omega,hp'⟩ ?_
       show eM _ (mj l (i+1) (bG (l.take (i+1))))
       rw[hn,Zu,mQ];refine ap (fun _=>200) ?_ ?_ rfl rfl <;> simp only[gw,wx,aj,ar,aa,seval,iteOmega,toNatUp] <;> first | rfl | exact⟨rfl,rfl⟩ | skip
      ·rw[mQ];rw[ZN] at lL;simp only[kN,gw,ae,aa,seval,iteOmega,toNatUp,aC,g,aJ,az,g1];refine sC (c1) ?_;simp only[bH,ae,aa,seval,iteOmega,toNatUp];refine aQ (i+1) (by omega) ⟨by omega,hp'⟩ ?_
       show eM _ (mj l (i+1) (bG (l.take (i+1))))
       rw[hn,Zm,mQ];refine ap (fun _=>200) ?_ ?_ rfl rfl <;> simp only[gw,ZN,Yr,Yp,YD,wx,aj,ar,aa,seval,iteOmega,toNatUp] <;> first | rfl | exact⟨rfl,rfl⟩ | skip
     ·rw[beq_eq_false_iff_ne.2 h2] at c1;have hno:¬ dI (bG l)=true:=fun h=>h2 (al h _ (hm h1))
      rw[show rA l=[] from if_neg hno,show rz l=3 from if_neg hno];clear hm al h2 hno hn hp;generalize bG (l.take i)=L at *
      rcases L with _ | ⟨x,r⟩
      ·rw[qO];simp only[kN,gw,ae,aa,seval,iteOmega,toNatUp,aC,g,aJ,az,g1];refine sD (c1) ?_;exact cF
      ·rw[mQ];simp only[kN,gw,ae,aa,seval,iteOmega,toNatUp,aC,g,aJ,az,g1];refine sD (c1) ?_;exact cF
    ·have g1:(y.ty=516)=False:=eq_false h1;rw[if_neg h1] at hn;have hp':dI (bG (l.take (i+1)))=true:=by rw[hn]; exact hp
     clear hm al;generalize bG (l.take i)=L at *
     rcases L with _ | ⟨x,r⟩
     ·rw[qO];simp only[kN,gw,ae,aa,seval,iteOmega,toNatUp,aC,g,aJ,az,g1];refine aQ (i+1) (by omega) ⟨by omega,hp'⟩ ?_
      show eM _ (mj l (i+1) (bG (l.take (i+1))))
      rw[hn,qO];refine ap (fun i=>i) ?_ ?_ rfl rfl <;> simp only[gw,wx,aj,ar,aa,seval,iteOmega,toNatUp] <;> first | rfl | exact⟨rfl,rfl⟩ | skip
     ·rw[mQ];simp only[kN,gw,ae,aa,seval,iteOmega,toNatUp,aC,g,aJ,az,g1];refine aQ (i+1) (by omega) ⟨by omega,hp'⟩ ?_
      show eM _ (mj l (i+1) (bG (l.take (i+1))))
      rw[hn,mQ];refine ap (fun i=>i) ?_ ?_ rfl rfl <;> simp only[gw,wx,aj,ar,aa,seval,iteOmega,toNatUp] <;> first | rfl | exact⟨rfl,rfl⟩ | skip
   ·obtain rfl:i=l.length:=by omega
    rw[YR] at hp;rw[show rA l=bG l from if_pos hp,show rz l=0 from if_pos hp];unfold Az;rw[YR];have azl:=fa (bG l);generalize bG l=L at *
    rcases L with _ | ⟨x,r⟩
    ·rw[qO];simp only[kN,gw,ae,aa,seval,iteOmega,toNatUp];exact cF
    ·rw[mQ];simp only[kN,gw,ae,aa,seval,iteOmega,toNatUp];exact cF
theorem Uc {P:Program} {G:ah} {Q:AX→St→Prop} {f:Nat→V} {h:aA} {u:Nat→Bool} {t id sz:Nat} {c:aN} {cs:List C} {ds:List D} (hx:f t=.w (.c (.ptr id sz 0 0))) (hi:h id=some (.box cs)) (hd:dF cs=some ds)
    (k:bE P G c Q ⟨upd f t (.w (.c (.rp ds))),upd h id none,u⟩):bE P G (.ghost t c) Q ⟨f,h,u⟩:=by
  show match re ⟨f,h,u⟩ t with | some τ=>_ | none=>False
  unfold re;simp only[hx,hi,hd,ZF];exact k
def MW (p:cn):List D:=[.int .i64 p.hd.lp,.int .i64 p.hd.vr,.int .i64 p.hd.md,.int .i64 p.hd.st,.int .i64 p.hd.pl,.int .i64 p.hd.pr,.int .u32 (p.hd.rd:Int),.int .u32 (p.hd.rp:Int),.int .u32 (p.hd.ri:Int),.int .u64 (p.hd.rf:Int),.int .u64 (p.hd.og:Int),.int .u64 (p.hd.rc:Int),.int .u64 (p.hd.tr:Int),.sl (p.pl.map aJ),.sl (p.se.map aJ),.bool p.gu]
def lV:aD:=⟨3,64,.seq (.reg [oO 3 (.box .roBox (.t 0)),oO 6 (.alloc [.nil,.nil,.nil,.nil,(.d (.int .i64 0)),(.d (.int .i64 0))]),oO 7 (.alloc [(.d (.int .i64 0)),(.d (.int .i64 0)),(.d (.int .i64 0)),(.d (.int .i64 0)),(.d (.int .i64 0)),(.d (.int .i64 0)),(.d (.int .u32 0)),(.d (.int .u32 0)),(.d (.int .u32 0)),(.d (.int .u64 0)),(.d (.int .u64 0)),(.d (.int .u64 0)),(.d (.int .u64 0)),.nil,.nil,(.d (.bool false))]),oO 8 (.mv (kI 0))]) (.seq (.seq (.reg [oO 12 (.load (.ag 6) (.t 3)),oO 13 (.call 21 [(.t 12)] none),oO 14 (.un .not (.t 13)),oM 15 14,oG 16 (.mv (.t 1)) 15 false,oG 17 (.len (.t 16)) 15 false,oG 18 (.bin .neq (.t 17) (kI 32)) 15 false,oO 19 (.pick (.t 15) (.k (.c (.d (.bool true)))) (.t 18))]) (.cond (.t 19) (.seq (.reg [oO 20 (.build [.nil,.nil,.nil,.nil,(.d (.int .i64 0)),(.d (.int .i64 0))] []),
 oO 21 (.build [(.d (.int .i64 0)),(.d (.int .i64 0)),(.d (.int .i64 0)),(.d (.int .i64 0)),(.d (.int .i64 0)),(.d (.int .i64 0)),(.d (.int .u32 0)),(.d (.int .u32 0)),(.d (.int .u32 0)),(.d (.int .u64 0)),(.d (.int .u64 0)),(.d (.int .u64 0)),(.d (.int .u64 0)),.nil,.nil,(.d (.bool false))] []),oN (.store (.ag 6) (.t 6) (.t 20)),oN (.store (.ag 16) (.t 7) (.t 21)),oO 8 (.mv (kI 3))]) (.ret)) (.skip))) (.seq (.reg [oO 23 (.fieldAddr 0 (.t 3)),oO 24 (.fieldAddr 1 (.t 23)),oO 25 (.load .sc (.t 24)),oM 26 2,oO 27 (.call 29 [(.t 25),(.t 26)] none),oM 22 27,oO 28 (.extract (.t 22) 0),oO 29 (.extract (.t 22) 1),oO 9 (.alloc [(.d (.int .i64 0)),(.d (.int .i64 0)),(.d (.int .i64 0)),(.d (.int .i64 0)),(.d (.int .i64 0)),(.d (.int .i64 0)),(.d (.int .u32 0)),(.d (.int .u32 0)),(.d (.int .u32 0)),(.d (.int .u64 0)),(.d (.int .u64 0)),(.d (.int .u64 0)),(.d (.int .u64 0)),.nil,.nil,(.d (.bool false))]),
 oN (.store (.ag 16) (.t 9) (.t 28)),oM 10 29]) (.seq (.seq (.reg [oM 30 10,oO 31 (.bin .neq (.t 30) (kI 0))]) (.cond (.t 31) (.seq (.reg [oO 32 (.build [.nil,.nil,.nil,.nil,(.d (.int .i64 0)),(.d (.int .i64 0))] []),oO 33 (.build [(.d (.int .i64 0)),(.d (.int .i64 0)),(.d (.int .i64 0)),(.d (.int .i64 0)),(.d (.int .i64 0)),(.d (.int .i64 0)),(.d (.int .u32 0)),(.d (.int .u32 0)),(.d (.int .u32 0)),(.d (.int .u64 0)),(.d (.int .u64 0)),(.d (.int .u64 0)),(.d (.int .u64 0)),.nil,.nil,(.d (.bool false))] []),oM 34 10,oN (.store (.ag 6) (.t 6) (.t 32)),oN (.store (.ag 16) (.t 7) (.t 33)),oM 8 34]) (.ret)) (.skip))) (.seq (.seq (.reg [oO 35 (.fieldAddr 0 (.t 9)),oO 36 (.fieldAddr 2 (.t 35)),oO 37 (.load .sc (.t 36)),oO 38 (.bin .neq (.t 37) (kI 4))]) (.cond (.t 38) (.seq (.reg [oO 39 (.build [.nil,.nil,.nil,.nil,(.d (.int .i64 0)),(.d (.int .i64 0))] []),
 oO 40 (.build [(.d (.int .i64 0)),(.d (.int .i64 0)),(.d (.int .i64 0)),(.d (.int .i64 0)),(.d (.int .i64 0)),(.d (.int .i64 0)),(.d (.int .u32 0)),(.d (.int .u32 0)),(.d (.int .u32 0)),(.d (.int .u64 0)),(.d (.int .u64 0)),(.d (.int .u64 0)),(.d (.int .u64 0)),.nil,.nil,(.d (.bool false))] []),oN (.store (.ag 6) (.t 6) (.t 39)),oN (.store (.ag 16) (.t 7) (.t 40)),oO 8 (.mv (kI 3))]) (.ret)) (.skip))) (.seq (.seq (.reg [oO 41 (.fieldAddr 13 (.t 9)),oO 42 (.load .sc (.t 41)),oM 43 1,oO 44 (.call 30 [(.t 42),(.t 43)] none),oO 45 (.un .not (.t 44))]) (.cond (.t 45) (.seq (.reg [oO 46 (.build [.nil,.nil,.nil,.nil,(.d (.int .i64 0)),(.d (.int .i64 0))] []),oO 47 (.build [(.d (.int .i64 0)),(.d (.int .i64 0)),(.d (.int .i64 0)),(.d (.int .i64 0)),(.d (.int .i64 0)),(.d (.int .i64 0)),(.d (.int .u32 0)),(.d (.int .u32 0)),(.d (.int .u32 0)),(.d (.int .u64 0)),(.d (.int .u64 0)),(.d (.int .u64 0)),(.d (.int .u64 0)),.nil,.nil,(.d (.bool false))] []),
 oN (.store (.ag 6) (.t 6) (.t 46)),oN (.store (.ag 16) (.t 7) (.t 47)),oO 8 (.mv (kI 7))]) (.ret)) (.skip))) (.seq (.reg [oO 49 (.fieldAddr 14 (.t 9)),oO 50 (.load .sc (.t 49)),oO 51 (.call 31 [(.t 50)] none),oM 48 51,oO 52 (.extract (.t 48) 0),oO 53 (.extract (.t 48) 1),oM 11 52,oM 10 53]) (.seq (.seq (.reg [oM 54 10,oO 55 (.bin .neq (.t 54) (kI 0))]) (.cond (.t 55) (.seq (.reg [oO 56 (.build [.nil,.nil,.nil,.nil,(.d (.int .i64 0)),(.d (.int .i64 0))] []),oO 57 (.build [(.d (.int .i64 0)),(.d (.int .i64 0)),(.d (.int .i64 0)),(.d (.int .i64 0)),(.d (.int .i64 0)),(.d (.int .i64 0)),(.d (.int .u32 0)),(.d (.int .u32 0)),(.d (.int .u32 0)),(.d (.int .u64 0)),(.d (.int .u64 0)),(.d (.int .u64 0)),(.d (.int .u64 0)),.nil,.nil,(.d (.bool false))] []),oM 58 10,oN (.store (.ag 6) (.t 6) (.t 56)),
 oN (.store (.ag 16) (.t 7) (.t 57)),oM 8 58]) (.ret)) (.skip))) (.seq (.ghost 9 (.reg [oO 59 (.loadX (.ag 6) (.t 3) []),oO 60 (.call 33 [(.t 59)] (some (2,1))),oM 61 11,oO 62 (.callM 32 [(.t 60),(.t 61)]),oO 63 (.loadX (.ag 16) (.t 9) []),oN (.store (.ag 6) (.t 6) (.t 62)),oN (.store (.ag 16) (.t 7) (.t 63)),oO 8 (.mv (kI 0))])) (.ret))))))))),[(6,(some (.ag 6))),(7,(some (.ag 16))),(8,none)]⟩
theorem WI:aB Tryz.prog { own:=[],comp:=[(60,1002)],frz:=[],nils:=[],lx:=[(59,[]),(63,[])],mt:=[62],gh:=[(13,9)] } Tryz.f9=some lV:=by kernel_rfl
theorem XS (G:ah) (j:Jr) (u b:List UInt8) (hb:b.length≤9000000000000000000):au Tryz.prog G 9 [aW j,.sl (u.map bD),.sl (b.map bD)] (.tup [.c (.d (aW (jT j u b))),.c (.d (a9 (jl j u b))),.c (.d (.int .i64 (ei j u b)))]):=by
  refine aF Tryz.func9 WI rfl rfl ?_;have c1:=vg G j;by_cases v:cK j
  ·rw[decide_eq_true v] at c1;by_cases h1:u.length=32
   ·have g1:((u.length:Int)=32)=True:=eq_true (by omega);have e0:ei j u b=if fo j.dn b≠0 then fo j.dn b else if (ee j.dn b).hd.md≠4 then 3 else if lH u b (ee j.dn b)=false then 7 else if dI (bG (ee j.dn b).se)=true then 0 else 3:=by unfold ei; rw[if_neg (fun h=>h.elim (· v) (· h1))]
    have no:=fun (e:Int) (h:ei j u b=e) (he:e≠0)=>oR (u:=u) h he
    have yes:ei j u b=0→jT j u b=lE j (bG (ee j.dn b).se)∧jl j u b=ee j.dn b:=fun h=>⟨if_pos h,if_pos h⟩
    obtain⟨v1,v2,v3,v4,v5⟩:=kV v;have c2:=Wn G j.dn b (by omega) hb;obtain⟨p1,p2⟩:=Ay (key:=j.dn) (b:=b);generalize ee j.dn b=p at *
    generalize fo j.dn b=q at *
    generalize ei j u b=e at *
    generalize jT j u b=J at *
    generalize jl j u b=P at *
    by_cases h2:q=0
    ·have g2:(q=0)=True:=eq_true h2;rw[if_neg (not_not_intro h2)] at e0;by_cases h3:p.hd.md=4
     ·have g3:(p.hd.md=4)=True:=eq_true h3;rw[if_neg (not_not_intro h3)] at e0;have c3:=XO G p u b (by omega);cases h5:lH u b p
      ·rw[h5] at c3 e0;rw[if_pos rfl] at e0;obtain⟨rfl,rfl⟩:=no _ e0 (by decide);subst e0;clear no yes;rw[iF];unfold aW cC at *
       try unfold a9 at *
       simp only[lV,af,ae,aa,seval,iteOmega,toNatUp];refine sC (c1) ?_;simp only[g1,ae,aa,seval,iteOmega,toNatUp];refine sC (c2) ?_;simp only[g2,g3,ae,aa,seval,iteOmega,toNatUp];refine sD (c3) ?_;exact bP
      ·rw[h5] at c3 e0;rw[if_neg (by decide)] at e0;have c4:=XR G p.se (by omega);have hl:(bG p.se).length≤24:=by
         rw[← yW,tR (Yz _)];have:=Lo p.se 516;omega
       by_cases hA:dI (bG p.se)=true
       ·rw[if_pos hA] at e0;obtain⟨yJ,yP⟩:=yes e0;rw[show rA p.se=bG p.se from if_pos hA,show rz p.se=0 from if_pos hA] at c4;have a4:=kK.1 hA;have c5:=MA G j (by omega) (by omega) (by omega) (fun c hc=>by have:=v5 c hc; omega) (by omega);have c6:=XD G j (bG p.se) v3 (fun c hc=>by have:=a4 c hc; omega) (by omega);rw[yJ,yP,e0];clear no yes;unfold lE;generalize bG p.se=C at *
        have az:=fa (cD j.la j.ck C);unfold rK at c5;unfold aW at *
        unfold a9 at *
        simp only[lV,af,ae,aa,seval,iteOmega,toNatUp];refine sC (c1) ?_;simp only[g1,ae,aa,seval,iteOmega,toNatUp];refine sC (c2) ?_;simp only[g2,g3,ae,aa,seval,iteOmega,toNatUp];refine sD (c3) ?_;refine sD (c4) ?_;refine Uc (id:=72) (sz:=1) (cs:=jc p) (ds:=MW p) rfl rfl rfl ?_;simp only[MW,ae,aa,seval,iteOmega,toNatUp];refine sD (c5) ?_;refine k7 [.mix (jU j 480 j.ck.length),.c (.d (.sl (ml C)))] [(1,480),(3,1000)] c6 ?_ ?_ ?_ rfl rfl ?_
        ·simp only[jU,ml,ae,aa,seval,iteOmega,toNatUp] <;> rfl
        ·simp only[jU,ae,aa,seval,iteOmega,toNatUp,bV,MB,Yp,Yv]
        ·simp only[ib,ml,wx,aj,ar,aa,seval,iteOmega,toNatUp,bV]
        ·simp only[jU,ml,ae,aa,seval,iteOmega,toNatUp,bV,MB,Yp,Yv];exact bP
       ·rw[if_neg hA] at e0;obtain⟨rfl,rfl⟩:=no _ e0 (by decide);rw[show rA p.se=[] from if_neg hA,show rz p.se=3 from if_neg hA] at c4;rw[e0];clear no yes;rw[iF];unfold aW cC at *
        try unfold a9 at *
        simp only[lV,af,ae,aa,seval,iteOmega,toNatUp];refine sC (c1) ?_;simp only[g1,ae,aa,seval,iteOmega,toNatUp];refine sC (c2) ?_;simp only[g2,g3,ae,aa,seval,iteOmega,toNatUp];refine sD (c3) ?_;refine sD (c4) ?_;exact bP
     ·have g3:(p.hd.md=4)=False:=eq_false h3;rw[if_pos h3] at e0;obtain⟨rfl,rfl⟩:=no _ e0 (by decide);subst e0;clear no yes;rw[iF];unfold aW cC at *
      try unfold a9 at *
      simp only[lV,af,ae,aa,seval,iteOmega,toNatUp];refine sC (c1) ?_;simp only[g1,ae,aa,seval,iteOmega,toNatUp];refine sC (c2) ?_;simp only[g2,g3,ae,aa,seval,iteOmega,toNatUp];exact bP
    ·have g2:(q=0)=False:=eq_false h2;rw[if_pos h2] at e0;obtain⟨rfl,rfl⟩:=no _ e0 h2;subst e0;clear no yes;rw[iF];unfold aW cC at *
     try unfold a9 at *
     simp only[lV,af,ae,aa,seval,iteOmega,toNatUp];refine sC (c1) ?_;simp only[g1,ae,aa,seval,iteOmega,toNatUp];refine sC (c2) ?_;simp only[g2,ae,aa,seval,iteOmega,toNatUp];exact bP
   ·have g1:((u.length:Int)=32)=False:=eq_false (by omega);have e:ei j u b=3:=by unfold ei; rw[if_pos (.inr h1)]
    obtain⟨q1,q2⟩:=oR e (by decide);rw[q1,q2,e];rw[iF];unfold aW cC at *
    try unfold a9 at *
    simp only[lV,af,ae,aa,seval,iteOmega,toNatUp];refine sC (c1) ?_;simp only[g1,ae,aa,seval,iteOmega,toNatUp];exact bP
  ·rw[decide_eq_false v] at c1;have e:ei j u b=3:=by unfold ei; rw[if_pos (.inl v)]
   obtain⟨q1,q2⟩:=oR e (by decide);rw[q1,q2,e];rw[iF];unfold aW cC at *
   try unfold a9 at *
   simp only[lV,af,ae,aa,seval,iteOmega,toNatUp];refine sD (c1) ?_;exact bP
def pw (s:Int):List UInt8:=(il s 64).take 32
def px (s:Int):List UInt8:=(il s 64).drop 32
theorem yX (s:Int):(pw s).length=32:=by
  unfold pw;rw[Yu,rU]; rfl
theorem IY (s:Int):(px s).length=32:=by
  unfold px;rw[Yw,rU]; rfl
def Lu:aD:=⟨1,11,.seq (.reg [oO 2 (.alloc [.nil,.nil])]) (.seq (.reg [oM 4 0,oO 5 (.call 16 [(.t 4),(kI 64)] none),oM 3 5]) (.seq (.reg [oM 6 3,oO 7 (.slice 1 (.t 6) none (some (kI 32)) none),oM 8 3,oO 9 (.slice 1 (.t 8) (some (kI 32)) none none),oO 10 (.build [.nil,.nil] [(0,1,(.t 7)),(1,1,(.t 9))]),oN (.store (.ag 2) (.t 2) (.t 10))]) (.ret))),[(2,(some (.ag 2)))]⟩
theorem WW:aB Tryz.prog { own:=[],comp:=[],frz:=[],nils:=[] } Tryz.f39=some Lu:=by kernel_rfl
theorem XU (G:ah) (s:Int):au Tryz.prog G 39 [.int .i64 s] (.w (.c (.d (.agg [.sl ((pw s).map bD),.sl ((px s).map bD)])))):=by
  refine aF Tryz.func39 WW rfl rfl ?_;have c1:=Gg G s 64 (by decide);have hl:(il s 64).length=64:=rU _ _;unfold pw px;have t1:((il s 64).drop 32).take 32=(il s 64).drop 32:=Yo (by simp; omega);generalize il s 64=B at *
  simp only[Lu,af,ae,aa,seval,iteOmega,toNatUp];refine sC (c1) ?_;simp only[hl,t1,ae,aa,seval,iteOmega,toNatUp];exact aG
def py (s i:Nat):List UInt8:=il ((s+1000003*(i+1):Nat):Int) 104
def gB (s n:Nat):List (List UInt8):=(List.range n).map (py s)
theorem XV (s n:Nat):gB s (n+1)=gB s n++[py s n]:=by
  unfold gB;rw[ZW,YD]; rfl
theorem IZ (s n:Nat):(gB s n).length=n:=by
  unfold gB;rw[YI,ZB]
theorem tS (s i:Nat):(py s i).length=104:=rU _ _
def dj (s n:Nat):Jr:=⟨pw (s:Int),px (s:Int),gB s n,[],1,0⟩
def lr:Ob:=.box [.nil,.nil,.nil,.nil,.d (.int .i64 0),.d (.int .i64 0)]
def lu (s:Nat) (k:C):Ob:=.box [.d (.sl ((pw (s:Int)).map bD)),.d (.sl ((px (s:Int)).map bD)),k,.nil,.d (.int .i64 1),.d (.int .i64 0)]
def lI (s:Nat) (n:Int) (i:Nat):List (Nat×V):=[(0,.w (.c (.d (.int .i64 (s:Int))))),(1,.w (.c (.d (.int .i64 n)))),(4,.w (.c (.ptr 3 1 0 0))),(5,.w (.c (.ptr 1 1 0 0))),(6,.w (.c (.d (.int .i64 (i:Int)))))]
def ng (s:Nat) (n:Int):Nat→St
  | 0=>⟨aP (lI s n 0),hL [(1,lu s .nil),(3,lr)],uL [1,3]⟩
  | i+1=>⟨aP (lI s n (i+1)),hL [(1,lu s (.own 2 1 0 (gB s (i+1)).length)),(2,.row 1 ((gB s (i+1)).map fun l=>D.sl (l.map bD))),(3,lr)],uL [1,2,3]⟩
def qe:aN := .seq (.seq (.reg [oM 10 6,oM 11 1,oO 12 (.call 14 [(.t 11),(kI 9)] none),oO 13 (.bin .lss (.t 10) (.t 12))]) (.cond (.t 13) (.skip) (.exit 0))) (.seq (.block 1 (.reg [oO 16 (.fieldAddr 2 (.t 5)),oO 17 (.load .sc (.t 16)),oM 18 0,oM 19 6,oO 20 (.bin .add (.t 19) (kI 1)),oO 21 (.bin .mul (kI 1000003) (.t 20)),oO 22 (.bin .add (.t 18) (.t 21)),oO 23 (.call 16 [(.t 22),(kI 104)] none),oO 24 (.bldSl false 1 1 (.sl []) [(0,(.t 23))]),oO 25 (.app false 1 24 (.t 17) (.t 24)),oO 26 (.fieldAddr 2 (.t 5)),oN (.store .sc (.t 26) (.t 25))])) (.reg [oM 14 6,oO 15 (.bin .add (.t 14) (kI 1)),oM 6 15]))
def Lv:aD:=⟨2,28,.seq (.reg [oO 4 (.alloc [.nil,.nil,.nil,.nil,(.d (.int .i64 0)),(.d (.int .i64 0))])]) (.seq (.reg [oM 7 0,oO 8 (.call 39 [(.t 7)] none),oO 9 (.build [.nil,.nil,.nil,.nil,(.d (.int .i64 0)),(.d (.int .i64 0))] [(0,2,(.t 8)),(4,1,(kI 1))]),oO 5 (.alloc [.nil,.nil,.nil,.nil,(.d (.int .i64 0)),(.d (.int .i64 0))]),oN (.store (.ag 6) (.t 5) (.t 9))]) (.seq (.seq (.reg [oO 6 (.mv (kI 0))]) (.block 0 (.loop qe))) (.seq (.reg [oO 27 (.load (.ag 6) (.t 5)),oN (.store (.ag 6) (.t 4) (.t 27))]) (.ret)))),[(4,(some (.ag 6)))]⟩
theorem WX:aB Tryz.prog { own:=[],comp:=[],frz:=[],nils:=[] } Tryz.f15=some Lv:=by kernel_rfl
theorem XW (G:ah) (s:Nat) (n:Int) (hs:s≤1000000) (N:Nat) (hN:nX n 9=(N:Int)):au Tryz.prog G 15 [.int .i64 (s:Int),.int .i64 n] (.w (.c (.d (aW (dj s N))))):=by
  refine aF Tryz.func15 WX rfl rfl ?_;have c1:=XU G (s:Int);have r0:=NC n 9 (by decide);have c2:=Rv G n 9 (by decide);rw[hN] at c2 r0;unfold aW dj;dsimp only;simp only[Lv,af,ae,aa,seval,iteOmega,toNatUp];refine sD (c1) ?_;refine aV (ng s n) (fun i=>N-i) (fun i=>i≤N) 0 (Yt _) ?_ ?_
  ·refine ap (fun i=>if i=1 then 40 else 32) ?_ ?_ rfl rfl <;> simp only[lI,lu,lr,wx,aj,ar,aa,seval,iteOmega,toNatUp] <;> first | rfl | exact⟨rfl,rfl⟩ | skip
  ·intro i hi;clear c1;have tl:=IZ s i;have az:=fa (gB s i);by_cases hlt:i<N
   ·have g1:((i:Int)<(N:Int))=True:=eq_true (by omega);have c3:=Gg G ((s+1000003*(i+1):Nat):Int) 104 (by decide);have ec:(s:Int)+1000003*((i:Int)+1)=((s+1000003*(i+1):Nat):Int):=by omega
    have hn:=XV s i;rw[show il ((s+1000003*(i+1):Nat):Int) 104=py s i from rfl] at c3;generalize py s i=x at *
    rcases i with _ | i
    ·have e1:gB s (0+1)=[x]:=hn;simp only[qe,ng,lI,lu,lr,ae,aa,seval,iteOmega,toNatUp];refine sC (c2) ?_;simp only[g1,ec,ae,aa,seval,iteOmega,toNatUp];refine sC (c3) ?_;simp only[bH,ae,aa,seval,iteOmega,toNatUp];refine aQ (0+1) (by omega) (by omega) (ap (fun i=>if i=1 then 1 else if i=2 then 200 else 3) ?_ ?_ rfl rfl) <;> simp only[ng,lI,lu,lr,e1,wx,aj,ar,aa,seval,iteOmega,toNatUp] <;> first | rfl | exact⟨rfl,rfl⟩ | skip
    ·simp only[qe,ng,lI,lu,lr,ae,aa,seval,iteOmega,toNatUp,tl];refine sC (c2) ?_;simp only[g1,ec,ae,aa,seval,iteOmega,toNatUp];refine sC (c3) ?_;simp only[bH,tl,ae,aa,seval,iteOmega,toNatUp];refine aQ (i+1+1) (by omega) (by omega) (ap (fun i=>if i=1 then 1 else if i=2 then 200 else 3) ?_ ?_ rfl rfl) <;> simp only[ng,lI,lu,lr,hn,YD,tl,wx,aj,ar,aa,seval,iteOmega,toNatUp] <;> first | rfl | exact⟨rfl,rfl⟩ | skip
   ·obtain rfl:i=N:=by omega
    have g1:((i:Int)<(i:Int))=False:=eq_false (by omega);rcases i with _ | i
    ·have e0:gB s 0=[]:=rfl;rw[e0];simp only[qe,ng,lI,lu,lr,ae,aa,seval,iteOmega,toNatUp];refine sC (c2) ?_;simp only[g1,ae,aa,seval,iteOmega,toNatUp];exact aG
    ·simp only[qe,ng,lI,lu,lr,ae,aa,seval,iteOmega,toNatUp];refine sC (c2) ?_;simp only[g1,ae,aa,seval,iteOmega,toNatUp];exact aG
theorem Yf {s N:Nat} (hN:N≤8):iA (dj s N):=by
  refine⟨yX _,IY _,?_,.inl rfl,qL.2 fun h=>?_,by show (0:Int)≤1; decide,by show (0:Int)≤0; decide,by show (0:Int)≤_; decide⟩
  ·show (gB s N).length≤8
   rw[IZ]; exact hN
  ·obtain⟨i,_,hi⟩:=YN.1 (show []∈gB s N from h);have:=tS s i;rw[hi] at this;cases this
theorem WY {s N:Nat}:∀ c∈(dj s N).ck,c.length=104:=fun c hc=>by
  obtain⟨i,_,rfl⟩:=YN.1 (show c∈gB s N from hc);exact tS s i
theorem XX (s N:Nat):(gB s (N+1)).getD 0 []=py s 0:=by
  unfold gB;rw[List.range_succ_eq_map,Yp]; rfl
theorem Lw:(cY (dj 1 1)).la.length=104:=by
  rw[show (cY (dj 1 1)).la=(gB 1 (0+1)).getD 0 [] from rfl,XX,tS]
theorem Lx:(cY (dj 1 1)).ck=[]:=rfl
theorem WZ:cK (cY (dj 1 1)):=by
  refine nT.2 ⟨⟨yX _,IY _,?_,.inr Lw,?_,show (0:Int)≤1 by decide,show (0:Int)≤0+1 by decide,show (0:Int)+1≤1099511627776 by decide⟩,?_,?_⟩ <;> rw[Lx]
  ·exact Yt _
  ·rfl
  ·exact fun c hc=>by cases hc
  ·exact List.Pairwise.nil
theorem Yg:cK (dj 1 1):=nT.2 ⟨Yf (by decide),WY,List.pairwise_singleton _ _⟩
def Ck:aD:=⟨0,46,.seq (.reg [oO 0 (.mv (.k (.c (.d (.bool false)))))]) (.seq (.reg [oO 7 (.call 15 [(kI 1),(kI 1)] none),oO 8 (.make false 1 1 (.int .u8 0) (kI 32) (kI 32)),oO 9 (.make false 1 1 (.int .u8 0) (kI 16) (kI 16)),oO 10 (.call 7 [(.t 7),(.k (.c (.d (.int .u64 5)))),(.t 8),(.t 9)] none),oM 6 10,oO 11 (.extract (.t 6) 0),oO 12 (.extract (.t 6) 1),oO 13 (.extract (.t 6) 2),oO 1 (.alloc [.nil,.nil,.nil,.nil,(.d (.int .i64 0)),(.d (.int .i64 0))]),oN (.store (.ag 6) (.t 1) (.t 11)),oM 2 12,oM 3 13]) (.seq (.reg [oO 15 (.load (.ag 6) (.t 1)),oO 16 (.call 17 [(.t 15)] none),oM 14 16,oO 17 (.extract (.t 14) 0),oO 18 (.extract (.t 14) 1),oM 4 17,oM 5 18]) (.seq (.reg [oM 19 3,oO 20 (.bin .eql (.t 19) (kI 0)),oM 21 20,oG 22 (.mv (.t 5)) 21 true,oG 23 (.bin .eql (.t 22) (kI 0)) 21 true,
 oO 24 (.pick (.t 21) (.t 23) (.k (.c (.d (.bool false))))),oM 25 24,oG 26 (.mv (.t 2)) 25 true,oG 27 (.len (.t 26)) 25 true,oG 28 (.bin .eql (.t 27) (kI 988)) 25 true,oO 29 (.pick (.t 25) (.t 28) (.k (.c (.d (.bool false))))),oM 30 29,oG 31 (.mv (.t 4)) 30 true,oG 32 (.bin .eql (.t 31) (kI 8)) 30 true,oO 33 (.pick (.t 30) (.t 32) (.k (.c (.d (.bool false))))),oM 34 33,oG 35 (.fieldAddr 2 (.t 1)) 34 true,oG 36 (.load .sc (.t 35)) 34 true,oG 37 (.len (.t 36)) 34 true,oG 38 (.bin .eql (.t 37) (kI 0)) 34 true,oO 39 (.pick (.t 34) (.t 38) (.k (.c (.d (.bool false))))),oM 40 39,oG 41 (.fieldAddr 3 (.t 1)) 40 true,oG 42 (.load .sc (.t 41)) 40 true,oG 43 (.len (.t 42)) 40 true,oG 44 (.bin .eql (.t 43) (kI 104)) 40 true,oO 45 (.pick (.t 40) (.t 44) (.k (.c (.d (.bool false))))),oM 0 45]) (.ret)))),
 [(0,none)]⟩
theorem OA:aB Tryz.prog { own:=[],comp:=[],frz:=[8,9],nils:=[] } Tryz.f6=some Ck:=by kernel_rfl
theorem PO (G:ah):au Tryz.prog G 6 [] (.w (.c (.d (.bool true)))):=by
  refine aF Tryz.func6 OA rfl rfl ?_;have c1:=XW G 1 1 (by decide) 1 (by decide);have v:=Yg;have kl:(dj 1 1).ck.length=1:=rfl;have e0:cL (dj 1 1)=0:=by unfold cL; rw[if_neg (not_not_intro v),if_neg (by rw[kl]; decide),if_neg (show ¬ (dj 1 1).sn=1099511627776 from fun h=>absurd (show (0:Int)=1099511627776 from h) (by decide))]
  have e1:eI (dj 1 1) (List.replicate 32 0) (List.replicate 16 0)=0:=by unfold eI; rw[if_neg (fun h=>h.elim (· v) (fun h=>h.elim (· YK) (· YK))),e0]
  have c2:=MU G (dj 1 1) 5 (List.replicate 32 0) (List.replicate 16 0) (by decide);rw[show jS (dj 1 1) (List.replicate 32 0) (List.replicate 16 0)=cY (dj 1 1) from if_pos e1,show lG (dj 1 1) 5 (List.replicate 32 0) (List.replicate 16 0)=fF (dj 1 1).up (eh (dj 1 1) 5 (List.replicate 32 0)) (List.replicate 16 0) from if_pos e1,e1] at c2;obtain⟨_,ql⟩:=As (key:=(dj 1 1).up) (u:=List.replicate 32 0) (c:=(dj 1 1).ck.getD 0 []) (n:=List.replicate 16 0) (t:=5) (k:=7) (yX _) YK (tS _ _) YK (by decide);have hq:eh (dj 1 1) 5 (List.replicate 32 0)=⟨fO 5,bX (List.replicate 32 0) ((dj 1 1).ck.getD 0 []) 7,[],false⟩:=by unfold eh; rw[kl]
  rw[← hq] at ql;have ql:=ql.trans (show 232+108*7=988 by decide);have c3:=MC G (cY (dj 1 1));have tv:=WZ;rw[show rI (cY (dj 1 1))=8 from if_pos tv,show rH (cY (dj 1 1))=0 from if_pos tv] at c3;have la:=Lw;have ck:=Lx;have z32:((List.replicate 32 (0:UInt8)).map bD)=List.replicate 32 (.int .u8 0):=by rw[Z0]; rfl
  have eC:((List.replicate 16 (0:UInt8)).map bD)=List.replicate 16 (.int .u8 0):=by rw[Z0]; rfl
  clear tv e0 e1 v kl;generalize fF (dj 1 1).up (eh (dj 1 1) 5 (List.replicate 32 0)) (List.replicate 16 0)=B at *
  generalize cY (dj 1 1)=T at *
  generalize dj 1 1=W at *
  rw[z32,eC] at c2;simp only[List.replicate] at c2;unfold aW at *
  rw[ck] at c2 c3;simp only[Yv] at c2 c3;have gq:((B.length:Int)=988)=True:=eq_true (by omega);have gl:((T.la.length:Int)=104)=True:=eq_true (by omega);simp only[Ck,af,ae,aa,seval,iteOmega,toNatUp];refine sD (c1) ?_;refine sD (c2) ?_;refine sC (c3) ?_;simp only[gq,gl,ae,aa,seval,iteOmega,toNatUp];exact aG
def mm (j:Jr):Bool:=decide (j.ck.length≤12∧j.up.length≤60∧j.dn.length≤60∧j.la.length≤200)&&j.ck.all fun c=>decide (c.length≤200)
theorem XY {j:Jr} (h:mm j=true):(j.ck.length≤12∧j.up.length≤60∧j.dn.length≤60∧j.la.length≤200)∧∀ c∈j.ck,c.length≤200:=by
  unfold mm at h;rw[YS,YB] at h;exact⟨of_decide_eq_true h.1,fun r hr=>of_decide_eq_true (h.2 r hr)⟩
def uA (j:Jr) (i:Nat):St:=⟨aP [(1,.w (.c (.rp (bp j)))),(3,.w (.c (.d (.int .i64 (i:Int)))))],hL [],uL []⟩
def rV:aN := .seq (.seq (.reg [oM 28 3,oO 29 (.fieldAddr 2 (.t 1)),oO 30 (.load .sc (.t 29)),oO 31 (.len (.t 30)),oO 32 (.bin .lss (.t 28) (.t 31))]) (.cond (.t 32) (.skip) (.exit 0))) (.seq (.block 1 (.seq (.reg [oO 35 (.fieldAddr 2 (.t 1)),oO 36 (.load .sc (.t 35)),oM 37 3,oO 38 (.idxSl 1 (.t 36) (.t 37)),oO 39 (.load .sc (.t 38)),oO 40 (.len (.t 39)),oO 41 (.bin .gtr (.t 40) (kI 200))]) (.cond (.t 41) (.seq (.reg [oO 2 (.mv (.k (.c (.d (.bool false)))))]) (.ret)) (.skip)))) (.reg [oM 33 3,oO 34 (.bin .add (.t 33) (kI 1)),oM 3 34]))
def nL:aD:=⟨1,42,.seq (.reg [oO 1 (.box .roBox (.t 0)),oO 2 (.mv (.k (.c (.d (.bool false)))))]) (.seq (.seq (.reg [oO 4 (.fieldAddr 2 (.t 1)),oO 5 (.load .sc (.t 4)),oO 6 (.len (.t 5)),oO 7 (.bin .gtr (.t 6) (kI 12)),oM 8 7,oG 9 (.fieldAddr 0 (.t 1)) 8 false,oG 10 (.fieldAddr 0 (.t 9)) 8 false,oG 11 (.load .sc (.t 10)) 8 false,oG 12 (.len (.t 11)) 8 false,oG 13 (.bin .gtr (.t 12) (kI 60)) 8 false,oO 14 (.pick (.t 8) (.k (.c (.d (.bool true)))) (.t 13)),oM 15 14,oG 16 (.fieldAddr 0 (.t 1)) 15 false,oG 17 (.fieldAddr 1 (.t 16)) 15 false,oG 18 (.load .sc (.t 17)) 15 false,oG 19 (.len (.t 18)) 15 false,oG 20 (.bin .gtr (.t 19) (kI 60)) 15 false,oO 21 (.pick (.t 15) (.k (.c (.d (.bool true)))) (.t 20)),oM 22 21,oG 23 (.fieldAddr 3 (.t 1)) 22 false,oG 24 (.load .sc (.t 23)) 22 false,oG 25 (.len (.t 24)) 22 false,
 oG 26 (.bin .gtr (.t 25) (kI 200)) 22 false,oO 27 (.pick (.t 22) (.k (.c (.d (.bool true)))) (.t 26))]) (.cond (.t 27) (.seq (.reg [oO 2 (.mv (.k (.c (.d (.bool false)))))]) (.ret)) (.skip))) (.seq (.seq (.reg [oO 3 (.mv (kI 0))]) (.block 0 (.loop rV))) (.seq (.reg [oO 2 (.mv (.k (.c (.d (.bool true)))))]) (.ret)))),[(2,none)]⟩
theorem Rx:aB Tryz.prog { own:=[],comp:=[],frz:=[],nils:=[] } Tryz.f5=some nL:=by kernel_rfl
theorem Ui (G:ah) (j:Jr):au Tryz.prog G 5 [aW j] (.w (.c (.d (.bool (mm j))))):=by
  refine aF Tryz.func5 Rx rfl rfl ?_;have no:¬ (j.ck.length≤12∧j.up.length≤60∧j.dn.length≤60∧j.la.length≤200)→mm j=false:=fun h=>by unfold mm; rw[decide_eq_false h,Bool.false_and]
  unfold aW;by_cases h1:12<j.ck.length
  ·have g1:((j.ck.length:Int)>12)=True:=eq_true (by omega);rw[no (by omega)];simp only[nL,af,ae,aa,seval,iteOmega,toNatUp,g1];exact aG
  ·have g1:((j.ck.length:Int)>12)=False:=eq_false (by omega);by_cases h2:60<j.up.length
   ·have g2:((j.up.length:Int)>60)=True:=eq_true (by omega);rw[no (by omega)];simp only[nL,af,ae,aa,seval,iteOmega,toNatUp,g1,g2];exact aG
   ·have g2:((j.up.length:Int)>60)=False:=eq_false (by omega);by_cases h3:60<j.dn.length
    ·have g3:((j.dn.length:Int)>60)=True:=eq_true (by omega);rw[no (by omega)];simp only[nL,af,ae,aa,seval,iteOmega,toNatUp,g1,g2,g3];exact aG
    ·have g3:((j.dn.length:Int)>60)=False:=eq_false (by omega);by_cases h4:200<j.la.length
     ·have g4:((j.la.length:Int)>200)=True:=eq_true (by omega);rw[no (by omega)];simp only[nL,af,ae,aa,seval,iteOmega,toNatUp,g1,g2,g3,g4];exact aG
     ·have g4:((j.la.length:Int)>200)=False:=eq_false (by omega);have e:mm j=j.ck.all fun c=>decide (c.length≤200):=by unfold mm; rw[decide_eq_true (by omega),Bool.true_and]
      rw[e];simp only[nL,af,ae,aa,seval,iteOmega,toNatUp,g1,g2,g3,g4];refine aV (uA j) (fun i=>j.ck.length-i) (fun i=>i≤j.ck.length∧∀ r∈j.ck.take i,r.length≤200) 0 ⟨Yt _,by rw[Zs]; exact fun r hr=>by cases hr⟩ ?_ ?_
      ·refine ap (fun _=>0) ?_ ?_ rfl rfl <;> simp only[bp,wx,aj,ar,aa,seval,iteOmega,toNatUp] <;> first | rfl | exact⟨rfl,rfl⟩ | skip
      ·rintro i ⟨hi,hp⟩;by_cases hlt:i<j.ck.length
       ·have g:=iP hlt;have hm:=iz hlt;have hs:=nk hlt;generalize j.ck.getD i []=x at *
        by_cases h5:200<x.length
        ·have g5:((x.length:Int)>200)=True:=eq_true (by omega);rw[show (j.ck.all fun c=>decide (c.length≤200))=false from List.all_eq_false.2 ⟨x,hm,fun q=>by have:=of_decide_eq_true q; omega⟩];simp only[rV,uA,bp,ae,aa,seval,iteOmega,toNatUp,aC,g,g5];exact aG
        ·have g5:((x.length:Int)>200)=False:=eq_false (by omega);have hn:∀ r∈j.ck.take (i+1),r.length≤200:=by
           rw[hs];intro r hr;rcases YM.1 hr with hr | hr
           ·exact hp r hr
           ·rw[YA.1 hr]; omega
         simp only[rV,uA,bp,ae,aa,seval,iteOmega,toNatUp,aC,g,g5];refine aQ (i+1) (by omega) ⟨by omega,hn⟩ (ap (fun i=>i) ?_ ?_ rfl rfl) <;> simp only[bp,wx,aj,ar,aa,seval,iteOmega,toNatUp] <;> first | rfl | exact⟨rfl,rfl⟩ | skip
       ·rw[Yo (by omega)] at hp;rw[YB.2 fun r hr=>decide_eq_true (hp r hr)];simp only[rV,uA,bp,ae,aa,seval,iteOmega,toNatUp];exact aG
def mn (l:List Int):Nat:=if 1232<Nh l then 0 else Nh l
def I0:aD:=⟨2,31,.seq (.reg [oO 2 (.box .roBox (.t 0)),oO 3 (.box .roBox (.t 1)),oO 4 (.mv (.k (.c (.d (.bool false)))))]) (.seq (.reg [oO 5 (.fieldAddr 0 (.t 2)),oO 6 (.load (.ag 13) (.t 5)),oO 7 (.fieldAddr 0 (.t 3)),oO 8 (.load (.ag 13) (.t 7)),oO 9 (.eqA false [0,0,0,0,0,0,0,0,0,0,0,0,0] (.t 6) (.t 8)),oM 10 9,oG 11 (.fieldAddr 13 (.t 2)) 10 true,oG 12 (.load .sc (.t 11)) 10 true,oG 13 (.fieldAddr 13 (.t 3)) 10 true,oG 14 (.load .sc (.t 13)) 10 true,oG 15 (.call 38 [(.t 12),(.t 14)] none) 10 true,oO 16 (.pick (.t 10) (.t 15) (.k (.c (.d (.bool false))))),oM 17 16,oG 18 (.fieldAddr 14 (.t 2)) 17 true,oG 19 (.load .sc (.t 18)) 17 true,oG 20 (.fieldAddr 14 (.t 3)) 17 true,oG 21 (.load .sc (.t 20)) 17 true,oG 22 (.call 38 [(.t 19),(.t 21)] none) 17 true,oO 23 (.pick (.t 17) (.t 22) (.k (.c (.d (.bool false))))),
 oM 24 23,oG 25 (.fieldAddr 15 (.t 2)) 24 true,oG 26 (.load .sc (.t 25)) 24 true,oG 27 (.fieldAddr 15 (.t 3)) 24 true,oG 28 (.load .sc (.t 27)) 24 true,oG 29 (.eqB false (.t 26) (.t 28)) 24 true,oO 30 (.pick (.t 24) (.t 29) (.k (.c (.d (.bool false))))),oM 4 30]) (.ret)),[(4,none)]⟩
theorem Uj:aB Tryz.prog { own:=[],comp:=[],frz:=[],nils:=[] } Tryz.f13=some I0:=by kernel_rfl
set_option maxHeartbeats 1600000 in
theorem W0 (G:ah) (p:cn) (h1:p.pl.length≤1000000) (h2:p.se.length≤1000000):au Tryz.prog G 13 [a9 p,a9 p] (.w (.c (.d (.bool true)))):=by
  refine aF Tryz.func13 Uj rfl rfl ?_;have c1:=Lm G p.pl p.pl (by omega);have c2:=Lm G p.se p.se (by omega);rw[decide_eq_true rfl] at c1 c2;unfold a9;simp only[I0,af,ae,aa,seval,iteOmega,toNatUp];refine sD (c1) ?_;refine sD (c2) ?_;exact aG
theorem XZ {j:Jr} {u n:List UInt8}:(jS j u n).ck.length≤j.ck.length:=by
  unfold jS;split
  ·show (j.ck.drop 1).length≤_
   rw[Yw]; omega
  ·exact Yt _
theorem X0 {j:Jr} {u b:List UInt8}:(jT j u b).ck.length≤8:=by
  unfold jT;split
  ·rename_i h;have v:cK j:=by
     by_cases v:cK j
     ·exact v
     ·unfold ei at h;rw[if_pos (.inl v)] at h;cases h
   exact yN _ (kV v).2.2.1
  ·exact Yt _
theorem X1 {j:Jr} {u b:List UInt8}:(jl j u b).pl.length≤24∧(jl j u b).se.length≤24:=by
  unfold jl;split
  ·exact Ay
  ·exact⟨by decide,by decide⟩
def nY:aD:=⟨5,107,.seq (.reg [oO 5 (.box .roBox (.t 0)),oO 10 (.mv (.k (.c (.d (.bool false)))))]) (.seq (.seq (.reg [oO 23 (.load (.ag 6) (.t 5)),oO 24 (.call 5 [(.t 23)] none),oO 25 (.un .not (.t 24)),oM 26 25,oG 27 (.mv (.t 2)) 26 false,oG 28 (.len (.t 27)) 26 false,oG 29 (.bin .gtr (.t 28) (kI 60)) 26 false,oO 30 (.pick (.t 26) (.k (.c (.d (.bool true)))) (.t 29)),oM 31 30,oG 32 (.mv (.t 3)) 31 false,oG 33 (.len (.t 32)) 31 false,oG 34 (.bin .gtr (.t 33) (kI 60)) 31 false,oO 35 (.pick (.t 31) (.k (.c (.d (.bool true)))) (.t 34)),oM 36 35,oG 37 (.mv (.t 4)) 36 false,oG 38 (.len (.t 37)) 36 false,oG 39 (.bin .gtr (.t 38) (kI 1300)) 36 false,oO 40 (.pick (.t 36) (.k (.c (.d (.bool true)))) (.t 39))]) (.cond (.t 40) (.seq (.reg [oO 41 (.call 6 [] none),oM 10 41]) (.ret)) (.skip))) (.seq (.reg [oO 43 (.load (.ag 6) (.t 5)),
 oM 44 1,oM 45 2,oM 46 3,oO 47 (.call 7 [(.t 43),(.t 44),(.t 45),(.t 46)] none),oM 42 47,oO 48 (.extract (.t 42) 0),oO 49 (.extract (.t 42) 1),oO 50 (.extract (.t 42) 2),oO 11 (.alloc [.nil,.nil,.nil,.nil,(.d (.int .i64 0)),(.d (.int .i64 0))]),oN (.store (.ag 6) (.t 11) (.t 48)),oM 12 49,oM 13 50]) (.seq (.reg [oO 52 (.load (.ag 6) (.t 5)),oM 53 1,oM 54 2,oM 55 3,oO 56 (.call 8 [(.t 52),(.t 53),(.t 54),(.t 55)] none),oM 51 56,oO 57 (.extract (.t 51) 0),oO 58 (.extract (.t 51) 1),oO 59 (.extract (.t 51) 2),oO 14 (.alloc [.nil,.nil,.nil,.nil,(.d (.int .i64 0)),(.d (.int .i64 0))]),oN (.store (.ag 6) (.t 14) (.t 57)),oM 15 58,oM 16 59]) (.seq (.reg [oO 61 (.load (.ag 6) (.t 5)),oM 62 2,oM 63 4,oO 64 (.call 9 [(.t 61),(.t 62),(.t 63)] none),oM 60 64,oO 65 (.extract (.t 60) 0),oO 66 (.extract (.t 60) 1),
 oO 67 (.extract (.t 60) 2),oO 17 (.alloc [.nil,.nil,.nil,.nil,(.d (.int .i64 0)),(.d (.int .i64 0))]),oO 18 (.alloc [(.d (.int .i64 0)),(.d (.int .i64 0)),(.d (.int .i64 0)),(.d (.int .i64 0)),(.d (.int .i64 0)),(.d (.int .i64 0)),(.d (.int .u32 0)),(.d (.int .u32 0)),(.d (.int .u32 0)),(.d (.int .u64 0)),(.d (.int .u64 0)),(.d (.int .u64 0)),(.d (.int .u64 0)),.nil,.nil,(.d (.bool false))]),oN (.store (.ag 6) (.t 17) (.t 65)),oN (.store (.ag 16) (.t 18) (.t 66)),oM 19 67]) (.seq (.reg [oO 69 (.load (.ag 6) (.t 5)),oM 70 2,oM 71 4,oO 72 (.call 10 [(.t 69),(.t 70),(.t 71)] none),oM 68 72,oO 73 (.extract (.t 68) 0),oO 74 (.extract (.t 68) 1),oO 75 (.extract (.t 68) 2),oO 20 (.alloc [.nil,.nil,.nil,.nil,(.d (.int .i64 0)),(.d (.int .i64 0))]),oO 21 (.alloc [(.d (.int .i64 0)),(.d (.int .i64 0)),(.d (.int .i64 0)),(.d (.int .i64 0)),(.d (.int .i64 0)),(.d (.int .i64 0)),(.d (.int .u32 0)),(.d (.int .u32 0)),(.d (.int .u32 0)),(.d (.int .u64 0)),(.d (.int .u64 0)),(.d (.int .u64 0)),(.d (.int .u64 0)),.nil,.nil,(.d (.bool false))]),
 oN (.store (.ag 6) (.t 20) (.t 73)),oN (.store (.ag 16) (.t 21) (.t 74)),oM 22 75]) (.seq (.reg [oO 76 (.call 6 [] none),oM 77 76,oG 78 (.mv (.t 13)) 77 true,oG 79 (.mv (.t 16)) 77 true,oG 80 (.bin .eql (.t 78) (.t 79)) 77 true,oO 81 (.pick (.t 77) (.t 80) (.k (.c (.d (.bool false))))),oM 82 81,oG 83 (.load (.ag 6) (.t 11)) 82 true,oG 84 (.load (.ag 6) (.t 14)) 82 true,oG 85 (.call 11 [(.t 83),(.t 84)] none) 82 true,oO 86 (.pick (.t 82) (.t 85) (.k (.c (.d (.bool false))))),oM 87 86,oG 88 (.mv (.t 12)) 87 true,oG 89 (.mv (.t 15)) 87 true,oG 90 (.call 12 [(.t 88),(.t 89)] none) 87 true,oO 91 (.pick (.t 87) (.t 90) (.k (.c (.d (.bool false))))),oM 92 91,oG 93 (.mv (.t 19)) 92 true,oG 94 (.mv (.t 22)) 92 true,oG 95 (.bin .eql (.t 93) (.t 94)) 92 true,oO 96 (.pick (.t 92) (.t 95) (.k (.c (.d (.bool false))))),
 oM 97 96,oG 98 (.load (.ag 6) (.t 17)) 97 true,oG 99 (.load (.ag 6) (.t 20)) 97 true,oG 100 (.call 11 [(.t 98),(.t 99)] none) 97 true,oO 101 (.pick (.t 97) (.t 100) (.k (.c (.d (.bool false))))),oM 102 101,oG 103 (.load (.ag 16) (.t 18)) 102 true,oG 104 (.load (.ag 16) (.t 21)) 102 true,oG 105 (.call 13 [(.t 103),(.t 104)] none) 102 true,oO 106 (.pick (.t 102) (.t 105) (.k (.c (.d (.bool false))))),oM 10 106]) (.ret))))))),[(10,none)]⟩
theorem Uk:aB Tryz.prog { own:=[],comp:=[],frz:=[],nils:=[] } Tryz.f3=some nY:=by kernel_rfl
set_option maxHeartbeats 1600000 in
theorem W4 (G:ah) (j0:List UInt8) (hj0:j0.length≤maxLen) (j1:List UInt8) (hj1:j1.length≤maxLen) (j2:List (List UInt8)) (hj21:j2.length≤maxLen) (hj22:∀ x∈j2,x.length≤maxLen) (j3:List UInt8) (hj3:j3.length≤maxLen) (j4:Int) (hj41:-9223372036854775808≤j4) (hj42:j4≤9223372036854775807) (j5:Int) (hj51:-9223372036854775808≤j5) (hj52:j5≤9223372036854775807) (transmit:Nat) (htransmit:transmit<18446744073709551616) (unique:List UInt8) (hunique:unique.length≤maxLen) (nonce:List UInt8) (hnonce:nonce.length≤maxLen) (b:List UInt8) (hb:b.length≤maxLen) :au Tryz.prog G 3 [.agg [.sl (j0.map bD),.sl (j1.map bD),.sl (j2.map fun l=>D.sl (l.map bD)),.sl (j3.map bD),.int .i64 j4,.int .i64 j5],.int .u64 (transmit:Int),.sl (unique.map bD),.sl (nonce.map bD),.sl (b.map bD)] (.w (.c (.d (.bool true)))):=by
  refine aF Tryz.func3 Uk rfl rfl ?_;have ck:=PO G;have cl:=Ui G ⟨j0,j1,j2,j3,j4,j5⟩;by_cases hl:mm ⟨j0,j1,j2,j3,j4,j5⟩=true
  ·rw[hl] at cl;obtain⟨⟨l1,l2,l3,l4⟩,_⟩:=XY hl;have l1:j2.length≤12:=l1;clear hl;by_cases h1:(unique.length:Int)>60
   ·have g1:=eq_true h1;unfold aW at *
    simp only[nY,af,ae,aa,seval,iteOmega,toNatUp];refine sC (cl) ?_;simp only[g1,ae,aa,seval,iteOmega,toNatUp];refine sD (ck) ?_;exact aG
   ·have g1:=eq_false h1;by_cases h2:(nonce.length:Int)>60
    ·have g2:=eq_true h2;unfold aW at *
     simp only[nY,af,ae,aa,seval,iteOmega,toNatUp];refine sC (cl) ?_;simp only[g1,g2,ae,aa,seval,iteOmega,toNatUp];refine sD (ck) ?_;exact aG
    ·have g2:=eq_false h2;by_cases h3:(b.length:Int)>1300
     ·have g3:=eq_true h3;unfold aW at *
      simp only[nY,af,ae,aa,seval,iteOmega,toNatUp];refine sC (cl) ?_;simp only[g1,g2,g3,ae,aa,seval,iteOmega,toNatUp];refine sD (ck) ?_;exact aG
     ·have g3:=eq_false h3;have a1:=MU G ⟨j0,j1,j2,j3,j4,j5⟩ transmit unique nonce htransmit;have a2:=XL G ⟨j0,j1,j2,j3,j4,j5⟩ transmit unique nonce htransmit;have a3:=XS G ⟨j0,j1,j2,j3,j4,j5⟩ unique b (by omega);have a4:=XN G ⟨j0,j1,j2,j3,j4,j5⟩ unique b (by omega);have b1:=XZ (j:=⟨j0,j1,j2,j3,j4,j5⟩) (u:=unique) (n:=nonce);have b1:(jS ⟨j0,j1,j2,j3,j4,j5⟩ unique nonce).ck.length≤j2.length:=b1;have b2:=X0 (j:=⟨j0,j1,j2,j3,j4,j5⟩) (u:=unique) (b:=b);have b3:=X1 (j:=⟨j0,j1,j2,j3,j4,j5⟩) (u:=unique) (b:=b);have s1:=My G (jS ⟨j0,j1,j2,j3,j4,j5⟩ unique nonce) (by omega);have s2:=jq G (lG ⟨j0,j1,j2,j3,j4,j5⟩ transmit unique nonce) (lG ⟨j0,j1,j2,j3,j4,j5⟩ transmit unique nonce);have s3:=My G (jT ⟨j0,j1,j2,j3,j4,j5⟩ unique b) (by omega);have s4:=W0 G (jl ⟨j0,j1,j2,j3,j4,j5⟩ unique b) (by omega) (by omega);rw[beq_self_eq_true] at s2;clear b1 b2 b3;generalize jS ⟨j0,j1,j2,j3,j4,j5⟩ unique nonce=Q1 at *
      generalize lG ⟨j0,j1,j2,j3,j4,j5⟩ transmit unique nonce=Q2 at *
      generalize eI ⟨j0,j1,j2,j3,j4,j5⟩ unique nonce=Q3 at *
      generalize jT ⟨j0,j1,j2,j3,j4,j5⟩ unique b=A1 at *
      generalize jl ⟨j0,j1,j2,j3,j4,j5⟩ unique b=A2 at *
      generalize ei ⟨j0,j1,j2,j3,j4,j5⟩ unique b=A3 at *
      unfold aW a9 at *
      dsimp only at a1 a2 a3 a4 cl;simp only[nY,af,ae,aa,seval,iteOmega,toNatUp];refine sC (cl) ?_;simp only[g1,g2,g3,ae,aa,seval,iteOmega,toNatUp];refine sD (a1) ?_;refine sD (a2) ?_;refine sD (a3) ?_;refine sD (a4) ?_;refine sD (ck) ?_;refine sD (s1) ?_;refine sD (s2) ?_;refine sD (s3) ?_;refine sD (s4) ?_;exact aG
  ·rw[Bool.eq_false_iff.2 hl] at cl;unfold aW at *
   simp only[nY,af,ae,aa,seval,iteOmega,toNatUp];refine sD (cl) ?_;refine sD (ck) ?_;exact aG
end Go.Proofs.YtofonnokanoflaaGreat
