/- Texts of one's own, merged: from: Layer 18,without code: packets as data,and what the functions return. Own work. -/
import Derived.Test.YtofonnokanoflaaMg313
import Derived.Test.YtofonnokanoflaaMg310
import Derived.Test.YtofonnokanoflaaMg315
import Derived.Test.YtofonnokanoflaaMg311
import Derived.Test.YtofonnokanoflaaMg314
import Derived.Test.YtofonnokanoflaaMg39
set_option linter.unusedVariables false
set_option linter.unusedSimpArgs false
namespace Go.Proofs.Ytofonnokanoflaa
open Go.RowKit
structure ca where
  hd:Hd
  pl:List Fd
  se:List Fd
  gu:Bool
def QM:ca:=⟨Hd.z,[],[],false⟩
def en (p:ca):D:=.agg [.int .i64 p.hd.lp,.int .i64 p.hd.vr,.int .i64 p.hd.md,.int .i64 p.hd.st,.int .i64 p.hd.pl,.int .i64 p.hd.pr,.int .u32 (p.hd.rd:Int),.int .u32 (p.hd.rp:Int),.int .u32 (p.hd.ri:Int),.int .u64 (p.hd.rf:Int),.int .u64 (p.hd.og:Int),.int .u64 (p.hd.rc:Int),.int .u64 (p.hd.tr:Int),.sl (p.pl.map bH),.sl (p.se.map bH),.bool p.gu]
def bU (p:ca):Int:=if dV p.hd=0 then bp p.pl else dV p.hd
def bX (p:ca):List UInt8:=fu p.hd++bn p.pl
def qw (p:ca):List UInt8:=if bU p=0 then bX p else []
def Qz (b:List UInt8):Int:=if Gi b=0 then vM (b.drop 48) else Gi b
def QA (b:List UInt8):ca:=if Qz b=0 then ⟨qu b,GE (b.drop 48),[],false⟩ else QM
def fv (n s:List UInt8):List UInt8:=au n.length 2++(au s.length 2++(eh n 4++eh s 4))
def ka (n s:List UInt8):Fd:=⟨1028,fv n s⟩
def eT (key:List UInt8) (p:ca) (n:List UInt8):List UInt8:=jQ key [bX p,n] (bn p.se)
def bQ (key:List UInt8) (p:ca) (n:List UInt8):Fd:=ka n (eT key p n)
def cP (key:List UInt8) (p:ca) (n:List UInt8):Int :=
  if key.length≠32 then 5 else if n.length<16∨32<n.length then 4 else if bU p≠0 then bU p else if bp p.se≠0 then bp p.se else if (dX p.pl 1028).length≠0 then 3 else if p.pl.length=24 then 8 else if bp [bQ key p n]≠0∨1280<(bX p).length+bz [bQ key p n] then 2 else 0
def fw (key:List UInt8) (p:ca) (n:List UInt8):List UInt8:=if cP key p n=0 then bX p++bn [bQ key p n] else []
def qx (d:List UInt8):Nat:=gw (eQ d 0 2)
def GF (d:List UInt8):Nat:=gw (eQ d 2 2)
def GG (d:List UInt8):Nat:=4+(qx d+3) / 4*4
def QN (d:List UInt8):List UInt8:=eQ d 4 (qx d)
def QO (d:List UInt8):List UInt8:=eQ d (GG d) (GF d)
def GH (d:List UInt8):Prop:=4≤d.length∧16≤qx d∧qx d≤32∧GG d+GF d≤d.length∧fv (QN d) (QO d)=d
instance (d:List UInt8):Decidable (GH d):=by unfold GH; infer_instance
theorem PE (b:List UInt8):eh b 4=b++List.replicate (fb b.length 4) 0:=BS b (n:=4) (by decide)
theorem PF (n:Nat):n+fb n 4=(n+3) / 4*4:=by unfold fb; omega
theorem yj (b:List UInt8):(eh b 4).length=(b.length+3) / 4*4:=by rw[PE,QV,Rc,PF]
theorem tz (n s:List UInt8):(fv n s).length=4+(n.length+3) / 4*4+(s.length+3) / 4*4:=by
  unfold fv;simp only[QV,cR,yj]; omega
theorem uJ {n s:List UInt8} (h:12≤(fv n s).length):bd (ka n s)=4+(fv n s).length:=by
  have:=tz n s;unfold bd ka;dsimp only;omega
theorem PG {n s:List UInt8} (h:12≤(fv n s).length) (h2:4+(fv n s).length≤1232):bI (ka n s)=0:=EB (by show (0:Int)≤1028; decide) (by show (1028:Int)≤65535; decide) (by rw[uJ h]; exact h2)
theorem Am {l:List Fd} {k:Int} (h:∀ f∈l,f.ty≠k):∀ n,n≤l.length→dW l k n=[]
  | 0,_=>rfl
  | n+1,hn=>by
    rw[FI (h _ (sG (by omega))),Am h n (by omega)]
theorem uK {h:Hd}:dV h=0↔iK h=true:=by
  unfold dV;split <;> simp_all
theorem PH {p:ca} (h:bU p=0):iK p.hd=true∧dV p.hd=0∧bp p.pl=0:=by
  unfold bU at h;split at h
  ·rename_i h0; exact⟨uK.1 h0,h0,h⟩
  ·rename_i h0; exact absurd h h0
theorem pK {l:List Fd} (h:bp l=0):(∀ f∈l,bI f=0)∧l.length≤24∧bz l≤1232∧ek l=bn l:=by
  have hB:ek l=bn l:=if_pos h;unfold bp at h;split at h
  ·rename_i h0;split at h
   ·cases h
   ·split at h
    ·cases h
    ·exact⟨pH.1 h0,by omega,by omega,hB⟩
  ·rename_i h0; exact absurd h h0
theorem EE {l:List Fd} (h1:∀ f∈l,bI f=0) (h2:l.length≤24) (h3:bz l≤1232):bp l=0:=(Cs (pH.2 h1) h2 h3).1
theorem oB (p:ca):(bX p).length=48+bz p.pl:=by unfold bX; rw[QV,LO,jC]
theorem EF {key a n:List UInt8} {m:Int} (hk:key.length=32) (ha:a.length≤65519) (hn:n.length≤65519) (hm:m≤65519):cJ key [a,n] m=0:=Kc hk (by simp) (fun x hx=>by simp at hx; rcases hx with rfl | rfl <;> assumption) hm
structure vw (key:List UInt8) (p:ca) (n:List UInt8):Prop where
  ky:key.length=32
  n1:16≤n.length
  n2:n.length≤32
  un:bU p=0
  se:bp p.se=0
  no:(dX p.pl 1028).length=0
  lt:p.pl.length≤23
  gd:bI (bQ key p n)=0
  all:48+bz p.pl+bd (bQ key p n)≤1280
theorem EG {key:List UInt8} {p:ca} {n:List UInt8} (h:vw key p n):cP key p n=0∧fw key p n=bX p++bn [bQ key p n]:=by
  have ht:bz [bQ key p n]=bd (bQ key p n):=by simp[bz]
  have hx:bp [bQ key p n]=0:=EE (fun f hf=>by simp at hf; subst hf; exact h.gd) (by simp) (by rw[ht]; exact (pG h.gd).2.2);have e:cP key p n=0:=by
    unfold cP;have a:=h.ky; have b:=h.n1; have c:=h.n2; have d:=h.lt; have f:=h.all
    rw[if_neg (by omega),if_neg (by omega),if_neg (by simp[h.un]),if_neg (by simp[h.se]),if_neg (by simp[h.no]),if_neg (by omega),if_neg];rw[oB,ht];rintro (k | k)
    ·exact k hx
    ·omega
  exact⟨e,if_pos e⟩
structure Jr where
  up:List UInt8
  dn:List UInt8
  ck:List (List UInt8)
  la:List UInt8
  nw:Int
  sn:Int
def bO (j:Jr):D:=.agg [.sl (j.up.map bD),.sl (j.dn.map bD),.sl (j.ck.map fun l=>D.sl (l.map bD)),.sl (j.la.map bD),.int .i64 j.nw,.int .i64 j.sn]
def fy:Jr:=⟨[],[],[],[],0,0⟩
theorem jt {l:List (List UInt8)} {i:Nat} (h:i<l.length):l[i]?=some (l.getD i []):=by
  rw[QW,QT h]; rfl
theorem ke {l:List (List UInt8)} {i:Nat} (h:i<l.length):l.getD i []∈l:=by
  rw[QW,QT h];exact Rs h
theorem vN {l:List (List UInt8)} {i:Nat} (h:i<l.length):l.take (i+1)=l.take i++[l.getD i []]:=by
  rw[List.take_add_one,jt h]; rfl
def eU (l:List (List UInt8)) (c:List UInt8):Bool:=l.any (·==c)
theorem Cw {l:List (List UInt8)} {c:List UInt8}:eU l c=true↔c∈l:=by
  unfold eU;rw[List.any_eq_true];exact⟨fun ⟨x,hx,e⟩=>by rw[← beq_iff_eq.1 e]; exact hx,fun h=>⟨c,h,beq_self_eq_true c⟩⟩
theorem il {l:List (List UInt8)} {c:List UInt8}:eU l c=false↔c∉l:=by
  rw[← Cw,Bool.not_eq_true]
def ju (l:List (List UInt8)) (i:Nat):Prop:=(l.getD i []).length=104∧eU (l.take i) (l.getD i [])=false
def mW (j:Jr):Prop:=j.up.length=32∧j.dn.length=32∧j.ck.length≤8∧(j.la.length=0∨j.la.length=104)∧eU j.ck j.la=false∧0≤j.nw∧0≤j.sn∧j.sn≤1099511627776
instance (j:Jr):Decidable (mW j):=by unfold mW; infer_instance
instance (l:List (List UInt8)) (i:Nat):Decidable (ju l i):=by unfold ju; infer_instance
def bV (j:Jr):Prop:=mW j∧∀ i,i<j.ck.length→ju j.ck i
instance (j:Jr):Decidable (bV j):=by unfold bV; infer_instance
theorem N7 {l:List (List UInt8)}:(∀ i,i<l.length→eU (l.take i) (l.getD i [])=false)↔l.Nodup:=by
  rw[List.nodup_iff_pairwise_ne,List.pairwise_iff_getElem];constructor
  ·intro h i k hi hk hik e;have:=il.1 (h k hk);rw[QW,QT hk] at this;exact this (List.mem_take_iff_getElem.2 ⟨i,by omega,e⟩)
  ·intro h k hk;refine il.2 fun hm=>?_
   obtain⟨i,hi,e⟩:=List.mem_take_iff_getElem.1 hm;rw[QW,QT hk] at e;exact h i k (by omega) hk (by omega) e
theorem ii {j:Jr}:bV j↔mW j∧(∀ c∈j.ck,c.length=104)∧j.ck.Nodup:=by
  unfold bV ju;rw[← N7];constructor
  ·rintro⟨h,a⟩;refine⟨h,fun c hc=>?_,fun i hi=>(a i hi).2⟩;obtain⟨i,hi,rfl⟩:=Rt hc;have:=(a i hi).1;rw[QW,QT hi] at this;exact this
  ·rintro⟨h,a,b⟩;exact⟨h,fun i hi=>⟨a _ (ke hi),b i hi⟩⟩
def cG (j:Jr):Int:=if ¬ bV j then 3 else if j.ck.length=0 then 10 else if j.sn=1099511627776 then 7 else 0
def cp (j:Jr):Jr:=⟨j.up,j.dn,j.ck.drop 1,j.ck.getD 0 [],j.nw,j.sn+1⟩
def kf (j:Jr):Jr:=if cG j=0 then cp j else fy
def kg (j:Jr):List UInt8:=if cG j=0 then j.ck.getD 0 [] else []
def mX (j:Jr):Int:=if bV j then 0 else 3
def mY (j:Jr):Int:=if bV j then 8-(j.ck.length:Int) else 0
def iN (la:List UInt8) (l:List (List UInt8)) (c:List UInt8):Bool:=!eU l c&&(!(la==c)&&decide (l.length<8))
def dA (la:List UInt8) (l:List (List UInt8)) (c:List UInt8):List (List UInt8):=if iN la l c=true then l++[c] else l
def ba (la:List UInt8) (l cs:List (List UInt8)):List (List UInt8):=cs.foldl (dA la) l
def eI (cs:List (List UInt8)):Bool:=cs.all fun c=>c.length==104
def fS (j:Jr) (cs:List (List UInt8)):Int:=if ¬ bV j then 3 else if eI cs=true then 0 else 3
def mZ (j:Jr) (cs:List (List UInt8)):Jr:=⟨j.up,j.dn,ba j.la j.ck cs,j.la,j.nw,j.sn⟩
def m5 (j:Jr) (cs:List (List UInt8)):Jr:=if fS j cs=0 then mZ j cs else fy
theorem lU {cs:List (List UInt8)}:eI cs=true↔∀ c∈cs,c.length=104:=by
  unfold eI;rw[Q2];exact⟨fun h c hc=>beq_iff_eq.1 (h c hc),fun h c hc=>beq_iff_eq.2 (h c hc)⟩
theorem Kn (la:List UInt8) (l cs:List (List UInt8)) (c:List UInt8):ba la l (cs++[c])=dA la (ba la l cs) c:=by
  unfold ba;rw[List.foldl_append]; rfl
theorem Cx {la:List UInt8} {l:List (List UInt8)}:∀ cs:List (List UInt8),l.length≤8→(ba la l cs).length≤8:=by
  intro cs
  induction cs generalizing l with
  | nil=>exact id
  | cons c cs ih =>
    intro h;refine ih (l:=dA la l c) ?_;unfold dA;split
    ·rename_i g;unfold iN at g;rw[Rl,Rl] at g;have:=of_decide_eq_true g.2.2;rw[QV,RZ]; omega
    ·exact h
def kh:Fd:=⟨772,List.replicate 104 0⟩
def bJ (u c:List UInt8) (n:Nat):List Fd:=[⟨260,u⟩,⟨516,c⟩]++List.replicate n kh
def eo (j:Jr) (t:Nat) (u:List UInt8):ca:=⟨dR t,bJ u (j.ck.getD 0 []) (8-j.ck.length),[],false⟩
def eV (j:Jr) (u n:List UInt8):Int:=if ¬ bV j∨u.length≠32∨n.length≠16 then 3 else cG j
def qy (j:Jr) (u n:List UInt8):Jr:=if eV j u n=0 then cp j else fy
def qz (j:Jr) (t:Nat) (u n:List UInt8):List UInt8:=if eV j u n=0 then fw j.up (eo j t u) n else []
def dM (j:Jr):List D:=[.sl (j.up.map bD),.sl (j.dn.map bD),.sl (j.ck.map fun l=>D.sl (l.map bD)),.sl (j.la.map bD),.int .i64 j.nw,.int .i64 j.sn]
def cQ:Ob:=.box [.nil,.nil,.nil,.nil,.d (.int .i64 0),.d (.int .i64 0)]
def br (j:Jr) (k:C):Ob:=.box [.d (.sl (j.up.map bD)),.d (.sl (j.dn.map bD)),k,.d (.sl (j.la.map bD)),.d (.int .i64 j.nw),.d (.int .i64 j.sn)]
def hU (j:Jr):List C:=[.d (.sl (j.up.map bD)),.d (.sl (j.dn.map bD)),.fr 1 (j.ck.map fun l=>D.sl (l.map bD)),.d (.sl (j.la.map bD)),.d (.int .i64 j.nw),.d (.int .i64 j.sn)]
theorem N8 {σ:St} {p:Nat×Option Kd} {j:Jr} {k:C} (h1:bw σ p=some (.mix [.d (.sl (j.up.map bD)),.d (.sl (j.dn.map bD)),k,.d (.sl (j.la.map bD)),.d (.int .i64 j.nw),.d (.int .i64 j.sn)])) (hk:j8 σ.h k (.fr 1 (j.ck.map fun l=>D.sl (l.map bD)))) (hd:k.ids.Nodup):cg σ [p] (.w (.mix (hU j))):=by
  refine⟨[.mix [.d (.sl (j.up.map bD)),.d (.sl (j.dn.map bD)),k,.d (.sl (j.la.map bD)),.d (.int .i64 j.nw),.d (.int .i64 j.sn)]],by simp[aB,h1],.inl ⟨?_,?_⟩⟩
  ·simpa [W.ids,C.ids] using hd
  ·exact .cons rfl (.cons rfl (.cons hk (.cons rfl (.cons rfl (.cons rfl .nil)))))
theorem Me {P:Program} {G:ak} {F:FuncId} {args:List D} {cs:List C} {ds:List D} (hds:dk (cs.map C.ro)=.c (.d (.agg ds))) (h:ar P G F args (.w (.mix cs))):ar P G F args (.w (.c (.d (.agg ds)))):=by
  intro w S vs h1 h2 h3;refine (h w S vs h1 h2 h3).mono ?_;rintro e w' ⟨v,S',bl,rfl,k1,k2,k3,k4⟩;have cs0:∀ {us:List Value} {cs:List C} {bk:List Nat},d9 S' w' w.heap.size us cs bk→∀ b∈bk,w.heap.size≤b∧b<w'.heap.size:=by
    intro us cs bk hc
    induction hc with
    | nil=>intro b hb; cases hb
    | cons h1 _ ih =>
      rename_i c _ _ _ _ _;intro b hb;rcases Re.1 hb with hb | hb
      ·cases c <;> simp only[dJ] at h1 <;> first | exact h1.elim | skip
       ·rw[h1.2] at hb; cases hb
       ·rcases h1 with ⟨_,_,rfl⟩ | ⟨b',cap,ty,N,rfl,_,_,_,q1,_,q2⟩
        ·cases hb
        ·simp only[Q9] at hb;subst hb;obtain⟨f1,_,cur,ty',fz,f3,_⟩:=q2;exact⟨f1,(Q3.1 f3).1⟩
      ·exact ih b hb
  have hfresh:∀ b∈bl,w.heap.size≤b∧b<w'.heap.size:=by
    obtain⟨us,_,hc⟩:=k4;exact cs0 hc
  refine⟨v,fun b i=>S' b i∨b∈bl,[],rfl,k1,fun b i hs=>?_,.nil,?_⟩
  ·rcases hs with hs | hs
   ·exact k2 b i hs
   ·exact⟨.inr (hfresh b hs).1,(hfresh b hs).2⟩
  ·have:=lj (m:=fun _=>none) (x:=.mix cs) k4 (T:=fun b i=>S' b i∨b∈bl) (fun _ _ h=>.inl h) (fun b hb _=>.inr hb);rw[show W.ro (.mix cs)=_ from hds] at this;exact⟨this.1,rfl⟩
theorem o0 {j:Jr} (v:bV j):j.up.length=32∧j.dn.length=32∧j.ck.length≤8∧j.la.length≤104∧∀ c∈j.ck,c.length=104:=by
  obtain⟨⟨a,b,c,d,_⟩,h,_⟩:=ii.1 v;exact⟨a,b,c,by omega,h⟩
theorem uM {j:Jr} {e:Int} (h:cG j=e) (he:e≠0):kf j=fy∧kg j=[]:=⟨if_neg (by rw[h]; exact he),if_neg (by rw[h]; exact he)⟩
theorem FJ {j:Jr} {cs:List (List UInt8)} {e:Int} (h:fS j cs=e) (he:e≠0):m5 j cs=fy:=if_neg (by rw[h]; exact he)
theorem Mf {cs:List (List UInt8)} {i:Nat} (h:i<cs.length) (h1:eI (cs.take i)=true) (h2:(cs.getD i []).length=104):eI (cs.take (i+1))=true:=by
  unfold eI at *
  rw[vN h,List.all_append,h1,RL,List.all_nil,beq_iff_eq.2 h2]; rfl
open IntWalk
set_option maxHeartbeats 3200000
theorem An {la:List UInt8} {l:List (List UInt8)} (h:8≤l.length):∀ cs,ba la l cs=l
  | []=>rfl
  | c::cs=>by
    have e:dA la l c=l:=if_neg (by
      unfold iN;rw[decide_eq_false (by omega),Bool.and_false,Bool.and_false]; decide)
    show ba la (dA la l c) cs=l
    rw[e];exact An h cs
theorem Ko {la:List UInt8} {l cs:List (List UInt8)} {i:Nat} (h:(ba la l (cs.take i)).length=8):ba la l cs=ba la l (cs.take i):=by
  have e:ba la l cs=ba la (ba la l (cs.take i)) (cs.drop i):=by
    unfold ba;rw[← List.foldl_append,RA]
  rw[e];exact An (by omega) _
theorem uO {j:Jr} (v:bV j) (h:j.ck.length≠0) (hs:j.sn≠1099511627776):cG j=0∧bV (cp j):=by
  refine⟨by unfold cG; rw[if_neg (not_not_intro v),if_neg h,if_neg hs],?_⟩;obtain⟨⟨a1,a2,a3,a4,a5,a6,a7,a8⟩,b,c⟩:=ii.1 v;obtain⟨up,dn,ck,la,nw,sn⟩:=j
  match ck,h with
  | x::r,_ =>
    have c:=List.nodup_cons.1 c;refine ii.2 ⟨⟨a1,a2,?_,.inr (b x (Rv ..)),il.2 c.1,a6,?_,?_⟩,fun y hy=>b y (Rm _ hy),c.2⟩
    ·have a3:r.length+1≤8:=a3
     show r.length≤8
     omega
    ·have a7:0≤sn:=a7
     show 0≤sn+1
     omega
    ·have a8:sn≤1099511627776:=a8;have hs:sn≠1099511627776:=hs
     show sn+1≤1099511627776
     omega
def ki (up dn:List UInt8):Prop:=up.length=32∧dn.length=32
instance (up dn:List UInt8):Decidable (ki up dn):=by unfold ki; infer_instance
def pb:aE:=⟨1,13,.seq (.reg [oO 1 (.box .roBox (.t 0)),oO 2 (.mv (.k (.c (.d (.bool false)))))]) (.seq (.reg [oO 3 (.fieldAddr 0 (.t 1)),oO 4 (.load .sc (.t 3)),oO 5 (.len (.t 4)),oO 6 (.bin .eql (.t 5) (kI 32)),oM 7 6,oG 8 (.fieldAddr 1 (.t 1)) 7 true,oG 9 (.load .sc (.t 8)) 7 true,oG 10 (.len (.t 9)) 7 true,oG 11 (.bin .eql (.t 10) (kI 32)) 7 true,oO 12 (.pick (.t 7) (.t 11) (.k (.c (.d (.bool false))))),oM 2 12]) (.ret)),[(2,none)]⟩
theorem N9:aD Try.prog { own:=[],comp:=[],frz:=[],nils:=[] } Try.f31=some pb:=by kernel_rfl
theorem PI (G:ak) (up dn:List UInt8):ar Try.prog G 31 [.agg [.sl (up.map bD),.sl (dn.map bD)]] (.w (.c (.d (.bool (decide (ki up dn)))))):=by
  refine aF Try.func31 N9 rfl rfl ?_;by_cases h1:up.length=32
  ·have g1:((up.length:Int)=32)=True:=eq_true (by omega);by_cases h2:dn.length=32
   ·have g2:((dn.length:Int)=32)=True:=eq_true (by omega);rw[decide_eq_true (show ki up dn from ⟨h1,h2⟩)];simp only[pb,aj,ae,aa,seval,iteOmega,toNatUp,g1,g2];exact aM
   ·have g2:((dn.length:Int)=32)=False:=eq_false (by omega);rw[decide_eq_false (show ¬ ki up dn from fun h=>h2 h.2)];simp only[pb,aj,ae,aa,seval,iteOmega,toNatUp,g1,g2];exact aM
  ·have g1:((up.length:Int)=32)=False:=eq_false (by omega);rw[decide_eq_false (show ¬ ki up dn from fun h=>h1 h.1)];simp only[pb,aj,ae,aa,seval,iteOmega,toNatUp,g1];exact aM
def ug:aE:=⟨1,6,.seq (.reg [oO 2 (.mv (.k (.c (.d (.bool false)))))]) (.seq (.reg [oM 3 0,oO 4 (.len (.t 3)),oO 5 (.bin .eql (.t 4) (kI 104)),oM 2 5]) (.ret)),[(2,none)]⟩
theorem Oa:aD Try.prog { own:=[],comp:=[],frz:=[],nils:=[] } Try.f33=some ug:=by kernel_rfl
theorem FK (G:ak) (b:List UInt8):ar Try.prog G 33 [.sl (b.map bD)] (.w (.c (.d (.bool (b.length==104))))):=by
  refine aF Try.func33 Oa rfl rfl ?_;by_cases h1:b.length=104
  ·have g1:((b.length:Int)=104)=True:=eq_true (by omega);rw[beq_iff_eq.2 h1];simp only[ug,aj,ae,aa,seval,iteOmega,toNatUp,g1];exact aM
  ·have g1:((b.length:Int)=104)=False:=eq_false (by omega);rw[beq_eq_false_iff_ne.2 h1];simp only[ug,aj,ae,aa,seval,iteOmega,toNatUp,g1];exact aM
def pL (l:List (List UInt8)) (i:Nat):St:=⟨aR [(5,.w (.c (.d (.sl (l.map fun x=>D.sl (x.map bD)))))),(6,.w (.c (.d (.int .i64 (l.length:Int))))),(7,.w (.c (.d (.int .i64 (i:Int)))))],hL [],uL []⟩
def nY:aI := .seq (.reg [oO 8 (.bin .lss (.t 7) (.t 6))]) (.seq (.cond (.t 8) (.skip) (.exit 0)) (.seq (.block 1 (.seq (.reg [oO 9 (.idxSl 1 (.t 5) (.t 7)),oO 10 (.load .sc (.t 9)),oM 4 10]) (.seq (.reg [oM 11 4,oO 12 (.call 33 [(.t 11)] none),oO 13 (.un .not (.t 12))]) (.cond (.t 13) (.seq (.reg [oO 2 (.mv (.k (.c (.d (.bool false)))))]) (.ret)) (.skip))))) (.reg [oO 14 (.bin .add (.t 7) (kI 1)),oM 7 14])))
def EH:aE:=⟨1,15,.seq (.reg [oO 2 (.mv (.k (.c (.d (.bool false)))))]) (.seq (.seq (.reg [oM 5 0,oO 6 (.len (.t 5)),oO 7 (.mv (kI 0))]) (.block 0 (.loop nY))) (.seq (.reg [oO 2 (.mv (.k (.c (.d (.bool true)))))]) (.ret))),[(2,none)]⟩
theorem Oc:aD Try.prog { own:=[],comp:=[],frz:=[],nils:=[] } Try.f27=some EH:=by kernel_rfl
theorem FL (G:ak) (l:List (List UInt8)) (hl:l.length≤9000000000000000000):ar Try.prog G 27 [.sl (l.map fun x=>D.sl (x.map bD))] (.w (.c (.d (.bool (eI l))))):=by
  refine aF Try.func27 Oc rfl rfl ?_;simp only[EH,aj,ae,aa,seval,iteOmega,toNatUp];refine bi (pL l) (fun i=>l.length-i) (fun i=>i≤l.length∧eI (l.take i)=true) 0 ⟨Q8 _,rfl⟩ ?_ ?_
  ·refine aC (fun _=>0) ?_ ?_ rfl rfl <;> simp only[wx,aA,aJ,aa,seval,iteOmega,toNatUp] <;> first | rfl | exact⟨rfl,rfl⟩ | skip
  ·rintro i ⟨hi,hp⟩;by_cases hlt:i<l.length
   ·have g:=jt hlt;have hs:=Mf hlt hp;have hm:=ke hlt;have no:eI l=true→(l.getD i []).length=104:=fun h=>lU.1 h _ hm
    clear hm;generalize l.getD i []=x at *
    have c1:=FK G x;by_cases hx:x.length=104
    ·rw[beq_iff_eq.2 hx] at c1;have hs:=hs hx;simp only[nY,pL,ae,aa,seval,iteOmega,toNatUp,aU,g];refine sD (c1) ?_;refine aZ (i+1) (by omega) ⟨by omega,hs⟩ (aC (fun i=>i) ?_ ?_ rfl rfl) <;> simp only[wx,aA,aJ,aa,seval,iteOmega,toNatUp] <;> first | rfl | exact⟨rfl,rfl⟩ | skip
    ·rw[beq_eq_false_iff_ne.2 hx] at c1;have e:eI l=false:=by
       cases h:eI l
       ·rfl
       ·exact absurd (no h) hx
     rw[e];simp only[nY,pL,ae,aa,seval,iteOmega,toNatUp,aU,g];refine sD (c1) ?_;exact aM
   ·obtain rfl:i=l.length:=by omega
    rw[RS] at hp;rw[hp];simp only[nY,pL,ae,aa,seval,iteOmega,toNatUp];exact aM
def EI:aE:=⟨2,7,.seq (.reg [oO 3 (.mv (.k (.c (.d (.bool false)))))]) (.seq (.reg [oM 4 0,oO 5 (.load .sc (.t 1)),oO 6 (.call 46 [(.t 4),(.t 5)] none),oM 3 6]) (.ret)),[(3,none)]⟩
theorem Od:aD Try.prog { own:=[],comp:=[],frz:=[],nils:=[] } Try.f48=some EI:=by kernel_rfl
theorem PK (G:ak) (c x:List UInt8):lA Try.prog G 48 [.ref [.sl (c.map bD)]] [.sl (x.map bD)] (.w (.c (.d (.bool (x==c))))):=by
  refine⟨enters_of Try.func48 (by kernel_rfl) rfl,?_⟩;refine IB Try.func48 Od rfl rfl ?_;have c1:=Eo G x c;simp only[EI,RN,R0,QX,Ro,D.up,gX,ae,aa,seval,iteOmega,toNatUp];refine sD (c1) ?_;exact aM
def EJ:aE:=⟨2,8,.seq (.reg [oO 3 (.box .roBox (.t 1)),oO 4 (.mv (.k (.c (.d (.bool false)))))]) (.seq (.reg [oM 5 0,oO 6 (.clos 48 [(.t 3)]),oO 7 (.call 47 [(.t 5),(.t 6)] none),oM 4 7]) (.ret)),[(4,none)]⟩
theorem Oe:aD Try.prog { own:=[],comp:=[],frz:=[],nils:=[] } Try.f32=some EJ:=by kernel_rfl
theorem uP (G:ak) (l:List (List UInt8)) (c:List UInt8) (hl:l.length≤9000000000000000000):ar Try.prog G 32 [.sl (l.map fun x=>D.sl (x.map bD)),.sl (c.map bD)] (.w (.c (.d (.bool (eU l c))))):=by
  refine aF Try.func32 Oe rfl rfl ?_;have c1:=D9 G l 48 [.ref [.sl (c.map bD)]] (fun x=>x==c) (by omega) (fun x _=>PK G c x);rw[show l.any (fun x=>x==c)=eU l c from rfl] at c1;simp only[EJ,aj,ae,aa,seval,iteOmega,toNatUp];refine sD (c1) ?_;exact aM
def mK (j:Jr) (n i:Nat):List (Nat×V):=[(1,.w (.c (.ptr 1 1 0 0))),(2,.w (.c (.ptr 3 1 0 0))),(3,.w (.c (.own 2 1 0 n))),(25,.w (.c (.d (.sl (j.ck.map fun l=>D.sl (l.map bD)))))),(26,.w (.c (.d (.int .i64 (j.ck.length:Int))))),(27,.w (.c (.d (.int .i64 (i:Int)))))]
def pM (j:Jr) (i:Nat):St:=⟨aR (mK j (j.ck.take i).length i),hL [(1,br j (.d (.sl (j.ck.map fun l=>D.sl (l.map bD))))),(2,.row 1 ((j.ck.take i).map fun l=>D.sl (l.map bD))),(3,cQ)],uL [1,2,3]⟩
def sH:aI := .seq (.reg [oO 28 (.bin .lss (.t 27) (.t 26))]) (.seq (.cond (.t 28) (.skip) (.exit 0)) (.seq (.block 1 (.seq (.reg [oO 29 (.idxSl 1 (.t 25) (.t 27)),oO 30 (.load .sc (.t 29)),oM 5 30]) (.reg [oM 31 3,oM 32 5,oO 33 (.bldSl false 1 1 (.sl []) [(0,(.t 32))]),oO 34 (.call 30 [(.t 33)] none),oO 35 (.bldSl false 1 1 (.sl []) [(0,(.t 34))]),oO 36 (.app false 1 24 (.t 31) (.t 35)),oM 3 36]))) (.reg [oO 37 (.bin .add (.t 27) (kI 1)),oM 27 37])))
def EK:aE:=⟨1,41,.seq (.reg [oO 1 (.box .ownBox (.t 0)),oO 2 (.alloc [.nil,.nil,.nil,.nil,(.d (.int .i64 0)),(.d (.int .i64 0))])]) (.seq (.reg [oO 6 (.fieldAddr 0 (.t 1)),oO 7 (.fieldAddr 0 (.t 6)),oO 8 (.load .sc (.t 7)),oO 9 (.bldSl false 1 1 (.sl []) [(0,(.t 8))]),oO 10 (.call 30 [(.t 9)] none),oO 11 (.fieldAddr 0 (.t 1)),oO 12 (.fieldAddr 1 (.t 11)),oO 13 (.load .sc (.t 12)),oO 14 (.bldSl false 1 1 (.sl []) [(0,(.t 13))]),oO 15 (.call 30 [(.t 14)] none),oO 16 (.build [.nil,.nil] [(0,1,(.t 10)),(1,1,(.t 15))]),oO 17 (.fieldAddr 0 (.t 1)),oN (.store (.ag 2) (.t 17) (.t 16))]) (.seq (.reg [oO 18 (.fieldAddr 3 (.t 1)),oO 19 (.load .sc (.t 18)),oO 20 (.bldSl false 1 1 (.sl []) [(0,(.t 19))]),oO 21 (.call 30 [(.t 20)] none),oO 22 (.fieldAddr 3 (.t 1)),oN (.store .sc (.t 22) (.t 21))]) (.seq (.reg [oO 23 (.make true 1 24 (.sl []) (kI 0) (kI 8)),
 oM 3 23]) (.seq (.seq (.reg [oO 24 (.fieldAddr 2 (.t 1)),oO 25 (.load .sc (.t 24)),oO 26 (.len (.t 25)),oO 27 (.mv (kI 0))]) (.block 0 (.loop sH))) (.seq (.reg [oM 38 3,oO 39 (.fieldAddr 2 (.t 1)),oN (.store .sc (.t 39) (.t 38))]) (.seq (.reg [oO 40 (.load (.ag 6) (.t 1)),oN (.store (.ag 6) (.t 2) (.t 40))]) (.ret))))))),[(2,(some (.ag 6)))]⟩
theorem Of:aD Try.prog { own:=[1],comp:=[],frz:=[],nils:=[] } Try.f29=some EK:=by kernel_rfl
theorem FM (G:ak) (j:Jr) (h1:j.up.length≤140737488355328) (h2:j.dn.length≤140737488355328) (h3:j.la.length≤140737488355328) (h4:∀ c∈j.ck,c.length≤140737488355328) (h5:j.ck.length≤1000000):ar Try.prog G 29 [bO j] (.w (.mix (hU j))):=by
  refine aF Try.func29 Of rfl rfl ?_;have c1:=dt G [j.up] (by simp) (by simp; omega);have c2:=dt G [j.dn] (by simp) (by simp; omega);have c3:=dt G [j.la] (by simp) (by simp; omega);simp only[QX,Ro,Sk,Sd,Rh] at c1 c2 c3;unfold bO;simp only[EK,aj,ae,aa,seval,iteOmega,toNatUp];refine sD (c1) ?_;refine sD (c2) ?_;refine sD (c3) ?_;refine bi (pM j) (fun i=>j.ck.length-i) (fun i=>i≤j.ck.length) 0 (Q8 _) ?_ ?_
  ·refine aC (fun i=>if i=1 then 8 else if i=2 then 184 else 16) ?_ ?_ rfl rfl <;> simp only[mK,dM,br,cQ,wx,aA,aJ,aa,seval,iteOmega,toNatUp] <;> first | rfl | exact⟨rfl,rfl⟩ | skip
  ·intro i hi;clear c1 c2 c3;by_cases hlt:i<j.ck.length
   ·have g:=jt hlt;have hs:=vN hlt;have hm:=h4 _ (ke hlt);have tl:(j.ck.take i).length=i:=by rw[QY]; omega
    have az:=ep (j.ck.take i);generalize j.ck.getD i []=x at *
    have c4:=dt G [x] (by simp) (by simp; omega);simp only[QX,Ro,Sk,Sd,Rh] at c4;simp only[sH,pM,mK,dM,br,cQ,ae,aa,seval,iteOmega,toNatUp,aU,g,tl];refine sC (c4) ?_;simp only[bT,tl,ae,aa,seval,iteOmega,toNatUp];refine aZ (i+1) (by omega) (by omega) (aC (fun i=>if i=1 then 1 else if i=2 then 288 else 3) ?_ ?_ rfl rfl) <;> simp only[pM,mK,dM,br,cQ,hs,QV,RZ,Rx,tl,wx,aA,aJ,aa,seval,iteOmega,toNatUp] <;> first | rfl | exact⟨rfl,rfl⟩ | skip
   ·obtain rfl:i=j.ck.length:=by omega
    have hk:j.ck.take j.ck.length=j.ck:=RS;have az:=ep j.ck;simp only[sH,pM,mK,dM,br,cQ,hk,ae,aa,seval,iteOmega,toNatUp];exact N8 (k:=.own 2 1 0 j.ck.length) (by simp only[ae,aa,seval,iteOmega,toNatUp] <;> rfl) ⟨rfl,rfl,by simp only[ae,aa,seval,iteOmega,toNatUp,hk]⟩ (by simp[C.ids])
theorem PL (G:ak) (j:Jr) (h1:j.up.length≤140737488355328) (h2:j.dn.length≤140737488355328) (h3:j.la.length≤140737488355328) (h4:∀ c∈j.ck,c.length≤140737488355328) (h5:j.ck.length≤1000000):ar Try.prog G 29 [bO j] (.w (.c (.d (bO j)))):=Me rfl (FM G j h1 h2 h3 h4 h5)
set_option maxHeartbeats 6400000
def jS (j:Jr) (i:Nat):St:=⟨aR [(1,.w (.c (.rp (dM j)))),(35,.w (.c (.d (.sl (j.ck.map fun l=>D.sl (l.map bD)))))),(36,.w (.c (.d (.int .i64 (j.ck.length:Int))))),(37,.w (.c (.d (.int .i64 (i:Int)))))],hL [],uL []⟩
def jD:aI := .seq (.reg [oO 38 (.bin .lss (.t 37) (.t 36))]) (.seq (.cond (.t 38) (.skip) (.exit 0)) (.seq (.block 1 (.seq (.reg [oM 39 37,oO 40 (.idxSl 1 (.t 35) (.t 37)),oO 41 (.load .sc (.t 40)),oM 3 39,oM 4 41]) (.seq (.reg [oO 42 (.fieldAddr 2 (.t 1)),oO 43 (.load .sc (.t 42)),oM 44 3,oO 45 (.slice 1 (.t 43) none (some (.t 44)) none),oM 46 4,oO 47 (.call 32 [(.t 45),(.t 46)] none)]) (.cond (.t 47) (.seq (.reg [oO 2 (.mv (.k (.c (.d (.bool false)))))]) (.ret)) (.skip))))) (.reg [oO 48 (.bin .add (.t 37) (kI 1)),oM 37 48])))
def i8:aE:=⟨1,66,.seq (.reg [oO 1 (.box .roBox (.t 0)),oO 2 (.mv (.k (.c (.d (.bool false)))))]) (.seq (.seq (.reg [oO 5 (.fieldAddr 0 (.t 1)),oO 6 (.load (.ag 2) (.t 5)),oO 7 (.call 31 [(.t 6)] none),oO 8 (.un .not (.t 7)),oM 9 8,oG 10 (.fieldAddr 4 (.t 1)) 9 false,oG 11 (.load .sc (.t 10)) 9 false,oG 12 (.bin .lss (.t 11) (kI 0)) 9 false,oO 13 (.pick (.t 9) (.k (.c (.d (.bool true)))) (.t 12)),oM 14 13,oG 15 (.fieldAddr 5 (.t 1)) 14 false,oG 16 (.load .sc (.t 15)) 14 false,oG 17 (.bin .lss (.t 16) (kI 0)) 14 false,oO 18 (.pick (.t 14) (.k (.c (.d (.bool true)))) (.t 17)),oM 19 18,oG 20 (.fieldAddr 5 (.t 1)) 19 false,oG 21 (.load .sc (.t 20)) 19 false,oG 22 (.bin .gtr (.t 21) (kI 1099511627776)) 19 false,oO 23 (.pick (.t 19) (.k (.c (.d (.bool true)))) (.t 22))]) (.cond (.t 23) (.seq (.reg [oO 2 (.mv (.k (.c (.d (.bool false)))))])
 (.ret)) (.skip))) (.seq (.seq (.reg [oO 24 (.fieldAddr 2 (.t 1)),oO 25 (.load .sc (.t 24)),oO 26 (.len (.t 25)),oO 27 (.bin .gtr (.t 26) (kI 8)),oM 28 27,oG 29 (.fieldAddr 2 (.t 1)) 28 false,oG 30 (.load .sc (.t 29)) 28 false,oG 31 (.call 27 [(.t 30)] none) 28 false,oG 32 (.un .not (.t 31)) 28 false,oO 33 (.pick (.t 28) (.k (.c (.d (.bool true)))) (.t 32))]) (.cond (.t 33) (.seq (.reg [oO 2 (.mv (.k (.c (.d (.bool false)))))]) (.ret)) (.skip))) (.seq (.seq (.reg [oO 34 (.fieldAddr 2 (.t 1)),oO 35 (.load .sc (.t 34)),oO 36 (.len (.t 35)),oO 37 (.mv (kI 0))]) (.block 0 (.loop jD))) (.seq (.reg [oO 49 (.fieldAddr 3 (.t 1)),oO 50 (.load .sc (.t 49)),oO 51 (.len (.t 50)),oO 52 (.bin .eql (.t 51) (kI 0)),oM 53 52,oG 54 (.fieldAddr 3 (.t 1)) 53 false,oG 55 (.load .sc (.t 54)) 53 false,oG 56 (.call 33 [(.t 55)] none) 53 false,
 oG 57 (.mv (.t 56)) 53 false,oG 58 (.fieldAddr 2 (.t 1)) 57 true,oG 59 (.load .sc (.t 58)) 57 true,oG 60 (.fieldAddr 3 (.t 1)) 57 true,oG 61 (.load .sc (.t 60)) 57 true,oG 62 (.call 32 [(.t 59),(.t 61)] none) 57 true,oG 63 (.un .not (.t 62)) 57 true,oG 64 (.pick (.t 57) (.t 63) (.k (.c (.d (.bool false))))) 53 false,oO 65 (.pick (.t 53) (.k (.c (.d (.bool true)))) (.t 64)),oM 2 65]) (.ret))))),[(2,none)]⟩
theorem Og:aD Try.prog { own:=[],comp:=[],frz:=[],nils:=[] } Try.f16=some i8:=by kernel_rfl
theorem pN (G:ak) (j:Jr):ar Try.prog G 16 [bO j] (.w (.c (.d (.bool (decide (bV j)))))):=by
  refine aF Try.func16 Og rfl rfl ?_;have no:¬ bV j→decide (bV j)=false:=fun h=>decide_eq_false h
  have c1:=PI G j.up j.dn;unfold bO;by_cases h1:ki j.up j.dn
  ·rw[decide_eq_true h1] at c1;by_cases h2:j.nw<0
   ·have g2:(j.nw<0)=True:=eq_true h2;rw[no (fun h=>by have:=h.1.2.2.2.2.2.1; omega)];simp only[i8,aj,ae,aa,seval,iteOmega,toNatUp];refine sC (c1) ?_;simp only[g2,ae,aa,seval,iteOmega,toNatUp];exact aM
   ·have g2:(j.nw<0)=False:=eq_false h2;by_cases h3:j.sn<0
    ·have g3:(j.sn<0)=True:=eq_true h3;rw[no (fun h=>by have:=h.1.2.2.2.2.2.2.1; omega)];simp only[i8,aj,ae,aa,seval,iteOmega,toNatUp];refine sC (c1) ?_;simp only[g2,g3,ae,aa,seval,iteOmega,toNatUp];exact aM
    ·have g3:(j.sn<0)=False:=eq_false h3;by_cases h4:1099511627776<j.sn
     ·have g4:(j.sn>1099511627776)=True:=eq_true h4;rw[no (fun h=>by have:=h.1.2.2.2.2.2.2.2; omega)];simp only[i8,aj,ae,aa,seval,iteOmega,toNatUp];refine sC (c1) ?_;simp only[g2,g3,g4,ae,aa,seval,iteOmega,toNatUp];exact aM
     ·have g4:(j.sn>1099511627776)=False:=eq_false h4;by_cases h5:8<j.ck.length
      ·have g5:((j.ck.length:Int)>8)=True:=eq_true (by omega);rw[no (fun h=>by have:=h.1.2.2.1; omega)];simp only[i8,aj,ae,aa,seval,iteOmega,toNatUp];refine sC (c1) ?_;simp only[g2,g3,g4,g5,ae,aa,seval,iteOmega,toNatUp];exact aM
      ·have g5:((j.ck.length:Int)>8)=False:=eq_false (by omega);have c2:=FL G j.ck (by omega);by_cases h6:eI j.ck=true
       ·rw[h6] at c2;have a4:=lU.1 h6;simp only[i8,aj,ae,aa,seval,iteOmega,toNatUp];refine sC (c1) ?_;simp only[g2,g3,g4,g5,ae,aa,seval,iteOmega,toNatUp];refine sD (c2) ?_;refine bi (jS j) (fun i=>j.ck.length-i) (fun i=>i≤j.ck.length∧∀ k,k<i→ju j.ck k) 0 ⟨Q8 _,fun k hk=>by omega⟩ ?_ ?_
        ·refine aC (fun _=>0) ?_ ?_ rfl rfl <;> simp only[dM,wx,aA,aJ,aa,seval,iteOmega,toNatUp] <;> first | rfl | exact⟨rfl,rfl⟩ | skip
        ·clear c1 c2 g2 g3 g4 g5 h6;rintro i ⟨hi,hp⟩;by_cases hlt:i<j.ck.length
         ·have g:=jt hlt;have m4:=a4 _ (ke hlt);have hno:¬ ju j.ck i→decide (bV j)=false:=fun h=>decide_eq_false fun v=>h (v.2 i hlt)
          have hgo:ju j.ck i→∀ k,k<i+1→ju j.ck k:=fun a k hk=>by
            rcases RD k i with h | h
            ·exact hp k h
            ·obtain rfl:k=i:=by omega
             exact a
          have az:=ep j.ck;have c3:=uP G (j.ck.take i) (j.ck.getD i []) (by rw[QY]; omega);cases hq:eU (j.ck.take i) (j.ck.getD i [])
          ·have hgo:=hgo ⟨m4,hq⟩;rw[hq] at c3;clear hno hp hq m4 no a4;generalize j.ck.getD i []=x at *
           simp only[jD,jS,dM,ae,aa,seval,iteOmega,toNatUp,aU,g,az];refine sD (c3) ?_;refine aZ (i+1) (by omega) ⟨by omega,hgo⟩ (aC (fun i=>i) ?_ ?_ rfl rfl) <;> simp only[dM,wx,aA,aJ,aa,seval,iteOmega,toNatUp] <;> first | rfl | exact⟨rfl,rfl⟩ | skip
          ·rw[hno (fun h=>by rw[h.2] at hq; cases hq)];rw[hq] at c3;clear hno hp hgo hq m4 no a4;generalize j.ck.getD i []=x at *
           simp only[jD,jS,dM,ae,aa,seval,iteOmega,toNatUp,aU,g,az];refine sD (c3) ?_;exact aM
         ·have hv:(j.la.length=0∨j.la.length=104)→eU j.ck j.la=false→bV j:=fun a b=>⟨⟨h1.1,h1.2,by omega,a,b,by omega,by omega,by omega⟩,fun k hk=>hp k (by omega)⟩
          clear hp;by_cases h7:j.la.length=0
          ·have g7:((j.la.length:Int)=0)=True:=eq_true (by omega);rw[decide_eq_true (hv (.inl h7) (il.2 fun h=>by have:=a4 _ h; omega))];clear hv no a4;simp only[jD,jS,dM,ae,aa,seval,iteOmega,toNatUp,g7];exact aM
          ·have g7:((j.la.length:Int)=0)=False:=eq_false (by omega);have c4:=FK G j.la;by_cases h8:j.la.length=104
           ·rw[beq_iff_eq.2 h8] at c4;have c5:=uP G j.ck j.la (by omega);cases hq:eU j.ck j.la
            ·rw[hq] at c5;rw[decide_eq_true (hv (.inr h8) hq)];clear hv no a4 hq;simp only[jD,jS,dM,ae,aa,seval,iteOmega,toNatUp,g7];refine sD (c4) ?_;refine sD (c5) ?_;exact aM
            ·rw[hq] at c5;rw[no (fun h=>by have:=h.1.2.2.2.2.1; rw[hq] at this; cases this)];clear hv no a4 hq;simp only[jD,jS,dM,ae,aa,seval,iteOmega,toNatUp,g7];refine sD (c4) ?_;refine sD (c5) ?_;exact aM
           ·rw[beq_eq_false_iff_ne.2 h8] at c4;rw[no (fun h=>by have:=h.1.2.2.2.1; omega)];clear hv no a4;simp only[jD,jS,dM,ae,aa,seval,iteOmega,toNatUp,g7];refine sD (c4) ?_;exact aM
       ·rw[Bool.not_eq_true] at h6;rw[h6] at c2;rw[no (fun h=>by rw[lU.2 ((ii.1 h).2.1)] at h6; cases h6)];simp only[i8,aj,ae,aa,seval,iteOmega,toNatUp];refine sC (c1) ?_;simp only[g2,g3,g4,g5,ae,aa,seval,iteOmega,toNatUp];refine sD (c2) ?_;exact aM
  ·rw[decide_eq_false h1] at c1;rw[no (fun h=>h1 ⟨h.1.1,h.1.2.1⟩)];simp only[i8,aj,ae,aa,seval,iteOmega,toNatUp];refine sD (c1) ?_;exact aM
def eW (j:Jr) (id n:Nat):List C:=[.d (.sl (j.up.map bD)),.d (.sl (j.dn.map bD)),.own id 1 0 n,.d (.sl (j.la.map bD)),.d (.int .i64 j.nw),.d (.int .i64 j.sn)]
theorem FN (g:Nat→Nat) (cs:List C):W.ren g (.mix cs)=.mix (cs.map (C.ren g)):=rfl
def jv (l:List (List UInt8)):List D:=l.map fun x=>D.sl (x.map bD)
def uQ (j:Jr) (cs:List (List UInt8)) (i:Nat):St:=⟨aR [(2,.w (.c (.ptr 1 1 0 0))),(4,.w (.c (.ptr 3 1 0 0))),(7,.w (.c (.d (.sl (cs.map fun l=>D.sl (l.map bD)))))),(8,.w (.c (.d (.int .i64 (cs.length:Int))))),(9,.w (.c (.d (.int .i64 (i:Int)))))],hL [(1,br j (.own 2 1 0 (ba j.la j.ck (cs.take i)).length)),(2,.row 1 ((ba j.la j.ck (cs.take i)).map fun l=>D.sl (l.map bD))),(3,cQ)],uL [1,2,3]⟩
def kK:aI := .seq (.reg [oO 10 (.bin .lss (.t 9) (.t 8))]) (.seq (.cond (.t 10) (.skip) (.exit 0)) (.seq (.block 1 (.seq (.reg [oO 11 (.idxSl 1 (.t 7) (.t 9)),oO 12 (.load .sc (.t 11)),oM 6 12]) (.seq (.seq (.reg [oO 13 (.fieldAddr 2 (.t 2)),oO 14 (.load .sc (.t 13)),oO 15 (.len (.t 14)),oO 16 (.bin .eql (.t 15) (kI 8))]) (.cond (.t 16) (.exit 0) (.skip))) (.seq (.reg [oO 17 (.fieldAddr 2 (.t 2)),oO 18 (.load .sc (.t 17)),oM 19 6,oO 20 (.call 32 [(.t 18),(.t 19)] none),oO 21 (.un .not (.t 20)),oM 22 21,oG 23 (.fieldAddr 3 (.t 2)) 22 true,oG 24 (.load .sc (.t 23)) 22 true,oG 25 (.mv (.t 6)) 22 true,oG 26 (.call 46 [(.t 24),(.t 25)] none) 22 true,oG 27 (.un .not (.t 26)) 22 true,oO 28 (.pick (.t 22) (.t 27) (.k (.c (.d (.bool false)))))]) (.cond (.t 28) (.reg [oO 29 (.fieldAddr 2 (.t 2)),
 oO 30 (.load .sc (.t 29)),oM 31 6,oO 32 (.bldSl false 1 1 (.sl []) [(0,(.t 31))]),oO 33 (.call 30 [(.t 32)] none),oO 34 (.bldSl false 1 1 (.sl []) [(0,(.t 33))]),oO 35 (.app false 1 24 (.t 30) (.t 34)),oO 36 (.fieldAddr 2 (.t 2)),oN (.store .sc (.t 36) (.t 35))]) (.skip)))))) (.reg [oO 37 (.bin .add (.t 9) (kI 1)),oM 9 37])))
def EL:aE:=⟨2,39,.seq (.reg [oO 2 (.box .ownBox (.t 0)),oO 4 (.alloc [.nil,.nil,.nil,.nil,(.d (.int .i64 0)),(.d (.int .i64 0))])]) (.seq (.seq (.reg [oM 7 1,oO 8 (.len (.t 7)),oO 9 (.mv (kI 0))]) (.block 0 (.loop kK))) (.seq (.reg [oO 38 (.load (.ag 6) (.t 2)),oN (.store (.ag 6) (.t 4) (.t 38))]) (.ret))),[(4,(some (.ag 6)))]⟩
theorem Oh:aD Try.prog { own:=[2],comp:=[],frz:=[],nils:=[] } Try.f28=some EL:=by kernel_rfl
theorem PM (G:ak) (j:Jr) (cs:List (List UInt8)) (v3:j.ck.length≤8) (m4:∀ c∈cs,c.length≤140737488355328) (hcs:cs.length≤9000000000000000000) :
    qj Try.prog G 28 [.mix (eW j 1 j.ck.length),.c (.d (.sl (jv cs)))] [(1,.row 1 (jv j.ck))] (.w (.mix (eW j 3 (ba j.la j.ck cs).length))) [(3,.row 1 (jv (ba j.la j.ck cs)))]:=by
  refine IC Try.func28 Oh [] rfl rfl rfl rfl rfl rfl rfl ?_;unfold eW jv;simp only[EL,gX,kH,kG,ae,aa,seval,iteOmega,toNatUp];refine bi (uQ j cs) (fun i=>cs.length-i) (fun i=>i≤cs.length) 0 (Q8 _) ?_ ?_
  ·refine aC (fun i=>if i=1 then 16 else if i=2 then 1 else 32) ?_ ?_ rfl rfl <;> simp only[List.take_zero,ba,SA,br,cQ,wx,aA,aJ,aa,seval,iteOmega,toNatUp] <;> first | rfl | exact⟨rfl,rfl⟩ | skip
  ·intro i hi;have L8:=Cx (la:=j.la) (l:=j.ck) (cs.take i) v3;have stop:=fun h=>Ko (la:=j.la) (l:=j.ck) (cs:=cs) (i:=i) h
   by_cases hlt:i<cs.length
   ·have g:=jt hlt;have hn:ba j.la j.ck (cs.take (i+1))=dA j.la (ba j.la j.ck (cs.take i)) (cs.getD i []):=by rw[vN hlt,Kn]
    have m4:=m4 _ (ke hlt);have az:=ep (ba j.la j.ck (cs.take i));unfold dA iN at hn;have e2:uQ j cs i=⟨aR [(2,.w (.c (.ptr 1 1 0 0))),(4,.w (.c (.ptr 3 1 0 0))),(7,.w (.c (.d (.sl (cs.map fun l=>D.sl (l.map bD)))))),(8,.w (.c (.d (.int .i64 (cs.length:Int))))),(9,.w (.c (.d (.int .i64 (i:Int)))))],hL [(1,br j (.own 2 1 0 (ba j.la j.ck (cs.take i)).length)),(2,.row 1 ((ba j.la j.ck (cs.take i)).map fun l=>D.sl (l.map bD))),(3,cQ)],uL [1,2,3]⟩:=rfl;rw[e2];clear e2;generalize ba j.la j.ck (cs.take i)=L at *
    generalize cs.getD i []=x at *
    by_cases h8:L.length=8
    ·have g8:((L.length:Int)=8)=True:=eq_true (by omega);rw[stop h8];simp only[kK,br,cQ,kH,kG,ae,aa,seval,iteOmega,toNatUp,aU,g,g8];refine FH [(3,2)] [] (ws:=[.mix (eW j 2 L.length)]) ?_ rfl ?_ rfl trivial ⟨by simp,fun id h h1=>by simp at h h1; omega⟩
     ·simp only[aB,eW,ae,aa,seval,iteOmega,toNatUp] <;> rfl
     ·simp only[fP,wx,aA,aJ,aa,seval,iteOmega,toNatUp,mV]
    ·have g8:((L.length:Int)=8)=False:=eq_false (by omega);have h8':L.length<8:=by omega
     have c3:=uP G L x (by omega);have c4:=Eo G j.la x;have c5:=dt G [x] (by simp) (by simp; omega);simp only[QX,Ro,Sk,Sd,Rh] at c5;clear stop;cases q1:eU L x
     ·rw[q1] at c3;cases q2:j.la==x
      ·rw[q2] at c4;rw[if_pos (by rw[q1,q2,decide_eq_true h8']; rfl)] at hn;simp only[kK,br,cQ,kH,kG,ae,aa,seval,iteOmega,toNatUp,aU,g,g8];refine bF c3 (by simp only[ae,aa,seval,iteOmega,toNatUp,RS]) (.inr rfl) ?_;simp only[ae,aa,seval,iteOmega,toNatUp,aU,g];refine sC (c4) ?_;simp only[aU,g,ae,aa,seval,iteOmega,toNatUp];refine sC (c5) ?_;simp only[bT,ae,aa,seval,iteOmega,toNatUp];refine aZ (i+1) (by omega) (by omega) (aC (fun i=>if i=1 then 1 else if i=2 then 280 else 3) ?_ ?_ rfl rfl) <;> simp only[hn,Rx,br,cQ,wx,aA,aJ,aa,seval,iteOmega,toNatUp] <;> first | rfl | exact⟨rfl,rfl⟩ | skip
      ·rw[q2] at c4;rw[if_neg (by rw[q1,q2]; simp)] at hn;simp only[kK,br,cQ,kH,kG,ae,aa,seval,iteOmega,toNatUp,aU,g,g8];refine bF c3 (by simp only[ae,aa,seval,iteOmega,toNatUp,RS]) (.inr rfl) ?_;simp only[ae,aa,seval,iteOmega,toNatUp,aU,g];refine sD (c4) ?_;refine aZ (i+1) (by omega) (by omega) (aC (fun i=>i) ?_ ?_ rfl rfl) <;> simp only[hn,br,cQ,wx,aA,aJ,aa,seval,iteOmega,toNatUp] <;> first | rfl | exact⟨rfl,rfl⟩ | skip
     ·rw[q1] at c3;rw[if_neg (by rw[q1]; simp)] at hn;simp only[kK,br,cQ,kH,kG,ae,aa,seval,iteOmega,toNatUp,aU,g,g8];refine bF c3 (by simp only[ae,aa,seval,iteOmega,toNatUp,RS]) (.inr rfl) ?_;simp only[ae,aa,seval,iteOmega,toNatUp];refine aZ (i+1) (by omega) (by omega) (aC (fun i=>i) ?_ ?_ rfl rfl) <;> simp only[hn,br,cQ,wx,aA,aJ,aa,seval,iteOmega,toNatUp] <;> first | rfl | exact⟨rfl,rfl⟩ | skip
   ·obtain rfl:i=cs.length:=by omega
    have hk:cs.take cs.length=cs:=RS;have az:=ep (ba j.la j.ck cs);simp only[kK,uQ,br,cQ,kH,kG,hk,ae,aa,seval,iteOmega,toNatUp];refine FH [(3,2)] [] (ws:=[.mix (eW j 2 (ba j.la j.ck cs).length)]) ?_ rfl ?_ rfl trivial ⟨by simp,fun id h h1=>by simp at h h1; omega⟩
    ·simp only[aB,eW,hk,ae,aa,seval,iteOmega,toNatUp] <;> rfl
    ·simp only[fP,hk,wx,aA,aJ,aa,seval,iteOmega,toNatUp,mV]
def mj:aE:=⟨1,39,.seq (.reg [oO 1 (.box .roBox (.t 0)),oO 2 (.alloc [.nil,.nil,.nil,.nil,(.d (.int .i64 0)),(.d (.int .i64 0))]),oO 3 (.mv (.k (.c .nil))),oO 4 (.mv (kI 0))]) (.seq (.seq (.reg [oO 6 (.load (.ag 6) (.t 1)),oO 7 (.call 16 [(.t 6)] none),oO 8 (.un .not (.t 7))]) (.cond (.t 8) (.seq (.reg [oO 9 (.build [.nil,.nil,.nil,.nil,(.d (.int .i64 0)),(.d (.int .i64 0))] []),oN (.store (.ag 6) (.t 2) (.t 9)),oO 3 (.mv (.k (.c .nil))),oO 4 (.mv (kI 3))]) (.ret)) (.skip))) (.seq (.seq (.reg [oO 10 (.fieldAddr 2 (.t 1)),oO 11 (.load .sc (.t 10)),oO 12 (.len (.t 11)),oO 13 (.bin .eql (.t 12) (kI 0))]) (.cond (.t 13) (.seq (.reg [oO 14 (.build [.nil,.nil,.nil,.nil,(.d (.int .i64 0)),(.d (.int .i64 0))] []),oN (.store (.ag 6) (.t 2) (.t 14)),oO 3 (.mv (.k (.c .nil))),oO 4 (.mv (kI 10))])
 (.ret)) (.skip))) (.seq (.seq (.reg [oO 15 (.fieldAddr 5 (.t 1)),oO 16 (.load .sc (.t 15)),oO 17 (.bin .eql (.t 16) (kI 1099511627776))]) (.cond (.t 17) (.seq (.reg [oO 18 (.build [.nil,.nil,.nil,.nil,(.d (.int .i64 0)),(.d (.int .i64 0))] []),oN (.store (.ag 6) (.t 2) (.t 18)),oO 3 (.mv (.k (.c .nil))),oO 4 (.mv (kI 7))]) (.ret)) (.skip))) (.seq (.reg [oO 19 (.load (.ag 6) (.t 1)),oO 20 (.call 29 [(.t 19)] none),oO 5 (.alloc [.nil,.nil,.nil,.nil,(.d (.int .i64 0)),(.d (.int .i64 0))]),oN (.store (.ag 6) (.t 5) (.t 20))]) (.seq (.reg [oO 21 (.fieldAddr 2 (.t 5)),oO 22 (.load .sc (.t 21)),oO 23 (.idxSl 1 (.t 22) (kI 0)),oO 24 (.load .sc (.t 23)),oO 25 (.fieldAddr 2 (.t 5)),oO 26 (.load .sc (.t 25)),oO 27 (.slice 1 (.t 26) (some (kI 1)) none none),oO 28 (.fieldAddr 3 (.t 5)),oN (.store .sc (.t 28) (.t 24)),
 oO 29 (.fieldAddr 2 (.t 5)),oN (.store .sc (.t 29) (.t 27))]) (.seq (.reg [oO 30 (.fieldAddr 5 (.t 5)),oO 31 (.load .sc (.t 30)),oO 32 (.bin .add (.t 31) (kI 1)),oO 33 (.fieldAddr 5 (.t 5)),oN (.store .sc (.t 33) (.t 32))]) (.seq (.reg [oO 34 (.load (.ag 6) (.t 5)),oO 35 (.fieldAddr 3 (.t 5)),oO 36 (.load .sc (.t 35)),oO 37 (.bldSl false 1 1 (.sl []) [(0,(.t 36))]),oO 38 (.call 30 [(.t 37)] (some (0,1))),oN (.store (.ag 6) (.t 2) (.t 34)),oM 3 38,oO 4 (.mv (kI 0))]) (.ret)))))))),[(2,(some (.ag 6))),(3,none),(4,none)]⟩
theorem Oi:aD Try.prog { own:=[38],comp:=[],frz:=[],nils:=[] } Try.f13=some mj:=by kernel_rfl
theorem uR (G:ak) (j:Jr):ar Try.prog G 13 [bO j] (.tup [.c (.d (bO (kf j))),.c (.d (.sl ((kg j).map bD))),.c (.d (.int .i64 (cG j)))]):=by
  refine aF Try.func13 Oi rfl rfl ?_;have c1:=pN G j;by_cases v:bV j
  ·rw[decide_eq_true v] at c1;obtain⟨v1,v2,v3,v4,v5⟩:=o0 v;by_cases h1:j.ck.length=0
   ·have e:cG j=10:=by unfold cG; rw[if_neg (not_not_intro v),if_pos h1]
    obtain⟨q1,q2⟩:=uM e (by decide);have g1:((j.ck.length:Int)=0)=True:=eq_true (by omega);rw[q1,q2,e];unfold bO fy at *
    simp only[mj,aj,ae,aa,seval,iteOmega,toNatUp];refine sC (c1) ?_;simp only[g1,ae,aa,seval,iteOmega,toNatUp];exact iX
   ·have g1:((j.ck.length:Int)=0)=False:=eq_false (by omega);by_cases h2:j.sn=1099511627776
    ·have e:cG j=7:=by unfold cG; rw[if_neg (not_not_intro v),if_neg h1,if_pos h2]
     obtain⟨q1,q2⟩:=uM e (by decide);have g2:(j.sn=1099511627776)=True:=eq_true h2;rw[q1,q2,e];unfold bO fy at *
     simp only[mj,aj,ae,aa,seval,iteOmega,toNatUp];refine sC (c1) ?_;simp only[g1,g2,ae,aa,seval,iteOmega,toNatUp];exact iX
    ·have e:cG j=0:=by unfold cG; rw[if_neg (not_not_intro v),if_neg h1,if_neg h2]
     have g2:(j.sn=1099511627776)=False:=eq_false h2;rw[show kf j=cp j from if_pos e,show kg j=j.ck.getD 0 [] from if_pos e,e];have c2:=PL G j (by omega) (by omega) (by omega) (fun c hc=>by have:=v5 c hc; omega) (by omega);have f0:=jt (l:=j.ck) (i:=0) (by omega);have m0:=v5 _ (ke (l:=j.ck) (i:=0) (by omega));have s8:0≤j.sn∧j.sn≤1099511627776:=v.1.2.2.2.2.2.2;have az:=ep j.ck;have d1:(j.ck.drop 1).take (j.ck.length-1)=j.ck.drop 1:=QZ (by rw[Q4]; omega);unfold cp bO at *
     dsimp only at *
     generalize j.ck.getD 0 []=x at *
     have c3:=dt G [x] (by simp) (by simp; omega);simp only[QX,Ro,Sk,Sd,Rh] at c3;simp only[mj,aj,ae,aa,seval,iteOmega,toNatUp];refine sC (c1) ?_;simp only[g1,g2,ae,aa,seval,iteOmega,toNatUp];refine sC (c2) ?_;simp only[aU,f0,az,ae,aa,seval,iteOmega,toNatUp];refine sC (c3) ?_;simp only[d1,ae,aa,seval,iteOmega,toNatUp];exact iX
  ·rw[decide_eq_false v] at c1;have e:cG j=3:=if_pos v;obtain⟨q1,q2⟩:=uM e (by decide);rw[q1,q2,e];unfold bO fy at *
   simp only[mj,aj,ae,aa,seval,iteOmega,toNatUp];refine sD (c1) ?_;exact iX
def uh:aE:=⟨1,11,.seq (.reg [oO 1 (.box .roBox (.t 0)),oO 2 (.mv (kI 0)),oO 3 (.mv (kI 0))]) (.seq (.seq (.reg [oO 4 (.load (.ag 6) (.t 1)),oO 5 (.call 16 [(.t 4)] none),oO 6 (.un .not (.t 5))]) (.cond (.t 6) (.seq (.reg [oO 2 (.mv (kI 0)),oO 3 (.mv (kI 3))]) (.ret)) (.skip))) (.seq (.reg [oO 7 (.fieldAddr 2 (.t 1)),oO 8 (.load .sc (.t 7)),oO 9 (.len (.t 8)),oO 10 (.bin .sub (kI 8) (.t 9)),oM 2 10,oO 3 (.mv (kI 0))]) (.ret))),[(2,none),(3,none)]⟩
theorem Oj:aD Try.prog { own:=[],comp:=[],frz:=[],nils:=[] } Try.f21=some uh:=by kernel_rfl
theorem FO (G:ak) (j:Jr):ar Try.prog G 21 [bO j] (.tup [.c (.d (.int .i64 (mY j))),.c (.d (.int .i64 (mX j)))]):=by
  refine aF Try.func21 Oj rfl rfl ?_;have c1:=pN G j;by_cases v:bV j
  ·rw[decide_eq_true v] at c1;obtain⟨v1,v2,v3,v4,v5⟩:=o0 v;rw[show mY j=8-(j.ck.length:Int) from if_pos v,show mX j=0 from if_pos v];unfold bO at *
   simp only[uh,aj,ae,aa,seval,iteOmega,toNatUp];refine sD (c1) ?_;exact fQ
  ·rw[decide_eq_false v] at c1;rw[show mY j=0 from if_neg v,show mX j=3 from if_neg v];unfold bO at *
   simp only[uh,aj,ae,aa,seval,iteOmega,toNatUp];refine sD (c1) ?_;exact fQ
theorem tA {σ:St} {p q:Nat×Option Kd} {j:Jr} {e:Int} {cs:List C} (h1:bw σ p=some (.mix cs)) (h2:bw σ q=some (.c (.d (.int .i64 e)))) (hx:af (j8 σ.h) cs (hU j)) (hd:(cs.flatMap C.ids).Nodup):cg σ [p,q] (.tup [.mix (hU j),.c (.d (.int .i64 e))]):=by
  refine⟨[.mix cs,.c (.d (.int .i64 e))],by simp[aB,h1,h2],.inl ⟨?_,?_⟩⟩
  ·simpa [W.ids,C.ids] using hd
  ·exact .cons hx (.cons rfl .nil)
def pc:aE:=⟨2,19,.seq (.reg [oO 2 (.box .roBox (.t 0)),oO 4 (.alloc [.nil,.nil,.nil,.nil,(.d (.int .i64 0)),(.d (.int .i64 0))]),oO 5 (.mv (kI 0))]) (.seq (.seq (.reg [oO 6 (.load (.ag 6) (.t 2)),oO 7 (.call 16 [(.t 6)] none),oO 8 (.un .not (.t 7)),oM 9 8,oG 10 (.mv (.t 1)) 9 false,oG 11 (.call 27 [(.t 10)] none) 9 false,oG 12 (.un .not (.t 11)) 9 false,oO 13 (.pick (.t 9) (.k (.c (.d (.bool true)))) (.t 12))]) (.cond (.t 13) (.seq (.reg [oO 14 (.build [.nil,.nil,.nil,.nil,(.d (.int .i64 0)),(.d (.int .i64 0))] []),oN (.store (.ag 6) (.t 4) (.t 14)),oO 5 (.mv (kI 3))]) (.ret)) (.skip))) (.seq (.reg [oO 15 (.load (.ag 6) (.t 2)),oO 16 (.call 29 [(.t 15)] (some (2,1))),oM 17 1,oO 18 (.callM 28 [(.t 16),(.t 17)]),oN (.store (.ag 6) (.t 4) (.t 18)),oO 5 (.mv (kI 0))]) (.ret))),[(4,(some (.ag 6))),(5,none)]⟩
theorem Ol:aD Try.prog { own:=[],comp:=[(16,1002)],frz:=[],nils:=[],mt:=[18] } Try.f11=some pc:=by kernel_rfl
theorem PN (G:ak) (j:Jr) (cs:List (List UInt8)) (hcs:cs.length≤9000000000000000000):ar Try.prog G 11 [bO j,.sl (cs.map fun l=>D.sl (l.map bD))] (.tup [.mix (hU (m5 j cs)),.c (.d (.int .i64 (fS j cs)))]):=by
  refine aF Try.func11 Ol rfl rfl ?_;have c1:=pN G j;by_cases v:bV j
  ·rw[decide_eq_true v] at c1;obtain⟨v1,v2,v3,v4,v5⟩:=o0 v;have eE:fS j cs=if eI cs=true then 0 else 3:=by unfold fS; rw[if_neg (not_not_intro v)]
   have c2:=FL G cs hcs;cases hA:eI cs
   ·rw[hA] at c2;have e:fS j cs=3:=by rw[eE,hA]; rfl
    rw[FJ e (by decide),e];unfold bO at *
    simp only[pc,aj,ae,aa,seval,iteOmega,toNatUp];refine sD (c1) ?_;refine sD (c2) ?_;exact tA (cs:=[.nil,.nil,.nil,.nil,.d (.int .i64 0),.d (.int .i64 0)]) (by simp only[ae,aa,seval,iteOmega,toNatUp] <;> rfl) (by simp only[ae,aa,seval,iteOmega,toNatUp] <;> rfl) (.cons rfl (.cons rfl (.cons rfl (.cons rfl (.cons rfl (.cons rfl .nil)))))) .nil
   ·rw[hA] at c2;have e:fS j cs=0:=by rw[eE,hA]; rfl
    rw[show m5 j cs=mZ j cs from if_pos e,e];have hX:mZ j cs=⟨j.up,j.dn,ba j.la j.ck cs,j.la,j.nw,j.sn⟩:=rfl;rw[hX];clear hX;have a4:=lU.1 hA;have c3:=FM G j (by omega) (by omega) (by omega) (fun c hc=>by have:=v5 c hc; omega) (by omega);have c4:=PM G j cs v3 (fun c hc=>by have:=a4 c hc; omega) hcs;have az:=ep (ba j.la j.ck cs);unfold hU at c3;unfold bO at *
    simp only[pc,aj,ae,aa,seval,iteOmega,toNatUp];refine sD (c1) ?_;refine sD (c2) ?_;refine sD (c3) ?_;refine Pz [.mix (eW j 128 j.ck.length),.c (.d (.sl (jv cs)))] [(1,128),(3,1000)] c4 ?_ ?_ ?_ rfl rfl ?_
    ·simp only[eW,jv,ae,aa,seval,iteOmega,toNatUp] <;> rfl
    ·simp only[eW,ae,aa,seval,iteOmega,toNatUp,mV,FN,QX,Ro]
    ·simp only[fP,jv,wx,aA,aJ,aa,seval,iteOmega,toNatUp,mV]
    ·simp only[eW,jv,ae,aa,seval,iteOmega,toNatUp,mV,FN,QX,Ro];exact tA (cs:=eW j 1000 (ba j.la j.ck cs).length) (by simp only[eW,ae,aa,seval,iteOmega,toNatUp] <;> rfl) (by simp only[ae,aa,seval,iteOmega,toNatUp] <;> rfl) (.cons rfl (.cons rfl (.cons ⟨rfl,rfl,by simp only[ae,aa,seval,iteOmega,toNatUp]⟩ (.cons rfl (.cons rfl (.cons rfl .nil)))))) (by simp[eW,C.ids])
  ·rw[decide_eq_false v] at c1;have e:fS j cs=3:=if_pos v;rw[FJ e (by decide),e];unfold bO at *
   simp only[pc,aj,ae,aa,seval,iteOmega,toNatUp];refine sD (c1) ?_;exact tA (cs:=[.nil,.nil,.nil,.nil,.d (.int .i64 0),.d (.int .i64 0)]) (by simp only[ae,aa,seval,iteOmega,toNatUp] <;> rfl) (by simp only[ae,aa,seval,iteOmega,toNatUp] <;> rfl) (.cons rfl (.cons rfl (.cons rfl (.cons rfl (.cons rfl (.cons rfl .nil)))))) .nil
def oC:aE:=⟨1,9,.seq (.reg [oO 2 (.mv (.k (.c (.d (.bool false)))))]) (.seq (.reg [oM 3 0,oO 4 (.bin .leq (kI 16) (.t 3)),oM 5 4,oG 6 (.mv (.t 0)) 5 true,oG 7 (.bin .leq (.t 6) (kI 32)) 5 true,oO 8 (.pick (.t 5) (.t 7) (.k (.c (.d (.bool false))))),oM 2 8]) (.ret)),[(2,none)]⟩
theorem Mg:aD Try.prog { own:=[],comp:=[],frz:=[],nils:=[] } Try.f49=some oC:=by kernel_rfl
theorem Om (G:ak) (n:Int):ar Try.prog G 49 [.int .i64 n] (.w (.c (.d (.bool (decide (16≤n∧n≤32)))))):=by
  refine aF Try.func49 Mg rfl rfl ?_;by_cases h1:16≤n
  ·by_cases h2:n≤32
   ·rw[decide_eq_true ⟨h1,h2⟩];simp only[oC,aj,ae,aa,seval,iteOmega,toNatUp];exact aM
   ·rw[decide_eq_false (fun h=>h2 h.2)];simp only[oC,aj,ae,aa,seval,iteOmega,toNatUp];exact aM
  ·rw[decide_eq_false (fun h=>h1 h.1)];simp only[oC,aj,ae,aa,seval,iteOmega,toNatUp];exact aM
theorem Mh (n s:List UInt8):([au n.length 2,au s.length 2,eh n 4,eh s 4]:List (List UInt8)).flatten=fv n s:=by
  unfold fv;simp only[Sk,Sd,Rh]
def EM:aE:=⟨2,20,.seq (.reg [oO 4 (.alloc [(.d (.int .i64 0)),.nil])]) (.seq (.reg [oM 5 0,oO 6 (.len (.t 5)),oO 7 (.conv .u64 (.t 6)),oO 8 (.call 71 [(.t 7),(kI 2)] none),oM 9 1,oO 10 (.len (.t 9)),oO 11 (.conv .u64 (.t 10)),oO 12 (.call 71 [(.t 11),(kI 2)] none),oM 13 0,oO 14 (.call 57 [(.t 13),(kI 4)] none),oM 15 1,oO 16 (.call 57 [(.t 15),(kI 4)] none),oO 17 (.bldSl false 4 1 (.sl []) [(0,(.t 8)),(1,(.t 12)),(2,(.t 14)),(3,(.t 16))]),oO 18 (.call 30 [(.t 17)] none),oO 19 (.build [(.d (.int .i64 0)),.nil] [(0,1,(kI 1028)),(1,1,(.t 18))]),oN (.store (.ag 2) (.t 4) (.t 19))]) (.ret)),[(4,(some (.ag 2)))]⟩
theorem On:aD Try.prog { own:=[],comp:=[],frz:=[],nils:=[] } Try.f53=some EM:=by kernel_rfl
set_option maxHeartbeats 1600000 in
theorem PO (G:ak) (n s:List UInt8) (hn:n.length≤1000000) (hs:s.length≤1000000):ar Try.prog G 53 [.sl (n.map bD),.sl (s.map bD)] (.w (.c (.d (bH (ka n s))))):=by
  refine aF Try.func53 On rfl rfl ?_;have c1:=fH G n.length 2 (by decide);have c2:=fH G s.length 2 (by decide);rw[show (2:Int).toNat=2 from rfl] at c1 c2;have c3:=uE G n 4 (by omega);have c4:=uE G s 4 (by omega);have cj:=dt G [au n.length 2,au s.length 2,eh n 4,eh s 4] (by simp) (by simp[cR,yj]; omega);rw[Mh] at cj;unfold ka bH;generalize fv n s=B at *
  generalize au n.length 2=B1 at *
  generalize au s.length 2=B2 at *
  generalize eh n 4=B3 at *
  generalize eh s 4=B4 at *
  simp only[QX,Ro] at cj;simp only[EM,aj,ae,aa,seval,iteOmega,toNatUp];refine sD (c1) ?_;refine sD (c2) ?_;refine sD (c3) ?_;refine sD (c4) ?_;refine sD (cj) ?_;exact aM
theorem FP {p:ca} (h:bU p=0):qw p=bX p:=if_pos h
theorem EO {p:ca} (h:bU p≠0):qw p=[]:=if_neg h
theorem Mi {h:Hd} (e:dV h=0):qi h=fu h:=if_pos (uK.1 e)
theorem EP {p:ca} (h:dV p.hd≠0):bU p=dV p.hd:=if_neg h
theorem ui {p:ca} (h:dV p.hd=0):bU p=bp p.pl:=if_pos h
theorem EQ {p:ca} (h:bU p=0):(bX p).length≤1280:=by
  have:=(pK (PH h).2.2).2.2.1;rw[oB]; omega
def oD:aE:=⟨1,29,.seq (.reg [oO 1 (.box .roBox (.t 0)),oO 2 (.mv (.k (.c .nil))),oO 3 (.mv (kI 0))]) (.seq (.reg [oO 8 (.fieldAddr 0 (.t 1)),oO 9 (.load (.ag 13) (.t 8)),oO 10 (.call 67 [(.t 9)] none),oM 7 10,oO 11 (.extract (.t 7) 0),oO 12 (.extract (.t 7) 1),oM 4 11,oM 5 12]) (.seq (.seq (.reg [oM 13 5,oO 14 (.bin .neq (.t 13) (kI 0))]) (.cond (.t 14) (.seq (.reg [oM 15 5,oO 2 (.mv (.k (.c .nil))),oM 3 15]) (.ret)) (.skip))) (.seq (.reg [oO 17 (.fieldAddr 13 (.t 1)),oO 18 (.load .sc (.t 17)),oO 19 (.call 51 [(.t 18)] none),oM 16 19,oO 20 (.extract (.t 16) 0),oO 21 (.extract (.t 16) 1),oM 6 20,oM 5 21]) (.seq (.seq (.reg [oM 22 5,oO 23 (.bin .neq (.t 22) (kI 0))]) (.cond (.t 23) (.seq (.reg [oM 24 5,oO 2 (.mv (.k (.c .nil))),oM 3 24]) (.ret)) (.skip))) (.seq (.reg [oM 25 4,oM 26 6,oO 27 (.bldSl false 2 1 (.sl []) [(0,(.t 25)),(1,(.t 26))]),
 oO 28 (.call 30 [(.t 27)] none),oM 2 28,oO 3 (.mv (kI 0))]) (.ret)))))),[(2,none),(3,none)]⟩
theorem Mj:aD Try.prog { own:=[],comp:=[],frz:=[],nils:=[] } Try.f50=some oD:=by kernel_rfl
theorem Oo (G:ak) (p:ca) (hf:qq p.hd) (hl:p.pl.length≤1000000) (hd:∀ f∈p.pl,f.da.length≤8000000000000000000):ar Try.prog G 50 [en p] (.tup [.c (.d (.sl ((qw p).map bD))),.c (.d (.int .i64 (bU p)))]):=by
  refine aF Try.func50 Mj rfl rfl ?_;have c1:=NZ G p.hd hf;have c2:=ue G p.pl hl hd;by_cases h1:dV p.hd=0
  ·rw[Mi h1,h1] at c1;by_cases h2:bp p.pl=0
   ·have h0:bU p=0:=by rw[ui h1,h2]
    have hle:=EQ h0;have cj:=dt G [fu p.hd,bn p.pl] (by simp) (by
      have:[fu p.hd,bn p.pl].flatten=bX p:=by simp[bX]
      rw[this]; omega)
    have hX:[fu p.hd,bn p.pl].flatten=bX p:=by simp[bX]
    rw[hX] at cj;simp only[QX,Ro] at cj;rw[(pK h2).2.2.2,h2] at c2;rw[h0,FP h0];clear hX hle h0 h1 h2;generalize bX p=X at *
    generalize fu p.hd=B1 at *
    generalize bn p.pl=B2 at *
    unfold en;unfold gA at c1;simp only[oD,aj,ae,aa,seval,iteOmega,toNatUp];refine sD (c1) ?_;refine sD (c2) ?_;refine sD (cj) ?_;exact fQ
   ·have h0:bU p≠0:=by rw[ui h1]; exact h2
    have g:(bU p=0)=False:=eq_false h0;rw[EO h0];rw[show bp p.pl=bU p from (ui h1).symm] at c2;clear h0 h1 h2;generalize bU p=e at *
    generalize fu p.hd=B1 at *
    generalize ek p.pl=B2 at *
    unfold en;unfold gA at c1;simp only[oD,aj,ae,aa,seval,iteOmega,toNatUp];refine sD (c1) ?_;refine sC (c2) ?_;simp only[g,ae,aa,seval,iteOmega,toNatUp];exact fQ
  ·have h0:bU p≠0:=by rw[EP h1]; exact h1
   have g:(bU p=0)=False:=eq_false h0;rw[EO h0];rw[show dV p.hd=bU p from (EP h1).symm] at c1;clear h0 h1 c2;generalize bU p=e at *
   generalize qi p.hd=B1 at *
   unfold en;unfold gA at c1;simp only[oD,aj,ae,aa,seval,iteOmega,toNatUp];refine sC (c1) ?_;simp only[g,ae,aa,seval,iteOmega,toNatUp];exact fQ
theorem i9 {key:List UInt8} {p:ca} {n:List UInt8} {e:Int} (h:cP key p n=e) (he:e≠0):fw key p n=[]:=if_neg (by rw[h]; exact he)
theorem PP {key:List UInt8} {p:ca} {n:List UInt8} (h:key.length≠32):cP key p n=5:=if_pos h
theorem PQ {key:List UInt8} {p:ca} {n:List UInt8} (h1:key.length=32) (h:n.length<16∨32<n.length):cP key p n=4:=by
  unfold cP; rw[if_neg (by omega),if_pos h]
theorem PR {key:List UInt8} {p:ca} {n:List UInt8} (h1:key.length=32) (h2:16≤n.length∧n.length≤32) (h:bU p≠0):cP key p n=bU p:=by
  unfold cP; rw[if_neg (by omega),if_neg (by omega),if_pos h]
theorem PS {key:List UInt8} {p:ca} {n:List UInt8} (h1:key.length=32) (h2:16≤n.length∧n.length≤32) (h3:bU p=0) (h:bp p.se≠0):cP key p n=bp p.se:=by
  unfold cP; rw[if_neg (by omega),if_neg (by omega),if_neg (by simp[h3]),if_pos h]
theorem PT {key:List UInt8} {p:ca} {n:List UInt8} (h1:key.length=32) (h2:16≤n.length∧n.length≤32) (h3:bU p=0) (h4:bp p.se=0) (h:(dX p.pl 1028).length≠0):cP key p n=3:=by
  unfold cP; rw[if_neg (by omega),if_neg (by omega),if_neg (by simp[h3]),if_neg (by simp[h4]),if_pos h]
theorem PU {key:List UInt8} {p:ca} {n:List UInt8} (h1:key.length=32) (h2:16≤n.length∧n.length≤32) (h3:bU p=0) (h4:bp p.se=0) (h5:(dX p.pl 1028).length=0) (h:p.pl.length=24):cP key p n=8:=by
  unfold cP; rw[if_neg (by omega),if_neg (by omega),if_neg (by simp[h3]),if_neg (by simp[h4]),if_neg (by simp[h5]),if_pos h]
theorem PV {key:List UInt8} {p:ca} {n:List UInt8} (h1:key.length=32) (h2:16≤n.length∧n.length≤32) (h3:bU p=0) (h4:bp p.se=0) (h5:(dX p.pl 1028).length=0) (h6:p.pl.length≠24):cP key p n=if bp [bQ key p n]≠0∨1280<(bX p).length+bz [bQ key p n] then 2 else 0:=by
  unfold cP; rw[if_neg (by omega),if_neg (by omega),if_neg (by simp[h3]),if_neg (by simp[h4]),if_neg (by simp[h5]),if_neg h6]
def gG:aE:=⟨3,78,.seq (.reg [oO 4 (.box .roBox (.t 1)),oO 6 (.mv (.k (.c .nil))),oO 7 (.mv (kI 0))]) (.seq (.seq (.reg [oM 14 0,oO 15 (.len (.t 14)),oO 16 (.bin .neq (.t 15) (kI 32))]) (.cond (.t 16) (.seq (.reg [oO 6 (.mv (.k (.c .nil))),oO 7 (.mv (kI 5))]) (.ret)) (.skip))) (.seq (.seq (.reg [oM 17 2,oO 18 (.len (.t 17)),oO 19 (.call 49 [(.t 18)] none),oO 20 (.un .not (.t 19))]) (.cond (.t 20) (.seq (.reg [oO 6 (.mv (.k (.c .nil))),oO 7 (.mv (kI 4))]) (.ret)) (.skip))) (.seq (.reg [oO 22 (.load (.ag 16) (.t 4)),oO 23 (.call 50 [(.t 22)] none),oM 21 23,oO 24 (.extract (.t 21) 0),oO 25 (.extract (.t 21) 1),oM 8 24,oM 9 25]) (.seq (.seq (.reg [oM 26 9,oO 27 (.bin .neq (.t 26) (kI 0))]) (.cond (.t 27) (.seq (.reg [oM 28 9,oO 6 (.mv (.k (.c .nil))),oM 7 28]) (.ret)) (.skip))) (.seq (.reg [oO 30 (.fieldAddr 14 (.t 4)),
 oO 31 (.load .sc (.t 30)),oO 32 (.call 51 [(.t 31)] none),oM 29 32,oO 33 (.extract (.t 29) 0),oO 34 (.extract (.t 29) 1),oM 10 33,oM 9 34]) (.seq (.seq (.reg [oM 35 9,oO 36 (.bin .neq (.t 35) (kI 0))]) (.cond (.t 36) (.seq (.reg [oM 37 9,oO 6 (.mv (.k (.c .nil))),oM 7 37]) (.ret)) (.skip))) (.seq (.seq (.reg [oO 38 (.fieldAddr 13 (.t 4)),oO 39 (.load .sc (.t 38)),oO 40 (.call 37 [(.t 39),(kI 1028)] none),oO 41 (.len (.t 40)),oO 42 (.bin .gtr (.t 41) (kI 0))]) (.cond (.t 42) (.seq (.reg [oO 6 (.mv (.k (.c .nil))),oO 7 (.mv (kI 3))]) (.ret)) (.skip))) (.seq (.seq (.reg [oO 43 (.fieldAddr 13 (.t 4)),oO 44 (.load .sc (.t 43)),oO 45 (.len (.t 44)),oO 46 (.bin .eql (.t 45) (kI 24))]) (.cond (.t 46) (.seq (.reg [oO 6 (.mv (.k (.c .nil))),oO 7 (.mv (kI 8))]) (.ret)) (.skip))) (.seq (.reg [oM 48 0,
 oM 49 8,oM 50 2,oO 51 (.bldSl false 2 1 (.sl []) [(0,(.t 49)),(1,(.t 50))]),oM 52 10,oO 53 (.call 52 [(.t 48),(.t 51),(.t 52)] none),oM 47 53,oO 54 (.extract (.t 47) 0),oO 55 (.extract (.t 47) 1),oM 11 54,oM 12 55]) (.seq (.reg [oM 57 2,oM 58 11,oO 59 (.call 53 [(.t 57),(.t 58)] none),oO 60 (.bldSl false 1 2 (.agg [(.int .i64 0),(.sl [])]) [(0,(.t 59))]),oO 61 (.call 51 [(.t 60)] none),oM 56 61,oO 62 (.extract (.t 56) 0),oO 63 (.extract (.t 56) 1),oM 13 62,oM 9 63]) (.seq (.seq (.reg [oM 64 9,oO 65 (.bin .neq (.t 64) (kI 0)),oM 66 65,oG 67 (.mv (.t 8)) 66 false,oG 68 (.len (.t 67)) 66 false,oG 69 (.mv (.t 13)) 66 false,oG 70 (.len (.t 69)) 66 false,oG 71 (.bin .add (.t 68) (.t 70)) 66 false,oG 72 (.bin .gtr (.t 71) (kI 1280)) 66 false,oO 73 (.pick (.t 66) (.k (.c (.d (.bool true)))) (.t 72))])
 (.cond (.t 73) (.seq (.reg [oO 6 (.mv (.k (.c .nil))),oO 7 (.mv (kI 2))]) (.ret)) (.skip))) (.seq (.reg [oM 74 8,oM 75 13,oO 76 (.bldSl false 2 1 (.sl []) [(0,(.t 74)),(1,(.t 75))]),oO 77 (.call 30 [(.t 76)] (some (0,1))),oM 6 77,oO 7 (.mv (kI 0))]) (.ret))))))))))))),[(6,none),(7,none)]⟩
theorem Mk:aD Try.prog { own:=[77],comp:=[],frz:=[],nils:=[] } Try.f34=some gG:=by kernel_rfl
theorem Oq (G:ak) (key:List UInt8) (p:ca) (n:List UInt8) (hk:key.length≤9223372036854775807) (hf:qq p.hd) (hl:p.pl.length≤1000000) (hd:∀ f∈p.pl,f.da.length≤8000000000000000000) (hl2:p.se.length≤1000000) (hd2:∀ f∈p.se,f.da.length≤8000000000000000000) (hn:n.length≤9223372036854775807):ar Try.prog G 34 [.sl (key.map bD),en p,.sl (n.map bD)] (.tup [.c (.fr 1 ((fw key p n).map bD)),.c (.d (.int .i64 (cP key p n)))]):=by
  refine aF Try.func34 Mk rfl rfl ?_;have cf:=Om G (n.length:Int);have c1:=Oo G p hf hl hd;have c2:=ue G p.se hl2 hd2;have c3:=N6 G p.pl 1028 hl;by_cases h1:key.length=32
  ·by_cases h2:16≤n.length∧n.length≤32
   ·rw[decide_eq_true (by omega)] at cf;by_cases h3:bU p=0
    ·have hXl:=EQ h3;rw[FP h3,h3] at c1;by_cases h4:bp p.se=0
     ·obtain⟨_,_,s3,s4⟩:=pK h4;rw[h4,s4] at c2;by_cases h5:(dX p.pl 1028).length=0
      ·by_cases h6:p.pl.length=24
       ·have e:=PU (key:=key) (n:=n) h1 h2 h3 h4 h5 h6;rw[i9 e (by decide),e];clear e h3 h4;generalize bX p=X at *
        generalize bn p.se=Y at *
        generalize dX p.pl 1028=Z at *
        unfold en at *
        simp only[gG,aj,ae,aa,seval,iteOmega,toNatUp,h1];refine sD (cf) ?_;refine sD (c1) ?_;refine sD (c2) ?_;refine sC (c3) ?_;simp only[h5,h6,ae,aa,seval,iteOmega,toNatUp];exact cx
       ·have e7:=PV (key:=key) (n:=n) h1 h2 h3 h4 h5 h6;have hae:cJ key [bX p,n] ((bn p.se).length:Int)=0:=EF h1 (by omega) (by omega) (by rw[jC]; omega);have hsl:(eT key p n).length=16+bz p.se:=by unfold eT; rw[Af hae,QV,nX,sE,jC]
        have c4:=NQ G key [bX p,n] (bn p.se) hk (by simp) (fun x hx=>by simp at hx; rcases hx with rfl | rfl <;> omega) (by rw[jC]; omega);rw[hae,show jQ key [bX p,n] (bn p.se)=eT key p n from rfl] at c4;have c5:=PO G n (eT key p n) (by omega) (by omega);have hgl:(fv n (eT key p n)).length≤4000:=by rw[tz]; omega
        have c6:=ue G [bQ key p n] (by simp) (fun f hf=>by rw[Q9.1 hf]; show (fv n (eT key p n)).length≤_; omega);rw[show bH (ka n (eT key p n))=bH (bQ key p n) from rfl] at c5;rw[List.map_singleton] at c6;by_cases h7:bp [bQ key p n]=0
        ·obtain⟨_,_,g3,g4⟩:=pK h7;rw[h7,g4] at c6;have hGl:=jC [bQ key p n];rcases RD 1280 ((bX p).length+bz [bQ key p n]) with h8 | h8
         ·have e:cP key p n=2:=by rw[e7,if_pos (.inr h8)]
          rw[i9 e (by decide),e];rw[← hGl] at h8;have g8:(((bX p).length:Int)+((bn [bQ key p n]).length:Int)>1280)=True:=eq_true (by omega);clear e e7 h3 h4 h7 hae hsl;unfold dK at c4;simp only[QX,Ro] at c4;generalize bn [bQ key p n]=W at *
          generalize bQ key p n=g at *
          generalize eT key p n=S at *
          generalize bX p=X at *
          generalize bn p.se=Y at *
          generalize dX p.pl 1028=Z at *
          unfold en bH at *
          simp only[gG,aj,ae,aa,seval,iteOmega,toNatUp,h1];refine sD (cf) ?_;refine sD (c1) ?_;refine sD (c2) ?_;refine sC (c3) ?_;simp only[h5,h6,ae,aa,seval,iteOmega,toNatUp];refine sD (c4) ?_;refine sD (c5) ?_;refine sC (c6) ?_;simp only[g8,ae,aa,seval,iteOmega,toNatUp];exact cx
         ·have e:cP key p n=0:=by rw[e7,if_neg (by omega)]
          have eB:fw key p n=bX p++bn [bQ key p n]:=if_pos e;have cj:=dt G [bX p,bn [bQ key p n]] (by simp) (by simp; omega);have hfl:[bX p,bn [bQ key p n]].flatten=fw key p n:=by rw[eB]; simp
          rw[hfl] at cj;simp only[QX,Ro] at cj;rw[e];rw[← hGl] at h8;have g8:(((bX p).length:Int)+((bn [bQ key p n]).length:Int)>1280)=False:=eq_false (by omega);clear e e7 h3 h4 h7 hae hsl eB hfl;unfold dK at c4;simp only[QX,Ro] at c4;generalize fw key p n=V at *
          generalize bn [bQ key p n]=W at *
          generalize bQ key p n=g at *
          generalize eT key p n=S at *
          generalize bX p=X at *
          generalize bn p.se=Y at *
          generalize dX p.pl 1028=Z at *
          unfold en bH at *
          simp only[gG,aj,ae,aa,seval,iteOmega,toNatUp,h1];refine sD (cf) ?_;refine sD (c1) ?_;refine sD (c2) ?_;refine sC (c3) ?_;simp only[h5,h6,ae,aa,seval,iteOmega,toNatUp];refine sD (c4) ?_;refine sD (c5) ?_;refine sC (c6) ?_;simp only[g8,ae,aa,seval,iteOmega,toNatUp];refine sD (cj) ?_;exact cx
        ·have e:cP key p n=2:=by rw[e7,if_pos (.inl h7)]
         rw[i9 e (by decide),e];have g7:(bp [bQ key p n]=0)=False:=eq_false h7;clear e e7 h3 h4 h7 hae hsl;unfold dK at c4;simp only[QX,Ro] at c4;generalize bp [bQ key p n]=E at *
         generalize ek [bQ key p n]=W at *
         generalize bQ key p n=g at *
         generalize eT key p n=S at *
         generalize bX p=X at *
         generalize bn p.se=Y at *
         generalize dX p.pl 1028=Z at *
         unfold en bH at *
         simp only[gG,aj,ae,aa,seval,iteOmega,toNatUp,h1];refine sD (cf) ?_;refine sD (c1) ?_;refine sD (c2) ?_;refine sC (c3) ?_;simp only[h5,h6,ae,aa,seval,iteOmega,toNatUp];refine sD (c4) ?_;refine sD (c5) ?_;refine sC (c6) ?_;simp only[g7,ae,aa,seval,iteOmega,toNatUp];exact cx
      ·have e:=PT (key:=key) (n:=n) h1 h2 h3 h4 h5;rw[i9 e (by decide),e];clear e h3 h4;generalize bX p=X at *
       generalize bn p.se=Y at *
       generalize dX p.pl 1028=Z at *
       unfold en at *
       simp only[gG,aj,ae,aa,seval,iteOmega,toNatUp,h1];refine sD (cf) ?_;refine sD (c1) ?_;refine sD (c2) ?_;refine sD (c3) ?_;exact cx
     ·have e:=PS (key:=key) (n:=n) h1 h2 h3 h4;rw[i9 e h4,e];have g4:(bp p.se=0)=False:=eq_false h4;clear e h3 h4;generalize bX p=X at *
      generalize bp p.se=E at *
      generalize ek p.se=Y at *
      unfold en at *
      simp only[gG,aj,ae,aa,seval,iteOmega,toNatUp,h1];refine sD (cf) ?_;refine sD (c1) ?_;refine sC (c2) ?_;simp only[g4,ae,aa,seval,iteOmega,toNatUp];exact cx
    ·have e:=PR (key:=key) (n:=n) h1 h2 h3;rw[i9 e h3,e];have g3:(bU p=0)=False:=eq_false h3;clear e h3;generalize bU p=E at *
     generalize qw p=X at *
     unfold en at *
     simp only[gG,aj,ae,aa,seval,iteOmega,toNatUp,h1];refine sD (cf) ?_;refine sC (c1) ?_;simp only[g3,ae,aa,seval,iteOmega,toNatUp];exact cx
   ·have e:=PQ (key:=key) (p:=p) (n:=n) h1 (by omega);rw[decide_eq_false (by omega)] at cf;rw[i9 e (by decide),e];unfold en;simp only[gG,aj,ae,aa,seval,iteOmega,toNatUp,h1];refine sD (cf) ?_;exact cx
  ·have e:=PP (key:=key) (p:=p) (n:=n) h1;rw[i9 e (by decide),e];unfold en;simp only[gG,aj,ae,aa,seval,iteOmega,toNatUp];exact cx
structure QR (b:List UInt8) where
  l1:48≤b.length
  l2:b.length≤1280
  ea:vM (b.drop 48)=0
  rd:QA b=⟨qu b,GE (b.drop 48),[],false⟩
theorem uj:kh.da.length=104:=Rc ..
theorem FQ (u c:List UInt8) (k:Nat):bJ u c (k+1)=bJ u c k++[kh]:=by
  unfold bJ;rw[List.replicate_succ',RY]
theorem oE (u c:List UInt8) (k:Nat):(bJ u c k).length=k+2:=by
  unfold bJ;rw[QV,Rc]
  show 2+k=_
  omega
theorem tB {u c:List UInt8} {k:Nat} {f:Fd} (h:f∈bJ u c k):f=⟨260,u⟩∨f=⟨516,c⟩∨f=kh:=by
  unfold bJ at h;rcases Re.1 h with h | h
  ·rcases Rr.1 h with h | h
   ·exact .inl h
   ·exact .inr (.inl (Q9.1 h))
  ·exact .inr (.inr (List.eq_of_mem_replicate h))
theorem tC {u c:List UInt8} (hu:u.length=32) (hc:c.length=104):∀ k,bz (bJ u c k)=144+108*k
  | 0=>by
    unfold bJ bz bd;simp[hu,hc]
  | k+1=>by
    rw[FQ,sF,tC hu hc k];have:bz [kh]=108:=by
      unfold bz bd;simp[uj]
    omega
theorem uk {f:Fd} (h1:0≤f.ty) (h2:f.ty≤65535) (h3:f.da.length≤1228):bI f=0:=by
  unfold bI bd;rw[if_neg (by omega),if_neg (by omega)]
theorem PW {u c:List UInt8} (hu:u.length=32) (hc:c.length=104) {k:Nat} (hk:k≤8):bp (bJ u c k)=0:=by
  refine EE (fun f hf=>?_) (by rw[oE]; omega) (by rw[tC hu hc]; omega);rcases tB hf with rfl | rfl | rfl
  ·exact uk (show (0:Int)≤260 by decide) (show (260:Int)≤65535 by decide) (by show u.length≤_; omega)
  ·exact uk (show (0:Int)≤516 by decide) (show (516:Int)≤65535 by decide) (by show c.length≤_; omega)
  ·exact uk (by decide) (by decide) (by rw[uj]; decide)
theorem Or {l:List Fd} {k:Int} (h:∀ f∈l,f.ty≠k):dX l k=[]:=Am h _ (Q5 _)
theorem Ot {u c:List UInt8} {k:Nat}:dX (bJ u c k) 1028=[]:=Or fun f hf=>by
  rcases tB hf with rfl | rfl | rfl
  ·exact show (260:Int)≠1028 by decide
  ·exact show (516:Int)≠1028 by decide
  ·exact show (772:Int)≠1028 by decide
theorem PX (t:Nat):dV (dR t)=0:=uK.2 rfl
theorem PY {t:Nat} (h:t<18446744073709551616):qq (dR t):=⟨show 0<_ by decide,show 0<_ by decide,show 0<_ by decide,show 0<_ by decide,show 0<_ by decide,show 0<_ by decide,h⟩
theorem FR {key u c n:List UInt8} {t k:Nat} (h1:key.length=32) (hu:u.length=32) (hc:c.length=104) (hn:n.length=16) (hk:k≤8):vw key ⟨dR t,bJ u c k,[],false⟩ n∧(fw key ⟨dR t,bJ u c k,[],false⟩ n).length=232+108*k:=by
  have s:bz ([]:List Fd)=0:=rfl;have e:=PW hu hc hk;have un:bU ⟨dR t,bJ u c k,[],false⟩=0:=by
    unfold bU;rw[if_pos (PX t)]; exact e
  have ht:=tC hu hc k;have ha:cJ key [bX ⟨dR t,bJ u c k,[],false⟩,n] ((bn []).length:Int)=0:=EF h1 (by rw[oB,ht]; omega) (by omega) (by decide);have hs:(eT key ⟨dR t,bJ u c k,[],false⟩ n).length=16:=by
    unfold eT;rw[Af ha,QV,nX,sE]; rfl
  have hl:=tz n (eT key ⟨dR t,bJ u c k,[],false⟩ n);have hT:bd (bQ key ⟨dR t,bJ u c k,[],false⟩ n)=40:=by
    unfold bQ;rw[uJ (by omega),hl,hs]; omega
  have ok:vw key ⟨dR t,bJ u c k,[],false⟩ n:=⟨h1,by omega,by omega,un,rfl,by rw[show dX (bJ u c k) 1028=[] from Ot]; rfl,by rw[oE]; omega,PG (by omega) (by unfold bQ at hT; rw[uJ (by omega)] at hT; omega),by rw[hT,ht]; omega⟩
  refine⟨ok,?_⟩;have hx:bz [bQ key ⟨dR t,bJ u c k,[],false⟩ n]=40:=by unfold bz; simp[hT]
  rw[(EG ok).2,QV,oB,jC,hx,ht];omega
theorem pO {j:Jr} {u n:List UInt8} {e:Int} (h:eV j u n=e) (he:e≠0):qy j u n=fy∧∀ t,qz j t u n=[]:=⟨if_neg (by rw[h]; exact he),fun t=>if_neg (by rw[h]; exact he)⟩


theorem Ou {u c:List UInt8} {k:Nat} (hu:u.length=32) (hc:c.length=104):∀ f∈bJ u c k,f.da.length≤104:=fun f hf=>by
  rcases tB hf with rfl | rfl | rfl
  ·show u.length≤104; omega
  ·show c.length≤104; omega
  ·exact Nat.le_of_eq uj
def uS (t:Nat) (n:List UInt8) (T:Jr) (u c:List UInt8) (K k:Nat):St:=⟨aR [(1,.w (.c (.d (.int .u64 (t:Int))))),(3,.w (.c (.d (.sl (n.map bD))))),(8,.w (.c (.ptr 3 1 0 0))),(11,.w (.c (.ptr 1 1 0 0))),(14,.w (.c (.own 2 2 0 (bJ u c k).length))),(54,.w (.c (.d (.int .i64 (K:Int))))),(55,.w (.c (.d (.int .i64 (k:Int)))))],hL [(1,br T (.d (.sl (T.ck.map fun l=>D.sl (l.map bD))))),(2,.row 2 ((bJ u c k).map bH)),(3,cQ)],uL [1,2,3]⟩
def sI:aI := .seq (.reg [oO 56 (.bin .lss (.t 55) (.t 54))]) (.seq (.cond (.t 56) (.skip) (.exit 0)) (.seq (.block 1 (.reg [oM 57 14,oO 58 (.make true 1 1 (.int .u8 0) (kI 104) (kI 104)),oO 59 (.build [(.d (.int .i64 0)),.nil] [(0,1,(kI 772)),(1,1,(.t 58))]),oO 60 (.bldFz 1 2 (.agg [(.int .i64 0),(.sl [])]) [(0,(.t 59))]),oO 61 (.app false 2 32 (.t 57) (.t 60)),oM 14 61])) (.reg [oO 62 (.bin .add (.t 55) (kI 1)),oM 55 62])))
def kZ:aE:=⟨4,77,.seq (.reg [oO 4 (.box .roBox (.t 0)),oO 8 (.alloc [.nil,.nil,.nil,.nil,(.d (.int .i64 0)),(.d (.int .i64 0))]),oO 9 (.mv (.k (.c .nil))),oO 10 (.mv (kI 0))]) (.seq (.seq (.reg [oO 19 (.load (.ag 6) (.t 4)),oO 20 (.call 16 [(.t 19)] none),oO 21 (.un .not (.t 20)),oM 22 21,oG 23 (.mv (.t 2)) 22 false,oG 24 (.len (.t 23)) 22 false,oG 25 (.bin .neq (.t 24) (kI 32)) 22 false,oO 26 (.pick (.t 22) (.k (.c (.d (.bool true)))) (.t 25)),oM 27 26,oG 28 (.mv (.t 3)) 27 false,oG 29 (.len (.t 28)) 27 false,oG 30 (.bin .neq (.t 29) (kI 16)) 27 false,oO 31 (.pick (.t 27) (.k (.c (.d (.bool true)))) (.t 30))]) (.cond (.t 31) (.seq (.reg [oO 32 (.build [.nil,.nil,.nil,.nil,(.d (.int .i64 0)),(.d (.int .i64 0))] []),oN (.store (.ag 6) (.t 8) (.t 32)),oO 9 (.mv (.k (.c .nil))),oO 10 (.mv (kI 3))])
 (.ret)) (.skip))) (.seq (.reg [oO 34 (.load (.ag 6) (.t 4)),oO 35 (.call 13 [(.t 34)] none),oM 33 35,oO 36 (.extract (.t 33) 0),oO 37 (.extract (.t 33) 1),oO 38 (.extract (.t 33) 2),oO 11 (.alloc [.nil,.nil,.nil,.nil,(.d (.int .i64 0)),(.d (.int .i64 0))]),oN (.store (.ag 6) (.t 11) (.t 36)),oM 12 37,oM 13 38]) (.seq (.seq (.reg [oM 39 13,oO 40 (.bin .neq (.t 39) (kI 0))]) (.cond (.t 40) (.seq (.reg [oO 41 (.build [.nil,.nil,.nil,.nil,(.d (.int .i64 0)),(.d (.int .i64 0))] []),oM 42 13,oN (.store (.ag 6) (.t 8) (.t 41)),oO 9 (.mv (.k (.c .nil))),oM 10 42]) (.ret)) (.skip))) (.seq (.reg [oM 43 2,oO 44 (.build [(.d (.int .i64 0)),.nil] [(0,1,(kI 260)),(1,1,(.t 43))]),oM 45 12,oO 46 (.build [(.d (.int .i64 0)),.nil] [(0,1,(kI 516)),(1,1,(.t 45))]),oO 47 (.bldSl true 2 2 (.agg [(.int .i64 0),(.sl [])]) [(0,(.t 44)),(1,(.t 46))]),
 oM 14 47]) (.seq (.reg [oO 49 (.load (.ag 6) (.t 11)),oO 50 (.call 21 [(.t 49)] none),oM 48 50,oO 51 (.extract (.t 48) 0),oO 52 (.extract (.t 48) 1),oM 15 51,oM 16 52]) (.seq (.seq (.reg [oM 53 15,oO 54 (.bin .sub (.t 53) (kI 1)),oO 55 (.mv (kI 0))]) (.block 0 (.loop sI))) (.seq (.reg [oO 64 (.fieldAddr 0 (.t 11)),oO 65 (.fieldAddr 0 (.t 64)),oO 66 (.load .sc (.t 65)),oM 67 1,oO 68 (.call 35 [(.t 67)] none),oM 69 14,oO 70 (.build [(.d (.int .i64 0)),(.d (.int .i64 0)),(.d (.int .i64 0)),(.d (.int .i64 0)),(.d (.int .i64 0)),(.d (.int .i64 0)),(.d (.int .u32 0)),(.d (.int .u32 0)),(.d (.int .u32 0)),(.d (.int .u64 0)),(.d (.int .u64 0)),(.d (.int .u64 0)),(.d (.int .u64 0)),.nil,.nil,(.d (.bool false))] [(0,13,(.t 68)),(13,1,(.t 69))]),oM 71 3,oO 72 (.call 34 [(.t 66),(.t 70),(.t 71)] none),
 oM 63 72,oO 73 (.extract (.t 63) 0),oO 74 (.extract (.t 63) 1),oM 17 73,oM 18 74]) (.seq (.reg [oO 75 (.load (.ag 6) (.t 11)),oM 76 17,oN (.store (.ag 6) (.t 8) (.t 75)),oM 9 76,oO 10 (.mv (kI 0))]) (.ret))))))))),[(8,(some (.ag 6))),(9,none),(10,none)]⟩
theorem Ov:aD Try.prog { own:=[47],comp:=[],frz:=[60],nils:=[] } Try.f19=some kZ:=by kernel_rfl
set_option maxHeartbeats 6400000 in
theorem PZ (G:ak) (j:Jr) (t:Nat) (u n:List UInt8) (ht:t<18446744073709551616):ar Try.prog G 19 [bO j,.int .u64 (t:Int),.sl (u.map bD),.sl (n.map bD)] (.tup [.c (.d (bO (qy j u n))),.c (.d (.sl ((qz j t u n).map bD))),.c (.d (.int .i64 (eV j u n)))]):=by
  refine aF Try.func19 Ov rfl rfl ?_;have c1:=pN G j;by_cases v:bV j
  ·rw[decide_eq_true v] at c1;by_cases h1:u.length=32
   ·have g1:((u.length:Int)=32)=True:=eq_true (by omega);by_cases h2:n.length=16
    ·have g2:((n.length:Int)=16)=True:=eq_true (by omega);have eE:eV j u n=cG j:=by unfold eV; rw[if_neg (fun h=>h.elim (· v) (fun h=>h.elim (· h1) (· h2)))]
     have c2:=uR G j;by_cases h3:cG j=0
     ·obtain⟨v1,v2,v3,v4,v5⟩:=o0 v;have hk:j.ck.length≠0:=fun h=>by
        unfold cG at h3;rw[if_neg (not_not_intro v),if_pos h] at h3;cases h3
      have hs:j.sn≠1099511627776:=fun h=>by
        unfold cG at h3;rw[if_neg (not_not_intro v),if_neg hk,if_pos h] at h3;cases h3
      have m0:=v5 _ (ke (l:=j.ck) (i:=0) (by omega));rw[h3] at eE;rw[show qy j u n=cp j from if_pos eE,show qz j t u n=fw j.up (eo j t u) n from if_pos eE,eE];rw[show kf j=cp j from if_pos h3,show kg j=j.ck.getD 0 [] from if_pos h3,h3] at c2;have cw:=FO G (cp j);have tv:bV (cp j):=(uO v hk hs).2;have hT:(8-((cp j).ck.length:Int))-1=((8-j.ck.length:Nat):Int):=by
        show (8-((j.ck.drop 1).length:Int))-1=_
        rw[Q4]; omega
      have hT8:(cp j).ck.length≤8:=by
        show (j.ck.drop 1).length≤8
        rw[Q4]; omega
      rw[show mY (cp j)=8-((cp j).ck.length:Int) from if_pos tv,show mX (cp j)=0 from if_pos tv] at cw;have c3:=NV G t;obtain⟨ok,_⟩:=FR (key:=j.up) (u:=u) (c:=j.ck.getD 0 []) (n:=n) (t:=t) (k:=8-j.ck.length) v1 h1 m0 h2 (by omega);have c4:=Oq G j.up (eo j t u) n (by omega) (PY ht) (by unfold eo; rw[oE]; omega) (fun f hf=>by
        have:=Ou (u:=u) (c:=j.ck.getD 0 []) h1 m0 f hf;omega) (Q8 _) (fun f hf=>by cases hf) (by omega)
      rw[show cP j.up (eo j t u) n=0 from (EG ok).1] at c4;have fl:=Pq 1 (fw j.up (eo j t u) n) .i64 0;have hq:(eo j t u).pl=bJ u (j.ck.getD 0 []) (8-j.ck.length):=rfl;unfold en at c4;rw[hq,show (eo j t u).hd=dR t from rfl,show (eo j t u).se=[] from rfl,show (eo j t u).gu=false from rfl] at c4;have tup:(cp j).up=j.up:=rfl;rw[← tup] at c4 fl ⊢;clear ok eE h3 tv hs v tup;generalize fw (cp j).up (eo j t u) n=B at *
      generalize j.ck.getD 0 []=c at *
      generalize cp j=T at *
      generalize hK:8-j.ck.length=K at *
      have gK:(8-(T.ck.length:Int))-1=(K:Int):=hT;unfold bO at *
      simp only[kZ,aj,ae,aa,seval,iteOmega,toNatUp];refine sC (c1) ?_;simp only[g1,g2,ae,aa,seval,iteOmega,toNatUp];refine sD (c2) ?_;refine sC (cw) ?_;simp only[gK,ae,aa,seval,iteOmega,toNatUp];refine bi (uS t n T u c K) (fun k=>K-k) (fun k=>k≤K) 0 (Q8 _) ?_ ?_
      ·refine aC (fun i=>if i=1 then 88 else if i=2 then 376 else 64) ?_ ?_ rfl rfl <;> simp only[bJ,bH,dM,br,cQ,wx,aA,aJ,aa,seval,iteOmega,toNatUp] <;> first | rfl | exact⟨rfl,rfl⟩ | skip
      ·intro k hk2;clear c1 c2 cw;have ql:=oE u c k;have az:=Kh (bJ u c k);by_cases hlt:k<K
       ·have gk:((k:Int)<(K:Int))=True:=eq_true (by omega);have hs:=FQ u c k;have hp:bH kh=.agg [.int .i64 772,.sl (List.replicate 104 (.int .u8 0))]:=by
          unfold bH kh;rw[List.map_replicate]; rfl
        have e0:uS t n T u c K k=⟨aR [(1,.w (.c (.d (.int .u64 (t:Int))))),(3,.w (.c (.d (.sl (n.map bD))))),(8,.w (.c (.ptr 3 1 0 0))),(11,.w (.c (.ptr 1 1 0 0))),(14,.w (.c (.own 2 2 0 (bJ u c k).length))),(54,.w (.c (.d (.int .i64 (K:Int))))),(55,.w (.c (.d (.int .i64 (k:Int)))))],hL [(1,br T (.d (.sl (T.ck.map fun l=>D.sl (l.map bD))))),(2,.row 2 ((bJ u c k).map bH)),(3,cQ)],uL [1,2,3]⟩:=rfl;rw[e0];clear e0;generalize bJ u c k=L at *
        simp only[sI,dM,br,cQ,ae,aa,seval,iteOmega,toNatUp,gk,bT];refine aZ (k+1) (by omega) (by omega) (aC (fun i=>if i=1 then 1 else if i=2 then 488 else 3) ?_ ?_ rfl rfl) <;> simp only[hs,hp,List.replicate,Rx,QX,Ro,dM,br,cQ,wx,aA,aJ,aa,seval,iteOmega,toNatUp] <;> first | rfl | exact⟨rfl,rfl⟩ | skip
       ·obtain rfl:k=K:=by omega
        have gk:((k:Int)<(k:Int))=False:=eq_false (by omega);have e0:uS t n T u c k k=⟨aR [(1,.w (.c (.d (.int .u64 (t:Int))))),(3,.w (.c (.d (.sl (n.map bD))))),(8,.w (.c (.ptr 3 1 0 0))),(11,.w (.c (.ptr 1 1 0 0))),(14,.w (.c (.own 2 2 0 (bJ u c k).length))),(54,.w (.c (.d (.int .i64 (k:Int))))),(55,.w (.c (.d (.int .i64 (k:Int)))))],hL [(1,br T (.d (.sl (T.ck.map fun l=>D.sl (l.map bD))))),(2,.row 2 ((bJ u c k).map bH)),(3,cQ)],uL [1,2,3]⟩:=rfl;rw[e0];clear e0;generalize bJ u c k=L at *
        unfold gA at c3;simp only[sI,dM,br,cQ,ae,aa,seval,iteOmega,toNatUp,gk];refine sD (c3) ?_;refine bF c4 (by simp only[ae,aa,seval,iteOmega,toNatUp] <;> rfl) (.inr fl) ?_;simp only[ae,aa,seval,iteOmega,toNatUp];exact iX
     ·have g3:(cG j=0)=False:=eq_false h3;obtain⟨q1,q2⟩:=pO eE h3;rw[q1,q2,eE];unfold bO fy at *
      generalize cG j=e at *
      simp only[kZ,aj,ae,aa,seval,iteOmega,toNatUp];refine sC (c1) ?_;simp only[g1,g2,ae,aa,seval,iteOmega,toNatUp];refine sC (c2) ?_;simp only[g3,ae,aa,seval,iteOmega,toNatUp];exact iX
    ·have g2:((n.length:Int)=16)=False:=eq_false (by omega);have e:eV j u n=3:=by unfold eV; rw[if_pos (.inr (.inr h2))]
     obtain⟨q1,q2⟩:=pO e (by decide);rw[q1,q2,e];unfold bO fy at *
     simp only[kZ,aj,ae,aa,seval,iteOmega,toNatUp];refine sC (c1) ?_;simp only[g1,g2,ae,aa,seval,iteOmega,toNatUp];exact iX
   ·have g1:((u.length:Int)=32)=False:=eq_false (by omega);have e:eV j u n=3:=by unfold eV; rw[if_pos (.inr (.inl h1))]
    obtain⟨q1,q2⟩:=pO e (by decide);rw[q1,q2,e];unfold bO fy at *
    simp only[kZ,aj,ae,aa,seval,iteOmega,toNatUp];refine sC (c1) ?_;simp only[g1,ae,aa,seval,iteOmega,toNatUp];exact iX
  ·rw[decide_eq_false v] at c1;have e:eV j u n=3:=by unfold eV; rw[if_pos (.inl v)]
   obtain⟨q1,q2⟩:=pO e (by decide);rw[q1,q2,e];unfold bO fy at *
   simp only[kZ,aj,ae,aa,seval,iteOmega,toNatUp];refine sD (c1) ?_;exact iX


def kj (s:Int):List UInt8:=(cz s 64).take 32
def km (s:Int):List UInt8:=(cz s 64).drop 32
theorem tE (s:Int):(kj s).length=32:=by
  unfold kj;rw[QY,lQ]; rfl
theorem CE (s:Int):(km s).length=32:=by
  unfold km;rw[Q4,lQ]; rfl
def ES:aE:=⟨1,11,.seq (.reg [oO 2 (.alloc [.nil,.nil])]) (.seq (.reg [oM 4 0,oO 5 (.call 10 [(.t 4),(kI 64)] none),oM 3 5]) (.seq (.reg [oM 6 3,oO 7 (.slice 1 (.t 6) none (some (kI 32)) none),oM 8 3,oO 9 (.slice 1 (.t 8) (some (kI 32)) none none),oO 10 (.build [.nil,.nil] [(0,1,(.t 7)),(1,1,(.t 9))]),oN (.store (.ag 2) (.t 2) (.t 10))]) (.ret))),[(2,(some (.ag 2)))]⟩
theorem OK:aD Try.prog { own:=[],comp:=[],frz:=[],nils:=[] } Try.f23=some ES:=by kernel_rfl
theorem P1 (G:ak) (s:Int):ar Try.prog G 23 [.int .i64 s] (.w (.c (.d (.agg [.sl ((kj s).map bD),.sl ((km s).map bD)])))):=by
  refine aF Try.func23 OK rfl rfl ?_;have c1:=sK G s 64 (by decide);have hl:(cz s 64).length=64:=lQ _ _;unfold kj km;have t1:((cz s 64).drop 32).take 32=(cz s 64).drop 32:=QZ (by simp; omega);generalize cz s 64=B at *
  simp only[ES,aj,ae,aa,seval,iteOmega,toNatUp];refine sC (c1) ?_;simp only[hl,t1,ae,aa,seval,iteOmega,toNatUp];exact aM
def lJ (s i:Nat):List UInt8:=cz ((s+1000003*(i+1):Nat):Int) 104
def cd (s n:Nat):List (List UInt8):=(List.range n).map (lJ s)
theorem P2 (s n:Nat):cd s (n+1)=cd s n++[lJ s n]:=by
  unfold cd;rw[SE,Rx]; rfl
theorem oF (s n:Nat):(cd s n).length=n:=by
  unfold cd;rw[Q7,R6]
theorem oH (s i:Nat):(lJ s i).length=104:=lQ _ _
def bg (s n:Nat):Jr:=⟨kj (s:Int),km (s:Int),cd s n,[],1,0⟩
def iQ:Ob:=.box [.nil,.nil,.nil,.nil,.d (.int .i64 0),.d (.int .i64 0)]
def iR (s:Nat) (k:C):Ob:=.box [.d (.sl ((kj (s:Int)).map bD)),.d (.sl ((km (s:Int)).map bD)),k,.nil,.d (.int .i64 1),.d (.int .i64 0)]
def iZ (s:Nat) (n:Int) (i:Nat):List (Nat×V):=[(0,.w (.c (.d (.int .i64 (s:Int))))),(1,.w (.c (.d (.int .i64 n)))),(4,.w (.c (.ptr 3 1 0 0))),(5,.w (.c (.ptr 1 1 0 0))),(6,.w (.c (.d (.int .i64 (i:Int)))))]
def j6 (s:Nat) (n:Int):Nat→St
  | 0=>⟨aR (iZ s n 0),hL [(1,iR s .nil),(3,iQ)],uL [1,3]⟩
  | i+1=>⟨aR (iZ s n (i+1)),hL [(1,iR s (.own 2 1 0 (cd s (i+1)).length)),(2,.row 1 ((cd s (i+1)).map fun l=>D.sl (l.map bD))),(3,iQ)],uL [1,2,3]⟩
def l6:aI := .seq (.seq (.reg [oM 10 6,oM 11 1,oO 12 (.call 8 [(.t 11),(kI 9)] none),oO 13 (.bin .lss (.t 10) (.t 12))]) (.cond (.t 13) (.skip) (.exit 0))) (.seq (.block 1 (.reg [oO 16 (.fieldAddr 2 (.t 5)),oO 17 (.load .sc (.t 16)),oM 18 0,oM 19 6,oO 20 (.bin .add (.t 19) (kI 1)),oO 21 (.bin .mul (kI 1000003) (.t 20)),oO 22 (.bin .add (.t 18) (.t 21)),oO 23 (.call 10 [(.t 22),(kI 104)] none),oO 24 (.bldSl false 1 1 (.sl []) [(0,(.t 23))]),oO 25 (.app false 1 24 (.t 17) (.t 24)),oO 26 (.fieldAddr 2 (.t 5)),oN (.store .sc (.t 26) (.t 25))])) (.reg [oM 14 6,oO 15 (.bin .add (.t 14) (kI 1)),oM 6 15]))
def ET:aE:=⟨2,28,.seq (.reg [oO 4 (.alloc [.nil,.nil,.nil,.nil,(.d (.int .i64 0)),(.d (.int .i64 0))])]) (.seq (.reg [oM 7 0,oO 8 (.call 23 [(.t 7)] none),oO 9 (.build [.nil,.nil,.nil,.nil,(.d (.int .i64 0)),(.d (.int .i64 0))] [(0,2,(.t 8)),(4,1,(kI 1))]),oO 5 (.alloc [.nil,.nil,.nil,.nil,(.d (.int .i64 0)),(.d (.int .i64 0))]),oN (.store (.ag 6) (.t 5) (.t 9))]) (.seq (.seq (.reg [oO 6 (.mv (kI 0))]) (.block 0 (.loop l6))) (.seq (.reg [oO 27 (.load (.ag 6) (.t 5)),oN (.store (.ag 6) (.t 4) (.t 27))]) (.ret)))),[(4,(some (.ag 6)))]⟩
theorem OL:aD Try.prog { own:=[],comp:=[],frz:=[],nils:=[] } Try.f9=some ET:=by kernel_rfl
theorem FT (G:ak) (s:Nat) (n:Int) (hs:s≤1000000) (N:Nat) (hN:ij n 9=(N:Int)):ar Try.prog G 9 [.int .i64 (s:Int),.int .i64 n] (.w (.c (.d (bO (bg s N))))):=by
  refine aF Try.func9 OL rfl rfl ?_;have c1:=P1 G (s:Int);have r0:=nc n 9 (by decide);have c2:=sJ G n 9 (by decide);rw[hN] at c2 r0;unfold bO bg;dsimp only;simp only[ET,aj,ae,aa,seval,iteOmega,toNatUp];refine sD (c1) ?_;refine bi (j6 s n) (fun i=>N-i) (fun i=>i≤N) 0 (Q8 _) ?_ ?_
  ·refine aC (fun i=>if i=1 then 40 else 32) ?_ ?_ rfl rfl <;> simp only[iZ,iR,iQ,wx,aA,aJ,aa,seval,iteOmega,toNatUp] <;> first | rfl | exact⟨rfl,rfl⟩ | skip
  ·intro i hi;clear c1;have tl:=oF s i;have az:=ep (cd s i);by_cases hlt:i<N
   ·have g1:((i:Int)<(N:Int))=True:=eq_true (by omega);have c3:=sK G ((s+1000003*(i+1):Nat):Int) 104 (by decide);have ec:(s:Int)+1000003*((i:Int)+1)=((s+1000003*(i+1):Nat):Int):=by omega
    have hn:=P2 s i;rw[show cz ((s+1000003*(i+1):Nat):Int) 104=lJ s i from rfl] at c3;generalize lJ s i=x at *
    rcases i with _ | i
    ·have e1:cd s (0+1)=[x]:=hn;simp only[l6,j6,iZ,iR,iQ,ae,aa,seval,iteOmega,toNatUp];refine sC (c2) ?_;simp only[g1,ec,ae,aa,seval,iteOmega,toNatUp];refine sC (c3) ?_;simp only[bT,ae,aa,seval,iteOmega,toNatUp];refine aZ (0+1) (by omega) (by omega) (aC (fun i=>if i=1 then 1 else if i=2 then 200 else 3) ?_ ?_ rfl rfl) <;> simp only[j6,iZ,iR,iQ,e1,wx,aA,aJ,aa,seval,iteOmega,toNatUp] <;> first | rfl | exact⟨rfl,rfl⟩ | skip
    ·simp only[l6,j6,iZ,iR,iQ,ae,aa,seval,iteOmega,toNatUp,tl];refine sC (c2) ?_;simp only[g1,ec,ae,aa,seval,iteOmega,toNatUp];refine sC (c3) ?_;simp only[bT,tl,ae,aa,seval,iteOmega,toNatUp];refine aZ (i+1+1) (by omega) (by omega) (aC (fun i=>if i=1 then 1 else if i=2 then 200 else 3) ?_ ?_ rfl rfl) <;> simp only[j6,iZ,iR,iQ,hn,Rx,tl,wx,aA,aJ,aa,seval,iteOmega,toNatUp] <;> first | rfl | exact⟨rfl,rfl⟩ | skip
   ·obtain rfl:i=N:=by omega
    have g1:((i:Int)<(i:Int))=False:=eq_false (by omega);rcases i with _ | i
    ·have e0:cd s 0=[]:=rfl;rw[e0];simp only[l6,j6,iZ,iR,iQ,ae,aa,seval,iteOmega,toNatUp];refine sC (c2) ?_;simp only[g1,ae,aa,seval,iteOmega,toNatUp];exact aM
    ·simp only[l6,j6,iZ,iR,iQ,ae,aa,seval,iteOmega,toNatUp];refine sC (c2) ?_;simp only[g1,ae,aa,seval,iteOmega,toNatUp];exact aM
theorem Gm {s N:Nat} (hN:N≤8):mW (bg s N):=by
  refine⟨tE _,CE _,?_,.inl rfl,il.2 fun h=>?_,by show (0:Int)≤1; decide,by show (0:Int)≤0; decide,by show (0:Int)≤_; decide⟩
  ·show (cd s N).length≤8
   rw[oF]; exact hN
  ·obtain⟨i,_,hi⟩:=Rn.1 (show []∈cd s N from h);have:=oH s i;rw[hi] at this;cases this
theorem EU {s N:Nat}:∀ c∈(bg s N).ck,c.length=104:=fun c hc=>by
  obtain⟨i,_,rfl⟩:=Rn.1 (show c∈cd s N from hc);exact oH s i
theorem P3 (s N:Nat):(cd s (N+1)).getD 0 []=lJ s 0:=by
  unfold cd;rw[List.range_succ_eq_map,QX]; rfl
theorem EV:(cp (bg 1 1)).la.length=104:=by
  rw[show (cp (bg 1 1)).la=(cd 1 (0+1)).getD 0 [] from rfl,P3,oH]
theorem EW:(cp (bg 1 1)).ck=[]:=rfl
theorem OM:bV (cp (bg 1 1)):=by
  refine ii.2 ⟨⟨tE _,CE _,?_,.inr EV,?_,show (0:Int)≤1 by decide,show (0:Int)≤0+1 by decide,show (0:Int)+1≤1099511627776 by decide⟩,?_,?_⟩ <;> rw[EW]
  ·exact Q8 _
  ·rfl
  ·exact fun c hc=>by cases hc
  ·exact List.Pairwise.nil
theorem QB:bV (bg 1 1):=ii.2 ⟨Gm (by decide),EU,List.pairwise_singleton _ _⟩
def xa:aE:=⟨0,46,.seq (.reg [oO 0 (.mv (.k (.c (.d (.bool false)))))]) (.seq (.reg [oO 7 (.call 9 [(kI 1),(kI 1)] none),oO 8 (.make false 1 1 (.int .u8 0) (kI 32) (kI 32)),oO 9 (.make false 1 1 (.int .u8 0) (kI 16) (kI 16)),oO 10 (.call 19 [(.t 7),(.k (.c (.d (.int .u64 5)))),(.t 8),(.t 9)] none),oM 6 10,oO 11 (.extract (.t 6) 0),oO 12 (.extract (.t 6) 1),oO 13 (.extract (.t 6) 2),oO 1 (.alloc [.nil,.nil,.nil,.nil,(.d (.int .i64 0)),(.d (.int .i64 0))]),oN (.store (.ag 6) (.t 1) (.t 11)),oM 2 12,oM 3 13]) (.seq (.reg [oO 15 (.load (.ag 6) (.t 1)),oO 16 (.call 21 [(.t 15)] none),oM 14 16,oO 17 (.extract (.t 14) 0),oO 18 (.extract (.t 14) 1),oM 4 17,oM 5 18]) (.seq (.reg [oM 19 3,oO 20 (.bin .eql (.t 19) (kI 0)),oM 21 20,oG 22 (.mv (.t 5)) 21 true,oG 23 (.bin .eql (.t 22) (kI 0)) 21 true,
 oO 24 (.pick (.t 21) (.t 23) (.k (.c (.d (.bool false))))),oM 25 24,oG 26 (.mv (.t 2)) 25 true,oG 27 (.len (.t 26)) 25 true,oG 28 (.bin .eql (.t 27) (kI 988)) 25 true,oO 29 (.pick (.t 25) (.t 28) (.k (.c (.d (.bool false))))),oM 30 29,oG 31 (.mv (.t 4)) 30 true,oG 32 (.bin .eql (.t 31) (kI 8)) 30 true,oO 33 (.pick (.t 30) (.t 32) (.k (.c (.d (.bool false))))),oM 34 33,oG 35 (.fieldAddr 2 (.t 1)) 34 true,oG 36 (.load .sc (.t 35)) 34 true,oG 37 (.len (.t 36)) 34 true,oG 38 (.bin .eql (.t 37) (kI 0)) 34 true,oO 39 (.pick (.t 34) (.t 38) (.k (.c (.d (.bool false))))),oM 40 39,oG 41 (.fieldAddr 3 (.t 1)) 40 true,oG 42 (.load .sc (.t 41)) 40 true,oG 43 (.len (.t 42)) 40 true,oG 44 (.bin .eql (.t 43) (kI 104)) 40 true,oO 45 (.pick (.t 40) (.t 44) (.k (.c (.d (.bool false))))),oM 0 45]) (.ret)))),
 [(0,none)]⟩
theorem Hz:aD Try.prog { own:=[],comp:=[],frz:=[8,9],nils:=[] } Try.f7=some xa:=by kernel_rfl
set_option maxHeartbeats 1600000 in
theorem IJ (G:ak):ar Try.prog G 7 [] (.w (.c (.d (.bool true)))):=by
  refine aF Try.func7 Hz rfl rfl ?_;have c1:=FT G 1 1 (by decide) 1 (by decide);have v:=QB;have kl:(bg 1 1).ck.length=1:=rfl;have e0:cG (bg 1 1)=0:=by unfold cG; rw[if_neg (not_not_intro v),if_neg (by rw[kl]; decide),if_neg (show ¬ (bg 1 1).sn=1099511627776 from fun h=>absurd (show (0:Int)=1099511627776 from h) (by decide))]
  have e1:eV (bg 1 1) (List.replicate 32 0) (List.replicate 16 0)=0:=by unfold eV; rw[if_neg (fun h=>h.elim (· v) (fun h=>h.elim (· Rc) (· Rc))),e0]
  have c2:=PZ G (bg 1 1) 5 (List.replicate 32 0) (List.replicate 16 0) (by decide);rw[show qy (bg 1 1) (List.replicate 32 0) (List.replicate 16 0)=cp (bg 1 1) from if_pos e1,show qz (bg 1 1) 5 (List.replicate 32 0) (List.replicate 16 0)=fw (bg 1 1).up (eo (bg 1 1) 5 (List.replicate 32 0)) (List.replicate 16 0) from if_pos e1,e1] at c2;obtain⟨_,ql⟩:=FR (key:=(bg 1 1).up) (u:=List.replicate 32 0) (c:=(bg 1 1).ck.getD 0 []) (n:=List.replicate 16 0) (t:=5) (k:=7) (tE _) Rc (oH _ _) Rc (by decide);have hq:eo (bg 1 1) 5 (List.replicate 32 0)=⟨dR 5,bJ (List.replicate 32 0) ((bg 1 1).ck.getD 0 []) 7,[],false⟩:=by unfold eo; rw[kl]
  rw[← hq] at ql;have ql:=ql.trans (show 232+108*7=988 by decide);have c3:=FO G (cp (bg 1 1));have tv:=OM;rw[show mY (cp (bg 1 1))=8 from if_pos tv,show mX (cp (bg 1 1))=0 from if_pos tv] at c3;have la:=EV;have ck:=EW;have z32:((List.replicate 32 (0:UInt8)).map bD)=List.replicate 32 (.int .u8 0):=by rw[List.map_replicate]; rfl
  have ej:((List.replicate 16 (0:UInt8)).map bD)=List.replicate 16 (.int .u8 0):=by rw[List.map_replicate]; rfl
  clear tv e0 e1 v kl;generalize fw (bg 1 1).up (eo (bg 1 1) 5 (List.replicate 32 0)) (List.replicate 16 0)=B at *
  generalize cp (bg 1 1)=T at *
  generalize bg 1 1=W at *
  rw[z32,ej] at c2;simp only[List.replicate] at c2;unfold bO at *
  rw[ck] at c2 c3;simp only[Ro] at c2 c3;have gq:((B.length:Int)=988)=True:=eq_true (by omega);have gl:((T.la.length:Int)=104)=True:=eq_true (by omega);simp only[xa,aj,ae,aa,seval,iteOmega,toNatUp];refine sD (c1) ?_;refine sD (c2) ?_;refine sC (c3) ?_;simp only[gq,gl,ae,aa,seval,iteOmega,toNatUp];exact aM
theorem EY (s:Nat) {N:Nat} (hN:N≤8):cd s N=(kr.take N).map fun o=>cz ((s+o:Nat):Int) 104:=by
  unfold cd kr;rw[← List.map_take,List.take_range,Sl hN,SL];rfl
theorem O6 {α:Type} {a b:List α} (h:(a++b).Nodup):a.Nodup∧b.Nodup∧∀ x∈a,x∉b:=by
  obtain⟨h1,h2,h3⟩:=RO.1 h;exact⟨h1,h2,fun x hx hb=>h3 x hx x hb rfl⟩
theorem Qn {s N:Nat} (hs:s<1000) (hN:N≤8):(cd s N).Nodup:=by
  rw[EY s hN];have h:=QC hs;rw[Rx] at h;have h1:=(O6 h).1;exact h1.sublist ((List.take_sublist _ _).map _)
theorem Qo {s N:Nat} (hs:s<1000) (hN:N≤8):bV (bg s N):=ii.2 ⟨Gm hN,EU,Qn hs hN⟩
theorem tF {la:List UInt8}:∀ {cs l:List (List UInt8)},(l++cs).Nodup→la∉cs→l.length≤8→ba la l cs=(l++cs).take 8
  | [],l,_,_,h8=>by
    rw[Rh,QZ h8]; rfl
  | c::cs,l,hn,hl,h8=>by
    have e:l++c::cs=(l++[c])++cs:=by rw[RY]; rfl
    have hc:eU l c=false:=il.2 fun h=>by
      obtain⟨_,_,h3⟩:=RO.1 hn;exact h3 c h c (Rv ..) rfl
    have hla:(la==c)=false:=beq_eq_false_iff_ne.2 fun h=>hl (by rw[h]; exact Rv ..)
    have hl2:la∉cs:=fun h=>hl (Rm _ h)
    show ba la (dA la l c) cs=_
    unfold dA iN;rw[hc,hla];by_cases h:l.length<8
    ·rw[if_pos (by rw[decide_eq_true h]; rfl),tF (by rw[← e]; exact hn) hl2 (by rw[QV,RZ]; omega),e]
    ·rw[if_neg (by rw[decide_eq_false h]; decide)];have hd:(l++cs).Nodup:=by
       rw[e] at hn;exact hn.sublist ((List.sublist_append_left l [c]).append_right cs)
     rw[tF hd hl2 h8,Sx (by omega),Sx (by omega)]
theorem CI {la:List UInt8}:∀ {cs l:List (List UInt8)},(8≤l.length∨∀ c∈cs,c∈l)→ba la l cs=l
  | [],_,_=>rfl
  | c::cs,l,h=>by
    show ba la (dA la l c) cs=_
    have e:dA la l c=l:=by
      unfold dA iN;rcases h with h | h
      ·rw[if_neg (by rw[decide_eq_false (show ¬ l.length<8 by omega)]; simp)]
      ·rw[if_neg (by rw[Cw.2 (h c (Rv ..))]; simp)]
    rw[e];exact CI (h.imp_right fun h x hx=>h x (Rm _ hx))
theorem MD (la:List UInt8) (l a b:List (List UInt8)):ba la l (a++b)=ba la (ba la l a) b:=by
  unfold ba;rw[List.foldl_append]
def qC (s i:Nat):List UInt8:=cz ((s+9000000*(i+1):Nat):Int) 104
def aY (s n:Nat):List (List UInt8):=(List.range n).map (qC s)
theorem Qp (s n:Nat):aY s (n+1)=aY s n++[qC s n]:=by
  unfold aY;rw[SE,Rx]; rfl
theorem CJ (s n:Nat):(aY s n).length=n:=by
  unfold aY;rw[Q7,R6]
theorem tG {s n:Nat}:∀ c∈aY s n,c.length=104:=fun c hc=>by
  obtain⟨i,_,rfl⟩:=Rn.1 hc;exact lQ _ _
theorem O7 (s:Nat) {n:Nat} (hn:n≤11):aY s n=(nb.take n).map fun o=>cz ((s+o:Nat):Int) 104:=by
  unfold aY nb;rw[← List.map_take,List.take_range,Sl hn,SL];rfl
theorem Qq {s N n:Nat} (hs:s<1000) (hN:N≤8) (hn:n≤11):(cd s N++aY s n).Nodup:=by
  rw[EY s hN,O7 s hn,← Rx];exact (QD hs).sublist (((List.take_sublist _ _).append (List.take_sublist _ _)).map _)
theorem O8 {la c:List UInt8} {l:List (List UInt8)} (h:iN la l c=true):c∉l∧la≠c∧l.length<8:=by
  unfold iN at h;rw[Rl,Rl,SH,SH] at h;exact⟨il.1 h.1,beq_eq_false_iff_ne.1 h.2.1,of_decide_eq_true h.2.2⟩
theorem uq {la:List UInt8}:∀ {cs l:List (List UInt8)},l.Nodup→la∉l→(∀ c∈l,c.length=104)→(∀ c∈cs,c.length=104)→(ba la l cs).Nodup∧la∉ba la l cs∧∀ c∈ba la l cs,c.length=104
  | [],_,h1,h2,h3,_=>⟨h1,h2,h3⟩
  | c::cs,l,h1,h2,h3,h4=>by
    show (ba la (dA la l c) cs).Nodup∧la∉ba la (dA la l c) cs∧∀ x∈ba la (dA la l c) cs,x.length=104
    have h5:∀ x∈cs,x.length=104:=fun x hx=>h4 x (Rm _ hx)
    by_cases hf:iN la l c=true
    ·obtain⟨f1,f2,_⟩:=O8 hf;rw[show dA la l c=l++[c] from if_pos hf];refine uq (RO.2 ⟨h1,List.pairwise_singleton _ _,fun a ha b hb e=>?_⟩) (fun h=>?_) (fun x hx=>?_) h5
     ·rw[Q9.1 hb] at e;exact f1 (e ▸ ha)
     ·rcases Re.1 h with h | h
      ·exact h2 h
      ·exact f2 (Q9.1 h)
     ·rcases Re.1 hx with hx | hx
      ·exact h3 x hx
      ·rw[Q9.1 hx]; exact h4 c (Rv ..)
    ·rw[show dA la l c=l from if_neg hf];exact uq h1 h2 h3 h5
theorem Qr {j:Jr} {cs:List (List UInt8)} (v:bV j) (h:∀ c∈cs,c.length=104):fS j cs=0∧bV (mZ j cs):=by
  refine⟨by unfold fS; rw[if_neg (not_not_intro v),if_pos (lU.2 h)],?_⟩;obtain⟨⟨a1,a2,a3,a4,a5,a6,a7,a8⟩,b,c⟩:=ii.1 v;obtain⟨p1,p2,p3⟩:=uq c (il.1 a5) b h;exact ii.2 ⟨⟨a1,a2,Cx _ a3,a4,il.2 p2,a6,a7,a8⟩,p3,p1⟩
def vQ (L:List (List UInt8)):Nat→List UInt8
  | 0=>[]
  | i+1=>L.getD i []
def kJ (W:Jr) (L:List (List UInt8)) (i:Nat):Jr:=⟨W.up,W.dn,L.drop i,vQ L i,W.nw,(i:Int)⟩
theorem drop_at {L:List (List UInt8)} {i:Nat} (h:i<L.length):L.drop i=L.getD i []::L.drop (i+1):=by
  rw[List.drop_eq_getElem_cons h,QW,QT h]; rfl
theorem FX {W:Jr} {L:List (List UInt8)} {i:Nat} (h:i<L.length):cp (kJ W L i)=kJ W L (i+1)∧(kJ W L i).ck.getD 0 []=L.getD i []:=by
  have e:(kJ W L i).ck=L.getD i []::L.drop (i+1):=drop_at h;refine⟨?_,by rw[e]; rfl⟩
  show (⟨W.up,W.dn,(kJ W L i).ck.drop 1,(kJ W L i).ck.getD 0 [],W.nw,(i:Int)+1⟩:Jr)=⟨W.up,W.dn,L.drop (i+1),L.getD i [],W.nw,((i+1:Nat):Int)⟩
  rw[e,show (i:Int)+1=((i+1:Nat):Int) by omega]; rfl
theorem uY {W:Jr} {L:List (List UInt8)} (h8:L.length≤8) (v:bV (kJ W L 0)):∀ i,i≤L.length→bV (kJ W L i)
  | 0,_=>v
  | i+1,h=>by
    have vi:=uY h8 v i (by omega);rw[← (FX (W:=W) (show i<L.length by omega)).1];refine (uO vi ?_ ?_).2
    ·show (L.drop i).length≠0
     rw[Q4]; omega
    ·show (i:Int)≠_
     omega
theorem Gp {W:Jr} {L:List (List UInt8)} {i:Nat} (h8:L.length≤8) (v:bV (kJ W L 0)) (h:i<L.length):cG (kJ W L i)=0∧kf (kJ W L i)=kJ W L (i+1)∧kg (kJ W L i)=L.getD i []:=by
  obtain⟨e,_⟩:=uO (uY h8 v i (by omega)) (by show (L.drop i).length≠0; rw[Q4]; omega) (by show (i:Int)≠_; omega);obtain⟨k1,k2⟩:=FX (W:=W) h;exact⟨e,(if_pos e).trans k1,(if_pos e).trans k2⟩
theorem Gq {W:Jr} {L:List (List UInt8)} (h8:L.length≤8) (v:bV (kJ W L 0)):cG (kJ W L L.length)=10:=by
  unfold cG;rw[if_neg (not_not_intro (uY h8 v _ (Q5 _))),if_pos (by show (L.drop L.length).length=0; rw[Q4]; omega)]
theorem O9 {s N M:Nat} (hs:s<1000) (hN:N≤8) (hM:M≤11):fS (bg s N) (aY s M++aY s M)=0∧m5 (bg s N) (aY s M++aY s M)=kJ (bg s N) ((cd s N++aY s M).take 8) 0∧bV (kJ (bg s N) ((cd s N++aY s M).take 8) 0):=by
  have v:=Qo hs hN;obtain⟨e,pv⟩:=Qr (cs:=aY s M++aY s M) v fun c hc=>(Re.1 hc).elim (tG c) (tG c)
  have nd:=Qq hs hN hM;have la:([]:List UInt8)∉aY s M:=fun h=>by
    have:=tG _ h;cases this
  have eL:ba [] (cd s N) (aY s M++aY s M)=(cd s N++aY s M).take 8:=by
    rw[MD,tF nd la (by rw[oF]; exact hN)];refine CI ?_;by_cases h:(cd s N++aY s M).length≤8
    ·rw[QZ h];exact .inr fun c hc=>Q1 _ hc
    ·rw[QY];exact .inl (by omega)
  have eJ:mZ (bg s N) (aY s M++aY s M)=kJ (bg s N) ((cd s N++aY s M).take 8) 0:=by
    show (⟨kj (s:Int),km (s:Int),ba [] (cd s N) (aY s M++aY s M),[],1,0⟩:Jr)=_
    rw[eL]; rfl
  exact⟨e,(if_pos e).trans eJ,eJ ▸ pv⟩
theorem Pb (l:List (List UInt8)):(l.map fun l=>D.sl (l.map bD)).all (fun e=>e.cells.all D.byt1)=true:=by
  rw[List.all_map,Q2];intro x _
  show ([D.sl (x.map bD)]:List D).all D.byt1=true
  rw[RL,List.all_nil,Sf]
  show (x.map bD).all D.isU8=true
  rw[List.all_map,Q2];exact fun _ _=>rfl
theorem ut (l:List UInt8):D.byt1 (.sl (l.map bD))=true:=by
  show (l.map bD).all D.isU8=true
  rw[List.all_map,Q2];exact fun _ _=>rfl
theorem Pf (j:Jr) (e:Int):V.byt (.tup [.mix (hU j),.c (.d (.int .i64 e))])=true:=by
  show (((hU j).all C.byt)&&(true&&true))=true
  rw[Sf,Sf];unfold hU;rw[RL,RL,RL,RL,RL,RL,List.all_nil]
  show (D.byt1 (.sl (j.up.map bD))&&(D.byt1 (.sl (j.dn.map bD))&&((j.ck.map fun l=>D.sl (l.map bD)).all (fun e=>e.cells.all D.byt1)&&(D.byt1 (.sl (j.la.map bD))&&(true&&(true&&true))))))=true
  rw[ut,ut,Pb,ut]; rfl
theorem Pg (l:List (List UInt8)):(D.sl (l.map fun l=>D.sl (l.map bD))).noU8=true:=by
  show (l.map fun l=>D.sl (l.map bD)).all (fun e=>e.cells.all fun x=>!x.isU8)=true
  rw[List.all_map,Q2];exact fun _ _=>rfl
def iS (s m:Int) (W:Jr) (i:Nat):List (Nat×V):=[(0,.w (.c (.d (.int .i64 s)))),(2,.w (.c (.d (.int .i64 m)))),(7,.w (.c (.ptr 1 1 0 0))),(8,.w (.c (.own 2 1 0 W.ck.length))),(10,.w (.c (.d (.int .i64 (i:Int)))))]
def iT (W:Jr):List (Nat×Ob):=[(1,br W (.d (.sl (W.ck.map fun l=>D.sl (l.map bD))))),(2,.row 1 (W.ck.map fun l=>D.sl (l.map bD)))]
def jU (s:Nat) (m:Int) (W:Jr):Nat→St
  | 0=>⟨aR ((9,.w (.c .nil))::iS (s:Int) m W 0),hL (iT W),uL [1,2]⟩
  | i+1=>⟨aR ((9,.w (.c (.own 3 1 0 (aY s (i+1)).length)))::iS (s:Int) m W (i+1)),hL ((3,.row 1 ((aY s (i+1)).map fun l=>D.sl (l.map bD)))::iT W),uL [1,2,3]⟩
def jg (W:Jr) (F L:List (List UInt8)) (i:Nat):St:=⟨aR [(7,.w (.c (.ptr 1 1 0 0))),(8,.w (.c (.own 2 1 0 L.length))),(12,.w (.c (.d (.int .i64 (i:Int)))))],hL [(1,br (kJ W L i) (.d (.sl ((kJ W L i).ck.map fun l=>D.sl (l.map bD))))),(2,.row 1 (F.map fun l=>D.sl (l.map bD)))],uL [1,2]⟩
def lV:aI := .seq (.seq (.reg [oM 28 10,oM 29 2,oO 30 (.call 8 [(.t 29),(kI 12)] none),oO 31 (.bin .lss (.t 28) (.t 30))]) (.cond (.t 31) (.skip) (.exit 0))) (.seq (.block 1 (.reg [oM 34 9,oM 35 0,oM 36 10,oO 37 (.bin .add (.t 36) (kI 1)),oO 38 (.bin .mul (kI 9000000) (.t 37)),oO 39 (.bin .add (.t 35) (.t 38)),oO 40 (.call 10 [(.t 39),(kI 104)] none),oO 41 (.bldSl false 1 1 (.sl []) [(0,(.t 40))]),oO 42 (.app false 1 24 (.t 34) (.t 41)),oM 9 42])) (.reg [oM 32 10,oO 33 (.bin .add (.t 32) (kI 1)),oM 10 33]))
def lW:aI := .seq (.seq (.reg [oM 63 12,oM 64 8,oO 65 (.len (.t 64)),oO 66 (.bin .lss (.t 63) (.t 65))]) (.cond (.t 66) (.skip) (.exit 2))) (.seq (.block 3 (.seq (.reg [oO 70 (.loadB (.ag 6) (.t 7)),oO 71 (.call 13 [(.t 70)] none),oM 69 71,oO 72 (.extract (.t 69) 0),oO 73 (.extract (.t 69) 1),oO 74 (.extract (.t 69) 2),oO 13 (.alloc [.nil,.nil,.nil,.nil,(.d (.int .i64 0)),(.d (.int .i64 0))]),oN (.store (.ag 6) (.t 13) (.t 72)),oM 14 73,oM 15 74]) (.seq (.seq (.reg [oM 75 15,oO 76 (.bin .neq (.t 75) (kI 0)),oM 77 76,oG 78 (.mv (.t 14)) 77 false,oG 79 (.mv (.t 8)) 77 false,oG 80 (.mv (.t 12)) 77 false,oG 81 (.idxSl 1 (.t 79) (.t 80)) 77 false,oG 82 (.load .sc (.t 81)) 77 false,oG 83 (.call 14 [(.t 78),(.t 82)] none) 77 false,oG 84 (.un .not (.t 83)) 77 false,oO 85 (.pick (.t 77) (.k (.c (.d (.bool true)))) (.t 84)),
 oM 86 85,oG 87 (.fieldAddr 3 (.t 13)) 86 false,oG 88 (.loadB .sc (.t 87)) 86 false,oG 89 (.mv (.t 14)) 86 false,oG 90 (.call 14 [(.t 88),(.t 89)] none) 86 false,oG 91 (.un .not (.t 90)) 86 false,oO 92 (.pick (.t 86) (.k (.c (.d (.bool true)))) (.t 91))]) (.cond (.t 92) (.seq (.reg [oO 6 (.mv (.k (.c (.d (.bool false)))))]) (.ret)) (.skip))) (.reg [oO 93 (.loadB (.ag 6) (.t 13)),oN (.store (.ag 6) (.t 7) (.t 93))])))) (.reg [oM 67 12,oO 68 (.bin .add (.t 67) (kI 1)),oM 12 68]))
def CK:aE:=⟨3,105,.seq (.reg [oO 6 (.mv (.k (.c (.d (.bool false)))))]) (.seq (.reg [oM 19 0,oO 20 (.call 8 [(.t 19),(kI 1000)] none),oM 0 20]) (.seq (.reg [oM 21 0,oM 22 1,oO 23 (.call 9 [(.t 21),(.t 22)] none),oO 7 (.alloc [.nil,.nil,.nil,.nil,(.d (.int .i64 0)),(.d (.int .i64 0))]),oN (.store (.ag 6) (.t 7) (.t 23))]) (.seq (.reg [oO 8 (.mv (.k (.c .nil)))]) (.seq (.reg [oM 24 8,oO 25 (.fieldAddr 2 (.t 7)),oO 26 (.loadB .sc (.t 25)),oO 27 (.app false 1 24 (.t 24) (.t 26)),oM 8 27]) (.seq (.reg [oO 9 (.mv (.k (.c .nil)))]) (.seq (.seq (.reg [oO 10 (.mv (kI 0))]) (.block 0 (.loop lV))) (.seq (.reg [oM 43 8,oM 44 9,oO 45 (.app false 1 24 (.t 43) (.t 44)),oM 8 45]) (.seq (.reg [oM 46 8,oM 47 8,oO 48 (.len (.t 47)),oO 49 (.min [(.t 48),(kI 8)]),oO 50 (.slice 1 (.t 46) none (some (.t 49)) none),
 oM 8 50]) (.seq (.reg [oO 52 (.loadB (.ag 6) (.t 7)),oO 53 (.bldSl false 0 1 (.sl []) []),oM 54 9,oO 55 (.appN false 1 24 (.t 53) (.t 54)),oM 56 9,oO 57 (.app false 1 24 (.t 55) (.t 56)),oO 58 (.call 11 [(.t 52),(.t 57)] none),oM 51 58,oO 59 (.extract (.t 51) 0),oO 60 (.extract (.t 51) 1),oN (.store (.ag 6) (.t 7) (.t 59)),oM 11 60]) (.seq (.seq (.reg [oM 61 11,oO 62 (.bin .neq (.t 61) (kI 0))]) (.cond (.t 62) (.seq (.reg [oO 6 (.mv (.k (.c (.d (.bool false)))))]) (.ret)) (.skip))) (.seq (.seq (.reg [oO 12 (.mv (kI 0))]) (.block 2 (.loop lW))) (.seq (.reg [oO 95 (.loadB (.ag 6) (.t 7)),oO 96 (.call 13 [(.t 95)] none),oM 94 96,oO 97 (.extract (.t 94) 0),oO 98 (.extract (.t 94) 1),oO 99 (.extract (.t 94) 2),oO 16 (.alloc [.nil,.nil,.nil,.nil,(.d (.int .i64 0)),(.d (.int .i64 0))]),oN (.store (.ag 6) (.t 16) (.t 97)),
 oM 17 98,oM 18 99]) (.seq (.reg [oO 100 (.call 7 [] none),oM 101 100,oG 102 (.mv (.t 18)) 101 true,oG 103 (.bin .eql (.t 102) (kI 10)) 101 true,oO 104 (.pick (.t 101) (.t 103) (.k (.c (.d (.bool false))))),oM 6 104]) (.ret)))))))))))))),[(6,none)]⟩
theorem ME:aD Try.prog { own:=[],comp:=[],frz:=[],nils:=[55],bx:=[26,52,70,88,93,95] } Try.f6=some CK:=by kernel_rfl
set_option maxHeartbeats 1600000 in
theorem Ph (G:ak) (seed:Int) (hseed1:-9223372036854775808≤seed) (hseed2:seed≤9223372036854775807) (n:Int) (hn1:-9223372036854775808≤n) (hn2:n≤9223372036854775807) (m:Int) (hm1:-9223372036854775808≤m) (hm2:m≤9223372036854775807) :ar Try.prog G 6 [.int .i64 seed,.int .i64 n,.int .i64 m] (.w (.c (.d (.bool true)))):=by
  refine aF Try.func6 ME rfl rfl ?_;have r0:=nc seed 1000 (by decide);have e0:=sJ G seed 1000 (by decide);obtain⟨s,hs⟩:=RR r0.1;have hs:ij seed 1000=(s:Int):=hs;rw[hs] at e0 r0;have r1:=nc n 9 (by decide);obtain⟨N,hN⟩:=RR r1.1;have hN:ij n 9=(N:Int):=hN;rw[hN] at r1;have r2:=nc m 12 (by decide);have e2:=sJ G m 12 (by decide);obtain⟨M,hM⟩:=RR r2.1;have hM:ij m 12=(M:Int):=hM;rw[hM] at e2 r2;have c1:=FT G s n (by omega) N hN;obtain⟨pE,pJ,pv⟩:=O9 (s:=s) (N:=N) (M:=M) (by omega) (by omega) (by omega);have c2:=PN G (bg s N) (aY s M++aY s M) (by rw[QV,CJ]; omega);have by2:=Pf (m5 (bg s N) (aY s M++aY s M)) (fS (bg s N) (aY s M++aY s M));have no2:=Pg (aY s M++aY s M);rw[pJ,pE] at c2 by2;have ck:=IJ G;have wck:(bg s N).ck=cd s N:=rfl;rw[← wck] at c2 by2 pv;have wl:(bg s N).ck.length=N:=oF s N;clear pE pJ wck;generalize bg s N=W at *
  have az0:=ep W.ck;unfold hU at c2;unfold bO at *
  simp only[CK,aj,ae,aa,seval,iteOmega,toNatUp];refine sD (e0) ?_;refine sC (c1) ?_;simp only[bT,az0,ae,aa,seval,iteOmega,toNatUp];refine bi (jU s m W) (fun i=>M-i) (fun i=>i≤M) 0 (Q8 _) ?_ ?_
  ·refine aC (fun i=>if i=1 then 56 else 216) ?_ ?_ rfl rfl <;> simp only[iS,iT,br,wx,aA,aJ,aa,seval,iteOmega,toNatUp] <;> first | rfl | exact⟨rfl,rfl⟩ | skip
  ·intro i hi;clear e0 c1;have tl:=CJ s i;have az:=ep (aY s i);by_cases hlt:i<M
   ·have gi:((i:Int)<(M:Int))=True:=eq_true (by omega);have c3:=sK G ((s+9000000*(i+1):Nat):Int) 104 (by decide);have ec:(s:Int)+9000000*((i:Int)+1)=((s+9000000*(i+1):Nat):Int):=by omega
    have hn:=Qp s i;rw[show cz ((s+9000000*(i+1):Nat):Int) 104=qC s i from rfl] at c3;clear c2 by2 no2 ck pv;generalize qC s i=x at *
    rcases i with _ | i
    ·have e1:aY s (0+1)=[x]:=hn;simp only[lV,jU,iS,iT,br,ae,aa,seval,iteOmega,toNatUp];refine sC (e2) ?_;simp only[gi,ec,ae,aa,seval,iteOmega,toNatUp];refine sC (c3) ?_;simp only[bT,ae,aa,seval,iteOmega,toNatUp];refine aZ (0+1) (by omega) (by omega) (aC (fun i=>if i=3 then 336 else i) ?_ ?_ rfl rfl) <;> simp only[jU,iS,iT,br,e1,wx,aA,aJ,aa,seval,iteOmega,toNatUp] <;> first | rfl | exact⟨rfl,rfl⟩ | skip
    ·simp only[lV,jU,iS,iT,br,ae,aa,seval,iteOmega,toNatUp,tl];refine sC (e2) ?_;simp only[gi,ec,ae,aa,seval,iteOmega,toNatUp];refine sC (c3) ?_;simp only[bT,tl,ae,aa,seval,iteOmega,toNatUp];refine aZ (i+1+1) (by omega) (by omega) (aC (fun i=>if i=3 then 336 else i) ?_ ?_ rfl rfl) <;> simp only[jU,iS,iT,br,hn,Rx,tl,wx,aA,aJ,aa,seval,iteOmega,toNatUp] <;> first | rfl | exact⟨rfl,rfl⟩ | skip
   ·obtain rfl:i=M:=by omega
    have gi:((i:Int)<(i:Int))=False:=eq_false (by omega);rcases i with _ | i
    ·simp only[lV,jU,iS,iT,br,ae,aa,seval,iteOmega,toNatUp];refine sC (e2) ?_;simp only[gi,bT,az,az0,tl,R1,SA,ae,aa,seval,iteOmega,toNatUp];have w0:aY s 0=[]:=rfl;simp only[w0,Rh,Ro] at c2 by2 no2 pv;have tw:aY s 0=[]:=w0;have gm:W.ck.length=(W.ck.take 8).length:=by rw[QY]; omega
     generalize hF:W.ck=F at *
     generalize hL:F.take 8=L at *
     have L8:L.length≤8:=by rw[← hL,QY]; omega
     have Lat:∀ k,k<L.length→F[k]?=some (L.getD k []):=fun k hk=>by
       have e:=jt hk;rw[← hL] at e hk ⊢;rw[List.getElem?_take_of_lt (by rw[QY] at hk; omega)] at e;exact e
     have azF:=ep F;clear e2 hL hF az az0;refine zf c2 (by simp only[ae,aa,seval,iteOmega,toNatUp,RS,tw,tl] <;> rfl) by2 (by simp only[ae,aa,seval,iteOmega,toNatUp,jM,V.hasOwn,C.isOwn,V.own1,no2,Bool.not_true,Bool.not_false,Bool.true_or,Bool.false_or]) ?_;simp only[ae,aa,seval,iteOmega,toNatUp,gm];refine bi (jg W F L) (fun i=>L.length-i) (fun i=>i≤L.length) 0 (Q8 _) ?_ ?_
     ·refine aC (fun i=>if i=1 then 1 else 360) ?_ ?_ rfl rfl <;> simp only[br,kJ,wx,aA,aJ,aa,seval,iteOmega,toNatUp] <;> first | rfl | exact⟨rfl,rfl⟩ | skip
     ·intro k hk;clear c2 by2 no2;have T:=uR G (kJ W L k);by_cases hlt:k<L.length
      ·obtain⟨t1,t2,t3⟩:=Gp L8 pv hlt;rw[t1,t2,t3] at T;have f:=Lat k hlt;have s1:=BI G (L.getD k []) (L.getD k []);rw[beq_self_eq_true] at s1;have kk:vQ L (k+1)=L.getD k []:=rfl;clear t1 t2 t3 ck;unfold bO kJ at T;dsimp only at T;rw[kk] at T;generalize L.getD k []=x at *
       simp only[lW,jg,br,kJ,ae,aa,seval,iteOmega,toNatUp];refine sC (T) ?_;simp only[aU,f,azF,ae,aa,seval,iteOmega,toNatUp];refine sD (s1) ?_;refine sD (s1) ?_;refine aZ (k+1) (by omega) (by omega) (aC (fun i=>i) ?_ ?_ rfl rfl) <;> simp only[jg,br,kJ,kk,wx,aA,aJ,aa,seval,iteOmega,toNatUp] <;> first | rfl | exact⟨rfl,rfl⟩ | skip
      ·obtain rfl:k=L.length:=by omega
       have t1:=Gq L8 pv;rw[t1] at T;generalize kf (kJ W L L.length)=J at *
       generalize kg (kJ W L L.length)=C at *
       clear t1 pv;unfold bO kJ at T;dsimp only at T;simp only[lW,jg,br,kJ,ae,aa,seval,iteOmega,toNatUp];refine sD (T) ?_;refine sD (ck) ?_;exact aM
    ·simp only[lV,jU,iS,iT,br,ae,aa,seval,iteOmega,toNatUp,tl];have tk:(aY s (i+1)).take (i+1)=aY s (i+1):=QZ (by omega);refine sC (e2) ?_;simp only[gi,bT,az,az0,tl,tk,R1,SA,ae,aa,seval,iteOmega,toNatUp];have tw:(aY s (i+1)++aY s (i+1)).take (i+1+(i+1))=aY s (i+1)++aY s (i+1):=QZ (by rw[QV,tl]; omega);have gm:(if 8<(W.ck.length:Int)+((i:Int)+1) then 8 else (W.ck.length:Int)+((i:Int)+1)).toNat=((W.ck++aY s (i+1)).take 8).length:=by
       rw[QY,QV,tl];split <;> omega
     generalize hF:W.ck++aY s (i+1)=F at *
     generalize hL:F.take 8=L at *
     have L8:L.length≤8:=by rw[← hL,QY]; omega
     have Lat:∀ k,k<L.length→F[k]?=some (L.getD k []):=fun k hk=>by
       have e:=jt hk;rw[← hL] at e hk ⊢;rw[List.getElem?_take_of_lt (by rw[QY] at hk; omega)] at e;exact e
     have azF:=ep F;clear e2 hL hF az az0;refine zf c2 (by simp only[ae,aa,seval,iteOmega,toNatUp,RS,tw,tl] <;> rfl) by2 (by simp only[ae,aa,seval,iteOmega,toNatUp,jM,V.hasOwn,C.isOwn,V.own1,no2,Bool.not_true,Bool.not_false,Bool.true_or,Bool.false_or]) ?_;simp only[ae,aa,seval,iteOmega,toNatUp,gm];refine bi (jg W F L) (fun i=>L.length-i) (fun i=>i≤L.length) 0 (Q8 _) ?_ ?_
     ·refine aC (fun i=>if i=1 then 1 else 360) ?_ ?_ rfl rfl <;> simp only[br,kJ,wx,aA,aJ,aa,seval,iteOmega,toNatUp] <;> first | rfl | exact⟨rfl,rfl⟩ | skip
     ·intro k hk;clear c2 by2 no2;have T:=uR G (kJ W L k);by_cases hlt:k<L.length
      ·obtain⟨t1,t2,t3⟩:=Gp L8 pv hlt;rw[t1,t2,t3] at T;have f:=Lat k hlt;have s1:=BI G (L.getD k []) (L.getD k []);rw[beq_self_eq_true] at s1;have kk:vQ L (k+1)=L.getD k []:=rfl;clear t1 t2 t3 ck;unfold bO kJ at T;dsimp only at T;rw[kk] at T;generalize L.getD k []=x at *
       simp only[lW,jg,br,kJ,ae,aa,seval,iteOmega,toNatUp];refine sC (T) ?_;simp only[aU,f,azF,ae,aa,seval,iteOmega,toNatUp];refine sD (s1) ?_;refine sD (s1) ?_;refine aZ (k+1) (by omega) (by omega) (aC (fun i=>i) ?_ ?_ rfl rfl) <;> simp only[jg,br,kJ,kk,wx,aA,aJ,aa,seval,iteOmega,toNatUp] <;> first | rfl | exact⟨rfl,rfl⟩ | skip
      ·obtain rfl:k=L.length:=by omega
       have t1:=Gq L8 pv;rw[t1] at T;generalize kf (kJ W L L.length)=J at *
       generalize kg (kJ W L L.length)=C at *
       clear t1 pv;unfold bO kJ at T;dsimp only at T;simp only[lW,jg,br,kJ,ae,aa,seval,iteOmega,toNatUp];refine sD (T) ?_;refine sD (ck) ?_;exact aM
end Go.Proofs.Ytofonnokanoflaa
