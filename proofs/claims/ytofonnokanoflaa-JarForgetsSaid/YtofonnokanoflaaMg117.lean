/- Texts of one's own, merged: from: Layer 18,without code: packets as data,and what the functions return. Own work. -/
import Derived.Test.YtofonnokanoflaaMg113
import Derived.Test.YtofonnokanoflaaMg110
import Derived.Test.YtofonnokanoflaaMg115
import Derived.Test.YtofonnokanoflaaMg111
import Derived.Test.YtofonnokanoflaaMg114
import Derived.Test.YtofonnokanoflaaMg19
set_option linter.unusedVariables false
set_option linter.unusedSimpArgs false
namespace Go.Proofs.Ytofonnokanoflaa
open Go.RowKit
structure bW where
  hd:Hd
  pl:List Fd
  se:List Fd
  gu:Bool
def O0:bW:=⟨Hd.z,[],[],false⟩
def ej (p:bW):D:=.agg [.int .i64 p.hd.lp,.int .i64 p.hd.vr,.int .i64 p.hd.md,.int .i64 p.hd.st,.int .i64 p.hd.pl,.int .i64 p.hd.pr,.int .u32 (p.hd.rd:Int),.int .u32 (p.hd.rp:Int),.int .u32 (p.hd.ri:Int),.int .u64 (p.hd.rf:Int),.int .u64 (p.hd.og:Int),.int .u64 (p.hd.rc:Int),.int .u64 (p.hd.tr:Int),.sl (p.pl.map bE),.sl (p.se.map bE),.bool p.gu]
def bQ (p:bW):Int:=if dS p.hd=0 then bi p.pl else dS p.hd
def bS (p:bW):List UInt8:=fh p.hd++bf p.pl
def pL (p:bW):List UInt8:=if bQ p=0 then bS p else []
def OO (b:List UInt8):Int:=if EJ b=0 then uI (b.drop 48) else EJ b
def OP (b:List UInt8):bW:=if OO b=0 then ⟨pJ b,E0 (b.drop 48),[],false⟩ else O0
def fi (n s:List UInt8):List UInt8:=au n.length 2++(au s.length 2++(eb n 4++eb s 4))
def jH (n s:List UInt8):Fd:=⟨1028,fi n s⟩
def eM (key:List UInt8) (p:bW) (n:List UInt8):List UInt8:=ju key [bS p,n] (bf p.se)
def bN (key:List UInt8) (p:bW) (n:List UInt8):Fd:=jH n (eM key p n)
def cK (key:List UInt8) (p:bW) (n:List UInt8):Int :=
  if key.length≠32 then 5 else if n.length<16∨32<n.length then 4 else if bQ p≠0 then bQ p else if bi p.se≠0 then bi p.se else if (dU p.pl 1028).length≠0 then 3 else if p.pl.length=24 then 8 else if bi [bN key p n]≠0∨1280<(bS p).length+br [bN key p n] then 2 else 0
def fj (key:List UInt8) (p:bW) (n:List UInt8):List UInt8:=if cK key p n=0 then bS p++bf [bN key p n] else []
def pM (d:List UInt8):Nat:=fX (eJ d 0 2)
def E1 (d:List UInt8):Nat:=fX (eJ d 2 2)
def E2 (d:List UInt8):Nat:=4+(pM d+3) / 4*4
def O1 (d:List UInt8):List UInt8:=eJ d 4 (pM d)
def O2 (d:List UInt8):List UInt8:=eJ d (E2 d) (E1 d)
def E3 (d:List UInt8):Prop:=4≤d.length∧16≤pM d∧pM d≤32∧E2 d+E1 d≤d.length∧fi (O1 d) (O2 d)=d
instance (d:List UInt8):Decidable (E3 d):=by unfold E3; infer_instance
theorem NO (b:List UInt8):eb b 4=b++List.replicate (eT b.length 4) 0:=AM b (n:=4) (by decide)
theorem NP (n:Nat):n+eT n 4=(n+3) / 4*4:=by unfold eT; omega
theorem xj (b:List UInt8):(eb b 4).length=(b.length+3) / 4*4:=by rw[NO,Ph,Ps,NP]
theorem sG (n s:List UInt8):(fi n s).length=4+(n.length+3) / 4*4+(s.length+3) / 4*4:=by
  unfold fi;simp only[Ph,cL,xj]; omega
theorem tQ {n s:List UInt8} (h:12≤(fi n s).length):ba (jH n s)=4+(fi n s).length:=by
  have:=sG n s;unfold ba jH;dsimp only;omega
theorem NQ {n s:List UInt8} (h:12≤(fi n s).length) (h2:4+(fi n s).length≤1232):bF (jH n s)=0:=Db (by show (0:Int)≤1028; decide) (by show (1028:Int)≤65535; decide) (by rw[tQ h]; exact h2)
theorem zm {l:List Fd} {k:Int} (h:∀ f∈l,f.ty≠k):∀ n,n≤l.length→dT l k n=[]
  | 0,_=>rfl
  | n+1,hn=>by
    rw[Eb (h _ (rF (by omega))),zm h n (by omega)]
theorem tR {h:Hd}:dS h=0↔ir h=true:=by
  unfold dS;split <;> simp_all
theorem NR {p:bW} (h:bQ p=0):ir p.hd=true∧dS p.hd=0∧bi p.pl=0:=by
  unfold bQ at h;split at h
  ·rename_i h0; exact⟨tR.1 h0,h0,h⟩
  ·rename_i h0; exact absurd h h0
theorem oR {l:List Fd} (h:bi l=0):(∀ f∈l,bF f=0)∧l.length≤24∧br l≤1232∧ei l=bf l:=by
  have hB:ei l=bf l:=if_pos h;unfold bi at h;split at h
  ·rename_i h0;split at h
   ·cases h
   ·split at h
    ·cases h
    ·exact⟨oP.1 h0,by omega,by omega,hB⟩
  ·rename_i h0; exact absurd h h0
theorem De {l:List Fd} (h1:∀ f∈l,bF f=0) (h2:l.length≤24) (h3:br l≤1232):bi l=0:=(A7 (oP.2 h1) h2 h3).1
theorem nJ (p:bW):(bS p).length=48+br p.pl:=by unfold bS; rw[Ph,Ki,je]
theorem Df {key a n:List UInt8} {m:Int} (hk:key.length=32) (ha:a.length≤65519) (hn:n.length≤65519) (hm:m≤65519):cD key [a,n] m=0:=IF hk (by simp) (fun x hx=>by simp at hx; rcases hx with rfl | rfl <;> assumption) hm
structure ut (key:List UInt8) (p:bW) (n:List UInt8):Prop where
  ky:key.length=32
  n1:16≤n.length
  n2:n.length≤32
  un:bQ p=0
  se:bi p.se=0
  no:(dU p.pl 1028).length=0
  lt:p.pl.length≤23
  gd:bF (bN key p n)=0
  all:48+br p.pl+ba (bN key p n)≤1280
theorem Dh {key:List UInt8} {p:bW} {n:List UInt8} (h:ut key p n):cK key p n=0∧fj key p n=bS p++bf [bN key p n]:=by
  have ht:br [bN key p n]=ba (bN key p n):=by simp[br]
  have hx:bi [bN key p n]=0:=De (fun f hf=>by simp at hf; subst hf; exact h.gd) (by simp) (by rw[ht]; exact (oL h.gd).2.2);have e:cK key p n=0:=by
    unfold cK;have a:=h.ky; have b:=h.n1; have c:=h.n2; have d:=h.lt; have f:=h.all
    rw[if_neg (by omega),if_neg (by omega),if_neg (by simp[h.un]),if_neg (by simp[h.se]),if_neg (by simp[h.no]),if_neg (by omega),if_neg];rw[nJ,ht];rintro (k | k)
    ·exact k hx
    ·omega
  exact⟨e,if_pos e⟩
structure Jr where
  up:List UInt8
  dn:List UInt8
  ck:List (List UInt8)
  la:List UInt8
  nw:Int
  sn:Int
def bo (j:Jr):D:=.agg [.sl (j.up.map bD),.sl (j.dn.map bD),.sl (j.ck.map fun l=>D.sl (l.map bD)),.sl (j.la.map bD),.int .i64 j.nw,.int .i64 j.sn]
def dV:Jr:=⟨[],[],[],[],0,0⟩
theorem mi {l:List (List UInt8)} {i:Nat} (h:i<l.length):l[i]?=some (l.getD i []):=by
  rw[Pg,Pb h]; rfl
theorem kU {l:List (List UInt8)} {i:Nat} (h:i<l.length):l.getD i []∈l:=by
  rw[Pg,Pb h];exact PI h
theorem E4 {l:List (List UInt8)} {i:Nat} (h:i<l.length):l.take (i+1)=l.take i++[l.getD i []]:=by
  rw[QP,mi h]; rfl
def gi (l:List (List UInt8)) (c:List UInt8):Bool:=l.any (·==c)
theorem KE {l:List (List UInt8)} {c:List UInt8}:gi l c=true↔c∈l:=by
  unfold gi;rw[List.any_eq_true];exact⟨fun ⟨x,hx,e⟩=>by rw[← beq_iff_eq.1 e]; exact hx,fun h=>⟨c,h,beq_self_eq_true c⟩⟩
theorem kh {l:List (List UInt8)} {c:List UInt8}:gi l c=false↔c∉l:=by
  rw[← KE,Bool.not_eq_true]
def i7 (l:List (List UInt8)) (i:Nat):Prop:=(l.getD i []).length=104∧gi (l.take i) (l.getD i [])=false
def mj (j:Jr):Prop:=j.up.length=32∧j.dn.length=32∧j.ck.length≤8∧(j.la.length=0∨j.la.length=104)∧gi j.ck j.la=false∧0≤j.nw∧0≤j.sn∧j.sn≤1099511627776
instance (j:Jr):Decidable (mj j):=by unfold mj; infer_instance
instance (l:List (List UInt8)) (i:Nat):Decidable (i7 l i):=by unfold i7; infer_instance
def bX (j:Jr):Prop:=mj j∧∀ i,i<j.ck.length→i7 j.ck i
instance (j:Jr):Decidable (bX j):=by unfold bX; infer_instance
theorem Mu {l:List (List UInt8)}:(∀ i,i<l.length→gi (l.take i) (l.getD i [])=false)↔l.Nodup:=by
  rw[List.nodup_iff_pairwise_ne,List.pairwise_iff_getElem];constructor
  ·intro h i k hi hk hik e;have:=kh.1 (h k hk);rw[Pg,Pb hk] at this;exact this (List.mem_take_iff_getElem.2 ⟨i,by omega,e⟩)
  ·intro h k hk;refine kh.2 fun hm=>?_
   obtain⟨i,hi,e⟩:=List.mem_take_iff_getElem.1 hm;rw[Pg,Pb hk] at e;exact h i k (by omega) hk (by omega) e
theorem gY {j:Jr}:bX j↔mj j∧(∀ c∈j.ck,c.length=104)∧j.ck.Nodup:=by
  unfold bX i7;rw[← Mu];constructor
  ·rintro⟨h,a⟩;refine⟨h,fun c hc=>?_,fun i hi=>(a i hi).2⟩;obtain⟨i,hi,rfl⟩:=PK hc;have:=(a i hi).1;rw[Pg,Pb hi] at this;exact this
  ·rintro⟨h,a,b⟩;exact⟨h,fun i hi=>⟨a _ (kU hi),b i hi⟩⟩
def cS (j:Jr):Int:=if ¬ bX j then 3 else if j.ck.length=0 then 10 else if j.sn=1099511627776 then 7 else 0
def bY (j:Jr):Jr:=⟨j.up,j.dn,j.ck.drop 1,j.ck.getD 0 [],j.nw,j.sn+1⟩
def ml (j:Jr):Jr:=if cS j=0 then bY j else dV
def mm (j:Jr):List UInt8:=if cS j=0 then j.ck.getD 0 [] else []
def iD (j:Jr):Int:=if ¬ bX j then 3 else if j.la.length=0 then 10 else 0
def mn (j:Jr):List UInt8:=if iD j=0 then j.la else []
def mo (j:Jr):Int:=if bX j then 0 else 3
def mq (j:Jr):Int:=if bX j then 8-(j.ck.length:Int) else 0
def fU (cs:List (List UInt8)):Bool:=cs.all fun c=>c.length==104
def iE (j:Jr) (n:Int):Int:=if ¬ bX j then 3 else if n<0 then 4 else 0
def jI (j:Jr) (n:Int):Jr:=if n=j.nw then j else ⟨j.up,j.dn,j.ck,[],n,j.sn⟩
def kV (j:Jr) (n:Int):Jr:=if iE j n=0 then jI j n else dV
theorem qO {cs:List (List UInt8)}:fU cs=true↔∀ c∈cs,c.length=104:=by
  unfold fU;rw[Pw];exact⟨fun h c hc=>beq_iff_eq.1 (h c hc),fun h c hc=>beq_iff_eq.2 (h c hc)⟩
def jJ:Fd:=⟨772,List.replicate 104 0⟩
def bG (u c:List UInt8) (n:Nat):List Fd:=[⟨260,u⟩,⟨516,c⟩]++List.replicate n jJ
def ek (j:Jr) (t:Nat) (u:List UInt8):bW:=⟨dO t,bG u (j.ck.getD 0 []) (8-j.ck.length),[],false⟩
def eO (j:Jr) (u n:List UInt8):Int:=if ¬ bX j∨u.length≠32∨n.length≠16 then 3 else cS j
def pN (j:Jr) (u n:List UInt8):Jr:=if eO j u n=0 then bY j else dV
def pO (j:Jr) (t:Nat) (u n:List UInt8):List UInt8:=if eO j u n=0 then fj j.up (ek j t u) n else []
def dI (j:Jr):List D:=[.sl (j.up.map bD),.sl (j.dn.map bD),.sl (j.ck.map fun l=>D.sl (l.map bD)),.sl (j.la.map bD),.int .i64 j.nw,.int .i64 j.sn]
open IntWalk
def fH:Ob:=.box [.nil,.nil,.nil,.nil,.d (.int .i64 0),.d (.int .i64 0)]
def fI (j:Jr) (k:C):Ob:=.box [.d (.sl (j.up.map bD)),.d (.sl (j.dn.map bD)),k,.d (.sl (j.la.map bD)),.d (.int .i64 j.nw),.d (.int .i64 j.sn)]
def E5 (j:Jr):List C:=[.d (.sl (j.up.map bD)),.d (.sl (j.dn.map bD)),.fr 1 (j.ck.map fun l=>D.sl (l.map bD)),.d (.sl (j.la.map bD)),.d (.int .i64 j.nw),.d (.int .i64 j.sn)]
theorem Mv {σ:St} {p:Nat×Option Kd} {j:Jr} {k:C} (h1:bI σ p=some (.mix [.d (.sl (j.up.map bD)),.d (.sl (j.dn.map bD)),k,.d (.sl (j.la.map bD)),.d (.int .i64 j.nw),.d (.int .i64 j.sn)])) (hk:kR σ.h k (.fr 1 (j.ck.map fun l=>D.sl (l.map bD)))) (hd:k.ids.Nodup):ce σ [p] (.w (.mix (E5 j))):=by
  refine⟨[.mix [.d (.sl (j.up.map bD)),.d (.sl (j.dn.map bD)),k,.d (.sl (j.la.map bD)),.d (.int .i64 j.nw),.d (.int .i64 j.sn)]],by simp[aC,h1],.inl ⟨?_,?_⟩⟩
  ·simpa [W.ids,C.ids] using hd
  ·exact .cons rfl (.cons rfl (.cons hk (.cons rfl (.cons rfl (.cons rfl .nil)))))
theorem KF {P:Program} {G:aj} {F:FuncId} {args:List D} {cs:List C} {ds:List D} (hds:dh (cs.map C.ro)=.c (.d (.agg ds))) (h:ap P G F args (.w (.mix cs))):ap P G F args (.w (.c (.d (.agg ds)))):=by
  intro w S vs h1 h2 h3;refine (h w S vs h1 h2 h3).mono ?_;rintro e w' ⟨v,S',bl,rfl,k1,k2,k3,k4⟩;have cs0:∀ {us:List Value} {cs:List C} {bk:List Nat},d7 S' w' w.heap.size us cs bk→∀ b∈bk,w.heap.size≤b∧b<w'.heap.size:=by
    intro us cs bk hc
    induction hc with
    | nil=>intro b hb; cases hb
    | cons h1 _ ih =>
      rename_i c _ _ _ _ _;intro b hb;rcases PD.1 hb with hb | hb
      ·cases c <;> simp only[dE] at h1 <;> first | exact h1.elim | skip
       ·rw[h1.2] at hb; cases hb
       ·rcases h1 with ⟨_,_,rfl⟩ | ⟨b',cap,ty,N,rfl,_,_,_,q1,_,q2⟩
        ·cases hb
        ·simp only[Pv] at hb;subst hb;obtain⟨f1,_,cur,ty',fz,f3,_⟩:=q2;exact⟨f1,(Pm.1 f3).1⟩
      ·exact ih b hb
  have hfresh:∀ b∈bl,w.heap.size≤b∧b<w'.heap.size:=by
    obtain⟨us,_,hc⟩:=k4;exact cs0 hc
  refine⟨v,fun b i=>S' b i∨b∈bl,[],rfl,k1,fun b i hs=>?_,.nil,?_⟩
  ·rcases hs with hs | hs
   ·exact k2 b i hs
   ·exact⟨.inr (hfresh b hs).1,(hfresh b hs).2⟩
  ·have:=ku (m:=fun _=>none) (x:=.mix cs) k4 (T:=fun b i=>S' b i∨b∈bl) (fun _ _ h=>.inl h) (fun b hb _=>.inr hb);rw[show W.ro (.mix cs)=_ from hds] at this;exact⟨this.1,rfl⟩
theorem ki {j:Jr} (v:bX j):j.up.length=32∧j.dn.length=32∧j.ck.length≤8∧j.la.length≤104∧∀ c∈j.ck,c.length=104:=by
  obtain⟨⟨a,b,c,d,_⟩,h,_⟩:=gY.1 v;exact⟨a,b,c,by omega,h⟩
theorem tS {j:Jr} {e:Int} (h:cS j=e) (he:e≠0):ml j=dV∧mm j=[]:=⟨if_neg (by rw[h]; exact he),if_neg (by rw[h]; exact he)⟩
def Di:aB:=⟨2,49,.seq (.reg [oO 2 (.box .roBox (.t 0)),oO 3 (.box .roBox (.t 1)),oO 4 (.mv (.k (.c (.d (.bool false)))))]) (.seq (.reg [oO 5 (.fieldAddr 0 (.t 2)),oO 6 (.fieldAddr 0 (.t 5)),oO 7 (.load .sc (.t 6)),oO 8 (.fieldAddr 0 (.t 3)),oO 9 (.fieldAddr 0 (.t 8)),oO 10 (.load .sc (.t 9)),oO 11 (.call 14 [(.t 7),(.t 10)] none),oM 12 11,oG 13 (.fieldAddr 0 (.t 2)) 12 true,oG 14 (.fieldAddr 1 (.t 13)) 12 true,oG 15 (.load .sc (.t 14)) 12 true,oG 16 (.fieldAddr 0 (.t 3)) 12 true,oG 17 (.fieldAddr 1 (.t 16)) 12 true,oG 18 (.load .sc (.t 17)) 12 true,oG 19 (.call 14 [(.t 15),(.t 18)] none) 12 true,oO 20 (.pick (.t 12) (.t 19) (.k (.c (.d (.bool false))))),oM 21 20,oG 22 (.fieldAddr 2 (.t 2)) 21 true,oG 23 (.load .sc (.t 22)) 21 true,oG 24 (.fieldAddr 2 (.t 3)) 21 true,oG 25 (.load .sc (.t 24)) 21 true,
 oG 26 (.call 18 [(.t 23),(.t 25)] none) 21 true,oO 27 (.pick (.t 21) (.t 26) (.k (.c (.d (.bool false))))),oM 28 27,oG 29 (.fieldAddr 3 (.t 2)) 28 true,oG 30 (.load .sc (.t 29)) 28 true,oG 31 (.fieldAddr 3 (.t 3)) 28 true,oG 32 (.load .sc (.t 31)) 28 true,oG 33 (.call 14 [(.t 30),(.t 32)] none) 28 true,oO 34 (.pick (.t 28) (.t 33) (.k (.c (.d (.bool false))))),oM 35 34,oG 36 (.fieldAddr 4 (.t 2)) 35 true,oG 37 (.load .sc (.t 36)) 35 true,oG 38 (.fieldAddr 4 (.t 3)) 35 true,oG 39 (.load .sc (.t 38)) 35 true,oG 40 (.bin .eql (.t 37) (.t 39)) 35 true,oO 41 (.pick (.t 35) (.t 40) (.k (.c (.d (.bool false))))),oM 42 41,oG 43 (.fieldAddr 5 (.t 2)) 42 true,oG 44 (.load .sc (.t 43)) 42 true,oG 45 (.fieldAddr 5 (.t 3)) 42 true,oG 46 (.load .sc (.t 45)) 42 true,oG 47 (.bin .eql (.t 44) (.t 46)) 42 true,
 oO 48 (.pick (.t 42) (.t 47) (.k (.c (.d (.bool false))))),oM 4 48]) (.ret)),[(4,none)]⟩
theorem Mw:aA Try.prog { own:=[],comp:=[],frz:=[],nils:=[] } Try.f17=some Di:=by kernel_rfl
set_option maxHeartbeats 800000 in
theorem NS (G:aj) (j:Jr) (h5:j.ck.length≤1000000):ap Try.prog G 17 [bo j,bo j] (.w (.c (.d (.bool true)))):=by
  refine aD Try.func17 Mw rfl rfl ?_;have c1:=nD G j.up j.up;have c2:=nD G j.dn j.dn;have c3:=Ea G j.ck j.ck (by omega) (by omega);have c4:=nD G j.la j.la;rw[beq_self_eq_true] at c1 c2 c3 c4;unfold iK at c3;unfold bo;simp only[Di,ai,ae,aa,seval,iteOmega,toNatUp];refine sD (c1) ?_;refine sD (c2) ?_;refine sD (c3) ?_;refine sD (c4) ?_;exact aI
theorem KG {cs:List (List UInt8)} {i:Nat} (h:i<cs.length) (h1:fU (cs.take i)=true) (h2:(cs.getD i []).length=104):fU (cs.take (i+1))=true:=by
  unfold fU at *
  rw[E4 h,List.all_append,h1,QM,List.all_nil,beq_iff_eq.2 h2]; rfl
set_option maxHeartbeats 3200000
theorem Ec {j:Jr} (v:bX j) (h:j.ck.length≠0) (hs:j.sn≠1099511627776):cS j=0∧bX (bY j):=by
  refine⟨by unfold cS; rw[if_neg (not_not_intro v),if_neg h,if_neg hs],?_⟩;obtain⟨⟨a1,a2,a3,a4,a5,a6,a7,a8⟩,b,c⟩:=gY.1 v;obtain⟨up,dn,ck,la,nw,sn⟩:=j
  match ck,h with
  | x::r,_ =>
    have c:=List.nodup_cons.1 c;refine gY.2 ⟨⟨a1,a2,?_,.inr (b x (PZ ..)),kh.2 c.1,a6,?_,?_⟩,fun y hy=>b y (PM _ hy),c.2⟩
    ·have a3:r.length+1≤8:=a3
     show r.length≤8
     omega
    ·have a7:0≤sn:=a7
     show 0≤sn+1
     omega
    ·have a8:sn≤1099511627776:=a8;have hs:sn≠1099511627776:=hs
     show sn+1≤1099511627776
     omega
def jK (up dn:List UInt8):Prop:=up.length=32∧dn.length=32
instance (up dn:List UInt8):Decidable (jK up dn):=by unfold jK; infer_instance
def oc:aB:=⟨1,13,.seq (.reg [oO 1 (.box .roBox (.t 0)),oO 2 (.mv (.k (.c (.d (.bool false)))))]) (.seq (.reg [oO 3 (.fieldAddr 0 (.t 1)),oO 4 (.load .sc (.t 3)),oO 5 (.len (.t 4)),oO 6 (.bin .eql (.t 5) (kI 32)),oM 7 6,oG 8 (.fieldAddr 1 (.t 1)) 7 true,oG 9 (.load .sc (.t 8)) 7 true,oG 10 (.len (.t 9)) 7 true,oG 11 (.bin .eql (.t 10) (kI 32)) 7 true,oO 12 (.pick (.t 7) (.t 11) (.k (.c (.d (.bool false))))),oM 2 12]) (.ret)),[(2,none)]⟩
theorem Mx:aA Try.prog { own:=[],comp:=[],frz:=[],nils:=[] } Try.f31=some oc:=by kernel_rfl
theorem NT (G:aj) (up dn:List UInt8):ap Try.prog G 31 [.agg [.sl (up.map bD),.sl (dn.map bD)]] (.w (.c (.d (.bool (decide (jK up dn)))))):=by
  refine aD Try.func31 Mx rfl rfl ?_;by_cases h1:up.length=32
  ·have g1:((up.length:Int)=32)=True:=eq_true (by omega);by_cases h2:dn.length=32
   ·have g2:((dn.length:Int)=32)=True:=eq_true (by omega);rw[decide_eq_true (show jK up dn from ⟨h1,h2⟩)];simp only[oc,ai,ae,aa,seval,iteOmega,toNatUp,g1,g2];exact aI
   ·have g2:((dn.length:Int)=32)=False:=eq_false (by omega);rw[decide_eq_false (show ¬ jK up dn from fun h=>h2 h.2)];simp only[oc,ai,ae,aa,seval,iteOmega,toNatUp,g1,g2];exact aI
  ·have g1:((up.length:Int)=32)=False:=eq_false (by omega);rw[decide_eq_false (show ¬ jK up dn from fun h=>h1 h.1)];simp only[oc,ai,ae,aa,seval,iteOmega,toNatUp,g1];exact aI
def tp:aB:=⟨1,6,.seq (.reg [oO 2 (.mv (.k (.c (.d (.bool false)))))]) (.seq (.reg [oM 3 0,oO 4 (.len (.t 3)),oO 5 (.bin .eql (.t 4) (kI 104)),oM 2 5]) (.ret)),[(2,none)]⟩
theorem My:aA Try.prog { own:=[],comp:=[],frz:=[],nils:=[] } Try.f33=some tp:=by kernel_rfl
theorem Ed (G:aj) (b:List UInt8):ap Try.prog G 33 [.sl (b.map bD)] (.w (.c (.d (.bool (b.length==104))))):=by
  refine aD Try.func33 My rfl rfl ?_;by_cases h1:b.length=104
  ·have g1:((b.length:Int)=104)=True:=eq_true (by omega);rw[beq_iff_eq.2 h1];simp only[tp,ai,ae,aa,seval,iteOmega,toNatUp,g1];exact aI
  ·have g1:((b.length:Int)=104)=False:=eq_false (by omega);rw[beq_eq_false_iff_ne.2 h1];simp only[tp,ai,ae,aa,seval,iteOmega,toNatUp,g1];exact aI
def oS (l:List (List UInt8)) (i:Nat):St:=⟨aU [(5,.w (.c (.d (.sl (l.map fun x=>D.sl (x.map bD)))))),(6,.w (.c (.d (.int .i64 (l.length:Int))))),(7,.w (.c (.d (.int .i64 (i:Int)))))],hL [],uL []⟩
def nq:aK := .seq (.reg [oO 8 (.bin .lss (.t 7) (.t 6))]) (.seq (.cond (.t 8) (.skip) (.exit 0)) (.seq (.block 1 (.seq (.reg [oO 9 (.idxSl 1 (.t 5) (.t 7)),oO 10 (.load .sc (.t 9)),oM 4 10]) (.seq (.reg [oM 11 4,oO 12 (.call 33 [(.t 11)] none),oO 13 (.un .not (.t 12))]) (.cond (.t 13) (.seq (.reg [oO 2 (.mv (.k (.c (.d (.bool false)))))]) (.ret)) (.skip))))) (.reg [oO 14 (.bin .add (.t 7) (kI 1)),oM 7 14])))
def Dj:aB:=⟨1,15,.seq (.reg [oO 2 (.mv (.k (.c (.d (.bool false)))))]) (.seq (.seq (.reg [oM 5 0,oO 6 (.len (.t 5)),oO 7 (.mv (kI 0))]) (.block 0 (.loop nq))) (.seq (.reg [oO 2 (.mv (.k (.c (.d (.bool true)))))]) (.ret))),[(2,none)]⟩
theorem Mz:aA Try.prog { own:=[],comp:=[],frz:=[],nils:=[] } Try.f27=some Dj:=by kernel_rfl
theorem NU (G:aj) (l:List (List UInt8)) (hl:l.length≤9000000000000000000):ap Try.prog G 27 [.sl (l.map fun x=>D.sl (x.map bD))] (.w (.c (.d (.bool (fU l))))):=by
  refine aD Try.func27 Mz rfl rfl ?_;simp only[Dj,ai,ae,aa,seval,iteOmega,toNatUp];refine bp (oS l) (fun i=>l.length-i) (fun i=>i≤l.length∧fU (l.take i)=true) 0 ⟨Pu _,rfl⟩ ?_ ?_
  ·refine aF (fun _=>0) ?_ ?_ rfl rfl <;> simp only[wx,aG,aP,aa,seval,iteOmega,toNatUp] <;> first | rfl | exact⟨rfl,rfl⟩ | skip
  ·rintro i ⟨hi,hp⟩;by_cases hlt:i<l.length
   ·have g:=mi hlt;have hs:=KG hlt hp;have hm:=kU hlt;have no:fU l=true→(l.getD i []).length=104:=fun h=>qO.1 h _ hm
    clear hm;generalize l.getD i []=x at *
    have c1:=Ed G x;by_cases hx:x.length=104
    ·rw[beq_iff_eq.2 hx] at c1;have hs:=hs hx;simp only[nq,oS,ae,aa,seval,iteOmega,toNatUp,aY,g];refine sD (c1) ?_;refine bd (i+1) (by omega) ⟨by omega,hs⟩ (aF (fun i=>i) ?_ ?_ rfl rfl) <;> simp only[wx,aG,aP,aa,seval,iteOmega,toNatUp] <;> first | rfl | exact⟨rfl,rfl⟩ | skip
    ·rw[beq_eq_false_iff_ne.2 hx] at c1;have e:fU l=false:=by
       cases h:fU l
       ·rfl
       ·exact absurd (no h) hx
     rw[e];simp only[nq,oS,ae,aa,seval,iteOmega,toNatUp,aY,g];refine sD (c1) ?_;exact aI
   ·obtain rfl:i=l.length:=by omega
    rw[List.take_length] at hp;rw[hp];simp only[nq,oS,ae,aa,seval,iteOmega,toNatUp];exact aI
def Dk:aB:=⟨2,7,.seq (.reg [oO 3 (.mv (.k (.c (.d (.bool false)))))]) (.seq (.reg [oM 4 0,oO 5 (.load .sc (.t 1)),oO 6 (.call 46 [(.t 4),(.t 5)] none),oM 3 6]) (.ret)),[(3,none)]⟩
theorem MA:aA Try.prog { own:=[],comp:=[],frz:=[],nils:=[] } Try.f48=some Dk:=by kernel_rfl
theorem NV (G:aj) (c x:List UInt8):kH Try.prog G 48 [.ref [.sl (c.map bD)]] [.sl (x.map bD)] (.w (.c (.d (.bool (x==c))))):=by
  refine⟨enters_of Try.func48 (by kernel_rfl) rfl,?_⟩;refine G7 Try.func48 MA rfl rfl ?_;have c1:=L4 G x c;simp only[Dk,P5,Qa,Pi,PH,D.up,jC,ae,aa,seval,iteOmega,toNatUp];refine sD (c1) ?_;exact aI
def Dl:aB:=⟨2,8,.seq (.reg [oO 3 (.box .roBox (.t 1)),oO 4 (.mv (.k (.c (.d (.bool false)))))]) (.seq (.reg [oM 5 0,oO 6 (.clos 48 [(.t 3)]),oO 7 (.call 47 [(.t 5),(.t 6)] none),oM 4 7]) (.ret)),[(4,none)]⟩
theorem MB:aA Try.prog { own:=[],comp:=[],frz:=[],nils:=[] } Try.f32=some Dl:=by kernel_rfl
theorem Ee (G:aj) (l:List (List UInt8)) (c:List UInt8) (hl:l.length≤9000000000000000000):ap Try.prog G 32 [.sl (l.map fun x=>D.sl (x.map bD)),.sl (c.map bD)] (.w (.c (.d (.bool (gi l c))))):=by
  refine aD Try.func32 MB rfl rfl ?_;have c1:=CQ G l 48 [.ref [.sl (c.map bD)]] (fun x=>x==c) (by omega) (fun x _=>NV G c x);rw[show l.any (fun x=>x==c)=gi l c from rfl] at c1;simp only[Dl,ai,ae,aa,seval,iteOmega,toNatUp];refine sD (c1) ?_;exact aI
def l8 (j:Jr) (n i:Nat):List (Nat×V):=[(1,.w (.c (.ptr 1 1 0 0))),(2,.w (.c (.ptr 3 1 0 0))),(3,.w (.c (.own 2 1 0 n))),(25,.w (.c (.d (.sl (j.ck.map fun l=>D.sl (l.map bD)))))),(26,.w (.c (.d (.int .i64 (j.ck.length:Int))))),(27,.w (.c (.d (.int .i64 (i:Int)))))]
def oU (j:Jr) (i:Nat):St:=⟨aU (l8 j (j.ck.take i).length i),hL [(1,fI j (.d (.sl (j.ck.map fun l=>D.sl (l.map bD))))),(2,.row 1 ((j.ck.take i).map fun l=>D.sl (l.map bD))),(3,fH)],uL [1,2,3]⟩
def rG:aK := .seq (.reg [oO 28 (.bin .lss (.t 27) (.t 26))]) (.seq (.cond (.t 28) (.skip) (.exit 0)) (.seq (.block 1 (.seq (.reg [oO 29 (.idxSl 1 (.t 25) (.t 27)),oO 30 (.load .sc (.t 29)),oM 5 30]) (.reg [oM 31 3,oM 32 5,oO 33 (.bldSl false 1 1 (.sl []) [(0,(.t 32))]),oO 34 (.call 30 [(.t 33)] none),oO 35 (.bldSl false 1 1 (.sl []) [(0,(.t 34))]),oO 36 (.app false 1 24 (.t 31) (.t 35)),oM 3 36]))) (.reg [oO 37 (.bin .add (.t 27) (kI 1)),oM 27 37])))
def Dm:aB:=⟨1,41,.seq (.reg [oO 1 (.box .ownBox (.t 0)),oO 2 (.alloc [.nil,.nil,.nil,.nil,(.d (.int .i64 0)),(.d (.int .i64 0))])]) (.seq (.reg [oO 6 (.fieldAddr 0 (.t 1)),oO 7 (.fieldAddr 0 (.t 6)),oO 8 (.load .sc (.t 7)),oO 9 (.bldSl false 1 1 (.sl []) [(0,(.t 8))]),oO 10 (.call 30 [(.t 9)] none),oO 11 (.fieldAddr 0 (.t 1)),oO 12 (.fieldAddr 1 (.t 11)),oO 13 (.load .sc (.t 12)),oO 14 (.bldSl false 1 1 (.sl []) [(0,(.t 13))]),oO 15 (.call 30 [(.t 14)] none),oO 16 (.build [.nil,.nil] [(0,1,(.t 10)),(1,1,(.t 15))]),oO 17 (.fieldAddr 0 (.t 1)),oN (.store (.ag 2) (.t 17) (.t 16))]) (.seq (.reg [oO 18 (.fieldAddr 3 (.t 1)),oO 19 (.load .sc (.t 18)),oO 20 (.bldSl false 1 1 (.sl []) [(0,(.t 19))]),oO 21 (.call 30 [(.t 20)] none),oO 22 (.fieldAddr 3 (.t 1)),oN (.store .sc (.t 22) (.t 21))]) (.seq (.reg [oO 23 (.make true 1 24 (.sl []) (kI 0) (kI 8)),
 oM 3 23]) (.seq (.seq (.reg [oO 24 (.fieldAddr 2 (.t 1)),oO 25 (.load .sc (.t 24)),oO 26 (.len (.t 25)),oO 27 (.mv (kI 0))]) (.block 0 (.loop rG))) (.seq (.reg [oM 38 3,oO 39 (.fieldAddr 2 (.t 1)),oN (.store .sc (.t 39) (.t 38))]) (.seq (.reg [oO 40 (.load (.ag 6) (.t 1)),oN (.store (.ag 6) (.t 2) (.t 40))]) (.ret))))))),[(2,(some (.ag 6)))]⟩
theorem MC:aA Try.prog { own:=[1],comp:=[],frz:=[],nils:=[] } Try.f29=some Dm:=by kernel_rfl
theorem NW (G:aj) (j:Jr) (h1:j.up.length≤140737488355328) (h2:j.dn.length≤140737488355328) (h3:j.la.length≤140737488355328) (h4:∀ c∈j.ck,c.length≤140737488355328) (h5:j.ck.length≤1000000):ap Try.prog G 29 [bo j] (.w (.mix (E5 j))):=by
  refine aD Try.func29 MC rfl rfl ?_;have c1:=dq G [j.up] (by simp) (by simp; omega);have c2:=dq G [j.dn] (by simp) (by simp; omega);have c3:=dq G [j.la] (by simp) (by simp; omega);simp only[Pi,PH,Qt,Qm,PF] at c1 c2 c3;unfold bo;simp only[Dm,ai,ae,aa,seval,iteOmega,toNatUp];refine sD (c1) ?_;refine sD (c2) ?_;refine sD (c3) ?_;refine bp (oU j) (fun i=>j.ck.length-i) (fun i=>i≤j.ck.length) 0 (Pu _) ?_ ?_
  ·refine aF (fun i=>if i=1 then 8 else if i=2 then 184 else 16) ?_ ?_ rfl rfl <;> simp only[l8,dI,fI,fH,wx,aG,aP,aa,seval,iteOmega,toNatUp] <;> first | rfl | exact⟨rfl,rfl⟩ | skip
  ·intro i hi;clear c1 c2 c3;by_cases hlt:i<j.ck.length
   ·have g:=mi hlt;have hs:=E4 hlt;have hm:=h4 _ (kU hlt);have tl:(j.ck.take i).length=i:=by rw[Pl]; omega
    have az:=iG (j.ck.take i);generalize j.ck.getD i []=x at *
    have c4:=dq G [x] (by simp) (by simp; omega);simp only[Pi,PH,Qt,Qm,PF] at c4;simp only[rG,oU,l8,dI,fI,fH,ae,aa,seval,iteOmega,toNatUp,aY,g,tl];refine sC (c4) ?_;simp only[cp,tl,ae,aa,seval,iteOmega,toNatUp];refine bd (i+1) (by omega) (by omega) (aF (fun i=>if i=1 then 1 else if i=2 then 288 else 3) ?_ ?_ rfl rfl) <;> simp only[oU,l8,dI,fI,fH,hs,Ph,Qx,P0,tl,wx,aG,aP,aa,seval,iteOmega,toNatUp] <;> first | rfl | exact⟨rfl,rfl⟩ | skip
   ·obtain rfl:i=j.ck.length:=by omega
    have hk:j.ck.take j.ck.length=j.ck:=List.take_length;have az:=iG j.ck;simp only[rG,oU,l8,dI,fI,fH,hk,ae,aa,seval,iteOmega,toNatUp];exact Mv (k:=.own 2 1 0 j.ck.length) (by simp only[ae,aa,seval,iteOmega,toNatUp] <;> rfl) ⟨rfl,rfl,by simp only[ae,aa,seval,iteOmega,toNatUp,hk]⟩ (by simp[C.ids])
theorem Ef (G:aj) (j:Jr) (h1:j.up.length≤140737488355328) (h2:j.dn.length≤140737488355328) (h3:j.la.length≤140737488355328) (h4:∀ c∈j.ck,c.length≤140737488355328) (h5:j.ck.length≤1000000):ap Try.prog G 29 [bo j] (.w (.c (.d (bo j)))):=KF rfl (NW G j h1 h2 h3 h4 h5)
def jv (j:Jr) (i:Nat):St:=⟨aU [(1,.w (.c (.rp (dI j)))),(35,.w (.c (.d (.sl (j.ck.map fun l=>D.sl (l.map bD)))))),(36,.w (.c (.d (.int .i64 (j.ck.length:Int))))),(37,.w (.c (.d (.int .i64 (i:Int)))))],hL [],uL []⟩
def jf:aK := .seq (.reg [oO 38 (.bin .lss (.t 37) (.t 36))]) (.seq (.cond (.t 38) (.skip) (.exit 0)) (.seq (.block 1 (.seq (.reg [oM 39 37,oO 40 (.idxSl 1 (.t 35) (.t 37)),oO 41 (.load .sc (.t 40)),oM 3 39,oM 4 41]) (.seq (.reg [oO 42 (.fieldAddr 2 (.t 1)),oO 43 (.load .sc (.t 42)),oM 44 3,oO 45 (.slice 1 (.t 43) none (some (.t 44)) none),oM 46 4,oO 47 (.call 32 [(.t 45),(.t 46)] none)]) (.cond (.t 47) (.seq (.reg [oO 2 (.mv (.k (.c (.d (.bool false)))))]) (.ret)) (.skip))))) (.reg [oO 48 (.bin .add (.t 37) (kI 1)),oM 37 48])))
def iL:aB:=⟨1,66,.seq (.reg [oO 1 (.box .roBox (.t 0)),oO 2 (.mv (.k (.c (.d (.bool false)))))]) (.seq (.seq (.reg [oO 5 (.fieldAddr 0 (.t 1)),oO 6 (.load (.ag 2) (.t 5)),oO 7 (.call 31 [(.t 6)] none),oO 8 (.un .not (.t 7)),oM 9 8,oG 10 (.fieldAddr 4 (.t 1)) 9 false,oG 11 (.load .sc (.t 10)) 9 false,oG 12 (.bin .lss (.t 11) (kI 0)) 9 false,oO 13 (.pick (.t 9) (.k (.c (.d (.bool true)))) (.t 12)),oM 14 13,oG 15 (.fieldAddr 5 (.t 1)) 14 false,oG 16 (.load .sc (.t 15)) 14 false,oG 17 (.bin .lss (.t 16) (kI 0)) 14 false,oO 18 (.pick (.t 14) (.k (.c (.d (.bool true)))) (.t 17)),oM 19 18,oG 20 (.fieldAddr 5 (.t 1)) 19 false,oG 21 (.load .sc (.t 20)) 19 false,oG 22 (.bin .gtr (.t 21) (kI 1099511627776)) 19 false,oO 23 (.pick (.t 19) (.k (.c (.d (.bool true)))) (.t 22))]) (.cond (.t 23) (.seq (.reg [oO 2 (.mv (.k (.c (.d (.bool false)))))])
 (.ret)) (.skip))) (.seq (.seq (.reg [oO 24 (.fieldAddr 2 (.t 1)),oO 25 (.load .sc (.t 24)),oO 26 (.len (.t 25)),oO 27 (.bin .gtr (.t 26) (kI 8)),oM 28 27,oG 29 (.fieldAddr 2 (.t 1)) 28 false,oG 30 (.load .sc (.t 29)) 28 false,oG 31 (.call 27 [(.t 30)] none) 28 false,oG 32 (.un .not (.t 31)) 28 false,oO 33 (.pick (.t 28) (.k (.c (.d (.bool true)))) (.t 32))]) (.cond (.t 33) (.seq (.reg [oO 2 (.mv (.k (.c (.d (.bool false)))))]) (.ret)) (.skip))) (.seq (.seq (.reg [oO 34 (.fieldAddr 2 (.t 1)),oO 35 (.load .sc (.t 34)),oO 36 (.len (.t 35)),oO 37 (.mv (kI 0))]) (.block 0 (.loop jf))) (.seq (.reg [oO 49 (.fieldAddr 3 (.t 1)),oO 50 (.load .sc (.t 49)),oO 51 (.len (.t 50)),oO 52 (.bin .eql (.t 51) (kI 0)),oM 53 52,oG 54 (.fieldAddr 3 (.t 1)) 53 false,oG 55 (.load .sc (.t 54)) 53 false,oG 56 (.call 33 [(.t 55)] none) 53 false,
 oG 57 (.mv (.t 56)) 53 false,oG 58 (.fieldAddr 2 (.t 1)) 57 true,oG 59 (.load .sc (.t 58)) 57 true,oG 60 (.fieldAddr 3 (.t 1)) 57 true,oG 61 (.load .sc (.t 60)) 57 true,oG 62 (.call 32 [(.t 59),(.t 61)] none) 57 true,oG 63 (.un .not (.t 62)) 57 true,oG 64 (.pick (.t 57) (.t 63) (.k (.c (.d (.bool false))))) 53 false,oO 65 (.pick (.t 53) (.k (.c (.d (.bool true)))) (.t 64)),oM 2 65]) (.ret))))),[(2,none)]⟩
theorem MD:aA Try.prog { own:=[],comp:=[],frz:=[],nils:=[] } Try.f16=some iL:=by kernel_rfl
theorem lU (G:aj) (j:Jr):ap Try.prog G 16 [bo j] (.w (.c (.d (.bool (decide (bX j)))))):=by
  refine aD Try.func16 MD rfl rfl ?_;have no:¬ bX j→decide (bX j)=false:=fun h=>decide_eq_false h
  have c1:=NT G j.up j.dn;unfold bo;by_cases h1:jK j.up j.dn
  ·rw[decide_eq_true h1] at c1;by_cases h2:j.nw<0
   ·have g2:(j.nw<0)=True:=eq_true h2;rw[no (fun h=>by have:=h.1.2.2.2.2.2.1; omega)];simp only[iL,ai,ae,aa,seval,iteOmega,toNatUp];refine sC (c1) ?_;simp only[g2,ae,aa,seval,iteOmega,toNatUp];exact aI
   ·have g2:(j.nw<0)=False:=eq_false h2;by_cases h3:j.sn<0
    ·have g3:(j.sn<0)=True:=eq_true h3;rw[no (fun h=>by have:=h.1.2.2.2.2.2.2.1; omega)];simp only[iL,ai,ae,aa,seval,iteOmega,toNatUp];refine sC (c1) ?_;simp only[g2,g3,ae,aa,seval,iteOmega,toNatUp];exact aI
    ·have g3:(j.sn<0)=False:=eq_false h3;by_cases h4:1099511627776<j.sn
     ·have g4:(j.sn>1099511627776)=True:=eq_true h4;rw[no (fun h=>by have:=h.1.2.2.2.2.2.2.2; omega)];simp only[iL,ai,ae,aa,seval,iteOmega,toNatUp];refine sC (c1) ?_;simp only[g2,g3,g4,ae,aa,seval,iteOmega,toNatUp];exact aI
     ·have g4:(j.sn>1099511627776)=False:=eq_false h4;by_cases h5:8<j.ck.length
      ·have g5:((j.ck.length:Int)>8)=True:=eq_true (by omega);rw[no (fun h=>by have:=h.1.2.2.1; omega)];simp only[iL,ai,ae,aa,seval,iteOmega,toNatUp];refine sC (c1) ?_;simp only[g2,g3,g4,g5,ae,aa,seval,iteOmega,toNatUp];exact aI
      ·have g5:((j.ck.length:Int)>8)=False:=eq_false (by omega);have c2:=NU G j.ck (by omega);by_cases h6:fU j.ck=true
       ·rw[h6] at c2;have a4:=qO.1 h6;simp only[iL,ai,ae,aa,seval,iteOmega,toNatUp];refine sC (c1) ?_;simp only[g2,g3,g4,g5,ae,aa,seval,iteOmega,toNatUp];refine sD (c2) ?_;refine bp (jv j) (fun i=>j.ck.length-i) (fun i=>i≤j.ck.length∧∀ k,k<i→i7 j.ck k) 0 ⟨Pu _,fun k hk=>by omega⟩ ?_ ?_
        ·refine aF (fun _=>0) ?_ ?_ rfl rfl <;> simp only[dI,wx,aG,aP,aa,seval,iteOmega,toNatUp] <;> first | rfl | exact⟨rfl,rfl⟩ | skip
        ·clear c1 c2 g2 g3 g4 g5 h6;rintro i ⟨hi,hp⟩;by_cases hlt:i<j.ck.length
         ·have g:=mi hlt;have m4:=a4 _ (kU hlt);have hno:¬ i7 j.ck i→decide (bX j)=false:=fun h=>decide_eq_false fun v=>h (v.2 i hlt)
          have hgo:i7 j.ck i→∀ k,k<i+1→i7 j.ck k:=fun a k hk=>by
            rcases PV k i with h | h
            ·exact hp k h
            ·obtain rfl:k=i:=by omega
             exact a
          have az:=iG j.ck;have c3:=Ee G (j.ck.take i) (j.ck.getD i []) (by rw[Pl]; omega);cases hq:gi (j.ck.take i) (j.ck.getD i [])
          ·have hgo:=hgo ⟨m4,hq⟩;rw[hq] at c3;clear hno hp hq m4 no a4;generalize j.ck.getD i []=x at *
           simp only[jf,jv,dI,ae,aa,seval,iteOmega,toNatUp,aY,g,az];refine sD (c3) ?_;refine bd (i+1) (by omega) ⟨by omega,hgo⟩ (aF (fun i=>i) ?_ ?_ rfl rfl) <;> simp only[dI,wx,aG,aP,aa,seval,iteOmega,toNatUp] <;> first | rfl | exact⟨rfl,rfl⟩ | skip
          ·rw[hno (fun h=>by rw[h.2] at hq; cases hq)];rw[hq] at c3;clear hno hp hgo hq m4 no a4;generalize j.ck.getD i []=x at *
           simp only[jf,jv,dI,ae,aa,seval,iteOmega,toNatUp,aY,g,az];refine sD (c3) ?_;exact aI
         ·have hv:(j.la.length=0∨j.la.length=104)→gi j.ck j.la=false→bX j:=fun a b=>⟨⟨h1.1,h1.2,by omega,a,b,by omega,by omega,by omega⟩,fun k hk=>hp k (by omega)⟩
          clear hp;by_cases h7:j.la.length=0
          ·have g7:((j.la.length:Int)=0)=True:=eq_true (by omega);rw[decide_eq_true (hv (.inl h7) (kh.2 fun h=>by have:=a4 _ h; omega))];clear hv no a4;simp only[jf,jv,dI,ae,aa,seval,iteOmega,toNatUp,g7];exact aI
          ·have g7:((j.la.length:Int)=0)=False:=eq_false (by omega);have c4:=Ed G j.la;by_cases h8:j.la.length=104
           ·rw[beq_iff_eq.2 h8] at c4;have c5:=Ee G j.ck j.la (by omega);cases hq:gi j.ck j.la
            ·rw[hq] at c5;rw[decide_eq_true (hv (.inr h8) hq)];clear hv no a4 hq;simp only[jf,jv,dI,ae,aa,seval,iteOmega,toNatUp,g7];refine sD (c4) ?_;refine sD (c5) ?_;exact aI
            ·rw[hq] at c5;rw[no (fun h=>by have:=h.1.2.2.2.2.1; rw[hq] at this; cases this)];clear hv no a4 hq;simp only[jf,jv,dI,ae,aa,seval,iteOmega,toNatUp,g7];refine sD (c4) ?_;refine sD (c5) ?_;exact aI
           ·rw[beq_eq_false_iff_ne.2 h8] at c4;rw[no (fun h=>by have:=h.1.2.2.2.1; omega)];clear hv no a4;simp only[jf,jv,dI,ae,aa,seval,iteOmega,toNatUp,g7];refine sD (c4) ?_;exact aI
       ·rw[Bool.not_eq_true] at h6;rw[h6] at c2;rw[no (fun h=>by rw[qO.2 ((gY.1 h).2.1)] at h6; cases h6)];simp only[iL,ai,ae,aa,seval,iteOmega,toNatUp];refine sC (c1) ?_;simp only[g2,g3,g4,g5,ae,aa,seval,iteOmega,toNatUp];refine sD (c2) ?_;exact aI
  ·rw[decide_eq_false h1] at c1;rw[no (fun h=>h1 ⟨h.1.1,h.1.2.1⟩)];simp only[iL,ai,ae,aa,seval,iteOmega,toNatUp];refine sD (c1) ?_;exact aI
def lK:aB:=⟨1,39,.seq (.reg [oO 1 (.box .roBox (.t 0)),oO 2 (.alloc [.nil,.nil,.nil,.nil,(.d (.int .i64 0)),(.d (.int .i64 0))]),oO 3 (.mv (.k (.c .nil))),oO 4 (.mv (kI 0))]) (.seq (.seq (.reg [oO 6 (.load (.ag 6) (.t 1)),oO 7 (.call 16 [(.t 6)] none),oO 8 (.un .not (.t 7))]) (.cond (.t 8) (.seq (.reg [oO 9 (.build [.nil,.nil,.nil,.nil,(.d (.int .i64 0)),(.d (.int .i64 0))] []),oN (.store (.ag 6) (.t 2) (.t 9)),oO 3 (.mv (.k (.c .nil))),oO 4 (.mv (kI 3))]) (.ret)) (.skip))) (.seq (.seq (.reg [oO 10 (.fieldAddr 2 (.t 1)),oO 11 (.load .sc (.t 10)),oO 12 (.len (.t 11)),oO 13 (.bin .eql (.t 12) (kI 0))]) (.cond (.t 13) (.seq (.reg [oO 14 (.build [.nil,.nil,.nil,.nil,(.d (.int .i64 0)),(.d (.int .i64 0))] []),oN (.store (.ag 6) (.t 2) (.t 14)),oO 3 (.mv (.k (.c .nil))),oO 4 (.mv (kI 10))])
 (.ret)) (.skip))) (.seq (.seq (.reg [oO 15 (.fieldAddr 5 (.t 1)),oO 16 (.load .sc (.t 15)),oO 17 (.bin .eql (.t 16) (kI 1099511627776))]) (.cond (.t 17) (.seq (.reg [oO 18 (.build [.nil,.nil,.nil,.nil,(.d (.int .i64 0)),(.d (.int .i64 0))] []),oN (.store (.ag 6) (.t 2) (.t 18)),oO 3 (.mv (.k (.c .nil))),oO 4 (.mv (kI 7))]) (.ret)) (.skip))) (.seq (.reg [oO 19 (.load (.ag 6) (.t 1)),oO 20 (.call 29 [(.t 19)] none),oO 5 (.alloc [.nil,.nil,.nil,.nil,(.d (.int .i64 0)),(.d (.int .i64 0))]),oN (.store (.ag 6) (.t 5) (.t 20))]) (.seq (.reg [oO 21 (.fieldAddr 2 (.t 5)),oO 22 (.load .sc (.t 21)),oO 23 (.idxSl 1 (.t 22) (kI 0)),oO 24 (.load .sc (.t 23)),oO 25 (.fieldAddr 2 (.t 5)),oO 26 (.load .sc (.t 25)),oO 27 (.slice 1 (.t 26) (some (kI 1)) none none),oO 28 (.fieldAddr 3 (.t 5)),oN (.store .sc (.t 28) (.t 24)),
 oO 29 (.fieldAddr 2 (.t 5)),oN (.store .sc (.t 29) (.t 27))]) (.seq (.reg [oO 30 (.fieldAddr 5 (.t 5)),oO 31 (.load .sc (.t 30)),oO 32 (.bin .add (.t 31) (kI 1)),oO 33 (.fieldAddr 5 (.t 5)),oN (.store .sc (.t 33) (.t 32))]) (.seq (.reg [oO 34 (.load (.ag 6) (.t 5)),oO 35 (.fieldAddr 3 (.t 5)),oO 36 (.load .sc (.t 35)),oO 37 (.bldSl false 1 1 (.sl []) [(0,(.t 36))]),oO 38 (.call 30 [(.t 37)] (some (0,1))),oN (.store (.ag 6) (.t 2) (.t 34)),oM 3 38,oO 4 (.mv (kI 0))]) (.ret)))))))),[(2,(some (.ag 6))),(3,none),(4,none)]⟩
theorem ME:aA Try.prog { own:=[38],comp:=[],frz:=[],nils:=[] } Try.f13=some lK:=by kernel_rfl
theorem Eg (G:aj) (j:Jr):ap Try.prog G 13 [bo j] (.tup [.c (.d (bo (ml j))),.c (.d (.sl ((mm j).map bD))),.c (.d (.int .i64 (cS j)))]):=by
  refine aD Try.func13 ME rfl rfl ?_;have c1:=lU G j;by_cases v:bX j
  ·rw[decide_eq_true v] at c1;obtain⟨v1,v2,v3,v4,v5⟩:=ki v;by_cases h1:j.ck.length=0
   ·have e:cS j=10:=by unfold cS; rw[if_neg (not_not_intro v),if_pos h1]
    obtain⟨q1,q2⟩:=tS e (by decide);have g1:((j.ck.length:Int)=0)=True:=eq_true (by omega);rw[q1,q2,e];unfold bo dV at *
    simp only[lK,ai,ae,aa,seval,iteOmega,toNatUp];refine sC (c1) ?_;simp only[g1,ae,aa,seval,iteOmega,toNatUp];exact iB
   ·have g1:((j.ck.length:Int)=0)=False:=eq_false (by omega);by_cases h2:j.sn=1099511627776
    ·have e:cS j=7:=by unfold cS; rw[if_neg (not_not_intro v),if_neg h1,if_pos h2]
     obtain⟨q1,q2⟩:=tS e (by decide);have g2:(j.sn=1099511627776)=True:=eq_true h2;rw[q1,q2,e];unfold bo dV at *
     simp only[lK,ai,ae,aa,seval,iteOmega,toNatUp];refine sC (c1) ?_;simp only[g1,g2,ae,aa,seval,iteOmega,toNatUp];exact iB
    ·have e:cS j=0:=by unfold cS; rw[if_neg (not_not_intro v),if_neg h1,if_neg h2]
     have g2:(j.sn=1099511627776)=False:=eq_false h2;rw[show ml j=bY j from if_pos e,show mm j=j.ck.getD 0 [] from if_pos e,e];have c2:=Ef G j (by omega) (by omega) (by omega) (fun c hc=>by have:=v5 c hc; omega) (by omega);have f0:=mi (l:=j.ck) (i:=0) (by omega);have m0:=v5 _ (kU (l:=j.ck) (i:=0) (by omega));have s8:0≤j.sn∧j.sn≤1099511627776:=v.1.2.2.2.2.2.2;have az:=iG j.ck;have d1:(j.ck.drop 1).take (j.ck.length-1)=j.ck.drop 1:=Pk (by rw[Pp]; omega);unfold bY bo at *
     dsimp only at *
     generalize j.ck.getD 0 []=x at *
     have c3:=dq G [x] (by simp) (by simp; omega);simp only[Pi,PH,Qt,Qm,PF] at c3;simp only[lK,ai,ae,aa,seval,iteOmega,toNatUp];refine sC (c1) ?_;simp only[g1,g2,ae,aa,seval,iteOmega,toNatUp];refine sC (c2) ?_;simp only[aY,f0,az,ae,aa,seval,iteOmega,toNatUp];refine sC (c3) ?_;simp only[d1,ae,aa,seval,iteOmega,toNatUp];exact iB
  ·rw[decide_eq_false v] at c1;have e:cS j=3:=if_pos v;obtain⟨q1,q2⟩:=tS e (by decide);rw[q1,q2,e];unfold bo dV at *
   simp only[lK,ai,ae,aa,seval,iteOmega,toNatUp];refine sD (c1) ?_;exact iB
def od:aB:=⟨1,15,.seq (.reg [oO 1 (.box .roBox (.t 0)),oO 2 (.mv (.k (.c .nil))),oO 3 (.mv (kI 0))]) (.seq (.seq (.reg [oO 4 (.load (.ag 6) (.t 1)),oO 5 (.call 16 [(.t 4)] none),oO 6 (.un .not (.t 5))]) (.cond (.t 6) (.seq (.reg [oO 2 (.mv (.k (.c .nil))),oO 3 (.mv (kI 3))]) (.ret)) (.skip))) (.seq (.seq (.reg [oO 7 (.fieldAddr 3 (.t 1)),oO 8 (.load .sc (.t 7)),oO 9 (.len (.t 8)),oO 10 (.bin .eql (.t 9) (kI 0))]) (.cond (.t 10) (.seq (.reg [oO 2 (.mv (.k (.c .nil))),oO 3 (.mv (kI 10))]) (.ret)) (.skip))) (.seq (.reg [oO 11 (.fieldAddr 3 (.t 1)),oO 12 (.load .sc (.t 11)),oO 13 (.bldSl false 1 1 (.sl []) [(0,(.t 12))]),oO 14 (.call 30 [(.t 13)] (some (0,1))),oM 2 14,oO 3 (.mv (kI 0))]) (.ret)))),[(2,none),(3,none)]⟩
theorem MF:aA Try.prog { own:=[14],comp:=[],frz:=[],nils:=[] } Try.f15=some od:=by kernel_rfl
theorem NY (G:aj) (j:Jr):ap Try.prog G 15 [bo j] (.tup [.c (.d (.sl ((mn j).map bD))),.c (.d (.int .i64 (iD j)))]):=by
  refine aD Try.func15 MF rfl rfl ?_;have c1:=lU G j;by_cases v:bX j
  ·rw[decide_eq_true v] at c1;obtain⟨v1,v2,v3,v4,v5⟩:=ki v;by_cases h1:j.la.length=0
   ·have e:iD j=10:=by unfold iD; rw[if_neg (not_not_intro v),if_pos h1]
    have g1:((j.la.length:Int)=0)=True:=eq_true (by omega);rw[show mn j=[] from if_neg (by rw[e]; decide),e];unfold bo at *
    simp only[od,ai,ae,aa,seval,iteOmega,toNatUp];refine sC (c1) ?_;simp only[g1,ae,aa,seval,iteOmega,toNatUp];exact dp
   ·have e:iD j=0:=by unfold iD; rw[if_neg (not_not_intro v),if_neg h1]
    have g1:((j.la.length:Int)=0)=False:=eq_false (by omega);rw[show mn j=j.la from if_pos e,e];have c3:=dq G [j.la] (by simp) (by simp; omega);simp only[Pi,PH,Qt,Qm,PF] at c3;unfold bo at *
    simp only[od,ai,ae,aa,seval,iteOmega,toNatUp];refine sC (c1) ?_;simp only[g1,ae,aa,seval,iteOmega,toNatUp];refine sD (c3) ?_;exact dp
  ·rw[decide_eq_false v] at c1;have e:iD j=3:=if_pos v;rw[show mn j=[] from if_neg (by rw[e]; decide),e];unfold bo at *
   simp only[od,ai,ae,aa,seval,iteOmega,toNatUp];refine sD (c1) ?_;exact dp
def tq:aB:=⟨1,11,.seq (.reg [oO 1 (.box .roBox (.t 0)),oO 2 (.mv (kI 0)),oO 3 (.mv (kI 0))]) (.seq (.seq (.reg [oO 4 (.load (.ag 6) (.t 1)),oO 5 (.call 16 [(.t 4)] none),oO 6 (.un .not (.t 5))]) (.cond (.t 6) (.seq (.reg [oO 2 (.mv (kI 0)),oO 3 (.mv (kI 3))]) (.ret)) (.skip))) (.seq (.reg [oO 7 (.fieldAddr 2 (.t 1)),oO 8 (.load .sc (.t 7)),oO 9 (.len (.t 8)),oO 10 (.bin .sub (kI 8) (.t 9)),oM 2 10,oO 3 (.mv (kI 0))]) (.ret))),[(2,none),(3,none)]⟩
theorem MG:aA Try.prog { own:=[],comp:=[],frz:=[],nils:=[] } Try.f21=some tq:=by kernel_rfl
theorem Eh (G:aj) (j:Jr):ap Try.prog G 21 [bo j] (.tup [.c (.d (.int .i64 (mq j))),.c (.d (.int .i64 (mo j)))]):=by
  refine aD Try.func21 MG rfl rfl ?_;have c1:=lU G j;by_cases v:bX j
  ·rw[decide_eq_true v] at c1;obtain⟨v1,v2,v3,v4,v5⟩:=ki v;rw[show mq j=8-(j.ck.length:Int) from if_pos v,show mo j=0 from if_pos v];unfold bo at *
   simp only[tq,ai,ae,aa,seval,iteOmega,toNatUp];refine sD (c1) ?_;exact dp
  ·rw[decide_eq_false v] at c1;rw[show mq j=0 from if_neg v,show mo j=3 from if_neg v];unfold bo at *
   simp only[tq,ai,ae,aa,seval,iteOmega,toNatUp];refine sD (c1) ?_;exact dp
def lL:aB:=⟨2,24,.seq (.reg [oO 2 (.box .roBox (.t 0)),oO 4 (.alloc [.nil,.nil,.nil,.nil,(.d (.int .i64 0)),(.d (.int .i64 0))]),oO 5 (.mv (kI 0))]) (.seq (.seq (.reg [oO 7 (.load (.ag 6) (.t 2)),oO 8 (.call 16 [(.t 7)] none),oO 9 (.un .not (.t 8))]) (.cond (.t 9) (.seq (.reg [oO 10 (.build [.nil,.nil,.nil,.nil,(.d (.int .i64 0)),(.d (.int .i64 0))] []),oN (.store (.ag 6) (.t 4) (.t 10)),oO 5 (.mv (kI 3))]) (.ret)) (.skip))) (.seq (.seq (.reg [oM 11 1,oO 12 (.bin .lss (.t 11) (kI 0))]) (.cond (.t 12) (.seq (.reg [oO 13 (.build [.nil,.nil,.nil,.nil,(.d (.int .i64 0)),(.d (.int .i64 0))] []),oN (.store (.ag 6) (.t 4) (.t 13)),oO 5 (.mv (kI 4))]) (.ret)) (.skip))) (.seq (.reg [oO 14 (.load (.ag 6) (.t 2)),oO 15 (.call 29 [(.t 14)] none),oO 6 (.alloc [.nil,.nil,.nil,.nil,(.d (.int .i64 0)),(.d (.int .i64 0))]),
 oN (.store (.ag 6) (.t 6) (.t 15))]) (.seq (.seq (.reg [oM 16 1,oO 17 (.fieldAddr 4 (.t 2)),oO 18 (.load .sc (.t 17)),oO 19 (.bin .neq (.t 16) (.t 18))]) (.cond (.t 19) (.reg [oM 20 1,oO 21 (.fieldAddr 3 (.t 6)),oN (.store .sc (.t 21) (.k (.c .nil))),oO 22 (.fieldAddr 4 (.t 6)),oN (.store .sc (.t 22) (.t 20))]) (.skip))) (.seq (.reg [oO 23 (.load (.ag 6) (.t 6)),oN (.store (.ag 6) (.t 4) (.t 23)),oO 5 (.mv (kI 0))]) (.ret)))))),[(4,(some (.ag 6))),(5,none)]⟩
theorem MH:aA Try.prog { own:=[],comp:=[],frz:=[],nils:=[] } Try.f12=some lL:=by kernel_rfl
theorem Ei (G:aj) (j:Jr) (n:Int):ap Try.prog G 12 [bo j,.int .i64 n] (.tup [.c (.d (bo (kV j n))),.c (.d (.int .i64 (iE j n)))]):=by
  refine aD Try.func12 MH rfl rfl ?_;have c1:=lU G j;by_cases v:bX j
  ·rw[decide_eq_true v] at c1;obtain⟨v1,v2,v3,v4,v5⟩:=ki v;by_cases h1:n<0
   ·have e:iE j n=4:=by unfold iE; rw[if_neg (not_not_intro v),if_pos h1]
    have g1:(n<0)=True:=eq_true h1;rw[show kV j n=dV from if_neg (by rw[e]; decide),e];unfold bo dV at *
    simp only[lL,ai,ae,aa,seval,iteOmega,toNatUp];refine sC (c1) ?_;simp only[g1,ae,aa,seval,iteOmega,toNatUp];exact dp
   ·have e:iE j n=0:=by unfold iE; rw[if_neg (not_not_intro v),if_neg h1]
    have g1:(n<0)=False:=eq_false h1;rw[show kV j n=jI j n from if_pos e,e];have c2:=Ef G j (by omega) (by omega) (by omega) (fun c hc=>by have:=v5 c hc; omega) (by omega);have az:=iG j.ck;unfold jI;by_cases h2:n=j.nw
    ·have g2:(n=j.nw)=True:=eq_true h2;rw[if_pos h2];unfold bo at *
     simp only[lL,ai,ae,aa,seval,iteOmega,toNatUp];refine sC (c1) ?_;simp only[g1,ae,aa,seval,iteOmega,toNatUp];refine sC (c2) ?_;simp only[g2,ae,aa,seval,iteOmega,toNatUp];exact dp
    ·have g2:(n=j.nw)=False:=eq_false h2;rw[if_neg h2];unfold bo at *
     simp only[lL,ai,ae,aa,seval,iteOmega,toNatUp];refine sC (c1) ?_;simp only[g1,ae,aa,seval,iteOmega,toNatUp];refine sC (c2) ?_;simp only[g2,ae,aa,seval,iteOmega,toNatUp];exact dp
  ·rw[decide_eq_false v] at c1;have e:iE j n=3:=if_pos v;rw[show kV j n=dV from if_neg (by rw[e]; decide),e];unfold bo dV at *
   simp only[lL,ai,ae,aa,seval,iteOmega,toNatUp];refine sD (c1) ?_;exact dp
def nK:aB:=⟨1,9,.seq (.reg [oO 2 (.mv (.k (.c (.d (.bool false)))))]) (.seq (.reg [oM 3 0,oO 4 (.bin .leq (kI 16) (.t 3)),oM 5 4,oG 6 (.mv (.t 0)) 5 true,oG 7 (.bin .leq (.t 6) (kI 32)) 5 true,oO 8 (.pick (.t 5) (.t 7) (.k (.c (.d (.bool false))))),oM 2 8]) (.ret)),[(2,none)]⟩
theorem KH:aA Try.prog { own:=[],comp:=[],frz:=[],nils:=[] } Try.f49=some nK:=by kernel_rfl
theorem MI (G:aj) (n:Int):ap Try.prog G 49 [.int .i64 n] (.w (.c (.d (.bool (decide (16≤n∧n≤32)))))):=by
  refine aD Try.func49 KH rfl rfl ?_;by_cases h1:16≤n
  ·by_cases h2:n≤32
   ·rw[decide_eq_true ⟨h1,h2⟩];simp only[nK,ai,ae,aa,seval,iteOmega,toNatUp];exact aI
   ·rw[decide_eq_false (fun h=>h2 h.2)];simp only[nK,ai,ae,aa,seval,iteOmega,toNatUp];exact aI
  ·rw[decide_eq_false (fun h=>h1 h.1)];simp only[nK,ai,ae,aa,seval,iteOmega,toNatUp];exact aI
theorem KI (n s:List UInt8):([au n.length 2,au s.length 2,eb n 4,eb s 4]:List (List UInt8)).flatten=fi n s:=by
  unfold fi;simp only[Qt,Qm,PF]
def Dn:aB:=⟨2,20,.seq (.reg [oO 4 (.alloc [(.d (.int .i64 0)),.nil])]) (.seq (.reg [oM 5 0,oO 6 (.len (.t 5)),oO 7 (.conv .u64 (.t 6)),oO 8 (.call 71 [(.t 7),(kI 2)] none),oM 9 1,oO 10 (.len (.t 9)),oO 11 (.conv .u64 (.t 10)),oO 12 (.call 71 [(.t 11),(kI 2)] none),oM 13 0,oO 14 (.call 57 [(.t 13),(kI 4)] none),oM 15 1,oO 16 (.call 57 [(.t 15),(kI 4)] none),oO 17 (.bldSl false 4 1 (.sl []) [(0,(.t 8)),(1,(.t 12)),(2,(.t 14)),(3,(.t 16))]),oO 18 (.call 30 [(.t 17)] none),oO 19 (.build [(.d (.int .i64 0)),.nil] [(0,1,(kI 1028)),(1,1,(.t 18))]),oN (.store (.ag 2) (.t 4) (.t 19))]) (.ret)),[(4,(some (.ag 2)))]⟩
theorem MJ:aA Try.prog { own:=[],comp:=[],frz:=[],nils:=[] } Try.f53=some Dn:=by kernel_rfl
set_option maxHeartbeats 1600000 in
theorem NZ (G:aj) (n s:List UInt8) (hn:n.length≤1000000) (hs:s.length≤1000000):ap Try.prog G 53 [.sl (n.map bD),.sl (s.map bD)] (.w (.c (.d (bE (jH n s))))):=by
  refine aD Try.func53 MJ rfl rfl ?_;have c1:=fy G n.length 2 (by decide);have c2:=fy G s.length 2 (by decide);rw[show (2:Int).toNat=2 from rfl] at c1 c2;have c3:=tL G n 4 (by omega);have c4:=tL G s 4 (by omega);have cj:=dq G [au n.length 2,au s.length 2,eb n 4,eb s 4] (by simp) (by simp[cL,xj]; omega);rw[KI] at cj;unfold jH bE;generalize fi n s=B at *
  generalize au n.length 2=B1 at *
  generalize au s.length 2=B2 at *
  generalize eb n 4=B3 at *
  generalize eb s 4=B4 at *
  simp only[Pi,PH] at cj;simp only[Dn,ai,ae,aa,seval,iteOmega,toNatUp];refine sD (c1) ?_;refine sD (c2) ?_;refine sD (c3) ?_;refine sD (c4) ?_;refine sD (cj) ?_;exact aI
theorem Ej {p:bW} (h:bQ p=0):pL p=bS p:=if_pos h
theorem Do {p:bW} (h:bQ p≠0):pL p=[]:=if_neg h
theorem KJ {h:Hd} (e:dS h=0):py h=fh h:=if_pos (tR.1 e)
theorem Dp {p:bW} (h:dS p.hd≠0):bQ p=dS p.hd:=if_neg h
theorem tu {p:bW} (h:dS p.hd=0):bQ p=bi p.pl:=if_pos h
theorem Dq {p:bW} (h:bQ p=0):(bS p).length≤1280:=by
  have:=(oR (NR h).2.2).2.2.1;rw[nJ]; omega
def nL:aB:=⟨1,29,.seq (.reg [oO 1 (.box .roBox (.t 0)),oO 2 (.mv (.k (.c .nil))),oO 3 (.mv (kI 0))]) (.seq (.reg [oO 8 (.fieldAddr 0 (.t 1)),oO 9 (.load (.ag 13) (.t 8)),oO 10 (.call 67 [(.t 9)] none),oM 7 10,oO 11 (.extract (.t 7) 0),oO 12 (.extract (.t 7) 1),oM 4 11,oM 5 12]) (.seq (.seq (.reg [oM 13 5,oO 14 (.bin .neq (.t 13) (kI 0))]) (.cond (.t 14) (.seq (.reg [oM 15 5,oO 2 (.mv (.k (.c .nil))),oM 3 15]) (.ret)) (.skip))) (.seq (.reg [oO 17 (.fieldAddr 13 (.t 1)),oO 18 (.load .sc (.t 17)),oO 19 (.call 51 [(.t 18)] none),oM 16 19,oO 20 (.extract (.t 16) 0),oO 21 (.extract (.t 16) 1),oM 6 20,oM 5 21]) (.seq (.seq (.reg [oM 22 5,oO 23 (.bin .neq (.t 22) (kI 0))]) (.cond (.t 23) (.seq (.reg [oM 24 5,oO 2 (.mv (.k (.c .nil))),oM 3 24]) (.ret)) (.skip))) (.seq (.reg [oM 25 4,oM 26 6,oO 27 (.bldSl false 2 1 (.sl []) [(0,(.t 25)),(1,(.t 26))]),
 oO 28 (.call 30 [(.t 27)] none),oM 2 28,oO 3 (.mv (kI 0))]) (.ret)))))),[(2,none),(3,none)]⟩
theorem KL:aA Try.prog { own:=[],comp:=[],frz:=[],nils:=[] } Try.f50=some nL:=by kernel_rfl
theorem MK (G:aj) (p:bW) (hf:pH p.hd) (hl:p.pl.length≤1000000) (hd:∀ f∈p.pl,f.da.length≤8000000000000000000):ap Try.prog G 50 [ej p] (.tup [.c (.d (.sl ((pL p).map bD))),.c (.d (.int .i64 (bQ p)))]):=by
  refine aD Try.func50 KL rfl rfl ?_;have c1:=Mm G p.hd hf;have c2:=tn G p.pl hl hd;by_cases h1:dS p.hd=0
  ·rw[KJ h1,h1] at c1;by_cases h2:bi p.pl=0
   ·have h0:bQ p=0:=by rw[tu h1,h2]
    have hle:=Dq h0;have cj:=dq G [fh p.hd,bf p.pl] (by simp) (by
      have:[fh p.hd,bf p.pl].flatten=bS p:=by simp[bS]
      rw[this]; omega)
    have hX:[fh p.hd,bf p.pl].flatten=bS p:=by simp[bS]
    rw[hX] at cj;simp only[Pi,PH] at cj;rw[(oR h2).2.2.2,h2] at c2;rw[h0,Ej h0];clear hX hle h0 h1 h2;generalize bS p=X at *
    generalize fh p.hd=B1 at *
    generalize bf p.pl=B2 at *
    unfold ej;unfold gb at c1;simp only[nL,ai,ae,aa,seval,iteOmega,toNatUp];refine sD (c1) ?_;refine sD (c2) ?_;refine sD (cj) ?_;exact dp
   ·have h0:bQ p≠0:=by rw[tu h1]; exact h2
    have g:(bQ p=0)=False:=eq_false h0;rw[Do h0];rw[show bi p.pl=bQ p from (tu h1).symm] at c2;clear h0 h1 h2;generalize bQ p=e at *
    generalize fh p.hd=B1 at *
    generalize ei p.pl=B2 at *
    unfold ej;unfold gb at c1;simp only[nL,ai,ae,aa,seval,iteOmega,toNatUp];refine sD (c1) ?_;refine sC (c2) ?_;simp only[g,ae,aa,seval,iteOmega,toNatUp];exact dp
  ·have h0:bQ p≠0:=by rw[Dp h1]; exact h1
   have g:(bQ p=0)=False:=eq_false h0;rw[Do h0];rw[show dS p.hd=bQ p from (Dp h1).symm] at c1;clear h0 h1 c2;generalize bQ p=e at *
   generalize py p.hd=B1 at *
   unfold ej;unfold gb at c1;simp only[nL,ai,ae,aa,seval,iteOmega,toNatUp];refine sC (c1) ?_;simp only[g,ae,aa,seval,iteOmega,toNatUp];exact dp
theorem iM {key:List UInt8} {p:bW} {n:List UInt8} {e:Int} (h:cK key p n=e) (he:e≠0):fj key p n=[]:=if_neg (by rw[h]; exact he)
theorem N0 {key:List UInt8} {p:bW} {n:List UInt8} (h:key.length≠32):cK key p n=5:=if_pos h
theorem N1 {key:List UInt8} {p:bW} {n:List UInt8} (h1:key.length=32) (h:n.length<16∨32<n.length):cK key p n=4:=by
  unfold cK; rw[if_neg (by omega),if_pos h]
theorem N2 {key:List UInt8} {p:bW} {n:List UInt8} (h1:key.length=32) (h2:16≤n.length∧n.length≤32) (h:bQ p≠0):cK key p n=bQ p:=by
  unfold cK; rw[if_neg (by omega),if_neg (by omega),if_pos h]
theorem N3 {key:List UInt8} {p:bW} {n:List UInt8} (h1:key.length=32) (h2:16≤n.length∧n.length≤32) (h3:bQ p=0) (h:bi p.se≠0):cK key p n=bi p.se:=by
  unfold cK; rw[if_neg (by omega),if_neg (by omega),if_neg (by simp[h3]),if_pos h]
theorem N4 {key:List UInt8} {p:bW} {n:List UInt8} (h1:key.length=32) (h2:16≤n.length∧n.length≤32) (h3:bQ p=0) (h4:bi p.se=0) (h:(dU p.pl 1028).length≠0):cK key p n=3:=by
  unfold cK; rw[if_neg (by omega),if_neg (by omega),if_neg (by simp[h3]),if_neg (by simp[h4]),if_pos h]
theorem N5 {key:List UInt8} {p:bW} {n:List UInt8} (h1:key.length=32) (h2:16≤n.length∧n.length≤32) (h3:bQ p=0) (h4:bi p.se=0) (h5:(dU p.pl 1028).length=0) (h:p.pl.length=24):cK key p n=8:=by
  unfold cK; rw[if_neg (by omega),if_neg (by omega),if_neg (by simp[h3]),if_neg (by simp[h4]),if_neg (by simp[h5]),if_pos h]
theorem N6 {key:List UInt8} {p:bW} {n:List UInt8} (h1:key.length=32) (h2:16≤n.length∧n.length≤32) (h3:bQ p=0) (h4:bi p.se=0) (h5:(dU p.pl 1028).length=0) (h6:p.pl.length≠24):cK key p n=if bi [bN key p n]≠0∨1280<(bS p).length+br [bN key p n] then 2 else 0:=by
  unfold cK; rw[if_neg (by omega),if_neg (by omega),if_neg (by simp[h3]),if_neg (by simp[h4]),if_neg (by simp[h5]),if_neg h6]
def gv:aB:=⟨3,78,.seq (.reg [oO 4 (.box .roBox (.t 1)),oO 6 (.mv (.k (.c .nil))),oO 7 (.mv (kI 0))]) (.seq (.seq (.reg [oM 14 0,oO 15 (.len (.t 14)),oO 16 (.bin .neq (.t 15) (kI 32))]) (.cond (.t 16) (.seq (.reg [oO 6 (.mv (.k (.c .nil))),oO 7 (.mv (kI 5))]) (.ret)) (.skip))) (.seq (.seq (.reg [oM 17 2,oO 18 (.len (.t 17)),oO 19 (.call 49 [(.t 18)] none),oO 20 (.un .not (.t 19))]) (.cond (.t 20) (.seq (.reg [oO 6 (.mv (.k (.c .nil))),oO 7 (.mv (kI 4))]) (.ret)) (.skip))) (.seq (.reg [oO 22 (.load (.ag 16) (.t 4)),oO 23 (.call 50 [(.t 22)] none),oM 21 23,oO 24 (.extract (.t 21) 0),oO 25 (.extract (.t 21) 1),oM 8 24,oM 9 25]) (.seq (.seq (.reg [oM 26 9,oO 27 (.bin .neq (.t 26) (kI 0))]) (.cond (.t 27) (.seq (.reg [oM 28 9,oO 6 (.mv (.k (.c .nil))),oM 7 28]) (.ret)) (.skip))) (.seq (.reg [oO 30 (.fieldAddr 14 (.t 4)),
 oO 31 (.load .sc (.t 30)),oO 32 (.call 51 [(.t 31)] none),oM 29 32,oO 33 (.extract (.t 29) 0),oO 34 (.extract (.t 29) 1),oM 10 33,oM 9 34]) (.seq (.seq (.reg [oM 35 9,oO 36 (.bin .neq (.t 35) (kI 0))]) (.cond (.t 36) (.seq (.reg [oM 37 9,oO 6 (.mv (.k (.c .nil))),oM 7 37]) (.ret)) (.skip))) (.seq (.seq (.reg [oO 38 (.fieldAddr 13 (.t 4)),oO 39 (.load .sc (.t 38)),oO 40 (.call 37 [(.t 39),(kI 1028)] none),oO 41 (.len (.t 40)),oO 42 (.bin .gtr (.t 41) (kI 0))]) (.cond (.t 42) (.seq (.reg [oO 6 (.mv (.k (.c .nil))),oO 7 (.mv (kI 3))]) (.ret)) (.skip))) (.seq (.seq (.reg [oO 43 (.fieldAddr 13 (.t 4)),oO 44 (.load .sc (.t 43)),oO 45 (.len (.t 44)),oO 46 (.bin .eql (.t 45) (kI 24))]) (.cond (.t 46) (.seq (.reg [oO 6 (.mv (.k (.c .nil))),oO 7 (.mv (kI 8))]) (.ret)) (.skip))) (.seq (.reg [oM 48 0,
 oM 49 8,oM 50 2,oO 51 (.bldSl false 2 1 (.sl []) [(0,(.t 49)),(1,(.t 50))]),oM 52 10,oO 53 (.call 52 [(.t 48),(.t 51),(.t 52)] none),oM 47 53,oO 54 (.extract (.t 47) 0),oO 55 (.extract (.t 47) 1),oM 11 54,oM 12 55]) (.seq (.reg [oM 57 2,oM 58 11,oO 59 (.call 53 [(.t 57),(.t 58)] none),oO 60 (.bldSl false 1 2 (.agg [(.int .i64 0),(.sl [])]) [(0,(.t 59))]),oO 61 (.call 51 [(.t 60)] none),oM 56 61,oO 62 (.extract (.t 56) 0),oO 63 (.extract (.t 56) 1),oM 13 62,oM 9 63]) (.seq (.seq (.reg [oM 64 9,oO 65 (.bin .neq (.t 64) (kI 0)),oM 66 65,oG 67 (.mv (.t 8)) 66 false,oG 68 (.len (.t 67)) 66 false,oG 69 (.mv (.t 13)) 66 false,oG 70 (.len (.t 69)) 66 false,oG 71 (.bin .add (.t 68) (.t 70)) 66 false,oG 72 (.bin .gtr (.t 71) (kI 1280)) 66 false,oO 73 (.pick (.t 66) (.k (.c (.d (.bool true)))) (.t 72))])
 (.cond (.t 73) (.seq (.reg [oO 6 (.mv (.k (.c .nil))),oO 7 (.mv (kI 2))]) (.ret)) (.skip))) (.seq (.reg [oM 74 8,oM 75 13,oO 76 (.bldSl false 2 1 (.sl []) [(0,(.t 74)),(1,(.t 75))]),oO 77 (.call 30 [(.t 76)] (some (0,1))),oM 6 77,oO 7 (.mv (kI 0))]) (.ret))))))))))))),[(6,none),(7,none)]⟩
theorem KM:aA Try.prog { own:=[77],comp:=[],frz:=[],nils:=[] } Try.f34=some gv:=by kernel_rfl
theorem ML (G:aj) (key:List UInt8) (p:bW) (n:List UInt8) (hk:key.length≤9223372036854775807) (hf:pH p.hd) (hl:p.pl.length≤1000000) (hd:∀ f∈p.pl,f.da.length≤8000000000000000000) (hl2:p.se.length≤1000000) (hd2:∀ f∈p.se,f.da.length≤8000000000000000000) (hn:n.length≤9223372036854775807):ap Try.prog G 34 [.sl (key.map bD),ej p,.sl (n.map bD)] (.tup [.c (.fr 1 ((fj key p n).map bD)),.c (.d (.int .i64 (cK key p n)))]):=by
  refine aD Try.func34 KM rfl rfl ?_;have cf:=MI G (n.length:Int);have c1:=MK G p hf hl hd;have c2:=tn G p.se hl2 hd2;have c3:=Mt G p.pl 1028 hl;by_cases h1:key.length=32
  ·by_cases h2:16≤n.length∧n.length≤32
   ·rw[decide_eq_true (by omega)] at cf;by_cases h3:bQ p=0
    ·have hXl:=Dq h3;rw[Ej h3,h3] at c1;by_cases h4:bi p.se=0
     ·obtain⟨_,_,s3,s4⟩:=oR h4;rw[h4,s4] at c2;by_cases h5:(dU p.pl 1028).length=0
      ·by_cases h6:p.pl.length=24
       ·have e:=N5 (key:=key) (n:=n) h1 h2 h3 h4 h5 h6;rw[iM e (by decide),e];clear e h3 h4;generalize bS p=X at *
        generalize bf p.se=Y at *
        generalize dU p.pl 1028=Z at *
        unfold ej at *
        simp only[gv,ai,ae,aa,seval,iteOmega,toNatUp,h1];refine sD (cf) ?_;refine sD (c1) ?_;refine sD (c2) ?_;refine sC (c3) ?_;simp only[h5,h6,ae,aa,seval,iteOmega,toNatUp];exact cr
       ·have e7:=N6 (key:=key) (n:=n) h1 h2 h3 h4 h5 h6;have hae:cD key [bS p,n] ((bf p.se).length:Int)=0:=Df h1 (by omega) (by omega) (by rw[je]; omega);have hsl:(eM key p n).length=16+br p.se:=by unfold eM; rw[zi hae,Ph,nn,rD,je]
        have c4:=Me G key [bS p,n] (bf p.se) hk (by simp) (fun x hx=>by simp at hx; rcases hx with rfl | rfl <;> omega) (by rw[je]; omega);rw[hae,show ju key [bS p,n] (bf p.se)=eM key p n from rfl] at c4;have c5:=NZ G n (eM key p n) (by omega) (by omega);have hgl:(fi n (eM key p n)).length≤4000:=by rw[sG]; omega
        have c6:=tn G [bN key p n] (by simp) (fun f hf=>by rw[Pv.1 hf]; show (fi n (eM key p n)).length≤_; omega);rw[show bE (jH n (eM key p n))=bE (bN key p n) from rfl] at c5;rw[List.map_singleton] at c6;by_cases h7:bi [bN key p n]=0
        ·obtain⟨_,_,g3,g4⟩:=oR h7;rw[h7,g4] at c6;have hGl:=je [bN key p n];rcases PV 1280 ((bS p).length+br [bN key p n]) with h8 | h8
         ·have e:cK key p n=2:=by rw[e7,if_pos (.inr h8)]
          rw[iM e (by decide),e];rw[← hGl] at h8;have g8:(((bS p).length:Int)+((bf [bN key p n]).length:Int)>1280)=True:=eq_true (by omega);clear e e7 h3 h4 h7 hae hsl;unfold dF at c4;simp only[Pi,PH] at c4;generalize bf [bN key p n]=W at *
          generalize bN key p n=g at *
          generalize eM key p n=S at *
          generalize bS p=X at *
          generalize bf p.se=Y at *
          generalize dU p.pl 1028=Z at *
          unfold ej bE at *
          simp only[gv,ai,ae,aa,seval,iteOmega,toNatUp,h1];refine sD (cf) ?_;refine sD (c1) ?_;refine sD (c2) ?_;refine sC (c3) ?_;simp only[h5,h6,ae,aa,seval,iteOmega,toNatUp];refine sD (c4) ?_;refine sD (c5) ?_;refine sC (c6) ?_;simp only[g8,ae,aa,seval,iteOmega,toNatUp];exact cr
         ·have e:cK key p n=0:=by rw[e7,if_neg (by omega)]
          have eB:fj key p n=bS p++bf [bN key p n]:=if_pos e;have cj:=dq G [bS p,bf [bN key p n]] (by simp) (by simp; omega);have hfl:[bS p,bf [bN key p n]].flatten=fj key p n:=by rw[eB]; simp
          rw[hfl] at cj;simp only[Pi,PH] at cj;rw[e];rw[← hGl] at h8;have g8:(((bS p).length:Int)+((bf [bN key p n]).length:Int)>1280)=False:=eq_false (by omega);clear e e7 h3 h4 h7 hae hsl eB hfl;unfold dF at c4;simp only[Pi,PH] at c4;generalize fj key p n=V at *
          generalize bf [bN key p n]=W at *
          generalize bN key p n=g at *
          generalize eM key p n=S at *
          generalize bS p=X at *
          generalize bf p.se=Y at *
          generalize dU p.pl 1028=Z at *
          unfold ej bE at *
          simp only[gv,ai,ae,aa,seval,iteOmega,toNatUp,h1];refine sD (cf) ?_;refine sD (c1) ?_;refine sD (c2) ?_;refine sC (c3) ?_;simp only[h5,h6,ae,aa,seval,iteOmega,toNatUp];refine sD (c4) ?_;refine sD (c5) ?_;refine sC (c6) ?_;simp only[g8,ae,aa,seval,iteOmega,toNatUp];refine sD (cj) ?_;exact cr
        ·have e:cK key p n=2:=by rw[e7,if_pos (.inl h7)]
         rw[iM e (by decide),e];have g7:(bi [bN key p n]=0)=False:=eq_false h7;clear e e7 h3 h4 h7 hae hsl;unfold dF at c4;simp only[Pi,PH] at c4;generalize bi [bN key p n]=E at *
         generalize ei [bN key p n]=W at *
         generalize bN key p n=g at *
         generalize eM key p n=S at *
         generalize bS p=X at *
         generalize bf p.se=Y at *
         generalize dU p.pl 1028=Z at *
         unfold ej bE at *
         simp only[gv,ai,ae,aa,seval,iteOmega,toNatUp,h1];refine sD (cf) ?_;refine sD (c1) ?_;refine sD (c2) ?_;refine sC (c3) ?_;simp only[h5,h6,ae,aa,seval,iteOmega,toNatUp];refine sD (c4) ?_;refine sD (c5) ?_;refine sC (c6) ?_;simp only[g7,ae,aa,seval,iteOmega,toNatUp];exact cr
      ·have e:=N4 (key:=key) (n:=n) h1 h2 h3 h4 h5;rw[iM e (by decide),e];clear e h3 h4;generalize bS p=X at *
       generalize bf p.se=Y at *
       generalize dU p.pl 1028=Z at *
       unfold ej at *
       simp only[gv,ai,ae,aa,seval,iteOmega,toNatUp,h1];refine sD (cf) ?_;refine sD (c1) ?_;refine sD (c2) ?_;refine sD (c3) ?_;exact cr
     ·have e:=N3 (key:=key) (n:=n) h1 h2 h3 h4;rw[iM e h4,e];have g4:(bi p.se=0)=False:=eq_false h4;clear e h3 h4;generalize bS p=X at *
      generalize bi p.se=E at *
      generalize ei p.se=Y at *
      unfold ej at *
      simp only[gv,ai,ae,aa,seval,iteOmega,toNatUp,h1];refine sD (cf) ?_;refine sD (c1) ?_;refine sC (c2) ?_;simp only[g4,ae,aa,seval,iteOmega,toNatUp];exact cr
    ·have e:=N2 (key:=key) (n:=n) h1 h2 h3;rw[iM e h3,e];have g3:(bQ p=0)=False:=eq_false h3;clear e h3;generalize bQ p=E at *
     generalize pL p=X at *
     unfold ej at *
     simp only[gv,ai,ae,aa,seval,iteOmega,toNatUp,h1];refine sD (cf) ?_;refine sC (c1) ?_;simp only[g3,ae,aa,seval,iteOmega,toNatUp];exact cr
   ·have e:=N1 (key:=key) (p:=p) (n:=n) h1 (by omega);rw[decide_eq_false (by omega)] at cf;rw[iM e (by decide),e];unfold ej;simp only[gv,ai,ae,aa,seval,iteOmega,toNatUp,h1];refine sD (cf) ?_;exact cr
  ·have e:=N0 (key:=key) (p:=p) (n:=n) h1;rw[iM e (by decide),e];unfold ej;simp only[gv,ai,ae,aa,seval,iteOmega,toNatUp];exact cr
structure O8 (b:List UInt8) where
  l1:48≤b.length
  l2:b.length≤1280
  ea:uI (b.drop 48)=0
  rd:OP b=⟨pJ b,E0 (b.drop 48),[],false⟩
theorem tw:jJ.da.length=104:=Ps ..
theorem Ek (u c:List UInt8) (k:Nat):bG u c (k+1)=bG u c k++[jJ]:=by
  unfold bG;rw[List.replicate_succ',Qg]
theorem nM (u c:List UInt8) (k:Nat):(bG u c k).length=k+2:=by
  unfold bG;rw[Ph,Ps]
  show 2+k=_
  omega
theorem sH {u c:List UInt8} {k:Nat} {f:Fd} (h:f∈bG u c k):f=⟨260,u⟩∨f=⟨516,c⟩∨f=jJ:=by
  unfold bG at h;rcases PD.1 h with h | h
  ·rcases PQ.1 h with h | h
   ·exact .inl h
   ·exact .inr (.inl (Pv.1 h))
  ·exact .inr (.inr (List.eq_of_mem_replicate h))
theorem sI {u c:List UInt8} (hu:u.length=32) (hc:c.length=104):∀ k,br (bG u c k)=144+108*k
  | 0=>by
    unfold bG br ba;simp[hu,hc]
  | k+1=>by
    rw[Ek,rE,sI hu hc k];have:br [jJ]=108:=by
      unfold br ba;simp[tw]
    omega
theorem tx {f:Fd} (h1:0≤f.ty) (h2:f.ty≤65535) (h3:f.da.length≤1228):bF f=0:=by
  unfold bF ba;rw[if_neg (by omega),if_neg (by omega)]
theorem N7 {u c:List UInt8} (hu:u.length=32) (hc:c.length=104) {k:Nat} (hk:k≤8):bi (bG u c k)=0:=by
  refine De (fun f hf=>?_) (by rw[nM]; omega) (by rw[sI hu hc]; omega);rcases sH hf with rfl | rfl | rfl
  ·exact tx (show (0:Int)≤260 by decide) (show (260:Int)≤65535 by decide) (by show u.length≤_; omega)
  ·exact tx (show (0:Int)≤516 by decide) (show (516:Int)≤65535 by decide) (by show c.length≤_; omega)
  ·exact tx (by decide) (by decide) (by rw[tw]; decide)
theorem MM {l:List Fd} {k:Int} (h:∀ f∈l,f.ty≠k):dU l k=[]:=zm h _ (Pn _)
theorem MN {u c:List UInt8} {k:Nat}:dU (bG u c k) 1028=[]:=MM fun f hf=>by
  rcases sH hf with rfl | rfl | rfl
  ·exact show (260:Int)≠1028 by decide
  ·exact show (516:Int)≠1028 by decide
  ·exact show (772:Int)≠1028 by decide
theorem N8 (t:Nat):dS (dO t)=0:=tR.2 rfl
theorem N9 {t:Nat} (h:t<18446744073709551616):pH (dO t):=⟨show 0<_ by decide,show 0<_ by decide,show 0<_ by decide,show 0<_ by decide,show 0<_ by decide,show 0<_ by decide,h⟩
theorem El {key u c n:List UInt8} {t k:Nat} (h1:key.length=32) (hu:u.length=32) (hc:c.length=104) (hn:n.length=16) (hk:k≤8):ut key ⟨dO t,bG u c k,[],false⟩ n∧(fj key ⟨dO t,bG u c k,[],false⟩ n).length=232+108*k:=by
  have s:br ([]:List Fd)=0:=rfl;have e:=N7 hu hc hk;have un:bQ ⟨dO t,bG u c k,[],false⟩=0:=by
    unfold bQ;rw[if_pos (N8 t)]; exact e
  have ht:=sI hu hc k;have ha:cD key [bS ⟨dO t,bG u c k,[],false⟩,n] ((bf []).length:Int)=0:=Df h1 (by rw[nJ,ht]; omega) (by omega) (by decide);have hs:(eM key ⟨dO t,bG u c k,[],false⟩ n).length=16:=by
    unfold eM;rw[zi ha,Ph,nn,rD]; rfl
  have hl:=sG n (eM key ⟨dO t,bG u c k,[],false⟩ n);have hT:ba (bN key ⟨dO t,bG u c k,[],false⟩ n)=40:=by
    unfold bN;rw[tQ (by omega),hl,hs]; omega
  have ok:ut key ⟨dO t,bG u c k,[],false⟩ n:=⟨h1,by omega,by omega,un,rfl,by rw[show dU (bG u c k) 1028=[] from MN]; rfl,by rw[nM]; omega,NQ (by omega) (by unfold bN at hT; rw[tQ (by omega)] at hT; omega),by rw[hT,ht]; omega⟩
  refine⟨ok,?_⟩;have hx:br [bN key ⟨dO t,bG u c k,[],false⟩ n]=40:=by unfold br; simp[hT]
  rw[(Dh ok).2,Ph,nJ,je,hx,ht];omega
theorem oV {j:Jr} {u n:List UInt8} {e:Int} (h:eO j u n=e) (he:e≠0):pN j u n=dV∧∀ t,pO j t u n=[]:=⟨if_neg (by rw[h]; exact he),fun t=>if_neg (by rw[h]; exact he)⟩


theorem MO {u c:List UInt8} {k:Nat} (hu:u.length=32) (hc:c.length=104):∀ f∈bG u c k,f.da.length≤104:=fun f hf=>by
  rcases sH hf with rfl | rfl | rfl
  ·show u.length≤104; omega
  ·show c.length≤104; omega
  ·exact Nat.le_of_eq tw
def tT (t:Nat) (n:List UInt8) (T:Jr) (u c:List UInt8) (K k:Nat):St:=⟨aU [(1,.w (.c (.d (.int .u64 (t:Int))))),(3,.w (.c (.d (.sl (n.map bD))))),(8,.w (.c (.ptr 3 1 0 0))),(11,.w (.c (.ptr 1 1 0 0))),(14,.w (.c (.own 2 2 0 (bG u c k).length))),(54,.w (.c (.d (.int .i64 (K:Int))))),(55,.w (.c (.d (.int .i64 (k:Int)))))],hL [(1,fI T (.d (.sl (T.ck.map fun l=>D.sl (l.map bD))))),(2,.row 2 ((bG u c k).map bE)),(3,fH)],uL [1,2,3]⟩
def rH:aK := .seq (.reg [oO 56 (.bin .lss (.t 55) (.t 54))]) (.seq (.cond (.t 56) (.skip) (.exit 0)) (.seq (.block 1 (.reg [oM 57 14,oO 58 (.make true 1 1 (.int .u8 0) (kI 104) (kI 104)),oO 59 (.build [(.d (.int .i64 0)),.nil] [(0,1,(kI 772)),(1,1,(.t 58))]),oO 60 (.bldFz 1 2 (.agg [(.int .i64 0),(.sl [])]) [(0,(.t 59))]),oO 61 (.app false 2 32 (.t 57) (.t 60)),oM 14 61])) (.reg [oO 62 (.bin .add (.t 55) (kI 1)),oM 55 62])))
def kj:aB:=⟨4,77,.seq (.reg [oO 4 (.box .roBox (.t 0)),oO 8 (.alloc [.nil,.nil,.nil,.nil,(.d (.int .i64 0)),(.d (.int .i64 0))]),oO 9 (.mv (.k (.c .nil))),oO 10 (.mv (kI 0))]) (.seq (.seq (.reg [oO 19 (.load (.ag 6) (.t 4)),oO 20 (.call 16 [(.t 19)] none),oO 21 (.un .not (.t 20)),oM 22 21,oG 23 (.mv (.t 2)) 22 false,oG 24 (.len (.t 23)) 22 false,oG 25 (.bin .neq (.t 24) (kI 32)) 22 false,oO 26 (.pick (.t 22) (.k (.c (.d (.bool true)))) (.t 25)),oM 27 26,oG 28 (.mv (.t 3)) 27 false,oG 29 (.len (.t 28)) 27 false,oG 30 (.bin .neq (.t 29) (kI 16)) 27 false,oO 31 (.pick (.t 27) (.k (.c (.d (.bool true)))) (.t 30))]) (.cond (.t 31) (.seq (.reg [oO 32 (.build [.nil,.nil,.nil,.nil,(.d (.int .i64 0)),(.d (.int .i64 0))] []),oN (.store (.ag 6) (.t 8) (.t 32)),oO 9 (.mv (.k (.c .nil))),oO 10 (.mv (kI 3))])
 (.ret)) (.skip))) (.seq (.reg [oO 34 (.load (.ag 6) (.t 4)),oO 35 (.call 13 [(.t 34)] none),oM 33 35,oO 36 (.extract (.t 33) 0),oO 37 (.extract (.t 33) 1),oO 38 (.extract (.t 33) 2),oO 11 (.alloc [.nil,.nil,.nil,.nil,(.d (.int .i64 0)),(.d (.int .i64 0))]),oN (.store (.ag 6) (.t 11) (.t 36)),oM 12 37,oM 13 38]) (.seq (.seq (.reg [oM 39 13,oO 40 (.bin .neq (.t 39) (kI 0))]) (.cond (.t 40) (.seq (.reg [oO 41 (.build [.nil,.nil,.nil,.nil,(.d (.int .i64 0)),(.d (.int .i64 0))] []),oM 42 13,oN (.store (.ag 6) (.t 8) (.t 41)),oO 9 (.mv (.k (.c .nil))),oM 10 42]) (.ret)) (.skip))) (.seq (.reg [oM 43 2,oO 44 (.build [(.d (.int .i64 0)),.nil] [(0,1,(kI 260)),(1,1,(.t 43))]),oM 45 12,oO 46 (.build [(.d (.int .i64 0)),.nil] [(0,1,(kI 516)),(1,1,(.t 45))]),oO 47 (.bldSl true 2 2 (.agg [(.int .i64 0),(.sl [])]) [(0,(.t 44)),(1,(.t 46))]),
 oM 14 47]) (.seq (.reg [oO 49 (.load (.ag 6) (.t 11)),oO 50 (.call 21 [(.t 49)] none),oM 48 50,oO 51 (.extract (.t 48) 0),oO 52 (.extract (.t 48) 1),oM 15 51,oM 16 52]) (.seq (.seq (.reg [oM 53 15,oO 54 (.bin .sub (.t 53) (kI 1)),oO 55 (.mv (kI 0))]) (.block 0 (.loop rH))) (.seq (.reg [oO 64 (.fieldAddr 0 (.t 11)),oO 65 (.fieldAddr 0 (.t 64)),oO 66 (.load .sc (.t 65)),oM 67 1,oO 68 (.call 35 [(.t 67)] none),oM 69 14,oO 70 (.build [(.d (.int .i64 0)),(.d (.int .i64 0)),(.d (.int .i64 0)),(.d (.int .i64 0)),(.d (.int .i64 0)),(.d (.int .i64 0)),(.d (.int .u32 0)),(.d (.int .u32 0)),(.d (.int .u32 0)),(.d (.int .u64 0)),(.d (.int .u64 0)),(.d (.int .u64 0)),(.d (.int .u64 0)),.nil,.nil,(.d (.bool false))] [(0,13,(.t 68)),(13,1,(.t 69))]),oM 71 3,oO 72 (.call 34 [(.t 66),(.t 70),(.t 71)] none),
 oM 63 72,oO 73 (.extract (.t 63) 0),oO 74 (.extract (.t 63) 1),oM 17 73,oM 18 74]) (.seq (.reg [oO 75 (.load (.ag 6) (.t 11)),oM 76 17,oN (.store (.ag 6) (.t 8) (.t 75)),oM 9 76,oO 10 (.mv (kI 0))]) (.ret))))))))),[(8,(some (.ag 6))),(9,none),(10,none)]⟩
theorem MP:aA Try.prog { own:=[47],comp:=[],frz:=[60],nils:=[] } Try.f19=some kj:=by kernel_rfl
set_option maxHeartbeats 6400000 in
theorem Oa (G:aj) (j:Jr) (t:Nat) (u n:List UInt8) (ht:t<18446744073709551616):ap Try.prog G 19 [bo j,.int .u64 (t:Int),.sl (u.map bD),.sl (n.map bD)] (.tup [.c (.d (bo (pN j u n))),.c (.d (.sl ((pO j t u n).map bD))),.c (.d (.int .i64 (eO j u n)))]):=by
  refine aD Try.func19 MP rfl rfl ?_;have c1:=lU G j;by_cases v:bX j
  ·rw[decide_eq_true v] at c1;by_cases h1:u.length=32
   ·have g1:((u.length:Int)=32)=True:=eq_true (by omega);by_cases h2:n.length=16
    ·have g2:((n.length:Int)=16)=True:=eq_true (by omega);have eE:eO j u n=cS j:=by unfold eO; rw[if_neg (fun h=>h.elim (· v) (fun h=>h.elim (· h1) (· h2)))]
     have c2:=Eg G j;by_cases h3:cS j=0
     ·obtain⟨v1,v2,v3,v4,v5⟩:=ki v;have hk:j.ck.length≠0:=fun h=>by
        unfold cS at h3;rw[if_neg (not_not_intro v),if_pos h] at h3;cases h3
      have hs:j.sn≠1099511627776:=fun h=>by
        unfold cS at h3;rw[if_neg (not_not_intro v),if_neg hk,if_pos h] at h3;cases h3
      have m0:=v5 _ (kU (l:=j.ck) (i:=0) (by omega));rw[h3] at eE;rw[show pN j u n=bY j from if_pos eE,show pO j t u n=fj j.up (ek j t u) n from if_pos eE,eE];rw[show ml j=bY j from if_pos h3,show mm j=j.ck.getD 0 [] from if_pos h3,h3] at c2;have cw:=Eh G (bY j);have tv:bX (bY j):=(Ec v hk hs).2;have hT:(8-((bY j).ck.length:Int))-1=((8-j.ck.length:Nat):Int):=by
        show (8-((j.ck.drop 1).length:Int))-1=_
        rw[Pp]; omega
      have hT8:(bY j).ck.length≤8:=by
        show (j.ck.drop 1).length≤8
        rw[Pp]; omega
      rw[show mq (bY j)=8-((bY j).ck.length:Int) from if_pos tv,show mo (bY j)=0 from if_pos tv] at cw;have c3:=Mj G t;obtain⟨ok,_⟩:=El (key:=j.up) (u:=u) (c:=j.ck.getD 0 []) (n:=n) (t:=t) (k:=8-j.ck.length) v1 h1 m0 h2 (by omega);have c4:=ML G j.up (ek j t u) n (by omega) (N9 ht) (by unfold ek; rw[nM]; omega) (fun f hf=>by
        have:=MO (u:=u) (c:=j.ck.getD 0 []) h1 m0 f hf;omega) (Pu _) (fun f hf=>by cases hf) (by omega)
      rw[show cK j.up (ek j t u) n=0 from (Dh ok).1] at c4;have fl:=NC 1 (fj j.up (ek j t u) n) .i64 0;have hq:(ek j t u).pl=bG u (j.ck.getD 0 []) (8-j.ck.length):=rfl;unfold ej at c4;rw[hq,show (ek j t u).hd=dO t from rfl,show (ek j t u).se=[] from rfl,show (ek j t u).gu=false from rfl] at c4;have tup:(bY j).up=j.up:=rfl;rw[← tup] at c4 fl ⊢;clear ok eE h3 tv hs v tup;generalize fj (bY j).up (ek j t u) n=B at *
      generalize j.ck.getD 0 []=c at *
      generalize bY j=T at *
      generalize hK:8-j.ck.length=K at *
      have gK:(8-(T.ck.length:Int))-1=(K:Int):=hT;unfold bo at *
      simp only[kj,ai,ae,aa,seval,iteOmega,toNatUp];refine sC (c1) ?_;simp only[g1,g2,ae,aa,seval,iteOmega,toNatUp];refine sD (c2) ?_;refine sC (cw) ?_;simp only[gK,ae,aa,seval,iteOmega,toNatUp];refine bp (tT t n T u c K) (fun k=>K-k) (fun k=>k≤K) 0 (Pu _) ?_ ?_
      ·refine aF (fun i=>if i=1 then 88 else if i=2 then 376 else 64) ?_ ?_ rfl rfl <;> simp only[bG,bE,dI,fI,fH,wx,aG,aP,aa,seval,iteOmega,toNatUp] <;> first | rfl | exact⟨rfl,rfl⟩ | skip
      ·intro k hk2;clear c1 c2 cw;have ql:=nM u c k;have az:=IH (bG u c k);by_cases hlt:k<K
       ·have gk:((k:Int)<(K:Int))=True:=eq_true (by omega);have hs:=Ek u c k;have hp:bE jJ=.agg [.int .i64 772,.sl (List.replicate 104 (.int .u8 0))]:=by
          unfold bE jJ;rw[List.map_replicate]; rfl
        have e0:tT t n T u c K k=⟨aU [(1,.w (.c (.d (.int .u64 (t:Int))))),(3,.w (.c (.d (.sl (n.map bD))))),(8,.w (.c (.ptr 3 1 0 0))),(11,.w (.c (.ptr 1 1 0 0))),(14,.w (.c (.own 2 2 0 (bG u c k).length))),(54,.w (.c (.d (.int .i64 (K:Int))))),(55,.w (.c (.d (.int .i64 (k:Int)))))],hL [(1,fI T (.d (.sl (T.ck.map fun l=>D.sl (l.map bD))))),(2,.row 2 ((bG u c k).map bE)),(3,fH)],uL [1,2,3]⟩:=rfl;rw[e0];clear e0;generalize bG u c k=L at *
        simp only[rH,dI,fI,fH,ae,aa,seval,iteOmega,toNatUp,gk,cp];refine bd (k+1) (by omega) (by omega) (aF (fun i=>if i=1 then 1 else if i=2 then 488 else 3) ?_ ?_ rfl rfl) <;> simp only[hs,hp,List.replicate,P0,Pi,PH,dI,fI,fH,wx,aG,aP,aa,seval,iteOmega,toNatUp] <;> first | rfl | exact⟨rfl,rfl⟩ | skip
       ·obtain rfl:k=K:=by omega
        have gk:((k:Int)<(k:Int))=False:=eq_false (by omega);have e0:tT t n T u c k k=⟨aU [(1,.w (.c (.d (.int .u64 (t:Int))))),(3,.w (.c (.d (.sl (n.map bD))))),(8,.w (.c (.ptr 3 1 0 0))),(11,.w (.c (.ptr 1 1 0 0))),(14,.w (.c (.own 2 2 0 (bG u c k).length))),(54,.w (.c (.d (.int .i64 (k:Int))))),(55,.w (.c (.d (.int .i64 (k:Int)))))],hL [(1,fI T (.d (.sl (T.ck.map fun l=>D.sl (l.map bD))))),(2,.row 2 ((bG u c k).map bE)),(3,fH)],uL [1,2,3]⟩:=rfl;rw[e0];clear e0;generalize bG u c k=L at *
        unfold gb at c3;simp only[rH,dI,fI,fH,ae,aa,seval,iteOmega,toNatUp,gk];refine sD (c3) ?_;refine bO c4 (by simp only[ae,aa,seval,iteOmega,toNatUp] <;> rfl) (.inr fl) ?_;simp only[ae,aa,seval,iteOmega,toNatUp];exact iB
     ·have g3:(cS j=0)=False:=eq_false h3;obtain⟨q1,q2⟩:=oV eE h3;rw[q1,q2,eE];unfold bo dV at *
      generalize cS j=e at *
      simp only[kj,ai,ae,aa,seval,iteOmega,toNatUp];refine sC (c1) ?_;simp only[g1,g2,ae,aa,seval,iteOmega,toNatUp];refine sC (c2) ?_;simp only[g3,ae,aa,seval,iteOmega,toNatUp];exact iB
    ·have g2:((n.length:Int)=16)=False:=eq_false (by omega);have e:eO j u n=3:=by unfold eO; rw[if_pos (.inr (.inr h2))]
     obtain⟨q1,q2⟩:=oV e (by decide);rw[q1,q2,e];unfold bo dV at *
     simp only[kj,ai,ae,aa,seval,iteOmega,toNatUp];refine sC (c1) ?_;simp only[g1,g2,ae,aa,seval,iteOmega,toNatUp];exact iB
   ·have g1:((u.length:Int)=32)=False:=eq_false (by omega);have e:eO j u n=3:=by unfold eO; rw[if_pos (.inr (.inl h1))]
    obtain⟨q1,q2⟩:=oV e (by decide);rw[q1,q2,e];unfold bo dV at *
    simp only[kj,ai,ae,aa,seval,iteOmega,toNatUp];refine sC (c1) ?_;simp only[g1,ae,aa,seval,iteOmega,toNatUp];exact iB
  ·rw[decide_eq_false v] at c1;have e:eO j u n=3:=by unfold eO; rw[if_pos (.inl v)]
   obtain⟨q1,q2⟩:=oV e (by decide);rw[q1,q2,e];unfold bo dV at *
   simp only[kj,ai,ae,aa,seval,iteOmega,toNatUp];refine sD (c1) ?_;exact iB


def kW (s:Int):List UInt8:=(cU s 64).take 32
def kX (s:Int):List UInt8:=(cU s 64).drop 32
theorem sK (s:Int):(kW s).length=32:=by
  unfold kW;rw[Pl,mJ]; rfl
theorem Bg (s:Int):(kX s).length=32:=by
  unfold kX;rw[Pp,mJ]; rfl
def Ds:aB:=⟨1,11,.seq (.reg [oO 2 (.alloc [.nil,.nil])]) (.seq (.reg [oM 4 0,oO 5 (.call 10 [(.t 4),(kI 64)] none),oM 3 5]) (.seq (.reg [oM 6 3,oO 7 (.slice 1 (.t 6) none (some (kI 32)) none),oM 8 3,oO 9 (.slice 1 (.t 8) (some (kI 32)) none none),oO 10 (.build [.nil,.nil] [(0,1,(.t 7)),(1,1,(.t 9))]),oN (.store (.ag 2) (.t 2) (.t 10))]) (.ret))),[(2,(some (.ag 2)))]⟩
theorem M4:aA Try.prog { own:=[],comp:=[],frz:=[],nils:=[] } Try.f23=some Ds:=by kernel_rfl
theorem Od (G:aj) (s:Int):ap Try.prog G 23 [.int .i64 s] (.w (.c (.d (.agg [.sl ((kW s).map bD),.sl ((kX s).map bD)])))):=by
  refine aD Try.func23 M4 rfl rfl ?_;have c1:=zr G s 64 (by decide);have hl:(cU s 64).length=64:=mJ _ _;unfold kW kX;have t1:((cU s 64).drop 32).take 32=(cU s 64).drop 32:=Pk (by simp; omega);generalize cU s 64=B at *
  simp only[Ds,ai,ae,aa,seval,iteOmega,toNatUp];refine sC (c1) ?_;simp only[hl,t1,ae,aa,seval,iteOmega,toNatUp];exact aI
def kY (s i:Nat):List UInt8:=cU ((s+1000003*(i+1):Nat):Int) 104
def cY (s n:Nat):List (List UInt8):=(List.range n).map (kY s)
theorem Oe (s n:Nat):cY s (n+1)=cY s n++[kY s n]:=by
  unfold cY;rw[List.range_succ,P0]; rfl
theorem sL (s n:Nat):(cY s n).length=n:=by
  unfold cY;rw[Pr,Qs]
theorem nN (s i:Nat):(kY s i).length=104:=mJ _ _
def bw (s n:Nat):Jr:=⟨kW (s:Int),kX (s:Int),cY s n,[],1,0⟩
def iw:Ob:=.box [.nil,.nil,.nil,.nil,.d (.int .i64 0),.d (.int .i64 0)]
def ix (s:Nat) (k:C):Ob:=.box [.d (.sl ((kW (s:Int)).map bD)),.d (.sl ((kX (s:Int)).map bD)),k,.nil,.d (.int .i64 1),.d (.int .i64 0)]
def iF (s:Nat) (n:Int) (i:Nat):List (Nat×V):=[(0,.w (.c (.d (.int .i64 (s:Int))))),(1,.w (.c (.d (.int .i64 n)))),(4,.w (.c (.ptr 3 1 0 0))),(5,.w (.c (.ptr 1 1 0 0))),(6,.w (.c (.d (.int .i64 (i:Int)))))]
def jE (s:Nat) (n:Int):Nat→St
  | 0=>⟨aU (iF s n 0),hL [(1,ix s .nil),(3,iw)],uL [1,3]⟩
  | i+1=>⟨aU (iF s n (i+1)),hL [(1,ix s (.own 2 1 0 (cY s (i+1)).length)),(2,.row 1 ((cY s (i+1)).map fun l=>D.sl (l.map bD))),(3,iw)],uL [1,2,3]⟩
def lw:aK := .seq (.seq (.reg [oM 10 6,oM 11 1,oO 12 (.call 8 [(.t 11),(kI 9)] none),oO 13 (.bin .lss (.t 10) (.t 12))]) (.cond (.t 13) (.skip) (.exit 0))) (.seq (.block 1 (.reg [oO 16 (.fieldAddr 2 (.t 5)),oO 17 (.load .sc (.t 16)),oM 18 0,oM 19 6,oO 20 (.bin .add (.t 19) (kI 1)),oO 21 (.bin .mul (kI 1000003) (.t 20)),oO 22 (.bin .add (.t 18) (.t 21)),oO 23 (.call 10 [(.t 22),(kI 104)] none),oO 24 (.bldSl false 1 1 (.sl []) [(0,(.t 23))]),oO 25 (.app false 1 24 (.t 17) (.t 24)),oO 26 (.fieldAddr 2 (.t 5)),oN (.store .sc (.t 26) (.t 25))])) (.reg [oM 14 6,oO 15 (.bin .add (.t 14) (kI 1)),oM 6 15]))
def Dt:aB:=⟨2,28,.seq (.reg [oO 4 (.alloc [.nil,.nil,.nil,.nil,(.d (.int .i64 0)),(.d (.int .i64 0))])]) (.seq (.reg [oM 7 0,oO 8 (.call 23 [(.t 7)] none),oO 9 (.build [.nil,.nil,.nil,.nil,(.d (.int .i64 0)),(.d (.int .i64 0))] [(0,2,(.t 8)),(4,1,(kI 1))]),oO 5 (.alloc [.nil,.nil,.nil,.nil,(.d (.int .i64 0)),(.d (.int .i64 0))]),oN (.store (.ag 6) (.t 5) (.t 9))]) (.seq (.seq (.reg [oO 6 (.mv (kI 0))]) (.block 0 (.loop lw))) (.seq (.reg [oO 27 (.load (.ag 6) (.t 5)),oN (.store (.ag 6) (.t 4) (.t 27))]) (.ret)))),[(4,(some (.ag 6)))]⟩
theorem M5:aA Try.prog { own:=[],comp:=[],frz:=[],nils:=[] } Try.f9=some Dt:=by kernel_rfl
theorem En (G:aj) (s:Nat) (n:Int) (hs:s≤1000000) (N:Nat) (hN:ft n 9=(N:Int)):ap Try.prog G 9 [.int .i64 (s:Int),.int .i64 n] (.w (.c (.d (bo (bw s N))))):=by
  refine aD Try.func9 M5 rfl rfl ?_;have c1:=Od G (s:Int);have r0:=mA n 9 (by decide);have c2:=nr G n 9 (by decide);rw[hN] at c2 r0;unfold bo bw;dsimp only;simp only[Dt,ai,ae,aa,seval,iteOmega,toNatUp];refine sD (c1) ?_;refine bp (jE s n) (fun i=>N-i) (fun i=>i≤N) 0 (Pu _) ?_ ?_
  ·refine aF (fun i=>if i=1 then 40 else 32) ?_ ?_ rfl rfl <;> simp only[iF,ix,iw,wx,aG,aP,aa,seval,iteOmega,toNatUp] <;> first | rfl | exact⟨rfl,rfl⟩ | skip
  ·intro i hi;clear c1;have tl:=sL s i;have az:=iG (cY s i);by_cases hlt:i<N
   ·have g1:((i:Int)<(N:Int))=True:=eq_true (by omega);have c3:=zr G ((s+1000003*(i+1):Nat):Int) 104 (by decide);have ec:(s:Int)+1000003*((i:Int)+1)=((s+1000003*(i+1):Nat):Int):=by omega
    have hn:=Oe s i;rw[show cU ((s+1000003*(i+1):Nat):Int) 104=kY s i from rfl] at c3;generalize kY s i=x at *
    rcases i with _ | i
    ·have e1:cY s (0+1)=[x]:=hn;simp only[lw,jE,iF,ix,iw,ae,aa,seval,iteOmega,toNatUp];refine sC (c2) ?_;simp only[g1,ec,ae,aa,seval,iteOmega,toNatUp];refine sC (c3) ?_;simp only[cp,ae,aa,seval,iteOmega,toNatUp];refine bd (0+1) (by omega) (by omega) (aF (fun i=>if i=1 then 1 else if i=2 then 200 else 3) ?_ ?_ rfl rfl) <;> simp only[jE,iF,ix,iw,e1,wx,aG,aP,aa,seval,iteOmega,toNatUp] <;> first | rfl | exact⟨rfl,rfl⟩ | skip
    ·simp only[lw,jE,iF,ix,iw,ae,aa,seval,iteOmega,toNatUp,tl];refine sC (c2) ?_;simp only[g1,ec,ae,aa,seval,iteOmega,toNatUp];refine sC (c3) ?_;simp only[cp,tl,ae,aa,seval,iteOmega,toNatUp];refine bd (i+1+1) (by omega) (by omega) (aF (fun i=>if i=1 then 1 else if i=2 then 200 else 3) ?_ ?_ rfl rfl) <;> simp only[jE,iF,ix,iw,hn,P0,tl,wx,aG,aP,aa,seval,iteOmega,toNatUp] <;> first | rfl | exact⟨rfl,rfl⟩ | skip
   ·obtain rfl:i=N:=by omega
    have g1:((i:Int)<(i:Int))=False:=eq_false (by omega);rcases i with _ | i
    ·have e0:cY s 0=[]:=rfl;rw[e0];simp only[lw,jE,iF,ix,iw,ae,aa,seval,iteOmega,toNatUp];refine sC (c2) ?_;simp only[g1,ae,aa,seval,iteOmega,toNatUp];exact aI
    ·simp only[lw,jE,iF,ix,iw,ae,aa,seval,iteOmega,toNatUp];refine sC (c2) ?_;simp only[g1,ae,aa,seval,iteOmega,toNatUp];exact aI
theorem EL {s N:Nat} (hN:N≤8):mj (bw s N):=by
  refine⟨sK _,Bg _,?_,.inl rfl,kh.2 fun h=>?_,by show (0:Int)≤1; decide,by show (0:Int)≤0; decide,by show (0:Int)≤_; decide⟩
  ·show (cY s N).length≤8
   rw[sL]; exact hN
  ·obtain⟨i,_,hi⟩:=PR.1 (show []∈cY s N from h);have:=nN s i;rw[hi] at this;cases this
theorem Du {s N:Nat}:∀ c∈(bw s N).ck,c.length=104:=fun c hc=>by
  obtain⟨i,_,rfl⟩:=PR.1 (show c∈cY s N from hc);exact nN s i
theorem Of (s N:Nat):(cY s (N+1)).getD 0 []=kY s 0:=by
  unfold cY;rw[List.range_succ_eq_map,Pi]; rfl
theorem Dv:(bY (bw 1 1)).la.length=104:=by
  rw[show (bY (bw 1 1)).la=(cY 1 (0+1)).getD 0 [] from rfl,Of,nN]
theorem Dw:(bY (bw 1 1)).ck=[]:=rfl
theorem M6:bX (bY (bw 1 1)):=by
  refine gY.2 ⟨⟨sK _,Bg _,?_,.inr Dv,?_,show (0:Int)≤1 by decide,show (0:Int)≤0+1 by decide,show (0:Int)+1≤1099511627776 by decide⟩,?_,?_⟩ <;> rw[Dw]
  ·exact Pu _
  ·rfl
  ·exact fun c hc=>by cases hc
  ·exact List.Pairwise.nil
theorem OQ:bX (bw 1 1):=gY.2 ⟨EL (by decide),Du,List.pairwise_singleton _ _⟩
def vL:aB:=⟨0,46,.seq (.reg [oO 0 (.mv (.k (.c (.d (.bool false)))))]) (.seq (.reg [oO 7 (.call 9 [(kI 1),(kI 1)] none),oO 8 (.make false 1 1 (.int .u8 0) (kI 32) (kI 32)),oO 9 (.make false 1 1 (.int .u8 0) (kI 16) (kI 16)),oO 10 (.call 19 [(.t 7),(.k (.c (.d (.int .u64 5)))),(.t 8),(.t 9)] none),oM 6 10,oO 11 (.extract (.t 6) 0),oO 12 (.extract (.t 6) 1),oO 13 (.extract (.t 6) 2),oO 1 (.alloc [.nil,.nil,.nil,.nil,(.d (.int .i64 0)),(.d (.int .i64 0))]),oN (.store (.ag 6) (.t 1) (.t 11)),oM 2 12,oM 3 13]) (.seq (.reg [oO 15 (.load (.ag 6) (.t 1)),oO 16 (.call 21 [(.t 15)] none),oM 14 16,oO 17 (.extract (.t 14) 0),oO 18 (.extract (.t 14) 1),oM 4 17,oM 5 18]) (.seq (.reg [oM 19 3,oO 20 (.bin .eql (.t 19) (kI 0)),oM 21 20,oG 22 (.mv (.t 5)) 21 true,oG 23 (.bin .eql (.t 22) (kI 0)) 21 true,
 oO 24 (.pick (.t 21) (.t 23) (.k (.c (.d (.bool false))))),oM 25 24,oG 26 (.mv (.t 2)) 25 true,oG 27 (.len (.t 26)) 25 true,oG 28 (.bin .eql (.t 27) (kI 988)) 25 true,oO 29 (.pick (.t 25) (.t 28) (.k (.c (.d (.bool false))))),oM 30 29,oG 31 (.mv (.t 4)) 30 true,oG 32 (.bin .eql (.t 31) (kI 8)) 30 true,oO 33 (.pick (.t 30) (.t 32) (.k (.c (.d (.bool false))))),oM 34 33,oG 35 (.fieldAddr 2 (.t 1)) 34 true,oG 36 (.load .sc (.t 35)) 34 true,oG 37 (.len (.t 36)) 34 true,oG 38 (.bin .eql (.t 37) (kI 0)) 34 true,oO 39 (.pick (.t 34) (.t 38) (.k (.c (.d (.bool false))))),oM 40 39,oG 41 (.fieldAddr 3 (.t 1)) 40 true,oG 42 (.load .sc (.t 41)) 40 true,oG 43 (.len (.t 42)) 40 true,oG 44 (.bin .eql (.t 43) (kI 104)) 40 true,oO 45 (.pick (.t 40) (.t 44) (.k (.c (.d (.bool false))))),oM 0 45]) (.ret)))),
 [(0,none)]⟩
theorem FY:aA Try.prog { own:=[],comp:=[],frz:=[8,9],nils:=[] } Try.f7=some vL:=by kernel_rfl
set_option maxHeartbeats 1600000 in
theorem Hf (G:aj):ap Try.prog G 7 [] (.w (.c (.d (.bool true)))):=by
  refine aD Try.func7 FY rfl rfl ?_;have c1:=En G 1 1 (by decide) 1 (by decide);have v:=OQ;have kl:(bw 1 1).ck.length=1:=rfl;have e0:cS (bw 1 1)=0:=by unfold cS; rw[if_neg (not_not_intro v),if_neg (by rw[kl]; decide),if_neg (show ¬ (bw 1 1).sn=1099511627776 from fun h=>absurd (show (0:Int)=1099511627776 from h) (by decide))]
  have e1:eO (bw 1 1) (List.replicate 32 0) (List.replicate 16 0)=0:=by unfold eO; rw[if_neg (fun h=>h.elim (· v) (fun h=>h.elim (· Ps) (· Ps))),e0]
  have c2:=Oa G (bw 1 1) 5 (List.replicate 32 0) (List.replicate 16 0) (by decide);rw[show pN (bw 1 1) (List.replicate 32 0) (List.replicate 16 0)=bY (bw 1 1) from if_pos e1,show pO (bw 1 1) 5 (List.replicate 32 0) (List.replicate 16 0)=fj (bw 1 1).up (ek (bw 1 1) 5 (List.replicate 32 0)) (List.replicate 16 0) from if_pos e1,e1] at c2;obtain⟨_,ql⟩:=El (key:=(bw 1 1).up) (u:=List.replicate 32 0) (c:=(bw 1 1).ck.getD 0 []) (n:=List.replicate 16 0) (t:=5) (k:=7) (sK _) Ps (nN _ _) Ps (by decide);have hq:ek (bw 1 1) 5 (List.replicate 32 0)=⟨dO 5,bG (List.replicate 32 0) ((bw 1 1).ck.getD 0 []) 7,[],false⟩:=by unfold ek; rw[kl]
  rw[← hq] at ql;have ql:=ql.trans (show 232+108*7=988 by decide);have c3:=Eh G (bY (bw 1 1));have tv:=M6;rw[show mq (bY (bw 1 1))=8 from if_pos tv,show mo (bY (bw 1 1))=0 from if_pos tv] at c3;have la:=Dv;have ck:=Dw;have z32:((List.replicate 32 (0:UInt8)).map bD)=List.replicate 32 (.int .u8 0):=by rw[List.map_replicate]; rfl
  have eh:((List.replicate 16 (0:UInt8)).map bD)=List.replicate 16 (.int .u8 0):=by rw[List.map_replicate]; rfl
  clear tv e0 e1 v kl;generalize fj (bw 1 1).up (ek (bw 1 1) 5 (List.replicate 32 0)) (List.replicate 16 0)=B at *
  generalize bY (bw 1 1)=T at *
  generalize bw 1 1=W at *
  rw[z32,eh] at c2;simp only[List.replicate] at c2;unfold bo at *
  rw[ck] at c2 c3;simp only[PH] at c2 c3;have gq:((B.length:Int)=988)=True:=eq_true (by omega);have gl:((T.la.length:Int)=104)=True:=eq_true (by omega);simp only[vL,ai,ae,aa,seval,iteOmega,toNatUp];refine sD (c1) ?_;refine sD (c2) ?_;refine sC (c3) ?_;simp only[gq,gl,ae,aa,seval,iteOmega,toNatUp];exact aI
theorem FZ {v m:Int} (h0:0≤v) (h:v<m):ft v m=v:=by
  unfold ft;rw[if_neg (by omega),Int.emod_eq_of_lt h0 h]
theorem Ns (s:Nat) {N:Nat} (hN:N≤8):cY s N=(mz.take N).map fun o=>cU ((s+o:Nat):Int) 104:=by
  unfold cY mz;rw[← List.map_take,List.take_range,QE hN,List.map_map];rfl
theorem Nt {α:Type} {a b:List α} (h:(a++b).Nodup):a.Nodup∧b.Nodup∧∀ x∈a,x∉b:=by
  obtain⟨h1,h2,h3⟩:=Qe.1 h;exact⟨h1,h2,fun x hx hb=>h3 x hx x hb rfl⟩
theorem OD {s N:Nat} (hs:s<1000) (hN:N≤8):(cY s N).Nodup:=by
  rw[Ns s hN];have h:=OR hs;rw[P0] at h;have h1:=(Nt h).1;exact h1.sublist ((List.take_sublist _ _).map _)
theorem OE {s N:Nat} (hs:s<1000) (hN:N≤8):bX (bw s N):=gY.2 ⟨EL hN,Du,OD hs hN⟩
theorem Eq {j:Jr} {n:Int} (v:bX j) (h:0≤n):iE j n=0∧bX (jI j n):=by
  refine⟨by unfold iE; rw[if_neg (not_not_intro v),if_neg (by omega)],?_⟩;unfold jI;split
  ·exact v
  ·obtain⟨⟨a1,a2,a3,a4,a5,a6,a7,a8⟩,b,c⟩:=gY.1 v;refine gY.2 ⟨⟨a1,a2,a3,.inl rfl,kh.2 fun h=>?_,h,a7,a8⟩,b,c⟩;have:=b _ h;cases this
theorem OG {j:Jr} {n:Int} (h:n≠j.nw):jI j n=⟨j.up,j.dn,j.ck,[],n,j.sn⟩:=if_neg h
def Bl:aB:=⟨3,81,.seq (.reg [oO 6 (.mv (.k (.c (.d (.bool false)))))]) (.seq (.reg [oM 17 0,oO 18 (.call 8 [(.t 17),(kI 1000)] none),oM 19 1,oO 20 (.call 8 [(.t 19),(kI 7)] none),oO 21 (.bin .add (kI 1) (.t 20)),oO 22 (.call 9 [(.t 18),(.t 21)] none),oO 23 (.call 13 [(.t 22)] none),oM 16 23,oO 24 (.extract (.t 16) 0),oO 25 (.extract (.t 16) 1),oO 26 (.extract (.t 16) 2),oO 7 (.alloc [.nil,.nil,.nil,.nil,(.d (.int .i64 0)),(.d (.int .i64 0))]),oN (.store (.ag 6) (.t 7) (.t 24)),oM 8 25,oM 9 26]) (.seq (.seq (.reg [oM 27 9,oO 28 (.bin .neq (.t 27) (kI 0))]) (.cond (.t 28) (.seq (.reg [oO 6 (.mv (.k (.c (.d (.bool false)))))]) (.ret)) (.skip))) (.seq (.reg [oO 30 (.load (.ag 6) (.t 7)),oO 31 (.fieldAddr 4 (.t 7)),oO 32 (.load .sc (.t 31)),oO 33 (.call 12 [(.t 30),(.t 32)] none),oM 29 33,
 oO 34 (.extract (.t 29) 0),oO 35 (.extract (.t 29) 1),oO 10 (.alloc [.nil,.nil,.nil,.nil,(.d (.int .i64 0)),(.d (.int .i64 0))]),oN (.store (.ag 6) (.t 10) (.t 34)),oM 11 35]) (.seq (.reg [oO 37 (.load (.ag 6) (.t 7)),oM 38 2,oO 39 (.call 8 [(.t 38),(kI 1000)] none),oO 40 (.bin .add (kI 2) (.t 39)),oO 41 (.call 12 [(.t 37),(.t 40)] none),oM 36 41,oO 42 (.extract (.t 36) 0),oO 43 (.extract (.t 36) 1),oO 12 (.alloc [.nil,.nil,.nil,.nil,(.d (.int .i64 0)),(.d (.int .i64 0))]),oN (.store (.ag 6) (.t 12) (.t 42)),oM 13 43]) (.seq (.reg [oO 45 (.load (.ag 6) (.t 12)),oO 46 (.call 15 [(.t 45)] none),oM 44 46,oO 47 (.extract (.t 44) 0),oO 48 (.extract (.t 44) 1),oM 14 47,oM 15 48]) (.seq (.reg [oO 49 (.call 7 [] none),oM 50 49,oG 51 (.mv (.t 11)) 50 true,oG 52 (.bin .eql (.t 51) (kI 0)) 50 true,oO 53 (.pick (.t 50) (.t 52) (.k (.c (.d (.bool false))))),
 oM 54 53,oG 55 (.mv (.t 13)) 54 true,oG 56 (.bin .eql (.t 55) (kI 0)) 54 true,oO 57 (.pick (.t 54) (.t 56) (.k (.c (.d (.bool false))))),oM 58 57,oG 59 (.load (.ag 6) (.t 10)) 58 true,oG 60 (.load (.ag 6) (.t 7)) 58 true,oG 61 (.call 17 [(.t 59),(.t 60)] none) 58 true,oO 62 (.pick (.t 58) (.t 61) (.k (.c (.d (.bool false))))),oM 63 62,oG 64 (.mv (.t 15)) 63 true,oG 65 (.bin .eql (.t 64) (kI 10)) 63 true,oO 66 (.pick (.t 63) (.t 65) (.k (.c (.d (.bool false))))),oM 67 66,oG 68 (.fieldAddr 2 (.t 12)) 67 true,oG 69 (.load .sc (.t 68)) 67 true,oG 70 (.fieldAddr 2 (.t 7)) 67 true,oG 71 (.load .sc (.t 70)) 67 true,oG 72 (.call 18 [(.t 69),(.t 71)] none) 67 true,oO 73 (.pick (.t 67) (.t 72) (.k (.c (.d (.bool false))))),oM 74 73,oG 75 (.fieldAddr 4 (.t 12)) 74 true,oG 76 (.load .sc (.t 75)) 74 true,
 oG 77 (.fieldAddr 4 (.t 7)) 74 true,oG 78 (.load .sc (.t 77)) 74 true,oG 79 (.bin .neq (.t 76) (.t 78)) 74 true,oO 80 (.pick (.t 74) (.t 79) (.k (.c (.d (.bool false))))),oM 6 80]) (.ret))))))),[(6,none)]⟩
theorem K4:aA Try.prog { own:=[],comp:=[],frz:=[],nils:=[] } Try.f4=some Bl:=by kernel_rfl
set_option maxHeartbeats 1600000 in
theorem Nu (G:aj) (seed:Int) (hseed1:-9223372036854775808≤seed) (hseed2:seed≤9223372036854775807) (n:Int) (hn1:-9223372036854775808≤n) (hn2:n≤9223372036854775807) (network:Int) (hnetwork1:-9223372036854775808≤network) (hnetwork2:network≤9223372036854775807) :ap Try.prog G 4 [.int .i64 seed,.int .i64 n,.int .i64 network] (.w (.c (.d (.bool true)))):=by
  refine aD Try.func4 K4 rfl rfl ?_;have r0:=mA seed 1000 (by decide);have e0:=nr G seed 1000 (by decide);obtain⟨s,hs⟩:=Qb r0.1;have hs:ft seed 1000=(s:Int):=hs;rw[hs] at e0 r0;have r1:=mA n 7 (by decide);have e1:=nr G n 7 (by decide);obtain⟨a,ha⟩:=Qb r1.1;have ha:ft n 7=(a:Int):=ha;rw[ha] at e1 r1;have r2:=mA network 1000 (by decide);have e2:=nr G network 1000 (by decide);generalize ft network 1000=w at *
  have hN:ft (1+(a:Int)) 9=((a+1:Nat):Int):=by
    rw[FZ (by omega) (by omega)]; omega
  have c1:=En G s (1+(a:Int)) (by omega) (a+1) hN;have v:=OE (s:=s) (N:=a+1) (by omega) (by omega);obtain⟨tE,tv⟩:=Ec v (by show (cY s (a+1)).length≠0; rw[sL]; omega) (show (0:Int)≠1099511627776 by decide);have c2:=Eg G (bw s (a+1));rw[show ml (bw s (a+1))=bY (bw s (a+1)) from if_pos tE,tE] at c2;have nw:(bY (bw s (a+1))).nw=1:=rfl;have t8:=(ki tv).2.2.1;generalize mm (bw s (a+1))=C at *
  generalize bw s (a+1)=W at *
  generalize bY W=T at *
  obtain⟨mE1,_⟩:=Eq (n:=T.nw) tv (by omega);obtain⟨mE2,mv2⟩:=Eq (n:=2+w) tv (by omega);have c3:=Ei G T T.nw;have c4:=Ei G T (2+w);rw[show kV T T.nw=T from (if_pos mE1).trans (if_pos rfl),mE1] at c3;rw[show kV T (2+w)=jI T (2+w) from if_pos mE2,mE2] at c4;rw[OG (by omega)] at c4 mv2;have c5:=NY G ⟨T.up,T.dn,T.ck,[],2+w,T.sn⟩;have aE:iD ⟨T.up,T.dn,T.ck,[],2+w,T.sn⟩=10:=by unfold iD; rw[if_neg (not_not_intro mv2)]; rfl
  rw[aE] at c5;have ck:=Hf G;have s1:=NS G T (by omega);have s2:=Ea G T.ck T.ck (by omega) (by omega);rw[beq_self_eq_true] at s2;unfold iK at s2;clear mE1 mE2 mv2 aE tE tv v;generalize mn ⟨T.up,T.dn,T.ck,[],2+w,T.sn⟩=C2 at *
  unfold bo at *
  simp only[PH] at c4 c5;have gw:(2+w=T.nw)=False:=eq_false (by omega);simp only[Bl,ai,ae,aa,seval,iteOmega,toNatUp];refine sD (e0) ?_;refine sD (e1) ?_;refine sD (c1) ?_;refine sD (c2) ?_;refine sD (c3) ?_;refine sD (e2) ?_;refine sD (c4) ?_;refine sD (c5) ?_;refine sD (ck) ?_;refine sD (s1) ?_;refine sC (s2) ?_;simp only[gw,ae,aa,seval,iteOmega,toNatUp];exact aI
end Go.Proofs.Ytofonnokanoflaa
