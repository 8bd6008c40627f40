/- Texts of one's own, merged: from: Layer 18,without code: packets as data,and what the functions return. Own work. -/
import Derived.Test.YtofonnokanoflaaMg413
import Derived.Test.YtofonnokanoflaaMg410
import Derived.Test.YtofonnokanoflaaMg415
import Derived.Test.YtofonnokanoflaaMg411
import Derived.Test.YtofonnokanoflaaMg414
import Derived.Test.YtofonnokanoflaaMg49
set_option linter.unusedVariables false
set_option linter.unusedSimpArgs false
namespace Go.Proofs.Ytofonnokanoflaa
open Go.RowKit
structure ci where
  hd:Hd
  pl:List Fd
  se:List Fd
  gu:Bool
def Q6:ci:=⟨Hd.z,[],[],false⟩
def eG (p:ci):D:=.agg [.int .i64 p.hd.lp,.int .i64 p.hd.vr,.int .i64 p.hd.md,.int .i64 p.hd.st,.int .i64 p.hd.pl,.int .i64 p.hd.pr,.int .u32 (p.hd.rd:Int),.int .u32 (p.hd.rp:Int),.int .u32 (p.hd.ri:Int),.int .u64 (p.hd.rf:Int),.int .u64 (p.hd.og:Int),.int .u64 (p.hd.rc:Int),.int .u64 (p.hd.tr:Int),.sl (p.pl.map bN),.sl (p.se.map bN),.bool p.gu]
def cc (p:ci):Int:=if ee p.hd=0 then bq p.pl else ee p.hd
def ce (p:ci):List UInt8:=fC p.hd++bo p.pl
def qN (p:ci):List UInt8:=if cc p=0 then ce p else []
def QS (b:List UInt8):Int:=if Gw b=0 then vW (b.drop 48) else Gw b
def QT (b:List UInt8):ci:=if QS b=0 then ⟨qL b,GQ (b.drop 48),[],false⟩ else Q6
def fD (n s:List UInt8):List UInt8:=aw n.length 2++(aw s.length 2++(eA n 4++eA s 4))
def kw (n s:List UInt8):Fd:=⟨1028,fD n s⟩
def fb (key:List UInt8) (p:ci) (n:List UInt8):List UInt8:=kf key [ce p,n] (bo p.se)
def bY (key:List UInt8) (p:ci) (n:List UInt8):Fd:=kw n (fb key p n)
def cU (key:List UInt8) (p:ci) (n:List UInt8):Int :=
  if key.length≠32 then 5 else if n.length<16∨32<n.length then 4 else if cc p≠0 then cc p else if bq p.se≠0 then bq p.se else if (ei p.pl 1028).length≠0 then 3 else if p.pl.length=24 then 8 else if bq [bY key p n]≠0∨1280<(ce p).length+bz [bY key p n] then 2 else 0
def fE (key:List UInt8) (p:ci) (n:List UInt8):List UInt8:=if cU key p n=0 then ce p++bo [bY key p n] else []
def qO (d:List UInt8):Nat:=gE (eZ d 0 2)
def GR (d:List UInt8):Nat:=gE (eZ d 2 2)
def GT (d:List UInt8):Nat:=4+(qO d+3) / 4*4
def Q7 (d:List UInt8):List UInt8:=eZ d 4 (qO d)
def Q8 (d:List UInt8):List UInt8:=eZ d (GT d) (GR d)
def GU (d:List UInt8):Prop:=4≤d.length∧16≤qO d∧qO d≤32∧GT d+GR d≤d.length∧fD (Q7 d) (Q8 d)=d
instance (d:List UInt8):Decidable (GU d):=by unfold GU; infer_instance
theorem PV (b:List UInt8):eA b 4=b++List.replicate (fj b.length 4) 0:=Cc b (n:=4) (by decide)
theorem PW (n:Nat):n+fj n 4=(n+3) / 4*4:=by unfold fj; omega
theorem yu (b:List UInt8):(eA b 4).length=(b.length+3) / 4*4:=by rw[PV,Rk,RF,PW]
theorem tO (n s:List UInt8):(fD n s).length=4+(n.length+3) / 4*4+(s.length+3) / 4*4:=by
  unfold fD;simp only[Rk,cX,yu]; omega
theorem uZ {n s:List UInt8} (h:12≤(fD n s).length):be (kw n s)=4+(fD n s).length:=by
  have:=tO n s;unfold be kw;dsimp only;omega
theorem PX {n s:List UInt8} (h:12≤(fD n s).length) (h2:4+(fD n s).length≤1232):bO (kw n s)=0:=EK (by show (0:Int)≤1028; decide) (by show (1028:Int)≤65535; decide) (by rw[uZ h]; exact h2)
theorem Aw {l:List Fd} {k:Int} (h:∀ f∈l,f.ty≠k):∀ n,n≤l.length→eh l k n=[]
  | 0,_=>rfl
  | n+1,hn=>by
    rw[FS (h _ (sW (by omega))),Aw h n (by omega)]
theorem u1 {h:Hd}:ee h=0↔i6 h=true:=by
  unfold ee;split <;> simp_all
theorem PY {p:ci} (h:cc p=0):i6 p.hd=true∧ee p.hd=0∧bq p.pl=0:=by
  unfold cc at h;split at h
  ·rename_i h0; exact⟨u1.1 h0,h0,h⟩
  ·rename_i h0; exact absurd h h0
theorem qb {l:List Fd} (h:bq l=0):(∀ f∈l,bO f=0)∧l.length≤24∧bz l≤1232∧eF l=bo l:=by
  have hB:eF l=bo l:=if_pos h;unfold bq at h;split at h
  ·rename_i h0;split at h
   ·cases h
   ·split at h
    ·cases h
    ·exact⟨p0.1 h0,by omega,by omega,hB⟩
  ·rename_i h0; exact absurd h h0
theorem EO {l:List Fd} (h1:∀ f∈l,bO f=0) (h2:l.length≤24) (h3:bz l≤1232):bq l=0:=(CC (p0.2 h1) h2 h3).1
theorem o0 (p:ci):(ce p).length=48+bz p.pl:=by unfold ce; rw[Rk,L4,jU]
theorem EP {key a n:List UInt8} {m:Int} (hk:key.length=32) (ha:a.length≤65519) (hn:n.length≤65519) (hm:m≤65519):cO key [a,n] m=0:=Kq hk (by simp) (fun x hx=>by simp at hx; rcases hx with rfl | rfl <;> assumption) hm
structure vG (key:List UInt8) (p:ci) (n:List UInt8):Prop where
  ky:key.length=32
  n1:16≤n.length
  n2:n.length≤32
  un:cc p=0
  se:bq p.se=0
  no:(ei p.pl 1028).length=0
  lt:p.pl.length≤23
  gd:bO (bY key p n)=0
  all:48+bz p.pl+be (bY key p n)≤1280
theorem EQ {key:List UInt8} {p:ci} {n:List UInt8} (h:vG key p n):cU key p n=0∧fE key p n=ce p++bo [bY key p n]:=by
  have ht:bz [bY key p n]=be (bY key p n):=by simp[bz]
  have hx:bq [bY key p n]=0:=EO (fun f hf=>by simp at hf; subst hf; exact h.gd) (by simp) (by rw[ht]; exact (pZ h.gd).2.2);have e:cU key p n=0:=by
    unfold cU;have a:=h.ky; have b:=h.n1; have c:=h.n2; have d:=h.lt; have f:=h.all
    rw[if_neg (by omega),if_neg (by omega),if_neg (by simp[h.un]),if_neg (by simp[h.se]),if_neg (by simp[h.no]),if_neg (by omega),if_neg];rw[o0,ht];rintro (k | k)
    ·exact k hx
    ·omega
  exact⟨e,if_pos e⟩
structure Jr where
  up:List UInt8
  dn:List UInt8
  ck:List (List UInt8)
  la:List UInt8
  nw:Int
  sn:Int
def bf (j:Jr):D:=.agg [.sl (j.up.map bD),.sl (j.dn.map bD),.sl (j.ck.map fun l=>D.sl (l.map bD)),.sl (j.la.map bD),.int .i64 j.nw,.int .i64 j.sn]
def du:Jr:=⟨[],[],[],[],0,0⟩
theorem kx {l:List (List UInt8)} {i:Nat} (h:i<l.length):l[i]?=some (l.getD i []):=by
  rw[Rj,Rh h]; rfl
theorem ir {l:List (List UInt8)} {i:Nat} (h:i<l.length):l.getD i []∈l:=by
  rw[Rj,Rh h];exact RR h
theorem vX {l:List (List UInt8)} {i:Nat} (h:i<l.length):l.take (i+1)=l.take i++[l.getD i []]:=by
  rw[List.take_add_one,kx h]; rfl
def fF (l:List (List UInt8)) (c:List UInt8):Bool:=l.any (·==c)
theorem Mt {l:List (List UInt8)} {c:List UInt8}:fF l c=true↔c∈l:=by
  unfold fF;rw[List.any_eq_true];exact⟨fun ⟨x,hx,e⟩=>by rw[← beq_iff_eq.1 e]; exact hx,fun h=>⟨c,h,beq_self_eq_true c⟩⟩
theorem iF {l:List (List UInt8)} {c:List UInt8}:fF l c=false↔c∉l:=by
  rw[← Mt,Bool.not_eq_true]
def jJ (l:List (List UInt8)) (i:Nat):Prop:=(l.getD i []).length=104∧fF (l.take i) (l.getD i [])=false
def nk (j:Jr):Prop:=j.up.length=32∧j.dn.length=32∧j.ck.length≤8∧(j.la.length=0∨j.la.length=104)∧fF j.ck j.la=false∧0≤j.nw∧0≤j.sn∧j.sn≤1099511627776
instance (j:Jr):Decidable (nk j):=by unfold nk; infer_instance
instance (l:List (List UInt8)) (i:Nat):Decidable (jJ l i):=by unfold jJ; infer_instance
def bP (j:Jr):Prop:=nk j∧∀ i,i<j.ck.length→jJ j.ck i
instance (j:Jr):Decidable (bP j):=by unfold bP; infer_instance
theorem Ot {l:List (List UInt8)}:(∀ i,i<l.length→fF (l.take i) (l.getD i [])=false)↔l.Nodup:=by
  rw[List.nodup_iff_pairwise_ne,List.pairwise_iff_getElem];constructor
  ·intro h i k hi hk hik e;have:=iF.1 (h k hk);rw[Rj,Rh hk] at this;exact this (List.mem_take_iff_getElem.2 ⟨i,by omega,e⟩)
  ·intro h k hk;refine iF.2 fun hm=>?_
   obtain⟨i,hi,e⟩:=List.mem_take_iff_getElem.1 hm;rw[Rj,Rh hk] at e;exact h i k (by omega) hk (by omega) e
theorem gw {j:Jr}:bP j↔nk j∧(∀ c∈j.ck,c.length=104)∧j.ck.Nodup:=by
  unfold bP jJ;rw[← Ot];constructor
  ·rintro⟨h,a⟩;refine⟨h,fun c hc=>?_,fun i hi=>(a i hi).2⟩;obtain⟨i,hi,rfl⟩:=RY hc;have:=(a i hi).1;rw[Rj,Rh hi] at this;exact this
  ·rintro⟨h,a,b⟩;exact⟨h,fun i hi=>⟨a _ (ir hi),b i hi⟩⟩
def cV (j:Jr):Int:=if ¬ bP j then 3 else if j.ck.length=0 then 10 else if j.sn=1099511627776 then 7 else 0
def bU (j:Jr):Jr:=⟨j.up,j.dn,j.ck.drop 1,j.ck.getD 0 [],j.nw,j.sn+1⟩
def nl (j:Jr):Jr:=if cV j=0 then bU j else du
def nm (j:Jr):List UInt8:=if cV j=0 then j.ck.getD 0 [] else []
def iu (j:Jr):Int:=if ¬ bP j then 3 else if j.la.length=0 then 10 else 0
def nn (j:Jr):List UInt8:=if iu j=0 then j.la else []
def nq (j:Jr):Int:=if bP j then 0 else 3
def nr (j:Jr):Int:=if bP j then 8-(j.ck.length:Int) else 0
def jH (la:List UInt8) (l:List (List UInt8)) (c:List UInt8):Bool:=!fF l c&&(!(la==c)&&decide (l.length<8))
def dV (la:List UInt8) (l:List (List UInt8)) (c:List UInt8):List (List UInt8):=if jH la l c=true then l++[c] else l
def bu (la:List UInt8) (l cs:List (List UInt8)):List (List UInt8):=cs.foldl (dV la) l
def eU (cs:List (List UInt8)):Bool:=cs.all fun c=>c.length==104
def gM (j:Jr) (cs:List (List UInt8)):Int:=if ¬ bP j then 3 else if eU cs=true then 0 else 3
def jK (j:Jr) (cs:List (List UInt8)):Jr:=⟨j.up,j.dn,bu j.la j.ck cs,j.la,j.nw,j.sn⟩
def qP (j:Jr) (cs:List (List UInt8)):Jr:=if gM j cs=0 then jK j cs else du
def iv (j:Jr) (n:Int):Int:=if ¬ bP j then 3 else if n<0 then 4 else 0
def eH (j:Jr) (n:Int):Jr:=if n=j.nw then j else ⟨j.up,j.dn,j.ck,[],n,j.sn⟩
def ns (j:Jr) (n:Int):Jr:=if iv j n=0 then eH j n else du
theorem l6 {cs:List (List UInt8)}:eU cs=true↔∀ c∈cs,c.length=104:=by
  unfold eU;rw[Ru];exact⟨fun h c hc=>beq_iff_eq.1 (h c hc),fun h c hc=>beq_iff_eq.2 (h c hc)⟩
theorem KA (la:List UInt8) (l cs:List (List UInt8)) (c:List UInt8):bu la l (cs++[c])=dV la (bu la l cs) c:=by
  unfold bu;rw[List.foldl_append]; rfl
theorem CH {la:List UInt8} {l:List (List UInt8)}:∀ cs:List (List UInt8),l.length≤8→(bu la l cs).length≤8:=by
  intro cs
  induction cs generalizing l with
  | nil=>exact id
  | cons c cs ih =>
    intro h;refine ih (l:=dV la l c) ?_;unfold dV;split
    ·rename_i g;unfold jH at g;rw[RN,RN] at g;have:=of_decide_eq_true g.2.2;rw[Rk,Sf]; omega
    ·exact h
def kz:Fd:=⟨772,List.replicate 104 0⟩
def bQ (u c:List UInt8) (n:Nat):List Fd:=[⟨260,u⟩,⟨516,c⟩]++List.replicate n kz
def eI (j:Jr) (t:Nat) (u:List UInt8):ci:=⟨d7 t,bQ u (j.ck.getD 0 []) (8-j.ck.length),[],false⟩
def fc (j:Jr) (u n:List UInt8):Int:=if ¬ bP j∨u.length≠32∨n.length≠16 then 3 else cV j
def qQ (j:Jr) (u n:List UInt8):Jr:=if fc j u n=0 then bU j else du
def qR (j:Jr) (t:Nat) (u n:List UInt8):List UInt8:=if fc j u n=0 then fE j.up (eI j t u) n else []
def dW (j:Jr):List D:=[.sl (j.up.map bD),.sl (j.dn.map bD),.sl (j.ck.map fun l=>D.sl (l.map bD)),.sl (j.la.map bD),.int .i64 j.nw,.int .i64 j.sn]
def cW:Ob:=.box [.nil,.nil,.nil,.nil,.d (.int .i64 0),.d (.int .i64 0)]
def aU (j:Jr) (k:C):Ob:=.box [.d (.sl (j.up.map bD)),.d (.sl (j.dn.map bD)),k,.d (.sl (j.la.map bD)),.d (.int .i64 j.nw),.d (.int .i64 j.sn)]
def vY (j:Jr):List C:=[.d (.sl (j.up.map bD)),.d (.sl (j.dn.map bD)),.fr 1 (j.ck.map fun l=>D.sl (l.map bD)),.d (.sl (j.la.map bD)),.d (.int .i64 j.nw),.d (.int .i64 j.sn)]
theorem Ou {σ:St} {p:Nat×Option Kd} {j:Jr} {k:C} (h1:bJ σ p=some (.mix [.d (.sl (j.up.map bD)),.d (.sl (j.dn.map bD)),k,.d (.sl (j.la.map bD)),.d (.int .i64 j.nw),.d (.int .i64 j.sn)])) (hk:lN σ.h k (.fr 1 (j.ck.map fun l=>D.sl (l.map bD)))) (hd:k.ids.Nodup):cv σ [p] (.w (.mix (vY j))):=by
  refine⟨[.mix [.d (.sl (j.up.map bD)),.d (.sl (j.dn.map bD)),k,.d (.sl (j.la.map bD)),.d (.int .i64 j.nw),.d (.int .i64 j.sn)]],by simp[aF,h1],.inl ⟨?_,?_⟩⟩
  ·simpa [W.ids,C.ids] using hd
  ·exact .cons rfl (.cons rfl (.cons hk (.cons rfl (.cons rfl (.cons rfl .nil)))))
theorem Mu {P:Program} {G:ak} {F:FuncId} {args:List D} {cs:List C} {ds:List D} (hds:dz (cs.map C.ro)=.c (.d (.agg ds))) (h:ap P G F args (.w (.mix cs))):ap P G F args (.w (.c (.d (.agg ds)))):=by
  intro w S vs h1 h2 h3;refine (h w S vs h1 h2 h3).mono ?_;rintro e w' ⟨v,S',bl,rfl,k1,k2,k3,k4⟩;have cs0:∀ {us:List Value} {cs:List C} {bk:List Nat},eu S' w' w.heap.size us cs bk→∀ b∈bk,w.heap.size≤b∧b<w'.heap.size:=by
    intro us cs bk hc
    induction hc with
    | nil=>intro b hb; cases hb
    | cons h1 _ ih =>
      rename_i c _ _ _ _ _;intro b hb;rcases RA.1 hb with hb | hb
      ·cases c <;> simp only[dQ] at h1 <;> first | exact h1.elim | skip
       ·rw[h1.2] at hb; cases hb
       ·rcases h1 with ⟨_,_,rfl⟩ | ⟨b',cap,ty,N,rfl,_,_,_,q1,_,q2⟩
        ·cases hb
        ·simp only[Rw] at hb;subst hb;obtain⟨f1,_,cur,ty',fz,f3,_⟩:=q2;exact⟨f1,(Rs.1 f3).1⟩
      ·exact ih b hb
  have hfresh:∀ b∈bl,w.heap.size≤b∧b<w'.heap.size:=by
    obtain⟨us,_,hc⟩:=k4;exact cs0 hc
  refine⟨v,fun b i=>S' b i∨b∈bl,[],rfl,k1,fun b i hs=>?_,.nil,?_⟩
  ·rcases hs with hs | hs
   ·exact k2 b i hs
   ·exact⟨.inr (hfresh b hs).1,(hfresh b hs).2⟩
  ·have:=lr (m:=fun _=>none) (x:=.mix cs) k4 (T:=fun b i=>S' b i∨b∈bl) (fun _ _ h=>.inl h) (fun b hb _=>.inr hb);rw[show W.ro (.mix cs)=_ from hds] at this;exact⟨this.1,rfl⟩
theorem hC {j:Jr} (v:bP j):j.up.length=32∧j.dn.length=32∧j.ck.length≤8∧j.la.length≤104∧∀ c∈j.ck,c.length=104:=by
  obtain⟨⟨a,b,c,d,_⟩,h,_⟩:=gw.1 v;exact⟨a,b,c,by omega,h⟩
theorem u4 {j:Jr} {e:Int} (h:cV j=e) (he:e≠0):nl j=du∧nm j=[]:=⟨if_neg (by rw[h]; exact he),if_neg (by rw[h]; exact he)⟩
theorem FT {j:Jr} {cs:List (List UInt8)} {e:Int} (h:gM j cs=e) (he:e≠0):qP j cs=du:=if_neg (by rw[h]; exact he)
theorem Mv {cs:List (List UInt8)} {i:Nat} (h:i<cs.length) (h1:eU (cs.take i)=true) (h2:(cs.getD i []).length=104):eU (cs.take (i+1))=true:=by
  unfold eU at *
  rw[vX h,List.all_append,h1,S7,List.all_nil,beq_iff_eq.2 h2]; rfl
open IntWalk
set_option maxHeartbeats 3200000
theorem Ax {la:List UInt8} {l:List (List UInt8)} (h:8≤l.length):∀ cs,bu la l cs=l
  | []=>rfl
  | c::cs=>by
    have e:dV la l c=l:=if_neg (by
      unfold jH;rw[decide_eq_false (by omega),Bool.and_false,Bool.and_false]; decide)
    show bu la (dV la l c) cs=l
    rw[e];exact Ax h cs
theorem KB {la:List UInt8} {l cs:List (List UInt8)} {i:Nat} (h:(bu la l (cs.take i)).length=8):bu la l cs=bu la l (cs.take i):=by
  have e:bu la l cs=bu la (bu la l (cs.take i)) (cs.drop i):=by
    unfold bu;rw[← List.foldl_append,R5]
  rw[e];exact Ax (by omega) _
theorem FU {j:Jr} (v:bP j) (h:j.ck.length≠0) (hs:j.sn≠1099511627776):cV j=0∧bP (bU j):=by
  refine⟨by unfold cV; rw[if_neg (not_not_intro v),if_neg h,if_neg hs],?_⟩;obtain⟨⟨a1,a2,a3,a4,a5,a6,a7,a8⟩,b,c⟩:=gw.1 v;obtain⟨up,dn,ck,la,nw,sn⟩:=j
  match ck,h with
  | x::r,_ =>
    have c:=List.nodup_cons.1 c;refine gw.2 ⟨⟨a1,a2,?_,.inr (b x (R1 ..)),iF.2 c.1,a6,?_,?_⟩,fun y hy=>b y (RI _ hy),c.2⟩
    ·have a3:r.length+1≤8:=a3
     show r.length≤8
     omega
    ·have a7:0≤sn:=a7
     show 0≤sn+1
     omega
    ·have a8:sn≤1099511627776:=a8;have hs:sn≠1099511627776:=hs
     show sn+1≤1099511627776
     omega
def kA (up dn:List UInt8):Prop:=up.length=32∧dn.length=32
instance (up dn:List UInt8):Decidable (kA up dn):=by unfold kA; infer_instance
def pC:aG:=⟨1,13,.seq (.reg [oO 1 (.box .roBox (.t 0)),oO 2 (.mv (.k (.c (.d (.bool false)))))]) (.seq (.reg [oO 3 (.fieldAddr 0 (.t 1)),oO 4 (.load .sc (.t 3)),oO 5 (.len (.t 4)),oO 6 (.bin .eql (.t 5) (kI 32)),oM 7 6,oG 8 (.fieldAddr 1 (.t 1)) 7 true,oG 9 (.load .sc (.t 8)) 7 true,oG 10 (.len (.t 9)) 7 true,oG 11 (.bin .eql (.t 10) (kI 32)) 7 true,oO 12 (.pick (.t 7) (.t 11) (.k (.c (.d (.bool false))))),oM 2 12]) (.ret)),[(2,none)]⟩
theorem Ov:aD Try.prog { own:=[],comp:=[],frz:=[],nils:=[] } Try.f31=some pC:=by kernel_rfl
theorem PZ (G:ak) (up dn:List UInt8):ap Try.prog G 31 [.agg [.sl (up.map bD),.sl (dn.map bD)]] (.w (.c (.d (.bool (decide (kA up dn)))))):=by
  refine aI Try.func31 Ov rfl rfl ?_;by_cases h1:up.length=32
  ·have g1:((up.length:Int)=32)=True:=eq_true (by omega);by_cases h2:dn.length=32
   ·have g2:((dn.length:Int)=32)=True:=eq_true (by omega);rw[decide_eq_true (show kA up dn from ⟨h1,h2⟩)];simp only[pC,ai,ae,aa,seval,iteOmega,toNatUp,g1,g2];exact aO
   ·have g2:((dn.length:Int)=32)=False:=eq_false (by omega);rw[decide_eq_false (show ¬ kA up dn from fun h=>h2 h.2)];simp only[pC,ai,ae,aa,seval,iteOmega,toNatUp,g1,g2];exact aO
  ·have g1:((up.length:Int)=32)=False:=eq_false (by omega);rw[decide_eq_false (show ¬ kA up dn from fun h=>h1 h.1)];simp only[pC,ai,ae,aa,seval,iteOmega,toNatUp,g1];exact aO
def uA:aG:=⟨1,6,.seq (.reg [oO 2 (.mv (.k (.c (.d (.bool false)))))]) (.seq (.reg [oM 3 0,oO 4 (.len (.t 3)),oO 5 (.bin .eql (.t 4) (kI 104)),oM 2 5]) (.ret)),[(2,none)]⟩
theorem Ow:aD Try.prog { own:=[],comp:=[],frz:=[],nils:=[] } Try.f33=some uA:=by kernel_rfl
theorem FV (G:ak) (b:List UInt8):ap Try.prog G 33 [.sl (b.map bD)] (.w (.c (.d (.bool (b.length==104))))):=by
  refine aI Try.func33 Ow rfl rfl ?_;by_cases h1:b.length=104
  ·have g1:((b.length:Int)=104)=True:=eq_true (by omega);rw[beq_iff_eq.2 h1];simp only[uA,ai,ae,aa,seval,iteOmega,toNatUp,g1];exact aO
  ·have g1:((b.length:Int)=104)=False:=eq_false (by omega);rw[beq_eq_false_iff_ne.2 h1];simp only[uA,ai,ae,aa,seval,iteOmega,toNatUp,g1];exact aO
def qc (l:List (List UInt8)) (i:Nat):St:=⟨aV [(5,.w (.c (.d (.sl (l.map fun x=>D.sl (x.map bD)))))),(6,.w (.c (.d (.int .i64 (l.length:Int))))),(7,.w (.c (.d (.int .i64 (i:Int)))))],hL [],uL []⟩
def oB:aK := .seq (.reg [oO 8 (.bin .lss (.t 7) (.t 6))]) (.seq (.cond (.t 8) (.skip) (.exit 0)) (.seq (.block 1 (.seq (.reg [oO 9 (.idxSl 1 (.t 5) (.t 7)),oO 10 (.load .sc (.t 9)),oM 4 10]) (.seq (.reg [oM 11 4,oO 12 (.call 33 [(.t 11)] none),oO 13 (.un .not (.t 12))]) (.cond (.t 13) (.seq (.reg [oO 2 (.mv (.k (.c (.d (.bool false)))))]) (.ret)) (.skip))))) (.reg [oO 14 (.bin .add (.t 7) (kI 1)),oM 7 14])))
def ER:aG:=⟨1,15,.seq (.reg [oO 2 (.mv (.k (.c (.d (.bool false)))))]) (.seq (.seq (.reg [oM 5 0,oO 6 (.len (.t 5)),oO 7 (.mv (kI 0))]) (.block 0 (.loop oB))) (.seq (.reg [oO 2 (.mv (.k (.c (.d (.bool true)))))]) (.ret))),[(2,none)]⟩
theorem Ox:aD Try.prog { own:=[],comp:=[],frz:=[],nils:=[] } Try.f27=some ER:=by kernel_rfl
theorem FW (G:ak) (l:List (List UInt8)) (hl:l.length≤9000000000000000000):ap Try.prog G 27 [.sl (l.map fun x=>D.sl (x.map bD))] (.w (.c (.d (.bool (eU l))))):=by
  refine aI Try.func27 Ox rfl rfl ?_;simp only[ER,ai,ae,aa,seval,iteOmega,toNatUp];refine bg (qc l) (fun i=>l.length-i) (fun i=>i≤l.length∧eU (l.take i)=true) 0 ⟨Rx _,rfl⟩ ?_ ?_
  ·refine aA (fun _=>0) ?_ ?_ rfl rfl <;> simp only[wx,au,aH,aa,seval,iteOmega,toNatUp] <;> first | rfl | exact⟨rfl,rfl⟩ | skip
  ·rintro i ⟨hi,hp⟩;by_cases hlt:i<l.length
   ·have g:=kx hlt;have hs:=Mv hlt hp;have hm:=ir hlt;have no:eU l=true→(l.getD i []).length=104:=fun h=>l6.1 h _ hm
    clear hm;generalize l.getD i []=x at *
    have c1:=FV G x;by_cases hx:x.length=104
    ·rw[beq_iff_eq.2 hx] at c1;have hs:=hs hx;simp only[oB,qc,ae,aa,seval,iteOmega,toNatUp,aR,g];refine sD (c1) ?_;refine aX (i+1) (by omega) ⟨by omega,hs⟩ (aA (fun i=>i) ?_ ?_ rfl rfl) <;> simp only[wx,au,aH,aa,seval,iteOmega,toNatUp] <;> first | rfl | exact⟨rfl,rfl⟩ | skip
    ·rw[beq_eq_false_iff_ne.2 hx] at c1;have e:eU l=false:=by
       cases h:eU l
       ·rfl
       ·exact absurd (no h) hx
     rw[e];simp only[oB,qc,ae,aa,seval,iteOmega,toNatUp,aR,g];refine sD (c1) ?_;exact aO
   ·obtain rfl:i=l.length:=by omega
    rw[SA] at hp;rw[hp];simp only[oB,qc,ae,aa,seval,iteOmega,toNatUp];exact aO
def ES:aG:=⟨2,7,.seq (.reg [oO 3 (.mv (.k (.c (.d (.bool false)))))]) (.seq (.reg [oM 4 0,oO 5 (.load .sc (.t 1)),oO 6 (.call 46 [(.t 4),(.t 5)] none),oM 3 6]) (.ret)),[(3,none)]⟩
theorem Oy:aD Try.prog { own:=[],comp:=[],frz:=[],nils:=[] } Try.f48=some ES:=by kernel_rfl
theorem P0 (G:ak) (c x:List UInt8):lF Try.prog G 48 [.ref [.sl (c.map bD)]] [.sl (x.map bD)] (.w (.c (.d (.bool (x==c))))):=by
  refine⟨enters_of Try.func48 (by kernel_rfl) rfl,?_⟩;refine IP Try.func48 Oy rfl rfl ?_;have c1:=Ex G x c;simp only[ES,Rn,Rq,Rl,RP,D.up,ig,ae,aa,seval,iteOmega,toNatUp];refine sD (c1) ?_;exact aO
def ET:aG:=⟨2,8,.seq (.reg [oO 3 (.box .roBox (.t 1)),oO 4 (.mv (.k (.c (.d (.bool false)))))]) (.seq (.reg [oM 5 0,oO 6 (.clos 48 [(.t 3)]),oO 7 (.call 47 [(.t 5),(.t 6)] none),oM 4 7]) (.ret)),[(4,none)]⟩
theorem Oz:aD Try.prog { own:=[],comp:=[],frz:=[],nils:=[] } Try.f32=some ET:=by kernel_rfl
theorem u5 (G:ak) (l:List (List UInt8)) (c:List UInt8) (hl:l.length≤9000000000000000000):ap Try.prog G 32 [.sl (l.map fun x=>D.sl (x.map bD)),.sl (c.map bD)] (.w (.c (.d (.bool (fF l c))))):=by
  refine aI Try.func32 Oz rfl rfl ?_;have c1:=Ei G l 48 [.ref [.sl (c.map bD)]] (fun x=>x==c) (by omega) (fun x _=>P0 G c x);rw[show l.any (fun x=>x==c)=fF l c from rfl] at c1;simp only[ET,ai,ae,aa,seval,iteOmega,toNatUp];refine sD (c1) ?_;exact aO
def m5 (j:Jr) (n i:Nat):List (Nat×V):=[(1,.w (.c (.ptr 1 1 0 0))),(2,.w (.c (.ptr 3 1 0 0))),(3,.w (.c (.own 2 1 0 n))),(25,.w (.c (.d (.sl (j.ck.map fun l=>D.sl (l.map bD)))))),(26,.w (.c (.d (.int .i64 (j.ck.length:Int))))),(27,.w (.c (.d (.int .i64 (i:Int)))))]
def qd (j:Jr) (i:Nat):St:=⟨aV (m5 j (j.ck.take i).length i),hL [(1,aU j (.d (.sl (j.ck.map fun l=>D.sl (l.map bD))))),(2,.row 1 ((j.ck.take i).map fun l=>D.sl (l.map bD))),(3,cW)],uL [1,2,3]⟩
def sX:aK := .seq (.reg [oO 28 (.bin .lss (.t 27) (.t 26))]) (.seq (.cond (.t 28) (.skip) (.exit 0)) (.seq (.block 1 (.seq (.reg [oO 29 (.idxSl 1 (.t 25) (.t 27)),oO 30 (.load .sc (.t 29)),oM 5 30]) (.reg [oM 31 3,oM 32 5,oO 33 (.bldSl false 1 1 (.sl []) [(0,(.t 32))]),oO 34 (.call 30 [(.t 33)] none),oO 35 (.bldSl false 1 1 (.sl []) [(0,(.t 34))]),oO 36 (.app false 1 24 (.t 31) (.t 35)),oM 3 36]))) (.reg [oO 37 (.bin .add (.t 27) (kI 1)),oM 27 37])))
def EU:aG:=⟨1,41,.seq (.reg [oO 1 (.box .ownBox (.t 0)),oO 2 (.alloc [.nil,.nil,.nil,.nil,(.d (.int .i64 0)),(.d (.int .i64 0))])]) (.seq (.reg [oO 6 (.fieldAddr 0 (.t 1)),oO 7 (.fieldAddr 0 (.t 6)),oO 8 (.load .sc (.t 7)),oO 9 (.bldSl false 1 1 (.sl []) [(0,(.t 8))]),oO 10 (.call 30 [(.t 9)] none),oO 11 (.fieldAddr 0 (.t 1)),oO 12 (.fieldAddr 1 (.t 11)),oO 13 (.load .sc (.t 12)),oO 14 (.bldSl false 1 1 (.sl []) [(0,(.t 13))]),oO 15 (.call 30 [(.t 14)] none),oO 16 (.build [.nil,.nil] [(0,1,(.t 10)),(1,1,(.t 15))]),oO 17 (.fieldAddr 0 (.t 1)),oN (.store (.ag 2) (.t 17) (.t 16))]) (.seq (.reg [oO 18 (.fieldAddr 3 (.t 1)),oO 19 (.load .sc (.t 18)),oO 20 (.bldSl false 1 1 (.sl []) [(0,(.t 19))]),oO 21 (.call 30 [(.t 20)] none),oO 22 (.fieldAddr 3 (.t 1)),oN (.store .sc (.t 22) (.t 21))]) (.seq (.reg [oO 23 (.make true 1 24 (.sl []) (kI 0) (kI 8)),
 oM 3 23]) (.seq (.seq (.reg [oO 24 (.fieldAddr 2 (.t 1)),oO 25 (.load .sc (.t 24)),oO 26 (.len (.t 25)),oO 27 (.mv (kI 0))]) (.block 0 (.loop sX))) (.seq (.reg [oM 38 3,oO 39 (.fieldAddr 2 (.t 1)),oN (.store .sc (.t 39) (.t 38))]) (.seq (.reg [oO 40 (.load (.ag 6) (.t 1)),oN (.store (.ag 6) (.t 2) (.t 40))]) (.ret))))))),[(2,(some (.ag 6)))]⟩
theorem OA:aD Try.prog { own:=[1],comp:=[],frz:=[],nils:=[] } Try.f29=some EU:=by kernel_rfl
theorem FX (G:ak) (j:Jr) (h1:j.up.length≤140737488355328) (h2:j.dn.length≤140737488355328) (h3:j.la.length≤140737488355328) (h4:∀ c∈j.ck,c.length≤140737488355328) (h5:j.ck.length≤1000000):ap Try.prog G 29 [bf j] (.w (.mix (vY j))):=by
  refine aI Try.func29 OA rfl rfl ?_;have c1:=dw G [j.up] (by simp) (by simp; omega);have c2:=dw G [j.dn] (by simp) (by simp; omega);have c3:=dw G [j.la] (by simp) (by simp; omega);simp only[Rl,RP,Sv,Sr,RG] at c1 c2 c3;unfold bf;simp only[EU,ai,ae,aa,seval,iteOmega,toNatUp];refine sD (c1) ?_;refine sD (c2) ?_;refine sD (c3) ?_;refine bg (qd j) (fun i=>j.ck.length-i) (fun i=>i≤j.ck.length) 0 (Rx _) ?_ ?_
  ·refine aA (fun i=>if i=1 then 8 else if i=2 then 184 else 16) ?_ ?_ rfl rfl <;> simp only[m5,dW,aU,cW,wx,au,aH,aa,seval,iteOmega,toNatUp] <;> first | rfl | exact⟨rfl,rfl⟩ | skip
  ·intro i hi;clear c1 c2 c3;by_cases hlt:i<j.ck.length
   ·have g:=kx hlt;have hs:=vX hlt;have hm:=h4 _ (ir hlt);have tl:(j.ck.take i).length=i:=by rw[Rp]; omega
    have az:=eJ (j.ck.take i);generalize j.ck.getD i []=x at *
    have c4:=dw G [x] (by simp) (by simp; omega);simp only[Rl,RP,Sv,Sr,RG] at c4;simp only[sX,qd,m5,dW,aU,cW,ae,aa,seval,iteOmega,toNatUp,aR,g,tl];refine sC (c4) ?_;simp only[bW,tl,ae,aa,seval,iteOmega,toNatUp];refine aX (i+1) (by omega) (by omega) (aA (fun i=>if i=1 then 1 else if i=2 then 288 else 3) ?_ ?_ rfl rfl) <;> simp only[qd,m5,dW,aU,cW,hs,Rk,Sf,RU,tl,wx,au,aH,aa,seval,iteOmega,toNatUp] <;> first | rfl | exact⟨rfl,rfl⟩ | skip
   ·obtain rfl:i=j.ck.length:=by omega
    have hk:j.ck.take j.ck.length=j.ck:=SA;have az:=eJ j.ck;simp only[sX,qd,m5,dW,aU,cW,hk,ae,aa,seval,iteOmega,toNatUp];exact Ou (k:=.own 2 1 0 j.ck.length) (by simp only[ae,aa,seval,iteOmega,toNatUp] <;> rfl) ⟨rfl,rfl,by simp only[ae,aa,seval,iteOmega,toNatUp,hk]⟩ (by simp[C.ids])
theorem FY (G:ak) (j:Jr) (h1:j.up.length≤140737488355328) (h2:j.dn.length≤140737488355328) (h3:j.la.length≤140737488355328) (h4:∀ c∈j.ck,c.length≤140737488355328) (h5:j.ck.length≤1000000):ap Try.prog G 29 [bf j] (.w (.c (.d (bf j)))):=Mu rfl (FX G j h1 h2 h3 h4 h5)
set_option maxHeartbeats 6400000
def kg (j:Jr) (i:Nat):St:=⟨aV [(1,.w (.c (.rp (dW j)))),(35,.w (.c (.d (.sl (j.ck.map fun l=>D.sl (l.map bD)))))),(36,.w (.c (.d (.int .i64 (j.ck.length:Int))))),(37,.w (.c (.d (.int .i64 (i:Int)))))],hL [],uL []⟩
def jV:aK := .seq (.reg [oO 38 (.bin .lss (.t 37) (.t 36))]) (.seq (.cond (.t 38) (.skip) (.exit 0)) (.seq (.block 1 (.seq (.reg [oM 39 37,oO 40 (.idxSl 1 (.t 35) (.t 37)),oO 41 (.load .sc (.t 40)),oM 3 39,oM 4 41]) (.seq (.reg [oO 42 (.fieldAddr 2 (.t 1)),oO 43 (.load .sc (.t 42)),oM 44 3,oO 45 (.slice 1 (.t 43) none (some (.t 44)) none),oM 46 4,oO 47 (.call 32 [(.t 45),(.t 46)] none)]) (.cond (.t 47) (.seq (.reg [oO 2 (.mv (.k (.c (.d (.bool false)))))]) (.ret)) (.skip))))) (.reg [oO 48 (.bin .add (.t 37) (kI 1)),oM 37 48])))
def jp:aG:=⟨1,66,.seq (.reg [oO 1 (.box .roBox (.t 0)),oO 2 (.mv (.k (.c (.d (.bool false)))))]) (.seq (.seq (.reg [oO 5 (.fieldAddr 0 (.t 1)),oO 6 (.load (.ag 2) (.t 5)),oO 7 (.call 31 [(.t 6)] none),oO 8 (.un .not (.t 7)),oM 9 8,oG 10 (.fieldAddr 4 (.t 1)) 9 false,oG 11 (.load .sc (.t 10)) 9 false,oG 12 (.bin .lss (.t 11) (kI 0)) 9 false,oO 13 (.pick (.t 9) (.k (.c (.d (.bool true)))) (.t 12)),oM 14 13,oG 15 (.fieldAddr 5 (.t 1)) 14 false,oG 16 (.load .sc (.t 15)) 14 false,oG 17 (.bin .lss (.t 16) (kI 0)) 14 false,oO 18 (.pick (.t 14) (.k (.c (.d (.bool true)))) (.t 17)),oM 19 18,oG 20 (.fieldAddr 5 (.t 1)) 19 false,oG 21 (.load .sc (.t 20)) 19 false,oG 22 (.bin .gtr (.t 21) (kI 1099511627776)) 19 false,oO 23 (.pick (.t 19) (.k (.c (.d (.bool true)))) (.t 22))]) (.cond (.t 23) (.seq (.reg [oO 2 (.mv (.k (.c (.d (.bool false)))))])
 (.ret)) (.skip))) (.seq (.seq (.reg [oO 24 (.fieldAddr 2 (.t 1)),oO 25 (.load .sc (.t 24)),oO 26 (.len (.t 25)),oO 27 (.bin .gtr (.t 26) (kI 8)),oM 28 27,oG 29 (.fieldAddr 2 (.t 1)) 28 false,oG 30 (.load .sc (.t 29)) 28 false,oG 31 (.call 27 [(.t 30)] none) 28 false,oG 32 (.un .not (.t 31)) 28 false,oO 33 (.pick (.t 28) (.k (.c (.d (.bool true)))) (.t 32))]) (.cond (.t 33) (.seq (.reg [oO 2 (.mv (.k (.c (.d (.bool false)))))]) (.ret)) (.skip))) (.seq (.seq (.reg [oO 34 (.fieldAddr 2 (.t 1)),oO 35 (.load .sc (.t 34)),oO 36 (.len (.t 35)),oO 37 (.mv (kI 0))]) (.block 0 (.loop jV))) (.seq (.reg [oO 49 (.fieldAddr 3 (.t 1)),oO 50 (.load .sc (.t 49)),oO 51 (.len (.t 50)),oO 52 (.bin .eql (.t 51) (kI 0)),oM 53 52,oG 54 (.fieldAddr 3 (.t 1)) 53 false,oG 55 (.load .sc (.t 54)) 53 false,oG 56 (.call 33 [(.t 55)] none) 53 false,
 oG 57 (.mv (.t 56)) 53 false,oG 58 (.fieldAddr 2 (.t 1)) 57 true,oG 59 (.load .sc (.t 58)) 57 true,oG 60 (.fieldAddr 3 (.t 1)) 57 true,oG 61 (.load .sc (.t 60)) 57 true,oG 62 (.call 32 [(.t 59),(.t 61)] none) 57 true,oG 63 (.un .not (.t 62)) 57 true,oG 64 (.pick (.t 57) (.t 63) (.k (.c (.d (.bool false))))) 53 false,oO 65 (.pick (.t 53) (.k (.c (.d (.bool true)))) (.t 64)),oM 2 65]) (.ret))))),[(2,none)]⟩
theorem OB:aD Try.prog { own:=[],comp:=[],frz:=[],nils:=[] } Try.f16=some jp:=by kernel_rfl
theorem iQ (G:ak) (j:Jr):ap Try.prog G 16 [bf j] (.w (.c (.d (.bool (decide (bP j)))))):=by
  refine aI Try.func16 OB rfl rfl ?_;have no:¬ bP j→decide (bP j)=false:=fun h=>decide_eq_false h
  have c1:=PZ G j.up j.dn;unfold bf;by_cases h1:kA j.up j.dn
  ·rw[decide_eq_true h1] at c1;by_cases h2:j.nw<0
   ·have g2:(j.nw<0)=True:=eq_true h2;rw[no (fun h=>by have:=h.1.2.2.2.2.2.1; omega)];simp only[jp,ai,ae,aa,seval,iteOmega,toNatUp];refine sC (c1) ?_;simp only[g2,ae,aa,seval,iteOmega,toNatUp];exact aO
   ·have g2:(j.nw<0)=False:=eq_false h2;by_cases h3:j.sn<0
    ·have g3:(j.sn<0)=True:=eq_true h3;rw[no (fun h=>by have:=h.1.2.2.2.2.2.2.1; omega)];simp only[jp,ai,ae,aa,seval,iteOmega,toNatUp];refine sC (c1) ?_;simp only[g2,g3,ae,aa,seval,iteOmega,toNatUp];exact aO
    ·have g3:(j.sn<0)=False:=eq_false h3;by_cases h4:1099511627776<j.sn
     ·have g4:(j.sn>1099511627776)=True:=eq_true h4;rw[no (fun h=>by have:=h.1.2.2.2.2.2.2.2; omega)];simp only[jp,ai,ae,aa,seval,iteOmega,toNatUp];refine sC (c1) ?_;simp only[g2,g3,g4,ae,aa,seval,iteOmega,toNatUp];exact aO
     ·have g4:(j.sn>1099511627776)=False:=eq_false h4;by_cases h5:8<j.ck.length
      ·have g5:((j.ck.length:Int)>8)=True:=eq_true (by omega);rw[no (fun h=>by have:=h.1.2.2.1; omega)];simp only[jp,ai,ae,aa,seval,iteOmega,toNatUp];refine sC (c1) ?_;simp only[g2,g3,g4,g5,ae,aa,seval,iteOmega,toNatUp];exact aO
      ·have g5:((j.ck.length:Int)>8)=False:=eq_false (by omega);have c2:=FW G j.ck (by omega);by_cases h6:eU j.ck=true
       ·rw[h6] at c2;have a4:=l6.1 h6;simp only[jp,ai,ae,aa,seval,iteOmega,toNatUp];refine sC (c1) ?_;simp only[g2,g3,g4,g5,ae,aa,seval,iteOmega,toNatUp];refine sD (c2) ?_;refine bg (kg j) (fun i=>j.ck.length-i) (fun i=>i≤j.ck.length∧∀ k,k<i→jJ j.ck k) 0 ⟨Rx _,fun k hk=>by omega⟩ ?_ ?_
        ·refine aA (fun _=>0) ?_ ?_ rfl rfl <;> simp only[dW,wx,au,aH,aa,seval,iteOmega,toNatUp] <;> first | rfl | exact⟨rfl,rfl⟩ | skip
        ·clear c1 c2 g2 g3 g4 g5 h6;rintro i ⟨hi,hp⟩;by_cases hlt:i<j.ck.length
         ·have g:=kx hlt;have m4:=a4 _ (ir hlt);have hno:¬ jJ j.ck i→decide (bP j)=false:=fun h=>decide_eq_false fun v=>h (v.2 i hlt)
          have hgo:jJ j.ck i→∀ k,k<i+1→jJ j.ck k:=fun a k hk=>by
            rcases R7 k i with h | h
            ·exact hp k h
            ·obtain rfl:k=i:=by omega
             exact a
          have az:=eJ j.ck;have c3:=u5 G (j.ck.take i) (j.ck.getD i []) (by rw[Rp]; omega);cases hq:fF (j.ck.take i) (j.ck.getD i [])
          ·have hgo:=hgo ⟨m4,hq⟩;rw[hq] at c3;clear hno hp hq m4 no a4;generalize j.ck.getD i []=x at *
           simp only[jV,kg,dW,ae,aa,seval,iteOmega,toNatUp,aR,g,az];refine sD (c3) ?_;refine aX (i+1) (by omega) ⟨by omega,hgo⟩ (aA (fun i=>i) ?_ ?_ rfl rfl) <;> simp only[dW,wx,au,aH,aa,seval,iteOmega,toNatUp] <;> first | rfl | exact⟨rfl,rfl⟩ | skip
          ·rw[hno (fun h=>by rw[h.2] at hq; cases hq)];rw[hq] at c3;clear hno hp hgo hq m4 no a4;generalize j.ck.getD i []=x at *
           simp only[jV,kg,dW,ae,aa,seval,iteOmega,toNatUp,aR,g,az];refine sD (c3) ?_;exact aO
         ·have hv:(j.la.length=0∨j.la.length=104)→fF j.ck j.la=false→bP j:=fun a b=>⟨⟨h1.1,h1.2,by omega,a,b,by omega,by omega,by omega⟩,fun k hk=>hp k (by omega)⟩
          clear hp;by_cases h7:j.la.length=0
          ·have g7:((j.la.length:Int)=0)=True:=eq_true (by omega);rw[decide_eq_true (hv (.inl h7) (iF.2 fun h=>by have:=a4 _ h; omega))];clear hv no a4;simp only[jV,kg,dW,ae,aa,seval,iteOmega,toNatUp,g7];exact aO
          ·have g7:((j.la.length:Int)=0)=False:=eq_false (by omega);have c4:=FV G j.la;by_cases h8:j.la.length=104
           ·rw[beq_iff_eq.2 h8] at c4;have c5:=u5 G j.ck j.la (by omega);cases hq:fF j.ck j.la
            ·rw[hq] at c5;rw[decide_eq_true (hv (.inr h8) hq)];clear hv no a4 hq;simp only[jV,kg,dW,ae,aa,seval,iteOmega,toNatUp,g7];refine sD (c4) ?_;refine sD (c5) ?_;exact aO
            ·rw[hq] at c5;rw[no (fun h=>by have:=h.1.2.2.2.2.1; rw[hq] at this; cases this)];clear hv no a4 hq;simp only[jV,kg,dW,ae,aa,seval,iteOmega,toNatUp,g7];refine sD (c4) ?_;refine sD (c5) ?_;exact aO
           ·rw[beq_eq_false_iff_ne.2 h8] at c4;rw[no (fun h=>by have:=h.1.2.2.2.1; omega)];clear hv no a4;simp only[jV,kg,dW,ae,aa,seval,iteOmega,toNatUp,g7];refine sD (c4) ?_;exact aO
       ·rw[Bool.not_eq_true] at h6;rw[h6] at c2;rw[no (fun h=>by rw[l6.2 ((gw.1 h).2.1)] at h6; cases h6)];simp only[jp,ai,ae,aa,seval,iteOmega,toNatUp];refine sC (c1) ?_;simp only[g2,g3,g4,g5,ae,aa,seval,iteOmega,toNatUp];refine sD (c2) ?_;exact aO
  ·rw[decide_eq_false h1] at c1;rw[no (fun h=>h1 ⟨h.1.1,h.1.2.1⟩)];simp only[jp,ai,ae,aa,seval,iteOmega,toNatUp];refine sD (c1) ?_;exact aO
def gO (j:Jr) (id n:Nat):List C:=[.d (.sl (j.up.map bD)),.d (.sl (j.dn.map bD)),.own id 1 0 n,.d (.sl (j.la.map bD)),.d (.int .i64 j.nw),.d (.int .i64 j.sn)]
theorem FZ (g:Nat→Nat) (cs:List C):W.ren g (.mix cs)=.mix (cs.map (C.ren g)):=rfl
def jL (l:List (List UInt8)):List D:=l.map fun x=>D.sl (x.map bD)
def u6 (j:Jr) (cs:List (List UInt8)) (i:Nat):St:=⟨aV [(2,.w (.c (.ptr 1 1 0 0))),(4,.w (.c (.ptr 3 1 0 0))),(7,.w (.c (.d (.sl (cs.map fun l=>D.sl (l.map bD)))))),(8,.w (.c (.d (.int .i64 (cs.length:Int))))),(9,.w (.c (.d (.int .i64 (i:Int)))))],hL [(1,aU j (.own 2 1 0 (bu j.la j.ck (cs.take i)).length)),(2,.row 1 ((bu j.la j.ck (cs.take i)).map fun l=>D.sl (l.map bD))),(3,cW)],uL [1,2,3]⟩
def kR:aK := .seq (.reg [oO 10 (.bin .lss (.t 9) (.t 8))]) (.seq (.cond (.t 10) (.skip) (.exit 0)) (.seq (.block 1 (.seq (.reg [oO 11 (.idxSl 1 (.t 7) (.t 9)),oO 12 (.load .sc (.t 11)),oM 6 12]) (.seq (.seq (.reg [oO 13 (.fieldAddr 2 (.t 2)),oO 14 (.load .sc (.t 13)),oO 15 (.len (.t 14)),oO 16 (.bin .eql (.t 15) (kI 8))]) (.cond (.t 16) (.exit 0) (.skip))) (.seq (.reg [oO 17 (.fieldAddr 2 (.t 2)),oO 18 (.load .sc (.t 17)),oM 19 6,oO 20 (.call 32 [(.t 18),(.t 19)] none),oO 21 (.un .not (.t 20)),oM 22 21,oG 23 (.fieldAddr 3 (.t 2)) 22 true,oG 24 (.load .sc (.t 23)) 22 true,oG 25 (.mv (.t 6)) 22 true,oG 26 (.call 46 [(.t 24),(.t 25)] none) 22 true,oG 27 (.un .not (.t 26)) 22 true,oO 28 (.pick (.t 22) (.t 27) (.k (.c (.d (.bool false)))))]) (.cond (.t 28) (.reg [oO 29 (.fieldAddr 2 (.t 2)),
 oO 30 (.load .sc (.t 29)),oM 31 6,oO 32 (.bldSl false 1 1 (.sl []) [(0,(.t 31))]),oO 33 (.call 30 [(.t 32)] none),oO 34 (.bldSl false 1 1 (.sl []) [(0,(.t 33))]),oO 35 (.app false 1 24 (.t 30) (.t 34)),oO 36 (.fieldAddr 2 (.t 2)),oN (.store .sc (.t 36) (.t 35))]) (.skip)))))) (.reg [oO 37 (.bin .add (.t 9) (kI 1)),oM 9 37])))
def EV:aG:=⟨2,39,.seq (.reg [oO 2 (.box .ownBox (.t 0)),oO 4 (.alloc [.nil,.nil,.nil,.nil,(.d (.int .i64 0)),(.d (.int .i64 0))])]) (.seq (.seq (.reg [oM 7 1,oO 8 (.len (.t 7)),oO 9 (.mv (kI 0))]) (.block 0 (.loop kR))) (.seq (.reg [oO 38 (.load (.ag 6) (.t 2)),oN (.store (.ag 6) (.t 4) (.t 38))]) (.ret))),[(4,(some (.ag 6)))]⟩
theorem OC:aD Try.prog { own:=[2],comp:=[],frz:=[],nils:=[] } Try.f28=some EV:=by kernel_rfl
theorem P1 (G:ak) (j:Jr) (cs:List (List UInt8)) (v3:j.ck.length≤8) (m4:∀ c∈cs,c.length≤140737488355328) (hcs:cs.length≤9000000000000000000) :
    qD Try.prog G 28 [.mix (gO j 1 j.ck.length),.c (.d (.sl (jL cs)))] [(1,.row 1 (jL j.ck))] (.w (.mix (gO j 3 (bu j.la j.ck cs).length))) [(3,.row 1 (jL (bu j.la j.ck cs)))]:=by
  refine IQ Try.func28 OC [] rfl rfl rfl rfl rfl rfl rfl ?_;unfold gO jL;simp only[EV,ig,kQ,kP,ae,aa,seval,iteOmega,toNatUp];refine bg (u6 j cs) (fun i=>cs.length-i) (fun i=>i≤cs.length) 0 (Rx _) ?_ ?_
  ·refine aA (fun i=>if i=1 then 16 else if i=2 then 1 else 32) ?_ ?_ rfl rfl <;> simp only[List.take_zero,bu,List.foldl_nil,aU,cW,wx,au,aH,aa,seval,iteOmega,toNatUp] <;> first | rfl | exact⟨rfl,rfl⟩ | skip
  ·intro i hi;have L8:=CH (la:=j.la) (l:=j.ck) (cs.take i) v3;have stop:=fun h=>KB (la:=j.la) (l:=j.ck) (cs:=cs) (i:=i) h
   by_cases hlt:i<cs.length
   ·have g:=kx hlt;have hn:bu j.la j.ck (cs.take (i+1))=dV j.la (bu j.la j.ck (cs.take i)) (cs.getD i []):=by rw[vX hlt,KA]
    have m4:=m4 _ (ir hlt);have az:=eJ (bu j.la j.ck (cs.take i));unfold dV jH at hn;have e2:u6 j cs i=⟨aV [(2,.w (.c (.ptr 1 1 0 0))),(4,.w (.c (.ptr 3 1 0 0))),(7,.w (.c (.d (.sl (cs.map fun l=>D.sl (l.map bD)))))),(8,.w (.c (.d (.int .i64 (cs.length:Int))))),(9,.w (.c (.d (.int .i64 (i:Int)))))],hL [(1,aU j (.own 2 1 0 (bu j.la j.ck (cs.take i)).length)),(2,.row 1 ((bu j.la j.ck (cs.take i)).map fun l=>D.sl (l.map bD))),(3,cW)],uL [1,2,3]⟩:=rfl;rw[e2];clear e2;generalize bu j.la j.ck (cs.take i)=L at *
    generalize cs.getD i []=x at *
    by_cases h8:L.length=8
    ·have g8:((L.length:Int)=8)=True:=eq_true (by omega);rw[stop h8];simp only[kR,aU,cW,kQ,kP,ae,aa,seval,iteOmega,toNatUp,aR,g,g8];refine FR [(3,2)] [] (ws:=[.mix (gO j 2 L.length)]) ?_ rfl ?_ rfl trivial ⟨by simp,fun id h h1=>by simp at h h1; omega⟩
     ·simp only[aF,gO,ae,aa,seval,iteOmega,toNatUp] <;> rfl
     ·simp only[ga,wx,au,aH,aa,seval,iteOmega,toNatUp,nj]
    ·have g8:((L.length:Int)=8)=False:=eq_false (by omega);have h8':L.length<8:=by omega
     have c3:=u5 G L x (by omega);have c4:=Ex G j.la x;have c5:=dw G [x] (by simp) (by simp; omega);simp only[Rl,RP,Sv,Sr,RG] at c5;clear stop;cases q1:fF L x
     ·rw[q1] at c3;cases q2:j.la==x
      ·rw[q2] at c4;rw[if_pos (by rw[q1,q2,decide_eq_true h8']; rfl)] at hn;simp only[kR,aU,cW,kQ,kP,ae,aa,seval,iteOmega,toNatUp,aR,g,g8];refine bL c3 (by simp only[ae,aa,seval,iteOmega,toNatUp,SA]) (.inr rfl) ?_;simp only[ae,aa,seval,iteOmega,toNatUp,aR,g];refine sC (c4) ?_;simp only[aR,g,ae,aa,seval,iteOmega,toNatUp];refine sC (c5) ?_;simp only[bW,ae,aa,seval,iteOmega,toNatUp];refine aX (i+1) (by omega) (by omega) (aA (fun i=>if i=1 then 1 else if i=2 then 280 else 3) ?_ ?_ rfl rfl) <;> simp only[hn,RU,aU,cW,wx,au,aH,aa,seval,iteOmega,toNatUp] <;> first | rfl | exact⟨rfl,rfl⟩ | skip
      ·rw[q2] at c4;rw[if_neg (by rw[q1,q2]; simp)] at hn;simp only[kR,aU,cW,kQ,kP,ae,aa,seval,iteOmega,toNatUp,aR,g,g8];refine bL c3 (by simp only[ae,aa,seval,iteOmega,toNatUp,SA]) (.inr rfl) ?_;simp only[ae,aa,seval,iteOmega,toNatUp,aR,g];refine sD (c4) ?_;refine aX (i+1) (by omega) (by omega) (aA (fun i=>i) ?_ ?_ rfl rfl) <;> simp only[hn,aU,cW,wx,au,aH,aa,seval,iteOmega,toNatUp] <;> first | rfl | exact⟨rfl,rfl⟩ | skip
     ·rw[q1] at c3;rw[if_neg (by rw[q1]; simp)] at hn;simp only[kR,aU,cW,kQ,kP,ae,aa,seval,iteOmega,toNatUp,aR,g,g8];refine bL c3 (by simp only[ae,aa,seval,iteOmega,toNatUp,SA]) (.inr rfl) ?_;simp only[ae,aa,seval,iteOmega,toNatUp];refine aX (i+1) (by omega) (by omega) (aA (fun i=>i) ?_ ?_ rfl rfl) <;> simp only[hn,aU,cW,wx,au,aH,aa,seval,iteOmega,toNatUp] <;> first | rfl | exact⟨rfl,rfl⟩ | skip
   ·obtain rfl:i=cs.length:=by omega
    have hk:cs.take cs.length=cs:=SA;have az:=eJ (bu j.la j.ck cs);simp only[kR,u6,aU,cW,kQ,kP,hk,ae,aa,seval,iteOmega,toNatUp];refine FR [(3,2)] [] (ws:=[.mix (gO j 2 (bu j.la j.ck cs).length)]) ?_ rfl ?_ rfl trivial ⟨by simp,fun id h h1=>by simp at h h1; omega⟩
    ·simp only[aF,gO,hk,ae,aa,seval,iteOmega,toNatUp] <;> rfl
    ·simp only[ga,hk,wx,au,aH,aa,seval,iteOmega,toNatUp,nj]
def mB:aG:=⟨1,39,.seq (.reg [oO 1 (.box .roBox (.t 0)),oO 2 (.alloc [.nil,.nil,.nil,.nil,(.d (.int .i64 0)),(.d (.int .i64 0))]),oO 3 (.mv (.k (.c .nil))),oO 4 (.mv (kI 0))]) (.seq (.seq (.reg [oO 6 (.load (.ag 6) (.t 1)),oO 7 (.call 16 [(.t 6)] none),oO 8 (.un .not (.t 7))]) (.cond (.t 8) (.seq (.reg [oO 9 (.build [.nil,.nil,.nil,.nil,(.d (.int .i64 0)),(.d (.int .i64 0))] []),oN (.store (.ag 6) (.t 2) (.t 9)),oO 3 (.mv (.k (.c .nil))),oO 4 (.mv (kI 3))]) (.ret)) (.skip))) (.seq (.seq (.reg [oO 10 (.fieldAddr 2 (.t 1)),oO 11 (.load .sc (.t 10)),oO 12 (.len (.t 11)),oO 13 (.bin .eql (.t 12) (kI 0))]) (.cond (.t 13) (.seq (.reg [oO 14 (.build [.nil,.nil,.nil,.nil,(.d (.int .i64 0)),(.d (.int .i64 0))] []),oN (.store (.ag 6) (.t 2) (.t 14)),oO 3 (.mv (.k (.c .nil))),oO 4 (.mv (kI 10))])
 (.ret)) (.skip))) (.seq (.seq (.reg [oO 15 (.fieldAddr 5 (.t 1)),oO 16 (.load .sc (.t 15)),oO 17 (.bin .eql (.t 16) (kI 1099511627776))]) (.cond (.t 17) (.seq (.reg [oO 18 (.build [.nil,.nil,.nil,.nil,(.d (.int .i64 0)),(.d (.int .i64 0))] []),oN (.store (.ag 6) (.t 2) (.t 18)),oO 3 (.mv (.k (.c .nil))),oO 4 (.mv (kI 7))]) (.ret)) (.skip))) (.seq (.reg [oO 19 (.load (.ag 6) (.t 1)),oO 20 (.call 29 [(.t 19)] none),oO 5 (.alloc [.nil,.nil,.nil,.nil,(.d (.int .i64 0)),(.d (.int .i64 0))]),oN (.store (.ag 6) (.t 5) (.t 20))]) (.seq (.reg [oO 21 (.fieldAddr 2 (.t 5)),oO 22 (.load .sc (.t 21)),oO 23 (.idxSl 1 (.t 22) (kI 0)),oO 24 (.load .sc (.t 23)),oO 25 (.fieldAddr 2 (.t 5)),oO 26 (.load .sc (.t 25)),oO 27 (.slice 1 (.t 26) (some (kI 1)) none none),oO 28 (.fieldAddr 3 (.t 5)),oN (.store .sc (.t 28) (.t 24)),
 oO 29 (.fieldAddr 2 (.t 5)),oN (.store .sc (.t 29) (.t 27))]) (.seq (.reg [oO 30 (.fieldAddr 5 (.t 5)),oO 31 (.load .sc (.t 30)),oO 32 (.bin .add (.t 31) (kI 1)),oO 33 (.fieldAddr 5 (.t 5)),oN (.store .sc (.t 33) (.t 32))]) (.seq (.reg [oO 34 (.load (.ag 6) (.t 5)),oO 35 (.fieldAddr 3 (.t 5)),oO 36 (.load .sc (.t 35)),oO 37 (.bldSl false 1 1 (.sl []) [(0,(.t 36))]),oO 38 (.call 30 [(.t 37)] (some (0,1))),oN (.store (.ag 6) (.t 2) (.t 34)),oM 3 38,oO 4 (.mv (kI 0))]) (.ret)))))))),[(2,(some (.ag 6))),(3,none),(4,none)]⟩
theorem OD:aD Try.prog { own:=[38],comp:=[],frz:=[],nils:=[] } Try.f13=some mB:=by kernel_rfl
theorem F0 (G:ak) (j:Jr):ap Try.prog G 13 [bf j] (.tup [.c (.d (bf (nl j))),.c (.d (.sl ((nm j).map bD))),.c (.d (.int .i64 (cV j)))]):=by
  refine aI Try.func13 OD rfl rfl ?_;have c1:=iQ G j;by_cases v:bP j
  ·rw[decide_eq_true v] at c1;obtain⟨v1,v2,v3,v4,v5⟩:=hC v;by_cases h1:j.ck.length=0
   ·have e:cV j=10:=by unfold cV; rw[if_neg (not_not_intro v),if_pos h1]
    obtain⟨q1,q2⟩:=u4 e (by decide);have g1:((j.ck.length:Int)=0)=True:=eq_true (by omega);rw[q1,q2,e];unfold bf du at *
    simp only[mB,ai,ae,aa,seval,iteOmega,toNatUp];refine sC (c1) ?_;simp only[g1,ae,aa,seval,iteOmega,toNatUp];exact jg
   ·have g1:((j.ck.length:Int)=0)=False:=eq_false (by omega);by_cases h2:j.sn=1099511627776
    ·have e:cV j=7:=by unfold cV; rw[if_neg (not_not_intro v),if_neg h1,if_pos h2]
     obtain⟨q1,q2⟩:=u4 e (by decide);have g2:(j.sn=1099511627776)=True:=eq_true h2;rw[q1,q2,e];unfold bf du at *
     simp only[mB,ai,ae,aa,seval,iteOmega,toNatUp];refine sC (c1) ?_;simp only[g1,g2,ae,aa,seval,iteOmega,toNatUp];exact jg
    ·have e:cV j=0:=by unfold cV; rw[if_neg (not_not_intro v),if_neg h1,if_neg h2]
     have g2:(j.sn=1099511627776)=False:=eq_false h2;rw[show nl j=bU j from if_pos e,show nm j=j.ck.getD 0 [] from if_pos e,e];have c2:=FY G j (by omega) (by omega) (by omega) (fun c hc=>by have:=v5 c hc; omega) (by omega);have f0:=kx (l:=j.ck) (i:=0) (by omega);have m0:=v5 _ (ir (l:=j.ck) (i:=0) (by omega));have s8:0≤j.sn∧j.sn≤1099511627776:=v.1.2.2.2.2.2.2;have az:=eJ j.ck;have d1:(j.ck.drop 1).take (j.ck.length-1)=j.ck.drop 1:=Ro (by rw[Rv]; omega);unfold bU bf at *
     dsimp only at *
     generalize j.ck.getD 0 []=x at *
     have c3:=dw G [x] (by simp) (by simp; omega);simp only[Rl,RP,Sv,Sr,RG] at c3;simp only[mB,ai,ae,aa,seval,iteOmega,toNatUp];refine sC (c1) ?_;simp only[g1,g2,ae,aa,seval,iteOmega,toNatUp];refine sC (c2) ?_;simp only[aR,f0,az,ae,aa,seval,iteOmega,toNatUp];refine sC (c3) ?_;simp only[d1,ae,aa,seval,iteOmega,toNatUp];exact jg
  ·rw[decide_eq_false v] at c1;have e:cV j=3:=if_pos v;obtain⟨q1,q2⟩:=u4 e (by decide);rw[q1,q2,e];unfold bf du at *
   simp only[mB,ai,ae,aa,seval,iteOmega,toNatUp];refine sD (c1) ?_;exact jg
def pD:aG:=⟨1,15,.seq (.reg [oO 1 (.box .roBox (.t 0)),oO 2 (.mv (.k (.c .nil))),oO 3 (.mv (kI 0))]) (.seq (.seq (.reg [oO 4 (.load (.ag 6) (.t 1)),oO 5 (.call 16 [(.t 4)] none),oO 6 (.un .not (.t 5))]) (.cond (.t 6) (.seq (.reg [oO 2 (.mv (.k (.c .nil))),oO 3 (.mv (kI 3))]) (.ret)) (.skip))) (.seq (.seq (.reg [oO 7 (.fieldAddr 3 (.t 1)),oO 8 (.load .sc (.t 7)),oO 9 (.len (.t 8)),oO 10 (.bin .eql (.t 9) (kI 0))]) (.cond (.t 10) (.seq (.reg [oO 2 (.mv (.k (.c .nil))),oO 3 (.mv (kI 10))]) (.ret)) (.skip))) (.seq (.reg [oO 11 (.fieldAddr 3 (.t 1)),oO 12 (.load .sc (.t 11)),oO 13 (.bldSl false 1 1 (.sl []) [(0,(.t 12))]),oO 14 (.call 30 [(.t 13)] (some (0,1))),oM 2 14,oO 3 (.mv (kI 0))]) (.ret)))),[(2,none),(3,none)]⟩
theorem OE:aD Try.prog { own:=[14],comp:=[],frz:=[],nils:=[] } Try.f15=some pD:=by kernel_rfl
theorem P2 (G:ak) (j:Jr):ap Try.prog G 15 [bf j] (.tup [.c (.d (.sl ((nn j).map bD))),.c (.d (.int .i64 (iu j)))]):=by
  refine aI Try.func15 OE rfl rfl ?_;have c1:=iQ G j;by_cases v:bP j
  ·rw[decide_eq_true v] at c1;obtain⟨v1,v2,v3,v4,v5⟩:=hC v;by_cases h1:j.la.length=0
   ·have e:iu j=10:=by unfold iu; rw[if_neg (not_not_intro v),if_pos h1]
    have g1:((j.la.length:Int)=0)=True:=eq_true (by omega);rw[show nn j=[] from if_neg (by rw[e]; decide),e];unfold bf at *
    simp only[pD,ai,ae,aa,seval,iteOmega,toNatUp];refine sC (c1) ?_;simp only[g1,ae,aa,seval,iteOmega,toNatUp];exact dc
   ·have e:iu j=0:=by unfold iu; rw[if_neg (not_not_intro v),if_neg h1]
    have g1:((j.la.length:Int)=0)=False:=eq_false (by omega);rw[show nn j=j.la from if_pos e,e];have c3:=dw G [j.la] (by simp) (by simp; omega);simp only[Rl,RP,Sv,Sr,RG] at c3;unfold bf at *
    simp only[pD,ai,ae,aa,seval,iteOmega,toNatUp];refine sC (c1) ?_;simp only[g1,ae,aa,seval,iteOmega,toNatUp];refine sD (c3) ?_;exact dc
  ·rw[decide_eq_false v] at c1;have e:iu j=3:=if_pos v;rw[show nn j=[] from if_neg (by rw[e]; decide),e];unfold bf at *
   simp only[pD,ai,ae,aa,seval,iteOmega,toNatUp];refine sD (c1) ?_;exact dc
def uB:aG:=⟨1,11,.seq (.reg [oO 1 (.box .roBox (.t 0)),oO 2 (.mv (kI 0)),oO 3 (.mv (kI 0))]) (.seq (.seq (.reg [oO 4 (.load (.ag 6) (.t 1)),oO 5 (.call 16 [(.t 4)] none),oO 6 (.un .not (.t 5))]) (.cond (.t 6) (.seq (.reg [oO 2 (.mv (kI 0)),oO 3 (.mv (kI 3))]) (.ret)) (.skip))) (.seq (.reg [oO 7 (.fieldAddr 2 (.t 1)),oO 8 (.load .sc (.t 7)),oO 9 (.len (.t 8)),oO 10 (.bin .sub (kI 8) (.t 9)),oM 2 10,oO 3 (.mv (kI 0))]) (.ret))),[(2,none),(3,none)]⟩
theorem OG:aD Try.prog { own:=[],comp:=[],frz:=[],nils:=[] } Try.f21=some uB:=by kernel_rfl
theorem F1 (G:ak) (j:Jr):ap Try.prog G 21 [bf j] (.tup [.c (.d (.int .i64 (nr j))),.c (.d (.int .i64 (nq j)))]):=by
  refine aI Try.func21 OG rfl rfl ?_;have c1:=iQ G j;by_cases v:bP j
  ·rw[decide_eq_true v] at c1;obtain⟨v1,v2,v3,v4,v5⟩:=hC v;rw[show nr j=8-(j.ck.length:Int) from if_pos v,show nq j=0 from if_pos v];unfold bf at *
   simp only[uB,ai,ae,aa,seval,iteOmega,toNatUp];refine sD (c1) ?_;exact dc
  ·rw[decide_eq_false v] at c1;rw[show nr j=0 from if_neg v,show nq j=3 from if_neg v];unfold bf at *
   simp only[uB,ai,ae,aa,seval,iteOmega,toNatUp];refine sD (c1) ?_;exact dc
def pF:aG:=⟨2,19,.seq (.reg [oO 2 (.box .roBox (.t 0)),oO 4 (.alloc [.nil,.nil,.nil,.nil,(.d (.int .i64 0)),(.d (.int .i64 0))]),oO 5 (.mv (kI 0))]) (.seq (.seq (.reg [oO 6 (.load (.ag 6) (.t 2)),oO 7 (.call 16 [(.t 6)] none),oO 8 (.un .not (.t 7)),oM 9 8,oG 10 (.mv (.t 1)) 9 false,oG 11 (.call 27 [(.t 10)] none) 9 false,oG 12 (.un .not (.t 11)) 9 false,oO 13 (.pick (.t 9) (.k (.c (.d (.bool true)))) (.t 12))]) (.cond (.t 13) (.seq (.reg [oO 14 (.build [.nil,.nil,.nil,.nil,(.d (.int .i64 0)),(.d (.int .i64 0))] []),oN (.store (.ag 6) (.t 4) (.t 14)),oO 5 (.mv (kI 3))]) (.ret)) (.skip))) (.seq (.reg [oO 15 (.load (.ag 6) (.t 2)),oO 16 (.call 29 [(.t 15)] (some (2,1))),oM 17 1,oO 18 (.callM 28 [(.t 16),(.t 17)]),oN (.store (.ag 6) (.t 4) (.t 18)),oO 5 (.mv (kI 0))]) (.ret))),[(4,(some (.ag 6))),(5,none)]⟩
theorem OH:aD Try.prog { own:=[],comp:=[(16,1002)],frz:=[],nils:=[],mt:=[18] } Try.f11=some pF:=by kernel_rfl
theorem P3 (G:ak) (j:Jr) (cs:List (List UInt8)) (hcs:cs.length≤9000000000000000000):ap Try.prog G 11 [bf j,.sl (cs.map fun l=>D.sl (l.map bD))] (.tup [.c (.d (bf (qP j cs))),.c (.d (.int .i64 (gM j cs)))]):=by
  refine aI Try.func11 OH rfl rfl ?_;have c1:=iQ G j;by_cases v:bP j
  ·rw[decide_eq_true v] at c1;obtain⟨v1,v2,v3,v4,v5⟩:=hC v;have eE:gM j cs=if eU cs=true then 0 else 3:=by unfold gM; rw[if_neg (not_not_intro v)]
   have c2:=FW G cs hcs;cases hA:eU cs
   ·rw[hA] at c2;have e:gM j cs=3:=by rw[eE,hA]; rfl
    rw[FT e (by decide),e];unfold bf du at *
    simp only[pF,ai,ae,aa,seval,iteOmega,toNatUp];refine sD (c1) ?_;refine sD (c2) ?_;exact dc
   ·rw[hA] at c2;have e:gM j cs=0:=by rw[eE,hA]; rfl
    rw[show qP j cs=jK j cs from if_pos e,e];have hX:jK j cs=⟨j.up,j.dn,bu j.la j.ck cs,j.la,j.nw,j.sn⟩:=rfl;rw[hX];clear hX;have a4:=l6.1 hA;have c3:=FX G j (by omega) (by omega) (by omega) (fun c hc=>by have:=v5 c hc; omega) (by omega);have c4:=P1 G j cs v3 (fun c hc=>by have:=a4 c hc; omega) hcs;have az:=eJ (bu j.la j.ck cs);unfold vY at c3;unfold bf at *
    simp only[pF,ai,ae,aa,seval,iteOmega,toNatUp];refine sD (c1) ?_;refine sD (c2) ?_;refine sD (c3) ?_;refine PS [.mix (gO j 128 j.ck.length),.c (.d (.sl (jL cs)))] [(1,128),(3,1000)] c4 ?_ ?_ ?_ rfl rfl ?_
    ·simp only[gO,jL,ae,aa,seval,iteOmega,toNatUp] <;> rfl
    ·simp only[gO,ae,aa,seval,iteOmega,toNatUp,nj,FZ,Rl,RP]
    ·simp only[ga,jL,wx,au,aH,aa,seval,iteOmega,toNatUp,nj]
    ·simp only[gO,jL,ae,aa,seval,iteOmega,toNatUp,nj,FZ,Rl,RP];exact dc
  ·rw[decide_eq_false v] at c1;have e:gM j cs=3:=if_pos v;rw[FT e (by decide),e];unfold bf du at *
   simp only[pF,ai,ae,aa,seval,iteOmega,toNatUp];refine sD (c1) ?_;exact dc
def mC:aG:=⟨2,24,.seq (.reg [oO 2 (.box .roBox (.t 0)),oO 4 (.alloc [.nil,.nil,.nil,.nil,(.d (.int .i64 0)),(.d (.int .i64 0))]),oO 5 (.mv (kI 0))]) (.seq (.seq (.reg [oO 7 (.load (.ag 6) (.t 2)),oO 8 (.call 16 [(.t 7)] none),oO 9 (.un .not (.t 8))]) (.cond (.t 9) (.seq (.reg [oO 10 (.build [.nil,.nil,.nil,.nil,(.d (.int .i64 0)),(.d (.int .i64 0))] []),oN (.store (.ag 6) (.t 4) (.t 10)),oO 5 (.mv (kI 3))]) (.ret)) (.skip))) (.seq (.seq (.reg [oM 11 1,oO 12 (.bin .lss (.t 11) (kI 0))]) (.cond (.t 12) (.seq (.reg [oO 13 (.build [.nil,.nil,.nil,.nil,(.d (.int .i64 0)),(.d (.int .i64 0))] []),oN (.store (.ag 6) (.t 4) (.t 13)),oO 5 (.mv (kI 4))]) (.ret)) (.skip))) (.seq (.reg [oO 14 (.load (.ag 6) (.t 2)),oO 15 (.call 29 [(.t 14)] none),oO 6 (.alloc [.nil,.nil,.nil,.nil,(.d (.int .i64 0)),(.d (.int .i64 0))]),
 oN (.store (.ag 6) (.t 6) (.t 15))]) (.seq (.seq (.reg [oM 16 1,oO 17 (.fieldAddr 4 (.t 2)),oO 18 (.load .sc (.t 17)),oO 19 (.bin .neq (.t 16) (.t 18))]) (.cond (.t 19) (.reg [oM 20 1,oO 21 (.fieldAddr 3 (.t 6)),oN (.store .sc (.t 21) (.k (.c .nil))),oO 22 (.fieldAddr 4 (.t 6)),oN (.store .sc (.t 22) (.t 20))]) (.skip))) (.seq (.reg [oO 23 (.load (.ag 6) (.t 6)),oN (.store (.ag 6) (.t 4) (.t 23)),oO 5 (.mv (kI 0))]) (.ret)))))),[(4,(some (.ag 6))),(5,none)]⟩
theorem OI:aD Try.prog { own:=[],comp:=[],frz:=[],nils:=[] } Try.f12=some mC:=by kernel_rfl
theorem P4 (G:ak) (j:Jr) (n:Int):ap Try.prog G 12 [bf j,.int .i64 n] (.tup [.c (.d (bf (ns j n))),.c (.d (.int .i64 (iv j n)))]):=by
  refine aI Try.func12 OI rfl rfl ?_;have c1:=iQ G j;by_cases v:bP j
  ·rw[decide_eq_true v] at c1;obtain⟨v1,v2,v3,v4,v5⟩:=hC v;by_cases h1:n<0
   ·have e:iv j n=4:=by unfold iv; rw[if_neg (not_not_intro v),if_pos h1]
    have g1:(n<0)=True:=eq_true h1;rw[show ns j n=du from if_neg (by rw[e]; decide),e];unfold bf du at *
    simp only[mC,ai,ae,aa,seval,iteOmega,toNatUp];refine sC (c1) ?_;simp only[g1,ae,aa,seval,iteOmega,toNatUp];exact dc
   ·have e:iv j n=0:=by unfold iv; rw[if_neg (not_not_intro v),if_neg h1]
    have g1:(n<0)=False:=eq_false h1;rw[show ns j n=eH j n from if_pos e,e];have c2:=FY G j (by omega) (by omega) (by omega) (fun c hc=>by have:=v5 c hc; omega) (by omega);have az:=eJ j.ck;unfold eH;by_cases h2:n=j.nw
    ·have g2:(n=j.nw)=True:=eq_true h2;rw[if_pos h2];unfold bf at *
     simp only[mC,ai,ae,aa,seval,iteOmega,toNatUp];refine sC (c1) ?_;simp only[g1,ae,aa,seval,iteOmega,toNatUp];refine sC (c2) ?_;simp only[g2,ae,aa,seval,iteOmega,toNatUp];exact dc
    ·have g2:(n=j.nw)=False:=eq_false h2;rw[if_neg h2];unfold bf at *
     simp only[mC,ai,ae,aa,seval,iteOmega,toNatUp];refine sC (c1) ?_;simp only[g1,ae,aa,seval,iteOmega,toNatUp];refine sC (c2) ?_;simp only[g2,ae,aa,seval,iteOmega,toNatUp];exact dc
  ·rw[decide_eq_false v] at c1;have e:iv j n=3:=if_pos v;rw[show ns j n=du from if_neg (by rw[e]; decide),e];unfold bf du at *
   simp only[mC,ai,ae,aa,seval,iteOmega,toNatUp];refine sD (c1) ?_;exact dc
def pb:aG:=⟨1,9,.seq (.reg [oO 2 (.mv (.k (.c (.d (.bool false)))))]) (.seq (.reg [oM 3 0,oO 4 (.bin .leq (kI 16) (.t 3)),oM 5 4,oG 6 (.mv (.t 0)) 5 true,oG 7 (.bin .leq (.t 6) (kI 32)) 5 true,oO 8 (.pick (.t 5) (.t 7) (.k (.c (.d (.bool false))))),oM 2 8]) (.ret)),[(2,none)]⟩
theorem Mw:aD Try.prog { own:=[],comp:=[],frz:=[],nils:=[] } Try.f49=some pb:=by kernel_rfl
theorem OJ (G:ak) (n:Int):ap Try.prog G 49 [.int .i64 n] (.w (.c (.d (.bool (decide (16≤n∧n≤32)))))):=by
  refine aI Try.func49 Mw rfl rfl ?_;by_cases h1:16≤n
  ·by_cases h2:n≤32
   ·rw[decide_eq_true ⟨h1,h2⟩];simp only[pb,ai,ae,aa,seval,iteOmega,toNatUp];exact aO
   ·rw[decide_eq_false (fun h=>h2 h.2)];simp only[pb,ai,ae,aa,seval,iteOmega,toNatUp];exact aO
  ·rw[decide_eq_false (fun h=>h1 h.1)];simp only[pb,ai,ae,aa,seval,iteOmega,toNatUp];exact aO
theorem Mx (n s:List UInt8):([aw n.length 2,aw s.length 2,eA n 4,eA s 4]:List (List UInt8)).flatten=fD n s:=by
  unfold fD;simp only[Sv,Sr,RG]
def EW:aG:=⟨2,20,.seq (.reg [oO 4 (.alloc [(.d (.int .i64 0)),.nil])]) (.seq (.reg [oM 5 0,oO 6 (.len (.t 5)),oO 7 (.conv .u64 (.t 6)),oO 8 (.call 71 [(.t 7),(kI 2)] none),oM 9 1,oO 10 (.len (.t 9)),oO 11 (.conv .u64 (.t 10)),oO 12 (.call 71 [(.t 11),(kI 2)] none),oM 13 0,oO 14 (.call 57 [(.t 13),(kI 4)] none),oM 15 1,oO 16 (.call 57 [(.t 15),(kI 4)] none),oO 17 (.bldSl false 4 1 (.sl []) [(0,(.t 8)),(1,(.t 12)),(2,(.t 14)),(3,(.t 16))]),oO 18 (.call 30 [(.t 17)] none),oO 19 (.build [(.d (.int .i64 0)),.nil] [(0,1,(kI 1028)),(1,1,(.t 18))]),oN (.store (.ag 2) (.t 4) (.t 19))]) (.ret)),[(4,(some (.ag 2)))]⟩
theorem OK:aD Try.prog { own:=[],comp:=[],frz:=[],nils:=[] } Try.f53=some EW:=by kernel_rfl
set_option maxHeartbeats 1600000 in
theorem P5 (G:ak) (n s:List UInt8) (hn:n.length≤1000000) (hs:s.length≤1000000):ap Try.prog G 53 [.sl (n.map bD),.sl (s.map bD)] (.w (.c (.d (bN (kw n s))))):=by
  refine aI Try.func53 OK rfl rfl ?_;have c1:=fR G n.length 2 (by decide);have c2:=fR G s.length 2 (by decide);rw[show (2:Int).toNat=2 from rfl] at c1 c2;have c3:=uU G n 4 (by omega);have c4:=uU G s 4 (by omega);have cj:=dw G [aw n.length 2,aw s.length 2,eA n 4,eA s 4] (by simp) (by simp[cX,yu]; omega);rw[Mx] at cj;unfold kw bN;generalize fD n s=B at *
  generalize aw n.length 2=B1 at *
  generalize aw s.length 2=B2 at *
  generalize eA n 4=B3 at *
  generalize eA s 4=B4 at *
  simp only[Rl,RP] at cj;simp only[EW,ai,ae,aa,seval,iteOmega,toNatUp];refine sD (c1) ?_;refine sD (c2) ?_;refine sD (c3) ?_;refine sD (c4) ?_;refine sD (cj) ?_;exact aO
theorem F2 {p:ci} (h:cc p=0):qN p=ce p:=if_pos h
theorem EX {p:ci} (h:cc p≠0):qN p=[]:=if_neg h
theorem My {h:Hd} (e:ee h=0):qC h=fC h:=if_pos (u1.1 e)
theorem EY {p:ci} (h:ee p.hd≠0):cc p=ee p.hd:=if_neg h
theorem uC {p:ci} (h:ee p.hd=0):cc p=bq p.pl:=if_pos h
theorem EZ {p:ci} (h:cc p=0):(ce p).length≤1280:=by
  have:=(qb (PY h).2.2).2.2.1;rw[o0]; omega
def pc:aG:=⟨1,29,.seq (.reg [oO 1 (.box .roBox (.t 0)),oO 2 (.mv (.k (.c .nil))),oO 3 (.mv (kI 0))]) (.seq (.reg [oO 8 (.fieldAddr 0 (.t 1)),oO 9 (.load (.ag 13) (.t 8)),oO 10 (.call 67 [(.t 9)] none),oM 7 10,oO 11 (.extract (.t 7) 0),oO 12 (.extract (.t 7) 1),oM 4 11,oM 5 12]) (.seq (.seq (.reg [oM 13 5,oO 14 (.bin .neq (.t 13) (kI 0))]) (.cond (.t 14) (.seq (.reg [oM 15 5,oO 2 (.mv (.k (.c .nil))),oM 3 15]) (.ret)) (.skip))) (.seq (.reg [oO 17 (.fieldAddr 13 (.t 1)),oO 18 (.load .sc (.t 17)),oO 19 (.call 51 [(.t 18)] none),oM 16 19,oO 20 (.extract (.t 16) 0),oO 21 (.extract (.t 16) 1),oM 6 20,oM 5 21]) (.seq (.seq (.reg [oM 22 5,oO 23 (.bin .neq (.t 22) (kI 0))]) (.cond (.t 23) (.seq (.reg [oM 24 5,oO 2 (.mv (.k (.c .nil))),oM 3 24]) (.ret)) (.skip))) (.seq (.reg [oM 25 4,oM 26 6,oO 27 (.bldSl false 2 1 (.sl []) [(0,(.t 25)),(1,(.t 26))]),
 oO 28 (.call 30 [(.t 27)] none),oM 2 28,oO 3 (.mv (kI 0))]) (.ret)))))),[(2,none),(3,none)]⟩
theorem Mz:aD Try.prog { own:=[],comp:=[],frz:=[],nils:=[] } Try.f50=some pc:=by kernel_rfl
theorem OL (G:ak) (p:ci) (hf:qJ p.hd) (hl:p.pl.length≤1000000) (hd:∀ f∈p.pl,f.da.length≤8000000000000000000):ap Try.prog G 50 [eG p] (.tup [.c (.d (.sl ((qN p).map bD))),.c (.d (.int .i64 (cc p)))]):=by
  refine aI Try.func50 Mz rfl rfl ?_;have c1:=Oi G p.hd hf;have c2:=uz G p.pl hl hd;by_cases h1:ee p.hd=0
  ·rw[My h1,h1] at c1;by_cases h2:bq p.pl=0
   ·have h0:cc p=0:=by rw[uC h1,h2]
    have hle:=EZ h0;have cj:=dw G [fC p.hd,bo p.pl] (by simp) (by
      have:[fC p.hd,bo p.pl].flatten=ce p:=by simp[ce]
      rw[this]; omega)
    have hX:[fC p.hd,bo p.pl].flatten=ce p:=by simp[ce]
    rw[hX] at cj;simp only[Rl,RP] at cj;rw[(qb h2).2.2.2,h2] at c2;rw[h0,F2 h0];clear hX hle h0 h1 h2;generalize ce p=X at *
    generalize fC p.hd=B1 at *
    generalize bo p.pl=B2 at *
    unfold eG;unfold gI at c1;simp only[pc,ai,ae,aa,seval,iteOmega,toNatUp];refine sD (c1) ?_;refine sD (c2) ?_;refine sD (cj) ?_;exact dc
   ·have h0:cc p≠0:=by rw[uC h1]; exact h2
    have g:(cc p=0)=False:=eq_false h0;rw[EX h0];rw[show bq p.pl=cc p from (uC h1).symm] at c2;clear h0 h1 h2;generalize cc p=e at *
    generalize fC p.hd=B1 at *
    generalize eF p.pl=B2 at *
    unfold eG;unfold gI at c1;simp only[pc,ai,ae,aa,seval,iteOmega,toNatUp];refine sD (c1) ?_;refine sC (c2) ?_;simp only[g,ae,aa,seval,iteOmega,toNatUp];exact dc
  ·have h0:cc p≠0:=by rw[EY h1]; exact h1
   have g:(cc p=0)=False:=eq_false h0;rw[EX h0];rw[show ee p.hd=cc p from (EY h1).symm] at c1;clear h0 h1 c2;generalize cc p=e at *
   generalize qC p.hd=B1 at *
   unfold eG;unfold gI at c1;simp only[pc,ai,ae,aa,seval,iteOmega,toNatUp];refine sC (c1) ?_;simp only[g,ae,aa,seval,iteOmega,toNatUp];exact dc
theorem jq {key:List UInt8} {p:ci} {n:List UInt8} {e:Int} (h:cU key p n=e) (he:e≠0):fE key p n=[]:=if_neg (by rw[h]; exact he)
theorem P6 {key:List UInt8} {p:ci} {n:List UInt8} (h:key.length≠32):cU key p n=5:=if_pos h
theorem P7 {key:List UInt8} {p:ci} {n:List UInt8} (h1:key.length=32) (h:n.length<16∨32<n.length):cU key p n=4:=by
  unfold cU; rw[if_neg (by omega),if_pos h]
theorem P8 {key:List UInt8} {p:ci} {n:List UInt8} (h1:key.length=32) (h2:16≤n.length∧n.length≤32) (h:cc p≠0):cU key p n=cc p:=by
  unfold cU; rw[if_neg (by omega),if_neg (by omega),if_pos h]
theorem P9 {key:List UInt8} {p:ci} {n:List UInt8} (h1:key.length=32) (h2:16≤n.length∧n.length≤32) (h3:cc p=0) (h:bq p.se≠0):cU key p n=bq p.se:=by
  unfold cU; rw[if_neg (by omega),if_neg (by omega),if_neg (by simp[h3]),if_pos h]
theorem Qa {key:List UInt8} {p:ci} {n:List UInt8} (h1:key.length=32) (h2:16≤n.length∧n.length≤32) (h3:cc p=0) (h4:bq p.se=0) (h:(ei p.pl 1028).length≠0):cU key p n=3:=by
  unfold cU; rw[if_neg (by omega),if_neg (by omega),if_neg (by simp[h3]),if_neg (by simp[h4]),if_pos h]
theorem Qb {key:List UInt8} {p:ci} {n:List UInt8} (h1:key.length=32) (h2:16≤n.length∧n.length≤32) (h3:cc p=0) (h4:bq p.se=0) (h5:(ei p.pl 1028).length=0) (h:p.pl.length=24):cU key p n=8:=by
  unfold cU; rw[if_neg (by omega),if_neg (by omega),if_neg (by simp[h3]),if_neg (by simp[h4]),if_neg (by simp[h5]),if_pos h]
theorem Qc {key:List UInt8} {p:ci} {n:List UInt8} (h1:key.length=32) (h2:16≤n.length∧n.length≤32) (h3:cc p=0) (h4:bq p.se=0) (h5:(ei p.pl 1028).length=0) (h6:p.pl.length≠24):cU key p n=if bq [bY key p n]≠0∨1280<(ce p).length+bz [bY key p n] then 2 else 0:=by
  unfold cU; rw[if_neg (by omega),if_neg (by omega),if_neg (by simp[h3]),if_neg (by simp[h4]),if_neg (by simp[h5]),if_neg h6]
def gU:aG:=⟨3,78,.seq (.reg [oO 4 (.box .roBox (.t 1)),oO 6 (.mv (.k (.c .nil))),oO 7 (.mv (kI 0))]) (.seq (.seq (.reg [oM 14 0,oO 15 (.len (.t 14)),oO 16 (.bin .neq (.t 15) (kI 32))]) (.cond (.t 16) (.seq (.reg [oO 6 (.mv (.k (.c .nil))),oO 7 (.mv (kI 5))]) (.ret)) (.skip))) (.seq (.seq (.reg [oM 17 2,oO 18 (.len (.t 17)),oO 19 (.call 49 [(.t 18)] none),oO 20 (.un .not (.t 19))]) (.cond (.t 20) (.seq (.reg [oO 6 (.mv (.k (.c .nil))),oO 7 (.mv (kI 4))]) (.ret)) (.skip))) (.seq (.reg [oO 22 (.load (.ag 16) (.t 4)),oO 23 (.call 50 [(.t 22)] none),oM 21 23,oO 24 (.extract (.t 21) 0),oO 25 (.extract (.t 21) 1),oM 8 24,oM 9 25]) (.seq (.seq (.reg [oM 26 9,oO 27 (.bin .neq (.t 26) (kI 0))]) (.cond (.t 27) (.seq (.reg [oM 28 9,oO 6 (.mv (.k (.c .nil))),oM 7 28]) (.ret)) (.skip))) (.seq (.reg [oO 30 (.fieldAddr 14 (.t 4)),
 oO 31 (.load .sc (.t 30)),oO 32 (.call 51 [(.t 31)] none),oM 29 32,oO 33 (.extract (.t 29) 0),oO 34 (.extract (.t 29) 1),oM 10 33,oM 9 34]) (.seq (.seq (.reg [oM 35 9,oO 36 (.bin .neq (.t 35) (kI 0))]) (.cond (.t 36) (.seq (.reg [oM 37 9,oO 6 (.mv (.k (.c .nil))),oM 7 37]) (.ret)) (.skip))) (.seq (.seq (.reg [oO 38 (.fieldAddr 13 (.t 4)),oO 39 (.load .sc (.t 38)),oO 40 (.call 37 [(.t 39),(kI 1028)] none),oO 41 (.len (.t 40)),oO 42 (.bin .gtr (.t 41) (kI 0))]) (.cond (.t 42) (.seq (.reg [oO 6 (.mv (.k (.c .nil))),oO 7 (.mv (kI 3))]) (.ret)) (.skip))) (.seq (.seq (.reg [oO 43 (.fieldAddr 13 (.t 4)),oO 44 (.load .sc (.t 43)),oO 45 (.len (.t 44)),oO 46 (.bin .eql (.t 45) (kI 24))]) (.cond (.t 46) (.seq (.reg [oO 6 (.mv (.k (.c .nil))),oO 7 (.mv (kI 8))]) (.ret)) (.skip))) (.seq (.reg [oM 48 0,
 oM 49 8,oM 50 2,oO 51 (.bldSl false 2 1 (.sl []) [(0,(.t 49)),(1,(.t 50))]),oM 52 10,oO 53 (.call 52 [(.t 48),(.t 51),(.t 52)] none),oM 47 53,oO 54 (.extract (.t 47) 0),oO 55 (.extract (.t 47) 1),oM 11 54,oM 12 55]) (.seq (.reg [oM 57 2,oM 58 11,oO 59 (.call 53 [(.t 57),(.t 58)] none),oO 60 (.bldSl false 1 2 (.agg [(.int .i64 0),(.sl [])]) [(0,(.t 59))]),oO 61 (.call 51 [(.t 60)] none),oM 56 61,oO 62 (.extract (.t 56) 0),oO 63 (.extract (.t 56) 1),oM 13 62,oM 9 63]) (.seq (.seq (.reg [oM 64 9,oO 65 (.bin .neq (.t 64) (kI 0)),oM 66 65,oG 67 (.mv (.t 8)) 66 false,oG 68 (.len (.t 67)) 66 false,oG 69 (.mv (.t 13)) 66 false,oG 70 (.len (.t 69)) 66 false,oG 71 (.bin .add (.t 68) (.t 70)) 66 false,oG 72 (.bin .gtr (.t 71) (kI 1280)) 66 false,oO 73 (.pick (.t 66) (.k (.c (.d (.bool true)))) (.t 72))])
 (.cond (.t 73) (.seq (.reg [oO 6 (.mv (.k (.c .nil))),oO 7 (.mv (kI 2))]) (.ret)) (.skip))) (.seq (.reg [oM 74 8,oM 75 13,oO 76 (.bldSl false 2 1 (.sl []) [(0,(.t 74)),(1,(.t 75))]),oO 77 (.call 30 [(.t 76)] (some (0,1))),oM 6 77,oO 7 (.mv (kI 0))]) (.ret))))))))))))),[(6,none),(7,none)]⟩
theorem MA:aD Try.prog { own:=[77],comp:=[],frz:=[],nils:=[] } Try.f34=some gU:=by kernel_rfl
theorem OM (G:ak) (key:List UInt8) (p:ci) (n:List UInt8) (hk:key.length≤9223372036854775807) (hf:qJ p.hd) (hl:p.pl.length≤1000000) (hd:∀ f∈p.pl,f.da.length≤8000000000000000000) (hl2:p.se.length≤1000000) (hd2:∀ f∈p.se,f.da.length≤8000000000000000000) (hn:n.length≤9223372036854775807):ap Try.prog G 34 [.sl (key.map bD),eG p,.sl (n.map bD)] (.tup [.c (.fr 1 ((fE key p n).map bD)),.c (.d (.int .i64 (cU key p n)))]):=by
  refine aI Try.func34 MA rfl rfl ?_;have cf:=OJ G (n.length:Int);have c1:=OL G p hf hl hd;have c2:=uz G p.se hl2 hd2;have c3:=Or G p.pl 1028 hl;by_cases h1:key.length=32
  ·by_cases h2:16≤n.length∧n.length≤32
   ·rw[decide_eq_true (by omega)] at cf;by_cases h3:cc p=0
    ·have hXl:=EZ h3;rw[F2 h3,h3] at c1;by_cases h4:bq p.se=0
     ·obtain⟨_,_,s3,s4⟩:=qb h4;rw[h4,s4] at c2;by_cases h5:(ei p.pl 1028).length=0
      ·by_cases h6:p.pl.length=24
       ·have e:=Qb (key:=key) (n:=n) h1 h2 h3 h4 h5 h6;rw[jq e (by decide),e];clear e h3 h4;generalize ce p=X at *
        generalize bo p.se=Y at *
        generalize ei p.pl 1028=Z at *
        unfold eG at *
        simp only[gU,ai,ae,aa,seval,iteOmega,toNatUp,h1];refine sD (cf) ?_;refine sD (c1) ?_;refine sD (c2) ?_;refine sC (c3) ?_;simp only[h5,h6,ae,aa,seval,iteOmega,toNatUp];exact cE
       ·have e7:=Qc (key:=key) (n:=n) h1 h2 h3 h4 h5 h6;have hae:cO key [ce p,n] ((bo p.se).length:Int)=0:=EP h1 (by omega) (by omega) (by rw[jU]; omega);have hsl:(fb key p n).length=16+bz p.se:=by unfold fb; rw[Ao hae,Rk,oA,sU,jU]
        have c4:=N9 G key [ce p,n] (bo p.se) hk (by simp) (fun x hx=>by simp at hx; rcases hx with rfl | rfl <;> omega) (by rw[jU]; omega);rw[hae,show kf key [ce p,n] (bo p.se)=fb key p n from rfl] at c4;have c5:=P5 G n (fb key p n) (by omega) (by omega);have hgl:(fD n (fb key p n)).length≤4000:=by rw[tO]; omega
        have c6:=uz G [bY key p n] (by simp) (fun f hf=>by rw[Rw.1 hf]; show (fD n (fb key p n)).length≤_; omega);rw[show bN (kw n (fb key p n))=bN (bY key p n) from rfl] at c5;rw[List.map_singleton] at c6;by_cases h7:bq [bY key p n]=0
        ·obtain⟨_,_,g3,g4⟩:=qb h7;rw[h7,g4] at c6;have hGl:=jU [bY key p n];rcases R7 1280 ((ce p).length+bz [bY key p n]) with h8 | h8
         ·have e:cU key p n=2:=by rw[e7,if_pos (.inr h8)]
          rw[jq e (by decide),e];rw[← hGl] at h8;have g8:(((ce p).length:Int)+((bo [bY key p n]).length:Int)>1280)=True:=eq_true (by omega);clear e e7 h3 h4 h7 hae hsl;unfold dT at c4;simp only[Rl,RP] at c4;generalize bo [bY key p n]=W at *
          generalize bY key p n=g at *
          generalize fb key p n=S at *
          generalize ce p=X at *
          generalize bo p.se=Y at *
          generalize ei p.pl 1028=Z at *
          unfold eG bN at *
          simp only[gU,ai,ae,aa,seval,iteOmega,toNatUp,h1];refine sD (cf) ?_;refine sD (c1) ?_;refine sD (c2) ?_;refine sC (c3) ?_;simp only[h5,h6,ae,aa,seval,iteOmega,toNatUp];refine sD (c4) ?_;refine sD (c5) ?_;refine sC (c6) ?_;simp only[g8,ae,aa,seval,iteOmega,toNatUp];exact cE
         ·have e:cU key p n=0:=by rw[e7,if_neg (by omega)]
          have eB:fE key p n=ce p++bo [bY key p n]:=if_pos e;have cj:=dw G [ce p,bo [bY key p n]] (by simp) (by simp; omega);have hfl:[ce p,bo [bY key p n]].flatten=fE key p n:=by rw[eB]; simp
          rw[hfl] at cj;simp only[Rl,RP] at cj;rw[e];rw[← hGl] at h8;have g8:(((ce p).length:Int)+((bo [bY key p n]).length:Int)>1280)=False:=eq_false (by omega);clear e e7 h3 h4 h7 hae hsl eB hfl;unfold dT at c4;simp only[Rl,RP] at c4;generalize fE key p n=V at *
          generalize bo [bY key p n]=W at *
          generalize bY key p n=g at *
          generalize fb key p n=S at *
          generalize ce p=X at *
          generalize bo p.se=Y at *
          generalize ei p.pl 1028=Z at *
          unfold eG bN at *
          simp only[gU,ai,ae,aa,seval,iteOmega,toNatUp,h1];refine sD (cf) ?_;refine sD (c1) ?_;refine sD (c2) ?_;refine sC (c3) ?_;simp only[h5,h6,ae,aa,seval,iteOmega,toNatUp];refine sD (c4) ?_;refine sD (c5) ?_;refine sC (c6) ?_;simp only[g8,ae,aa,seval,iteOmega,toNatUp];refine sD (cj) ?_;exact cE
        ·have e:cU key p n=2:=by rw[e7,if_pos (.inl h7)]
         rw[jq e (by decide),e];have g7:(bq [bY key p n]=0)=False:=eq_false h7;clear e e7 h3 h4 h7 hae hsl;unfold dT at c4;simp only[Rl,RP] at c4;generalize bq [bY key p n]=E at *
         generalize eF [bY key p n]=W at *
         generalize bY key p n=g at *
         generalize fb key p n=S at *
         generalize ce p=X at *
         generalize bo p.se=Y at *
         generalize ei p.pl 1028=Z at *
         unfold eG bN at *
         simp only[gU,ai,ae,aa,seval,iteOmega,toNatUp,h1];refine sD (cf) ?_;refine sD (c1) ?_;refine sD (c2) ?_;refine sC (c3) ?_;simp only[h5,h6,ae,aa,seval,iteOmega,toNatUp];refine sD (c4) ?_;refine sD (c5) ?_;refine sC (c6) ?_;simp only[g7,ae,aa,seval,iteOmega,toNatUp];exact cE
      ·have e:=Qa (key:=key) (n:=n) h1 h2 h3 h4 h5;rw[jq e (by decide),e];clear e h3 h4;generalize ce p=X at *
       generalize bo p.se=Y at *
       generalize ei p.pl 1028=Z at *
       unfold eG at *
       simp only[gU,ai,ae,aa,seval,iteOmega,toNatUp,h1];refine sD (cf) ?_;refine sD (c1) ?_;refine sD (c2) ?_;refine sD (c3) ?_;exact cE
     ·have e:=P9 (key:=key) (n:=n) h1 h2 h3 h4;rw[jq e h4,e];have g4:(bq p.se=0)=False:=eq_false h4;clear e h3 h4;generalize ce p=X at *
      generalize bq p.se=E at *
      generalize eF p.se=Y at *
      unfold eG at *
      simp only[gU,ai,ae,aa,seval,iteOmega,toNatUp,h1];refine sD (cf) ?_;refine sD (c1) ?_;refine sC (c2) ?_;simp only[g4,ae,aa,seval,iteOmega,toNatUp];exact cE
    ·have e:=P8 (key:=key) (n:=n) h1 h2 h3;rw[jq e h3,e];have g3:(cc p=0)=False:=eq_false h3;clear e h3;generalize cc p=E at *
     generalize qN p=X at *
     unfold eG at *
     simp only[gU,ai,ae,aa,seval,iteOmega,toNatUp,h1];refine sD (cf) ?_;refine sC (c1) ?_;simp only[g3,ae,aa,seval,iteOmega,toNatUp];exact cE
   ·have e:=P7 (key:=key) (p:=p) (n:=n) h1 (by omega);rw[decide_eq_false (by omega)] at cf;rw[jq e (by decide),e];unfold eG;simp only[gU,ai,ae,aa,seval,iteOmega,toNatUp,h1];refine sD (cf) ?_;exact cE
  ·have e:=P6 (key:=key) (p:=p) (n:=n) h1;rw[jq e (by decide),e];unfold eG;simp only[gU,ai,ae,aa,seval,iteOmega,toNatUp];exact cE
structure Re (b:List UInt8) where
  l1:48≤b.length
  l2:b.length≤1280
  ea:vW (b.drop 48)=0
  rd:QT b=⟨qL b,GQ (b.drop 48),[],false⟩
theorem uD:kz.da.length=104:=RF ..
theorem F3 (u c:List UInt8) (k:Nat):bQ u c (k+1)=bQ u c k++[kz]:=by
  unfold bQ;rw[List.replicate_succ',R3]
theorem pd (u c:List UInt8) (k:Nat):(bQ u c k).length=k+2:=by
  unfold bQ;rw[Rk,RF]
  show 2+k=_
  omega
theorem tP {u c:List UInt8} {k:Nat} {f:Fd} (h:f∈bQ u c k):f=⟨260,u⟩∨f=⟨516,c⟩∨f=kz:=by
  unfold bQ at h;rcases RA.1 h with h | h
  ·rcases RX.1 h with h | h
   ·exact .inl h
   ·exact .inr (.inl (Rw.1 h))
  ·exact .inr (.inr (List.eq_of_mem_replicate h))
theorem tQ {u c:List UInt8} (hu:u.length=32) (hc:c.length=104):∀ k,bz (bQ u c k)=144+108*k
  | 0=>by
    unfold bQ bz be;simp[hu,hc]
  | k+1=>by
    rw[F3,sV,tQ hu hc k];have:bz [kz]=108:=by
      unfold bz be;simp[uD]
    omega
theorem uE {f:Fd} (h1:0≤f.ty) (h2:f.ty≤65535) (h3:f.da.length≤1228):bO f=0:=by
  unfold bO be;rw[if_neg (by omega),if_neg (by omega)]
theorem Qd {u c:List UInt8} (hu:u.length=32) (hc:c.length=104) {k:Nat} (hk:k≤8):bq (bQ u c k)=0:=by
  refine EO (fun f hf=>?_) (by rw[pd]; omega) (by rw[tQ hu hc]; omega);rcases tP hf with rfl | rfl | rfl
  ·exact uE (show (0:Int)≤260 by decide) (show (260:Int)≤65535 by decide) (by show u.length≤_; omega)
  ·exact uE (show (0:Int)≤516 by decide) (show (516:Int)≤65535 by decide) (by show c.length≤_; omega)
  ·exact uE (by decide) (by decide) (by rw[uD]; decide)
theorem ON {l:List Fd} {k:Int} (h:∀ f∈l,f.ty≠k):ei l k=[]:=Aw h _ (Rt _)
theorem OO {u c:List UInt8} {k:Nat}:ei (bQ u c k) 1028=[]:=ON fun f hf=>by
  rcases tP hf with rfl | rfl | rfl
  ·exact show (260:Int)≠1028 by decide
  ·exact show (516:Int)≠1028 by decide
  ·exact show (772:Int)≠1028 by decide
theorem Qe (t:Nat):ee (d7 t)=0:=u1.2 rfl
theorem Qf {t:Nat} (h:t<18446744073709551616):qJ (d7 t):=⟨show 0<_ by decide,show 0<_ by decide,show 0<_ by decide,show 0<_ by decide,show 0<_ by decide,show 0<_ by decide,h⟩
theorem F4 {key u c n:List UInt8} {t k:Nat} (h1:key.length=32) (hu:u.length=32) (hc:c.length=104) (hn:n.length=16) (hk:k≤8):vG key ⟨d7 t,bQ u c k,[],false⟩ n∧(fE key ⟨d7 t,bQ u c k,[],false⟩ n).length=232+108*k:=by
  have s:bz ([]:List Fd)=0:=rfl;have e:=Qd hu hc hk;have un:cc ⟨d7 t,bQ u c k,[],false⟩=0:=by
    unfold cc;rw[if_pos (Qe t)]; exact e
  have ht:=tQ hu hc k;have ha:cO key [ce ⟨d7 t,bQ u c k,[],false⟩,n] ((bo []).length:Int)=0:=EP h1 (by rw[o0,ht]; omega) (by omega) (by decide);have hs:(fb key ⟨d7 t,bQ u c k,[],false⟩ n).length=16:=by
    unfold fb;rw[Ao ha,Rk,oA,sU]; rfl
  have hl:=tO n (fb key ⟨d7 t,bQ u c k,[],false⟩ n);have hT:be (bY key ⟨d7 t,bQ u c k,[],false⟩ n)=40:=by
    unfold bY;rw[uZ (by omega),hl,hs]; omega
  have ok:vG key ⟨d7 t,bQ u c k,[],false⟩ n:=⟨h1,by omega,by omega,un,rfl,by rw[show ei (bQ u c k) 1028=[] from OO]; rfl,by rw[pd]; omega,PX (by omega) (by unfold bY at hT; rw[uZ (by omega)] at hT; omega),by rw[hT,ht]; omega⟩
  refine⟨ok,?_⟩;have hx:bz [bY key ⟨d7 t,bQ u c k,[],false⟩ n]=40:=by unfold bz; simp[hT]
  rw[(EQ ok).2,Rk,o0,jU,hx,ht];omega
theorem qe {j:Jr} {u n:List UInt8} {e:Int} (h:fc j u n=e) (he:e≠0):qQ j u n=du∧∀ t,qR j t u n=[]:=⟨if_neg (by rw[h]; exact he),fun t=>if_neg (by rw[h]; exact he)⟩


theorem OP {u c:List UInt8} {k:Nat} (hu:u.length=32) (hc:c.length=104):∀ f∈bQ u c k,f.da.length≤104:=fun f hf=>by
  rcases tP hf with rfl | rfl | rfl
  ·show u.length≤104; omega
  ·show c.length≤104; omega
  ·exact Nat.le_of_eq uD
def u7 (t:Nat) (n:List UInt8) (T:Jr) (u c:List UInt8) (K k:Nat):St:=⟨aV [(1,.w (.c (.d (.int .u64 (t:Int))))),(3,.w (.c (.d (.sl (n.map bD))))),(8,.w (.c (.ptr 3 1 0 0))),(11,.w (.c (.ptr 1 1 0 0))),(14,.w (.c (.own 2 2 0 (bQ u c k).length))),(54,.w (.c (.d (.int .i64 (K:Int))))),(55,.w (.c (.d (.int .i64 (k:Int)))))],hL [(1,aU T (.d (.sl (T.ck.map fun l=>D.sl (l.map bD))))),(2,.row 2 ((bQ u c k).map bN)),(3,cW)],uL [1,2,3]⟩
def sY:aK := .seq (.reg [oO 56 (.bin .lss (.t 55) (.t 54))]) (.seq (.cond (.t 56) (.skip) (.exit 0)) (.seq (.block 1 (.reg [oM 57 14,oO 58 (.make true 1 1 (.int .u8 0) (kI 104) (kI 104)),oO 59 (.build [(.d (.int .i64 0)),.nil] [(0,1,(kI 772)),(1,1,(.t 58))]),oO 60 (.bldFz 1 2 (.agg [(.int .i64 0),(.sl [])]) [(0,(.t 59))]),oO 61 (.app false 2 32 (.t 57) (.t 60)),oM 14 61])) (.reg [oO 62 (.bin .add (.t 55) (kI 1)),oM 55 62])))
def lh:aG:=⟨4,77,.seq (.reg [oO 4 (.box .roBox (.t 0)),oO 8 (.alloc [.nil,.nil,.nil,.nil,(.d (.int .i64 0)),(.d (.int .i64 0))]),oO 9 (.mv (.k (.c .nil))),oO 10 (.mv (kI 0))]) (.seq (.seq (.reg [oO 19 (.load (.ag 6) (.t 4)),oO 20 (.call 16 [(.t 19)] none),oO 21 (.un .not (.t 20)),oM 22 21,oG 23 (.mv (.t 2)) 22 false,oG 24 (.len (.t 23)) 22 false,oG 25 (.bin .neq (.t 24) (kI 32)) 22 false,oO 26 (.pick (.t 22) (.k (.c (.d (.bool true)))) (.t 25)),oM 27 26,oG 28 (.mv (.t 3)) 27 false,oG 29 (.len (.t 28)) 27 false,oG 30 (.bin .neq (.t 29) (kI 16)) 27 false,oO 31 (.pick (.t 27) (.k (.c (.d (.bool true)))) (.t 30))]) (.cond (.t 31) (.seq (.reg [oO 32 (.build [.nil,.nil,.nil,.nil,(.d (.int .i64 0)),(.d (.int .i64 0))] []),oN (.store (.ag 6) (.t 8) (.t 32)),oO 9 (.mv (.k (.c .nil))),oO 10 (.mv (kI 3))])
 (.ret)) (.skip))) (.seq (.reg [oO 34 (.load (.ag 6) (.t 4)),oO 35 (.call 13 [(.t 34)] none),oM 33 35,oO 36 (.extract (.t 33) 0),oO 37 (.extract (.t 33) 1),oO 38 (.extract (.t 33) 2),oO 11 (.alloc [.nil,.nil,.nil,.nil,(.d (.int .i64 0)),(.d (.int .i64 0))]),oN (.store (.ag 6) (.t 11) (.t 36)),oM 12 37,oM 13 38]) (.seq (.seq (.reg [oM 39 13,oO 40 (.bin .neq (.t 39) (kI 0))]) (.cond (.t 40) (.seq (.reg [oO 41 (.build [.nil,.nil,.nil,.nil,(.d (.int .i64 0)),(.d (.int .i64 0))] []),oM 42 13,oN (.store (.ag 6) (.t 8) (.t 41)),oO 9 (.mv (.k (.c .nil))),oM 10 42]) (.ret)) (.skip))) (.seq (.reg [oM 43 2,oO 44 (.build [(.d (.int .i64 0)),.nil] [(0,1,(kI 260)),(1,1,(.t 43))]),oM 45 12,oO 46 (.build [(.d (.int .i64 0)),.nil] [(0,1,(kI 516)),(1,1,(.t 45))]),oO 47 (.bldSl true 2 2 (.agg [(.int .i64 0),(.sl [])]) [(0,(.t 44)),(1,(.t 46))]),
 oM 14 47]) (.seq (.reg [oO 49 (.load (.ag 6) (.t 11)),oO 50 (.call 21 [(.t 49)] none),oM 48 50,oO 51 (.extract (.t 48) 0),oO 52 (.extract (.t 48) 1),oM 15 51,oM 16 52]) (.seq (.seq (.reg [oM 53 15,oO 54 (.bin .sub (.t 53) (kI 1)),oO 55 (.mv (kI 0))]) (.block 0 (.loop sY))) (.seq (.reg [oO 64 (.fieldAddr 0 (.t 11)),oO 65 (.fieldAddr 0 (.t 64)),oO 66 (.load .sc (.t 65)),oM 67 1,oO 68 (.call 35 [(.t 67)] none),oM 69 14,oO 70 (.build [(.d (.int .i64 0)),(.d (.int .i64 0)),(.d (.int .i64 0)),(.d (.int .i64 0)),(.d (.int .i64 0)),(.d (.int .i64 0)),(.d (.int .u32 0)),(.d (.int .u32 0)),(.d (.int .u32 0)),(.d (.int .u64 0)),(.d (.int .u64 0)),(.d (.int .u64 0)),(.d (.int .u64 0)),.nil,.nil,(.d (.bool false))] [(0,13,(.t 68)),(13,1,(.t 69))]),oM 71 3,oO 72 (.call 34 [(.t 66),(.t 70),(.t 71)] none),
 oM 63 72,oO 73 (.extract (.t 63) 0),oO 74 (.extract (.t 63) 1),oM 17 73,oM 18 74]) (.seq (.reg [oO 75 (.load (.ag 6) (.t 11)),oM 76 17,oN (.store (.ag 6) (.t 8) (.t 75)),oM 9 76,oO 10 (.mv (kI 0))]) (.ret))))))))),[(8,(some (.ag 6))),(9,none),(10,none)]⟩
theorem OQ:aD Try.prog { own:=[47],comp:=[],frz:=[60],nils:=[] } Try.f19=some lh:=by kernel_rfl
set_option maxHeartbeats 6400000 in
theorem Qg (G:ak) (j:Jr) (t:Nat) (u n:List UInt8) (ht:t<18446744073709551616):ap Try.prog G 19 [bf j,.int .u64 (t:Int),.sl (u.map bD),.sl (n.map bD)] (.tup [.c (.d (bf (qQ j u n))),.c (.d (.sl ((qR j t u n).map bD))),.c (.d (.int .i64 (fc j u n)))]):=by
  refine aI Try.func19 OQ rfl rfl ?_;have c1:=iQ G j;by_cases v:bP j
  ·rw[decide_eq_true v] at c1;by_cases h1:u.length=32
   ·have g1:((u.length:Int)=32)=True:=eq_true (by omega);by_cases h2:n.length=16
    ·have g2:((n.length:Int)=16)=True:=eq_true (by omega);have eE:fc j u n=cV j:=by unfold fc; rw[if_neg (fun h=>h.elim (· v) (fun h=>h.elim (· h1) (· h2)))]
     have c2:=F0 G j;by_cases h3:cV j=0
     ·obtain⟨v1,v2,v3,v4,v5⟩:=hC v;have hk:j.ck.length≠0:=fun h=>by
        unfold cV at h3;rw[if_neg (not_not_intro v),if_pos h] at h3;cases h3
      have hs:j.sn≠1099511627776:=fun h=>by
        unfold cV at h3;rw[if_neg (not_not_intro v),if_neg hk,if_pos h] at h3;cases h3
      have m0:=v5 _ (ir (l:=j.ck) (i:=0) (by omega));rw[h3] at eE;rw[show qQ j u n=bU j from if_pos eE,show qR j t u n=fE j.up (eI j t u) n from if_pos eE,eE];rw[show nl j=bU j from if_pos h3,show nm j=j.ck.getD 0 [] from if_pos h3,h3] at c2;have cw:=F1 G (bU j);have tv:bP (bU j):=(FU v hk hs).2;have hT:(8-((bU j).ck.length:Int))-1=((8-j.ck.length:Nat):Int):=by
        show (8-((j.ck.drop 1).length:Int))-1=_
        rw[Rv]; omega
      have hT8:(bU j).ck.length≤8:=by
        show (j.ck.drop 1).length≤8
        rw[Rv]; omega
      rw[show nr (bU j)=8-((bU j).ck.length:Int) from if_pos tv,show nq (bU j)=0 from if_pos tv] at cw;have c3:=Of G t;obtain⟨ok,_⟩:=F4 (key:=j.up) (u:=u) (c:=j.ck.getD 0 []) (n:=n) (t:=t) (k:=8-j.ck.length) v1 h1 m0 h2 (by omega);have c4:=OM G j.up (eI j t u) n (by omega) (Qf ht) (by unfold eI; rw[pd]; omega) (fun f hf=>by
        have:=OP (u:=u) (c:=j.ck.getD 0 []) h1 m0 f hf;omega) (Rx _) (fun f hf=>by cases hf) (by omega)
      rw[show cU j.up (eI j t u) n=0 from (EQ ok).1] at c4;have fl:=PI 1 (fE j.up (eI j t u) n) .i64 0;have hq:(eI j t u).pl=bQ u (j.ck.getD 0 []) (8-j.ck.length):=rfl;unfold eG at c4;rw[hq,show (eI j t u).hd=d7 t from rfl,show (eI j t u).se=[] from rfl,show (eI j t u).gu=false from rfl] at c4;have tup:(bU j).up=j.up:=rfl;rw[← tup] at c4 fl ⊢;clear ok eE h3 tv hs v tup;generalize fE (bU j).up (eI j t u) n=B at *
      generalize j.ck.getD 0 []=c at *
      generalize bU j=T at *
      generalize hK:8-j.ck.length=K at *
      have gK:(8-(T.ck.length:Int))-1=(K:Int):=hT;unfold bf at *
      simp only[lh,ai,ae,aa,seval,iteOmega,toNatUp];refine sC (c1) ?_;simp only[g1,g2,ae,aa,seval,iteOmega,toNatUp];refine sD (c2) ?_;refine sC (cw) ?_;simp only[gK,ae,aa,seval,iteOmega,toNatUp];refine bg (u7 t n T u c K) (fun k=>K-k) (fun k=>k≤K) 0 (Rx _) ?_ ?_
      ·refine aA (fun i=>if i=1 then 88 else if i=2 then 376 else 64) ?_ ?_ rfl rfl <;> simp only[bQ,bN,dW,aU,cW,wx,au,aH,aa,seval,iteOmega,toNatUp] <;> first | rfl | exact⟨rfl,rfl⟩ | skip
      ·intro k hk2;clear c1 c2 cw;have ql:=pd u c k;have az:=Ku (bQ u c k);by_cases hlt:k<K
       ·have gk:((k:Int)<(K:Int))=True:=eq_true (by omega);have hs:=F3 u c k;have hp:bN kz=.agg [.int .i64 772,.sl (List.replicate 104 (.int .u8 0))]:=by
          unfold bN kz;rw[List.map_replicate]; rfl
        have e0:u7 t n T u c K k=⟨aV [(1,.w (.c (.d (.int .u64 (t:Int))))),(3,.w (.c (.d (.sl (n.map bD))))),(8,.w (.c (.ptr 3 1 0 0))),(11,.w (.c (.ptr 1 1 0 0))),(14,.w (.c (.own 2 2 0 (bQ u c k).length))),(54,.w (.c (.d (.int .i64 (K:Int))))),(55,.w (.c (.d (.int .i64 (k:Int)))))],hL [(1,aU T (.d (.sl (T.ck.map fun l=>D.sl (l.map bD))))),(2,.row 2 ((bQ u c k).map bN)),(3,cW)],uL [1,2,3]⟩:=rfl;rw[e0];clear e0;generalize bQ u c k=L at *
        simp only[sY,dW,aU,cW,ae,aa,seval,iteOmega,toNatUp,gk,bW];refine aX (k+1) (by omega) (by omega) (aA (fun i=>if i=1 then 1 else if i=2 then 488 else 3) ?_ ?_ rfl rfl) <;> simp only[hs,hp,List.replicate,RU,Rl,RP,dW,aU,cW,wx,au,aH,aa,seval,iteOmega,toNatUp] <;> first | rfl | exact⟨rfl,rfl⟩ | skip
       ·obtain rfl:k=K:=by omega
        have gk:((k:Int)<(k:Int))=False:=eq_false (by omega);have e0:u7 t n T u c k k=⟨aV [(1,.w (.c (.d (.int .u64 (t:Int))))),(3,.w (.c (.d (.sl (n.map bD))))),(8,.w (.c (.ptr 3 1 0 0))),(11,.w (.c (.ptr 1 1 0 0))),(14,.w (.c (.own 2 2 0 (bQ u c k).length))),(54,.w (.c (.d (.int .i64 (k:Int))))),(55,.w (.c (.d (.int .i64 (k:Int)))))],hL [(1,aU T (.d (.sl (T.ck.map fun l=>D.sl (l.map bD))))),(2,.row 2 ((bQ u c k).map bN)),(3,cW)],uL [1,2,3]⟩:=rfl;rw[e0];clear e0;generalize bQ u c k=L at *
        unfold gI at c3;simp only[sY,dW,aU,cW,ae,aa,seval,iteOmega,toNatUp,gk];refine sD (c3) ?_;refine bL c4 (by simp only[ae,aa,seval,iteOmega,toNatUp] <;> rfl) (.inr fl) ?_;simp only[ae,aa,seval,iteOmega,toNatUp];exact jg
     ·have g3:(cV j=0)=False:=eq_false h3;obtain⟨q1,q2⟩:=qe eE h3;rw[q1,q2,eE];unfold bf du at *
      generalize cV j=e at *
      simp only[lh,ai,ae,aa,seval,iteOmega,toNatUp];refine sC (c1) ?_;simp only[g1,g2,ae,aa,seval,iteOmega,toNatUp];refine sC (c2) ?_;simp only[g3,ae,aa,seval,iteOmega,toNatUp];exact jg
    ·have g2:((n.length:Int)=16)=False:=eq_false (by omega);have e:fc j u n=3:=by unfold fc; rw[if_pos (.inr (.inr h2))]
     obtain⟨q1,q2⟩:=qe e (by decide);rw[q1,q2,e];unfold bf du at *
     simp only[lh,ai,ae,aa,seval,iteOmega,toNatUp];refine sC (c1) ?_;simp only[g1,g2,ae,aa,seval,iteOmega,toNatUp];exact jg
   ·have g1:((u.length:Int)=32)=False:=eq_false (by omega);have e:fc j u n=3:=by unfold fc; rw[if_pos (.inr (.inl h1))]
    obtain⟨q1,q2⟩:=qe e (by decide);rw[q1,q2,e];unfold bf du at *
    simp only[lh,ai,ae,aa,seval,iteOmega,toNatUp];refine sC (c1) ?_;simp only[g1,ae,aa,seval,iteOmega,toNatUp];exact jg
  ·rw[decide_eq_false v] at c1;have e:fc j u n=3:=by unfold fc; rw[if_pos (.inl v)]
   obtain⟨q1,q2⟩:=qe e (by decide);rw[q1,q2,e];unfold bf du at *
   simp only[lh,ai,ae,aa,seval,iteOmega,toNatUp];refine sD (c1) ?_;exact jg


def lP (s:Int):List UInt8:=(cz s 64).take 32
def lQ (s:Int):List UInt8:=(cz s 64).drop 32
theorem tS (s:Int):(lP s).length=32:=by
  unfold lP;rw[Rp,lZ]; rfl
theorem CM (s:Int):(lQ s).length=32:=by
  unfold lQ;rw[Rv,lZ]; rfl
def E1:aG:=⟨1,11,.seq (.reg [oO 2 (.alloc [.nil,.nil])]) (.seq (.reg [oM 4 0,oO 5 (.call 10 [(.t 4),(kI 64)] none),oM 3 5]) (.seq (.reg [oM 6 3,oO 7 (.slice 1 (.t 6) none (some (kI 32)) none),oM 8 3,oO 9 (.slice 1 (.t 8) (some (kI 32)) none none),oO 10 (.build [.nil,.nil] [(0,1,(.t 7)),(1,1,(.t 9))]),oN (.store (.ag 2) (.t 2) (.t 10))]) (.ret))),[(2,(some (.ag 2)))]⟩
theorem O4:aD Try.prog { own:=[],comp:=[],frz:=[],nils:=[] } Try.f23=some E1:=by kernel_rfl
theorem Qi (G:ak) (s:Int):ap Try.prog G 23 [.int .i64 s] (.w (.c (.d (.agg [.sl ((lP s).map bD),.sl ((lQ s).map bD)])))):=by
  refine aI Try.func23 O4 rfl rfl ?_;have c1:=oC G s 64 (by decide);have hl:(cz s 64).length=64:=lZ _ _;unfold lP lQ;have t1:((cz s 64).drop 32).take 32=(cz s 64).drop 32:=Ro (by simp; omega);generalize cz s 64=B at *
  simp only[E1,ai,ae,aa,seval,iteOmega,toNatUp];refine sC (c1) ?_;simp only[hl,t1,ae,aa,seval,iteOmega,toNatUp];exact aO
def lR (s i:Nat):List UInt8:=cz ((s+1000003*(i+1):Nat):Int) 104
def di (s n:Nat):List (List UInt8):=(List.range n).map (lR s)
theorem Qj (s n:Nat):di s (n+1)=di s n++[lR s n]:=by
  unfold di;rw[S6,RU]; rfl
theorem CN (s n:Nat):(di s n).length=n:=by
  unfold di;rw[RD,SF]
theorem pf (s i:Nat):(lR s i).length=104:=lZ _ _
def bZ (s n:Nat):Jr:=⟨lP (s:Int),lQ (s:Int),di s n,[],1,0⟩
def jb:Ob:=.box [.nil,.nil,.nil,.nil,.d (.int .i64 0),.d (.int .i64 0)]
def jc (s:Nat) (k:C):Ob:=.box [.d (.sl ((lP (s:Int)).map bD)),.d (.sl ((lQ (s:Int)).map bD)),k,.nil,.d (.int .i64 1),.d (.int .i64 0)]
def ji (s:Nat) (n:Int) (i:Nat):List (Nat×V):=[(0,.w (.c (.d (.int .i64 (s:Int))))),(1,.w (.c (.d (.int .i64 n)))),(4,.w (.c (.ptr 3 1 0 0))),(5,.w (.c (.ptr 1 1 0 0))),(6,.w (.c (.d (.int .i64 (i:Int)))))]
def kr (s:Nat) (n:Int):Nat→St
  | 0=>⟨aV (ji s n 0),hL [(1,jc s .nil),(3,jb)],uL [1,3]⟩
  | i+1=>⟨aV (ji s n (i+1)),hL [(1,jc s (.own 2 1 0 (di s (i+1)).length)),(2,.row 1 ((di s (i+1)).map fun l=>D.sl (l.map bD))),(3,jb)],uL [1,2,3]⟩
def mh:aK := .seq (.seq (.reg [oM 10 6,oM 11 1,oO 12 (.call 8 [(.t 11),(kI 9)] none),oO 13 (.bin .lss (.t 10) (.t 12))]) (.cond (.t 13) (.skip) (.exit 0))) (.seq (.block 1 (.reg [oO 16 (.fieldAddr 2 (.t 5)),oO 17 (.load .sc (.t 16)),oM 18 0,oM 19 6,oO 20 (.bin .add (.t 19) (kI 1)),oO 21 (.bin .mul (kI 1000003) (.t 20)),oO 22 (.bin .add (.t 18) (.t 21)),oO 23 (.call 10 [(.t 22),(kI 104)] none),oO 24 (.bldSl false 1 1 (.sl []) [(0,(.t 23))]),oO 25 (.app false 1 24 (.t 17) (.t 24)),oO 26 (.fieldAddr 2 (.t 5)),oN (.store .sc (.t 26) (.t 25))])) (.reg [oM 14 6,oO 15 (.bin .add (.t 14) (kI 1)),oM 6 15]))
def E2:aG:=⟨2,28,.seq (.reg [oO 4 (.alloc [.nil,.nil,.nil,.nil,(.d (.int .i64 0)),(.d (.int .i64 0))])]) (.seq (.reg [oM 7 0,oO 8 (.call 23 [(.t 7)] none),oO 9 (.build [.nil,.nil,.nil,.nil,(.d (.int .i64 0)),(.d (.int .i64 0))] [(0,2,(.t 8)),(4,1,(kI 1))]),oO 5 (.alloc [.nil,.nil,.nil,.nil,(.d (.int .i64 0)),(.d (.int .i64 0))]),oN (.store (.ag 6) (.t 5) (.t 9))]) (.seq (.seq (.reg [oO 6 (.mv (kI 0))]) (.block 0 (.loop mh))) (.seq (.reg [oO 27 (.load (.ag 6) (.t 5)),oN (.store (.ag 6) (.t 4) (.t 27))]) (.ret)))),[(4,(some (.ag 6)))]⟩
theorem O5:aD Try.prog { own:=[],comp:=[],frz:=[],nils:=[] } Try.f9=some E2:=by kernel_rfl
theorem F6 (G:ak) (s:Nat) (n:Int) (hs:s≤1000000) (N:Nat) (hN:gW n 9=(N:Int)):ap Try.prog G 9 [.int .i64 (s:Int),.int .i64 n] (.w (.c (.d (bf (bZ s N))))):=by
  refine aI Try.func9 O5 rfl rfl ?_;have c1:=Qi G (s:Int);have r0:=lV n 9 (by decide);have c2:=mg G n 9 (by decide);rw[hN] at c2 r0;unfold bf bZ;dsimp only;simp only[E2,ai,ae,aa,seval,iteOmega,toNatUp];refine sD (c1) ?_;refine bg (kr s n) (fun i=>N-i) (fun i=>i≤N) 0 (Rx _) ?_ ?_
  ·refine aA (fun i=>if i=1 then 40 else 32) ?_ ?_ rfl rfl <;> simp only[ji,jc,jb,wx,au,aH,aa,seval,iteOmega,toNatUp] <;> first | rfl | exact⟨rfl,rfl⟩ | skip
  ·intro i hi;clear c1;have tl:=CN s i;have az:=eJ (di s i);by_cases hlt:i<N
   ·have g1:((i:Int)<(N:Int))=True:=eq_true (by omega);have c3:=oC G ((s+1000003*(i+1):Nat):Int) 104 (by decide);have ec:(s:Int)+1000003*((i:Int)+1)=((s+1000003*(i+1):Nat):Int):=by omega
    have hn:=Qj s i;rw[show cz ((s+1000003*(i+1):Nat):Int) 104=lR s i from rfl] at c3;generalize lR s i=x at *
    rcases i with _ | i
    ·have e1:di s (0+1)=[x]:=hn;simp only[mh,kr,ji,jc,jb,ae,aa,seval,iteOmega,toNatUp];refine sC (c2) ?_;simp only[g1,ec,ae,aa,seval,iteOmega,toNatUp];refine sC (c3) ?_;simp only[bW,ae,aa,seval,iteOmega,toNatUp];refine aX (0+1) (by omega) (by omega) (aA (fun i=>if i=1 then 1 else if i=2 then 200 else 3) ?_ ?_ rfl rfl) <;> simp only[kr,ji,jc,jb,e1,wx,au,aH,aa,seval,iteOmega,toNatUp] <;> first | rfl | exact⟨rfl,rfl⟩ | skip
    ·simp only[mh,kr,ji,jc,jb,ae,aa,seval,iteOmega,toNatUp,tl];refine sC (c2) ?_;simp only[g1,ec,ae,aa,seval,iteOmega,toNatUp];refine sC (c3) ?_;simp only[bW,tl,ae,aa,seval,iteOmega,toNatUp];refine aX (i+1+1) (by omega) (by omega) (aA (fun i=>if i=1 then 1 else if i=2 then 200 else 3) ?_ ?_ rfl rfl) <;> simp only[kr,ji,jc,jb,hn,RU,tl,wx,au,aH,aa,seval,iteOmega,toNatUp] <;> first | rfl | exact⟨rfl,rfl⟩ | skip
   ·obtain rfl:i=N:=by omega
    have g1:((i:Int)<(i:Int))=False:=eq_false (by omega);rcases i with _ | i
    ·have e0:di s 0=[]:=rfl;rw[e0];simp only[mh,kr,ji,jc,jb,ae,aa,seval,iteOmega,toNatUp];refine sC (c2) ?_;simp only[g1,ae,aa,seval,iteOmega,toNatUp];exact aO
    ·simp only[mh,kr,ji,jc,jb,ae,aa,seval,iteOmega,toNatUp];refine sC (c2) ?_;simp only[g1,ae,aa,seval,iteOmega,toNatUp];exact aO
theorem GA {s N:Nat} (hN:N≤8):nk (bZ s N):=by
  refine⟨tS _,CM _,?_,.inl rfl,iF.2 fun h=>?_,by show (0:Int)≤1; decide,by show (0:Int)≤0; decide,by show (0:Int)≤_; decide⟩
  ·show (di s N).length≤8
   rw[CN]; exact hN
  ·obtain⟨i,_,hi⟩:=RO.1 (show []∈di s N from h);have:=pf s i;rw[hi] at this;cases this
theorem E3 {s N:Nat}:∀ c∈(bZ s N).ck,c.length=104:=fun c hc=>by
  obtain⟨i,_,rfl⟩:=RO.1 (show c∈di s N from hc);exact pf s i
theorem Qk (s N:Nat):(di s (N+1)).getD 0 []=lR s 0:=by
  unfold di;rw[List.range_succ_eq_map,Rl]; rfl
theorem E4:(bU (bZ 1 1)).la.length=104:=by
  rw[show (bU (bZ 1 1)).la=(di 1 (0+1)).getD 0 [] from rfl,Qk,pf]
theorem E5:(bU (bZ 1 1)).ck=[]:=rfl
theorem O6:bP (bU (bZ 1 1)):=by
  refine gw.2 ⟨⟨tS _,CM _,?_,.inr E4,?_,show (0:Int)≤1 by decide,show (0:Int)≤0+1 by decide,show (0:Int)+1≤1099511627776 by decide⟩,?_,?_⟩ <;> rw[E5]
  ·exact Rx _
  ·rfl
  ·exact fun c hc=>by cases hc
  ·exact List.Pairwise.nil
theorem QU:bP (bZ 1 1):=gw.2 ⟨GA (by decide),E3,List.pairwise_singleton _ _⟩
def xk:aG:=⟨0,46,.seq (.reg [oO 0 (.mv (.k (.c (.d (.bool false)))))]) (.seq (.reg [oO 7 (.call 9 [(kI 1),(kI 1)] none),oO 8 (.make false 1 1 (.int .u8 0) (kI 32) (kI 32)),oO 9 (.make false 1 1 (.int .u8 0) (kI 16) (kI 16)),oO 10 (.call 19 [(.t 7),(.k (.c (.d (.int .u64 5)))),(.t 8),(.t 9)] none),oM 6 10,oO 11 (.extract (.t 6) 0),oO 12 (.extract (.t 6) 1),oO 13 (.extract (.t 6) 2),oO 1 (.alloc [.nil,.nil,.nil,.nil,(.d (.int .i64 0)),(.d (.int .i64 0))]),oN (.store (.ag 6) (.t 1) (.t 11)),oM 2 12,oM 3 13]) (.seq (.reg [oO 15 (.load (.ag 6) (.t 1)),oO 16 (.call 21 [(.t 15)] none),oM 14 16,oO 17 (.extract (.t 14) 0),oO 18 (.extract (.t 14) 1),oM 4 17,oM 5 18]) (.seq (.reg [oM 19 3,oO 20 (.bin .eql (.t 19) (kI 0)),oM 21 20,oG 22 (.mv (.t 5)) 21 true,oG 23 (.bin .eql (.t 22) (kI 0)) 21 true,
 oO 24 (.pick (.t 21) (.t 23) (.k (.c (.d (.bool false))))),oM 25 24,oG 26 (.mv (.t 2)) 25 true,oG 27 (.len (.t 26)) 25 true,oG 28 (.bin .eql (.t 27) (kI 988)) 25 true,oO 29 (.pick (.t 25) (.t 28) (.k (.c (.d (.bool false))))),oM 30 29,oG 31 (.mv (.t 4)) 30 true,oG 32 (.bin .eql (.t 31) (kI 8)) 30 true,oO 33 (.pick (.t 30) (.t 32) (.k (.c (.d (.bool false))))),oM 34 33,oG 35 (.fieldAddr 2 (.t 1)) 34 true,oG 36 (.load .sc (.t 35)) 34 true,oG 37 (.len (.t 36)) 34 true,oG 38 (.bin .eql (.t 37) (kI 0)) 34 true,oO 39 (.pick (.t 34) (.t 38) (.k (.c (.d (.bool false))))),oM 40 39,oG 41 (.fieldAddr 3 (.t 1)) 40 true,oG 42 (.load .sc (.t 41)) 40 true,oG 43 (.len (.t 42)) 40 true,oG 44 (.bin .eql (.t 43) (kI 104)) 40 true,oO 45 (.pick (.t 40) (.t 44) (.k (.c (.d (.bool false))))),oM 0 45]) (.ret)))),
 [(0,none)]⟩
theorem HL:aD Try.prog { own:=[],comp:=[],frz:=[8,9],nils:=[] } Try.f7=some xk:=by kernel_rfl
set_option maxHeartbeats 1600000 in
theorem IZ (G:ak):ap Try.prog G 7 [] (.w (.c (.d (.bool true)))):=by
  refine aI Try.func7 HL rfl rfl ?_;have c1:=F6 G 1 1 (by decide) 1 (by decide);have v:=QU;have kl:(bZ 1 1).ck.length=1:=rfl;have e0:cV (bZ 1 1)=0:=by unfold cV; rw[if_neg (not_not_intro v),if_neg (by rw[kl]; decide),if_neg (show ¬ (bZ 1 1).sn=1099511627776 from fun h=>absurd (show (0:Int)=1099511627776 from h) (by decide))]
  have e1:fc (bZ 1 1) (List.replicate 32 0) (List.replicate 16 0)=0:=by unfold fc; rw[if_neg (fun h=>h.elim (· v) (fun h=>h.elim (· RF) (· RF))),e0]
  have c2:=Qg G (bZ 1 1) 5 (List.replicate 32 0) (List.replicate 16 0) (by decide);rw[show qQ (bZ 1 1) (List.replicate 32 0) (List.replicate 16 0)=bU (bZ 1 1) from if_pos e1,show qR (bZ 1 1) 5 (List.replicate 32 0) (List.replicate 16 0)=fE (bZ 1 1).up (eI (bZ 1 1) 5 (List.replicate 32 0)) (List.replicate 16 0) from if_pos e1,e1] at c2;obtain⟨_,ql⟩:=F4 (key:=(bZ 1 1).up) (u:=List.replicate 32 0) (c:=(bZ 1 1).ck.getD 0 []) (n:=List.replicate 16 0) (t:=5) (k:=7) (tS _) RF (pf _ _) RF (by decide);have hq:eI (bZ 1 1) 5 (List.replicate 32 0)=⟨d7 5,bQ (List.replicate 32 0) ((bZ 1 1).ck.getD 0 []) 7,[],false⟩:=by unfold eI; rw[kl]
  rw[← hq] at ql;have ql:=ql.trans (show 232+108*7=988 by decide);have c3:=F1 G (bU (bZ 1 1));have tv:=O6;rw[show nr (bU (bZ 1 1))=8 from if_pos tv,show nq (bU (bZ 1 1))=0 from if_pos tv] at c3;have la:=E4;have ck:=E5;have z32:((List.replicate 32 (0:UInt8)).map bD)=List.replicate 32 (.int .u8 0):=by rw[List.map_replicate]; rfl
  have eD:((List.replicate 16 (0:UInt8)).map bD)=List.replicate 16 (.int .u8 0):=by rw[List.map_replicate]; rfl
  clear tv e0 e1 v kl;generalize fE (bZ 1 1).up (eI (bZ 1 1) 5 (List.replicate 32 0)) (List.replicate 16 0)=B at *
  generalize bU (bZ 1 1)=T at *
  generalize bZ 1 1=W at *
  rw[z32,eD] at c2;simp only[List.replicate] at c2;unfold bf at *
  rw[ck] at c2 c3;simp only[RP] at c2 c3;have gq:((B.length:Int)=988)=True:=eq_true (by omega);have gl:((T.la.length:Int)=104)=True:=eq_true (by omega);simp only[xk,ai,ae,aa,seval,iteOmega,toNatUp];refine sD (c1) ?_;refine sD (c2) ?_;refine sC (c3) ?_;simp only[gq,gl,ae,aa,seval,iteOmega,toNatUp];exact aO
theorem E7 (s:Nat) {N:Nat} (hN:N≤8):di s N=(kD.take N).map fun o=>cz ((s+o:Nat):Int) 104:=by
  unfold di kD;rw[← List.map_take,List.take_range,SH hN,S4];rfl
theorem Pu {α:Type} {a b:List α} (h:(a++b).Nodup):a.Nodup∧b.Nodup∧∀ x∈a,x∉b:=by
  obtain⟨h1,h2,h3⟩:=Sa.1 h;exact⟨h1,h2,fun x hx hb=>h3 x hx x hb rfl⟩
theorem Ga {s N:Nat} (hs:s<1000) (hN:N≤8):(di s N).Nodup:=by
  rw[E7 s hN];have h:=QW hs;rw[RU] at h;have h1:=(Pu h).1;exact h1.sublist ((List.take_sublist _ _).map _)
theorem QE {s N:Nat} (hs:s<1000) (hN:N≤8):bP (bZ s N):=gw.2 ⟨GA hN,E3,Ga hs hN⟩
theorem QF {j:Jr} {n:Int} (v:bP j) (h:0≤n):iv j n=0∧bP (eH j n):=by
  refine⟨by unfold iv; rw[if_neg (not_not_intro v),if_neg (by omega)],?_⟩;unfold eH;split
  ·exact v
  ·obtain⟨⟨a1,a2,a3,a4,a5,a6,a7,a8⟩,b,c⟩:=gw.1 v;refine gw.2 ⟨⟨a1,a2,a3,.inl rfl,iF.2 fun h=>?_,h,a7,a8⟩,b,c⟩;have:=b _ h;cases this

theorem E9 {la c:List UInt8} {l:List (List UInt8)} (h:jH la l c=true):c∉l∧la≠c∧l.length<8:=by
  unfold jH at h;rw[RN,RN,Ta,Ta] at h;exact⟨iF.1 h.1,beq_eq_false_iff_ne.1 h.2.1,of_decide_eq_true h.2.2⟩
theorem uH {la:List UInt8}:∀ {cs l:List (List UInt8)},l.Nodup→la∉l→(∀ c∈l,c.length=104)→(∀ c∈cs,c.length=104)→(bu la l cs).Nodup∧la∉bu la l cs∧∀ c∈bu la l cs,c.length=104
  | [],_,h1,h2,h3,_=>⟨h1,h2,h3⟩
  | c::cs,l,h1,h2,h3,h4=>by
    show (bu la (dV la l c) cs).Nodup∧la∉bu la (dV la l c) cs∧∀ x∈bu la (dV la l c) cs,x.length=104
    have h5:∀ x∈cs,x.length=104:=fun x hx=>h4 x (RI _ hx)
    by_cases hf:jH la l c=true
    ·obtain⟨f1,f2,_⟩:=E9 hf;rw[show dV la l c=l++[c] from if_pos hf];refine uH (Sa.2 ⟨h1,List.pairwise_singleton _ _,fun a ha b hb e=>?_⟩) (fun h=>?_) (fun x hx=>?_) h5
     ·rw[Rw.1 hb] at e;exact f1 (e ▸ ha)
     ·rcases RA.1 h with h | h
      ·exact h2 h
      ·exact f2 (Rw.1 h)
     ·rcases RA.1 hx with hx | hx
      ·exact h3 x hx
      ·rw[Rw.1 hx]; exact h4 c (R1 ..)
    ·rw[show dV la l c=l from if_neg hf];exact uH h1 h2 h3 h5
theorem QG {j:Jr} {cs:List (List UInt8)} (v:bP j) (h:∀ c∈cs,c.length=104):gM j cs=0∧bP (jK j cs):=by
  refine⟨by unfold gM; rw[if_neg (not_not_intro v),if_pos (l6.2 h)],?_⟩;obtain⟨⟨a1,a2,a3,a4,a5,a6,a7,a8⟩,b,c⟩:=gw.1 v;obtain⟨p1,p2,p3⟩:=uH c (iF.1 a5) b h;exact gw.2 ⟨⟨a1,a2,CH _ a3,a4,iF.2 p2,a6,a7,a8⟩,p3,p1⟩
theorem drop_at {L:List (List UInt8)} {i:Nat} (h:i<L.length):L.drop i=L.getD i []::L.drop (i+1):=by
  rw[List.drop_eq_getElem_cons h,Rj,Rh h]; rfl
def gQ (s k:Nat):List UInt8:=cz ((s+5000000*(k+1):Nat):Int) 104
theorem MS (s k:Nat):(gQ s k).length=104:=lZ _ _
def jj (s m:Nat):List (List UInt8):=di s 3++(List.range m).map (gQ s)
theorem QH (s m:Nat):jj s (m+1)=jj s m++[gQ s m]:=by
  unfold jj;rw[S6,RU,R3]; rfl
theorem Pv {s m:Nat} (hs:s<1000) (hm:m≤100):(jj s m).Nodup:=by
  have e:(List.range m).map (gQ s)=(nz.take m).map fun o=>cz ((s+o:Nat):Int) 104:=by
    unfold nz;rw[← List.map_take,List.take_range,SH hm,S4];rfl
  unfold jj;rw[E7 s (by decide),e,← RU];exact (QV hs).sublist (((List.take_sublist _ _).append (List.take_sublist _ _)).map _)
def cn (s m:Nat):Nat→List (List UInt8)
  | 0=>[]
  | k+1=>cn s m k++[gQ s (m+k)]
theorem pi (s m:Nat):∀ k,(cn s m k).length=k
  | 0=>rfl
  | k+1=>by rw[cn,Rk,pi s m k]; rfl
theorem CR {s m:Nat}:∀ {k:Nat},∀ c∈cn s m k,c.length=104
  | k+1,c,h=>by
    rcases RA.1 h with h | h
    ·exact CR c h
    ·rw[Rw.1 h]; exact MS _ _
theorem uI (s m:Nat):∀ k,jj s (m+k)=jj s m++cn s m k
  | 0=>by rw[Sj,cn,RG]
  | k+1=>by rw[← SS,QH,uI s m k,R3]; rfl
theorem tT {la:List UInt8}:∀ {cs l t:List (List UInt8)},(t++l).Nodup→(∀ c∈cs,c∉t)→(t++bu la l cs).Nodup∧∀ c∈bu la l cs,c∈l∨c∈cs
  | [],l,t,h,_=>⟨h,fun c hc=>.inl hc⟩
  | c::cs,l,t,h,h2=>by
    show (t++bu la (dV la l c) cs).Nodup∧∀ x∈bu la (dV la l c) cs,x∈l∨x∈c::cs
    have h3:∀ x∈cs,x∉t:=fun x hx=>h2 x (RI _ hx)
    by_cases hf:jH la l c=true
    ·obtain⟨f1,_,_⟩:=E9 hf;rw[show dV la l c=l++[c] from if_pos hf];have hn:(t++(l++[c])).Nodup:=by
       rw[← R3];refine Sa.2 ⟨h,List.pairwise_singleton _ _,fun a ha b hb e=>?_⟩;rw[Rw.1 hb] at e;rcases RA.1 ha with ha | ha
       ·exact h2 c (R1 ..) (e ▸ ha)
       ·exact f1 (e ▸ ha)
     obtain⟨p1,p2⟩:=tT hn h3;refine⟨p1,fun x hx=>(p2 x hx).elim (fun hx=>?_) fun hx=>.inr (RI _ hx)⟩;rcases RA.1 hx with hx | hx
     ·exact .inl hx
     ·rw[Rw.1 hx]; exact .inr (R1 ..)
    ·rw[show dV la l c=l from if_neg hf];obtain⟨p1,p2⟩:=tT h h3;exact⟨p1,fun x hx=>(p2 x hx).imp_right (RI _)⟩
structure NR where
  i:Nat
  m:Nat
  t:List (List UInt8)
  j:Jr
structure ij (s:Nat) (x:NR):Prop where
  v:bP x.j
  sn:x.j.sn=(x.t.length:Int)
  tl:x.t.length≤x.i
  mi:x.m≤4*x.i
  nd:(x.t++x.j.ck).Nodup
  uv:∀ c∈x.t++x.j.ck,c∈jj s x.m
theorem QX {s:Nat} (hs:s<1000):ij s ⟨0,0,[],bZ s 3⟩:=⟨QE hs (by decide),rfl,Rt _,Rt _,Ga hs (by decide),fun c hc=>Rz _ hc⟩
theorem Pw {s i m k:Nat} {t:List (List UInt8)} {j:Jr} (h:ij s ⟨i,m,t,j⟩) (hs:s<1000) (hi:i<25) (hk:k≤4):gM j (cn s m k)=0∧ij s ⟨i+1,m+k,t,jK j (cn s m k)⟩:=by
  obtain⟨v,sn,tl,mi,nd,uv⟩:=h;have mi:m≤4*i:=mi;have tl:t.length≤i:=tl;obtain⟨p1,p2⟩:=QG v (cs:=cn s m k) CR;have un:=Pv (m:=m+k) hs (by omega);rw[uI] at un;obtain⟨_,_,u3⟩:=Sa.1 un;have hnew:∀ c∈cn s m k,c∉t:=fun c hc ht=>u3 c (uv c (Rz _ ht)) c hc rfl
  obtain⟨q1,q2⟩:=tT (la:=j.la) nd hnew;refine⟨p1,p2,sn,by show t.length≤i+1; omega,by show m+k≤4*(i+1); omega,q1,fun c hc=>?_⟩
  show c∈jj s (m+k)
  rw[uI];rcases RA.1 hc with hc | hc
  ·exact Rz _ (uv c (Rz _ hc))
  ·rcases q2 c hc with h | h
   ·exact Rz _ (uv c (Rr _ h))
   ·exact Rr _ h
theorem QI {s i m:Nat} {t:List (List UInt8)} {j:Jr} {n:Int} (h:ij s ⟨i,m,t,j⟩) (hn:0≤n):iv j n=0∧ij s ⟨i+1,m,t,eH j n⟩:=by
  obtain⟨v,sn,tl,mi,nd,uv⟩:=h;have mi:m≤4*i:=mi;have tl:t.length≤i:=tl;obtain⟨p1,p2⟩:=QF v hn;have e1:(eH j n).ck=j.ck:=by unfold eH; split <;> rfl
  have e2:(eH j n).sn=j.sn:=by unfold eH; split <;> rfl
  refine⟨p1,p2,e2.trans sn,by show t.length≤i+1; omega,by show m≤4*(i+1); omega,?_,?_⟩
  ·show (t++(eH j n).ck).Nodup
   rw[e1]; exact nd
  ·show ∀ c∈t++(eH j n).ck,_
   rw[e1]; exact uv
theorem QJ {s i m:Nat} {t:List (List UInt8)} {j:Jr} (h:ij s ⟨i,m,t,j⟩) (hi:i<25) (hc:j.ck.length≠0):cV j=0∧ij s ⟨i+1,m,t++[j.ck.getD 0 []],bU j⟩∧(∀ k,k<t.length→(t.getD k []==j.ck.getD 0 [])=false)∧iu (bU j)=0∧nn (bU j)=j.ck.getD 0 []:=by
  obtain⟨v,sn,tl,mi,nd,uv⟩:=h;have mi:m≤4*i:=mi;have tl:t.length≤i:=tl;have sn:j.sn=(t.length:Int):=sn;have v:bP j:=v;obtain⟨p1,p2⟩:=FU v hc (by omega);have l104:=(hC v).2.2.2.2 _ (ir (l:=j.ck) (i:=0) (by omega));have e:j.ck=j.ck.getD 0 []::j.ck.drop 1:=by
    have:=drop_at (L:=j.ck) (i:=0) (by omega);rw[SY] at this;exact this
  have aE:iu (bU j)=0:=by
    unfold iu;rw[if_neg (not_not_intro p2),if_neg (fun q=>by have q:(j.ck.getD 0 []).length=0:=q; omega)]
  refine⟨p1,⟨p2,?_,?_,by show m≤4*(i+1); omega,?_,?_⟩,fun k hk=>?_,aE,if_pos aE⟩
  ·show j.sn+1=((t++[j.ck.getD 0 []]).length:Int)
   rw[Rk,Sf,sn]; omega
  ·show (t++[j.ck.getD 0 []]).length≤i+1
   rw[Rk,Sf]; omega
  ·show ((t++[j.ck.getD 0 []])++j.ck.drop 1).Nodup
   have e2:(t++[j.ck.getD 0 []])++j.ck.drop 1=t++(j.ck.getD 0 []::j.ck.drop 1):=by rw[R3]; rfl
   rw[e2,← e];exact nd
  ·intro c hc2;have e2:(t++[j.ck.getD 0 []])++j.ck.drop 1=t++(j.ck.getD 0 []::j.ck.drop 1):=by rw[R3]; rfl
   have hc2:c∈(t++[j.ck.getD 0 []])++j.ck.drop 1:=hc2;rw[e2,← e] at hc2;exact uv c hc2
  ·refine beq_eq_false_iff_ne.2 fun h=>?_
   obtain⟨_,_,h3⟩:=Sa.1 nd;exact h3 _ (ir hk) _ (ir (l:=j.ck) (i:=0) (by omega)) h
def bF:List (List UInt8)→List (Nat×V)
  | []=>[(6,.w (.c .nil))]
  | t::r=>[(6,.w (.c (.own 2 1 0 (t::r).length)))]
def bG:List (List UInt8)→List (Nat×Ob)
  | []=>[]
  | t::r=>[(2,.row 1 ((t::r).map fun l=>D.sl (l.map bD)))]
def bH:List (List UInt8)→List Nat
  | []=>[]
  | _::_=>[2]
def fG (s m:Nat):Nat→List (Nat×V)
  | 0=>[(10,.w (.c .nil))]
  | k+1=>[(10,.w (.c (.own 3 1 0 (cn s m (k+1)).length)))]
def fH (s m:Nat):Nat→List (Nat×Ob)
  | 0=>[]
  | k+1=>[(3,.row 1 ((cn s m (k+1)).map fun l=>D.sl (l.map bD)))]
def fI:Nat→List Nat
  | 0=>[]
  | _+1=>[3]
def bA (s:Nat) (acts:List Int) (i m:Nat):List (Nat×V):=[(0,.w (.c (.d (.int .i64 (s:Int))))),(1,.w (.c (.d (.sl (acts.map zD))))),(5,.w (.c (.ptr 1 1 0 0))),(7,.w (.c (.d (.int .i64 (m:Int))))),(8,.w (.c (.d (.int .i64 (i:Int)))))]
def bB (j:Jr):Ob:=aU j (.d (.sl (j.ck.map fun l=>D.sl (l.map bD))))
def iR (s:Nat) (acts:List Int) (x:NR):St:=⟨aV (bF x.t++bA s acts x.i x.m),hL (bG x.t++[(1,bB x.j)]),uL (bH x.t++[1])⟩
def fT (s:Nat) (acts:List Int) (x:NR) (k:Nat):St:=⟨aV (fG s x.m k++((11,.w (.c (.d (.int .i64 (k:Int)))))::(bF x.t++bA s acts x.i (x.m+k)))),hL (fH s x.m k++(bG x.t++[(1,bB x.j)])),uL (fI k++(bH x.t++[1]))⟩
def mO (s:Nat) (acts:List Int) (x:NR) (c:List UInt8) (k:Nat):St:=⟨aV ((9,.w (.c (.d (.int .i64 0))))::(12,.w (.c (.d (.sl (c.map bD)))))::(13,.w (.c (.d (.int .i64 (k:Int)))))::(bF x.t++bA s acts x.i x.m)),hL (bG x.t++[(1,bB x.j)]),uL (bH x.t++[1])⟩
theorem Rb {l:List Int} {i:Nat} (h:i<l.length):l[i]?=some (l.getD i 0):=by
  rw[Rj,Rh h]; rfl
theorem Rc {l:List Int} {i:Nat} (h:i<l.length):l.getD i 0∈l:=by
  rw[Rj,Rh h];exact RR h
theorem QK {A:Int} (h:mZ A):-9223372036854775808≤A.tdiv 4∧A.tdiv 4≤9223372036854775807:=by
  have h1:=Int.tmod_add_mul_tdiv A 4;have h2:=Int.tmod_lt_of_pos A (show (0:Int)<4 by decide);have h3:=Int.lt_tmod_of_pos A (show (0:Int)<4 by decide);unfold mZ at h;omega
theorem MU {s i m:Nat} {t:List (List UInt8)} {j:Jr} (h:ij s ⟨i,m,t,j⟩):ij s ⟨i+1,m,t,j⟩:=by
  obtain⟨v,sn,tl,mi,nd,uv⟩:=h;have mi:m≤4*i:=mi;have tl:t.length≤i:=tl;exact⟨v,sn,by show t.length≤i+1; omega,by show m≤4*(i+1); omega,nd,uv⟩
def jP:aK := .seq (.seq (.reg [oM 76 11,oM 77 1,oM 78 8,oO 79 (.idxSl 1 (.t 77) (.t 78)),oO 80 (.load .sc (.t 79)),oO 81 (.bin .quo (.t 80) (kI 4)),oO 82 (.call 8 [(.t 81),(kI 4)] none),oO 83 (.bin .leq (.t 76) (.t 82))]) (.cond (.t 83) (.skip) (.exit 5))) (.seq (.block 6 (.seq (.reg [oM 86 7,oO 87 (.bin .add (.t 86) (kI 1)),oM 7 87]) (.reg [oM 88 10,oM 89 0,oM 90 7,oO 91 (.bin .mul (kI 5000000) (.t 90)),oO 92 (.bin .add (.t 89) (.t 91)),oO 93 (.call 10 [(.t 92),(kI 104)] none),oO 94 (.bldSl false 1 1 (.sl []) [(0,(.t 93))]),oO 95 (.app false 1 24 (.t 88) (.t 94)),oM 10 95]))) (.reg [oM 84 11,oO 85 (.bin .add (.t 84) (kI 1)),oM 11 85]))
def nZ:aK := .seq (.seq (.reg [oM 45 13,oM 46 6,oO 47 (.len (.t 46)),oO 48 (.bin .lss (.t 45) (.t 47))]) (.cond (.t 48) (.skip) (.exit 3))) (.seq (.block 4 (.seq (.reg [oM 51 6,oM 52 13,oO 53 (.idxSl 1 (.t 51) (.t 52)),oO 54 (.load .sc (.t 53)),oM 55 12,oO 56 (.call 14 [(.t 54),(.t 55)] none)]) (.cond (.t 56) (.seq (.reg [oO 4 (.mv (.k (.c (.d (.bool false)))))]) (.ret)) (.skip)))) (.reg [oM 49 13,oO 50 (.bin .add (.t 49) (kI 1)),oM 13 50]))
def ix:aK := .seq (.seq (.reg [oM 24 8,oM 25 1,oO 26 (.len (.t 25)),oO 27 (.bin .lss (.t 24) (.t 26))]) (.cond (.t 27) (.skip) (.exit 0))) (.seq (.block 1 (.seq (.reg [oO 9 (.mv (kI 0))]) (.seq (.seq (.reg [oM 30 1,oM 31 8,oO 32 (.idxSl 1 (.t 30) (.t 31)),oO 33 (.load .sc (.t 32)),oO 34 (.call 8 [(.t 33),(kI 4)] none)]) (.block 2 (.seq (.reg [oO 75 (.bin .eql (.t 34) (kI 0)),oM 74 75]) (.cond (.t 74) (.seq (.reg [oO 10 (.mv (.k (.c .nil)))]) (.seq (.seq (.reg [oO 11 (.mv (kI 0))]) (.block 5 (.loop jP))) (.reg [oO 97 (.load (.ag 6) (.t 5)),oO 98 (.frz (.t 10)),oO 99 (.call 11 [(.t 97),(.t 98)] none),oM 96 99,oO 100 (.extract (.t 96) 0),oO 101 (.extract (.t 96) 1),oN (.store (.ag 6) (.t 5) (.t 100)),oM 9 101]))) (.seq (.reg [oO 103 (.bin .eql (.t 34) (kI 1)),oM 102 103]) (.cond (.t 102) (.reg [oO 105 (.load (.ag 6) (.t 5)),
 oM 106 1,oM 107 8,oO 108 (.idxSl 1 (.t 106) (.t 107)),oO 109 (.load .sc (.t 108)),oO 110 (.bin .quo (.t 109) (kI 4)),oO 111 (.call 8 [(.t 110),(kI 3)] none),oO 112 (.call 12 [(.t 105),(.t 111)] none),oM 104 112,oO 113 (.extract (.t 104) 0),oO 114 (.extract (.t 104) 1),oN (.store (.ag 6) (.t 5) (.t 113)),oM 9 114]) (.seq (.seq (.reg [oO 35 (.fieldAddr 2 (.t 5)),oO 36 (.load .sc (.t 35)),oO 37 (.len (.t 36)),oO 38 (.bin .eql (.t 37) (kI 0))]) (.cond (.t 38) (.exit 1) (.skip))) (.seq (.reg [oO 12 (.mv (.k (.c .nil)))]) (.seq (.reg [oO 40 (.load (.ag 6) (.t 5)),oO 41 (.call 13 [(.t 40)] none),oM 39 41,oO 42 (.extract (.t 39) 0),oO 43 (.extract (.t 39) 1),oO 44 (.extract (.t 39) 2),oN (.store (.ag 6) (.t 5) (.t 42)),oM 12 43,oM 9 44]) (.seq (.seq (.reg [oO 13 (.mv (kI 0))]) (.block 3 (.loop nZ)))
 (.seq (.reg [oM 57 6,oM 58 12,oO 59 (.bldSl false 1 1 (.sl []) [(0,(.t 58))]),oO 60 (.app false 1 24 (.t 57) (.t 59)),oM 6 60]) (.seq (.reg [oO 62 (.load (.ag 6) (.t 5)),oO 63 (.call 15 [(.t 62)] none),oM 61 63,oO 64 (.extract (.t 61) 0),oO 65 (.extract (.t 61) 1),oM 14 64,oM 15 65]) (.seq (.reg [oM 66 15,oO 67 (.bin .neq (.t 66) (kI 0)),oM 68 67,oG 69 (.mv (.t 14)) 68 false,oG 70 (.mv (.t 12)) 68 false,oG 71 (.call 14 [(.t 69),(.t 70)] none) 68 false,oG 72 (.un .not (.t 71)) 68 false,oO 73 (.pick (.t 68) (.k (.c (.d (.bool true)))) (.t 72))]) (.cond (.t 73) (.seq (.reg [oO 4 (.mv (.k (.c (.d (.bool false)))))]) (.ret)) (.skip))))))))))))))) (.seq (.reg [oM 115 9,oO 116 (.bin .neq (.t 115) (kI 0)),oM 117 116,oG 118 (.load (.ag 6) (.t 5)) 117 false,oG 119 (.call 16 [(.t 118)] none) 117 false,
 oG 120 (.un .not (.t 119)) 117 false,oO 121 (.pick (.t 117) (.k (.c (.d (.bool true)))) (.t 120)),oM 122 121,oG 123 (.fieldAddr 2 (.t 5)) 122 false,oG 124 (.load .sc (.t 123)) 122 false,oG 125 (.len (.t 124)) 122 false,oG 126 (.bin .gtr (.t 125) (kI 8)) 122 false,oO 127 (.pick (.t 122) (.k (.c (.d (.bool true)))) (.t 126))]) (.cond (.t 127) (.seq (.reg [oO 4 (.mv (.k (.c (.d (.bool false)))))]) (.ret)) (.skip)))))) (.reg [oM 28 8,oO 29 (.bin .add (.t 28) (kI 1)),oM 8 29]))
def tU:aG:=⟨2,136,.seq (.reg [oO 4 (.mv (.k (.c (.d (.bool false)))))]) (.seq (.seq (.reg [oM 16 1,oO 17 (.len (.t 16)),oO 18 (.bin .gtr (.t 17) (kI 25))]) (.cond (.t 18) (.seq (.reg [oO 19 (.call 7 [] none),oM 4 19]) (.ret)) (.skip))) (.seq (.reg [oM 20 0,oO 21 (.call 8 [(.t 20),(kI 1000)] none),oM 0 21]) (.seq (.reg [oM 22 0,oO 23 (.call 9 [(.t 22),(kI 3)] none),oO 5 (.alloc [.nil,.nil,.nil,.nil,(.d (.int .i64 0)),(.d (.int .i64 0))]),oN (.store (.ag 6) (.t 5) (.t 23))]) (.seq (.reg [oO 6 (.mv (.k (.c .nil)))]) (.seq (.reg [oO 7 (.mv (kI 0))]) (.seq (.seq (.reg [oO 8 (.mv (kI 0))]) (.block 0 (.loop ix))) (.seq (.reg [oO 128 (.call 7 [] none),oM 129 128,oG 130 (.fieldAddr 5 (.t 5)) 129 true,oG 131 (.load .sc (.t 130)) 129 true,oG 132 (.mv (.t 6)) 129 true,oG 133 (.len (.t 132)) 129 true,
 oG 134 (.bin .eql (.t 131) (.t 133)) 129 true,oO 135 (.pick (.t 129) (.t 134) (.k (.c (.d (.bool false))))),oM 4 135]) (.ret)))))))),[(4,none)]⟩
theorem MV:aD Try.prog { own:=[],comp:=[],frz:=[98],nils:=[] } Try.f3=some tU:=by kernel_rfl
set_option maxHeartbeats 1600000 in
theorem Px (G:ak) (seed:Int) (hseed1:-9223372036854775808≤seed) (hseed2:seed≤9223372036854775807) (acts:List Int) (hacts1:acts.length≤maxLen) (hacts2:∀ n∈acts,mZ n) :ap Try.prog G 3 [.int .i64 seed,.sl (acts.map zD)] (.w (.c (.d (.bool true)))):=by
  refine aI Try.func3 MV rfl rfl ?_;have ck:=IZ G;by_cases h25:(acts.length:Int)>25
  ·have g25:=eq_true h25;simp only[tU,ai,ae,aa,seval,iteOmega,toNatUp,g25];refine sD (ck) ?_;exact aO
  ·have g25:=eq_false h25;have r0:=lV seed 1000 (by decide);have e0:=mg G seed 1000 (by decide);obtain⟨s,hs⟩:=Sm r0.1;have hs:gW seed 1000=(s:Int):=hs;rw[hs] at e0 r0;have c1:=F6 G s 3 (by omega) 3 (by decide);have n0:=QX (s:=s) (by omega);generalize bZ s 3=W at *
   unfold bf at c1;simp only[tU,ai,ae,aa,seval,iteOmega,toNatUp,g25];refine sD (e0) ?_;refine sD (c1) ?_;refine bg (iR s acts) (fun x=>acts.length-x.i) (fun x=>ij s x∧x.i≤acts.length) ⟨0,0,[],W⟩ ⟨n0,Rx _⟩ ?_ ?_
   ·refine aA (fun i=>40) ?_ ?_ rfl rfl <;> simp only[bF,bG,bH,bA,bB,aU,Rn,Rq,wx,au,aH,aa,seval,iteOmega,toNatUp] <;> first | rfl | exact⟨rfl,rfl⟩ | skip
   ·rintro⟨i,m,t,j⟩ ⟨ok,hi⟩;have hi:i≤acts.length:=hi;clear e0 c1 n0;by_cases hlt:i<acts.length
    ·have g:=Rb hlt;have fA:=QK (hacts2 _ (Rc hlt));have r1:=lV (acts.getD i 0) 4 (by decide);have e1:=mg G (acts.getD i 0) 4 (by decide);generalize hw:gW (acts.getD i 0) 4=w at *
     generalize acts.getD i 0=A at *
     have gt:=eq_true fA;by_cases w0:w=0
     ·have gw0:(w=0)=True:=eq_true w0;have r2:=lV (A.tdiv 4) 4 (by decide);have e2:=mg G (A.tdiv 4) 4 (by decide);obtain⟨b,hb⟩:=Sm r2.1;have hb:gW (A.tdiv 4) 4=(b:Int):=hb;rw[hb] at e2 r2;obtain⟨pE,ok2⟩:=Pw (k:=b+1) ok (by omega) (by omega) (by omega);have c2:=P3 G j (cn s m (b+1)) (by rw[pi]; omega);rw[show qP j (cn s m (b+1))=jK j (cn s m (b+1)) from if_pos pE,pE] at c2;have c3:=iQ G (jK j (cn s m (b+1)));rw[decide_eq_true ok2.v] at c3;have J8:=(hC ok2.v).2.2.1;have mi:m≤4*i:=ok.mi;generalize jK j (cn s m (b+1))=J at *
      have J8:J.ck.length≤8:=J8;have gJ:((J.ck.length:Int)>8)=False:=eq_false (by omega);unfold bf at c2 c3;rcases t with _ | ⟨t0,r⟩
      ·simp only[ix,iR,bF,bG,bH,bA,bB,aU,Rn,Rq,ae,aa,seval,iteOmega,toNatUp,aR,g,zD];refine sC (e1) ?_;simp only[gw0,ae,aa,seval,iteOmega,toNatUp];refine bg (fT s acts ⟨i,m,[],j⟩) (fun k=>b+1-k) (fun k=>k≤b+1) 0 (Rx _) ?_ ?_
       ·refine aA (fun i=>i) ?_ ?_ rfl rfl <;> simp only[fG,fH,fI,bF,bG,bH,bA,bB,aU,Rn,Rq,Sj,wx,au,aH,aa,seval,iteOmega,toNatUp] <;> first | rfl | exact⟨rfl,rfl⟩ | skip
       ·intro k hk;have tl:=pi s m k;have az:=eJ (cn s m k);by_cases hlt2:k<b+1
        ·have gk:((k:Int)≤(b:Int))=True:=eq_true (by omega);have c4:=oC G ((s+5000000*(m+k+1):Nat):Int) 104 (by decide);have ec:(s:Int)+5000000*((m:Int)+(k:Int)+1)=((s+5000000*(m+k+1):Nat):Int):=by omega
         have hn:cn s m (k+1)=cn s m k++[gQ s (m+k)]:=rfl;rw[show cz ((s+5000000*(m+k+1):Nat):Int) 104=gQ s (m+k) from rfl] at c4;generalize gQ s (m+k)=x at *
         clear c2 c3 ok ok2;rcases k with _ | k
         ·have e3:cn s m (0+1)=[x]:=hn;have ec:(s:Int)+5000000*((m:Int)+1)=((s+5000000*(m+0+1):Nat):Int):=by omega
          simp only[jP,fT,fG,fH,fI,bF,bG,bH,bA,bB,aU,Rn,Rq,ae,aa,seval,iteOmega,toNatUp,aR,g,zD,gt];refine sC (e2) ?_;simp only[gk,ae,aa,seval,iteOmega,toNatUp];rw[ec];refine sC (c4) ?_;simp only[bW,ae,aa,seval,iteOmega,toNatUp];refine aX (0+1) (by omega) (by omega) (aA (fun i=>if i=3 then 760 else i) ?_ ?_ rfl rfl) <;> simp only[fT,fG,fH,fI,bF,bG,bH,bA,bB,aU,Rn,Rq,e3,wx,au,aH,aa,seval,iteOmega,toNatUp] <;> first | rfl | exact⟨rfl,rfl⟩ | skip
         ·simp only[jP,fT,fG,fH,fI,bF,bG,bH,bA,bB,aU,Rn,Rq,ae,aa,seval,iteOmega,toNatUp,aR,g,zD,gt,tl];refine sC (e2) ?_;simp only[gk,ec,ae,aa,seval,iteOmega,toNatUp];refine sC (c4) ?_;simp only[bW,tl,ae,aa,seval,iteOmega,toNatUp];refine aX (k+1+1) (by omega) (by omega) (aA (fun i=>if i=3 then 760 else i) ?_ ?_ rfl rfl) <;> simp only[fT,fG,fH,fI,bF,bG,bH,bA,bB,aU,Rn,Rq,hn,RU,tl,wx,au,aH,aa,seval,iteOmega,toNatUp] <;> first | rfl | exact⟨rfl,rfl⟩ | skip
        ·obtain rfl:k=b+1:=by omega
         have gk:(((b+1:Nat):Int)≤(b:Int))=False:=eq_false (by omega);have tk:(cn s m (b+1)).take (b+1)=cn s m (b+1):=Ro (by omega);simp only[jP,fT,fG,fH,fI,bF,bG,bH,bA,bB,aU,Rn,Rq,ae,aa,seval,iteOmega,toNatUp,aR,g,zD,gt,tl];refine sC (e2) ?_;simp only[gk,tl,tk,ae,aa,seval,iteOmega,toNatUp];refine sD (c2) ?_;refine sC (c3) ?_;simp only[gJ,ae,aa,seval,iteOmega,toNatUp];refine aX ⟨i+1,m+(b+1),[],J⟩ (by show acts.length-(i+1)<acts.length-i; omega) ⟨ok2,by show i+1≤acts.length; omega⟩ (aA (fun i=>i) ?_ ?_ rfl rfl) <;> simp only[bF,bG,bH,bA,bB,aU,Rn,Rq,wx,au,aH,aa,seval,iteOmega,toNatUp] <;> first | rfl | exact⟨rfl,rfl⟩ | skip
      ·simp only[ix,iR,bF,bG,bH,bA,bB,aU,Rn,Rq,ae,aa,seval,iteOmega,toNatUp,aR,g,zD];refine sC (e1) ?_;simp only[gw0,ae,aa,seval,iteOmega,toNatUp];refine bg (fT s acts ⟨i,m,t0::r,j⟩) (fun k=>b+1-k) (fun k=>k≤b+1) 0 (Rx _) ?_ ?_
       ·refine aA (fun i=>i) ?_ ?_ rfl rfl <;> simp only[fG,fH,fI,bF,bG,bH,bA,bB,aU,Rn,Rq,Sj,wx,au,aH,aa,seval,iteOmega,toNatUp] <;> first | rfl | exact⟨rfl,rfl⟩ | skip
       ·intro k hk;have tl:=pi s m k;have az:=eJ (cn s m k);by_cases hlt2:k<b+1
        ·have gk:((k:Int)≤(b:Int))=True:=eq_true (by omega);have c4:=oC G ((s+5000000*(m+k+1):Nat):Int) 104 (by decide);have ec:(s:Int)+5000000*((m:Int)+(k:Int)+1)=((s+5000000*(m+k+1):Nat):Int):=by omega
         have hn:cn s m (k+1)=cn s m k++[gQ s (m+k)]:=rfl;rw[show cz ((s+5000000*(m+k+1):Nat):Int) 104=gQ s (m+k) from rfl] at c4;generalize gQ s (m+k)=x at *
         clear c2 c3 ok ok2;rcases k with _ | k
         ·have e3:cn s m (0+1)=[x]:=hn;have ec:(s:Int)+5000000*((m:Int)+1)=((s+5000000*(m+0+1):Nat):Int):=by omega
          simp only[jP,fT,fG,fH,fI,bF,bG,bH,bA,bB,aU,Rn,Rq,ae,aa,seval,iteOmega,toNatUp,aR,g,zD,gt];refine sC (e2) ?_;simp only[gk,ae,aa,seval,iteOmega,toNatUp];rw[ec];refine sC (c4) ?_;simp only[bW,ae,aa,seval,iteOmega,toNatUp];refine aX (0+1) (by omega) (by omega) (aA (fun i=>if i=3 then 760 else i) ?_ ?_ rfl rfl) <;> simp only[fT,fG,fH,fI,bF,bG,bH,bA,bB,aU,Rn,Rq,e3,wx,au,aH,aa,seval,iteOmega,toNatUp] <;> first | rfl | exact⟨rfl,rfl⟩ | skip
         ·simp only[jP,fT,fG,fH,fI,bF,bG,bH,bA,bB,aU,Rn,Rq,ae,aa,seval,iteOmega,toNatUp,aR,g,zD,gt,tl];refine sC (e2) ?_;simp only[gk,ec,ae,aa,seval,iteOmega,toNatUp];refine sC (c4) ?_;simp only[bW,tl,ae,aa,seval,iteOmega,toNatUp];refine aX (k+1+1) (by omega) (by omega) (aA (fun i=>if i=3 then 760 else i) ?_ ?_ rfl rfl) <;> simp only[fT,fG,fH,fI,bF,bG,bH,bA,bB,aU,Rn,Rq,hn,RU,tl,wx,au,aH,aa,seval,iteOmega,toNatUp] <;> first | rfl | exact⟨rfl,rfl⟩ | skip
        ·obtain rfl:k=b+1:=by omega
         have gk:(((b+1:Nat):Int)≤(b:Int))=False:=eq_false (by omega);have tk:(cn s m (b+1)).take (b+1)=cn s m (b+1):=Ro (by omega);simp only[jP,fT,fG,fH,fI,bF,bG,bH,bA,bB,aU,Rn,Rq,ae,aa,seval,iteOmega,toNatUp,aR,g,zD,gt,tl];refine sC (e2) ?_;simp only[gk,tl,tk,ae,aa,seval,iteOmega,toNatUp];refine sD (c2) ?_;refine sC (c3) ?_;simp only[gJ,ae,aa,seval,iteOmega,toNatUp];refine aX ⟨i+1,m+(b+1),t0::r,J⟩ (by show acts.length-(i+1)<acts.length-i; omega) ⟨ok2,by show i+1≤acts.length; omega⟩ (aA (fun i=>i) ?_ ?_ rfl rfl) <;> simp only[bF,bG,bH,bA,bB,aU,Rn,Rq,wx,au,aH,aa,seval,iteOmega,toNatUp] <;> first | rfl | exact⟨rfl,rfl⟩ | skip
     ·have gw0:(w=0)=False:=eq_false w0;by_cases w1:w=1
      ·have gw1:(w=1)=True:=eq_true w1;have r2:=lV (A.tdiv 4) 3 (by decide);have e2:=mg G (A.tdiv 4) 3 (by decide);generalize gW (A.tdiv 4) 3=q at *
       obtain⟨mE,ok2⟩:=QI (n:=q) ok r2.1;have c2:=P4 G j q;rw[show ns j q=eH j q from if_pos mE,mE] at c2;have c3:=iQ G (eH j q);rw[decide_eq_true ok2.v] at c3;have J8:=(hC ok2.v).2.2.1;generalize eH j q=J at *
       have J8:J.ck.length≤8:=J8;have gJ:((J.ck.length:Int)>8)=False:=eq_false (by omega);unfold bf at c2 c3;rcases t with _ | ⟨t0,r⟩
       ·simp only[ix,iR,bF,bG,bH,bA,bB,aU,Rn,Rq,ae,aa,seval,iteOmega,toNatUp,aR,g,zD];refine sC (e1) ?_;simp only[gw0,gw1,aR,g,zD,gt,ae,aa,seval,iteOmega,toNatUp];refine sD (e2) ?_;refine sD (c2) ?_;refine sC (c3) ?_;simp only[gJ,ae,aa,seval,iteOmega,toNatUp];refine aX ⟨i+1,m,[],J⟩ (by show acts.length-(i+1)<acts.length-i; omega) ⟨ok2,by show i+1≤acts.length; omega⟩ (aA (fun i=>i) ?_ ?_ rfl rfl) <;> simp only[bF,bG,bH,bA,bB,aU,Rn,Rq,wx,au,aH,aa,seval,iteOmega,toNatUp] <;> first | rfl | exact⟨rfl,rfl⟩ | skip
       ·simp only[ix,iR,bF,bG,bH,bA,bB,aU,Rn,Rq,ae,aa,seval,iteOmega,toNatUp,aR,g,zD];refine sC (e1) ?_;simp only[gw0,gw1,aR,g,zD,gt,ae,aa,seval,iteOmega,toNatUp];refine sD (e2) ?_;refine sD (c2) ?_;refine sC (c3) ?_;simp only[gJ,ae,aa,seval,iteOmega,toNatUp];refine aX ⟨i+1,m,t0::r,J⟩ (by show acts.length-(i+1)<acts.length-i; omega) ⟨ok2,by show i+1≤acts.length; omega⟩ (aA (fun i=>i) ?_ ?_ rfl rfl) <;> simp only[bF,bG,bH,bA,bB,aU,Rn,Rq,wx,au,aH,aa,seval,iteOmega,toNatUp] <;> first | rfl | exact⟨rfl,rfl⟩ | skip
      ·have gw1:(w=1)=False:=eq_false w1;by_cases hc:j.ck.length=0
       ·have gc:((j.ck.length:Int)=0)=True:=eq_true (by omega);rcases t with _ | ⟨t0,r⟩
        all_goals
          simp only[ix,iR,bF,bG,bH,bA,bB,aU,Rn,Rq,ae,aa,seval,iteOmega,toNatUp,aR,g,zD];refine sC (e1) ?_;simp only[gw0,gw1,gc,ae,aa,seval,iteOmega,toNatUp];refine aX ⟨i+1,m,_,j⟩ (by show acts.length-(i+1)<acts.length-i; omega) ⟨MU ok,by show i+1≤acts.length; omega⟩ (aA (fun i=>i) ?_ ?_ rfl rfl) <;> simp only[bF,bG,bH,bA,bB,aU,Rn,Rq,wx,au,aH,aa,seval,iteOmega,toNatUp] <;> first | rfl | exact⟨rfl,rfl⟩ | skip
       ·have gc:((j.ck.length:Int)=0)=False:=eq_false (by omega);obtain⟨tE,ok2,tn,aE,aC⟩:=QJ ok (by omega) hc;have c2:=F0 G j;rw[show nl j=bU j from if_pos tE,show nm j=j.ck.getD 0 [] from if_pos tE,tE] at c2;have c3:=iQ G (bU j);rw[decide_eq_true ok2.v] at c3;have c4:=P2 G (bU j);rw[aC,aE] at c4;have J8:=(hC ok2.v).2.2.1;have s1:=BR G (j.ck.getD 0 []) (j.ck.getD 0 []);rw[beq_self_eq_true] at s1;clear tE aE aC;generalize j.ck.getD 0 []=c at *
        generalize bU j=J at *
        have J8:J.ck.length≤8:=J8;have gJ:((J.ck.length:Int)>8)=False:=eq_false (by omega);unfold bf at c2 c3 c4;have tn2:∀ k,k<t.length→ap Try.prog G _ [.sl ((t.getD k []).map bD),.sl (c.map bD)] (.w (.c (.d (.bool false)))):=fun k hk=>by
          have:=BR G (t.getD k []) c;rw[tn k hk] at this;exact this
        have az:=eJ t;have otl:t.length≤i:=ok.tl;clear tn;rcases t with _ | ⟨t0,r⟩
        ·simp only[ix,iR,bF,bG,bH,bA,bB,aU,Rn,Rq,ae,aa,seval,iteOmega,toNatUp,aR,g,zD];refine sC (e1) ?_;simp only[gw0,gw1,gc,ae,aa,seval,iteOmega,toNatUp];refine sD (c2) ?_;refine bg (mO s acts ⟨i,m,[],J⟩ c) (fun k=>0-k) (fun k=>k≤0) 0 (Rx _) ?_ ?_
         ·refine aA (fun i=>i) ?_ ?_ rfl rfl <;> simp only[bF,bG,bH,bA,bB,aU,Rn,Rq,wx,au,aH,aa,seval,iteOmega,toNatUp] <;> first | rfl | exact⟨rfl,rfl⟩ | skip
         ·intro k hk;obtain rfl:k=0:=by omega
          simp only[nZ,mO,bF,bG,bH,bA,bB,aU,Rn,Rq,ae,aa,seval,iteOmega,toNatUp,bW];refine sD (c4) ?_;refine sD (s1) ?_;refine sC (c3) ?_;simp only[gJ,ae,aa,seval,iteOmega,toNatUp];refine aX ⟨i+1,m,[]++[c],J⟩ (by show acts.length-(i+1)<acts.length-i; omega) ⟨ok2,by show i+1≤acts.length; omega⟩ (aA (fun i=>if i=2 then 480 else i) ?_ ?_ rfl rfl) <;> simp only[bF,bG,bH,bA,bB,aU,Rn,Rq,RU,wx,au,aH,aa,seval,iteOmega,toNatUp] <;> first | rfl | exact⟨rfl,rfl⟩ | skip
        ·simp only[ix,iR,bF,bG,bH,bA,bB,aU,Rn,Rq,ae,aa,seval,iteOmega,toNatUp,aR,g,zD];refine sC (e1) ?_;simp only[gw0,gw1,gc,ae,aa,seval,iteOmega,toNatUp];refine sD (c2) ?_;refine bg (mO s acts ⟨i,m,t0::r,J⟩ c) (fun k=>(t0::r).length-k) (fun k=>k≤(t0::r).length) 0 (Rx _) ?_ ?_
         ·refine aA (fun i=>i) ?_ ?_ rfl rfl <;> simp only[bF,bG,bH,bA,bB,aU,Rn,Rq,wx,au,aH,aa,seval,iteOmega,toNatUp] <;> first | rfl | exact⟨rfl,rfl⟩ | skip
         ·intro k hk;have hl:(t0::r).length=r.length+1:=rfl;have az2:cH 1 (D.sl (t0.map bD)::r.map fun l=>D.sl (l.map bD))=true:=az;by_cases hlt2:k<(t0::r).length
          ·have f2:=kx hlt2;have s2:=tn2 k hlt2;have gk:((k:Int)<(r.length:Int)+1)=True:=eq_true (by omega);generalize (t0::r).getD k []=y at *
           have f3:(D.sl (t0.map bD)::r.map fun l=>D.sl (l.map bD))[k]?=some (D.sl (y.map bD)):=by
             show ((t0::r).map fun l=>D.sl (l.map bD))[k]?=_
             rw[Su,f2]; rfl
           clear c2 c3 c4 s1 ok ok2;simp only[nZ,mO,bF,bG,bH,bA,bB,aU,Rn,Rq,ae,aa,seval,iteOmega,toNatUp,f3,gk];refine sD (s2) ?_;refine aX (k+1) (by omega) (by omega) (aA (fun i=>i) ?_ ?_ rfl rfl) <;> simp only[bF,bG,bH,bA,bB,aU,Rn,Rq,wx,au,aH,aa,seval,iteOmega,toNatUp]
          ·have gk:((k:Int)<(r.length:Int)+1)=False:=eq_false (by omega);simp only[nZ,mO,bF,bG,bH,bA,bB,aU,Rn,Rq,ae,aa,seval,iteOmega,toNatUp,gk,bW,az2];refine sD (c4) ?_;refine sD (s1) ?_;refine sC (c3) ?_;simp only[gJ,ae,aa,seval,iteOmega,toNatUp];refine aX ⟨i+1,m,(t0::r)++[c],J⟩ (by show acts.length-(i+1)<acts.length-i; omega) ⟨ok2,by show i+1≤acts.length; omega⟩ (aA (fun i=>if i=2 then 480 else i) ?_ ?_ rfl rfl) <;> simp only[bF,bG,bH,bA,bB,aU,Rn,Rq,RU,wx,au,aH,aa,seval,iteOmega,toNatUp] <;> first | rfl | exact⟨rfl,rfl⟩ | skip
    ·obtain rfl:i=acts.length:=by omega
     have sn:j.sn=(t.length:Int):=ok.sn;rcases t with _ | ⟨t0,r⟩
     all_goals
       simp at sn;have gs:=eq_true sn;simp only[ix,iR,bF,bG,bH,bA,bB,aU,Rn,Rq,ae,aa,seval,iteOmega,toNatUp];refine sC (ck) ?_;simp only[gs,ae,aa,seval,iteOmega,toNatUp];exact aO
end Go.Proofs.Ytofonnokanoflaa
