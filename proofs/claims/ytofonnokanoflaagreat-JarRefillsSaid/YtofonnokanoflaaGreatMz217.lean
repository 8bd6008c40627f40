/- Texts of one's own, merged: from: Layer 18,without code: packets as data,and what the functions return. Own work. -/
import Derived.Test.YtofonnokanoflaaGreatMz213
import Derived.Test.YtofonnokanoflaaGreatMz210
import Derived.Test.YtofonnokanoflaaGreatMz215
import Derived.Test.YtofonnokanoflaaGreatMz211
import Derived.Test.YtofonnokanoflaaGreatMz214
import Derived.Test.YtofonnokanoflaaGreatMz218
import Derived.Test.YtofonnokanoflaaGreatMz29
set_option linter.unusedVariables false
set_option linter.unusedSimpArgs false
namespace Go.Proofs.YtofonnokanoflaaGreat
open Go.RowKit
structure cu where
  hd:Hd
  pl:List Fd
  se:List Fd
  gu:Bool
def ee:cu:=⟨Hd.z,[],[],false⟩
def bz (p:cu):D:=.agg [.int .i64 p.hd.lp,.int .i64 p.hd.vr,.int .i64 p.hd.md,.int .i64 p.hd.st,.int .i64 p.hd.pl,.int .i64 p.hd.pr,.int .u32 (p.hd.rd:Int),.int .u32 (p.hd.rp:Int),.int .u32 (p.hd.ri:Int),.int .u64 (p.hd.rf:Int),.int .u64 (p.hd.og:Int),.int .u64 (p.hd.rc:Int),.int .u64 (p.hd.tr:Int),.sl (p.pl.map aL),.sl (p.se.map aL),.bool p.gu]
def dh (p:cu):Int:=if fj p.hd=0 then bX p.pl else fj p.hd
def cV (p:cu):List UInt8:=dB p.hd++aY p.pl
def xV (p:cu):List UInt8:=if dh p=0 then cV p else []
def fg (b:List UInt8):Int:=if dJ b=0 then cn (b.drop 48) else dJ b
def jn (b:List UInt8):cu:=if fg b=0 then ⟨bS b,aV (b.drop 48),[],false⟩ else ee
def bT (n s:List UInt8):List UInt8:=au n.length 2++(au s.length 2++(dl n 4++dl s 4))
def du (n s:List UInt8):Fd:=⟨1028,bT n s⟩
def fE (key:List UInt8) (p:cu) (n:List UInt8):List UInt8:=nX key [cV p,n] (aY p.se)
def bG (key:List UInt8) (p:cu) (n:List UInt8):Fd:=du n (fE key p n)
def fb (key:List UInt8) (p:cu) (n:List UInt8):Int :=
  if key.length≠32 then 5 else if n.length<16∨32<n.length then 4 else if dh p≠0 then dh p else if bX p.se≠0 then bX p.se else if (aW p.pl 1028).length≠0 then 3 else if p.pl.length=24 then 8 else if bX [bG key p n]≠0∨1280<(cV p).length+bB [bG key p n] then 2 else 0
def cZ (key:List UInt8) (p:cu) (n:List UInt8):List UInt8:=if fb key p n=0 then cV p++aY [bG key p n] else []
def bU (d:List UInt8):Nat:=be (aK d 0 2)
def eG (d:List UInt8):Nat:=be (aK d 2 2)
def dD (d:List UInt8):Nat:=4+(bU d+3) / 4*4
def bq (d:List UInt8):List UInt8:=aK d 4 (bU d)
def bN (d:List UInt8):List UInt8:=aK d (dD d) (eG d)
def eh (d:List UInt8):Prop:=4≤d.length∧16≤bU d∧bU d≤32∧dD d+eG d≤d.length∧bT (bq d) (bN d)=d
instance (d:List UInt8):Decidable (eh d):=by unfold eh; infer_instance
def mE (d:List UInt8):List UInt8:=if eh d then bq d else []
def mF (d:List UInt8):List UInt8:=if eh d then bN d else []
def bY (b:List UInt8):Nat:=(aV (b.drop 48)).length-1
def bO (b:List UInt8):List UInt8:=((aV (b.drop 48)).getD (bY b) default).da
def fF (b:List UInt8):List UInt8:=b.take (48+aC (b.drop 48) (bY b))
def jN (key b:List UInt8):Int:=gj key [fF b,bq (bO b)] (bN (bO b))
def dY (key b:List UInt8):List UInt8:=gZ key [fF b,bq (bO b)] (bN (bO b))
def eH (key b:List UInt8):Int :=
  if key.length≠32 then 5 else if fg b≠0 then fg b else if (aW (aV (b.drop 48)) 1028).length=0 then 10 else if (aW (aV (b.drop 48)) 1028).getD 0 0≠(bY b:Int)∨¬ eh (bO b) then 3 else if jN key b≠0 then 6 else cn (dY key b)
def dL (key b:List UInt8):cu:=if eH key b=0 then ⟨bS b,(aV (b.drop 48)).take (bY b),aV (dY key b),true⟩ else ee
theorem Cm (b:List UInt8):dl b 4=b++List.replicate (eJ b.length 4) 0:=Av b (n:=4) (by decide)
theorem aaq (n:Nat):n+eJ n 4=(n+3) / 4*4:=by unfold eJ; omega
theorem rt (b:List UInt8):(dl b 4).length=(b.length+3) / 4*4:=by rw[Cm,abJ,ab3,aaq]
theorem lS (n s:List UInt8):(bT n s).length=4+(n.length+3) / 4*4+(s.length+3) / 4*4:=by
  unfold bT;simp only[abJ,bP,rt]; omega
theorem nY {n s:List UInt8} (h:12≤(bT n s).length):bc (du n s)=4+(bT n s).length:=by
  have:=lS n s;unfold bc du;dsimp only;omega
theorem V7 {n s:List UInt8} (h:12≤(bT n s).length):gm (du n s)=du n s:=by
  unfold gm;rw[nY h];have:(du n s).da=bT n s:=rfl;rw[this,show 4+(bT n s).length-4-(bT n s).length=0 by omega,acO,abP];rfl
theorem Cn {n s:List UInt8} (h:12≤(bT n s).length) (h2:4+(bT n s).length≤1232):ca (du n s)=0:=Nh (by show (0:Int)≤1028; decide) (by show (1028:Int)≤65535; decide) (by rw[nY h]; exact h2)
theorem aar {n s:List UInt8} (h:16≤n.length):20≤(bT n s).length:=by rw[lS]; omega
theorem TO {n s:List UInt8} (h1:16≤n.length) (h2:n.length≤32) (h3:s.length<65536):eh (bT n s)∧bq (bT n s)=n∧bN (bT n s)=s:=by
  have hl:=lS n s;have a1:bU (bT n s)=n.length:=by
    unfold bU bT;have:=rE [] (au n.length 2) (au s.length 2++(dl n 4++dl s 4));rw[acE,bP] at this;rw[show ([]:List UInt8).length=0 from rfl] at this;rw[this,get_put 2 (by decide)]; omega
  have a2:eG (bT n s)=s.length:=by
    unfold eG bT;have:=rE (au n.length 2) (au s.length 2) (dl n 4++dl s 4);rw[bP,bP] at this;rw[this,get_put 2 (by decide)]; omega
  have a3:dD (bT n s)=4+(n.length+3) / 4*4:=by unfold dD; rw[a1]
  have b1:bq (bT n s)=n:=by
    unfold bq;have:=rE (au n.length 2++au s.length 2) n (List.replicate (eJ n.length 4) 0++dl s 4);rw[abJ,bP,bP] at this;rw[a1];unfold bT;rw[← abV,Cm n,abV n];exact this
  have b2:bN (bT n s)=s:=by
    unfold bN;rw[a2,a3];unfold bT;rw[← abV,← abV];have:=rE (au n.length 2++au s.length 2++dl n 4) s (List.replicate (eJ s.length 4) 0);rw[abJ,abJ,bP,bP,rt] at this;rw[Cm s];exact this
  refine⟨⟨by omega,by omega,by omega,by omega,by rw[b1,b2]⟩,b1,b2⟩
theorem KR (l r:List Fd) (k:Int):∀ n,n≤l.length→df (l++r) k n=df l k n
  | 0,_=>rfl
  | n+1,h=>by
    rw[df,df,KR l r k n (by omega)];have:(l++r).getD n default=l.getD n default:=by
      rw[abI,abI,acg (by omega)]
    rw[this]
theorem KS (l:List Fd) (k:Int):∀ n,n≤l.length→df (l.map gm) k n=df l k n
  | 0,_=>rfl
  | n+1,h=>by
    rw[df,df,KS l k n (by omega)];have:((l.map gm).getD n default).ty=(l.getD n default).ty:=by
      rw[abI,abI,acG];rw[abF (by omega)];rfl
    rw[this]
theorem Il {l:List Fd} {k:Int} (h:∀ f∈l,f.ty≠k):∀ n,n≤l.length→df l k n=[]
  | 0,_=>rfl
  | n+1,hn=>by
    rw[xk (h _ (pg (by omega))),Il h n (by omega)]
theorem TP {l:List Fd} {f:Fd} {k:Int} (h:(aW l k).length=0) (hf:f.ty=k):aW (l++[f]) k=[(l.length:Int)]:=by
  unfold aW;rw[abJ,acI,xj (by simp[hf]),KR l [f] k _ (abR _)];have:df l k l.length=[]:=acs h;rw[this,acE]
theorem Co {h:Hd}:fj h=0↔jl h=true:=by
  unfold fj;split <;> simp_all
theorem Cq {p:cu} (h:dh p=0):jl p.hd=true∧fj p.hd=0∧bX p.pl=0:=by
  unfold dh at h;split at h
  ·rename_i h0; exact⟨Co.1 h0,h0,h⟩
  ·rename_i h0; exact absurd h h0
theorem nZ {l:List Fd} (h:bX l=0):(∀ f∈l,ca f=0)∧l.length≤24∧bB l≤1232∧eZ l=aY l:=by
  have hB:eZ l=aY l:=if_pos h;unfold bX at h;split at h
  ·rename_i h0;split at h
   ·cases h
   ·split at h
    ·cases h
    ·exact⟨qh.1 h0,by omega,by omega,hB⟩
  ·rename_i h0; exact absurd h h0
theorem pQ {l:List Fd} (h1:∀ f∈l,ca f=0) (h2:l.length≤24) (h3:bB l≤1232):bX l=0:=(AK (qh.2 h1) h2 h3).1
theorem mL (p:cu):(cV p).length=48+bB p.pl:=by unfold cV; rw[abJ,vH,fQ]
theorem wq {key a n:List UInt8} {m:Int} (hk:key.length=32) (ha:a.length≤65519) (hn:n.length≤65519) (hm:m≤65519):cp key [a,n] m=0:=TG hk (by simp) (fun x hx=>by simp at hx; rcases hx with rfl | rfl <;> assumption) hm
structure qF (key:List UInt8) (p:cu) (n:List UInt8):Prop where
  ky:key.length=32
  n1:16≤n.length
  n2:n.length≤32
  un:dh p=0
  se:bX p.se=0
  no:(aW p.pl 1028).length=0
  lt:p.pl.length≤23
  gd:ca (bG key p n)=0
  all:48+bB p.pl+bc (bG key p n)≤1280
theorem sL {key:List UInt8} {p:cu} {n:List UInt8} (h:qF key p n):fb key p n=0∧cZ key p n=cV p++aY [bG key p n]:=by
  have ht:bB [bG key p n]=bc (bG key p n):=by simp[bB]
  have hx:bX [bG key p n]=0:=pQ (fun f hf=>by simp at hf; subst hf; exact h.gd) (by simp) (by rw[ht]; exact (mZ h.gd).2.2);have e:fb key p n=0:=by
    unfold fb;have a:=h.ky; have b:=h.n1; have c:=h.n2; have d:=h.lt; have f:=h.all
    rw[if_neg (by omega),if_neg (by omega),if_neg (by simp[h.un]),if_neg (by simp[h.se]),if_neg (by simp[h.no]),if_neg (by omega),if_neg];rw[mL,ht];rintro (k | k)
    ·exact k hx
    ·omega
  exact⟨e,if_pos e⟩
theorem V8 {key:List UInt8} {p:cu} {n:List UInt8} (h:qF key p n):cp key [cV p,n] ((aY p.se).length:Int)=0∧(fE key p n).length=16+bB p.se∧bB p.se≤1232:=by
  have h1:=(nZ h.se).2.2.1;have h2:=(nZ (Cq h.un).2.2).2.2.1;have h3:=h.n2;have ha:cp key [cV p,n] ((aY p.se).length:Int)=0:=wq h.ky (by rw[mL]; omega) (by omega) (by rw[fQ]; omega);refine⟨ha,?_,h1⟩;unfold fE;rw[rD ha,abJ,kL,lI,fQ]
theorem V9 {key:List UInt8} {p:cu} {n:List UInt8} (fit:mC p.hd) (h:qF key p n):fg (cZ key p n)=0∧jn (cZ key p n)=⟨p.hd,p.pl.map gm++[bG key p n],[],false⟩∧eH key (cZ key p n)=0∧dL key (cZ key p n)=⟨p.hd,p.pl.map gm,p.se.map gm,true⟩:=by
  obtain⟨k0,k1⟩:=sL h;obtain⟨u1,u2,u3⟩:=Cq h.un;obtain⟨f1,f2,f3,f4⟩:=nZ u3;obtain⟨s1,s2,s3⟩:=V8 h;have hR:ly p.hd:=of_decide_eq_true u1;have hn:=h.n1; have hn2:=h.n2; have hlt:=h.lt; have hall:=h.all
  have g1:20≤(bT n (fE key p n)).length:=aar hn;have gp:gm (bG key p n)=bG key p n:=V7 (by omega);obtain⟨q1,q2,q3⟩:=TO (n:=n) (s:=fE key p n) hn hn2 (by omega);have hG:aY (p.pl++[bG key p n])=aY p.pl++aY [bG key p n]:=vg _ _;have hB:cZ key p n=dB p.hd++aY (p.pl++[bG key p n]):=by rw[k1,cV,abV,hG]
  have hT:bB (p.pl++[bG key p n])=bB p.pl+bc (bG key p n):=by rw[rF]; simp[bB]
  have ok:∀ f∈p.pl++[bG key p n],ca f=0:=fun f hf=>by
    rcases ab5.1 hf with hf | hf
    ·exact f1 f hf
    ·rw[abU.1 hf]; exact h.gd
  have e0:bX (p.pl++[bG key p n])=0:=pQ ok (by simp; omega) (by omega);obtain⟨d1,d2,_⟩:=KF e0;have hbk:=VC hR fit (aY (p.pl++[bG key p n]));have hdr:(cZ key p n).drop 48=aY (p.pl++[bG key p n]):=by
    have:=List.drop_left (l₁:=dB p.hd) (l₂:=aY (p.pl++[bG key p n]));rw[vH] at this;rw[hB]; exact this
  have hlen:(cZ key p n).length=48+(bB p.pl+bc (bG key p n)):=by rw[hB,abJ,vH,fQ,hT]
  have hde:dJ (cZ key p n)=0:=by
    unfold dJ;rw[if_neg (by omega),if_neg (by omega),hB,hbk,if_pos hR.2.2.1]
  have hg:bS (cZ key p n)=p.hd:=by rw[hB,hbk]
  rw[abT,List.map_singleton,gp] at d2;have r0:fg (cZ key p n)=0:=by unfold fg; rw[if_pos hde,hdr,d1]
  have lL:bY (cZ key p n)=p.pl.length:=by unfold bY; rw[hdr,d2]; simp
  have hgd:bO (cZ key p n)=bT n (fE key p n):=by
    unfold bO;rw[lL,hdr,d2];simp[bG,du]
  have hpl:aC (aY (p.pl++[bG key p n])) p.pl.length=bB p.pl:=by
    rw[lZ _ ok _ (by simp),List.take_left]
  have hA:fF (cZ key p n)=cV p:=by
    unfold fF;rw[lL,hdr,hpl,k1,← mL,List.take_left]
  obtain⟨o1,o2⟩:=TH s1;rw[← rD s1] at o1 o2;have x1:jN key (cZ key p n)=0:=by unfold jN; rw[hA,hgd,q2,q3]; exact o1
  have x2:dY key (cZ key p n)=aY p.se:=by unfold dY; rw[hA,hgd,q2,q3]; exact o2
  obtain⟨t1,t2,_⟩:=KF h.se;have hfn:aW (p.pl.map gm++[bG key p n]) 1028=[(p.pl.length:Int)]:=by
    have:=TP (l:=p.pl.map gm) (f:=bG key p n) (k:=1028) (by
      unfold aW;rw[abY,KS _ _ _ (abR _)];exact h.no) rfl
    rw[abY] at this;exact this
  have o0:eH key (cZ key p n)=0:=by
    unfold eH;rw[if_neg (by simp[h.ky]),if_neg (by simp[r0]),hdr,d2,hfn,lL,hgd,x1,x2,t1];simp[q1]
  refine⟨r0,?_,o0,?_⟩
  ·unfold jn;rw[if_pos r0,hg,hdr,d2]
  ·unfold dL;rw[if_pos o0,hg,hdr,d2,lL,x2,t2]
   congr 1
   have:=List.take_left (l₁:=p.pl.map gm) (l₂:=[bG key p n]);rw[abY] at this;exact this
structure Jr where
  up:List UInt8
  dn:List UInt8
  ck:List (List UInt8)
  la:List UInt8
  nw:Int
  sn:Int
def bK (j:Jr):D:=.agg [.sl (j.up.map bD),.sl (j.dn.map bD),.sl (j.ck.map fun l=>D.sl (l.map bD)),.sl (j.la.map bD),.int .i64 j.nw,.int .i64 j.sn]
def dE:Jr:=⟨[],[],[],[],0,0⟩
theorem kx {l:List (List UInt8)} {i:Nat} (h:i<l.length):l[i]?=some (l.getD i []):=by
  rw[abI,abF h]; rfl
theorem kz {l:List (List UInt8)} {i:Nat} (h:i<l.length):l.getD i []∈l:=by
  rw[abI,abF h];exact aca h
theorem qP {l:List (List UInt8)} {i:Nat} (h:i<l.length):l.take (i+1)=l.take i++[l.getD i []]:=by
  rw[adg,kx h]; rfl
def fm (l:List (List UInt8)) (c:List UInt8):Bool:=l.any (·==c)
theorem KT {l:List (List UInt8)} {c:List UInt8}:fm l c=true↔c∈l:=by
  unfold fm;rw[adG];exact⟨fun ⟨x,hx,e⟩=>by rw[← beq_iff_eq.1 e]; exact hx,fun h=>⟨c,h,beq_self_eq_true c⟩⟩
theorem nQ {l:List (List UInt8)} {c:List UInt8}:fm l c=false↔c∉l:=by
  rw[← KT,Bool.not_eq_true]
def jO (l:List (List UInt8)) (i:Nat):Prop:=(l.getD i []).length=104∧fm (l.take i) (l.getD i [])=false
def i9 (j:Jr):Prop:=j.up.length=32∧j.dn.length=32∧j.ck.length≤8∧(j.la.length=0∨j.la.length=104)∧fm j.ck j.la=false∧0≤j.nw∧0≤j.sn∧j.sn≤1099511627776
instance (j:Jr):Decidable (i9 j):=by unfold i9; infer_instance
instance (l:List (List UInt8)) (i:Nat):Decidable (jO l i):=by unfold jO; infer_instance
def di (j:Jr):Prop:=i9 j∧∀ i,i<j.ck.length→jO j.ck i
instance (j:Jr):Decidable (di j):=by unfold di; infer_instance
theorem YO {l:List (List UInt8)}:(∀ i,i<l.length→fm (l.take i) (l.getD i [])=false)↔l.Nodup:=by
  rw[List.nodup_iff_pairwise_ne,List.pairwise_iff_getElem];constructor
  ·intro h i k hi hk hik e;have:=nQ.1 (h k hk);rw[abI,abF hk] at this;exact this (List.mem_take_iff_getElem.2 ⟨i,by omega,e⟩)
  ·intro h k hk;refine nQ.2 fun hm=>?_
   obtain⟨i,hi,e⟩:=List.mem_take_iff_getElem.1 hm;rw[abI,abF hk] at e;exact h i k (by omega) hk (by omega) e
theorem lT {j:Jr}:di j↔i9 j∧(∀ c∈j.ck,c.length=104)∧j.ck.Nodup:=by
  unfold di jO;rw[← YO];constructor
  ·rintro⟨h,a⟩;refine⟨h,fun c hc=>?_,fun i hi=>(a i hi).2⟩;obtain⟨i,hi,rfl⟩:=acj hc;have:=(a i hi).1;rw[abI,abF hi] at this;exact this
  ·rintro⟨h,a,b⟩;exact⟨h,fun i hi=>⟨a _ (kz hi),b i hi⟩⟩
def fG (j:Jr):Int:=if ¬ di j then 3 else if j.ck.length=0 then 10 else if j.sn=1099511627776 then 7 else 0
def bV (j:Jr):Jr:=⟨j.up,j.dn,j.ck.drop 1,j.ck.getD 0 [],j.nw,j.sn+1⟩
def xW (j:Jr):Jr:=if fG j=0 then bV j else dE
def xX (j:Jr):List UInt8:=if fG j=0 then j.ck.getD 0 [] else []
def qQ (j:Jr):Int:=if di j then 0 else 3
def qR (j:Jr):Int:=if di j then 8-(j.ck.length:Int) else 0
def qG (la:List UInt8) (l:List (List UInt8)) (c:List UInt8):Bool:=!fm l c&&(!(la==c)&&decide (l.length<8))
def jP (la:List UInt8) (l:List (List UInt8)) (c:List UInt8):List (List UInt8):=if qG la l c=true then l++[c] else l
def cq (la:List UInt8) (l cs:List (List UInt8)):List (List UInt8):=cs.foldl (jP la) l
def dT (cs:List (List UInt8)):Bool:=cs.all fun c=>c.length==104
def lz (j:Jr) (cs:List (List UInt8)):Int:=if ¬ di j then 3 else if dT cs=true then 0 else 3
def ir (j:Jr) (cs:List (List UInt8)):Jr:=⟨j.up,j.dn,cq j.la j.ck cs,j.la,j.nw,j.sn⟩
def tM (j:Jr) (cs:List (List UInt8)):Jr:=if lz j cs=0 then ir j cs else dE
theorem kF {cs:List (List UInt8)}:dT cs=true↔∀ c∈cs,c.length=104:=by
  unfold dT;rw[abZ];exact⟨fun h c hc=>beq_iff_eq.1 (h c hc),fun h c hc=>beq_iff_eq.2 (h c hc)⟩
theorem Im (la:List UInt8) (l cs:List (List UInt8)) (c:List UInt8):cq la l (cs++[c])=jP la (cq la l cs) c:=by
  unfold cq;rw[List.foldl_append]; rfl
theorem KU {la:List UInt8} {l:List (List UInt8)}:∀ cs:List (List UInt8),l.length≤8→(cq la l cs).length≤8:=by
  intro cs
  induction cs generalizing l with
  | nil=>exact id
  | cons c cs ih =>
    intro h;refine ih (l:=jP la l c) ?_;unfold jP;split
    ·rename_i g;unfold qG at g;rw[acf,acf] at g;have:=of_decide_eq_true g.2.2;rw[abJ,acI]; omega
    ·exact h
def oC:Fd:=⟨772,List.replicate 104 0⟩
def cR (u c:List UInt8) (n:Nat):List Fd:=[⟨260,u⟩,⟨516,c⟩]++List.replicate n oC
def gO (j:Jr) (t:Nat) (u:List UInt8):cu:=⟨fe t,cR u (j.ck.getD 0 []) (8-j.ck.length),[],false⟩
def iu (j:Jr) (u n:List UInt8):Int:=if ¬ di j∨u.length≠32∨n.length≠16 then 3 else fG j
def tN (j:Jr) (u n:List UInt8):Jr:=if iu j u n=0 then bV j else dE
def tO (j:Jr) (t:Nat) (u n:List UInt8):List UInt8:=if iu j u n=0 then cZ j.up (gO j t u) n else []
def bH (l:List Fd):List (List UInt8):=(l.filter fun f=>decide (f.ty=516)).map Fd.da
def lA (u b:List UInt8) (p:cu):Bool:=match aW p.pl 260 with
  | [i]=>(p.pl.getD i.toNat default).da==u
  | _=>false
def dR (j:Jr) (u b:List UInt8):Int:=if ¬ di j∨u.length≠32 then 3 else if eH j.dn b≠0 then eH j.dn b else if (dL j.dn b).hd.md≠4 then 3 else if lA u b (dL j.dn b)=false then 7 else if dT (bH (dL j.dn b).se)=true then 0 else 3
def lC (j:Jr) (u b:List UInt8):Jr:=if dR j u b=0 then ir j (bH (dL j.dn b).se) else dE
def lD (j:Jr) (u b:List UInt8):cu:=if dR j u b=0 then dL j.dn b else ee
theorem Nt (l:List Fd) (k:Int):∀ n,n≤l.length→(df l k n).map (fun i=>(l.getD i.toNat default).da)=((l.take n).filter fun f=>decide (f.ty=k)).map Fd.da
  | 0,_=>rfl
  | n+1,h=>by
    have hn:=Nt l k n (by omega);have ht:l.take (n+1)=l.take n++[l.getD n default]:=by
      rw[adg,abI,abF (by omega)]; rfl
    rw[ht,List.filter_append,abT,← hn];by_cases hk:(l.getD n default).ty=k
    ·rw[xj hk,abT,List.filter_cons_of_pos (by rw[hk]; simp)]; rfl
    ·rw[xk hk,List.filter_cons_of_neg (by simpa using hk),List.filter_nil,abS,abP]
theorem YP (l:List Fd):(aW l 516).map (fun i=>(l.getD i.toNat default).da)=bH l:=by
  have:=Nt l 516 l.length (abR _);rw[ab8] at this;exact this
open IntWalk
set_option maxHeartbeats 3200000
theorem aas {l:List (List UInt8)} {c:List UInt8} {i:Nat} (h:i<l.length):fm (l.take (i+1)) c=(fm (l.take i) c || (l.getD i []==c)):=by
  unfold fm;rw[qP h,List.any_append,List.any_cons,List.any_nil,Bool.or_false]
theorem YQ {l:List (List UInt8)} {c:List UInt8} {i:Nat} (h:i<l.length) (e:(l.getD i []==c)=true):fm l c=true:=KT.2 (by rw[← beq_iff_eq.1 e]; exact kz h)
def xn (l:List (List UInt8)) (c:List UInt8) (i:Nat):St:=⟨aT [(0,.w (.c (.d (.sl (l.map fun x=>D.sl (x.map bD)))))),(1,.w (.c (.d (.sl (c.map bD))))),(5,.w (.c (.d (.int .i64 (i:Int)))))],hL [],uL []⟩
def vh:aS := .seq (.seq (.reg [oM 6 5,oM 7 0,oO 8 (.len (.t 7)),oO 9 (.bin .lss (.t 6) (.t 8))]) (.cond (.t 9) (.skip) (.exit 0))) (.seq (.block 1 (.seq (.reg [oM 12 0,oM 13 5,oO 14 (.idxSl 1 (.t 12) (.t 13)),oO 15 (.load .sc (.t 14)),oM 16 1,oO 17 (.call 12 [(.t 15),(.t 16)] none)]) (.cond (.t 17) (.seq (.reg [oO 4 (.mv (.k (.c (.d (.bool true)))))]) (.ret)) (.skip)))) (.reg [oM 10 5,oO 11 (.bin .add (.t 10) (kI 1)),oM 5 11]))
def Nu:aG:=⟨2,18,.seq (.reg [oO 4 (.mv (.k (.c (.d (.bool false)))))]) (.seq (.seq (.reg [oO 5 (.mv (kI 0))]) (.block 0 (.loop vh))) (.seq (.reg [oO 4 (.mv (.k (.c (.d (.bool false)))))]) (.ret))),[(4,none)]⟩
theorem YR:aF Tryz.prog { own:=[],comp:=[],frz:=[],nils:=[] } Tryz.f56=some Nu:=by kernel_rfl
theorem Cr (G:ah) (l:List (List UInt8)) (c:List UInt8) (hl:l.length≤9000000000000000000):aB Tryz.prog G 56 [.sl (l.map fun x=>D.sl (x.map bD)),.sl (c.map bD)] (.w (.c (.d (.bool (fm l c))))):=by
  refine aI Tryz.func56 YR rfl rfl ?_;simp only[Nu,af,ae,aa,seval,iteOmega,toNatUp];refine ba (xn l c) (fun i=>l.length-i) (fun i=>i≤l.length∧fm (l.take i) c=false) 0 ⟨abM _,by rw[ac1]; rfl⟩ ?_ ?_
  ·refine ap (fun _=>0) ?_ ?_ rfl rfl <;> simp only[wx,aj,ar,aa,seval,iteOmega,toNatUp] <;> first | rfl | exact⟨rfl,rfl⟩ | skip
  ·rintro i ⟨hi,hp⟩;by_cases hlt:i<l.length
   ·have g:=kx hlt;have hs:=aas (c:=c) hlt;have ha:=YQ (c:=c) hlt;generalize l.getD i []=x at *
    have c1:=rP G x c;cases hx:x==c
    ·rw[hx] at c1 hs;rw[hp] at hs;simp only[vh,xn,ae,aa,seval,iteOmega,toNatUp,aD,g];refine sD (c1) ?_;refine aU (i+1) (by omega) ⟨by omega,hs⟩ (ap (fun i=>i) ?_ ?_ rfl rfl) <;> simp only[wx,aj,ar,aa,seval,iteOmega,toNatUp] <;> first | rfl | exact⟨rfl,rfl⟩ | skip
    ·rw[hx] at c1;rw[ha hx];simp only[vh,xn,ae,aa,seval,iteOmega,toNatUp,aD,g];refine sD (c1) ?_;exact aM
   ·rw[abH (by omega)] at hp;rw[hp];simp only[vh,xn,ae,aa,seval,iteOmega,toNatUp];exact aM
def bZ (j:Jr):List D:=[.sl (j.up.map bD),.sl (j.dn.map bD),.sl (j.ck.map fun l=>D.sl (l.map bD)),.sl (j.la.map bD),.int .i64 j.nw,.int .i64 j.sn]
def s7 (j:Jr) (i:Nat):St:=⟨aT [(1,.w (.c (.rp (bZ j)))),(3,.w (.c (.d (.int .i64 (i:Int)))))],hL [],uL []⟩
def rG:aS := .seq (.seq (.reg [oM 56 3,oO 57 (.fieldAddr 2 (.t 1)),oO 58 (.load .sc (.t 57)),oO 59 (.len (.t 58)),oO 60 (.bin .lss (.t 56) (.t 59))]) (.cond (.t 60) (.skip) (.exit 0))) (.seq (.block 1 (.seq (.reg [oO 63 (.fieldAddr 2 (.t 1)),oO 64 (.load .sc (.t 63)),oM 65 3,oO 66 (.idxSl 1 (.t 64) (.t 65)),oO 67 (.load .sc (.t 66)),oO 68 (.len (.t 67)),oO 69 (.bin .neq (.t 68) (kI 104)),oM 70 69,oG 71 (.fieldAddr 2 (.t 1)) 70 false,oG 72 (.load .sc (.t 71)) 70 false,oG 73 (.mv (.t 3)) 70 false,oG 74 (.slice 1 (.t 72) none (some (.t 73)) none) 70 false,oG 75 (.fieldAddr 2 (.t 1)) 70 false,oG 76 (.load .sc (.t 75)) 70 false,oG 77 (.mv (.t 3)) 70 false,oG 78 (.idxSl 1 (.t 76) (.t 77)) 70 false,oG 79 (.load .sc (.t 78)) 70 false,oG 80 (.call 56 [(.t 74),(.t 79)] none) 70 false,oO 81 (.pick (.t 70) (.k (.c (.d (.bool true)))) (.t 80))])
 (.cond (.t 81) (.seq (.reg [oO 2 (.mv (.k (.c (.d (.bool false)))))]) (.ret)) (.skip)))) (.reg [oM 61 3,oO 62 (.bin .add (.t 61) (kI 1)),oM 3 62]))
def kY:aG:=⟨1,82,.seq (.reg [oO 1 (.box .roBox (.t 0)),oO 2 (.mv (.k (.c (.d (.bool false)))))]) (.seq (.seq (.reg [oO 4 (.fieldAddr 0 (.t 1)),oO 5 (.fieldAddr 0 (.t 4)),oO 6 (.load .sc (.t 5)),oO 7 (.len (.t 6)),oO 8 (.bin .neq (.t 7) (kI 32)),oM 9 8,oG 10 (.fieldAddr 0 (.t 1)) 9 false,oG 11 (.fieldAddr 1 (.t 10)) 9 false,oG 12 (.load .sc (.t 11)) 9 false,oG 13 (.len (.t 12)) 9 false,oG 14 (.bin .neq (.t 13) (kI 32)) 9 false,oO 15 (.pick (.t 9) (.k (.c (.d (.bool true)))) (.t 14)),oM 16 15,oG 17 (.fieldAddr 2 (.t 1)) 16 false,oG 18 (.load .sc (.t 17)) 16 false,oG 19 (.len (.t 18)) 16 false,oG 20 (.bin .gtr (.t 19) (kI 8)) 16 false,oO 21 (.pick (.t 16) (.k (.c (.d (.bool true)))) (.t 20)),oM 22 21,oG 23 (.fieldAddr 3 (.t 1)) 22 false,oG 24 (.load .sc (.t 23)) 22 false,oG 25 (.len (.t 24)) 22 false,
 oG 26 (.bin .neq (.t 25) (kI 0)) 22 false,oG 27 (.mv (.t 26)) 22 false,oG 28 (.fieldAddr 3 (.t 1)) 27 true,oG 29 (.load .sc (.t 28)) 27 true,oG 30 (.len (.t 29)) 27 true,oG 31 (.bin .neq (.t 30) (kI 104)) 27 true,oG 32 (.pick (.t 27) (.t 31) (.k (.c (.d (.bool false))))) 22 false,oO 33 (.pick (.t 22) (.k (.c (.d (.bool true)))) (.t 32)),oM 34 33,oG 35 (.fieldAddr 2 (.t 1)) 34 false,oG 36 (.load .sc (.t 35)) 34 false,oG 37 (.fieldAddr 3 (.t 1)) 34 false,oG 38 (.load .sc (.t 37)) 34 false,oG 39 (.call 56 [(.t 36),(.t 38)] none) 34 false,oO 40 (.pick (.t 34) (.k (.c (.d (.bool true)))) (.t 39)),oM 41 40,oG 42 (.fieldAddr 4 (.t 1)) 41 false,oG 43 (.load .sc (.t 42)) 41 false,oG 44 (.bin .lss (.t 43) (kI 0)) 41 false,oO 45 (.pick (.t 41) (.k (.c (.d (.bool true)))) (.t 44)),oM 46 45,oG 47 (.fieldAddr 5 (.t 1)) 46 false,
 oG 48 (.load .sc (.t 47)) 46 false,oG 49 (.bin .lss (.t 48) (kI 0)) 46 false,oO 50 (.pick (.t 46) (.k (.c (.d (.bool true)))) (.t 49)),oM 51 50,oG 52 (.fieldAddr 5 (.t 1)) 51 false,oG 53 (.load .sc (.t 52)) 51 false,oG 54 (.bin .gtr (.t 53) (kI 1099511627776)) 51 false,oO 55 (.pick (.t 51) (.k (.c (.d (.bool true)))) (.t 54))]) (.cond (.t 55) (.seq (.reg [oO 2 (.mv (.k (.c (.d (.bool false)))))]) (.ret)) (.skip))) (.seq (.seq (.reg [oO 3 (.mv (kI 0))]) (.block 0 (.loop rG))) (.seq (.reg [oO 2 (.mv (.k (.c (.d (.bool true)))))]) (.ret)))),[(2,none)]⟩
theorem YS:aF Tryz.prog { own:=[],comp:=[],frz:=[],nils:=[] } Tryz.f26=some kY:=by kernel_rfl
theorem O8 (G:ah) (j:Jr):aB Tryz.prog G 26 [bK j] (.w (.c (.d (.bool (decide (di j)))))):=by
  refine aI Tryz.func26 YS rfl rfl ?_;have no:¬ i9 j→decide (di j)=false:=fun h=>decide_eq_false fun v=>h v.1
  unfold bK;by_cases h1:j.up.length=32
  ·have g1:((j.up.length:Int)=32)=True:=eq_true (by omega);by_cases h2:j.dn.length=32
   ·have g2:((j.dn.length:Int)=32)=True:=eq_true (by omega);by_cases h3:8<j.ck.length
    ·have g3:((j.ck.length:Int)>8)=True:=eq_true (by omega);rw[no (fun h=>by unfold i9 at h; omega)];simp only[kY,af,ae,aa,seval,iteOmega,toNatUp,g1,g2,g3];exact aM
    ·have g3:((j.ck.length:Int)>8)=False:=eq_false (by omega);have c1:=Cr G j.ck j.la (by omega);by_cases h4:j.la.length=0∨j.la.length=104
     ·rcases h4 with h4 | h4
      all_goals
        have hm:=congrArg (Nat.cast (R:=Int)) h4;simp only[adx] at hm;cases hb:fm j.ck j.la
        ·rw[hb] at c1;by_cases h5:j.nw<0
         ·have g5:(j.nw<0)=True:=eq_true h5;rw[no (fun h=>by unfold i9 at h; omega)];simp only[kY,af,ae,aa,seval,iteOmega,toNatUp,g1,g2,g3,hm];refine sC (c1) ?_;simp only[g5,ae,aa,seval,iteOmega,toNatUp];exact aM
         ·have g5:(j.nw<0)=False:=eq_false h5;by_cases h6:j.sn<0
          ·have g6:(j.sn<0)=True:=eq_true h6;rw[no (fun h=>by unfold i9 at h; omega)];simp only[kY,af,ae,aa,seval,iteOmega,toNatUp,g1,g2,g3,hm];refine sC (c1) ?_;simp only[g5,g6,ae,aa,seval,iteOmega,toNatUp];exact aM
          ·have g6:(j.sn<0)=False:=eq_false h6;by_cases h7:1099511627776<j.sn
           ·have g7:(j.sn>1099511627776)=True:=eq_true h7;rw[no (fun h=>by unfold i9 at h; omega)];simp only[kY,af,ae,aa,seval,iteOmega,toNatUp,g1,g2,g3,hm];refine sC (c1) ?_;simp only[g5,g6,g7,ae,aa,seval,iteOmega,toNatUp];exact aM
           ·have g7:(j.sn>1099511627776)=False:=eq_false h7;have hH:i9 j:=⟨h1,h2,by omega,by omega,hb,by omega,by omega,by omega⟩
            simp only[kY,af,ae,aa,seval,iteOmega,toNatUp,g1,g2,g3,hm];refine sC (c1) ?_;simp only[g5,g6,g7,ae,aa,seval,iteOmega,toNatUp];refine ba (s7 j) (fun i=>j.ck.length-i) (fun i=>i≤j.ck.length∧∀ k,k<i→jO j.ck k) 0 ⟨abM _,fun k hk=>by omega⟩ ?_ ?_
            ·refine ap (fun _=>0) ?_ ?_ rfl rfl <;> simp only[bZ,wx,aj,ar,aa,seval,iteOmega,toNatUp] <;> first | rfl | exact⟨rfl,rfl⟩ | skip
            ·clear hm c1 g5 g6 g7 h5 h6 h7 hb;rintro i ⟨hi,hp⟩;by_cases hlt:i<j.ck.length
             ·have g:=kx hlt;have hno:¬ jO j.ck i→decide (di j)=false:=fun h=>decide_eq_false fun v=>h (v.2 i hlt)
              have hgo:jO j.ck i→∀ k,k<i+1→jO j.ck k:=fun a k hk=>by
                rcases ab1 k i with h | h
                ·exact hp k h
                ·obtain rfl:k=i:=by omega
                 exact a
              have az:=fP j.ck;have c2:=Cr G (j.ck.take i) (j.ck.getD i []) (by rw[abN]; omega);by_cases hx:(j.ck.getD i []).length=104
              ·have gx:(((j.ck.getD i []).length:Int)=104)=True:=eq_true (by omega);cases hq:fm (j.ck.take i) (j.ck.getD i [])
               ·have hgo:=hgo ⟨hx,hq⟩;rw[hq] at c2;clear hno hp hq hx;generalize j.ck.getD i []=x at *
                simp only[rG,s7,bZ,ae,aa,seval,iteOmega,toNatUp,aD,g,gx,az];refine sD (c2) ?_;refine aU (i+1) (by omega) ⟨by omega,hgo⟩ (ap (fun i=>i) ?_ ?_ rfl rfl) <;> simp only[bZ,wx,aj,ar,aa,seval,iteOmega,toNatUp] <;> first | rfl | exact⟨rfl,rfl⟩ | skip
               ·rw[hno (fun h=>by rw[h.2] at hq; cases hq)];rw[hq] at c2;clear hno hp hgo hq hx;generalize j.ck.getD i []=x at *
                simp only[rG,s7,bZ,ae,aa,seval,iteOmega,toNatUp,aD,g,gx,az];refine sD (c2) ?_;exact aM
              ·have gx:(((j.ck.getD i []).length:Int)=104)=False:=eq_false (by omega);rw[hno (fun h=>hx h.1)];clear hno hp hgo hx;generalize j.ck.getD i []=x at *
               simp only[rG,s7,bZ,ae,aa,seval,iteOmega,toNatUp,aD,g,gx];exact aM
             ·rw[decide_eq_true (show di j from ⟨hH,fun k hk=>hp k (by omega)⟩)];simp only[rG,s7,bZ,ae,aa,seval,iteOmega,toNatUp];exact aM
        ·rw[hb] at c1;rw[no (fun h=>by have:=h.2.2.2.2.1; rw[hb] at this; cases this)];simp only[kY,af,ae,aa,seval,iteOmega,toNatUp,g1,g2,g3,hm];refine sD (c1) ?_;exact aM
     ·have ga:((j.la.length:Int)=0)=False:=eq_false (by omega);have gb:((j.la.length:Int)=104)=False:=eq_false (by omega);rw[no (fun h=>by unfold i9 at h; omega)];simp only[kY,af,ae,aa,seval,iteOmega,toNatUp,g1,g2,g3,ga,gb];exact aM
   ·have g2:((j.dn.length:Int)=32)=False:=eq_false (by omega);rw[no (fun h=>by unfold i9 at h; omega)];simp only[kY,af,ae,aa,seval,iteOmega,toNatUp,g1,g2];exact aM
  ·have g1:((j.up.length:Int)=32)=False:=eq_false (by omega);rw[no (fun h=>by unfold i9 at h; omega)];simp only[kY,af,ae,aa,seval,iteOmega,toNatUp,g1];exact aM
def bA:Ob:=.box [.nil,.nil,.nil,.nil,.d (.int .i64 0),.d (.int .i64 0)]
def bR (j:Jr) (k:C):Ob:=.box [.d (.sl (j.up.map bD)),.d (.sl (j.dn.map bD)),k,.d (.sl (j.la.map bD)),.d (.int .i64 j.nw),.d (.int .i64 j.sn)]
def mn (j:Jr) (i:Nat):List (Nat×V):=[(1,.w (.c (.rp (bZ j)))),(2,.w (.c (.ptr 3 1 0 0))),(3,.w (.c (.ptr 1 1 0 0))),(4,.w (.c (.d (.int .i64 (i:Int)))))]
def oa (j:Jr):Nat→St
  | 0=>⟨aT (mn j 0),hL [(1,bR j .nil),(3,bA)],uL [1,3]⟩
  | i+1=>⟨aT (mn j (i+1)),hL [(1,bR j (.own 2 1 0 (j.ck.take (i+1)).length)),(2,.row 1 ((j.ck.take (i+1)).map fun l=>D.sl (l.map bD))),(3,bA)],uL [1,2,3]⟩
def tP (j:Jr):List C:=[.d (.sl (j.up.map bD)),.d (.sl (j.dn.map bD)),.fr 1 (j.ck.map fun l=>D.sl (l.map bD)),.d (.sl (j.la.map bD)),.d (.int .i64 j.nw),.d (.int .i64 j.sn)]
theorem BD {σ:St} {p:Nat×Option Kd} {j:Jr} {k:C} (h1:cL σ p=some (.mix [.d (.sl (j.up.map bD)),.d (.sl (j.dn.map bD)),k,.d (.sl (j.la.map bD)),.d (.int .i64 j.nw),.d (.int .i64 j.sn)])) (hk:qL σ.h k (.fr 1 (j.ck.map fun l=>D.sl (l.map bD)))) (hd:k.ids.Nodup):d7 σ [p] (.w (.mix (tP j))):=by
  refine⟨[.mix [.d (.sl (j.up.map bD)),.d (.sl (j.dn.map bD)),k,.d (.sl (j.la.map bD)),.d (.int .i64 j.nw),.d (.int .i64 j.sn)]],by simp[aX,h1],.inl ⟨?_,?_⟩⟩
  ·simpa [W.ids,C.ids] using hd
  ·exact .cons rfl (.cons rfl (.cons hk (.cons rfl (.cons rfl (.cons rfl .nil)))))
theorem Wa {P:Program} {G:ah} {F:FuncId} {args:List D} {cs:List C} {ds:List D} (hds:gA (cs.map C.ro)=.c (.d (.agg ds))) (h:aB P G F args (.w (.mix cs))):aB P G F args (.w (.c (.d (.agg ds)))):=by
  intro w S vs h1 h2 h3;refine (h w S vs h1 h2 h3).mono ?_;rintro e w' ⟨v,S',bl,rfl,k1,k2,k3,k4⟩;have cs0:∀ {us:List Value} {cs:List C} {bk:List Nat},iB S' w' w.heap.size us cs bk→∀ b∈bk,w.heap.size≤b∧b<w'.heap.size:=by
    intro us cs bk hc
    induction hc with
    | nil=>intro b hb; cases hb
    | cons h1 _ ih =>
      rename_i c _ _ _ _ _;intro b hb;rcases ab5.1 hb with hb | hb
      ·cases c <;> simp only[gW] at h1 <;> first | exact h1.elim | skip
       ·rw[h1.2] at hb; cases hb
       ·rcases h1 with ⟨_,_,rfl⟩ | ⟨b',cap,ty,N,rfl,_,_,_,q1,_,q2⟩
        ·cases hb
        ·simp only[abU] at hb;subst hb;obtain⟨f1,_,cur,ty',fz,f3,_⟩:=q2;exact⟨f1,(abX.1 f3).1⟩
      ·exact ih b hb
  have hfresh:∀ b∈bl,w.heap.size≤b∧b<w'.heap.size:=by
    obtain⟨us,_,hc⟩:=k4;exact cs0 hc
  refine⟨v,fun b i=>S' b i∨b∈bl,[],rfl,k1,fun b i hs=>?_,.nil,?_⟩
  ·rcases hs with hs | hs
   ·exact k2 b i hs
   ·exact⟨.inr (hfresh b hs).1,(hfresh b hs).2⟩
  ·have:=pY (m:=fun _=>none) (x:=.mix cs) k4 (T:=fun b i=>S' b i∨b∈bl) (fun _ _ h=>.inl h) (fun b hb _=>.inr hb);rw[show W.ro (.mix cs)=_ from hds] at this;exact⟨this.1,rfl⟩
def rH:aS := .seq (.seq (.reg [oM 25 4,oO 26 (.fieldAddr 2 (.t 1)),oO 27 (.load .sc (.t 26)),oO 28 (.len (.t 27)),oO 29 (.bin .lss (.t 25) (.t 28))]) (.cond (.t 29) (.skip) (.exit 0))) (.seq (.block 1 (.reg [oO 32 (.fieldAddr 2 (.t 3)),oO 33 (.load .sc (.t 32)),oO 34 (.fieldAddr 2 (.t 1)),oO 35 (.load .sc (.t 34)),oM 36 4,oO 37 (.idxSl 1 (.t 35) (.t 36)),oO 38 (.load .sc (.t 37)),oO 39 (.bldSl false 1 1 (.sl []) [(0,(.t 38))]),oO 40 (.call 41 [(.t 39)] none),oO 41 (.bldSl false 1 1 (.sl []) [(0,(.t 40))]),oO 42 (.app false 1 24 (.t 33) (.t 41)),oO 43 (.fieldAddr 2 (.t 3)),oN (.store .sc (.t 43) (.t 42))])) (.reg [oM 30 4,oO 31 (.bin .add (.t 30) (kI 1)),oM 4 31]))
def Nv:aG:=⟨1,45,.seq (.reg [oO 1 (.box .roBox (.t 0)),oO 2 (.alloc [.nil,.nil,.nil,.nil,(.d (.int .i64 0)),(.d (.int .i64 0))])]) (.seq (.reg [oO 5 (.fieldAddr 0 (.t 1)),oO 6 (.fieldAddr 0 (.t 5)),oO 7 (.load .sc (.t 6)),oO 8 (.bldSl false 1 1 (.sl []) [(0,(.t 7))]),oO 9 (.call 41 [(.t 8)] none),oO 10 (.fieldAddr 0 (.t 1)),oO 11 (.fieldAddr 1 (.t 10)),oO 12 (.load .sc (.t 11)),oO 13 (.bldSl false 1 1 (.sl []) [(0,(.t 12))]),oO 14 (.call 41 [(.t 13)] none),oO 15 (.build [.nil,.nil] [(0,1,(.t 9)),(1,1,(.t 14))]),oO 16 (.fieldAddr 3 (.t 1)),oO 17 (.load .sc (.t 16)),oO 18 (.bldSl false 1 1 (.sl []) [(0,(.t 17))]),oO 19 (.call 41 [(.t 18)] none),oO 20 (.fieldAddr 4 (.t 1)),oO 21 (.load .sc (.t 20)),oO 22 (.fieldAddr 5 (.t 1)),oO 23 (.load .sc (.t 22)),oO 24 (.build [.nil,.nil,.nil,.nil,(.d (.int .i64 0)),(.d (.int .i64 0))] [(0,2,(.t 15)),(3,1,(.t 19)),(4,1,(.t 21)),(5,1,(.t 23))]),
 oO 3 (.alloc [.nil,.nil,.nil,.nil,(.d (.int .i64 0)),(.d (.int .i64 0))]),oN (.store (.ag 6) (.t 3) (.t 24))]) (.seq (.seq (.reg [oO 4 (.mv (kI 0))]) (.block 0 (.loop rH))) (.seq (.reg [oO 44 (.load (.ag 6) (.t 3)),oN (.store (.ag 6) (.t 2) (.t 44))]) (.ret)))),[(2,(some (.ag 6)))]⟩
theorem YT:aF Tryz.prog { own:=[],comp:=[],frz:=[],nils:=[] } Tryz.f57=some Nv:=by kernel_rfl
set_option maxHeartbeats 3200000 in
theorem aat (G:ah) (j:Jr) (h1:j.up.length≤140737488355328) (h2:j.dn.length≤140737488355328) (h3:j.la.length≤140737488355328) (h4:∀ c∈j.ck,c.length≤140737488355328) (h5:j.ck.length≤1000000):aB Tryz.prog G 57 [bK j] (.w (.mix (tP j))):=by
  refine aI Tryz.func57 YT rfl rfl ?_;have c1:=fR G [j.up] (by simp) (by simp; omega);have c2:=fR G [j.dn] (by simp) (by simp; omega);have c3:=fR G [j.la] (by simp) (by simp; omega);simp only[abK,abS,acn,acp,abP] at c1 c2 c3;unfold bK;simp only[Nv,af,ae,aa,seval,iteOmega,toNatUp];refine sD (c1) ?_;refine sD (c2) ?_;refine sD (c3) ?_;refine ba (oa j) (fun i=>j.ck.length-i) (fun i=>i≤j.ck.length) 0 (abM _) ?_ ?_
  ·refine ap (fun i=>if i=1 then 24 else 16) ?_ ?_ rfl rfl <;> simp only[mn,bZ,bR,bA,wx,aj,ar,aa,seval,iteOmega,toNatUp] <;> first | rfl | exact⟨rfl,rfl⟩ | skip
  ·intro i hi;clear c1 c2 c3;by_cases hlt:i<j.ck.length
   ·have g:=kx hlt;have hs:=qP hlt;have hm:=h4 _ (kz hlt);have tl:(j.ck.take i).length=i:=by rw[abN]; omega
    have az:=fP (j.ck.take i);generalize j.ck.getD i []=x at *
    have c4:=fR G [x] (by simp) (by simp; omega);simp only[abK,abS,acn,acp,abP] at c4;rcases i with _ | i
    ·have e1:j.ck.take (0+1)=[x]:=hs;simp only[rH,oa,mn,bZ,bR,bA,ae,aa,seval,iteOmega,toNatUp,aD,g];refine sC (c4) ?_;simp only[bQ,ae,aa,seval,iteOmega,toNatUp];refine aU (0+1) (by omega) (by omega) (ap (fun i=>if i=1 then 1 else if i=2 then 336 else 3) ?_ ?_ rfl rfl) <;> simp only[oa,mn,bZ,bR,bA,e1,wx,aj,ar,aa,seval,iteOmega,toNatUp] <;> first | rfl | exact⟨rfl,rfl⟩ | skip
    ·simp only[rH,oa,mn,bZ,bR,bA,ae,aa,seval,iteOmega,toNatUp,aD,g,tl];refine sC (c4) ?_;simp only[bQ,tl,ae,aa,seval,iteOmega,toNatUp];refine aU (i+1+1) (by omega) (by omega) (ap (fun i=>if i=1 then 1 else if i=2 then 336 else 3) ?_ ?_ rfl rfl) <;> simp only[oa,mn,bZ,bR,bA,hs,abT,tl,wx,aj,ar,aa,seval,iteOmega,toNatUp] <;> first | rfl | exact⟨rfl,rfl⟩ | skip
   ·obtain rfl:i=j.ck.length:=by omega
    have hk:j.ck.take j.ck.length=j.ck:=ab8;have az:=fP j.ck;generalize hn:j.ck.length=n at *
    rcases n with _ | n
    ·have e0:j.ck=[]:=acs hn;simp only[rH,oa,mn,bZ,bR,bA,ae,aa,seval,iteOmega,toNatUp];exact BD (k:=.nil) (by simp only[ae,aa,seval,iteOmega,toNatUp] <;> rfl) (by rw[e0]; exact rfl) .nil
    ·simp only[rH,oa,mn,bZ,bR,bA,hk,hn,ae,aa,seval,iteOmega,toNatUp];exact BD (k:=.own 2 1 0 (n+1)) (by simp only[ae,aa,seval,iteOmega,toNatUp] <;> rfl) ⟨rfl,rfl,by simp only[ae,aa,seval,iteOmega,toNatUp,hn,hk]⟩ (by simp[C.ids])
theorem pR {j:Jr} (v:di j):j.up.length=32∧j.dn.length=32∧j.ck.length≤8∧j.la.length≤104∧∀ c∈j.ck,c.length=104:=by
  obtain⟨⟨a,b,c,d,_⟩,h,_⟩:=lT.1 v;exact⟨a,b,c,by omega,h⟩
theorem Cs {j:Jr} {e:Int} (h:fG j=e) (he:e≠0):xW j=dE∧xX j=[]:=⟨if_neg (by rw[h]; exact he),if_neg (by rw[h]; exact he)⟩
def xo (j:Jr) (cs:List (List UInt8)) (i:Nat):St:=⟨aT [(1,.w (.c (.d (.sl (cs.map fun l=>D.sl (l.map bD)))))),(2,.w (.c (.rp (bZ j)))),(4,.w (.c (.ptr 1 1 0 0))),(6,.w (.c (.d (.int .i64 (i:Int)))))],hL [(1,bA)],uL [1]⟩
def Ct (j:Jr) (cs:List (List UInt8)) (i:Nat):St:=⟨aT [(1,.w (.c (.d (.sl (cs.map fun l=>D.sl (l.map bD)))))),(4,.w (.c (.ptr 3 1 0 0))),(7,.w (.c (.ptr 1 1 0 0))),(8,.w (.c (.d (.int .i64 (i:Int)))))],hL [(1,bR j (.own 2 1 0 (cq j.la j.ck (cs.take i)).length)),(2,.row 1 ((cq j.la j.ck (cs.take i)).map fun l=>D.sl (l.map bD))),(3,bA)],uL [1,2,3]⟩
theorem O9 {j:Jr} {cs:List (List UInt8)} {e:Int} (h:lz j cs=e) (he:e≠0):tM j cs=dE:=if_neg (by rw[h]; exact he)
theorem KV {cs:List (List UInt8)} {i:Nat} (h:i<cs.length) (h1:dT (cs.take i)=true) (h2:(cs.getD i []).length=104):dT (cs.take (i+1))=true:=by
  unfold dT at *
  rw[qP h,List.all_append,h1,adB,List.all_nil,beq_iff_eq.2 h2]; rfl
def vi:aS := .seq (.seq (.reg [oM 13 6,oM 14 1,oO 15 (.len (.t 14)),oO 16 (.bin .lss (.t 13) (.t 15))]) (.cond (.t 16) (.skip) (.exit 0))) (.seq (.block 1 (.seq (.reg [oM 19 1,oM 20 6,oO 21 (.idxSl 1 (.t 19) (.t 20)),oO 22 (.load .sc (.t 21)),oO 23 (.len (.t 22)),oO 24 (.bin .neq (.t 23) (kI 104))]) (.cond (.t 24) (.seq (.reg [oO 25 (.build [.nil,.nil,.nil,.nil,(.d (.int .i64 0)),(.d (.int .i64 0))] []),oN (.store (.ag 6) (.t 4) (.t 25)),oO 5 (.mv (kI 3))]) (.ret)) (.skip)))) (.reg [oM 17 6,oO 18 (.bin .add (.t 17) (kI 1)),oM 6 18]))
def pi:aS := .seq (.seq (.reg [oM 28 8,oM 29 1,oO 30 (.len (.t 29)),oO 31 (.bin .lss (.t 28) (.t 30))]) (.cond (.t 31) (.skip) (.exit 2))) (.seq (.block 3 (.seq (.reg [oO 34 (.fieldAddr 2 (.t 7)),oO 35 (.load .sc (.t 34)),oM 36 1,oM 37 8,oO 38 (.idxSl 1 (.t 36) (.t 37)),oO 39 (.load .sc (.t 38)),oO 40 (.call 56 [(.t 35),(.t 39)] none),oO 41 (.un .not (.t 40)),oM 42 41,oG 43 (.fieldAddr 3 (.t 7)) 42 true,oG 44 (.load .sc (.t 43)) 42 true,oG 45 (.mv (.t 1)) 42 true,oG 46 (.mv (.t 8)) 42 true,oG 47 (.idxSl 1 (.t 45) (.t 46)) 42 true,oG 48 (.load .sc (.t 47)) 42 true,oG 49 (.call 12 [(.t 44),(.t 48)] none) 42 true,oG 50 (.un .not (.t 49)) 42 true,oO 51 (.pick (.t 42) (.t 50) (.k (.c (.d (.bool false))))),oM 52 51,oG 53 (.fieldAddr 2 (.t 7)) 52 true,oG 54 (.load .sc (.t 53)) 52 true,oG 55 (.len (.t 54)) 52 true,
 oG 56 (.bin .lss (.t 55) (kI 8)) 52 true,oO 57 (.pick (.t 52) (.t 56) (.k (.c (.d (.bool false)))))]) (.cond (.t 57) (.reg [oO 58 (.fieldAddr 2 (.t 7)),oO 59 (.load .sc (.t 58)),oM 60 1,oM 61 8,oO 62 (.idxSl 1 (.t 60) (.t 61)),oO 63 (.load .sc (.t 62)),oO 64 (.bldSl false 1 1 (.sl []) [(0,(.t 63))]),oO 65 (.call 41 [(.t 64)] none),oO 66 (.bldSl false 1 1 (.sl []) [(0,(.t 65))]),oO 67 (.app false 1 24 (.t 59) (.t 66)),oO 68 (.fieldAddr 2 (.t 7)),oN (.store .sc (.t 68) (.t 67))]) (.skip)))) (.reg [oM 32 8,oO 33 (.bin .add (.t 32) (kI 1)),oM 8 33]))
def BE:aG:=⟨2,70,.seq (.reg [oO 2 (.box .roBox (.t 0)),oO 4 (.alloc [.nil,.nil,.nil,.nil,(.d (.int .i64 0)),(.d (.int .i64 0))]),oO 5 (.mv (kI 0))]) (.seq (.seq (.reg [oO 9 (.load (.ag 6) (.t 2)),oO 10 (.call 26 [(.t 9)] none),oO 11 (.un .not (.t 10))]) (.cond (.t 11) (.seq (.reg [oO 12 (.build [.nil,.nil,.nil,.nil,(.d (.int .i64 0)),(.d (.int .i64 0))] []),oN (.store (.ag 6) (.t 4) (.t 12)),oO 5 (.mv (kI 3))]) (.ret)) (.skip))) (.seq (.seq (.reg [oO 6 (.mv (kI 0))]) (.block 0 (.loop vi))) (.seq (.reg [oO 26 (.load (.ag 6) (.t 2)),oO 27 (.call 57 [(.t 26)] (some (2,1))),oO 7 (.alloc [.nil,.nil,.nil,.nil,(.d (.int .i64 0)),(.d (.int .i64 0))]),oN (.store (.ag 6) (.t 7) (.t 27))]) (.seq (.seq (.reg [oO 8 (.mv (kI 0))]) (.block 2 (.loop pi))) (.seq (.reg [oO 69 (.load (.ag 6) (.t 7)),
 oN (.store (.ag 6) (.t 4) (.t 69)),oO 5 (.mv (kI 0))]) (.ret)))))),[(4,(some (.ag 6))),(5,none)]⟩
theorem YU:aF Tryz.prog { own:=[],comp:=[(27,1002)],frz:=[],nils:=[] } Tryz.f36=some BE:=by kernel_rfl
set_option maxHeartbeats 6400000 in
theorem aau (G:ah) (j:Jr) (cs:List (List UInt8)) (hcs:cs.length≤9000000000000000000):aB Tryz.prog G 36 [bK j,.sl (cs.map fun l=>D.sl (l.map bD))] (.tup [.c (.d (bK (tM j cs))),.c (.d (.int .i64 (lz j cs)))]):=by
  refine aI Tryz.func36 YU rfl rfl ?_;have c1:=O8 G j;by_cases v:di j
  ·rw[decide_eq_true v] at c1;obtain⟨v1,v2,v3,v4,v5⟩:=pR v;have c2:=aat G j (by omega) (by omega) (by omega) (fun c hc=>by have:=v5 c hc; omega) (by omega);have eE:lz j cs=if dT cs=true then 0 else 3:=by unfold lz; rw[if_neg (not_not_intro v)]
   unfold bK tP at *
   simp only[BE,af,ae,aa,seval,iteOmega,toNatUp];refine sD (c1) ?_;refine ba (xo j cs) (fun i=>cs.length-i) (fun i=>i≤cs.length∧dT (cs.take i)=true) 0 ⟨abM _,rfl⟩ ?_ ?_
   ·refine ap (fun i=>32) ?_ ?_ rfl rfl <;> simp only[bZ,bA,wx,aj,ar,aa,seval,iteOmega,toNatUp] <;> first | rfl | exact⟨rfl,rfl⟩ | skip
   ·rintro i ⟨hi,hp⟩;by_cases hlt:i<cs.length
    ·have g:=kx hlt;have hm:=kz hlt;have hs:=KV hlt hp;by_cases hx:(cs.getD i []).length=104
     ·have gx:(((cs.getD i []).length:Int)=104)=True:=eq_true (by omega);have hs2:=hs hx;clear hm hx hs;generalize cs.getD i []=x at *
      simp only[vi,xo,bZ,bA,ae,aa,seval,iteOmega,toNatUp,aD,g,gx];refine aU (i+1) (by omega) ⟨by omega,hs2⟩ (ap (fun i=>i) ?_ ?_ rfl rfl) <;> simp only[bZ,bA,wx,aj,ar,aa,seval,iteOmega,toNatUp] <;> first | rfl | exact⟨rfl,rfl⟩ | skip
     ·have gx:(((cs.getD i []).length:Int)=104)=False:=eq_false (by omega);have e:lz j cs=3:=by rw[eE,if_neg (fun h=>hx (kF.1 h _ hm))]
      rw[O9 e (by decide),e];clear hm hx hs eE e;generalize cs.getD i []=x at *
      unfold dE;simp only[vi,xo,bZ,bA,ae,aa,seval,iteOmega,toNatUp,aD,g,gx];exact cI
    ·obtain rfl:i=cs.length:=by omega
     rw[ab8] at hp;have e:lz j cs=0:=by rw[eE,if_pos hp]
     rw[show tM j cs=ir j cs from if_pos e,e];clear eE e c1;unfold ir;dsimp only;simp only[vi,xo,bZ,bA,ae,aa,seval,iteOmega,toNatUp];refine sD (c2) ?_;refine ba (Ct j cs) (fun i=>cs.length-i) (fun i=>i≤cs.length) 0 (abM _) ?_ ?_
     ·refine ap (fun i=>if i=1 then 56 else if i=2 then 216 else 1) ?_ ?_ rfl rfl <;> simp only[ac1,cq,acX,bR,bA,wx,aj,ar,aa,seval,iteOmega,toNatUp] <;> first | rfl | exact⟨rfl,rfl⟩ | skip
     ·intro i hi;clear c2;have L8:=KU (la:=j.la) (l:=j.ck) (cs.take i) v3;by_cases hlt:i<cs.length
      ·have g:=kx hlt;have hn:cq j.la j.ck (cs.take (i+1))=jP j.la (cq j.la j.ck (cs.take i)) (cs.getD i []):=by rw[qP hlt,Im]
       have m4:=kF.1 hp _ (kz hlt);have az:=fP (cq j.la j.ck (cs.take i));unfold jP qG at hn;have e2:Ct j cs i=⟨aT [(1,.w (.c (.d (.sl (cs.map fun l=>D.sl (l.map bD)))))),(4,.w (.c (.ptr 3 1 0 0))),(7,.w (.c (.ptr 1 1 0 0))),(8,.w (.c (.d (.int .i64 (i:Int)))))],hL [(1,bR j (.own 2 1 0 (cq j.la j.ck (cs.take i)).length)),(2,.row 1 ((cq j.la j.ck (cs.take i)).map fun l=>D.sl (l.map bD))),(3,bA)],uL [1,2,3]⟩:=rfl;rw[e2];clear e2;generalize cq j.la j.ck (cs.take i)=L at *
       generalize cs.getD i []=x at *
       have c3:=Cr G L x (by omega);have c4:=rP G j.la x;have c5:=fR G [x] (by simp) (by simp; omega);simp only[abK,abS,acn,acp,abP] at c5;cases q1:fm L x
       ·rw[q1] at c3;cases q2:j.la==x
        ·rw[q2] at c4;by_cases h8:L.length<8
         ·have g8:((L.length:Int)<8)=True:=eq_true (by omega);rw[if_pos (by rw[q1,q2,decide_eq_true h8]; rfl)] at hn;simp only[pi,bR,bA,ae,aa,seval,iteOmega,toNatUp,aD,g];refine bd c3 (by simp only[ae,aa,seval,iteOmega,toNatUp,ab8]) (.inr rfl) ?_;simp only[ae,aa,seval,iteOmega,toNatUp,aD,g];refine sC (c4) ?_;simp only[g8,aD,g,ae,aa,seval,iteOmega,toNatUp];refine sC (c5) ?_;simp only[bQ,ae,aa,seval,iteOmega,toNatUp];refine aU (i+1) (by omega) (by omega) (ap (fun i=>if i=1 then 1 else if i=2 then 536 else 3) ?_ ?_ rfl rfl) <;> simp only[hn,abT,bR,bA,wx,aj,ar,aa,seval,iteOmega,toNatUp] <;> first | rfl | exact⟨rfl,rfl⟩ | skip
         ·have g8:((L.length:Int)<8)=False:=eq_false (by omega);rw[if_neg (by rw[q1,q2,decide_eq_false h8]; decide)] at hn;simp only[pi,bR,bA,ae,aa,seval,iteOmega,toNatUp,aD,g];refine bd c3 (by simp only[ae,aa,seval,iteOmega,toNatUp,ab8]) (.inr rfl) ?_;simp only[ae,aa,seval,iteOmega,toNatUp,aD,g];refine sC (c4) ?_;simp only[g8,ae,aa,seval,iteOmega,toNatUp];refine aU (i+1) (by omega) (by omega) (ap (fun i=>i) ?_ ?_ rfl rfl) <;> simp only[hn,bR,bA,wx,aj,ar,aa,seval,iteOmega,toNatUp] <;> first | rfl | exact⟨rfl,rfl⟩ | skip
        ·rw[q2] at c4;rw[if_neg (by rw[q1,q2]; simp)] at hn;simp only[pi,bR,bA,ae,aa,seval,iteOmega,toNatUp,aD,g];refine bd c3 (by simp only[ae,aa,seval,iteOmega,toNatUp,ab8]) (.inr rfl) ?_;simp only[ae,aa,seval,iteOmega,toNatUp,aD,g];refine sD (c4) ?_;refine aU (i+1) (by omega) (by omega) (ap (fun i=>i) ?_ ?_ rfl rfl) <;> simp only[hn,bR,bA,wx,aj,ar,aa,seval,iteOmega,toNatUp] <;> first | rfl | exact⟨rfl,rfl⟩ | skip
       ·rw[q1] at c3;rw[if_neg (by rw[q1]; simp)] at hn;simp only[pi,bR,bA,ae,aa,seval,iteOmega,toNatUp,aD,g];refine bd c3 (by simp only[ae,aa,seval,iteOmega,toNatUp,ab8]) (.inr rfl) ?_;simp only[ae,aa,seval,iteOmega,toNatUp];refine aU (i+1) (by omega) (by omega) (ap (fun i=>i) ?_ ?_ rfl rfl) <;> simp only[hn,bR,bA,wx,aj,ar,aa,seval,iteOmega,toNatUp] <;> first | rfl | exact⟨rfl,rfl⟩ | skip
      ·obtain rfl:i=cs.length:=by omega
       have hk:cs.take cs.length=cs:=ab8;have az:=fP (cq j.la j.ck cs);simp only[pi,Ct,bR,bA,hk,ae,aa,seval,iteOmega,toNatUp];exact cI
  ·rw[decide_eq_false v] at c1;have e:lz j cs=3:=if_pos v;rw[O9 e (by decide),e];unfold bK dE at *
   simp only[BE,af,ae,aa,seval,iteOmega,toNatUp];refine sD (c1) ?_;exact cI
theorem Io {la:List UInt8} {l:List (List UInt8)} (h:8≤l.length):∀ cs,cq la l cs=l
  | []=>rfl
  | c::cs=>by
    have e:jP la l c=l:=if_neg (by
      unfold qG;rw[decide_eq_false (by omega),Bool.and_false,Bool.and_false]; decide)
    show cq la (jP la l c) cs=l
    rw[e];exact Io h cs
theorem TQ {la:List UInt8} {l cs:List (List UInt8)} {i:Nat} (h:(cq la l (cs.take i)).length=8):cq la l cs=cq la l (cs.take i):=by
  have e:cq la l cs=cq la (cq la l (cs.take i)) (cs.drop i):=by
    unfold cq;rw[← List.foldl_append,acl]
  rw[e];exact Io (by omega) _
theorem Cu {j:Jr} (v:di j) (h:j.ck.length≠0) (hs:j.sn≠1099511627776):fG j=0∧di (bV j):=by
  refine⟨by unfold fG; rw[if_neg (not_not_intro v),if_neg h,if_neg hs],?_⟩;obtain⟨⟨a1,a2,a3,a4,a5,a6,a7,a8⟩,b,c⟩:=lT.1 v;obtain⟨up,dn,ck,la,nw,sn⟩:=j
  match ck,h with
  | x::r,_ =>
    have c:=adA.1 c;refine lT.2 ⟨⟨a1,a2,?_,.inr (b x (acv ..)),nQ.2 c.1,a6,?_,?_⟩,fun y hy=>b y (ace _ hy),c.2⟩
    ·have a3:r.length+1≤8:=a3
     show r.length≤8
     omega
    ·have a7:0≤sn:=a7
     show 0≤sn+1
     omega
    ·have a8:sn≤1099511627776:=a8;have hs:sn≠1099511627776:=hs
     show sn+1≤1099511627776
     omega
def oD (up dn:List UInt8):Prop:=up.length=32∧dn.length=32
instance (up dn:List UInt8):Decidable (oD up dn):=by unfold oD; infer_instance
def wu:aG:=⟨1,13,.seq (.reg [oO 1 (.box .roBox (.t 0)),oO 2 (.mv (.k (.c (.d (.bool false)))))]) (.seq (.reg [oO 3 (.fieldAddr 0 (.t 1)),oO 4 (.load .sc (.t 3)),oO 5 (.len (.t 4)),oO 6 (.bin .eql (.t 5) (kI 32)),oM 7 6,oG 8 (.fieldAddr 1 (.t 1)) 7 true,oG 9 (.load .sc (.t 8)) 7 true,oG 10 (.len (.t 9)) 7 true,oG 11 (.bin .eql (.t 10) (kI 32)) 7 true,oO 12 (.pick (.t 7) (.t 11) (.k (.c (.d (.bool false))))),oM 2 12]) (.ret)),[(2,none)]⟩
theorem YV:aF Tryz.prog { own:=[],comp:=[],frz:=[],nils:=[] } Tryz.f51=some wu:=by kernel_rfl
theorem aav (G:ah) (up dn:List UInt8):aB Tryz.prog G 51 [.agg [.sl (up.map bD),.sl (dn.map bD)]] (.w (.c (.d (.bool (decide (oD up dn)))))):=by
  refine aI Tryz.func51 YV rfl rfl ?_;by_cases h1:up.length=32
  ·have g1:((up.length:Int)=32)=True:=eq_true (by omega);by_cases h2:dn.length=32
   ·have g2:((dn.length:Int)=32)=True:=eq_true (by omega);rw[decide_eq_true (show oD up dn from ⟨h1,h2⟩)];simp only[wu,af,ae,aa,seval,iteOmega,toNatUp,g1,g2];exact aM
   ·have g2:((dn.length:Int)=32)=False:=eq_false (by omega);rw[decide_eq_false (show ¬ oD up dn from fun h=>h2 h.2)];simp only[wu,af,ae,aa,seval,iteOmega,toNatUp,g1,g2];exact aM
  ·have g1:((up.length:Int)=32)=False:=eq_false (by omega);rw[decide_eq_false (show ¬ oD up dn from fun h=>h1 h.1)];simp only[wu,af,ae,aa,seval,iteOmega,toNatUp,g1];exact aM
def BF:aG:=⟨1,6,.seq (.reg [oO 2 (.mv (.k (.c (.d (.bool false)))))]) (.seq (.reg [oM 3 0,oO 4 (.len (.t 3)),oO 5 (.bin .eql (.t 4) (kI 104)),oM 2 5]) (.ret)),[(2,none)]⟩
theorem YW:aF Tryz.prog { own:=[],comp:=[],frz:=[],nils:=[] } Tryz.f54=some BF:=by kernel_rfl
theorem Cv (G:ah) (b:List UInt8):aB Tryz.prog G 54 [.sl (b.map bD)] (.w (.c (.d (.bool (b.length==104))))):=by
  refine aI Tryz.func54 YW rfl rfl ?_;by_cases h1:b.length=104
  ·have g1:((b.length:Int)=104)=True:=eq_true (by omega);rw[beq_iff_eq.2 h1];simp only[BF,af,ae,aa,seval,iteOmega,toNatUp,g1];exact aM
  ·have g1:((b.length:Int)=104)=False:=eq_false (by omega);rw[beq_eq_false_iff_ne.2 h1];simp only[BF,af,ae,aa,seval,iteOmega,toNatUp,g1];exact aM
def xp (l:List (List UInt8)) (i:Nat):St:=⟨aT [(5,.w (.c (.d (.sl (l.map fun x=>D.sl (x.map bD)))))),(6,.w (.c (.d (.int .i64 (l.length:Int))))),(7,.w (.c (.d (.int .i64 (i:Int)))))],hL [],uL []⟩
def vj:aS := .seq (.reg [oO 8 (.bin .lss (.t 7) (.t 6))]) (.seq (.cond (.t 8) (.skip) (.exit 0)) (.seq (.block 1 (.seq (.reg [oO 9 (.idxSl 1 (.t 5) (.t 7)),oO 10 (.load .sc (.t 9)),oM 4 10]) (.seq (.reg [oM 11 4,oO 12 (.call 54 [(.t 11)] none),oO 13 (.un .not (.t 12))]) (.cond (.t 13) (.seq (.reg [oO 2 (.mv (.k (.c (.d (.bool false)))))]) (.ret)) (.skip))))) (.reg [oO 14 (.bin .add (.t 7) (kI 1)),oM 7 14])))
def Nw:aG:=⟨1,15,.seq (.reg [oO 2 (.mv (.k (.c (.d (.bool false)))))]) (.seq (.seq (.reg [oM 5 0,oO 6 (.len (.t 5)),oO 7 (.mv (kI 0))]) (.block 0 (.loop vj))) (.seq (.reg [oO 2 (.mv (.k (.c (.d (.bool true)))))]) (.ret))),[(2,none)]⟩
theorem YX:aF Tryz.prog { own:=[],comp:=[],frz:=[],nils:=[] } Tryz.f52=some Nw:=by kernel_rfl
theorem aaw (G:ah) (l:List (List UInt8)) (hl:l.length≤9000000000000000000):aB Tryz.prog G 52 [.sl (l.map fun x=>D.sl (x.map bD))] (.w (.c (.d (.bool (dT l))))):=by
  refine aI Tryz.func52 YX rfl rfl ?_;simp only[Nw,af,ae,aa,seval,iteOmega,toNatUp];refine ba (xp l) (fun i=>l.length-i) (fun i=>i≤l.length∧dT (l.take i)=true) 0 ⟨abM _,rfl⟩ ?_ ?_
  ·refine ap (fun _=>0) ?_ ?_ rfl rfl <;> simp only[wx,aj,ar,aa,seval,iteOmega,toNatUp] <;> first | rfl | exact⟨rfl,rfl⟩ | skip
  ·rintro i ⟨hi,hp⟩;by_cases hlt:i<l.length
   ·have g:=kx hlt;have hs:=KV hlt hp;have hm:=kz hlt;have no:dT l=true→(l.getD i []).length=104:=fun h=>kF.1 h _ hm
    clear hm;generalize l.getD i []=x at *
    have c1:=Cv G x;by_cases hx:x.length=104
    ·rw[beq_iff_eq.2 hx] at c1;have hs:=hs hx;simp only[vj,xp,ae,aa,seval,iteOmega,toNatUp,aD,g];refine sD (c1) ?_;refine aU (i+1) (by omega) ⟨by omega,hs⟩ (ap (fun i=>i) ?_ ?_ rfl rfl) <;> simp only[wx,aj,ar,aa,seval,iteOmega,toNatUp] <;> first | rfl | exact⟨rfl,rfl⟩ | skip
    ·rw[beq_eq_false_iff_ne.2 hx] at c1;have e:dT l=false:=by
       cases h:dT l
       ·rfl
       ·exact absurd (no h) hx
     rw[e];simp only[vj,xp,ae,aa,seval,iteOmega,toNatUp,aD,g];refine sD (c1) ?_;exact aM
   ·obtain rfl:i=l.length:=by omega
    rw[ab8] at hp;rw[hp];simp only[vj,xp,ae,aa,seval,iteOmega,toNatUp];exact aM
def Ny:aG:=⟨2,7,.seq (.reg [oO 3 (.mv (.k (.c (.d (.bool false)))))]) (.seq (.reg [oM 4 0,oO 5 (.load .sc (.t 1)),oO 6 (.call 55 [(.t 4),(.t 5)] none),oM 3 6]) (.ret)),[(3,none)]⟩
theorem YY:aF Tryz.prog { own:=[],comp:=[],frz:=[],nils:=[] } Tryz.f84=some Ny:=by kernel_rfl
theorem aax (G:ah) (c x:List UInt8):qw Tryz.prog G 84 [.ref [.sl (c.map bD)]] [.sl (x.map bD)] (.w (.c (.d (.bool (x==c))))):=by
  refine⟨enters_of Tryz.func84 (by kernel_rfl) rfl,?_⟩;refine R1 Tryz.func84 YY rfl rfl ?_;have c1:=pO G x c;simp only[Ny,acF,acE,abK,abS,D.up,gD,ae,aa,seval,iteOmega,toNatUp];refine sD (c1) ?_;exact aM
def Nz:aG:=⟨2,8,.seq (.reg [oO 3 (.box .roBox (.t 1)),oO 4 (.mv (.k (.c (.d (.bool false)))))]) (.seq (.reg [oM 5 0,oO 6 (.clos 84 [(.t 3)]),oO 7 (.call 83 [(.t 5),(.t 6)] none),oM 4 7]) (.ret)),[(4,none)]⟩
theorem YZ:aF Tryz.prog { own:=[],comp:=[],frz:=[],nils:=[] } Tryz.f53=some Nz:=by kernel_rfl
theorem Cw (G:ah) (l:List (List UInt8)) (c:List UInt8) (hl:l.length≤9000000000000000000):aB Tryz.prog G 53 [.sl (l.map fun x=>D.sl (x.map bD)),.sl (c.map bD)] (.w (.c (.d (.bool (fm l c))))):=by
  refine aI Tryz.func53 YZ rfl rfl ?_;have c1:=MG G l 84 [.ref [.sl (c.map bD)]] (fun x=>x==c) (by omega) (fun x _=>aax G c x);rw[show l.any (fun x=>x==c)=fm l c from rfl] at c1;simp only[Nz,af,ae,aa,seval,iteOmega,toNatUp];refine sD (c1) ?_;exact aM
def tA (j:Jr) (n i:Nat):List (Nat×V):=[(1,.w (.c (.ptr 1 1 0 0))),(2,.w (.c (.ptr 3 1 0 0))),(3,.w (.c (.own 2 1 0 n))),(25,.w (.c (.d (.sl (j.ck.map fun l=>D.sl (l.map bD)))))),(26,.w (.c (.d (.int .i64 (j.ck.length:Int))))),(27,.w (.c (.d (.int .i64 (i:Int)))))]
def xq (j:Jr) (i:Nat):St:=⟨aT (tA j (j.ck.take i).length i),hL [(1,bR j (.d (.sl (j.ck.map fun l=>D.sl (l.map bD))))),(2,.row 1 ((j.ck.take i).map fun l=>D.sl (l.map bD))),(3,bA)],uL [1,2,3]⟩
def z2:aS := .seq (.reg [oO 28 (.bin .lss (.t 27) (.t 26))]) (.seq (.cond (.t 28) (.skip) (.exit 0)) (.seq (.block 1 (.seq (.reg [oO 29 (.idxSl 1 (.t 25) (.t 27)),oO 30 (.load .sc (.t 29)),oM 5 30]) (.reg [oM 31 3,oM 32 5,oO 33 (.bldSl false 1 1 (.sl []) [(0,(.t 32))]),oO 34 (.call 50 [(.t 33)] none),oO 35 (.bldSl false 1 1 (.sl []) [(0,(.t 34))]),oO 36 (.app false 1 24 (.t 31) (.t 35)),oM 3 36]))) (.reg [oO 37 (.bin .add (.t 27) (kI 1)),oM 27 37])))
def NB:aG:=⟨1,41,.seq (.reg [oO 1 (.box .ownBox (.t 0)),oO 2 (.alloc [.nil,.nil,.nil,.nil,(.d (.int .i64 0)),(.d (.int .i64 0))])]) (.seq (.reg [oO 6 (.fieldAddr 0 (.t 1)),oO 7 (.fieldAddr 0 (.t 6)),oO 8 (.load .sc (.t 7)),oO 9 (.bldSl false 1 1 (.sl []) [(0,(.t 8))]),oO 10 (.call 50 [(.t 9)] none),oO 11 (.fieldAddr 0 (.t 1)),oO 12 (.fieldAddr 1 (.t 11)),oO 13 (.load .sc (.t 12)),oO 14 (.bldSl false 1 1 (.sl []) [(0,(.t 13))]),oO 15 (.call 50 [(.t 14)] none),oO 16 (.build [.nil,.nil] [(0,1,(.t 10)),(1,1,(.t 15))]),oO 17 (.fieldAddr 0 (.t 1)),oN (.store (.ag 2) (.t 17) (.t 16))]) (.seq (.reg [oO 18 (.fieldAddr 3 (.t 1)),oO 19 (.load .sc (.t 18)),oO 20 (.bldSl false 1 1 (.sl []) [(0,(.t 19))]),oO 21 (.call 50 [(.t 20)] none),oO 22 (.fieldAddr 3 (.t 1)),oN (.store .sc (.t 22) (.t 21))]) (.seq (.reg [oO 23 (.make true 1 24 (.sl []) (kI 0) (kI 8)),
 oM 3 23]) (.seq (.seq (.reg [oO 24 (.fieldAddr 2 (.t 1)),oO 25 (.load .sc (.t 24)),oO 26 (.len (.t 25)),oO 27 (.mv (kI 0))]) (.block 0 (.loop z2))) (.seq (.reg [oM 38 3,oO 39 (.fieldAddr 2 (.t 1)),oN (.store .sc (.t 39) (.t 38))]) (.seq (.reg [oO 40 (.load (.ag 6) (.t 1)),oN (.store (.ag 6) (.t 2) (.t 40))]) (.ret))))))),[(2,(some (.ag 6)))]⟩
theorem Y0:aF Tryz.prog { own:=[1],comp:=[],frz:=[],nils:=[] } Tryz.f33=some NB:=by kernel_rfl
theorem Pb (G:ah) (j:Jr) (h1:j.up.length≤140737488355328) (h2:j.dn.length≤140737488355328) (h3:j.la.length≤140737488355328) (h4:∀ c∈j.ck,c.length≤140737488355328) (h5:j.ck.length≤1000000):aB Tryz.prog G 33 [bK j] (.w (.mix (tP j))):=by
  refine aI Tryz.func33 Y0 rfl rfl ?_;have c1:=fc G [j.up] (by simp) (by simp; omega);have c2:=fc G [j.dn] (by simp) (by simp; omega);have c3:=fc G [j.la] (by simp) (by simp; omega);simp only[abK,abS,acn,acp,abP] at c1 c2 c3;unfold bK;simp only[NB,af,ae,aa,seval,iteOmega,toNatUp];refine sD (c1) ?_;refine sD (c2) ?_;refine sD (c3) ?_;refine ba (xq j) (fun i=>j.ck.length-i) (fun i=>i≤j.ck.length) 0 (abM _) ?_ ?_
  ·refine ap (fun i=>if i=1 then 8 else if i=2 then 184 else 16) ?_ ?_ rfl rfl <;> simp only[tA,bZ,bR,bA,wx,aj,ar,aa,seval,iteOmega,toNatUp] <;> first | rfl | exact⟨rfl,rfl⟩ | skip
  ·intro i hi;clear c1 c2 c3;by_cases hlt:i<j.ck.length
   ·have g:=kx hlt;have hs:=qP hlt;have hm:=h4 _ (kz hlt);have tl:(j.ck.take i).length=i:=by rw[abN]; omega
    have az:=fP (j.ck.take i);generalize j.ck.getD i []=x at *
    have c4:=fc G [x] (by simp) (by simp; omega);simp only[abK,abS,acn,acp,abP] at c4;simp only[z2,xq,tA,bZ,bR,bA,ae,aa,seval,iteOmega,toNatUp,aD,g,tl];refine sC (c4) ?_;simp only[bQ,tl,ae,aa,seval,iteOmega,toNatUp];refine aU (i+1) (by omega) (by omega) (ap (fun i=>if i=1 then 1 else if i=2 then 288 else 3) ?_ ?_ rfl rfl) <;> simp only[xq,tA,bZ,bR,bA,hs,abJ,acI,abT,tl,wx,aj,ar,aa,seval,iteOmega,toNatUp] <;> first | rfl | exact⟨rfl,rfl⟩ | skip
   ·obtain rfl:i=j.ck.length:=by omega
    have hk:j.ck.take j.ck.length=j.ck:=ab8;have az:=fP j.ck;simp only[z2,xq,tA,bZ,bR,bA,hk,ae,aa,seval,iteOmega,toNatUp];exact BD (k:=.own 2 1 0 j.ck.length) (by simp only[ae,aa,seval,iteOmega,toNatUp] <;> rfl) ⟨rfl,rfl,by simp only[ae,aa,seval,iteOmega,toNatUp,hk]⟩ (by simp[C.ids])
theorem aay (G:ah) (j:Jr) (h1:j.up.length≤140737488355328) (h2:j.dn.length≤140737488355328) (h3:j.la.length≤140737488355328) (h4:∀ c∈j.ck,c.length≤140737488355328) (h5:j.ck.length≤1000000):aB Tryz.prog G 33 [bK j] (.w (.c (.d (bK j)))):=Wa rfl (Pb G j h1 h2 h3 h4 h5)
set_option maxHeartbeats 6400000
def oc (j:Jr) (i:Nat):St:=⟨aT [(1,.w (.c (.rp (bZ j)))),(35,.w (.c (.d (.sl (j.ck.map fun l=>D.sl (l.map bD)))))),(36,.w (.c (.d (.int .i64 (j.ck.length:Int))))),(37,.w (.c (.d (.int .i64 (i:Int)))))],hL [],uL []⟩
def nF:aS := .seq (.reg [oO 38 (.bin .lss (.t 37) (.t 36))]) (.seq (.cond (.t 38) (.skip) (.exit 0)) (.seq (.block 1 (.seq (.reg [oM 39 37,oO 40 (.idxSl 1 (.t 35) (.t 37)),oO 41 (.load .sc (.t 40)),oM 3 39,oM 4 41]) (.seq (.reg [oO 42 (.fieldAddr 2 (.t 1)),oO 43 (.load .sc (.t 42)),oM 44 3,oO 45 (.slice 1 (.t 43) none (some (.t 44)) none),oM 46 4,oO 47 (.call 53 [(.t 45),(.t 46)] none)]) (.cond (.t 47) (.seq (.reg [oO 2 (.mv (.k (.c (.d (.bool false)))))]) (.ret)) (.skip))))) (.reg [oO 48 (.bin .add (.t 37) (kI 1)),oM 37 48])))
def mQ:aG:=⟨1,66,.seq (.reg [oO 1 (.box .roBox (.t 0)),oO 2 (.mv (.k (.c (.d (.bool false)))))]) (.seq (.seq (.reg [oO 5 (.fieldAddr 0 (.t 1)),oO 6 (.load (.ag 2) (.t 5)),oO 7 (.call 51 [(.t 6)] none),oO 8 (.un .not (.t 7)),oM 9 8,oG 10 (.fieldAddr 4 (.t 1)) 9 false,oG 11 (.load .sc (.t 10)) 9 false,oG 12 (.bin .lss (.t 11) (kI 0)) 9 false,oO 13 (.pick (.t 9) (.k (.c (.d (.bool true)))) (.t 12)),oM 14 13,oG 15 (.fieldAddr 5 (.t 1)) 14 false,oG 16 (.load .sc (.t 15)) 14 false,oG 17 (.bin .lss (.t 16) (kI 0)) 14 false,oO 18 (.pick (.t 14) (.k (.c (.d (.bool true)))) (.t 17)),oM 19 18,oG 20 (.fieldAddr 5 (.t 1)) 19 false,oG 21 (.load .sc (.t 20)) 19 false,oG 22 (.bin .gtr (.t 21) (kI 1099511627776)) 19 false,oO 23 (.pick (.t 19) (.k (.c (.d (.bool true)))) (.t 22))]) (.cond (.t 23) (.seq (.reg [oO 2 (.mv (.k (.c (.d (.bool false)))))])
 (.ret)) (.skip))) (.seq (.seq (.reg [oO 24 (.fieldAddr 2 (.t 1)),oO 25 (.load .sc (.t 24)),oO 26 (.len (.t 25)),oO 27 (.bin .gtr (.t 26) (kI 8)),oM 28 27,oG 29 (.fieldAddr 2 (.t 1)) 28 false,oG 30 (.load .sc (.t 29)) 28 false,oG 31 (.call 52 [(.t 30)] none) 28 false,oG 32 (.un .not (.t 31)) 28 false,oO 33 (.pick (.t 28) (.k (.c (.d (.bool true)))) (.t 32))]) (.cond (.t 33) (.seq (.reg [oO 2 (.mv (.k (.c (.d (.bool false)))))]) (.ret)) (.skip))) (.seq (.seq (.reg [oO 34 (.fieldAddr 2 (.t 1)),oO 35 (.load .sc (.t 34)),oO 36 (.len (.t 35)),oO 37 (.mv (kI 0))]) (.block 0 (.loop nF))) (.seq (.reg [oO 49 (.fieldAddr 3 (.t 1)),oO 50 (.load .sc (.t 49)),oO 51 (.len (.t 50)),oO 52 (.bin .eql (.t 51) (kI 0)),oM 53 52,oG 54 (.fieldAddr 3 (.t 1)) 53 false,oG 55 (.load .sc (.t 54)) 53 false,oG 56 (.call 54 [(.t 55)] none) 53 false,
 oG 57 (.mv (.t 56)) 53 false,oG 58 (.fieldAddr 2 (.t 1)) 57 true,oG 59 (.load .sc (.t 58)) 57 true,oG 60 (.fieldAddr 3 (.t 1)) 57 true,oG 61 (.load .sc (.t 60)) 57 true,oG 62 (.call 53 [(.t 59),(.t 61)] none) 57 true,oG 63 (.un .not (.t 62)) 57 true,oG 64 (.pick (.t 57) (.t 63) (.k (.c (.d (.bool false))))) 53 false,oO 65 (.pick (.t 53) (.k (.c (.d (.bool true)))) (.t 64)),oM 2 65]) (.ret))))),[(2,none)]⟩
theorem Y1:aF Tryz.prog { own:=[],comp:=[],frz:=[],nils:=[] } Tryz.f21=some mQ:=by kernel_rfl
theorem s9 (G:ah) (j:Jr):aB Tryz.prog G 21 [bK j] (.w (.c (.d (.bool (decide (di j)))))):=by
  refine aI Tryz.func21 Y1 rfl rfl ?_;have no:¬ di j→decide (di j)=false:=fun h=>decide_eq_false h
  have c1:=aav G j.up j.dn;unfold bK;by_cases h1:oD j.up j.dn
  ·rw[decide_eq_true h1] at c1;by_cases h2:j.nw<0
   ·have g2:(j.nw<0)=True:=eq_true h2;rw[no (fun h=>by have:=h.1.2.2.2.2.2.1; omega)];simp only[mQ,af,ae,aa,seval,iteOmega,toNatUp];refine sC (c1) ?_;simp only[g2,ae,aa,seval,iteOmega,toNatUp];exact aM
   ·have g2:(j.nw<0)=False:=eq_false h2;by_cases h3:j.sn<0
    ·have g3:(j.sn<0)=True:=eq_true h3;rw[no (fun h=>by have:=h.1.2.2.2.2.2.2.1; omega)];simp only[mQ,af,ae,aa,seval,iteOmega,toNatUp];refine sC (c1) ?_;simp only[g2,g3,ae,aa,seval,iteOmega,toNatUp];exact aM
    ·have g3:(j.sn<0)=False:=eq_false h3;by_cases h4:1099511627776<j.sn
     ·have g4:(j.sn>1099511627776)=True:=eq_true h4;rw[no (fun h=>by have:=h.1.2.2.2.2.2.2.2; omega)];simp only[mQ,af,ae,aa,seval,iteOmega,toNatUp];refine sC (c1) ?_;simp only[g2,g3,g4,ae,aa,seval,iteOmega,toNatUp];exact aM
     ·have g4:(j.sn>1099511627776)=False:=eq_false h4;by_cases h5:8<j.ck.length
      ·have g5:((j.ck.length:Int)>8)=True:=eq_true (by omega);rw[no (fun h=>by have:=h.1.2.2.1; omega)];simp only[mQ,af,ae,aa,seval,iteOmega,toNatUp];refine sC (c1) ?_;simp only[g2,g3,g4,g5,ae,aa,seval,iteOmega,toNatUp];exact aM
      ·have g5:((j.ck.length:Int)>8)=False:=eq_false (by omega);have c2:=aaw G j.ck (by omega);by_cases h6:dT j.ck=true
       ·rw[h6] at c2;have a4:=kF.1 h6;simp only[mQ,af,ae,aa,seval,iteOmega,toNatUp];refine sC (c1) ?_;simp only[g2,g3,g4,g5,ae,aa,seval,iteOmega,toNatUp];refine sD (c2) ?_;refine ba (oc j) (fun i=>j.ck.length-i) (fun i=>i≤j.ck.length∧∀ k,k<i→jO j.ck k) 0 ⟨abM _,fun k hk=>by omega⟩ ?_ ?_
        ·refine ap (fun _=>0) ?_ ?_ rfl rfl <;> simp only[bZ,wx,aj,ar,aa,seval,iteOmega,toNatUp] <;> first | rfl | exact⟨rfl,rfl⟩ | skip
        ·clear c1 c2 g2 g3 g4 g5 h6;rintro i ⟨hi,hp⟩;by_cases hlt:i<j.ck.length
         ·have g:=kx hlt;have m4:=a4 _ (kz hlt);have hno:¬ jO j.ck i→decide (di j)=false:=fun h=>decide_eq_false fun v=>h (v.2 i hlt)
          have hgo:jO j.ck i→∀ k,k<i+1→jO j.ck k:=fun a k hk=>by
            rcases ab1 k i with h | h
            ·exact hp k h
            ·obtain rfl:k=i:=by omega
             exact a
          have az:=fP j.ck;have c3:=Cw G (j.ck.take i) (j.ck.getD i []) (by rw[abN]; omega);cases hq:fm (j.ck.take i) (j.ck.getD i [])
          ·have hgo:=hgo ⟨m4,hq⟩;rw[hq] at c3;clear hno hp hq m4 no a4;generalize j.ck.getD i []=x at *
           simp only[nF,oc,bZ,ae,aa,seval,iteOmega,toNatUp,aD,g,az];refine sD (c3) ?_;refine aU (i+1) (by omega) ⟨by omega,hgo⟩ (ap (fun i=>i) ?_ ?_ rfl rfl) <;> simp only[bZ,wx,aj,ar,aa,seval,iteOmega,toNatUp] <;> first | rfl | exact⟨rfl,rfl⟩ | skip
          ·rw[hno (fun h=>by rw[h.2] at hq; cases hq)];rw[hq] at c3;clear hno hp hgo hq m4 no a4;generalize j.ck.getD i []=x at *
           simp only[nF,oc,bZ,ae,aa,seval,iteOmega,toNatUp,aD,g,az];refine sD (c3) ?_;exact aM
         ·have hv:(j.la.length=0∨j.la.length=104)→fm j.ck j.la=false→di j:=fun a b=>⟨⟨h1.1,h1.2,by omega,a,b,by omega,by omega,by omega⟩,fun k hk=>hp k (by omega)⟩
          clear hp;by_cases h7:j.la.length=0
          ·have g7:((j.la.length:Int)=0)=True:=eq_true (by omega);rw[decide_eq_true (hv (.inl h7) (nQ.2 fun h=>by have:=a4 _ h; omega))];clear hv no a4;simp only[nF,oc,bZ,ae,aa,seval,iteOmega,toNatUp,g7];exact aM
          ·have g7:((j.la.length:Int)=0)=False:=eq_false (by omega);have c4:=Cv G j.la;by_cases h8:j.la.length=104
           ·rw[beq_iff_eq.2 h8] at c4;have c5:=Cw G j.ck j.la (by omega);cases hq:fm j.ck j.la
            ·rw[hq] at c5;rw[decide_eq_true (hv (.inr h8) hq)];clear hv no a4 hq;simp only[nF,oc,bZ,ae,aa,seval,iteOmega,toNatUp,g7];refine sD (c4) ?_;refine sD (c5) ?_;exact aM
            ·rw[hq] at c5;rw[no (fun h=>by have:=h.1.2.2.2.2.1; rw[hq] at this; cases this)];clear hv no a4 hq;simp only[nF,oc,bZ,ae,aa,seval,iteOmega,toNatUp,g7];refine sD (c4) ?_;refine sD (c5) ?_;exact aM
           ·rw[beq_eq_false_iff_ne.2 h8] at c4;rw[no (fun h=>by have:=h.1.2.2.2.1; omega)];clear hv no a4;simp only[nF,oc,bZ,ae,aa,seval,iteOmega,toNatUp,g7];refine sD (c4) ?_;exact aM
       ·rw[Bool.not_eq_true] at h6;rw[h6] at c2;rw[no (fun h=>by rw[kF.2 ((lT.1 h).2.1)] at h6; cases h6)];simp only[mQ,af,ae,aa,seval,iteOmega,toNatUp];refine sC (c1) ?_;simp only[g2,g3,g4,g5,ae,aa,seval,iteOmega,toNatUp];refine sD (c2) ?_;exact aM
  ·rw[decide_eq_false h1] at c1;rw[no (fun h=>h1 ⟨h.1.1,h.1.2.1⟩)];simp only[mQ,af,ae,aa,seval,iteOmega,toNatUp];refine sD (c1) ?_;exact aM
def kA (j:Jr) (id n:Nat):List C:=[.d (.sl (j.up.map bD)),.d (.sl (j.dn.map bD)),.own id 1 0 n,.d (.sl (j.la.map bD)),.d (.int .i64 j.nw),.d (.int .i64 j.sn)]
theorem Pf (g:Nat→Nat) (cs:List C):W.ren g (.mix cs)=.mix (cs.map (C.ren g)):=rfl
def nu (l:List (List UInt8)):List D:=l.map fun x=>D.sl (x.map bD)
def Cx (j:Jr) (cs:List (List UInt8)) (i:Nat):St:=⟨aT [(2,.w (.c (.ptr 1 1 0 0))),(4,.w (.c (.ptr 3 1 0 0))),(7,.w (.c (.d (.sl (cs.map fun l=>D.sl (l.map bD)))))),(8,.w (.c (.d (.int .i64 (cs.length:Int))))),(9,.w (.c (.d (.int .i64 (i:Int)))))],hL [(1,bR j (.own 2 1 0 (cq j.la j.ck (cs.take i)).length)),(2,.row 1 ((cq j.la j.ck (cs.take i)).map fun l=>D.sl (l.map bD))),(3,bA)],uL [1,2,3]⟩
def pj:aS := .seq (.reg [oO 10 (.bin .lss (.t 9) (.t 8))]) (.seq (.cond (.t 10) (.skip) (.exit 0)) (.seq (.block 1 (.seq (.reg [oO 11 (.idxSl 1 (.t 7) (.t 9)),oO 12 (.load .sc (.t 11)),oM 6 12]) (.seq (.seq (.reg [oO 13 (.fieldAddr 2 (.t 2)),oO 14 (.load .sc (.t 13)),oO 15 (.len (.t 14)),oO 16 (.bin .eql (.t 15) (kI 8))]) (.cond (.t 16) (.exit 0) (.skip))) (.seq (.reg [oO 17 (.fieldAddr 2 (.t 2)),oO 18 (.load .sc (.t 17)),oM 19 6,oO 20 (.call 53 [(.t 18),(.t 19)] none),oO 21 (.un .not (.t 20)),oM 22 21,oG 23 (.fieldAddr 3 (.t 2)) 22 true,oG 24 (.load .sc (.t 23)) 22 true,oG 25 (.mv (.t 6)) 22 true,oG 26 (.call 55 [(.t 24),(.t 25)] none) 22 true,oG 27 (.un .not (.t 26)) 22 true,oO 28 (.pick (.t 22) (.t 27) (.k (.c (.d (.bool false)))))]) (.cond (.t 28) (.reg [oO 29 (.fieldAddr 2 (.t 2)),
 oO 30 (.load .sc (.t 29)),oM 31 6,oO 32 (.bldSl false 1 1 (.sl []) [(0,(.t 31))]),oO 33 (.call 50 [(.t 32)] none),oO 34 (.bldSl false 1 1 (.sl []) [(0,(.t 33))]),oO 35 (.app false 1 24 (.t 30) (.t 34)),oO 36 (.fieldAddr 2 (.t 2)),oN (.store .sc (.t 36) (.t 35))]) (.skip)))))) (.reg [oO 37 (.bin .add (.t 9) (kI 1)),oM 9 37])))
def NC:aG:=⟨2,39,.seq (.reg [oO 2 (.box .ownBox (.t 0)),oO 4 (.alloc [.nil,.nil,.nil,.nil,(.d (.int .i64 0)),(.d (.int .i64 0))])]) (.seq (.seq (.reg [oM 7 1,oO 8 (.len (.t 7)),oO 9 (.mv (kI 0))]) (.block 0 (.loop pj))) (.seq (.reg [oO 38 (.load (.ag 6) (.t 2)),oN (.store (.ag 6) (.t 4) (.t 38))]) (.ret))),[(4,(some (.ag 6)))]⟩
theorem Y2:aF Tryz.prog { own:=[2],comp:=[],frz:=[],nils:=[] } Tryz.f32=some NC:=by kernel_rfl
theorem aaz (G:ah) (j:Jr) (cs:List (List UInt8)) (v3:j.ck.length≤8) (m4:∀ c∈cs,c.length≤140737488355328) (hcs:cs.length≤9000000000000000000) :
    ij Tryz.prog G 32 [.mix (kA j 1 j.ck.length),.c (.d (.sl (nu cs)))] [(1,.row 1 (nu j.ck))] (.w (.mix (kA j 3 (cq j.la j.ck cs).length))) [(3,.row 1 (nu (cq j.la j.ck cs)))]:=by
  refine oU Tryz.func32 Y2 [] rfl rfl rfl rfl rfl rfl rfl ?_;unfold kA nu;simp only[NC,gD,ix,ju,ae,aa,seval,iteOmega,toNatUp];refine ba (Cx j cs) (fun i=>cs.length-i) (fun i=>i≤cs.length) 0 (abM _) ?_ ?_
  ·refine ap (fun i=>if i=1 then 16 else if i=2 then 1 else 32) ?_ ?_ rfl rfl <;> simp only[ac1,cq,acX,bR,bA,wx,aj,ar,aa,seval,iteOmega,toNatUp] <;> first | rfl | exact⟨rfl,rfl⟩ | skip
  ·intro i hi;have L8:=KU (la:=j.la) (l:=j.ck) (cs.take i) v3;have stop:=fun h=>TQ (la:=j.la) (l:=j.ck) (cs:=cs) (i:=i) h
   by_cases hlt:i<cs.length
   ·have g:=kx hlt;have hn:cq j.la j.ck (cs.take (i+1))=jP j.la (cq j.la j.ck (cs.take i)) (cs.getD i []):=by rw[qP hlt,Im]
    have m4:=m4 _ (kz hlt);have az:=fP (cq j.la j.ck (cs.take i));unfold jP qG at hn;have e2:Cx j cs i=⟨aT [(2,.w (.c (.ptr 1 1 0 0))),(4,.w (.c (.ptr 3 1 0 0))),(7,.w (.c (.d (.sl (cs.map fun l=>D.sl (l.map bD)))))),(8,.w (.c (.d (.int .i64 (cs.length:Int))))),(9,.w (.c (.d (.int .i64 (i:Int)))))],hL [(1,bR j (.own 2 1 0 (cq j.la j.ck (cs.take i)).length)),(2,.row 1 ((cq j.la j.ck (cs.take i)).map fun l=>D.sl (l.map bD))),(3,bA)],uL [1,2,3]⟩:=rfl;rw[e2];clear e2;generalize cq j.la j.ck (cs.take i)=L at *
    generalize cs.getD i []=x at *
    by_cases h8:L.length=8
    ·have g8:((L.length:Int)=8)=True:=eq_true (by omega);rw[stop h8];simp only[pj,bR,bA,ix,ju,ae,aa,seval,iteOmega,toNatUp,aD,g,g8];refine mY [(3,2)] [] (ws:=[.mix (kA j 2 L.length)]) ?_ rfl ?_ rfl trivial ⟨by simp,fun id h h1=>by simp at h h1; omega⟩
     ·simp only[aX,kA,ae,aa,seval,iteOmega,toNatUp] <;> rfl
     ·simp only[iJ,wx,aj,ar,aa,seval,iteOmega,toNatUp,ce]
    ·have g8:((L.length:Int)=8)=False:=eq_false (by omega);have h8':L.length<8:=by omega
     have c3:=Cw G L x (by omega);have c4:=pO G j.la x;have c5:=fc G [x] (by simp) (by simp; omega);simp only[abK,abS,acn,acp,abP] at c5;clear stop;cases q1:fm L x
     ·rw[q1] at c3;cases q2:j.la==x
      ·rw[q2] at c4;rw[if_pos (by rw[q1,q2,decide_eq_true h8']; rfl)] at hn;simp only[pj,bR,bA,ix,ju,ae,aa,seval,iteOmega,toNatUp,aD,g,g8];refine bd c3 (by simp only[ae,aa,seval,iteOmega,toNatUp,ab8]) (.inr rfl) ?_;simp only[ae,aa,seval,iteOmega,toNatUp,aD,g];refine sC (c4) ?_;simp only[aD,g,ae,aa,seval,iteOmega,toNatUp];refine sC (c5) ?_;simp only[bQ,ae,aa,seval,iteOmega,toNatUp];refine aU (i+1) (by omega) (by omega) (ap (fun i=>if i=1 then 1 else if i=2 then 280 else 3) ?_ ?_ rfl rfl) <;> simp only[hn,abT,bR,bA,wx,aj,ar,aa,seval,iteOmega,toNatUp] <;> first | rfl | exact⟨rfl,rfl⟩ | skip
      ·rw[q2] at c4;rw[if_neg (by rw[q1,q2]; simp)] at hn;simp only[pj,bR,bA,ix,ju,ae,aa,seval,iteOmega,toNatUp,aD,g,g8];refine bd c3 (by simp only[ae,aa,seval,iteOmega,toNatUp,ab8]) (.inr rfl) ?_;simp only[ae,aa,seval,iteOmega,toNatUp,aD,g];refine sD (c4) ?_;refine aU (i+1) (by omega) (by omega) (ap (fun i=>i) ?_ ?_ rfl rfl) <;> simp only[hn,bR,bA,wx,aj,ar,aa,seval,iteOmega,toNatUp] <;> first | rfl | exact⟨rfl,rfl⟩ | skip
     ·rw[q1] at c3;rw[if_neg (by rw[q1]; simp)] at hn;simp only[pj,bR,bA,ix,ju,ae,aa,seval,iteOmega,toNatUp,aD,g,g8];refine bd c3 (by simp only[ae,aa,seval,iteOmega,toNatUp,ab8]) (.inr rfl) ?_;simp only[ae,aa,seval,iteOmega,toNatUp];refine aU (i+1) (by omega) (by omega) (ap (fun i=>i) ?_ ?_ rfl rfl) <;> simp only[hn,bR,bA,wx,aj,ar,aa,seval,iteOmega,toNatUp] <;> first | rfl | exact⟨rfl,rfl⟩ | skip
   ·obtain rfl:i=cs.length:=by omega
    have hk:cs.take cs.length=cs:=ab8;have az:=fP (cq j.la j.ck cs);simp only[pj,Cx,bR,bA,ix,ju,hk,ae,aa,seval,iteOmega,toNatUp];refine mY [(3,2)] [] (ws:=[.mix (kA j 2 (cq j.la j.ck cs).length)]) ?_ rfl ?_ rfl trivial ⟨by simp,fun id h h1=>by simp at h h1; omega⟩
    ·simp only[aX,kA,hk,ae,aa,seval,iteOmega,toNatUp] <;> rfl
    ·simp only[iJ,hk,wx,aj,ar,aa,seval,iteOmega,toNatUp,ce]
def sM:aG:=⟨1,39,.seq (.reg [oO 1 (.box .roBox (.t 0)),oO 2 (.alloc [.nil,.nil,.nil,.nil,(.d (.int .i64 0)),(.d (.int .i64 0))]),oO 3 (.mv (.k (.c .nil))),oO 4 (.mv (kI 0))]) (.seq (.seq (.reg [oO 6 (.load (.ag 6) (.t 1)),oO 7 (.call 21 [(.t 6)] none),oO 8 (.un .not (.t 7))]) (.cond (.t 8) (.seq (.reg [oO 9 (.build [.nil,.nil,.nil,.nil,(.d (.int .i64 0)),(.d (.int .i64 0))] []),oN (.store (.ag 6) (.t 2) (.t 9)),oO 3 (.mv (.k (.c .nil))),oO 4 (.mv (kI 3))]) (.ret)) (.skip))) (.seq (.seq (.reg [oO 10 (.fieldAddr 2 (.t 1)),oO 11 (.load .sc (.t 10)),oO 12 (.len (.t 11)),oO 13 (.bin .eql (.t 12) (kI 0))]) (.cond (.t 13) (.seq (.reg [oO 14 (.build [.nil,.nil,.nil,.nil,(.d (.int .i64 0)),(.d (.int .i64 0))] []),oN (.store (.ag 6) (.t 2) (.t 14)),oO 3 (.mv (.k (.c .nil))),oO 4 (.mv (kI 10))])
 (.ret)) (.skip))) (.seq (.seq (.reg [oO 15 (.fieldAddr 5 (.t 1)),oO 16 (.load .sc (.t 15)),oO 17 (.bin .eql (.t 16) (kI 1099511627776))]) (.cond (.t 17) (.seq (.reg [oO 18 (.build [.nil,.nil,.nil,.nil,(.d (.int .i64 0)),(.d (.int .i64 0))] []),oN (.store (.ag 6) (.t 2) (.t 18)),oO 3 (.mv (.k (.c .nil))),oO 4 (.mv (kI 7))]) (.ret)) (.skip))) (.seq (.reg [oO 19 (.load (.ag 6) (.t 1)),oO 20 (.call 33 [(.t 19)] none),oO 5 (.alloc [.nil,.nil,.nil,.nil,(.d (.int .i64 0)),(.d (.int .i64 0))]),oN (.store (.ag 6) (.t 5) (.t 20))]) (.seq (.reg [oO 21 (.fieldAddr 2 (.t 5)),oO 22 (.load .sc (.t 21)),oO 23 (.idxSl 1 (.t 22) (kI 0)),oO 24 (.load .sc (.t 23)),oO 25 (.fieldAddr 2 (.t 5)),oO 26 (.load .sc (.t 25)),oO 27 (.slice 1 (.t 26) (some (kI 1)) none none),oO 28 (.fieldAddr 3 (.t 5)),oN (.store .sc (.t 28) (.t 24)),
 oO 29 (.fieldAddr 2 (.t 5)),oN (.store .sc (.t 29) (.t 27))]) (.seq (.reg [oO 30 (.fieldAddr 5 (.t 5)),oO 31 (.load .sc (.t 30)),oO 32 (.bin .add (.t 31) (kI 1)),oO 33 (.fieldAddr 5 (.t 5)),oN (.store .sc (.t 33) (.t 32))]) (.seq (.reg [oO 34 (.load (.ag 6) (.t 5)),oO 35 (.fieldAddr 3 (.t 5)),oO 36 (.load .sc (.t 35)),oO 37 (.bldSl false 1 1 (.sl []) [(0,(.t 36))]),oO 38 (.call 50 [(.t 37)] (some (0,1))),oN (.store (.ag 6) (.t 2) (.t 34)),oM 3 38,oO 4 (.mv (kI 0))]) (.ret)))))))),[(2,(some (.ag 6))),(3,none),(4,none)]⟩
theorem Y3:aF Tryz.prog { own:=[38],comp:=[],frz:=[],nils:=[] } Tryz.f24=some sM:=by kernel_rfl
theorem aaA (G:ah) (j:Jr):aB Tryz.prog G 24 [bK j] (.tup [.c (.d (bK (xW j))),.c (.d (.sl ((xX j).map bD))),.c (.d (.int .i64 (fG j)))]):=by
  refine aI Tryz.func24 Y3 rfl rfl ?_;have c1:=s9 G j;by_cases v:di j
  ·rw[decide_eq_true v] at c1;obtain⟨v1,v2,v3,v4,v5⟩:=pR v;by_cases h1:j.ck.length=0
   ·have e:fG j=10:=by unfold fG; rw[if_neg (not_not_intro v),if_pos h1]
    obtain⟨q1,q2⟩:=Cs e (by decide);have g1:((j.ck.length:Int)=0)=True:=eq_true (by omega);rw[q1,q2,e];unfold bK dE at *
    simp only[sM,af,ae,aa,seval,iteOmega,toNatUp];refine sC (c1) ?_;simp only[g1,ae,aa,seval,iteOmega,toNatUp];exact cN
   ·have g1:((j.ck.length:Int)=0)=False:=eq_false (by omega);by_cases h2:j.sn=1099511627776
    ·have e:fG j=7:=by unfold fG; rw[if_neg (not_not_intro v),if_neg h1,if_pos h2]
     obtain⟨q1,q2⟩:=Cs e (by decide);have g2:(j.sn=1099511627776)=True:=eq_true h2;rw[q1,q2,e];unfold bK dE at *
     simp only[sM,af,ae,aa,seval,iteOmega,toNatUp];refine sC (c1) ?_;simp only[g1,g2,ae,aa,seval,iteOmega,toNatUp];exact cN
    ·have e:fG j=0:=by unfold fG; rw[if_neg (not_not_intro v),if_neg h1,if_neg h2]
     have g2:(j.sn=1099511627776)=False:=eq_false h2;rw[show xW j=bV j from if_pos e,show xX j=j.ck.getD 0 [] from if_pos e,e];have c2:=aay G j (by omega) (by omega) (by omega) (fun c hc=>by have:=v5 c hc; omega) (by omega);have f0:=kx (l:=j.ck) (i:=0) (by omega);have m0:=v5 _ (kz (l:=j.ck) (i:=0) (by omega));have s8:0≤j.sn∧j.sn≤1099511627776:=v.1.2.2.2.2.2.2;have az:=fP j.ck;have d1:(j.ck.drop 1).take (j.ck.length-1)=j.ck.drop 1:=abH (by rw[abO]; omega);unfold bV bK at *
     dsimp only at *
     generalize j.ck.getD 0 []=x at *
     have c3:=fc G [x] (by simp) (by simp; omega);simp only[abK,abS,acn,acp,abP] at c3;simp only[sM,af,ae,aa,seval,iteOmega,toNatUp];refine sC (c1) ?_;simp only[g1,g2,ae,aa,seval,iteOmega,toNatUp];refine sC (c2) ?_;simp only[aD,f0,az,ae,aa,seval,iteOmega,toNatUp];refine sC (c3) ?_;simp only[d1,ae,aa,seval,iteOmega,toNatUp];exact cN
  ·rw[decide_eq_false v] at c1;have e:fG j=3:=if_pos v;obtain⟨q1,q2⟩:=Cs e (by decide);rw[q1,q2,e];unfold bK dE at *
   simp only[sM,af,ae,aa,seval,iteOmega,toNatUp];refine sD (c1) ?_;exact cN
def BG:aG:=⟨1,11,.seq (.reg [oO 1 (.box .roBox (.t 0)),oO 2 (.mv (kI 0)),oO 3 (.mv (kI 0))]) (.seq (.seq (.reg [oO 4 (.load (.ag 6) (.t 1)),oO 5 (.call 21 [(.t 4)] none),oO 6 (.un .not (.t 5))]) (.cond (.t 6) (.seq (.reg [oO 2 (.mv (kI 0)),oO 3 (.mv (kI 3))]) (.ret)) (.skip))) (.seq (.reg [oO 7 (.fieldAddr 2 (.t 1)),oO 8 (.load .sc (.t 7)),oO 9 (.len (.t 8)),oO 10 (.bin .sub (kI 8) (.t 9)),oM 2 10,oO 3 (.mv (kI 0))]) (.ret))),[(2,none),(3,none)]⟩
theorem Y4:aF Tryz.prog { own:=[],comp:=[],frz:=[],nils:=[] } Tryz.f17=some BG:=by kernel_rfl
theorem Cy (G:ah) (j:Jr):aB Tryz.prog G 17 [bK j] (.tup [.c (.d (.int .i64 (qR j))),.c (.d (.int .i64 (qQ j)))]):=by
  refine aI Tryz.func17 Y4 rfl rfl ?_;have c1:=s9 G j;by_cases v:di j
  ·rw[decide_eq_true v] at c1;obtain⟨v1,v2,v3,v4,v5⟩:=pR v;rw[show qR j=8-(j.ck.length:Int) from if_pos v,show qQ j=0 from if_pos v];unfold bK at *
   simp only[BG,af,ae,aa,seval,iteOmega,toNatUp];refine sD (c1) ?_;exact cI
  ·rw[decide_eq_false v] at c1;rw[show qR j=0 from if_neg v,show qQ j=3 from if_neg v];unfold bK at *
   simp only[BG,af,ae,aa,seval,iteOmega,toNatUp];refine sD (c1) ?_;exact cI
def vO:aG:=⟨1,9,.seq (.reg [oO 2 (.mv (.k (.c (.d (.bool false)))))]) (.seq (.reg [oM 3 0,oO 4 (.bin .leq (kI 16) (.t 3)),oM 5 4,oG 6 (.mv (.t 0)) 5 true,oG 7 (.bin .leq (.t 6) (kI 32)) 5 true,oO 8 (.pick (.t 5) (.t 7) (.k (.c (.d (.bool false))))),oM 2 8]) (.ret)),[(2,none)]⟩
theorem Wb:aF Tryz.prog { own:=[],comp:=[],frz:=[],nils:=[] } Tryz.f44=some vO:=by kernel_rfl
theorem NE (G:ah) (n:Int):aB Tryz.prog G 44 [.int .i64 n] (.w (.c (.d (.bool (decide (16≤n∧n≤32)))))):=by
  refine aI Tryz.func44 Wb rfl rfl ?_;by_cases h1:16≤n
  ·by_cases h2:n≤32
   ·rw[decide_eq_true ⟨h1,h2⟩];simp only[vO,af,ae,aa,seval,iteOmega,toNatUp];exact aM
   ·rw[decide_eq_false (fun h=>h2 h.2)];simp only[vO,af,ae,aa,seval,iteOmega,toNatUp];exact aM
  ·rw[decide_eq_false (fun h=>h1 h.1)];simp only[vO,af,ae,aa,seval,iteOmega,toNatUp];exact aM
theorem KW (n s:List UInt8):([au n.length 2,au s.length 2,dl n 4,dl s 4]:List (List UInt8)).flatten=bT n s:=by
  unfold bT;simp only[acn,acp,abP]
def NF:aG:=⟨2,20,.seq (.reg [oO 4 (.alloc [(.d (.int .i64 0)),.nil])]) (.seq (.reg [oM 5 0,oO 6 (.len (.t 5)),oO 7 (.conv .u64 (.t 6)),oO 8 (.call 81 [(.t 7),(kI 2)] none),oM 9 1,oO 10 (.len (.t 9)),oO 11 (.conv .u64 (.t 10)),oO 12 (.call 81 [(.t 11),(kI 2)] none),oM 13 0,oO 14 (.call 82 [(.t 13),(kI 4)] none),oM 15 1,oO 16 (.call 82 [(.t 15),(kI 4)] none),oO 17 (.bldSl false 4 1 (.sl []) [(0,(.t 8)),(1,(.t 12)),(2,(.t 14)),(3,(.t 16))]),oO 18 (.call 50 [(.t 17)] none),oO 19 (.build [(.d (.int .i64 0)),.nil] [(0,1,(kI 1028)),(1,1,(.t 18))]),oN (.store (.ag 2) (.t 4) (.t 19))]) (.ret)),[(4,(some (.ag 2)))]⟩
theorem Y5:aF Tryz.prog { own:=[],comp:=[],frz:=[],nils:=[] } Tryz.f49=some NF:=by kernel_rfl
theorem Pg (G:ah) (n s:List UInt8) (hn:n.length≤1000000) (hs:s.length≤1000000):aB Tryz.prog G 49 [.sl (n.map bD),.sl (s.map bD)] (.w (.c (.d (aL (du n s))))):=by
  refine aI Tryz.func49 Y5 rfl rfl ?_;have c1:=jA G n.length 2 (by decide);have c2:=jA G s.length 2 (by decide);rw[show (2:Int).toNat=2 from rfl] at c1 c2;have c3:=xb G n 4 (by omega);have c4:=xb G s 4 (by omega);have cj:=fc G [au n.length 2,au s.length 2,dl n 4,dl s 4] (by simp) (by simp[bP,rt]; omega);rw[KW] at cj;unfold du aL;generalize bT n s=B at *
  generalize au n.length 2=B1 at *
  generalize au s.length 2=B2 at *
  generalize dl n 4=B3 at *
  generalize dl s 4=B4 at *
  simp only[abK,abS] at cj;simp only[NF,af,ae,aa,seval,iteOmega,toNatUp];refine sD (c1) ?_;refine sD (c2) ?_;refine sD (c3) ?_;refine sD (c4) ?_;refine sD (cj) ?_;exact aM
def mM:aG:=⟨1,70,.seq (.reg [oO 2 (.mv (.k (.c .nil))),oO 3 (.mv (.k (.c .nil))),oO 4 (.mv (.k (.c (.d (.bool false)))))]) (.seq (.reg [oM 10 0,oO 11 (.call 92 [(.t 10),(kI 4)] none),oM 9 11,oO 12 (.extract (.t 9) 0),oO 13 (.extract (.t 9) 1),oO 14 (.extract (.t 9) 2),oM 5 12,oM 6 13,oM 4 14]) (.seq (.seq (.reg [oM 15 4,oO 16 (.un .not (.t 15))]) (.cond (.t 16) (.seq (.reg [oO 2 (.mv (.k (.c .nil))),oO 3 (.mv (.k (.c .nil))),oO 4 (.mv (.k (.c (.d (.bool false)))))]) (.ret)) (.skip))) (.seq (.reg [oM 17 5,oO 18 (.slice 1 (.t 17) none (some (kI 2)) none),oO 19 (.call 93 [(.t 18)] none),oO 20 (.conv .i64 (.t 19)),oM 21 5,oO 22 (.slice 1 (.t 21) (some (kI 2)) none none),oO 23 (.call 93 [(.t 22)] none),oO 24 (.conv .i64 (.t 23)),oM 7 20,oM 8 24]) (.seq (.reg [oM 26 6,oM 27 7,oO 28 (.call 92 [(.t 26),(.t 27)] none),
 oM 25 28,oO 29 (.extract (.t 25) 0),oO 30 (.extract (.t 25) 1),oO 31 (.extract (.t 25) 2),oM 2 29,oM 4 31]) (.seq (.seq (.reg [oM 32 4,oO 33 (.un .not (.t 32)),oM 34 33,oG 35 (.mv (.t 7)) 34 false,oG 36 (.call 44 [(.t 35)] none) 34 false,oG 37 (.un .not (.t 36)) 34 false,oO 38 (.pick (.t 34) (.k (.c (.d (.bool true)))) (.t 37))]) (.cond (.t 38) (.seq (.reg [oO 2 (.mv (.k (.c .nil))),oO 3 (.mv (.k (.c .nil))),oO 4 (.mv (.k (.c (.d (.bool false)))))]) (.ret)) (.skip))) (.seq (.reg [oM 40 6,oM 41 2,oO 42 (.call 82 [(.t 41),(kI 4)] none),oO 43 (.len (.t 42)),oO 44 (.call 92 [(.t 40),(.t 43)] none),oM 39 44,oO 45 (.extract (.t 39) 0),oO 46 (.extract (.t 39) 1),oO 47 (.extract (.t 39) 2),oM 6 46,oM 4 47]) (.seq (.seq (.reg [oM 48 4,oO 49 (.un .not (.t 48))]) (.cond (.t 49) (.seq (.reg [oO 2 (.mv (.k (.c .nil))),
 oO 3 (.mv (.k (.c .nil))),oO 4 (.mv (.k (.c (.d (.bool false)))))]) (.ret)) (.skip))) (.seq (.reg [oM 51 6,oM 52 8,oO 53 (.call 92 [(.t 51),(.t 52)] none),oM 50 53,oO 54 (.extract (.t 50) 0),oO 55 (.extract (.t 50) 1),oO 56 (.extract (.t 50) 2),oM 3 54,oM 4 56]) (.seq (.seq (.reg [oM 57 4,oO 58 (.un .not (.t 57)),oM 59 58,oG 60 (.mv (.t 2)) 59 false,oG 61 (.mv (.t 3)) 59 false,oG 62 (.call 49 [(.t 60),(.t 61)] none) 59 false,oG 63 (.field 1 .sc (.t 62)) 59 false,oG 64 (.mv (.t 0)) 59 false,oG 65 (.call 55 [(.t 63),(.t 64)] none) 59 false,oG 66 (.un .not (.t 65)) 59 false,oO 67 (.pick (.t 59) (.k (.c (.d (.bool true)))) (.t 66))]) (.cond (.t 67) (.seq (.reg [oO 2 (.mv (.k (.c .nil))),oO 3 (.mv (.k (.c .nil))),oO 4 (.mv (.k (.c (.d (.bool false)))))]) (.ret)) (.skip))) (.seq (.reg [oM 68 2,
 oM 69 3,oM 2 68,oM 3 69,oO 4 (.mv (.k (.c (.d (.bool true)))))]) (.ret))))))))))),[(2,none),(3,none),(4,none)]⟩
theorem Wc:aF Tryz.prog { own:=[],comp:=[],frz:=[],nils:=[] } Tryz.f63=some mM:=by kernel_rfl
theorem Y6 (G:ah) (d:List UInt8) (hd:d.length≤100000):aB Tryz.prog G 63 [.sl (d.map bD)] (.tup [.c (.d (.sl ((mE d).map bD))),.c (.d (.sl ((mF d).map bD))),.c (.d (.bool (decide (eh d))))]):=by
  refine aI Tryz.func63 Wc rfl rfl ?_;unfold mE mF;rcases ab1 d.length 4 with h4 | h4
  ·have hno:¬ eh d:=fun h=>by have:=h.1; omega
   rw[if_neg hno,if_neg hno,decide_eq_false hno];have c1:=wE G d 4 (.inr (by omega));simp only[mM,af,ae,aa,seval,iteOmega,toNatUp];refine sD (c1) ?_;exact fT (by simp only[ae,aa,seval,iteOmega,toNatUp] <;> rfl) (by simp only[ae,aa,seval,iteOmega,toNatUp] <;> rfl) (by simp only[ae,aa,seval,iteOmega,toNatUp])
  ·have c1:=wC G d 4 h4 (by omega);rw[show ((4:Nat):Int)=4 from rfl] at c1;have t1:(d.take 4).take 2=aK d 0 2:=by rw[List.take_take]; rfl
   have t2:(d.take 4).drop 2=aK d 2 2:=by rw[List.drop_take]; rfl
   have c2:=qd G (aK d 0 2) (by rw[dj (by omega)]; decide);have c3:=qd G (aK d 2 2) (by rw[dj (by omega)]; decide);have b1:=(iL 2 (aK d 0 2) (dj (by omega)) (by decide)).1;have b2:=(iL 2 (aK d 2 2) (dj (by omega)) (by decide)).1;have hl1:(aK d 0 2).length=2:=dj (by omega);have hl2:(aK d 2 2).length=2:=dj (by omega);have hl4:(d.take 4).length=4:=by simp; omega
   have hld:(d.drop 4).length=d.length-4:=by simp
   have t3:(aK d 2 2).take 2=aK d 2 2:=abH (by omega);rw[show be (aK d 0 2)=bU d from rfl] at c2 b1;rw[show be (aK d 2 2)=eG d from rfl] at c3 b2;have cf:=NE G (bU d:Int);rcases ab1 (d.length-4) (bU d) with h5 | h5
   ·have hno:¬ eh d:=fun h=>by have:=h.2.2.2.1; unfold dD at this; omega
    rw[if_neg hno,if_neg hno,decide_eq_false hno];clear hno;have c4:=wE G (d.drop 4) (bU d:Int) (.inr (by omega));generalize bU d=n at *
    generalize eG d=m at *
    simp only[mM,af,ae,aa,seval,iteOmega,toNatUp];refine sC (c1) ?_;simp only[t1,t2,t3,hl4,ae,aa,seval,iteOmega,toNatUp];refine sC (c2) ?_;simp only[t1,t2,t3,hl4,ae,aa,seval,iteOmega,toNatUp];refine sD (c3) ?_;refine sD (c4) ?_;exact fT (by simp only[ae,aa,seval,iteOmega,toNatUp] <;> rfl) (by simp only[ae,aa,seval,iteOmega,toNatUp] <;> rfl) (by simp only[ae,aa,seval,iteOmega,toNatUp])
   ·have c4:=wC G (d.drop 4) (bU d) (by omega) (by omega);have e4:(d.drop 4).take (bU d)=bq d:=rfl;have hlB:(bq d).length=bU d:=dj (by omega);rw[e4] at c4;by_cases h6:16≤bU d∧bU d≤32
    ·have h6':16≤(bU d:Int)∧(bU d:Int)≤32:=by omega
     rw[decide_eq_true h6'] at cf;have c5:=kW (xb G (bq d) 4 (by omega));have hlp:=rt (bq d);rw[hlB] at hlp;rcases ab1 (d.length-4) ((bU d+3) / 4*4) with h7 | h7
     ·have hno:¬ eh d:=fun h=>by have:=h.2.2.2.1; unfold dD at this; omega
      rw[if_neg hno,if_neg hno,decide_eq_false hno];clear hno;have c6:=wE G (d.drop 4) ((dl (bq d) 4).length:Int) (.inr (by omega));generalize dl (bq d) 4=B4 at *
      generalize bq d=B3 at *
      generalize bU d=n at *
      generalize eG d=m at *
      simp only[mM,af,ae,aa,seval,iteOmega,toNatUp];refine sC (c1) ?_;simp only[t1,t2,t3,hl4,ae,aa,seval,iteOmega,toNatUp];refine sC (c2) ?_;simp only[t1,t2,t3,hl4,ae,aa,seval,iteOmega,toNatUp];refine sD (c3) ?_;refine sD (c4) ?_;refine sD (cf) ?_;refine sD (c5) ?_;refine sD (c6) ?_;exact fT (by simp only[ae,aa,seval,iteOmega,toNatUp] <;> rfl) (by simp only[ae,aa,seval,iteOmega,toNatUp] <;> rfl) (by simp only[ae,aa,seval,iteOmega,toNatUp])
     ·have c6:=wC G (d.drop 4) (dl (bq d) 4).length (by omega) (by omega);have e6:(d.drop 4).drop (dl (bq d) 4).length=d.drop (dD d):=by rw[adE,hlp]; rfl
      rw[e6] at c6;have hl6:(d.drop (dD d)).length=d.length-dD d:=by simp
      have hpf:dD d=4+(bU d+3) / 4*4:=rfl;rcases ab1 (d.length-dD d) (eG d) with h8 | h8
      ·have hno:¬ eh d:=fun h=>by have:=h.2.2.2.1; omega
       rw[if_neg hno,if_neg hno,decide_eq_false hno];clear hno;have c7:=wE G (d.drop (dD d)) (eG d:Int) (.inr (by omega));generalize d.drop (dD d)=D2 at *
       generalize dl (bq d) 4=B4 at *
       generalize bq d=B3 at *
       generalize bU d=n at *
       generalize eG d=m at *
       simp only[mM,af,ae,aa,seval,iteOmega,toNatUp];refine sC (c1) ?_;simp only[t1,t2,t3,hl4,ae,aa,seval,iteOmega,toNatUp];refine sC (c2) ?_;simp only[t1,t2,t3,hl4,ae,aa,seval,iteOmega,toNatUp];refine sD (c3) ?_;refine sD (c4) ?_;refine sD (cf) ?_;refine sD (c5) ?_;refine sD (c6) ?_;refine sD (c7) ?_;exact fT (by simp only[ae,aa,seval,iteOmega,toNatUp] <;> rfl) (by simp only[ae,aa,seval,iteOmega,toNatUp] <;> rfl) (by simp only[ae,aa,seval,iteOmega,toNatUp])
      ·have c7:=wC G (d.drop (dD d)) (eG d) (by omega) (by omega);have e7:(d.drop (dD d)).take (eG d)=bN d:=rfl;rw[e7] at c7;have hlS:(bN d).length=eG d:=dj (by omega);have c8:=Pg G (bq d) (bN d) (by omega) (by omega);unfold du aL at c8;have c9:=pO G (bT (bq d) (bN d)) d;by_cases hq:bT (bq d) (bN d)=d
       ·have hok:eh d:=⟨h4,h6.1,h6.2,by omega,hq⟩
        rw[if_pos hok,if_pos hok,decide_eq_true hok];clear hok;rw[hq,beq_self_eq_true] at c9;rw[hq] at c8;clear hq;generalize d.drop (dD d)=D2 at *
        generalize dl (bq d) 4=B4 at *
        generalize bN d=B5 at *
        generalize bq d=B3 at *
        generalize bU d=n at *
        generalize eG d=m at *
        simp only[mM,af,ae,aa,seval,iteOmega,toNatUp];refine sC (c1) ?_;simp only[t1,t2,t3,hl4,ae,aa,seval,iteOmega,toNatUp];refine sC (c2) ?_;simp only[t1,t2,t3,hl4,ae,aa,seval,iteOmega,toNatUp];refine sD (c3) ?_;refine sD (c4) ?_;refine sD (cf) ?_;refine sD (c5) ?_;refine sD (c6) ?_;refine sD (c7) ?_;refine sD (c8) ?_;refine sD (c9) ?_;exact cN
       ·have hno:¬ eh d:=fun h=>hq h.2.2.2.2
        rw[if_neg hno,if_neg hno,decide_eq_false hno];clear hno;have e9:(bT (bq d) (bN d)==d)=false:=by simpa using hq
        rw[e9] at c9;clear hq e9;generalize bT (bq d) (bN d)=B6 at *
        generalize d.drop (dD d)=D2 at *
        generalize dl (bq d) 4=B4 at *
        generalize bN d=B5 at *
        generalize bq d=B3 at *
        generalize bU d=n at *
        generalize eG d=m at *
        simp only[mM,af,ae,aa,seval,iteOmega,toNatUp];refine sC (c1) ?_;simp only[t1,t2,t3,hl4,ae,aa,seval,iteOmega,toNatUp];refine sC (c2) ?_;simp only[t1,t2,t3,hl4,ae,aa,seval,iteOmega,toNatUp];refine sD (c3) ?_;refine sD (c4) ?_;refine sD (cf) ?_;refine sD (c5) ?_;refine sD (c6) ?_;refine sD (c7) ?_;refine sD (c8) ?_;refine sD (c9) ?_;exact fT (by simp only[ae,aa,seval,iteOmega,toNatUp] <;> rfl) (by simp only[ae,aa,seval,iteOmega,toNatUp] <;> rfl) (by simp only[ae,aa,seval,iteOmega,toNatUp])
    ·have hno:¬ eh d:=fun h=>h6 ⟨h.2.1,h.2.2.1⟩
     rw[if_neg hno,if_neg hno,decide_eq_false hno];clear hno;have h6':¬ (16≤(bU d:Int)∧(bU d:Int)≤32):=by omega
     rw[decide_eq_false h6'] at cf;clear h6 h6';generalize bq d=B3 at *
     generalize bU d=n at *
     generalize eG d=m at *
     simp only[mM,af,ae,aa,seval,iteOmega,toNatUp];refine sC (c1) ?_;simp only[t1,t2,t3,hl4,ae,aa,seval,iteOmega,toNatUp];refine sC (c2) ?_;simp only[t1,t2,t3,hl4,ae,aa,seval,iteOmega,toNatUp];refine sD (c3) ?_;refine sD (c4) ?_;refine sD (cf) ?_;exact fT (by simp only[ae,aa,seval,iteOmega,toNatUp] <;> rfl) (by simp only[ae,aa,seval,iteOmega,toNatUp] <;> rfl) (by simp only[ae,aa,seval,iteOmega,toNatUp])
theorem Ph {p:cu} (h:dh p=0):xV p=cV p:=if_pos h
theorem NG {p:cu} (h:dh p≠0):xV p=[]:=if_neg h
theorem Wd {h:Hd} (e:fj h=0):xL h=dB h:=if_pos (Co.1 e)
theorem NH {p:cu} (h:fj p.hd≠0):dh p=fj p.hd:=if_neg h
theorem BH {p:cu} (h:fj p.hd=0):dh p=bX p.pl:=if_pos h
theorem NI {p:cu} (h:dh p=0):(cV p).length≤1280:=by
  have:=(nZ (Cq h).2.2).2.2.1;rw[mL]; omega
def vP:aG:=⟨1,29,.seq (.reg [oO 1 (.box .roBox (.t 0)),oO 2 (.mv (.k (.c .nil))),oO 3 (.mv (kI 0))]) (.seq (.reg [oO 8 (.fieldAddr 0 (.t 1)),oO 9 (.load (.ag 13) (.t 8)),oO 10 (.call 76 [(.t 9)] none),oM 7 10,oO 11 (.extract (.t 7) 0),oO 12 (.extract (.t 7) 1),oM 4 11,oM 5 12]) (.seq (.seq (.reg [oM 13 5,oO 14 (.bin .neq (.t 13) (kI 0))]) (.cond (.t 14) (.seq (.reg [oM 15 5,oO 2 (.mv (.k (.c .nil))),oM 3 15]) (.ret)) (.skip))) (.seq (.reg [oO 17 (.fieldAddr 13 (.t 1)),oO 18 (.load .sc (.t 17)),oO 19 (.call 46 [(.t 18)] none),oM 16 19,oO 20 (.extract (.t 16) 0),oO 21 (.extract (.t 16) 1),oM 6 20,oM 5 21]) (.seq (.seq (.reg [oM 22 5,oO 23 (.bin .neq (.t 22) (kI 0))]) (.cond (.t 23) (.seq (.reg [oM 24 5,oO 2 (.mv (.k (.c .nil))),oM 3 24]) (.ret)) (.skip))) (.seq (.reg [oM 25 4,oM 26 6,oO 27 (.bldSl false 2 1 (.sl []) [(0,(.t 25)),(1,(.t 26))]),
 oO 28 (.call 50 [(.t 27)] none),oM 2 28,oO 3 (.mv (kI 0))]) (.ret)))))),[(2,none),(3,none)]⟩
theorem We:aF Tryz.prog { own:=[],comp:=[],frz:=[],nils:=[] } Tryz.f45=some vP:=by kernel_rfl
theorem Y7 (G:ah) (p:cu) (hf:mC p.hd) (hl:p.pl.length≤1000000) (hd:∀ f∈p.pl,f.da.length≤8000000000000000000):aB Tryz.prog G 45 [bz p] (.tup [.c (.d (.sl ((xV p).map bD))),.c (.d (.int .i64 (dh p)))]):=by
  refine aI Tryz.func45 We rfl rfl ?_;have c1:=Yt G p.hd hf;have c2:=Bz G p.pl hl hd;by_cases h1:fj p.hd=0
  ·rw[Wd h1,h1] at c1;by_cases h2:bX p.pl=0
   ·have h0:dh p=0:=by rw[BH h1,h2]
    have hle:=NI h0;have cj:=fc G [dB p.hd,aY p.pl] (by simp) (by
      have:[dB p.hd,aY p.pl].flatten=cV p:=by simp[cV]
      rw[this]; omega)
    have hX:[dB p.hd,aY p.pl].flatten=cV p:=by simp[cV]
    rw[hX] at cj;simp only[abK,abS] at cj;rw[(nZ h2).2.2.2,h2] at c2;rw[h0,Ph h0];clear hX hle h0 h1 h2;generalize cV p=X at *
    generalize dB p.hd=B1 at *
    generalize aY p.pl=B2 at *
    unfold bz;unfold cM at c1;simp only[vP,af,ae,aa,seval,iteOmega,toNatUp];refine sD (c1) ?_;refine sD (c2) ?_;refine sD (cj) ?_;exact cI
   ·have h0:dh p≠0:=by rw[BH h1]; exact h2
    have g:(dh p=0)=False:=eq_false h0;rw[NG h0];rw[show bX p.pl=dh p from (BH h1).symm] at c2;clear h0 h1 h2;generalize dh p=e at *
    generalize dB p.hd=B1 at *
    generalize eZ p.pl=B2 at *
    unfold bz;unfold cM at c1;simp only[vP,af,ae,aa,seval,iteOmega,toNatUp];refine sD (c1) ?_;refine sC (c2) ?_;simp only[g,ae,aa,seval,iteOmega,toNatUp];exact cI
  ·have h0:dh p≠0:=by rw[NH h1]; exact h1
   have g:(dh p=0)=False:=eq_false h0;rw[NG h0];rw[show fj p.hd=dh p from (NH h1).symm] at c1;clear h0 h1 c2;generalize dh p=e at *
   generalize xL p.hd=B1 at *
   unfold bz;unfold cM at c1;simp only[vP,af,ae,aa,seval,iteOmega,toNatUp];refine sC (c1) ?_;simp only[g,ae,aa,seval,iteOmega,toNatUp];exact cI
theorem z7 {b:List UInt8} (h:dJ b≠0):fg b=dJ b∧jn b=ee:=by
  have e:fg b=dJ b:=if_neg h;exact⟨e,if_neg (by rw[e]; exact h)⟩
theorem ze {b:List UInt8} (h:dJ b=0):fg b=cn (b.drop 48)∧ou b=b.drop 48∧ot b=bS b:=⟨if_pos h,if_pos h,if_pos h⟩
def vQ:aG:=⟨1,30,.seq (.reg [oO 2 (.alloc [(.d (.int .i64 0)),(.d (.int .i64 0)),(.d (.int .i64 0)),(.d (.int .i64 0)),(.d (.int .i64 0)),(.d (.int .i64 0)),(.d (.int .u32 0)),(.d (.int .u32 0)),(.d (.int .u32 0)),(.d (.int .u64 0)),(.d (.int .u64 0)),(.d (.int .u64 0)),(.d (.int .u64 0)),.nil,.nil,(.d (.bool false))]),oO 3 (.mv (kI 0))]) (.seq (.reg [oM 9 0,oO 10 (.call 91 [(.t 9)] none),oM 8 10,oO 11 (.extract (.t 8) 0),oO 12 (.extract (.t 8) 1),oO 13 (.extract (.t 8) 2),oO 4 (.alloc [(.d (.int .i64 0)),(.d (.int .i64 0)),(.d (.int .i64 0)),(.d (.int .i64 0)),(.d (.int .i64 0)),(.d (.int .i64 0)),(.d (.int .u32 0)),(.d (.int .u32 0)),(.d (.int .u32 0)),(.d (.int .u64 0)),(.d (.int .u64 0)),(.d (.int .u64 0)),(.d (.int .u64 0))]),oN (.store (.ag 13) (.t 4) (.t 11)),oM 5 12,oM 6 13])
 (.seq (.seq (.reg [oM 14 6,oO 15 (.bin .neq (.t 14) (kI 0))]) (.cond (.t 15) (.seq (.reg [oO 16 (.build [(.d (.int .i64 0)),(.d (.int .i64 0)),(.d (.int .i64 0)),(.d (.int .i64 0)),(.d (.int .i64 0)),(.d (.int .i64 0)),(.d (.int .u32 0)),(.d (.int .u32 0)),(.d (.int .u32 0)),(.d (.int .u64 0)),(.d (.int .u64 0)),(.d (.int .u64 0)),(.d (.int .u64 0)),.nil,.nil,(.d (.bool false))] []),oM 17 6,oN (.store (.ag 16) (.t 2) (.t 16)),oM 3 17]) (.ret)) (.skip))) (.seq (.reg [oM 19 5,oO 20 (.call 66 [(.t 19)] none),oM 18 20,oO 21 (.extract (.t 18) 0),oO 22 (.extract (.t 18) 1),oM 7 21,oM 6 22]) (.seq (.seq (.reg [oM 23 6,oO 24 (.bin .neq (.t 23) (kI 0))]) (.cond (.t 24) (.seq (.reg [oO 25 (.build [(.d (.int .i64 0)),(.d (.int .i64 0)),(.d (.int .i64 0)),(.d (.int .i64 0)),(.d (.int .i64 0)),(.d (.int .i64 0)),(.d (.int .u32 0)),(.d (.int .u32 0)),(.d (.int .u32 0)),(.d (.int .u64 0)),(.d (.int .u64 0)),(.d (.int .u64 0)),(.d (.int .u64 0)),.nil,.nil,(.d (.bool false))] []),
 oM 26 6,oN (.store (.ag 16) (.t 2) (.t 25)),oM 3 26]) (.ret)) (.skip))) (.seq (.reg [oO 27 (.load (.ag 13) (.t 4)),oM 28 7,oO 29 (.build [(.d (.int .i64 0)),(.d (.int .i64 0)),(.d (.int .i64 0)),(.d (.int .i64 0)),(.d (.int .i64 0)),(.d (.int .i64 0)),(.d (.int .u32 0)),(.d (.int .u32 0)),(.d (.int .u32 0)),(.d (.int .u64 0)),(.d (.int .u64 0)),(.d (.int .u64 0)),(.d (.int .u64 0)),.nil,.nil,(.d (.bool false))] [(0,13,(.t 27)),(13,1,(.t 28))]),oN (.store (.ag 16) (.t 2) (.t 29)),oO 3 (.mv (kI 0))]) (.ret)))))),[(2,(some (.ag 16))),(3,none)]⟩
theorem Wg:aF Tryz.prog { own:=[],comp:=[],frz:=[],nils:=[] } Tryz.f62=some vQ:=by kernel_rfl
theorem Y8 (G:ah) (b:List UInt8) (hb:b.length≤9000000000000000000):aB Tryz.prog G 62 [.sl (b.map bD)] (.tup [.c (.d (bz (jn b))),.c (.d (.int .i64 (fg b)))]):=by
  refine aI Tryz.func62 Wg rfl rfl ?_;have c1:=Yq G b (by omega);by_cases h1:dJ b=0
  ·obtain⟨e1,e2,e3⟩:=ze h1;have c2:=Ns G (b.drop 48) (by simp; omega);rw[h1,e2,e3] at c1;by_cases h2:cn (b.drop 48)=0
   ·have e4:jn b=⟨bS b,aV (b.drop 48),[],false⟩:=if_pos (by rw[e1,h2]);rw[e4,e1,h2];rw[h2] at c2;clear e1 e2 e3 e4 h1 h2;generalize bS b=q at *
    generalize b.drop 48=R at *
    generalize aV R=L at *
    unfold bz;unfold cM at c1;simp only[vQ,af,ae,aa,seval,iteOmega,toNatUp];refine sD (c1) ?_;refine sD (c2) ?_;exact dk (by simp only[ae,aa,seval,iteOmega,toNatUp] <;> rfl) (by simp only[ae,aa,seval,iteOmega,toNatUp])
   ·have e4:jn b=ee:=if_neg (by rw[e1]; exact h2);have g:(cn (b.drop 48)=0)=False:=eq_false h2;rw[e4,e1];clear e1 e2 e3 e4 h1 h2;generalize cn (b.drop 48)=E at *
    generalize bS b=q at *
    generalize b.drop 48=R at *
    generalize aV R=L at *
    unfold bz ee Hd.z;unfold cM at c1;simp only[vQ,af,ae,aa,seval,iteOmega,toNatUp];refine sD (c1) ?_;refine sC (c2) ?_;simp only[g,ae,aa,seval,iteOmega,toNatUp];exact dk (by simp only[ae,aa,seval,iteOmega,toNatUp] <;> rfl) (by simp only[ae,aa,seval,iteOmega,toNatUp])
  ·obtain⟨e1,e4⟩:=z7 h1;have g:(dJ b=0)=False:=eq_false h1;rw[e4,e1];clear e1 e4 h1;generalize dJ b=E at *
   generalize ou b=R at *
   generalize ot b=q at *
   unfold bz ee Hd.z;unfold cM at c1;simp only[vQ,af,ae,aa,seval,iteOmega,toNatUp];refine sC (c1) ?_;simp only[g,ae,aa,seval,iteOmega,toNatUp];exact dk (by simp only[ae,aa,seval,iteOmega,toNatUp] <;> rfl) (by simp only[ae,aa,seval,iteOmega,toNatUp])
theorem mR {key:List UInt8} {p:cu} {n:List UInt8} {e:Int} (h:fb key p n=e) (he:e≠0):cZ key p n=[]:=if_neg (by rw[h]; exact he)
theorem aaB {key:List UInt8} {p:cu} {n:List UInt8} (h:key.length≠32):fb key p n=5:=if_pos h
theorem aaC {key:List UInt8} {p:cu} {n:List UInt8} (h1:key.length=32) (h:n.length<16∨32<n.length):fb key p n=4:=by
  unfold fb; rw[if_neg (by omega),if_pos h]
theorem aaD {key:List UInt8} {p:cu} {n:List UInt8} (h1:key.length=32) (h2:16≤n.length∧n.length≤32) (h:dh p≠0):fb key p n=dh p:=by
  unfold fb; rw[if_neg (by omega),if_neg (by omega),if_pos h]
theorem aaE {key:List UInt8} {p:cu} {n:List UInt8} (h1:key.length=32) (h2:16≤n.length∧n.length≤32) (h3:dh p=0) (h:bX p.se≠0):fb key p n=bX p.se:=by
  unfold fb; rw[if_neg (by omega),if_neg (by omega),if_neg (by simp[h3]),if_pos h]
theorem aaF {key:List UInt8} {p:cu} {n:List UInt8} (h1:key.length=32) (h2:16≤n.length∧n.length≤32) (h3:dh p=0) (h4:bX p.se=0) (h:(aW p.pl 1028).length≠0):fb key p n=3:=by
  unfold fb; rw[if_neg (by omega),if_neg (by omega),if_neg (by simp[h3]),if_neg (by simp[h4]),if_pos h]
theorem aaG {key:List UInt8} {p:cu} {n:List UInt8} (h1:key.length=32) (h2:16≤n.length∧n.length≤32) (h3:dh p=0) (h4:bX p.se=0) (h5:(aW p.pl 1028).length=0) (h:p.pl.length=24):fb key p n=8:=by
  unfold fb; rw[if_neg (by omega),if_neg (by omega),if_neg (by simp[h3]),if_neg (by simp[h4]),if_neg (by simp[h5]),if_pos h]
theorem aaH {key:List UInt8} {p:cu} {n:List UInt8} (h1:key.length=32) (h2:16≤n.length∧n.length≤32) (h3:dh p=0) (h4:bX p.se=0) (h5:(aW p.pl 1028).length=0) (h6:p.pl.length≠24):fb key p n=if bX [bG key p n]≠0∨1280<(cV p).length+bB [bG key p n] then 2 else 0:=by
  unfold fb; rw[if_neg (by omega),if_neg (by omega),if_neg (by simp[h3]),if_neg (by simp[h4]),if_neg (by simp[h5]),if_neg h6]
def kP:aG:=⟨3,78,.seq (.reg [oO 4 (.box .roBox (.t 1)),oO 6 (.mv (.k (.c .nil))),oO 7 (.mv (kI 0))]) (.seq (.seq (.reg [oM 14 0,oO 15 (.len (.t 14)),oO 16 (.bin .neq (.t 15) (kI 32))]) (.cond (.t 16) (.seq (.reg [oO 6 (.mv (.k (.c .nil))),oO 7 (.mv (kI 5))]) (.ret)) (.skip))) (.seq (.seq (.reg [oM 17 2,oO 18 (.len (.t 17)),oO 19 (.call 44 [(.t 18)] none),oO 20 (.un .not (.t 19))]) (.cond (.t 20) (.seq (.reg [oO 6 (.mv (.k (.c .nil))),oO 7 (.mv (kI 4))]) (.ret)) (.skip))) (.seq (.reg [oO 22 (.load (.ag 16) (.t 4)),oO 23 (.call 45 [(.t 22)] none),oM 21 23,oO 24 (.extract (.t 21) 0),oO 25 (.extract (.t 21) 1),oM 8 24,oM 9 25]) (.seq (.seq (.reg [oM 26 9,oO 27 (.bin .neq (.t 26) (kI 0))]) (.cond (.t 27) (.seq (.reg [oM 28 9,oO 6 (.mv (.k (.c .nil))),oM 7 28]) (.ret)) (.skip))) (.seq (.reg [oO 30 (.fieldAddr 14 (.t 4)),
 oO 31 (.load .sc (.t 30)),oO 32 (.call 46 [(.t 31)] none),oM 29 32,oO 33 (.extract (.t 29) 0),oO 34 (.extract (.t 29) 1),oM 10 33,oM 9 34]) (.seq (.seq (.reg [oM 35 9,oO 36 (.bin .neq (.t 35) (kI 0))]) (.cond (.t 36) (.seq (.reg [oM 37 9,oO 6 (.mv (.k (.c .nil))),oM 7 37]) (.ret)) (.skip))) (.seq (.seq (.reg [oO 38 (.fieldAddr 13 (.t 4)),oO 39 (.load .sc (.t 38)),oO 40 (.call 47 [(.t 39),(kI 1028)] none),oO 41 (.len (.t 40)),oO 42 (.bin .gtr (.t 41) (kI 0))]) (.cond (.t 42) (.seq (.reg [oO 6 (.mv (.k (.c .nil))),oO 7 (.mv (kI 3))]) (.ret)) (.skip))) (.seq (.seq (.reg [oO 43 (.fieldAddr 13 (.t 4)),oO 44 (.load .sc (.t 43)),oO 45 (.len (.t 44)),oO 46 (.bin .eql (.t 45) (kI 24))]) (.cond (.t 46) (.seq (.reg [oO 6 (.mv (.k (.c .nil))),oO 7 (.mv (kI 8))]) (.ret)) (.skip))) (.seq (.reg [oM 48 0,
 oM 49 8,oM 50 2,oO 51 (.bldSl false 2 1 (.sl []) [(0,(.t 49)),(1,(.t 50))]),oM 52 10,oO 53 (.call 48 [(.t 48),(.t 51),(.t 52)] none),oM 47 53,oO 54 (.extract (.t 47) 0),oO 55 (.extract (.t 47) 1),oM 11 54,oM 12 55]) (.seq (.reg [oM 57 2,oM 58 11,oO 59 (.call 49 [(.t 57),(.t 58)] none),oO 60 (.bldSl false 1 2 (.agg [(.int .i64 0),(.sl [])]) [(0,(.t 59))]),oO 61 (.call 46 [(.t 60)] none),oM 56 61,oO 62 (.extract (.t 56) 0),oO 63 (.extract (.t 56) 1),oM 13 62,oM 9 63]) (.seq (.seq (.reg [oM 64 9,oO 65 (.bin .neq (.t 64) (kI 0)),oM 66 65,oG 67 (.mv (.t 8)) 66 false,oG 68 (.len (.t 67)) 66 false,oG 69 (.mv (.t 13)) 66 false,oG 70 (.len (.t 69)) 66 false,oG 71 (.bin .add (.t 68) (.t 70)) 66 false,oG 72 (.bin .gtr (.t 71) (kI 1280)) 66 false,oO 73 (.pick (.t 66) (.k (.c (.d (.bool true)))) (.t 72))])
 (.cond (.t 73) (.seq (.reg [oO 6 (.mv (.k (.c .nil))),oO 7 (.mv (kI 2))]) (.ret)) (.skip))) (.seq (.reg [oM 74 8,oM 75 13,oO 76 (.bldSl false 2 1 (.sl []) [(0,(.t 74)),(1,(.t 75))]),oO 77 (.call 50 [(.t 76)] (some (0,1))),oM 6 77,oO 7 (.mv (kI 0))]) (.ret))))))))))))),[(6,none),(7,none)]⟩
theorem Wh:aF Tryz.prog { own:=[77],comp:=[],frz:=[],nils:=[] } Tryz.f20=some kP:=by kernel_rfl
theorem NJ (G:ah) (key:List UInt8) (p:cu) (n:List UInt8) (hk:key.length≤9223372036854775807) (hf:mC p.hd) (hl:p.pl.length≤1000000) (hd:∀ f∈p.pl,f.da.length≤8000000000000000000) (hl2:p.se.length≤1000000) (hd2:∀ f∈p.se,f.da.length≤8000000000000000000) (hn:n.length≤9223372036854775807):aB Tryz.prog G 20 [.sl (key.map bD),bz p,.sl (n.map bD)] (.tup [.c (.fr 1 ((cZ key p n).map bD)),.c (.d (.int .i64 (fb key p n)))]):=by
  refine aI Tryz.func20 Wh rfl rfl ?_;have cf:=NE G (n.length:Int);have c1:=Y7 G p hf hl hd;have c2:=Bz G p.se hl2 hd2;have c3:=BC G p.pl 1028 hl;by_cases h1:key.length=32
  ·by_cases h2:16≤n.length∧n.length≤32
   ·rw[decide_eq_true (by omega)] at cf;by_cases h3:dh p=0
    ·have hXl:=NI h3;rw[Ph h3,h3] at c1;by_cases h4:bX p.se=0
     ·obtain⟨_,_,s3,s4⟩:=nZ h4;rw[h4,s4] at c2;by_cases h5:(aW p.pl 1028).length=0
      ·by_cases h6:p.pl.length=24
       ·have e:=aaG (key:=key) (n:=n) h1 h2 h3 h4 h5 h6;rw[mR e (by decide),e];clear e h3 h4;generalize cV p=X at *
        generalize aY p.se=Y at *
        generalize aW p.pl 1028=Z at *
        unfold bz at *
        simp only[kP,af,ae,aa,seval,iteOmega,toNatUp,h1];refine sD (cf) ?_;refine sD (c1) ?_;refine sD (c2) ?_;refine sC (c3) ?_;simp only[h5,h6,ae,aa,seval,iteOmega,toNatUp];exact cm
       ·have e7:=aaH (key:=key) (n:=n) h1 h2 h3 h4 h5 h6;have hae:cp key [cV p,n] ((aY p.se).length:Int)=0:=wq h1 (by omega) (by omega) (by rw[fQ]; omega);have hsl:(fE key p n).length=16+bB p.se:=by unfold fE; rw[rD hae,abJ,kL,lI,fQ]
        have c4:=Yd G key [cV p,n] (aY p.se) hk (by simp) (fun x hx=>by simp at hx; rcases hx with rfl | rfl <;> omega) (by rw[fQ]; omega);rw[hae,show nX key [cV p,n] (aY p.se)=fE key p n from rfl] at c4;have c5:=Pg G n (fE key p n) (by omega) (by omega);have hgl:(bT n (fE key p n)).length≤4000:=by rw[lS]; omega
        have c6:=Bz G [bG key p n] (by simp) (fun f hf=>by rw[abU.1 hf]; show (bT n (fE key p n)).length≤_; omega);rw[show aL (du n (fE key p n))=aL (bG key p n) from rfl] at c5;rw[List.map_singleton] at c6;by_cases h7:bX [bG key p n]=0
        ·obtain⟨_,_,g3,g4⟩:=nZ h7;rw[h7,g4] at c6;have hGl:=fQ [bG key p n];rcases ab1 1280 ((cV p).length+bB [bG key p n]) with h8 | h8
         ·have e:fb key p n=2:=by rw[e7,if_pos (.inr h8)]
          rw[mR e (by decide),e];rw[← hGl] at h8;have g8:(((cV p).length:Int)+((aY [bG key p n]).length:Int)>1280)=True:=eq_true (by omega);clear e e7 h3 h4 h7 hae hsl;unfold eF at c4;simp only[abK,abS] at c4;generalize aY [bG key p n]=W at *
          generalize bG key p n=g at *
          generalize fE key p n=S at *
          generalize cV p=X at *
          generalize aY p.se=Y at *
          generalize aW p.pl 1028=Z at *
          unfold bz aL at *
          simp only[kP,af,ae,aa,seval,iteOmega,toNatUp,h1];refine sD (cf) ?_;refine sD (c1) ?_;refine sD (c2) ?_;refine sC (c3) ?_;simp only[h5,h6,ae,aa,seval,iteOmega,toNatUp];refine sD (c4) ?_;refine sD (c5) ?_;refine sC (c6) ?_;simp only[g8,ae,aa,seval,iteOmega,toNatUp];exact cm
         ·have e:fb key p n=0:=by rw[e7,if_neg (by omega)]
          have eB:cZ key p n=cV p++aY [bG key p n]:=if_pos e;have cj:=fc G [cV p,aY [bG key p n]] (by simp) (by simp; omega);have hfl:[cV p,aY [bG key p n]].flatten=cZ key p n:=by rw[eB]; simp
          rw[hfl] at cj;simp only[abK,abS] at cj;rw[e];rw[← hGl] at h8;have g8:(((cV p).length:Int)+((aY [bG key p n]).length:Int)>1280)=False:=eq_false (by omega);clear e e7 h3 h4 h7 hae hsl eB hfl;unfold eF at c4;simp only[abK,abS] at c4;generalize cZ key p n=V at *
          generalize aY [bG key p n]=W at *
          generalize bG key p n=g at *
          generalize fE key p n=S at *
          generalize cV p=X at *
          generalize aY p.se=Y at *
          generalize aW p.pl 1028=Z at *
          unfold bz aL at *
          simp only[kP,af,ae,aa,seval,iteOmega,toNatUp,h1];refine sD (cf) ?_;refine sD (c1) ?_;refine sD (c2) ?_;refine sC (c3) ?_;simp only[h5,h6,ae,aa,seval,iteOmega,toNatUp];refine sD (c4) ?_;refine sD (c5) ?_;refine sC (c6) ?_;simp only[g8,ae,aa,seval,iteOmega,toNatUp];refine sD (cj) ?_;exact cm
        ·have e:fb key p n=2:=by rw[e7,if_pos (.inl h7)]
         rw[mR e (by decide),e];have g7:(bX [bG key p n]=0)=False:=eq_false h7;clear e e7 h3 h4 h7 hae hsl;unfold eF at c4;simp only[abK,abS] at c4;generalize bX [bG key p n]=E at *
         generalize eZ [bG key p n]=W at *
         generalize bG key p n=g at *
         generalize fE key p n=S at *
         generalize cV p=X at *
         generalize aY p.se=Y at *
         generalize aW p.pl 1028=Z at *
         unfold bz aL at *
         simp only[kP,af,ae,aa,seval,iteOmega,toNatUp,h1];refine sD (cf) ?_;refine sD (c1) ?_;refine sD (c2) ?_;refine sC (c3) ?_;simp only[h5,h6,ae,aa,seval,iteOmega,toNatUp];refine sD (c4) ?_;refine sD (c5) ?_;refine sC (c6) ?_;simp only[g7,ae,aa,seval,iteOmega,toNatUp];exact cm
      ·have e:=aaF (key:=key) (n:=n) h1 h2 h3 h4 h5;rw[mR e (by decide),e];clear e h3 h4;generalize cV p=X at *
       generalize aY p.se=Y at *
       generalize aW p.pl 1028=Z at *
       unfold bz at *
       simp only[kP,af,ae,aa,seval,iteOmega,toNatUp,h1];refine sD (cf) ?_;refine sD (c1) ?_;refine sD (c2) ?_;refine sD (c3) ?_;exact cm
     ·have e:=aaE (key:=key) (n:=n) h1 h2 h3 h4;rw[mR e h4,e];have g4:(bX p.se=0)=False:=eq_false h4;clear e h3 h4;generalize cV p=X at *
      generalize bX p.se=E at *
      generalize eZ p.se=Y at *
      unfold bz at *
      simp only[kP,af,ae,aa,seval,iteOmega,toNatUp,h1];refine sD (cf) ?_;refine sD (c1) ?_;refine sC (c2) ?_;simp only[g4,ae,aa,seval,iteOmega,toNatUp];exact cm
    ·have e:=aaD (key:=key) (n:=n) h1 h2 h3;rw[mR e h3,e];have g3:(dh p=0)=False:=eq_false h3;clear e h3;generalize dh p=E at *
     generalize xV p=X at *
     unfold bz at *
     simp only[kP,af,ae,aa,seval,iteOmega,toNatUp,h1];refine sD (cf) ?_;refine sC (c1) ?_;simp only[g3,ae,aa,seval,iteOmega,toNatUp];exact cm
   ·have e:=aaC (key:=key) (p:=p) (n:=n) h1 (by omega);rw[decide_eq_false (by omega)] at cf;rw[mR e (by decide),e];unfold bz;simp only[kP,af,ae,aa,seval,iteOmega,toNatUp,h1];refine sD (cf) ?_;exact cm
  ·have e:=aaB (key:=key) (p:=p) (n:=n) h1;rw[mR e (by decide),e];unfold bz;simp only[kP,af,ae,aa,seval,iteOmega,toNatUp];exact cm
theorem BI (l:List Fd) (k:Int):∀ n,∀ x∈df l k n,0≤x∧x<(n:Int)
  | 0,x,h=>by cases h
  | n+1,x,h=>by
    rw[df,ab5] at h;rcases h with h | h
    ·have:=BI l k n x h; omega
    ·split at h
     ·rw[abU] at h; omega
     ·cases h
theorem Ip {L:List Fd} (h:(aW L 1028).length≠0):∃ i:Nat,i<L.length∧(aW L 1028).getD 0 0=(i:Int)∧(aW L 1028)[0]?=some (i:Int):=by
  have h0:0<(aW L 1028).length:=by omega
  obtain⟨h1,h2⟩:=BI L 1028 L.length (aW L 1028)[0] (aca h0);have e:(((aW L 1028)[0].toNat:Nat):Int)=(aW L 1028)[0]:=by omega
  refine⟨(aW L 1028)[0].toNat,by omega,?_,?_⟩
  ·rw[abI,abF h0,e]; rfl
  ·rw[abF h0,e]
theorem NK {b:List UInt8} (h:fg b=0):dJ b=0∧cn (b.drop 48)=0∧48≤b.length∧b.length≤1280∧jn b=⟨bS b,aV (b.drop 48),[],false⟩:=by
  have hd:dJ b=0:=by
    by_cases e:dJ b=0
    ·exact e
    ·rw[(z7 e).1] at h; exact absurd h e
  have h2:=(ze hd).1;rw[h] at h2;have hl:48≤b.length∧b.length≤1280:=by
    unfold dJ at hd;split at hd
    ·cases hd
    ·split at hd
     ·cases hd
     ·omega
  exact⟨hd,h2.symm,hl.1,hl.2,if_pos h⟩
theorem KX {r:List UInt8} {f:Fd} (h:f∈aV r):f.da.length≤r.length:=by
  unfold aV at h;split at h
  ·obtain⟨i,_,rfl⟩:=ab9.1 h;unfold qO aK; simp; omega
  ·cases h
theorem pz {r:List UInt8}:(aV r).length≤24:=by
  unfold aV;split
  ·rw[vL]; exact (wn r).1
  ·exact abM _
theorem NL {r:List UInt8} {i:Nat} (h:cn r=0) (hi:i<(aV r).length):(fO r)[i]?=some (aC r i:Int)∧aC r i≤r.length:=by
  obtain⟨h1,h2,h3,h4⟩:=O7 h;have e1:aV r=d9 r (cP r):=by unfold aV; rw[if_pos h,h3]
  have e2:fO r=eQ r (cP r):=by unfold fO; rw[if_pos h,h3]
  rw[e1,vL] at hi;refine⟨?_,wk r i (by omega)⟩;rw[e2];unfold eQ;rw[acG,adr hi];rfl
theorem iP {key b:List UInt8} {e:Int} (h:eH key b=e) (he:e≠0):dL key b=ee:=if_neg (by rw[h]; exact he)
theorem Pi {key b:List UInt8} (h:key.length≠32):eH key b=5:=if_pos h
theorem Pj {key b:List UInt8} (h1:key.length=32) (h:fg b≠0):eH key b=fg b:=by unfold eH; rw[if_neg (by omega),if_pos h]
theorem Pk {key b:List UInt8} (h1:key.length=32) (h2:fg b=0) (h:(aW (aV (b.drop 48)) 1028).length=0):eH key b=10:=by
  unfold eH; rw[if_neg (by omega),if_neg (by simp[h2]),if_pos h]
theorem xr {key b:List UInt8} (h1:key.length=32) (h2:fg b=0) (h3:(aW (aV (b.drop 48)) 1028).length≠0) (h:(aW (aV (b.drop 48)) 1028).getD 0 0≠(bY b:Int)∨¬ eh (bO b)):eH key b=3:=by
  unfold eH; rw[if_neg (by omega),if_neg (by simp[h2]),if_neg h3,if_pos h]
theorem Pl {key b:List UInt8} (h1:key.length=32) (h2:fg b=0) (h3:(aW (aV (b.drop 48)) 1028).length≠0) (h4:(aW (aV (b.drop 48)) 1028).getD 0 0=(bY b:Int)) (h5:eh (bO b)):eH key b=if jN key b≠0 then 6 else cn (dY key b):=by
  unfold eH; rw[if_neg (by omega),if_neg (by simp[h2]),if_neg h3,if_neg (by rintro (k | k); exact k h4; exact k h5)]
theorem Iq {key:List UInt8} {ad:List (List UInt8)} {s:List UInt8}:(gZ key ad s).length≤s.length:=by
  unfold gZ;split
  ·rw[lI]; simp
  ·exact abM _
structure OpR (b:List UInt8) where
  l1:48≤b.length
  l2:b.length≤1280
  ea:cn (b.drop 48)=0
  rd:jn b=⟨bS b,aV (b.drop 48),[],false⟩
theorem NM {d:List UInt8} (h:eh d):mE d=bq d∧mF d=bN d:=⟨if_pos h,if_pos h⟩
theorem Pm {d:List UInt8} (h:eh d):(bq d).length≤32∧(bN d).length≤d.length:=by
  obtain⟨h1,h2,h3,h4,h5⟩:=h;unfold bq bN aK;simp;omega
def lW:aG:=⟨2,108,.seq (.reg [oO 4 (.alloc [(.d (.int .i64 0)),(.d (.int .i64 0)),(.d (.int .i64 0)),(.d (.int .i64 0)),(.d (.int .i64 0)),(.d (.int .i64 0)),(.d (.int .u32 0)),(.d (.int .u32 0)),(.d (.int .u32 0)),(.d (.int .u64 0)),(.d (.int .u64 0)),(.d (.int .u64 0)),(.d (.int .u64 0)),.nil,.nil,(.d (.bool false))]),oO 5 (.mv (kI 0))]) (.seq (.seq (.reg [oM 18 0,oO 19 (.len (.t 18)),oO 20 (.bin .neq (.t 19) (kI 32))]) (.cond (.t 20) (.seq (.reg [oO 21 (.build [(.d (.int .i64 0)),(.d (.int .i64 0)),(.d (.int .i64 0)),(.d (.int .i64 0)),(.d (.int .i64 0)),(.d (.int .i64 0)),(.d (.int .u32 0)),(.d (.int .u32 0)),(.d (.int .u32 0)),(.d (.int .u64 0)),(.d (.int .u64 0)),(.d (.int .u64 0)),(.d (.int .u64 0)),.nil,.nil,(.d (.bool false))] []),oN (.store (.ag 16) (.t 4) (.t 21)),oO 5 (.mv (kI 5))])
 (.ret)) (.skip))) (.seq (.reg [oM 23 1,oO 24 (.call 62 [(.t 23)] none),oM 22 24,oO 25 (.extract (.t 22) 0),oO 26 (.extract (.t 22) 1),oO 6 (.alloc [(.d (.int .i64 0)),(.d (.int .i64 0)),(.d (.int .i64 0)),(.d (.int .i64 0)),(.d (.int .i64 0)),(.d (.int .i64 0)),(.d (.int .u32 0)),(.d (.int .u32 0)),(.d (.int .u32 0)),(.d (.int .u64 0)),(.d (.int .u64 0)),(.d (.int .u64 0)),(.d (.int .u64 0)),.nil,.nil,(.d (.bool false))]),oN (.store (.ag 16) (.t 6) (.t 25)),oM 7 26]) (.seq (.seq (.reg [oM 27 7,oO 28 (.bin .neq (.t 27) (kI 0))]) (.cond (.t 28) (.seq (.reg [oO 29 (.build [(.d (.int .i64 0)),(.d (.int .i64 0)),(.d (.int .i64 0)),(.d (.int .i64 0)),(.d (.int .i64 0)),(.d (.int .i64 0)),(.d (.int .u32 0)),(.d (.int .u32 0)),(.d (.int .u32 0)),(.d (.int .u64 0)),(.d (.int .u64 0)),(.d (.int .u64 0)),(.d (.int .u64 0)),.nil,.nil,(.d (.bool false))] []),
 oM 30 7,oN (.store (.ag 16) (.t 4) (.t 29)),oM 5 30]) (.ret)) (.skip))) (.seq (.reg [oO 31 (.fieldAddr 13 (.t 6)),oO 32 (.load .sc (.t 31)),oO 33 (.call 47 [(.t 32),(kI 1028)] none),oM 8 33]) (.seq (.seq (.reg [oM 34 8,oO 35 (.len (.t 34)),oO 36 (.bin .eql (.t 35) (kI 0))]) (.cond (.t 36) (.seq (.reg [oO 37 (.build [(.d (.int .i64 0)),(.d (.int .i64 0)),(.d (.int .i64 0)),(.d (.int .i64 0)),(.d (.int .i64 0)),(.d (.int .i64 0)),(.d (.int .u32 0)),(.d (.int .u32 0)),(.d (.int .u32 0)),(.d (.int .u64 0)),(.d (.int .u64 0)),(.d (.int .u64 0)),(.d (.int .u64 0)),.nil,.nil,(.d (.bool false))] []),oN (.store (.ag 16) (.t 4) (.t 37)),oO 5 (.mv (kI 10))]) (.ret)) (.skip))) (.seq (.reg [oO 38 (.fieldAddr 13 (.t 6)),oO 39 (.load .sc (.t 38)),oO 40 (.len (.t 39)),oO 41 (.bin .sub (.t 40) (kI 1)),oM 9 41])
 (.seq (.reg [oO 43 (.fieldAddr 13 (.t 6)),oO 44 (.load .sc (.t 43)),oM 45 8,oO 46 (.idxSl 1 (.t 45) (kI 0)),oO 47 (.load .sc (.t 46)),oO 48 (.idxSl 2 (.t 44) (.t 47)),oO 49 (.fieldAddr 1 (.t 48)),oO 50 (.load .sc (.t 49)),oO 51 (.call 63 [(.t 50)] none),oM 42 51,oO 52 (.extract (.t 42) 0),oO 53 (.extract (.t 42) 1),oO 54 (.extract (.t 42) 2),oM 10 52,oM 11 53,oM 12 54]) (.seq (.seq (.reg [oM 55 8,oO 56 (.idxSl 1 (.t 55) (kI 0)),oO 57 (.load .sc (.t 56)),oM 58 9,oO 59 (.bin .neq (.t 57) (.t 58)),oM 60 59,oG 61 (.mv (.t 12)) 60 false,oG 62 (.un .not (.t 61)) 60 false,oO 63 (.pick (.t 60) (.k (.c (.d (.bool true)))) (.t 62))]) (.cond (.t 63) (.seq (.reg [oO 64 (.build [(.d (.int .i64 0)),(.d (.int .i64 0)),(.d (.int .i64 0)),(.d (.int .i64 0)),(.d (.int .i64 0)),(.d (.int .i64 0)),(.d (.int .u32 0)),(.d (.int .u32 0)),(.d (.int .u32 0)),(.d (.int .u64 0)),(.d (.int .u64 0)),(.d (.int .u64 0)),(.d (.int .u64 0)),.nil,.nil,(.d (.bool false))] []),
 oN (.store (.ag 16) (.t 4) (.t 64)),oO 5 (.mv (kI 3))]) (.ret)) (.skip))) (.seq (.reg [oM 66 1,oO 67 (.slice 1 (.t 66) (some (kI 48)) none none),oO 68 (.call 64 [(.t 67)] none),oM 65 68,oO 69 (.extract (.t 65) 0),oO 70 (.extract (.t 65) 1),oM 13 69,oM 14 70]) (.seq (.reg [oM 71 1,oM 72 13,oM 73 9,oO 74 (.idxSl 1 (.t 72) (.t 73)),oO 75 (.load .sc (.t 74)),oO 76 (.bin .add (kI 48) (.t 75)),oO 77 (.slice 1 (.t 71) none (some (.t 76)) none),oM 15 77]) (.seq (.reg [oM 79 0,oM 80 15,oM 81 10,oO 82 (.bldSl false 2 1 (.sl []) [(0,(.t 80)),(1,(.t 81))]),oM 83 11,oO 84 (.call 65 [(.t 79),(.t 82),(.t 83)] none),oM 78 84,oO 85 (.extract (.t 78) 0),oO 86 (.extract (.t 78) 1),oM 16 85,oM 7 86]) (.seq (.seq (.reg [oM 87 7,oO 88 (.bin .neq (.t 87) (kI 0))]) (.cond (.t 88) (.seq (.reg [oO 89 (.build [(.d (.int .i64 0)),(.d (.int .i64 0)),(.d (.int .i64 0)),(.d (.int .i64 0)),(.d (.int .i64 0)),(.d (.int .i64 0)),(.d (.int .u32 0)),(.d (.int .u32 0)),(.d (.int .u32 0)),(.d (.int .u64 0)),(.d (.int .u64 0)),(.d (.int .u64 0)),(.d (.int .u64 0)),.nil,.nil,(.d (.bool false))] []),
 oN (.store (.ag 16) (.t 4) (.t 89)),oO 5 (.mv (kI 6))]) (.ret)) (.skip))) (.seq (.reg [oM 91 16,oO 92 (.call 66 [(.t 91)] none),oM 90 92,oO 93 (.extract (.t 90) 0),oO 94 (.extract (.t 90) 1),oM 17 93,oM 7 94]) (.seq (.seq (.reg [oM 95 7,oO 96 (.bin .neq (.t 95) (kI 0))]) (.cond (.t 96) (.seq (.reg [oO 97 (.build [(.d (.int .i64 0)),(.d (.int .i64 0)),(.d (.int .i64 0)),(.d (.int .i64 0)),(.d (.int .i64 0)),(.d (.int .i64 0)),(.d (.int .u32 0)),(.d (.int .u32 0)),(.d (.int .u32 0)),(.d (.int .u64 0)),(.d (.int .u64 0)),(.d (.int .u64 0)),(.d (.int .u64 0)),.nil,.nil,(.d (.bool false))] []),oM 98 7,oN (.store (.ag 16) (.t 4) (.t 97)),oM 5 98]) (.ret)) (.skip))) (.seq (.reg [oO 99 (.fieldAddr 0 (.t 6)),oO 100 (.load (.ag 13) (.t 99)),oO 101 (.fieldAddr 13 (.t 6)),oO 102 (.load .sc (.t 101)),
 oM 103 9,oM 104 9,oO 105 (.slice 2 (.t 102) none (some (.t 103)) (some (.t 104))),oM 106 17,oO 107 (.build [(.d (.int .i64 0)),(.d (.int .i64 0)),(.d (.int .i64 0)),(.d (.int .i64 0)),(.d (.int .i64 0)),(.d (.int .i64 0)),(.d (.int .u32 0)),(.d (.int .u32 0)),(.d (.int .u32 0)),(.d (.int .u64 0)),(.d (.int .u64 0)),(.d (.int .u64 0)),(.d (.int .u64 0)),.nil,.nil,(.d (.bool false))] [(0,13,(.t 100)),(13,1,(.t 105)),(14,1,(.t 106)),(15,1,(.k (.c (.d (.bool true)))))]),oN (.store (.ag 16) (.t 4) (.t 107)),oO 5 (.mv (kI 0))]) (.ret)))))))))))))))),[(4,(some (.ag 16))),(5,none)]⟩
theorem Wi:aF Tryz.prog { own:=[],comp:=[],frz:=[],nils:=[] } Tryz.f29=some lW:=by kernel_rfl
set_option maxHeartbeats 3200000 in
theorem Y9 (G:ah) (key b:List UInt8) (hk:key.length≤9223372036854775807) (hb:b.length≤9000000000000000000):aB Tryz.prog G 29 [.sl (key.map bD),.sl (b.map bD)] (.tup [.c (.d (bz (dL key b))),.c (.d (.int .i64 (eH key b)))]):=by
  refine aI Tryz.func29 Wi rfl rfl ?_;have c1:=Y8 G b hb;by_cases h1:key.length=32
  ·by_cases h2:fg b=0
   ·obtain⟨d1,d2,d3,d4,d5⟩:=NK h2;rw[h2,d5] at c1;have hRl:(b.drop 48).length=b.length-48:=by simp
    have c2:=BC G (aV (b.drop 48)) 1028 (by have:=@pz (b.drop 48); omega);by_cases h3:(aW (aV (b.drop 48)) 1028).length=0
    ·have e:=Pk h1 h2 h3;rw[iP e (by decide),e];clear e d1 d2 d5 h2;generalize aW (aV (b.drop 48)) 1028=Z at *
     generalize aV (b.drop 48)=L at *
     generalize bS b=q at *
     unfold bz ee Hd.z at *
     simp only[lW,af,ae,aa,seval,iteOmega,toNatUp,h1];refine sD (c1) ?_;refine sC (c2) ?_;simp only[h3,ae,aa,seval,iteOmega,toNatUp];exact dk (by simp only[ae,aa,seval,iteOmega,toNatUp] <;> rfl) (by simp only[ae,aa,seval,iteOmega,toNatUp])
    ·obtain⟨i,hi,i2,i3⟩:=Ip h3;have hLl:=@pz (b.drop 48);have gi:=i4 hi;have hdl:=KX (pg hi);have c3:=Y6 G ((aV (b.drop 48)).getD i default).da (by omega);have hz3:((aW (aV (b.drop 48)) 1028).length:Int)≠0:=by omega
     have hz3':(((aW (aV (b.drop 48)) 1028).length:Int)=0)=False:=eq_false hz3;have hz4:(0:Int)<((aW (aV (b.drop 48)) 1028).length:Int):=by omega
     by_cases h4:i=bY b
     ·have hL1:(bY b:Int)=((aV (b.drop 48)).length:Int)-1:=by unfold bY; omega
      rw[h4] at i2 i3 gi c3 hdl hi;have hfd:((aV (b.drop 48)).getD (bY b) default).da=bO b:=rfl;rw[hfd] at c3 hdl;by_cases h5:eh (bO b)
      ·obtain⟨p1,p2⟩:=NM h5;obtain⟨q1,q2⟩:=Pm h5;have hgl:(bO b).length≤1280:=by
         omega
       obtain⟨x1,x2⟩:=NL d2 hi;have x3:(bY b:Int)<((fO (b.drop 48)).length:Int):=by
         have:=(ab2.1 x1).1;omega
       have c4:=YN G (b.drop 48) (by omega);rw[d2] at c4;have hAl:(fF b).length≤1280:=by unfold fF; simp; omega
       have c5:=aak G key [fF b,bq (bO b)] (bN (bO b)) hk (by simp) (fun x hx=>by simp at hx; rcases hx with rfl | rfl <;> omega) (by omega);rw[show gj key [fF b,bq (bO b)] (bN (bO b))=jN key b from rfl,show gZ key [fF b,bq (bO b)] (bN (bO b))=dY key b from rfl] at c5;have hVl:(dY key b).length≤1280:=by
         have:(dY key b).length≤(bN (bO b)).length:=Iq;omega
       have c6:=Ns G (dY key b) (by omega);have e5:=Pl h1 h2 h3 i2 h5;rw[p1,p2,decide_eq_true h5] at c3;have hcut:b.take (48+aC (b.drop 48) (bY b))=fF b:=rfl;unfold eF at c5;simp only[abK,abS] at c5;have hdr:(b.drop 48).take (b.length-48)=b.drop 48:=abH (by omega);by_cases h6:jN key b=0
       ·rw[if_neg (by simp[h6])] at e5;rw[h6] at c5;by_cases h7:cn (dY key b)=0
        ·rw[h7] at e5 c6;have eP:dL key b=⟨bS b,(aV (b.drop 48)).take (bY b),aV (dY key b),true⟩:=if_pos e5;rw[eP,e5];have az:=nE (aV (b.drop 48));have hle:(bY b≤(aV (b.drop 48)).length)=True:=eq_true (by omega);clear eP e5 d1 d2 d5 h2 h7 h6 p1 p2 h5 q1 q2 hgl h4 hz3;generalize hZ:aW (aV (b.drop 48)) 1028=Z at *
         generalize aC (b.drop 48) (bY b)=pp at *
         generalize fO (b.drop 48)=PL at *
         generalize dY key b=V at *
         generalize fF b=A at *
         generalize bq (bO b)=n at *
         generalize bN (bO b)=s at *
         generalize bO b=GG at *
         generalize bY b=last at *
         generalize bS b=q at *
         generalize aV V=LV at *
         generalize aV (b.drop 48)=L at *
         generalize L.getD last default=gf at *
         unfold bz aL at *
         simp only[lW,af,ae,aa,seval,iteOmega,toNatUp,h1];refine sD (c1) ?_;refine sC (c2) ?_;simp only[hz3',aD,i3,zD,← hL1,gi,aL,hfd,ae,aa,seval,iteOmega,toNatUp];refine sC (c3) ?_;simp only[aD,i3,zD,← hL1,hdr,ae,aa,seval,iteOmega,toNatUp];refine sC (c4) ?_;simp only[hdr,x1,aD,zD,hcut,ae,aa,seval,iteOmega,toNatUp];refine sD (c5) ?_;refine sC (c6) ?_;simp only[az,hle,abM,and_self,ae,aa,seval,iteOmega,toNatUp];exact dk (by simp only[ae,aa,seval,iteOmega,toNatUp] <;> rfl) (by simp only[ae,aa,seval,iteOmega,toNatUp])
        ·rw[iP e5 h7,e5];have g7:(cn (dY key b)=0)=False:=eq_false h7;clear e5 d1 d2 d5 h2 h7 h6 p1 p2 h5 q1 q2 hgl h4 hz3;generalize cn (dY key b)=E at *
         generalize hZ:aW (aV (b.drop 48)) 1028=Z at *
         generalize aC (b.drop 48) (bY b)=pp at *
         generalize fO (b.drop 48)=PL at *
         generalize dY key b=V at *
         generalize fF b=A at *
         generalize bq (bO b)=n at *
         generalize bN (bO b)=s at *
         generalize bO b=GG at *
         generalize bY b=last at *
         generalize bS b=q at *
         generalize aV V=LV at *
         generalize aV (b.drop 48)=L at *
         generalize L.getD last default=gf at *
         unfold ee Hd.z;unfold bz aL at *
         simp only[lW,af,ae,aa,seval,iteOmega,toNatUp,h1];refine sD (c1) ?_;refine sC (c2) ?_;simp only[hz3',aD,i3,zD,← hL1,gi,aL,hfd,ae,aa,seval,iteOmega,toNatUp];refine sC (c3) ?_;simp only[aD,i3,zD,← hL1,hdr,ae,aa,seval,iteOmega,toNatUp];refine sC (c4) ?_;simp only[hdr,x1,aD,zD,hcut,ae,aa,seval,iteOmega,toNatUp];refine sD (c5) ?_;refine sC (c6) ?_;simp only[g7,ae,aa,seval,iteOmega,toNatUp];exact dk (by simp only[ae,aa,seval,iteOmega,toNatUp] <;> rfl) (by simp only[ae,aa,seval,iteOmega,toNatUp])
       ·rw[if_pos h6] at e5;rw[iP e5 (by decide),e5];have g6:(jN key b=0)=False:=eq_false h6;clear e5 d1 d2 d5 h2 h6 p1 p2 h5 q1 q2 hgl h4 hz3 c6;generalize jN key b=E at *
        generalize hZ:aW (aV (b.drop 48)) 1028=Z at *
        generalize aC (b.drop 48) (bY b)=pp at *
        generalize fO (b.drop 48)=PL at *
        generalize dY key b=V at *
        generalize fF b=A at *
        generalize bq (bO b)=n at *
        generalize bN (bO b)=s at *
        generalize bO b=GG at *
        generalize bY b=last at *
        generalize bS b=q at *
        generalize aV (b.drop 48)=L at *
        generalize L.getD last default=gf at *
        unfold ee Hd.z;unfold bz aL at *
        simp only[lW,af,ae,aa,seval,iteOmega,toNatUp,h1];refine sD (c1) ?_;refine sC (c2) ?_;simp only[hz3',aD,i3,zD,← hL1,gi,aL,hfd,ae,aa,seval,iteOmega,toNatUp];refine sC (c3) ?_;simp only[aD,i3,zD,← hL1,hdr,ae,aa,seval,iteOmega,toNatUp];refine sC (c4) ?_;simp only[hdr,x1,aD,zD,hcut,ae,aa,seval,iteOmega,toNatUp];refine sC (c5) ?_;simp only[g6,ae,aa,seval,iteOmega,toNatUp];exact dk (by simp only[ae,aa,seval,iteOmega,toNatUp] <;> rfl) (by simp only[ae,aa,seval,iteOmega,toNatUp])
      ·have e:=xr h1 h2 h3 (.inr h5);rw[iP e (by decide),e];rw[decide_eq_false h5] at c3;clear e d1 d2 d5 h2 h5 h4 hz3;generalize hZ:aW (aV (b.drop 48)) 1028=Z at *
       generalize mE (bO b)=n at *
       generalize mF (bO b)=s at *
       generalize bO b=GG at *
       generalize bY b=last at *
       generalize bS b=q at *
       generalize aV (b.drop 48)=L at *
       generalize L.getD last default=gf at *
       unfold ee Hd.z bz aL at *
       simp only[lW,af,ae,aa,seval,iteOmega,toNatUp,h1];refine sD (c1) ?_;refine sC (c2) ?_;simp only[hz3',aD,i3,zD,← hL1,gi,aL,hfd,ae,aa,seval,iteOmega,toNatUp];refine sC (c3) ?_;simp only[aD,i3,zD,← hL1,ae,aa,seval,iteOmega,toNatUp];exact dk (by simp only[ae,aa,seval,iteOmega,toNatUp] <;> rfl) (by simp only[ae,aa,seval,iteOmega,toNatUp])
     ·have e:=xr h1 h2 h3 (.inl (by rw[i2]; omega));rw[iP e (by decide),e];have hL1:(bY b:Int)=((aV (b.drop 48)).length:Int)-1:=by unfold bY; omega
      have g4:(i:Int)≠(bY b:Int):=by omega
      have g4':((i:Int)=(bY b:Int))=False:=eq_false g4;clear e d1 d2 d5 h2 h4 hz3;generalize decide (eh ((aV (b.drop 48)).getD i default).da)=ok at *
      generalize mE ((aV (b.drop 48)).getD i default).da=n at *
      generalize mF ((aV (b.drop 48)).getD i default).da=s at *
      generalize hZ:aW (aV (b.drop 48)) 1028=Z at *
      generalize bY b=last at *
      generalize bS b=q at *
      generalize aV (b.drop 48)=L at *
      generalize L.getD i default=gf at *
      unfold ee Hd.z bz aL at *
      simp only[lW,af,ae,aa,seval,iteOmega,toNatUp,h1];refine sD (c1) ?_;refine sC (c2) ?_;simp only[hz3',aD,i3,zD,← hL1,gi,aL,ae,aa,seval,iteOmega,toNatUp];refine sC (c3) ?_;simp only[aD,i3,zD,← hL1,g4',ae,aa,seval,iteOmega,toNatUp];exact dk (by simp only[ae,aa,seval,iteOmega,toNatUp] <;> rfl) (by simp only[ae,aa,seval,iteOmega,toNatUp])
   ·have e:=Pj h1 h2;have g:(fg b=0)=False:=eq_false h2;rw[iP e h2,e];clear e h2;generalize fg b=E at *
    generalize jn b=q at *
    unfold bz ee Hd.z at *
    simp only[lW,af,ae,aa,seval,iteOmega,toNatUp,h1];refine sC (c1) ?_;simp only[g,ae,aa,seval,iteOmega,toNatUp];exact dk (by simp only[ae,aa,seval,iteOmega,toNatUp] <;> rfl) (by simp only[ae,aa,seval,iteOmega,toNatUp])
  ·have e:=Pi (b:=b) h1;rw[iP e (by decide),e];unfold bz ee Hd.z;simp only[lW,af,ae,aa,seval,iteOmega,toNatUp];exact dk (by simp only[ae,aa,seval,iteOmega,toNatUp] <;> rfl) (by simp only[ae,aa,seval,iteOmega,toNatUp])
theorem BJ:oC.da.length=104:=ab3 ..
theorem Pn (u c:List UInt8) (k:Nat):cR u c (k+1)=cR u c k++[oC]:=by
  unfold cR;rw[adf,abV]
theorem vR (u c:List UInt8) (k:Nat):(cR u c k).length=k+2:=by
  unfold cR;rw[abJ,ab3]
  show 2+k=_
  omega
theorem AQ {u c:List UInt8} {k:Nat} {f:Fd} (h:f∈cR u c k):f=⟨260,u⟩∨f=⟨516,c⟩∨f=oC:=by
  unfold cR at h;rcases ab5.1 h with h | h
  ·rcases acm.1 h with h | h
   ·exact .inl h
   ·exact .inr (.inl (abU.1 h))
  ·exact .inr (.inr (List.eq_of_mem_replicate h))
theorem AR {u c:List UInt8} (hu:u.length=32) (hc:c.length=104):∀ k,bB (cR u c k)=144+108*k
  | 0=>by
    unfold cR bB bc;simp[hu,hc]
  | k+1=>by
    rw[Pn,rF,AR hu hc k];have:bB [oC]=108:=by
      unfold bB bc;simp[BJ]
    omega
theorem sN {f:Fd} (h1:0≤f.ty) (h2:f.ty≤65535) (h3:f.da.length≤1228):ca f=0:=by
  unfold ca bc;rw[if_neg (by omega),if_neg (by omega)]
theorem aaI {u c:List UInt8} (hu:u.length=32) (hc:c.length=104) {k:Nat} (hk:k≤8):bX (cR u c k)=0:=by
  refine pQ (fun f hf=>?_) (by rw[vR]; omega) (by rw[AR hu hc]; omega);rcases AQ hf with rfl | rfl | rfl
  ·exact sN (show (0:Int)≤260 by decide) (show (260:Int)≤65535 by decide) (by show u.length≤_; omega)
  ·exact sN (show (0:Int)≤516 by decide) (show (516:Int)≤65535 by decide) (by show c.length≤_; omega)
  ·exact sN (by decide) (by decide) (by rw[BJ]; decide)
theorem NO {l:List Fd} {k:Int} (h:∀ f∈l,f.ty≠k):aW l k=[]:=Il h _ (abR _)
theorem Za {u c:List UInt8} {k:Nat}:aW (cR u c k) 1028=[]:=NO fun f hf=>by
  rcases AQ hf with rfl | rfl | rfl
  ·exact show (260:Int)≠1028 by decide
  ·exact show (516:Int)≠1028 by decide
  ·exact show (772:Int)≠1028 by decide
theorem aaJ (t:Nat):fj (fe t)=0:=Co.2 rfl
theorem aaK {t:Nat} (h:t<18446744073709551616):mC (fe t):=⟨show 0<_ by decide,show 0<_ by decide,show 0<_ by decide,show 0<_ by decide,show 0<_ by decide,show 0<_ by decide,h⟩
theorem Cz {key u c n:List UInt8} {t k:Nat} (h1:key.length=32) (hu:u.length=32) (hc:c.length=104) (hn:n.length=16) (hk:k≤8):qF key ⟨fe t,cR u c k,[],false⟩ n∧(cZ key ⟨fe t,cR u c k,[],false⟩ n).length=232+108*k:=by
  have s:bB ([]:List Fd)=0:=rfl;have e:=aaI hu hc hk;have un:dh ⟨fe t,cR u c k,[],false⟩=0:=by
    unfold dh;rw[if_pos (aaJ t)]; exact e
  have ht:=AR hu hc k;have ha:cp key [cV ⟨fe t,cR u c k,[],false⟩,n] ((aY []).length:Int)=0:=wq h1 (by rw[mL,ht]; omega) (by omega) (by decide);have hs:(fE key ⟨fe t,cR u c k,[],false⟩ n).length=16:=by
    unfold fE;rw[rD ha,abJ,kL,lI]; rfl
  have hl:=lS n (fE key ⟨fe t,cR u c k,[],false⟩ n);have hT:bc (bG key ⟨fe t,cR u c k,[],false⟩ n)=40:=by
    unfold bG;rw[nY (by omega),hl,hs]; omega
  have ok:qF key ⟨fe t,cR u c k,[],false⟩ n:=⟨h1,by omega,by omega,un,rfl,by rw[show aW (cR u c k) 1028=[] from Za]; rfl,by rw[vR]; omega,Cn (by omega) (by unfold bG at hT; rw[nY (by omega)] at hT; omega),by rw[hT,ht]; omega⟩
  refine⟨ok,?_⟩;have hx:bB [bG key ⟨fe t,cR u c k,[],false⟩ n]=40:=by unfold bB; simp[hT]
  rw[(sL ok).2,abJ,mL,fQ,hx,ht];omega
theorem xt {j:Jr} {u n:List UInt8} {e:Int} (h:iu j u n=e) (he:e≠0):tN j u n=dE∧∀ t,tO j t u n=[]:=⟨if_neg (by rw[h]; exact he),fun t=>if_neg (by rw[h]; exact he)⟩
theorem qk {j:Jr} {u b:List UInt8} {e:Int} (h:dR j u b=e) (he:e≠0):lC j u b=dE∧lD j u b=ee:=⟨if_neg (by rw[h]; exact he),if_neg (by rw[h]; exact he)⟩
def K6:aG:=⟨2,19,.seq (.reg [oO 4 (.mv (.k (.c .nil)))]) (.seq (.reg [oM 5 0,oO 6 (.len (.t 5)),oO 7 (.conv .u64 (.t 6)),oO 8 (.call 42 [(.t 7),(kI 2)] none),oM 9 1,oO 10 (.len (.t 9)),oO 11 (.conv .u64 (.t 10)),oO 12 (.call 42 [(.t 11),(kI 2)] none),oM 13 0,oO 14 (.call 90 [(.t 13),(kI 4)] none),oM 15 1,oO 16 (.call 90 [(.t 15),(kI 4)] none),oO 17 (.bldSl false 4 1 (.sl []) [(0,(.t 8)),(1,(.t 12)),(2,(.t 14)),(3,(.t 16))]),oO 18 (.call 41 [(.t 17)] none),oM 4 18]) (.ret)),[(4,none)]⟩
theorem Wv:aF Tryz.prog { own:=[],comp:=[],frz:=[],nils:=[] } Tryz.f61=some K6:=by kernel_rfl
theorem Zi (G:ah) (n s:List UInt8) (hn:n.length≤1000000) (hs:s.length≤1000000):aB Tryz.prog G 61 [.sl (n.map bD),.sl (s.map bD)] (.w (.c (.d (.sl ((bT n s).map bD))))):=by
  refine aI Tryz.func61 Wv rfl rfl ?_;have c1:=vJ G n.length 2 (by decide);have c2:=vJ G s.length 2 (by decide);rw[show (2:Int).toNat=2 from rfl] at c1 c2;have c3:=sA G n 4 (by omega);have c4:=sA G s 4 (by omega);have cj:=fR G [au n.length 2,au s.length 2,dl n 4,dl s 4] (by simp) (by simp[bP,rt]; omega);rw[KW] at cj;generalize bT n s=B at *
  generalize au n.length 2=B1 at *
  generalize au s.length 2=B2 at *
  generalize dl n 4=B3 at *
  generalize dl s 4=B4 at *
  simp only[abK,abS] at cj;simp only[K6,af,ae,aa,seval,iteOmega,toNatUp];refine sD (c1) ?_;refine sD (c2) ?_;refine sD (c3) ?_;refine sD (c4) ?_;refine sD (cj) ?_;exact aM
def wF:aG:=⟨1,30,.seq (.reg [oO 2 (.alloc [(.d (.int .i64 0)),(.d (.int .i64 0)),(.d (.int .i64 0)),(.d (.int .i64 0)),(.d (.int .i64 0)),(.d (.int .i64 0)),(.d (.int .u32 0)),(.d (.int .u32 0)),(.d (.int .u32 0)),(.d (.int .u64 0)),(.d (.int .u64 0)),(.d (.int .u64 0)),(.d (.int .u64 0)),.nil,.nil,(.d (.bool false))]),oO 3 (.mv (kI 0))]) (.seq (.reg [oM 9 0,oO 10 (.call 99 [(.t 9)] none),oM 8 10,oO 11 (.extract (.t 8) 0),oO 12 (.extract (.t 8) 1),oO 13 (.extract (.t 8) 2),oO 4 (.alloc [(.d (.int .i64 0)),(.d (.int .i64 0)),(.d (.int .i64 0)),(.d (.int .i64 0)),(.d (.int .i64 0)),(.d (.int .i64 0)),(.d (.int .u32 0)),(.d (.int .u32 0)),(.d (.int .u32 0)),(.d (.int .u64 0)),(.d (.int .u64 0)),(.d (.int .u64 0)),(.d (.int .u64 0))]),oN (.store (.ag 13) (.t 4) (.t 11)),oM 5 12,oM 6 13]) (.seq (.seq (.reg [oM 14 6,
 oO 15 (.bin .neq (.t 14) (kI 0))]) (.cond (.t 15) (.seq (.reg [oO 16 (.build [(.d (.int .i64 0)),(.d (.int .i64 0)),(.d (.int .i64 0)),(.d (.int .i64 0)),(.d (.int .i64 0)),(.d (.int .i64 0)),(.d (.int .u32 0)),(.d (.int .u32 0)),(.d (.int .u32 0)),(.d (.int .u64 0)),(.d (.int .u64 0)),(.d (.int .u64 0)),(.d (.int .u64 0)),.nil,.nil,(.d (.bool false))] []),oM 17 6,oN (.store (.ag 16) (.t 2) (.t 16)),oM 3 17]) (.ret)) (.skip))) (.seq (.reg [oM 19 5,oO 20 (.call 71 [(.t 19)] none),oM 18 20,oO 21 (.extract (.t 18) 0),oO 22 (.extract (.t 18) 1),oM 7 21,oM 6 22]) (.seq (.seq (.reg [oM 23 6,oO 24 (.bin .neq (.t 23) (kI 0))]) (.cond (.t 24) (.seq (.reg [oO 25 (.build [(.d (.int .i64 0)),(.d (.int .i64 0)),(.d (.int .i64 0)),(.d (.int .i64 0)),(.d (.int .i64 0)),(.d (.int .i64 0)),(.d (.int .u32 0)),(.d (.int .u32 0)),(.d (.int .u32 0)),(.d (.int .u64 0)),(.d (.int .u64 0)),(.d (.int .u64 0)),(.d (.int .u64 0)),.nil,.nil,(.d (.bool false))] []),
 oM 26 6,oN (.store (.ag 16) (.t 2) (.t 25)),oM 3 26]) (.ret)) (.skip))) (.seq (.reg [oO 27 (.load (.ag 13) (.t 4)),oM 28 7,oO 29 (.build [(.d (.int .i64 0)),(.d (.int .i64 0)),(.d (.int .i64 0)),(.d (.int .i64 0)),(.d (.int .i64 0)),(.d (.int .i64 0)),(.d (.int .u32 0)),(.d (.int .u32 0)),(.d (.int .u32 0)),(.d (.int .u64 0)),(.d (.int .u64 0)),(.d (.int .u64 0)),(.d (.int .u64 0)),.nil,.nil,(.d (.bool false))] [(0,13,(.t 27)),(13,1,(.t 28))]),oN (.store (.ag 16) (.t 2) (.t 29)),oO 3 (.mv (kI 0))]) (.ret)))))),[(2,(some (.ag 16))),(3,none)]⟩
theorem Zj:aF Tryz.prog { own:=[],comp:=[],frz:=[],nils:=[] } Tryz.f67=some wF:=by kernel_rfl
theorem aaN (G:ah) (b:List UInt8) (hb:b.length≤9000000000000000000):aB Tryz.prog G 67 [.sl (b.map bD)] (.tup [.c (.d (bz (jn b))),.c (.d (.int .i64 (fg b)))]):=by
  refine aI Tryz.func67 Zj rfl rfl ?_;have c1:=Ze G b (by omega);by_cases h1:dJ b=0
  ·obtain⟨e1,e2,e3⟩:=ze h1;have c2:=NS G (b.drop 48) (by simp; omega);rw[h1,e2,e3] at c1;by_cases h2:cn (b.drop 48)=0
   ·have e4:jn b=⟨bS b,aV (b.drop 48),[],false⟩:=if_pos (by rw[e1,h2]);rw[e4,e1,h2];rw[h2] at c2;clear e1 e2 e3 e4 h1 h2;generalize bS b=q at *
    generalize b.drop 48=R at *
    generalize aV R=L at *
    unfold bz;unfold cM at c1;simp only[wF,af,ae,aa,seval,iteOmega,toNatUp];refine sD (c1) ?_;refine sD (c2) ?_;exact dk (by simp only[ae,aa,seval,iteOmega,toNatUp] <;> rfl) (by simp only[ae,aa,seval,iteOmega,toNatUp])
   ·have e4:jn b=ee:=if_neg (by rw[e1]; exact h2);have g:(cn (b.drop 48)=0)=False:=eq_false h2;rw[e4,e1];clear e1 e2 e3 e4 h1 h2;generalize cn (b.drop 48)=E at *
    generalize bS b=q at *
    generalize b.drop 48=R at *
    generalize aV R=L at *
    unfold bz ee Hd.z;unfold cM at c1;simp only[wF,af,ae,aa,seval,iteOmega,toNatUp];refine sD (c1) ?_;refine sC (c2) ?_;simp only[g,ae,aa,seval,iteOmega,toNatUp];exact dk (by simp only[ae,aa,seval,iteOmega,toNatUp] <;> rfl) (by simp only[ae,aa,seval,iteOmega,toNatUp])
  ·obtain⟨e1,e4⟩:=z7 h1;have g:(dJ b=0)=False:=eq_false h1;rw[e4,e1];clear e1 e4 h1;generalize dJ b=E at *
   generalize ou b=R at *
   generalize ot b=q at *
   unfold bz ee Hd.z;unfold cM at c1;simp only[wF,af,ae,aa,seval,iteOmega,toNatUp];refine sC (c1) ?_;simp only[g,ae,aa,seval,iteOmega,toNatUp];exact dk (by simp only[ae,aa,seval,iteOmega,toNatUp] <;> rfl) (by simp only[ae,aa,seval,iteOmega,toNatUp])
theorem aaO (n:Nat):Int.tdiv ((n:Int)+3) 4=(((n+3) / 4:Nat):Int):=by
  rw[Int.tdiv_eq_ediv_of_nonneg (by omega)]; omega
theorem Zk {n s:List UInt8} (h1:16≤n.length) (h:(bT n s).length≤1231):bX [du n s]=0∧(eZ [du n s]).drop 4=bT n s∧(eZ [du n s]).length=4+(bT n s).length:=by
  have hl:=lS n s;have hT:=nY (n:=n) (s:=s) (by omega);have ht:bB [du n s]=bc (du n s):=by simp[bB]
  have h0:bX [du n s]=0:=pQ (fun f hf=>by rw[abU.1 hf]; exact Cn (by omega) (by omega)) (by simp) (by rw[ht,hT]; omega);have hB:eZ [du n s]=aY [du n s]:=if_pos h0;refine⟨h0,?_,by rw[hB,fQ,ht,hT]⟩;have hx:aY [du n s]=(au 1028 2++au (bc (du n s)) 2)++bT n s:=by
    show fk (du n s)++[]=_
    unfold fk;rw[hT];have:(du n s).da=bT n s:=rfl;rw[this,show 4+(bT n s).length-4-(bT n s).length=0 by omega,acO];simp[du]
  rw[hB,hx];exact List.drop_left' (by simp[bP])
def nN:aG:=⟨1,72,.seq (.reg [oO 2 (.mv (.k (.c .nil))),oO 3 (.mv (.k (.c .nil))),oO 4 (.mv (.k (.c (.d (.bool false)))))]) (.seq (.seq (.reg [oM 12 0,oO 13 (.len (.t 12)),oO 14 (.bin .lss (.t 13) (kI 4))]) (.cond (.t 14) (.seq (.reg [oO 2 (.mv (.k (.c .nil))),oO 3 (.mv (.k (.c .nil))),oO 4 (.mv (.k (.c (.d (.bool false)))))]) (.ret)) (.skip))) (.seq (.reg [oM 15 0,oO 16 (.slice 1 (.t 15) none (some (kI 2)) none),oO 17 (.call 100 [(.t 16)] none),oO 18 (.conv .i64 (.t 17)),oM 19 0,oO 20 (.slice 1 (.t 19) (some (kI 2)) (some (kI 4)) none),oO 21 (.call 100 [(.t 20)] none),oO 22 (.conv .i64 (.t 21)),oM 5 18,oM 6 22]) (.seq (.reg [oM 23 5,oO 24 (.bin .add (.t 23) (kI 3)),oO 25 (.bin .quo (.t 24) (kI 4)),oO 26 (.bin .mul (.t 25) (kI 4)),oO 27 (.bin .add (kI 4) (.t 26)),oM 7 27]) (.seq (.seq (.reg [oM 28 5,
 oO 29 (.bin .lss (.t 28) (kI 16)),oM 30 29,oG 31 (.mv (.t 5)) 30 false,oG 32 (.bin .gtr (.t 31) (kI 32)) 30 false,oO 33 (.pick (.t 30) (.k (.c (.d (.bool true)))) (.t 32)),oM 34 33,oG 35 (.mv (.t 7)) 34 false,oG 36 (.mv (.t 6)) 34 false,oG 37 (.bin .add (.t 35) (.t 36)) 34 false,oG 38 (.mv (.t 0)) 34 false,oG 39 (.len (.t 38)) 34 false,oG 40 (.bin .gtr (.t 37) (.t 39)) 34 false,oO 41 (.pick (.t 34) (.k (.c (.d (.bool true)))) (.t 40))]) (.cond (.t 41) (.seq (.reg [oO 2 (.mv (.k (.c .nil))),oO 3 (.mv (.k (.c .nil))),oO 4 (.mv (.k (.c (.d (.bool false)))))]) (.ret)) (.skip))) (.seq (.reg [oM 42 0,oM 43 5,oO 44 (.bin .add (kI 4) (.t 43)),oO 45 (.slice 1 (.t 42) (some (kI 4)) (some (.t 44)) none),oM 46 0,oM 47 7,oM 48 7,oM 49 6,oO 50 (.bin .add (.t 48) (.t 49)),oO 51 (.slice 1 (.t 46) (some (.t 47)) (some (.t 50)) none),
 oM 8 45,oM 9 51]) (.seq (.reg [oM 53 8,oM 54 9,oO 55 (.call 61 [(.t 53),(.t 54)] none),oO 56 (.build [(.d (.int .i64 0)),.nil] [(0,1,(kI 1028)),(1,1,(.t 55))]),oO 57 (.bldSl false 1 2 (.agg [(.int .i64 0),(.sl [])]) [(0,(.t 56))]),oO 58 (.call 59 [(.t 57)] none),oM 52 58,oO 59 (.extract (.t 52) 0),oO 60 (.extract (.t 52) 1),oM 10 59,oM 11 60]) (.seq (.seq (.reg [oM 61 11,oO 62 (.bin .neq (.t 61) (kI 0)),oM 63 62,oG 64 (.mv (.t 10)) 63 false,oG 65 (.slice 1 (.t 64) (some (kI 4)) none none) 63 false,oG 66 (.mv (.t 0)) 63 false,oG 67 (.call 12 [(.t 65),(.t 66)] none) 63 false,oG 68 (.un .not (.t 67)) 63 false,oO 69 (.pick (.t 63) (.k (.c (.d (.bool true)))) (.t 68))]) (.cond (.t 69) (.seq (.reg [oO 2 (.mv (.k (.c .nil))),oO 3 (.mv (.k (.c .nil))),oO 4 (.mv (.k (.c (.d (.bool false)))))]) (.ret))
 (.skip))) (.seq (.reg [oM 70 8,oM 71 9,oM 2 70,oM 3 71,oO 4 (.mv (.k (.c (.d (.bool true)))))]) (.ret))))))))),[(2,none),(3,none),(4,none)]⟩
theorem Ww:aF Tryz.prog { own:=[],comp:=[],frz:=[],nils:=[] } Tryz.f68=some nN:=by kernel_rfl
theorem Zl (G:ah) (d:List UInt8) (hd:d.length≤1228):aB Tryz.prog G 68 [.sl (d.map bD)] (.tup [.c (.d (.sl ((mE d).map bD))),.c (.d (.sl ((mF d).map bD))),.c (.d (.bool (decide (eh d))))]):=by
  refine aI Tryz.func68 Ww rfl rfl ?_;unfold mE mF;rcases ab1 d.length 4 with h4 | h4
  ·have hno:¬ eh d:=fun h=>by have:=h.1; omega
   rw[if_neg hno,if_neg hno,decide_eq_false hno];simp only[nN,af,ae,aa,seval,iteOmega,toNatUp];exact fT (by simp only[ae,aa,seval,iteOmega,toNatUp] <;> rfl) (by simp only[ae,aa,seval,iteOmega,toNatUp] <;> rfl) (by simp only[ae,aa,seval,iteOmega,toNatUp])
  ·have t1:d.take 2=aK d 0 2:=rfl;have t2:(d.drop 2).take (4-2)=aK d 2 2:=rfl;have c2:=ka G (aK d 0 2) (by rw[dj (by omega)]; decide);have c3:=ka G (aK d 2 2) (by rw[dj (by omega)]; decide);have b1:=(iL 2 (aK d 0 2) (dj (by omega)) (by decide)).1;have b2:=(iL 2 (aK d 2 2) (dj (by omega)) (by decide)).1;rw[show be (aK d 0 2)=bU d from rfl] at c2 b1;rw[show be (aK d 2 2)=eG d from rfl] at c3 b2;have td:=aaO (bU d);have hF:4+(((bU d+3) / 4:Nat):Int)*4=(dD d:Int):=by unfold dD; omega
   have hpf:dD d=4+(bU d+3) / 4*4:=rfl;by_cases h6:16≤bU d∧bU d≤32∧dD d+eG d≤d.length
   ·obtain⟨h6,h7,h8⟩:=h6;have h9:4+bU d≤d.length:=by omega
    have e1:(d.drop 4).take (4+bU d-4)=bq d:=by rw[acC]; rfl
    have e2:(d.drop (dD d)).take (dD d+eG d-dD d)=bN d:=by rw[acC]; rfl
    have hlB:(bq d).length=bU d:=dj (by omega);have hlS:(bN d).length=eG d:=dj (by omega);have c8:=Zi G (bq d) (bN d) (by omega) (by omega);have hgl:=lS (bq d) (bN d);obtain⟨w1,w2,w3⟩:=Zk (n:=bq d) (s:=bN d) (by omega) (by omega);have c9:=Zg G [du (bq d) (bN d)] (by simp);rw[w1,List.map_singleton] at c9;have hgf:aL (du (bq d) (bN d))=.agg [.int .i64 1028,.sl ((bT (bq d) (bN d)).map bD)]:=rfl;rw[hgf] at c9;have w4:((eZ [du (bq d) (bN d)]).drop 4).take ((eZ [du (bq d) (bN d)]).length-4)=bT (bq d) (bN d):=by rw[w2,w3]; exact abH (by omega)
    have cA:=rP G (bT (bq d) (bN d)) d;clear hgf w1 w2 hgl;have hB:4≤(eZ [du (bq d) (bN d)]).length:=by omega
    have hB2:(eZ [du (bq d) (bN d)]).length≤2000:=by rw[w3,lS]; omega
    clear w3;generalize eZ [du (bq d) (bN d)]=W at *
    by_cases hq:bT (bq d) (bN d)=d
    ·have hok:eh d:=⟨h4,h6,h7,h8,hq⟩
     rw[if_pos hok,if_pos hok,decide_eq_true hok];clear hok;rw[hq,beq_self_eq_true] at cA;rw[hq] at c8 c9 w4;clear hq;generalize bN d=B5 at *
     generalize bq d=B3 at *
     generalize (bU d+3) / 4=q at *
     generalize dD d=F at *
     generalize bU d=n at *
     generalize eG d=m at *
     simp only[nN,af,ae,aa,seval,iteOmega,toNatUp];refine sC (c2) ?_;simp only[t2,ae,aa,seval,iteOmega,toNatUp];refine sC (c3) ?_;simp only[td,hF,e1,e2,ae,aa,seval,iteOmega,toNatUp];refine sD (c8) ?_;refine sC (c9) ?_;simp only[w4,ae,aa,seval,iteOmega,toNatUp];refine sD (cA) ?_;exact cN
    ·have hno:¬ eh d:=fun h=>hq h.2.2.2.2
     rw[if_neg hno,if_neg hno,decide_eq_false hno];clear hno;have e9:(bT (bq d) (bN d)==d)=false:=by simpa using hq
     rw[e9] at cA;clear hq e9;generalize bT (bq d) (bN d)=B6 at *
     generalize bN d=B5 at *
     generalize bq d=B3 at *
     generalize (bU d+3) / 4=q at *
     generalize dD d=F at *
     generalize bU d=n at *
     generalize eG d=m at *
     simp only[nN,af,ae,aa,seval,iteOmega,toNatUp];refine sC (c2) ?_;simp only[t2,ae,aa,seval,iteOmega,toNatUp];refine sC (c3) ?_;simp only[td,hF,e1,e2,ae,aa,seval,iteOmega,toNatUp];refine sD (c8) ?_;refine sC (c9) ?_;simp only[w4,ae,aa,seval,iteOmega,toNatUp];refine sD (cA) ?_;exact fT (by simp only[ae,aa,seval,iteOmega,toNatUp] <;> rfl) (by simp only[ae,aa,seval,iteOmega,toNatUp] <;> rfl) (by simp only[ae,aa,seval,iteOmega,toNatUp])
   ·have hno:¬ eh d:=fun h=>h6 ⟨h.2.1,h.2.2.1,h.2.2.2.1⟩
    rw[if_neg hno,if_neg hno,decide_eq_false hno];clear hno;have hq:(bU d+3) / 4≤20000:=by omega
    rcases ab1 (bU d) 16 with k1 | k1
    ·clear h6 hpf;generalize (bU d+3) / 4=q at *
     generalize dD d=F at *
     generalize bU d=n at *
     generalize eG d=m at *
     simp only[nN,af,ae,aa,seval,iteOmega,toNatUp];refine sC (c2) ?_;simp only[t2,ae,aa,seval,iteOmega,toNatUp];refine sC (c3) ?_;simp only[td,hF,ae,aa,seval,iteOmega,toNatUp];exact fT (by simp only[ae,aa,seval,iteOmega,toNatUp] <;> rfl) (by simp only[ae,aa,seval,iteOmega,toNatUp] <;> rfl) (by simp only[ae,aa,seval,iteOmega,toNatUp])
    ·rcases ab1 32 (bU d) with k2 | k2
     ·have g2:((bU d:Int)>32)=True:=eq_true (by omega);clear h6 hpf;generalize (bU d+3) / 4=q at *
      generalize dD d=F at *
      generalize bU d=n at *
      generalize eG d=m at *
      simp only[nN,af,ae,aa,seval,iteOmega,toNatUp];refine sC (c2) ?_;simp only[t2,ae,aa,seval,iteOmega,toNatUp];refine sC (c3) ?_;simp only[td,hF,g2,ae,aa,seval,iteOmega,toNatUp];exact fT (by simp only[ae,aa,seval,iteOmega,toNatUp] <;> rfl) (by simp only[ae,aa,seval,iteOmega,toNatUp] <;> rfl) (by simp only[ae,aa,seval,iteOmega,toNatUp])
     ·have g2:((bU d:Int)>32)=False:=eq_false (by omega);have g3:((dD d:Int)+(eG d:Int)>(d.length:Int))=True:=eq_true (by omega);have k3:dD d≤100:=by omega
      clear h6 hpf;generalize (bU d+3) / 4=q at *
      generalize dD d=F at *
      generalize bU d=n at *
      generalize eG d=m at *
      simp only[nN,af,ae,aa,seval,iteOmega,toNatUp];refine sC (c2) ?_;simp only[t2,ae,aa,seval,iteOmega,toNatUp];refine sC (c3) ?_;simp only[td,hF,g2,g3,ae,aa,seval,iteOmega,toNatUp];exact fT (by simp only[ae,aa,seval,iteOmega,toNatUp] <;> rfl) (by simp only[ae,aa,seval,iteOmega,toNatUp] <;> rfl) (by simp only[ae,aa,seval,iteOmega,toNatUp])
theorem TR {r:List UInt8} {f:Fd} (h:f∈aV r) (he:cn r=0):f.da.length≤1228:=by
  obtain⟨h1,h2,h3,h4⟩:=O7 he;have e1:aV r=d9 r (cP r):=by unfold aV; rw[if_pos he,h3]
  rw[e1] at h;obtain⟨i,hi,rfl⟩:=ab9.1 h;have:=sK ((mK r).2.2 i (ads.1 hi));unfold qO aK; simp; omega
def lJ:aG:=⟨2,106,.seq (.reg [oO 4 (.alloc [(.d (.int .i64 0)),(.d (.int .i64 0)),(.d (.int .i64 0)),(.d (.int .i64 0)),(.d (.int .i64 0)),(.d (.int .i64 0)),(.d (.int .u32 0)),(.d (.int .u32 0)),(.d (.int .u32 0)),(.d (.int .u64 0)),(.d (.int .u64 0)),(.d (.int .u64 0)),(.d (.int .u64 0)),.nil,.nil,(.d (.bool false))]),oO 5 (.mv (kI 0))]) (.seq (.seq (.reg [oM 16 0,oO 17 (.len (.t 16)),oO 18 (.bin .neq (.t 17) (kI 32))]) (.cond (.t 18) (.seq (.reg [oO 19 (.build [(.d (.int .i64 0)),(.d (.int .i64 0)),(.d (.int .i64 0)),(.d (.int .i64 0)),(.d (.int .i64 0)),(.d (.int .i64 0)),(.d (.int .u32 0)),(.d (.int .u32 0)),(.d (.int .u32 0)),(.d (.int .u64 0)),(.d (.int .u64 0)),(.d (.int .u64 0)),(.d (.int .u64 0)),.nil,.nil,(.d (.bool false))] []),oN (.store (.ag 16) (.t 4) (.t 19)),oO 5 (.mv (kI 5))])
 (.ret)) (.skip))) (.seq (.reg [oM 21 1,oO 22 (.call 67 [(.t 21)] none),oM 20 22,oO 23 (.extract (.t 20) 0),oO 24 (.extract (.t 20) 1),oO 6 (.alloc [(.d (.int .i64 0)),(.d (.int .i64 0)),(.d (.int .i64 0)),(.d (.int .i64 0)),(.d (.int .i64 0)),(.d (.int .i64 0)),(.d (.int .u32 0)),(.d (.int .u32 0)),(.d (.int .u32 0)),(.d (.int .u64 0)),(.d (.int .u64 0)),(.d (.int .u64 0)),(.d (.int .u64 0)),.nil,.nil,(.d (.bool false))]),oN (.store (.ag 16) (.t 6) (.t 23)),oM 7 24]) (.seq (.seq (.reg [oM 25 7,oO 26 (.bin .neq (.t 25) (kI 0))]) (.cond (.t 26) (.seq (.reg [oO 27 (.build [(.d (.int .i64 0)),(.d (.int .i64 0)),(.d (.int .i64 0)),(.d (.int .i64 0)),(.d (.int .i64 0)),(.d (.int .i64 0)),(.d (.int .u32 0)),(.d (.int .u32 0)),(.d (.int .u32 0)),(.d (.int .u64 0)),(.d (.int .u64 0)),(.d (.int .u64 0)),(.d (.int .u64 0)),.nil,.nil,(.d (.bool false))] []),
 oM 28 7,oN (.store (.ag 16) (.t 4) (.t 27)),oM 5 28]) (.ret)) (.skip))) (.seq (.reg [oO 29 (.fieldAddr 13 (.t 6)),oO 30 (.load .sc (.t 29)),oO 31 (.call 35 [(.t 30),(kI 1028)] none),oM 8 31]) (.seq (.seq (.reg [oM 32 8,oO 33 (.len (.t 32)),oO 34 (.bin .eql (.t 33) (kI 0))]) (.cond (.t 34) (.seq (.reg [oO 35 (.build [(.d (.int .i64 0)),(.d (.int .i64 0)),(.d (.int .i64 0)),(.d (.int .i64 0)),(.d (.int .i64 0)),(.d (.int .i64 0)),(.d (.int .u32 0)),(.d (.int .u32 0)),(.d (.int .u32 0)),(.d (.int .u64 0)),(.d (.int .u64 0)),(.d (.int .u64 0)),(.d (.int .u64 0)),.nil,.nil,(.d (.bool false))] []),oN (.store (.ag 16) (.t 4) (.t 35)),oO 5 (.mv (kI 10))]) (.ret)) (.skip))) (.seq (.seq (.reg [oM 36 8,oO 37 (.idxSl 1 (.t 36) (kI 0)),oO 38 (.load .sc (.t 37)),oO 39 (.fieldAddr 13 (.t 6)),oO 40 (.load .sc (.t 39)),
 oO 41 (.len (.t 40)),oO 42 (.bin .sub (.t 41) (kI 1)),oO 43 (.bin .neq (.t 38) (.t 42))]) (.cond (.t 43) (.seq (.reg [oO 44 (.build [(.d (.int .i64 0)),(.d (.int .i64 0)),(.d (.int .i64 0)),(.d (.int .i64 0)),(.d (.int .i64 0)),(.d (.int .i64 0)),(.d (.int .u32 0)),(.d (.int .u32 0)),(.d (.int .u32 0)),(.d (.int .u64 0)),(.d (.int .u64 0)),(.d (.int .u64 0)),(.d (.int .u64 0)),.nil,.nil,(.d (.bool false))] []),oN (.store (.ag 16) (.t 4) (.t 44)),oO 5 (.mv (kI 3))]) (.ret)) (.skip))) (.seq (.reg [oO 46 (.fieldAddr 13 (.t 6)),oO 47 (.load .sc (.t 46)),oM 48 8,oO 49 (.idxSl 1 (.t 48) (kI 0)),oO 50 (.load .sc (.t 49)),oO 51 (.idxSl 2 (.t 47) (.t 50)),oO 52 (.fieldAddr 1 (.t 51)),oO 53 (.load .sc (.t 52)),oO 54 (.call 68 [(.t 53)] none),oM 45 54,oO 55 (.extract (.t 45) 0),oO 56 (.extract (.t 45) 1),
 oO 57 (.extract (.t 45) 2),oM 9 55,oM 10 56,oM 11 57]) (.seq (.seq (.reg [oM 58 11,oO 59 (.un .not (.t 58))]) (.cond (.t 59) (.seq (.reg [oO 60 (.build [(.d (.int .i64 0)),(.d (.int .i64 0)),(.d (.int .i64 0)),(.d (.int .i64 0)),(.d (.int .i64 0)),(.d (.int .i64 0)),(.d (.int .u32 0)),(.d (.int .u32 0)),(.d (.int .u32 0)),(.d (.int .u64 0)),(.d (.int .u64 0)),(.d (.int .u64 0)),(.d (.int .u64 0)),.nil,.nil,(.d (.bool false))] []),oN (.store (.ag 16) (.t 4) (.t 60)),oO 5 (.mv (kI 3))]) (.ret)) (.skip))) (.seq (.reg [oM 62 1,oO 63 (.slice 1 (.t 62) (some (kI 48)) none none),oO 64 (.call 69 [(.t 63)] none),oM 61 64,oO 65 (.extract (.t 61) 0),oO 66 (.extract (.t 61) 1),oM 12 65,oM 13 66]) (.seq (.reg [oM 68 0,oM 69 1,oM 70 12,oM 71 8,oO 72 (.idxSl 1 (.t 71) (kI 0)),oO 73 (.load .sc (.t 72)),oO 74 (.idxSl 1 (.t 70) (.t 73)),
 oO 75 (.load .sc (.t 74)),oO 76 (.bin .add (kI 48) (.t 75)),oO 77 (.slice 1 (.t 69) none (some (.t 76)) none),oM 78 9,oO 79 (.bldSl false 2 1 (.sl []) [(0,(.t 77)),(1,(.t 78))]),oM 80 10,oO 81 (.call 70 [(.t 68),(.t 79),(.t 80)] none),oM 67 81,oO 82 (.extract (.t 67) 0),oO 83 (.extract (.t 67) 1),oM 14 82,oM 7 83]) (.seq (.seq (.reg [oM 84 7,oO 85 (.bin .neq (.t 84) (kI 0))]) (.cond (.t 85) (.seq (.reg [oO 86 (.build [(.d (.int .i64 0)),(.d (.int .i64 0)),(.d (.int .i64 0)),(.d (.int .i64 0)),(.d (.int .i64 0)),(.d (.int .i64 0)),(.d (.int .u32 0)),(.d (.int .u32 0)),(.d (.int .u32 0)),(.d (.int .u64 0)),(.d (.int .u64 0)),(.d (.int .u64 0)),(.d (.int .u64 0)),.nil,.nil,(.d (.bool false))] []),oN (.store (.ag 16) (.t 4) (.t 86)),oO 5 (.mv (kI 6))]) (.ret)) (.skip))) (.seq (.reg [oM 88 14,
 oO 89 (.call 71 [(.t 88)] none),oM 87 89,oO 90 (.extract (.t 87) 0),oO 91 (.extract (.t 87) 1),oM 15 90,oM 7 91]) (.seq (.seq (.reg [oM 92 7,oO 93 (.bin .neq (.t 92) (kI 0))]) (.cond (.t 93) (.seq (.reg [oO 94 (.build [(.d (.int .i64 0)),(.d (.int .i64 0)),(.d (.int .i64 0)),(.d (.int .i64 0)),(.d (.int .i64 0)),(.d (.int .i64 0)),(.d (.int .u32 0)),(.d (.int .u32 0)),(.d (.int .u32 0)),(.d (.int .u64 0)),(.d (.int .u64 0)),(.d (.int .u64 0)),(.d (.int .u64 0)),.nil,.nil,(.d (.bool false))] []),oM 95 7,oN (.store (.ag 16) (.t 4) (.t 94)),oM 5 95]) (.ret)) (.skip))) (.seq (.reg [oO 96 (.fieldAddr 0 (.t 6)),oO 97 (.load (.ag 13) (.t 96)),oO 98 (.fieldAddr 13 (.t 6)),oO 99 (.load .sc (.t 98)),oM 100 8,oO 101 (.idxSl 1 (.t 100) (kI 0)),oO 102 (.load .sc (.t 101)),oO 103 (.slice 2 (.t 99) none (some (.t 102)) none),
 oM 104 15,oO 105 (.build [(.d (.int .i64 0)),(.d (.int .i64 0)),(.d (.int .i64 0)),(.d (.int .i64 0)),(.d (.int .i64 0)),(.d (.int .i64 0)),(.d (.int .u32 0)),(.d (.int .u32 0)),(.d (.int .u32 0)),(.d (.int .u64 0)),(.d (.int .u64 0)),(.d (.int .u64 0)),(.d (.int .u64 0)),.nil,.nil,(.d (.bool false))] [(0,13,(.t 97)),(13,1,(.t 103)),(14,1,(.t 104)),(15,1,(.k (.c (.d (.bool true)))))]),oN (.store (.ag 16) (.t 4) (.t 105)),oO 5 (.mv (kI 0))]) (.ret))))))))))))))),[(4,(some (.ag 16))),(5,none)]⟩
theorem TS:aF Tryz.prog { own:=[],comp:=[],frz:=[],nils:=[] } Tryz.f34=some lJ:=by kernel_rfl
theorem Wx (G:ah) (key b:List UInt8) (hk:key.length≤9223372036854775807) (hb:b.length≤9000000000000000000):aB Tryz.prog G 34 [.sl (key.map bD),.sl (b.map bD)] (.tup [.c (.d (bz (dL key b))),.c (.d (.int .i64 (eH key b)))]):=by
  refine aI Tryz.func34 TS rfl rfl ?_;have c1:=aaN G b hb;by_cases h1:key.length=32
  ·by_cases h2:fg b=0
   ·obtain⟨d1,d2,d3,d4,d5⟩:=NK h2;rw[h2,d5] at c1;have hRl:(b.drop 48).length=b.length-48:=by simp
    have c2:=BM G (aV (b.drop 48)) 1028 (by have:=@pz (b.drop 48); omega);by_cases h3:(aW (aV (b.drop 48)) 1028).length=0
    ·have e:=Pk h1 h2 h3;rw[iP e (by decide),e];clear e d1 d2 d5 h2;generalize aW (aV (b.drop 48)) 1028=Z at *
     generalize aV (b.drop 48)=L at *
     generalize bS b=q at *
     unfold bz ee Hd.z at *
     simp only[lJ,af,ae,aa,seval,iteOmega,toNatUp,h1];refine sD (c1) ?_;refine sC (c2) ?_;simp only[h3,ae,aa,seval,iteOmega,toNatUp];exact dk (by simp only[ae,aa,seval,iteOmega,toNatUp] <;> rfl) (by simp only[ae,aa,seval,iteOmega,toNatUp])
    ·obtain⟨i,hi,i2,i3⟩:=Ip h3;have hLl:=@pz (b.drop 48);have gi:=i4 hi;have hdl:=KX (pg hi);have c3:=Zl G ((aV (b.drop 48)).getD i default).da (TR (pg hi) d2);have hz3:((aW (aV (b.drop 48)) 1028).length:Int)≠0:=by omega
     have hz3':(((aW (aV (b.drop 48)) 1028).length:Int)=0)=False:=eq_false hz3;have hz4:(0:Int)<((aW (aV (b.drop 48)) 1028).length:Int):=by omega
     by_cases h4:i=bY b
     ·have hL1:(bY b:Int)=((aV (b.drop 48)).length:Int)-1:=by unfold bY; omega
      rw[h4] at i2 i3 gi c3 hdl hi;have hfd:((aV (b.drop 48)).getD (bY b) default).da=bO b:=rfl;rw[hfd] at c3 hdl;by_cases h5:eh (bO b)
      ·obtain⟨p1,p2⟩:=NM h5;obtain⟨q1,q2⟩:=Pm h5;have hgl:(bO b).length≤1280:=by
         omega
       obtain⟨x1,x2⟩:=NL d2 hi;have x3:(bY b:Int)<((fO (b.drop 48)).length:Int):=by
         have:=(ab2.1 x1).1;omega
       have c4:=Zh G (b.drop 48) (by omega);rw[d2] at c4;have hAl:(fF b).length≤1280:=by unfold fF; simp; omega
       have c5:=Yh G key [fF b,bq (bO b)] (bN (bO b)) hk (by simp) (fun x hx=>by simp at hx; rcases hx with rfl | rfl <;> omega) (by omega);rw[show gj key [fF b,bq (bO b)] (bN (bO b))=jN key b from rfl,show gZ key [fF b,bq (bO b)] (bN (bO b))=dY key b from rfl] at c5;have hVl:(dY key b).length≤1280:=by
         have:(dY key b).length≤(bN (bO b)).length:=Iq;omega
       have c6:=NS G (dY key b) (by omega);have e5:=Pl h1 h2 h3 i2 h5;rw[p1,p2,decide_eq_true h5] at c3;have hcut:b.take (48+aC (b.drop 48) (bY b))=fF b:=rfl;unfold eF at c5;simp only[abK,abS] at c5;have hdr:(b.drop 48).take (b.length-48)=b.drop 48:=abH (by omega);by_cases h6:jN key b=0
       ·rw[if_neg (by simp[h6])] at e5;rw[h6] at c5;by_cases h7:cn (dY key b)=0
        ·rw[h7] at e5 c6;have eP:dL key b=⟨bS b,(aV (b.drop 48)).take (bY b),aV (dY key b),true⟩:=if_pos e5;rw[eP,e5];have az:=nE (aV (b.drop 48));have hle:(bY b≤(aV (b.drop 48)).length)=True:=eq_true (by omega);clear eP e5 d1 d2 d5 h2 h7 h6 p1 p2 h5 q1 q2 hgl h4 hz3;generalize hZ:aW (aV (b.drop 48)) 1028=Z at *
         generalize aC (b.drop 48) (bY b)=pp at *
         generalize fO (b.drop 48)=PL at *
         generalize dY key b=V at *
         generalize fF b=A at *
         generalize bq (bO b)=n at *
         generalize bN (bO b)=s at *
         generalize bO b=GG at *
         generalize bY b=last at *
         generalize bS b=q at *
         generalize aV V=LV at *
         generalize aV (b.drop 48)=L at *
         generalize L.getD last default=gf at *
         unfold bz aL at *
         simp only[lJ,af,ae,aa,seval,iteOmega,toNatUp,h1];refine sD (c1) ?_;refine sC (c2) ?_;simp only[hz3',aD,i3,zD,← hL1,gi,aL,hfd,ae,aa,seval,iteOmega,toNatUp];refine sC (c3) ?_;simp only[aD,i3,zD,← hL1,hdr,ae,aa,seval,iteOmega,toNatUp];refine sC (c4) ?_;simp only[hdr,i3,x1,aD,zD,hcut,ae,aa,seval,iteOmega,toNatUp];refine sD (c5) ?_;refine sC (c6) ?_;simp only[az,hle,abM,and_self,aD,i3,zD,ae,aa,seval,iteOmega,toNatUp];exact dk (by simp only[ae,aa,seval,iteOmega,toNatUp] <;> rfl) (by simp only[ae,aa,seval,iteOmega,toNatUp])
        ·rw[iP e5 h7,e5];have g7:(cn (dY key b)=0)=False:=eq_false h7;clear e5 d1 d2 d5 h2 h7 h6 p1 p2 h5 q1 q2 hgl h4 hz3;generalize cn (dY key b)=E at *
         generalize hZ:aW (aV (b.drop 48)) 1028=Z at *
         generalize aC (b.drop 48) (bY b)=pp at *
         generalize fO (b.drop 48)=PL at *
         generalize dY key b=V at *
         generalize fF b=A at *
         generalize bq (bO b)=n at *
         generalize bN (bO b)=s at *
         generalize bO b=GG at *
         generalize bY b=last at *
         generalize bS b=q at *
         generalize aV V=LV at *
         generalize aV (b.drop 48)=L at *
         generalize L.getD last default=gf at *
         unfold ee Hd.z;unfold bz aL at *
         simp only[lJ,af,ae,aa,seval,iteOmega,toNatUp,h1];refine sD (c1) ?_;refine sC (c2) ?_;simp only[hz3',aD,i3,zD,← hL1,gi,aL,hfd,ae,aa,seval,iteOmega,toNatUp];refine sC (c3) ?_;simp only[aD,i3,zD,← hL1,hdr,ae,aa,seval,iteOmega,toNatUp];refine sC (c4) ?_;simp only[hdr,i3,x1,aD,zD,hcut,ae,aa,seval,iteOmega,toNatUp];refine sD (c5) ?_;refine sC (c6) ?_;simp only[g7,ae,aa,seval,iteOmega,toNatUp];exact dk (by simp only[ae,aa,seval,iteOmega,toNatUp] <;> rfl) (by simp only[ae,aa,seval,iteOmega,toNatUp])
       ·rw[if_pos h6] at e5;rw[iP e5 (by decide),e5];have g6:(jN key b=0)=False:=eq_false h6;clear e5 d1 d2 d5 h2 h6 p1 p2 h5 q1 q2 hgl h4 hz3 c6;generalize jN key b=E at *
        generalize hZ:aW (aV (b.drop 48)) 1028=Z at *
        generalize aC (b.drop 48) (bY b)=pp at *
        generalize fO (b.drop 48)=PL at *
        generalize dY key b=V at *
        generalize fF b=A at *
        generalize bq (bO b)=n at *
        generalize bN (bO b)=s at *
        generalize bO b=GG at *
        generalize bY b=last at *
        generalize bS b=q at *
        generalize aV (b.drop 48)=L at *
        generalize L.getD last default=gf at *
        unfold ee Hd.z;unfold bz aL at *
        simp only[lJ,af,ae,aa,seval,iteOmega,toNatUp,h1];refine sD (c1) ?_;refine sC (c2) ?_;simp only[hz3',aD,i3,zD,← hL1,gi,aL,hfd,ae,aa,seval,iteOmega,toNatUp];refine sC (c3) ?_;simp only[aD,i3,zD,← hL1,hdr,ae,aa,seval,iteOmega,toNatUp];refine sC (c4) ?_;simp only[hdr,i3,x1,aD,zD,hcut,ae,aa,seval,iteOmega,toNatUp];refine sC (c5) ?_;simp only[g6,ae,aa,seval,iteOmega,toNatUp];exact dk (by simp only[ae,aa,seval,iteOmega,toNatUp] <;> rfl) (by simp only[ae,aa,seval,iteOmega,toNatUp])
      ·have e:=xr h1 h2 h3 (.inr h5);rw[iP e (by decide),e];rw[decide_eq_false h5] at c3;clear e d1 d2 d5 h2 h5 h4 hz3;generalize hZ:aW (aV (b.drop 48)) 1028=Z at *
       generalize mE (bO b)=n at *
       generalize mF (bO b)=s at *
       generalize bO b=GG at *
       generalize bY b=last at *
       generalize bS b=q at *
       generalize aV (b.drop 48)=L at *
       generalize L.getD last default=gf at *
       unfold ee Hd.z bz aL at *
       simp only[lJ,af,ae,aa,seval,iteOmega,toNatUp,h1];refine sD (c1) ?_;refine sC (c2) ?_;simp only[hz3',aD,i3,zD,← hL1,gi,aL,hfd,ae,aa,seval,iteOmega,toNatUp];refine sC (c3) ?_;simp only[aD,i3,zD,← hL1,ae,aa,seval,iteOmega,toNatUp];exact dk (by simp only[ae,aa,seval,iteOmega,toNatUp] <;> rfl) (by simp only[ae,aa,seval,iteOmega,toNatUp])
     ·have e:=xr h1 h2 h3 (.inl (by rw[i2]; omega));rw[iP e (by decide),e];have hL1:(bY b:Int)=((aV (b.drop 48)).length:Int)-1:=by unfold bY; omega
      have g4:(i:Int)≠(bY b:Int):=by omega
      have g4':((i:Int)=(bY b:Int))=False:=eq_false g4;clear e d1 d2 d5 h2 h4 hz3;generalize decide (eh ((aV (b.drop 48)).getD i default).da)=ok at *
      generalize mE ((aV (b.drop 48)).getD i default).da=n at *
      generalize mF ((aV (b.drop 48)).getD i default).da=s at *
      generalize hZ:aW (aV (b.drop 48)) 1028=Z at *
      generalize bY b=last at *
      generalize bS b=q at *
      generalize aV (b.drop 48)=L at *
      generalize L.getD i default=gf at *
      unfold ee Hd.z bz aL at *
      simp only[lJ,af,ae,aa,seval,iteOmega,toNatUp,h1];refine sD (c1) ?_;refine sC (c2) ?_;simp only[hz3',aD,i3,zD,← hL1,gi,aL,g4',ae,aa,seval,iteOmega,toNatUp];exact dk (by simp only[ae,aa,seval,iteOmega,toNatUp] <;> rfl) (by simp only[ae,aa,seval,iteOmega,toNatUp])
   ·have e:=Pj h1 h2;have g:(fg b=0)=False:=eq_false h2;rw[iP e h2,e];clear e h2;generalize fg b=E at *
    generalize jn b=q at *
    unfold bz ee Hd.z at *
    simp only[lJ,af,ae,aa,seval,iteOmega,toNatUp,h1];refine sC (c1) ?_;simp only[g,ae,aa,seval,iteOmega,toNatUp];exact dk (by simp only[ae,aa,seval,iteOmega,toNatUp] <;> rfl) (by simp only[ae,aa,seval,iteOmega,toNatUp])
  ·have e:=Pi (b:=b) h1;rw[iP e (by decide),e];unfold bz ee Hd.z;simp only[lJ,af,ae,aa,seval,iteOmega,toNatUp];exact dk (by simp only[ae,aa,seval,iteOmega,toNatUp] <;> rfl) (by simp only[ae,aa,seval,iteOmega,toNatUp])
def jF (p:cu):List C:=[.d (.int .i64 p.hd.lp),.d (.int .i64 p.hd.vr),.d (.int .i64 p.hd.md),.d (.int .i64 p.hd.st),.d (.int .i64 p.hd.pl),.d (.int .i64 p.hd.pr),.d (.int .u32 (p.hd.rd:Int)),.d (.int .u32 (p.hd.rp:Int)),.d (.int .u32 (p.hd.ri:Int)),.d (.int .u64 (p.hd.rf:Int)),.d (.int .u64 (p.hd.og:Int)),.d (.int .u64 (p.hd.rc:Int)),.d (.int .u64 (p.hd.tr:Int)),.d (.sl (p.pl.map aL)),.d (.sl (p.se.map aL)),.d (.bool p.gu)]
theorem Zm {u c:List UInt8} {k:Nat} (hu:u.length=32) (hc:c.length=104):∀ f∈cR u c k,f.da.length≤104:=fun f hf=>by
  rcases AQ hf with rfl | rfl | rfl
  ·show u.length≤104; omega
  ·show c.length≤104; omega
  ·exact Nat.le_of_eq BJ
def CE (t:Nat) (n:List UInt8) (T:Jr) (u c:List UInt8) (K k:Nat):St:=⟨aT [(1,.w (.c (.d (.int .u64 (t:Int))))),(3,.w (.c (.d (.sl (n.map bD))))),(8,.w (.c (.ptr 3 1 0 0))),(11,.w (.c (.ptr 1 1 0 0))),(14,.w (.c (.own 2 2 0 (cR u c k).length))),(54,.w (.c (.d (.int .i64 (K:Int))))),(55,.w (.c (.d (.int .i64 (k:Int)))))],hL [(1,bR T (.d (.sl (T.ck.map fun l=>D.sl (l.map bD))))),(2,.row 2 ((cR u c k).map aL)),(3,bA)],uL [1,2,3]⟩
def z8:aS := .seq (.reg [oO 56 (.bin .lss (.t 55) (.t 54))]) (.seq (.cond (.t 56) (.skip) (.exit 0)) (.seq (.block 1 (.reg [oM 57 14,oO 58 (.make true 1 1 (.int .u8 0) (kI 104) (kI 104)),oO 59 (.build [(.d (.int .i64 0)),.nil] [(0,1,(kI 772)),(1,1,(.t 58))]),oO 60 (.bldFz 1 2 (.agg [(.int .i64 0),(.sl [])]) [(0,(.t 59))]),oO 61 (.app false 2 32 (.t 57) (.t 60)),oM 14 61])) (.reg [oO 62 (.bin .add (.t 55) (kI 1)),oM 55 62])))
def pS:aG:=⟨4,77,.seq (.reg [oO 4 (.box .roBox (.t 0)),oO 8 (.alloc [.nil,.nil,.nil,.nil,(.d (.int .i64 0)),(.d (.int .i64 0))]),oO 9 (.mv (.k (.c .nil))),oO 10 (.mv (kI 0))]) (.seq (.seq (.reg [oO 19 (.load (.ag 6) (.t 4)),oO 20 (.call 21 [(.t 19)] none),oO 21 (.un .not (.t 20)),oM 22 21,oG 23 (.mv (.t 2)) 22 false,oG 24 (.len (.t 23)) 22 false,oG 25 (.bin .neq (.t 24) (kI 32)) 22 false,oO 26 (.pick (.t 22) (.k (.c (.d (.bool true)))) (.t 25)),oM 27 26,oG 28 (.mv (.t 3)) 27 false,oG 29 (.len (.t 28)) 27 false,oG 30 (.bin .neq (.t 29) (kI 16)) 27 false,oO 31 (.pick (.t 27) (.k (.c (.d (.bool true)))) (.t 30))]) (.cond (.t 31) (.seq (.reg [oO 32 (.build [.nil,.nil,.nil,.nil,(.d (.int .i64 0)),(.d (.int .i64 0))] []),oN (.store (.ag 6) (.t 8) (.t 32)),oO 9 (.mv (.k (.c .nil))),oO 10 (.mv (kI 3))])
 (.ret)) (.skip))) (.seq (.reg [oO 34 (.load (.ag 6) (.t 4)),oO 35 (.call 24 [(.t 34)] none),oM 33 35,oO 36 (.extract (.t 33) 0),oO 37 (.extract (.t 33) 1),oO 38 (.extract (.t 33) 2),oO 11 (.alloc [.nil,.nil,.nil,.nil,(.d (.int .i64 0)),(.d (.int .i64 0))]),oN (.store (.ag 6) (.t 11) (.t 36)),oM 12 37,oM 13 38]) (.seq (.seq (.reg [oM 39 13,oO 40 (.bin .neq (.t 39) (kI 0))]) (.cond (.t 40) (.seq (.reg [oO 41 (.build [.nil,.nil,.nil,.nil,(.d (.int .i64 0)),(.d (.int .i64 0))] []),oM 42 13,oN (.store (.ag 6) (.t 8) (.t 41)),oO 9 (.mv (.k (.c .nil))),oM 10 42]) (.ret)) (.skip))) (.seq (.reg [oM 43 2,oO 44 (.build [(.d (.int .i64 0)),.nil] [(0,1,(kI 260)),(1,1,(.t 43))]),oM 45 12,oO 46 (.build [(.d (.int .i64 0)),.nil] [(0,1,(kI 516)),(1,1,(.t 45))]),oO 47 (.bldSl true 2 2 (.agg [(.int .i64 0),(.sl [])]) [(0,(.t 44)),(1,(.t 46))]),
 oM 14 47]) (.seq (.reg [oO 49 (.load (.ag 6) (.t 11)),oO 50 (.call 17 [(.t 49)] none),oM 48 50,oO 51 (.extract (.t 48) 0),oO 52 (.extract (.t 48) 1),oM 15 51,oM 16 52]) (.seq (.seq (.reg [oM 53 15,oO 54 (.bin .sub (.t 53) (kI 1)),oO 55 (.mv (kI 0))]) (.block 0 (.loop z8))) (.seq (.reg [oO 64 (.fieldAddr 0 (.t 11)),oO 65 (.fieldAddr 0 (.t 64)),oO 66 (.load .sc (.t 65)),oM 67 1,oO 68 (.call 25 [(.t 67)] none),oM 69 14,oO 70 (.build [(.d (.int .i64 0)),(.d (.int .i64 0)),(.d (.int .i64 0)),(.d (.int .i64 0)),(.d (.int .i64 0)),(.d (.int .i64 0)),(.d (.int .u32 0)),(.d (.int .u32 0)),(.d (.int .u32 0)),(.d (.int .u64 0)),(.d (.int .u64 0)),(.d (.int .u64 0)),(.d (.int .u64 0)),.nil,.nil,(.d (.bool false))] [(0,13,(.t 68)),(13,1,(.t 69))]),oM 71 3,oO 72 (.call 20 [(.t 66),(.t 70),(.t 71)] none),
 oM 63 72,oO 73 (.extract (.t 63) 0),oO 74 (.extract (.t 63) 1),oM 17 73,oM 18 74]) (.seq (.reg [oO 75 (.load (.ag 6) (.t 11)),oM 76 17,oN (.store (.ag 6) (.t 8) (.t 75)),oM 9 76,oO 10 (.mv (kI 0))]) (.ret))))))))),[(8,(some (.ag 6))),(9,none),(10,none)]⟩
theorem Zn:aF Tryz.prog { own:=[47],comp:=[],frz:=[60],nils:=[] } Tryz.f7=some pS:=by kernel_rfl
set_option maxHeartbeats 6400000 in
theorem Pp (G:ah) (j:Jr) (t:Nat) (u n:List UInt8) (ht:t<18446744073709551616):aB Tryz.prog G 7 [bK j,.int .u64 (t:Int),.sl (u.map bD),.sl (n.map bD)] (.tup [.c (.d (bK (tN j u n))),.c (.d (.sl ((tO j t u n).map bD))),.c (.d (.int .i64 (iu j u n)))]):=by
  refine aI Tryz.func7 Zn rfl rfl ?_;have c1:=s9 G j;by_cases v:di j
  ·rw[decide_eq_true v] at c1;by_cases h1:u.length=32
   ·have g1:((u.length:Int)=32)=True:=eq_true (by omega);by_cases h2:n.length=16
    ·have g2:((n.length:Int)=16)=True:=eq_true (by omega);have eE:iu j u n=fG j:=by unfold iu; rw[if_neg (fun h=>h.elim (· v) (fun h=>h.elim (· h1) (· h2)))]
     have c2:=aaA G j;by_cases h3:fG j=0
     ·obtain⟨v1,v2,v3,v4,v5⟩:=pR v;have hk:j.ck.length≠0:=fun h=>by
        unfold fG at h3;rw[if_neg (not_not_intro v),if_pos h] at h3;cases h3
      have hs:j.sn≠1099511627776:=fun h=>by
        unfold fG at h3;rw[if_neg (not_not_intro v),if_neg hk,if_pos h] at h3;cases h3
      have m0:=v5 _ (kz (l:=j.ck) (i:=0) (by omega));rw[h3] at eE;rw[show tN j u n=bV j from if_pos eE,show tO j t u n=cZ j.up (gO j t u) n from if_pos eE,eE];rw[show xW j=bV j from if_pos h3,show xX j=j.ck.getD 0 [] from if_pos h3,h3] at c2;have cw:=Cy G (bV j);have tv:di (bV j):=(Cu v hk hs).2;have hT:(8-((bV j).ck.length:Int))-1=((8-j.ck.length:Nat):Int):=by
        show (8-((j.ck.drop 1).length:Int))-1=_
        rw[abO]; omega
      have hT8:(bV j).ck.length≤8:=by
        show (j.ck.drop 1).length≤8
        rw[abO]; omega
      rw[show qR (bV j)=8-((bV j).ck.length:Int) from if_pos tv,show qQ (bV j)=0 from if_pos tv] at cw;have c3:=Yp G t;obtain⟨ok,_⟩:=Cz (key:=j.up) (u:=u) (c:=j.ck.getD 0 []) (n:=n) (t:=t) (k:=8-j.ck.length) v1 h1 m0 h2 (by omega);have c4:=NJ G j.up (gO j t u) n (by omega) (aaK ht) (by unfold gO; rw[vR]; omega) (fun f hf=>by
        have:=Zm (u:=u) (c:=j.ck.getD 0 []) h1 m0 f hf;omega) (abM _) (fun f hf=>by cases hf) (by omega)
      rw[show fb j.up (gO j t u) n=0 from (sL ok).1] at c4;have fl:=OS 1 (cZ j.up (gO j t u) n) .i64 0;have hq:(gO j t u).pl=cR u (j.ck.getD 0 []) (8-j.ck.length):=rfl;unfold bz at c4;rw[hq,show (gO j t u).hd=fe t from rfl,show (gO j t u).se=[] from rfl,show (gO j t u).gu=false from rfl] at c4;have tup:(bV j).up=j.up:=rfl;rw[← tup] at c4 fl ⊢;clear ok eE h3 tv hs v tup;generalize cZ (bV j).up (gO j t u) n=B at *
      generalize j.ck.getD 0 []=c at *
      generalize bV j=T at *
      generalize hK:8-j.ck.length=K at *
      have gK:(8-(T.ck.length:Int))-1=(K:Int):=hT;unfold bK at *
      simp only[pS,af,ae,aa,seval,iteOmega,toNatUp];refine sC (c1) ?_;simp only[g1,g2,ae,aa,seval,iteOmega,toNatUp];refine sD (c2) ?_;refine sC (cw) ?_;simp only[gK,ae,aa,seval,iteOmega,toNatUp];refine ba (CE t n T u c K) (fun k=>K-k) (fun k=>k≤K) 0 (abM _) ?_ ?_
      ·refine ap (fun i=>if i=1 then 88 else if i=2 then 376 else 64) ?_ ?_ rfl rfl <;> simp only[cR,aL,bZ,bR,bA,wx,aj,ar,aa,seval,iteOmega,toNatUp] <;> first | rfl | exact⟨rfl,rfl⟩ | skip
      ·intro k hk2;clear c1 c2 cw;have ql:=vR u c k;have az:=nE (cR u c k);by_cases hlt:k<K
       ·have gk:((k:Int)<(K:Int))=True:=eq_true (by omega);have hs:=Pn u c k;have hp:aL oC=.agg [.int .i64 772,.sl (List.replicate 104 (.int .u8 0))]:=by
          unfold aL oC;rw[List.map_replicate]; rfl
        have e0:CE t n T u c K k=⟨aT [(1,.w (.c (.d (.int .u64 (t:Int))))),(3,.w (.c (.d (.sl (n.map bD))))),(8,.w (.c (.ptr 3 1 0 0))),(11,.w (.c (.ptr 1 1 0 0))),(14,.w (.c (.own 2 2 0 (cR u c k).length))),(54,.w (.c (.d (.int .i64 (K:Int))))),(55,.w (.c (.d (.int .i64 (k:Int)))))],hL [(1,bR T (.d (.sl (T.ck.map fun l=>D.sl (l.map bD))))),(2,.row 2 ((cR u c k).map aL)),(3,bA)],uL [1,2,3]⟩:=rfl;rw[e0];clear e0;generalize cR u c k=L at *
        simp only[z8,bZ,bR,bA,ae,aa,seval,iteOmega,toNatUp,gk,bQ];refine aU (k+1) (by omega) (by omega) (ap (fun i=>if i=1 then 1 else if i=2 then 488 else 3) ?_ ?_ rfl rfl) <;> simp only[hs,hp,List.replicate,abT,abK,abS,bZ,bR,bA,wx,aj,ar,aa,seval,iteOmega,toNatUp] <;> first | rfl | exact⟨rfl,rfl⟩ | skip
       ·obtain rfl:k=K:=by omega
        have gk:((k:Int)<(k:Int))=False:=eq_false (by omega);have e0:CE t n T u c k k=⟨aT [(1,.w (.c (.d (.int .u64 (t:Int))))),(3,.w (.c (.d (.sl (n.map bD))))),(8,.w (.c (.ptr 3 1 0 0))),(11,.w (.c (.ptr 1 1 0 0))),(14,.w (.c (.own 2 2 0 (cR u c k).length))),(54,.w (.c (.d (.int .i64 (k:Int))))),(55,.w (.c (.d (.int .i64 (k:Int)))))],hL [(1,bR T (.d (.sl (T.ck.map fun l=>D.sl (l.map bD))))),(2,.row 2 ((cR u c k).map aL)),(3,bA)],uL [1,2,3]⟩:=rfl;rw[e0];clear e0;generalize cR u c k=L at *
        unfold cM at c3;simp only[z8,bZ,bR,bA,ae,aa,seval,iteOmega,toNatUp,gk];refine sD (c3) ?_;refine bd c4 (by simp only[ae,aa,seval,iteOmega,toNatUp] <;> rfl) (.inr fl) ?_;simp only[ae,aa,seval,iteOmega,toNatUp];exact cN
     ·have g3:(fG j=0)=False:=eq_false h3;obtain⟨q1,q2⟩:=xt eE h3;rw[q1,q2,eE];unfold bK dE at *
      generalize fG j=e at *
      simp only[pS,af,ae,aa,seval,iteOmega,toNatUp];refine sC (c1) ?_;simp only[g1,g2,ae,aa,seval,iteOmega,toNatUp];refine sC (c2) ?_;simp only[g3,ae,aa,seval,iteOmega,toNatUp];exact cN
    ·have g2:((n.length:Int)=16)=False:=eq_false (by omega);have e:iu j u n=3:=by unfold iu; rw[if_pos (.inr (.inr h2))]
     obtain⟨q1,q2⟩:=xt e (by decide);rw[q1,q2,e];unfold bK dE at *
     simp only[pS,af,ae,aa,seval,iteOmega,toNatUp];refine sC (c1) ?_;simp only[g1,g2,ae,aa,seval,iteOmega,toNatUp];exact cN
   ·have g1:((u.length:Int)=32)=False:=eq_false (by omega);have e:iu j u n=3:=by unfold iu; rw[if_pos (.inr (.inl h1))]
    obtain⟨q1,q2⟩:=xt e (by decide);rw[q1,q2,e];unfold bK dE at *
    simp only[pS,af,ae,aa,seval,iteOmega,toNatUp];refine sC (c1) ?_;simp only[g1,ae,aa,seval,iteOmega,toNatUp];exact cN
  ·rw[decide_eq_false v] at c1;have e:iu j u n=3:=by unfold iu; rw[if_pos (.inl v)]
   obtain⟨q1,q2⟩:=xt e (by decide);rw[q1,q2,e];unfold bK dE at *
   simp only[pS,af,ae,aa,seval,iteOmega,toNatUp];refine sD (c1) ?_;exact cN
def kr:Ob:=.box [.d (.int .i64 0),.d (.int .i64 0),.d (.int .i64 0),.d (.int .i64 0),.d (.int .i64 0),.d (.int .i64 0),.d (.int .u32 0),.d (.int .u32 0),.d (.int .u32 0),.d (.int .u64 0),.d (.int .u64 0),.d (.int .u64 0),.d (.int .u64 0),.nil,.nil,.d (.bool false)]
def kB (l:List Fd) (i:Nat):List (List UInt8):=((aW l 516).take i).map fun k=>(l.getD k.toNat default).da
theorem AV (l:List Fd):kB l (aW l 516).length=bH l:=by
  unfold kB;rw[ab8,YP]
theorem aaP {l:List Fd} {i:Nat} (h:i<(aW l 516).length):kB l (i+1)=kB l i++[(l.getD ((aW l 516).getD i 0).toNat default).da]:=by
  unfold kB;rw[adg,abI (l:=aW l 516),abF h,abT]; rfl
theorem vS {l:List Fd} {i:Nat} (h:i≤(aW l 516).length):(kB l i).length=i:=by
  unfold kB;rw[abY,abN]; omega
theorem BN {l:List Fd} {k:Int} {i:Nat} (h:i<(aW l k).length):∃ m:Nat,(aW l k)[i]?=some (m:Int)∧(aW l k).getD i 0=(m:Int)∧m<l.length:=by
  have e:(aW l k)[i]?=some ((aW l k)[i]):=abF h;obtain⟨h1,h2⟩:=BI l k l.length _ (show (aW l k)[i]∈df l k l.length from aca h);obtain⟨m,hm⟩:=acB h1;have hm:(aW l k)[i]=(m:Int):=hm;refine⟨m,by rw[e,hm],by rw[abI,e,hm]; rfl,by omega⟩
theorem NT (l:List Fd) (k:Int):(aW l k).length≤l.length:=vM l k _
theorem Pq {key b:List UInt8}:(dL key b).pl.length≤24∧(dL key b).se.length≤24:=by
  unfold dL;split
  ·have h1:=@pz (b.drop 48);have h2:=@pz (dY key b);exact⟨by simp; omega,h2⟩
  ·exact⟨by decide,by decide⟩
theorem NU {u b:List UInt8} {p:cu} (h:(aW p.pl 260).length≠1):lA u b p=false:=by
  unfold lA;split
  ·rename_i i e;rw[e] at h;exact absurd rfl h
  ·rfl
theorem Pr {u b:List UInt8} {p:cu} {m:Nat} (h:(aW p.pl 260).length=1) (hm:(aW p.pl 260)[0]?=some (m:Int)):lA u b p=((p.pl.getD m default).da==u):=by
  obtain⟨i,e⟩:=List.length_eq_one_iff.1 h;unfold lA;rw[e] at hm ⊢;obtain rfl:i=(m:Int):=Option.some.inj hm;rfl
theorem je:bz ee=.agg [.int .i64 0,.int .i64 0,.int .i64 0,.int .i64 0,.int .i64 0,.int .i64 0,.int .u32 0,.int .u32 0,.int .u32 0,.int .u64 0,.int .u64 0,.int .u64 0,.int .u64 0,.sl [],.sl [],.bool false]:=rfl
def ku (j:Jr) (p:cu) (i:Nat):List (Nat×V):=[(3,.w (.c (.rp (bZ j)))),(6,.w (.c (.ptr 3 1 0 0))),(7,.w (.c (.ptr 4 1 0 0))),(9,.w (.c (.ptr 1 1 0 0))),(13,.w (.c (.d (.sl ((aW p.se 516).map zD))))),(14,.w (.c (.d (.int .i64 (i:Int)))))]
def mc (j:Jr) (p:cu):Nat→St
  | 0=>⟨aT ((12,.w (.c .nil))::ku j p 0),hL [(1,.box (jF p)),(3,bA),(4,kr)],uL [1,3,4]⟩
  | i+1=>⟨aT ((12,.w (.c (.own 2 1 0 (kB p.se (i+1)).length)))::ku j p (i+1)),hL [(1,.box (jF p)),(2,.row 1 ((kB p.se (i+1)).map fun l=>D.sl (l.map bD))),(3,bA),(4,kr)],uL [1,2,3,4]⟩
def nG:aS := .seq (.seq (.reg [oM 69 14,oM 70 13,oO 71 (.len (.t 70)),oO 72 (.bin .lss (.t 69) (.t 71))]) (.cond (.t 72) (.skip) (.exit 0))) (.seq (.block 1 (.reg [oM 75 12,oO 76 (.fieldAddr 14 (.t 9)),oO 77 (.load .sc (.t 76)),oM 78 13,oM 79 14,oO 80 (.idxSl 1 (.t 78) (.t 79)),oO 81 (.load .sc (.t 80)),oO 82 (.idxSl 2 (.t 77) (.t 81)),oO 83 (.fieldAddr 1 (.t 82)),oO 84 (.load .sc (.t 83)),oO 85 (.bldSl false 1 1 (.sl []) [(0,(.t 84))]),oO 86 (.app false 1 24 (.t 75) (.t 85)),oM 12 86])) (.reg [oM 73 14,oO 74 (.bin .add (.t 73) (kI 1)),oM 14 74]))
def mS:aG:=⟨3,100,.seq (.reg [oO 3 (.box .roBox (.t 0)),oO 6 (.alloc [.nil,.nil,.nil,.nil,(.d (.int .i64 0)),(.d (.int .i64 0))]),oO 7 (.alloc [(.d (.int .i64 0)),(.d (.int .i64 0)),(.d (.int .i64 0)),(.d (.int .i64 0)),(.d (.int .i64 0)),(.d (.int .i64 0)),(.d (.int .u32 0)),(.d (.int .u32 0)),(.d (.int .u32 0)),(.d (.int .u64 0)),(.d (.int .u64 0)),(.d (.int .u64 0)),(.d (.int .u64 0)),.nil,.nil,(.d (.bool false))]),oO 8 (.mv (kI 0))]) (.seq (.seq (.reg [oO 16 (.load (.ag 6) (.t 3)),oO 17 (.call 26 [(.t 16)] none),oO 18 (.un .not (.t 17)),oM 19 18,oG 20 (.mv (.t 1)) 19 false,oG 21 (.len (.t 20)) 19 false,oG 22 (.bin .neq (.t 21) (kI 32)) 19 false,oO 23 (.pick (.t 19) (.k (.c (.d (.bool true)))) (.t 22))]) (.cond (.t 23) (.seq (.reg [oO 24 (.build [.nil,.nil,.nil,.nil,(.d (.int .i64 0)),(.d (.int .i64 0))] []),
 oO 25 (.build [(.d (.int .i64 0)),(.d (.int .i64 0)),(.d (.int .i64 0)),(.d (.int .i64 0)),(.d (.int .i64 0)),(.d (.int .i64 0)),(.d (.int .u32 0)),(.d (.int .u32 0)),(.d (.int .u32 0)),(.d (.int .u64 0)),(.d (.int .u64 0)),(.d (.int .u64 0)),(.d (.int .u64 0)),.nil,.nil,(.d (.bool false))] []),oN (.store (.ag 6) (.t 6) (.t 24)),oN (.store (.ag 16) (.t 7) (.t 25)),oO 8 (.mv (kI 3))]) (.ret)) (.skip))) (.seq (.reg [oO 27 (.fieldAddr 0 (.t 3)),oO 28 (.fieldAddr 1 (.t 27)),oO 29 (.load .sc (.t 28)),oM 30 2,oO 31 (.call 34 [(.t 29),(.t 30)] none),oM 26 31,oO 32 (.extract (.t 26) 0),oO 33 (.extract (.t 26) 1),oO 9 (.alloc [(.d (.int .i64 0)),(.d (.int .i64 0)),(.d (.int .i64 0)),(.d (.int .i64 0)),(.d (.int .i64 0)),(.d (.int .i64 0)),(.d (.int .u32 0)),(.d (.int .u32 0)),(.d (.int .u32 0)),(.d (.int .u64 0)),(.d (.int .u64 0)),(.d (.int .u64 0)),(.d (.int .u64 0)),.nil,.nil,(.d (.bool false))]),
 oN (.store (.ag 16) (.t 9) (.t 32)),oM 10 33]) (.seq (.seq (.reg [oM 34 10,oO 35 (.bin .neq (.t 34) (kI 0))]) (.cond (.t 35) (.seq (.reg [oO 36 (.build [.nil,.nil,.nil,.nil,(.d (.int .i64 0)),(.d (.int .i64 0))] []),oO 37 (.build [(.d (.int .i64 0)),(.d (.int .i64 0)),(.d (.int .i64 0)),(.d (.int .i64 0)),(.d (.int .i64 0)),(.d (.int .i64 0)),(.d (.int .u32 0)),(.d (.int .u32 0)),(.d (.int .u32 0)),(.d (.int .u64 0)),(.d (.int .u64 0)),(.d (.int .u64 0)),(.d (.int .u64 0)),.nil,.nil,(.d (.bool false))] []),oM 38 10,oN (.store (.ag 6) (.t 6) (.t 36)),oN (.store (.ag 16) (.t 7) (.t 37)),oM 8 38]) (.ret)) (.skip))) (.seq (.seq (.reg [oO 39 (.fieldAddr 0 (.t 9)),oO 40 (.fieldAddr 2 (.t 39)),oO 41 (.load .sc (.t 40)),oO 42 (.bin .neq (.t 41) (kI 4))]) (.cond (.t 42) (.seq (.reg [oO 43 (.build [.nil,.nil,.nil,.nil,(.d (.int .i64 0)),(.d (.int .i64 0))] []),
 oO 44 (.build [(.d (.int .i64 0)),(.d (.int .i64 0)),(.d (.int .i64 0)),(.d (.int .i64 0)),(.d (.int .i64 0)),(.d (.int .i64 0)),(.d (.int .u32 0)),(.d (.int .u32 0)),(.d (.int .u32 0)),(.d (.int .u64 0)),(.d (.int .u64 0)),(.d (.int .u64 0)),(.d (.int .u64 0)),.nil,.nil,(.d (.bool false))] []),oN (.store (.ag 6) (.t 6) (.t 43)),oN (.store (.ag 16) (.t 7) (.t 44)),oO 8 (.mv (kI 3))]) (.ret)) (.skip))) (.seq (.reg [oO 45 (.fieldAddr 13 (.t 9)),oO 46 (.load .sc (.t 45)),oO 47 (.call 35 [(.t 46),(kI 260)] none),oM 11 47]) (.seq (.seq (.reg [oM 48 11,oO 49 (.len (.t 48)),oO 50 (.bin .neq (.t 49) (kI 1)),oM 51 50,oG 52 (.fieldAddr 13 (.t 9)) 51 false,oG 53 (.load .sc (.t 52)) 51 false,oG 54 (.mv (.t 11)) 51 false,oG 55 (.idxSl 1 (.t 54) (kI 0)) 51 false,oG 56 (.load .sc (.t 55)) 51 false,oG 57 (.idxSl 2 (.t 53) (.t 56)) 51 false,
 oG 58 (.fieldAddr 1 (.t 57)) 51 false,oG 59 (.load .sc (.t 58)) 51 false,oG 60 (.mv (.t 1)) 51 false,oG 61 (.call 12 [(.t 59),(.t 60)] none) 51 false,oG 62 (.un .not (.t 61)) 51 false,oO 63 (.pick (.t 51) (.k (.c (.d (.bool true)))) (.t 62))]) (.cond (.t 63) (.seq (.reg [oO 64 (.build [.nil,.nil,.nil,.nil,(.d (.int .i64 0)),(.d (.int .i64 0))] []),oO 65 (.build [(.d (.int .i64 0)),(.d (.int .i64 0)),(.d (.int .i64 0)),(.d (.int .i64 0)),(.d (.int .i64 0)),(.d (.int .i64 0)),(.d (.int .u32 0)),(.d (.int .u32 0)),(.d (.int .u32 0)),(.d (.int .u64 0)),(.d (.int .u64 0)),(.d (.int .u64 0)),(.d (.int .u64 0)),.nil,.nil,(.d (.bool false))] []),oN (.store (.ag 6) (.t 6) (.t 64)),oN (.store (.ag 16) (.t 7) (.t 65)),oO 8 (.mv (kI 7))]) (.ret)) (.skip))) (.seq (.reg [oO 12 (.mv (.k (.c .nil)))]) (.seq (.reg [oO 66 (.fieldAddr 14 (.t 9)),
 oO 67 (.load .sc (.t 66)),oO 68 (.call 35 [(.t 67),(kI 516)] none),oM 13 68]) (.seq (.seq (.reg [oO 14 (.mv (kI 0))]) (.block 0 (.loop nG))) (.seq (.reg [oO 88 (.load (.ag 6) (.t 3)),oO 89 (.frz (.t 12)),oO 90 (.call 36 [(.t 88),(.t 89)] none),oM 87 90,oO 91 (.extract (.t 87) 0),oO 92 (.extract (.t 87) 1),oO 15 (.alloc [.nil,.nil,.nil,.nil,(.d (.int .i64 0)),(.d (.int .i64 0))]),oN (.store (.ag 6) (.t 15) (.t 91)),oM 10 92]) (.seq (.seq (.reg [oM 93 10,oO 94 (.bin .neq (.t 93) (kI 0))]) (.cond (.t 94) (.seq (.reg [oO 95 (.build [.nil,.nil,.nil,.nil,(.d (.int .i64 0)),(.d (.int .i64 0))] []),oO 96 (.build [(.d (.int .i64 0)),(.d (.int .i64 0)),(.d (.int .i64 0)),(.d (.int .i64 0)),(.d (.int .i64 0)),(.d (.int .i64 0)),(.d (.int .u32 0)),(.d (.int .u32 0)),(.d (.int .u32 0)),(.d (.int .u64 0)),(.d (.int .u64 0)),(.d (.int .u64 0)),(.d (.int .u64 0)),.nil,.nil,(.d (.bool false))] []),
 oM 97 10,oN (.store (.ag 6) (.t 6) (.t 95)),oN (.store (.ag 16) (.t 7) (.t 96)),oM 8 97]) (.ret)) (.skip))) (.seq (.reg [oO 98 (.loadX (.ag 6) (.t 15) [(.t 6),(.t 7)]),oO 99 (.loadX (.ag 16) (.t 9) [(.t 6),(.t 7)]),oN (.store (.ag 6) (.t 6) (.t 98)),oN (.store (.ag 16) (.t 7) (.t 99)),oO 8 (.mv (kI 0))]) (.ret))))))))))))),[(6,(some (.ag 6))),(7,(some (.ag 16))),(8,none)]⟩
theorem Zo:aF Tryz.prog { own:=[],comp:=[],frz:=[89],nils:=[],lx:=[(98,[6,7]),(99,[6,7])] } Tryz.f10=some mS:=by kernel_rfl
set_option maxHeartbeats 6400000 in
theorem aaQ (G:ah) (j:Jr) (u b:List UInt8) (hb:b.length≤9000000000000000000):aB Tryz.prog G 10 [bK j,.sl (u.map bD),.sl (b.map bD)] (.tup [.c (.d (bK (lC j u b))),.c (.d (bz (lD j u b))),.c (.d (.int .i64 (dR j u b)))]):=by
  refine aI Tryz.func10 Zo rfl rfl ?_;have c1:=O8 G j;by_cases v:di j
  ·rw[decide_eq_true v] at c1;by_cases h1:u.length=32
   ·have g1:((u.length:Int)=32)=True:=eq_true (by omega);have e0:dR j u b=if eH j.dn b≠0 then eH j.dn b else if (dL j.dn b).hd.md≠4 then 3 else if lA u b (dL j.dn b)=false then 7 else if dT (bH (dL j.dn b).se)=true then 0 else 3:=by unfold dR; rw[if_neg (fun h=>h.elim (· v) (· h1))]
    have no:=fun (e:Int) (h:dR j u b=e) (he:e≠0)=>qk (u:=u) h he
    have yes:dR j u b=0→lC j u b=ir j (bH (dL j.dn b).se)∧lD j u b=dL j.dn b:=fun h=>⟨if_pos h,if_pos h⟩
    obtain⟨v1,v2,v3,v4,v5⟩:=pR v;have c2:=Wx G j.dn b (by omega) hb;obtain⟨p1,p2⟩:=Pq (key:=j.dn) (b:=b);have pE:∀ cs,lz j cs=if dT cs=true then 0 else 3:=fun cs=>by unfold lz; rw[if_neg (not_not_intro v)]
    generalize dL j.dn b=p at *
    generalize eH j.dn b=q at *
    generalize dR j u b=e at *
    generalize lC j u b=J at *
    generalize lD j u b=P at *
    by_cases h2:q=0
    ·have g2:(q=0)=True:=eq_true h2;rw[if_neg (not_not_intro h2)] at e0;by_cases h3:p.hd.md=4
     ·have g3:(p.hd.md=4)=True:=eq_true h3;rw[if_neg (not_not_intro h3)] at e0;have c3:=BM G p.pl 260 (by omega);by_cases h4:(aW p.pl 260).length=1
      ·have g4:(((aW p.pl 260).length:Int)=1)=True:=eq_true (by omega);obtain⟨m,m1,m2,m3⟩:=BN (l:=p.pl) (k:=260) (i:=0) (by omega);have f0:=i4 m3;rw[Pr h4 m1] at e0;have c4:=rP G (p.pl.getD m default).da u;have c5:=BM G p.se 516 (by omega);have fl:=NT p.se 516;cases h5:(p.pl.getD m default).da==u
       ·rw[h5] at c4 e0;rw[if_pos rfl] at e0;obtain⟨rfl,rfl⟩:=no _ e0 (by decide);subst e0;clear no yes c5;generalize p.pl.getD m default=x at *
        generalize aW p.pl 260=A at *
        rw[je];unfold bK dE at *
        try unfold bz at *
        simp only[mS,af,ae,aa,seval,iteOmega,toNatUp];refine sC (c1) ?_;simp only[g1,ae,aa,seval,iteOmega,toNatUp];refine sC (c2) ?_;simp only[g2,g3,ae,aa,seval,iteOmega,toNatUp];refine sC (c3) ?_;simp only[g4,aD,m1,zD,f0,aL,ae,aa,seval,iteOmega,toNatUp];refine sD (c4) ?_;exact cN
       ·rw[h5] at c4 e0;rw[if_neg (by decide)] at e0;have c6:=aau G j (bH p.se);have hl:(bH p.se).length≤24:=by
          rw[← AV,vS (abR _)]; omega
        have c6:=c6 (by omega);rw[pE] at c6;generalize p.pl.getD m default=x at *
        generalize aW p.pl 260=A at *
        generalize hJ:bK J=DJ;generalize hP:bz P=DP;unfold bK at c1 c6 ⊢;unfold bz at c2;simp only[mS,af,ae,aa,seval,iteOmega,toNatUp];refine sC (c1) ?_;simp only[g1,ae,aa,seval,iteOmega,toNatUp];refine sC (c2) ?_;simp only[g2,g3,ae,aa,seval,iteOmega,toNatUp];refine sC (c3) ?_;simp only[g4,aD,m1,zD,f0,aL,ae,aa,seval,iteOmega,toNatUp];refine sD (c4) ?_;refine sD (c5) ?_;refine ba (mc j p) (fun i=>(aW p.se 516).length-i) (fun i=>i≤(aW p.se 516).length) 0 (abM _) ?_ ?_
        ·refine ap (fun i=>if i=1 then 72 else if i=3 then 48 else 56) ?_ ?_ rfl rfl <;> simp only[ku,bZ,jF,bA,kr,wx,aj,ar,aa,seval,iteOmega,toNatUp] <;> first | rfl | exact⟨rfl,rfl⟩ | skip
        ·intro i hi;clear c1 c2 c3 c4 c5;by_cases hlt:i<(aW p.se 516).length
         ·obtain⟨k,k1,k2,k3⟩:=BN hlt;have f2:=i4 k3;have hs:=aaP hlt;rw[k2,Int.toNat_natCast] at hs;have tl:=vS (l:=p.se) (i:=i) hi;have tl2:=vS (l:=p.se) (i:=i+1) hlt;have az:=fP (kB p.se i);clear c6 no yes e0;generalize p.se.getD k default=y at *
          rcases i with _ | i
          ·have e1:kB p.se (0+1)=[y.da]:=hs;simp only[nG,mc,ku,bZ,jF,bA,kr,ae,aa,seval,iteOmega,toNatUp,aD,k1,zD,f2,aL,bQ];refine aU (0+1) (by omega) (by omega) (ap (fun i=>if i=1 then 1 else if i=2 then 688 else i) ?_ ?_ rfl rfl) <;> simp only[mc,ku,bZ,jF,bA,kr,e1,zD,wx,aj,ar,aa,seval,iteOmega,toNatUp] <;> first | rfl | exact⟨rfl,rfl⟩ | skip
          ·simp only[nG,mc,ku,bZ,jF,bA,kr,ae,aa,seval,iteOmega,toNatUp,aD,k1,zD,f2,aL,bQ,tl];refine aU (i+1+1) (by omega) (by omega) (ap (fun i=>if i=1 then 1 else if i=2 then 688 else i) ?_ ?_ rfl rfl) <;> simp only[mc,ku,bZ,jF,bA,kr,hs,abT,tl,zD,wx,aj,ar,aa,seval,iteOmega,toNatUp] <;> first | rfl | exact⟨rfl,rfl⟩ | skip
         ·obtain rfl:i=(aW p.se 516).length:=by omega
          have hk:=AV p.se;have az:=fP (bH p.se);have zz:(aW p.se 516).length=0→bH p.se=[]:=fun h=>by rw[← hk,h]; rfl
          by_cases hA:dT (bH p.se)=true
          ·rw[if_pos hA] at c6 e0;obtain⟨yJ,yP⟩:=yes e0;rw[yJ] at hJ;rw[yP] at hP;unfold bK at hJ;unfold bz at hP;subst e0 hJ hP;rw[show tM j (bH p.se)=ir j (bH p.se) from if_pos (by rw[pE,if_pos hA])] at c6;clear no yes;generalize bH p.se=C at *
           unfold ir at *
           dsimp only at *
           generalize hn:(aW p.se 516).length=n at *
           rcases n with _ | n
           ·obtain rfl:=zz rfl;simp only[abS] at c6;simp only[nG,mc,ku,bZ,jF,bA,kr,ae,aa,seval,iteOmega,toNatUp,hn];refine sD (c6) ?_;exact cN
           ·simp only[nG,mc,ku,bZ,jF,bA,kr,ae,aa,seval,iteOmega,toNatUp,hk,hn];refine sD (c6) ?_;exact cN
          ·rw[if_neg hA] at c6 e0;obtain⟨yJ,yP⟩:=no _ e0 (by decide);rw[yJ] at hJ;rw[yP,je] at hP;unfold bK at hJ;subst e0 hJ hP;rw[show tM j (bH p.se)=dE from if_neg (by rw[pE,if_neg hA]; decide)] at c6;clear no yes;generalize bH p.se=C at *
           unfold dE at *
           simp only[abS] at c6;generalize hn:(aW p.se 516).length=n at *
           rcases n with _ | n
           ·obtain rfl:=zz rfl;simp only[abS] at c6;simp only[nG,mc,ku,bZ,jF,bA,kr,ae,aa,seval,iteOmega,toNatUp,hn];refine sD (c6) ?_;exact cN
           ·simp only[nG,mc,ku,bZ,jF,bA,kr,ae,aa,seval,iteOmega,toNatUp,hk,hn];refine sD (c6) ?_;exact cN
      ·have g4:(((aW p.pl 260).length:Int)=1)=False:=eq_false (by omega);rw[NU h4,if_pos rfl] at e0;obtain⟨rfl,rfl⟩:=no _ e0 (by decide);subst e0;clear no yes;generalize aW p.pl 260=A at *
       rw[je];unfold bK dE at *
       try unfold bz at *
       simp only[mS,af,ae,aa,seval,iteOmega,toNatUp];refine sC (c1) ?_;simp only[g1,ae,aa,seval,iteOmega,toNatUp];refine sC (c2) ?_;simp only[g2,g3,ae,aa,seval,iteOmega,toNatUp];refine sC (c3) ?_;simp only[g4,ae,aa,seval,iteOmega,toNatUp];exact cN
     ·have g3:(p.hd.md=4)=False:=eq_false h3;rw[if_pos h3] at e0;obtain⟨rfl,rfl⟩:=no _ e0 (by decide);subst e0;clear no yes;rw[je];unfold bK dE at *
      try unfold bz at *
      simp only[mS,af,ae,aa,seval,iteOmega,toNatUp];refine sC (c1) ?_;simp only[g1,ae,aa,seval,iteOmega,toNatUp];refine sC (c2) ?_;simp only[g2,g3,ae,aa,seval,iteOmega,toNatUp];exact cN
    ·have g2:(q=0)=False:=eq_false h2;rw[if_pos h2] at e0;obtain⟨rfl,rfl⟩:=no _ e0 h2;subst e0;clear no yes;rw[je];unfold bK dE at *
     try unfold bz at *
     simp only[mS,af,ae,aa,seval,iteOmega,toNatUp];refine sC (c1) ?_;simp only[g1,ae,aa,seval,iteOmega,toNatUp];refine sC (c2) ?_;simp only[g2,ae,aa,seval,iteOmega,toNatUp];exact cN
   ·have g1:((u.length:Int)=32)=False:=eq_false (by omega);have e:dR j u b=3:=by unfold dR; rw[if_pos (.inr h1)]
    obtain⟨q1,q2⟩:=qk e (by decide);rw[q1,q2,e];rw[je];unfold bK dE at *
    try unfold bz at *
    simp only[mS,af,ae,aa,seval,iteOmega,toNatUp];refine sC (c1) ?_;simp only[g1,ae,aa,seval,iteOmega,toNatUp];exact cN
  ·rw[decide_eq_false v] at c1;have e:dR j u b=3:=by unfold dR; rw[if_pos (.inl v)]
   obtain⟨q1,q2⟩:=qk e (by decide);rw[q1,q2,e];rw[je];unfold bK dE at *
   try unfold bz at *
   simp only[mS,af,ae,aa,seval,iteOmega,toNatUp];refine sD (c1) ?_;exact cN
def BO:aG:=⟨2,22,.seq (.reg [oO 4 (.mv (.k (.c (.d (.bool false)))))]) (.seq (.reg [oM 6 0,oO 7 (.call 47 [(.t 6),(kI 260)] none),oM 5 7]) (.seq (.reg [oM 8 5,oO 9 (.len (.t 8)),oO 10 (.bin .eql (.t 9) (kI 1)),oM 11 10,oG 12 (.mv (.t 0)) 11 true,oG 13 (.mv (.t 5)) 11 true,oG 14 (.idxSl 1 (.t 13) (kI 0)) 11 true,oG 15 (.load .sc (.t 14)) 11 true,oG 16 (.idxSl 2 (.t 12) (.t 15)) 11 true,oG 17 (.fieldAddr 1 (.t 16)) 11 true,oG 18 (.load .sc (.t 17)) 11 true,oG 19 (.mv (.t 1)) 11 true,oG 20 (.call 55 [(.t 18),(.t 19)] none) 11 true,oO 21 (.pick (.t 11) (.t 20) (.k (.c (.d (.bool false))))),oM 4 21]) (.ret))),[(4,none)]⟩
theorem Zp:aF Tryz.prog { own:=[],comp:=[],frz:=[],nils:=[] } Tryz.f30=some BO:=by kernel_rfl
theorem aaR (G:ah) (p:cu) (u b:List UInt8) (hl:p.pl.length≤1000000):aB Tryz.prog G 30 [.sl (p.pl.map aL),.sl (u.map bD)] (.w (.c (.d (.bool (lA u b p))))):=by
  refine aI Tryz.func30 Zp rfl rfl ?_;have c3:=BC G p.pl 260 hl;by_cases h4:(aW p.pl 260).length=1
  ·have g4:(((aW p.pl 260).length:Int)=1)=True:=eq_true (by omega);obtain⟨m,m1,m2,m3⟩:=BN (l:=p.pl) (k:=260) (i:=0) (by omega);have f0:=i4 m3;rw[Pr h4 m1];have c4:=pO G (p.pl.getD m default).da u;have az:=nE p.pl;generalize p.pl.getD m default=x at *
   generalize aW p.pl 260=A at *
   simp only[BO,af,ae,aa,seval,iteOmega,toNatUp];refine sC (c3) ?_;simp only[g4,aD,m1,zD,f0,aL,az,ae,aa,seval,iteOmega,toNatUp];refine sD (c4) ?_;exact aM
  ·have g4:(((aW p.pl 260).length:Int)=1)=False:=eq_false (by omega);rw[NU h4];generalize aW p.pl 260=A at *
   simp only[BO,af,ae,aa,seval,iteOmega,toNatUp];refine sC (c3) ?_;simp only[g4,ae,aa,seval,iteOmega,toNatUp];exact aM
theorem aaS {l:List Fd} {i:Nat} (h:i<l.length):bH (l.take (i+1))=if (l.getD i default).ty=516 then bH (l.take i)++[(l.getD i default).da] else bH (l.take i):=by
  have e:l.take (i+1)=l.take i++[l.getD i default]:=by
    rw[adg,abI,abF h]; rfl
  unfold bH;rw[e,List.filter_append,abT];by_cases hk:(l.getD i default).ty=516
  ·rw[if_pos hk,List.filter_cons_of_pos (by rw[hk]; rfl)]; rfl
  ·rw[if_neg hk,List.filter_cons_of_neg (by simpa using hk),List.filter_nil,abS,abP]
theorem aaT {l:List Fd} {i:Nat} (h:i<l.length) (hk:(l.getD i default).ty=516):(l.getD i default).da∈bH l:=by
  unfold bH;refine ab9.2 ⟨_,List.mem_filter.2 ⟨?_,by rw[hk]; rfl⟩,rfl⟩;rw[abI,abF h];exact aca h
theorem Zq (l:List Fd):(bH l).length≤l.length:=by
  unfold bH;rw[abY];exact List.length_filter_le _ _
def g9 (l:List Fd) (i:Nat):List (Nat×V):=[(3,.w (.c (.d (.int .i64 0)))),(6,.w (.c (.d (.sl (l.map aL))))),(7,.w (.c (.d (.int .i64 (l.length:Int))))),(8,.w (.c (.d (.int .i64 (i:Int)))))]
def nl (l:List Fd) (i:Nat):List (List UInt8)→St
  | []=>⟨aT ((2,.w (.c .nil))::g9 l i),hL [],uL []⟩
  | x::r=>⟨aT ((2,.w (.c (.own 1 1 0 (x::r).length)))::g9 l i),hL [(1,.row 1 ((x::r).map fun l=>D.sl (l.map bD)))],uL [1]⟩
def CF (l:List Fd) (i:Nat):St:=nl l i (bH (l.take i))
theorem sO (l:List Fd) (i:Nat):nl l i []=⟨aT ((2,.w (.c .nil))::g9 l i),hL [],uL []⟩:=rfl
theorem nR (l:List Fd) (i:Nat) (x:List UInt8) (r:List (List UInt8)):nl l i (x::r)=⟨aT ((2,.w (.c (.own 1 1 0 (x::r).length)))::g9 l i),hL [(1,.row 1 ((x::r).map fun l=>D.sl (l.map bD)))],uL [1]⟩:=rfl
def tB (l:List Fd):Int:=if dT (bH l)=true then 0 else 3
def tC (l:List Fd):List (List UInt8):=if dT (bH l)=true then bH l else []
def lK:aS := .seq (.reg [oO 9 (.bin .lss (.t 8) (.t 7))]) (.seq (.cond (.t 9) (.skip) (.exit 0)) (.seq (.block 1 (.seq (.reg [oO 10 (.idxSl 2 (.t 6) (.t 8)),oO 11 (.load (.ag 2) (.t 10)),oO 5 (.alloc [(.d (.int .i64 0)),.nil]),oN (.store (.ag 2) (.t 5) (.t 11))]) (.seq (.block 2 (.seq (.reg [oO 13 (.fieldAddr 0 (.t 5)),oO 14 (.load .sc (.t 13)),oO 15 (.bin .neq (.t 14) (kI 516)),oM 12 15]) (.cond (.t 12) (.exit 1) (.seq (.reg [oO 17 (.fieldAddr 1 (.t 5)),oO 18 (.load .sc (.t 17)),oO 19 (.call 54 [(.t 18)] none),oO 20 (.un .not (.t 19)),oM 16 20]) (.cond (.t 16) (.seq (.reg [oO 2 (.mv (.k (.c .nil))),oO 3 (.mv (kI 3))]) (.exit 0)) (.skip)))))) (.reg [oM 21 2,oO 22 (.fieldAddr 1 (.t 5)),oO 23 (.load .sc (.t 22)),oO 24 (.bldSl false 1 1 (.sl []) [(0,(.t 23))]),oO 25 (.app false 1 24 (.t 21) (.t 24)),
 oM 2 25])))) (.reg [oO 26 (.bin .add (.t 8) (kI 1)),oM 8 26])))
def NV:aG:=⟨1,29,.seq (.reg [oO 2 (.mv (.k (.c .nil))),oO 3 (.mv (kI 0))]) (.seq (.skip) (.seq (.seq (.reg [oM 6 0,oO 7 (.len (.t 6)),oO 8 (.mv (kI 0))]) (.block 0 (.loop lK))) (.seq (.reg [oM 27 2,oM 28 3,oM 2 27,oM 3 28]) (.ret)))),[(2,none),(3,none)]⟩
theorem Zr:aF Tryz.prog { own:=[],comp:=[],frz:=[],nils:=[] } Tryz.f31=some NV:=by kernel_rfl
theorem aaU (G:ah) (l:List Fd) (hl:l.length≤1000000):aB Tryz.prog G 31 [.sl (l.map aL)] (.tup [.c (.d (.sl ((tC l).map fun x=>D.sl (x.map bD)))),.c (.d (.int .i64 (tB l)))]):=by
  refine aI Tryz.func31 Zr rfl rfl ?_;simp only[NV,af,ae,aa,seval,iteOmega,toNatUp];refine ba (CF l) (fun i=>l.length-i) (fun i=>i≤l.length∧dT (bH (l.take i))=true) 0 ⟨abM _,rfl⟩ ?_ ?_
  ·refine ap (fun _=>0) ?_ ?_ rfl rfl <;> simp only[g9,wx,aj,ar,aa,seval,iteOmega,toNatUp] <;> first | rfl | exact⟨rfl,rfl⟩ | skip
  ·rintro i ⟨hi,hp⟩;by_cases hlt:i<l.length
   ·have g:=i4 hlt;have hn:=aaS hlt;have hm:=fun h=>aaT hlt h
    have az:=nE l;have al:=fun (h:dT (bH l)=true)=>kF.1 h
    have e0:CF l i=nl l i (bH (l.take i)):=rfl;rw[e0];have lL:=Zq (l.take i);rw[abN] at lL;clear e0;generalize l.getD i default=y at *
    have c1:=Cv G y.da;by_cases h1:y.ty=516
    ·have g1:(y.ty=516)=True:=eq_true h1;rw[if_pos h1] at hn;by_cases h2:y.da.length=104
     ·rw[beq_iff_eq.2 h2] at c1;have hp':dT (bH (l.take (i+1)))=true:=by
        rw[hn];refine kF.2 fun c hc=>?_
        rcases ab5.1 hc with hc | hc
        ·exact kF.1 hp c hc
        ·rw[abU.1 hc]; exact h2
      clear hm al h2;have tl:=congrArg List.length hn;rw[abJ,acI] at tl;have hx:=hn;have azl:=fP (bH (l.take i));generalize bH (l.take i)=L at *
      rcases L with _ | ⟨x,r⟩
      ·rw[sO];simp only[lK,g9,ae,aa,seval,iteOmega,toNatUp,aD,g,aL,az,g1];refine sC (c1) ?_;simp only[bQ,ae,aa,seval,iteOmega,toNatUp];refine aU (i+1) (by omega) ⟨by omega,hp'⟩ ?_
       show fi _ (nl l (i+1) (bH (l.take (i+1))))
       rw[hn,acE,nR];refine ap (fun _=>200) ?_ ?_ rfl rfl <;> simp only[g9,wx,aj,ar,aa,seval,iteOmega,toNatUp] <;> first | rfl | exact⟨rfl,rfl⟩ | skip
      ·rw[nR];rw[ada] at lL;simp only[lK,g9,ae,aa,seval,iteOmega,toNatUp,aD,g,aL,az,g1];refine sC (c1) ?_;simp only[bQ,ae,aa,seval,iteOmega,toNatUp];refine aU (i+1) (by omega) ⟨by omega,hp'⟩ ?_
       show fi _ (nl l (i+1) (bH (l.take (i+1))))
       rw[hn,acF,nR];refine ap (fun _=>200) ?_ ?_ rfl rfl <;> simp only[g9,ada,abJ,abK,abT,wx,aj,ar,aa,seval,iteOmega,toNatUp] <;> first | rfl | exact⟨rfl,rfl⟩ | skip
     ·rw[beq_eq_false_iff_ne.2 h2] at c1;have hno:¬ dT (bH l)=true:=fun h=>h2 (al h _ (hm h1))
      rw[show tC l=[] from if_neg hno,show tB l=3 from if_neg hno];clear hm al h2 hno hn hp;generalize bH (l.take i)=L at *
      rcases L with _ | ⟨x,r⟩
      ·rw[sO];simp only[lK,g9,ae,aa,seval,iteOmega,toNatUp,aD,g,aL,az,g1];refine sD (c1) ?_;exact cI
      ·rw[nR];simp only[lK,g9,ae,aa,seval,iteOmega,toNatUp,aD,g,aL,az,g1];refine sD (c1) ?_;exact cI
    ·have g1:(y.ty=516)=False:=eq_false h1;rw[if_neg h1] at hn;have hp':dT (bH (l.take (i+1)))=true:=by rw[hn]; exact hp
     clear hm al;generalize bH (l.take i)=L at *
     rcases L with _ | ⟨x,r⟩
     ·rw[sO];simp only[lK,g9,ae,aa,seval,iteOmega,toNatUp,aD,g,aL,az,g1];refine aU (i+1) (by omega) ⟨by omega,hp'⟩ ?_
      show fi _ (nl l (i+1) (bH (l.take (i+1))))
      rw[hn,sO];refine ap (fun i=>i) ?_ ?_ rfl rfl <;> simp only[g9,wx,aj,ar,aa,seval,iteOmega,toNatUp] <;> first | rfl | exact⟨rfl,rfl⟩ | skip
     ·rw[nR];simp only[lK,g9,ae,aa,seval,iteOmega,toNatUp,aD,g,aL,az,g1];refine aU (i+1) (by omega) ⟨by omega,hp'⟩ ?_
      show fi _ (nl l (i+1) (bH (l.take (i+1))))
      rw[hn,nR];refine ap (fun i=>i) ?_ ?_ rfl rfl <;> simp only[g9,wx,aj,ar,aa,seval,iteOmega,toNatUp] <;> first | rfl | exact⟨rfl,rfl⟩ | skip
   ·obtain rfl:i=l.length:=by omega
    rw[ab8] at hp;rw[show tC l=bH l from if_pos hp,show tB l=0 from if_pos hp];unfold CF;rw[ab8];have azl:=fP (bH l);generalize bH l=L at *
    rcases L with _ | ⟨x,r⟩
    ·rw[sO];simp only[lK,g9,ae,aa,seval,iteOmega,toNatUp];exact cI
    ·rw[nR];simp only[lK,g9,ae,aa,seval,iteOmega,toNatUp];exact cI
theorem Wy {P:Program} {G:ah} {Q:AX→St→Prop} {f:Nat→V} {h:aA} {u:Nat→Bool} {t id sz:Nat} {c:aS} {cs:List C} {ds:List D} (hx:f t=.w (.c (.ptr id sz 0 0))) (hi:h id=some (.box cs)) (hd:d6 cs=some ds)
    (k:bL P G c Q ⟨upd f t (.w (.c (.rp ds))),upd h id none,u⟩):bL P G (.ghost t c) Q ⟨f,h,u⟩:=by
  show match te ⟨f,h,u⟩ t with | some τ=>_ | none=>False
  unfold te;simp only[hx,hi,hd,ac7];exact k
def Ps (p:cu):List D:=[.int .i64 p.hd.lp,.int .i64 p.hd.vr,.int .i64 p.hd.md,.int .i64 p.hd.st,.int .i64 p.hd.pl,.int .i64 p.hd.pr,.int .u32 (p.hd.rd:Int),.int .u32 (p.hd.rp:Int),.int .u32 (p.hd.ri:Int),.int .u64 (p.hd.rf:Int),.int .u64 (p.hd.og:Int),.int .u64 (p.hd.rc:Int),.int .u64 (p.hd.tr:Int),.sl (p.pl.map aL),.sl (p.se.map aL),.bool p.gu]
def mT:aG:=⟨3,64,.seq (.reg [oO 3 (.box .roBox (.t 0)),oO 6 (.alloc [.nil,.nil,.nil,.nil,(.d (.int .i64 0)),(.d (.int .i64 0))]),oO 7 (.alloc [(.d (.int .i64 0)),(.d (.int .i64 0)),(.d (.int .i64 0)),(.d (.int .i64 0)),(.d (.int .i64 0)),(.d (.int .i64 0)),(.d (.int .u32 0)),(.d (.int .u32 0)),(.d (.int .u32 0)),(.d (.int .u64 0)),(.d (.int .u64 0)),(.d (.int .u64 0)),(.d (.int .u64 0)),.nil,.nil,(.d (.bool false))]),oO 8 (.mv (kI 0))]) (.seq (.seq (.reg [oO 12 (.load (.ag 6) (.t 3)),oO 13 (.call 21 [(.t 12)] none),oO 14 (.un .not (.t 13)),oM 15 14,oG 16 (.mv (.t 1)) 15 false,oG 17 (.len (.t 16)) 15 false,oG 18 (.bin .neq (.t 17) (kI 32)) 15 false,oO 19 (.pick (.t 15) (.k (.c (.d (.bool true)))) (.t 18))]) (.cond (.t 19) (.seq (.reg [oO 20 (.build [.nil,.nil,.nil,.nil,(.d (.int .i64 0)),(.d (.int .i64 0))] []),
 oO 21 (.build [(.d (.int .i64 0)),(.d (.int .i64 0)),(.d (.int .i64 0)),(.d (.int .i64 0)),(.d (.int .i64 0)),(.d (.int .i64 0)),(.d (.int .u32 0)),(.d (.int .u32 0)),(.d (.int .u32 0)),(.d (.int .u64 0)),(.d (.int .u64 0)),(.d (.int .u64 0)),(.d (.int .u64 0)),.nil,.nil,(.d (.bool false))] []),oN (.store (.ag 6) (.t 6) (.t 20)),oN (.store (.ag 16) (.t 7) (.t 21)),oO 8 (.mv (kI 3))]) (.ret)) (.skip))) (.seq (.reg [oO 23 (.fieldAddr 0 (.t 3)),oO 24 (.fieldAddr 1 (.t 23)),oO 25 (.load .sc (.t 24)),oM 26 2,oO 27 (.call 29 [(.t 25),(.t 26)] none),oM 22 27,oO 28 (.extract (.t 22) 0),oO 29 (.extract (.t 22) 1),oO 9 (.alloc [(.d (.int .i64 0)),(.d (.int .i64 0)),(.d (.int .i64 0)),(.d (.int .i64 0)),(.d (.int .i64 0)),(.d (.int .i64 0)),(.d (.int .u32 0)),(.d (.int .u32 0)),(.d (.int .u32 0)),(.d (.int .u64 0)),(.d (.int .u64 0)),(.d (.int .u64 0)),(.d (.int .u64 0)),.nil,.nil,(.d (.bool false))]),
 oN (.store (.ag 16) (.t 9) (.t 28)),oM 10 29]) (.seq (.seq (.reg [oM 30 10,oO 31 (.bin .neq (.t 30) (kI 0))]) (.cond (.t 31) (.seq (.reg [oO 32 (.build [.nil,.nil,.nil,.nil,(.d (.int .i64 0)),(.d (.int .i64 0))] []),oO 33 (.build [(.d (.int .i64 0)),(.d (.int .i64 0)),(.d (.int .i64 0)),(.d (.int .i64 0)),(.d (.int .i64 0)),(.d (.int .i64 0)),(.d (.int .u32 0)),(.d (.int .u32 0)),(.d (.int .u32 0)),(.d (.int .u64 0)),(.d (.int .u64 0)),(.d (.int .u64 0)),(.d (.int .u64 0)),.nil,.nil,(.d (.bool false))] []),oM 34 10,oN (.store (.ag 6) (.t 6) (.t 32)),oN (.store (.ag 16) (.t 7) (.t 33)),oM 8 34]) (.ret)) (.skip))) (.seq (.seq (.reg [oO 35 (.fieldAddr 0 (.t 9)),oO 36 (.fieldAddr 2 (.t 35)),oO 37 (.load .sc (.t 36)),oO 38 (.bin .neq (.t 37) (kI 4))]) (.cond (.t 38) (.seq (.reg [oO 39 (.build [.nil,.nil,.nil,.nil,(.d (.int .i64 0)),(.d (.int .i64 0))] []),
 oO 40 (.build [(.d (.int .i64 0)),(.d (.int .i64 0)),(.d (.int .i64 0)),(.d (.int .i64 0)),(.d (.int .i64 0)),(.d (.int .i64 0)),(.d (.int .u32 0)),(.d (.int .u32 0)),(.d (.int .u32 0)),(.d (.int .u64 0)),(.d (.int .u64 0)),(.d (.int .u64 0)),(.d (.int .u64 0)),.nil,.nil,(.d (.bool false))] []),oN (.store (.ag 6) (.t 6) (.t 39)),oN (.store (.ag 16) (.t 7) (.t 40)),oO 8 (.mv (kI 3))]) (.ret)) (.skip))) (.seq (.seq (.reg [oO 41 (.fieldAddr 13 (.t 9)),oO 42 (.load .sc (.t 41)),oM 43 1,oO 44 (.call 30 [(.t 42),(.t 43)] none),oO 45 (.un .not (.t 44))]) (.cond (.t 45) (.seq (.reg [oO 46 (.build [.nil,.nil,.nil,.nil,(.d (.int .i64 0)),(.d (.int .i64 0))] []),oO 47 (.build [(.d (.int .i64 0)),(.d (.int .i64 0)),(.d (.int .i64 0)),(.d (.int .i64 0)),(.d (.int .i64 0)),(.d (.int .i64 0)),(.d (.int .u32 0)),(.d (.int .u32 0)),(.d (.int .u32 0)),(.d (.int .u64 0)),(.d (.int .u64 0)),(.d (.int .u64 0)),(.d (.int .u64 0)),.nil,.nil,(.d (.bool false))] []),
 oN (.store (.ag 6) (.t 6) (.t 46)),oN (.store (.ag 16) (.t 7) (.t 47)),oO 8 (.mv (kI 7))]) (.ret)) (.skip))) (.seq (.reg [oO 49 (.fieldAddr 14 (.t 9)),oO 50 (.load .sc (.t 49)),oO 51 (.call 31 [(.t 50)] none),oM 48 51,oO 52 (.extract (.t 48) 0),oO 53 (.extract (.t 48) 1),oM 11 52,oM 10 53]) (.seq (.seq (.reg [oM 54 10,oO 55 (.bin .neq (.t 54) (kI 0))]) (.cond (.t 55) (.seq (.reg [oO 56 (.build [.nil,.nil,.nil,.nil,(.d (.int .i64 0)),(.d (.int .i64 0))] []),oO 57 (.build [(.d (.int .i64 0)),(.d (.int .i64 0)),(.d (.int .i64 0)),(.d (.int .i64 0)),(.d (.int .i64 0)),(.d (.int .i64 0)),(.d (.int .u32 0)),(.d (.int .u32 0)),(.d (.int .u32 0)),(.d (.int .u64 0)),(.d (.int .u64 0)),(.d (.int .u64 0)),(.d (.int .u64 0)),.nil,.nil,(.d (.bool false))] []),oM 58 10,oN (.store (.ag 6) (.t 6) (.t 56)),
 oN (.store (.ag 16) (.t 7) (.t 57)),oM 8 58]) (.ret)) (.skip))) (.seq (.ghost 9 (.reg [oO 59 (.loadX (.ag 6) (.t 3) []),oO 60 (.call 33 [(.t 59)] (some (2,1))),oM 61 11,oO 62 (.callM 32 [(.t 60),(.t 61)]),oO 63 (.loadX (.ag 16) (.t 9) []),oN (.store (.ag 6) (.t 6) (.t 62)),oN (.store (.ag 16) (.t 7) (.t 63)),oO 8 (.mv (kI 0))])) (.ret))))))))),[(6,(some (.ag 6))),(7,(some (.ag 16))),(8,none)]⟩
theorem Zs:aF Tryz.prog { own:=[],comp:=[(60,1002)],frz:=[],nils:=[],lx:=[(59,[]),(63,[])],mt:=[62],gh:=[(13,9)] } Tryz.f9=some mT:=by kernel_rfl
theorem CG (G:ah) (j:Jr) (u b:List UInt8) (hb:b.length≤9000000000000000000):aB Tryz.prog G 9 [bK j,.sl (u.map bD),.sl (b.map bD)] (.tup [.c (.d (bK (lC j u b))),.c (.d (bz (lD j u b))),.c (.d (.int .i64 (dR j u b)))]):=by
  refine aI Tryz.func9 Zs rfl rfl ?_;have c1:=s9 G j;by_cases v:di j
  ·rw[decide_eq_true v] at c1;by_cases h1:u.length=32
   ·have g1:((u.length:Int)=32)=True:=eq_true (by omega);have e0:dR j u b=if eH j.dn b≠0 then eH j.dn b else if (dL j.dn b).hd.md≠4 then 3 else if lA u b (dL j.dn b)=false then 7 else if dT (bH (dL j.dn b).se)=true then 0 else 3:=by unfold dR; rw[if_neg (fun h=>h.elim (· v) (· h1))]
    have no:=fun (e:Int) (h:dR j u b=e) (he:e≠0)=>qk (u:=u) h he
    have yes:dR j u b=0→lC j u b=ir j (bH (dL j.dn b).se)∧lD j u b=dL j.dn b:=fun h=>⟨if_pos h,if_pos h⟩
    obtain⟨v1,v2,v3,v4,v5⟩:=pR v;have c2:=Y9 G j.dn b (by omega) hb;obtain⟨p1,p2⟩:=Pq (key:=j.dn) (b:=b);generalize dL j.dn b=p at *
    generalize eH j.dn b=q at *
    generalize dR j u b=e at *
    generalize lC j u b=J at *
    generalize lD j u b=P at *
    by_cases h2:q=0
    ·have g2:(q=0)=True:=eq_true h2;rw[if_neg (not_not_intro h2)] at e0;by_cases h3:p.hd.md=4
     ·have g3:(p.hd.md=4)=True:=eq_true h3;rw[if_neg (not_not_intro h3)] at e0;have c3:=aaR G p u b (by omega);cases h5:lA u b p
      ·rw[h5] at c3 e0;rw[if_pos rfl] at e0;obtain⟨rfl,rfl⟩:=no _ e0 (by decide);subst e0;clear no yes;rw[je];unfold bK dE at *
       try unfold bz at *
       simp only[mT,af,ae,aa,seval,iteOmega,toNatUp];refine sC (c1) ?_;simp only[g1,ae,aa,seval,iteOmega,toNatUp];refine sC (c2) ?_;simp only[g2,g3,ae,aa,seval,iteOmega,toNatUp];refine sD (c3) ?_;exact cN
      ·rw[h5] at c3 e0;rw[if_neg (by decide)] at e0;have c4:=aaU G p.se (by omega);have hl:(bH p.se).length≤24:=by
         rw[← AV,vS (abR _)];have:=NT p.se 516;omega
       by_cases hA:dT (bH p.se)=true
       ·rw[if_pos hA] at e0;obtain⟨yJ,yP⟩:=yes e0;rw[show tC p.se=bH p.se from if_pos hA,show tB p.se=0 from if_pos hA] at c4;have a4:=kF.1 hA;have c5:=Pb G j (by omega) (by omega) (by omega) (fun c hc=>by have:=v5 c hc; omega) (by omega);have c6:=aaz G j (bH p.se) v3 (fun c hc=>by have:=a4 c hc; omega) (by omega);rw[yJ,yP,e0];clear no yes;unfold ir;generalize bH p.se=C at *
        have az:=fP (cq j.la j.ck C);unfold tP at c5;unfold bK at *
        unfold bz at *
        simp only[mT,af,ae,aa,seval,iteOmega,toNatUp];refine sC (c1) ?_;simp only[g1,ae,aa,seval,iteOmega,toNatUp];refine sC (c2) ?_;simp only[g2,g3,ae,aa,seval,iteOmega,toNatUp];refine sD (c3) ?_;refine sD (c4) ?_;refine Wy (id:=72) (sz:=1) (cs:=jF p) (ds:=Ps p) rfl rfl rfl ?_;simp only[Ps,ae,aa,seval,iteOmega,toNatUp];refine sD (c5) ?_;refine mb [.mix (kA j 480 j.ck.length),.c (.d (.sl (nu C)))] [(1,480),(3,1000)] c6 ?_ ?_ ?_ rfl rfl ?_
        ·simp only[kA,nu,ae,aa,seval,iteOmega,toNatUp] <;> rfl
        ·simp only[kA,ae,aa,seval,iteOmega,toNatUp,ce,Pf,abK,abS]
        ·simp only[iJ,nu,wx,aj,ar,aa,seval,iteOmega,toNatUp,ce]
        ·simp only[kA,nu,ae,aa,seval,iteOmega,toNatUp,ce,Pf,abK,abS];exact cN
       ·rw[if_neg hA] at e0;obtain⟨rfl,rfl⟩:=no _ e0 (by decide);rw[show tC p.se=[] from if_neg hA,show tB p.se=3 from if_neg hA] at c4;rw[e0];clear no yes;rw[je];unfold bK dE at *
        try unfold bz at *
        simp only[mT,af,ae,aa,seval,iteOmega,toNatUp];refine sC (c1) ?_;simp only[g1,ae,aa,seval,iteOmega,toNatUp];refine sC (c2) ?_;simp only[g2,g3,ae,aa,seval,iteOmega,toNatUp];refine sD (c3) ?_;refine sD (c4) ?_;exact cN
     ·have g3:(p.hd.md=4)=False:=eq_false h3;rw[if_pos h3] at e0;obtain⟨rfl,rfl⟩:=no _ e0 (by decide);subst e0;clear no yes;rw[je];unfold bK dE at *
      try unfold bz at *
      simp only[mT,af,ae,aa,seval,iteOmega,toNatUp];refine sC (c1) ?_;simp only[g1,ae,aa,seval,iteOmega,toNatUp];refine sC (c2) ?_;simp only[g2,g3,ae,aa,seval,iteOmega,toNatUp];exact cN
    ·have g2:(q=0)=False:=eq_false h2;rw[if_pos h2] at e0;obtain⟨rfl,rfl⟩:=no _ e0 h2;subst e0;clear no yes;rw[je];unfold bK dE at *
     try unfold bz at *
     simp only[mT,af,ae,aa,seval,iteOmega,toNatUp];refine sC (c1) ?_;simp only[g1,ae,aa,seval,iteOmega,toNatUp];refine sC (c2) ?_;simp only[g2,ae,aa,seval,iteOmega,toNatUp];exact cN
   ·have g1:((u.length:Int)=32)=False:=eq_false (by omega);have e:dR j u b=3:=by unfold dR; rw[if_pos (.inr h1)]
    obtain⟨q1,q2⟩:=qk e (by decide);rw[q1,q2,e];rw[je];unfold bK dE at *
    try unfold bz at *
    simp only[mT,af,ae,aa,seval,iteOmega,toNatUp];refine sC (c1) ?_;simp only[g1,ae,aa,seval,iteOmega,toNatUp];exact cN
  ·rw[decide_eq_false v] at c1;have e:dR j u b=3:=by unfold dR; rw[if_pos (.inl v)]
   obtain⟨q1,q2⟩:=qk e (by decide);rw[q1,q2,e];rw[je];unfold bK dE at *
   try unfold bz at *
   simp only[mT,af,ae,aa,seval,iteOmega,toNatUp];refine sD (c1) ?_;exact cN
def qS (s:Int):List UInt8:=(dF s 64).take 32
def qT (s:Int):List UInt8:=(dF s 64).drop 32
theorem vT (s:Int):(qS s).length=32:=by
  unfold qS;rw[abN,mH]; rfl
theorem AY (s:Int):(qT s).length=32:=by
  unfold qT;rw[abO,mH]; rfl
def NY:aG:=⟨1,11,.seq (.reg [oO 2 (.alloc [.nil,.nil])]) (.seq (.reg [oM 4 0,oO 5 (.call 16 [(.t 4),(kI 64)] none),oM 3 5]) (.seq (.reg [oM 6 3,oO 7 (.slice 1 (.t 6) none (some (kI 32)) none),oM 8 3,oO 9 (.slice 1 (.t 8) (some (kI 32)) none none),oO 10 (.build [.nil,.nil] [(0,1,(.t 7)),(1,1,(.t 9))]),oN (.store (.ag 2) (.t 2) (.t 10))]) (.ret))),[(2,(some (.ag 2)))]⟩
theorem ZG:aF Tryz.prog { own:=[],comp:=[],frz:=[],nils:=[] } Tryz.f39=some NY:=by kernel_rfl
theorem aaW (G:ah) (s:Int):aB Tryz.prog G 39 [.int .i64 s] (.w (.c (.d (.agg [.sl ((qS s).map bD),.sl ((qT s).map bD)])))):=by
  refine aI Tryz.func39 ZG rfl rfl ?_;have c1:=pn G s 64 (by decide);have hl:(dF s 64).length=64:=mH _ _;unfold qS qT;have t1:((dF s 64).drop 32).take 32=(dF s 64).drop 32:=abH (by simp; omega);generalize dF s 64=B at *
  simp only[NY,af,ae,aa,seval,iteOmega,toNatUp];refine sC (c1) ?_;simp only[hl,t1,ae,aa,seval,iteOmega,toNatUp];exact aM
def lF (s i:Nat):List UInt8:=dF ((s+1000003*(i+1):Nat):Int) 104
def ej (s n:Nat):List (List UInt8):=(List.range n).map (lF s)
theorem aaX (s n:Nat):ej s (n+1)=ej s n++[lF s n]:=by
  unfold ej;rw[ac8,abT]; rfl
theorem r8 (s n:Nat):(ej s n).length=n:=by
  unfold ej;rw[abY,acV]
theorem r9 (s i:Nat):(lF s i).length=104:=mH _ _
def aZ (s n:Nat):Jr:=⟨qS (s:Int),qT (s:Int),ej s n,[],1,0⟩
def mr:Ob:=.box [.nil,.nil,.nil,.nil,.d (.int .i64 0),.d (.int .i64 0)]
def mu (s:Nat) (k:C):Ob:=.box [.d (.sl ((qS (s:Int)).map bD)),.d (.sl ((qT (s:Int)).map bD)),k,.nil,.d (.int .i64 1),.d (.int .i64 0)]
def mG (s:Nat) (n:Int) (i:Nat):List (Nat×V):=[(0,.w (.c (.d (.int .i64 (s:Int))))),(1,.w (.c (.d (.int .i64 n)))),(4,.w (.c (.ptr 3 1 0 0))),(5,.w (.c (.ptr 1 1 0 0))),(6,.w (.c (.d (.int .i64 (i:Int)))))]
def ox (s:Nat) (n:Int):Nat→St
  | 0=>⟨aT (mG s n 0),hL [(1,mu s .nil),(3,mr)],uL [1,3]⟩
  | i+1=>⟨aT (mG s n (i+1)),hL [(1,mu s (.own 2 1 0 (ej s (i+1)).length)),(2,.row 1 ((ej s (i+1)).map fun l=>D.sl (l.map bD))),(3,mr)],uL [1,2,3]⟩
def rI:aS := .seq (.seq (.reg [oM 10 6,oM 11 1,oO 12 (.call 14 [(.t 11),(kI 9)] none),oO 13 (.bin .lss (.t 10) (.t 12))]) (.cond (.t 13) (.skip) (.exit 0))) (.seq (.block 1 (.reg [oO 16 (.fieldAddr 2 (.t 5)),oO 17 (.load .sc (.t 16)),oM 18 0,oM 19 6,oO 20 (.bin .add (.t 19) (kI 1)),oO 21 (.bin .mul (kI 1000003) (.t 20)),oO 22 (.bin .add (.t 18) (.t 21)),oO 23 (.call 16 [(.t 22),(kI 104)] none),oO 24 (.bldSl false 1 1 (.sl []) [(0,(.t 23))]),oO 25 (.app false 1 24 (.t 17) (.t 24)),oO 26 (.fieldAddr 2 (.t 5)),oN (.store .sc (.t 26) (.t 25))])) (.reg [oM 14 6,oO 15 (.bin .add (.t 14) (kI 1)),oM 6 15]))
def NZ:aG:=⟨2,28,.seq (.reg [oO 4 (.alloc [.nil,.nil,.nil,.nil,(.d (.int .i64 0)),(.d (.int .i64 0))])]) (.seq (.reg [oM 7 0,oO 8 (.call 39 [(.t 7)] none),oO 9 (.build [.nil,.nil,.nil,.nil,(.d (.int .i64 0)),(.d (.int .i64 0))] [(0,2,(.t 8)),(4,1,(kI 1))]),oO 5 (.alloc [.nil,.nil,.nil,.nil,(.d (.int .i64 0)),(.d (.int .i64 0))]),oN (.store (.ag 6) (.t 5) (.t 9))]) (.seq (.seq (.reg [oO 6 (.mv (kI 0))]) (.block 0 (.loop rI))) (.seq (.reg [oO 27 (.load (.ag 6) (.t 5)),oN (.store (.ag 6) (.t 4) (.t 27))]) (.ret)))),[(4,(some (.ag 6)))]⟩
theorem ZH:aF Tryz.prog { own:=[],comp:=[],frz:=[],nils:=[] } Tryz.f15=some NZ:=by kernel_rfl
theorem CM (G:ah) (s:Nat) (n:Int) (hs:s≤1000000) (N:Nat) (hN:gy n 9=(N:Int)):aB Tryz.prog G 15 [.int .i64 (s:Int),.int .i64 n] (.w (.c (.d (bK (aZ s N))))):=by
  refine aI Tryz.func15 ZH rfl rfl ?_;have c1:=aaW G (s:Int);have r0:=nx n 9 (by decide);have c2:=pm G n 9 (by decide);rw[hN] at c2 r0;unfold bK aZ;dsimp only;simp only[NZ,af,ae,aa,seval,iteOmega,toNatUp];refine sD (c1) ?_;refine ba (ox s n) (fun i=>N-i) (fun i=>i≤N) 0 (abM _) ?_ ?_
  ·refine ap (fun i=>if i=1 then 40 else 32) ?_ ?_ rfl rfl <;> simp only[mG,mu,mr,wx,aj,ar,aa,seval,iteOmega,toNatUp] <;> first | rfl | exact⟨rfl,rfl⟩ | skip
  ·intro i hi;clear c1;have tl:=r8 s i;have az:=fP (ej s i);by_cases hlt:i<N
   ·have g1:((i:Int)<(N:Int))=True:=eq_true (by omega);have c3:=pn G ((s+1000003*(i+1):Nat):Int) 104 (by decide);have ec:(s:Int)+1000003*((i:Int)+1)=((s+1000003*(i+1):Nat):Int):=by omega
    have hn:=aaX s i;rw[show dF ((s+1000003*(i+1):Nat):Int) 104=lF s i from rfl] at c3;generalize lF s i=x at *
    rcases i with _ | i
    ·have e1:ej s (0+1)=[x]:=hn;simp only[rI,ox,mG,mu,mr,ae,aa,seval,iteOmega,toNatUp];refine sC (c2) ?_;simp only[g1,ec,ae,aa,seval,iteOmega,toNatUp];refine sC (c3) ?_;simp only[bQ,ae,aa,seval,iteOmega,toNatUp];refine aU (0+1) (by omega) (by omega) (ap (fun i=>if i=1 then 1 else if i=2 then 200 else 3) ?_ ?_ rfl rfl) <;> simp only[ox,mG,mu,mr,e1,wx,aj,ar,aa,seval,iteOmega,toNatUp] <;> first | rfl | exact⟨rfl,rfl⟩ | skip
    ·simp only[rI,ox,mG,mu,mr,ae,aa,seval,iteOmega,toNatUp,tl];refine sC (c2) ?_;simp only[g1,ec,ae,aa,seval,iteOmega,toNatUp];refine sC (c3) ?_;simp only[bQ,tl,ae,aa,seval,iteOmega,toNatUp];refine aU (i+1+1) (by omega) (by omega) (ap (fun i=>if i=1 then 1 else if i=2 then 200 else 3) ?_ ?_ rfl rfl) <;> simp only[ox,mG,mu,mr,hn,abT,tl,wx,aj,ar,aa,seval,iteOmega,toNatUp] <;> first | rfl | exact⟨rfl,rfl⟩ | skip
   ·obtain rfl:i=N:=by omega
    have g1:((i:Int)<(i:Int))=False:=eq_false (by omega);rcases i with _ | i
    ·have e0:ej s 0=[]:=rfl;rw[e0];simp only[rI,ox,mG,mu,mr,ae,aa,seval,iteOmega,toNatUp];refine sC (c2) ?_;simp only[g1,ae,aa,seval,iteOmega,toNatUp];exact aM
    ·simp only[rI,ox,mG,mu,mr,ae,aa,seval,iteOmega,toNatUp];refine sC (c2) ?_;simp only[g1,ae,aa,seval,iteOmega,toNatUp];exact aM
theorem PV {s N:Nat} (hN:N≤8):i9 (aZ s N):=by
  refine⟨vT _,AY _,?_,.inl rfl,nQ.2 fun h=>?_,by show (0:Int)≤1; decide,by show (0:Int)≤0; decide,by show (0:Int)≤_; decide⟩
  ·show (ej s N).length≤8
   rw[r8]; exact hN
  ·obtain⟨i,_,hi⟩:=ab9.1 (show []∈ej s N from h);have:=r9 s i;rw[hi] at this;cases this
theorem Oa {s N:Nat}:∀ c∈(aZ s N).ck,c.length=104:=fun c hc=>by
  obtain⟨i,_,rfl⟩:=ab9.1 (show c∈ej s N from hc);exact r9 s i
theorem Pu (s N:Nat):(ej s (N+1)).getD 0 []=lF s 0:=by
  unfold ej;rw[List.range_succ_eq_map,abK]; rfl
theorem Oc:(bV (aZ 1 1)).la.length=104:=by
  rw[show (bV (aZ 1 1)).la=(ej 1 (0+1)).getD 0 [] from rfl,Pu,r9]
theorem Od:(bV (aZ 1 1)).ck=[]:=rfl
theorem ZI:di (bV (aZ 1 1)):=by
  refine lT.2 ⟨⟨vT _,AY _,?_,.inr Oc,?_,show (0:Int)≤1 by decide,show (0:Int)≤0+1 by decide,show (0:Int)+1≤1099511627776 by decide⟩,?_,?_⟩ <;> rw[Od]
  ·exact abM _
  ·rfl
  ·exact fun c hc=>by cases hc
  ·exact List.Pairwise.nil
theorem abx:di (aZ 1 1):=lT.2 ⟨PV (by decide),Oa,List.pairwise_singleton _ _⟩
def Er:aG:=⟨0,46,.seq (.reg [oO 0 (.mv (.k (.c (.d (.bool false)))))]) (.seq (.reg [oO 7 (.call 15 [(kI 1),(kI 1)] none),oO 8 (.make false 1 1 (.int .u8 0) (kI 32) (kI 32)),oO 9 (.make false 1 1 (.int .u8 0) (kI 16) (kI 16)),oO 10 (.call 7 [(.t 7),(.k (.c (.d (.int .u64 5)))),(.t 8),(.t 9)] none),oM 6 10,oO 11 (.extract (.t 6) 0),oO 12 (.extract (.t 6) 1),oO 13 (.extract (.t 6) 2),oO 1 (.alloc [.nil,.nil,.nil,.nil,(.d (.int .i64 0)),(.d (.int .i64 0))]),oN (.store (.ag 6) (.t 1) (.t 11)),oM 2 12,oM 3 13]) (.seq (.reg [oO 15 (.load (.ag 6) (.t 1)),oO 16 (.call 17 [(.t 15)] none),oM 14 16,oO 17 (.extract (.t 14) 0),oO 18 (.extract (.t 14) 1),oM 4 17,oM 5 18]) (.seq (.reg [oM 19 3,oO 20 (.bin .eql (.t 19) (kI 0)),oM 21 20,oG 22 (.mv (.t 5)) 21 true,oG 23 (.bin .eql (.t 22) (kI 0)) 21 true,
 oO 24 (.pick (.t 21) (.t 23) (.k (.c (.d (.bool false))))),oM 25 24,oG 26 (.mv (.t 2)) 25 true,oG 27 (.len (.t 26)) 25 true,oG 28 (.bin .eql (.t 27) (kI 988)) 25 true,oO 29 (.pick (.t 25) (.t 28) (.k (.c (.d (.bool false))))),oM 30 29,oG 31 (.mv (.t 4)) 30 true,oG 32 (.bin .eql (.t 31) (kI 8)) 30 true,oO 33 (.pick (.t 30) (.t 32) (.k (.c (.d (.bool false))))),oM 34 33,oG 35 (.fieldAddr 2 (.t 1)) 34 true,oG 36 (.load .sc (.t 35)) 34 true,oG 37 (.len (.t 36)) 34 true,oG 38 (.bin .eql (.t 37) (kI 0)) 34 true,oO 39 (.pick (.t 34) (.t 38) (.k (.c (.d (.bool false))))),oM 40 39,oG 41 (.fieldAddr 3 (.t 1)) 40 true,oG 42 (.load .sc (.t 41)) 40 true,oG 43 (.len (.t 42)) 40 true,oG 44 (.bin .eql (.t 43) (kI 104)) 40 true,oO 45 (.pick (.t 40) (.t 44) (.k (.c (.d (.bool false))))),oM 0 45]) (.ret)))),
 [(0,none)]⟩
theorem QX:aF Tryz.prog { own:=[],comp:=[],frz:=[8,9],nils:=[] } Tryz.f6=some Er:=by kernel_rfl
set_option maxHeartbeats 1600000 in
theorem R8 (G:ah):aB Tryz.prog G 6 [] (.w (.c (.d (.bool true)))):=by
  refine aI Tryz.func6 QX rfl rfl ?_;have c1:=CM G 1 1 (by decide) 1 (by decide);have v:=abx;have kl:(aZ 1 1).ck.length=1:=rfl;have e0:fG (aZ 1 1)=0:=by unfold fG; rw[if_neg (not_not_intro v),if_neg (by rw[kl]; decide),if_neg (show ¬ (aZ 1 1).sn=1099511627776 from fun h=>absurd (show (0:Int)=1099511627776 from h) (by decide))]
  have e1:iu (aZ 1 1) (List.replicate 32 0) (List.replicate 16 0)=0:=by unfold iu; rw[if_neg (fun h=>h.elim (· v) (fun h=>h.elim (· ab3) (· ab3))),e0]
  have c2:=Pp G (aZ 1 1) 5 (List.replicate 32 0) (List.replicate 16 0) (by decide);rw[show tN (aZ 1 1) (List.replicate 32 0) (List.replicate 16 0)=bV (aZ 1 1) from if_pos e1,show tO (aZ 1 1) 5 (List.replicate 32 0) (List.replicate 16 0)=cZ (aZ 1 1).up (gO (aZ 1 1) 5 (List.replicate 32 0)) (List.replicate 16 0) from if_pos e1,e1] at c2;obtain⟨_,ql⟩:=Cz (key:=(aZ 1 1).up) (u:=List.replicate 32 0) (c:=(aZ 1 1).ck.getD 0 []) (n:=List.replicate 16 0) (t:=5) (k:=7) (vT _) ab3 (r9 _ _) ab3 (by decide);have hq:gO (aZ 1 1) 5 (List.replicate 32 0)=⟨fe 5,cR (List.replicate 32 0) ((aZ 1 1).ck.getD 0 []) 7,[],false⟩:=by unfold gO; rw[kl]
  rw[← hq] at ql;have ql:=ql.trans (show 232+108*7=988 by decide);have c3:=Cy G (bV (aZ 1 1));have tv:=ZI;rw[show qR (bV (aZ 1 1))=8 from if_pos tv,show qQ (bV (aZ 1 1))=0 from if_pos tv] at c3;have la:=Oc;have ck:=Od;have z32:((List.replicate 32 (0:UInt8)).map bD)=List.replicate 32 (.int .u8 0):=by rw[List.map_replicate]; rfl
  have eX:((List.replicate 16 (0:UInt8)).map bD)=List.replicate 16 (.int .u8 0):=by rw[List.map_replicate]; rfl
  clear tv e0 e1 v kl;generalize cZ (aZ 1 1).up (gO (aZ 1 1) 5 (List.replicate 32 0)) (List.replicate 16 0)=B at *
  generalize bV (aZ 1 1)=T at *
  generalize aZ 1 1=W at *
  rw[z32,eX] at c2;simp only[List.replicate] at c2;unfold bK at *
  rw[ck] at c2 c3;simp only[abS] at c2 c3;have gq:((B.length:Int)=988)=True:=eq_true (by omega);have gl:((T.la.length:Int)=104)=True:=eq_true (by omega);simp only[Er,af,ae,aa,seval,iteOmega,toNatUp];refine sD (c1) ?_;refine sD (c2) ?_;refine sC (c3) ?_;simp only[gq,gl,ae,aa,seval,iteOmega,toNatUp];exact aM
theorem QY {v m:Int} (h0:0≤v) (h:v<m):gy v m=v:=by
  unfold gy;rw[if_neg (by omega),Int.emod_eq_of_lt h0 h]
theorem Of (s:Nat) {N:Nat} (hN:N≤8):ej s N=(tU.take N).map fun o=>dF ((s+o:Nat):Int) 104:=by
  unfold ej tU;rw[← List.map_take,List.take_range,acS hN,adw];rfl
theorem Z1 {α:Type} {a b:List α} (h:(a++b).Nodup):a.Nodup∧b.Nodup∧∀ x∈a,x∉b:=by
  obtain⟨h1,h2,h3⟩:=acU.1 h;exact⟨h1,h2,fun x hx hb=>h3 x hx x hb rfl⟩
theorem abi {s N:Nat} (hs:s<1000) (hN:N≤8):(ej s N).Nodup:=by
  rw[Of s hN];have h:=PX hs;rw[abT] at h;have h1:=(Z1 h).1;exact h1.sublist ((List.take_sublist _ _).map _)
theorem Px {s N:Nat} (hs:s<1000) (hN:N≤8):di (aZ s N):=lT.2 ⟨PV hN,Oa,abi hs hN⟩
theorem WR {f:Fd} (h1:f.da.length%4=0) (h2:12≤f.da.length):gm f=f:=by
  unfold gm bc;rw[show max 16 ((f.da.length+7) / 4*4)-4-f.da.length=0 by omega,acO,abP]
theorem Le {l:List Fd} (h:∀ f∈l,f.da.length%4=0∧12≤f.da.length):l.map gm=l:=by
  conv=>rhs; rw[← List.map_id l]
  exact aco fun f hf=>WR (h f hf).1 (h f hf).2
def cJ (cs:List (List UInt8)):List Fd:=cs.map fun c=>⟨516,c⟩
theorem Py (cs:List (List UInt8)):bH (cJ cs)=cs:=by
  unfold bH cJ
  induction cs with
  | nil=>rfl
  | cons c cs ih =>
    rw[abK,List.filter_cons_of_pos (by simp),abK,ih]
theorem si (cs:List (List UInt8)):(cJ cs).length=cs.length:=abY _
theorem AZ {cs:List (List UInt8)} {f:Fd} (h:f∈cJ cs):f.ty=516∧f.da∈cs:=by
  obtain⟨c,hc,rfl⟩:=ab9.1 h;exact⟨rfl,hc⟩
theorem Lf {cs:List (List UInt8)} (h:∀ c∈cs,c.length=104):bB (cJ cs)=108*cs.length:=by
  induction cs with
  | nil=>rfl
  | cons c cs ih =>
    have h1:=h c (acv ..);have ih:=ih fun x hx=>h x (ace _ hx)
    have e:cJ (c::cs)=[⟨516,c⟩]++cJ cs:=rfl;have e1:bB [⟨516,c⟩]=108:=by
      unfold bB bc;simp[h1]
    rw[e,rF,ih,e1,ada]; omega
theorem abj {cs:List (List UInt8)} (h:∀ c∈cs,c.length=104) (hl:cs.length≤8):bX (cJ cs)=0:=by
  refine pQ (fun f hf=>?_) (by rw[si]; omega) (by rw[Lf h]; omega);obtain⟨h1,h2⟩:=AZ hf;exact sN (by rw[h1]; decide) (by rw[h1]; decide) (by rw[h _ h2]; decide)
theorem WS {cs:List (List UInt8)} (h:∀ c∈cs,c.length=104):(cJ cs).map gm=cJ cs:=Le fun f hf=>by
  rw[h _ (AZ hf).2]; decide
theorem abk {key u n:List UInt8} {h:Hd} {cs:List (List UInt8)} (h1:key.length=32) (hu:u.length=32) (hn:n.length=16) (hh:fj h=0) (hF:mC h) (hc:∀ c∈cs,c.length=104) (hl:cs.length≤8) :
    fb key ⟨h,[⟨260,u⟩],cJ cs,false⟩ n=0∧(cZ key ⟨h,[⟨260,u⟩],cJ cs,false⟩ n).length=124+108*cs.length∧eH key (cZ key ⟨h,[⟨260,u⟩],cJ cs,false⟩ n)=0∧dL key (cZ key ⟨h,[⟨260,u⟩],cJ cs,false⟩ n)=⟨h,[⟨260,u⟩],cJ cs,true⟩:=by
  have eu:bX [(⟨260,u⟩:Fd)]=0:=pQ (fun f hf=>by
    rw[abU.1 hf];exact sN (show (0:Int)≤260 by decide) (show (260:Int)≤65535 by decide) (by show u.length≤_; omega)) (show 1≤24 by decide) (by unfold bB bc; simp[hu])
  have tu:bB [(⟨260,u⟩:Fd)]=36:=by unfold bB bc; simp[hu]
  have ts:=Lf hc;have es:=abj hc hl;have un:dh ⟨h,[⟨260,u⟩],cJ cs,false⟩=0:=by
    unfold dh;rw[if_pos hh]; exact eu
  have ha:cp key [cV ⟨h,[⟨260,u⟩],cJ cs,false⟩,n] ((aY (cJ cs)).length:Int)=0:=wq h1 (by rw[mL,tu]; decide) (by omega) (by rw[fQ,ts]; omega);have hs:(fE key ⟨h,[⟨260,u⟩],cJ cs,false⟩ n).length=16+108*cs.length:=by
    unfold fE;rw[rD ha,abJ,kL,lI]
    show 16+(aY (cJ cs)).length=_
    rw[fQ,ts]
  have hg:=lS n (fE key ⟨h,[⟨260,u⟩],cJ cs,false⟩ n);have hT:bc (bG key ⟨h,[⟨260,u⟩],cJ cs,false⟩ n)=40+108*cs.length:=by
    unfold bG;rw[nY (by omega),hg,hs]; omega
  have no:aW [(⟨260,u⟩:Fd)] 1028=[]:=NO fun f hf=>by
    rw[abU.1 hf];exact show (260:Int)≠1028 by decide
  have ok:qF key ⟨h,[⟨260,u⟩],cJ cs,false⟩ n:=⟨h1,by omega,by omega,un,es,by rw[show aW [(⟨260,u⟩:Fd)] 1028=[] from no]; rfl,show 1≤23 by decide,Cn (by omega) (by unfold bG at hT; rw[nY (by omega)] at hT; omega),by rw[hT,tu]; omega⟩
  have hx:bB [bG key ⟨h,[⟨260,u⟩],cJ cs,false⟩ n]=40+108*cs.length:=by unfold bB; simp[hT]
  obtain⟨_,_,o1,o2⟩:=V9 hF ok;refine⟨(sL ok).1,?_,o1,o2.trans ?_⟩
  ·rw[(sL ok).2,abJ,mL,fQ,hx,tu]; omega
  ·show (⟨h,[⟨260,u⟩].map gm,(cJ cs).map gm,true⟩:cu)=_
   rw[WS hc,Le fun f hf=>?_];rw[abU.1 hf];exact⟨by show u.length%4=0; omega,by show 12≤u.length; omega⟩
theorem WT {j:Jr} {u b:List UInt8} {h:Hd} {cs:List (List UInt8)} (v:di j) (hu:u.length=32) (hm:h.md=4) (hc:∀ c∈cs,c.length=104) (o1:eH j.dn b=0) (o2:dL j.dn b=⟨h,[⟨260,u⟩],cJ cs,true⟩) :
    dR j u b=0∧lC j u b=ir j cs∧lD j u b=⟨h,[⟨260,u⟩],cJ cs,true⟩∧∀ w:List UInt8,w.length=32→w≠u→dR j w b=7:=by
  have key:∀ w:List UInt8,w.length=32→dR j w b=if (u==w)=false then 7 else 0:=fun w hw=>by
    have hU:lA w b (dL j.dn b)=(u==w):=by
      rw[o2]; rfl
    unfold dR;rw[if_neg (fun h=>h.elim (· v) (· hw)),if_neg (not_not_intro o1),if_neg (by rw[o2]; exact not_not_intro hm),hU,o2]
    show (if (u==w)=false then (7:Int) else if dT (bH (cJ cs))=true then 0 else 3)=_
    rw[Py,if_pos (kF.2 hc)]
  have e:dR j u b=0:=by rw[key u hu,if_neg (by simp)]
  refine⟨e,(if_pos e).trans ?_,(if_pos e).trans o2,fun w hw hne=>?_⟩
  ·rw[o2]
   show ir j (bH (cJ cs))=_
   rw[Py]
  ·rw[key w hw,if_pos (beq_eq_false_iff_ne.2 fun h=>hne h.symm)]
theorem A0 {la:List UInt8}:∀ {cs l:List (List UInt8)},(l++cs).Nodup→la∉cs→l.length≤8→cq la l cs=(l++cs).take 8
  | [],l,_,_,h8=>by
    rw[abP,abH h8]; rfl
  | c::cs,l,hn,hl,h8=>by
    have e:l++c::cs=(l++[c])++cs:=by rw[abV]; rfl
    have hc:fm l c=false:=nQ.2 fun h=>by
      obtain⟨_,_,h3⟩:=acU.1 hn;exact h3 c h c (acv ..) rfl
    have hla:(la==c)=false:=beq_eq_false_iff_ne.2 fun h=>hl (by rw[h]; exact acv ..)
    have hl2:la∉cs:=fun h=>hl (ace _ h)
    show cq la (jP la l c) cs=_
    unfold jP qG;rw[hc,hla];by_cases h:l.length<8
    ·rw[if_pos (by rw[decide_eq_true h]; rfl),A0 (by rw[← e]; exact hn) hl2 (by rw[abJ,acI]; omega),e]
    ·rw[if_neg (by rw[decide_eq_false h]; decide)];have hd:(l++cs).Nodup:=by
       rw[e] at hn;exact hn.sublist ((List.sublist_append_left l [c]).append_right cs)
     rw[A0 hd hl2 h8,acz (by omega),acz (by omega)]
def tW (s i:Nat):List UInt8:=dF ((s+7000000*(i+1):Nat):Int) 104
def dp (s n:Nat):List (List UInt8):=(List.range n).map (tW s)
theorem abm (s n:Nat):dp s (n+1)=dp s n++[tW s n]:=by
  unfold dp;rw[ac8,abT]; rfl
theorem mN (s n:Nat):(dp s n).length=n:=by
  unfold dp;rw[abY,acV]
theorem vV {s n:Nat}:∀ c∈dp s n,c.length=104:=fun c hc=>by
  obtain⟨i,_,rfl⟩:=ab9.1 hc;exact mH _ _
theorem Z3 (s:Nat) {n:Nat} (hn:n≤8):dp s n=(tV.take n).map fun o=>dF ((s+o:Nat):Int) 104:=by
  unfold dp tV;rw[← List.map_take,List.take_range,acS hn,adw];rfl
theorem abn {s N n:Nat} (hs:s<1000) (hN:N≤8) (hn:n≤8):(ej s N++dp s n).Nodup:=by
  rw[Of s hN,Z3 s hn,← abT];exact (PX hs).sublist (((List.take_sublist _ _).append (List.take_sublist _ _)).map _)
theorem abo (s n:Nat):cJ (dp s (n+1))=cJ (dp s n)++[⟨516,tW s n⟩]:=by
  unfold cJ;rw[abm,abT]; rfl
theorem Z4 {s a:Nat} (hs:s<1000) (ha:a≤7):(ir (bV (aZ s (a+1))) (dp s (8-a))).ck.length=8∧di (ir (bV (aZ s (a+1))) (dp s (8-a))):=by
  have v:=Px (s:=s) (N:=a+1) hs (by omega);have kl:(aZ s (a+1)).ck.length=a+1:=r8 _ _;obtain⟨_,tv⟩:=Cu v (by rw[kl]; omega) (show (0:Int)≠1099511627776 by decide);have nd:=abn (s:=s) (N:=a+1) (n:=8-a) hs (by omega) (by omega);have hc:ej s (a+1)=(bV (aZ s (a+1))).la::(bV (aZ s (a+1))).ck:=by
    show ej s (a+1)=(ej s (a+1)).getD 0 []::(ej s (a+1)).drop 1
    have hl:(ej s (a+1)).length=a+1:=r8 _ _
    match ej s (a+1),hl with
    | x::r,_=>rfl
  rw[hc,acF] at nd;obtain⟨n1,n2⟩:=adA.1 nd;have tl:(bV (aZ s (a+1))).ck.length=a:=by
    show ((aZ s (a+1)).ck.drop 1).length=a
    rw[abO,kl]; omega
  have hla:(bV (aZ s (a+1))).la∉dp s (8-a):=fun h=>n1 (abW _ h)
  have e:cq (bV (aZ s (a+1))).la (bV (aZ s (a+1))).ck (dp s (8-a))=(bV (aZ s (a+1))).ck++dp s (8-a):=by
    rw[A0 n2 hla (by rw[tl]; omega),abH (by rw[abJ,tl,mN]; omega)]
  have el:((bV (aZ s (a+1))).ck++dp s (8-a)).length=8:=by rw[abJ,tl,mN]; omega
  obtain⟨⟨a1,a2,_,a4,_,a6,a7,a8⟩,b,_⟩:=lT.1 tv;refine⟨(congrArg List.length e).trans el,lT.2 ⟨⟨a1,a2,Nat.le_of_eq ((congrArg List.length e).trans el),a4,nQ.2 ?_,a6,a7,a8⟩,?_,?_⟩⟩
  ·show _∉cq _ _ _
   rw[e]; exact n1
  ·show ∀ c∈cq _ _ _,_
   rw[e];intro c hc;rcases ab5.1 hc with hc | hc
   ·exact b c hc
   ·exact vV c hc
  ·show (cq _ _ _).Nodup
   rw[e]; exact n2
def nq:Hd:=⟨0,4,4,1,6,-20,0,0,0,0,3,10,20⟩
theorem Oh:jm (fe 3) 1=0:=by decide
theorem WV:ov (fe 3) 1 10 20=nq:=if_pos Oh
theorem Oi:mC nq:=by unfold nq mC; decide
def nr (s:Nat) (o:Int) (U Q:List UInt8) (w:Nat) (i:Nat):List (Nat×V):=[(0,.w (.c (.d (.int .i64 (s:Int))))),(3,.w (.c (.d (.int .i64 o)))),(9,.w (.c (.ptr 1 1 0 0))),(10,.w (.c (.d (.sl (U.map bD))))),(11,.w (.c (.ptr 2 1 0 0))),(12,.w (.c (.d (.sl (Q.map bD))))),(14,.w (.c (.d (.int .i64 (w:Int))))),(17,.w (.c (.d (.int .i64 (i:Int)))))]
def ns (W T:Jr):List (Nat×Ob):=[(1,bR W (.d (.sl (W.ck.map fun l=>D.sl (l.map bD))))),(2,bR T (.d (.sl (T.ck.map fun l=>D.sl (l.map bD)))))]
def qo (s:Nat) (o:Int) (U Q:List UInt8) (w:Nat) (W T:Jr):Nat→St
  | 0=>⟨aT ((16,.w (.c .nil))::nr s o U Q w 0),hL (ns W T),uL [1,2]⟩
  | i+1=>⟨aT ((16,.w (.c (.own 3 2 0 (cJ (dp s (i+1))).length)))::nr s o U Q w (i+1)),hL ((3,.row 2 ((cJ (dp s (i+1))).map aL))::ns W T),uL [1,2,3]⟩
def uP:aS := .seq (.seq (.reg [oM 74 17,oM 75 14,oO 76 (.bin .lss (.t 74) (.t 75))]) (.cond (.t 76) (.skip) (.exit 0))) (.seq (.block 1 (.reg [oM 79 16,oM 80 0,oM 81 17,oO 82 (.bin .add (.t 81) (kI 1)),oO 83 (.bin .mul (kI 7000000) (.t 82)),oO 84 (.bin .add (.t 80) (.t 83)),oO 85 (.call 16 [(.t 84),(kI 104)] none),oO 86 (.build [(.d (.int .i64 0)),.nil] [(0,1,(kI 516)),(1,1,(.t 85))]),oO 87 (.bldSl false 1 2 (.agg [(.int .i64 0),(.sl [])]) [(0,(.t 86))]),oO 88 (.app false 2 32 (.t 79) (.t 87)),oM 16 88])) (.reg [oM 77 17,oO 78 (.bin .add (.t 77) (kI 1)),oM 17 78]))
def Lh:aG:=⟨4,192,.seq (.reg [oO 8 (.mv (.k (.c (.d (.bool false)))))]) (.seq (.reg [oM 36 0,oO 37 (.call 14 [(.t 36),(kI 1000)] none),oM 0 37]) (.seq (.reg [oM 38 0,oM 39 1,oO 40 (.call 14 [(.t 39),(kI 8)] none),oO 41 (.bin .add (kI 1) (.t 40)),oO 42 (.call 15 [(.t 38),(.t 41)] none),oO 9 (.alloc [.nil,.nil,.nil,.nil,(.d (.int .i64 0)),(.d (.int .i64 0))]),oN (.store (.ag 6) (.t 9) (.t 42))]) (.seq (.reg [oM 43 2,oO 44 (.call 14 [(.t 43),(kI 100000)] none),oO 45 (.call 16 [(.t 44),(kI 32)] none),oM 10 45]) (.seq (.reg [oO 47 (.load (.ag 6) (.t 9)),oM 48 10,oM 49 0,oO 50 (.call 16 [(.t 49),(kI 16)] none),oO 51 (.call 7 [(.t 47),(.k (.c (.d (.int .u64 3)))),(.t 48),(.t 50)] none),oM 46 51,oO 52 (.extract (.t 46) 0),oO 53 (.extract (.t 46) 1),oO 54 (.extract (.t 46) 2),oO 11 (.alloc [.nil,.nil,.nil,.nil,(.d (.int .i64 0)),(.d (.int .i64 0))]),
 oN (.store (.ag 6) (.t 11) (.t 52)),oM 12 53,oM 13 54]) (.seq (.reg [oO 56 (.load (.ag 6) (.t 11)),oO 57 (.call 17 [(.t 56)] none),oM 55 57,oO 58 (.extract (.t 55) 0),oO 59 (.extract (.t 55) 1),oM 14 58,oM 15 59]) (.seq (.seq (.reg [oM 60 13,oO 61 (.bin .neq (.t 60) (kI 0)),oM 62 61,oG 63 (.mv (.t 15)) 62 false,oG 64 (.bin .neq (.t 63) (kI 0)) 62 false,oO 65 (.pick (.t 62) (.k (.c (.d (.bool true)))) (.t 64)),oM 66 65,oG 67 (.mv (.t 14)) 66 false,oG 68 (.bin .lss (.t 67) (kI 1)) 66 false,oO 69 (.pick (.t 66) (.k (.c (.d (.bool true)))) (.t 68)),oM 70 69,oG 71 (.mv (.t 14)) 70 false,oG 72 (.bin .gtr (.t 71) (kI 8)) 70 false,oO 73 (.pick (.t 70) (.k (.c (.d (.bool true)))) (.t 72))]) (.cond (.t 73) (.seq (.reg [oO 8 (.mv (.k (.c (.d (.bool false)))))]) (.ret)) (.skip))) (.seq (.reg [oO 16 (.mv (.k (.c .nil)))])
 (.seq (.seq (.reg [oO 17 (.mv (kI 0))]) (.block 0 (.loop uP))) (.seq (.reg [oO 90 (.call 19 [(.k (.c (.d (.int .u64 3))))] none),oO 91 (.call 18 [(.t 90),(kI 1),(.k (.c (.d (.int .u64 10)))),(.k (.c (.d (.int .u64 20))))] none),oM 89 91,oO 92 (.extract (.t 89) 0),oO 93 (.extract (.t 89) 1),oO 18 (.alloc [(.d (.int .i64 0)),(.d (.int .i64 0)),(.d (.int .i64 0)),(.d (.int .i64 0)),(.d (.int .i64 0)),(.d (.int .i64 0)),(.d (.int .u32 0)),(.d (.int .u32 0)),(.d (.int .u32 0)),(.d (.int .u64 0)),(.d (.int .u64 0)),(.d (.int .u64 0)),(.d (.int .u64 0))]),oN (.store (.ag 13) (.t 18) (.t 92)),oM 19 93]) (.seq (.reg [oO 94 (.load (.ag 13) (.t 18)),oM 95 10,oO 96 (.build [(.d (.int .i64 0)),.nil] [(0,1,(kI 260)),(1,1,(.t 95))]),oO 97 (.bldSl false 1 2 (.agg [(.int .i64 0),(.sl [])]) [(0,(.t 96))]),
 oM 98 16,oO 99 (.build [(.d (.int .i64 0)),(.d (.int .i64 0)),(.d (.int .i64 0)),(.d (.int .i64 0)),(.d (.int .i64 0)),(.d (.int .i64 0)),(.d (.int .u32 0)),(.d (.int .u32 0)),(.d (.int .u32 0)),(.d (.int .u64 0)),(.d (.int .u64 0)),(.d (.int .u64 0)),(.d (.int .u64 0)),.nil,.nil,(.d (.bool false))] [(0,13,(.t 94)),(13,1,(.t 97)),(14,1,(.t 98))]),oO 20 (.alloc [(.d (.int .i64 0)),(.d (.int .i64 0)),(.d (.int .i64 0)),(.d (.int .i64 0)),(.d (.int .i64 0)),(.d (.int .i64 0)),(.d (.int .u32 0)),(.d (.int .u32 0)),(.d (.int .u32 0)),(.d (.int .u64 0)),(.d (.int .u64 0)),(.d (.int .u64 0)),(.d (.int .u64 0)),.nil,.nil,(.d (.bool false))]),oN (.store (.ag 16) (.t 20) (.t 99))]) (.seq (.reg [oO 101 (.fieldAddr 0 (.t 9)),oO 102 (.fieldAddr 1 (.t 101)),oO 103 (.load .sc (.t 102)),oO 104 (.load (.ag 16) (.t 20)),
 oM 105 0,oO 106 (.bin .add (.t 105) (kI 2)),oO 107 (.call 16 [(.t 106),(kI 16)] none),oO 108 (.call 20 [(.t 103),(.t 104),(.t 107)] none),oM 100 108,oO 109 (.extract (.t 100) 0),oO 110 (.extract (.t 100) 1),oM 21 109,oM 22 110]) (.seq (.reg [oO 112 (.load (.ag 6) (.t 11)),oM 113 10,oM 114 21,oO 115 (.call 9 [(.t 112),(.t 113),(.t 114)] none),oM 111 115,oO 116 (.extract (.t 111) 0),oO 117 (.extract (.t 111) 1),oO 118 (.extract (.t 111) 2),oO 23 (.alloc [.nil,.nil,.nil,.nil,(.d (.int .i64 0)),(.d (.int .i64 0))]),oO 24 (.alloc [(.d (.int .i64 0)),(.d (.int .i64 0)),(.d (.int .i64 0)),(.d (.int .i64 0)),(.d (.int .i64 0)),(.d (.int .i64 0)),(.d (.int .u32 0)),(.d (.int .u32 0)),(.d (.int .u32 0)),(.d (.int .u64 0)),(.d (.int .u64 0)),(.d (.int .u64 0)),(.d (.int .u64 0)),.nil,.nil,(.d (.bool false))]),
 oN (.store (.ag 6) (.t 23) (.t 116)),oN (.store (.ag 16) (.t 24) (.t 117)),oM 25 118]) (.seq (.seq (.reg [oM 119 22,oO 120 (.bin .neq (.t 119) (kI 0)),oM 121 120,oG 122 (.mv (.t 25)) 121 false,oG 123 (.bin .neq (.t 122) (kI 0)) 121 false,oO 124 (.pick (.t 121) (.k (.c (.d (.bool true)))) (.t 123)),oM 125 124,oG 126 (.mv (.t 21)) 125 false,oG 127 (.len (.t 126)) 125 false,oG 128 (.mv (.t 12)) 125 false,oG 129 (.len (.t 128)) 125 false,oG 130 (.bin .neq (.t 127) (.t 129)) 125 false,oO 131 (.pick (.t 125) (.k (.c (.d (.bool true)))) (.t 130)),oM 132 131,oG 133 (.fieldAddr 2 (.t 23)) 132 false,oG 134 (.load .sc (.t 133)) 132 false,oG 135 (.len (.t 134)) 132 false,oG 136 (.bin .neq (.t 135) (kI 8)) 132 false,oO 137 (.pick (.t 132) (.k (.c (.d (.bool true)))) (.t 136)),oM 138 137,oG 139 (.load (.ag 6) (.t 23)) 138 false,
 oG 140 (.call 21 [(.t 139)] none) 138 false,oG 141 (.un .not (.t 140)) 138 false,oO 142 (.pick (.t 138) (.k (.c (.d (.bool true)))) (.t 141)),oM 143 142,oG 144 (.fieldAddr 14 (.t 24)) 143 false,oG 145 (.load .sc (.t 144)) 143 false,oG 146 (.mv (.t 16)) 143 false,oG 147 (.call 22 [(.t 145),(.t 146)] none) 143 false,oG 148 (.un .not (.t 147)) 143 false,oO 149 (.pick (.t 143) (.k (.c (.d (.bool true)))) (.t 148))]) (.cond (.t 149) (.seq (.reg [oO 8 (.mv (.k (.c (.d (.bool false)))))]) (.ret)) (.skip))) (.seq (.reg [oM 150 10,oM 151 3,oM 152 3,oO 153 (.call 23 [(.t 150),(.t 151),(.t 152)] none),oM 26 153]) (.seq (.reg [oO 155 (.load (.ag 6) (.t 11)),oM 156 26,oM 157 21,oO 158 (.call 9 [(.t 155),(.t 156),(.t 157)] none),oM 154 158,oO 159 (.extract (.t 154) 0),oO 160 (.extract (.t 154) 1),oO 161 (.extract (.t 154) 2),
 oO 27 (.alloc [.nil,.nil,.nil,.nil,(.d (.int .i64 0)),(.d (.int .i64 0))]),oO 28 (.alloc [(.d (.int .i64 0)),(.d (.int .i64 0)),(.d (.int .i64 0)),(.d (.int .i64 0)),(.d (.int .i64 0)),(.d (.int .i64 0)),(.d (.int .u32 0)),(.d (.int .u32 0)),(.d (.int .u32 0)),(.d (.int .u64 0)),(.d (.int .u64 0)),(.d (.int .u64 0)),(.d (.int .u64 0)),.nil,.nil,(.d (.bool false))]),oN (.store (.ag 6) (.t 27) (.t 159)),oN (.store (.ag 16) (.t 28) (.t 160)),oM 29 161]) (.seq (.reg [oM 163 0,oO 164 (.bin .add (.t 163) (kI 1)),oO 165 (.call 15 [(.t 164),(kI 3)] none),oM 166 10,oM 167 21,oO 168 (.call 9 [(.t 165),(.t 166),(.t 167)] none),oM 162 168,oO 169 (.extract (.t 162) 0),oO 170 (.extract (.t 162) 1),oO 171 (.extract (.t 162) 2),oO 30 (.alloc [.nil,.nil,.nil,.nil,(.d (.int .i64 0)),(.d (.int .i64 0))]),oO 31 (.alloc [(.d (.int .i64 0)),(.d (.int .i64 0)),(.d (.int .i64 0)),(.d (.int .i64 0)),(.d (.int .i64 0)),(.d (.int .i64 0)),(.d (.int .u32 0)),(.d (.int .u32 0)),(.d (.int .u32 0)),(.d (.int .u64 0)),(.d (.int .u64 0)),(.d (.int .u64 0)),(.d (.int .u64 0)),.nil,.nil,(.d (.bool false))]),
 oN (.store (.ag 6) (.t 30) (.t 169)),oN (.store (.ag 16) (.t 31) (.t 170)),oM 32 171]) (.seq (.reg [oM 173 0,oO 174 (.bin .add (.t 173) (kI 1)),oO 175 (.call 15 [(.t 174),(kI 3)] none),oM 176 10,oM 177 21,oO 178 (.call 10 [(.t 175),(.t 176),(.t 177)] none),oM 172 178,oO 179 (.extract (.t 172) 0),oO 180 (.extract (.t 172) 1),oO 181 (.extract (.t 172) 2),oO 33 (.alloc [.nil,.nil,.nil,.nil,(.d (.int .i64 0)),(.d (.int .i64 0))]),oO 34 (.alloc [(.d (.int .i64 0)),(.d (.int .i64 0)),(.d (.int .i64 0)),(.d (.int .i64 0)),(.d (.int .i64 0)),(.d (.int .i64 0)),(.d (.int .u32 0)),(.d (.int .u32 0)),(.d (.int .u32 0)),(.d (.int .u64 0)),(.d (.int .u64 0)),(.d (.int .u64 0)),(.d (.int .u64 0)),.nil,.nil,(.d (.bool false))]),oN (.store (.ag 6) (.t 33) (.t 179)),oN (.store (.ag 16) (.t 34) (.t 180)),oM 35 181])
 (.seq (.reg [oO 182 (.call 6 [] none),oM 183 182,oG 184 (.mv (.t 29)) 183 true,oG 185 (.bin .eql (.t 184) (kI 7)) 183 true,oO 186 (.pick (.t 183) (.t 185) (.k (.c (.d (.bool false))))),oM 187 186,oG 188 (.mv (.t 32)) 187 true,oG 189 (.mv (.t 35)) 187 true,oG 190 (.bin .eql (.t 188) (.t 189)) 187 true,oO 191 (.pick (.t 187) (.t 190) (.k (.c (.d (.bool false))))),oM 8 191]) (.ret))))))))))))))))))),[(8,none)]⟩
theorem WW:aF Tryz.prog { own:=[],comp:=[],frz:=[],nils:=[] } Tryz.f4=some Lh:=by kernel_rfl
set_option maxHeartbeats 1600000 in
theorem Z5 (G:ah) (seed:Int) (hseed1:-9223372036854775808≤seed) (hseed2:seed≤9223372036854775807) (n:Int) (hn1:-9223372036854775808≤n) (hn2:n≤9223372036854775807) (unique:Int) (hunique1:-9223372036854775808≤unique) (hunique2:unique≤9223372036854775807) (other:Int) (hother1:-9223372036854775808≤other) (hother2:other≤9223372036854775807) :aB Tryz.prog G 4 [.int .i64 seed,.int .i64 n,.int .i64 unique,.int .i64 other] (.w (.c (.d (.bool true)))):=by
  refine aI Tryz.func4 WW rfl rfl ?_;have r0:=nx seed 1000 (by decide);have e0:=pm G seed 1000 (by decide);obtain⟨s,hs⟩:=acB r0.1;have hs:gy seed 1000=(s:Int):=hs;rw[hs] at e0 r0;have r1:=nx n 8 (by decide);have e1:=pm G n 8 (by decide);obtain⟨a,ha⟩:=acB r1.1;have ha:gy n 8=(a:Int):=ha;rw[ha] at e1 r1;have e2:=pm G unique 100000 (by decide);have hN:gy (1+(a:Int)) 9=((a+1:Nat):Int):=by
    rw[QY (by omega) (by omega)]; omega
  have c1:=CM G s (1+(a:Int)) (by omega) (a+1) hN;have v:=Px (s:=s) (N:=a+1) (by omega) (by omega);have kl:(aZ s (a+1)).ck.length=a+1:=r8 _ _;obtain⟨tE,tv⟩:=Cu v (by rw[kl]; omega) (show (0:Int)≠1099511627776 by decide);obtain⟨fl8,fv⟩:=Z4 (s:=s) (a:=a) (by omega) (by omega);have c2:=pn G (gy unique 100000) 32 (by decide);have c3:=pn G (s:Int) 16 (by decide);have c4:=pn G ((s:Int)+2) 16 (by decide);have lU:(dF (gy unique 100000) 32).length=32:=mH _ _;have lN:(dF (s:Int) 16).length=16:=mH _ _;have lM:(dF ((s:Int)+2) 16).length=16:=mH _ _;generalize gy unique 100000=x at *
  generalize dF x 32=U at *
  generalize dF (s:Int) 16=Nn at *
  generalize dF ((s:Int)+2) 16=Mm at *
  have k0:(aZ s (a+1)).ck.getD 0 []=lF s 0:=Pu s a;have kC:=r9 s 0;have lUp:(aZ s (a+1)).up.length=32:=vT _;have lDn:(aZ s (a+1)).dn.length=32:=AY _;have tdn:(bV (aZ s (a+1))).dn=(aZ s (a+1)).dn:=rfl;have tck:(bV (aZ s (a+1))).ck.length=a:=by
    show ((aZ s (a+1)).ck.drop 1).length=a
    rw[abO,kl]; omega
  have qE:iu (aZ s (a+1)) U Nn=0:=by unfold iu; rw[if_neg (fun h=>h.elim (· v) (fun h=>h.elim (· lU) (· lN))),tE]
  have c5:=Pp G (aZ s (a+1)) 3 U Nn (by decide);rw[show tN (aZ s (a+1)) U Nn=bV (aZ s (a+1)) from if_pos qE,show tO (aZ s (a+1)) 3 U Nn=cZ (aZ s (a+1)).up (gO (aZ s (a+1)) 3 U) Nn from if_pos qE,qE] at c5;have hq:gO (aZ s (a+1)) 3 U=⟨fe 3,cR U (lF s 0) (7-a),[],false⟩:=by
    unfold gO;rw[kl,k0,show 8-(a+1)=7-a by omega]
  rw[hq] at c5;obtain⟨_,ql⟩:=Cz (key:=(aZ s (a+1)).up) (u:=U) (c:=lF s 0) (n:=Nn) (t:=3) (k:=7-a) lUp lU kC lN (by omega);have c6:=Cy G (bV (aZ s (a+1)));obtain⟨w,hw⟩:∃ w,w=8-a:=⟨_,rfl⟩
  rw[show qR (bV (aZ s (a+1)))=8-((bV (aZ s (a+1))).ck.length:Int) from if_pos tv,show qQ (bV (aZ s (a+1)))=0 from if_pos tv,tck,show 8-(a:Int)=(w:Int) by omega] at c6;rw[← hw] at fl8 fv;have c7:=Zc G 3;have c8:=Zd G (fe 3) 1 10 20;rw[WV,Oh] at c8;obtain⟨pE,pl,o1,o2⟩:=abk (key:=(aZ s (a+1)).dn) (u:=U) (n:=Mm) (h:=nq) (cs:=dp s w) lDn lU lM (by decide) Oi vV (by rw[mN]; omega);have c9:=NJ G (aZ s (a+1)).dn ⟨nq,[⟨260,U⟩],cJ (dp s w),false⟩ Mm (by omega) Oi (show 1≤_ by decide) (fun f hf=>by
    rw[abU.1 hf]
    show U.length≤_; omega) (by show (cJ (dp s w)).length≤_; rw[si,mN]; omega) (fun f hf=>by
    have:=vV _ (AZ hf).2;omega) (by omega)
  rw[pE] at c9;generalize hB:cZ (aZ s (a+1)).dn ⟨nq,[⟨260,U⟩],cJ (dp s w),false⟩ Mm=B at *
  generalize cZ (aZ s (a+1)).up ⟨fe 3,cR U (lF s 0) (7-a),[],false⟩ Nn=Q at *
  rw[← tdn] at o1 o2;obtain⟨aE,aJ,aP,aN⟩:=WT (h:=nq) (cs:=dp s w) tv lU (by decide) vV o1 o2;rw[mN] at pl;have cA:=CG G (bV (aZ s (a+1))) U B (by omega);rw[aE,aJ,aP] at cA;have cB:=s9 G (ir (bV (aZ s (a+1))) (dp s w));rw[decide_eq_true fv] at cB;have cC:=YF G (cJ (dp s w)) (cJ (dp s w)) (by rw[si,mN]; omega);rw[decide_eq_true rfl] at cC;have cD:=abl G U other other (by omega) (by omega);have lV:=DC U other other;have nV:=Qv (b:=U) (by omega) other other;generalize po U other other=V1 at *
  have cE:=CG G (bV (aZ s (a+1))) V1 B (by omega);rw[aN V1 (by omega) nV] at cE;have cF:=CM G (s+1) 3 (by omega) 3 (by decide);have cG:=CG G (aZ (s+1) 3) U B (by omega);have cH:=aaQ G (aZ (s+1) 3) U B (by omega);rw[show ((s+1:Nat):Int)=(s:Int)+1 by omega] at cF;have ck:=R8 G;have sl:=si (dp s w);rw[mN] at sl;have w1:1≤w:=by omega
  have w8:w≤8:=by omega
  have gL:((B.length:Int)=(Q.length:Int))=True:=eq_true (by omega);have g8:(((ir (bV (aZ s (a+1))) (dp s w)).ck.length:Int)=8)=True:=eq_true (by omega);clear aE aJ aP aN o1 o2 pE hB hq qE tE tv v fv k0 kC fl8;generalize dR (aZ (s+1) 3) U B=E3 at *
  generalize lC (aZ (s+1) 3) U B=J3 at *
  generalize lD (aZ (s+1) 3) U B=P3 at *
  generalize aZ (s+1) 3=W3 at *
  generalize lC (bV (aZ s (a+1))) V1 B=J2 at *
  generalize lD (bV (aZ s (a+1))) V1 B=P2 at *
  generalize ir (bV (aZ s (a+1))) (dp s w)=J1 at *
  generalize bV (aZ s (a+1))=T at *
  generalize aZ s (a+1)=W at *
  have gw1:((w:Int)<1)=False:=eq_false (by omega);have gw2:((w:Int)>8)=False:=eq_false (by omega);unfold bK bz cM at *
  simp only[abK,abS,aL] at c9;rw[show ((3:Nat):Int)=3 from rfl] at c5 c7;rw[show ((10:Nat):Int)=10 from rfl,show ((20:Nat):Int)=20 from rfl] at c8;simp only[Lh,af,ae,aa,seval,iteOmega,toNatUp];refine sD (e0) ?_;refine sD (e1) ?_;refine sD (c1) ?_;refine sD (e2) ?_;refine sD (c2) ?_;refine sD (c3) ?_;refine sD (c5) ?_;refine sC (c6) ?_;simp only[gw1,gw2,ae,aa,seval,iteOmega,toNatUp];refine ba (qo s other U Q w W T) (fun i=>w-i) (fun i=>i≤w) 0 (abM _) ?_ ?_
  ·refine ap (fun i=>if i=1 then 72 else 88) ?_ ?_ rfl rfl <;> simp only[nr,ns,bR,wx,aj,ar,aa,seval,iteOmega,toNatUp] <;> first | rfl | exact⟨rfl,rfl⟩ | skip
  ·intro i hi;clear e0 e1 e2 c1 c2 c3 c5 c6;have tl:=si (dp s i);rw[mN] at tl;have az:=nE (cJ (dp s i));by_cases hlt:i<w
   ·have gi:((i:Int)<(w:Int))=True:=eq_true (by omega);have c3:=pn G ((s+7000000*(i+1):Nat):Int) 104 (by decide);have ec:(s:Int)+7000000*((i:Int)+1)=((s+7000000*(i+1):Nat):Int):=by omega
    have hn:=abo s i;rw[show dF ((s+7000000*(i+1):Nat):Int) 104=tW s i from rfl] at c3;clear c4 c7 c8 c9 cA cB cC cD cE cF cG cH ck;generalize tW s i=x at *
    rcases i with _ | i
    ·have e1:cJ (dp s (0+1))=[⟨516,x⟩]:=hn;simp only[uP,qo,nr,ns,bR,ae,aa,seval,iteOmega,toNatUp,gi,ec];refine sC (c3) ?_;simp only[bQ,ae,aa,seval,iteOmega,toNatUp];refine aU (0+1) (by omega) (by omega) (ap (fun i=>if i=3 then 704 else i) ?_ ?_ rfl rfl) <;> simp only[qo,nr,ns,bR,e1,aL,wx,aj,ar,aa,seval,iteOmega,toNatUp] <;> first | rfl | exact⟨rfl,rfl⟩ | skip
    ·simp only[uP,qo,nr,ns,bR,ae,aa,seval,iteOmega,toNatUp,gi,ec,tl];refine sC (c3) ?_;simp only[bQ,tl,ae,aa,seval,iteOmega,toNatUp];refine aU (i+1+1) (by omega) (by omega) (ap (fun i=>if i=3 then 704 else i) ?_ ?_ rfl rfl) <;> simp only[qo,nr,ns,bR,hn,abT,tl,aL,wx,aj,ar,aa,seval,iteOmega,toNatUp] <;> first | rfl | exact⟨rfl,rfl⟩ | skip
   ·obtain rfl:i=w:=by omega
    obtain⟨k,rfl⟩:∃ k,i=k+1:=⟨i-1,by omega⟩
    have gi:(((k+1:Nat):Int)<((k+1:Nat):Int))=False:=eq_false (by omega);simp only[uP,qo,nr,ns,bR,ae,aa,seval,iteOmega,toNatUp,gi];refine sD (c7) ?_;refine sD (c8) ?_;refine sD (c4) ?_;refine bd c9 (by simp only[ae,aa,seval,iteOmega,toNatUp,ab8,nq] <;> rfl) (.inr (OS _ _ _ _)) ?_;simp only[ae,aa,seval,iteOmega,toNatUp];refine sC (cA) ?_;simp only[gL,g8,ae,aa,seval,iteOmega,toNatUp];refine sD (cB) ?_;refine bd cC (by simp only[ae,aa,seval,iteOmega,toNatUp,ab8] <;> rfl) (.inr rfl) ?_;simp only[ae,aa,seval,iteOmega,toNatUp];refine bd cD (by simp only[ae,aa,seval,iteOmega,toNatUp] <;> rfl) (.inl rfl) ?_;simp only[ae,aa,seval,iteOmega,toNatUp];refine sD (cE) ?_;refine sD (cF) ?_;refine sD (cG) ?_;refine sD (cF) ?_;refine sD (cH) ?_;refine sD (ck) ?_;exact aM
end Go.Proofs.YtofonnokanoflaaGreat
