/- Texts of one's own, merged: from: Layer 18,without code: packets as data,and what the functions return. Own work. -/
import Derived.Test.YtofonnokanoflaaMg213
import Derived.Test.YtofonnokanoflaaMg210
import Derived.Test.YtofonnokanoflaaMg215
import Derived.Test.YtofonnokanoflaaMg211
import Derived.Test.YtofonnokanoflaaMg214
import Derived.Test.YtofonnokanoflaaMg29
set_option linter.unusedVariables false
set_option linter.unusedSimpArgs false
namespace Go.Proofs.Ytofonnokanoflaa
open Go.RowKit
structure bT where
  hd:Hd
  pl:List Fd
  se:List Fd
  gu:Bool
def fX:bT:=⟨Hd.z,[],[],false⟩
def cz (p:bT):D:=.agg [.int .i64 p.hd.lp,.int .i64 p.hd.vr,.int .i64 p.hd.md,.int .i64 p.hd.st,.int .i64 p.hd.pl,.int .i64 p.hd.pr,.int .u32 (p.hd.rd:Int),.int .u32 (p.hd.rp:Int),.int .u32 (p.hd.ri:Int),.int .u64 (p.hd.rf:Int),.int .u64 (p.hd.og:Int),.int .u64 (p.hd.rc:Int),.int .u64 (p.hd.tr:Int),.sl (p.pl.map aR),.sl (p.se.map aR),.bool p.gu]
def ci (p:bT):Int:=if fg p.hd=0 then bu p.pl else fg p.hd
def bX (p:bT):List UInt8:=cp p.hd++aM p.pl
def sS (p:bT):List UInt8:=if ci p=0 then bX p else []
def ee (b:List UInt8):Int:=if dE b=0 then cx (b.drop 48) else dE b
def jJ (b:List UInt8):bT:=if ee b=0 then ⟨bN b,aY (b.drop 48),[],false⟩ else fX
def bU (n s:List UInt8):List UInt8:=al n.length 2++(al s.length 2++(cF n 4++cF s 4))
def g9 (n s:List UInt8):Fd:=⟨1028,bU n s⟩
def en (key:List UInt8) (p:bT) (n:List UInt8):List UInt8:=lj key [bX p,n] (aM p.se)
def be (key:List UInt8) (p:bT) (n:List UInt8):Fd:=g9 n (en key p n)
def dr (key:List UInt8) (p:bT) (n:List UInt8):Int :=
  if key.length≠32 then 5 else if n.length<16∨32<n.length then 4 else if ci p≠0 then ci p else if bu p.se≠0 then bu p.se else if (bo p.pl 1028).length≠0 then 3 else if p.pl.length=24 then 8 else if bu [be key p n]≠0∨1280<(bX p).length+bn [be key p n] then 2 else 0
def cb (key:List UInt8) (p:bT) (n:List UInt8):List UInt8:=if dr key p n=0 then bX p++aM [be key p n] else []
def cL (d:List UInt8):Nat:=aU (aE d 0 2)
def fi (d:List UInt8):Nat:=aU (aE d 2 2)
def eV (d:List UInt8):Nat:=4+(cL d+3) / 4*4
def bQ (d:List UInt8):List UInt8:=aE d 4 (cL d)
def cW (d:List UInt8):List UInt8:=aE d (eV d) (fi d)
def dX (d:List UInt8):Prop:=4≤d.length∧16≤cL d∧cL d≤32∧eV d+fi d≤d.length∧bU (bQ d) (cW d)=d
instance (d:List UInt8):Decidable (dX d):=by unfold dX; infer_instance
def oV (d:List UInt8):List UInt8:=if dX d then bQ d else []
def oW (d:List UInt8):List UInt8:=if dX d then cW d else []
def cH (b:List UInt8):Nat:=(aY (b.drop 48)).length-1
def cq (b:List UInt8):List UInt8:=((aY (b.drop 48)).getD (cH b) default).da
def gC (b:List UInt8):List UInt8:=b.take (48+aJ (b.drop 48) (cH b))
def kF (key b:List UInt8):Int:=eR key [gC b,bQ (cq b)] (cW (cq b))
def fj (key b:List UInt8):List UInt8:=fU key [gC b,bQ (cq b)] (cW (cq b))
def fk (key b:List UInt8):Int :=
  if key.length≠32 then 5 else if ee b≠0 then ee b else if (bo (aY (b.drop 48)) 1028).length=0 then 10 else if (bo (aY (b.drop 48)) 1028).getD 0 0≠(cH b:Int)∨¬ dX (cq b) then 3 else if kF key b≠0 then 6 else cx (fj key b)
def mY (key b:List UInt8):bT:=if fk key b=0 then ⟨bN b,(aY (b.drop 48)).take (cH b),aY (fj key b),true⟩ else fX
theorem xg (b:List UInt8):cF b 4=b++List.replicate (fy b.length 4) 0:=Ee b (n:=4) (by decide)
theorem Tq (n:Nat):n+fy n 4=(n+3) / 4*4:=by unfold fy; omega
theorem pP (b:List UInt8):(cF b 4).length=(b.length+3) / 4*4:=by rw[xg,UF,UW,Tq]
theorem nI (n s:List UInt8):(bU n s).length=4+(n.length+3) / 4*4+(s.length+3) / 4*4:=by
  unfold bU;simp only[UF,bp,pP]; omega
theorem rS {n s:List UInt8} (h:12≤(bU n s).length):aW (g9 n s)=4+(bU n s).length:=by
  have:=nI n s;unfold aW g9;dsimp only;omega
theorem Pr {n s:List UInt8} (h:12≤(bU n s).length):dT (g9 n s)=g9 n s:=by
  unfold dT;rw[rS h];have:(g9 n s).da=bU n s:=rfl;rw[this,show 4+(bU n s).length-4-(bU n s).length=0 by omega,VM,UX];rfl
theorem Ts {n s:List UInt8} (h:12≤(bU n s).length) (h2:4+(bU n s).length≤1232):bA (g9 n s)=0:=G6 (by show (0:Int)≤1028; decide) (by show (1028:Int)≤65535; decide) (by rw[rS h]; exact h2)
theorem Tt {n s:List UInt8} (h:16≤n.length):20≤(bU n s).length:=by rw[nI]; omega
theorem MZ {n s:List UInt8} (h1:16≤n.length) (h2:n.length≤32) (h3:s.length<65536):dX (bU n s)∧bQ (bU n s)=n∧cW (bU n s)=s:=by
  have hl:=nI n s;have a1:cL (bU n s)=n.length:=by
    unfold cL bU;have:=ny [] (al n.length 2) (al s.length 2++(cF n 4++cF s 4));rw[Vq,bp] at this;rw[show ([]:List UInt8).length=0 from rfl] at this;rw[this,get_put 2 (by decide)]; omega
  have a2:fi (bU n s)=s.length:=by
    unfold fi bU;have:=ny (al n.length 2) (al s.length 2) (cF n 4++cF s 4);rw[bp,bp] at this;rw[this,get_put 2 (by decide)]; omega
  have a3:eV (bU n s)=4+(n.length+3) / 4*4:=by unfold eV; rw[a1]
  have b1:bQ (bU n s)=n:=by
    unfold bQ;have:=ny (al n.length 2++al s.length 2) n (List.replicate (fy n.length 4) 0++cF s 4);rw[UF,bp,bp] at this;rw[a1];unfold bU;rw[← UV,xg n,UV n];exact this
  have b2:cW (bU n s)=s:=by
    unfold cW;rw[a2,a3];unfold bU;rw[← UV,← UV];have:=ny (al n.length 2++al s.length 2++cF n 4) s (List.replicate (fy s.length 4) 0);rw[UF,UF,bp,bp,pP] at this;rw[xg s];exact this
  refine⟨⟨by omega,by omega,by omega,by omega,by rw[b1,b2]⟩,b1,b2⟩
theorem ES (l r:List Fd) (k:Int):∀ n,n≤l.length→cK (l++r) k n=cK l k n
  | 0,_=>rfl
  | n+1,h=>by
    rw[cK,cK,ES l r k n (by omega)];have:(l++r).getD n default=l.getD n default:=by
      rw[UD,UD,Vk (by omega)]
    rw[this]
theorem ET (l:List Fd) (k:Int):∀ n,n≤l.length→cK (l.map dT) k n=cK l k n
  | 0,_=>rfl
  | n+1,h=>by
    rw[cK,cK,ET l k n (by omega)];have:((l.map dT).getD n default).ty=(l.getD n default).ty:=by
      rw[UD,UD,VC];rw[UB (by omega)];rfl
    rw[this]
theorem CG {l:List Fd} {k:Int} (h:∀ f∈l,f.ty≠k):∀ n,n≤l.length→cK l k n=[]
  | 0,_=>rfl
  | n+1,hn=>by
    rw[Ij (h _ (qm (by omega))),CG h n (by omega)]
theorem M0 {l:List Fd} {f:Fd} {k:Int} (h:(bo l k).length=0) (hf:f.ty=k):bo (l++[f]) k=[(l.length:Int)]:=by
  unfold bo;rw[UF,VQ,Ii (by simp[hf]),ES l [f] k _ (UJ _)];have:cK l k l.length=[]:=Vi h;rw[this,Vq]
theorem xh {h:Hd}:fg h=0↔jH h=true:=by
  unfold fg;split <;> simp_all
theorem xi {p:bT} (h:ci p=0):jH p.hd=true∧fg p.hd=0∧bu p.pl=0:=by
  unfold ci at h;split at h
  ·rename_i h0; exact⟨xh.1 h0,h0,h⟩
  ·rename_i h0; exact absurd h h0
theorem ll {l:List Fd} (h:bu l=0):(∀ f∈l,bA f=0)∧l.length≤24∧bn l≤1232∧fG l=aM l:=by
  have hB:fG l=aM l:=if_pos h;unfold bu at h;split at h
  ·rename_i h0;split at h
   ·cases h
   ·split at h
    ·cases h
    ·exact⟨oq.1 h0,by omega,by omega,hB⟩
  ·rename_i h0; exact absurd h h0
theorem wG {l:List Fd} (h1:∀ f∈l,bA f=0) (h2:l.length≤24) (h3:bn l≤1232):bu l=0:=(EK (oq.2 h1) h2 h3).1
theorem ma (p:bT):(bX p).length=48+bn p.pl:=by unfold bX; rw[UF,qJ,fq]
theorem wH {key a n:List UInt8} {m:Int} (hk:key.length=32) (ha:a.length≤65519) (hn:n.length≤65519) (hm:m≤65519):bP key [a,n] m=0:=MK hk (by simp) (fun x hx=>by simp at hx; rcases hx with rfl | rfl <;> assumption) hm
structure oF (key:List UInt8) (p:bT) (n:List UInt8):Prop where
  ky:key.length=32
  n1:16≤n.length
  n2:n.length≤32
  un:ci p=0
  se:bu p.se=0
  no:(bo p.pl 1028).length=0
  lt:p.pl.length≤23
  gd:bA (be key p n)=0
  all:48+bn p.pl+aW (be key p n)≤1280
theorem wI {key:List UInt8} {p:bT} {n:List UInt8} (h:oF key p n):dr key p n=0∧cb key p n=bX p++aM [be key p n]:=by
  have ht:bn [be key p n]=aW (be key p n):=by simp[bn]
  have hx:bu [be key p n]=0:=wG (fun f hf=>by simp at hf; subst hf; exact h.gd) (by simp) (by rw[ht]; exact (mD h.gd).2.2);have e:dr key p n=0:=by
    unfold dr;have a:=h.ky; have b:=h.n1; have c:=h.n2; have d:=h.lt; have f:=h.all
    rw[if_neg (by omega),if_neg (by omega),if_neg (by simp[h.un]),if_neg (by simp[h.se]),if_neg (by simp[h.no]),if_neg (by omega),if_neg];rw[ma,ht];rintro (k | k)
    ·exact k hx
    ·omega
  exact⟨e,if_pos e⟩
theorem Ps {key:List UInt8} {p:bT} {n:List UInt8} (h:oF key p n):bP key [bX p,n] ((aM p.se).length:Int)=0∧(en key p n).length=16+bn p.se∧bn p.se≤1232:=by
  have h1:=(ll h.se).2.2.1;have h2:=(ll (xi h.un).2.2).2.2.1;have h3:=h.n2;have ha:bP key [bX p,n] ((aM p.se).length:Int)=0:=wH h.ky (by rw[ma]; omega) (by omega) (by rw[fq]; omega);refine⟨ha,?_,h1⟩;unfold en;rw[qh ha,UF,jd,kR,fq]
theorem Pt {key:List UInt8} {p:bT} {n:List UInt8} (fit:mX p.hd) (h:oF key p n):ee (cb key p n)=0∧jJ (cb key p n)=⟨p.hd,p.pl.map dT++[be key p n],[],false⟩∧fk key (cb key p n)=0∧mY key (cb key p n)=⟨p.hd,p.pl.map dT,p.se.map dT,true⟩:=by
  obtain⟨k0,k1⟩:=wI h;obtain⟨u1,u2,u3⟩:=xi h.un;obtain⟨f1,f2,f3,f4⟩:=ll u3;obtain⟨s1,s2,s3⟩:=Ps h;have hR:lD p.hd:=of_decide_eq_true u1;have hn:=h.n1; have hn2:=h.n2; have hlt:=h.lt; have hall:=h.all
  have g1:20≤(bU n (en key p n)).length:=Tt hn;have gp:dT (be key p n)=be key p n:=Pr (by omega);obtain⟨q1,q2,q3⟩:=MZ (n:=n) (s:=en key p n) hn hn2 (by omega);have hG:aM (p.pl++[be key p n])=aM p.pl++aM [be key p n]:=qk _ _;have hB:cb key p n=cp p.hd++aM (p.pl++[be key p n]):=by rw[k1,bX,UV,hG]
  have hT:bn (p.pl++[be key p n])=bn p.pl+aW (be key p n):=by rw[qj]; simp[bn]
  have ok:∀ f∈p.pl++[be key p n],bA f=0:=fun f hf=>by
    rcases UY.1 hf with hf | hf
    ·exact f1 f hf
    ·rw[UO.1 hf]; exact h.gd
  have e0:bu (p.pl++[be key p n])=0:=wG ok (by simp; omega) (by omega);obtain⟨d1,d2,_⟩:=EH e0;have hbk:=OR hR fit (aM (p.pl++[be key p n]));have hdr:(cb key p n).drop 48=aM (p.pl++[be key p n]):=by
    have:=List.drop_left (l₁:=cp p.hd) (l₂:=aM (p.pl++[be key p n]));rw[qJ] at this;rw[hB]; exact this
  have hlen:(cb key p n).length=48+(bn p.pl+aW (be key p n)):=by rw[hB,UF,qJ,fq,hT]
  have hde:dE (cb key p n)=0:=by
    unfold dE;rw[if_neg (by omega),if_neg (by omega),hB,hbk,if_pos hR.2.2.1]
  have hg:bN (cb key p n)=p.hd:=by rw[hB,hbk]
  rw[U6,List.map_singleton,gp] at d2;have r0:ee (cb key p n)=0:=by unfold ee; rw[if_pos hde,hdr,d1]
  have lL:cH (cb key p n)=p.pl.length:=by unfold cH; rw[hdr,d2]; simp
  have hgd:cq (cb key p n)=bU n (en key p n):=by
    unfold cq;rw[lL,hdr,d2];simp[be,g9]
  have hpl:aJ (aM (p.pl++[be key p n])) p.pl.length=bn p.pl:=by
    rw[jm _ ok _ (by simp),List.take_left]
  have hA:gC (cb key p n)=bX p:=by
    unfold gC;rw[lL,hdr,hpl,k1,← ma,List.take_left]
  obtain⟨o1,o2⟩:=ML s1;rw[← qh s1] at o1 o2;have x1:kF key (cb key p n)=0:=by unfold kF; rw[hA,hgd,q2,q3]; exact o1
  have x2:fj key (cb key p n)=aM p.se:=by unfold fj; rw[hA,hgd,q2,q3]; exact o2
  obtain⟨t1,t2,_⟩:=EH h.se;have hfn:bo (p.pl.map dT++[be key p n]) 1028=[(p.pl.length:Int)]:=by
    have:=M0 (l:=p.pl.map dT) (f:=be key p n) (k:=1028) (by
      unfold bo;rw[UQ,ET _ _ _ (UJ _)];exact h.no) rfl
    rw[UQ] at this;exact this
  have o0:fk key (cb key p n)=0:=by
    unfold fk;rw[if_neg (by simp[h.ky]),if_neg (by simp[r0]),hdr,d2,hfn,lL,hgd,x1,x2,t1];simp[q1]
  refine⟨r0,?_,o0,?_⟩
  ·unfold jJ;rw[if_pos r0,hg,hdr,d2]
  ·unfold mY;rw[if_pos o0,hg,hdr,d2,lL,x2,t2]
   congr 1
   have:=List.take_left (l₁:=p.pl.map dT) (l₂:=[be key p n]);rw[UQ] at this;exact this
structure Jr where
  up:List UInt8
  dn:List UInt8
  ck:List (List UInt8)
  la:List UInt8
  nw:Int
  sn:Int
def cX (j:Jr):D:=.agg [.sl (j.up.map bD),.sl (j.dn.map bD),.sl (j.ck.map fun l=>D.sl (l.map bD)),.sl (j.la.map bD),.int .i64 j.nw,.int .i64 j.sn]
def iC:Jr:=⟨[],[],[],[],0,0⟩
theorem mZ {l:List (List UInt8)} {i:Nat} (h:i<l.length):l[i]?=some (l.getD i []):=by
  rw[UD,UB h]; rfl
theorem m5 {l:List (List UInt8)} {i:Nat} (h:i<l.length):l.getD i []∈l:=by
  rw[UD,UB h];exact U3 h
theorem I6 {l:List (List UInt8)} {i:Nat} (h:i<l.length):l.take (i+1)=l.take i++[l.getD i []]:=by
  rw[List.take_add_one,mZ h]; rfl
def iD (l:List (List UInt8)) (c:List UInt8):Bool:=l.any (·==c)
theorem Pu {l:List (List UInt8)} {c:List UInt8}:iD l c=true↔c∈l:=by
  unfold iD;rw[List.any_eq_true];exact⟨fun ⟨x,hx,e⟩=>by rw[← beq_iff_eq.1 e]; exact hx,fun h=>⟨c,h,beq_self_eq_true c⟩⟩
theorem nV {l:List (List UInt8)} {c:List UInt8}:iD l c=false↔c∉l:=by
  rw[← Pu,Bool.not_eq_true]
def kG (l:List (List UInt8)) (i:Nat):Prop:=(l.getD i []).length=104∧iD (l.take i) (l.getD i [])=false
def oY (j:Jr):Prop:=j.up.length=32∧j.dn.length=32∧j.ck.length≤8∧(j.la.length=0∨j.la.length=104)∧iD j.ck j.la=false∧0≤j.nw∧0≤j.sn∧j.sn≤1099511627776
instance (j:Jr):Decidable (oY j):=by unfold oY; infer_instance
instance (l:List (List UInt8)) (i:Nat):Decidable (kG l i):=by unfold kG; infer_instance
def dt (j:Jr):Prop:=oY j∧∀ i,i<j.ck.length→kG j.ck i
instance (j:Jr):Decidable (dt j):=by unfold dt; infer_instance
theorem RO {l:List (List UInt8)}:(∀ i,i<l.length→iD (l.take i) (l.getD i [])=false)↔l.Nodup:=by
  rw[List.nodup_iff_pairwise_ne,List.pairwise_iff_getElem];constructor
  ·intro h i k hi hk hik e;have:=nV.1 (h k hk);rw[UD,UB hk] at this;exact this (List.mem_take_iff_getElem.2 ⟨i,by omega,e⟩)
  ·intro h k hk;refine nV.2 fun hm=>?_
   obtain⟨i,hi,e⟩:=List.mem_take_iff_getElem.1 hm;rw[UD,UB hk] at e;exact h i k (by omega) hk (by omega) e
theorem kV {j:Jr}:dt j↔oY j∧(∀ c∈j.ck,c.length=104)∧j.ck.Nodup:=by
  unfold dt kG;rw[← RO];constructor
  ·rintro⟨h,a⟩;refine⟨h,fun c hc=>?_,fun i hi=>(a i hi).2⟩;obtain⟨i,hi,rfl⟩:=Va hc;have:=(a i hi).1;rw[UD,UB hi] at this;exact this
  ·rintro⟨h,a,b⟩;exact⟨h,fun i hi=>⟨a _ (m5 hi),b i hi⟩⟩
def dI (j:Jr):Int:=if ¬ dt j then 3 else if j.ck.length=0 then 10 else if j.sn=1099511627776 then 7 else 0
def cc (j:Jr):Jr:=⟨j.up,j.dn,j.ck.drop 1,j.ck.getD 0 [],j.nw,j.sn+1⟩
def sT (j:Jr):Jr:=if dI j=0 then cc j else iC
def sU (j:Jr):List UInt8:=if dI j=0 then j.ck.getD 0 [] else []
def m6 (j:Jr):Int:=if dt j then 0 else 3
def m7 (j:Jr):Int:=if dt j then 8-(j.ck.length:Int) else 0
def iu (cs:List (List UInt8)):Bool:=cs.all fun c=>c.length==104
theorem t9 {cs:List (List UInt8)}:iu cs=true↔∀ c∈cs,c.length=104:=by
  unfold iu;rw[UN];exact⟨fun h c hc=>beq_iff_eq.1 (h c hc),fun h c hc=>beq_iff_eq.2 (h c hc)⟩
def hC:Fd:=⟨772,List.replicate 104 0⟩
def bh (u c:List UInt8) (n:Nat):List Fd:=[⟨260,u⟩,⟨516,c⟩]++List.replicate n hC
def eA (j:Jr) (t:Nat) (u:List UInt8):bT:=⟨cT t,bh u (j.ck.getD 0 []) (8-j.ck.length),[],false⟩
def fm (j:Jr) (u n:List UInt8):Int:=if ¬ dt j∨u.length≠32∨n.length≠16 then 3 else dI j
def oZ (j:Jr) (u n:List UInt8):Jr:=if fm j u n=0 then cc j else iC
def pb (j:Jr) (t:Nat) (u n:List UInt8):List UInt8:=if fm j u n=0 then cb j.up (eA j t u) n else []
def eW (j:Jr):List D:=[.sl (j.up.map bD),.sl (j.dn.map bD),.sl (j.ck.map fun l=>D.sl (l.map bD)),.sl (j.la.map bD),.int .i64 j.nw,.int .i64 j.sn]
def hH:Ob:=.box [.nil,.nil,.nil,.nil,.d (.int .i64 0),.d (.int .i64 0)]
def eC (j:Jr) (k:C):Ob:=.box [.d (.sl (j.up.map bD)),.d (.sl (j.dn.map bD)),k,.d (.sl (j.la.map bD)),.d (.int .i64 j.nw),.d (.int .i64 j.sn)]
def I7 (j:Jr):List C:=[.d (.sl (j.up.map bD)),.d (.sl (j.dn.map bD)),.fr 1 (j.ck.map fun l=>D.sl (l.map bD)),.d (.sl (j.la.map bD)),.d (.int .i64 j.nw),.d (.int .i64 j.sn)]
theorem RP {σ:St} {p:Nat×Option Kd} {j:Jr} {k:C} (h1:bJ σ p=some (.mix [.d (.sl (j.up.map bD)),.d (.sl (j.dn.map bD)),k,.d (.sl (j.la.map bD)),.d (.int .i64 j.nw),.d (.int .i64 j.sn)])) (hk:mV σ.h k (.fr 1 (j.ck.map fun l=>D.sl (l.map bD)))) (hd:k.ids.Nodup):cI σ [p] (.w (.mix (I7 j))):=by
  refine⟨[.mix [.d (.sl (j.up.map bD)),.d (.sl (j.dn.map bD)),k,.d (.sl (j.la.map bD)),.d (.int .i64 j.nw),.d (.int .i64 j.sn)]],by simp[aD,h1],.inl ⟨?_,?_⟩⟩
  ·simpa [W.ids,C.ids] using hd
  ·exact .cons rfl (.cons rfl (.cons hk (.cons rfl (.cons rfl (.cons rfl .nil)))))
theorem Pv {P:Program} {G:aj} {F:FuncId} {args:List D} {cs:List C} {ds:List D} (hds:d7 (cs.map C.ro)=.c (.d (.agg ds))) (h:ar P G F args (.w (.mix cs))):ar P G F args (.w (.c (.d (.agg ds)))):=by
  intro w S vs h1 h2 h3;refine (h w S vs h1 h2 h3).mono ?_;rintro e w' ⟨v,S',bl,rfl,k1,k2,k3,k4⟩;have cs0:∀ {us:List Value} {cs:List C} {bk:List Nat},fw S' w' w.heap.size us cs bk→∀ b∈bk,w.heap.size≤b∧b<w'.heap.size:=by
    intro us cs bk hc
    induction hc with
    | nil=>intro b hb; cases hb
    | cons h1 _ ih =>
      rename_i c _ _ _ _ _;intro b hb;rcases UY.1 hb with hb | hb
      ·cases c <;> simp only[eO] at h1 <;> first | exact h1.elim | skip
       ·rw[h1.2] at hb; cases hb
       ·rcases h1 with ⟨_,_,rfl⟩ | ⟨b',cap,ty,N,rfl,_,_,_,q1,_,q2⟩
        ·cases hb
        ·simp only[UO] at hb;subst hb;obtain⟨f1,_,cur,ty',fz,f3,_⟩:=q2;exact⟨f1,(UL.1 f3).1⟩
      ·exact ih b hb
  have hfresh:∀ b∈bl,w.heap.size≤b∧b<w'.heap.size:=by
    obtain⟨us,_,hc⟩:=k4;exact cs0 hc
  refine⟨v,fun b i=>S' b i∨b∈bl,[],rfl,k1,fun b i hs=>?_,.nil,?_⟩
  ·rcases hs with hs | hs
   ·exact k2 b i hs
   ·exact⟨.inr (hfresh b hs).1,(hfresh b hs).2⟩
  ·have:=mr (m:=fun _=>none) (x:=.mix cs) k4 (T:=fun b i=>S' b i∨b∈bl) (fun _ _ h=>.inl h) (fun b hb _=>.inr hb);rw[show W.ro (.mix cs)=_ from hds] at this;exact⟨this.1,rfl⟩
theorem wJ {j:Jr} (v:dt j):j.up.length=32∧j.dn.length=32∧j.ck.length≤8∧j.la.length≤104∧∀ c∈j.ck,c.length=104:=by
  obtain⟨⟨a,b,c,d,_⟩,h,_⟩:=kV.1 v;exact⟨a,b,c,by omega,h⟩
theorem xj {j:Jr} {e:Int} (h:dI j=e) (he:e≠0):sT j=iC∧sU j=[]:=⟨if_neg (by rw[h]; exact he),if_neg (by rw[h]; exact he)⟩
theorem Pw {cs:List (List UInt8)} {i:Nat} (h:i<cs.length) (h1:iu (cs.take i)=true) (h2:(cs.getD i []).length=104):iu (cs.take (i+1))=true:=by
  unfold iu at *
  rw[I6 h,List.all_append,h1,Wg,List.all_nil,beq_iff_eq.2 h2]; rfl
open IntWalk
set_option maxHeartbeats 3200000
theorem Ik {j:Jr} (v:dt j) (h:j.ck.length≠0) (hs:j.sn≠1099511627776):dI j=0∧dt (cc j):=by
  refine⟨by unfold dI; rw[if_neg (not_not_intro v),if_neg h,if_neg hs],?_⟩;obtain⟨⟨a1,a2,a3,a4,a5,a6,a7,a8⟩,b,c⟩:=kV.1 v;obtain⟨up,dn,ck,la,nw,sn⟩:=j
  match ck,h with
  | x::r,_ =>
    have c:=List.nodup_cons.1 c;refine kV.2 ⟨⟨a1,a2,?_,.inr (b x (Vp ..)),nV.2 c.1,a6,?_,?_⟩,fun y hy=>b y (Ve _ hy),c.2⟩
    ·have a3:r.length+1≤8:=a3
     show r.length≤8
     omega
    ·have a7:0≤sn:=a7
     show 0≤sn+1
     omega
    ·have a8:sn≤1099511627776:=a8;have hs:sn≠1099511627776:=hs
     show sn+1≤1099511627776
     omega
def lF (up dn:List UInt8):Prop:=up.length=32∧dn.length=32
instance (up dn:List UInt8):Decidable (lF up dn):=by unfold lF; infer_instance
def rn:aB:=⟨1,13,.seq (.reg [oO 1 (.box .roBox (.t 0)),oO 2 (.mv (.k (.c (.d (.bool false)))))]) (.seq (.reg [oO 3 (.fieldAddr 0 (.t 1)),oO 4 (.load .sc (.t 3)),oO 5 (.len (.t 4)),oO 6 (.bin .eql (.t 5) (kI 32)),oM 7 6,oG 8 (.fieldAddr 1 (.t 1)) 7 true,oG 9 (.load .sc (.t 8)) 7 true,oG 10 (.len (.t 9)) 7 true,oG 11 (.bin .eql (.t 10) (kI 32)) 7 true,oO 12 (.pick (.t 7) (.t 11) (.k (.c (.d (.bool false))))),oM 2 12]) (.ret)),[(2,none)]⟩
theorem RQ:aA Try.prog { own:=[],comp:=[],frz:=[],nils:=[] } Try.f31=some rn:=by kernel_rfl
theorem Tu (G:aj) (up dn:List UInt8):ar Try.prog G 31 [.agg [.sl (up.map bD),.sl (dn.map bD)]] (.w (.c (.d (.bool (decide (lF up dn)))))):=by
  refine aF Try.func31 RQ rfl rfl ?_;by_cases h1:up.length=32
  ·have g1:((up.length:Int)=32)=True:=eq_true (by omega);by_cases h2:dn.length=32
   ·have g2:((dn.length:Int)=32)=True:=eq_true (by omega);rw[decide_eq_true (show lF up dn from ⟨h1,h2⟩)];simp only[rn,ah,ae,aa,seval,iteOmega,toNatUp,g1,g2];exact aP
   ·have g2:((dn.length:Int)=32)=False:=eq_false (by omega);rw[decide_eq_false (show ¬ lF up dn from fun h=>h2 h.2)];simp only[rn,ah,ae,aa,seval,iteOmega,toNatUp,g1,g2];exact aP
  ·have g1:((up.length:Int)=32)=False:=eq_false (by omega);rw[decide_eq_false (show ¬ lF up dn from fun h=>h1 h.1)];simp only[rn,ah,ae,aa,seval,iteOmega,toNatUp,g1];exact aP
def wK:aB:=⟨1,6,.seq (.reg [oO 2 (.mv (.k (.c (.d (.bool false)))))]) (.seq (.reg [oM 3 0,oO 4 (.len (.t 3)),oO 5 (.bin .eql (.t 4) (kI 104)),oM 2 5]) (.ret)),[(2,none)]⟩
theorem RR:aA Try.prog { own:=[],comp:=[],frz:=[],nils:=[] } Try.f33=some wK:=by kernel_rfl
theorem Il (G:aj) (b:List UInt8):ar Try.prog G 33 [.sl (b.map bD)] (.w (.c (.d (.bool (b.length==104))))):=by
  refine aF Try.func33 RR rfl rfl ?_;by_cases h1:b.length=104
  ·have g1:((b.length:Int)=104)=True:=eq_true (by omega);rw[beq_iff_eq.2 h1];simp only[wK,ah,ae,aa,seval,iteOmega,toNatUp,g1];exact aP
  ·have g1:((b.length:Int)=104)=False:=eq_false (by omega);rw[beq_eq_false_iff_ne.2 h1];simp only[wK,ah,ae,aa,seval,iteOmega,toNatUp,g1];exact aP
def rT (l:List (List UInt8)) (i:Nat):St:=⟨bc [(5,.w (.c (.d (.sl (l.map fun x=>D.sl (x.map bD)))))),(6,.w (.c (.d (.int .i64 (l.length:Int))))),(7,.w (.c (.d (.int .i64 (i:Int)))))],hL [],uL []⟩
def qn:aL := .seq (.reg [oO 8 (.bin .lss (.t 7) (.t 6))]) (.seq (.cond (.t 8) (.skip) (.exit 0)) (.seq (.block 1 (.seq (.reg [oO 9 (.idxSl 1 (.t 5) (.t 7)),oO 10 (.load .sc (.t 9)),oM 4 10]) (.seq (.reg [oM 11 4,oO 12 (.call 33 [(.t 11)] none),oO 13 (.un .not (.t 12))]) (.cond (.t 13) (.seq (.reg [oO 2 (.mv (.k (.c (.d (.bool false)))))]) (.ret)) (.skip))))) (.reg [oO 14 (.bin .add (.t 7) (kI 1)),oM 7 14])))
def Hg:aB:=⟨1,15,.seq (.reg [oO 2 (.mv (.k (.c (.d (.bool false)))))]) (.seq (.seq (.reg [oM 5 0,oO 6 (.len (.t 5)),oO 7 (.mv (kI 0))]) (.block 0 (.loop qn))) (.seq (.reg [oO 2 (.mv (.k (.c (.d (.bool true)))))]) (.ret))),[(2,none)]⟩
theorem RS:aA Try.prog { own:=[],comp:=[],frz:=[],nils:=[] } Try.f27=some Hg:=by kernel_rfl
theorem Tv (G:aj) (l:List (List UInt8)) (hl:l.length≤9000000000000000000):ar Try.prog G 27 [.sl (l.map fun x=>D.sl (x.map bD))] (.w (.c (.d (.bool (iu l))))):=by
  refine aF Try.func27 RS rfl rfl ?_;simp only[Hg,ah,ae,aa,seval,iteOmega,toNatUp];refine bH (rT l) (fun i=>l.length-i) (fun i=>i≤l.length∧iu (l.take i)=true) 0 ⟨UR _,rfl⟩ ?_ ?_
  ·refine aG (fun _=>0) ?_ ?_ rfl rfl <;> simp only[wx,aw,aH,aa,seval,iteOmega,toNatUp] <;> first | rfl | exact⟨rfl,rfl⟩ | skip
  ·rintro i ⟨hi,hp⟩;by_cases hlt:i<l.length
   ·have g:=mZ hlt;have hs:=Pw hlt hp;have hm:=m5 hlt;have no:iu l=true→(l.getD i []).length=104:=fun h=>t9.1 h _ hm
    clear hm;generalize l.getD i []=x at *
    have c1:=Il G x;by_cases hx:x.length=104
    ·rw[beq_iff_eq.2 hx] at c1;have hs:=hs hx;simp only[qn,rT,ae,aa,seval,iteOmega,toNatUp,aV,g];refine sD (c1) ?_;refine br (i+1) (by omega) ⟨by omega,hs⟩ (aG (fun i=>i) ?_ ?_ rfl rfl) <;> simp only[wx,aw,aH,aa,seval,iteOmega,toNatUp] <;> first | rfl | exact⟨rfl,rfl⟩ | skip
    ·rw[beq_eq_false_iff_ne.2 hx] at c1;have e:iu l=false:=by
       cases h:iu l
       ·rfl
       ·exact absurd (no h) hx
     rw[e];simp only[qn,rT,ae,aa,seval,iteOmega,toNatUp,aV,g];refine sD (c1) ?_;exact aP
   ·obtain rfl:i=l.length:=by omega
    rw[Wb] at hp;rw[hp];simp only[qn,rT,ae,aa,seval,iteOmega,toNatUp];exact aP
def Hh:aB:=⟨2,7,.seq (.reg [oO 3 (.mv (.k (.c (.d (.bool false)))))]) (.seq (.reg [oM 4 0,oO 5 (.load .sc (.t 1)),oO 6 (.call 46 [(.t 4),(.t 5)] none),oM 3 6]) (.ret)),[(3,none)]⟩
theorem RU:aA Try.prog { own:=[],comp:=[],frz:=[],nils:=[] } Try.f48=some Hh:=by kernel_rfl
theorem Tw (G:aj) (c x:List UInt8):mM Try.prog G 48 [.ref [.sl (c.map bD)]] [.sl (x.map bD)] (.w (.c (.d (.bool (x==c))))):=by
  refine⟨enters_of Try.func48 (by kernel_rfl) rfl,?_⟩;refine K3 Try.func48 RU rfl rfl ?_;have c1:=wm G x c;simp only[Hh,Vt,Vq,UE,UT,D.up,ep,ae,aa,seval,iteOmega,toNatUp];refine sD (c1) ?_;exact aP
def Hi:aB:=⟨2,8,.seq (.reg [oO 3 (.box .roBox (.t 1)),oO 4 (.mv (.k (.c (.d (.bool false)))))]) (.seq (.reg [oM 5 0,oO 6 (.clos 48 [(.t 3)]),oO 7 (.call 47 [(.t 5),(.t 6)] none),oM 4 7]) (.ret)),[(4,none)]⟩
theorem RX:aA Try.prog { own:=[],comp:=[],frz:=[],nils:=[] } Try.f32=some Hi:=by kernel_rfl
theorem Im (G:aj) (l:List (List UInt8)) (c:List UInt8) (hl:l.length≤9000000000000000000):ar Try.prog G 32 [.sl (l.map fun x=>D.sl (x.map bD)),.sl (c.map bD)] (.w (.c (.d (.bool (iD l c))))):=by
  refine aF Try.func32 RX rfl rfl ?_;have c1:=Gs G l 48 [.ref [.sl (c.map bD)]] (fun x=>x==c) (by omega) (fun x _=>Tw G c x);rw[show l.any (fun x=>x==c)=iD l c from rfl] at c1;simp only[Hi,ah,ae,aa,seval,iteOmega,toNatUp];refine sD (c1) ?_;exact aP
def oH (j:Jr) (n i:Nat):List (Nat×V):=[(1,.w (.c (.ptr 1 1 0 0))),(2,.w (.c (.ptr 3 1 0 0))),(3,.w (.c (.own 2 1 0 n))),(25,.w (.c (.d (.sl (j.ck.map fun l=>D.sl (l.map bD)))))),(26,.w (.c (.d (.int .i64 (j.ck.length:Int))))),(27,.w (.c (.d (.int .i64 (i:Int)))))]
def rU (j:Jr) (i:Nat):St:=⟨bc (oH j (j.ck.take i).length i),hL [(1,eC j (.d (.sl (j.ck.map fun l=>D.sl (l.map bD))))),(2,.row 1 ((j.ck.take i).map fun l=>D.sl (l.map bD))),(3,hH)],uL [1,2,3]⟩
def uU:aL := .seq (.reg [oO 28 (.bin .lss (.t 27) (.t 26))]) (.seq (.cond (.t 28) (.skip) (.exit 0)) (.seq (.block 1 (.seq (.reg [oO 29 (.idxSl 1 (.t 25) (.t 27)),oO 30 (.load .sc (.t 29)),oM 5 30]) (.reg [oM 31 3,oM 32 5,oO 33 (.bldSl false 1 1 (.sl []) [(0,(.t 32))]),oO 34 (.call 30 [(.t 33)] none),oO 35 (.bldSl false 1 1 (.sl []) [(0,(.t 34))]),oO 36 (.app false 1 24 (.t 31) (.t 35)),oM 3 36]))) (.reg [oO 37 (.bin .add (.t 27) (kI 1)),oM 27 37])))
def Hj:aB:=⟨1,41,.seq (.reg [oO 1 (.box .ownBox (.t 0)),oO 2 (.alloc [.nil,.nil,.nil,.nil,(.d (.int .i64 0)),(.d (.int .i64 0))])]) (.seq (.reg [oO 6 (.fieldAddr 0 (.t 1)),oO 7 (.fieldAddr 0 (.t 6)),oO 8 (.load .sc (.t 7)),oO 9 (.bldSl false 1 1 (.sl []) [(0,(.t 8))]),oO 10 (.call 30 [(.t 9)] none),oO 11 (.fieldAddr 0 (.t 1)),oO 12 (.fieldAddr 1 (.t 11)),oO 13 (.load .sc (.t 12)),oO 14 (.bldSl false 1 1 (.sl []) [(0,(.t 13))]),oO 15 (.call 30 [(.t 14)] none),oO 16 (.build [.nil,.nil] [(0,1,(.t 10)),(1,1,(.t 15))]),oO 17 (.fieldAddr 0 (.t 1)),oN (.store (.ag 2) (.t 17) (.t 16))]) (.seq (.reg [oO 18 (.fieldAddr 3 (.t 1)),oO 19 (.load .sc (.t 18)),oO 20 (.bldSl false 1 1 (.sl []) [(0,(.t 19))]),oO 21 (.call 30 [(.t 20)] none),oO 22 (.fieldAddr 3 (.t 1)),oN (.store .sc (.t 22) (.t 21))]) (.seq (.reg [oO 23 (.make true 1 24 (.sl []) (kI 0) (kI 8)),
 oM 3 23]) (.seq (.seq (.reg [oO 24 (.fieldAddr 2 (.t 1)),oO 25 (.load .sc (.t 24)),oO 26 (.len (.t 25)),oO 27 (.mv (kI 0))]) (.block 0 (.loop uU))) (.seq (.reg [oM 38 3,oO 39 (.fieldAddr 2 (.t 1)),oN (.store .sc (.t 39) (.t 38))]) (.seq (.reg [oO 40 (.load (.ag 6) (.t 1)),oN (.store (.ag 6) (.t 2) (.t 40))]) (.ret))))))),[(2,(some (.ag 6)))]⟩
theorem RY:aA Try.prog { own:=[1],comp:=[],frz:=[],nils:=[] } Try.f29=some Hj:=by kernel_rfl
theorem Tx (G:aj) (j:Jr) (h1:j.up.length≤140737488355328) (h2:j.dn.length≤140737488355328) (h3:j.la.length≤140737488355328) (h4:∀ c∈j.ck,c.length≤140737488355328) (h5:j.ck.length≤1000000):ar Try.prog G 29 [cX j] (.w (.mix (I7 j))):=by
  refine aF Try.func29 RY rfl rfl ?_;have c1:=dw G [j.up] (by simp) (by simp; omega);have c2:=dw G [j.dn] (by simp) (by simp; omega);have c3:=dw G [j.la] (by simp) (by simp; omega);simp only[UE,UT,Vw,Vv,UX] at c1 c2 c3;unfold cX;simp only[Hj,ah,ae,aa,seval,iteOmega,toNatUp];refine sD (c1) ?_;refine sD (c2) ?_;refine sD (c3) ?_;refine bH (rU j) (fun i=>j.ck.length-i) (fun i=>i≤j.ck.length) 0 (UR _) ?_ ?_
  ·refine aG (fun i=>if i=1 then 8 else if i=2 then 184 else 16) ?_ ?_ rfl rfl <;> simp only[oH,eW,eC,hH,wx,aw,aH,aa,seval,iteOmega,toNatUp] <;> first | rfl | exact⟨rfl,rfl⟩ | skip
  ·intro i hi;clear c1 c2 c3;by_cases hlt:i<j.ck.length
   ·have g:=mZ hlt;have hs:=I6 hlt;have hm:=h4 _ (m5 hlt);have tl:(j.ck.take i).length=i:=by rw[UI]; omega
    have az:=kP (j.ck.take i);generalize j.ck.getD i []=x at *
    have c4:=dw G [x] (by simp) (by simp; omega);simp only[UE,UT,Vw,Vv,UX] at c4;simp only[uU,rU,oH,eW,eC,hH,ae,aa,seval,iteOmega,toNatUp,aV,g,tl];refine sC (c4) ?_;simp only[ct,tl,ae,aa,seval,iteOmega,toNatUp];refine br (i+1) (by omega) (by omega) (aG (fun i=>if i=1 then 1 else if i=2 then 288 else 3) ?_ ?_ rfl rfl) <;> simp only[rU,oH,eW,eC,hH,hs,UF,VQ,U6,tl,wx,aw,aH,aa,seval,iteOmega,toNatUp] <;> first | rfl | exact⟨rfl,rfl⟩ | skip
   ·obtain rfl:i=j.ck.length:=by omega
    have hk:j.ck.take j.ck.length=j.ck:=Wb;have az:=kP j.ck;simp only[uU,rU,oH,eW,eC,hH,hk,ae,aa,seval,iteOmega,toNatUp];exact RP (k:=.own 2 1 0 j.ck.length) (by simp only[ae,aa,seval,iteOmega,toNatUp] <;> rfl) ⟨rfl,rfl,by simp only[ae,aa,seval,iteOmega,toNatUp,hk]⟩ (by simp[C.ids])
theorem Ty (G:aj) (j:Jr) (h1:j.up.length≤140737488355328) (h2:j.dn.length≤140737488355328) (h3:j.la.length≤140737488355328) (h4:∀ c∈j.ck,c.length≤140737488355328) (h5:j.ck.length≤1000000):ar Try.prog G 29 [cX j] (.w (.c (.d (cX j)))):=Pv rfl (Tx G j h1 h2 h3 h4 h5)
def lm (j:Jr) (i:Nat):St:=⟨bc [(1,.w (.c (.rp (eW j)))),(35,.w (.c (.d (.sl (j.ck.map fun l=>D.sl (l.map bD)))))),(36,.w (.c (.d (.int .i64 (j.ck.length:Int))))),(37,.w (.c (.d (.int .i64 (i:Int)))))],hL [],uL []⟩
def kS:aL := .seq (.reg [oO 38 (.bin .lss (.t 37) (.t 36))]) (.seq (.cond (.t 38) (.skip) (.exit 0)) (.seq (.block 1 (.seq (.reg [oM 39 37,oO 40 (.idxSl 1 (.t 35) (.t 37)),oO 41 (.load .sc (.t 40)),oM 3 39,oM 4 41]) (.seq (.reg [oO 42 (.fieldAddr 2 (.t 1)),oO 43 (.load .sc (.t 42)),oM 44 3,oO 45 (.slice 1 (.t 43) none (some (.t 44)) none),oM 46 4,oO 47 (.call 32 [(.t 45),(.t 46)] none)]) (.cond (.t 47) (.seq (.reg [oO 2 (.mv (.k (.c (.d (.bool false)))))]) (.ret)) (.skip))))) (.reg [oO 48 (.bin .add (.t 37) (kI 1)),oM 37 48])))
def j7:aB:=⟨1,66,.seq (.reg [oO 1 (.box .roBox (.t 0)),oO 2 (.mv (.k (.c (.d (.bool false)))))]) (.seq (.seq (.reg [oO 5 (.fieldAddr 0 (.t 1)),oO 6 (.load (.ag 2) (.t 5)),oO 7 (.call 31 [(.t 6)] none),oO 8 (.un .not (.t 7)),oM 9 8,oG 10 (.fieldAddr 4 (.t 1)) 9 false,oG 11 (.load .sc (.t 10)) 9 false,oG 12 (.bin .lss (.t 11) (kI 0)) 9 false,oO 13 (.pick (.t 9) (.k (.c (.d (.bool true)))) (.t 12)),oM 14 13,oG 15 (.fieldAddr 5 (.t 1)) 14 false,oG 16 (.load .sc (.t 15)) 14 false,oG 17 (.bin .lss (.t 16) (kI 0)) 14 false,oO 18 (.pick (.t 14) (.k (.c (.d (.bool true)))) (.t 17)),oM 19 18,oG 20 (.fieldAddr 5 (.t 1)) 19 false,oG 21 (.load .sc (.t 20)) 19 false,oG 22 (.bin .gtr (.t 21) (kI 1099511627776)) 19 false,oO 23 (.pick (.t 19) (.k (.c (.d (.bool true)))) (.t 22))]) (.cond (.t 23) (.seq (.reg [oO 2 (.mv (.k (.c (.d (.bool false)))))])
 (.ret)) (.skip))) (.seq (.seq (.reg [oO 24 (.fieldAddr 2 (.t 1)),oO 25 (.load .sc (.t 24)),oO 26 (.len (.t 25)),oO 27 (.bin .gtr (.t 26) (kI 8)),oM 28 27,oG 29 (.fieldAddr 2 (.t 1)) 28 false,oG 30 (.load .sc (.t 29)) 28 false,oG 31 (.call 27 [(.t 30)] none) 28 false,oG 32 (.un .not (.t 31)) 28 false,oO 33 (.pick (.t 28) (.k (.c (.d (.bool true)))) (.t 32))]) (.cond (.t 33) (.seq (.reg [oO 2 (.mv (.k (.c (.d (.bool false)))))]) (.ret)) (.skip))) (.seq (.seq (.reg [oO 34 (.fieldAddr 2 (.t 1)),oO 35 (.load .sc (.t 34)),oO 36 (.len (.t 35)),oO 37 (.mv (kI 0))]) (.block 0 (.loop kS))) (.seq (.reg [oO 49 (.fieldAddr 3 (.t 1)),oO 50 (.load .sc (.t 49)),oO 51 (.len (.t 50)),oO 52 (.bin .eql (.t 51) (kI 0)),oM 53 52,oG 54 (.fieldAddr 3 (.t 1)) 53 false,oG 55 (.load .sc (.t 54)) 53 false,oG 56 (.call 33 [(.t 55)] none) 53 false,
 oG 57 (.mv (.t 56)) 53 false,oG 58 (.fieldAddr 2 (.t 1)) 57 true,oG 59 (.load .sc (.t 58)) 57 true,oG 60 (.fieldAddr 3 (.t 1)) 57 true,oG 61 (.load .sc (.t 60)) 57 true,oG 62 (.call 32 [(.t 59),(.t 61)] none) 57 true,oG 63 (.un .not (.t 62)) 57 true,oG 64 (.pick (.t 57) (.t 63) (.k (.c (.d (.bool false))))) 53 false,oO 65 (.pick (.t 53) (.k (.c (.d (.bool true)))) (.t 64)),oM 2 65]) (.ret))))),[(2,none)]⟩
theorem RZ:aA Try.prog { own:=[],comp:=[],frz:=[],nils:=[] } Try.f16=some j7:=by kernel_rfl
theorem xk (G:aj) (j:Jr):ar Try.prog G 16 [cX j] (.w (.c (.d (.bool (decide (dt j)))))):=by
  refine aF Try.func16 RZ rfl rfl ?_;have no:¬ dt j→decide (dt j)=false:=fun h=>decide_eq_false h
  have c1:=Tu G j.up j.dn;unfold cX;by_cases h1:lF j.up j.dn
  ·rw[decide_eq_true h1] at c1;by_cases h2:j.nw<0
   ·have g2:(j.nw<0)=True:=eq_true h2;rw[no (fun h=>by have:=h.1.2.2.2.2.2.1; omega)];simp only[j7,ah,ae,aa,seval,iteOmega,toNatUp];refine sC (c1) ?_;simp only[g2,ae,aa,seval,iteOmega,toNatUp];exact aP
   ·have g2:(j.nw<0)=False:=eq_false h2;by_cases h3:j.sn<0
    ·have g3:(j.sn<0)=True:=eq_true h3;rw[no (fun h=>by have:=h.1.2.2.2.2.2.2.1; omega)];simp only[j7,ah,ae,aa,seval,iteOmega,toNatUp];refine sC (c1) ?_;simp only[g2,g3,ae,aa,seval,iteOmega,toNatUp];exact aP
    ·have g3:(j.sn<0)=False:=eq_false h3;by_cases h4:1099511627776<j.sn
     ·have g4:(j.sn>1099511627776)=True:=eq_true h4;rw[no (fun h=>by have:=h.1.2.2.2.2.2.2.2; omega)];simp only[j7,ah,ae,aa,seval,iteOmega,toNatUp];refine sC (c1) ?_;simp only[g2,g3,g4,ae,aa,seval,iteOmega,toNatUp];exact aP
     ·have g4:(j.sn>1099511627776)=False:=eq_false h4;by_cases h5:8<j.ck.length
      ·have g5:((j.ck.length:Int)>8)=True:=eq_true (by omega);rw[no (fun h=>by have:=h.1.2.2.1; omega)];simp only[j7,ah,ae,aa,seval,iteOmega,toNatUp];refine sC (c1) ?_;simp only[g2,g3,g4,g5,ae,aa,seval,iteOmega,toNatUp];exact aP
      ·have g5:((j.ck.length:Int)>8)=False:=eq_false (by omega);have c2:=Tv G j.ck (by omega);by_cases h6:iu j.ck=true
       ·rw[h6] at c2;have a4:=t9.1 h6;simp only[j7,ah,ae,aa,seval,iteOmega,toNatUp];refine sC (c1) ?_;simp only[g2,g3,g4,g5,ae,aa,seval,iteOmega,toNatUp];refine sD (c2) ?_;refine bH (lm j) (fun i=>j.ck.length-i) (fun i=>i≤j.ck.length∧∀ k,k<i→kG j.ck k) 0 ⟨UR _,fun k hk=>by omega⟩ ?_ ?_
        ·refine aG (fun _=>0) ?_ ?_ rfl rfl <;> simp only[eW,wx,aw,aH,aa,seval,iteOmega,toNatUp] <;> first | rfl | exact⟨rfl,rfl⟩ | skip
        ·clear c1 c2 g2 g3 g4 g5 h6;rintro i ⟨hi,hp⟩;by_cases hlt:i<j.ck.length
         ·have g:=mZ hlt;have m4:=a4 _ (m5 hlt);have hno:¬ kG j.ck i→decide (dt j)=false:=fun h=>decide_eq_false fun v=>h (v.2 i hlt)
          have hgo:kG j.ck i→∀ k,k<i+1→kG j.ck k:=fun a k hk=>by
            rcases U5 k i with h | h
            ·exact hp k h
            ·obtain rfl:k=i:=by omega
             exact a
          have az:=kP j.ck;have c3:=Im G (j.ck.take i) (j.ck.getD i []) (by rw[UI]; omega);cases hq:iD (j.ck.take i) (j.ck.getD i [])
          ·have hgo:=hgo ⟨m4,hq⟩;rw[hq] at c3;clear hno hp hq m4 no a4;generalize j.ck.getD i []=x at *
           simp only[kS,lm,eW,ae,aa,seval,iteOmega,toNatUp,aV,g,az];refine sD (c3) ?_;refine br (i+1) (by omega) ⟨by omega,hgo⟩ (aG (fun i=>i) ?_ ?_ rfl rfl) <;> simp only[eW,wx,aw,aH,aa,seval,iteOmega,toNatUp] <;> first | rfl | exact⟨rfl,rfl⟩ | skip
          ·rw[hno (fun h=>by rw[h.2] at hq; cases hq)];rw[hq] at c3;clear hno hp hgo hq m4 no a4;generalize j.ck.getD i []=x at *
           simp only[kS,lm,eW,ae,aa,seval,iteOmega,toNatUp,aV,g,az];refine sD (c3) ?_;exact aP
         ·have hv:(j.la.length=0∨j.la.length=104)→iD j.ck j.la=false→dt j:=fun a b=>⟨⟨h1.1,h1.2,by omega,a,b,by omega,by omega,by omega⟩,fun k hk=>hp k (by omega)⟩
          clear hp;by_cases h7:j.la.length=0
          ·have g7:((j.la.length:Int)=0)=True:=eq_true (by omega);rw[decide_eq_true (hv (.inl h7) (nV.2 fun h=>by have:=a4 _ h; omega))];clear hv no a4;simp only[kS,lm,eW,ae,aa,seval,iteOmega,toNatUp,g7];exact aP
          ·have g7:((j.la.length:Int)=0)=False:=eq_false (by omega);have c4:=Il G j.la;by_cases h8:j.la.length=104
           ·rw[beq_iff_eq.2 h8] at c4;have c5:=Im G j.ck j.la (by omega);cases hq:iD j.ck j.la
            ·rw[hq] at c5;rw[decide_eq_true (hv (.inr h8) hq)];clear hv no a4 hq;simp only[kS,lm,eW,ae,aa,seval,iteOmega,toNatUp,g7];refine sD (c4) ?_;refine sD (c5) ?_;exact aP
            ·rw[hq] at c5;rw[no (fun h=>by have:=h.1.2.2.2.2.1; rw[hq] at this; cases this)];clear hv no a4 hq;simp only[kS,lm,eW,ae,aa,seval,iteOmega,toNatUp,g7];refine sD (c4) ?_;refine sD (c5) ?_;exact aP
           ·rw[beq_eq_false_iff_ne.2 h8] at c4;rw[no (fun h=>by have:=h.1.2.2.2.1; omega)];clear hv no a4;simp only[kS,lm,eW,ae,aa,seval,iteOmega,toNatUp,g7];refine sD (c4) ?_;exact aP
       ·rw[Bool.not_eq_true] at h6;rw[h6] at c2;rw[no (fun h=>by rw[t9.2 ((kV.1 h).2.1)] at h6; cases h6)];simp only[j7,ah,ae,aa,seval,iteOmega,toNatUp];refine sC (c1) ?_;simp only[g2,g3,g4,g5,ae,aa,seval,iteOmega,toNatUp];refine sD (c2) ?_;exact aP
  ·rw[decide_eq_false h1] at c1;rw[no (fun h=>h1 ⟨h.1.1,h.1.2.1⟩)];simp only[j7,ah,ae,aa,seval,iteOmega,toNatUp];refine sD (c1) ?_;exact aP
def nW:aB:=⟨1,39,.seq (.reg [oO 1 (.box .roBox (.t 0)),oO 2 (.alloc [.nil,.nil,.nil,.nil,(.d (.int .i64 0)),(.d (.int .i64 0))]),oO 3 (.mv (.k (.c .nil))),oO 4 (.mv (kI 0))]) (.seq (.seq (.reg [oO 6 (.load (.ag 6) (.t 1)),oO 7 (.call 16 [(.t 6)] none),oO 8 (.un .not (.t 7))]) (.cond (.t 8) (.seq (.reg [oO 9 (.build [.nil,.nil,.nil,.nil,(.d (.int .i64 0)),(.d (.int .i64 0))] []),oN (.store (.ag 6) (.t 2) (.t 9)),oO 3 (.mv (.k (.c .nil))),oO 4 (.mv (kI 3))]) (.ret)) (.skip))) (.seq (.seq (.reg [oO 10 (.fieldAddr 2 (.t 1)),oO 11 (.load .sc (.t 10)),oO 12 (.len (.t 11)),oO 13 (.bin .eql (.t 12) (kI 0))]) (.cond (.t 13) (.seq (.reg [oO 14 (.build [.nil,.nil,.nil,.nil,(.d (.int .i64 0)),(.d (.int .i64 0))] []),oN (.store (.ag 6) (.t 2) (.t 14)),oO 3 (.mv (.k (.c .nil))),oO 4 (.mv (kI 10))])
 (.ret)) (.skip))) (.seq (.seq (.reg [oO 15 (.fieldAddr 5 (.t 1)),oO 16 (.load .sc (.t 15)),oO 17 (.bin .eql (.t 16) (kI 1099511627776))]) (.cond (.t 17) (.seq (.reg [oO 18 (.build [.nil,.nil,.nil,.nil,(.d (.int .i64 0)),(.d (.int .i64 0))] []),oN (.store (.ag 6) (.t 2) (.t 18)),oO 3 (.mv (.k (.c .nil))),oO 4 (.mv (kI 7))]) (.ret)) (.skip))) (.seq (.reg [oO 19 (.load (.ag 6) (.t 1)),oO 20 (.call 29 [(.t 19)] none),oO 5 (.alloc [.nil,.nil,.nil,.nil,(.d (.int .i64 0)),(.d (.int .i64 0))]),oN (.store (.ag 6) (.t 5) (.t 20))]) (.seq (.reg [oO 21 (.fieldAddr 2 (.t 5)),oO 22 (.load .sc (.t 21)),oO 23 (.idxSl 1 (.t 22) (kI 0)),oO 24 (.load .sc (.t 23)),oO 25 (.fieldAddr 2 (.t 5)),oO 26 (.load .sc (.t 25)),oO 27 (.slice 1 (.t 26) (some (kI 1)) none none),oO 28 (.fieldAddr 3 (.t 5)),oN (.store .sc (.t 28) (.t 24)),
 oO 29 (.fieldAddr 2 (.t 5)),oN (.store .sc (.t 29) (.t 27))]) (.seq (.reg [oO 30 (.fieldAddr 5 (.t 5)),oO 31 (.load .sc (.t 30)),oO 32 (.bin .add (.t 31) (kI 1)),oO 33 (.fieldAddr 5 (.t 5)),oN (.store .sc (.t 33) (.t 32))]) (.seq (.reg [oO 34 (.load (.ag 6) (.t 5)),oO 35 (.fieldAddr 3 (.t 5)),oO 36 (.load .sc (.t 35)),oO 37 (.bldSl false 1 1 (.sl []) [(0,(.t 36))]),oO 38 (.call 30 [(.t 37)] (some (0,1))),oN (.store (.ag 6) (.t 2) (.t 34)),oM 3 38,oO 4 (.mv (kI 0))]) (.ret)))))))),[(2,(some (.ag 6))),(3,none),(4,none)]⟩
theorem R0:aA Try.prog { own:=[38],comp:=[],frz:=[],nils:=[] } Try.f13=some nW:=by kernel_rfl
theorem Tz (G:aj) (j:Jr):ar Try.prog G 13 [cX j] (.tup [.c (.d (cX (sT j))),.c (.d (.sl ((sU j).map bD))),.c (.d (.int .i64 (dI j)))]):=by
  refine aF Try.func13 R0 rfl rfl ?_;have c1:=xk G j;by_cases v:dt j
  ·rw[decide_eq_true v] at c1;obtain⟨v1,v2,v3,v4,v5⟩:=wJ v;by_cases h1:j.ck.length=0
   ·have e:dI j=10:=by unfold dI; rw[if_neg (not_not_intro v),if_pos h1]
    obtain⟨q1,q2⟩:=xj e (by decide);have g1:((j.ck.length:Int)=0)=True:=eq_true (by omega);rw[q1,q2,e];unfold cX iC at *
    simp only[nW,ah,ae,aa,seval,iteOmega,toNatUp];refine sC (c1) ?_;simp only[g1,ae,aa,seval,iteOmega,toNatUp];exact gX
   ·have g1:((j.ck.length:Int)=0)=False:=eq_false (by omega);by_cases h2:j.sn=1099511627776
    ·have e:dI j=7:=by unfold dI; rw[if_neg (not_not_intro v),if_neg h1,if_pos h2]
     obtain⟨q1,q2⟩:=xj e (by decide);have g2:(j.sn=1099511627776)=True:=eq_true h2;rw[q1,q2,e];unfold cX iC at *
     simp only[nW,ah,ae,aa,seval,iteOmega,toNatUp];refine sC (c1) ?_;simp only[g1,g2,ae,aa,seval,iteOmega,toNatUp];exact gX
    ·have e:dI j=0:=by unfold dI; rw[if_neg (not_not_intro v),if_neg h1,if_neg h2]
     have g2:(j.sn=1099511627776)=False:=eq_false h2;rw[show sT j=cc j from if_pos e,show sU j=j.ck.getD 0 [] from if_pos e,e];have c2:=Ty G j (by omega) (by omega) (by omega) (fun c hc=>by have:=v5 c hc; omega) (by omega);have f0:=mZ (l:=j.ck) (i:=0) (by omega);have m0:=v5 _ (m5 (l:=j.ck) (i:=0) (by omega));have s8:0≤j.sn∧j.sn≤1099511627776:=v.1.2.2.2.2.2.2;have az:=kP j.ck;have d1:(j.ck.drop 1).take (j.ck.length-1)=j.ck.drop 1:=UG (by rw[UK]; omega);unfold cc cX at *
     dsimp only at *
     generalize j.ck.getD 0 []=x at *
     have c3:=dw G [x] (by simp) (by simp; omega);simp only[UE,UT,Vw,Vv,UX] at c3;simp only[nW,ah,ae,aa,seval,iteOmega,toNatUp];refine sC (c1) ?_;simp only[g1,g2,ae,aa,seval,iteOmega,toNatUp];refine sC (c2) ?_;simp only[aV,f0,az,ae,aa,seval,iteOmega,toNatUp];refine sC (c3) ?_;simp only[d1,ae,aa,seval,iteOmega,toNatUp];exact gX
  ·rw[decide_eq_false v] at c1;have e:dI j=3:=if_pos v;obtain⟨q1,q2⟩:=xj e (by decide);rw[q1,q2,e];unfold cX iC at *
   simp only[nW,ah,ae,aa,seval,iteOmega,toNatUp];refine sD (c1) ?_;exact gX
def wM:aB:=⟨1,11,.seq (.reg [oO 1 (.box .roBox (.t 0)),oO 2 (.mv (kI 0)),oO 3 (.mv (kI 0))]) (.seq (.seq (.reg [oO 4 (.load (.ag 6) (.t 1)),oO 5 (.call 16 [(.t 4)] none),oO 6 (.un .not (.t 5))]) (.cond (.t 6) (.seq (.reg [oO 2 (.mv (kI 0)),oO 3 (.mv (kI 3))]) (.ret)) (.skip))) (.seq (.reg [oO 7 (.fieldAddr 2 (.t 1)),oO 8 (.load .sc (.t 7)),oO 9 (.len (.t 8)),oO 10 (.bin .sub (kI 8) (.t 9)),oM 2 10,oO 3 (.mv (kI 0))]) (.ret))),[(2,none),(3,none)]⟩
theorem R1:aA Try.prog { own:=[],comp:=[],frz:=[],nils:=[] } Try.f21=some wM:=by kernel_rfl
theorem xl (G:aj) (j:Jr):ar Try.prog G 21 [cX j] (.tup [.c (.d (.int .i64 (m7 j))),.c (.d (.int .i64 (m6 j)))]):=by
  refine aF Try.func21 R1 rfl rfl ?_;have c1:=xk G j;by_cases v:dt j
  ·rw[decide_eq_true v] at c1;obtain⟨v1,v2,v3,v4,v5⟩:=wJ v;rw[show m7 j=8-(j.ck.length:Int) from if_pos v,show m6 j=0 from if_pos v];unfold cX at *
   simp only[wM,ah,ae,aa,seval,iteOmega,toNatUp];refine sD (c1) ?_;exact eS
  ·rw[decide_eq_false v] at c1;rw[show m7 j=0 from if_neg v,show m6 j=3 from if_neg v];unfold cX at *
   simp only[wM,ah,ae,aa,seval,iteOmega,toNatUp];refine sD (c1) ?_;exact eS
def qM:aB:=⟨1,9,.seq (.reg [oO 2 (.mv (.k (.c (.d (.bool false)))))]) (.seq (.reg [oM 3 0,oO 4 (.bin .leq (kI 16) (.t 3)),oM 5 4,oG 6 (.mv (.t 0)) 5 true,oG 7 (.bin .leq (.t 6) (kI 32)) 5 true,oO 8 (.pick (.t 5) (.t 7) (.k (.c (.d (.bool false))))),oM 2 8]) (.ret)),[(2,none)]⟩
theorem Px:aA Try.prog { own:=[],comp:=[],frz:=[],nils:=[] } Try.f49=some qM:=by kernel_rfl
theorem Hl (G:aj) (n:Int):ar Try.prog G 49 [.int .i64 n] (.w (.c (.d (.bool (decide (16≤n∧n≤32)))))):=by
  refine aF Try.func49 Px rfl rfl ?_;by_cases h1:16≤n
  ·by_cases h2:n≤32
   ·rw[decide_eq_true ⟨h1,h2⟩];simp only[qM,ah,ae,aa,seval,iteOmega,toNatUp];exact aP
   ·rw[decide_eq_false (fun h=>h2 h.2)];simp only[qM,ah,ae,aa,seval,iteOmega,toNatUp];exact aP
  ·rw[decide_eq_false (fun h=>h1 h.1)];simp only[qM,ah,ae,aa,seval,iteOmega,toNatUp];exact aP
theorem Py (n s:List UInt8):([al n.length 2,al s.length 2,cF n 4,cF s 4]:List (List UInt8)).flatten=bU n s:=by
  unfold bU;simp only[Vw,Vv,UX]
def Hm:aB:=⟨2,20,.seq (.reg [oO 4 (.alloc [(.d (.int .i64 0)),.nil])]) (.seq (.reg [oM 5 0,oO 6 (.len (.t 5)),oO 7 (.conv .u64 (.t 6)),oO 8 (.call 71 [(.t 7),(kI 2)] none),oM 9 1,oO 10 (.len (.t 9)),oO 11 (.conv .u64 (.t 10)),oO 12 (.call 71 [(.t 11),(kI 2)] none),oM 13 0,oO 14 (.call 57 [(.t 13),(kI 4)] none),oM 15 1,oO 16 (.call 57 [(.t 15),(kI 4)] none),oO 17 (.bldSl false 4 1 (.sl []) [(0,(.t 8)),(1,(.t 12)),(2,(.t 14)),(3,(.t 16))]),oO 18 (.call 30 [(.t 17)] none),oO 19 (.build [(.d (.int .i64 0)),.nil] [(0,1,(kI 1028)),(1,1,(.t 18))]),oN (.store (.ag 2) (.t 4) (.t 19))]) (.ret)),[(4,(some (.ag 2)))]⟩
theorem R2:aA Try.prog { own:=[],comp:=[],frz:=[],nils:=[] } Try.f53=some Hm:=by kernel_rfl
theorem Io (G:aj) (n s:List UInt8) (hn:n.length≤1000000) (hs:s.length≤1000000):ar Try.prog G 53 [.sl (n.map bD),.sl (s.map bD)] (.w (.c (.d (aR (g9 n s))))):=by
  refine aF Try.func53 R2 rfl rfl ?_;have c1:=gP G n.length 2 (by decide);have c2:=gP G s.length 2 (by decide);rw[show (2:Int).toNat=2 from rfl] at c1 c2;have c3:=rM G n 4 (by omega);have c4:=rM G s 4 (by omega);have cj:=dw G [al n.length 2,al s.length 2,cF n 4,cF s 4] (by simp) (by simp[bp,pP]; omega);rw[Py] at cj;unfold g9 aR;generalize bU n s=B at *
  generalize al n.length 2=B1 at *
  generalize al s.length 2=B2 at *
  generalize cF n 4=B3 at *
  generalize cF s 4=B4 at *
  simp only[UE,UT] at cj;simp only[Hm,ah,ae,aa,seval,iteOmega,toNatUp];refine sD (c1) ?_;refine sD (c2) ?_;refine sD (c3) ?_;refine sD (c4) ?_;refine sD (cj) ?_;exact aP
def jZ:aB:=⟨1,70,.seq (.reg [oO 2 (.mv (.k (.c .nil))),oO 3 (.mv (.k (.c .nil))),oO 4 (.mv (.k (.c (.d (.bool false)))))]) (.seq (.reg [oM 10 0,oO 11 (.call 55 [(.t 10),(kI 4)] none),oM 9 11,oO 12 (.extract (.t 9) 0),oO 13 (.extract (.t 9) 1),oO 14 (.extract (.t 9) 2),oM 5 12,oM 6 13,oM 4 14]) (.seq (.seq (.reg [oM 15 4,oO 16 (.un .not (.t 15))]) (.cond (.t 16) (.seq (.reg [oO 2 (.mv (.k (.c .nil))),oO 3 (.mv (.k (.c .nil))),oO 4 (.mv (.k (.c (.d (.bool false)))))]) (.ret)) (.skip))) (.seq (.reg [oM 17 5,oO 18 (.slice 1 (.t 17) none (some (kI 2)) none),oO 19 (.call 56 [(.t 18)] none),oO 20 (.conv .i64 (.t 19)),oM 21 5,oO 22 (.slice 1 (.t 21) (some (kI 2)) none none),oO 23 (.call 56 [(.t 22)] none),oO 24 (.conv .i64 (.t 23)),oM 7 20,oM 8 24]) (.seq (.reg [oM 26 6,oM 27 7,oO 28 (.call 55 [(.t 26),(.t 27)] none),
 oM 25 28,oO 29 (.extract (.t 25) 0),oO 30 (.extract (.t 25) 1),oO 31 (.extract (.t 25) 2),oM 2 29,oM 4 31]) (.seq (.seq (.reg [oM 32 4,oO 33 (.un .not (.t 32)),oM 34 33,oG 35 (.mv (.t 7)) 34 false,oG 36 (.call 49 [(.t 35)] none) 34 false,oG 37 (.un .not (.t 36)) 34 false,oO 38 (.pick (.t 34) (.k (.c (.d (.bool true)))) (.t 37))]) (.cond (.t 38) (.seq (.reg [oO 2 (.mv (.k (.c .nil))),oO 3 (.mv (.k (.c .nil))),oO 4 (.mv (.k (.c (.d (.bool false)))))]) (.ret)) (.skip))) (.seq (.reg [oM 40 6,oM 41 2,oO 42 (.call 57 [(.t 41),(kI 4)] none),oO 43 (.len (.t 42)),oO 44 (.call 55 [(.t 40),(.t 43)] none),oM 39 44,oO 45 (.extract (.t 39) 0),oO 46 (.extract (.t 39) 1),oO 47 (.extract (.t 39) 2),oM 6 46,oM 4 47]) (.seq (.seq (.reg [oM 48 4,oO 49 (.un .not (.t 48))]) (.cond (.t 49) (.seq (.reg [oO 2 (.mv (.k (.c .nil))),
 oO 3 (.mv (.k (.c .nil))),oO 4 (.mv (.k (.c (.d (.bool false)))))]) (.ret)) (.skip))) (.seq (.reg [oM 51 6,oM 52 8,oO 53 (.call 55 [(.t 51),(.t 52)] none),oM 50 53,oO 54 (.extract (.t 50) 0),oO 55 (.extract (.t 50) 1),oO 56 (.extract (.t 50) 2),oM 3 54,oM 4 56]) (.seq (.seq (.reg [oM 57 4,oO 58 (.un .not (.t 57)),oM 59 58,oG 60 (.mv (.t 2)) 59 false,oG 61 (.mv (.t 3)) 59 false,oG 62 (.call 53 [(.t 60),(.t 61)] none) 59 false,oG 63 (.field 1 .sc (.t 62)) 59 false,oG 64 (.mv (.t 0)) 59 false,oG 65 (.call 46 [(.t 63),(.t 64)] none) 59 false,oG 66 (.un .not (.t 65)) 59 false,oO 67 (.pick (.t 59) (.k (.c (.d (.bool true)))) (.t 66))]) (.cond (.t 67) (.seq (.reg [oO 2 (.mv (.k (.c .nil))),oO 3 (.mv (.k (.c .nil))),oO 4 (.mv (.k (.c (.d (.bool false)))))]) (.ret)) (.skip))) (.seq (.reg [oM 68 2,
 oM 69 3,oM 2 68,oM 3 69,oO 4 (.mv (.k (.c (.d (.bool true)))))]) (.ret))))))))))),[(2,none),(3,none),(4,none)]⟩
theorem Pz:aA Try.prog { own:=[],comp:=[],frz:=[],nils:=[] } Try.f38=some jZ:=by kernel_rfl
theorem R3 (G:aj) (d:List UInt8) (hd:d.length≤100000):ar Try.prog G 38 [.sl (d.map bD)] (.tup [.c (.d (.sl ((oV d).map bD))),.c (.d (.sl ((oW d).map bD))),.c (.d (.bool (decide (dX d))))]):=by
  refine aF Try.func38 Pz rfl rfl ?_;unfold oV oW;rcases U5 d.length 4 with h4 | h4
  ·have hno:¬ dX d:=fun h=>by have:=h.1; omega
   rw[if_neg hno,if_neg hno,decide_eq_false hno];have c1:=rt G d 4 (.inr (by omega));simp only[jZ,ah,ae,aa,seval,iteOmega,toNatUp];refine sD (c1) ?_;exact gL (by simp only[ae,aa,seval,iteOmega,toNatUp] <;> rfl) (by simp only[ae,aa,seval,iteOmega,toNatUp] <;> rfl) (by simp only[ae,aa,seval,iteOmega,toNatUp])
  ·have c1:=rr G d 4 h4 (by omega);rw[show ((4:Nat):Int)=4 from rfl] at c1;have t1:(d.take 4).take 2=aE d 0 2:=by rw[List.take_take]; rfl
   have t2:(d.take 4).drop 2=aE d 2 2:=by rw[List.drop_take]; rfl
   have c2:=mz G (aE d 0 2) (by rw[d6 (by omega)]; decide);have c3:=mz G (aE d 2 2) (by rw[d6 (by omega)]; decide);have b1:=(jV 2 (aE d 0 2) (d6 (by omega)) (by decide)).1;have b2:=(jV 2 (aE d 2 2) (d6 (by omega)) (by decide)).1;have hl1:(aE d 0 2).length=2:=d6 (by omega);have hl2:(aE d 2 2).length=2:=d6 (by omega);have hl4:(d.take 4).length=4:=by simp; omega
   have hld:(d.drop 4).length=d.length-4:=by simp
   have t3:(aE d 2 2).take 2=aE d 2 2:=UG (by omega);rw[show aU (aE d 0 2)=cL d from rfl] at c2 b1;rw[show aU (aE d 2 2)=fi d from rfl] at c3 b2;have cf:=Hl G (cL d:Int);rcases U5 (d.length-4) (cL d) with h5 | h5
   ·have hno:¬ dX d:=fun h=>by have:=h.2.2.2.1; unfold eV at this; omega
    rw[if_neg hno,if_neg hno,decide_eq_false hno];clear hno;have c4:=rt G (d.drop 4) (cL d:Int) (.inr (by omega));generalize cL d=n at *
    generalize fi d=m at *
    simp only[jZ,ah,ae,aa,seval,iteOmega,toNatUp];refine sC (c1) ?_;simp only[t1,t2,t3,hl4,ae,aa,seval,iteOmega,toNatUp];refine sC (c2) ?_;simp only[t1,t2,t3,hl4,ae,aa,seval,iteOmega,toNatUp];refine sD (c3) ?_;refine sD (c4) ?_;exact gL (by simp only[ae,aa,seval,iteOmega,toNatUp] <;> rfl) (by simp only[ae,aa,seval,iteOmega,toNatUp] <;> rfl) (by simp only[ae,aa,seval,iteOmega,toNatUp])
   ·have c4:=rr G (d.drop 4) (cL d) (by omega) (by omega);have e4:(d.drop 4).take (cL d)=bQ d:=rfl;have hlB:(bQ d).length=cL d:=d6 (by omega);rw[e4] at c4;by_cases h6:16≤cL d∧cL d≤32
    ·have h6':16≤(cL d:Int)∧(cL d:Int)≤32:=by omega
     rw[decide_eq_true h6'] at cf;have c5:=j5 (rM G (bQ d) 4 (by omega));have hlp:=pP (bQ d);rw[hlB] at hlp;rcases U5 (d.length-4) ((cL d+3) / 4*4) with h7 | h7
     ·have hno:¬ dX d:=fun h=>by have:=h.2.2.2.1; unfold eV at this; omega
      rw[if_neg hno,if_neg hno,decide_eq_false hno];clear hno;have c6:=rt G (d.drop 4) ((cF (bQ d) 4).length:Int) (.inr (by omega));generalize cF (bQ d) 4=B4 at *
      generalize bQ d=B3 at *
      generalize cL d=n at *
      generalize fi d=m at *
      simp only[jZ,ah,ae,aa,seval,iteOmega,toNatUp];refine sC (c1) ?_;simp only[t1,t2,t3,hl4,ae,aa,seval,iteOmega,toNatUp];refine sC (c2) ?_;simp only[t1,t2,t3,hl4,ae,aa,seval,iteOmega,toNatUp];refine sD (c3) ?_;refine sD (c4) ?_;refine sD (cf) ?_;refine sD (c5) ?_;refine sD (c6) ?_;exact gL (by simp only[ae,aa,seval,iteOmega,toNatUp] <;> rfl) (by simp only[ae,aa,seval,iteOmega,toNatUp] <;> rfl) (by simp only[ae,aa,seval,iteOmega,toNatUp])
     ·have c6:=rr G (d.drop 4) (cF (bQ d) 4).length (by omega) (by omega);have e6:(d.drop 4).drop (cF (bQ d) 4).length=d.drop (eV d):=by rw[Wk,hlp]; rfl
      rw[e6] at c6;have hl6:(d.drop (eV d)).length=d.length-eV d:=by simp
      have hpf:eV d=4+(cL d+3) / 4*4:=rfl;rcases U5 (d.length-eV d) (fi d) with h8 | h8
      ·have hno:¬ dX d:=fun h=>by have:=h.2.2.2.1; omega
       rw[if_neg hno,if_neg hno,decide_eq_false hno];clear hno;have c7:=rt G (d.drop (eV d)) (fi d:Int) (.inr (by omega));generalize d.drop (eV d)=D2 at *
       generalize cF (bQ d) 4=B4 at *
       generalize bQ d=B3 at *
       generalize cL d=n at *
       generalize fi d=m at *
       simp only[jZ,ah,ae,aa,seval,iteOmega,toNatUp];refine sC (c1) ?_;simp only[t1,t2,t3,hl4,ae,aa,seval,iteOmega,toNatUp];refine sC (c2) ?_;simp only[t1,t2,t3,hl4,ae,aa,seval,iteOmega,toNatUp];refine sD (c3) ?_;refine sD (c4) ?_;refine sD (cf) ?_;refine sD (c5) ?_;refine sD (c6) ?_;refine sD (c7) ?_;exact gL (by simp only[ae,aa,seval,iteOmega,toNatUp] <;> rfl) (by simp only[ae,aa,seval,iteOmega,toNatUp] <;> rfl) (by simp only[ae,aa,seval,iteOmega,toNatUp])
      ·have c7:=rr G (d.drop (eV d)) (fi d) (by omega) (by omega);have e7:(d.drop (eV d)).take (fi d)=cW d:=rfl;rw[e7] at c7;have hlS:(cW d).length=fi d:=d6 (by omega);have c8:=Io G (bQ d) (cW d) (by omega) (by omega);unfold g9 aR at c8;have c9:=wm G (bU (bQ d) (cW d)) d;by_cases hq:bU (bQ d) (cW d)=d
       ·have hok:dX d:=⟨h4,h6.1,h6.2,by omega,hq⟩
        rw[if_pos hok,if_pos hok,decide_eq_true hok];clear hok;rw[hq,beq_self_eq_true] at c9;rw[hq] at c8;clear hq;generalize d.drop (eV d)=D2 at *
        generalize cF (bQ d) 4=B4 at *
        generalize cW d=B5 at *
        generalize bQ d=B3 at *
        generalize cL d=n at *
        generalize fi d=m at *
        simp only[jZ,ah,ae,aa,seval,iteOmega,toNatUp];refine sC (c1) ?_;simp only[t1,t2,t3,hl4,ae,aa,seval,iteOmega,toNatUp];refine sC (c2) ?_;simp only[t1,t2,t3,hl4,ae,aa,seval,iteOmega,toNatUp];refine sD (c3) ?_;refine sD (c4) ?_;refine sD (cf) ?_;refine sD (c5) ?_;refine sD (c6) ?_;refine sD (c7) ?_;refine sD (c8) ?_;refine sD (c9) ?_;exact gX
       ·have hno:¬ dX d:=fun h=>hq h.2.2.2.2
        rw[if_neg hno,if_neg hno,decide_eq_false hno];clear hno;have e9:(bU (bQ d) (cW d)==d)=false:=by simpa using hq
        rw[e9] at c9;clear hq e9;generalize bU (bQ d) (cW d)=B6 at *
        generalize d.drop (eV d)=D2 at *
        generalize cF (bQ d) 4=B4 at *
        generalize cW d=B5 at *
        generalize bQ d=B3 at *
        generalize cL d=n at *
        generalize fi d=m at *
        simp only[jZ,ah,ae,aa,seval,iteOmega,toNatUp];refine sC (c1) ?_;simp only[t1,t2,t3,hl4,ae,aa,seval,iteOmega,toNatUp];refine sC (c2) ?_;simp only[t1,t2,t3,hl4,ae,aa,seval,iteOmega,toNatUp];refine sD (c3) ?_;refine sD (c4) ?_;refine sD (cf) ?_;refine sD (c5) ?_;refine sD (c6) ?_;refine sD (c7) ?_;refine sD (c8) ?_;refine sD (c9) ?_;exact gL (by simp only[ae,aa,seval,iteOmega,toNatUp] <;> rfl) (by simp only[ae,aa,seval,iteOmega,toNatUp] <;> rfl) (by simp only[ae,aa,seval,iteOmega,toNatUp])
    ·have hno:¬ dX d:=fun h=>h6 ⟨h.2.1,h.2.2.1⟩
     rw[if_neg hno,if_neg hno,decide_eq_false hno];clear hno;have h6':¬ (16≤(cL d:Int)∧(cL d:Int)≤32):=by omega
     rw[decide_eq_false h6'] at cf;clear h6 h6';generalize bQ d=B3 at *
     generalize cL d=n at *
     generalize fi d=m at *
     simp only[jZ,ah,ae,aa,seval,iteOmega,toNatUp];refine sC (c1) ?_;simp only[t1,t2,t3,hl4,ae,aa,seval,iteOmega,toNatUp];refine sC (c2) ?_;simp only[t1,t2,t3,hl4,ae,aa,seval,iteOmega,toNatUp];refine sD (c3) ?_;refine sD (c4) ?_;refine sD (cf) ?_;exact gL (by simp only[ae,aa,seval,iteOmega,toNatUp] <;> rfl) (by simp only[ae,aa,seval,iteOmega,toNatUp] <;> rfl) (by simp only[ae,aa,seval,iteOmega,toNatUp])
theorem Ip {p:bT} (h:ci p=0):sS p=bX p:=if_pos h
theorem Hn {p:bT} (h:ci p≠0):sS p=[]:=if_neg h
theorem PC {h:Hd} (e:fg h=0):sG h=cp h:=if_pos (xh.1 e)
theorem Ho {p:bT} (h:fg p.hd≠0):ci p=fg p.hd:=if_neg h
theorem wN {p:bT} (h:fg p.hd=0):ci p=bu p.pl:=if_pos h
theorem Hp {p:bT} (h:ci p=0):(bX p).length≤1280:=by
  have:=(ll (xi h).2.2).2.2.1;rw[ma]; omega
def qN:aB:=⟨1,29,.seq (.reg [oO 1 (.box .roBox (.t 0)),oO 2 (.mv (.k (.c .nil))),oO 3 (.mv (kI 0))]) (.seq (.reg [oO 8 (.fieldAddr 0 (.t 1)),oO 9 (.load (.ag 13) (.t 8)),oO 10 (.call 67 [(.t 9)] none),oM 7 10,oO 11 (.extract (.t 7) 0),oO 12 (.extract (.t 7) 1),oM 4 11,oM 5 12]) (.seq (.seq (.reg [oM 13 5,oO 14 (.bin .neq (.t 13) (kI 0))]) (.cond (.t 14) (.seq (.reg [oM 15 5,oO 2 (.mv (.k (.c .nil))),oM 3 15]) (.ret)) (.skip))) (.seq (.reg [oO 17 (.fieldAddr 13 (.t 1)),oO 18 (.load .sc (.t 17)),oO 19 (.call 51 [(.t 18)] none),oM 16 19,oO 20 (.extract (.t 16) 0),oO 21 (.extract (.t 16) 1),oM 6 20,oM 5 21]) (.seq (.seq (.reg [oM 22 5,oO 23 (.bin .neq (.t 22) (kI 0))]) (.cond (.t 23) (.seq (.reg [oM 24 5,oO 2 (.mv (.k (.c .nil))),oM 3 24]) (.ret)) (.skip))) (.seq (.reg [oM 25 4,oM 26 6,oO 27 (.bldSl false 2 1 (.sl []) [(0,(.t 25)),(1,(.t 26))]),
 oO 28 (.call 30 [(.t 27)] none),oM 2 28,oO 3 (.mv (kI 0))]) (.ret)))))),[(2,none),(3,none)]⟩
theorem PD:aA Try.prog { own:=[],comp:=[],frz:=[],nils:=[] } Try.f50=some qN:=by kernel_rfl
theorem R4 (G:aj) (p:bT) (hf:mX p.hd) (hl:p.pl.length≤1000000) (hd:∀ f∈p.pl,f.da.length≤8000000000000000000):ar Try.prog G 50 [cz p] (.tup [.c (.d (.sl ((sS p).map bD))),.c (.d (.int .i64 (ci p)))]):=by
  refine aF Try.func50 PD rfl rfl ?_;have c1:=Ro G p.hd hf;have c2:=wF G p.pl hl hd;by_cases h1:fg p.hd=0
  ·rw[PC h1,h1] at c1;by_cases h2:bu p.pl=0
   ·have h0:ci p=0:=by rw[wN h1,h2]
    have hle:=Hp h0;have cj:=dw G [cp p.hd,aM p.pl] (by simp) (by
      have:[cp p.hd,aM p.pl].flatten=bX p:=by simp[bX]
      rw[this]; omega)
    have hX:[cp p.hd,aM p.pl].flatten=bX p:=by simp[bX]
    rw[hX] at cj;simp only[UE,UT] at cj;rw[(ll h2).2.2.2,h2] at c2;rw[h0,Ip h0];clear hX hle h0 h1 h2;generalize bX p=X at *
    generalize cp p.hd=B1 at *
    generalize aM p.pl=B2 at *
    unfold cz;unfold dj at c1;simp only[qN,ah,ae,aa,seval,iteOmega,toNatUp];refine sD (c1) ?_;refine sD (c2) ?_;refine sD (cj) ?_;exact eS
   ·have h0:ci p≠0:=by rw[wN h1]; exact h2
    have g:(ci p=0)=False:=eq_false h0;rw[Hn h0];rw[show bu p.pl=ci p from (wN h1).symm] at c2;clear h0 h1 h2;generalize ci p=e at *
    generalize cp p.hd=B1 at *
    generalize fG p.pl=B2 at *
    unfold cz;unfold dj at c1;simp only[qN,ah,ae,aa,seval,iteOmega,toNatUp];refine sD (c1) ?_;refine sC (c2) ?_;simp only[g,ae,aa,seval,iteOmega,toNatUp];exact eS
  ·have h0:ci p≠0:=by rw[Ho h1]; exact h1
   have g:(ci p=0)=False:=eq_false h0;rw[Hn h0];rw[show fg p.hd=ci p from (Ho h1).symm] at c1;clear h0 h1 c2;generalize ci p=e at *
   generalize sG p.hd=B1 at *
   unfold cz;unfold dj at c1;simp only[qN,ah,ae,aa,seval,iteOmega,toNatUp];refine sC (c1) ?_;simp only[g,ae,aa,seval,iteOmega,toNatUp];exact eS
theorem CH {b:List UInt8} (h:dE b≠0):ee b=dE b∧jJ b=fX:=by
  have e:ee b=dE b:=if_neg h;exact⟨e,if_neg (by rw[e]; exact h)⟩
theorem Ae {b:List UInt8} (h:dE b=0):ee b=cx (b.drop 48)∧sI b=b.drop 48∧sH b=bN b:=⟨if_pos h,if_pos h,if_pos h⟩
def qO:aB:=⟨1,30,.seq (.reg [oO 2 (.alloc [(.d (.int .i64 0)),(.d (.int .i64 0)),(.d (.int .i64 0)),(.d (.int .i64 0)),(.d (.int .i64 0)),(.d (.int .i64 0)),(.d (.int .u32 0)),(.d (.int .u32 0)),(.d (.int .u32 0)),(.d (.int .u64 0)),(.d (.int .u64 0)),(.d (.int .u64 0)),(.d (.int .u64 0)),.nil,.nil,(.d (.bool false))]),oO 3 (.mv (kI 0))]) (.seq (.reg [oM 9 0,oO 10 (.call 54 [(.t 9)] none),oM 8 10,oO 11 (.extract (.t 8) 0),oO 12 (.extract (.t 8) 1),oO 13 (.extract (.t 8) 2),oO 4 (.alloc [(.d (.int .i64 0)),(.d (.int .i64 0)),(.d (.int .i64 0)),(.d (.int .i64 0)),(.d (.int .i64 0)),(.d (.int .i64 0)),(.d (.int .u32 0)),(.d (.int .u32 0)),(.d (.int .u32 0)),(.d (.int .u64 0)),(.d (.int .u64 0)),(.d (.int .u64 0)),(.d (.int .u64 0))]),oN (.store (.ag 13) (.t 4) (.t 11)),oM 5 12,oM 6 13])
 (.seq (.seq (.reg [oM 14 6,oO 15 (.bin .neq (.t 14) (kI 0))]) (.cond (.t 15) (.seq (.reg [oO 16 (.build [(.d (.int .i64 0)),(.d (.int .i64 0)),(.d (.int .i64 0)),(.d (.int .i64 0)),(.d (.int .i64 0)),(.d (.int .i64 0)),(.d (.int .u32 0)),(.d (.int .u32 0)),(.d (.int .u32 0)),(.d (.int .u64 0)),(.d (.int .u64 0)),(.d (.int .u64 0)),(.d (.int .u64 0)),.nil,.nil,(.d (.bool false))] []),oM 17 6,oN (.store (.ag 16) (.t 2) (.t 16)),oM 3 17]) (.ret)) (.skip))) (.seq (.reg [oM 19 5,oO 20 (.call 41 [(.t 19)] none),oM 18 20,oO 21 (.extract (.t 18) 0),oO 22 (.extract (.t 18) 1),oM 7 21,oM 6 22]) (.seq (.seq (.reg [oM 23 6,oO 24 (.bin .neq (.t 23) (kI 0))]) (.cond (.t 24) (.seq (.reg [oO 25 (.build [(.d (.int .i64 0)),(.d (.int .i64 0)),(.d (.int .i64 0)),(.d (.int .i64 0)),(.d (.int .i64 0)),(.d (.int .i64 0)),(.d (.int .u32 0)),(.d (.int .u32 0)),(.d (.int .u32 0)),(.d (.int .u64 0)),(.d (.int .u64 0)),(.d (.int .u64 0)),(.d (.int .u64 0)),.nil,.nil,(.d (.bool false))] []),
 oM 26 6,oN (.store (.ag 16) (.t 2) (.t 25)),oM 3 26]) (.ret)) (.skip))) (.seq (.reg [oO 27 (.load (.ag 13) (.t 4)),oM 28 7,oO 29 (.build [(.d (.int .i64 0)),(.d (.int .i64 0)),(.d (.int .i64 0)),(.d (.int .i64 0)),(.d (.int .i64 0)),(.d (.int .i64 0)),(.d (.int .u32 0)),(.d (.int .u32 0)),(.d (.int .u32 0)),(.d (.int .u64 0)),(.d (.int .u64 0)),(.d (.int .u64 0)),(.d (.int .u64 0)),.nil,.nil,(.d (.bool false))] [(0,13,(.t 27)),(13,1,(.t 28))]),oN (.store (.ag 16) (.t 2) (.t 29)),oO 3 (.mv (kI 0))]) (.ret)))))),[(2,(some (.ag 16))),(3,none)]⟩
theorem PE:aA Try.prog { own:=[],comp:=[],frz:=[],nils:=[] } Try.f36=some qO:=by kernel_rfl
theorem R5 (G:aj) (b:List UInt8) (hb:b.length≤9000000000000000000):ar Try.prog G 36 [.sl (b.map bD)] (.tup [.c (.d (cz (jJ b))),.c (.d (.int .i64 (ee b)))]):=by
  refine aF Try.func36 PE rfl rfl ?_;have c1:=Rl G b (by omega);by_cases h1:dE b=0
  ·obtain⟨e1,e2,e3⟩:=Ae h1;have c2:=Hf G (b.drop 48) (by simp; omega);rw[h1,e2,e3] at c1;by_cases h2:cx (b.drop 48)=0
   ·have e4:jJ b=⟨bN b,aY (b.drop 48),[],false⟩:=if_pos (by rw[e1,h2]);rw[e4,e1,h2];rw[h2] at c2;clear e1 e2 e3 e4 h1 h2;generalize bN b=q at *
    generalize b.drop 48=R at *
    generalize aY R=L at *
    unfold cz;unfold dj at c1;simp only[qO,ah,ae,aa,seval,iteOmega,toNatUp];refine sD (c1) ?_;refine sD (c2) ?_;exact dv (by simp only[ae,aa,seval,iteOmega,toNatUp] <;> rfl) (by simp only[ae,aa,seval,iteOmega,toNatUp])
   ·have e4:jJ b=fX:=if_neg (by rw[e1]; exact h2);have g:(cx (b.drop 48)=0)=False:=eq_false h2;rw[e4,e1];clear e1 e2 e3 e4 h1 h2;generalize cx (b.drop 48)=E at *
    generalize bN b=q at *
    generalize b.drop 48=R at *
    generalize aY R=L at *
    unfold cz fX Hd.z;unfold dj at c1;simp only[qO,ah,ae,aa,seval,iteOmega,toNatUp];refine sD (c1) ?_;refine sC (c2) ?_;simp only[g,ae,aa,seval,iteOmega,toNatUp];exact dv (by simp only[ae,aa,seval,iteOmega,toNatUp] <;> rfl) (by simp only[ae,aa,seval,iteOmega,toNatUp])
  ·obtain⟨e1,e4⟩:=CH h1;have g:(dE b=0)=False:=eq_false h1;rw[e4,e1];clear e1 e4 h1;generalize dE b=E at *
   generalize sI b=R at *
   generalize sH b=q at *
   unfold cz fX Hd.z;unfold dj at c1;simp only[qO,ah,ae,aa,seval,iteOmega,toNatUp];refine sC (c1) ?_;simp only[g,ae,aa,seval,iteOmega,toNatUp];exact dv (by simp only[ae,aa,seval,iteOmega,toNatUp] <;> rfl) (by simp only[ae,aa,seval,iteOmega,toNatUp])
theorem j8 {key:List UInt8} {p:bT} {n:List UInt8} {e:Int} (h:dr key p n=e) (he:e≠0):cb key p n=[]:=if_neg (by rw[h]; exact he)
theorem TA {key:List UInt8} {p:bT} {n:List UInt8} (h:key.length≠32):dr key p n=5:=if_pos h
theorem TB {key:List UInt8} {p:bT} {n:List UInt8} (h1:key.length=32) (h:n.length<16∨32<n.length):dr key p n=4:=by
  unfold dr; rw[if_neg (by omega),if_pos h]
theorem TC {key:List UInt8} {p:bT} {n:List UInt8} (h1:key.length=32) (h2:16≤n.length∧n.length≤32) (h:ci p≠0):dr key p n=ci p:=by
  unfold dr; rw[if_neg (by omega),if_neg (by omega),if_pos h]
theorem TD {key:List UInt8} {p:bT} {n:List UInt8} (h1:key.length=32) (h2:16≤n.length∧n.length≤32) (h3:ci p=0) (h:bu p.se≠0):dr key p n=bu p.se:=by
  unfold dr; rw[if_neg (by omega),if_neg (by omega),if_neg (by simp[h3]),if_pos h]
theorem TE {key:List UInt8} {p:bT} {n:List UInt8} (h1:key.length=32) (h2:16≤n.length∧n.length≤32) (h3:ci p=0) (h4:bu p.se=0) (h:(bo p.pl 1028).length≠0):dr key p n=3:=by
  unfold dr; rw[if_neg (by omega),if_neg (by omega),if_neg (by simp[h3]),if_neg (by simp[h4]),if_pos h]
theorem TF {key:List UInt8} {p:bT} {n:List UInt8} (h1:key.length=32) (h2:16≤n.length∧n.length≤32) (h3:ci p=0) (h4:bu p.se=0) (h5:(bo p.pl 1028).length=0) (h:p.pl.length=24):dr key p n=8:=by
  unfold dr; rw[if_neg (by omega),if_neg (by omega),if_neg (by simp[h3]),if_neg (by simp[h4]),if_neg (by simp[h5]),if_pos h]
theorem TG {key:List UInt8} {p:bT} {n:List UInt8} (h1:key.length=32) (h2:16≤n.length∧n.length≤32) (h3:ci p=0) (h4:bu p.se=0) (h5:(bo p.pl 1028).length=0) (h6:p.pl.length≠24):dr key p n=if bu [be key p n]≠0∨1280<(bX p).length+bn [be key p n] then 2 else 0:=by
  unfold dr; rw[if_neg (by omega),if_neg (by omega),if_neg (by simp[h3]),if_neg (by simp[h4]),if_neg (by simp[h5]),if_neg h6]
def iJ:aB:=⟨3,78,.seq (.reg [oO 4 (.box .roBox (.t 1)),oO 6 (.mv (.k (.c .nil))),oO 7 (.mv (kI 0))]) (.seq (.seq (.reg [oM 14 0,oO 15 (.len (.t 14)),oO 16 (.bin .neq (.t 15) (kI 32))]) (.cond (.t 16) (.seq (.reg [oO 6 (.mv (.k (.c .nil))),oO 7 (.mv (kI 5))]) (.ret)) (.skip))) (.seq (.seq (.reg [oM 17 2,oO 18 (.len (.t 17)),oO 19 (.call 49 [(.t 18)] none),oO 20 (.un .not (.t 19))]) (.cond (.t 20) (.seq (.reg [oO 6 (.mv (.k (.c .nil))),oO 7 (.mv (kI 4))]) (.ret)) (.skip))) (.seq (.reg [oO 22 (.load (.ag 16) (.t 4)),oO 23 (.call 50 [(.t 22)] none),oM 21 23,oO 24 (.extract (.t 21) 0),oO 25 (.extract (.t 21) 1),oM 8 24,oM 9 25]) (.seq (.seq (.reg [oM 26 9,oO 27 (.bin .neq (.t 26) (kI 0))]) (.cond (.t 27) (.seq (.reg [oM 28 9,oO 6 (.mv (.k (.c .nil))),oM 7 28]) (.ret)) (.skip))) (.seq (.reg [oO 30 (.fieldAddr 14 (.t 4)),
 oO 31 (.load .sc (.t 30)),oO 32 (.call 51 [(.t 31)] none),oM 29 32,oO 33 (.extract (.t 29) 0),oO 34 (.extract (.t 29) 1),oM 10 33,oM 9 34]) (.seq (.seq (.reg [oM 35 9,oO 36 (.bin .neq (.t 35) (kI 0))]) (.cond (.t 36) (.seq (.reg [oM 37 9,oO 6 (.mv (.k (.c .nil))),oM 7 37]) (.ret)) (.skip))) (.seq (.seq (.reg [oO 38 (.fieldAddr 13 (.t 4)),oO 39 (.load .sc (.t 38)),oO 40 (.call 37 [(.t 39),(kI 1028)] none),oO 41 (.len (.t 40)),oO 42 (.bin .gtr (.t 41) (kI 0))]) (.cond (.t 42) (.seq (.reg [oO 6 (.mv (.k (.c .nil))),oO 7 (.mv (kI 3))]) (.ret)) (.skip))) (.seq (.seq (.reg [oO 43 (.fieldAddr 13 (.t 4)),oO 44 (.load .sc (.t 43)),oO 45 (.len (.t 44)),oO 46 (.bin .eql (.t 45) (kI 24))]) (.cond (.t 46) (.seq (.reg [oO 6 (.mv (.k (.c .nil))),oO 7 (.mv (kI 8))]) (.ret)) (.skip))) (.seq (.reg [oM 48 0,
 oM 49 8,oM 50 2,oO 51 (.bldSl false 2 1 (.sl []) [(0,(.t 49)),(1,(.t 50))]),oM 52 10,oO 53 (.call 52 [(.t 48),(.t 51),(.t 52)] none),oM 47 53,oO 54 (.extract (.t 47) 0),oO 55 (.extract (.t 47) 1),oM 11 54,oM 12 55]) (.seq (.reg [oM 57 2,oM 58 11,oO 59 (.call 53 [(.t 57),(.t 58)] none),oO 60 (.bldSl false 1 2 (.agg [(.int .i64 0),(.sl [])]) [(0,(.t 59))]),oO 61 (.call 51 [(.t 60)] none),oM 56 61,oO 62 (.extract (.t 56) 0),oO 63 (.extract (.t 56) 1),oM 13 62,oM 9 63]) (.seq (.seq (.reg [oM 64 9,oO 65 (.bin .neq (.t 64) (kI 0)),oM 66 65,oG 67 (.mv (.t 8)) 66 false,oG 68 (.len (.t 67)) 66 false,oG 69 (.mv (.t 13)) 66 false,oG 70 (.len (.t 69)) 66 false,oG 71 (.bin .add (.t 68) (.t 70)) 66 false,oG 72 (.bin .gtr (.t 71) (kI 1280)) 66 false,oO 73 (.pick (.t 66) (.k (.c (.d (.bool true)))) (.t 72))])
 (.cond (.t 73) (.seq (.reg [oO 6 (.mv (.k (.c .nil))),oO 7 (.mv (kI 2))]) (.ret)) (.skip))) (.seq (.reg [oM 74 8,oM 75 13,oO 76 (.bldSl false 2 1 (.sl []) [(0,(.t 74)),(1,(.t 75))]),oO 77 (.call 30 [(.t 76)] (some (0,1))),oM 6 77,oO 7 (.mv (kI 0))]) (.ret))))))))))))),[(6,none),(7,none)]⟩
theorem PF:aA Try.prog { own:=[77],comp:=[],frz:=[],nils:=[] } Try.f34=some iJ:=by kernel_rfl
theorem R6 (G:aj) (key:List UInt8) (p:bT) (n:List UInt8) (hk:key.length≤9223372036854775807) (hf:mX p.hd) (hl:p.pl.length≤1000000) (hd:∀ f∈p.pl,f.da.length≤8000000000000000000) (hl2:p.se.length≤1000000) (hd2:∀ f∈p.se,f.da.length≤8000000000000000000) (hn:n.length≤9223372036854775807):ar Try.prog G 34 [.sl (key.map bD),cz p,.sl (n.map bD)] (.tup [.c (.fr 1 ((cb key p n).map bD)),.c (.d (.int .i64 (dr key p n)))]):=by
  refine aF Try.func34 PF rfl rfl ?_;have cf:=Hl G (n.length:Int);have c1:=R4 G p hf hl hd;have c2:=wF G p.se hl2 hd2;have c3:=Ha G p.pl 1028 hl;by_cases h1:key.length=32
  ·by_cases h2:16≤n.length∧n.length≤32
   ·rw[decide_eq_true (by omega)] at cf;by_cases h3:ci p=0
    ·have hXl:=Hp h3;rw[Ip h3,h3] at c1;by_cases h4:bu p.se=0
     ·obtain⟨_,_,s3,s4⟩:=ll h4;rw[h4,s4] at c2;by_cases h5:(bo p.pl 1028).length=0
      ·by_cases h6:p.pl.length=24
       ·have e:=TF (key:=key) (n:=n) h1 h2 h3 h4 h5 h6;rw[j8 e (by decide),e];clear e h3 h4;generalize bX p=X at *
        generalize aM p.se=Y at *
        generalize bo p.pl 1028=Z at *
        unfold cz at *
        simp only[iJ,ah,ae,aa,seval,iteOmega,toNatUp,h1];refine sD (cf) ?_;refine sD (c1) ?_;refine sD (c2) ?_;refine sC (c3) ?_;simp only[h5,h6,ae,aa,seval,iteOmega,toNatUp];exact cv
       ·have e7:=TG (key:=key) (n:=n) h1 h2 h3 h4 h5 h6;have hae:bP key [bX p,n] ((aM p.se).length:Int)=0:=wH h1 (by omega) (by omega) (by rw[fq]; omega);have hsl:(en key p n).length=16+bn p.se:=by unfold en; rw[qh hae,UF,jd,kR,fq]
        have c4:=Q9 G key [bX p,n] (aM p.se) hk (by simp) (fun x hx=>by simp at hx; rcases hx with rfl | rfl <;> omega) (by rw[fq]; omega);rw[hae,show lj key [bX p,n] (aM p.se)=en key p n from rfl] at c4;have c5:=Io G n (en key p n) (by omega) (by omega);have hgl:(bU n (en key p n)).length≤4000:=by rw[nI]; omega
        have c6:=wF G [be key p n] (by simp) (fun f hf=>by rw[UO.1 hf]; show (bU n (en key p n)).length≤_; omega);rw[show aR (g9 n (en key p n))=aR (be key p n) from rfl] at c5;rw[List.map_singleton] at c6;by_cases h7:bu [be key p n]=0
        ·obtain⟨_,_,g3,g4⟩:=ll h7;rw[h7,g4] at c6;have hGl:=fq [be key p n];rcases U5 1280 ((bX p).length+bn [be key p n]) with h8 | h8
         ·have e:dr key p n=2:=by rw[e7,if_pos (.inr h8)]
          rw[j8 e (by decide),e];rw[← hGl] at h8;have g8:(((bX p).length:Int)+((aM [be key p n]).length:Int)>1280)=True:=eq_true (by omega);clear e e7 h3 h4 h7 hae hsl;unfold dV at c4;simp only[UE,UT] at c4;generalize aM [be key p n]=W at *
          generalize be key p n=g at *
          generalize en key p n=S at *
          generalize bX p=X at *
          generalize aM p.se=Y at *
          generalize bo p.pl 1028=Z at *
          unfold cz aR at *
          simp only[iJ,ah,ae,aa,seval,iteOmega,toNatUp,h1];refine sD (cf) ?_;refine sD (c1) ?_;refine sD (c2) ?_;refine sC (c3) ?_;simp only[h5,h6,ae,aa,seval,iteOmega,toNatUp];refine sD (c4) ?_;refine sD (c5) ?_;refine sC (c6) ?_;simp only[g8,ae,aa,seval,iteOmega,toNatUp];exact cv
         ·have e:dr key p n=0:=by rw[e7,if_neg (by omega)]
          have eB:cb key p n=bX p++aM [be key p n]:=if_pos e;have cj:=dw G [bX p,aM [be key p n]] (by simp) (by simp; omega);have hfl:[bX p,aM [be key p n]].flatten=cb key p n:=by rw[eB]; simp
          rw[hfl] at cj;simp only[UE,UT] at cj;rw[e];rw[← hGl] at h8;have g8:(((bX p).length:Int)+((aM [be key p n]).length:Int)>1280)=False:=eq_false (by omega);clear e e7 h3 h4 h7 hae hsl eB hfl;unfold dV at c4;simp only[UE,UT] at c4;generalize cb key p n=V at *
          generalize aM [be key p n]=W at *
          generalize be key p n=g at *
          generalize en key p n=S at *
          generalize bX p=X at *
          generalize aM p.se=Y at *
          generalize bo p.pl 1028=Z at *
          unfold cz aR at *
          simp only[iJ,ah,ae,aa,seval,iteOmega,toNatUp,h1];refine sD (cf) ?_;refine sD (c1) ?_;refine sD (c2) ?_;refine sC (c3) ?_;simp only[h5,h6,ae,aa,seval,iteOmega,toNatUp];refine sD (c4) ?_;refine sD (c5) ?_;refine sC (c6) ?_;simp only[g8,ae,aa,seval,iteOmega,toNatUp];refine sD (cj) ?_;exact cv
        ·have e:dr key p n=2:=by rw[e7,if_pos (.inl h7)]
         rw[j8 e (by decide),e];have g7:(bu [be key p n]=0)=False:=eq_false h7;clear e e7 h3 h4 h7 hae hsl;unfold dV at c4;simp only[UE,UT] at c4;generalize bu [be key p n]=E at *
         generalize fG [be key p n]=W at *
         generalize be key p n=g at *
         generalize en key p n=S at *
         generalize bX p=X at *
         generalize aM p.se=Y at *
         generalize bo p.pl 1028=Z at *
         unfold cz aR at *
         simp only[iJ,ah,ae,aa,seval,iteOmega,toNatUp,h1];refine sD (cf) ?_;refine sD (c1) ?_;refine sD (c2) ?_;refine sC (c3) ?_;simp only[h5,h6,ae,aa,seval,iteOmega,toNatUp];refine sD (c4) ?_;refine sD (c5) ?_;refine sC (c6) ?_;simp only[g7,ae,aa,seval,iteOmega,toNatUp];exact cv
      ·have e:=TE (key:=key) (n:=n) h1 h2 h3 h4 h5;rw[j8 e (by decide),e];clear e h3 h4;generalize bX p=X at *
       generalize aM p.se=Y at *
       generalize bo p.pl 1028=Z at *
       unfold cz at *
       simp only[iJ,ah,ae,aa,seval,iteOmega,toNatUp,h1];refine sD (cf) ?_;refine sD (c1) ?_;refine sD (c2) ?_;refine sD (c3) ?_;exact cv
     ·have e:=TD (key:=key) (n:=n) h1 h2 h3 h4;rw[j8 e h4,e];have g4:(bu p.se=0)=False:=eq_false h4;clear e h3 h4;generalize bX p=X at *
      generalize bu p.se=E at *
      generalize fG p.se=Y at *
      unfold cz at *
      simp only[iJ,ah,ae,aa,seval,iteOmega,toNatUp,h1];refine sD (cf) ?_;refine sD (c1) ?_;refine sC (c2) ?_;simp only[g4,ae,aa,seval,iteOmega,toNatUp];exact cv
    ·have e:=TC (key:=key) (n:=n) h1 h2 h3;rw[j8 e h3,e];have g3:(ci p=0)=False:=eq_false h3;clear e h3;generalize ci p=E at *
     generalize sS p=X at *
     unfold cz at *
     simp only[iJ,ah,ae,aa,seval,iteOmega,toNatUp,h1];refine sD (cf) ?_;refine sC (c1) ?_;simp only[g3,ae,aa,seval,iteOmega,toNatUp];exact cv
   ·have e:=TB (key:=key) (p:=p) (n:=n) h1 (by omega);rw[decide_eq_false (by omega)] at cf;rw[j8 e (by decide),e];unfold cz;simp only[iJ,ah,ae,aa,seval,iteOmega,toNatUp,h1];refine sD (cf) ?_;exact cv
  ·have e:=TA (key:=key) (p:=p) (n:=n) h1;rw[j8 e (by decide),e];unfold cz;simp only[iJ,ah,ae,aa,seval,iteOmega,toNatUp];exact cv
theorem Hq (l:List Fd) (k:Int):∀ n,∀ x∈cK l k n,0≤x∧x<(n:Int)
  | 0,x,h=>by cases h
  | n+1,x,h=>by
    rw[cK,UY] at h;rcases h with h | h
    ·have:=Hq l k n x h; omega
    ·split at h
     ·rw[UO] at h; omega
     ·cases h
theorem M1 {L:List Fd} (h:(bo L 1028).length≠0):∃ i:Nat,i<L.length∧(bo L 1028).getD 0 0=(i:Int)∧(bo L 1028)[0]?=some (i:Int):=by
  have h0:0<(bo L 1028).length:=by omega
  obtain⟨h1,h2⟩:=Hq L 1028 L.length (bo L 1028)[0] (U3 h0);have e:(((bo L 1028)[0].toNat:Nat):Int)=(bo L 1028)[0]:=by omega
  refine⟨(bo L 1028)[0].toNat,by omega,?_,?_⟩
  ·rw[UD,UB h0,e]; rfl
  ·rw[UB h0,e]
theorem R7 {b:List UInt8} (h:ee b=0):dE b=0∧cx (b.drop 48)=0∧48≤b.length∧b.length≤1280∧jJ b=⟨bN b,aY (b.drop 48),[],false⟩:=by
  have hd:dE b=0:=by
    by_cases e:dE b=0
    ·exact e
    ·rw[(CH e).1] at h; exact absurd h e
  have h2:=(Ae hd).1;rw[h] at h2;have hl:48≤b.length∧b.length≤1280:=by
    unfold dE at hd;split at hd
    ·cases hd
    ·split at hd
     ·cases hd
     ·omega
  exact⟨hd,h2.symm,hl.1,hl.2,if_pos h⟩
theorem PG {r:List UInt8} {f:Fd} (h:f∈aY r):f.da.length≤r.length:=by
  unfold aY at h;split at h
  ·obtain⟨i,_,rfl⟩:=U4.1 h;unfold oU aE; simp; omega
  ·cases h
theorem EU {r:List UInt8}:(aY r).length≤24:=by
  unfold aY;split
  ·rw[vJ]; exact (rm r).1
  ·exact UR _
theorem R8 {r:List UInt8} {i:Nat} (h:cx r=0) (hi:i<(aY r).length):(iB r)[i]?=some (aJ r i:Int)∧aJ r i≤r.length:=by
  obtain⟨h1,h2,h3,h4⟩:=Tn h;have e1:aY r=fh r (cU r):=by unfold aY; rw[if_pos h,h3]
  have e2:iB r=eU r (cU r):=by unfold iB; rw[if_pos h,h3]
  rw[e1,vJ] at hi;refine⟨?_,wE r i (by omega)⟩;rw[e2];unfold eU;rw[VC,List.getElem?_range hi];rfl
theorem k7 {key b:List UInt8} {e:Int} (h:fk key b=e) (he:e≠0):mY key b=fX:=if_neg (by rw[h]; exact he)
theorem TH {key b:List UInt8} (h:key.length≠32):fk key b=5:=if_pos h
theorem TI {key b:List UInt8} (h1:key.length=32) (h:ee b≠0):fk key b=ee b:=by unfold fk; rw[if_neg (by omega),if_pos h]
theorem TJ {key b:List UInt8} (h1:key.length=32) (h2:ee b=0) (h:(bo (aY (b.drop 48)) 1028).length=0):fk key b=10:=by
  unfold fk; rw[if_neg (by omega),if_neg (by simp[h2]),if_pos h]
theorem Iq {key b:List UInt8} (h1:key.length=32) (h2:ee b=0) (h3:(bo (aY (b.drop 48)) 1028).length≠0) (h:(bo (aY (b.drop 48)) 1028).getD 0 0≠(cH b:Int)∨¬ dX (cq b)):fk key b=3:=by
  unfold fk; rw[if_neg (by omega),if_neg (by simp[h2]),if_neg h3,if_pos h]
theorem TK {key b:List UInt8} (h1:key.length=32) (h2:ee b=0) (h3:(bo (aY (b.drop 48)) 1028).length≠0) (h4:(bo (aY (b.drop 48)) 1028).getD 0 0=(cH b:Int)) (h5:dX (cq b)):fk key b=if kF key b≠0 then 6 else cx (fj key b):=by
  unfold fk; rw[if_neg (by omega),if_neg (by simp[h2]),if_neg h3,if_neg (by rintro (k | k); exact k h4; exact k h5)]
theorem M2 {key:List UInt8} {ad:List (List UInt8)} {s:List UInt8}:(fU key ad s).length≤s.length:=by
  unfold fU;split
  ·rw[kR]; simp
  ·exact UR _
structure Uz (b:List UInt8) where
  l1:48≤b.length
  l2:b.length≤1280
  ea:cx (b.drop 48)=0
  rd:jJ b=⟨bN b,aY (b.drop 48),[],false⟩
theorem R9 {d:List UInt8} (h:dX d):oV d=bQ d∧oW d=cW d:=⟨if_pos h,if_pos h⟩
theorem TL {d:List UInt8} (h:dX d):(bQ d).length≤32∧(cW d).length≤d.length:=by
  obtain⟨h1,h2,h3,h4,h5⟩:=h;unfold bQ cW aE;simp;omega
def jk:aB:=⟨2,108,.seq (.reg [oO 4 (.alloc [(.d (.int .i64 0)),(.d (.int .i64 0)),(.d (.int .i64 0)),(.d (.int .i64 0)),(.d (.int .i64 0)),(.d (.int .i64 0)),(.d (.int .u32 0)),(.d (.int .u32 0)),(.d (.int .u32 0)),(.d (.int .u64 0)),(.d (.int .u64 0)),(.d (.int .u64 0)),(.d (.int .u64 0)),.nil,.nil,(.d (.bool false))]),oO 5 (.mv (kI 0))]) (.seq (.seq (.reg [oM 18 0,oO 19 (.len (.t 18)),oO 20 (.bin .neq (.t 19) (kI 32))]) (.cond (.t 20) (.seq (.reg [oO 21 (.build [(.d (.int .i64 0)),(.d (.int .i64 0)),(.d (.int .i64 0)),(.d (.int .i64 0)),(.d (.int .i64 0)),(.d (.int .i64 0)),(.d (.int .u32 0)),(.d (.int .u32 0)),(.d (.int .u32 0)),(.d (.int .u64 0)),(.d (.int .u64 0)),(.d (.int .u64 0)),(.d (.int .u64 0)),.nil,.nil,(.d (.bool false))] []),oN (.store (.ag 16) (.t 4) (.t 21)),oO 5 (.mv (kI 5))])
 (.ret)) (.skip))) (.seq (.reg [oM 23 1,oO 24 (.call 36 [(.t 23)] none),oM 22 24,oO 25 (.extract (.t 22) 0),oO 26 (.extract (.t 22) 1),oO 6 (.alloc [(.d (.int .i64 0)),(.d (.int .i64 0)),(.d (.int .i64 0)),(.d (.int .i64 0)),(.d (.int .i64 0)),(.d (.int .i64 0)),(.d (.int .u32 0)),(.d (.int .u32 0)),(.d (.int .u32 0)),(.d (.int .u64 0)),(.d (.int .u64 0)),(.d (.int .u64 0)),(.d (.int .u64 0)),.nil,.nil,(.d (.bool false))]),oN (.store (.ag 16) (.t 6) (.t 25)),oM 7 26]) (.seq (.seq (.reg [oM 27 7,oO 28 (.bin .neq (.t 27) (kI 0))]) (.cond (.t 28) (.seq (.reg [oO 29 (.build [(.d (.int .i64 0)),(.d (.int .i64 0)),(.d (.int .i64 0)),(.d (.int .i64 0)),(.d (.int .i64 0)),(.d (.int .i64 0)),(.d (.int .u32 0)),(.d (.int .u32 0)),(.d (.int .u32 0)),(.d (.int .u64 0)),(.d (.int .u64 0)),(.d (.int .u64 0)),(.d (.int .u64 0)),.nil,.nil,(.d (.bool false))] []),
 oM 30 7,oN (.store (.ag 16) (.t 4) (.t 29)),oM 5 30]) (.ret)) (.skip))) (.seq (.reg [oO 31 (.fieldAddr 13 (.t 6)),oO 32 (.load .sc (.t 31)),oO 33 (.call 37 [(.t 32),(kI 1028)] none),oM 8 33]) (.seq (.seq (.reg [oM 34 8,oO 35 (.len (.t 34)),oO 36 (.bin .eql (.t 35) (kI 0))]) (.cond (.t 36) (.seq (.reg [oO 37 (.build [(.d (.int .i64 0)),(.d (.int .i64 0)),(.d (.int .i64 0)),(.d (.int .i64 0)),(.d (.int .i64 0)),(.d (.int .i64 0)),(.d (.int .u32 0)),(.d (.int .u32 0)),(.d (.int .u32 0)),(.d (.int .u64 0)),(.d (.int .u64 0)),(.d (.int .u64 0)),(.d (.int .u64 0)),.nil,.nil,(.d (.bool false))] []),oN (.store (.ag 16) (.t 4) (.t 37)),oO 5 (.mv (kI 10))]) (.ret)) (.skip))) (.seq (.reg [oO 38 (.fieldAddr 13 (.t 6)),oO 39 (.load .sc (.t 38)),oO 40 (.len (.t 39)),oO 41 (.bin .sub (.t 40) (kI 1)),oM 9 41])
 (.seq (.reg [oO 43 (.fieldAddr 13 (.t 6)),oO 44 (.load .sc (.t 43)),oM 45 8,oO 46 (.idxSl 1 (.t 45) (kI 0)),oO 47 (.load .sc (.t 46)),oO 48 (.idxSl 2 (.t 44) (.t 47)),oO 49 (.fieldAddr 1 (.t 48)),oO 50 (.load .sc (.t 49)),oO 51 (.call 38 [(.t 50)] none),oM 42 51,oO 52 (.extract (.t 42) 0),oO 53 (.extract (.t 42) 1),oO 54 (.extract (.t 42) 2),oM 10 52,oM 11 53,oM 12 54]) (.seq (.seq (.reg [oM 55 8,oO 56 (.idxSl 1 (.t 55) (kI 0)),oO 57 (.load .sc (.t 56)),oM 58 9,oO 59 (.bin .neq (.t 57) (.t 58)),oM 60 59,oG 61 (.mv (.t 12)) 60 false,oG 62 (.un .not (.t 61)) 60 false,oO 63 (.pick (.t 60) (.k (.c (.d (.bool true)))) (.t 62))]) (.cond (.t 63) (.seq (.reg [oO 64 (.build [(.d (.int .i64 0)),(.d (.int .i64 0)),(.d (.int .i64 0)),(.d (.int .i64 0)),(.d (.int .i64 0)),(.d (.int .i64 0)),(.d (.int .u32 0)),(.d (.int .u32 0)),(.d (.int .u32 0)),(.d (.int .u64 0)),(.d (.int .u64 0)),(.d (.int .u64 0)),(.d (.int .u64 0)),.nil,.nil,(.d (.bool false))] []),
 oN (.store (.ag 16) (.t 4) (.t 64)),oO 5 (.mv (kI 3))]) (.ret)) (.skip))) (.seq (.reg [oM 66 1,oO 67 (.slice 1 (.t 66) (some (kI 48)) none none),oO 68 (.call 39 [(.t 67)] none),oM 65 68,oO 69 (.extract (.t 65) 0),oO 70 (.extract (.t 65) 1),oM 13 69,oM 14 70]) (.seq (.reg [oM 71 1,oM 72 13,oM 73 9,oO 74 (.idxSl 1 (.t 72) (.t 73)),oO 75 (.load .sc (.t 74)),oO 76 (.bin .add (kI 48) (.t 75)),oO 77 (.slice 1 (.t 71) none (some (.t 76)) none),oM 15 77]) (.seq (.reg [oM 79 0,oM 80 15,oM 81 10,oO 82 (.bldSl false 2 1 (.sl []) [(0,(.t 80)),(1,(.t 81))]),oM 83 11,oO 84 (.call 40 [(.t 79),(.t 82),(.t 83)] none),oM 78 84,oO 85 (.extract (.t 78) 0),oO 86 (.extract (.t 78) 1),oM 16 85,oM 7 86]) (.seq (.seq (.reg [oM 87 7,oO 88 (.bin .neq (.t 87) (kI 0))]) (.cond (.t 88) (.seq (.reg [oO 89 (.build [(.d (.int .i64 0)),(.d (.int .i64 0)),(.d (.int .i64 0)),(.d (.int .i64 0)),(.d (.int .i64 0)),(.d (.int .i64 0)),(.d (.int .u32 0)),(.d (.int .u32 0)),(.d (.int .u32 0)),(.d (.int .u64 0)),(.d (.int .u64 0)),(.d (.int .u64 0)),(.d (.int .u64 0)),.nil,.nil,(.d (.bool false))] []),
 oN (.store (.ag 16) (.t 4) (.t 89)),oO 5 (.mv (kI 6))]) (.ret)) (.skip))) (.seq (.reg [oM 91 16,oO 92 (.call 41 [(.t 91)] none),oM 90 92,oO 93 (.extract (.t 90) 0),oO 94 (.extract (.t 90) 1),oM 17 93,oM 7 94]) (.seq (.seq (.reg [oM 95 7,oO 96 (.bin .neq (.t 95) (kI 0))]) (.cond (.t 96) (.seq (.reg [oO 97 (.build [(.d (.int .i64 0)),(.d (.int .i64 0)),(.d (.int .i64 0)),(.d (.int .i64 0)),(.d (.int .i64 0)),(.d (.int .i64 0)),(.d (.int .u32 0)),(.d (.int .u32 0)),(.d (.int .u32 0)),(.d (.int .u64 0)),(.d (.int .u64 0)),(.d (.int .u64 0)),(.d (.int .u64 0)),.nil,.nil,(.d (.bool false))] []),oM 98 7,oN (.store (.ag 16) (.t 4) (.t 97)),oM 5 98]) (.ret)) (.skip))) (.seq (.reg [oO 99 (.fieldAddr 0 (.t 6)),oO 100 (.load (.ag 13) (.t 99)),oO 101 (.fieldAddr 13 (.t 6)),oO 102 (.load .sc (.t 101)),
 oM 103 9,oM 104 9,oO 105 (.slice 2 (.t 102) none (some (.t 103)) (some (.t 104))),oM 106 17,oO 107 (.build [(.d (.int .i64 0)),(.d (.int .i64 0)),(.d (.int .i64 0)),(.d (.int .i64 0)),(.d (.int .i64 0)),(.d (.int .i64 0)),(.d (.int .u32 0)),(.d (.int .u32 0)),(.d (.int .u32 0)),(.d (.int .u64 0)),(.d (.int .u64 0)),(.d (.int .u64 0)),(.d (.int .u64 0)),.nil,.nil,(.d (.bool false))] [(0,13,(.t 100)),(13,1,(.t 105)),(14,1,(.t 106)),(15,1,(.k (.c (.d (.bool true)))))]),oN (.store (.ag 16) (.t 4) (.t 107)),oO 5 (.mv (kI 0))]) (.ret)))))))))))))))),[(4,(some (.ag 16))),(5,none)]⟩
theorem PH:aA Try.prog { own:=[],comp:=[],frz:=[],nils:=[] } Try.f20=some jk:=by kernel_rfl
set_option maxHeartbeats 3200000 in
theorem Sa (G:aj) (key b:List UInt8) (hk:key.length≤9223372036854775807) (hb:b.length≤9000000000000000000):ar Try.prog G 20 [.sl (key.map bD),.sl (b.map bD)] (.tup [.c (.d (cz (mY key b))),.c (.d (.int .i64 (fk key b)))]):=by
  refine aF Try.func20 PH rfl rfl ?_;have c1:=R5 G b hb;by_cases h1:key.length=32
  ·by_cases h2:ee b=0
   ·obtain⟨d1,d2,d3,d4,d5⟩:=R7 h2;rw[h2,d5] at c1;have hRl:(b.drop 48).length=b.length-48:=by simp
    have c2:=Ha G (aY (b.drop 48)) 1028 (by have:=@EU (b.drop 48); omega);by_cases h3:(bo (aY (b.drop 48)) 1028).length=0
    ·have e:=TJ h1 h2 h3;rw[k7 e (by decide),e];clear e d1 d2 d5 h2;generalize bo (aY (b.drop 48)) 1028=Z at *
     generalize aY (b.drop 48)=L at *
     generalize bN b=q at *
     unfold cz fX Hd.z at *
     simp only[jk,ah,ae,aa,seval,iteOmega,toNatUp,h1];refine sD (c1) ?_;refine sC (c2) ?_;simp only[h3,ae,aa,seval,iteOmega,toNatUp];exact dv (by simp only[ae,aa,seval,iteOmega,toNatUp] <;> rfl) (by simp only[ae,aa,seval,iteOmega,toNatUp])
    ·obtain⟨i,hi,i2,i3⟩:=M1 h3;have hLl:=@EU (b.drop 48);have gi:=sL hi;have hdl:=PG (qm hi);have c3:=R3 G ((aY (b.drop 48)).getD i default).da (by omega);have hz3:((bo (aY (b.drop 48)) 1028).length:Int)≠0:=by omega
     have hz3':(((bo (aY (b.drop 48)) 1028).length:Int)=0)=False:=eq_false hz3;have hz4:(0:Int)<((bo (aY (b.drop 48)) 1028).length:Int):=by omega
     by_cases h4:i=cH b
     ·have hL1:(cH b:Int)=((aY (b.drop 48)).length:Int)-1:=by unfold cH; omega
      rw[h4] at i2 i3 gi c3 hdl hi;have hfd:((aY (b.drop 48)).getD (cH b) default).da=cq b:=rfl;rw[hfd] at c3 hdl;by_cases h5:dX (cq b)
      ·obtain⟨p1,p2⟩:=R9 h5;obtain⟨q1,q2⟩:=TL h5;have hgl:(cq b).length≤1280:=by
         omega
       obtain⟨x1,x2⟩:=R8 d2 hi;have x3:(cH b:Int)<((iB (b.drop 48)).length:Int):=by
         have:=(US.1 x1).1;omega
       have c4:=RN G (b.drop 48) (by omega);rw[d2] at c4;have hAl:(gC b).length≤1280:=by unfold gC; simp; omega
       have c5:=Tg G key [gC b,bQ (cq b)] (cW (cq b)) hk (by simp) (fun x hx=>by simp at hx; rcases hx with rfl | rfl <;> omega) (by omega);rw[show eR key [gC b,bQ (cq b)] (cW (cq b))=kF key b from rfl,show fU key [gC b,bQ (cq b)] (cW (cq b))=fj key b from rfl] at c5;have hVl:(fj key b).length≤1280:=by
         have:(fj key b).length≤(cW (cq b)).length:=M2;omega
       have c6:=Hf G (fj key b) (by omega);have e5:=TK h1 h2 h3 i2 h5;rw[p1,p2,decide_eq_true h5] at c3;have hcut:b.take (48+aJ (b.drop 48) (cH b))=gC b:=rfl;unfold dV at c5;simp only[UE,UT] at c5;have hdr:(b.drop 48).take (b.length-48)=b.drop 48:=UG (by omega);by_cases h6:kF key b=0
       ·rw[if_neg (by simp[h6])] at e5;rw[h6] at c5;by_cases h7:cx (fj key b)=0
        ·rw[h7] at e5 c6;have eP:mY key b=⟨bN b,(aY (b.drop 48)).take (cH b),aY (fj key b),true⟩:=if_pos e5;rw[eP,e5];have az:=CC (aY (b.drop 48));have hle:(cH b≤(aY (b.drop 48)).length)=True:=eq_true (by omega);clear eP e5 d1 d2 d5 h2 h7 h6 p1 p2 h5 q1 q2 hgl h4 hz3;generalize hZ:bo (aY (b.drop 48)) 1028=Z at *
         generalize aJ (b.drop 48) (cH b)=pp at *
         generalize iB (b.drop 48)=PL at *
         generalize fj key b=V at *
         generalize gC b=A at *
         generalize bQ (cq b)=n at *
         generalize cW (cq b)=s at *
         generalize cq b=GG at *
         generalize cH b=last at *
         generalize bN b=q at *
         generalize aY V=LV at *
         generalize aY (b.drop 48)=L at *
         generalize L.getD last default=gf at *
         unfold cz aR at *
         simp only[jk,ah,ae,aa,seval,iteOmega,toNatUp,h1];refine sD (c1) ?_;refine sC (c2) ?_;simp only[hz3',aV,i3,zD,← hL1,gi,aR,hfd,ae,aa,seval,iteOmega,toNatUp];refine sC (c3) ?_;simp only[aV,i3,zD,← hL1,hdr,ae,aa,seval,iteOmega,toNatUp];refine sC (c4) ?_;simp only[hdr,x1,aV,zD,hcut,ae,aa,seval,iteOmega,toNatUp];refine sD (c5) ?_;refine sC (c6) ?_;simp only[az,hle,UR,and_self,ae,aa,seval,iteOmega,toNatUp];exact dv (by simp only[ae,aa,seval,iteOmega,toNatUp] <;> rfl) (by simp only[ae,aa,seval,iteOmega,toNatUp])
        ·rw[k7 e5 h7,e5];have g7:(cx (fj key b)=0)=False:=eq_false h7;clear e5 d1 d2 d5 h2 h7 h6 p1 p2 h5 q1 q2 hgl h4 hz3;generalize cx (fj key b)=E at *
         generalize hZ:bo (aY (b.drop 48)) 1028=Z at *
         generalize aJ (b.drop 48) (cH b)=pp at *
         generalize iB (b.drop 48)=PL at *
         generalize fj key b=V at *
         generalize gC b=A at *
         generalize bQ (cq b)=n at *
         generalize cW (cq b)=s at *
         generalize cq b=GG at *
         generalize cH b=last at *
         generalize bN b=q at *
         generalize aY V=LV at *
         generalize aY (b.drop 48)=L at *
         generalize L.getD last default=gf at *
         unfold fX Hd.z;unfold cz aR at *
         simp only[jk,ah,ae,aa,seval,iteOmega,toNatUp,h1];refine sD (c1) ?_;refine sC (c2) ?_;simp only[hz3',aV,i3,zD,← hL1,gi,aR,hfd,ae,aa,seval,iteOmega,toNatUp];refine sC (c3) ?_;simp only[aV,i3,zD,← hL1,hdr,ae,aa,seval,iteOmega,toNatUp];refine sC (c4) ?_;simp only[hdr,x1,aV,zD,hcut,ae,aa,seval,iteOmega,toNatUp];refine sD (c5) ?_;refine sC (c6) ?_;simp only[g7,ae,aa,seval,iteOmega,toNatUp];exact dv (by simp only[ae,aa,seval,iteOmega,toNatUp] <;> rfl) (by simp only[ae,aa,seval,iteOmega,toNatUp])
       ·rw[if_pos h6] at e5;rw[k7 e5 (by decide),e5];have g6:(kF key b=0)=False:=eq_false h6;clear e5 d1 d2 d5 h2 h6 p1 p2 h5 q1 q2 hgl h4 hz3 c6;generalize kF key b=E at *
        generalize hZ:bo (aY (b.drop 48)) 1028=Z at *
        generalize aJ (b.drop 48) (cH b)=pp at *
        generalize iB (b.drop 48)=PL at *
        generalize fj key b=V at *
        generalize gC b=A at *
        generalize bQ (cq b)=n at *
        generalize cW (cq b)=s at *
        generalize cq b=GG at *
        generalize cH b=last at *
        generalize bN b=q at *
        generalize aY (b.drop 48)=L at *
        generalize L.getD last default=gf at *
        unfold fX Hd.z;unfold cz aR at *
        simp only[jk,ah,ae,aa,seval,iteOmega,toNatUp,h1];refine sD (c1) ?_;refine sC (c2) ?_;simp only[hz3',aV,i3,zD,← hL1,gi,aR,hfd,ae,aa,seval,iteOmega,toNatUp];refine sC (c3) ?_;simp only[aV,i3,zD,← hL1,hdr,ae,aa,seval,iteOmega,toNatUp];refine sC (c4) ?_;simp only[hdr,x1,aV,zD,hcut,ae,aa,seval,iteOmega,toNatUp];refine sC (c5) ?_;simp only[g6,ae,aa,seval,iteOmega,toNatUp];exact dv (by simp only[ae,aa,seval,iteOmega,toNatUp] <;> rfl) (by simp only[ae,aa,seval,iteOmega,toNatUp])
      ·have e:=Iq h1 h2 h3 (.inr h5);rw[k7 e (by decide),e];rw[decide_eq_false h5] at c3;clear e d1 d2 d5 h2 h5 h4 hz3;generalize hZ:bo (aY (b.drop 48)) 1028=Z at *
       generalize oV (cq b)=n at *
       generalize oW (cq b)=s at *
       generalize cq b=GG at *
       generalize cH b=last at *
       generalize bN b=q at *
       generalize aY (b.drop 48)=L at *
       generalize L.getD last default=gf at *
       unfold fX Hd.z cz aR at *
       simp only[jk,ah,ae,aa,seval,iteOmega,toNatUp,h1];refine sD (c1) ?_;refine sC (c2) ?_;simp only[hz3',aV,i3,zD,← hL1,gi,aR,hfd,ae,aa,seval,iteOmega,toNatUp];refine sC (c3) ?_;simp only[aV,i3,zD,← hL1,ae,aa,seval,iteOmega,toNatUp];exact dv (by simp only[ae,aa,seval,iteOmega,toNatUp] <;> rfl) (by simp only[ae,aa,seval,iteOmega,toNatUp])
     ·have e:=Iq h1 h2 h3 (.inl (by rw[i2]; omega));rw[k7 e (by decide),e];have hL1:(cH b:Int)=((aY (b.drop 48)).length:Int)-1:=by unfold cH; omega
      have g4:(i:Int)≠(cH b:Int):=by omega
      have g4':((i:Int)=(cH b:Int))=False:=eq_false g4;clear e d1 d2 d5 h2 h4 hz3;generalize decide (dX ((aY (b.drop 48)).getD i default).da)=ok at *
      generalize oV ((aY (b.drop 48)).getD i default).da=n at *
      generalize oW ((aY (b.drop 48)).getD i default).da=s at *
      generalize hZ:bo (aY (b.drop 48)) 1028=Z at *
      generalize cH b=last at *
      generalize bN b=q at *
      generalize aY (b.drop 48)=L at *
      generalize L.getD i default=gf at *
      unfold fX Hd.z cz aR at *
      simp only[jk,ah,ae,aa,seval,iteOmega,toNatUp,h1];refine sD (c1) ?_;refine sC (c2) ?_;simp only[hz3',aV,i3,zD,← hL1,gi,aR,ae,aa,seval,iteOmega,toNatUp];refine sC (c3) ?_;simp only[aV,i3,zD,← hL1,g4',ae,aa,seval,iteOmega,toNatUp];exact dv (by simp only[ae,aa,seval,iteOmega,toNatUp] <;> rfl) (by simp only[ae,aa,seval,iteOmega,toNatUp])
   ·have e:=TI h1 h2;have g:(ee b=0)=False:=eq_false h2;rw[k7 e h2,e];clear e h2;generalize ee b=E at *
    generalize jJ b=q at *
    unfold cz fX Hd.z at *
    simp only[jk,ah,ae,aa,seval,iteOmega,toNatUp,h1];refine sC (c1) ?_;simp only[g,ae,aa,seval,iteOmega,toNatUp];exact dv (by simp only[ae,aa,seval,iteOmega,toNatUp] <;> rfl) (by simp only[ae,aa,seval,iteOmega,toNatUp])
  ·have e:=TH (b:=b) h1;rw[k7 e (by decide),e];unfold cz fX Hd.z;simp only[jk,ah,ae,aa,seval,iteOmega,toNatUp];exact dv (by simp only[ae,aa,seval,iteOmega,toNatUp] <;> rfl) (by simp only[ae,aa,seval,iteOmega,toNatUp])
theorem nX:hC.da.length=104:=UW ..
theorem Ir (u c:List UInt8) (k:Nat):bh u c (k+1)=bh u c k++[hC]:=by
  unfold bh;rw[List.replicate_succ',UV]
theorem nJ (u c:List UInt8) (k:Nat):(bh u c k).length=k+2:=by
  unfold bh;rw[UF,UW]
  show 2+k=_
  omega
theorem qP {u c:List UInt8} {k:Nat} {f:Fd} (h:f∈bh u c k):f=⟨260,u⟩∨f=⟨516,c⟩∨f=hC:=by
  unfold bh at h;rcases UY.1 h with h | h
  ·rcases U9.1 h with h | h
   ·exact .inl h
   ·exact .inr (.inl (UO.1 h))
  ·exact .inr (.inr (List.eq_of_mem_replicate h))
theorem vN {u c:List UInt8} (hu:u.length=32) (hc:c.length=104):∀ k,bn (bh u c k)=144+108*k
  | 0=>by
    unfold bh bn aW;simp[hu,hc]
  | k+1=>by
    rw[Ir,qj,vN hu hc k];have:bn [hC]=108:=by
      unfold bn aW;simp[nX]
    omega
theorem wO {f:Fd} (h1:0≤f.ty) (h2:f.ty≤65535) (h3:f.da.length≤1228):bA f=0:=by
  unfold bA aW;rw[if_neg (by omega),if_neg (by omega)]
theorem TM {u c:List UInt8} (hu:u.length=32) (hc:c.length=104) {k:Nat} (hk:k≤8):bu (bh u c k)=0:=by
  refine wG (fun f hf=>?_) (by rw[nJ]; omega) (by rw[vN hu hc]; omega);rcases qP hf with rfl | rfl | rfl
  ·exact wO (show (0:Int)≤260 by decide) (show (260:Int)≤65535 by decide) (by show u.length≤_; omega)
  ·exact wO (show (0:Int)≤516 by decide) (show (516:Int)≤65535 by decide) (by show c.length≤_; omega)
  ·exact wO (by decide) (by decide) (by rw[nX]; decide)
theorem Sb {l:List Fd} {k:Int} (h:∀ f∈l,f.ty≠k):bo l k=[]:=CG h _ (UJ _)
theorem Sc {u c:List UInt8} {k:Nat}:bo (bh u c k) 1028=[]:=Sb fun f hf=>by
  rcases qP hf with rfl | rfl | rfl
  ·exact show (260:Int)≠1028 by decide
  ·exact show (516:Int)≠1028 by decide
  ·exact show (772:Int)≠1028 by decide
theorem TO (t:Nat):fg (cT t)=0:=xh.2 rfl
theorem Is {t:Nat} (h:t<18446744073709551616):mX (cT t):=⟨show 0<_ by decide,show 0<_ by decide,show 0<_ by decide,show 0<_ by decide,show 0<_ by decide,show 0<_ by decide,h⟩
theorem rV {key u c n:List UInt8} {t k:Nat} (h1:key.length=32) (hu:u.length=32) (hc:c.length=104) (hn:n.length=16) (hk:k≤8):oF key ⟨cT t,bh u c k,[],false⟩ n∧(cb key ⟨cT t,bh u c k,[],false⟩ n).length=232+108*k:=by
  have s:bn ([]:List Fd)=0:=rfl;have e:=TM hu hc hk;have un:ci ⟨cT t,bh u c k,[],false⟩=0:=by
    unfold ci;rw[if_pos (TO t)]; exact e
  have ht:=vN hu hc k;have ha:bP key [bX ⟨cT t,bh u c k,[],false⟩,n] ((aM []).length:Int)=0:=wH h1 (by rw[ma,ht]; omega) (by omega) (by decide);have hs:(en key ⟨cT t,bh u c k,[],false⟩ n).length=16:=by
    unfold en;rw[qh ha,UF,jd,kR]; rfl
  have hl:=nI n (en key ⟨cT t,bh u c k,[],false⟩ n);have hT:aW (be key ⟨cT t,bh u c k,[],false⟩ n)=40:=by
    unfold be;rw[rS (by omega),hl,hs]; omega
  have ok:oF key ⟨cT t,bh u c k,[],false⟩ n:=⟨h1,by omega,by omega,un,rfl,by rw[show bo (bh u c k) 1028=[] from Sc]; rfl,by rw[nJ]; omega,Ts (by omega) (by unfold be at hT; rw[rS (by omega)] at hT; omega),by rw[hT,ht]; omega⟩
  refine⟨ok,?_⟩;have hx:bn [be key ⟨cT t,bh u c k,[],false⟩ n]=40:=by unfold bn; simp[hT]
  rw[(wI ok).2,UF,ma,fq,hx,ht];omega
theorem rW {j:Jr} {u n:List UInt8} {e:Int} (h:fm j u n=e) (he:e≠0):oZ j u n=iC∧∀ t,pb j t u n=[]:=⟨if_neg (by rw[h]; exact he),fun t=>if_neg (by rw[h]; exact he)⟩

def ot (p:bT):List C:=[.d (.int .i64 p.hd.lp),.d (.int .i64 p.hd.vr),.d (.int .i64 p.hd.md),.d (.int .i64 p.hd.st),.d (.int .i64 p.hd.pl),.d (.int .i64 p.hd.pr),.d (.int .u32 (p.hd.rd:Int)),.d (.int .u32 (p.hd.rp:Int)),.d (.int .u32 (p.hd.ri:Int)),.d (.int .u64 (p.hd.rf:Int)),.d (.int .u64 (p.hd.og:Int)),.d (.int .u64 (p.hd.rc:Int)),.d (.int .u64 (p.hd.tr:Int)),.d (.sl (p.pl.map aR)),.d (.sl (p.se.map aR)),.d (.bool p.gu)]
theorem Se {u c:List UInt8} {k:Nat} (hu:u.length=32) (hc:c.length=104):∀ f∈bh u c k,f.da.length≤104:=fun f hf=>by
  rcases qP hf with rfl | rfl | rfl
  ·show u.length≤104; omega
  ·show c.length≤104; omega
  ·exact Nat.le_of_eq nX
def xm (t:Nat) (n:List UInt8) (T:Jr) (u c:List UInt8) (K k:Nat):St:=⟨bc [(1,.w (.c (.d (.int .u64 (t:Int))))),(3,.w (.c (.d (.sl (n.map bD))))),(8,.w (.c (.ptr 3 1 0 0))),(11,.w (.c (.ptr 1 1 0 0))),(14,.w (.c (.own 2 2 0 (bh u c k).length))),(54,.w (.c (.d (.int .i64 (K:Int))))),(55,.w (.c (.d (.int .i64 (k:Int)))))],hL [(1,eC T (.d (.sl (T.ck.map fun l=>D.sl (l.map bD))))),(2,.row 2 ((bh u c k).map aR)),(3,hH)],uL [1,2,3]⟩
def uV:aL := .seq (.reg [oO 56 (.bin .lss (.t 55) (.t 54))]) (.seq (.cond (.t 56) (.skip) (.exit 0)) (.seq (.block 1 (.reg [oM 57 14,oO 58 (.make true 1 1 (.int .u8 0) (kI 104) (kI 104)),oO 59 (.build [(.d (.int .i64 0)),.nil] [(0,1,(kI 772)),(1,1,(.t 58))]),oO 60 (.bldFz 1 2 (.agg [(.int .i64 0),(.sl [])]) [(0,(.t 59))]),oO 61 (.app false 2 32 (.t 57) (.t 60)),oM 14 61])) (.reg [oO 62 (.bin .add (.t 55) (kI 1)),oM 55 62])))
def mj:aB:=⟨4,77,.seq (.reg [oO 4 (.box .roBox (.t 0)),oO 8 (.alloc [.nil,.nil,.nil,.nil,(.d (.int .i64 0)),(.d (.int .i64 0))]),oO 9 (.mv (.k (.c .nil))),oO 10 (.mv (kI 0))]) (.seq (.seq (.reg [oO 19 (.load (.ag 6) (.t 4)),oO 20 (.call 16 [(.t 19)] none),oO 21 (.un .not (.t 20)),oM 22 21,oG 23 (.mv (.t 2)) 22 false,oG 24 (.len (.t 23)) 22 false,oG 25 (.bin .neq (.t 24) (kI 32)) 22 false,oO 26 (.pick (.t 22) (.k (.c (.d (.bool true)))) (.t 25)),oM 27 26,oG 28 (.mv (.t 3)) 27 false,oG 29 (.len (.t 28)) 27 false,oG 30 (.bin .neq (.t 29) (kI 16)) 27 false,oO 31 (.pick (.t 27) (.k (.c (.d (.bool true)))) (.t 30))]) (.cond (.t 31) (.seq (.reg [oO 32 (.build [.nil,.nil,.nil,.nil,(.d (.int .i64 0)),(.d (.int .i64 0))] []),oN (.store (.ag 6) (.t 8) (.t 32)),oO 9 (.mv (.k (.c .nil))),oO 10 (.mv (kI 3))])
 (.ret)) (.skip))) (.seq (.reg [oO 34 (.load (.ag 6) (.t 4)),oO 35 (.call 13 [(.t 34)] none),oM 33 35,oO 36 (.extract (.t 33) 0),oO 37 (.extract (.t 33) 1),oO 38 (.extract (.t 33) 2),oO 11 (.alloc [.nil,.nil,.nil,.nil,(.d (.int .i64 0)),(.d (.int .i64 0))]),oN (.store (.ag 6) (.t 11) (.t 36)),oM 12 37,oM 13 38]) (.seq (.seq (.reg [oM 39 13,oO 40 (.bin .neq (.t 39) (kI 0))]) (.cond (.t 40) (.seq (.reg [oO 41 (.build [.nil,.nil,.nil,.nil,(.d (.int .i64 0)),(.d (.int .i64 0))] []),oM 42 13,oN (.store (.ag 6) (.t 8) (.t 41)),oO 9 (.mv (.k (.c .nil))),oM 10 42]) (.ret)) (.skip))) (.seq (.reg [oM 43 2,oO 44 (.build [(.d (.int .i64 0)),.nil] [(0,1,(kI 260)),(1,1,(.t 43))]),oM 45 12,oO 46 (.build [(.d (.int .i64 0)),.nil] [(0,1,(kI 516)),(1,1,(.t 45))]),oO 47 (.bldSl true 2 2 (.agg [(.int .i64 0),(.sl [])]) [(0,(.t 44)),(1,(.t 46))]),
 oM 14 47]) (.seq (.reg [oO 49 (.load (.ag 6) (.t 11)),oO 50 (.call 21 [(.t 49)] none),oM 48 50,oO 51 (.extract (.t 48) 0),oO 52 (.extract (.t 48) 1),oM 15 51,oM 16 52]) (.seq (.seq (.reg [oM 53 15,oO 54 (.bin .sub (.t 53) (kI 1)),oO 55 (.mv (kI 0))]) (.block 0 (.loop uV))) (.seq (.reg [oO 64 (.fieldAddr 0 (.t 11)),oO 65 (.fieldAddr 0 (.t 64)),oO 66 (.load .sc (.t 65)),oM 67 1,oO 68 (.call 35 [(.t 67)] none),oM 69 14,oO 70 (.build [(.d (.int .i64 0)),(.d (.int .i64 0)),(.d (.int .i64 0)),(.d (.int .i64 0)),(.d (.int .i64 0)),(.d (.int .i64 0)),(.d (.int .u32 0)),(.d (.int .u32 0)),(.d (.int .u32 0)),(.d (.int .u64 0)),(.d (.int .u64 0)),(.d (.int .u64 0)),(.d (.int .u64 0)),.nil,.nil,(.d (.bool false))] [(0,13,(.t 68)),(13,1,(.t 69))]),oM 71 3,oO 72 (.call 34 [(.t 66),(.t 70),(.t 71)] none),
 oM 63 72,oO 73 (.extract (.t 63) 0),oO 74 (.extract (.t 63) 1),oM 17 73,oM 18 74]) (.seq (.reg [oO 75 (.load (.ag 6) (.t 11)),oM 76 17,oN (.store (.ag 6) (.t 8) (.t 75)),oM 9 76,oO 10 (.mv (kI 0))]) (.ret))))))))),[(8,(some (.ag 6))),(9,none),(10,none)]⟩
theorem Sf:aA Try.prog { own:=[47],comp:=[],frz:=[60],nils:=[] } Try.f19=some mj:=by kernel_rfl
set_option maxHeartbeats 6400000 in
theorem It (G:aj) (j:Jr) (t:Nat) (u n:List UInt8) (ht:t<18446744073709551616):ar Try.prog G 19 [cX j,.int .u64 (t:Int),.sl (u.map bD),.sl (n.map bD)] (.tup [.c (.d (cX (oZ j u n))),.c (.d (.sl ((pb j t u n).map bD))),.c (.d (.int .i64 (fm j u n)))]):=by
  refine aF Try.func19 Sf rfl rfl ?_;have c1:=xk G j;by_cases v:dt j
  ·rw[decide_eq_true v] at c1;by_cases h1:u.length=32
   ·have g1:((u.length:Int)=32)=True:=eq_true (by omega);by_cases h2:n.length=16
    ·have g2:((n.length:Int)=16)=True:=eq_true (by omega);have eE:fm j u n=dI j:=by unfold fm; rw[if_neg (fun h=>h.elim (· v) (fun h=>h.elim (· h1) (· h2)))]
     have c2:=Tz G j;by_cases h3:dI j=0
     ·obtain⟨v1,v2,v3,v4,v5⟩:=wJ v;have hk:j.ck.length≠0:=fun h=>by
        unfold dI at h3;rw[if_neg (not_not_intro v),if_pos h] at h3;cases h3
      have hs:j.sn≠1099511627776:=fun h=>by
        unfold dI at h3;rw[if_neg (not_not_intro v),if_neg hk,if_pos h] at h3;cases h3
      have m0:=v5 _ (m5 (l:=j.ck) (i:=0) (by omega));rw[h3] at eE;rw[show oZ j u n=cc j from if_pos eE,show pb j t u n=cb j.up (eA j t u) n from if_pos eE,eE];rw[show sT j=cc j from if_pos h3,show sU j=j.ck.getD 0 [] from if_pos h3,h3] at c2;have cw:=xl G (cc j);have tv:dt (cc j):=(Ik v hk hs).2;have hT:(8-((cc j).ck.length:Int))-1=((8-j.ck.length:Nat):Int):=by
        show (8-((j.ck.drop 1).length:Int))-1=_
        rw[UK]; omega
      have hT8:(cc j).ck.length≤8:=by
        show (j.ck.drop 1).length≤8
        rw[UK]; omega
      rw[show m7 (cc j)=8-((cc j).ck.length:Int) from if_pos tv,show m6 (cc j)=0 from if_pos tv] at cw;have c3:=Rk G t;obtain⟨ok,_⟩:=rV (key:=j.up) (u:=u) (c:=j.ck.getD 0 []) (n:=n) (t:=t) (k:=8-j.ck.length) v1 h1 m0 h2 (by omega);have c4:=R6 G j.up (eA j t u) n (by omega) (Is ht) (by unfold eA; rw[nJ]; omega) (fun f hf=>by
        have:=Se (u:=u) (c:=j.ck.getD 0 []) h1 m0 f hf;omega) (UR _) (fun f hf=>by cases hf) (by omega)
      rw[show dr j.up (eA j t u) n=0 from (wI ok).1] at c4;have fl:=S9 1 (cb j.up (eA j t u) n) .i64 0;have hq:(eA j t u).pl=bh u (j.ck.getD 0 []) (8-j.ck.length):=rfl;unfold cz at c4;rw[hq,show (eA j t u).hd=cT t from rfl,show (eA j t u).se=[] from rfl,show (eA j t u).gu=false from rfl] at c4;have tup:(cc j).up=j.up:=rfl;rw[← tup] at c4 fl ⊢;clear ok eE h3 tv hs v tup;generalize cb (cc j).up (eA j t u) n=B at *
      generalize j.ck.getD 0 []=c at *
      generalize cc j=T at *
      generalize hK:8-j.ck.length=K at *
      have gK:(8-(T.ck.length:Int))-1=(K:Int):=hT;unfold cX at *
      simp only[mj,ah,ae,aa,seval,iteOmega,toNatUp];refine sC (c1) ?_;simp only[g1,g2,ae,aa,seval,iteOmega,toNatUp];refine sD (c2) ?_;refine sC (cw) ?_;simp only[gK,ae,aa,seval,iteOmega,toNatUp];refine bH (xm t n T u c K) (fun k=>K-k) (fun k=>k≤K) 0 (UR _) ?_ ?_
      ·refine aG (fun i=>if i=1 then 88 else if i=2 then 376 else 64) ?_ ?_ rfl rfl <;> simp only[bh,aR,eW,eC,hH,wx,aw,aH,aa,seval,iteOmega,toNatUp] <;> first | rfl | exact⟨rfl,rfl⟩ | skip
      ·intro k hk2;clear c1 c2 cw;have ql:=nJ u c k;have az:=CC (bh u c k);by_cases hlt:k<K
       ·have gk:((k:Int)<(K:Int))=True:=eq_true (by omega);have hs:=Ir u c k;have hp:aR hC=.agg [.int .i64 772,.sl (List.replicate 104 (.int .u8 0))]:=by
          unfold aR hC;rw[List.map_replicate]; rfl
        have e0:xm t n T u c K k=⟨bc [(1,.w (.c (.d (.int .u64 (t:Int))))),(3,.w (.c (.d (.sl (n.map bD))))),(8,.w (.c (.ptr 3 1 0 0))),(11,.w (.c (.ptr 1 1 0 0))),(14,.w (.c (.own 2 2 0 (bh u c k).length))),(54,.w (.c (.d (.int .i64 (K:Int))))),(55,.w (.c (.d (.int .i64 (k:Int)))))],hL [(1,eC T (.d (.sl (T.ck.map fun l=>D.sl (l.map bD))))),(2,.row 2 ((bh u c k).map aR)),(3,hH)],uL [1,2,3]⟩:=rfl;rw[e0];clear e0;generalize bh u c k=L at *
        simp only[uV,eW,eC,hH,ae,aa,seval,iteOmega,toNatUp,gk,ct];refine br (k+1) (by omega) (by omega) (aG (fun i=>if i=1 then 1 else if i=2 then 488 else 3) ?_ ?_ rfl rfl) <;> simp only[hs,hp,List.replicate,U6,UE,UT,eW,eC,hH,wx,aw,aH,aa,seval,iteOmega,toNatUp] <;> first | rfl | exact⟨rfl,rfl⟩ | skip
       ·obtain rfl:k=K:=by omega
        have gk:((k:Int)<(k:Int))=False:=eq_false (by omega);have e0:xm t n T u c k k=⟨bc [(1,.w (.c (.d (.int .u64 (t:Int))))),(3,.w (.c (.d (.sl (n.map bD))))),(8,.w (.c (.ptr 3 1 0 0))),(11,.w (.c (.ptr 1 1 0 0))),(14,.w (.c (.own 2 2 0 (bh u c k).length))),(54,.w (.c (.d (.int .i64 (k:Int))))),(55,.w (.c (.d (.int .i64 (k:Int)))))],hL [(1,eC T (.d (.sl (T.ck.map fun l=>D.sl (l.map bD))))),(2,.row 2 ((bh u c k).map aR)),(3,hH)],uL [1,2,3]⟩:=rfl;rw[e0];clear e0;generalize bh u c k=L at *
        unfold dj at c3;simp only[uV,eW,eC,hH,ae,aa,seval,iteOmega,toNatUp,gk];refine sD (c3) ?_;refine bE c4 (by simp only[ae,aa,seval,iteOmega,toNatUp] <;> rfl) (.inr fl) ?_;simp only[ae,aa,seval,iteOmega,toNatUp];exact gX
     ·have g3:(dI j=0)=False:=eq_false h3;obtain⟨q1,q2⟩:=rW eE h3;rw[q1,q2,eE];unfold cX iC at *
      generalize dI j=e at *
      simp only[mj,ah,ae,aa,seval,iteOmega,toNatUp];refine sC (c1) ?_;simp only[g1,g2,ae,aa,seval,iteOmega,toNatUp];refine sC (c2) ?_;simp only[g3,ae,aa,seval,iteOmega,toNatUp];exact gX
    ·have g2:((n.length:Int)=16)=False:=eq_false (by omega);have e:fm j u n=3:=by unfold fm; rw[if_pos (.inr (.inr h2))]
     obtain⟨q1,q2⟩:=rW e (by decide);rw[q1,q2,e];unfold cX iC at *
     simp only[mj,ah,ae,aa,seval,iteOmega,toNatUp];refine sC (c1) ?_;simp only[g1,g2,ae,aa,seval,iteOmega,toNatUp];exact gX
   ·have g1:((u.length:Int)=32)=False:=eq_false (by omega);have e:fm j u n=3:=by unfold fm; rw[if_pos (.inr (.inl h1))]
    obtain⟨q1,q2⟩:=rW e (by decide);rw[q1,q2,e];unfold cX iC at *
    simp only[mj,ah,ae,aa,seval,iteOmega,toNatUp];refine sC (c1) ?_;simp only[g1,ae,aa,seval,iteOmega,toNatUp];exact gX
  ·rw[decide_eq_false v] at c1;have e:fm j u n=3:=by unfold fm; rw[if_pos (.inl v)]
   obtain⟨q1,q2⟩:=rW e (by decide);rw[q1,q2,e];unfold cX iC at *
   simp only[mj,ah,ae,aa,seval,iteOmega,toNatUp];refine sD (c1) ?_;exact gX


def m9 (s:Int):List UInt8:=(cY s 64).take 32
def na (s:Int):List UInt8:=(cY s 64).drop 32
theorem qQ (s:Int):(m9 s).length=32:=by
  unfold m9;rw[UI,lO]; rfl
theorem E0 (s:Int):(na s).length=32:=by
  unfold na;rw[UK,lO]; rfl
def Hs:aB:=⟨1,11,.seq (.reg [oO 2 (.alloc [.nil,.nil])]) (.seq (.reg [oM 4 0,oO 5 (.call 10 [(.t 4),(kI 64)] none),oM 3 5]) (.seq (.reg [oM 6 3,oO 7 (.slice 1 (.t 6) none (some (kI 32)) none),oM 8 3,oO 9 (.slice 1 (.t 8) (some (kI 32)) none none),oO 10 (.build [.nil,.nil] [(0,1,(.t 7)),(1,1,(.t 9))]),oN (.store (.ag 2) (.t 2) (.t 10))]) (.ret))),[(2,(some (.ag 2)))]⟩
theorem Sw:aA Try.prog { own:=[],comp:=[],frz:=[],nils:=[] } Try.f23=some Hs:=by kernel_rfl
theorem TQ (G:aj) (s:Int):ar Try.prog G 23 [.int .i64 s] (.w (.c (.d (.agg [.sl ((m9 s).map bD),.sl ((na s).map bD)])))):=by
  refine aF Try.func23 Sw rfl rfl ?_;have c1:=qo G s 64 (by decide);have hl:(cY s 64).length=64:=lO _ _;unfold m9 na;have t1:((cY s 64).drop 32).take 32=(cY s 64).drop 32:=UG (by simp; omega);generalize cY s 64=B at *
  simp only[Hs,ah,ae,aa,seval,iteOmega,toNatUp];refine sC (c1) ?_;simp only[hl,t1,ae,aa,seval,iteOmega,toNatUp];exact aP
def kH (s i:Nat):List UInt8:=cY ((s+1000003*(i+1):Nat):Int) 104
def dY (s n:Nat):List (List UInt8):=(List.range n).map (kH s)
theorem TR (s n:Nat):dY s (n+1)=dY s n++[kH s n]:=by
  unfold dY;rw[VZ,U6]; rfl
theorem vP (s n:Nat):(dY s n).length=n:=by
  unfold dY;rw[UQ,VX]
theorem nK (s i:Nat):(kH s i).length=104:=lO _ _
def aZ (s n:Nat):Jr:=⟨m9 (s:Int),na (s:Int),dY s n,[],1,0⟩
def jM:Ob:=.box [.nil,.nil,.nil,.nil,.d (.int .i64 0),.d (.int .i64 0)]
def jN (s:Nat) (k:C):Ob:=.box [.d (.sl ((m9 (s:Int)).map bD)),.d (.sl ((na (s:Int)).map bD)),k,.nil,.d (.int .i64 1),.d (.int .i64 0)]
def jU (s:Nat) (n:Int) (i:Nat):List (Nat×V):=[(0,.w (.c (.d (.int .i64 (s:Int))))),(1,.w (.c (.d (.int .i64 n)))),(4,.w (.c (.ptr 3 1 0 0))),(5,.w (.c (.ptr 1 1 0 0))),(6,.w (.c (.d (.int .i64 (i:Int)))))]
def lA (s:Nat) (n:Int):Nat→St
  | 0=>⟨bc (jU s n 0),hL [(1,jN s .nil),(3,jM)],uL [1,3]⟩
  | i+1=>⟨bc (jU s n (i+1)),hL [(1,jN s (.own 2 1 0 (dY s (i+1)).length)),(2,.row 1 ((dY s (i+1)).map fun l=>D.sl (l.map bD))),(3,jM)],uL [1,2,3]⟩
def nA:aL := .seq (.seq (.reg [oM 10 6,oM 11 1,oO 12 (.call 8 [(.t 11),(kI 9)] none),oO 13 (.bin .lss (.t 10) (.t 12))]) (.cond (.t 13) (.skip) (.exit 0))) (.seq (.block 1 (.reg [oO 16 (.fieldAddr 2 (.t 5)),oO 17 (.load .sc (.t 16)),oM 18 0,oM 19 6,oO 20 (.bin .add (.t 19) (kI 1)),oO 21 (.bin .mul (kI 1000003) (.t 20)),oO 22 (.bin .add (.t 18) (.t 21)),oO 23 (.call 10 [(.t 22),(kI 104)] none),oO 24 (.bldSl false 1 1 (.sl []) [(0,(.t 23))]),oO 25 (.app false 1 24 (.t 17) (.t 24)),oO 26 (.fieldAddr 2 (.t 5)),oN (.store .sc (.t 26) (.t 25))])) (.reg [oM 14 6,oO 15 (.bin .add (.t 14) (kI 1)),oM 6 15]))
def Ht:aB:=⟨2,28,.seq (.reg [oO 4 (.alloc [.nil,.nil,.nil,.nil,(.d (.int .i64 0)),(.d (.int .i64 0))])]) (.seq (.reg [oM 7 0,oO 8 (.call 23 [(.t 7)] none),oO 9 (.build [.nil,.nil,.nil,.nil,(.d (.int .i64 0)),(.d (.int .i64 0))] [(0,2,(.t 8)),(4,1,(kI 1))]),oO 5 (.alloc [.nil,.nil,.nil,.nil,(.d (.int .i64 0)),(.d (.int .i64 0))]),oN (.store (.ag 6) (.t 5) (.t 9))]) (.seq (.seq (.reg [oO 6 (.mv (kI 0))]) (.block 0 (.loop nA))) (.seq (.reg [oO 27 (.load (.ag 6) (.t 5)),oN (.store (.ag 6) (.t 4) (.t 27))]) (.ret)))),[(4,(some (.ag 6)))]⟩
theorem Sx:aA Try.prog { own:=[],comp:=[],frz:=[],nils:=[] } Try.f9=some Ht:=by kernel_rfl
theorem Iv (G:aj) (s:Nat) (n:Int) (hs:s≤1000000) (N:Nat) (hN:eH n 9=(N:Int)):ar Try.prog G 9 [.int .i64 (s:Int),.int .i64 n] (.w (.c (.d (cX (aZ s N))))):=by
  refine aF Try.func9 Sx rfl rfl ?_;have c1:=TQ G (s:Int);have r0:=sY n 9 (by decide);have c2:=nz G n 9 (by decide);rw[hN] at c2 r0;unfold cX aZ;dsimp only;simp only[Ht,ah,ae,aa,seval,iteOmega,toNatUp];refine sD (c1) ?_;refine bH (lA s n) (fun i=>N-i) (fun i=>i≤N) 0 (UR _) ?_ ?_
  ·refine aG (fun i=>if i=1 then 40 else 32) ?_ ?_ rfl rfl <;> simp only[jU,jN,jM,wx,aw,aH,aa,seval,iteOmega,toNatUp] <;> first | rfl | exact⟨rfl,rfl⟩ | skip
  ·intro i hi;clear c1;have tl:=vP s i;have az:=kP (dY s i);by_cases hlt:i<N
   ·have g1:((i:Int)<(N:Int))=True:=eq_true (by omega);have c3:=qo G ((s+1000003*(i+1):Nat):Int) 104 (by decide);have ec:(s:Int)+1000003*((i:Int)+1)=((s+1000003*(i+1):Nat):Int):=by omega
    have hn:=TR s i;rw[show cY ((s+1000003*(i+1):Nat):Int) 104=kH s i from rfl] at c3;generalize kH s i=x at *
    rcases i with _ | i
    ·have e1:dY s (0+1)=[x]:=hn;simp only[nA,lA,jU,jN,jM,ae,aa,seval,iteOmega,toNatUp];refine sC (c2) ?_;simp only[g1,ec,ae,aa,seval,iteOmega,toNatUp];refine sC (c3) ?_;simp only[ct,ae,aa,seval,iteOmega,toNatUp];refine br (0+1) (by omega) (by omega) (aG (fun i=>if i=1 then 1 else if i=2 then 200 else 3) ?_ ?_ rfl rfl) <;> simp only[lA,jU,jN,jM,e1,wx,aw,aH,aa,seval,iteOmega,toNatUp] <;> first | rfl | exact⟨rfl,rfl⟩ | skip
    ·simp only[nA,lA,jU,jN,jM,ae,aa,seval,iteOmega,toNatUp,tl];refine sC (c2) ?_;simp only[g1,ec,ae,aa,seval,iteOmega,toNatUp];refine sC (c3) ?_;simp only[ct,tl,ae,aa,seval,iteOmega,toNatUp];refine br (i+1+1) (by omega) (by omega) (aG (fun i=>if i=1 then 1 else if i=2 then 200 else 3) ?_ ?_ rfl rfl) <;> simp only[lA,jU,jN,jM,hn,U6,tl,wx,aw,aH,aa,seval,iteOmega,toNatUp] <;> first | rfl | exact⟨rfl,rfl⟩ | skip
   ·obtain rfl:i=N:=by omega
    have g1:((i:Int)<(i:Int))=False:=eq_false (by omega);rcases i with _ | i
    ·have e0:dY s 0=[]:=rfl;rw[e0];simp only[nA,lA,jU,jN,jM,ae,aa,seval,iteOmega,toNatUp];refine sC (c2) ?_;simp only[g1,ae,aa,seval,iteOmega,toNatUp];exact aP
    ·simp only[nA,lA,jU,jN,jM,ae,aa,seval,iteOmega,toNatUp];refine sC (c2) ?_;simp only[g1,ae,aa,seval,iteOmega,toNatUp];exact aP
theorem IU {s N:Nat} (hN:N≤8):oY (aZ s N):=by
  refine⟨qQ _,E0 _,?_,.inl rfl,nV.2 fun h=>?_,by show (0:Int)≤1; decide,by show (0:Int)≤0; decide,by show (0:Int)≤_; decide⟩
  ·show (dY s N).length≤8
   rw[vP]; exact hN
  ·obtain⟨i,_,hi⟩:=U4.1 (show []∈dY s N from h);have:=nK s i;rw[hi] at this;cases this
theorem Hu {s N:Nat}:∀ c∈(aZ s N).ck,c.length=104:=fun c hc=>by
  obtain⟨i,_,rfl⟩:=U4.1 (show c∈dY s N from hc);exact nK s i
theorem Iw (s N:Nat):(dY s (N+1)).getD 0 []=kH s 0:=by
  unfold dY;rw[List.range_succ_eq_map,UE]; rfl
theorem Hv:(cc (aZ 1 1)).la.length=104:=by
  rw[show (cc (aZ 1 1)).la=(dY 1 (0+1)).getD 0 [] from rfl,Iw,nK]
theorem Hw:(cc (aZ 1 1)).ck=[]:=rfl
theorem Sy:dt (cc (aZ 1 1)):=by
  refine kV.2 ⟨⟨qQ _,E0 _,?_,.inr Hv,?_,show (0:Int)≤1 by decide,show (0:Int)≤0+1 by decide,show (0:Int)+1≤1099511627776 by decide⟩,?_,?_⟩ <;> rw[Hw]
  ·exact UR _
  ·rfl
  ·exact fun c hc=>by cases hc
  ·exact List.Pairwise.nil
theorem Up:dt (aZ 1 1):=kV.2 ⟨IU (by decide),Hu,List.pairwise_singleton _ _⟩
def yZ:aB:=⟨0,46,.seq (.reg [oO 0 (.mv (.k (.c (.d (.bool false)))))]) (.seq (.reg [oO 7 (.call 9 [(kI 1),(kI 1)] none),oO 8 (.make false 1 1 (.int .u8 0) (kI 32) (kI 32)),oO 9 (.make false 1 1 (.int .u8 0) (kI 16) (kI 16)),oO 10 (.call 19 [(.t 7),(.k (.c (.d (.int .u64 5)))),(.t 8),(.t 9)] none),oM 6 10,oO 11 (.extract (.t 6) 0),oO 12 (.extract (.t 6) 1),oO 13 (.extract (.t 6) 2),oO 1 (.alloc [.nil,.nil,.nil,.nil,(.d (.int .i64 0)),(.d (.int .i64 0))]),oN (.store (.ag 6) (.t 1) (.t 11)),oM 2 12,oM 3 13]) (.seq (.reg [oO 15 (.load (.ag 6) (.t 1)),oO 16 (.call 21 [(.t 15)] none),oM 14 16,oO 17 (.extract (.t 14) 0),oO 18 (.extract (.t 14) 1),oM 4 17,oM 5 18]) (.seq (.reg [oM 19 3,oO 20 (.bin .eql (.t 19) (kI 0)),oM 21 20,oG 22 (.mv (.t 5)) 21 true,oG 23 (.bin .eql (.t 22) (kI 0)) 21 true,
 oO 24 (.pick (.t 21) (.t 23) (.k (.c (.d (.bool false))))),oM 25 24,oG 26 (.mv (.t 2)) 25 true,oG 27 (.len (.t 26)) 25 true,oG 28 (.bin .eql (.t 27) (kI 988)) 25 true,oO 29 (.pick (.t 25) (.t 28) (.k (.c (.d (.bool false))))),oM 30 29,oG 31 (.mv (.t 4)) 30 true,oG 32 (.bin .eql (.t 31) (kI 8)) 30 true,oO 33 (.pick (.t 30) (.t 32) (.k (.c (.d (.bool false))))),oM 34 33,oG 35 (.fieldAddr 2 (.t 1)) 34 true,oG 36 (.load .sc (.t 35)) 34 true,oG 37 (.len (.t 36)) 34 true,oG 38 (.bin .eql (.t 37) (kI 0)) 34 true,oO 39 (.pick (.t 34) (.t 38) (.k (.c (.d (.bool false))))),oM 40 39,oG 41 (.fieldAddr 3 (.t 1)) 40 true,oG 42 (.load .sc (.t 41)) 40 true,oG 43 (.len (.t 42)) 40 true,oG 44 (.bin .eql (.t 43) (kI 104)) 40 true,oO 45 (.pick (.t 40) (.t 44) (.k (.c (.d (.bool false))))),oM 0 45]) (.ret)))),
 [(0,none)]⟩
theorem JY:aA Try.prog { own:=[],comp:=[],frz:=[8,9],nils:=[] } Try.f7=some yZ:=by kernel_rfl
set_option maxHeartbeats 1600000 in
theorem K9 (G:aj):ar Try.prog G 7 [] (.w (.c (.d (.bool true)))):=by
  refine aF Try.func7 JY rfl rfl ?_;have c1:=Iv G 1 1 (by decide) 1 (by decide);have v:=Up;have kl:(aZ 1 1).ck.length=1:=rfl;have e0:dI (aZ 1 1)=0:=by unfold dI; rw[if_neg (not_not_intro v),if_neg (by rw[kl]; decide),if_neg (show ¬ (aZ 1 1).sn=1099511627776 from fun h=>absurd (show (0:Int)=1099511627776 from h) (by decide))]
  have e1:fm (aZ 1 1) (List.replicate 32 0) (List.replicate 16 0)=0:=by unfold fm; rw[if_neg (fun h=>h.elim (· v) (fun h=>h.elim (· UW) (· UW))),e0]
  have c2:=It G (aZ 1 1) 5 (List.replicate 32 0) (List.replicate 16 0) (by decide);rw[show oZ (aZ 1 1) (List.replicate 32 0) (List.replicate 16 0)=cc (aZ 1 1) from if_pos e1,show pb (aZ 1 1) 5 (List.replicate 32 0) (List.replicate 16 0)=cb (aZ 1 1).up (eA (aZ 1 1) 5 (List.replicate 32 0)) (List.replicate 16 0) from if_pos e1,e1] at c2;obtain⟨_,ql⟩:=rV (key:=(aZ 1 1).up) (u:=List.replicate 32 0) (c:=(aZ 1 1).ck.getD 0 []) (n:=List.replicate 16 0) (t:=5) (k:=7) (qQ _) UW (nK _ _) UW (by decide);have hq:eA (aZ 1 1) 5 (List.replicate 32 0)=⟨cT 5,bh (List.replicate 32 0) ((aZ 1 1).ck.getD 0 []) 7,[],false⟩:=by unfold eA; rw[kl]
  rw[← hq] at ql;have ql:=ql.trans (show 232+108*7=988 by decide);have c3:=xl G (cc (aZ 1 1));have tv:=Sy;rw[show m7 (cc (aZ 1 1))=8 from if_pos tv,show m6 (cc (aZ 1 1))=0 from if_pos tv] at c3;have la:=Hv;have ck:=Hw;have z32:((List.replicate 32 (0:UInt8)).map bD)=List.replicate 32 (.int .u8 0):=by rw[List.map_replicate]; rfl
  have fF:((List.replicate 16 (0:UInt8)).map bD)=List.replicate 16 (.int .u8 0):=by rw[List.map_replicate]; rfl
  clear tv e0 e1 v kl;generalize cb (aZ 1 1).up (eA (aZ 1 1) 5 (List.replicate 32 0)) (List.replicate 16 0)=B at *
  generalize cc (aZ 1 1)=T at *
  generalize aZ 1 1=W at *
  rw[z32,fF] at c2;simp only[List.replicate] at c2;unfold cX at *
  rw[ck] at c2 c3;simp only[UT] at c2 c3;have gq:((B.length:Int)=988)=True:=eq_true (by omega);have gl:((T.la.length:Int)=104)=True:=eq_true (by omega);simp only[yZ,ah,ae,aa,seval,iteOmega,toNatUp];refine sD (c1) ?_;refine sD (c2) ?_;refine sC (c3) ?_;simp only[gq,gl,ae,aa,seval,iteOmega,toNatUp];exact aP
theorem JZ {v m:Int} (h0:0≤v) (h:v<m):eH v m=v:=by
  unfold eH;rw[if_neg (by omega),Int.emod_eq_of_lt h0 h]
theorem SS (s:Nat) {N:Nat} (hN:N≤8):dY s N=(pi.take N).map fun o=>cY ((s+o:Nat):Int) 104:=by
  unfold dY pi;rw[← List.map_take,List.take_range,VP hN,Wp];rfl
theorem SU {α:Type} {a b:List α} (h:(a++b).Nodup):a.Nodup∧b.Nodup∧∀ x∈a,x∉b:=by
  obtain⟨h1,h2,h3⟩:=VJ.1 h;exact⟨h1,h2,fun x hx hb=>h3 x hx x hb rfl⟩
theorem Ud {s N:Nat} (hs:s<1000) (hN:N≤8):(dY s N).Nodup:=by
  rw[SS s hN];have h:=Uq hs;rw[U6] at h;have h1:=(SU h).1;exact h1.sublist ((List.take_sublist _ _).map _)
theorem Ue {s N:Nat} (hs:s<1000) (hN:N≤8):dt (aZ s N):=kV.2 ⟨IU hN,Hu,Ud hs hN⟩
theorem P2 {f:Fd} (h1:f.da.length%4=0) (h2:12≤f.da.length):dT f=f:=by
  unfold dT aW;rw[show max 16 ((f.da.length+7) / 4*4)-4-f.da.length=0 by omega,VM,UX]
theorem P3 {l:List Fd} (h:∀ f∈l,f.da.length%4=0∧12≤f.da.length):l.map dT=l:=by
  conv=>rhs; rw[← List.map_id l]
  exact Vd fun f hf=>P2 (h f hf).1 (h f hf).2
theorem P4 {u c:List UInt8} (hu:u.length=32) (hc:c.length=104) (k:Nat):(bh u c k).map dT=bh u c k:=P3 fun f hf=>by
  rcases qP hf with rfl | rfl | rfl
  ·exact⟨by show u.length%4=0; omega,by show 12≤u.length; omega⟩
  ·exact⟨by show c.length%4=0; omega,by show 12≤c.length; omega⟩
  ·exact⟨by rw[nX],by rw[nX]; decide⟩
theorem Uf {key u c n:List UInt8} {t k:Nat} (ht:t<18446744073709551616) (h1:key.length=32) (hu:u.length=32) (hc:c.length=104) (hn:n.length=16) (hk:k≤8):fk key (cb key ⟨cT t,bh u c k,[],false⟩ n)=0∧mY key (cb key ⟨cT t,bh u c k,[],false⟩ n)=⟨cT t,bh u c k,[],true⟩:=by
  obtain⟨ok,_⟩:=rV (t:=t) h1 hu hc hn hk;obtain⟨_,_,o1,o2⟩:=Pt (Is ht) ok;refine⟨o1,o2.trans ?_⟩
  show (⟨cT t,(bh u c k).map dT,[].map dT,true⟩:bT)=_
  rw[P4 hu hc]; rfl
theorem Ug (u c:List UInt8) (k:Nat):(bh u c k)[0]?=some ⟨260,u⟩:=rfl
theorem Uh (u c:List UInt8) (k:Nat):(bh u c k)[1]?=some ⟨516,c⟩:=rfl
theorem Ui {u c:List UInt8} {k i:Nat} (h1:2≤i) (h2:i<k+2):(bh u c k)[i]?=some hC:=by
  unfold bh;rw[Vm (show [(⟨260,u⟩:Fd),⟨516,c⟩].length≤i from h1),List.getElem?_replicate,if_pos (by show i-2<k; omega)]
def xt (W T:Jr) (U:List UInt8) (P:bT) (i:Nat):St:=⟨bc [(11,.w (.c (.ptr 1 1 0 0))),(12,.w (.c (.d (.sl (U.map bD))))),(13,.w (.c (.ptr 2 1 0 0))),(16,.w (.c (.ptr 3 1 0 0))),(20,.w (.c (.d (.int .i64 (i:Int)))))],hL [(1,eC W (.d (.sl (W.ck.map fun l=>D.sl (l.map bD))))),(2,eC T (.d (.sl (T.ck.map fun l=>D.sl (l.map bD))))),(3,.box (ot P))],uL [1,2,3]⟩
def ui:aL := .seq (.seq (.reg [oM 95 20,oO 96 (.fieldAddr 13 (.t 16)),oO 97 (.load .sc (.t 96)),oO 98 (.len (.t 97)),oO 99 (.bin .lss (.t 95) (.t 98))]) (.cond (.t 99) (.skip) (.exit 0))) (.seq (.block 1 (.seq (.reg [oO 102 (.fieldAddr 13 (.t 16)),oO 103 (.load .sc (.t 102)),oM 104 20,oO 105 (.idxSl 2 (.t 103) (.t 104)),oO 106 (.fieldAddr 0 (.t 105)),oO 107 (.load .sc (.t 106)),oO 108 (.bin .neq (.t 107) (kI 772)),oM 109 108,oG 110 (.fieldAddr 13 (.t 16)) 109 false,oG 111 (.load .sc (.t 110)) 109 false,oG 112 (.mv (.t 20)) 109 false,oG 113 (.idxSl 2 (.t 111) (.t 112)) 109 false,oG 114 (.fieldAddr 1 (.t 113)) 109 false,oG 115 (.load .sc (.t 114)) 109 false,oG 116 (.make true 1 1 (.int .u8 0) (kI 104) (kI 104)) 109 false,oG 117 (.call 14 [(.t 115),(.t 116)] none) 109 false,oG 118 (.un .not (.t 117)) 109 false,
 oO 119 (.pick (.t 109) (.k (.c (.d (.bool true)))) (.t 118))]) (.cond (.t 119) (.seq (.reg [oO 10 (.mv (.k (.c (.d (.bool false)))))]) (.ret)) (.skip)))) (.reg [oM 100 20,oO 101 (.bin .add (.t 100) (kI 1)),oM 20 101]))
def E4:aB:=⟨5,167,.seq (.reg [oO 10 (.mv (.k (.c (.d (.bool false)))))]) (.seq (.reg [oM 21 0,oO 22 (.call 8 [(.t 21),(kI 1000)] none),oM 23 1,oO 24 (.call 8 [(.t 23),(kI 8)] none),oO 25 (.bin .add (kI 1) (.t 24)),oO 26 (.call 9 [(.t 22),(.t 25)] none),oO 11 (.alloc [.nil,.nil,.nil,.nil,(.d (.int .i64 0)),(.d (.int .i64 0))]),oN (.store (.ag 6) (.t 11) (.t 26))]) (.seq (.reg [oM 27 3,oO 28 (.call 8 [(.t 27),(kI 100000)] none),oO 29 (.call 10 [(.t 28),(kI 32)] none),oM 12 29]) (.seq (.reg [oO 31 (.load (.ag 6) (.t 11)),oM 32 2,oM 33 12,oM 34 4,oO 35 (.call 8 [(.t 34),(kI 100000)] none),oO 36 (.call 10 [(.t 35),(kI 16)] none),oO 37 (.call 19 [(.t 31),(.t 32),(.t 33),(.t 36)] none),oM 30 37,oO 38 (.extract (.t 30) 0),oO 39 (.extract (.t 30) 1),oO 40 (.extract (.t 30) 2),oO 13 (.alloc [.nil,.nil,.nil,.nil,(.d (.int .i64 0)),(.d (.int .i64 0))]),
 oN (.store (.ag 6) (.t 13) (.t 38)),oM 14 39,oM 15 40]) (.seq (.reg [oO 42 (.fieldAddr 0 (.t 11)),oO 43 (.fieldAddr 0 (.t 42)),oO 44 (.load .sc (.t 43)),oM 45 14,oO 46 (.call 20 [(.t 44),(.t 45)] none),oM 41 46,oO 47 (.extract (.t 41) 0),oO 48 (.extract (.t 41) 1),oO 16 (.alloc [(.d (.int .i64 0)),(.d (.int .i64 0)),(.d (.int .i64 0)),(.d (.int .i64 0)),(.d (.int .i64 0)),(.d (.int .i64 0)),(.d (.int .u32 0)),(.d (.int .u32 0)),(.d (.int .u32 0)),(.d (.int .u64 0)),(.d (.int .u64 0)),(.d (.int .u64 0)),(.d (.int .u64 0)),.nil,.nil,(.d (.bool false))]),oN (.store (.ag 16) (.t 16) (.t 47)),oM 17 48]) (.seq (.reg [oO 50 (.load (.ag 6) (.t 13)),oO 51 (.call 21 [(.t 50)] none),oM 49 51,oO 52 (.extract (.t 49) 0),oO 53 (.extract (.t 49) 1),oM 18 52,oM 19 53]) (.seq (.seq (.reg [oM 54 15,oO 55 (.bin .neq (.t 54) (kI 0)),
 oM 56 55,oG 57 (.mv (.t 17)) 56 false,oG 58 (.bin .neq (.t 57) (kI 0)) 56 false,oO 59 (.pick (.t 56) (.k (.c (.d (.bool true)))) (.t 58)),oM 60 59,oG 61 (.mv (.t 19)) 60 false,oG 62 (.bin .neq (.t 61) (kI 0)) 60 false,oO 63 (.pick (.t 60) (.k (.c (.d (.bool true)))) (.t 62)),oM 64 63,oG 65 (.fieldAddr 13 (.t 16)) 64 false,oG 66 (.load .sc (.t 65)) 64 false,oG 67 (.len (.t 66)) 64 false,oG 68 (.mv (.t 18)) 64 false,oG 69 (.bin .add (kI 1) (.t 68)) 64 false,oG 70 (.bin .neq (.t 67) (.t 69)) 64 false,oO 71 (.pick (.t 64) (.k (.c (.d (.bool true)))) (.t 70)),oM 72 71,oG 73 (.fieldAddr 14 (.t 16)) 72 false,oG 74 (.load .sc (.t 73)) 72 false,oG 75 (.len (.t 74)) 72 false,oG 76 (.bin .neq (.t 75) (kI 0)) 72 false,oO 77 (.pick (.t 72) (.k (.c (.d (.bool true)))) (.t 76)),oM 78 77,oG 79 (.fieldAddr 0 (.t 16)) 78 false,
 oG 80 (.load (.ag 13) (.t 79)) 78 false,oG 81 (.mv (.t 2)) 78 false,oG 82 (.call 22 [(.t 81)] none) 78 false,oG 83 (.eqA true [0,0,0,0,0,0,0,0,0,0,0,0,0] (.t 80) (.t 82)) 78 false,oO 84 (.pick (.t 78) (.k (.c (.d (.bool true)))) (.t 83)),oM 85 84,oG 86 (.fieldAddr 2 (.t 11)) 85 false,oG 87 (.load .sc (.t 86)) 85 false,oG 88 (.len (.t 87)) 85 false,oG 89 (.fieldAddr 2 (.t 13)) 85 false,oG 90 (.load .sc (.t 89)) 85 false,oG 91 (.len (.t 90)) 85 false,oG 92 (.bin .add (.t 91) (kI 1)) 85 false,oG 93 (.bin .neq (.t 88) (.t 92)) 85 false,oO 94 (.pick (.t 85) (.k (.c (.d (.bool true)))) (.t 93))]) (.cond (.t 94) (.seq (.reg [oO 10 (.mv (.k (.c (.d (.bool false)))))]) (.ret)) (.skip))) (.seq (.seq (.reg [oO 20 (.mv (kI 2))]) (.block 0 (.loop ui))) (.seq (.reg [oO 120 (.call 7 [] none),oM 121 120,
 oG 122 (.fieldAddr 13 (.t 16)) 121 true,oG 123 (.load .sc (.t 122)) 121 true,oG 124 (.idxSl 2 (.t 123) (kI 0)) 121 true,oG 125 (.fieldAddr 0 (.t 124)) 121 true,oG 126 (.load .sc (.t 125)) 121 true,oG 127 (.bin .eql (.t 126) (kI 260)) 121 true,oO 128 (.pick (.t 121) (.t 127) (.k (.c (.d (.bool false))))),oM 129 128,oG 130 (.fieldAddr 13 (.t 16)) 129 true,oG 131 (.load .sc (.t 130)) 129 true,oG 132 (.idxSl 2 (.t 131) (kI 0)) 129 true,oG 133 (.fieldAddr 1 (.t 132)) 129 true,oG 134 (.load .sc (.t 133)) 129 true,oG 135 (.mv (.t 12)) 129 true,oG 136 (.call 14 [(.t 134),(.t 135)] none) 129 true,oO 137 (.pick (.t 129) (.t 136) (.k (.c (.d (.bool false))))),oM 138 137,oG 139 (.fieldAddr 13 (.t 16)) 138 true,oG 140 (.load .sc (.t 139)) 138 true,oG 141 (.idxSl 2 (.t 140) (kI 1)) 138 true,oG 142 (.fieldAddr 0 (.t 141)) 138 true,
 oG 143 (.load .sc (.t 142)) 138 true,oG 144 (.bin .eql (.t 143) (kI 516)) 138 true,oO 145 (.pick (.t 138) (.t 144) (.k (.c (.d (.bool false))))),oM 146 145,oG 147 (.fieldAddr 13 (.t 16)) 146 true,oG 148 (.load .sc (.t 147)) 146 true,oG 149 (.idxSl 2 (.t 148) (kI 1)) 146 true,oG 150 (.fieldAddr 1 (.t 149)) 146 true,oG 151 (.load .sc (.t 150)) 146 true,oG 152 (.fieldAddr 2 (.t 11)) 146 true,oG 153 (.load .sc (.t 152)) 146 true,oG 154 (.idxSl 1 (.t 153) (kI 0)) 146 true,oG 155 (.load .sc (.t 154)) 146 true,oG 156 (.call 14 [(.t 151),(.t 155)] none) 146 true,oO 157 (.pick (.t 146) (.t 156) (.k (.c (.d (.bool false))))),oM 158 157,oG 159 (.fieldAddr 3 (.t 13)) 158 true,oG 160 (.load .sc (.t 159)) 158 true,oG 161 (.fieldAddr 2 (.t 11)) 158 true,oG 162 (.load .sc (.t 161)) 158 true,oG 163 (.idxSl 1 (.t 162) (kI 0)) 158 true,
 oG 164 (.load .sc (.t 163)) 158 true,oG 165 (.call 14 [(.t 160),(.t 164)] none) 158 true,oO 166 (.pick (.t 158) (.t 165) (.k (.c (.d (.bool false))))),oM 10 166]) (.ret))))))))),[(10,none)]⟩
theorem P5:aA Try.prog { own:=[],comp:=[],frz:=[],nils:=[] } Try.f5=some E4:=by kernel_rfl
set_option maxHeartbeats 1600000 in
theorem SV (G:aj) (seed:Int) (hseed1:-9223372036854775808≤seed) (hseed2:seed≤9223372036854775807) (n:Int) (hn1:-9223372036854775808≤n) (hn2:n≤9223372036854775807) (transmit:Nat) (htransmit:transmit<18446744073709551616) (unique:Int) (hunique1:-9223372036854775808≤unique) (hunique2:unique≤9223372036854775807) (nonce:Int) (hnonce1:-9223372036854775808≤nonce) (hnonce2:nonce≤9223372036854775807) :ar Try.prog G 5 [.int .i64 seed,.int .i64 n,.int .u64 (transmit:Int),.int .i64 unique,.int .i64 nonce] (.w (.c (.d (.bool true)))):=by
  refine aF Try.func5 P5 rfl rfl ?_;have r0:=sY seed 1000 (by decide);have e0:=nz G seed 1000 (by decide);obtain⟨s,hs⟩:=Vz r0.1;have hs:eH seed 1000=(s:Int):=hs;rw[hs] at e0 r0;have r1:=sY n 8 (by decide);have e1:=nz G n 8 (by decide);obtain⟨a,ha⟩:=Vz r1.1;have ha:eH n 8=(a:Int):=ha;rw[ha] at e1 r1;have e2:=nz G unique 100000 (by decide);have e3:=nz G nonce 100000 (by decide);have hN:eH (1+(a:Int)) 9=((a+1:Nat):Int):=by
    rw[JZ (by omega) (by omega)]; omega
  have c1:=Iv G s (1+(a:Int)) (by omega) (a+1) hN;have v:=Ue (s:=s) (N:=a+1) (by omega) (by omega);have kl:(aZ s (a+1)).ck.length=a+1:=vP _ _;obtain⟨tE,tv⟩:=Ik v (by rw[kl]; omega) (show (0:Int)≠1099511627776 by decide);have c2:=qo G (eH unique 100000) 32 (by decide);have c3:=qo G (eH nonce 100000) 16 (by decide);have lU:(cY (eH unique 100000) 32).length=32:=lO _ _;have lN:(cY (eH nonce 100000) 16).length=16:=lO _ _;generalize eH unique 100000=x at *
  generalize eH nonce 100000=y at *
  generalize cY x 32=U at *
  generalize cY y 16=Nn at *
  have k0:(aZ s (a+1)).ck.getD 0 []=kH s 0:=Iw s a;have kC:=nK s 0;generalize kH s 0=c at *
  have f0:=mZ (l:=(aZ s (a+1)).ck) (i:=0) (by rw[kl]; omega);rw[k0] at f0;have lUp:(aZ s (a+1)).up.length=32:=qQ _;have tck:(cc (aZ s (a+1))).ck.length=a:=by
    show ((aZ s (a+1)).ck.drop 1).length=a
    rw[UK,kl]; omega
  have tla:(cc (aZ s (a+1))).la=c:=k0;have qE:fm (aZ s (a+1)) U Nn=0:=by unfold fm; rw[if_neg (fun h=>h.elim (· v) (fun h=>h.elim (· lU) (· lN))),tE]
  have c4:=It G (aZ s (a+1)) transmit U Nn htransmit;rw[show oZ (aZ s (a+1)) U Nn=cc (aZ s (a+1)) from if_pos qE,show pb (aZ s (a+1)) transmit U Nn=cb (aZ s (a+1)).up (eA (aZ s (a+1)) transmit U) Nn from if_pos qE,qE] at c4;have hq:eA (aZ s (a+1)) transmit U=⟨cT transmit,bh U c (7-a),[],false⟩:=by
    unfold eA;rw[kl,k0,show 8-(a+1)=7-a by omega]
  rw[hq] at c4;obtain⟨o1,o2⟩:=Uf (key:=(aZ s (a+1)).up) (u:=U) (c:=c) (n:=Nn) (t:=transmit) (k:=7-a) htransmit lUp lU kC lN (by omega);obtain⟨_,ql⟩:=rV (key:=(aZ s (a+1)).up) (u:=U) (c:=c) (n:=Nn) (t:=transmit) (k:=7-a) lUp lU kC lN (by omega);have c5:=Sa G (aZ s (a+1)).up (cb (aZ s (a+1)).up ⟨cT transmit,bh U c (7-a),[],false⟩ Nn) (by omega) (by omega);rw[o1,o2] at c5;have c6:=xl G (cc (aZ s (a+1)));rw[show m7 (cc (aZ s (a+1)))=8-((cc (aZ s (a+1))).ck.length:Int) from if_pos tv,show m6 (cc (aZ s (a+1)))=0 from if_pos tv,tck] at c6;have c7:=Sd G transmit;have ck:=K9 G;have s1:=vj G U U;have s2:=vj G c c;have s3:=vj G hC.da (List.replicate 104 0);rw[beq_self_eq_true] at s1 s2;rw[show (hC.da==List.replicate 104 0)=true from beq_self_eq_true _,List.map_replicate,show bD 0=.int .u8 0 from rfl] at s3;simp only[List.replicate] at s3;have pty:hC.ty=772:=rfl;have ql2:=nJ U c (7-a);have q0:=Ug U c (7-a);have q1:=Uh U c (7-a);have qi:=fun i h1 h2=>Ui (u:=U) (c:=c) (k:=7-a) (i:=i) h1 h2
  generalize hC=F at *
  generalize cb (aZ s (a+1)).up ⟨cT transmit,bh U c (7-a),[],false⟩ Nn=B at *
  generalize bh U c (7-a)=L at *
  generalize cT transmit=H at *
  clear qE hq o1 o2 ql tE tv v k0;generalize cc (aZ s (a+1))=T at *
  generalize aZ s (a+1)=W at *
  subst tla;unfold cX cz dj at *
  dsimp only at c5;simp only[UT] at c5;have g1:((L.length:Int)=1+(8-(a:Int)))=True:=eq_true (by omega);have g2:((W.ck.length:Int)=(T.ck.length:Int)+1)=True:=eq_true (by omega);simp only[E4,ah,ae,aa,seval,iteOmega,toNatUp];refine sD (e0) ?_;refine sD (e1) ?_;refine sD (c1) ?_;refine sD (e2) ?_;refine sD (c2) ?_;refine sD (e3) ?_;refine sD (c3) ?_;refine sD (c4) ?_;refine sD (c5) ?_;refine sC (c6) ?_;simp only[g1,ae,aa,seval,iteOmega,toNatUp];refine sC (c7) ?_;simp only[g2,ae,aa,seval,iteOmega,toNatUp];refine bH (xt W T U ⟨H,L,[],true⟩) (fun i=>L.length-i) (fun i=>2≤i∧i≤L.length) 2 ⟨UJ _,by omega⟩ ?_ ?_
  ·refine aG (fun i=>if i=1 then 88 else if i=2 then 104 else 128) ?_ ?_ rfl rfl <;> simp only[eC,ot,UT,wx,aw,aH,aa,seval,iteOmega,toNatUp] <;> first | rfl | exact⟨rfl,rfl⟩ | skip
  ·rintro i ⟨hi,hi2⟩;clear c1 c2 c3 c4 c5 c6 c7 e0 e1 e2 e3;by_cases hlt:i<L.length
   ·have g:=qi i hi (by omega);simp only[ui,xt,eC,ot,ae,aa,seval,iteOmega,toNatUp,aV,g,aR,pty];refine bE s3 (by simp only[ae,aa,seval,iteOmega,toNatUp,Wb] <;> rfl) (.inr rfl) ?_;simp only[ae,aa,seval,iteOmega,toNatUp];refine br (i+1) (by omega) ⟨by omega,by omega⟩ (aG (fun i=>i) ?_ ?_ rfl rfl) <;> simp only[eC,ot,wx,aw,aH,aa,seval,iteOmega,toNatUp] <;> first | rfl | exact⟨rfl,rfl⟩ | skip
   ·simp only[ui,xt,eC,ot,ae,aa,seval,iteOmega,toNatUp];refine sC (ck) ?_;simp only[aV,q0,q1,f0,aR,ae,aa,seval,iteOmega,toNatUp];refine sC (s1) ?_;simp only[aV,q0,q1,f0,aR,ae,aa,seval,iteOmega,toNatUp];refine sC (s2) ?_;simp only[aV,q0,q1,f0,aR,ae,aa,seval,iteOmega,toNatUp];refine sD (s2) ?_;exact aP
end Go.Proofs.Ytofonnokanoflaa
