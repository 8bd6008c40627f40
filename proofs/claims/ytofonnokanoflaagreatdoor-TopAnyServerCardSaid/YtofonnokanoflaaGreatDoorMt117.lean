/- Texts of one's own, merged: from: Layer 19,without code: rings of keys (as fields: an ID and a key),cookies,and what the functions return. Own work. -/
import Derived.Test.YtofonnokanoflaaGreatDoorMt110
import Derived.Test.YtofonnokanoflaaGreatDoorMt114
import Derived.Test.YtofonnokanoflaaGreatDoorMt116
import Derived.Test.YtofonnokanoflaaGreatDoorMt111
import Derived.Test.YtofonnokanoflaaGreatDoorMt112
import Derived.Test.YtofonnokanoflaaGreatDoorMt115
import Derived.Test.YtofonnokanoflaaGreatDoorMt17
set_option linter.unusedVariables false
set_option linter.unusedSimpArgs false
namespace Go.Proofs.YtofonnokanoflaaGreatDoor
open Go.RowKit
def cJ (l:List Fd):D:=.agg [.sl (l.map bg)]
def Y8 (l:List Fd):Prop:=∀ i j,i<j→j<l.length→(l.getD i default).ty≠(l.getD j default).ty
def eU (l:List Fd):Prop:=1≤l.length∧l.length≤4∧(∀ f∈l,0≤f.ty∧f.ty≤4294967295∧f.da.length=32)∧(l.map Fd.ty).Nodup
instance (l:List Fd):Decidable (eU l):=by unfold eU; infer_instance
theorem FI {l:List Fd}:(l.map Fd.ty).Nodup↔Y8 l:=by
  unfold Y8;rw[aqd,List.pairwise_iff_getElem];constructor
  ·intro h i j hij hj;have:=h i j (by simp; omega) (by simp; omega) hij
   simpa [aor,aon hj,aon (show i<l.length by omega)] using this
  ·intro h i j hi hj hij;have hi':i<l.length:=by simpa using hi
   have hj':j<l.length:=by simpa using hj
   have:=h i j hij hj'
   simpa [aor,aon hj',aon hi'] using this
def xL:List UInt8:=[115,101,99,116,105,109,101,32,115,116,97,114,116]
def Bf:List UInt8:=[115,101,99,116,105,109,101,32,110,101,120,116]
def ww (seed:List UInt8):List UInt8:=lT seed xL 32
def wC (key:List UInt8):List UInt8:=lT key Bf 32
theorem adx (s:List UInt8):(ww s).length=32:=xK _ _ _
theorem ady (s:List UInt8):(wC s).length=32:=xK _ _ _
def om (id:Int) (seed:List UInt8):Int:=if id<0∨4294967295<id then 4 else if seed.length≠32 then 5 else 0
def tS (id:Int) (seed:List UInt8):List Fd:=if om id seed=0 then [⟨id,ww seed⟩] else []
def jX (l:List Fd):Int:=((l.getD 0 default).ty+1)%4294967296
def qS (l:List Fd):Fd:=⟨jX l,wC (l.getD 0 default).da⟩
def clash (l:List Fd):Bool:=(l.take 3).any fun f=>decide (f.ty=jX l)
def mD (l:List Fd):Int:=if eU l then (if clash l=true then 7 else 0) else 3
def qT (l:List Fd):List Fd:=if mD l=0 then qS l::l.take 3 else []
def jB (algo:Int) (up down:List UInt8):List UInt8:=aC algo.toNat 2++([0,0]++(up++down))
def hC (m:Fd):List UInt8:=aC m.ty.toNat 4
def dB (m:Fd) (algo:Int) (up down nonce:List UInt8):List UInt8:=hC m++(nonce++fk m.da [hC m,nonce] (jB algo up down))
def lw (l:List Fd) (algo:Int) (up down nonce:List UInt8):Int :=
  if eU l then (if algo<0∨65535<algo then 4 else if up.length≠32∨down.length≠32 then 5 else if nonce.length≠16 then 3 else 0) else 3
def mE (l:List Fd) (algo:Int) (up down nonce:List UInt8):List UInt8:=if lw l algo up down nonce=0 then dB (l.getD 0 default) algo up down nonce else []
def zu (c:List UInt8):Int:=if c.length≠104 then 3 else 0
def jC (c:List UInt8):Nat:=if c.length≠104 then 0 else bi (aG c 0 4)
def jY (l:List Fd) (id:Int):Option Nat:=l.findIdx? fun f=>decide (f.ty=id)
def pN (m:Fd) (c:List UInt8):Int:=iG m.da [aG c 0 4,aG c 4 16] (c.drop 20)
def iZ (m:Fd) (c:List UInt8):List UInt8:=iX m.da [aG c 0 4,aG c 4 16] (c.drop 20)
def tT (m:Fd) (c:List UInt8):Prop:=pN m c=0∧(iZ m c).getD 2 0=0∧(iZ m c).getD 3 0=0
instance (m:Fd) (c:List UInt8):Decidable (tT m c):=by unfold tT; infer_instance
def gA (l:List Fd) (c:List UInt8):Int :=
  if eU l then (if c.length≠104 then 3 else match jY l (jC c) with | none=>5 | some i=>if tT (l.getD i default) c then 0 else 6) else 3
structure KB where
  al:Int
  up:List UInt8
  dn:List UInt8
  ag:Int
def ny (l:List Fd) (c:List UInt8):KB :=
  if gA l c=0 then (let i:=(jY l (jC c)).getD 0; let b:=iZ (l.getD i default) c; ⟨(bi (aG b 0 2):Int),aG b 4 32,aG b 36 32,(i:Int)⟩) else ⟨0,[],[],0⟩
theorem afS {m:Fd} {c:List UInt8} (hc:c.length=104) (h:pN m c=0):(iZ m c).length=68:=by
  unfold iZ iX;unfold pN at h;rw[if_pos h,lE];simp[hc]
theorem SG (algo:Int) {up down:List UInt8} (h1:up.length=32) (h2:down.length=32):(jB algo up down).length=68:=by
  simp[jB,bO,h1,h2]
theorem Gj {m:Fd} {algo:Int} {up down nonce:List UInt8} (hk:m.da.length=32) (i0:0≤m.ty) (i1:m.ty≤4294967295) (a0:0≤algo) (a1:algo≤65535) (h1:up.length=32) (h2:down.length=32) (hn:nonce.length=16) :
    (dB m algo up down nonce).length=104∧(jC (dB m algo up down nonce):Int)=m.ty∧tT m (dB m algo up down nonce) ∧
      (bi (aG (iZ m (dB m algo up down nonce)) 0 2):Int)=algo∧aG (iZ m (dB m algo up down nonce)) 4 32=up∧aG (iZ m (dB m algo up down nonce)) 36 32=down:=by
  have hp:=SG algo h1 h2;have hi:(hC m).length=4:=bO _ _;have ha:dC m.da [hC m,nonce] ((jB algo up down).length:Int)=0:=AA hk (by simp) (fun x hx=>by simp at hx; rcases hx with rfl | rfl <;> omega) (by omega);have hs:(fk m.da [hC m,nonce] (jB algo up down)).length=84:=by rw[nK ha,aoq,kQ,lE,hp]
  have hl:(dB m algo up down nonce).length=104:=by
    unfold dB;simp only[aoq,hi,hn,hs]
  have c1:aG (dB m algo up down nonce) 0 4=hC m:=by
    unfold dB aG;rw[apS];exact aqx hi
  have c2:aG (dB m algo up down nonce) 4 16=nonce:=by
    have:=mN (hC m) nonce (fk m.da [hC m,nonce] (jB algo up down));rw[hi,hn] at this;exact this
  have c3:(dB m algo up down nonce).drop 20=fk m.da [hC m,nonce] (jB algo up down):=by
    unfold dB;rw[← aoC];exact List.drop_left' (by simp[hi,hn])
  obtain⟨o1,o2⟩:=Gd ha;rw[← nK ha] at o1 o2;have x1:pN m (dB m algo up down nonce)=0:=by unfold pN; rw[c1,c2,c3]; exact o1
  have x2:iZ m (dB m algo up down nonce)=jB algo up down:=by unfold iZ; rw[c1,c2,c3]; exact o2
  have p2:jB algo up down=aC algo.toNat 2++([0,0]++(up++down)):=rfl;refine⟨hl,?_,⟨x1,?_,?_⟩,?_,?_,?_⟩
  ·unfold jC;rw[if_neg (by omega),c1];unfold hC;rw[get_put 4 (by decide)];omega
  ·rw[x2,p2,aor,aoV (by simp[bO])];simp[bO]
  ·rw[x2,p2,aor,aoV (by simp[bO])];simp[bO]
  ·rw[x2,p2];have:=mN [] (aC algo.toNat 2) ([0,0]++(up++down));rw[apa,bO] at this;rw[show ([]:List UInt8).length=0 from rfl] at this;rw[this,get_put 2 (by decide)];omega
  ·rw[x2,p2];have:=mN (aC algo.toNat 2++[0,0]) up down;rw[aoC,aoq,bO,h1] at this;exact this
  ·rw[x2,p2];have:=mN (aC algo.toNat 2++([0,0]++up)) down [];rw[aoF,aoC,aoC,aoq,aoq,bO,h1,h2] at this;exact this
def wT (seed:List UInt8):Nat→List UInt8
  | 0=>ww seed
  | n+1=>wC (wT seed n)
theorem He (seed:List UInt8) (n:Nat):(wT seed n).length=32:=by
  cases n
  ·exact adx _
  ·exact ady _
def bS (s:Nat) (seed:List UInt8) (t:Nat):List Fd:=(List.range (min 4 (t+1))).map fun i=>⟨((s+(t-i):Nat):Int),wT seed (t-i)⟩
theorem qb (s:Nat) (seed:List UInt8) (t:Nat):(bS s seed t).length=min 4 (t+1):=by simp[bS]
theorem yf {s:Nat} {seed:List UInt8} {t i:Nat} (h:i<min 4 (t+1)):(bS s seed t).getD i default=⟨((s+(t-i):Nat):Int),wT seed (t-i)⟩:=by
  unfold bS;rw[aor,apk,apZ h];rfl
theorem yg {s:Nat} {seed:List UInt8} {t:Nat} (h:s+t≤4294967295):eU (bS s seed t):=by
  have hl:=qb s seed t;refine⟨by omega,by omega,?_,?_⟩
  ·intro f hf;obtain⟨i,hi,rfl⟩:=aoN.1 hf;exact⟨by show (0:Int)≤((s+(t-i):Nat):Int); omega,by show ((s+(t-i):Nat):Int)≤4294967295; omega,He _ _⟩
  ·rw[FI];intro i j hij hj;rw[hl] at hj;rw[yf (by omega),yf (by omega)]
   show ((s+(t-i):Nat):Int)≠((s+(t-j):Nat):Int)
   omega
theorem abF (s:Nat) (seed:List UInt8) (h:s≤4294967295) (hs:seed.length=32):om s seed=0∧tS s seed=bS s seed 0:=by
  have e:om s seed=0:=by unfold om; rw[if_neg (by omega),if_neg (by omega)]
  exact⟨e,by unfold tS; rw[if_pos e]; rfl⟩
theorem adz {s:Nat} {seed:List UInt8} {t:Nat} (h:s+t<4294967295):mD (bS s seed t)=0∧qT (bS s seed t)=bS s seed (t+1):=by
  have hl:=qb s seed t;have h0:=yf (s:=s) (seed:=seed) (t:=t) (i:=0) (by omega);have hn:jX (bS s seed t)=((s+(t+1):Nat):Int):=by
    unfold jX;rw[h0]
    show (((s+(t-0):Nat):Int)+1)%4294967296=_
    omega
  have hc:clash (bS s seed t)=false:=by
    unfold clash;rw[apz];intro f hf;obtain⟨i,hi,rfl⟩:=aoN.1 (apK hf);rw[hn,decide_eq_false (by show ((s+(t-i):Nat):Int)≠((s+(t+1):Nat):Int); omega)];decide
  have e:mD (bS s seed t)=0:=by unfold mD; rw[if_pos (yg (by omega)),if_neg (by rw[hc]; decide)]
  refine⟨e,?_⟩;unfold qT;rw[if_pos e];have hx:qS (bS s seed t)=⟨((s+(t+1):Nat):Int),wT seed (t+1)⟩:=by
    unfold qS;rw[hn,h0];rfl
  rw[hx];refine List.ext_getElem (by simp[qb]; omega) fun i i1 i2=>?_
  have hi:i<min 4 (t+1+1):=by rw[qb] at i2; exact i2
  cases i with
  | zero=>simp[bS]
  | succ i =>
    rw[List.getElem_cons_succ,apE];simp only[bS,aoT,apN];rw[show t+1-(i+1)=t-i by omega]
theorem adA {s:Nat} {seed:List UInt8} {t k:Nat} (hk:k≤t):jY (bS s seed t) ((s+k:Nat):Int)=if t-k<4 then some (t-k) else none:=by
  unfold jY;have hl:=qb s seed t;have hat:∀ i (hi:i<(bS s seed t).length),(bS s seed t)[i].ty=((s+(t-i):Nat):Int):=fun i hi=>by simp[bS]
  split
  ·rename_i h;rw[apU];refine⟨by omega,?_,fun j hj=>?_⟩
   ·rw[hat]; exact decide_eq_true (by omega)
   ·rw[hat,decide_eq_false (by omega)]; decide
  ·rename_i h;rw[aqg];intro f hf;obtain⟨i,hi,rfl⟩:=ao0 hf;rw[hat];exact decide_eq_false (by omega)
def t7 (b:List UInt8) (i:Nat):Int:=(bi (aG b (2*i) 2):Int)
def oz (b:List UInt8) (k:Nat):List Int:=(List.range k).map (t7 b)
def qU (b:List UInt8):List Int:=oz b (b.length / 2)
def iK (b:List UInt8):List Int:=if b.length%2=0 then qU b else []
theorem adB (b:List UInt8) (k:Nat):oz b (k+1)=oz b k++[t7 b k]:=by simp[oz,apv]
theorem SH (b:List UInt8) (k:Nat):(oz b k).length=k:=by simp[oz]
theorem afT (b:List UInt8):(qU b).length=b.length / 2:=SH _ _
theorem ajk {b:List UInt8} {i:Nat} (h:2*i+2≤b.length):0≤t7 b i∧t7 b i≤65535:=by
  have:=(jc 2 (aG b (2*i) 2) (fj (by omega)) (by decide)).1;unfold t7;omega
def bG (l:List Int):List UInt8:=l.flatMap fun n=>aC n.toNat 2
theorem Gk (n:Int) (l:List Int):bG (n::l)=aC n.toNat 2++bG l:=rfl
theorem afU (a b:List Int):bG (a++b)=bG a++bG b:=by simp[bG]
theorem iQ (l:List Int):(bG l).length=2*l.length:=by
  induction l with
  | nil=>rfl
  | cons n l ih=>rw[Gk,aoq,bO,ih,apj]; omega
def dq (l:List Int):Prop:=∀ n∈l,0≤n∧n≤65535
instance (l:List Int):Decidable (dq l):=by unfold dq; infer_instance
theorem adC {n:Int} {l:List Int} (h:dq (n::l)):(0≤n∧n≤65535)∧dq l:=⟨h n aoW,fun x hx=>h x (aoQ _ hx)⟩
theorem adD {x:List UInt8} (hx:x.length=2) (b:List UInt8):qU (x++b)=(bi x:Int)::qU b:=by
  have hl:(x++b).length / 2=b.length / 2+1:=by rw[aoq]; omega
  unfold qU oz;rw[hl,List.range_succ_eq_map,aos,apO]
  congr 1
  ·unfold t7;rw[show aG (x++b) (2*0) 2=x from aqx hx]
  ·refine ao1 fun i _=>?_
   show (bi (aG (x++b) (2*(i+1)) 2):Int)=(bi (aG b (2*i) 2):Int)
   rw[show 2*(i+1)=x.length+2*i by omega,uY]
theorem afV {l:List Int} (h:dq l):qU (bG l)=l:=by
  induction l with
  | nil=>rfl
  | cons n l ih =>
    obtain⟨h1,h2⟩:=adC h;rw[Gk,adD (bO _ _),ih h2,get_put 2 (by decide)]
    congr 1; omega
theorem rn {l:List Int} (h:dq l):iK (bG l)=l:=by
  unfold iK;rw[if_pos (by rw[iQ]; omega),afV h]
def t8 (l:List Ek) (k:Int) (i:Nat):List Nat:=(List.range i).filter fun j=>decide ((l.getD j default).ty=k)
def dk (l:List Ek) (k:Int):List Nat:=t8 l k l.length
def a9 (l:List Ek) (k:Int):List Ek:=l.filter fun r=>decide (r.ty=k)
theorem afW {l:List Ek} {k:Int} {i:Nat} (h:(l.getD i default).ty=k):t8 l k (i+1)=t8 l k i++[i]:=by
  unfold t8;rw[apv,List.filter_append]
  congr 1
  rw[List.filter_cons,if_pos (decide_eq_true h),List.filter_nil]
theorem ajl {l:List Ek} {k:Int} {j:Nat} (h:j<(dk l k).length):(dk l k).getD j 0<l.length∧(l.getD ((dk l k).getD j 0) default).ty=k:=by
  have hm:(dk l k).getD j 0∈dk l k:=by
    rw[aor,aon h];exact aoS h
  obtain⟨h1,h2⟩:=apV.1 hm;exact⟨apI.1 h1,of_decide_eq_true h2⟩
theorem aak (l:List Ek):(List.range l.length).map (fun i=>l.getD i default)=l:=by
  refine List.ext_getElem (by simp) fun i h1 h2=>?_
  rw[aoT,apN,aor,aon h2]; rfl
theorem SI (l:List Ek) (k:Int):(dk l k).map (fun i=>l.getD i default)=a9 l k:=by
  have:a9 l k=((List.range l.length).map (fun i=>l.getD i default)).filter fun r=>decide (r.ty=k):=by rw[aak]; rfl
  rw[this,List.filter_map];rfl
theorem dQ (l:List Ek) (k:Int):(dk l k).length=(a9 l k).length:=by rw[← SI,aox]
theorem rq {l:List Ek} {k:Int} {j:Nat} (h:j<(dk l k).length):l.getD ((dk l k).getD j 0) default=(a9 l k).getD j default:=by
  rw[← SI,aor (l:=(dk l k).map _),apk,aon h,aor (l:=dk l k),aon h];rfl
def wU (r:Ek):Prop:=((r.ty=1∨r.ty=4)→r.bo.length%2=0)∧(r.ty=7→r.bo.length=2)
instance (r:Ek):Decidable (wU r):=by unfold wU; infer_instance
def KC (l:List Ek):Prop:=(dk l 0).length=1∧(dk l 0).getD 0 0=l.length-1∧(l.getD ((dk l 0).getD 0 0) default).bo.length=0∧(dk l 1).length≤1∧(dk l 4).length≤1∧(dk l 6).length≤1∧(dk l 7).length≤1
instance (l:List Ek):Decidable (KC l):=by unfold KC; infer_instance
def qV (l:List Ek):Prop:=KC l∧∀ r∈l,wU r
instance (l:List Ek):Decidable (qV l):=by unfold qV; infer_instance
def iz (b:List UInt8):Prop:=gQ b=0∧qV (bp b)
instance (b:List UInt8):Decidable (iz b):=by unfold iz; infer_instance
def mF (b:List UInt8):List Ek:=if iz b then bp b else []
def lX (l:List Ek):Bool:=l.any fun r=>r.cr&&decide (7<r.ty)
def gg (x y:List Int):Int:=if ¬ (dq x∧dq y) then 4 else if x.length=0∨16<x.length∨y.length=0∨16<y.length then 8 else 0
def gB (x y:List Int):List Ek:=[⟨true,1,bG x⟩,⟨true,4,bG y⟩,⟨true,0,[]⟩]
def df (x y:List Int):List UInt8:=if gg x y=0 then cg (gB x y) else []
def gC (x y:List Int):Option Int:=x.find? fun v=>decide (v∈y)
def amv:List UInt8:=[115,101,99,116,105,109,101,32,107,101,121,115]
def sG (p a:Int) (z:UInt8):List UInt8:=bG [p,a]++[z]
def kH (c:Ch) (p a:Int):Int:=if ¬ eT c then 3 else if ¬ dq [p,a] then 4 else 0
def cE (c:Ch) (p a:Int) (z:UInt8):List UInt8:=if kH c p a=0 then lT c.se (qL vW amv (sG p a z)) 32 else []
theorem rr {c:Ch} {p a:Int} {z:UInt8} (h:kH c p a=0):(cE c p a z).length=32:=by unfold cE; rw[if_pos h]; exact xK _ _ _
structure gD where
  pr:List Int
  al:List Int
  ho:ByteArray
  pt:Int
def jO (p:gD):D:=.agg [.sl (p.pr.map zD),.sl (p.al.map zD),.str p.ho,.int .i64 p.pt]
def kJ (code:Int):List UInt8:=cg [⟨true,2,bG [code]⟩,⟨true,0,[]⟩]
def qW (b:List UInt8):Prop:=iz b∧(dk (bp b) 1).length≠0∧(dk (bp b) 4).length≠0∧(dk (bp b) 2).length+(dk (bp b) 3).length+(dk (bp b) 5).length=0
instance (b:List UInt8):Decidable (qW b):=by unfold qW; infer_instance
def sH (ns:List (List UInt8)) (ho:ByteArray):Prop:=1≤ns.length∧ns.length≤8∧ho.size≤255∧∀ n∈ns,n.length=16
instance (ns:List (List UInt8)) (ho:ByteArray):Decidable (sH ns ho):=by unfold sH; infer_instance
def jm (l:List Ek) (k:Int):List Int:=iK (l.getD ((dk l k).getD 0 0) default).bo
def jD (r:List Fd) (c:Ch) (v a:Int) (ns:List (List UInt8)):List Ek:=ns.map fun n=>⟨false,5,mE r a (cE c v a 0) (cE c v a 1) n⟩
def lY (p:gD):List Ek:=(if p.ho.size=0 then [] else [⟨true,6,p.ho.data.toList⟩])++((if p.pt=0 then [] else [⟨true,7,bG [p.pt]⟩])++[⟨true,0,[]⟩])
def iL (p:gD) (r:List Fd) (c:Ch) (x y:List Int) (ns:List (List UInt8)):List Ek :=
  match gC x p.pr with
  | none=>[⟨true,1,[]⟩]
  | some v=>⟨true,1,bG [v]⟩::match gC y p.al with
    | none=>[⟨true,4,[]⟩]
    | some a=>⟨true,4,bG [a]⟩::jD r c v a ns
def iM (p:gD) (r:List Fd) (c:Ch):Int:=if ¬ (eT c∧eU r) then 3 else if ¬ (dq p.pr∧dq p.al∧dq [p.pt]) then 4 else 0
def kK (p:gD) (r:List Fd) (c:Ch) (b:List UInt8) (ns:List (List UInt8)):List UInt8 :=
  if ¬ iM p r c=0 then [] else if ¬ qW b then kJ 1 else if lX (bp b)=true then kJ 0 else if ¬ sH ns p.ho then kJ 2 else cg (iL p r c (jm (bp b) 1) (jm (bp b) 4) ns++lY p)
structure wW where
  pr:Int
  al:Int
  up:List UInt8
  dn:List UInt8
  ck:List (List UInt8)
  ho:List UInt8
  pt:Int
def nz (t:wW):D:=.agg [.int .i64 t.pr,.int .i64 t.al,.sl (t.up.map bD),.sl (t.dn.map bD),.sl (t.ck.map fun l=>D.sl (l.map bD)),.str ⟨t.ho.toArray⟩,.int .i64 t.pt]
def wX:wW:=⟨0,0,[],[],[],[],0⟩
def mG (q:List UInt8):List Int:=iK ((bp q).getD 0 default).bo
def mH (q:List UInt8):List Int:=iK ((bp q).getD 1 default).bo
def nA (q:List UInt8):Prop:=iz q∧(bp q).length=3∧gg (mG q) (mH q)=0∧df (mG q) (mH q)=q
instance (q:List UInt8):Decidable (nA q):=by unfold nA; infer_instance
def i5 (l:List Ek) (k:Int) (x:List Int):Option Int:=if (dk l k).length=1 then (if (jm l k).length=1∧(jm l k).getD 0 0∈x then some ((jm l k).getD 0 0) else none) else none
def oA (l:List Ek):List (List UInt8):=(a9 l 5).map (·.bo)
def iA (c:Ch) (q b:List UInt8):Int :=
  if ¬ eT c then 3 else if ¬ nA q then 3 else if ¬ iz b then 3 else if lX (bp b)=true then 11 else if (dk (bp b) 2).length≠0 then 7
  else if ¬ ((i5 (bp b) 1 (mG q)).isSome∧(i5 (bp b) 4 (mH q)).isSome∧(dk (bp b) 5).length≠0) then 10
  else if 8<(dk (bp b) 5).length then 8 else if ¬ ∀ x∈oA (bp b),x.length=104 then 3 else 0
def wY (l:List Ek):List UInt8:=if (dk l 6).length=1 then (l.getD ((dk l 6).getD 0 0) default).bo else []
def wZ (l:List Ek):Int:=if (dk l 7).length=1 then (bi (l.getD ((dk l 7).getD 0 0) default).bo:Int) else 0
def t9 (c:Ch) (q b:List UInt8):wW :=
  if iA c q b=0 then
    ⟨(i5 (bp b) 1 (mG q)).getD 0,(i5 (bp b) 4 (mH q)).getD 0,cE c ((i5 (bp b) 1 (mG q)).getD 0) ((i5 (bp b) 4 (mH q)).getD 0) 0,cE c ((i5 (bp b) 1 (mG q)).getD 0) ((i5 (bp b) 4 (mH q)).getD 0) 1,oA (bp b),wY (bp b),wZ (bp b)⟩
  else wX
theorem yh {m:Nat}:∀ {l:List Ek},(∀ r∈l,r.bo.length≤m)→(cg l).length≤l.length*(m+4)
  | [],_=>aoy _
  | r::l,h=>by
    have ih:=yh fun x hx=>h x (aoQ r hx)
    have h1:=h r aoW;rw[uI,aoq,uZ,apj,ao9,Nat.one_mul];omega
theorem C9 {l:List Ek} (h:∀ r∈l,0≤r.ty∧r.ty≤7∧r.bo.length≤255) (hl:l.length≤64):gP l=0∧pL l=cg l:=by
  have h1:=yh (m:=255) fun r hr=>(h r hr).2.2
  exact HX (fun r hr=>by obtain⟨a,b,c⟩:=h r hr; exact HW a (by omega) (by omega)) hl (by omega)
theorem ru (k:Int):a9 [] k=[]:=rfl
theorem u7 (a b:List Ek) (k:Int):a9 (a++b) k=a9 a k++a9 b k:=List.filter_append a b
theorem Da {c:Bool} {t:Int} {b:List UInt8} {l:List Ek} {k:Int} (h:t=k):a9 (⟨c,t,b⟩::l) k=⟨c,t,b⟩::a9 l k:=by
  unfold a9;rw[List.filter_cons,if_pos (decide_eq_true h)]
theorem mg {c:Bool} {t:Int} {b:List UInt8} {l:List Ek} {k:Int} (h:t≠k):a9 (⟨c,t,b⟩::l) k=a9 l k:=by
  unfold a9;rw[List.filter_cons,if_neg (fun q=>h (of_decide_eq_true q))]
theorem jq {c:Bool} {t:Int} {b:List UInt8} (h1:0≤t∧t≤7) (h2:b.length≤255):0≤(⟨c,t,b⟩:Ek).ty∧(⟨c,t,b⟩:Ek).ty≤7∧(⟨c,t,b⟩:Ek).bo.length≤255:=⟨h1.1,h1.2,h2⟩
theorem Ij {c:Bool} {t:Int} {b:List UInt8} (h:t≠7) (h2:t=1∨t=4→b.length%2=0):wU ⟨c,t,b⟩:=⟨h2,fun q=>absurd q h⟩
theorem afX {l:List Ek} {k:Int} (h:∀ r∈l,r.ty=k):a9 l k=l:=List.filter_eq_self.2 fun r hr=>decide_eq_true (h r hr)
theorem ajm {l:List Ek} {k:Int} (h:∀ r∈l,r.ty≠k):a9 l k=[]:=List.filter_eq_nil_iff.2 fun r hr q=>h r hr (of_decide_eq_true q)
theorem ajn {i:List Ek} {e:Ek} {k:Int} (h:a9 i k=[]) (he:e.ty=k):dk (i++[e]) k=[i.length]:=by
  have hl:(i++[e]).length=i.length+1:=by simp
  have hg:(i++[e]).getD i.length default=e:=by simp[aor]
  have h0:t8 (i++[e]) k i.length=[]:=by
    have h1:t8 (i++[e]) k i.length=t8 i k i.length:=by
      refine List.filter_congr fun j hj=>?_
      have hj:=apI.1 hj;rw[aor,apb hj,← aor]
    rw[h1];have:=dQ i k;rw[h] at this;exact ao3.1 this
  unfold dk;rw[hl,afW (by rw[hg]; exact he),h0]; rfl
theorem VY {i:List Ek} (h0:a9 i 0=[]) (h1:(a9 i 1).length≤1) (h4:(a9 i 4).length≤1) (h6:(a9 i 6).length≤1) (h7:(a9 i 7).length≤1) (hb:∀ r∈i,wU r):qV (i++[⟨true,0,[]⟩]):=by
  have e:=ajn (e:=⟨true,0,[]⟩) h0 rfl;have en:∀ k:Int,(0:Int)≠k→a9 (i++[⟨true,0,[]⟩]) k=a9 i k:=fun k hk=>by rw[u7,mg hk,ru,aoF]
  refine⟨⟨by rw[e]; rfl,?_,?_,?_,?_,?_,?_⟩,fun r hr=>?_⟩
  ·rw[e]; simp
  ·rw[e]
   show ((i++[(⟨true,0,[]⟩:Ek)]).getD i.length default).bo.length=0
   simp[aor]
  ·rw[dQ,en 1 (by decide)]; exact h1
  ·rw[dQ,en 4 (by decide)]; exact h4
  ·rw[dQ,en 6 (by decide)]; exact h6
  ·rw[dQ,en 7 (by decide)]; exact h7
  ·rcases aoG.1 hr with h | h
   ·exact hb r h
   ·rw[aou.1 h]; exact Ij (by decide) fun _=>rfl
theorem Ik {l:List Ek} {k:Int} {r:Ek} (h:a9 l k=[r]):jm l k=iK r.bo:=by
  have hl:(dk l k).length=1:=by rw[dQ,h]; rfl
  unfold jm;rw[rq (by omega),h]; rfl
theorem zb {x y:List Int} (h:gg x y=0):dq x∧dq y∧x.length≠0∧x.length≤16∧y.length≠0∧y.length≤16:=by
  unfold gg at h;by_cases h1:dq x∧dq y
  ·rw[if_neg (not_not_intro h1)] at h;by_cases h2:x.length=0∨16<x.length∨y.length=0∨16<y.length
   ·rw[if_pos h2] at h; exact absurd h (by decide)
   ·exact⟨h1.1,h1.2,by omega,by omega,by omega,by omega⟩
  ·rw[if_pos h1] at h; exact absurd h (by decide)
theorem ajo {x y:List Int} (h:gg x y=0):gP (gB x y)=0∧pL (gB x y)=cg (gB x y):=by
  obtain⟨_,_,_,h1,_,h2⟩:=zb h;refine C9 (fun r hr=>?_) (show 3≤64 by decide);unfold gB at hr;rcases aoK.1 hr with rfl | hr
  ·exact jq (by decide) (by rw[iQ]; omega)
  ·rcases aoK.1 hr with rfl | hr
   ·exact jq (by decide) (by rw[iQ]; omega)
   ·rw[aou.1 hr]; exact jq (by decide) (by decide)
theorem Jq {x y:List Int} (h:gg x y=0):gQ (df x y)=0∧bp (df x y)=gB x y∧iz (df x y):=by
  have e:df x y=cg (gB x y):=if_pos h;obtain⟨q1,q2⟩:=XQ (ajo h).1;rw[e];refine⟨q1,q2,q1,?_⟩;rw[q2];have n:∀ (k:Int),(1:Int)≠k→(4:Int)≠k→a9 [(⟨true,1,bG x⟩:Ek),⟨true,4,bG y⟩] k=[]:=fun k h1 h2=>by rw[mg h1,mg h2,ru]
  refine VY (i:=[⟨true,1,bG x⟩,⟨true,4,bG y⟩]) (n 0 (by decide) (by decide)) ?_ ?_ ?_ ?_ ?_
  ·rw[Da rfl,mg (by decide),ru]; exact aoz _
  ·rw[mg (by decide),Da rfl,ru]; exact aoz _
  ·rw[n 6 (by decide) (by decide)]; exact aoy _
  ·rw[n 7 (by decide) (by decide)]; exact aoy _
  ·intro r hr;rcases aoK.1 hr with rfl | hr
   ·exact Ij (by decide) fun _=>by rw[iQ]; omega
   ·rw[aou.1 hr]; exact Ij (by decide) fun _=>by rw[iQ]; omega
theorem Ya (x y:List Int):a9 (gB x y) 1=[⟨true,1,bG x⟩]∧a9 (gB x y) 4=[⟨true,4,bG y⟩]∧∀ k:Int,(1:Int)≠k→(4:Int)≠k→(0:Int)≠k→a9 (gB x y) k=[]:=by
  unfold gB;refine⟨?_,?_,fun k h1 h2 h3=>?_⟩
  ·rw[Da rfl,mg (by decide),mg (by decide),ru]
  ·rw[mg (by decide),Da rfl,mg (by decide),ru]
  ·rw[mg h1,mg h2,mg h3,ru]
theorem aoc {x y:List Int} (h:gg x y=0):qW (df x y)∧lX (bp (df x y))=false∧jm (bp (df x y)) 1=x∧jm (bp (df x y)) 4=y:=by
  obtain⟨hx,hy,_⟩:=zb h;obtain⟨q1,q2,q3⟩:=Jq h;obtain⟨a1,a4,an⟩:=Ya x y;unfold qW;rw[q2];refine⟨⟨q3,?_,?_,?_⟩,rfl,?_,?_⟩
  ·rw[dQ,a1]; exact Nat.one_ne_zero
  ·rw[dQ,a4]; exact Nat.one_ne_zero
  ·rw[dQ,dQ,dQ,an 2 (by decide) (by decide) (by decide),an 3 (by decide) (by decide) (by decide),an 5 (by decide) (by decide) (by decide)]; rfl
  ·rw[Ik a1,rn hx]
  ·rw[Ik a4,rn hy]
theorem Y9 {x y:List Int} (h:gg x y=0):nA (df x y)∧mG (df x y)=x∧mH (df x y)=y:=by
  obtain⟨hx,hy,_⟩:=zb h;obtain⟨q1,q2,q3⟩:=Jq h;have ex:mG (df x y)=x:=by
    unfold mG;rw[q2];exact rn hx
  have ey:mH (df x y)=y:=by
    unfold mH;rw[q2];exact rn hy
  refine⟨⟨q3,by rw[q2]; rfl,by rw[ex,ey]; exact h,by rw[ex,ey]⟩,ex,ey⟩
theorem rE {x y:List Int} {v:Int} (h:gC x y=some v):v∈x∧v∈y:=by
  obtain⟨h1,h2⟩:=List.find?_eq_some_iff_append.1 h;obtain⟨u,w,rfl,_⟩:=h2;exact⟨aoM _ aoW,of_decide_eq_true h1⟩
theorem VZ {l:List Ek} {k:Int} {x:List Int} {r:Ek} (h:a9 l k=[r]):i5 l k x=if (iK r.bo).length=1∧(iK r.bo).getD 0 0∈x then some ((iK r.bo).getD 0 0) else none:=by
  unfold i5;rw[dQ,h,if_pos (show [r].length=1 from rfl),Ik h]
theorem SJ {l:List Ek} {k v:Int} {x:List Int} {c:Bool} (h:a9 l k=[⟨c,k,bG [v]⟩]) (hv:v∈x) (hs:0≤v∧v≤65535):i5 l k x=some v:=by
  have e:iK (bG [v])=[v]:=rn fun n hn=>by rw[aou.1 hn]; exact hs
  rw[VZ h];dsimp only;rw[e,if_pos ⟨rfl,hv⟩];rfl
theorem P5 {l:List Ek} {k:Int} {x:List Int} {c:Bool} (h:a9 l k=[⟨c,k,[]⟩]):i5 l k x=none:=by
  have e:iK (⟨c,k,[]⟩:Ek).bo=[]:=rn (l:=[]) fun n hn=>by cases hn
  rw[VZ h,e,if_neg (fun q=>absurd q.1 (by decide))]
theorem afY (r:List Fd) (c:Ch) (v a:Int) (ns:List (List UInt8)):∀ e∈jD r c v a ns,e.ty=5∧e.cr=false:=fun e he=>by
  obtain⟨n,_,rfl⟩:=aoN.1 he;exact⟨rfl,rfl⟩
theorem yi {l:List Ek} {t:Int} (h:∀ r∈l,r.ty=t) (k:Int):a9 l k=if k=t then l else []:=by
  by_cases e:k=t
  ·rw[if_pos e,e,afX h]
  ·rw[if_neg e];exact ajm fun r hr q=>e (by rw[← q,h r hr])
def cU (a:Ek) (b x h p:List Ek):List Ek:=a::(b++(x++(h++p)))
theorem ajp {a:Ek} {b x h p:List Ek} (h1:a.ty=1) (h4:∀ r∈b,r.ty=4) (h5:∀ r∈x,r.ty=5) (h6:∀ r∈h,r.ty=6) (h7:∀ r∈p,r.ty=7) (k:Int) :
    a9 (cU a b x h p) k=(if k=1 then [a] else [])++((if k=4 then b else [])++((if k=5 then x else [])++((if k=6 then h else [])++(if k=7 then p else [])))):=by
  have e:cU a b x h p=[a]++(b++(x++(h++p))):=rfl;rw[e,u7,u7,u7,u7,yi (l:=[a]) (t:=1) (fun r hr=>by rw[aou.1 hr]; exact h1),yi h4,yi h5,yi h6,yi h7]
def dP:Ek:=⟨true,0,[]⟩
theorem Il {a:Ek} {b x h p:List Ek} {P:Ek→Prop} (h1:P a) (h4:∀ r∈b,P r) (h5:∀ r∈x,P r) (h6:∀ r∈h,P r) (h7:∀ r∈p,P r):∀ r∈cU a b x h p,P r:=by
  intro r hr;rcases aoK.1 hr with rfl | hr
  ·exact h1
  ·rcases aoG.1 hr with hr | hr
   ·exact h4 r hr
   ·rcases aoG.1 hr with hr | hr
    ·exact h5 r hr
    ·rcases aoG.1 hr with hr | hr
     ·exact h6 r hr
     ·exact h7 r hr
theorem Js {a:Ek} {b x h p:List Ek} (h1:a.ty=1) (h4:∀ r∈b,r.ty=4) (h5:∀ r∈x,r.ty=5) (h6:∀ r∈h,r.ty=6) (h7:∀ r∈p,r.ty=7)
    (l4:b.length≤1) (l5:x.length≤8) (l6:h.length≤1) (l7:p.length≤1) (b1:a.bo.length%2=0∧a.bo.length≤255) (b4:∀ r∈b,r.bo.length%2=0∧r.bo.length≤255) (b5:∀ r∈x,r.bo.length≤255) (b6:∀ r∈h,r.bo.length≤255) (b7:∀ r∈p,r.bo.length=2) :
    gP (cU a b x h p++[dP])=0∧gQ (cg (cU a b x h p++[dP]))=0∧bp (cg (cU a b x h p++[dP]))=cU a b x h p++[dP]∧iz (cg (cU a b x h p++[dP]))∧lX (cU a b x h p++[dP])=false ∧
      a9 (cU a b x h p++[dP]) 1=[a]∧a9 (cU a b x h p++[dP]) 2=[]∧a9 (cU a b x h p++[dP]) 4=b∧a9 (cU a b x h p++[dP]) 5=x∧a9 (cU a b x h p++[dP]) 6=h∧a9 (cU a b x h p++[dP]) 7=p:=by
  have al:=ajp h1 h4 h5 h6 h7;have z1:(1:Int)≠4∧(1:Int)≠5∧(1:Int)≠6∧(1:Int)≠7:=by decide
  have al0:a9 (cU a b x h p) 0=[]:=by rw[al]; rfl
  have al1:a9 (cU a b x h p) 1=[a]:=by rw[al]; rfl
  have al2:a9 (cU a b x h p) 2=[]:=by rw[al]; rfl
  have al4:a9 (cU a b x h p) 4=b:=by
    rw[al]
    show []++(b++([]++([]++[])))=b
    simp
  have al5:a9 (cU a b x h p) 5=x:=by
    rw[al]
    show []++([]++(x++([]++[])))=x
    simp
  have al6:a9 (cU a b x h p) 6=h:=by
    rw[al]
    show []++([]++([]++(h++[])))=h
    simp
  have al7:a9 (cU a b x h p) 7=p:=by
    rw[al]; rfl
  have en:∀ k:Int,(0:Int)≠k→a9 (cU a b x h p++[dP]) k=a9 (cU a b x h p) k:=fun k hk=>by
    unfold dP;rw[u7,mg hk,ru,aoF]
  have hl:(cU a b x h p).length≤12:=by
    unfold cU;rw[apj,aoq,aoq,aoq]; omega
  have ok:gP (cU a b x h p++[dP])=0:=by
    refine (C9 (fun r hr=>?_) (by rw[aoq]; show _+1≤64; omega)).1;rcases aoG.1 hr with hr | hr
    ·refine Il (P:=fun r=>0≤r.ty∧r.ty≤7∧r.bo.length≤255) ?_ ?_ ?_ ?_ ?_ r hr
     ·exact⟨by omega,by omega,b1.2⟩
     ·exact fun r hr=>⟨by rw[h4 r hr]; decide,by rw[h4 r hr]; decide,(b4 r hr).2⟩
     ·exact fun r hr=>⟨by rw[h5 r hr]; decide,by rw[h5 r hr]; decide,b5 r hr⟩
     ·exact fun r hr=>⟨by rw[h6 r hr]; decide,by rw[h6 r hr]; decide,b6 r hr⟩
     ·exact fun r hr=>⟨by rw[h7 r hr]; decide,by rw[h7 r hr]; decide,by rw[b7 r hr]; decide⟩
    ·rw[aou.1 hr]; exact jq (by decide) (by decide)
  obtain⟨d1,d2⟩:=XQ ok;have fm:qV (cU a b x h p++[dP]):=by
    refine VY al0 (by rw[al1]; exact aoz _) (by rw[al4]; exact l4) (by rw[al6]; exact l6) (by rw[al7]; exact l7) ?_;refine Il ?_ ?_ ?_ ?_ ?_
    ·exact⟨fun _=>b1.1,fun q=>absurd (h1.symm.trans q) (by decide)⟩
    ·exact fun r hr=>⟨fun _=>(b4 r hr).1,fun q=>absurd ((h4 r hr).symm.trans q) (by decide)⟩
    ·exact fun r hr=>⟨fun q=>by rcases q with q | q <;> exact absurd ((h5 r hr).symm.trans q) (by decide),fun q=>absurd ((h5 r hr).symm.trans q) (by decide)⟩
    ·exact fun r hr=>⟨fun q=>by rcases q with q | q <;> exact absurd ((h6 r hr).symm.trans q) (by decide),fun q=>absurd ((h6 r hr).symm.trans q) (by decide)⟩
    ·exact fun r hr=>⟨fun q=>by rcases q with q | q <;> exact absurd ((h7 r hr).symm.trans q) (by decide),fun _=>b7 r hr⟩
  have st:lX (cU a b x h p++[dP])=false:=by
    unfold lX;rw[apz];intro r hr;have:r.ty≤7:=by
      rcases aoG.1 hr with hr | hr
      ·refine Il (P:=fun r=>r.ty≤7) (by omega) ?_ ?_ ?_ ?_ r hr
       ·exact fun r hr=>by rw[h4 r hr]; decide
       ·exact fun r hr=>by rw[h5 r hr]; decide
       ·exact fun r hr=>by rw[h6 r hr]; decide
       ·exact fun r hr=>by rw[h7 r hr]; decide
      ·rw[aou.1 hr]; exact (show (0:Int)≤7 by decide)
    rw[aoU];exact fun q=>absurd (of_decide_eq_true q.2) (by omega)
  exact⟨ok,d1,d2,⟨d1,by rw[d2]; exact fm⟩,st,by rw[en 1 (by decide),al1],by rw[en 2 (by decide),al2],by rw[en 4 (by decide),al4],by rw[en 5 (by decide),al5],by rw[en 6 (by decide),al6],by rw[en 7 (by decide),al7]⟩
theorem Jt {a:Ek} {b x h p:List Ek} {c:Ch} {q:List UInt8} (hv:eT c) (hq:nA q)
    (fm:iz (cg (cU a b x h p++[dP]))) (dl:bp (cg (cU a b x h p++[dP]))=cU a b x h p++[dP]) (st:lX (cU a b x h p++[dP])=false)
    (a2:a9 (cU a b x h p++[dP]) 2=[]) (a5:a9 (cU a b x h p++[dP]) 5=x) (l5:x.length≤8) (c5:∀ r∈x,r.bo.length=104) :
    (i5 (cU a b x h p++[dP]) 1 (mG q)=none∨i5 (cU a b x h p++[dP]) 4 (mH q)=none→iA c q (cg (cU a b x h p++[dP]))=10) ∧
      (∀ v w,i5 (cU a b x h p++[dP]) 1 (mG q)=some v→i5 (cU a b x h p++[dP]) 4 (mH q)=some w→x.length≠0→iA c q (cg (cU a b x h p++[dP]))=0 ∧
        t9 c q (cg (cU a b x h p++[dP]))=⟨v,w,cE c v w 0,cE c v w 1,x.map (·.bo),wY (cU a b x h p++[dP]),wZ (cU a b x h p++[dP])⟩):=by
  generalize cU a b x h p++[dP]=L at *
  have n5:(dk L 5).length=x.length:=by rw[dQ,a5]
  have n2:(dk L 2).length=0:=by rw[dQ,a2]; rfl
  have ck:oA L=x.map (·.bo):=by unfold oA; rw[a5]
  have e:iA c q (cg L)=if ¬ ((i5 L 1 (mG q)).isSome∧(i5 L 4 (mH q)).isSome∧(dk L 5).length≠0) then 10 else if 8<(dk L 5).length then 8 else if ¬ ∀ x∈oA L,x.length=104 then 3 else 0:=by
    unfold iA;rw[dl,if_neg (not_not_intro hv),if_neg (not_not_intro hq),if_neg (not_not_intro fm),if_neg (by rw[st]; exact Bool.false_ne_true),if_neg (not_not_intro n2)]
  refine⟨fun hno=>?_,fun v w e1 e4 h0=>?_⟩
  ·rw[e,if_pos];rintro⟨q1,q2,_⟩;rcases hno with hno | hno
   ·rw[hno] at q1; exact absurd q1 (by decide)
   ·rw[hno] at q2; exact absurd q2 (by decide)
  ·have e0:iA c q (cg L)=0:=by
     rw[e,if_neg,n5,if_neg (by omega),if_neg]
     ·refine not_not_intro fun y hy=>?_
      rw[ck] at hy;obtain⟨r,hr,rfl⟩:=aoN.1 hy;exact c5 r hr
     ·refine not_not_intro ⟨by rw[e1]; rfl,by rw[e4]; rfl,by rw[n5]; exact h0⟩
   refine⟨e0,?_⟩;unfold t9;rw[if_pos e0,dl,e1,e4,ck];rfl
open IntWalk
def mZ (f:Fd):Prop:=0≤f.ty∧f.ty≤4294967295∧f.da.length=32
theorem V9 {l:List Fd} (h1:1≤l.length) (h2:l.length≤4) (h3:∀ i,i<l.length→mZ (l.getD i default)∧∀ k,k<i→(l.getD k default).ty≠(l.getD i default).ty):eU l:=by
  refine⟨h1,h2,fun f hf=>?_,FI.2 fun i j hij hj=>(h3 j hj).2 i hij⟩;obtain⟨i,hi,rfl⟩:=ao0 hf;have:=(h3 i hi).1;rw[aor,aon hi] at this;exact this
theorem rF {l:List Fd} (h:eU l) {i:Nat} (hi:i<l.length):mZ (l.getD i default)∧∀ k,k<i→(l.getD k default).ty≠(l.getD i default).ty :=
  ⟨h.2.2.1 _ (uO hi),fun k hk=>FI.1 h.2.2.2 k i hk hi⟩
def wF (l:List Fd) (i:Nat):St:=⟨bz [(1,.w (.c (.rp [.sl (l.map bg)]))),(3,.w (.c (.d (.int .i64 (i:Int)))))],hL [],uL []⟩
def DZ (l:List Fd) (i k:Nat):St:=⟨bz [(1,.w (.c (.rp [.sl (l.map bg)]))),(3,.w (.c (.d (.int .i64 (i:Int))))),(4,.w (.c (.d (.int .i64 (k:Int)))))],hL [],uL []⟩
def Ac:bq := .seq (ae [oM 48 4,oM 49 3,aU .lss 50 48 49] (aw 50 .skip (.exit 2))) (.seq (.block 3 (ae [aO 53 0 1,aA 54 53,oM 55 4,bW 56 2 54 55,aO 57 0 56,aA 58 57,aO 59 0 1,aA 60 59,oM 61 3,bW 62 2 60 61,aO 63 0 62,aA 64 63,aU .eql 65 58 64] (aw 65 (ae [bH 2 false] .ret) .skip))) (.reg [oM 51 4,am .add 52 51 1,oM 4 52]))
def ux:bq := .seq (ae [oM 15 3,aO 16 0 1,aA 17 16,bc 18 17,aU .lss 19 15 18] (aw 19 .skip (.exit 0))) (.seq (.block 1 (.seq (ae [aO 22 0 1,aA 23 22,oM 24 3,bW 25 2 23 24,aO 26 0 25,aA 27 26,am .lss 28 27 0,oM 29 28,dN 30 0 1 29 false,dz 31 30 29 false,bE 32 3 29 false,oG 33 (.idxSl 2 (.t 31) (.t 32)) 29 false,dN 34 0 33 29 false,dz 35 34 29 false,cu .gtr 36 35 4294967295 29 false,cC 37 29 36,oM 38 37,dN 39 0 1 38 false,dz 40 39 38 false,bE 41 3 38 false,oG 42 (.idxSl 2 (.t 40) (.t 41)) 38 false,dN 43 1 42 38 false,dz 44 43 38 false,fB 45 44 38 false,cu .neq 46 45 32 38 false,cC 47 38 46] (aw 47 (ae [bH 2 false] .ret) .skip)) (ae [ak 4 0] (.block 2 (.loop Ac))))) (.reg [oM 20 3,am .add 21 20 1,oM 3 21]))
def Bg:aK:=⟨1,66,ae [cW 1 0,bH 2 false] (.seq (ae [aO 5 0 1,aA 6 5,bc 7 6,am .lss 8 7 1,oM 9 8,dN 10 0 1 9 false,dz 11 10 9 false,fB 12 11 9 false,cu .gtr 13 12 4 9 false,cC 14 9 13] (aw 14 (ae [bH 2 false] .ret) .skip)) (.seq (ae [ak 3 0] (.block 0 (.loop ux))) (ae [bH 2 true] .ret))),[(2,none)]⟩
theorem af0:aI Tryz.prog {} Tryz.f72=some Bg:=by kernel_rfl
set_option maxHeartbeats 3200000 in
theorem ajE (G:au) (l:List Fd) (hl:l.length≤9223372036854775807):aF Tryz.prog G 72 [cJ l] (.w (.c (.d (.bool (decide (eU l)))))):=by
  refine aT Tryz.func72 af0 rfl rfl ?_;unfold cJ;rcases aoP l.length 1 with h1 | h1
  ·have hno:¬ eU l:=fun h=>by have:=h.1; omega
   rw[decide_eq_false hno];simp only[Bg,ai,af,seval,iteOmega];exact aZ
  ·rcases aoP 4 l.length with h4 | h4
   ·have hno:¬ eU l:=fun h=>by have:=h.2.1; omega
    have g4:((l.length:Int)>4)=True:=eq_true (by omega);rw[decide_eq_false hno];simp only[Bg,ai,af,seval,iteOmega,g4];exact aZ
   ·have g4:((l.length:Int)>4)=False:=eq_false (by omega);simp only[Bg,ai,af,seval,iteOmega,g4];refine bQ (wF l) (fun i=>l.length-i) (fun i=>i≤l.length∧∀ j,j<i→mZ (l.getD j default)∧∀ k,k<j→(l.getD k default).ty≠(l.getD j default).ty) 0 ⟨aoy _,fun j hj=>by omega⟩ ?_ ?_
    ·refine aV (fun i=>0) ?_ ?_ rfl rfl <;> simp only[wx,aH,seval]
    ·rintro i ⟨hi,hok⟩;by_cases hlt:i<l.length
     ·have g:=lU hlt;have hno:¬ mZ (l.getD i default)→¬ eU l:=fun h hr=>h (rF hr hlt).1
      have hno2:∀ k,k<i→(l.getD k default).ty=(l.getD i default).ty→¬ eU l:=fun k hk e hr=>(rF hr hlt).2 k hk e
      have hgo:mZ (l.getD i default)→(∀ k,k<i→(l.getD k default).ty≠(l.getD i default).ty)→∀ j,j<i+1→mZ (l.getD j default)∧∀ k,k<j→(l.getD k default).ty≠(l.getD j default).ty:=fun a b j hj=>by
        rcases aoP j i with h | h
        ·exact hok j h
        ·obtain rfl:j=i:=by omega
         exact⟨a,b⟩
      by_cases hm:mZ (l.getD i default)
      ·obtain⟨m1,m2,m3⟩:=hm;have g1:((l.getD i default).ty>4294967295)=False:=eq_false (by omega);have hgo:=hgo ⟨m1,m2,m3⟩;have est:wF l i=⟨bz [(1,.w (.c (.rp [.sl (l.map bg)]))),(3,.w (.c (.d (.int .i64 (i:Int)))))],hL [],uL []⟩:=rfl;rw[est];clear hok hno est;generalize hx:l.getD i default=x at *
       simp only[ux,af,seval,iteOmega,toNatUp,ba,g,bg,g1,m3];refine bQ (DZ l i) (fun k=>i-k) (fun k=>k≤i∧∀ m,m<k→(l.getD m default).ty≠x.ty) 0 ⟨aoy _,fun m hm=>by omega⟩ ?_ ?_
       ·refine aV (fun i=>0) ?_ ?_ rfl rfl <;> simp only[wx,aH,seval] <;> try rfl
       ·rintro k ⟨hk,hd⟩;by_cases hki:k<i
        ·have gk:=lU (l:=l) (i:=k) (by omega);have hne:=hno2 k hki;by_cases he:(l.getD k default).ty=x.ty
         ·rw[decide_eq_false (hne he)];have ge:((l.getD k default).ty=x.ty)=True:=eq_true he;clear hd hgo hno2 hne;generalize l.getD k default=y at *
          simp only[Ac,DZ,af,seval,iteOmega,toNatUp,ba,g,gk,bg,ge];exact aZ
         ·have ge:((l.getD k default).ty=x.ty)=False:=eq_false he;have hd':∀ m,m<k+1→(l.getD m default).ty≠x.ty:=fun m hm=>by
            rcases aoP m k with h | h
            ·exact hd m h
            ·obtain rfl:m=k:=by omega
             exact he
          clear hd hgo hno2 hne;generalize l.getD k default=y at *
          simp only[Ac,DZ,af,seval,iteOmega,toNatUp,ba,g,gk,bg,ge];refine bA (k+1) (by omega) ⟨by omega,hd'⟩ (aV (fun _=>0) ?_ ?_ rfl rfl) <;> simp only[wx,aH,aY,seval] <;> try rfl
        ·obtain rfl:k=i:=by omega
         have hgo:=hgo hd;clear hno2 hd;simp only[Ac,DZ,af,seval,iteOmega];refine bA (k+1) (by omega) ⟨by omega,hgo⟩ (aV (fun _=>0) ?_ ?_ rfl rfl) <;> simp only[wx,aH,aY,seval] <;> try rfl
      ·rw[decide_eq_false (hno hm)];clear hok hno hno2 hgo;generalize hx:l.getD i default=x at *
       unfold mZ at hm;rcases aqo x.ty 0 with m1 | m1
       ·have g1:(x.ty<0)=True:=eq_true m1;simp only[ux,wF,af,seval,iteOmega,toNatUp,ba,g,bg,g1];exact aZ
       ·have g0:(x.ty<0)=False:=eq_false (by omega);rcases aqo 4294967295 x.ty with m2 | m2
        ·have g1:(x.ty>4294967295)=True:=eq_true m2;simp only[ux,wF,af,seval,iteOmega,toNatUp,ba,g,bg,g0,g1];exact aZ
        ·have g1:(x.ty>4294967295)=False:=eq_false (by omega);have g2:((x.da.length:Int)=32)=False:=eq_false (by omega);simp only[ux,wF,af,seval,iteOmega,toNatUp,ba,g,bg,g0,g1,g2];exact aZ
     ·have hr:eU l:=V9 h1 h4 fun j hj=>hok j (by omega)
      rw[decide_eq_true hr];clear hok hr;simp only[ux,wF,af,seval,iteOmega];exact aZ
def fW (s:Nat) (seed:List UInt8) (t:Nat):Fd:=⟨((s+t:Nat):Int),wT seed t⟩
theorem P8 (s:Nat) (seed:List UInt8) (t:Nat):(bS s seed t).getD 0 default=fW s seed t:=yf (by omega)
theorem Jy {s t:Nat} {seed:List UInt8} {algo:Int} {up dn n:List UInt8} (h:s+t≤4294967295) (a0:0≤algo) (a1:algo≤65535) (h1:up.length=32) (h2:dn.length=32) (hn:n.length=16) :
    lw (bS s seed t) algo up dn n=0∧mE (bS s seed t) algo up dn n=dB (fW s seed t) algo up dn n:=by
  have e:lw (bS s seed t) algo up dn n=0:=by
    unfold lw;rw[if_pos (yg h),if_neg (by omega),if_neg (by omega),if_neg (by omega)]
  refine⟨e,?_⟩;unfold mE;rw[if_pos e,P8]
theorem Co {s k:Nat} {seed:List UInt8} {algo:Int} {up dn n:List UInt8} (h:s+k≤4294967295) (a0:0≤algo) (a1:algo≤65535) (h1:up.length=32) (h2:dn.length=32) (hn:n.length=16):(dB (fW s seed k) algo up dn n).length=104 :=
  (Gj (m:=fW s seed k) (He _ _) (by show (0:Int)≤((s+k:Nat):Int); omega) (by show ((s+k:Nat):Int)≤4294967295; omega) a0 a1 h1 h2 hn).1
theorem SN {s t k:Nat} {seed:List UInt8} {algo:Int} {up dn n:List UInt8} (h:s+t≤4294967295) (hk:k≤t) (a0:0≤algo) (a1:algo≤65535) (h1:up.length=32) (h2:dn.length=32) (hn:n.length=16) :
    (zu (dB (fW s seed k) algo up dn n)=0∧(jC (dB (fW s seed k) algo up dn n):Int)=((s+k:Nat):Int)) ∧
      (t-k<4→gA (bS s seed t) (dB (fW s seed k) algo up dn n)=0∧ny (bS s seed t) (dB (fW s seed k) algo up dn n)=⟨algo,up,dn,((t-k:Nat):Int)⟩) ∧
      (4≤t-k→gA (bS s seed t) (dB (fW s seed k) algo up dn n)=5∧ny (bS s seed t) (dB (fW s seed k) algo up dn n)=⟨0,[],[],0⟩):=by
  obtain⟨q1,q2,q3,q4,q5,q6⟩:=Gj (m:=fW s seed k) (He _ _) (by show (0:Int)≤((s+k:Nat):Int); omega) (by show ((s+k:Nat):Int)≤4294967295; omega) a0 a1 h1 h2 hn;have q2:(jC (dB (fW s seed k) algo up dn n):Int)=((s+k:Nat):Int):=q2;have hr:=yg (s:=s) (seed:=seed) (t:=t) h;have hf:=adA (s:=s) (seed:=seed) hk;refine⟨⟨if_neg (by omega),q2⟩,fun hlt=>?_,fun hge=>?_⟩
  ·rw[if_pos hlt] at hf;have hg:(bS s seed t).getD (t-k) default=fW s seed k:=by
     rw[yf (by omega)];unfold fW;rw[show t-(t-k)=k by omega]
   have e:gA (bS s seed t) (dB (fW s seed k) algo up dn n)=0:=by
     unfold gA;rw[if_pos hr,if_neg (by omega),q2,hf]
     show (if tT ((bS s seed t).getD (t-k) default) _ then (0:Int) else 6)=0
     rw[hg,if_pos q3]
   refine⟨e,?_⟩;unfold ny;rw[if_pos e,q2,hf]
   show KB.mk (bi (aG (iZ ((bS s seed t).getD (t-k) default) _) 0 2):Int) _ _ ((t-k:Nat):Int)=_
   rw[hg,q4]
   show KB.mk _ (aG (iZ ((bS s seed t).getD (t-k) default) _) 4 32) (aG (iZ ((bS s seed t).getD (t-k) default) _) 36 32) _=_
   rw[hg,q5,q6]
  ·rw[if_neg (by omega)] at hf;have e:gA (bS s seed t) (dB (fW s seed k) algo up dn n)=5:=by
     unfold gA;rw[if_pos hr,if_neg (by omega),q2,hf]
   refine⟨e,?_⟩;unfold ny;rw[if_neg (by rw[e]; decide)]
structure dr where
  hd:Hd
  pl:List Fd
  se:List Fd
  gu:Bool
def jZ:dr:=⟨Hd.z,[],[],false⟩
def dK (p:dr):D:=.agg [.int .i64 p.hd.lp,.int .i64 p.hd.vr,.int .i64 p.hd.md,.int .i64 p.hd.st,.int .i64 p.hd.pl,.int .i64 p.hd.pr,.int .u32 (p.hd.rd:Int),.int .u32 (p.hd.rp:Int),.int .u32 (p.hd.ri:Int),.int .u64 (p.hd.rf:Int),.int .u64 (p.hd.og:Int),.int .u64 (p.hd.rc:Int),.int .u64 (p.hd.tr:Int),.sl (p.pl.map bg),.sl (p.se.map bg),.bool p.gu]
def eM (p:dr):Int:=if jn p.hd=0 then di p.pl else jn p.hd
def eF (p:dr):List UInt8:=eZ p.hd++bN p.pl
def El (p:dr):List UInt8:=if eM p=0 then eF p else []
def iY (b:List UInt8):Int:=if ir b=0 then fh (b.drop 48) else ir b
def pH (b:List UInt8):dr:=if iY b=0 then ⟨d6 b,cH (b.drop 48),[],false⟩ else jZ
def ek (n s:List UInt8):List UInt8:=aC n.length 2++(aC s.length 2++(fA n 4++fA s 4))
def nE (n s:List UInt8):Fd:=⟨1028,ek n s⟩
def hY (key:List UInt8) (p:dr) (n:List UInt8):List UInt8:=fk key [eF p,n] (bN p.se)
def cK (key:List UInt8) (p:dr) (n:List UInt8):Fd:=nE n (hY key p n)
def gS (key:List UInt8) (p:dr) (n:List UInt8):Int :=
  if key.length≠32 then 5 else if n.length<16∨32<n.length then 4 else if eM p≠0 then eM p else if di p.se≠0 then di p.se else if (bM p.pl 1028).length≠0 then 3 else if p.pl.length=24 then 8 else if di [cK key p n]≠0∨1280<(eF p).length+cQ [cK key p n] then 2 else 0
def d7 (key:List UInt8) (p:dr) (n:List UInt8):List UInt8:=if gS key p n=0 then eF p++bN [cK key p n] else []
def fR (d:List UInt8):Nat:=bi (aG d 0 2)
def kL (d:List UInt8):Nat:=bi (aG d 2 2)
def j5 (d:List UInt8):Nat:=4+(fR d+3) / 4*4
def ew (d:List UInt8):List UInt8:=aG d 4 (fR d)
def gj (d:List UInt8):List UInt8:=aG d (j5 d) (kL d)
def i6 (d:List UInt8):Prop:=4≤d.length∧16≤fR d∧fR d≤32∧j5 d+kL d≤d.length∧ek (ew d) (gj d)=d
instance (d:List UInt8):Decidable (i6 d):=by unfold i6; infer_instance
def zx (d:List UInt8):List UInt8:=if i6 d then ew d else []
def zy (d:List UInt8):List UInt8:=if i6 d then gj d else []
def fE (b:List UInt8):Nat:=(cH (b.drop 48)).length-1
def fa (b:List UInt8):List UInt8:=((cH (b.drop 48)).getD (fE b) default).da
def mJ (b:List UInt8):List UInt8:=b.take (48+bL (b.drop 48) (fE b))
def sI (key b:List UInt8):Int:=iG key [mJ b,ew (fa b)] (gj (fa b))
def j6 (key b:List UInt8):List UInt8:=iX key [mJ b,ew (fa b)] (gj (fa b))
def gT (key b:List UInt8):Int :=
  if key.length≠32 then 5 else if iY b≠0 then iY b else if (bM (cH (b.drop 48)) 1028).length=0 then 10 else if (bM (cH (b.drop 48)) 1028).getD 0 0≠(fE b:Int)∨¬ i6 (fa b) then 3 else if sI key b≠0 then 6 else fh (j6 key b)
def gU (key b:List UInt8):dr:=if gT key b=0 then ⟨d6 b,(cH (b.drop 48)).take (fE b),cH (j6 key b),true⟩ else jZ
theorem Jz (b:List UInt8):fA b 4=b++List.replicate (kV b.length 4) 0:=R6 b (n:=4) (by decide)
theorem amH (n:Nat):n+kV n 4=(n+3) / 4*4:=by unfold kV; omega
theorem Ae (b:List UInt8):(fA b 4).length=(b.length+3) / 4*4:=by rw[Jz,aoq,aoR,amH]
theorem va (n s:List UInt8):(ek n s).length=4+(n.length+3) / 4*4+(s.length+3) / 4*4:=by
  unfold ek;simp only[aoq,bO,Ae]; omega
theorem v7 {n s:List UInt8} (h:12≤(ek n s).length):ct (nE n s)=4+(ek n s).length:=by
  have:=va n s;unfold ct nE;dsimp only;omega
theorem agp {n s:List UInt8} (h:12≤(ek n s).length):gO (nE n s)=nE n s:=by
  unfold gO;rw[v7 h];have:(nE n s).da=ek n s:=rfl;rw[this,show 4+(ek n s).length-4-(ek n s).length=0 by omega,apD,aoF];rfl
theorem Yi {n s:List UInt8} (h:12≤(ek n s).length) (h2:4+(ek n s).length≤1232):dA (nE n s)=0:=Va (by show (0:Int)≤1028; decide) (by show (1028:Int)≤65535; decide) (by rw[v7 h]; exact h2)
theorem amI {n s:List UInt8} (h:16≤n.length):20≤(ek n s).length:=by rw[va]; omega
theorem adJ {n s:List UInt8} (h1:16≤n.length) (h2:n.length≤32) (h3:s.length<65536):i6 (ek n s)∧ew (ek n s)=n∧gj (ek n s)=s:=by
  have hl:=va n s;have a1:fR (ek n s)=n.length:=by
    unfold fR ek;have:=mN [] (aC n.length 2) (aC s.length 2++(fA n 4++fA s 4));rw[apa,bO] at this;rw[show ([]:List UInt8).length=0 from rfl] at this;rw[this,get_put 2 (by decide)]; omega
  have a2:kL (ek n s)=s.length:=by
    unfold kL ek;have:=mN (aC n.length 2) (aC s.length 2) (fA n 4++fA s 4);rw[bO,bO] at this;rw[this,get_put 2 (by decide)]; omega
  have a3:j5 (ek n s)=4+(n.length+3) / 4*4:=by unfold j5; rw[a1]
  have b1:ew (ek n s)=n:=by
    unfold ew;have:=mN (aC n.length 2++aC s.length 2) n (List.replicate (kV n.length 4) 0++fA s 4);rw[aoq,bO,bO] at this;rw[a1];unfold ek;rw[← aoC,Jz n,aoC n];exact this
  have b2:gj (ek n s)=s:=by
    unfold gj;rw[a2,a3];unfold ek;rw[← aoC,← aoC];have:=mN (aC n.length 2++aC s.length 2++fA n 4) s (List.replicate (kV s.length 4) 0);rw[aoq,aoq,bO,bO,Ae] at this;rw[Jz s];exact this
  refine⟨⟨by omega,by omega,by omega,by omega,by rw[b1,b2]⟩,b1,b2⟩
theorem Bl (l r:List Fd) (k:Int):∀ n,n≤l.length→fu (l++r) k n=fu l k n
  | 0,_=>rfl
  | n+1,h=>by
    rw[fu,fu,Bl l r k n (by omega)];have:(l++r).getD n default=l.getD n default:=by
      rw[aor,aor,apb (by omega)]
    rw[this]
theorem S0 (l:List Fd) (k:Int):∀ n,n≤l.length→fu (l.map gO) k n=fu l k n
  | 0,_=>rfl
  | n+1,h=>by
    rw[fu,fu,S0 l k n (by omega)];have:((l.map gO).getD n default).ty=(l.getD n default).ty:=by
      rw[aor,aor,apk];rw[aon (by omega)];rfl
    rw[this]
theorem P9 {l:List Fd} {k:Int} (h:∀ f∈l,f.ty≠k):∀ n,n≤l.length→fu l k n=[]
  | 0,_=>rfl
  | n+1,hn=>by
    rw[De (h _ (uO (by omega))),P9 h n (by omega)]
theorem adK {l:List Fd} {f:Fd} {k:Int} (h:(bM l k).length=0) (hf:f.ty=k):bM (l++[f]) k=[(l.length:Int)]:=by
  unfold bM;rw[aoq,ao6,Dd (by simp[hf]),Bl l [f] k _ (aoz _)];have:fu l k l.length=[]:=apm h;rw[this,apa]
theorem yQ {h:Hd}:jn h=0↔mm h=true:=by
  unfold jn;split <;> simp_all
theorem JA {p:dr} (h:eM p=0):mm p.hd=true∧jn p.hd=0∧di p.pl=0:=by
  unfold eM at h;split at h
  ·rename_i h0; exact⟨yQ.1 h0,h0,h⟩
  ·rename_i h0; exact absurd h h0
theorem tH {l:List Fd} (h:di l=0):(∀ f∈l,dA f=0)∧l.length≤24∧cQ l≤1232∧lr l=bN l:=by
  have hB:lr l=bN l:=if_pos h;unfold di at h;split at h
  ·rename_i h0;split at h
   ·cases h
   ·split at h
    ·cases h
    ·exact⟨yH.1 h0,by omega,by omega,hB⟩
  ·rename_i h0; exact absurd h h0
theorem yn {l:List Fd} (h1:∀ f∈l,dA f=0) (h2:l.length≤24) (h3:cQ l≤1232):di l=0:=(SE (yH.2 h1) h2 h3).1
theorem rx (p:dr):(eF p).length=48+cQ p.pl:=by unfold eF; rw[aoq,A7,jp]
theorem Cs {key a n:List UInt8} {m:Int} (hk:key.length=32) (ha:a.length≤65519) (hn:n.length≤65519) (hm:m≤65519):dC key [a,n] m=0:=AA hk (by simp) (fun x hx=>by simp at hx; rcases hx with rfl | rfl <;> assumption) hm
structure wI (key:List UInt8) (p:dr) (n:List UInt8):Prop where
  ky:key.length=32
  n1:16≤n.length
  n2:n.length≤32
  un:eM p=0
  se:di p.se=0
  no:(bM p.pl 1028).length=0
  lt:p.pl.length≤23
  gd:dA (cK key p n)=0
  all:48+cQ p.pl+ct (cK key p n)≤1280
theorem yo {key:List UInt8} {p:dr} {n:List UInt8} (h:wI key p n):gS key p n=0∧d7 key p n=eF p++bN [cK key p n]:=by
  have ht:cQ [cK key p n]=ct (cK key p n):=by simp[cQ]
  have hx:di [cK key p n]=0:=yn (fun f hf=>by simp at hf; subst hf; exact h.gd) (by simp) (by rw[ht]; exact (vT h.gd).2.2);have e:gS key p n=0:=by
    unfold gS;have a:=h.ky; have b:=h.n1; have c:=h.n2; have d:=h.lt; have f:=h.all
    rw[if_neg (by omega),if_neg (by omega),if_neg (by simp[h.un]),if_neg (by simp[h.se]),if_neg (by simp[h.no]),if_neg (by omega),if_neg];rw[rx,ht];rintro (k | k)
    ·exact k hx
    ·omega
  exact⟨e,if_pos e⟩
theorem agq {key:List UInt8} {p:dr} {n:List UInt8} (h:wI key p n):dC key [eF p,n] ((bN p.se).length:Int)=0∧(hY key p n).length=16+cQ p.se∧cQ p.se≤1232:=by
  have h1:=(tH h.se).2.2.1;have h2:=(tH (JA h.un).2.2).2.2.1;have h3:=h.n2;have ha:dC key [eF p,n] ((bN p.se).length:Int)=0:=Cs h.ky (by rw[rx]; omega) (by omega) (by rw[jp]; omega);refine⟨ha,?_,h1⟩;unfold hY;rw[nK ha,aoq,kQ,lE,jp]
theorem Ho {key:List UInt8} {p:dr} {n:List UInt8} (fit:sF p.hd) (h:wI key p n):iY (d7 key p n)=0∧pH (d7 key p n)=⟨p.hd,p.pl.map gO++[cK key p n],[],false⟩∧gT key (d7 key p n)=0∧gU key (d7 key p n)=⟨p.hd,p.pl.map gO,p.se.map gO,true⟩:=by
  obtain⟨k0,k1⟩:=yo h;obtain⟨u1,u2,u3⟩:=JA h.un;obtain⟨f1,f2,f3,f4⟩:=tH u3;obtain⟨s1,s2,s3⟩:=agq h;have hR:tX p.hd:=of_decide_eq_true u1;have hn:=h.n1; have hn2:=h.n2; have hlt:=h.lt; have hall:=h.all
  have g1:20≤(ek n (hY key p n)).length:=amI hn;have gp:gO (cK key p n)=cK key p n:=agp (by omega);obtain⟨q1,q2,q3⟩:=adJ (n:=n) (s:=hY key p n) hn hn2 (by omega);have hG:bN (p.pl++[cK key p n])=bN p.pl++bN [cK key p n]:=As _ _;have hB:d7 key p n=eZ p.hd++bN (p.pl++[cK key p n]):=by rw[k1,eF,aoC,hG]
  have hT:cQ (p.pl++[cK key p n])=cQ p.pl+ct (cK key p n):=by rw[xG]; simp[cQ]
  have ok:∀ f∈p.pl++[cK key p n],dA f=0:=fun f hf=>by
    rcases aoG.1 hf with hf | hf
    ·exact f1 f hf
    ·rw[aou.1 hf]; exact h.gd
  have e0:di (p.pl++[cK key p n])=0:=yn ok (by simp; omega) (by omega);obtain⟨d1,d2,_⟩:=RP e0;have hbk:=aez hR fit (bN (p.pl++[cK key p n]));have hdr:(d7 key p n).drop 48=bN (p.pl++[cK key p n]):=by
    have:=List.drop_left (l₁:=eZ p.hd) (l₂:=bN (p.pl++[cK key p n]));rw[A7] at this;rw[hB]; exact this
  have hlen:(d7 key p n).length=48+(cQ p.pl+ct (cK key p n)):=by rw[hB,aoq,A7,jp,hT]
  have hde:ir (d7 key p n)=0:=by
    unfold ir;rw[if_neg (by omega),if_neg (by omega),hB,hbk,if_pos hR.2.2.1]
  have hg:d6 (d7 key p n)=p.hd:=by rw[hB,hbk]
  rw[aoH,List.map_singleton,gp] at d2;have r0:iY (d7 key p n)=0:=by unfold iY; rw[if_pos hde,hdr,d1]
  have lL:fE (d7 key p n)=p.pl.length:=by unfold fE; rw[hdr,d2]; simp
  have hgd:fa (d7 key p n)=ek n (hY key p n):=by
    unfold fa;rw[lL,hdr,d2];simp[cK,nE]
  have hpl:bL (bN (p.pl++[cK key p n])) p.pl.length=cQ p.pl:=by
    rw[qh _ ok _ (by simp),List.take_left]
  have hA:mJ (d7 key p n)=eF p:=by
    unfold mJ;rw[lL,hdr,hpl,k1,← rx,List.take_left]
  obtain⟨o1,o2⟩:=Gd s1;rw[← nK s1] at o1 o2;have x1:sI key (d7 key p n)=0:=by unfold sI; rw[hA,hgd,q2,q3]; exact o1
  have x2:j6 key (d7 key p n)=bN p.se:=by unfold j6; rw[hA,hgd,q2,q3]; exact o2
  obtain⟨t1,t2,_⟩:=RP h.se;have hfn:bM (p.pl.map gO++[cK key p n]) 1028=[(p.pl.length:Int)]:=by
    have:=adK (l:=p.pl.map gO) (f:=cK key p n) (k:=1028) (by
      unfold bM;rw[aox,S0 _ _ _ (aoz _)];exact h.no) rfl
    rw[aox] at this;exact this
  have o0:gT key (d7 key p n)=0:=by
    unfold gT;rw[if_neg (by simp[h.ky]),if_neg (by simp[r0]),hdr,d2,hfn,lL,hgd,x1,x2,t1];simp[q1]
  refine⟨r0,?_,o0,?_⟩
  ·unfold pH;rw[if_pos r0,hg,hdr,d2]
  ·unfold gU;rw[if_pos o0,hg,hdr,d2,lL,x2,t2]
   congr 1
   have:=List.take_left (l₁:=p.pl.map gO) (l₂:=[cK key p n]);rw[aox] at this;exact this
structure Jr where
  up:List UInt8
  dn:List UInt8
  ck:List (List UInt8)
  la:List UInt8
  nw:Int
  sn:Int
def eG (j:Jr):D:=.agg [.sl (j.up.map bD),.sl (j.dn.map bD),.sl (j.ck.map fun l=>D.sl (l.map bD)),.sl (j.la.map bD),.int .i64 j.nw,.int .i64 j.sn]
def jo:Jr:=⟨[],[],[],[],0,0⟩
theorem xa {l:List (List UInt8)} {i:Nat} (h:i<l.length):l[i]?=some (l.getD i []):=by
  rw[aor,aon h]; rfl
theorem ud {l:List (List UInt8)} {i:Nat} (h:i<l.length):l.getD i []∈l:=by
  rw[aor,aon h];exact aoS h
theorem KE {l:List (List UInt8)} {i:Nat} (h:i<l.length):l.take (i+1)=l.take i++[l.getD i []]:=by
  rw[apR,xa h]; rfl
def lZ (l:List (List UInt8)) (c:List UInt8):Bool:=l.any (·==c)
theorem agr {l:List (List UInt8)} {c:List UInt8}:lZ l c=true↔c∈l:=by
  unfold lZ;rw[apC];exact⟨fun ⟨x,hx,e⟩=>by rw[← beq_iff_eq.1 e]; exact hx,fun h=>⟨c,h,beq_self_eq_true c⟩⟩
theorem vz {l:List (List UInt8)} {c:List UInt8}:lZ l c=false↔c∉l:=by
  rw[← agr,Bool.not_eq_true]
def sJ (l:List (List UInt8)) (i:Nat):Prop:=(l.getD i []).length=104∧lZ (l.take i) (l.getD i [])=false
def Em (j:Jr):Prop:=j.up.length=32∧j.dn.length=32∧j.ck.length≤8∧(j.la.length=0∨j.la.length=104)∧lZ j.ck j.la=false∧0≤j.nw∧0≤j.sn∧j.sn≤1099511627776
instance (j:Jr):Decidable (Em j):=by unfold Em; infer_instance
instance (l:List (List UInt8)) (i:Nat):Decidable (sJ l i):=by unfold sJ; infer_instance
def fF (j:Jr):Prop:=Em j∧∀ i,i<j.ck.length→sJ j.ck i
instance (j:Jr):Decidable (fF j):=by unfold fF; infer_instance
theorem aj8 {l:List (List UInt8)}:(∀ i,i<l.length→lZ (l.take i) (l.getD i [])=false)↔l.Nodup:=by
  rw[aqd,List.pairwise_iff_getElem];constructor
  ·intro h i k hi hk hik e;have:=vz.1 (h k hk);rw[aor,aon hk] at this;exact this (List.mem_take_iff_getElem.2 ⟨i,by omega,e⟩)
  ·intro h k hk;refine vz.2 fun hm=>?_
   obtain⟨i,hi,e⟩:=List.mem_take_iff_getElem.1 hm;rw[aor,aon hk] at e;exact h i k (by omega) hk (by omega) e
theorem xV {j:Jr}:fF j↔Em j∧(∀ c∈j.ck,c.length=104)∧j.ck.Nodup:=by
  unfold fF sJ;rw[← aj8];constructor
  ·rintro⟨h,a⟩;refine⟨h,fun c hc=>?_,fun i hi=>(a i hi).2⟩;obtain⟨i,hi,rfl⟩:=ao0 hc;have:=(a i hi).1;rw[aor,aon hi] at this;exact this
  ·rintro⟨h,a,b⟩;exact⟨h,fun i hi=>⟨a _ (ud hi),b i hi⟩⟩
def i7 (j:Jr):Int:=if ¬ fF j then 3 else if j.ck.length=0 then 10 else if j.sn=1099511627776 then 7 else 0
def j7 (j:Jr):Jr:=⟨j.up,j.dn,j.ck.drop 1,j.ck.getD 0 [],j.nw,j.sn+1⟩
def En (j:Jr):Jr:=if i7 j=0 then j7 j else jo
def Eo (j:Jr):List UInt8:=if i7 j=0 then j.ck.getD 0 [] else []
def Ep (j:Jr):Int:=if fF j then 0 else 3
def Eq (j:Jr):Int:=if fF j then 8-(j.ck.length:Int) else 0
def ze (la:List UInt8) (l:List (List UInt8)) (c:List UInt8):Bool:=!lZ l c&&(!(la==c)&&decide (l.length<8))
def pO (la:List UInt8) (l:List (List UInt8)) (c:List UInt8):List (List UInt8):=if ze la l c=true then l++[c] else l
def eK (la:List UInt8) (l cs:List (List UInt8)):List (List UInt8):=cs.foldl (pO la) l
def gM (cs:List (List UInt8)):Bool:=cs.all fun c=>c.length==104
def xf (j:Jr) (cs:List (List UInt8)):Jr:=⟨j.up,j.dn,eK j.la j.ck cs,j.la,j.nw,j.sn⟩
theorem oE {cs:List (List UInt8)}:gM cs=true↔∀ c∈cs,c.length=104:=by
  unfold gM;rw[aoE];exact⟨fun h c hc=>beq_iff_eq.1 (h c hc),fun h c hc=>beq_iff_eq.2 (h c hc)⟩
theorem adL (la:List UInt8) (l cs:List (List UInt8)) (c:List UInt8):eK la l (cs++[c])=pO la (eK la l cs) c:=by
  unfold eK;rw[List.foldl_append]; rfl
theorem ags {la:List UInt8} {l:List (List UInt8)}:∀ cs:List (List UInt8),l.length≤8→(eK la l cs).length≤8:=by
  intro cs
  induction cs generalizing l with
  | nil=>exact id
  | cons c cs ih =>
    intro h;refine ih (l:=pO la l c) ?_;unfold pO;split
    ·rename_i g;unfold ze at g;rw[aoU,aoU] at g;have:=of_decide_eq_true g.2.2;rw[aoq,ao6]; omega
    ·exact h
def pP:Fd:=⟨772,List.replicate 104 0⟩
def cb (u c:List UInt8) (n:Nat):List Fd:=[⟨260,u⟩,⟨516,c⟩]++List.replicate n pP
def mK (j:Jr) (t:Nat) (u:List UInt8):dr:=⟨fp t,cb u (j.ck.getD 0 []) (8-j.ck.length),[],false⟩
def lz (j:Jr) (u n:List UInt8):Int:=if ¬ fF j∨u.length≠32∨n.length≠16 then 3 else i7 j
def Er (j:Jr) (u n:List UInt8):Jr:=if lz j u n=0 then j7 j else jo
def Es (j:Jr) (t:Nat) (u n:List UInt8):List UInt8:=if lz j u n=0 then d7 j.up (mK j t u) n else []
def dv (l:List Fd):List (List UInt8):=(l.filter fun f=>decide (f.ty=516)).map Fd.da
def qX (u b:List UInt8) (p:dr):Bool:=match bM p.pl 260 with
  | [i]=>(p.pl.getD i.toNat default).da==u
  | _=>false
def i9 (j:Jr) (u b:List UInt8):Int:=if ¬ fF j∨u.length≠32 then 3 else if gT j.dn b≠0 then gT j.dn b else if (gU j.dn b).hd.md≠4 then 3 else if qX u b (gU j.dn b)=false then 7 else if gM (dv (gU j.dn b).se)=true then 0 else 3
def ue (j:Jr) (u b:List UInt8):Jr:=if i9 j u b=0 then xf j (dv (gU j.dn b).se) else jo
def ug (j:Jr) (u b:List UInt8):dr:=if i9 j u b=0 then gU j.dn b else jZ
theorem Wo (l:List Fd) (k:Int):∀ n,n≤l.length→(fu l k n).map (fun i=>(l.getD i.toNat default).da)=((l.take n).filter fun f=>decide (f.ty=k)).map Fd.da
  | 0,_=>rfl
  | n+1,h=>by
    have hn:=Wo l k n (by omega);have ht:l.take (n+1)=l.take n++[l.getD n default]:=by
      rw[apR,aor,aon (by omega)]; rfl
    rw[ht,List.filter_append,aoH,← hn];by_cases hk:(l.getD n default).ty=k
    ·rw[Dd hk,aoH,aqs (by rw[hk]; simp)]; rfl
    ·rw[De hk,List.filter_cons_of_neg (by simpa using hk),List.filter_nil,aoA,aoF]
theorem aj9 (l:List Fd):(bM l 516).map (fun i=>(l.getD i.toNat default).da)=dv l:=by
  have:=Wo l 516 l.length (aoz _);rw[ao7] at this;exact this
set_option maxHeartbeats 3200000
def Bm:aK:=⟨1,9,ae [bH 2 false] (ae [oM 3 0,oO 4 (.bin .leq (kI 16) (.t 3)),oM 5 4,bE 6 0 5 true,cu .leq 7 6 32 5 true,dh 8 5 7,oM 2 8] .ret),[(2,none)]⟩
theorem agt:aI Tryz.prog {} Tryz.f101=some Bm:=by kernel_rfl
theorem Wp (G:au) (n:Int):aF Tryz.prog G 101 [.int .i64 n] (.w (.c (.d (.bool (decide (16≤n∧n≤32)))))):=by
  refine aT Tryz.func101 agt rfl rfl ?_;by_cases h1:16≤n
  ·by_cases h2:n≤32
   ·rw[decide_eq_true ⟨h1,h2⟩];simp only[Bm,ai,af,seval,iteOmega];exact aZ
   ·rw[decide_eq_false (fun h=>h2 h.2)];simp only[Bm,ai,af,seval,iteOmega];exact aZ
  ·rw[decide_eq_false (fun h=>h1 h.1)];simp only[Bm,ai,af,seval,iteOmega];exact aZ
theorem agu (n s:List UInt8):([aC n.length 2,aC s.length 2,fA n 4,fA s 4]:List (List UInt8)).flatten=ek n s:=by
  unfold ek;simp only[apd,apf,aoF]
def Wq:aK:=⟨2,20,ae [oO 4 (.alloc [ah,.nil])] (ae [oM 5 0,bc 6 5,oO 7 (.conv .u64 (.t 6)),oO 8 (.call 76 [(.t 7),(kI 2)] none),oM 9 1,bc 10 9,oO 11 (.conv .u64 (.t 10)),oO 12 (.call 76 [(.t 11),(kI 2)] none),oM 13 0,oO 14 (.call 119 [(.t 13),(kI 4)] none),oM 15 1,oO 16 (.call 119 [(.t 15),(kI 4)] none),oO 17 (.bldSl false 4 1 (.sl []) [(0,(.t 8)),(1,(.t 12)),(2,(.t 14)),(3,(.t 16))]),aW 18 44 17,oO 19 (.build [ah,.nil] [(0,1,(kI 1028)),(1,1,(.t 18))]),aS 2 4 19] .ret),[(4,(some (.ag 2)))]⟩
theorem aka:aI Tryz.prog {} Tryz.f104=some Wq:=by kernel_rfl
theorem Yj (G:au) (n s:List UInt8) (hn:n.length≤1000000) (hs:s.length≤1000000):aF Tryz.prog G 104 [.sl (n.map bD),.sl (s.map bD)] (.w (.c (.d (bg (nE n s))))):=by
  refine aT Tryz.func104 aka rfl rfl ?_;have c1:=iD G n.length 2 (by decide);have c2:=iD G s.length 2 (by decide);rw[show (2:Int).toNat=2 from rfl] at c1 c2;have c3:=CX G n 4 (by omega);have c4:=CX G s 4 (by omega);have cj:=dV G [aC n.length 2,aC s.length 2,fA n 4,fA s 4] (by simp) (by simp[bO,Ae]; omega);rw[agu] at cj;unfold nE bg;generalize ek n s=B at *
  generalize aC n.length 2=B1 at *
  generalize aC s.length 2=B2 at *
  generalize fA n 4=B3 at *
  generalize fA s 4=B4 at *
  simp only[aos,aoA] at cj;simp only[Wq,ai,af,seval,iteOmega];refine sD (c1) ?_;refine sD (c2) ?_;refine sD (c3) ?_;refine sD (c4) ?_;refine sD (cj) ?_;exact aZ
def ry:aK:=⟨1,70,ae [aM 2,aM 3,bH 4 false] (ae [oM 10 0,oO 11 (.call 118 [(.t 10),(kI 4)] none),oM 9 11,aB 12 9 0,aB 13 9 1,aB 14 9 2,oM 5 12,oM 6 13,oM 4 14] (.seq (ae [oM 15 4,dd 16 15] (aw 16 (ae [aM 2,aM 3,bH 4 false] .ret) .skip)) (ae [oM 17 5,oO 18 (.slice 1 (.t 17) none (some (kI 2)) none),aW 19 81 18,oO 20 (.conv .i64 (.t 19)),oM 21 5,oO 22 (.slice 1 (.t 21) (some (kI 2)) none none),aW 23 81 22,oO 24 (.conv .i64 (.t 23)),oM 7 20,oM 8 24] (ae [oM 26 6,oM 27 7,cd 28 118 26 27,oM 25 28,aB 29 25 0,aB 30 25 1,aB 31 25 2,oM 2 29,oM 4 31] (.seq (ae [oM 32 4,dd 33 32,oM 34 33,bE 35 7 34 false,oG 36 (.call 101 [(.t 35)] none) 34 false,fY 37 36 34 false,cC 38 34 37] (aw 38 (ae [aM 2,aM 3,bH 4 false] .ret) .skip)) (ae [oM 40 6,oM 41 2,oO 42 (.call 119 [(.t 41),(kI 4)] none),
 bc 43 42,cd 44 118 40 43,oM 39 44,aB 45 39 0,aB 46 39 1,aB 47 39 2,oM 6 46,oM 4 47] (.seq (ae [oM 48 4,dd 49 48] (aw 49 (ae [aM 2,aM 3,bH 4 false] .ret) .skip)) (ae [oM 51 6,oM 52 8,cd 53 118 51 52,oM 50 53,aB 54 50 0,aB 55 50 1,aB 56 50 2,oM 3 54,oM 4 56] (.seq (ae [oM 57 4,dd 58 57,oM 59 58,bE 60 2 59 false,bE 61 3 59 false,oG 62 (.call 104 [(.t 60),(.t 61)] none) 59 false,oG 63 (.field 1 .sc (.t 62)) 59 false,bE 64 0 59 false,oG 65 (.call 94 [(.t 63),(.t 64)] none) 59 false,fY 66 65 59 false,cC 67 59 66] (aw 67 (ae [aM 2,aM 3,bH 4 false] .ret) .skip)) (ae [oM 68 2,oM 69 3,oM 2 68,oM 3 69,bH 4 true] .ret)))))))))),[(2,none),(3,none),(4,none)]⟩
theorem agv:aI Tryz.prog {} Tryz.f67=some ry:=by kernel_rfl
theorem akb (G:au) (d:List UInt8) (hd:d.length≤100000):aF Tryz.prog G 67 [.sl (d.map bD)] (.tup [.c (.d (.sl ((zx d).map bD))),.c (.d (.sl ((zy d).map bD))),.c (.d (.bool (decide (i6 d))))]):=by
  refine aT Tryz.func67 agv rfl rfl ?_;unfold zx zy;rcases aoP d.length 4 with h4 | h4
  ·have hno:¬ i6 d:=fun h=>by have:=h.1; omega
   rw[if_neg hno,if_neg hno,decide_eq_false hno];have c1:=yj G d 4 (.inr (by omega));simp only[ry,ai,af,seval];refine sD (c1) ?_;exact lG (by simp only[af,seval] <;> rfl) (by simp only[af,seval] <;> rfl) (by simp only[af,seval])
  ·have c1:=tm G d 4 h4 (by omega);rw[show ((4:Nat):Int)=4 from rfl] at c1;have t1:(d.take 4).take 2=aG d 0 2:=by rw[aqe]; rfl
   have t2:(d.take 4).drop 2=aG d 2 2:=by rw[List.drop_take]; rfl
   have c2:=ku G (aG d 0 2) (by rw[fj (by omega)]; decide);have c3:=ku G (aG d 2 2) (by rw[fj (by omega)]; decide);have b1:=(jc 2 (aG d 0 2) (fj (by omega)) (by decide)).1;have b2:=(jc 2 (aG d 2 2) (fj (by omega)) (by decide)).1;have hl1:(aG d 0 2).length=2:=fj (by omega);have hl2:(aG d 2 2).length=2:=fj (by omega);have hl4:(d.take 4).length=4:=by simp; omega
   have hld:(d.drop 4).length=d.length-4:=by simp
   have t3:(aG d 2 2).take 2=aG d 2 2:=aot (by omega);rw[show bi (aG d 0 2)=fR d from rfl] at c2 b1;rw[show bi (aG d 2 2)=kL d from rfl] at c3 b2;have cf:=Wp G (fR d:Int);rcases aoP (d.length-4) (fR d) with h5 | h5
   ·have hno:¬ i6 d:=fun h=>by have:=h.2.2.2.1; unfold j5 at this; omega
    rw[if_neg hno,if_neg hno,decide_eq_false hno];clear hno;have c4:=yj G (d.drop 4) (fR d:Int) (.inr (by omega));generalize fR d=n at *
    generalize kL d=m at *
    simp only[ry,ai,af,seval];refine sC (c1) ?_;simp only[t1,hl4,af,seval,toNatUp];refine sC (c2) ?_;simp only[t2,t3,hl4,af,seval,iteOmega,toNatUp];refine sD (c3) ?_;refine sD (c4) ?_;exact lG (by simp only[af,seval] <;> rfl) (by simp only[af,seval] <;> rfl) (by simp only[af,seval])
   ·have c4:=tm G (d.drop 4) (fR d) (by omega) (by omega);have e4:(d.drop 4).take (fR d)=ew d:=rfl;have hlB:(ew d).length=fR d:=fj (by omega);rw[e4] at c4;by_cases h6:16≤fR d∧fR d≤32
    ·have h6':16≤(fR d:Int)∧(fR d:Int)≤32:=by omega
     rw[decide_eq_true h6'] at cf;have c5:=qg (CX G (ew d) 4 (by omega));have hlp:=Ae (ew d);rw[hlB] at hlp;rcases aoP (d.length-4) ((fR d+3) / 4*4) with h7 | h7
     ·have hno:¬ i6 d:=fun h=>by have:=h.2.2.2.1; unfold j5 at this; omega
      rw[if_neg hno,if_neg hno,decide_eq_false hno];clear hno;have c6:=yj G (d.drop 4) ((fA (ew d) 4).length:Int) (.inr (by omega));generalize fA (ew d) 4=B4 at *
      generalize ew d=B3 at *
      generalize fR d=n at *
      generalize kL d=m at *
      simp only[ry,ai,af,seval];refine sC (c1) ?_;simp only[t1,hl4,af,seval,toNatUp];refine sC (c2) ?_;simp only[t2,t3,hl4,af,seval,iteOmega,toNatUp];refine sD (c3) ?_;refine sD (c4) ?_;refine sD (cf) ?_;refine sD (c5) ?_;refine sD (c6) ?_;exact lG (by simp only[af,seval] <;> rfl) (by simp only[af,seval] <;> rfl) (by simp only[af,seval])
     ·have c6:=tm G (d.drop 4) (fA (ew d) 4).length (by omega) (by omega);have e6:(d.drop 4).drop (fA (ew d) 4).length=d.drop (j5 d):=by rw[ap8,hlp]; rfl
      rw[e6] at c6;have hl6:(d.drop (j5 d)).length=d.length-j5 d:=by simp
      have hpf:j5 d=4+(fR d+3) / 4*4:=rfl;rcases aoP (d.length-j5 d) (kL d) with h8 | h8
      ·have hno:¬ i6 d:=fun h=>by have:=h.2.2.2.1; omega
       rw[if_neg hno,if_neg hno,decide_eq_false hno];clear hno;have c7:=yj G (d.drop (j5 d)) (kL d:Int) (.inr (by omega));generalize d.drop (j5 d)=D2 at *
       generalize fA (ew d) 4=B4 at *
       generalize ew d=B3 at *
       generalize fR d=n at *
       generalize kL d=m at *
       simp only[ry,ai,af,seval];refine sC (c1) ?_;simp only[t1,hl4,af,seval,toNatUp];refine sC (c2) ?_;simp only[t2,t3,hl4,af,seval,iteOmega,toNatUp];refine sD (c3) ?_;refine sD (c4) ?_;refine sD (cf) ?_;refine sD (c5) ?_;refine sD (c6) ?_;refine sD (c7) ?_;exact lG (by simp only[af,seval] <;> rfl) (by simp only[af,seval] <;> rfl) (by simp only[af,seval])
      ·have c7:=tm G (d.drop (j5 d)) (kL d) (by omega) (by omega);have e7:(d.drop (j5 d)).take (kL d)=gj d:=rfl;rw[e7] at c7;have hlS:(gj d).length=kL d:=fj (by omega);have c8:=Yj G (ew d) (gj d) (by omega) (by omega);unfold nE bg at c8;have c9:=rD G (ek (ew d) (gj d)) d;by_cases hq:ek (ew d) (gj d)=d
       ·have hok:i6 d:=⟨h4,h6.1,h6.2,by omega,hq⟩
        rw[if_pos hok,if_pos hok,decide_eq_true hok];clear hok;rw[hq,beq_self_eq_true] at c9;rw[hq] at c8;clear hq;generalize d.drop (j5 d)=D2 at *
        generalize fA (ew d) 4=B4 at *
        generalize gj d=B5 at *
        generalize ew d=B3 at *
        generalize fR d=n at *
        generalize kL d=m at *
        simp only[ry,ai,af,seval];refine sC (c1) ?_;simp only[t1,hl4,af,seval,toNatUp];refine sC (c2) ?_;simp only[t2,t3,hl4,af,seval,iteOmega,toNatUp];refine sD (c3) ?_;refine sD (c4) ?_;refine sD (cf) ?_;refine sD (c5) ?_;refine sD (c6) ?_;refine sD (c7) ?_;refine sD (c8) ?_;refine sD (c9) ?_;exact fg
       ·have hno:¬ i6 d:=fun h=>hq h.2.2.2.2
        rw[if_neg hno,if_neg hno,decide_eq_false hno];clear hno;have e9:(ek (ew d) (gj d)==d)=false:=by simpa using hq
        rw[e9] at c9;clear hq e9;generalize ek (ew d) (gj d)=B6 at *
        generalize d.drop (j5 d)=D2 at *
        generalize fA (ew d) 4=B4 at *
        generalize gj d=B5 at *
        generalize ew d=B3 at *
        generalize fR d=n at *
        generalize kL d=m at *
        simp only[ry,ai,af,seval];refine sC (c1) ?_;simp only[t1,hl4,af,seval,toNatUp];refine sC (c2) ?_;simp only[t2,t3,hl4,af,seval,iteOmega,toNatUp];refine sD (c3) ?_;refine sD (c4) ?_;refine sD (cf) ?_;refine sD (c5) ?_;refine sD (c6) ?_;refine sD (c7) ?_;refine sD (c8) ?_;refine sD (c9) ?_;exact lG (by simp only[af,seval] <;> rfl) (by simp only[af,seval] <;> rfl) (by simp only[af,seval])
    ·have hno:¬ i6 d:=fun h=>h6 ⟨h.2.1,h.2.2.1⟩
     rw[if_neg hno,if_neg hno,decide_eq_false hno];clear hno;have h6':¬ (16≤(fR d:Int)∧(fR d:Int)≤32):=by omega
     rw[decide_eq_false h6'] at cf;clear h6 h6';generalize ew d=B3 at *
     generalize fR d=n at *
     generalize kL d=m at *
     simp only[ry,ai,af,seval];refine sC (c1) ?_;simp only[t1,hl4,af,seval,toNatUp];refine sC (c2) ?_;simp only[t2,t3,hl4,af,seval,iteOmega,toNatUp];refine sD (c3) ?_;refine sD (c4) ?_;refine sD (cf) ?_;exact lG (by simp only[af,seval] <;> rfl) (by simp only[af,seval] <;> rfl) (by simp only[af,seval])
theorem Yk {p:dr} (h:eM p=0):El p=eF p:=if_pos h
theorem Wr {p:dr} (h:eM p≠0):El p=[]:=if_neg h
theorem agw {h:Hd} (e:jn h=0):D3 h=eZ h:=if_pos (yQ.1 e)
theorem Ws {p:dr} (h:jn p.hd≠0):eM p=jn p.hd:=if_neg h
theorem Ir {p:dr} (h:jn p.hd=0):eM p=di p.pl:=if_pos h
theorem Wt {p:dr} (h:eM p=0):(eF p).length≤1280:=by
  have:=(tH (JA h).2.2).2.2.1;rw[rx]; omega
def Bn:aK:=⟨1,29,ae [cW 1 0,aM 2,ak 3 0] (ae [aO 8 0 1,bn 9 13 8,aW 10 142 9,oM 7 10,aB 11 7 0,aB 12 7 1,oM 4 11,oM 5 12] (.seq (ae [oM 13 5,am .neq 14 13 0] (aw 14 (ae [oM 15 5,aM 2,oM 3 15] .ret) .skip)) (ae [aO 17 13 1,aA 18 17,aW 19 103 18,oM 16 19,aB 20 16 0,aB 21 16 1,oM 6 20,oM 5 21] (.seq (ae [oM 22 5,am .neq 23 22 0] (aw 23 (ae [oM 24 5,aM 2,oM 3 24] .ret) .skip)) (ae [oM 25 4,oM 26 6,oO 27 (.bldSl false 2 1 (.sl []) [(0,(.t 25)),(1,(.t 26))]),aW 28 44 27,oM 2 28,ak 3 0] .ret))))),[(2,none),(3,none)]⟩
theorem agx:aI Tryz.prog {} Tryz.f102=some Bn:=by kernel_rfl
theorem akc (G:au) (p:dr) (hf:sF p.hd) (hl:p.pl.length≤1000000) (hd:∀ f∈p.pl,f.da.length≤8000000000000000000):aF Tryz.prog G 102 [dK p] (.tup [.c (.d (.sl ((El p).map bD))),.c (.d (.int .i64 (eM p)))]):=by
  refine aT Tryz.func102 agx rfl rfl ?_;have c1:=ajZ G p.hd hf;have c2:=Ii G p.pl hl hd;by_cases h1:jn p.hd=0
  ·rw[agw h1,h1] at c1;by_cases h2:di p.pl=0
   ·have h0:eM p=0:=by rw[Ir h1,h2]
    have hle:=Wt h0;have cj:=dV G [eZ p.hd,bN p.pl] (by simp) (by
      have:[eZ p.hd,bN p.pl].flatten=eF p:=by simp[eF]
      rw[this]; omega)
    have hX:[eZ p.hd,bN p.pl].flatten=eF p:=by simp[eF]
    rw[hX] at cj;simp only[aos,aoA] at cj;rw[(tH h2).2.2.2,h2] at c2;rw[h0,Yk h0];clear hX hle h0 h1 h2;generalize eF p=X at *
    generalize eZ p.hd=B1 at *
    generalize bN p.pl=B2 at *
    unfold dK;unfold fD at c1;simp only[Bn,ai,af,seval];refine sD (c1) ?_;refine sD (c2) ?_;refine sD (cj) ?_;exact bu
   ·have h0:eM p≠0:=by rw[Ir h1]; exact h2
    have g:(eM p=0)=False:=eq_false h0;rw[Wr h0];rw[show di p.pl=eM p from (Ir h1).symm] at c2;clear h0 h1 h2;generalize eM p=e at *
    generalize eZ p.hd=B1 at *
    generalize lr p.pl=B2 at *
    unfold dK;unfold fD at c1;simp only[Bn,ai,af,seval];refine sD (c1) ?_;refine sC (c2) ?_;simp only[g,af,seval];exact bu
  ·have h0:eM p≠0:=by rw[Ws h1]; exact h1
   have g:(eM p=0)=False:=eq_false h0;rw[Wr h0];rw[show jn p.hd=eM p from (Ws h1).symm] at c1;clear h0 h1 c2;generalize eM p=e at *
   generalize D3 p.hd=B1 at *
   unfold dK;unfold fD at c1;simp only[Bn,ai,af,seval];refine sC (c1) ?_;simp only[g,af,seval];exact bu
theorem Qa {b:List UInt8} (h:ir b≠0):iY b=ir b∧pH b=jZ:=by
  have e:iY b=ir b:=if_neg h;exact⟨e,if_neg (by rw[e]; exact h)⟩
theorem Na {b:List UInt8} (h:ir b=0):iY b=fh (b.drop 48)∧D5 b=b.drop 48∧D4 b=d6 b:=⟨if_pos h,if_pos h,if_pos h⟩
def Bo:aK:=⟨1,30,ae [oO 2 (.alloc [ah,ah,ah,ah,ah,ah,be,be,be,aQ,aQ,aQ,aQ,.nil,.nil,cv]),ak 3 0] (ae [oM 9 0,aW 10 105 9,oM 8 10,aB 11 8 0,aB 12 8 1,aB 13 8 2,oO 4 (.alloc [ah,ah,ah,ah,ah,ah,be,be,be,aQ,aQ,aQ,aQ]),aS 13 4 11,oM 5 12,oM 6 13] (.seq (ae [oM 14 6,am .neq 15 14 0] (aw 15 (ae [oO 16 (.build [ah,ah,ah,ah,ah,ah,be,be,be,aQ,aQ,aQ,aQ,.nil,.nil,cv] []),oM 17 6,aS 16 2 16,oM 3 17] .ret) .skip)) (ae [oM 19 5,aW 20 70 19,oM 18 20,aB 21 18 0,aB 22 18 1,oM 7 21,oM 6 22] (.seq (ae [oM 23 6,am .neq 24 23 0] (aw 24 (ae [oO 25 (.build [ah,ah,ah,ah,ah,ah,be,be,be,aQ,aQ,aQ,aQ,.nil,.nil,cv] []),oM 26 6,aS 16 2 25,oM 3 26] .ret) .skip)) (ae [bn 27 13 4,oM 28 7,oO 29 (.build [ah,ah,ah,ah,ah,ah,be,be,be,aQ,aQ,aQ,aQ,.nil,.nil,cv] [(0,13,(.t 27)),(13,1,(.t 28))]),
 aS 16 2 29,ak 3 0] .ret))))),[(2,(some (.ag 16))),(3,none)]⟩
theorem agy:aI Tryz.prog {} Tryz.f52=some Bo:=by kernel_rfl
theorem Is (G:au) (b:List UInt8) (hb:b.length≤9000000000000000000):aF Tryz.prog G 52 [.sl (b.map bD)] (.tup [.c (.d (dK (pH b))),.c (.d (.int .i64 (iY b)))]):=by
  refine aT Tryz.func52 agy rfl rfl ?_;have c1:=ajW G b (by omega);by_cases h1:ir b=0
  ·obtain⟨e1,e2,e3⟩:=Na h1;have c2:=Wn G (b.drop 48) (by simp; omega);rw[h1,e2,e3] at c1;by_cases h2:fh (b.drop 48)=0
   ·have e4:pH b=⟨d6 b,cH (b.drop 48),[],false⟩:=if_pos (by rw[e1,h2]);rw[e4,e1,h2];rw[h2] at c2;clear e1 e2 e3 e4 h1 h2;generalize d6 b=q at *
    generalize b.drop 48=R at *
    generalize cH R=L at *
    unfold dK;unfold fD at c1;simp only[Bo,ai,af,seval];refine sD (c1) ?_;refine sD (c2) ?_;exact eW (by simp only[af,seval] <;> rfl) (by simp only[af,seval])
   ·have e4:pH b=jZ:=if_neg (by rw[e1]; exact h2);have g:(fh (b.drop 48)=0)=False:=eq_false h2;rw[e4,e1];clear e1 e2 e3 e4 h1 h2;generalize fh (b.drop 48)=E at *
    generalize d6 b=q at *
    generalize b.drop 48=R at *
    generalize cH R=L at *
    unfold dK jZ Hd.z;unfold fD at c1;simp only[Bo,ai,af,seval];refine sD (c1) ?_;refine sC (c2) ?_;simp only[g,af,aa,seval];exact eW (by simp only[af,seval] <;> rfl) (by simp only[af,seval])
  ·obtain⟨e1,e4⟩:=Qa h1;have g:(ir b=0)=False:=eq_false h1;rw[e4,e1];clear e1 e4 h1;generalize ir b=E at *
   generalize D5 b=R at *
   generalize D4 b=q at *
   unfold dK jZ Hd.z;unfold fD at c1;simp only[Bo,ai,af,seval];refine sC (c1) ?_;simp only[g,af,aa,seval];exact eW (by simp only[af,seval] <;> rfl) (by simp only[af,seval])
theorem rH {key:List UInt8} {p:dr} {n:List UInt8} {e:Int} (h:gS key p n=e) (he:e≠0):d7 key p n=[]:=if_neg (by rw[h]; exact he)
theorem amJ {key:List UInt8} {p:dr} {n:List UInt8} (h:key.length≠32):gS key p n=5:=if_pos h
theorem amK {key:List UInt8} {p:dr} {n:List UInt8} (h1:key.length=32) (h:n.length<16∨32<n.length):gS key p n=4:=by
  unfold gS; rw[if_neg (by omega),if_pos h]
theorem amL {key:List UInt8} {p:dr} {n:List UInt8} (h1:key.length=32) (h2:16≤n.length∧n.length≤32) (h:eM p≠0):gS key p n=eM p:=by
  unfold gS; rw[if_neg (by omega),if_neg (by omega),if_pos h]
theorem amM {key:List UInt8} {p:dr} {n:List UInt8} (h1:key.length=32) (h2:16≤n.length∧n.length≤32) (h3:eM p=0) (h:di p.se≠0):gS key p n=di p.se:=by
  unfold gS; rw[if_neg (by omega),if_neg (by omega),if_neg (by simp[h3]),if_pos h]
theorem amN {key:List UInt8} {p:dr} {n:List UInt8} (h1:key.length=32) (h2:16≤n.length∧n.length≤32) (h3:eM p=0) (h4:di p.se=0) (h:(bM p.pl 1028).length≠0):gS key p n=3:=by
  unfold gS; rw[if_neg (by omega),if_neg (by omega),if_neg (by simp[h3]),if_neg (by simp[h4]),if_pos h]
theorem amO {key:List UInt8} {p:dr} {n:List UInt8} (h1:key.length=32) (h2:16≤n.length∧n.length≤32) (h3:eM p=0) (h4:di p.se=0) (h5:(bM p.pl 1028).length=0) (h:p.pl.length=24):gS key p n=8:=by
  unfold gS; rw[if_neg (by omega),if_neg (by omega),if_neg (by simp[h3]),if_neg (by simp[h4]),if_neg (by simp[h5]),if_pos h]
theorem amP {key:List UInt8} {p:dr} {n:List UInt8} (h1:key.length=32) (h2:16≤n.length∧n.length≤32) (h3:eM p=0) (h4:di p.se=0) (h5:(bM p.pl 1028).length=0) (h6:p.pl.length≠24):gS key p n=if di [cK key p n]≠0∨1280<(eF p).length+cQ [cK key p n] then 2 else 0:=by
  unfold gS; rw[if_neg (by omega),if_neg (by omega),if_neg (by simp[h3]),if_neg (by simp[h4]),if_neg (by simp[h5]),if_neg h6]
def oP:aK:=⟨3,78,ae [cW 4 1,aM 6,ak 7 0] (.seq (ae [oM 14 0,bc 15 14,am .neq 16 15 32] (aw 16 (ae [aM 6,ak 7 5] .ret) .skip)) (.seq (ae [oM 17 2,bc 18 17,aW 19 101 18,dd 20 19] (aw 20 (ae [aM 6,ak 7 4] .ret) .skip)) (ae [bn 22 16 4,aW 23 102 22,oM 21 23,aB 24 21 0,aB 25 21 1,oM 8 24,oM 9 25] (.seq (ae [oM 26 9,am .neq 27 26 0] (aw 27 (ae [oM 28 9,aM 6,oM 7 28] .ret) .skip)) (ae [aO 30 14 4,aA 31 30,aW 32 103 31,oM 29 32,aB 33 29 0,aB 34 29 1,oM 10 33,oM 9 34] (.seq (ae [oM 35 9,am .neq 36 35 0] (aw 36 (ae [oM 37 9,aM 6,oM 7 37] .ret) .skip)) (.seq (ae [aO 38 13 4,aA 39 38,oO 40 (.call 53 [(.t 39),(kI 1028)] none),bc 41 40,am .gtr 42 41 0] (aw 42 (ae [aM 6,ak 7 3] .ret) .skip)) (.seq (ae [aO 43 13 4,aA 44 43,bc 45 44,am .eql 46 45 24]
 (aw 46 (ae [aM 6,ak 7 8] .ret) .skip)) (ae [oM 48 0,oM 49 8,oM 50 2,oO 51 (.bldSl false 2 1 (.sl []) [(0,(.t 49)),(1,(.t 50))]),oM 52 10,fZ 53 77 48 51 52,oM 47 53,aB 54 47 0,aB 55 47 1,oM 11 54,oM 12 55] (ae [oM 57 2,oM 58 11,cd 59 104 57 58,oO 60 (.bldSl false 1 2 (.agg [ej,(.sl [])]) [(0,(.t 59))]),aW 61 103 60,oM 56 61,aB 62 56 0,aB 63 56 1,oM 13 62,oM 9 63] (.seq (ae [oM 64 9,am .neq 65 64 0,oM 66 65,bE 67 8 66 false,fB 68 67 66 false,bE 69 13 66 false,fB 70 69 66 false,sE .add 71 68 70 66 false,cu .gtr 72 71 1280 66 false,cC 73 66 72] (aw 73 (ae [aM 6,ak 7 2] .ret) .skip)) (ae [oM 74 8,oM 75 13,oO 76 (.bldSl false 2 1 (.sl []) [(0,(.t 74)),(1,(.t 75))]),oO 77 (.call 44 [(.t 76)] (some (0,1))),oM 6 77,ak 7 0] .ret)))))))))))),[(6,none),(7,none)]⟩
theorem agz:aI Tryz.prog { own:=[77] } Tryz.f50=some oP:=by kernel_rfl
theorem Wu (G:au) (key:List UInt8) (p:dr) (n:List UInt8) (hk:key.length≤9223372036854775807) (hf:sF p.hd) (hl:p.pl.length≤1000000) (hd:∀ f∈p.pl,f.da.length≤8000000000000000000) (hl2:p.se.length≤1000000) (hd2:∀ f∈p.se,f.da.length≤8000000000000000000) (hn:n.length≤9223372036854775807):aF Tryz.prog G 50 [.sl (key.map bD),dK p,.sl (n.map bD)] (.tup [.c (.fr 1 ((d7 key p n).map bD)),.c (.d (.int .i64 (gS key p n)))]):=by
  refine aT Tryz.func50 agz rfl rfl ?_;have cf:=Wp G (n.length:Int);have c1:=akc G p hf hl hd;have c2:=Ii G p.se hl2 hd2;have c3:=rG G p.pl 1028 hl;by_cases h1:key.length=32
  ·by_cases h2:16≤n.length∧n.length≤32
   ·rw[decide_eq_true (by omega)] at cf;by_cases h3:eM p=0
    ·have hXl:=Wt h3;rw[Yk h3,h3] at c1;by_cases h4:di p.se=0
     ·obtain⟨_,_,s3,s4⟩:=tH h4;rw[h4,s4] at c2;by_cases h5:(bM p.pl 1028).length=0
      ·by_cases h6:p.pl.length=24
       ·have e:=amO (key:=key) (n:=n) h1 h2 h3 h4 h5 h6;rw[rH e (by decide),e];clear e h3 h4;generalize eF p=X at *
        generalize bN p.se=Y at *
        generalize bM p.pl 1028=Z at *
        unfold dK at *
        simp only[oP,ai,af,seval,h1];refine sD (cf) ?_;refine sD (c1) ?_;refine sD (c2) ?_;refine sC (c3) ?_;simp only[h5,h6,af,seval];exact dZ
       ·have e7:=amP (key:=key) (n:=n) h1 h2 h3 h4 h5 h6;have hae:dC key [eF p,n] ((bN p.se).length:Int)=0:=Cs h1 (by omega) (by omega) (by rw[jp]; omega);have hsl:(hY key p n).length=16+cQ p.se:=by unfold hY; rw[nK hae,aoq,kQ,lE,jp]
        have c4:=Ib G key [eF p,n] (bN p.se) hk (by simp) (fun x hx=>by simp at hx; rcases hx with rfl | rfl <;> omega) (by rw[jp]; omega);rw[hae,show fk key [eF p,n] (bN p.se)=hY key p n from rfl] at c4;have c5:=Yj G n (hY key p n) (by omega) (by omega);have hgl:(ek n (hY key p n)).length≤4000:=by rw[va]; omega
        have c6:=Ii G [cK key p n] (by simp) (fun f hf=>by rw[aou.1 hf]; show (ek n (hY key p n)).length≤_; omega);rw[show bg (nE n (hY key p n))=bg (cK key p n) from rfl] at c5;rw[List.map_singleton] at c6;by_cases h7:di [cK key p n]=0
        ·obtain⟨_,_,g3,g4⟩:=tH h7;rw[h7,g4] at c6;have hGl:=jp [cK key p n];rcases aoP 1280 ((eF p).length+cQ [cK key p n]) with h8 | h8
         ·have e:gS key p n=2:=by rw[e7,if_pos (.inr h8)]
          rw[rH e (by decide),e];rw[← hGl] at h8;have g8:(((eF p).length:Int)+((bN [cK key p n]).length:Int)>1280)=True:=eq_true (by omega);clear e e7 h3 h4 h7 hae hsl;unfold dH at c4;simp only[aos,aoA] at c4;generalize bN [cK key p n]=W at *
          generalize cK key p n=g at *
          generalize hY key p n=S at *
          generalize eF p=X at *
          generalize bN p.se=Y at *
          generalize bM p.pl 1028=Z at *
          unfold dK bg at *
          simp only[oP,ai,af,seval,h1];refine sD (cf) ?_;refine sD (c1) ?_;refine sD (c2) ?_;refine sC (c3) ?_;simp only[h5,af,seval,iteOmega];refine sD (c4) ?_;refine sD (c5) ?_;refine sC (c6) ?_;simp only[g8,af,seval,iteOmega];exact dZ
         ·have e:gS key p n=0:=by rw[e7,if_neg (by omega)]
          have eB:d7 key p n=eF p++bN [cK key p n]:=if_pos e;have cj:=dV G [eF p,bN [cK key p n]] (by simp) (by simp; omega);have hfl:[eF p,bN [cK key p n]].flatten=d7 key p n:=by rw[eB]; simp
          rw[hfl] at cj;simp only[aos,aoA] at cj;rw[e];rw[← hGl] at h8;have g8:(((eF p).length:Int)+((bN [cK key p n]).length:Int)>1280)=False:=eq_false (by omega);clear e e7 h3 h4 h7 hae hsl eB hfl;unfold dH at c4;simp only[aos,aoA] at c4;generalize d7 key p n=V at *
          generalize bN [cK key p n]=W at *
          generalize cK key p n=g at *
          generalize hY key p n=S at *
          generalize eF p=X at *
          generalize bN p.se=Y at *
          generalize bM p.pl 1028=Z at *
          unfold dK bg at *
          simp only[oP,ai,af,seval,h1];refine sD (cf) ?_;refine sD (c1) ?_;refine sD (c2) ?_;refine sC (c3) ?_;simp only[h5,af,seval,iteOmega];refine sD (c4) ?_;refine sD (c5) ?_;refine sC (c6) ?_;simp only[g8,af,seval,iteOmega];refine sD (cj) ?_;exact dZ
        ·have e:gS key p n=2:=by rw[e7,if_pos (.inl h7)]
         rw[rH e (by decide),e];have g7:(di [cK key p n]=0)=False:=eq_false h7;clear e e7 h3 h4 h7 hae hsl;unfold dH at c4;simp only[aos,aoA] at c4;generalize di [cK key p n]=E at *
         generalize lr [cK key p n]=W at *
         generalize cK key p n=g at *
         generalize hY key p n=S at *
         generalize eF p=X at *
         generalize bN p.se=Y at *
         generalize bM p.pl 1028=Z at *
         unfold dK bg at *
         simp only[oP,ai,af,seval,h1];refine sD (cf) ?_;refine sD (c1) ?_;refine sD (c2) ?_;refine sC (c3) ?_;simp only[h5,af,seval,iteOmega];refine sD (c4) ?_;refine sD (c5) ?_;refine sC (c6) ?_;simp only[g7,af,seval];exact dZ
      ·have e:=amN (key:=key) (n:=n) h1 h2 h3 h4 h5;rw[rH e (by decide),e];clear e h3 h4;generalize eF p=X at *
       generalize bN p.se=Y at *
       generalize bM p.pl 1028=Z at *
       unfold dK at *
       simp only[oP,ai,af,seval,h1];refine sD (cf) ?_;refine sD (c1) ?_;refine sD (c2) ?_;refine sD (c3) ?_;exact dZ
     ·have e:=amM (key:=key) (n:=n) h1 h2 h3 h4;rw[rH e h4,e];have g4:(di p.se=0)=False:=eq_false h4;clear e h3 h4;generalize eF p=X at *
      generalize di p.se=E at *
      generalize lr p.se=Y at *
      unfold dK at *
      simp only[oP,ai,af,seval,h1];refine sD (cf) ?_;refine sD (c1) ?_;refine sC (c2) ?_;simp only[g4,af,seval];exact dZ
    ·have e:=amL (key:=key) (n:=n) h1 h2 h3;rw[rH e h3,e];have g3:(eM p=0)=False:=eq_false h3;clear e h3;generalize eM p=E at *
     generalize El p=X at *
     unfold dK at *
     simp only[oP,ai,af,seval,h1];refine sD (cf) ?_;refine sC (c1) ?_;simp only[g3,af,seval];exact dZ
   ·have e:=amK (key:=key) (p:=p) (n:=n) h1 (by omega);rw[decide_eq_false (by omega)] at cf;rw[rH e (by decide),e];unfold dK;simp only[oP,ai,af,seval,h1];refine sD (cf) ?_;exact dZ
  ·have e:=amJ (key:=key) (p:=p) (n:=n) h1;rw[rH e (by decide),e];unfold dK;simp only[oP,ai,af,seval,iteOmega];exact dZ
theorem It (l:List Fd) (k:Int):∀ n,∀ x∈fu l k n,0≤x∧x<(n:Int)
  | 0,x,h=>by cases h
  | n+1,x,h=>by
    rw[fu,aoG] at h;rcases h with h | h
    ·have:=It l k n x h; omega
    ·split at h
     ·rw[aou] at h; omega
     ·cases h
theorem adM {L:List Fd} (h:(bM L 1028).length≠0):∃ i:Nat,i<L.length∧(bM L 1028).getD 0 0=(i:Int)∧(bM L 1028)[0]?=some (i:Int):=by
  have h0:0<(bM L 1028).length:=by omega
  obtain⟨h1,h2⟩:=It L 1028 L.length (bM L 1028)[0] (aoS h0);have e:(((bM L 1028)[0].toNat:Nat):Int)=(bM L 1028)[0]:=by omega
  refine⟨(bM L 1028)[0].toNat,by omega,?_,?_⟩
  ·rw[aor,aon h0,e]; rfl
  ·rw[aon h0,e]
theorem akd {b:List UInt8} (h:iY b=0):ir b=0∧fh (b.drop 48)=0∧48≤b.length∧b.length≤1280∧pH b=⟨d6 b,cH (b.drop 48),[],false⟩:=by
  have hd:ir b=0:=by
    by_cases e:ir b=0
    ·exact e
    ·rw[(Qa e).1] at h; exact absurd h e
  have h2:=(Na hd).1;rw[h] at h2;have hl:48≤b.length∧b.length≤1280:=by
    unfold ir at hd;split at hd
    ·cases hd
    ·split at hd
     ·cases hd
     ·omega
  exact⟨hd,h2.symm,hl.1,hl.2,if_pos h⟩
theorem agA {r:List UInt8} {f:Fd} (h:f∈cH r):f.da.length≤r.length:=by
  unfold cH at h;split at h
  ·obtain⟨i,_,rfl⟩:=aoN.1 h;unfold zq aG; simp; omega
  ·cases h
theorem Bp {r:List UInt8}:(cH r).length≤24:=by
  unfold cH;split
  ·rw[GV]; exact (Cr r).1
  ·exact aoy _
theorem ake {r:List UInt8} {i:Nat} (h:fh r=0) (hi:i<(cH r).length):(ox r)[i]?=some (bL r i:Int)∧bL r i≤r.length:=by
  obtain⟨h1,h2,h3,h4⟩:=ama h;have e1:cH r=kF r (fU r):=by unfold cH; rw[if_pos h,h3]
  have e2:ox r=jT r (fU r):=by unfold ox; rw[if_pos h,h3]
  rw[e1,GV] at hi;refine⟨?_,HV r i (by omega)⟩;rw[e2];unfold jT;rw[apk,apZ hi];rfl
theorem tq {key b:List UInt8} {e:Int} (h:gT key b=e) (he:e≠0):gU key b=jZ:=if_neg (by rw[h]; exact he)
theorem amQ {key b:List UInt8} (h:key.length≠32):gT key b=5:=if_pos h
theorem amR {key b:List UInt8} (h1:key.length=32) (h:iY b≠0):gT key b=iY b:=by unfold gT; rw[if_neg (by omega),if_pos h]
theorem amS {key b:List UInt8} (h1:key.length=32) (h2:iY b=0) (h:(bM (cH (b.drop 48)) 1028).length=0):gT key b=10:=by
  unfold gT; rw[if_neg (by omega),if_neg (by simp[h2]),if_pos h]
theorem Yl {key b:List UInt8} (h1:key.length=32) (h2:iY b=0) (h3:(bM (cH (b.drop 48)) 1028).length≠0) (h:(bM (cH (b.drop 48)) 1028).getD 0 0≠(fE b:Int)∨¬ i6 (fa b)):gT key b=3:=by
  unfold gT; rw[if_neg (by omega),if_neg (by simp[h2]),if_neg h3,if_pos h]
theorem amT {key b:List UInt8} (h1:key.length=32) (h2:iY b=0) (h3:(bM (cH (b.drop 48)) 1028).length≠0) (h4:(bM (cH (b.drop 48)) 1028).getD 0 0=(fE b:Int)) (h5:i6 (fa b)):gT key b=if sI key b≠0 then 6 else fh (j6 key b):=by
  unfold gT; rw[if_neg (by omega),if_neg (by simp[h2]),if_neg h3,if_neg (by rintro (k | k); exact k h4; exact k h5)]
theorem adN {key:List UInt8} {ad:List (List UInt8)} {s:List UInt8}:(iX key ad s).length≤s.length:=by
  unfold iX;split
  ·rw[lE]; simp
  ·exact aoy _
structure OpR (b:List UInt8) where
  l1:48≤b.length
  l2:b.length≤1280
  ea:fh (b.drop 48)=0
  rd:pH b=⟨d6 b,cH (b.drop 48),[],false⟩
theorem akf {d:List UInt8} (h:i6 d):zx d=ew d∧zy d=gj d:=⟨if_pos h,if_pos h⟩
theorem amU {d:List UInt8} (h:i6 d):(ew d).length≤32∧(gj d).length≤d.length:=by
  obtain⟨h1,h2,h3,h4,h5⟩:=h;unfold ew gj aG;simp;omega
def qc:aK:=⟨2,108,ae [oO 4 (.alloc [ah,ah,ah,ah,ah,ah,be,be,be,aQ,aQ,aQ,aQ,.nil,.nil,cv]),ak 5 0] (.seq (ae [oM 18 0,bc 19 18,am .neq 20 19 32] (aw 20 (ae [oO 21 (.build [ah,ah,ah,ah,ah,ah,be,be,be,aQ,aQ,aQ,aQ,.nil,.nil,cv] []),aS 16 4 21,ak 5 5] .ret) .skip)) (ae [oM 23 1,aW 24 52 23,oM 22 24,aB 25 22 0,aB 26 22 1,oO 6 (.alloc [ah,ah,ah,ah,ah,ah,be,be,be,aQ,aQ,aQ,aQ,.nil,.nil,cv]),aS 16 6 25,oM 7 26] (.seq (ae [oM 27 7,am .neq 28 27 0] (aw 28 (ae [oO 29 (.build [ah,ah,ah,ah,ah,ah,be,be,be,aQ,aQ,aQ,aQ,.nil,.nil,cv] []),oM 30 7,aS 16 4 29,oM 5 30] .ret) .skip)) (ae [aO 31 13 6,aA 32 31,oO 33 (.call 53 [(.t 32),(kI 1028)] none),oM 8 33] (.seq (ae [oM 34 8,bc 35 34,am .eql 36 35 0] (aw 36 (ae [oO 37 (.build [ah,ah,ah,ah,ah,ah,be,be,be,aQ,aQ,aQ,aQ,.nil,.nil,cv] []),
 aS 16 4 37,ak 5 10] .ret) .skip)) (ae [aO 38 13 6,aA 39 38,bc 40 39,am .sub 41 40 1,oM 9 41] (ae [aO 43 13 6,aA 44 43,oM 45 8,oO 46 (.idxSl 1 (.t 45) (kI 0)),aA 47 46,bW 48 2 44 47,aO 49 1 48,aA 50 49,aW 51 67 50,oM 42 51,aB 52 42 0,aB 53 42 1,aB 54 42 2,oM 10 52,oM 11 53,oM 12 54] (.seq (ae [oM 55 8,oO 56 (.idxSl 1 (.t 55) (kI 0)),aA 57 56,oM 58 9,aU .neq 59 57 58,oM 60 59,bE 61 12 60 false,fY 62 61 60 false,cC 63 60 62] (aw 63 (ae [oO 64 (.build [ah,ah,ah,ah,ah,ah,be,be,be,aQ,aQ,aQ,aQ,.nil,.nil,cv] []),aS 16 4 64,ak 5 3] .ret) .skip)) (ae [oM 66 1,oO 67 (.slice 1 (.t 66) (some (kI 48)) none none),aW 68 68 67,oM 65 68,aB 69 65 0,aB 70 65 1,oM 13 69,oM 14 70] (ae [oM 71 1,oM 72 13,oM 73 9,bW 74 1 72 73,aA 75 74,oO 76 (.bin .add (kI 48) (.t 75)),
 oO 77 (.slice 1 (.t 71) none (some (.t 76)) none),oM 15 77] (ae [oM 79 0,oM 80 15,oM 81 10,oO 82 (.bldSl false 2 1 (.sl []) [(0,(.t 80)),(1,(.t 81))]),oM 83 11,fZ 84 69 79 82 83,oM 78 84,aB 85 78 0,aB 86 78 1,oM 16 85,oM 7 86] (.seq (ae [oM 87 7,am .neq 88 87 0] (aw 88 (ae [oO 89 (.build [ah,ah,ah,ah,ah,ah,be,be,be,aQ,aQ,aQ,aQ,.nil,.nil,cv] []),aS 16 4 89,ak 5 6] .ret) .skip)) (ae [oM 91 16,aW 92 70 91,oM 90 92,aB 93 90 0,aB 94 90 1,oM 17 93,oM 7 94] (.seq (ae [oM 95 7,am .neq 96 95 0] (aw 96 (ae [oO 97 (.build [ah,ah,ah,ah,ah,ah,be,be,be,aQ,aQ,aQ,aQ,.nil,.nil,cv] []),oM 98 7,aS 16 4 97,oM 5 98] .ret) .skip)) (ae [aO 99 0 6,bn 100 13 99,aO 101 13 6,aA 102 101,oM 103 9,oM 104 9,oO 105 (.slice 2 (.t 102) none (some (.t 103)) (some (.t 104))),
 oM 106 17,oO 107 (.build [ah,ah,ah,ah,ah,ah,be,be,be,aQ,aQ,aQ,aQ,.nil,.nil,cv] [(0,13,(.t 100)),(13,1,(.t 105)),(14,1,(.t 106)),(15,1,(.k (.c (.d (.bool true)))))]),aS 16 4 107,ak 5 0] .ret))))))))))))))),[(4,(some (.ag 16))),(5,none)]⟩
theorem agB:aI Tryz.prog {} Tryz.f28=some qc:=by kernel_rfl
set_option maxHeartbeats 3200000 in
theorem Wv (G:au) (key b:List UInt8) (hk:key.length≤9223372036854775807) (hb:b.length≤9000000000000000000):aF Tryz.prog G 28 [.sl (key.map bD),.sl (b.map bD)] (.tup [.c (.d (dK (gU key b))),.c (.d (.int .i64 (gT key b)))]):=by
  refine aT Tryz.func28 agB rfl rfl ?_;have c1:=Is G b hb;by_cases h1:key.length=32
  ·by_cases h2:iY b=0
   ·obtain⟨d1,d2,d3,d4,d5⟩:=akd h2;rw[h2,d5] at c1;have hRl:(b.drop 48).length=b.length-48:=by simp
    have c2:=rG G (cH (b.drop 48)) 1028 (by have:=@Bp (b.drop 48); omega);by_cases h3:(bM (cH (b.drop 48)) 1028).length=0
    ·have e:=amS h1 h2 h3;rw[tq e (by decide),e];clear e d1 d2 d5 h2;generalize bM (cH (b.drop 48)) 1028=Z at *
     generalize cH (b.drop 48)=L at *
     generalize d6 b=q at *
     unfold dK jZ Hd.z at *
     simp only[qc,ai,af,seval,h1];refine sD (c1) ?_;refine sC (c2) ?_;simp only[h3,af,aa,seval];exact eW (by simp only[af,seval] <;> rfl) (by simp only[af,seval])
    ·obtain⟨i,hi,i2,i3⟩:=adM h3;have hLl:=@Bp (b.drop 48);have gi:=lU hi;have hdl:=agA (uO hi);have c3:=akb G ((cH (b.drop 48)).getD i default).da (by omega);have hz3:((bM (cH (b.drop 48)) 1028).length:Int)≠0:=by omega
     have hz3':(((bM (cH (b.drop 48)) 1028).length:Int)=0)=False:=eq_false hz3;have hz4:(0:Int)<((bM (cH (b.drop 48)) 1028).length:Int):=by omega
     by_cases h4:i=fE b
     ·have hL1:(fE b:Int)=((cH (b.drop 48)).length:Int)-1:=by unfold fE; omega
      rw[h4] at i2 i3 gi c3 hdl hi;have hfd:((cH (b.drop 48)).getD (fE b) default).da=fa b:=rfl;rw[hfd] at c3 hdl;by_cases h5:i6 (fa b)
      ·obtain⟨p1,p2⟩:=akf h5;obtain⟨q1,q2⟩:=amU h5;have hgl:(fa b).length≤1280:=by
         omega
       obtain⟨x1,x2⟩:=ake d2 hi;have x3:(fE b:Int)<((ox (b.drop 48)).length:Int):=by
         have:=(aoJ.1 x1).1;omega
       have c4:=aj7 G (b.drop 48) (by omega);rw[d2] at c4;have hAl:(mJ b).length≤1280:=by unfold mJ; simp; omega
       have c5:=Jc G key [mJ b,ew (fa b)] (gj (fa b)) hk (by simp) (fun x hx=>by simp at hx; rcases hx with rfl | rfl <;> omega) (by omega);rw[show iG key [mJ b,ew (fa b)] (gj (fa b))=sI key b from rfl,show iX key [mJ b,ew (fa b)] (gj (fa b))=j6 key b from rfl] at c5;have hVl:(j6 key b).length≤1280:=by
         have:(j6 key b).length≤(gj (fa b)).length:=adN;omega
       have c6:=Wn G (j6 key b) (by omega);have e5:=amT h1 h2 h3 i2 h5;rw[p1,p2,decide_eq_true h5] at c3;have hcut:b.take (48+bL (b.drop 48) (fE b))=mJ b:=rfl;unfold dH at c5;simp only[aos,aoA] at c5;have hdr:(b.drop 48).take (b.length-48)=b.drop 48:=aot (by omega);by_cases h6:sI key b=0
       ·rw[if_neg (by simp[h6])] at e5;rw[h6] at c5;by_cases h7:fh (j6 key b)=0
        ·rw[h7] at e5 c6;have eP:gU key b=⟨d6 b,(cH (b.drop 48)).take (fE b),cH (j6 key b),true⟩:=if_pos e5;rw[eP,e5];have az:=mO (cH (b.drop 48));have hle:(fE b≤(cH (b.drop 48)).length)=True:=eq_true (by omega);clear eP e5 d1 d2 d5 h2 h7 h6 p1 p2 h5 q1 q2 hgl h4 hz3;generalize hZ:bM (cH (b.drop 48)) 1028=Z at *
         generalize bL (b.drop 48) (fE b)=pp at *
         generalize ox (b.drop 48)=PL at *
         generalize j6 key b=V at *
         generalize mJ b=A at *
         generalize ew (fa b)=n at *
         generalize gj (fa b)=s at *
         generalize fa b=GG at *
         generalize fE b=last at *
         generalize d6 b=q at *
         generalize cH V=LV at *
         generalize cH (b.drop 48)=L at *
         generalize L.getD last default=gf at *
         unfold dK bg at *
         simp only[qc,ai,af,seval,h1];refine sD (c1) ?_;refine sC (c2) ?_;simp only[hz3',ba,i3,zD,← hL1,gi,hfd,af,seval,iteOmega,toNatUp];refine sC (c3) ?_;simp only[ba,i3,zD,hdr,af,seval,iteOmega,toNatUp];refine sC (c4) ?_;simp only[x1,ba,zD,hcut,af,seval,iteOmega,toNatUp];refine sD (c5) ?_;refine sC (c6) ?_;simp only[az,hle,aoy,and_self,af,aa,seval,iteOmega,toNatUp];exact eW (by simp only[af,seval] <;> rfl) (by simp only[af,seval])
        ·rw[tq e5 h7,e5];have g7:(fh (j6 key b)=0)=False:=eq_false h7;clear e5 d1 d2 d5 h2 h7 h6 p1 p2 h5 q1 q2 hgl h4 hz3;generalize fh (j6 key b)=E at *
         generalize hZ:bM (cH (b.drop 48)) 1028=Z at *
         generalize bL (b.drop 48) (fE b)=pp at *
         generalize ox (b.drop 48)=PL at *
         generalize j6 key b=V at *
         generalize mJ b=A at *
         generalize ew (fa b)=n at *
         generalize gj (fa b)=s at *
         generalize fa b=GG at *
         generalize fE b=last at *
         generalize d6 b=q at *
         generalize cH V=LV at *
         generalize cH (b.drop 48)=L at *
         generalize L.getD last default=gf at *
         unfold jZ Hd.z;unfold dK bg at *
         simp only[qc,ai,af,seval,h1];refine sD (c1) ?_;refine sC (c2) ?_;simp only[hz3',ba,i3,zD,← hL1,gi,hfd,af,seval,iteOmega,toNatUp];refine sC (c3) ?_;simp only[ba,i3,zD,hdr,af,seval,iteOmega,toNatUp];refine sC (c4) ?_;simp only[x1,ba,zD,hcut,af,seval,iteOmega,toNatUp];refine sD (c5) ?_;refine sC (c6) ?_;simp only[g7,af,aa,seval];exact eW (by simp only[af,seval] <;> rfl) (by simp only[af,seval])
       ·rw[if_pos h6] at e5;rw[tq e5 (by decide),e5];have g6:(sI key b=0)=False:=eq_false h6;clear e5 d1 d2 d5 h2 h6 p1 p2 h5 q1 q2 hgl h4 hz3 c6;generalize sI key b=E at *
        generalize hZ:bM (cH (b.drop 48)) 1028=Z at *
        generalize bL (b.drop 48) (fE b)=pp at *
        generalize ox (b.drop 48)=PL at *
        generalize j6 key b=V at *
        generalize mJ b=A at *
        generalize ew (fa b)=n at *
        generalize gj (fa b)=s at *
        generalize fa b=GG at *
        generalize fE b=last at *
        generalize d6 b=q at *
        generalize cH (b.drop 48)=L at *
        generalize L.getD last default=gf at *
        unfold jZ Hd.z;unfold dK bg at *
        simp only[qc,ai,af,seval,h1];refine sD (c1) ?_;refine sC (c2) ?_;simp only[hz3',ba,i3,zD,← hL1,gi,hfd,af,seval,iteOmega,toNatUp];refine sC (c3) ?_;simp only[ba,i3,zD,hdr,af,seval,iteOmega,toNatUp];refine sC (c4) ?_;simp only[x1,ba,zD,hcut,af,seval,iteOmega,toNatUp];refine sC (c5) ?_;simp only[g6,af,aa,seval];exact eW (by simp only[af,seval] <;> rfl) (by simp only[af,seval])
      ·have e:=Yl h1 h2 h3 (.inr h5);rw[tq e (by decide),e];rw[decide_eq_false h5] at c3;clear e d1 d2 d5 h2 h5 h4 hz3;generalize hZ:bM (cH (b.drop 48)) 1028=Z at *
       generalize zx (fa b)=n at *
       generalize zy (fa b)=s at *
       generalize fa b=GG at *
       generalize fE b=last at *
       generalize d6 b=q at *
       generalize cH (b.drop 48)=L at *
       generalize L.getD last default=gf at *
       unfold jZ Hd.z dK bg at *
       simp only[qc,ai,af,seval,h1];refine sD (c1) ?_;refine sC (c2) ?_;simp only[hz3',ba,i3,zD,← hL1,gi,hfd,af,seval,iteOmega,toNatUp];refine sC (c3) ?_;simp only[ba,i3,zD,af,aa,seval,iteOmega,toNatUp];exact eW (by simp only[af,seval] <;> rfl) (by simp only[af,seval])
     ·have e:=Yl h1 h2 h3 (.inl (by rw[i2]; omega));rw[tq e (by decide),e];have hL1:(fE b:Int)=((cH (b.drop 48)).length:Int)-1:=by unfold fE; omega
      have g4:(i:Int)≠(fE b:Int):=by omega
      have g4':((i:Int)=(fE b:Int))=False:=eq_false g4;clear e d1 d2 d5 h2 h4 hz3;generalize decide (i6 ((cH (b.drop 48)).getD i default).da)=ok at *
      generalize zx ((cH (b.drop 48)).getD i default).da=n at *
      generalize zy ((cH (b.drop 48)).getD i default).da=s at *
      generalize hZ:bM (cH (b.drop 48)) 1028=Z at *
      generalize fE b=last at *
      generalize d6 b=q at *
      generalize cH (b.drop 48)=L at *
      generalize L.getD i default=gf at *
      unfold jZ Hd.z dK bg at *
      simp only[qc,ai,af,seval,h1];refine sD (c1) ?_;refine sC (c2) ?_;simp only[hz3',ba,i3,zD,← hL1,gi,af,seval,iteOmega,toNatUp];refine sC (c3) ?_;simp only[ba,i3,zD,g4',af,aa,seval,iteOmega,toNatUp];exact eW (by simp only[af,seval] <;> rfl) (by simp only[af,seval])
   ·have e:=amR h1 h2;have g:(iY b=0)=False:=eq_false h2;rw[tq e h2,e];clear e h2;generalize iY b=E at *
    generalize pH b=q at *
    unfold dK jZ Hd.z at *
    simp only[qc,ai,af,seval,h1];refine sC (c1) ?_;simp only[g,af,aa,seval];exact eW (by simp only[af,seval] <;> rfl) (by simp only[af,seval])
  ·have e:=amQ (b:=b) h1;rw[tq e (by decide),e];unfold dK jZ Hd.z;simp only[qc,ai,af,aa,seval,iteOmega];exact eW (by simp only[af,seval] <;> rfl) (by simp only[af,seval])
theorem yp:pP.da.length=104:=aoR ..
theorem JB (u c:List UInt8) (k:Nat):cb u c (k+1)=cb u c k++[pP]:=by
  unfold cb;rw[List.replicate_succ',aoC]
theorem vf (u c:List UInt8) (k:Nat):(cb u c k).length=k+2:=by
  unfold cb;rw[aoq,aoR]
  show 2+k=_
  omega
theorem Bq {u c:List UInt8} {k:Nat} {f:Fd} (h:f∈cb u c k):f=⟨260,u⟩∨f=⟨516,c⟩∨f=pP:=by
  unfold cb at h;rcases aoG.1 h with h | h
  ·rcases aoK.1 h with h | h
   ·exact .inl h
   ·exact .inr (.inl (aou.1 h))
  ·exact .inr (.inr (List.eq_of_mem_replicate h))
theorem Hp {u c:List UInt8} (hu:u.length=32) (hc:c.length=104):∀ k,cQ (cb u c k)=144+108*k
  | 0=>by
    unfold cb cQ ct;simp[hu,hc]
  | k+1=>by
    rw[JB,xG,Hp hu hc k];have:cQ [pP]=108:=by
      unfold cQ ct;simp[yp]
    omega
theorem yq {f:Fd} (h1:0≤f.ty) (h2:f.ty≤65535) (h3:f.da.length≤1228):dA f=0:=by
  unfold dA ct;rw[if_neg (by omega),if_neg (by omega)]
theorem amV {u c:List UInt8} (hu:u.length=32) (hc:c.length=104) {k:Nat} (hk:k≤8):di (cb u c k)=0:=by
  refine yn (fun f hf=>?_) (by rw[vf]; omega) (by rw[Hp hu hc]; omega);rcases Bq hf with rfl | rfl | rfl
  ·exact yq (show (0:Int)≤260 by decide) (show (260:Int)≤65535 by decide) (by show u.length≤_; omega)
  ·exact yq (show (0:Int)≤516 by decide) (show (516:Int)≤65535 by decide) (by show c.length≤_; omega)
  ·exact yq (by decide) (by decide) (by rw[yp]; decide)
theorem Ww {l:List Fd} {k:Int} (h:∀ f∈l,f.ty≠k):bM l k=[]:=P9 h _ (aoz _)
theorem akg {u c:List UInt8} {k:Nat}:bM (cb u c k) 1028=[]:=Ww fun f hf=>by
  rcases Bq hf with rfl | rfl | rfl
  ·exact show (260:Int)≠1028 by decide
  ·exact show (516:Int)≠1028 by decide
  ·exact show (772:Int)≠1028 by decide
theorem Ym (t:Nat):jn (fp t)=0:=yQ.2 rfl
theorem JC {t:Nat} (h:t<18446744073709551616):sF (fp t):=⟨show 0<_ by decide,show 0<_ by decide,show 0<_ by decide,show 0<_ by decide,show 0<_ by decide,show 0<_ by decide,h⟩
theorem JD {key u c n:List UInt8} {t k:Nat} (h1:key.length=32) (hu:u.length=32) (hc:c.length=104) (hn:n.length=16) (hk:k≤8):wI key ⟨fp t,cb u c k,[],false⟩ n∧(d7 key ⟨fp t,cb u c k,[],false⟩ n).length=232+108*k:=by
  have s:cQ ([]:List Fd)=0:=rfl;have e:=amV hu hc hk;have un:eM ⟨fp t,cb u c k,[],false⟩=0:=by
    unfold eM;rw[if_pos (Ym t)]; exact e
  have ht:=Hp hu hc k;have ha:dC key [eF ⟨fp t,cb u c k,[],false⟩,n] ((bN []).length:Int)=0:=Cs h1 (by rw[rx,ht]; omega) (by omega) (by decide);have hs:(hY key ⟨fp t,cb u c k,[],false⟩ n).length=16:=by
    unfold hY;rw[nK ha,aoq,kQ,lE]; rfl
  have hl:=va n (hY key ⟨fp t,cb u c k,[],false⟩ n);have hT:ct (cK key ⟨fp t,cb u c k,[],false⟩ n)=40:=by
    unfold cK;rw[v7 (by omega),hl,hs]; omega
  have ok:wI key ⟨fp t,cb u c k,[],false⟩ n:=⟨h1,by omega,by omega,un,rfl,by rw[show bM (cb u c k) 1028=[] from akg]; rfl,by rw[vf]; omega,Yi (by omega) (by unfold cK at hT; rw[v7 (by omega)] at hT; omega),by rw[hT,ht]; omega⟩
  refine⟨ok,?_⟩;have hx:cQ [cK key ⟨fp t,cb u c k,[],false⟩ n]=40:=by unfold cQ; simp[hT]
  rw[(yo ok).2,aoq,rx,jp,hx,ht];omega
theorem Dh {j:Jr} {u n:List UInt8} {e:Int} (h:lz j u n=e) (he:e≠0):Er j u n=jo∧∀ t,Es j t u n=[]:=⟨if_neg (by rw[h]; exact he),fun t=>if_neg (by rw[h]; exact he)⟩
theorem JE {j:Jr} {u b:List UInt8} {e:Int} (h:i9 j u b=e) (he:e≠0):ue j u b=jo∧ug j u b=jZ:=⟨if_neg (by rw[h]; exact he),if_neg (by rw[h]; exact he)⟩
def j8 (j:Jr):List D:=[.sl (j.up.map bD),.sl (j.dn.map bD),.sl (j.ck.map fun l=>D.sl (l.map bD)),.sl (j.la.map bD),.int .i64 j.nw,.int .i64 j.sn]
def ia:Ob:=.box [.nil,.nil,.nil,.nil,.d (.int .i64 0),.d (.int .i64 0)]
def ib (j:Jr) (k:C):Ob:=.box [.d (.sl (j.up.map bD)),.d (.sl (j.dn.map bD)),k,.d (.sl (j.la.map bD)),.d (.int .i64 j.nw),.d (.int .i64 j.sn)]
def Et (j:Jr):List C:=[.d (.sl (j.up.map bD)),.d (.sl (j.dn.map bD)),.fr 1 (j.ck.map fun l=>D.sl (l.map bD)),.d (.sl (j.la.map bD)),.d (.int .i64 j.nw),.d (.int .i64 j.sn)]
theorem akh {σ:St} {p:Nat×Option Kd} {j:Jr} {k:C} (h1:cV σ p=some (.mix [.d (.sl (j.up.map bD)),.d (.sl (j.dn.map bD)),k,.d (.sl (j.la.map bD)),.d (.int .i64 j.nw),.d (.int .i64 j.sn)])) (hk:wN σ.h k (.fr 1 (j.ck.map fun l=>D.sl (l.map bD)))) (hd:k.ids.Nodup):fb σ [p] (.w (.mix (Et j))):=by
  refine⟨[.mix [.d (.sl (j.up.map bD)),.d (.sl (j.dn.map bD)),k,.d (.sl (j.la.map bD)),.d (.int .i64 j.nw),.d (.int .i64 j.sn)]],by simp[bB,h1],.inl ⟨?_,?_⟩⟩
  ·simpa [W.ids,C.ids] using hd
  ·exact .cons rfl (.cons rfl (.cons hk (.cons rfl (.cons rfl (.cons rfl .nil)))))
theorem agC {P:Program} {G:au} {F:FuncId} {args:List D} {cs:List C} {ds:List D} (hds:je (cs.map C.ro)=.c (.d (.agg ds))) (h:aF P G F args (.w (.mix cs))):aF P G F args (.w (.c (.d (.agg ds)))):=by
  intro w S vs h1 h2 h3;refine (h w S vs h1 h2 h3).mono ?_;rintro e w' ⟨v,S',bl,rfl,k1,k2,k3,k4⟩;have cs0:∀ {us:List Value} {cs:List C} {bk:List Nat},kU S' w' w.heap.size us cs bk→∀ b∈bk,w.heap.size≤b∧b<w'.heap.size:=by
    intro us cs bk hc
    induction hc with
    | nil=>intro b hb; cases hb
    | cons h1 _ ih =>
      rename_i c _ _ _ _ _;intro b hb;rcases aoG.1 hb with hb | hb
      ·cases c <;> simp only[jN] at h1 <;> first | exact h1.elim | skip
       ·rw[h1.2] at hb; cases hb
       ·rcases h1 with ⟨_,_,rfl⟩ | ⟨b',cap,ty,N,rfl,_,_,_,q1,_,q2⟩
        ·cases hb
        ·simp only[aou] at hb;subst hb;obtain⟨f1,_,cur,ty',fz,f3,_⟩:=q2;exact⟨f1,(aoI.1 f3).1⟩
      ·exact ih b hb
  have hfresh:∀ b∈bl,w.heap.size≤b∧b<w'.heap.size:=by
    obtain⟨us,_,hc⟩:=k4;exact cs0 hc
  refine⟨v,fun b i=>S' b i∨b∈bl,[],rfl,k1,fun b i hs=>?_,.nil,?_⟩
  ·rcases hs with hs | hs
   ·exact k2 b i hs
   ·exact⟨.inr (hfresh b hs).1,(hfresh b hs).2⟩
  ·have:=vN (m:=fun _=>none) (x:=.mix cs) k4 (T:=fun b i=>S' b i∨b∈bl) (fun _ _ h=>.inl h) (fun b hb _=>.inr hb);rw[show W.ro (.mix cs)=_ from hds] at this;exact⟨this.1,rfl⟩
theorem Ct {j:Jr} (v:fF j):j.up.length=32∧j.dn.length=32∧j.ck.length≤8∧j.la.length≤104∧∀ c∈j.ck,c.length=104:=by
  obtain⟨⟨a,b,c,d,_⟩,h,_⟩:=xV.1 v;exact⟨a,b,c,by omega,h⟩
theorem JF {j:Jr} {e:Int} (h:i7 j=e) (he:e≠0):En j=jo∧Eo j=[]:=⟨if_neg (by rw[h]; exact he),if_neg (by rw[h]; exact he)⟩
theorem agD {cs:List (List UInt8)} {i:Nat} (h:i<cs.length) (h1:gM (cs.take i)=true) (h2:(cs.getD i []).length=104):gM (cs.take (i+1))=true:=by
  unfold gM at *
  rw[KE h,List.all_append,h1,aqB,List.all_nil,beq_iff_eq.2 h2]; rfl

def rQ (p:dr):List C:=[.d (.int .i64 p.hd.lp),.d (.int .i64 p.hd.vr),.d (.int .i64 p.hd.md),.d (.int .i64 p.hd.st),.d (.int .i64 p.hd.pl),.d (.int .i64 p.hd.pr),.d (.int .u32 (p.hd.rd:Int)),.d (.int .u32 (p.hd.rp:Int)),.d (.int .u32 (p.hd.ri:Int)),.d (.int .u64 (p.hd.rf:Int)),.d (.int .u64 (p.hd.og:Int)),.d (.int .u64 (p.hd.rc:Int)),.d (.int .u64 (p.hd.tr:Int)),.d (.sl (p.pl.map bg)),.d (.sl (p.se.map bg)),.d (.bool p.gu)]
def Eu (l:List Fd) (i:Nat):List (List UInt8):=((bM l 516).take i).map fun k=>(l.getD k.toNat default).da
theorem agE (l:List Fd):Eu l (bM l 516).length=dv l:=by
  unfold Eu;rw[ao7,aj9]
theorem agG {l:List Fd} {i:Nat} (h:i≤(bM l 516).length):(Eu l i).length=i:=by
  unfold Eu;rw[aox,aow]; omega
theorem aki {l:List Fd} {k:Int} {i:Nat} (h:i<(bM l k).length):∃ m:Nat,(bM l k)[i]?=some (m:Int)∧(bM l k).getD i 0=(m:Int)∧m<l.length:=by
  have e:(bM l k)[i]?=some ((bM l k)[i]):=aon h;obtain⟨h1,h2⟩:=It l k l.length _ (show (bM l k)[i]∈fu l k l.length from aoS h);obtain⟨m,hm⟩:=ao5 h1;have hm:(bM l k)[i]=(m:Int):=hm;refine⟨m,by rw[e,hm],by rw[aor,e,hm]; rfl,by omega⟩
theorem akj (l:List Fd) (k:Int):(bM l k).length≤l.length:=Hk l k _
theorem amW {key b:List UInt8}:(gU key b).pl.length≤24∧(gU key b).se.length≤24:=by
  unfold gU;split
  ·have h1:=@Bp (b.drop 48);have h2:=@Bp (j6 key b);exact⟨by simp; omega,h2⟩
  ·exact⟨by decide,by decide⟩
theorem akk {u b:List UInt8} {p:dr} (h:(bM p.pl 260).length≠1):qX u b p=false:=by
  unfold qX;split
  ·rename_i i e;rw[e] at h;exact absurd rfl h
  ·rfl
theorem amX {u b:List UInt8} {p:dr} {m:Nat} (h:(bM p.pl 260).length=1) (hm:(bM p.pl 260)[0]?=some (m:Int)):qX u b p=((p.pl.getD m default).da==u):=by
  obtain⟨i,e⟩:=List.length_eq_one_iff.1 h;unfold qX;rw[e] at hm ⊢;obtain rfl:i=(m:Int):=Option.some.inj hm;rfl
theorem v8:dK jZ=.agg [.int .i64 0,.int .i64 0,.int .i64 0,.int .i64 0,.int .i64 0,.int .i64 0,.int .u32 0,.int .u32 0,.int .u32 0,.int .u64 0,.int .u64 0,.int .u64 0,.int .u64 0,.sl [],.sl [],.bool false]:=rfl
theorem agI {f:Fd} (h1:f.da.length%4=0) (h2:12≤f.da.length):gO f=f:=by
  unfold gO ct;rw[show max 16 ((f.da.length+7) / 4*4)-4-f.da.length=0 by omega,apD,aoF]
theorem Hq {l:List Fd} (h:∀ f∈l,f.da.length%4=0∧12≤f.da.length):l.map gO=l:=by
  conv=>rhs; rw[← List.map_id l]
  exact ao1 fun f hf=>agI (h f hf).1 (h f hf).2
theorem S4 {u c:List UInt8} (hu:u.length=32) (hc:c.length=104) (k:Nat):(cb u c k).map gO=cb u c k:=Hq fun f hf=>by
  rcases Bq hf with rfl | rfl | rfl
  ·exact⟨by show u.length%4=0; omega,by show 12≤u.length; omega⟩
  ·exact⟨by show c.length%4=0; omega,by show 12≤c.length; omega⟩
  ·exact⟨by rw[yp],by rw[yp]; decide⟩
theorem amY {key u c n:List UInt8} {t k:Nat} (ht:t<18446744073709551616) (h1:key.length=32) (hu:u.length=32) (hc:c.length=104) (hn:n.length=16) (hk:k≤8):gT key (d7 key ⟨fp t,cb u c k,[],false⟩ n)=0∧gU key (d7 key ⟨fp t,cb u c k,[],false⟩ n)=⟨fp t,cb u c k,[],true⟩:=by
  obtain⟨ok,_⟩:=JD (t:=t) h1 hu hc hn hk;obtain⟨_,_,o1,o2⟩:=Ho (JC ht) ok;refine⟨o1,o2.trans ?_⟩
  show (⟨fp t,(cb u c k).map gO,[].map gO,true⟩:dr)=_
  rw[S4 hu hc]; rfl
def dt (cs:List (List UInt8)):List Fd:=cs.map fun c=>⟨516,c⟩
theorem Yn (cs:List (List UInt8)):dv (dt cs)=cs:=by
  unfold dv dt
  induction cs with
  | nil=>rfl
  | cons c cs ih =>
    rw[aos,aqs (by simp),aos,ih]
theorem Hr (cs:List (List UInt8)):(dt cs).length=cs.length:=aox _
theorem Hs {cs:List (List UInt8)} {f:Fd} (h:f∈dt cs):f.ty=516∧f.da∈cs:=by
  obtain⟨c,hc,rfl⟩:=aoN.1 h;exact⟨rfl,hc⟩
theorem S5 {cs:List (List UInt8)} (h:∀ c∈cs,c.length=104):cQ (dt cs)=108*cs.length:=by
  induction cs with
  | nil=>rfl
  | cons c cs ih =>
    have h1:=h c (aoW ..);have ih:=ih fun x hx=>h x (aoQ _ hx)
    have e:dt (c::cs)=[⟨516,c⟩]++dt cs:=rfl;have e1:cQ [⟨516,c⟩]=108:=by
      unfold cQ ct;simp[h1]
    rw[e,xG,ih,e1,apj]; omega
theorem amZ {cs:List (List UInt8)} (h:∀ c∈cs,c.length=104) (hl:cs.length≤8):di (dt cs)=0:=by
  refine yn (fun f hf=>?_) (by rw[Hr]; omega) (by rw[S5 h]; omega);obtain⟨h1,h2⟩:=Hs hf;exact yq (by rw[h1]; decide) (by rw[h1]; decide) (by rw[h _ h2]; decide)
theorem agJ {cs:List (List UInt8)} (h:∀ c∈cs,c.length=104):(dt cs).map gO=dt cs:=Hq fun f hf=>by
  rw[h _ (Hs hf).2]; decide
theorem Yo {key u n:List UInt8} {h:Hd} {cs:List (List UInt8)} (h1:key.length=32) (hu:u.length=32) (hn:n.length=16) (hh:jn h=0) (hF:sF h) (hc:∀ c∈cs,c.length=104) (hl:cs.length≤8) :
    gS key ⟨h,[⟨260,u⟩],dt cs,false⟩ n=0∧(d7 key ⟨h,[⟨260,u⟩],dt cs,false⟩ n).length=124+108*cs.length∧gT key (d7 key ⟨h,[⟨260,u⟩],dt cs,false⟩ n)=0∧gU key (d7 key ⟨h,[⟨260,u⟩],dt cs,false⟩ n)=⟨h,[⟨260,u⟩],dt cs,true⟩:=by
  have eu:di [(⟨260,u⟩:Fd)]=0:=yn (fun f hf=>by
    rw[aou.1 hf];exact yq (show (0:Int)≤260 by decide) (show (260:Int)≤65535 by decide) (by show u.length≤_; omega)) (show 1≤24 by decide) (by unfold cQ ct; simp[hu])
  have tu:cQ [(⟨260,u⟩:Fd)]=36:=by unfold cQ ct; simp[hu]
  have ts:=S5 hc;have es:=amZ hc hl;have un:eM ⟨h,[⟨260,u⟩],dt cs,false⟩=0:=by
    unfold eM;rw[if_pos hh]; exact eu
  have ha:dC key [eF ⟨h,[⟨260,u⟩],dt cs,false⟩,n] ((bN (dt cs)).length:Int)=0:=Cs h1 (by rw[rx,tu]; decide) (by omega) (by rw[jp,ts]; omega);have hs:(hY key ⟨h,[⟨260,u⟩],dt cs,false⟩ n).length=16+108*cs.length:=by
    unfold hY;rw[nK ha,aoq,kQ,lE]
    show 16+(bN (dt cs)).length=_
    rw[jp,ts]
  have hg:=va n (hY key ⟨h,[⟨260,u⟩],dt cs,false⟩ n);have hT:ct (cK key ⟨h,[⟨260,u⟩],dt cs,false⟩ n)=40+108*cs.length:=by
    unfold cK;rw[v7 (by omega),hg,hs]; omega
  have no:bM [(⟨260,u⟩:Fd)] 1028=[]:=Ww fun f hf=>by
    rw[aou.1 hf];exact show (260:Int)≠1028 by decide
  have ok:wI key ⟨h,[⟨260,u⟩],dt cs,false⟩ n:=⟨h1,by omega,by omega,un,es,by rw[show bM [(⟨260,u⟩:Fd)] 1028=[] from no]; rfl,show 1≤23 by decide,Yi (by omega) (by unfold cK at hT; rw[v7 (by omega)] at hT; omega),by rw[hT,tu]; omega⟩
  have hx:cQ [cK key ⟨h,[⟨260,u⟩],dt cs,false⟩ n]=40+108*cs.length:=by unfold cQ; simp[hT]
  obtain⟨_,_,o1,o2⟩:=Ho hF ok;refine⟨(yo ok).1,?_,o1,o2.trans ?_⟩
  ·rw[(yo ok).2,aoq,rx,jp,hx,tu]; omega
  ·show (⟨h,[⟨260,u⟩].map gO,(dt cs).map gO,true⟩:dr)=_
   rw[agJ hc,Hq fun f hf=>?_];rw[aou.1 hf];exact⟨by show u.length%4=0; omega,by show 12≤u.length; omega⟩
theorem S6 {j:Jr} {u b:List UInt8} {h:Hd} {cs:List (List UInt8)} (v:fF j) (hu:u.length=32) (hm:h.md=4) (hc:∀ c∈cs,c.length=104) (o1:gT j.dn b=0) (o2:gU j.dn b=⟨h,[⟨260,u⟩],dt cs,true⟩) :
    i9 j u b=0∧ue j u b=xf j cs∧ug j u b=⟨h,[⟨260,u⟩],dt cs,true⟩∧∀ w:List UInt8,w.length=32→w≠u→i9 j w b=7:=by
  have key:∀ w:List UInt8,w.length=32→i9 j w b=if (u==w)=false then 7 else 0:=fun w hw=>by
    have hU:qX w b (gU j.dn b)=(u==w):=by
      rw[o2]; rfl
    unfold i9;rw[if_neg (fun h=>h.elim (· v) (· hw)),if_neg (not_not_intro o1),if_neg (by rw[o2]; exact not_not_intro hm),hU,o2]
    show (if (u==w)=false then (7:Int) else if gM (dv (dt cs))=true then 0 else 3)=_
    rw[Yn,if_pos (oE.2 hc)]
  have e:i9 j u b=0:=by rw[key u hu,if_neg (by simp)]
  refine⟨e,(if_pos e).trans ?_,(if_pos e).trans o2,fun w hw hne=>?_⟩
  ·rw[o2]
   show xf j (dv (dt cs))=_
   rw[Yn]
  ·rw[key w hw,if_pos (beq_eq_false_iff_ne.2 fun h=>hne h.symm)]
theorem Ht {la:List UInt8}:∀ {cs l:List (List UInt8)},(l++cs).Nodup→la∉cs→l.length≤8→eK la l cs=(l++cs).take 8
  | [],l,_,_,h8=>by
    rw[aoF,aot h8]; rfl
  | c::cs,l,hn,hl,h8=>by
    have e:l++c::cs=(l++[c])++cs:=by rw[aoC]; rfl
    have hc:lZ l c=false:=vz.2 fun h=>by
      obtain⟨_,_,h3⟩:=apQ.1 hn;exact h3 c h c (aoW ..) rfl
    have hla:(la==c)=false:=beq_eq_false_iff_ne.2 fun h=>hl (by rw[h]; exact aoW ..)
    have hl2:la∉cs:=fun h=>hl (aoQ _ h)
    show eK la (pO la l c) cs=_
    unfold pO ze;rw[hc,hla];by_cases h:l.length<8
    ·rw[if_pos (by rw[decide_eq_true h]; rfl),Ht (by rw[← e]; exact hn) hl2 (by rw[aoq,ao6]; omega),e]
    ·rw[if_neg (by rw[decide_eq_false h]; decide)];have hd:(l++cs).Nodup:=by
       rw[e] at hn;exact hn.sublist ((List.sublist_append_left l [c]).append_right cs)
     rw[Ht hd hl2 h8,apn (by omega),apn (by omega)]
theorem Qb {la:List UInt8} {l:List (List UInt8)} (h:8≤l.length):∀ cs,eK la l cs=l
  | []=>rfl
  | c::cs=>by
    have e:pO la l c=l:=if_neg (by
      unfold ze;rw[decide_eq_false (by omega),Bool.and_false,Bool.and_false]; decide)
    show eK la (pO la l c) cs=l
    rw[e];exact Qb h cs
theorem adO {la:List UInt8} {l cs:List (List UInt8)} {i:Nat} (h:(eK la l (cs.take i)).length=8):eK la l cs=eK la l (cs.take i):=by
  have e:eK la l cs=eK la (eK la l (cs.take i)) (cs.drop i):=by
    unfold eK;rw[← List.foldl_append,aoX]
  rw[e];exact Qb (by omega) _
theorem Yp {j:Jr} (v:fF j) (h:j.ck.length≠0) (hs:j.sn≠1099511627776):i7 j=0∧fF (j7 j):=by
  refine⟨by unfold i7; rw[if_neg (not_not_intro v),if_neg h,if_neg hs],?_⟩;obtain⟨⟨a1,a2,a3,a4,a5,a6,a7,a8⟩,b,c⟩:=xV.1 v;obtain⟨up,dn,ck,la,nw,sn⟩:=j
  match ck,h with
  | x::r,_ =>
    have c:=ap2.1 c;refine xV.2 ⟨⟨a1,a2,?_,.inr (b x (aoW ..)),vz.2 c.1,a6,?_,?_⟩,fun y hy=>b y (aoQ _ hy),c.2⟩
    ·have a3:r.length+1≤8:=a3
     show r.length≤8
     omega
    ·have a7:0≤sn:=a7
     show 0≤sn+1
     omega
    ·have a8:sn≤1099511627776:=a8;have hs:sn≠1099511627776:=hs
     show sn+1≤1099511627776
     omega
def sK (up dn:List UInt8):Prop:=up.length=32∧dn.length=32
instance (up dn:List UInt8):Decidable (sK up dn):=by unfold sK; infer_instance
def Cu:aK:=⟨1,13,ae [cW 1 0,bH 2 false] (ae [aO 3 0 1,aA 4 3,bc 5 4,am .eql 6 5 32,oM 7 6,dN 8 1 1 7 true,dz 9 8 7 true,fB 10 9 7 true,cu .eql 11 10 32 7 true,dh 12 7 11,oM 2 12] .ret),[(2,none)]⟩
theorem akl:aI Tryz.prog {} Tryz.f38=some Cu:=by kernel_rfl
theorem Yq (G:au) (up dn:List UInt8):aF Tryz.prog G 38 [.agg [.sl (up.map bD),.sl (dn.map bD)]] (.w (.c (.d (.bool (decide (sK up dn)))))):=by
  refine aT Tryz.func38 akl rfl rfl ?_;by_cases h1:up.length=32
  ·have g1:((up.length:Int)=32)=True:=eq_true (by omega);by_cases h2:dn.length=32
   ·have g2:((dn.length:Int)=32)=True:=eq_true (by omega);rw[decide_eq_true (show sK up dn from ⟨h1,h2⟩)];simp only[Cu,ai,af,seval,g1,g2];exact aZ
   ·have g2:((dn.length:Int)=32)=False:=eq_false (by omega);rw[decide_eq_false (show ¬ sK up dn from fun h=>h2 h.2)];simp only[Cu,ai,af,seval,g1,g2];exact aZ
  ·have g1:((up.length:Int)=32)=False:=eq_false (by omega);rw[decide_eq_false (show ¬ sK up dn from fun h=>h1 h.1)];simp only[Cu,ai,af,seval,g1];exact aZ
def Iu:aK:=⟨1,6,ae [bH 2 false] (ae [oM 3 0,bc 4 3,am .eql 5 4 104,oM 2 5] .ret),[(2,none)]⟩
theorem akm:aI Tryz.prog {} Tryz.f92=some Iu:=by kernel_rfl
theorem JG (G:au) (b:List UInt8):aF Tryz.prog G 92 [.sl (b.map bD)] (.w (.c (.d (.bool (b.length==104))))):=by
  refine aT Tryz.func92 akm rfl rfl ?_;by_cases h1:b.length=104
  ·have g1:((b.length:Int)=104)=True:=eq_true (by omega);rw[beq_iff_eq.2 h1];simp only[Iu,ai,af,seval,g1];exact aZ
  ·have g1:((b.length:Int)=104)=False:=eq_false (by omega);rw[beq_eq_false_iff_ne.2 h1];simp only[Iu,ai,af,seval,g1];exact aZ
def Di (l:List (List UInt8)) (i:Nat):St:=⟨bz [(5,.w (.c (.d (.sl (l.map fun x=>D.sl (x.map bD)))))),(6,.w (.c (.d (.int .i64 (l.length:Int))))),(7,.w (.c (.d (.int .i64 (i:Int)))))],hL [],uL []⟩
def AF:bq := ae [aU .lss 8 7 6] (.seq (aw 8 .skip (.exit 0)) (.seq (.block 1 (ae [bW 9 1 5 7,aA 10 9,oM 4 10] (ae [oM 11 4,aW 12 92 11,dd 13 12] (aw 13 (ae [bH 2 false] .ret) .skip)))) (.reg [am .add 14 7 1,oM 7 14])))
def Wx:aK:=⟨1,15,ae [bH 2 false] (.seq (ae [oM 5 0,bc 6 5,ak 7 0] (.block 0 (.loop AF))) (ae [bH 2 true] .ret)),[(2,none)]⟩
theorem akn:aI Tryz.prog {} Tryz.f39=some Wx:=by kernel_rfl
theorem Yr (G:au) (l:List (List UInt8)) (hl:l.length≤9000000000000000000):aF Tryz.prog G 39 [.sl (l.map fun x=>D.sl (x.map bD))] (.w (.c (.d (.bool (gM l))))):=by
  refine aT Tryz.func39 akn rfl rfl ?_;simp only[Wx,ai,af,seval];refine bQ (Di l) (fun i=>l.length-i) (fun i=>i≤l.length∧gM (l.take i)=true) 0 ⟨aoy _,rfl⟩ ?_ ?_
  ·refine aV (fun _=>0) ?_ ?_ rfl rfl <;> simp only[wx,aH,seval] <;> first | rfl | exact⟨rfl,rfl⟩ | skip
  ·rintro i ⟨hi,hp⟩;by_cases hlt:i<l.length
   ·have g:=xa hlt;have hs:=agD hlt hp;have hm:=ud hlt;have no:gM l=true→(l.getD i []).length=104:=fun h=>oE.1 h _ hm
    clear hm;generalize l.getD i []=x at *
    have c1:=JG G x;by_cases hx:x.length=104
    ·rw[beq_iff_eq.2 hx] at c1;have hs:=hs hx;simp only[AF,Di,af,seval,iteOmega,toNatUp,ba,g];refine sD (c1) ?_;refine bA (i+1) (by omega) ⟨by omega,hs⟩ (aV (fun i=>i) ?_ ?_ rfl rfl) <;> simp only[wx,aH,aY,seval] <;> first | rfl | exact⟨rfl,rfl⟩ | skip
    ·rw[beq_eq_false_iff_ne.2 hx] at c1;have e:gM l=false:=by
       cases h:gM l
       ·rfl
       ·exact absurd (no h) hx
     rw[e];simp only[AF,Di,af,seval,iteOmega,toNatUp,ba,g];refine sD (c1) ?_;exact aZ
   ·obtain rfl:i=l.length:=by omega
    rw[ao7] at hp;rw[hp];simp only[AF,Di,af,seval,iteOmega];exact aZ
def Wy:aK:=⟨2,7,ae [bH 3 false] (ae [oM 4 0,aA 5 1,cd 6 94 4 5,oM 3 6] .ret),[(3,none)]⟩
theorem ako:aI Tryz.prog {} Tryz.f139=some Wy:=by kernel_rfl
theorem am0 (G:au) (c x:List UInt8):oc Tryz.prog G 139 [.ref [.sl (c.map bD)]] [.sl (x.map bD)] (.w (.c (.d (.bool (x==c))))):=by
  refine⟨enters_of Tryz.func139 (by kernel_rfl) rfl,?_⟩;refine M3 Tryz.func139 ako rfl rfl ?_;have c1:=rD G x c;simp only[Wy,ape,apa,aos,aoA,D.up,iH,af,seval];refine sD (c1) ?_;exact aZ
def Wz:aK:=⟨2,8,ae [cW 3 1,bH 4 false] (ae [oM 5 0,oO 6 (.clos 139 [(.t 3)]),cd 7 138 5 6,oM 4 7] .ret),[(4,none)]⟩
theorem akp:aI Tryz.prog {} Tryz.f93=some Wz:=by kernel_rfl
theorem JH (G:au) (l:List (List UInt8)) (c:List UInt8) (hl:l.length≤9000000000000000000):aF Tryz.prog G 93 [.sl (l.map fun x=>D.sl (x.map bD)),.sl (c.map bD)] (.w (.c (.d (.bool (lZ l c))))):=by
  refine aT Tryz.func93 akp rfl rfl ?_;have c1:=Vd G l 139 [.ref [.sl (c.map bD)]] (fun x=>x==c) (by omega) (fun x _=>am0 G c x);rw[show l.any (fun x=>x==c)=lZ l c from rfl] at c1;simp only[Wz,ai,af,seval];refine sD (c1) ?_;exact aZ
def zf (j:Jr) (n i:Nat):List (Nat×V):=[(1,.w (.c (.ptr 1 1 0 0))),(2,.w (.c (.ptr 3 1 0 0))),(3,.w (.c (.own 2 1 0 n))),(25,.w (.c (.d (.sl (j.ck.map fun l=>D.sl (l.map bD)))))),(26,.w (.c (.d (.int .i64 (j.ck.length:Int))))),(27,.w (.c (.d (.int .i64 (i:Int)))))]
def Dj (j:Jr) (i:Nat):St:=⟨bz (zf j (j.ck.take i).length i),hL [(1,ib j (.d (.sl (j.ck.map fun l=>D.sl (l.map bD))))),(2,.row 1 ((j.ck.take i).map fun l=>D.sl (l.map bD))),(3,ia)],uL [1,2,3]⟩
def Gn:bq := ae [aU .lss 28 27 26] (.seq (aw 28 .skip (.exit 0)) (.seq (.block 1 (ae [bW 29 1 25 27,aA 30 29,oM 5 30] (.reg [oM 31 3,oM 32 5,oO 33 (.bldSl false 1 1 (.sl []) [(0,(.t 32))]),aW 34 44 33,oO 35 (.bldSl false 1 1 (.sl []) [(0,(.t 34))]),oO 36 (.app false 1 24 (.t 31) (.t 35)),oM 3 36]))) (.reg [am .add 37 27 1,oM 27 37])))
def WA:aK:=⟨1,41,ae [oO 1 (.box .ownBox (.t 0)),oO 2 (.alloc [.nil,.nil,.nil,.nil,ah,ah])] (ae [aO 6 0 1,aO 7 0 6,aA 8 7,oO 9 (.bldSl false 1 1 (.sl []) [(0,(.t 8))]),aW 10 44 9,aO 11 0 1,aO 12 1 11,aA 13 12,oO 14 (.bldSl false 1 1 (.sl []) [(0,(.t 13))]),aW 15 44 14,oO 16 (.build [.nil,.nil] [(0,1,(.t 10)),(1,1,(.t 15))]),aO 17 0 1,aS 2 17 16] (ae [aO 18 3 1,aA 19 18,oO 20 (.bldSl false 1 1 (.sl []) [(0,(.t 19))]),aW 21 44 20,aO 22 3 1,ei 22 21] (ae [oO 23 (.make true 1 24 (.sl []) (kI 0) (kI 8)),oM 3 23] (.seq (ae [aO 24 2 1,aA 25 24,bc 26 25,ak 27 0] (.block 0 (.loop Gn))) (ae [oM 38 3,aO 39 2 1,ei 39 38] (ae [bn 40 6 1,aS 6 2 40] .ret)))))),[(2,(some (.ag 6)))]⟩
theorem akq:aI Tryz.prog { own:=[1] } Tryz.f41=some WA:=by kernel_rfl
theorem JI (G:au) (j:Jr) (h1:j.up.length≤140737488355328) (h2:j.dn.length≤140737488355328) (h3:j.la.length≤140737488355328) (h4:∀ c∈j.ck,c.length≤140737488355328) (h5:j.ck.length≤1000000):aF Tryz.prog G 41 [eG j] (.w (.mix (Et j))):=by
  refine aT Tryz.func41 akq rfl rfl ?_;have c1:=dV G [j.up] (by simp) (by simp; omega);have c2:=dV G [j.dn] (by simp) (by simp; omega);have c3:=dV G [j.la] (by simp) (by simp; omega);simp only[aos,aoA,apd,apf,aoF] at c1 c2 c3;unfold eG;simp only[WA,ai,af,seval];refine sD (c1) ?_;refine sD (c2) ?_;refine sD (c3) ?_;refine bQ (Dj j) (fun i=>j.ck.length-i) (fun i=>i≤j.ck.length) 0 (aoy _) ?_ ?_
  ·refine aV (fun i=>if i=1 then 8 else if i=2 then 184 else 16) ?_ ?_ rfl rfl <;> simp only[zf,ib,ia,wx,aH,seval] <;> first | rfl | exact⟨rfl,rfl⟩ | skip
  ·intro i hi;clear c1 c2 c3;by_cases hlt:i<j.ck.length
   ·have g:=xa hlt;have hs:=KE hlt;have hm:=h4 _ (ud hlt);have tl:(j.ck.take i).length=i:=by rw[aow]; omega
    have az:=ma (j.ck.take i);generalize j.ck.getD i []=x at *
    have c4:=dV G [x] (by simp) (by simp; omega);simp only[aos,aoA,apd,apf,aoF] at c4;simp only[Gn,Dj,zf,ib,ia,af,seval,iteOmega,toNatUp,ba,g,tl];refine sC (c4) ?_;simp only[cG,tl,af,seval,iteOmega];refine bA (i+1) (by omega) (by omega) (aV (fun i=>if i=1 then 1 else if i=2 then 288 else 3) ?_ ?_ rfl rfl) <;> simp only[zf,ib,ia,hs,aoq,aoH,tl,wx,aH,aY,seval] <;> first | rfl | exact⟨rfl,rfl⟩ | skip
   ·obtain rfl:i=j.ck.length:=by omega
    have hk:j.ck.take j.ck.length=j.ck:=ao7;have az:=ma j.ck;simp only[Gn,Dj,zf,ib,ia,hk,af,aa,seval,iteOmega];exact akh (k:=.own 2 1 0 j.ck.length) (by simp only[af,seval] <;> rfl) ⟨rfl,rfl,by simp only[af,seval,iteOmega,hk]⟩ (by simp[C.ids])
theorem am1 (G:au) (j:Jr) (h1:j.up.length≤140737488355328) (h2:j.dn.length≤140737488355328) (h3:j.la.length≤140737488355328) (h4:∀ c∈j.ck,c.length≤140737488355328) (h5:j.ck.length≤1000000):aF Tryz.prog G 41 [eG j] (.w (.c (.d (eG j)))):=agC rfl (JI G j h1 h2 h3 h4 h5)
set_option maxHeartbeats 6400000
def tI (j:Jr) (i:Nat):St:=⟨bz [(1,.w (.c (.rp (j8 j)))),(35,.w (.c (.d (.sl (j.ck.map fun l=>D.sl (l.map bD)))))),(36,.w (.c (.d (.int .i64 (j.ck.length:Int))))),(37,.w (.c (.d (.int .i64 (i:Int)))))],hL [],uL []⟩
def sX:bq := ae [aU .lss 38 37 36] (.seq (aw 38 .skip (.exit 0)) (.seq (.block 1 (ae [oM 39 37,bW 40 1 35 37,aA 41 40,oM 3 39,oM 4 41] (ae [aO 42 2 1,aA 43 42,oM 44 3,oO 45 (.slice 1 (.t 43) none (some (.t 44)) none),oM 46 4,cd 47 93 45 46] (aw 47 (ae [bH 2 false] .ret) .skip)))) (.reg [am .add 48 37 1,oM 37 48])))
def rI:aK:=⟨1,66,ae [cW 1 0,bH 2 false] (.seq (ae [aO 5 0 1,bn 6 2 5,aW 7 38 6,dd 8 7,oM 9 8,dN 10 4 1 9 false,dz 11 10 9 false,cu .lss 12 11 0 9 false,cC 13 9 12,oM 14 13,dN 15 5 1 14 false,dz 16 15 14 false,cu .lss 17 16 0 14 false,cC 18 14 17,oM 19 18,dN 20 5 1 19 false,dz 21 20 19 false,cu .gtr 22 21 1099511627776 19 false,cC 23 19 22] (aw 23 (ae [bH 2 false] .ret) .skip)) (.seq (ae [aO 24 2 1,aA 25 24,bc 26 25,am .gtr 27 26 8,oM 28 27,dN 29 2 1 28 false,dz 30 29 28 false,oG 31 (.call 39 [(.t 30)] none) 28 false,fY 32 31 28 false,cC 33 28 32] (aw 33 (ae [bH 2 false] .ret) .skip)) (.seq (ae [aO 34 2 1,aA 35 34,bc 36 35,ak 37 0] (.block 0 (.loop sX))) (ae [aO 49 3 1,aA 50 49,bc 51 50,am .eql 52 51 0,oM 53 52,dN 54 3 1 53 false,dz 55 54 53 false,
 oG 56 (.call 92 [(.t 55)] none) 53 false,bE 57 56 53 false,dN 58 2 1 57 true,dz 59 58 57 true,dN 60 3 1 57 true,dz 61 60 57 true,oG 62 (.call 93 [(.t 59),(.t 61)] none) 57 true,fY 63 62 57 true,oG 64 (.pick (.t 57) (.t 63) (.k (.c cv))) 53 false,cC 65 53 64,oM 2 65] .ret)))),[(2,none)]⟩
theorem aku:aI Tryz.prog {} Tryz.f47=some rI:=by kernel_rfl
theorem Dk (G:au) (j:Jr):aF Tryz.prog G 47 [eG j] (.w (.c (.d (.bool (decide (fF j)))))):=by
  refine aT Tryz.func47 aku rfl rfl ?_;have no:¬ fF j→decide (fF j)=false:=fun h=>decide_eq_false h
  have c1:=Yq G j.up j.dn;unfold eG;by_cases h1:sK j.up j.dn
  ·rw[decide_eq_true h1] at c1;by_cases h2:j.nw<0
   ·have g2:(j.nw<0)=True:=eq_true h2;rw[no (fun h=>by have:=h.1.2.2.2.2.2.1; omega)];simp only[rI,ai,af,seval];refine sC (c1) ?_;simp only[g2,af,seval];exact aZ
   ·have g2:(j.nw<0)=False:=eq_false h2;by_cases h3:j.sn<0
    ·have g3:(j.sn<0)=True:=eq_true h3;rw[no (fun h=>by have:=h.1.2.2.2.2.2.2.1; omega)];simp only[rI,ai,af,seval];refine sC (c1) ?_;simp only[g2,g3,af,seval];exact aZ
    ·have g3:(j.sn<0)=False:=eq_false h3;by_cases h4:1099511627776<j.sn
     ·have g4:(j.sn>1099511627776)=True:=eq_true h4;rw[no (fun h=>by have:=h.1.2.2.2.2.2.2.2; omega)];simp only[rI,ai,af,seval];refine sC (c1) ?_;simp only[g2,g3,g4,af,seval];exact aZ
     ·have g4:(j.sn>1099511627776)=False:=eq_false h4;by_cases h5:8<j.ck.length
      ·have g5:((j.ck.length:Int)>8)=True:=eq_true (by omega);rw[no (fun h=>by have:=h.1.2.2.1; omega)];simp only[rI,ai,af,seval];refine sC (c1) ?_;simp only[g2,g3,g4,g5,af,seval];exact aZ
      ·have g5:((j.ck.length:Int)>8)=False:=eq_false (by omega);have c2:=Yr G j.ck (by omega);by_cases h6:gM j.ck=true
       ·rw[h6] at c2;have a4:=oE.1 h6;simp only[rI,ai,af,seval];refine sC (c1) ?_;simp only[g2,g3,g4,g5,af,seval];refine sD (c2) ?_;refine bQ (tI j) (fun i=>j.ck.length-i) (fun i=>i≤j.ck.length∧∀ k,k<i→sJ j.ck k) 0 ⟨aoy _,fun k hk=>by omega⟩ ?_ ?_
        ·refine aV (fun _=>0) ?_ ?_ rfl rfl <;> simp only[j8,wx,aH,seval] <;> first | rfl | exact⟨rfl,rfl⟩ | skip
        ·clear c1 c2 g2 g3 g4 g5 h6;rintro i ⟨hi,hp⟩;by_cases hlt:i<j.ck.length
         ·have g:=xa hlt;have m4:=a4 _ (ud hlt);have hno:¬ sJ j.ck i→decide (fF j)=false:=fun h=>decide_eq_false fun v=>h (v.2 i hlt)
          have hgo:sJ j.ck i→∀ k,k<i+1→sJ j.ck k:=fun a k hk=>by
            rcases aoP k i with h | h
            ·exact hp k h
            ·obtain rfl:k=i:=by omega
             exact a
          have az:=ma j.ck;have c3:=JH G (j.ck.take i) (j.ck.getD i []) (by rw[aow]; omega);cases hq:lZ (j.ck.take i) (j.ck.getD i [])
          ·have hgo:=hgo ⟨m4,hq⟩;rw[hq] at c3;clear hno hp hq m4 no a4;generalize j.ck.getD i []=x at *
           simp only[sX,tI,j8,af,seval,iteOmega,toNatUp,ba,g,az];refine sD (c3) ?_;refine bA (i+1) (by omega) ⟨by omega,hgo⟩ (aV (fun i=>i) ?_ ?_ rfl rfl) <;> simp only[j8,wx,aH,aY,seval] <;> first | rfl | exact⟨rfl,rfl⟩ | skip
          ·rw[hno (fun h=>by rw[h.2] at hq; cases hq)];rw[hq] at c3;clear hno hp hgo hq m4 no a4;generalize j.ck.getD i []=x at *
           simp only[sX,tI,j8,af,seval,iteOmega,toNatUp,ba,g,az];refine sD (c3) ?_;exact aZ
         ·have hv:(j.la.length=0∨j.la.length=104)→lZ j.ck j.la=false→fF j:=fun a b=>⟨⟨h1.1,h1.2,by omega,a,b,by omega,by omega,by omega⟩,fun k hk=>hp k (by omega)⟩
          clear hp;by_cases h7:j.la.length=0
          ·have g7:((j.la.length:Int)=0)=True:=eq_true (by omega);rw[decide_eq_true (hv (.inl h7) (vz.2 fun h=>by have:=a4 _ h; omega))];clear hv no a4;simp only[sX,tI,j8,af,seval,iteOmega,g7];exact aZ
          ·have g7:((j.la.length:Int)=0)=False:=eq_false (by omega);have c4:=JG G j.la;by_cases h8:j.la.length=104
           ·rw[beq_iff_eq.2 h8] at c4;have c5:=JH G j.ck j.la (by omega);cases hq:lZ j.ck j.la
            ·rw[hq] at c5;rw[decide_eq_true (hv (.inr h8) hq)];clear hv no a4 hq;simp only[sX,tI,j8,af,seval,iteOmega,g7];refine sD (c4) ?_;refine sD (c5) ?_;exact aZ
            ·rw[hq] at c5;rw[no (fun h=>by have:=h.1.2.2.2.2.1; rw[hq] at this; cases this)];clear hv no a4 hq;simp only[sX,tI,j8,af,seval,iteOmega,g7];refine sD (c4) ?_;refine sD (c5) ?_;exact aZ
           ·rw[beq_eq_false_iff_ne.2 h8] at c4;rw[no (fun h=>by have:=h.1.2.2.2.1; omega)];clear hv no a4;simp only[sX,tI,j8,af,seval,iteOmega,g7];refine sD (c4) ?_;exact aZ
       ·rw[Bool.not_eq_true] at h6;rw[h6] at c2;rw[no (fun h=>by rw[oE.2 ((xV.1 h).2.1)] at h6; cases h6)];simp only[rI,ai,af,seval];refine sC (c1) ?_;simp only[g2,g3,g4,g5,af,seval];refine sD (c2) ?_;exact aZ
  ·rw[decide_eq_false h1] at c1;rw[no (fun h=>h1 ⟨h.1.1,h.1.2.1⟩)];simp only[rI,ai,af,seval];refine sD (c1) ?_;exact aZ
def lB (j:Jr) (id n:Nat):List C:=[.d (.sl (j.up.map bD)),.d (.sl (j.dn.map bD)),.own id 1 0 n,.d (.sl (j.la.map bD)),.d (.int .i64 j.nw),.d (.int .i64 j.sn)]
theorem Dl (g:Nat→Nat) (cs:List C):W.ren g (.mix cs)=.mix (cs.map (C.ren g)):=rfl
def nF (l:List (List UInt8)):List D:=l.map fun x=>D.sl (x.map bD)
def JK (j:Jr) (cs:List (List UInt8)) (i:Nat):St:=⟨bz [(2,.w (.c (.ptr 1 1 0 0))),(4,.w (.c (.ptr 3 1 0 0))),(7,.w (.c (.d (.sl (cs.map fun l=>D.sl (l.map bD)))))),(8,.w (.c (.d (.int .i64 (cs.length:Int))))),(9,.w (.c (.d (.int .i64 (i:Int)))))],hL [(1,ib j (.own 2 1 0 (eK j.la j.ck (cs.take i)).length)),(2,.row 1 ((eK j.la j.ck (cs.take i)).map fun l=>D.sl (l.map bD))),(3,ia)],uL [1,2,3]⟩
def uP:bq := ae [aU .lss 10 9 8] (.seq (aw 10 .skip (.exit 0)) (.seq (.block 1 (ae [bW 11 1 7 9,aA 12 11,oM 6 12] (.seq (ae [aO 13 2 2,aA 14 13,bc 15 14,am .eql 16 15 8] (aw 16 (.exit 0) .skip)) (ae [aO 17 2 2,aA 18 17,oM 19 6,cd 20 93 18 19,dd 21 20,oM 22 21,dN 23 3 2 22 true,dz 24 23 22 true,bE 25 6 22 true,oG 26 (.call 94 [(.t 24),(.t 25)] none) 22 true,fY 27 26 22 true,dh 28 22 27] (aw 28 (.reg [aO 29 2 2,aA 30 29,oM 31 6,oO 32 (.bldSl false 1 1 (.sl []) [(0,(.t 31))]),aW 33 44 32,oO 34 (.bldSl false 1 1 (.sl []) [(0,(.t 33))]),oO 35 (.app false 1 24 (.t 30) (.t 34)),aO 36 2 2,ei 36 35]) .skip))))) (.reg [am .add 37 9 1,oM 9 37])))
def WB:aK:=⟨2,39,ae [oO 2 (.box .ownBox (.t 0)),oO 4 (.alloc [.nil,.nil,.nil,.nil,ah,ah])] (.seq (ae [oM 7 1,bc 8 7,ak 9 0] (.block 0 (.loop uP))) (ae [bn 38 6 2,aS 6 4 38] .ret)),[(4,(some (.ag 6)))]⟩
theorem akv:aI Tryz.prog { own:=[2] } Tryz.f40=some WB:=by kernel_rfl
theorem Yv (G:au) (j:Jr) (cs:List (List UInt8)) (v3:j.ck.length≤8) (m4:∀ c∈cs,c.length≤140737488355328) (hcs:cs.length≤9000000000000000000) :
    kx Tryz.prog G 40 [.mix (lB j 1 j.ck.length),.c (.d (.sl (nF cs)))] [(1,.row 1 (nF j.ck))] (.w (.mix (lB j 3 (eK j.la j.ck cs).length))) [(3,.row 1 (nF (eK j.la j.ck cs)))]:=by
  refine uv Tryz.func40 akv [] rfl rfl rfl rfl rfl rfl rfl ?_;unfold lB nF;simp only[WB,iH,af,seval];refine bQ (JK j cs) (fun i=>cs.length-i) (fun i=>i≤cs.length) 0 (aoy _) ?_ ?_
  ·refine aV (fun i=>if i=1 then 16 else if i=2 then 1 else 32) ?_ ?_ rfl rfl <;> simp only[apJ,eK,ap9,ib,ia,wx,aH,seval] <;> first | rfl | exact⟨rfl,rfl⟩ | skip
  ·intro i hi;have L8:=ags (la:=j.la) (l:=j.ck) (cs.take i) v3;have stop:=fun h=>adO (la:=j.la) (l:=j.ck) (cs:=cs) (i:=i) h
   by_cases hlt:i<cs.length
   ·have g:=xa hlt;have hn:eK j.la j.ck (cs.take (i+1))=pO j.la (eK j.la j.ck (cs.take i)) (cs.getD i []):=by rw[KE hlt,adL]
    have m4:=m4 _ (ud hlt);have az:=ma (eK j.la j.ck (cs.take i));unfold pO ze at hn;have e2:JK j cs i=⟨bz [(2,.w (.c (.ptr 1 1 0 0))),(4,.w (.c (.ptr 3 1 0 0))),(7,.w (.c (.d (.sl (cs.map fun l=>D.sl (l.map bD)))))),(8,.w (.c (.d (.int .i64 (cs.length:Int))))),(9,.w (.c (.d (.int .i64 (i:Int)))))],hL [(1,ib j (.own 2 1 0 (eK j.la j.ck (cs.take i)).length)),(2,.row 1 ((eK j.la j.ck (cs.take i)).map fun l=>D.sl (l.map bD))),(3,ia)],uL [1,2,3]⟩:=rfl;rw[e2];clear e2;generalize eK j.la j.ck (cs.take i)=L at *
    generalize cs.getD i []=x at *
    by_cases h8:L.length=8
    ·have g8:((L.length:Int)=8)=True:=eq_true (by omega);rw[stop h8];simp only[uP,ib,ia,kS,af,aa,seval,iteOmega,toNatUp,ba,g,g8];refine rP [(3,2)] [] (ws:=[.mix (lB j 2 L.length)]) ?_ rfl ?_ rfl trivial ⟨by simp,fun id h h1=>by simp at h h1; omega⟩
     ·simp only[bB,lB,af,seval] <;> rfl
     ·simp only[kD,wx,seval,de]
    ·have g8:((L.length:Int)=8)=False:=eq_false (by omega);have h8':L.length<8:=by omega
     have c3:=JH G L x (by omega);have c4:=rD G j.la x;have c5:=dV G [x] (by simp) (by simp; omega);simp only[aos,aoA,apd,apf,aoF] at c5;clear stop;cases q1:lZ L x
     ·rw[q1] at c3;cases q2:j.la==x
      ·rw[q2] at c4;rw[if_pos (by rw[q1,q2,decide_eq_true h8']; rfl)] at hn;simp only[uP,ib,ia,af,seval,iteOmega,toNatUp,ba,g,g8];refine bK c3 (by simp only[af,seval,iteOmega]) (.inr rfl) ?_;simp only[af,seval];refine sC (c4) ?_;simp only[af,seval];refine sC (c5) ?_;simp only[cG,af,aa,seval,iteOmega];refine bA (i+1) (by omega) (by omega) (aV (fun i=>if i=1 then 1 else if i=2 then 280 else 3) ?_ ?_ rfl rfl) <;> simp only[hn,aoH,ib,ia,wx,aH,aY,seval] <;> first | rfl | exact⟨rfl,rfl⟩ | skip
      ·rw[q2] at c4;rw[if_neg (by rw[q1,q2]; simp)] at hn;simp only[uP,ib,ia,af,seval,iteOmega,toNatUp,ba,g,g8];refine bK c3 (by simp only[af,seval,iteOmega]) (.inr rfl) ?_;simp only[af,seval];refine sD (c4) ?_;refine bA (i+1) (by omega) (by omega) (aV (fun i=>i) ?_ ?_ rfl rfl) <;> simp only[hn,ib,ia,wx,aH,aY,seval] <;> first | rfl | exact⟨rfl,rfl⟩ | skip
     ·rw[q1] at c3;rw[if_neg (by rw[q1]; simp)] at hn;simp only[uP,ib,ia,af,seval,iteOmega,toNatUp,ba,g,g8];refine bK c3 (by simp only[af,seval,iteOmega]) (.inr rfl) ?_;simp only[af,seval,iteOmega];refine bA (i+1) (by omega) (by omega) (aV (fun i=>i) ?_ ?_ rfl rfl) <;> simp only[hn,ib,ia,wx,aH,aY,seval] <;> first | rfl | exact⟨rfl,rfl⟩ | skip
   ·obtain rfl:i=cs.length:=by omega
    have hk:cs.take cs.length=cs:=ao7;have az:=ma (eK j.la j.ck cs);simp only[uP,JK,ib,ia,kS,hk,af,aa,seval,iteOmega];refine rP [(3,2)] [] (ws:=[.mix (lB j 2 (eK j.la j.ck cs).length)]) ?_ rfl ?_ rfl trivial ⟨by simp,fun id h h1=>by simp at h h1; omega⟩
    ·simp only[bB,lB,af,seval] <;> rfl
    ·simp only[kD,wx,seval,de]
def yr:aK:=⟨1,39,ae [cW 1 0,oO 2 (.alloc [.nil,.nil,.nil,.nil,ah,ah]),aM 3,ak 4 0] (.seq (ae [bn 6 6 1,aW 7 47 6,dd 8 7] (aw 8 (ae [oO 9 (.build [.nil,.nil,.nil,.nil,ah,ah] []),aS 6 2 9,aM 3,ak 4 3] .ret) .skip)) (.seq (ae [aO 10 2 1,aA 11 10,bc 12 11,am .eql 13 12 0] (aw 13 (ae [oO 14 (.build [.nil,.nil,.nil,.nil,ah,ah] []),aS 6 2 14,aM 3,ak 4 10] .ret) .skip)) (.seq (ae [aO 15 5 1,aA 16 15,am .eql 17 16 1099511627776] (aw 17 (ae [oO 18 (.build [.nil,.nil,.nil,.nil,ah,ah] []),aS 6 2 18,aM 3,ak 4 7] .ret) .skip)) (ae [bn 19 6 1,aW 20 41 19,oO 5 (.alloc [.nil,.nil,.nil,.nil,ah,ah]),aS 6 5 20] (ae [aO 21 2 5,aA 22 21,oO 23 (.idxSl 1 (.t 22) (kI 0)),aA 24 23,aO 25 2 5,aA 26 25,oO 27 (.slice 1 (.t 26) (some (kI 1)) none none),aO 28 3 5,
 ei 28 24,aO 29 2 5,ei 29 27] (ae [aO 30 5 5,aA 31 30,am .add 32 31 1,aO 33 5 5,ei 33 32] (ae [bn 34 6 5,aO 35 3 5,aA 36 35,oO 37 (.bldSl false 1 1 (.sl []) [(0,(.t 36))]),oO 38 (.call 44 [(.t 37)] (some (0,1))),aS 6 2 34,oM 3 38,ak 4 0] .ret))))))),[(2,(some (.ag 6))),(3,none),(4,none)]⟩
theorem akw:aI Tryz.prog { own:=[38] } Tryz.f48=some yr:=by kernel_rfl
theorem am4 (G:au) (j:Jr):aF Tryz.prog G 48 [eG j] (.tup [.c (.d (eG (En j))),.c (.d (.sl ((Eo j).map bD))),.c (.d (.int .i64 (i7 j)))]):=by
  refine aT Tryz.func48 akw rfl rfl ?_;have c1:=Dk G j;by_cases v:fF j
  ·rw[decide_eq_true v] at c1;obtain⟨v1,v2,v3,v4,v5⟩:=Ct v;by_cases h1:j.ck.length=0
   ·have e:i7 j=10:=by unfold i7; rw[if_neg (not_not_intro v),if_pos h1]
    obtain⟨q1,q2⟩:=JF e (by decide);have g1:((j.ck.length:Int)=0)=True:=eq_true (by omega);rw[q1,q2,e];unfold eG jo at *
    simp only[yr,ai,af,seval];refine sC (c1) ?_;simp only[g1,af,aa,seval];exact fg
   ·have g1:((j.ck.length:Int)=0)=False:=eq_false (by omega);by_cases h2:j.sn=1099511627776
    ·have e:i7 j=7:=by unfold i7; rw[if_neg (not_not_intro v),if_neg h1,if_pos h2]
     obtain⟨q1,q2⟩:=JF e (by decide);have g2:(j.sn=1099511627776)=True:=eq_true h2;rw[q1,q2,e];unfold eG jo at *
     simp only[yr,ai,af,seval];refine sC (c1) ?_;simp only[g1,g2,af,aa,seval];exact fg
    ·have e:i7 j=0:=by unfold i7; rw[if_neg (not_not_intro v),if_neg h1,if_neg h2]
     have g2:(j.sn=1099511627776)=False:=eq_false h2;rw[show En j=j7 j from if_pos e,show Eo j=j.ck.getD 0 [] from if_pos e,e];have c2:=am1 G j (by omega) (by omega) (by omega) (fun c hc=>by have:=v5 c hc; omega) (by omega);have f0:=xa (l:=j.ck) (i:=0) (by omega);have m0:=v5 _ (ud (l:=j.ck) (i:=0) (by omega));have s8:0≤j.sn∧j.sn≤1099511627776:=v.1.2.2.2.2.2.2;have az:=ma j.ck;have d1:(j.ck.drop 1).take (j.ck.length-1)=j.ck.drop 1:=aot (by rw[aoB]; omega);unfold j7 eG at *
     dsimp only at *
     generalize j.ck.getD 0 []=x at *
     have c3:=dV G [x] (by simp) (by simp; omega);simp only[aos,aoA,apd,apf,aoF] at c3;simp only[yr,ai,af,seval];refine sC (c1) ?_;simp only[g1,g2,af,seval];refine sC (c2) ?_;simp only[ba,f0,az,af,aa,seval,iteOmega,toNatUp];refine sC (c3) ?_;simp only[d1,af,aa,seval];exact fg
  ·rw[decide_eq_false v] at c1;have e:i7 j=3:=if_pos v;obtain⟨q1,q2⟩:=JF e (by decide);rw[q1,q2,e];unfold eG jo at *
   simp only[yr,ai,af,seval];refine sD (c1) ?_;exact fg
def Ix:aK:=⟨1,11,ae [cW 1 0,ak 2 0,ak 3 0] (.seq (ae [bn 4 6 1,aW 5 47 4,dd 6 5] (aw 6 (ae [ak 2 0,ak 3 3] .ret) .skip)) (ae [aO 7 2 1,aA 8 7,bc 9 8,oO 10 (.bin .sub (kI 8) (.t 9)),oM 2 10,ak 3 0] .ret)),[(2,none),(3,none)]⟩
theorem akx:aI Tryz.prog {} Tryz.f49=some Ix:=by kernel_rfl
theorem am5 (G:au) (j:Jr):aF Tryz.prog G 49 [eG j] (.tup [.c (.d (.int .i64 (Eq j))),.c (.d (.int .i64 (Ep j)))]):=by
  refine aT Tryz.func49 akx rfl rfl ?_;have c1:=Dk G j;by_cases v:fF j
  ·rw[decide_eq_true v] at c1;obtain⟨v1,v2,v3,v4,v5⟩:=Ct v;rw[show Eq j=8-(j.ck.length:Int) from if_pos v,show Ep j=0 from if_pos v];unfold eG at *
   simp only[Ix,ai,af,seval];refine sD (c1) ?_;exact bu
  ·rw[decide_eq_false v] at c1;rw[show Eq j=0 from if_neg v,show Ep j=3 from if_neg v];unfold eG at *
   simp only[Ix,ai,af,seval];refine sD (c1) ?_;exact bu
theorem aky {u c:List UInt8} {k:Nat} (hu:u.length=32) (hc:c.length=104):∀ f∈cb u c k,f.da.length≤104:=fun f hf=>by
  rcases Bq hf with rfl | rfl | rfl
  ·show u.length≤104; omega
  ·show c.length≤104; omega
  ·exact Nat.le_of_eq yp
def JL (t:Nat) (n:List UInt8) (T:Jr) (u c:List UInt8) (K k:Nat):St:=⟨bz [(1,.w (.c (.d (.int .u64 (t:Int))))),(3,.w (.c (.d (.sl (n.map bD))))),(8,.w (.c (.ptr 3 1 0 0))),(11,.w (.c (.ptr 1 1 0 0))),(14,.w (.c (.own 2 2 0 (cb u c k).length))),(54,.w (.c (.d (.int .i64 (K:Int))))),(55,.w (.c (.d (.int .i64 (k:Int)))))],hL [(1,ib T (.d (.sl (T.ck.map fun l=>D.sl (l.map bD))))),(2,.row 2 ((cb u c k).map bg)),(3,ia)],uL [1,2,3]⟩
def Gp:bq := ae [aU .lss 56 55 54] (.seq (aw 56 .skip (.exit 0)) (.seq (.block 1 (.reg [oM 57 14,oO 58 (.make true 1 1 aj (kI 104) (kI 104)),oO 59 (.build [ah,.nil] [(0,1,(kI 772)),(1,1,(.t 58))]),oO 60 (.bldFz 1 2 (.agg [ej,(.sl [])]) [(0,(.t 59))]),oO 61 (.app false 2 32 (.t 57) (.t 60)),oM 14 61])) (.reg [am .add 62 55 1,oM 55 62])))
def vA:aK:=⟨4,77,ae [cW 4 0,oO 8 (.alloc [.nil,.nil,.nil,.nil,ah,ah]),aM 9,ak 10 0] (.seq (ae [bn 19 6 4,aW 20 47 19,dd 21 20,oM 22 21,bE 23 2 22 false,fB 24 23 22 false,cu .neq 25 24 32 22 false,cC 26 22 25,oM 27 26,bE 28 3 27 false,fB 29 28 27 false,cu .neq 30 29 16 27 false,cC 31 27 30] (aw 31 (ae [oO 32 (.build [.nil,.nil,.nil,.nil,ah,ah] []),aS 6 8 32,aM 9,ak 10 3] .ret) .skip)) (ae [bn 34 6 4,aW 35 48 34,oM 33 35,aB 36 33 0,aB 37 33 1,aB 38 33 2,oO 11 (.alloc [.nil,.nil,.nil,.nil,ah,ah]),aS 6 11 36,oM 12 37,oM 13 38] (.seq (ae [oM 39 13,am .neq 40 39 0] (aw 40 (ae [oO 41 (.build [.nil,.nil,.nil,.nil,ah,ah] []),oM 42 13,aS 6 8 41,aM 9,oM 10 42] .ret) .skip)) (ae [oM 43 2,oO 44 (.build [ah,.nil] [(0,1,(kI 260)),(1,1,(.t 43))]),oM 45 12,oO 46 (.build [ah,.nil] [(0,1,(kI 516)),(1,1,(.t 45))]),
 oO 47 (.bldSl true 2 2 (.agg [ej,(.sl [])]) [(0,(.t 44)),(1,(.t 46))]),oM 14 47] (ae [bn 49 6 11,aW 50 49 49,oM 48 50,aB 51 48 0,aB 52 48 1,oM 15 51,oM 16 52] (.seq (ae [oM 53 15,am .sub 54 53 1,ak 55 0] (.block 0 (.loop Gp))) (ae [aO 64 0 11,aO 65 0 64,aA 66 65,oM 67 1,aW 68 51 67,oM 69 14,oO 70 (.build [ah,ah,ah,ah,ah,ah,be,be,be,aQ,aQ,aQ,aQ,.nil,.nil,cv] [(0,13,(.t 68)),(13,1,(.t 69))]),oM 71 3,fZ 72 50 66 70 71,oM 63 72,aB 73 63 0,aB 74 63 1,oM 17 73,oM 18 74] (ae [bn 75 6 11,oM 76 17,aS 6 8 75,oM 9 76,ak 10 0] .ret)))))))),[(8,(some (.ag 6))),(9,none),(10,none)]⟩
theorem akz:aI Tryz.prog { own:=[47],frz:=[60] } Tryz.f14=some vA:=by kernel_rfl
set_option maxHeartbeats 6400000 in
theorem Yw (G:au) (j:Jr) (t:Nat) (u n:List UInt8) (ht:t<18446744073709551616):aF Tryz.prog G 14 [eG j,.int .u64 (t:Int),.sl (u.map bD),.sl (n.map bD)] (.tup [.c (.d (eG (Er j u n))),.c (.d (.sl ((Es j t u n).map bD))),.c (.d (.int .i64 (lz j u n)))]):=by
  refine aT Tryz.func14 akz rfl rfl ?_;have c1:=Dk G j;by_cases v:fF j
  ·rw[decide_eq_true v] at c1;by_cases h1:u.length=32
   ·have g1:((u.length:Int)=32)=True:=eq_true (by omega);by_cases h2:n.length=16
    ·have g2:((n.length:Int)=16)=True:=eq_true (by omega);have eE:lz j u n=i7 j:=by unfold lz; rw[if_neg (fun h=>h.elim (· v) (fun h=>h.elim (· h1) (· h2)))]
     have c2:=am4 G j;by_cases h3:i7 j=0
     ·obtain⟨v1,v2,v3,v4,v5⟩:=Ct v;have hk:j.ck.length≠0:=fun h=>by
        unfold i7 at h3;rw[if_neg (not_not_intro v),if_pos h] at h3;cases h3
      have hs:j.sn≠1099511627776:=fun h=>by
        unfold i7 at h3;rw[if_neg (not_not_intro v),if_neg hk,if_pos h] at h3;cases h3
      have m0:=v5 _ (ud (l:=j.ck) (i:=0) (by omega));rw[h3] at eE;rw[show Er j u n=j7 j from if_pos eE,show Es j t u n=d7 j.up (mK j t u) n from if_pos eE,eE];rw[show En j=j7 j from if_pos h3,show Eo j=j.ck.getD 0 [] from if_pos h3,h3] at c2;have cw:=am5 G (j7 j);have tv:fF (j7 j):=(Yp v hk hs).2;have hT:(8-((j7 j).ck.length:Int))-1=((8-j.ck.length:Nat):Int):=by
        show (8-((j.ck.drop 1).length:Int))-1=_
        rw[aoB]; omega
      have hT8:(j7 j).ck.length≤8:=by
        show (j.ck.drop 1).length≤8
        rw[aoB]; omega
      rw[show Eq (j7 j)=8-((j7 j).ck.length:Int) from if_pos tv,show Ep (j7 j)=0 from if_pos tv] at cw;have c3:=ajU G t;obtain⟨ok,_⟩:=JD (key:=j.up) (u:=u) (c:=j.ck.getD 0 []) (n:=n) (t:=t) (k:=8-j.ck.length) v1 h1 m0 h2 (by omega);have c4:=Wu G j.up (mK j t u) n (by omega) (JC ht) (by unfold mK; rw[vf]; omega) (fun f hf=>by
        have:=aky (u:=u) (c:=j.ck.getD 0 []) h1 m0 f hf;omega) (aoy _) (fun f hf=>by cases hf) (by omega)
      rw[show gS j.up (mK j t u) n=0 from (yo ok).1] at c4;have fl:=XV 1 (d7 j.up (mK j t u) n) .i64 0;have hq:(mK j t u).pl=cb u (j.ck.getD 0 []) (8-j.ck.length):=rfl;unfold dK at c4;rw[hq,show (mK j t u).hd=fp t from rfl,show (mK j t u).se=[] from rfl,show (mK j t u).gu=false from rfl] at c4;have tup:(j7 j).up=j.up:=rfl;rw[← tup] at c4 fl ⊢;clear ok eE h3 tv hs v tup;generalize d7 (j7 j).up (mK j t u) n=B at *
      generalize j.ck.getD 0 []=c at *
      generalize j7 j=T at *
      generalize hK:8-j.ck.length=K at *
      have gK:(8-(T.ck.length:Int))-1=(K:Int):=hT;unfold eG at *
      simp only[vA,ai,af,seval];refine sC (c1) ?_;simp only[g1,g2,af,seval];refine sD (c2) ?_;refine sC (cw) ?_;simp only[gK,af,seval,iteOmega];refine bQ (JL t n T u c K) (fun k=>K-k) (fun k=>k≤K) 0 (aoy _) ?_ ?_
      ·refine aV (fun i=>if i=1 then 88 else if i=2 then 376 else 64) ?_ ?_ rfl rfl <;> simp only[cb,bg,ib,ia,wx,aH,seval] <;> first | rfl | exact⟨rfl,rfl⟩ | skip
      ·intro k hk2;clear c1 c2 cw;have ql:=vf u c k;have az:=mO (cb u c k);by_cases hlt:k<K
       ·have gk:((k:Int)<(K:Int))=True:=eq_true (by omega);have hs:=JB u c k;have hp:bg pP=.agg [.int .i64 772,.sl (List.replicate 104 (.int .u8 0))]:=by
          unfold bg pP;rw[List.map_replicate]; rfl
        have e0:JL t n T u c K k=⟨bz [(1,.w (.c (.d (.int .u64 (t:Int))))),(3,.w (.c (.d (.sl (n.map bD))))),(8,.w (.c (.ptr 3 1 0 0))),(11,.w (.c (.ptr 1 1 0 0))),(14,.w (.c (.own 2 2 0 (cb u c k).length))),(54,.w (.c (.d (.int .i64 (K:Int))))),(55,.w (.c (.d (.int .i64 (k:Int)))))],hL [(1,ib T (.d (.sl (T.ck.map fun l=>D.sl (l.map bD))))),(2,.row 2 ((cb u c k).map bg)),(3,ia)],uL [1,2,3]⟩:=rfl;rw[e0];clear e0;generalize cb u c k=L at *
        simp only[Gp,ib,ia,af,seval,iteOmega,toNatUp,gk,cG];refine bA (k+1) (by omega) (by omega) (aV (fun i=>if i=1 then 1 else if i=2 then 488 else 3) ?_ ?_ rfl rfl) <;> simp only[hs,hp,List.replicate,aoH,aos,aoA,ib,ia,wx,aH,aY,seval] <;> first | rfl | exact⟨rfl,rfl⟩ | skip
       ·obtain rfl:k=K:=by omega
        have gk:((k:Int)<(k:Int))=False:=eq_false (by omega);have e0:JL t n T u c k k=⟨bz [(1,.w (.c (.d (.int .u64 (t:Int))))),(3,.w (.c (.d (.sl (n.map bD))))),(8,.w (.c (.ptr 3 1 0 0))),(11,.w (.c (.ptr 1 1 0 0))),(14,.w (.c (.own 2 2 0 (cb u c k).length))),(54,.w (.c (.d (.int .i64 (k:Int))))),(55,.w (.c (.d (.int .i64 (k:Int)))))],hL [(1,ib T (.d (.sl (T.ck.map fun l=>D.sl (l.map bD))))),(2,.row 2 ((cb u c k).map bg)),(3,ia)],uL [1,2,3]⟩:=rfl;rw[e0];clear e0;generalize cb u c k=L at *
        unfold fD at c3;simp only[Gp,ib,ia,af,seval,gk];refine sD (c3) ?_;refine bK c4 (by simp only[af,seval,iteOmega] <;> rfl) (.inr fl) ?_;simp only[af,aa,seval];exact fg
     ·have g3:(i7 j=0)=False:=eq_false h3;obtain⟨q1,q2⟩:=Dh eE h3;rw[q1,q2,eE];unfold eG jo at *
      generalize i7 j=e at *
      simp only[vA,ai,af,seval];refine sC (c1) ?_;simp only[g1,g2,af,seval];refine sC (c2) ?_;simp only[g3,af,aa,seval];exact fg
    ·have g2:((n.length:Int)=16)=False:=eq_false (by omega);have e:lz j u n=3:=by unfold lz; rw[if_pos (.inr (.inr h2))]
     obtain⟨q1,q2⟩:=Dh e (by decide);rw[q1,q2,e];unfold eG jo at *
     simp only[vA,ai,af,seval];refine sC (c1) ?_;simp only[g1,g2,af,aa,seval];exact fg
   ·have g1:((u.length:Int)=32)=False:=eq_false (by omega);have e:lz j u n=3:=by unfold lz; rw[if_pos (.inr (.inl h1))]
    obtain⟨q1,q2⟩:=Dh e (by decide);rw[q1,q2,e];unfold eG jo at *
    simp only[vA,ai,af,seval];refine sC (c1) ?_;simp only[g1,af,aa,seval];exact fg
  ·rw[decide_eq_false v] at c1;have e:lz j u n=3:=by unfold lz; rw[if_pos (.inl v)]
   obtain⟨q1,q2⟩:=Dh e (by decide);rw[q1,q2,e];unfold eG jo at *
   simp only[vA,ai,af,seval];refine sD (c1) ?_;exact fg
def Iy:aK:=⟨2,22,ae [bH 4 false] (ae [oM 6 0,oO 7 (.call 53 [(.t 6),(kI 260)] none),oM 5 7] (ae [oM 8 5,bc 9 8,am .eql 10 9 1,oM 11 10,bE 12 0 11 true,bE 13 5 11 true,oG 14 (.idxSl 1 (.t 13) (kI 0)) 11 true,dz 15 14 11 true,oG 16 (.idxSl 2 (.t 12) (.t 15)) 11 true,dN 17 1 16 11 true,dz 18 17 11 true,bE 19 1 11 true,oG 20 (.call 94 [(.t 18),(.t 19)] none) 11 true,dh 21 11 20,oM 4 21] .ret)),[(4,none)]⟩
theorem akA:aI Tryz.prog {} Tryz.f57=some Iy:=by kernel_rfl
theorem am6 (G:au) (p:dr) (u b:List UInt8) (hl:p.pl.length≤1000000):aF Tryz.prog G 57 [.sl (p.pl.map bg),.sl (u.map bD)] (.w (.c (.d (.bool (qX u b p))))):=by
  refine aT Tryz.func57 akA rfl rfl ?_;have c3:=rG G p.pl 260 hl;by_cases h4:(bM p.pl 260).length=1
  ·have g4:(((bM p.pl 260).length:Int)=1)=True:=eq_true (by omega);obtain⟨m,m1,m2,m3⟩:=aki (l:=p.pl) (k:=260) (i:=0) (by omega);have f0:=lU m3;rw[amX h4 m1];have c4:=rD G (p.pl.getD m default).da u;have az:=mO p.pl;generalize p.pl.getD m default=x at *
   generalize bM p.pl 260=A at *
   simp only[Iy,ai,af,seval];refine sC (c3) ?_;simp only[g4,ba,m1,zD,f0,bg,af,seval,iteOmega,toNatUp];refine sD (c4) ?_;exact aZ
  ·have g4:(((bM p.pl 260).length:Int)=1)=False:=eq_false (by omega);rw[akk h4];generalize bM p.pl 260=A at *
   simp only[Iy,ai,af,seval];refine sC (c3) ?_;simp only[g4,af,seval];exact aZ
theorem am7 {l:List Fd} {i:Nat} (h:i<l.length):dv (l.take (i+1))=if (l.getD i default).ty=516 then dv (l.take i)++[(l.getD i default).da] else dv (l.take i):=by
  have e:l.take (i+1)=l.take i++[l.getD i default]:=by
    rw[apR,aor,aon h]; rfl
  unfold dv;rw[e,List.filter_append,aoH];by_cases hk:(l.getD i default).ty=516
  ·rw[if_pos hk,aqs (by rw[hk]; rfl)]; rfl
  ·rw[if_neg hk,List.filter_cons_of_neg (by simpa using hk),List.filter_nil,aoA,aoF]
theorem am8 {l:List Fd} {i:Nat} (h:i<l.length) (hk:(l.getD i default).ty=516):(l.getD i default).da∈dv l:=by
  unfold dv;refine aoN.2 ⟨_,apV.2 ⟨?_,by rw[hk]; rfl⟩,rfl⟩;rw[aor,aon h];exact aoS h
theorem akB (l:List Fd):(dv l).length≤l.length:=by
  unfold dv;rw[aox];exact List.length_filter_le _ _
def jQ (l:List Fd) (i:Nat):List (Nat×V):=[(3,.w (.c (.d (.int .i64 0)))),(6,.w (.c (.d (.sl (l.map bg))))),(7,.w (.c (.d (.int .i64 (l.length:Int))))),(8,.w (.c (.d (.int .i64 (i:Int)))))]
def sr (l:List Fd) (i:Nat):List (List UInt8)→St
  | []=>⟨bz ((2,.w (.c .nil))::jQ l i),hL [],uL []⟩
  | x::r=>⟨bz ((2,.w (.c (.own 1 1 0 (x::r).length)))::jQ l i),hL [(1,.row 1 ((x::r).map fun l=>D.sl (l.map bD)))],uL [1]⟩
def JM (l:List Fd) (i:Nat):St:=sr l i (dv (l.take i))
theorem yt (l:List Fd) (i:Nat):sr l i []=⟨bz ((2,.w (.c .nil))::jQ l i),hL [],uL []⟩:=rfl
theorem tw (l:List Fd) (i:Nat) (x:List UInt8) (r:List (List UInt8)):sr l i (x::r)=⟨bz ((2,.w (.c (.own 1 1 0 (x::r).length)))::jQ l i),hL [(1,.row 1 ((x::r).map fun l=>D.sl (l.map bD)))],uL [1]⟩:=rfl
def zg (l:List Fd):Int:=if gM (dv l)=true then 0 else 3
def zh (l:List Fd):List (List UInt8):=if gM (dv l)=true then dv l else []
def pV:bq := ae [aU .lss 9 8 7] (.seq (aw 9 .skip (.exit 0)) (.seq (.block 1 (ae [bW 10 2 6 8,bn 11 2 10,oO 5 (.alloc [ah,.nil]),aS 2 5 11] (.seq (.block 2 (ae [aO 13 0 5,aA 14 13,am .neq 15 14 516,oM 12 15] (aw 12 (.exit 1) (ae [aO 17 1 5,aA 18 17,aW 19 92 18,dd 20 19,oM 16 20] (aw 16 (ae [aM 2,ak 3 3] (.exit 0)) .skip))))) (.reg [oM 21 2,aO 22 1 5,aA 23 22,oO 24 (.bldSl false 1 1 (.sl []) [(0,(.t 23))]),oO 25 (.app false 1 24 (.t 21) (.t 24)),oM 2 25])))) (.reg [am .add 26 8 1,oM 8 26])))
def WC:aK:=⟨1,29,ae [aM 2,ak 3 0] (.seq .skip (.seq (ae [oM 6 0,bc 7 6,ak 8 0] (.block 0 (.loop pV))) (ae [oM 27 2,oM 28 3,oM 2 27,oM 3 28] .ret))),[(2,none),(3,none)]⟩
theorem akC:aI Tryz.prog {} Tryz.f58=some WC:=by kernel_rfl
theorem am9 (G:au) (l:List Fd) (hl:l.length≤1000000):aF Tryz.prog G 58 [.sl (l.map bg)] (.tup [.c (.d (.sl ((zh l).map fun x=>D.sl (x.map bD)))),.c (.d (.int .i64 (zg l)))]):=by
  refine aT Tryz.func58 akC rfl rfl ?_;simp only[WC,ai,af,seval];refine bQ (JM l) (fun i=>l.length-i) (fun i=>i≤l.length∧gM (dv (l.take i))=true) 0 ⟨aoy _,rfl⟩ ?_ ?_
  ·refine aV (fun _=>0) ?_ ?_ rfl rfl <;> simp only[jQ,wx,aH,seval] <;> first | rfl | exact⟨rfl,rfl⟩ | skip
  ·rintro i ⟨hi,hp⟩;by_cases hlt:i<l.length
   ·have g:=lU hlt;have hn:=am7 hlt;have hm:=fun h=>am8 hlt h
    have az:=mO l;have al:=fun (h:gM (dv l)=true)=>oE.1 h
    have e0:JM l i=sr l i (dv (l.take i)):=rfl;rw[e0];have lL:=akB (l.take i);rw[aow] at lL;clear e0;generalize l.getD i default=y at *
    have c1:=JG G y.da;by_cases h1:y.ty=516
    ·have g1:(y.ty=516)=True:=eq_true h1;rw[if_pos h1] at hn;by_cases h2:y.da.length=104
     ·rw[beq_iff_eq.2 h2] at c1;have hp':gM (dv (l.take (i+1)))=true:=by
        rw[hn];refine oE.2 fun c hc=>?_
        rcases aoG.1 hc with hc | hc
        ·exact oE.1 hp c hc
        ·rw[aou.1 hc]; exact h2
      clear hm al h2;have tl:=congrArg List.length hn;rw[aoq,ao6] at tl;have hx:=hn;have azl:=ma (dv (l.take i));generalize dv (l.take i)=L at *
      rcases L with _ | ⟨x,r⟩
      ·rw[yt];simp only[pV,jQ,af,aa,seval,iteOmega,toNatUp,ba,g,bg,g1];refine sC (c1) ?_;simp only[cG,af,seval,iteOmega];refine bA (i+1) (by omega) ⟨by omega,hp'⟩ ?_
       show ft _ (sr l (i+1) (dv (l.take (i+1))))
       rw[hn,apa,tw];refine aV (fun _=>200) ?_ ?_ rfl rfl <;> simp only[jQ,wx,aH,aY,seval] <;> first | rfl | exact⟨rfl,rfl⟩ | skip
      ·rw[tw];rw[apj] at lL;simp only[pV,jQ,af,aa,seval,iteOmega,toNatUp,ba,g,bg,g1];refine sC (c1) ?_;simp only[cG,af,seval,iteOmega];refine bA (i+1) (by omega) ⟨by omega,hp'⟩ ?_
       show ft _ (sr l (i+1) (dv (l.take (i+1))))
       rw[hn,ape,tw];refine aV (fun _=>200) ?_ ?_ rfl rfl <;> simp only[jQ,apj,aoq,aos,aoH,wx,aH,aY,seval] <;> first | rfl | exact⟨rfl,rfl⟩ | skip
     ·rw[beq_eq_false_iff_ne.2 h2] at c1;have hno:¬ gM (dv l)=true:=fun h=>h2 (al h _ (hm h1))
      rw[show zh l=[] from if_neg hno,show zg l=3 from if_neg hno];clear hm al h2 hno hn hp;generalize dv (l.take i)=L at *
      rcases L with _ | ⟨x,r⟩
      ·rw[yt];simp only[pV,jQ,af,aa,seval,iteOmega,toNatUp,ba,g,bg,g1];refine sD (c1) ?_;exact bu
      ·rw[tw];simp only[pV,jQ,af,aa,seval,iteOmega,toNatUp,ba,g,bg,g1];refine sD (c1) ?_;exact bu
    ·have g1:(y.ty=516)=False:=eq_false h1;rw[if_neg h1] at hn;have hp':gM (dv (l.take (i+1)))=true:=by rw[hn]; exact hp
     clear hm al;generalize dv (l.take i)=L at *
     rcases L with _ | ⟨x,r⟩
     ·rw[yt];simp only[pV,jQ,af,aa,seval,iteOmega,toNatUp,ba,g,bg,g1];refine bA (i+1) (by omega) ⟨by omega,hp'⟩ ?_
      show ft _ (sr l (i+1) (dv (l.take (i+1))))
      rw[hn,yt];refine aV (fun i=>i) ?_ ?_ rfl rfl <;> simp only[jQ,wx,aH,aY,seval] <;> first | rfl | exact⟨rfl,rfl⟩ | skip
     ·rw[tw];simp only[pV,jQ,af,aa,seval,iteOmega,toNatUp,ba,g,bg,g1];refine bA (i+1) (by omega) ⟨by omega,hp'⟩ ?_
      show ft _ (sr l (i+1) (dv (l.take (i+1))))
      rw[hn,tw];refine aV (fun i=>i) ?_ ?_ rfl rfl <;> simp only[jQ,wx,aH,aY,seval] <;> first | rfl | exact⟨rfl,rfl⟩ | skip
   ·obtain rfl:i=l.length:=by omega
    rw[ao7] at hp;rw[show zh l=dv l from if_pos hp,show zg l=0 from if_pos hp];unfold JM;rw[ao7];have azl:=ma (dv l);generalize dv l=L at *
    rcases L with _ | ⟨x,r⟩
    ·rw[yt];simp only[pV,jQ,af,seval,iteOmega];exact bu
    ·rw[tw];simp only[pV,jQ,af,seval,iteOmega];exact bu
theorem agN {P:Program} {G:au} {Q:AX→St→Prop} {f:Nat→V} {h:aL} {u:Nat→Bool} {t id sz:Nat} {c:bq} {cs:List C} {ds:List D} (hx:f t=.w (.c (.ptr id sz 0 0))) (hi:h id=some (.box cs)) (hd:fK cs=some ds)
    (k:cD P G c Q ⟨upd f t (.w (.c (.rp ds))),upd h id none,u⟩):cD P G (.ghost t c) Q ⟨f,h,u⟩:=by
  show match rW ⟨f,h,u⟩ t with | some τ=>_ | none=>False
  unfold rW;simp only[hx,hi,hd,apu];exact k
def Yx (p:dr):List D:=[.int .i64 p.hd.lp,.int .i64 p.hd.vr,.int .i64 p.hd.md,.int .i64 p.hd.st,.int .i64 p.hd.pl,.int .i64 p.hd.pr,.int .u32 (p.hd.rd:Int),.int .u32 (p.hd.rp:Int),.int .u32 (p.hd.ri:Int),.int .u64 (p.hd.rf:Int),.int .u64 (p.hd.og:Int),.int .u64 (p.hd.rc:Int),.int .u64 (p.hd.tr:Int),.sl (p.pl.map bg),.sl (p.se.map bg),.bool p.gu]
def rJ:aK:=⟨3,64,ae [cW 3 0,oO 6 (.alloc [.nil,.nil,.nil,.nil,ah,ah]),oO 7 (.alloc [ah,ah,ah,ah,ah,ah,be,be,be,aQ,aQ,aQ,aQ,.nil,.nil,cv]),ak 8 0] (.seq (ae [bn 12 6 3,aW 13 47 12,dd 14 13,oM 15 14,bE 16 1 15 false,fB 17 16 15 false,cu .neq 18 17 32 15 false,cC 19 15 18] (aw 19 (ae [oO 20 (.build [.nil,.nil,.nil,.nil,ah,ah] []),oO 21 (.build [ah,ah,ah,ah,ah,ah,be,be,be,aQ,aQ,aQ,aQ,.nil,.nil,cv] []),aS 6 6 20,aS 16 7 21,ak 8 3] .ret) .skip)) (ae [aO 23 0 3,aO 24 1 23,aA 25 24,oM 26 2,cd 27 28 25 26,oM 22 27,aB 28 22 0,aB 29 22 1,oO 9 (.alloc [ah,ah,ah,ah,ah,ah,be,be,be,aQ,aQ,aQ,aQ,.nil,.nil,cv]),aS 16 9 28,oM 10 29] (.seq (ae [oM 30 10,am .neq 31 30 0] (aw 31 (ae [oO 32 (.build [.nil,.nil,.nil,.nil,ah,ah] []),oO 33 (.build [ah,ah,ah,ah,ah,ah,be,be,be,aQ,aQ,aQ,aQ,.nil,.nil,cv] []),
 oM 34 10,aS 6 6 32,aS 16 7 33,oM 8 34] .ret) .skip)) (.seq (ae [aO 35 0 9,aO 36 2 35,aA 37 36,am .neq 38 37 4] (aw 38 (ae [oO 39 (.build [.nil,.nil,.nil,.nil,ah,ah] []),oO 40 (.build [ah,ah,ah,ah,ah,ah,be,be,be,aQ,aQ,aQ,aQ,.nil,.nil,cv] []),aS 6 6 39,aS 16 7 40,ak 8 3] .ret) .skip)) (.seq (ae [aO 41 13 9,aA 42 41,oM 43 1,cd 44 57 42 43,dd 45 44] (aw 45 (ae [oO 46 (.build [.nil,.nil,.nil,.nil,ah,ah] []),oO 47 (.build [ah,ah,ah,ah,ah,ah,be,be,be,aQ,aQ,aQ,aQ,.nil,.nil,cv] []),aS 6 6 46,aS 16 7 47,ak 8 7] .ret) .skip)) (ae [aO 49 14 9,aA 50 49,aW 51 58 50,oM 48 51,aB 52 48 0,aB 53 48 1,oM 11 52,oM 10 53] (.seq (ae [oM 54 10,am .neq 55 54 0] (aw 55 (ae [oO 56 (.build [.nil,.nil,.nil,.nil,ah,ah] []),oO 57 (.build [ah,ah,ah,ah,ah,ah,be,be,be,aQ,aQ,aQ,aQ,.nil,.nil,cv] []),
 oM 58 10,aS 6 6 56,aS 16 7 57,oM 8 58] .ret) .skip)) (.seq (.ghost 9 (.reg [oO 59 (.loadX (.ag 6) (.t 3) []),oO 60 (.call 41 [(.t 59)] (some (2,1))),oM 61 11,oO 62 (.callM 40 [(.t 60),(.t 61)]),oO 63 (.loadX (.ag 16) (.t 9) []),aS 6 6 62,aS 16 7 63,ak 8 0])) .ret)))))))),[(6,(some (.ag 6))),(7,(some (.ag 16))),(8,none)]⟩
theorem akD:aI Tryz.prog { comp:=[(60,1002)],lx:=[(59,[]),(63,[])],mt:=[62],gh:=[(13,9)] } Tryz.f16=some rJ:=by kernel_rfl
theorem JN (G:au) (j:Jr) (u b:List UInt8) (hb:b.length≤9000000000000000000):aF Tryz.prog G 16 [eG j,.sl (u.map bD),.sl (b.map bD)] (.tup [.c (.d (eG (ue j u b))),.c (.d (dK (ug j u b))),.c (.d (.int .i64 (i9 j u b)))]):=by
  refine aT Tryz.func16 akD rfl rfl ?_;have c1:=Dk G j;by_cases v:fF j
  ·rw[decide_eq_true v] at c1;by_cases h1:u.length=32
   ·have g1:((u.length:Int)=32)=True:=eq_true (by omega);have e0:i9 j u b=if gT j.dn b≠0 then gT j.dn b else if (gU j.dn b).hd.md≠4 then 3 else if qX u b (gU j.dn b)=false then 7 else if gM (dv (gU j.dn b).se)=true then 0 else 3:=by unfold i9; rw[if_neg (fun h=>h.elim (· v) (· h1))]
    have no:=fun (e:Int) (h:i9 j u b=e) (he:e≠0)=>JE (u:=u) h he
    have yes:i9 j u b=0→ue j u b=xf j (dv (gU j.dn b).se)∧ug j u b=gU j.dn b:=fun h=>⟨if_pos h,if_pos h⟩
    obtain⟨v1,v2,v3,v4,v5⟩:=Ct v;have c2:=Wv G j.dn b (by omega) hb;obtain⟨p1,p2⟩:=amW (key:=j.dn) (b:=b);generalize gU j.dn b=p at *
    generalize gT j.dn b=q at *
    generalize i9 j u b=e at *
    generalize ue j u b=J at *
    generalize ug j u b=P at *
    by_cases h2:q=0
    ·have g2:(q=0)=True:=eq_true h2;rw[if_neg (not_not_intro h2)] at e0;by_cases h3:p.hd.md=4
     ·have g3:(p.hd.md=4)=True:=eq_true h3;rw[if_neg (not_not_intro h3)] at e0;have c3:=am6 G p u b (by omega);cases h5:qX u b p
      ·rw[h5] at c3 e0;rw[if_pos rfl] at e0;obtain⟨rfl,rfl⟩:=no _ e0 (by decide);subst e0;clear no yes;rw[v8];unfold eG jo at *
       try unfold dK at *
       simp only[rJ,ai,af,seval];refine sC (c1) ?_;simp only[g1,af,seval];refine sC (c2) ?_;simp only[g2,g3,af,aa,seval];refine sD (c3) ?_;exact fg
      ·rw[h5] at c3 e0;rw[if_neg (by decide)] at e0;have c4:=am9 G p.se (by omega);have hl:(dv p.se).length≤24:=by
         rw[← agE,agG (aoz _)];have:=akj p.se 516;omega
       by_cases hA:gM (dv p.se)=true
       ·rw[if_pos hA] at e0;obtain⟨yJ,yP⟩:=yes e0;rw[show zh p.se=dv p.se from if_pos hA,show zg p.se=0 from if_pos hA] at c4;have a4:=oE.1 hA;have c5:=JI G j (by omega) (by omega) (by omega) (fun c hc=>by have:=v5 c hc; omega) (by omega);have c6:=Yv G j (dv p.se) v3 (fun c hc=>by have:=a4 c hc; omega) (by omega);rw[yJ,yP,e0];clear no yes;unfold xf;generalize dv p.se=C at *
        have az:=ma (eK j.la j.ck C);unfold Et at c5;unfold eG at *
        unfold dK at *
        simp only[rJ,ai,af,seval];refine sC (c1) ?_;simp only[g1,af,seval];refine sC (c2) ?_;simp only[g2,g3,af,aa,seval];refine sD (c3) ?_;refine sD (c4) ?_;refine agN (id:=72) (sz:=1) (cs:=rQ p) (ds:=Yx p) rfl rfl rfl ?_;simp only[Yx,af,seval];refine sD (c5) ?_;refine pi [.mix (lB j 480 j.ck.length),.c (.d (.sl (nF C)))] [(1,480),(3,1000)] c6 ?_ ?_ ?_ rfl rfl ?_
        ·simp only[lB,nF,af,seval] <;> rfl
        ·simp only[lB,af,seval,de,Dl]
        ·simp only[kD,nF,wx,seval,de]
        ·simp only[lB,nF,af,aa,seval,de,Dl];exact fg
       ·rw[if_neg hA] at e0;obtain⟨rfl,rfl⟩:=no _ e0 (by decide);rw[show zh p.se=[] from if_neg hA,show zg p.se=3 from if_neg hA] at c4;rw[e0];clear no yes;rw[v8];unfold eG jo at *
        try unfold dK at *
        simp only[rJ,ai,af,seval];refine sC (c1) ?_;simp only[g1,af,seval];refine sC (c2) ?_;simp only[g2,g3,af,aa,seval];refine sD (c3) ?_;refine sD (c4) ?_;exact fg
     ·have g3:(p.hd.md=4)=False:=eq_false h3;rw[if_pos h3] at e0;obtain⟨rfl,rfl⟩:=no _ e0 (by decide);subst e0;clear no yes;rw[v8];unfold eG jo at *
      try unfold dK at *
      simp only[rJ,ai,af,seval];refine sC (c1) ?_;simp only[g1,af,seval];refine sC (c2) ?_;simp only[g2,g3,af,aa,seval];exact fg
    ·have g2:(q=0)=False:=eq_false h2;rw[if_pos h2] at e0;obtain⟨rfl,rfl⟩:=no _ e0 h2;subst e0;clear no yes;rw[v8];unfold eG jo at *
     try unfold dK at *
     simp only[rJ,ai,af,seval];refine sC (c1) ?_;simp only[g1,af,seval];refine sC (c2) ?_;simp only[g2,af,aa,seval];exact fg
   ·have g1:((u.length:Int)=32)=False:=eq_false (by omega);have e:i9 j u b=3:=by unfold i9; rw[if_pos (.inr h1)]
    obtain⟨q1,q2⟩:=JE e (by decide);rw[q1,q2,e];rw[v8];unfold eG jo at *
    try unfold dK at *
    simp only[rJ,ai,af,seval];refine sC (c1) ?_;simp only[g1,af,aa,seval];exact fg
  ·rw[decide_eq_false v] at c1;have e:i9 j u b=3:=by unfold i9; rw[if_pos (.inl v)]
   obtain⟨q1,q2⟩:=JE e (by decide);rw[q1,q2,e];rw[v8];unfold eG jo at *
   try unfold dK at *
   simp only[rJ,ai,af,seval];refine sD (c1) ?_;exact fg
theorem Nc {α:Type} (k:Int) (v:α):∀ es:List (Int×α),(dE es k v).map (·.1)=if k∈es.map (·.1) then es.map (·.1) else es.map (·.1)++[k]
  | []=>rfl
  | (y,u)::r=>by
    simp only[dE];by_cases e:y=k
    ·subst e;rw[if_pos rfl,if_pos (by simp)];rfl
    ·rw[if_neg e,aos,Nc k v r,aos];by_cases h:k∈r.map (·.1)
     ·rw[if_pos h,if_pos (aoQ _ h)]
     ·rw[if_neg h,if_neg (by
      intro q;rcases aoK.1 q with q | q
      ·exact e q.symm
      ·exact h q),ape]
theorem aal {α:Type} {es:List (Int×α)} (h:(es.map (·.1)).Nodup) (k:Int) (v:α):((dE es k v).map (·.1)).Nodup:=by
  rw[Nc];split
  ·exact h
  ·rename_i hk;refine apQ.2 ⟨h,by simp,fun a ha b hb e=>?_⟩;rw[aou] at hb;subst hb e;exact hk ha
theorem nL {α:Type} (y:Int) (u:α) (r:List (Int×α)) (k:Int):bJ ((y,u)::r) k=if y=k then some u else bJ r k:=by
  unfold bJ;by_cases e:y=k
  ·subst e; simp
  ·rw[if_neg e,apl (by simpa using e)]
theorem Hy {α:Type}:∀ {es:List (Int×α)} {k:Int} {v:α},(es.map (·.1)).Nodup→(k,v)∈es→bJ es k=some v
  | (y,u)::r,k,v,hn,h=>by
    rw[aos,ap2] at hn;rw[nL];rcases aoK.1 h with h | h
    ·cases h; rw[if_pos rfl]
    ·have:y≠k:=fun e=>hn.1 (e ▸ aoN.2 ⟨_,h,rfl⟩)
     rw[if_neg this];exact Hy hn.2 h
theorem WV {α:Type}:∀ {es:List (Int×α)} {k:Int} {v:α},bJ es k=some v→(k,v)∈es
  | [],_,_,h=>by cases h
  | (y,u)::r,k,v,h=>by
    rw[nL] at h;by_cases e:y=k
    ·rw[if_pos e] at h; cases h; subst e; exact aoW
    ·rw[if_neg e] at h; exact aoQ _ (WV h)
theorem Tn {α β:Type} (f:α→β):∀ (es:List (Int×α)) (k:Int),bJ (es.map fun p=>(p.1,f p.2)) k=(bJ es k).map f
  | [],_=>rfl
  | (y,u)::r,k=>by
    rw[aos,nL,nL,Tn f r k];split <;> rfl
def iN (l:List Ek):Nat→List (Int×List Ek)
  | 0=>[]
  | i+1=>dE (iN l i) (l.getD i default).ty ((bJ (iN l i) (l.getD i default).ty).getD []++[l.getD i default])
theorem FJ (l:List Ek):∀ i,((iN l i).map (·.1)).Nodup
  | 0=>List.nodup_nil
  | i+1=>aal (FJ l i) _ _
theorem adP (l:List Ek) (r:Ek) (k:Int):a9 (l++[r]) k=if r.ty=k then a9 l k++[r] else a9 l k:=by
  unfold a9;rw[List.filter_append];by_cases h:r.ty=k
  ·rw[if_pos h,aqs (by simpa using h)]; rfl
  ·rw[if_neg h,List.filter_cons_of_neg (by simpa using h)]; simp
theorem IE (l:List Ek):∀ (i:Nat),i≤l.length→∀ k,bJ (iN l i) k=if a9 (l.take i) k=[] then none else some (a9 (l.take i) k)
  | 0,_,k=>by rw[apJ]; rfl
  | i+1,hi,k=>by
    have ih:=IE l i (by omega);have hg:(bJ (iN l i) (l.getD i default).ty).getD []=a9 (l.take i) (l.getD i default).ty:=by
      rw[ih];split
      ·rename_i h; rw[h]; rfl
      ·rfl
    rw[iN,Tm,hg,zO (by omega),adP];by_cases h:k=(l.getD i default).ty
    ·subst h;rw[if_pos rfl,if_pos rfl,if_neg (by simp)]
    ·rw[if_neg h,if_neg (show ¬ (l.getD i default).ty=k from fun e=>h e.symm),ih]
def Ew (l:List Ek):List (Int×List Ek):=iN l l.length
theorem IF (l:List Ek) (k:Int):bJ (Ew l) k=if a9 l k=[] then none else some (a9 l k):=by
  have:=IE l l.length (aoz _) k;rw[ao7] at this;exact this
theorem agR {l:List Ek} {k:Int} {x:List Ek} (h:(k,x)∈Ew l):x=a9 l k∧x≠[]:=by
  have:=Hy (FJ l _) h;rw[show bJ (iN l l.length) k=_ from IF l k] at this;split at this
  ·cases this
  ·rename_i h2; cases this; exact⟨rfl,h2⟩
theorem agS {l:List Ek} {k:Int} (h:a9 l k≠[]):(k,a9 l k)∈Ew l:=WV (by rw[IF,if_neg h])
def eO (l:List Ek):List (Int×D):=(Ew l).map fun p=>(p.1,.sl (p.2.map bw))
def dT (l:List Ek):D:=.mp .i64 (eO l)
theorem IG (l:List Ek) (k:Int):(bJ (eO l) k).getD (.sl [])=.sl ((a9 l k).map bw):=by
  unfold eO;rw[Tn (fun x:List Ek=>D.sl (x.map bw)),IF];split
  ·rename_i h; rw[h]; rfl
  ·rfl
theorem To {l:List Ek} {p:Int×D} (h:p∈eO l):p=(p.1,.sl ((a9 l p.1).map bw))∧a9 l p.1≠[]:=by
  obtain⟨⟨k,x⟩,h1,rfl⟩:=aoN.1 h;obtain⟨rfl,h2⟩:=agR h1;exact⟨rfl,h2⟩
theorem agT {l:List Ek} {k:Int} (h:a9 l k≠[]):(k,D.sl ((a9 l k).map bw))∈eO l:=aoN.2 ⟨_,agS h,rfl⟩
theorem xX:dT []=.mp .i64 []:=rfl
def d8:List (Int×List Ek)→Nat→List (Int×C)
  | [],_=>[]
  | p::r,j=>(p.1,.own (8*j+3) 3 0 p.2.length)::d8 r (j+1)
theorem WW:∀ (es:List (Int×List Ek)) (b:Nat) (k:Int),bJ (d8 es b) k=none∧bJ es k=none∨∃ j x,bJ es k=some x∧es[j]?=some (k,x)∧bJ (d8 es b) k=some (.own (8*(b+j)+3) 3 0 x.length)∧∀ c,dE (d8 es b) k c=((d8 es b).set j (k,c))∧∀ y,dE es k y=es.set j (k,y)
  | [],_,_=>.inl ⟨rfl,rfl⟩
  | (y,u)::r,b,k=>by
    by_cases e:y=k
    ·subst e;refine .inr ⟨0,u,by rw[nL,if_pos rfl],rfl,by rw[d8,nL,if_pos rfl]; rfl,fun c=>⟨?_,fun z=>?_⟩⟩
     ·rw[d8,dE,if_pos rfl]; rfl
     ·rw[dE,if_pos rfl]; rfl
    ·rcases WW r (b+1) k with ⟨h1,h2⟩ | ⟨j,x,h1,h2,h3,h4⟩
     ·exact .inl ⟨by rw[d8,nL,if_neg e,h1],by rw[nL,if_neg e,h2]⟩
     ·refine .inr ⟨j+1,x,by rw[nL,if_neg e,h1],h2,?_,fun c=>⟨?_,fun z=>?_⟩⟩
      ·rw[d8,nL,if_neg e,h3,show b+1+j=b+(j+1) by omega]
      ·rw[d8,dE,if_neg e,(h4 c).1]; rfl
      ·rw[dE,if_neg e,(h4 c).2 z]; rfl
theorem Gt {α:Type}:∀ {es:List (Int×α)} {k:Int} (v:α),bJ es k=none→dE es k v=es++[(k,v)]
  | [],_,_,_=>rfl
  | (y,u)::r,k,v,h=>by
    rw[nL] at h;by_cases e:y=k
    ·rw[if_pos e] at h; cases h
    ·rw[if_neg e] at h;rw[dE,if_neg e,Gt v h,ape]
theorem Tp:∀ (es:List (Int×List Ek)) (b:Nat),(d8 es b).length=es.length
  | [],_=>rfl
  | _::r,b=>by rw[d8,apj,Tp r,apj]
theorem xY:∀ (es:List (Int×List Ek)) (b j:Nat),(d8 es b)[j]?=(es[j]?).map fun p=>(p.1,.own (8*(b+j)+3) 3 0 p.2.length)
  | [],_,_=>rfl
  | p::r,b,0=>rfl
  | p::r,b,j+1=>by rw[d8,ao2,xY r (b+1) j,ao2,show b+1+j=b+(j+1) by omega]
def jj (es:List (Int×List Ek)):aL:=fun id=>if id=1 then some (.mp .i64 (d8 es 0)) else if id%8=3 then (es[id / 8]?).map fun p=>.row 3 (p.2.map bw) else none
def kA:Nat→Bool:=fun id=>decide (id=1) || decide (id%8=3)
theorem akX (es:List (Int×List Ek)):jj es 1=some (.mp .i64 (d8 es 0)):=rfl
theorem Cz (es:List (Int×List Ek)) (j:Nat):jj es (8*j+3)=(es[j]?).map fun p=>.row 3 (p.2.map bw):=by
  unfold jj;rw[if_neg (by omega),if_pos (by omega),show (8*j+3) / 8=j by omega]
theorem IH (j:Nat):kA (8*j)=false:=by
  unfold kA;rw[decide_eq_false (by omega),decide_eq_false (by omega)]; rfl
theorem WX (j:Nat):kA (8*j+3)=true:=by
  unfold kA;rw[decide_eq_true (show (8*j+3)%8=3 by omega),Bool.or_true]
theorem Af {es:List (Int×List Ek)} {id:Nat} {o:Ob} (h:jj es id=some o):(id=1∧o=.mp .i64 (d8 es 0))∨∃ j p,id=8*j+3∧es[j]?=some p∧o=.row 3 (p.2.map bw):=by
  unfold jj at h;split at h
  ·rename_i e; cases h; exact .inl ⟨e,rfl⟩
  ·split at h
   ·obtain⟨p,h1,rfl⟩:=aoo.1 h;exact .inr ⟨id / 8,p,by omega,h1,rfl⟩
   ·cases h
theorem agU {es:List (Int×List Ek)} {b i:Nat} (h:i∈(d8 es b).flatMap fun p=>p.2.ids):∃ j,i=8*j+3:=by
  obtain⟨p,h1,h2⟩:=aoD.1 h;obtain⟨j,hj⟩:=List.getElem?_of_mem h1;rw[xY] at hj;obtain⟨q,_,rfl⟩:=aoo.1 hj;have:i=8*(b+j)+3:=by simpa [C.ids] using h2
  exact⟨b+j,this⟩
theorem Hz {σ:St} (g:Nat→Nat) {fl:List (Nat×V)} {es:List (Int×List Ek)} (h1:qO σ.f g fl) (hm:σ.h (g 1)=some (.mp .i64 ((d8 es 0).map fun p=>(p.1,p.2.ren g)))) (hr:∀ j p,es[j]?=some p→σ.h (g (8*j+3))=some (.row 3 (p.2.map bw)))
    (hg1:∀ j,g 1≠g (8*j+3)) (hg2:∀ i j,i<es.length→j<es.length→g (8*i+3)=g (8*j+3)→i=j) (hf:(fl.flatMap fun p=>p.2.ids).all (fun i=>kA i)=true):ft σ ⟨bz fl,jj es,kA⟩:=by
  refine⟨⟨g,HO (GJ h1),fun i o ho=>?_,fun i j hi hj e=>?_⟩,fun t i hi=>aoE.1 hf i (Rl hi),fun i o ho=>?_⟩
  ·rcases Af ho with ⟨rfl,rfl⟩ | ⟨j,p,rfl,hp,rfl⟩
   ·exact hm
   ·exact hr j p hp
  ·obtain⟨oi,hi⟩:=aoO.1 hi;obtain⟨oj,hj⟩:=aoO.1 hj;rcases Af hi with ⟨rfl,_⟩ | ⟨a,p,rfl,hp,_⟩ <;> rcases Af hj with ⟨rfl,_⟩ | ⟨b,q,rfl,hq,_⟩
   ·rfl
   ·exact absurd e (hg1 b)
   ·exact absurd e.symm (hg1 a)
   ·rw[hg2 a b (aoJ.1 hp).1 (aoJ.1 hq).1 e]
  ·rcases Af ho with ⟨rfl,rfl⟩ | ⟨j,p,rfl,hp,rfl⟩
   ·refine⟨rfl,fun i hi=>?_⟩;obtain⟨j,rfl⟩:=agU (show i∈(d8 es 0).flatMap fun p=>p.2.ids from hi);exact WX j
   ·exact⟨WX j,fun i hi=>by cases hi⟩
theorem Nf (es:List (Int×List Ek)):∀ (r:List (Int×List Ek)) (b:Nat),(∀ j p,r[j]?=some p→jj es (8*(b+j)+3)=some (.row 3 (p.2.map bw)))→qn (jj es) (d8 r b)=some (r.map fun p=>(p.1,D.sl (p.2.map bw)))
  | [],_,_=>rfl
  | p::r,b,h=>by
    have h0:=h 0 p rfl;have ih:=Nf es r (b+1) fun j q hq=>by have:=h (j+1) q hq; rw[show b+(j+1)=b+1+j by omega] at this; exact this
    have hd:fO (jj es) (.own (8*b+3) 3 0 p.2.length)=some (.sl (p.2.map bw)):=by
      simp only[fO];rw[show b+0=b from rfl] at h0;rw[h0];simp[fv,aot]
    simp only[d8,qn,hd,ih,D.one,if_true,aos]
theorem abH (es:List (Int×List Ek)):qn (jj es) (d8 es 0)=some (es.map fun p=>(p.1,D.sl (p.2.map bw))) :=
  Nf es es 0 fun j p hp=>by rw[aph,Cz,hp]; rfl




end Go.Proofs.YtofonnokanoflaaGreatDoor
