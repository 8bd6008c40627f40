/- Texts of one's own, merged: from: Layer 19,without code: rings of keys (as fields: an ID and a key),cookies,and what the functions return. Own work. -/
import Derived.Test.YtlghfnidknfakaaGreatDoorMg215
import Derived.Test.YtlghfnidknfakaaGreatDoorMg214
import Derived.Test.YtlghfnidknfakaaGreatDoorMg217
import Derived.Test.YtlghfnidknfakaaGreatDoorMg211
import Derived.Test.YtlghfnidknfakaaGreatDoorMg27
set_option linter.unusedVariables false
set_option linter.unusedSimpArgs false
namespace Go.Proofs.YtlghfnidknfakaaGreatDoor
open Go.RowKit
def bp (l:List Fd):D:=.agg [.sl (l.map bV)]
def PX (l:List Fd):Prop:=∀ i j,i<j→j<l.length→(l.getD i default).ty≠(l.getD j default).ty
def dj (l:List Fd):Prop:=1≤l.length∧l.length≤4∧(∀ f∈l,0≤f.ty∧f.ty≤4294967295∧f.da.length=32)∧(l.map Fd.ty).Nodup
instance (l:List Fd):Decidable (dj l):=by unfold dj; infer_instance
theorem zk {l:List Fd}:(l.map Fd.ty).Nodup↔PX l:=by
  unfold PX;rw[List.nodup_iff_pairwise_ne,List.pairwise_iff_getElem];constructor
  ·intro h i j hij hj;have:=h i j (by simp; omega) (by simp; omega) hij
   simpa [abb,aa7 hj,aa7 (show i<l.length by omega)] using this
  ·intro h i j hi hj hij;have hi':i<l.length:=by simpa using hi
   have hj':j<l.length:=by simpa using hj
   have:=h i j hij hj'
   simpa [abb,aa7 hj',aa7 hi'] using this
def rE:List UInt8:=[115,101,99,116,105,109,101,32,115,116,97,114,116]
def vD:List UInt8:=[115,101,99,116,105,109,101,32,110,101,120,116]
def qD (seed:List UInt8):List UInt8:=jd seed rE 32
def qE (key:List UInt8):List UInt8:=jd key vD 32
theorem Ui (s:List UInt8):(qD s).length=32:=z8 _ _ _
theorem Uj (s:List UInt8):(qE s).length=32:=z8 _ _ _
def kP (id:Int) (seed:List UInt8):Int:=if id<0∨4294967295<id then 4 else if seed.length≠32 then 5 else 0
def oQ (id:Int) (seed:List UInt8):List Fd:=if kP id seed=0 then [⟨id,qD seed⟩] else []
def ia (l:List Fd):Int:=((l.getD 0 default).ty+1)%4294967296
def mD (l:List Fd):Fd:=⟨ia l,qE (l.getD 0 default).da⟩
def clash (l:List Fd):Bool:=(l.take 3).any fun f=>decide (f.ty=ia l)
def jx (l:List Fd):Int:=if dj l then (if clash l=true then 7 else 0) else 3
def mE (l:List Fd):List Fd:=if jx l=0 then mD l::l.take 3 else []
def fb (algo:Int) (up down:List UInt8):List UInt8:=aV algo.toNat 2++([0,0]++(up++down))
def dB (m:Fd):List UInt8:=aV m.ty.toNat 4
def dO (m:Fd) (algo:Int) (up down nonce:List UInt8):List UInt8:=dB m++(nonce++fU m.da [dB m,nonce] (fb algo up down))
def gC (l:List Fd) (algo:Int) (up down nonce:List UInt8):Int :=
  if dj l then (if algo<0∨65535<algo then 4 else if up.length≠32∨down.length≠32 then 5 else if nonce.length≠16 then 3 else 0) else 3
def mF (l:List Fd) (algo:Int) (up down nonce:List UInt8):List UInt8:=if gC l algo up down nonce=0 then dO (l.getD 0 default) algo up down nonce else []
def Qh (c:List UInt8):Nat:=if c.length≠104 then 0 else aY (a9 c 0 4)
def DT (m:Fd) (c:List UInt8):Int:=qC m.da [a9 c 0 4,a9 c 4 16] (c.drop 20)
def oS (m:Fd) (c:List UInt8):List UInt8:=Dv m.da [a9 c 0 4,a9 c 4 16] (c.drop 20)
def Dz (m:Fd) (c:List UInt8):Prop:=DT m c=0∧(oS m c).getD 2 0=0∧(oS m c).getD 3 0=0
instance (m:Fd) (c:List UInt8):Decidable (Dz m c):=by unfold Dz; infer_instance
structure Opn where
  al:Int
  up:List UInt8
  dn:List UInt8
  ag:Int
theorem AV (algo:Int) {up down:List UInt8} (h1:up.length=32) (h2:down.length=32):(fb algo up down).length=68:=by
  simp[fb,bU,h1,h2]
theorem Uk {m:Fd} {algo:Int} {up down nonce:List UInt8} (hk:m.da.length=32) (i0:0≤m.ty) (i1:m.ty≤4294967295) (a0:0≤algo) (a1:algo≤65535) (h1:up.length=32) (h2:down.length=32) (hn:nonce.length=16) :
    (dO m algo up down nonce).length=104∧(Qh (dO m algo up down nonce):Int)=m.ty∧Dz m (dO m algo up down nonce) ∧
      (aY (a9 (oS m (dO m algo up down nonce)) 0 2):Int)=algo∧a9 (oS m (dO m algo up down nonce)) 4 32=up∧a9 (oS m (dO m algo up down nonce)) 36 32=down:=by
  have hp:=AV algo h1 h2;have hi:(dB m).length=4:=bU _ _;have ha:cP m.da [dB m,nonce] ((fb algo up down).length:Int)=0:=zZ hk (by simp) (fun x hx=>by simp at hx; rcases hx with rfl | rfl <;> omega) (by omega);have hs:(fU m.da [dB m,nonce] (fb algo up down)).length=84:=by rw[uR ha,aba,jA,po,hp]
  have hl:(dO m algo up down nonce).length=104:=by
    unfold dO;simp only[aba,hi,hn,hs]
  have c1:a9 (dO m algo up down nonce) 0 4=dB m:=by
    unfold dO a9;rw[acH];exact List.take_left' hi
  have c2:a9 (dO m algo up down nonce) 4 16=nonce:=by
    have:=pk (dB m) nonce (fU m.da [dB m,nonce] (fb algo up down));rw[hi,hn] at this;exact this
  have c3:(dO m algo up down nonce).drop 20=fU m.da [dB m,nonce] (fb algo up down):=by
    unfold dO;rw[← abq];exact List.drop_left' (by simp[hi,hn])
  obtain⟨o1,o2⟩:=T3 ha;rw[← uR ha] at o1 o2;have x1:DT m (dO m algo up down nonce)=0:=by unfold DT; rw[c1,c2,c3]; exact o1
  have x2:oS m (dO m algo up down nonce)=fb algo up down:=by unfold oS; rw[c1,c2,c3]; exact o2
  have p2:fb algo up down=aV algo.toNat 2++([0,0]++(up++down)):=rfl;refine⟨hl,?_,⟨x1,?_,?_⟩,?_,?_,?_⟩
  ·unfold Qh;rw[if_neg (by omega),c1];unfold dB;rw[get_put 4 (by decide)];omega
  ·rw[x2,p2,abb,abE (by simp[bU])];simp[bU]
  ·rw[x2,p2,abb,abE (by simp[bU])];simp[bU]
  ·rw[x2,p2];have:=pk [] (aV algo.toNat 2) ([0,0]++(up++down));rw[abF,bU] at this;rw[show ([]:List UInt8).length=0 from rfl] at this;rw[this,get_put 2 (by decide)];omega
  ·rw[x2,p2];have:=pk (aV algo.toNat 2++[0,0]) up down;rw[abq,aba,bU,h1] at this;exact this
  ·rw[x2,p2];have:=pk (aV algo.toNat 2++([0,0]++up)) down [];rw[abm,abq,abq,aba,aba,bU,h1,h2] at this;exact this
def tD (seed:List UInt8):Nat→List UInt8
  | 0=>qD seed
  | n+1=>qE (tD seed n)
theorem Wp (seed:List UInt8) (n:Nat):(tD seed n).length=32:=by
  cases n
  ·exact Ui _
  ·exact Uj _
def dZ (s:Nat) (seed:List UInt8) (t:Nat):List Fd:=(List.range (min 4 (t+1))).map fun i=>⟨((s+(t-i):Nat):Int),tD seed (t-i)⟩
theorem oe (s:Nat) (seed:List UInt8) (t:Nat):(dZ s seed t).length=min 4 (t+1):=by simp[dZ]
theorem BJ {s:Nat} {seed:List UInt8} {t i:Nat} (h:i<min 4 (t+1)):(dZ s seed t).getD i default=⟨((s+(t-i):Nat):Int),tD seed (t-i)⟩:=by
  unfold dZ;rw[abb,abX,acC h];rfl
theorem Nw {s:Nat} {seed:List UInt8} {t:Nat} (h:s+t≤4294967295):dj (dZ s seed t):=by
  have hl:=oe s seed t;refine⟨by omega,by omega,?_,?_⟩
  ·intro f hf;obtain⟨i,hi,rfl⟩:=abB.1 hf;exact⟨by show (0:Int)≤((s+(t-i):Nat):Int); omega,by show ((s+(t-i):Nat):Int)≤4294967295; omega,Wp _ _⟩
  ·rw[zk];intro i j hij hj;rw[hl] at hj;rw[BJ (by omega),BJ (by omega)]
   show ((s+(t-i):Nat):Int)≠((s+(t-j):Nat):Int)
   omega
theorem Sz (s:Nat) (seed:List UInt8) (h:s≤4294967295) (hs:seed.length=32):kP s seed=0∧oQ s seed=dZ s seed 0:=by
  have e:kP s seed=0:=by unfold kP; rw[if_neg (by omega),if_neg (by omega)]
  exact⟨e,by unfold oQ; rw[if_pos e]; rfl⟩
theorem Ul {s:Nat} {seed:List UInt8} {t:Nat} (h:s+t<4294967295):jx (dZ s seed t)=0∧mE (dZ s seed t)=dZ s seed (t+1):=by
  have hl:=oe s seed t;have h0:=BJ (s:=s) (seed:=seed) (t:=t) (i:=0) (by omega);have hn:ia (dZ s seed t)=((s+(t+1):Nat):Int):=by
    unfold ia;rw[h0]
    show (((s+(t-0):Nat):Int)+1)%4294967296=_
    omega
  have hc:clash (dZ s seed t)=false:=by
    unfold clash;rw[aca];intro f hf;obtain⟨i,hi,rfl⟩:=abB.1 (acr hf);rw[hn,decide_eq_false (by show ((s+(t-i):Nat):Int)≠((s+(t+1):Nat):Int); omega)];decide
  have e:jx (dZ s seed t)=0:=by unfold jx; rw[if_pos (Nw (by omega)),if_neg (by rw[hc]; decide)]
  refine⟨e,?_⟩;unfold mE;rw[if_pos e];have hx:mD (dZ s seed t)=⟨((s+(t+1):Nat):Int),tD seed (t+1)⟩:=by
    unfold mD;rw[hn,h0];rfl
  rw[hx];refine List.ext_getElem (by simp[oe]; omega) fun i i1 i2=>?_
  have hi:i<min 4 (t+1+1):=by rw[oe] at i2; exact i2
  cases i with
  | zero=>simp[dZ]
  | succ i =>
    rw[List.getElem_cons_succ,acn];simp only[dZ,abI,acw];rw[show t+1-(i+1)=t-i by omega]
def nJ (b:List UInt8) (i:Nat):Int:=(aY (a9 b (2*i) 2):Int)
def jh (b:List UInt8) (k:Nat):List Int:=(List.range k).map (nJ b)
def kV (b:List UInt8):List Int:=jh b (b.length / 2)
def dP (b:List UInt8):List Int:=if b.length%2=0 then kV b else []
theorem IW (b:List UInt8) (k:Nat):jh b (k+1)=jh b k++[nJ b k]:=by simp[jh,acJ]
theorem AW (b:List UInt8) (k:Nat):(jh b k).length=k:=by simp[jh]
theorem Wq (b:List UInt8):(kV b).length=b.length / 2:=AW _ _
theorem Yw {b:List UInt8} {i:Nat} (h:2*i+2≤b.length):0≤nJ b i∧nJ b i≤65535:=by
  have:=(jj 2 (a9 b (2*i) 2) (mK (by omega)) (by decide)).1;unfold nJ;omega
def aT (l:List Int):List UInt8:=l.flatMap fun n=>aV n.toNat 2
theorem uW (n:Int) (l:List Int):aT (n::l)=aV n.toNat 2++aT l:=rfl
theorem Lg (a b:List Int):aT (a++b)=aT a++aT b:=by simp[aT]
theorem eU (l:List Int):(aT l).length=2*l.length:=by
  induction l with
  | nil=>rfl
  | cons n l ih=>rw[uW,aba,bU,ih,acj]; omega
def bA (l:List Int):Prop:=∀ n∈l,0≤n∧n≤65535
instance (l:List Int):Decidable (bA l):=by unfold bA; infer_instance
theorem Um {n:Int} {l:List Int} (h:bA (n::l)):(0≤n∧n≤65535)∧bA l:=⟨h n abK,fun x hx=>h x (abD _ hx)⟩
theorem Un {x:List UInt8} (hx:x.length=2) (b:List UInt8):kV (x++b)=(aY x:Int)::kV b:=by
  have hl:(x++b).length / 2=b.length / 2+1:=by rw[aba]; omega
  unfold kV jh;rw[hl,List.range_succ_eq_map,abd,acS]
  congr 1
  ·unfold nJ;rw[show a9 (x++b) (2*0) 2=x from List.take_left' hx]
  ·refine ab0 fun i _=>?_
   show (aY (a9 (x++b) (2*(i+1)) 2):Int)=(aY (a9 b (2*i) 2):Int)
   rw[show 2*(i+1)=x.length+2*i by omega,U2]
theorem Wr {l:List Int} (h:bA l):kV (aT l)=l:=by
  induction l with
  | nil=>rfl
  | cons n l ih =>
    obtain⟨h1,h2⟩:=Um h;rw[uW,Un (bU _ _),ih h2,get_put 2 (by decide)]
    congr 1; omega
theorem mR {l:List Int} (h:bA l):dP (aT l)=l:=by
  unfold dP;rw[if_pos (by rw[eU]; omega),Wr h]
def fK (l:List Ek) (k:Int) (i:Nat):List Nat:=(List.range i).filter fun j=>decide ((l.getD j default).ty=k)
def aF (l:List Ek) (k:Int):List Nat:=fK l k l.length
def aJ (l:List Ek) (k:Int):List Ek:=l.filter fun r=>decide (r.ty=k)
theorem Lh {l:List Ek} {k:Int} {i:Nat} (h:(l.getD i default).ty=k):fK l k (i+1)=fK l k i++[i]:=by
  unfold fK;rw[acJ,List.filter_append]
  congr 1
  rw[List.filter_cons,if_pos (decide_eq_true h),List.filter_nil]
theorem Yx {l:List Ek} {k:Int} {i:Nat} (h:(l.getD i default).ty≠k):fK l k (i+1)=fK l k i:=by
  unfold fK;rw[acJ,List.filter_append];refine Eq.trans ?_ (abm _)
  congr 1
  rw[List.filter_cons,if_neg (fun q=>h (of_decide_eq_true q)),List.filter_nil]
theorem pS (l:List Ek) (k:Int) (i:Nat):(fK l k i).length≤i:=by
  have:=ac9 (fun j=>decide ((l.getD j default).ty=k)) (List.range i);rw[acA] at this;exact this
theorem ln {l:List Ek} {k:Int} {j:Nat} (h:j<(aF l k).length):(aF l k).getD j 0<l.length∧(l.getD ((aF l k).getD j 0) default).ty=k:=by
  have hm:(aF l k).getD j 0∈aF l k:=by
    rw[abb,aa7 h];exact abG h
  obtain⟨h1,h2⟩:=acE.1 hm;exact⟨acO.1 h1,of_decide_eq_true h2⟩
theorem Ra (l:List Ek):(List.range l.length).map (fun i=>l.getD i default)=l:=by
  refine List.ext_getElem (by simp) fun i h1 h2=>?_
  rw[abI,acw,abb,aa7 h2]; rfl
theorem AY (l:List Ek) (k:Int):(aF l k).map (fun i=>l.getD i default)=aJ l k:=by
  have:aJ l k=((List.range l.length).map (fun i=>l.getD i default)).filter fun r=>decide (r.ty=k):=by rw[Ra]; rfl
  rw[this,List.filter_map];rfl
theorem cF (l:List Ek) (k:Int):(aF l k).length=(aJ l k).length:=by rw[← AY,abh]
theorem mS {l:List Ek} {k:Int} {j:Nat} (h:j<(aF l k).length):l.getD ((aF l k).getD j 0) default=(aJ l k).getD j default:=by
  rw[← AY,abb (l:=(aF l k).map _),abX,aa7 h,abb (l:=aF l k),aa7 h];rfl
def j8 (r:Ek):Prop:=((r.ty=1∨r.ty=4)→r.bo.length%2=0)∧(r.ty=7→r.bo.length=2)
instance (r:Ek):Decidable (j8 r):=by unfold j8; infer_instance
def xP (l:List Ek):Prop:=(aF l 0).length=1∧(aF l 0).getD 0 0=l.length-1∧(l.getD ((aF l 0).getD 0 0) default).bo.length=0∧(aF l 1).length≤1∧(aF l 4).length≤1∧(aF l 6).length≤1∧(aF l 7).length≤1
instance (l:List Ek):Decidable (xP l):=by unfold xP; infer_instance
def j9 (l:List Ek):Prop:=xP l∧∀ r∈l,j8 r
instance (l:List Ek):Decidable (j9 l):=by unfold j9; infer_instance
def de (b:List UInt8):Prop:=dM b=0∧j9 (aB b)
instance (b:List UInt8):Decidable (de b):=by unfold de; infer_instance
def fc (b:List UInt8):List Ek:=if de b then aB b else []
def fp (l:List Ek):Bool:=l.any fun r=>r.cr&&decide (7<r.ty)
def dk (x y:List Int):Int:=if ¬ (bA x∧bA y) then 4 else if x.length=0∨16<x.length∨y.length=0∨16<y.length then 8 else 0
def d8 (x y:List Int):List Ek:=[⟨true,1,aT x⟩,⟨true,4,aT y⟩,⟨true,0,[]⟩]
def bQ (x y:List Int):List UInt8:=if dk x y=0 then bc (d8 x y) else []
def dC (x y:List Int):Option Int:=x.find? fun v=>decide (v∈y)
def aan:List UInt8:=[115,101,99,116,105,109,101,32,107,101,121,115]
def ib (p a:Int) (z:UInt8):List UInt8:=aT [p,a]++[z]
def fD (c:Ch) (p a:Int):Int:=if ¬ dt c then 3 else if ¬ bA [p,a] then 4 else 0
def bg (c:Ch) (p a:Int) (z:UInt8):List UInt8:=if fD c p a=0 then jd c.se (je lz aan (ib p a z)) 32 else []
theorem pE {c:Ch} {p a:Int} {z:UInt8} (h:fD c p a=0):(bg c p a z).length=32:=by unfold bg; rw[if_pos h]; exact z8 _ _ _
structure d9 where
  pr:List Int
  al:List Int
  ho:ByteArray
  pt:Int
def di (p:d9):D:=.agg [.sl (p.pr.map zD),.sl (p.al.map zD),.str p.ho,.int .i64 p.pt]
def fL (code:Int):List UInt8:=bc [⟨true,2,aT [code]⟩,⟨true,0,[]⟩]
def kW (b:List UInt8):Prop:=de b∧(aF (aB b) 1).length≠0∧(aF (aB b) 4).length≠0∧(aF (aB b) 2).length+(aF (aB b) 3).length+(aF (aB b) 5).length=0
instance (b:List UInt8):Decidable (kW b):=by unfold kW; infer_instance
def ka (ns:List (List UInt8)) (ho:ByteArray):Prop:=1≤ns.length∧ns.length≤8∧ho.size≤255∧∀ n∈ns,n.length=16
instance (ns:List (List UInt8)) (ho:ByteArray):Decidable (ka ns ho):=by unfold ka; infer_instance
def dm (l:List Ek) (k:Int):List Int:=dP (l.getD ((aF l k).getD 0 0) default).bo
def gP (r:List Fd) (c:Ch) (v a:Int) (ns:List (List UInt8)):List Ek:=ns.map fun n=>⟨false,5,mF r a (bg c v a 0) (bg c v a 1) n⟩
def cd (p:d9):List Ek:=(if p.ho.size=0 then [] else [⟨true,6,p.ho.data.toList⟩])++((if p.pt=0 then [] else [⟨true,7,aT [p.pt]⟩])++[⟨true,0,[]⟩])
def dQ (p:d9) (r:List Fd) (c:Ch) (x y:List Int) (ns:List (List UInt8)):List Ek :=
  match dC x p.pr with
  | none=>[⟨true,1,[]⟩]
  | some v=>⟨true,1,aT [v]⟩::match dC y p.al with
    | none=>[⟨true,4,[]⟩]
    | some a=>⟨true,4,aT [a]⟩::gP r c v a ns
def cU (p:d9) (r:List Fd) (c:Ch):Int:=if ¬ (dt c∧dj r) then 3 else if ¬ (bA p.pr∧bA p.al∧bA [p.pt]) then 4 else 0
def gQ (p:d9) (r:List Fd) (c:Ch) (b:List UInt8) (ns:List (List UInt8)):List UInt8 :=
  if ¬ cU p r c=0 then [] else if ¬ kW b then fL 1 else if fp (aB b)=true then fL 0 else if ¬ ka ns p.ho then fL 2 else bc (dQ p r c (dm (aB b) 1) (dm (aB b) 4) ns++cd p)
structure tE where
  pr:Int
  al:Int
  up:List UInt8
  dn:List UInt8
  ck:List (List UInt8)
  ho:List UInt8
  pt:Int
def eR (t:tE):D:=.agg [.int .i64 t.pr,.int .i64 t.al,.sl (t.up.map bD),.sl (t.dn.map bD),.sl (t.ck.map fun l=>D.sl (l.map bD)),.str ⟨t.ho.toArray⟩,.int .i64 t.pt]
def fM:tE:=⟨0,0,[],[],[],[],0⟩
def ew (q:List UInt8):List Int:=dP ((aB q).getD 0 default).bo
def ez (q:List UInt8):List Int:=dP ((aB q).getD 1 default).bo
def ji (q:List UInt8):Prop:=de q∧(aB q).length=3∧dk (ew q) (ez q)=0∧bQ (ew q) (ez q)=q
instance (q:List UInt8):Decidable (ji q):=by unfold ji; infer_instance
def cZ (l:List Ek) (k:Int) (x:List Int):Option Int:=if (aF l k).length=1 then (if (dm l k).length=1∧(dm l k).getD 0 0∈x then some ((dm l k).getD 0 0) else none) else none
def gD (l:List Ek):List (List UInt8):=(aJ l 5).map (·.bo)
def bW (c:Ch) (q b:List UInt8):Int :=
  if ¬ dt c then 3 else if ¬ ji q then 3 else if ¬ de b then 3 else if fp (aB b)=true then 11 else if (aF (aB b) 2).length≠0 then 7
  else if ¬ ((cZ (aB b) 1 (ew q)).isSome∧(cZ (aB b) 4 (ez q)).isSome∧(aF (aB b) 5).length≠0) then 10
  else if 8<(aF (aB b) 5).length then 8 else if ¬ ∀ x∈gD (aB b),x.length=104 then 3 else 0
def mG (l:List Ek):List UInt8:=if (aF l 6).length=1 then (l.getD ((aF l 6).getD 0 0) default).bo else []
def kX (l:List Ek):Int:=if (aF l 7).length=1 then (aY (l.getD ((aF l 7).getD 0 0) default).bo:Int) else 0
def gE (c:Ch) (q b:List UInt8):tE :=
  if bW c q b=0 then
    ⟨(cZ (aB b) 1 (ew q)).getD 0,(cZ (aB b) 4 (ez q)).getD 0,bg c ((cZ (aB b) 1 (ew q)).getD 0) ((cZ (aB b) 4 (ez q)).getD 0) 0,bg c ((cZ (aB b) 1 (ew q)).getD 0) ((cZ (aB b) 4 (ez q)).getD 0) 1,gD (aB b),mG (aB b),kX (aB b)⟩
  else fM
theorem wd {m:Nat}:∀ {l:List Ek},(∀ r∈l,r.bo.length≤m)→(bc l).length≤l.length*(m+4)
  | [],_=>abc _
  | r::l,h=>by
    have ih:=wd fun x hx=>h x (abD r hx)
    have h1:=h r abK;rw[nU,aba,nZ,acj,abU,Nat.one_mul];omega
theorem s6 {l:List Ek} (h:∀ r∈l,0≤r.ty∧r.ty≤7∧r.bo.length≤255) (hl:l.length≤64):cW l=0∧ix l=bc l:=by
  have h1:=wd (m:=255) fun r hr=>(h r hr).2.2
  exact Bn (fun r hr=>by obtain⟨a,b,c⟩:=h r hr; exact Bm a (by omega) (by omega)) hl (by omega)
theorem mT (k:Int):aJ [] k=[]:=rfl
theorem pF (a b:List Ek) (k:Int):aJ (a++b) k=aJ a k++aJ b k:=List.filter_append a b
theorem xf {c:Bool} {t:Int} {b:List UInt8} {l:List Ek} {k:Int} (h:t=k):aJ (⟨c,t,b⟩::l) k=⟨c,t,b⟩::aJ l k:=by
  unfold aJ;rw[List.filter_cons,if_pos (decide_eq_true h)]
theorem jp {c:Bool} {t:Int} {b:List UInt8} {l:List Ek} {k:Int} (h:t≠k):aJ (⟨c,t,b⟩::l) k=aJ l k:=by
  unfold aJ;rw[List.filter_cons,if_neg (fun q=>h (of_decide_eq_true q))]
theorem fg {c:Bool} {t:Int} {b:List UInt8} (h1:0≤t∧t≤7) (h2:b.length≤255):0≤(⟨c,t,b⟩:Ek).ty∧(⟨c,t,b⟩:Ek).ty≤7∧(⟨c,t,b⟩:Ek).bo.length≤255:=⟨h1.1,h1.2,h2⟩
theorem BN {c:Bool} {t:Int} {b:List UInt8} (h:t≠7) (h2:t=1∨t=4→b.length%2=0):j8 ⟨c,t,b⟩:=⟨h2,fun q=>absurd q h⟩
theorem Wt {l:List Ek} {k:Int} (h:∀ r∈l,r.ty=k):aJ l k=l:=List.filter_eq_self.2 fun r hr=>decide_eq_true (h r hr)
theorem YI {l:List Ek} {k:Int} (h:∀ r∈l,r.ty≠k):aJ l k=[]:=List.filter_eq_nil_iff.2 fun r hr q=>h r hr (of_decide_eq_true q)
theorem YJ {i:List Ek} {e:Ek} {k:Int} (h:aJ i k=[]) (he:e.ty=k):aF (i++[e]) k=[i.length]:=by
  have hl:(i++[e]).length=i.length+1:=by simp
  have hg:(i++[e]).getD i.length default=e:=by simp[abb]
  have h0:fK (i++[e]) k i.length=[]:=by
    have h1:fK (i++[e]) k i.length=fK i k i.length:=by
      refine List.filter_congr fun j hj=>?_
      have hj:=acO.1 hj;rw[abb,abO hj,← abb]
    rw[h1];have:=cF i k;rw[h] at this;exact abM.1 this
  unfold aF;rw[hl,Lh (by rw[hg]; exact he),h0]; rfl
theorem NG {i:List Ek} (h0:aJ i 0=[]) (h1:(aJ i 1).length≤1) (h4:(aJ i 4).length≤1) (h6:(aJ i 6).length≤1) (h7:(aJ i 7).length≤1) (hb:∀ r∈i,j8 r):j9 (i++[⟨true,0,[]⟩]):=by
  have e:=YJ (e:=⟨true,0,[]⟩) h0 rfl;have en:∀ k:Int,(0:Int)≠k→aJ (i++[⟨true,0,[]⟩]) k=aJ i k:=fun k hk=>by rw[pF,jp hk,mT,abm]
  refine⟨⟨by rw[e]; rfl,?_,?_,?_,?_,?_,?_⟩,fun r hr=>?_⟩
  ·rw[e]; simp
  ·rw[e]
   show ((i++[(⟨true,0,[]⟩:Ek)]).getD i.length default).bo.length=0
   simp[abb]
  ·rw[cF,en 1 (by decide)]; exact h1
  ·rw[cF,en 4 (by decide)]; exact h4
  ·rw[cF,en 6 (by decide)]; exact h6
  ·rw[cF,en 7 (by decide)]; exact h7
  ·rcases abn.1 hr with h | h
   ·exact hb r h
   ·rw[abe.1 h]; exact BN (by decide) fun _=>rfl
theorem BO {l:List Ek} {k:Int} {r:Ek} (h:aJ l k=[r]):dm l k=dP r.bo:=by
  have hl:(aF l k).length=1:=by rw[cF,h]; rfl
  unfold dm;rw[mS (by omega),h]; rfl
theorem tv {x y:List Int} (h:dk x y=0):bA x∧bA y∧x.length≠0∧x.length≤16∧y.length≠0∧y.length≤16:=by
  unfold dk at h;by_cases h1:bA x∧bA y
  ·rw[if_neg (not_not_intro h1)] at h;by_cases h2:x.length=0∨16<x.length∨y.length=0∨16<y.length
   ·rw[if_pos h2] at h; exact absurd h (by decide)
   ·exact⟨h1.1,h1.2,by omega,by omega,by omega,by omega⟩
  ·rw[if_pos h1] at h; exact absurd h (by decide)
theorem BP {x y:List Int} (h:dk x y=0):cW (d8 x y)=0∧ix (d8 x y)=bc (d8 x y):=by
  obtain⟨_,_,_,h1,_,h2⟩:=tv h;refine s6 (fun r hr=>?_) (show 3≤64 by decide);unfold d8 at hr;rcases abr.1 hr with rfl | hr
  ·exact fg (by decide) (by rw[eU]; omega)
  ·rcases abr.1 hr with rfl | hr
   ·exact fg (by decide) (by rw[eU]; omega)
   ·rw[abe.1 hr]; exact fg (by decide) (by decide)
theorem CV {x y:List Int} (h:dk x y=0):dM (bQ x y)=0∧aB (bQ x y)=d8 x y∧de (bQ x y):=by
  have e:bQ x y=bc (d8 x y):=if_pos h;obtain⟨q1,q2⟩:=OQ (BP h).1;rw[e];refine⟨q1,q2,q1,?_⟩;rw[q2];have n:∀ (k:Int),(1:Int)≠k→(4:Int)≠k→aJ [(⟨true,1,aT x⟩:Ek),⟨true,4,aT y⟩] k=[]:=fun k h1 h2=>by rw[jp h1,jp h2,mT]
  refine NG (i:=[⟨true,1,aT x⟩,⟨true,4,aT y⟩]) (n 0 (by decide) (by decide)) ?_ ?_ ?_ ?_ ?_
  ·rw[xf rfl,jp (by decide),mT]; exact abl _
  ·rw[jp (by decide),xf rfl,mT]; exact abl _
  ·rw[n 6 (by decide) (by decide)]; exact abc _
  ·rw[n 7 (by decide) (by decide)]; exact abc _
  ·intro r hr;rcases abr.1 hr with rfl | hr
   ·exact BN (by decide) fun _=>by rw[eU]; omega
   ·rw[abe.1 hr]; exact BN (by decide) fun _=>by rw[eU]; omega
theorem O3 (x y:List Int):aJ (d8 x y) 1=[⟨true,1,aT x⟩]∧aJ (d8 x y) 4=[⟨true,4,aT y⟩]∧∀ k:Int,(1:Int)≠k→(4:Int)≠k→(0:Int)≠k→aJ (d8 x y) k=[]:=by
  unfold d8;refine⟨?_,?_,fun k h1 h2 h3=>?_⟩
  ·rw[xf rfl,jp (by decide),jp (by decide),mT]
  ·rw[jp (by decide),xf rfl,jp (by decide),mT]
  ·rw[jp h1,jp h2,jp h3,mT]
theorem aa0 {x y:List Int} (h:dk x y=0):kW (bQ x y)∧fp (aB (bQ x y))=false∧dm (aB (bQ x y)) 1=x∧dm (aB (bQ x y)) 4=y:=by
  obtain⟨hx,hy,_⟩:=tv h;obtain⟨q1,q2,q3⟩:=CV h;obtain⟨a1,a4,an⟩:=O3 x y;unfold kW;rw[q2];refine⟨⟨q3,?_,?_,?_⟩,rfl,?_,?_⟩
  ·rw[cF,a1]; exact Nat.one_ne_zero
  ·rw[cF,a4]; exact Nat.one_ne_zero
  ·rw[cF,cF,cF,an 2 (by decide) (by decide) (by decide),an 3 (by decide) (by decide) (by decide),an 5 (by decide) (by decide) (by decide)]; rfl
  ·rw[BO a1,mR hx]
  ·rw[BO a4,mR hy]
theorem PY {x y:List Int} (h:dk x y=0):ji (bQ x y)∧ew (bQ x y)=x∧ez (bQ x y)=y:=by
  obtain⟨hx,hy,_⟩:=tv h;obtain⟨q1,q2,q3⟩:=CV h;have ex:ew (bQ x y)=x:=by
    unfold ew;rw[q2];exact mR hx
  have ey:ez (bQ x y)=y:=by
    unfold ez;rw[q2];exact mR hy
  refine⟨⟨q3,by rw[q2]; rfl,by rw[ex,ey]; exact h,by rw[ex,ey]⟩,ex,ey⟩
theorem lq {x y:List Int} {v:Int} (h:dC x y=some v):v∈x∧v∈y:=by
  obtain⟨h1,h2⟩:=List.find?_eq_some_iff_append.1 h;obtain⟨u,w,rfl,_⟩:=h2;exact⟨abw _ abK,of_decide_eq_true h1⟩
theorem NH {l:List Ek} {k:Int} {x:List Int} {r:Ek} (h:aJ l k=[r]):cZ l k x=if (dP r.bo).length=1∧(dP r.bo).getD 0 0∈x then some ((dP r.bo).getD 0 0) else none:=by
  unfold cZ;rw[cF,h,if_pos (show [r].length=1 from rfl),BO h]
theorem Lj {l:List Ek} {k v:Int} {x:List Int} {c:Bool} (h:aJ l k=[⟨c,k,aT [v]⟩]) (hv:v∈x) (hs:0≤v∧v≤65535):cZ l k x=some v:=by
  have e:dP (aT [v])=[v]:=mR fun n hn=>by rw[abe.1 hn]; exact hs
  rw[NH h];dsimp only;rw[e,if_pos ⟨rfl,hv⟩];rfl
theorem IY {l:List Ek} {k:Int} {x:List Int} {c:Bool} (h:aJ l k=[⟨c,k,[]⟩]):cZ l k x=none:=by
  have e:dP (⟨c,k,[]⟩:Ek).bo=[]:=mR (l:=[]) fun n hn=>by cases hn
  rw[NH h,e,if_neg (fun q=>absurd q.1 (by decide))]
theorem Wu (r:List Fd) (c:Ch) (v a:Int) (ns:List (List UInt8)):∀ e∈gP r c v a ns,e.ty=5∧e.cr=false:=fun e he=>by
  obtain⟨n,_,rfl⟩:=abB.1 he;exact⟨rfl,rfl⟩
open IntWalk
set_option maxHeartbeats 3200000
def jN (f:Fd):Prop:=0≤f.ty∧f.ty≤4294967295∧f.da.length=32
theorem NL {l:List Fd} (h1:1≤l.length) (h2:l.length≤4) (h3:∀ i,i<l.length→jN (l.getD i default)∧∀ k,k<i→(l.getD k default).ty≠(l.getD i default).ty):dj l:=by
  refine⟨h1,h2,fun f hf=>?_,zk.2 fun i j hij hj=>(h3 j hj).2 i hij⟩;obtain⟨i,hi,rfl⟩:=abR hf;have:=(h3 i hi).1;rw[abb,aa7 hi] at this;exact this
theorem nc {l:List Fd} (h:dj l) {i:Nat} (hi:i<l.length):jN (l.getD i default)∧∀ k,k<i→(l.getD k default).ty≠(l.getD i default).ty :=
  ⟨h.2.2.1 _ (IV hi),fun k hk=>zk.1 h.2.2.2 k i hk hi⟩
def qF (l:List Fd) (i:Nat):St:=⟨aQ [(1,.w (.c (.rp [.sl (l.map bV)]))),(3,.w (.c (.d (.int .i64 (i:Int)))))],hL [],uL []⟩
def xI (l:List Fd) (i k:Nat):St:=⟨aQ [(1,.w (.c (.rp [.sl (l.map bV)]))),(3,.w (.c (.d (.int .i64 (i:Int))))),(4,.w (.c (.d (.int .i64 (k:Int)))))],hL [],uL []⟩
def uo:aN := .seq (.seq (.reg [oM 48 4,oM 49 3,oO 50 (.bin .lss (.t 48) (.t 49))]) (.cond (.t 50) (.skip) (.exit 2))) (.seq (.block 3 (.seq (.reg [oO 53 (.fieldAddr 0 (.t 1)),oO 54 (.load .sc (.t 53)),oM 55 4,oO 56 (.idxSl 2 (.t 54) (.t 55)),oO 57 (.fieldAddr 0 (.t 56)),oO 58 (.load .sc (.t 57)),oO 59 (.fieldAddr 0 (.t 1)),oO 60 (.load .sc (.t 59)),oM 61 3,oO 62 (.idxSl 2 (.t 60) (.t 61)),oO 63 (.fieldAddr 0 (.t 62)),oO 64 (.load .sc (.t 63)),oO 65 (.bin .eql (.t 58) (.t 64))]) (.cond (.t 65) (.seq (.reg [oO 2 (.mv (.k (.c (.d (.bool false)))))]) (.ret)) (.skip)))) (.reg [oM 51 4,oO 52 (.bin .add (.t 51) (kI 1)),oM 4 52]))
def pd:aN := .seq (.seq (.reg [oM 15 3,oO 16 (.fieldAddr 0 (.t 1)),oO 17 (.load .sc (.t 16)),oO 18 (.len (.t 17)),oO 19 (.bin .lss (.t 15) (.t 18))]) (.cond (.t 19) (.skip) (.exit 0))) (.seq (.block 1 (.seq (.seq (.reg [oO 22 (.fieldAddr 0 (.t 1)),oO 23 (.load .sc (.t 22)),oM 24 3,oO 25 (.idxSl 2 (.t 23) (.t 24)),oO 26 (.fieldAddr 0 (.t 25)),oO 27 (.load .sc (.t 26)),oO 28 (.bin .lss (.t 27) (kI 0)),oM 29 28,oG 30 (.fieldAddr 0 (.t 1)) 29 false,oG 31 (.load .sc (.t 30)) 29 false,oG 32 (.mv (.t 3)) 29 false,oG 33 (.idxSl 2 (.t 31) (.t 32)) 29 false,oG 34 (.fieldAddr 0 (.t 33)) 29 false,oG 35 (.load .sc (.t 34)) 29 false,oG 36 (.bin .gtr (.t 35) (kI 4294967295)) 29 false,oO 37 (.pick (.t 29) (.k (.c (.d (.bool true)))) (.t 36)),oM 38 37,oG 39 (.fieldAddr 0 (.t 1)) 38 false,oG 40 (.load .sc (.t 39)) 38 false,
 oG 41 (.mv (.t 3)) 38 false,oG 42 (.idxSl 2 (.t 40) (.t 41)) 38 false,oG 43 (.fieldAddr 1 (.t 42)) 38 false,oG 44 (.load .sc (.t 43)) 38 false,oG 45 (.len (.t 44)) 38 false,oG 46 (.bin .neq (.t 45) (kI 32)) 38 false,oO 47 (.pick (.t 38) (.k (.c (.d (.bool true)))) (.t 46))]) (.cond (.t 47) (.seq (.reg [oO 2 (.mv (.k (.c (.d (.bool false)))))]) (.ret)) (.skip))) (.seq (.reg [oO 4 (.mv (kI 0))]) (.block 2 (.loop uo))))) (.reg [oM 20 3,oO 21 (.bin .add (.t 20) (kI 1)),oM 3 21]))
def vE:aH:=⟨1,66,.seq (.reg [oO 1 (.box .roBox (.t 0)),oO 2 (.mv (.k (.c (.d (.bool false)))))]) (.seq (.seq (.reg [oO 5 (.fieldAddr 0 (.t 1)),oO 6 (.load .sc (.t 5)),oO 7 (.len (.t 6)),oO 8 (.bin .lss (.t 7) (kI 1)),oM 9 8,oG 10 (.fieldAddr 0 (.t 1)) 9 false,oG 11 (.load .sc (.t 10)) 9 false,oG 12 (.len (.t 11)) 9 false,oG 13 (.bin .gtr (.t 12) (kI 4)) 9 false,oO 14 (.pick (.t 9) (.k (.c (.d (.bool true)))) (.t 13))]) (.cond (.t 14) (.seq (.reg [oO 2 (.mv (.k (.c (.d (.bool false)))))]) (.ret)) (.skip))) (.seq (.seq (.reg [oO 3 (.mv (kI 0))]) (.block 0 (.loop pd))) (.seq (.reg [oO 2 (.mv (.k (.c (.d (.bool true)))))]) (.ret)))),[(2,none)]⟩
theorem Wx:aG Tryz.prog { own:=[],comp:=[],frz:=[],nils:=[] } Tryz.f73=some vE:=by kernel_rfl
theorem BU (G:ah) (l:List Fd) (hl:l.length≤9223372036854775807):aw Tryz.prog G 73 [bp l] (.w (.c (.d (.bool (decide (dj l)))))):=by
  refine aI Tryz.func73 Wx rfl rfl ?_;unfold bp;rcases abL l.length 1 with h1 | h1
  ·have hno:¬ dj l:=fun h=>by have:=h.1; omega
   rw[decide_eq_false hno];simp only[vE,af,ae,aa,seval,iteOmega,toNatUp];exact aL
  ·rcases abL 4 l.length with h4 | h4
   ·have hno:¬ dj l:=fun h=>by have:=h.2.1; omega
    have g4:((l.length:Int)>4)=True:=eq_true (by omega);rw[decide_eq_false hno];simp only[vE,af,ae,aa,seval,iteOmega,toNatUp,g4];exact aL
   ·have g4:((l.length:Int)>4)=False:=eq_false (by omega);simp only[vE,af,ae,aa,seval,iteOmega,toNatUp,g4];refine aU (qF l) (fun i=>l.length-i) (fun i=>i≤l.length∧∀ j,j<i→jN (l.getD j default)∧∀ k,k<j→(l.getD k default).ty≠(l.getD j default).ty) 0 ⟨abc _,fun j hj=>by omega⟩ ?_ ?_
    ·refine aj (fun i=>0) ?_ ?_ rfl rfl <;> simp only[wx,ai,am,aa,seval,iteOmega,toNatUp]
    ·rintro i ⟨hi,hok⟩;by_cases hlt:i<l.length
     ·have g:=nG hlt;have hno:¬ jN (l.getD i default)→¬ dj l:=fun h hr=>h (nc hr hlt).1
      have hno2:∀ k,k<i→(l.getD k default).ty=(l.getD i default).ty→¬ dj l:=fun k hk e hr=>(nc hr hlt).2 k hk e
      have hgo:jN (l.getD i default)→(∀ k,k<i→(l.getD k default).ty≠(l.getD i default).ty)→∀ j,j<i+1→jN (l.getD j default)∧∀ k,k<j→(l.getD k default).ty≠(l.getD j default).ty:=fun a b j hj=>by
        rcases abL j i with h | h
        ·exact hok j h
        ·obtain rfl:j=i:=by omega
         exact⟨a,b⟩
      by_cases hm:jN (l.getD i default)
      ·obtain⟨m1,m2,m3⟩:=hm;have g1:((l.getD i default).ty>4294967295)=False:=eq_false (by omega);have hgo:=hgo ⟨m1,m2,m3⟩;have est:qF l i=⟨aQ [(1,.w (.c (.rp [.sl (l.map bV)]))),(3,.w (.c (.d (.int .i64 (i:Int)))))],hL [],uL []⟩:=rfl;rw[est];clear hok hno est;generalize hx:l.getD i default=x at *
       simp only[pd,ae,aa,seval,iteOmega,toNatUp,aC,g,bV,g1,m3];refine aU (xI l i) (fun k=>i-k) (fun k=>k≤i∧∀ m,m<k→(l.getD m default).ty≠x.ty) 0 ⟨abc _,fun m hm=>by omega⟩ ?_ ?_
       ·refine aj (fun i=>0) ?_ ?_ rfl rfl <;> simp only[wx,ai,am,aa,seval,iteOmega,toNatUp] <;> try rfl
       ·rintro k ⟨hk,hd⟩;by_cases hki:k<i
        ·have gk:=nG (l:=l) (i:=k) (by omega);have hne:=hno2 k hki;by_cases he:(l.getD k default).ty=x.ty
         ·rw[decide_eq_false (hne he)];have ge:((l.getD k default).ty=x.ty)=True:=eq_true he;clear hd hgo hno2 hne;generalize l.getD k default=y at *
          simp only[uo,xI,ae,aa,seval,iteOmega,toNatUp,aC,g,gk,bV,ge];exact aL
         ·have ge:((l.getD k default).ty=x.ty)=False:=eq_false he;have hd':∀ m,m<k+1→(l.getD m default).ty≠x.ty:=fun m hm=>by
            rcases abL m k with h | h
            ·exact hd m h
            ·obtain rfl:m=k:=by omega
             exact he
          clear hd hgo hno2 hne;generalize l.getD k default=y at *
          simp only[uo,xI,ae,aa,seval,iteOmega,toNatUp,aC,g,gk,bV,ge];refine aM (k+1) (by omega) ⟨by omega,hd'⟩ (aj (fun _=>0) ?_ ?_ rfl rfl) <;> simp only[wx,ai,am,aa,seval,iteOmega,toNatUp] <;> try rfl
        ·obtain rfl:k=i:=by omega
         have hgo:=hgo hd;clear hno2 hd;simp only[uo,xI,ae,aa,seval,iteOmega,toNatUp];refine aM (k+1) (by omega) ⟨by omega,hgo⟩ (aj (fun _=>0) ?_ ?_ rfl rfl) <;> simp only[wx,ai,am,aa,seval,iteOmega,toNatUp] <;> try rfl
      ·rw[decide_eq_false (hno hm)];clear hok hno hno2 hgo;generalize hx:l.getD i default=x at *
       unfold jN at hm;rcases adi x.ty 0 with m1 | m1
       ·have g1:(x.ty<0)=True:=eq_true m1;simp only[pd,qF,ae,aa,seval,iteOmega,toNatUp,aC,g,bV,g1];exact aL
       ·have g0:(x.ty<0)=False:=eq_false (by omega);rcases adi 4294967295 x.ty with m2 | m2
        ·have g1:(x.ty>4294967295)=True:=eq_true m2;simp only[pd,qF,ae,aa,seval,iteOmega,toNatUp,aC,g,bV,g0,g1];exact aL
        ·have g1:(x.ty>4294967295)=False:=eq_false (by omega);have g2:((x.da.length:Int)=32)=False:=eq_false (by omega);simp only[pd,qF,ae,aa,seval,iteOmega,toNatUp,aC,g,bV,g0,g1,g2];exact aL
     ·have hr:dj l:=NL h1 h4 fun j hj=>hok j (by omega)
      rw[decide_eq_true hr];clear hok hr;simp only[pd,qF,ae,aa,seval,iteOmega,toNatUp];exact aL
def NM:aH:=⟨2,17,.seq (.reg [oO 2 (.box .roBox (.t 0)),oO 3 (.box .roBox (.t 1)),oO 4 (.mv (.k (.c (.d (.bool false)))))]) (.seq (.reg [oO 5 (.fieldAddr 0 (.t 2)),oO 6 (.load .sc (.t 5)),oO 7 (.fieldAddr 0 (.t 3)),oO 8 (.load .sc (.t 7)),oO 9 (.call 20 [(.t 6),(.t 8)] none),oM 10 9,oG 11 (.fieldAddr 1 (.t 2)) 10 true,oG 12 (.load .sc (.t 11)) 10 true,oG 13 (.fieldAddr 1 (.t 3)) 10 true,oG 14 (.load .sc (.t 13)) 10 true,oG 15 (.call 20 [(.t 12),(.t 14)] none) 10 true,oO 16 (.pick (.t 10) (.t 15) (.k (.c (.d (.bool false))))),oM 4 16]) (.ret)),[(4,none)]⟩
theorem YT:aG Tryz.prog { own:=[],comp:=[],frz:=[],nils:=[] } Tryz.f32=some NM:=by kernel_rfl
theorem O9 (G:ah) (a b:List UInt8):aw Tryz.prog G 32 [.agg [.sl (a.map bD),.sl (b.map bD)],.agg [.sl (a.map bD),.sl (b.map bD)]] (.w (.c (.d (.bool true)))):=by
  refine aI Tryz.func32 YT rfl rfl ?_;have c1:=nY G a a;have c2:=nY G b b;rw[beq_self_eq_true] at c1 c2;simp only[NM,af,ae,aa,seval,iteOmega,toNatUp];refine sD (c1) ?_;refine sD (c2) ?_;exact aL
theorem Gp {α:Type} (k:Int) (v:α):∀ es:List (Int×α),(cu es k v).map (·.1)=if k∈es.map (·.1) then es.map (·.1) else es.map (·.1)++[k]
  | []=>rfl
  | (y,u)::r=>by
    simp only[cu];by_cases e:y=k
    ·subst e;rw[if_pos rfl,if_pos (by simp)];rfl
    ·rw[if_neg e,abd,Gp k v r,abd];by_cases h:k∈r.map (·.1)
     ·rw[if_pos h,if_pos (abD _ h)]
     ·rw[if_neg h,if_neg (by
      intro q;rcases abr.1 q with q | q
      ·exact e q.symm
      ·exact h q),abz]
theorem Re {α:Type} {es:List (Int×α)} (h:(es.map (·.1)).Nodup) (k:Int) (v:α):((cu es k v).map (·.1)).Nodup:=by
  rw[Gp];split
  ·exact h
  ·rename_i hk;refine acI.2 ⟨h,by simp,fun a ha b hb e=>?_⟩;rw[abe] at hb;subst hb e;exact hk ha
theorem km {α:Type} (y:Int) (u:α) (r:List (Int×α)) (k:Int):ba ((y,u)::r) k=if y=k then some u else ba r k:=by
  unfold ba;by_cases e:y=k
  ·subst e; simp
  ·rw[if_neg e,ab6 (by simpa using e)]
theorem A3 {α:Type}:∀ {es:List (Int×α)} {k:Int} {v:α},(es.map (·.1)).Nodup→(k,v)∈es→ba es k=some v
  | (y,u)::r,k,v,hn,h=>by
    rw[abd,List.nodup_cons] at hn;rw[km];rcases abr.1 h with h | h
    ·cases h; rw[if_pos rfl]
    ·have:y≠k:=fun e=>hn.1 (e ▸ abB.2 ⟨_,h,rfl⟩)
     rw[if_neg this];exact A3 hn.2 h
theorem Oa {α:Type}:∀ {es:List (Int×α)} {k:Int} {v:α},ba es k=some v→(k,v)∈es
  | [],_,_,h=>by cases h
  | (y,u)::r,k,v,h=>by
    rw[km] at h;by_cases e:y=k
    ·rw[if_pos e] at h; cases h; subst e; exact abK
    ·rw[if_neg e] at h; exact abD _ (Oa h)
theorem LC {α β:Type} (f:α→β):∀ (es:List (Int×α)) (k:Int),ba (es.map fun p=>(p.1,f p.2)) k=(ba es k).map f
  | [],_=>rfl
  | (y,u)::r,k=>by
    rw[abd,km,km,LC f r k];split <;> rfl
def fN (l:List Ek):Nat→List (Int×List Ek)
  | 0=>[]
  | i+1=>cu (fN l i) (l.getD i default).ty ((ba (fN l i) (l.getD i default).ty).getD []++[l.getD i default])
theorem zn (l:List Ek):∀ i,((fN l i).map (·.1)).Nodup
  | 0=>List.nodup_nil
  | i+1=>Re (zn l i) _ _
theorem Uq (l:List Ek) (r:Ek) (k:Int):aJ (l++[r]) k=if r.ty=k then aJ l k++[r] else aJ l k:=by
  unfold aJ;rw[List.filter_append];by_cases h:r.ty=k
  ·rw[if_pos h,List.filter_cons_of_pos (by simpa using h)]; rfl
  ·rw[if_neg h,List.filter_cons_of_neg (by simpa using h)]; simp
theorem B4 (l:List Ek):∀ (i:Nat),i≤l.length→∀ k,ba (fN l i) k=if aJ (l.take i) k=[] then none else some (aJ (l.take i) k)
  | 0,_,k=>by rw[abS]; rfl
  | i+1,hi,k=>by
    have ih:=B4 l i (by omega);have hg:(ba (fN l i) (l.getD i default).ty).getD []=aJ (l.take i) (l.getD i default).ty:=by
      rw[ih];split
      ·rename_i h; rw[h]; rfl
      ·rfl
    rw[fN,LB,hg,mJ (by omega),Uq];by_cases h:k=(l.getD i default).ty
    ·subst h;rw[if_pos rfl,if_pos rfl,if_neg (by simp)]
    ·rw[if_neg h,if_neg (show ¬ (l.getD i default).ty=k from fun e=>h e.symm),ih]
def xU (l:List Ek):List (Int×List Ek):=fN l l.length
theorem B5 (l:List Ek) (k:Int):ba (xU l) k=if aJ l k=[] then none else some (aJ l k):=by
  have:=B4 l l.length (abl _) k;rw[abv] at this;exact this
theorem WG {l:List Ek} {k:Int} {x:List Ek} (h:(k,x)∈xU l):x=aJ l k∧x≠[]:=by
  have:=A3 (zn l _) h;rw[show ba (fN l l.length) k=_ from B5 l k] at this;split at this
  ·cases this
  ·rename_i h2; cases this; exact⟨rfl,h2⟩
theorem WH {l:List Ek} {k:Int} (h:aJ l k≠[]):(k,aJ l k)∈xU l:=Oa (by rw[B5,if_neg h])
def db (l:List Ek):List (Int×D):=(xU l).map fun p=>(p.1,.sl (p.2.map ak))
def cI (l:List Ek):D:=.mp .i64 (db l)
theorem B8 (l:List Ek) (k:Int):(ba (db l) k).getD (.sl [])=.sl ((aJ l k).map ak):=by
  unfold db;rw[LC (fun x:List Ek=>D.sl (x.map ak)),B5];split
  ·rename_i h; rw[h]; rfl
  ·rfl
theorem LD {l:List Ek} {p:Int×D} (h:p∈db l):p=(p.1,.sl ((aJ l p.1).map ak))∧aJ l p.1≠[]:=by
  obtain⟨⟨k,x⟩,h1,rfl⟩:=abB.1 h;obtain⟨rfl,h2⟩:=WG h1;exact⟨rfl,h2⟩
theorem WI {l:List Ek} {k:Int} (h:aJ l k≠[]):(k,D.sl ((aJ l k).map ak))∈db l:=abB.2 ⟨_,WH h,rfl⟩
theorem rX:cI []=.mp .i64 []:=rfl
def cN:List (Int×List Ek)→Nat→List (Int×C)
  | [],_=>[]
  | p::r,j=>(p.1,.own (8*j+3) 3 0 p.2.length)::cN r (j+1)
theorem Oc:∀ (es:List (Int×List Ek)) (b:Nat) (k:Int),ba (cN es b) k=none∧ba es k=none∨∃ j x,ba es k=some x∧es[j]?=some (k,x)∧ba (cN es b) k=some (.own (8*(b+j)+3) 3 0 x.length)∧∀ c,cu (cN es b) k c=((cN es b).set j (k,c))∧∀ y,cu es k y=es.set j (k,y)
  | [],_,_=>.inl ⟨rfl,rfl⟩
  | (y,u)::r,b,k=>by
    by_cases e:y=k
    ·subst e;refine .inr ⟨0,u,by rw[km,if_pos rfl],rfl,by rw[cN,km,if_pos rfl]; rfl,fun c=>⟨?_,fun z=>?_⟩⟩
     ·rw[cN,cu,if_pos rfl]; rfl
     ·rw[cu,if_pos rfl]; rfl
    ·rcases Oc r (b+1) k with ⟨h1,h2⟩ | ⟨j,x,h1,h2,h3,h4⟩
     ·exact .inl ⟨by rw[cN,km,if_neg e,h1],by rw[km,if_neg e,h2]⟩
     ·refine .inr ⟨j+1,x,by rw[km,if_neg e,h1],h2,?_,fun c=>⟨?_,fun z=>?_⟩⟩
      ·rw[cN,km,if_neg e,h3,show b+1+j=b+(j+1) by omega]
      ·rw[cN,cu,if_neg e,(h4 c).1]; rfl
      ·rw[cu,if_neg e,(h4 c).2 z]; rfl
theorem Ai {α:Type}:∀ {es:List (Int×α)} {k:Int} (v:α),ba es k=none→cu es k v=es++[(k,v)]
  | [],_,_,_=>rfl
  | (y,u)::r,k,v,h=>by
    rw[km] at h;by_cases e:y=k
    ·rw[if_pos e] at h; cases h
    ·rw[if_neg e] at h;rw[cu,if_neg e,Ai v h,abz]
theorem LE:∀ (es:List (Int×List Ek)) (b:Nat),(cN es b).length=es.length
  | [],_=>rfl
  | _::r,b=>by rw[cN,acj,LE r,acj]
theorem rY:∀ (es:List (Int×List Ek)) (b j:Nat),(cN es b)[j]?=(es[j]?).map fun p=>(p.1,.own (8*(b+j)+3) 3 0 p.2.length)
  | [],_,_=>rfl
  | p::r,b,0=>rfl
  | p::r,b,j+1=>by rw[cN,ab1,rY r (b+1) j,ab1,show b+1+j=b+(j+1) by omega]
def gB (es:List (Int×List Ek)):aK:=fun id=>if id=1 then some (.mp .i64 (cN es 0)) else if id%8=3 then (es[id / 8]?).map fun p=>.row 3 (p.2.map ak) else none
def iq:Nat→Bool:=fun id=>decide (id=1) || decide (id%8=3)
theorem Zp (es:List (Int×List Ek)):gB es 1=some (.mp .i64 (cN es 0)):=rfl
theorem wm (es:List (Int×List Ek)) (j:Nat):gB es (8*j+3)=(es[j]?).map fun p=>.row 3 (p.2.map ak):=by
  unfold gB;rw[if_neg (by omega),if_pos (by omega),show (8*j+3) / 8=j by omega]
theorem B9 (j:Nat):iq (8*j)=false:=by
  unfold iq;rw[decide_eq_false (by omega),decide_eq_false (by omega)]; rfl
theorem Od (j:Nat):iq (8*j+3)=true:=by
  unfold iq;rw[decide_eq_true (show (8*j+3)%8=3 by omega),Bool.or_true]
theorem uq {es:List (Int×List Ek)} {id:Nat} {o:Ob} (h:gB es id=some o):(id=1∧o=.mp .i64 (cN es 0))∨∃ j p,id=8*j+3∧es[j]?=some p∧o=.row 3 (p.2.map ak):=by
  unfold gB at h;split at h
  ·rename_i e; cases h; exact .inl ⟨e,rfl⟩
  ·split at h
   ·obtain⟨p,h1,rfl⟩:=aa8.1 h;exact .inr ⟨id / 8,p,by omega,h1,rfl⟩
   ·cases h
theorem WJ {es:List (Int×List Ek)} {b i:Nat} (h:i∈(cN es b).flatMap fun p=>p.2.ids):∃ j,i=8*j+3:=by
  obtain⟨p,h1,h2⟩:=abj.1 h;obtain⟨j,hj⟩:=List.getElem?_of_mem h1;rw[rY] at hj;obtain⟨q,_,rfl⟩:=aa8.1 hj;have:i=8*(b+j)+3:=by simpa [C.ids] using h2
  exact⟨b+j,this⟩
theorem A4 {σ:St} (g:Nat→Nat) {fl:List (Nat×V)} {es:List (Int×List Ek)} (h1:my σ.f g fl) (hm:σ.h (g 1)=some (.mp .i64 ((cN es 0).map fun p=>(p.1,p.2.ren g)))) (hr:∀ j p,es[j]?=some p→σ.h (g (8*j+3))=some (.row 3 (p.2.map ak)))
    (hg1:∀ j,g 1≠g (8*j+3)) (hg2:∀ i j,i<es.length→j<es.length→g (8*i+3)=g (8*j+3)→i=j) (hf:(fl.flatMap fun p=>p.2.ids).all (fun i=>iq i)=true):eP σ ⟨aQ fl,gB es,iq⟩:=by
  refine⟨⟨g,Bf (Av h1),fun i o ho=>?_,fun i j hi hj e=>?_⟩,fun t i hi=>aby.1 hf i (J7 hi),fun i o ho=>?_⟩
  ·rcases uq ho with ⟨rfl,rfl⟩ | ⟨j,p,rfl,hp,rfl⟩
   ·exact hm
   ·exact hr j p hp
  ·obtain⟨oi,hi⟩:=abA.1 hi;obtain⟨oj,hj⟩:=abA.1 hj;rcases uq hi with ⟨rfl,_⟩ | ⟨a,p,rfl,hp,_⟩ <;> rcases uq hj with ⟨rfl,_⟩ | ⟨b,q,rfl,hq,_⟩
   ·rfl
   ·exact absurd e (hg1 b)
   ·exact absurd e.symm (hg1 a)
   ·rw[hg2 a b (abt.1 hp).1 (abt.1 hq).1 e]
  ·rcases uq ho with ⟨rfl,rfl⟩ | ⟨j,p,rfl,hp,rfl⟩
   ·refine⟨rfl,fun i hi=>?_⟩;obtain⟨j,rfl⟩:=WJ (show i∈(cN es 0).flatMap fun p=>p.2.ids from hi);exact Od j
   ·exact⟨Od j,fun i hi=>by cases hi⟩
theorem Gq (es:List (Int×List Ek)):∀ (r:List (Int×List Ek)) (b:Nat),(∀ j p,r[j]?=some p→gB es (8*(b+j)+3)=some (.row 3 (p.2.map ak)))→me (gB es) (cN r b)=some (r.map fun p=>(p.1,D.sl (p.2.map ak)))
  | [],_,_=>rfl
  | p::r,b,h=>by
    have h0:=h 0 p rfl;have ih:=Gq es r (b+1) fun j q hq=>by have:=h (j+1) q hq; rw[show b+(j+1)=b+1+j by omega] at this; exact this
    have hd:eu (gB es) (.own (8*b+3) 3 0 p.2.length)=some (.sl (p.2.map ak)):=by
      simp only[eu];rw[show b+0=b from rfl] at h0;rw[h0];simp[dU,aa9]
    simp only[cN,me,hd,ih,D.one,if_true,abd]
theorem SC (es:List (Int×List Ek)):me (gB es) (cN es 0)=some (es.map fun p=>(p.1,D.sl (p.2.map ak))) :=
  Gq es es 0 fun j p hp=>by rw[ab5,wm,hp]; rfl
theorem sJ {l:List Ek} {t:Int} (h:∀ r∈l,r.ty=t) (k:Int):aJ l k=if k=t then l else []:=by
  by_cases e:k=t
  ·rw[if_pos e,e,Wt h]
  ·rw[if_neg e];exact YI fun r hr q=>e (by rw[← q,h r hr])
def bJ (a:Ek) (b x h p:List Ek):List Ek:=a::(b++(x++(h++p)))
theorem ZX {a:Ek} {b x h p:List Ek} (h1:a.ty=1) (h4:∀ r∈b,r.ty=4) (h5:∀ r∈x,r.ty=5) (h6:∀ r∈h,r.ty=6) (h7:∀ r∈p,r.ty=7) (k:Int) :
    aJ (bJ a b x h p) k=(if k=1 then [a] else [])++((if k=4 then b else [])++((if k=5 then x else [])++((if k=6 then h else [])++(if k=7 then p else [])))):=by
  have e:bJ a b x h p=[a]++(b++(x++(h++p))):=rfl;rw[e,pF,pF,pF,pF,sJ (l:=[a]) (t:=1) (fun r hr=>by rw[abe.1 hr]; exact h1),sJ h4,sJ h5,sJ h6,sJ h7]
def cE:Ek:=⟨true,0,[]⟩
theorem Cj {a:Ek} {b x h p:List Ek} {P:Ek→Prop} (h1:P a) (h4:∀ r∈b,P r) (h5:∀ r∈x,P r) (h6:∀ r∈h,P r) (h7:∀ r∈p,P r):∀ r∈bJ a b x h p,P r:=by
  intro r hr;rcases abr.1 hr with rfl | hr
  ·exact h1
  ·rcases abn.1 hr with hr | hr
   ·exact h4 r hr
   ·rcases abn.1 hr with hr | hr
    ·exact h5 r hr
    ·rcases abn.1 hr with hr | hr
     ·exact h6 r hr
     ·exact h7 r hr
theorem Dc {a:Ek} {b x h p:List Ek} (h1:a.ty=1) (h4:∀ r∈b,r.ty=4) (h5:∀ r∈x,r.ty=5) (h6:∀ r∈h,r.ty=6) (h7:∀ r∈p,r.ty=7)
    (l4:b.length≤1) (l5:x.length≤8) (l6:h.length≤1) (l7:p.length≤1) (b1:a.bo.length%2=0∧a.bo.length≤255) (b4:∀ r∈b,r.bo.length%2=0∧r.bo.length≤255) (b5:∀ r∈x,r.bo.length≤255) (b6:∀ r∈h,r.bo.length≤255) (b7:∀ r∈p,r.bo.length=2) :
    cW (bJ a b x h p++[cE])=0∧dM (bc (bJ a b x h p++[cE]))=0∧aB (bc (bJ a b x h p++[cE]))=bJ a b x h p++[cE]∧de (bc (bJ a b x h p++[cE]))∧fp (bJ a b x h p++[cE])=false ∧
      aJ (bJ a b x h p++[cE]) 1=[a]∧aJ (bJ a b x h p++[cE]) 2=[]∧aJ (bJ a b x h p++[cE]) 4=b∧aJ (bJ a b x h p++[cE]) 5=x∧aJ (bJ a b x h p++[cE]) 6=h∧aJ (bJ a b x h p++[cE]) 7=p:=by
  have al:=ZX h1 h4 h5 h6 h7;have z1:(1:Int)≠4∧(1:Int)≠5∧(1:Int)≠6∧(1:Int)≠7:=by decide
  have al0:aJ (bJ a b x h p) 0=[]:=by rw[al]; rfl
  have al1:aJ (bJ a b x h p) 1=[a]:=by rw[al]; rfl
  have al2:aJ (bJ a b x h p) 2=[]:=by rw[al]; rfl
  have al4:aJ (bJ a b x h p) 4=b:=by
    rw[al]
    show []++(b++([]++([]++[])))=b
    simp
  have al5:aJ (bJ a b x h p) 5=x:=by
    rw[al]
    show []++([]++(x++([]++[])))=x
    simp
  have al6:aJ (bJ a b x h p) 6=h:=by
    rw[al]
    show []++([]++([]++(h++[])))=h
    simp
  have al7:aJ (bJ a b x h p) 7=p:=by
    rw[al]; rfl
  have en:∀ k:Int,(0:Int)≠k→aJ (bJ a b x h p++[cE]) k=aJ (bJ a b x h p) k:=fun k hk=>by
    unfold cE;rw[pF,jp hk,mT,abm]
  have hl:(bJ a b x h p).length≤12:=by
    unfold bJ;rw[acj,aba,aba,aba]; omega
  have ok:cW (bJ a b x h p++[cE])=0:=by
    refine (s6 (fun r hr=>?_) (by rw[aba]; show _+1≤64; omega)).1;rcases abn.1 hr with hr | hr
    ·refine Cj (P:=fun r=>0≤r.ty∧r.ty≤7∧r.bo.length≤255) ?_ ?_ ?_ ?_ ?_ r hr
     ·exact⟨by omega,by omega,b1.2⟩
     ·exact fun r hr=>⟨by rw[h4 r hr]; decide,by rw[h4 r hr]; decide,(b4 r hr).2⟩
     ·exact fun r hr=>⟨by rw[h5 r hr]; decide,by rw[h5 r hr]; decide,b5 r hr⟩
     ·exact fun r hr=>⟨by rw[h6 r hr]; decide,by rw[h6 r hr]; decide,b6 r hr⟩
     ·exact fun r hr=>⟨by rw[h7 r hr]; decide,by rw[h7 r hr]; decide,by rw[b7 r hr]; decide⟩
    ·rw[abe.1 hr]; exact fg (by decide) (by decide)
  obtain⟨d1,d2⟩:=OQ ok;have fm:j9 (bJ a b x h p++[cE]):=by
    refine NG al0 (by rw[al1]; exact abl _) (by rw[al4]; exact l4) (by rw[al6]; exact l6) (by rw[al7]; exact l7) ?_;refine Cj ?_ ?_ ?_ ?_ ?_
    ·exact⟨fun _=>b1.1,fun q=>absurd (h1.symm.trans q) (by decide)⟩
    ·exact fun r hr=>⟨fun _=>(b4 r hr).1,fun q=>absurd ((h4 r hr).symm.trans q) (by decide)⟩
    ·exact fun r hr=>⟨fun q=>by rcases q with q | q <;> exact absurd ((h5 r hr).symm.trans q) (by decide),fun q=>absurd ((h5 r hr).symm.trans q) (by decide)⟩
    ·exact fun r hr=>⟨fun q=>by rcases q with q | q <;> exact absurd ((h6 r hr).symm.trans q) (by decide),fun q=>absurd ((h6 r hr).symm.trans q) (by decide)⟩
    ·exact fun r hr=>⟨fun q=>by rcases q with q | q <;> exact absurd ((h7 r hr).symm.trans q) (by decide),fun _=>b7 r hr⟩
  have st:fp (bJ a b x h p++[cE])=false:=by
    unfold fp;rw[aca];intro r hr;have:r.ty≤7:=by
      rcases abn.1 hr with hr | hr
      ·refine Cj (P:=fun r=>r.ty≤7) (by omega) ?_ ?_ ?_ ?_ r hr
       ·exact fun r hr=>by rw[h4 r hr]; decide
       ·exact fun r hr=>by rw[h5 r hr]; decide
       ·exact fun r hr=>by rw[h6 r hr]; decide
       ·exact fun r hr=>by rw[h7 r hr]; decide
      ·rw[abe.1 hr]; exact (show (0:Int)≤7 by decide)
    rw[abH];exact fun q=>absurd (of_decide_eq_true q.2) (by omega)
  exact⟨ok,d1,d2,⟨d1,by rw[d2]; exact fm⟩,st,by rw[en 1 (by decide),al1],by rw[en 2 (by decide),al2],by rw[en 4 (by decide),al4],by rw[en 5 (by decide),al5],by rw[en 6 (by decide),al6],by rw[en 7 (by decide),al7]⟩
theorem Dd {a:Ek} {b x h p:List Ek} {c:Ch} {q:List UInt8} (hv:dt c) (hq:ji q)
    (fm:de (bc (bJ a b x h p++[cE]))) (dl:aB (bc (bJ a b x h p++[cE]))=bJ a b x h p++[cE]) (st:fp (bJ a b x h p++[cE])=false)
    (a2:aJ (bJ a b x h p++[cE]) 2=[]) (a5:aJ (bJ a b x h p++[cE]) 5=x) (l5:x.length≤8) (c5:∀ r∈x,r.bo.length=104) :
    (cZ (bJ a b x h p++[cE]) 1 (ew q)=none∨cZ (bJ a b x h p++[cE]) 4 (ez q)=none→bW c q (bc (bJ a b x h p++[cE]))=10) ∧
      (∀ v w,cZ (bJ a b x h p++[cE]) 1 (ew q)=some v→cZ (bJ a b x h p++[cE]) 4 (ez q)=some w→x.length≠0→bW c q (bc (bJ a b x h p++[cE]))=0 ∧
        gE c q (bc (bJ a b x h p++[cE]))=⟨v,w,bg c v w 0,bg c v w 1,x.map (·.bo),mG (bJ a b x h p++[cE]),kX (bJ a b x h p++[cE])⟩):=by
  generalize bJ a b x h p++[cE]=L at *
  have n5:(aF L 5).length=x.length:=by rw[cF,a5]
  have n2:(aF L 2).length=0:=by rw[cF,a2]; rfl
  have ck:gD L=x.map (·.bo):=by unfold gD; rw[a5]
  have e:bW c q (bc L)=if ¬ ((cZ L 1 (ew q)).isSome∧(cZ L 4 (ez q)).isSome∧(aF L 5).length≠0) then 10 else if 8<(aF L 5).length then 8 else if ¬ ∀ x∈gD L,x.length=104 then 3 else 0:=by
    unfold bW;rw[dl,if_neg (not_not_intro hv),if_neg (not_not_intro hq),if_neg (not_not_intro fm),if_neg (by rw[st]; exact ac6),if_neg (not_not_intro n2)]
  refine⟨fun hno=>?_,fun v w e1 e4 h0=>?_⟩
  ·rw[e,if_pos];rintro⟨q1,q2,_⟩;rcases hno with hno | hno
   ·rw[hno] at q1; exact absurd q1 (by decide)
   ·rw[hno] at q2; exact absurd q2 (by decide)
  ·have e0:bW c q (bc L)=0:=by
     rw[e,if_neg,n5,if_neg (by omega),if_neg]
     ·refine not_not_intro fun y hy=>?_
      rw[ck] at hy;obtain⟨r,hr,rfl⟩:=abB.1 hy;exact c5 r hr
     ·refine not_not_intro ⟨by rw[e1]; rfl,by rw[e4]; rfl,by rw[n5]; exact h0⟩
   refine⟨e0,?_⟩;unfold gE;rw[if_pos e0,dl,e1,e4,ck];rfl
end Go.Proofs.YtlghfnidknfakaaGreatDoor
