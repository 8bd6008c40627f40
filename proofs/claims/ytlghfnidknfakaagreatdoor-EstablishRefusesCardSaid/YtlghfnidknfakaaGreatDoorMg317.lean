/- Texts of one's own, merged: from: Layer 19,without code: rings of keys (as fields: an ID and a key),cookies,and what the functions return. Own work. -/
import Derived.Test.YtlghfnidknfakaaGreatDoorMg310
import Derived.Test.YtlghfnidknfakaaGreatDoorMg314
import Derived.Test.YtlghfnidknfakaaGreatDoorMg316
import Derived.Test.YtlghfnidknfakaaGreatDoorMg311
import Derived.Test.YtlghfnidknfakaaGreatDoorMg37
set_option linter.unusedVariables false
set_option linter.unusedSimpArgs false
namespace Go.Proofs.YtlghfnidknfakaaGreatDoor
open Go.RowKit
def bM (l:List Fd):D:=.agg [.sl (l.map cw)]
def KV (l:List Fd):Prop:=∀ i j,i<j→j<l.length→(l.getD i default).ty≠(l.getD j default).ty
def cQ (l:List Fd):Prop:=1≤l.length∧l.length≤4∧(∀ f∈l,0≤f.ty∧f.ty≤4294967295∧f.da.length=32)∧(l.map Fd.ty).Nodup
instance (l:List Fd):Decidable (cQ l):=by unfold cQ; infer_instance
theorem vk {l:List Fd}:(l.map Fd.ty).Nodup↔KV l:=by
  unfold KV;rw[List.nodup_iff_pairwise_ne,List.pairwise_iff_getElem];constructor
  ·intro h i j hij hj;have:=h i j (by simp; omega) (by simp; omega) hij
   simpa [VS,VQ hj,VQ (show i<l.length by omega)] using this
  ·intro h i j hi hj hij;have hi':i<l.length:=by simpa using hi
   have hj':j<l.length:=by simpa using hj
   have:=h i j hij hj'
   simpa [VS,VQ hj',VQ hi'] using this
def o7:List UInt8:=[115,101,99,116,105,109,101,32,115,116,97,114,116]
def rJ:List UInt8:=[115,101,99,116,105,109,101,32,110,101,120,116]
def nX (seed:List UInt8):List UInt8:=gI seed o7 32
def nY (key:List UInt8):List UInt8:=gI key rJ 32
theorem Pj (s:List UInt8):(nX s).length=32:=vX _ _ _
theorem Pk (s:List UInt8):(nY s).length=32:=vX _ _ _
def iZ (id:Int) (seed:List UInt8):Int:=if id<0∨4294967295<id then 4 else if seed.length≠32 then 5 else 0
def mf (id:Int) (seed:List UInt8):List Fd:=if iZ id seed=0 then [⟨id,nX seed⟩] else []
def fI (l:List Fd):Int:=((l.getD 0 default).ty+1)%4294967296
def kq (l:List Fd):Fd:=⟨fI l,nY (l.getD 0 default).da⟩
def clash (l:List Fd):Bool:=(l.take 3).any fun f=>decide (f.ty=fI l)
def gY (l:List Fd):Int:=if cQ l then (if clash l=true then 7 else 0) else 3
def kr (l:List Fd):List Fd:=if gY l=0 then kq l::l.take 3 else []
def fp (algo:Int) (up down:List UInt8):List UInt8:=aQ algo.toNat 2++([0,0]++(up++down))
def eF (m:Fd):List UInt8:=aQ m.ty.toNat 4
def dN (m:Fd) (algo:Int) (up down nonce:List UInt8):List UInt8:=eF m++(nonce++gO m.da [eF m,nonce] (fp algo up down))
def iz (l:List Fd) (algo:Int) (up down nonce:List UInt8):Int :=
  if cQ l then (if algo<0∨65535<algo then 4 else if up.length≠32∨down.length≠32 then 5 else if nonce.length≠16 then 3 else 0) else 3
def mh (l:List Fd) (algo:Int) (up down nonce:List UInt8):List UInt8:=if iz l algo up down nonce=0 then dN (l.getD 0 default) algo up down nonce else []
def Lb (c:List UInt8):Nat:=if c.length≠104 then 0 else aY (a6 c 0 4)
def zz (m:Fd) (c:List UInt8):Int:=nW m.da [a6 c 0 4,a6 c 4 16] (c.drop 20)
def mi (m:Fd) (c:List UInt8):List UInt8:=zh m.da [a6 c 0 4,a6 c 4 16] (c.drop 20)
def zm (m:Fd) (c:List UInt8):Prop:=zz m c=0∧(mi m c).getD 2 0=0∧(mi m c).getD 3 0=0
instance (m:Fd) (c:List UInt8):Decidable (zm m c):=by unfold zm; infer_instance
structure VO where
  al:Int
  up:List UInt8
  dn:List UInt8
  ag:Int
theorem GD (algo:Int) {up down:List UInt8} (h1:up.length=32) (h2:down.length=32):(fp algo up down).length=68:=by
  simp[fp,ch,h1,h2]
theorem Pl {m:Fd} {algo:Int} {up down nonce:List UInt8} (hk:m.da.length=32) (i0:0≤m.ty) (i1:m.ty≤4294967295) (a0:0≤algo) (a1:algo≤65535) (h1:up.length=32) (h2:down.length=32) (hn:nonce.length=16) :
    (dN m algo up down nonce).length=104∧(Lb (dN m algo up down nonce):Int)=m.ty∧zm m (dN m algo up down nonce) ∧
      (aY (a6 (mi m (dN m algo up down nonce)) 0 2):Int)=algo∧a6 (mi m (dN m algo up down nonce)) 4 32=up∧a6 (mi m (dN m algo up down nonce)) 36 32=down:=by
  have hp:=GD algo h1 h2;have hi:(eF m).length=4:=ch _ _;have ha:df m.da [eF m,nonce] ((fp algo up down).length:Int)=0:=Eh hk (by simp) (fun x hx=>by simp at hx; rcases hx with rfl | rfl <;> omega) (by omega);have hs:(gO m.da [eF m,nonce] (fp algo up down)).length=84:=by rw[vV ha,VR,kx,q9,hp]
  have hl:(dN m algo up down nonce).length=104:=by
    unfold dN;simp only[VR,hi,hn,hs]
  have c1:a6 (dN m algo up down nonce) 0 4=eF m:=by
    unfold dN a6;rw[Xt];exact List.take_left' hi
  have c2:a6 (dN m algo up down nonce) 4 16=nonce:=by
    have:=mJ (eF m) nonce (gO m.da [eF m,nonce] (fp algo up down));rw[hi,hn] at this;exact this
  have c3:(dN m algo up down nonce).drop 20=gO m.da [eF m,nonce] (fp algo up down):=by
    unfold dN;rw[← Wp];exact List.drop_left' (by simp[hi,hn])
  obtain⟨o1,o2⟩:=OZ ha;rw[← vV ha] at o1 o2;have x1:zz m (dN m algo up down nonce)=0:=by unfold zz; rw[c1,c2,c3]; exact o1
  have x2:mi m (dN m algo up down nonce)=fp algo up down:=by unfold mi; rw[c1,c2,c3]; exact o2
  have p2:fp algo up down=aQ algo.toNat 2++([0,0]++(up++down)):=rfl;refine⟨hl,?_,⟨x1,?_,?_⟩,?_,?_,?_⟩
  ·unfold Lb;rw[if_neg (by omega),c1];unfold eF;rw[get_put 4 (by decide)];omega
  ·rw[x2,p2,VS,Ws (by simp[ch])];simp[ch]
  ·rw[x2,p2,VS,Ws (by simp[ch])];simp[ch]
  ·rw[x2,p2];have:=mJ [] (aQ algo.toNat 2) ([0,0]++(up++down));rw[Xb,ch] at this;rw[show ([]:List UInt8).length=0 from rfl] at this;rw[this,get_put 2 (by decide)];omega
  ·rw[x2,p2];have:=mJ (aQ algo.toNat 2++[0,0]) up down;rw[Wp,VR,ch,h1] at this;exact this
  ·rw[x2,p2];have:=mJ (aQ algo.toNat 2++([0,0]++up)) down [];rw[Wc,Wp,Wp,VR,VR,ch,h1,h2] at this;exact this
def qi (seed:List UInt8):Nat→List UInt8
  | 0=>nX seed
  | n+1=>nY (qi seed n)
theorem Q8 (seed:List UInt8) (n:Nat):(qi seed n).length=32:=by
  cases n
  ·exact Pj _
  ·exact Pk _
def bP (s:Nat) (seed:List UInt8) (t:Nat):List Fd:=(List.range (min 4 (t+1))).map fun i=>⟨((s+(t-i):Nat):Int),qi seed (t-i)⟩
theorem lD (s:Nat) (seed:List UInt8) (t:Nat):(bP s seed t).length=min 4 (t+1):=by simp[bP]
theorem xL {s:Nat} {seed:List UInt8} {t i:Nat} (h:i<min 4 (t+1)):(bP s seed t).getD i default=⟨((s+(t-i):Nat):Int),qi seed (t-i)⟩:=by
  unfold bP;rw[VS,WM,XE h];rfl
theorem I3 {s:Nat} {seed:List UInt8} {t:Nat} (h:s+t≤4294967295):cQ (bP s seed t):=by
  have hl:=lD s seed t;refine⟨by omega,by omega,?_,?_⟩
  ·intro f hf;obtain⟨i,hi,rfl⟩:=Wm.1 hf;exact⟨by show (0:Int)≤((s+(t-i):Nat):Int); omega,by show ((s+(t-i):Nat):Int)≤4294967295; omega,Q8 _ _⟩
  ·rw[vk];intro i j hij hj;rw[hl] at hj;rw[xL (by omega),xL (by omega)]
   show ((s+(t-i):Nat):Int)≠((s+(t-j):Nat):Int)
   omega
theorem Nu (s:Nat) (seed:List UInt8) (h:s≤4294967295) (hs:seed.length=32):iZ s seed=0∧mf s seed=bP s seed 0:=by
  have e:iZ s seed=0:=by unfold iZ; rw[if_neg (by omega),if_neg (by omega)]
  exact⟨e,by unfold mf; rw[if_pos e]; rfl⟩
theorem Pm {s:Nat} {seed:List UInt8} {t:Nat} (h:s+t<4294967295):gY (bP s seed t)=0∧kr (bP s seed t)=bP s seed (t+1):=by
  have hl:=lD s seed t;have h0:=xL (s:=s) (seed:=seed) (t:=t) (i:=0) (by omega);have hn:fI (bP s seed t)=((s+(t+1):Nat):Int):=by
    unfold fI;rw[h0]
    show (((s+(t-0):Nat):Int)+1)%4294967296=_
    omega
  have hc:clash (bP s seed t)=false:=by
    unfold clash;rw[WS];intro f hf;obtain⟨i,hi,rfl⟩:=Wm.1 (W7 hf);rw[hn,decide_eq_false (by show ((s+(t-i):Nat):Int)≠((s+(t+1):Nat):Int); omega)];decide
  have e:gY (bP s seed t)=0:=by unfold gY; rw[if_pos (I3 (by omega)),if_neg (by rw[hc]; decide)]
  refine⟨e,?_⟩;unfold kr;rw[if_pos e];have hx:kq (bP s seed t)=⟨((s+(t+1):Nat):Int),qi seed (t+1)⟩:=by
    unfold kq;rw[hn,h0];rfl
  rw[hx];refine List.ext_getElem (by simp[lD]; omega) fun i i1 i2=>?_
  have hi:i<min 4 (t+1+1):=by rw[lD] at i2; exact i2
  cases i with
  | zero=>simp[bP]
  | succ i =>
    rw[List.getElem_cons_succ,WY];simp only[bP,Wn,Xd];rw[show t+1-(i+1)=t-i by omega]
def mj (b:List UInt8) (i:Nat):Int:=(aY (a6 b (2*i) 2):Int)
def i8 (b:List UInt8) (k:Nat):List Int:=(List.range k).map (mj b)
def ku (b:List UInt8):List Int:=i8 b (b.length / 2)
def eG (b:List UInt8):List Int:=if b.length%2=0 then ku b else []
theorem Pn (b:List UInt8) (k:Nat):i8 b (k+1)=i8 b k++[mj b k]:=by simp[i8,XA]
theorem GE (b:List UInt8) (k:Nat):(i8 b k).length=k:=by simp[i8]
theorem Q9 (b:List UInt8):(ku b).length=b.length / 2:=GE _ _
theorem Ts {b:List UInt8} {i:Nat} (h:2*i+2≤b.length):0≤mj b i∧mj b i≤65535:=by
  have:=(jb 2 (a6 b (2*i) 2) (lv (by omega)) (by decide)).1;unfold mj;omega
def aI (l:List Int):List UInt8:=l.flatMap fun n=>aQ n.toNat 2
theorem v4 (n:Int) (l:List Int):aI (n::l)=aQ n.toNat 2++aI l:=rfl
theorem Ra (a b:List Int):aI (a++b)=aI a++aI b:=by simp[aI]
theorem eW (l:List Int):(aI l).length=2*l.length:=by
  induction l with
  | nil=>rfl
  | cons n l ih=>rw[v4,VR,ch,ih,WO]; omega
def bH (l:List Int):Prop:=∀ n∈l,0≤n∧n≤65535
instance (l:List Int):Decidable (bH l):=by unfold bH; infer_instance
theorem Po {n:Int} {l:List Int} (h:bH (n::l)):(0≤n∧n≤65535)∧bH l:=⟨h n Wt,fun x hx=>h x (Wg _ hx)⟩
theorem Pp {x:List UInt8} (hx:x.length=2) (b:List UInt8):ku (x++b)=(aY x:Int)::ku b:=by
  have hl:(x++b).length / 2=b.length / 2+1:=by rw[VR]; omega
  unfold ku i8;rw[hl,List.range_succ_eq_map,VX,List.map_map]
  congr 1
  ·unfold mj;rw[show a6 (x++b) (2*0) 2=x from List.take_left' hx]
  ·refine WB fun i _=>?_
   show (aY (a6 (x++b) (2*(i+1)) 2):Int)=(aY (a6 b (2*i) 2):Int)
   rw[show 2*(i+1)=x.length+2*i by omega,P9]
theorem Re {l:List Int} (h:bH l):ku (aI l)=l:=by
  induction l with
  | nil=>rfl
  | cons n l ih =>
    obtain⟨h1,h2⟩:=Po h;rw[v4,Pp (ch _ _),ih h2,get_put 2 (by decide)]
    congr 1; omega
theorem jg {l:List Int} (h:bH l):eG (aI l)=l:=by
  unfold eG;rw[if_pos (by rw[eW]; omega),Re h]
def ml (l:List Ek) (k:Int) (i:Nat):List Nat:=(List.range i).filter fun j=>decide ((l.getD j default).ty=k)
def bI (l:List Ek) (k:Int):List Nat:=ml l k l.length
def am (l:List Ek) (k:Int):List Ek:=l.filter fun r=>decide (r.ty=k)
theorem Rf {l:List Ek} {k:Int} {i:Nat} (h:(l.getD i default).ty=k):ml l k (i+1)=ml l k i++[i]:=by
  unfold ml;rw[XA,List.filter_append]
  congr 1
  rw[List.filter_cons,if_pos (decide_eq_true h),List.filter_nil]
theorem Tt {l:List Ek} {k:Int} {j:Nat} (h:j<(bI l k).length):(bI l k).getD j 0<l.length∧(l.getD ((bI l k).getD j 0) default).ty=k:=by
  have hm:(bI l k).getD j 0∈bI l k:=by
    rw[VS,VQ h];exact Wq h
  obtain⟨h1,h2⟩:=Xk.1 hm;exact⟨Xu.1 h1,of_decide_eq_true h2⟩
theorem Ma (l:List Ek):(List.range l.length).map (fun i=>l.getD i default)=l:=by
  refine List.ext_getElem (by simp) fun i h1 h2=>?_
  rw[Wn,Xd,VS,VQ h2]; rfl
theorem GF (l:List Ek) (k:Int):(bI l k).map (fun i=>l.getD i default)=am l k:=by
  have:am l k=((List.range l.length).map (fun i=>l.getD i default)).filter fun r=>decide (r.ty=k):=by rw[Ma]; rfl
  rw[this,List.filter_map];rfl
theorem bJ (l:List Ek) (k:Int):(bI l k).length=(am l k).length:=by rw[← GF,VZ]
theorem kG {l:List Ek} {k:Int} {j:Nat} (h:j<(bI l k).length):l.getD ((bI l k).getD j 0) default=(am l k).getD j default:=by
  rw[← GF,VS (l:=(bI l k).map _),WM,VQ h,VS (l:=bI l k),VQ h];rfl
def om (r:Ek):Prop:=((r.ty=1∨r.ty=4)→r.bo.length%2=0)∧(r.ty=7→r.bo.length=2)
instance (r:Ek):Decidable (om r):=by unfold om; infer_instance
def zA (l:List Ek):Prop:=(bI l 0).length=1∧(bI l 0).getD 0 0=l.length-1∧(l.getD ((bI l 0).getD 0 0) default).bo.length=0∧(bI l 1).length≤1∧(bI l 4).length≤1∧(bI l 6).length≤1∧(bI l 7).length≤1
instance (l:List Ek):Decidable (zA l):=by unfold zA; infer_instance
def iA (l:List Ek):Prop:=zA l∧∀ r∈l,om r
instance (l:List Ek):Decidable (iA l):=by unfold iA; infer_instance
def dV (b:List UInt8):Prop:=cN b=0∧iA (aD b)
instance (b:List UInt8):Decidable (dV b):=by unfold dV; infer_instance
def gZ (b:List UInt8):List Ek:=if dV b then aD b else []
def fq (l:List Ek):Bool:=l.any fun r=>r.cr&&decide (7<r.ty)
def dh (x y:List Int):Int:=if ¬ (bH x∧bH y) then 4 else if x.length=0∨16<x.length∨y.length=0∨16<y.length then 8 else 0
def dC (x y:List Int):List Ek:=[⟨true,1,aI x⟩,⟨true,4,aI y⟩,⟨true,0,[]⟩]
def bc (x y:List Int):List UInt8:=if dh x y=0 then aO (dC x y) else []
def dO (x y:List Int):Option Int:=x.find? fun v=>decide (v∈y)
def U1:List UInt8:=[115,101,99,116,105,109,101,32,107,101,121,115]
def li (p a:Int) (z:UInt8):List UInt8:=aI [p,a]++[z]
def gp (c:Ch) (p a:Int):Int:=if ¬ dv c then 3 else if ¬ bH [p,a] then 4 else 0
def bu (c:Ch) (p a:Int) (z:UInt8):List UInt8:=if gp c p a=0 then gI c.se (kh nF U1 (li p a z)) 32 else []
theorem mT {c:Ch} {p a:Int} {z:UInt8} (h:gp c p a=0):(bu c p a z).length=32:=by unfold bu; rw[if_pos h]; exact vX _ _ _
structure dP where
  pr:List Int
  al:List Int
  ho:ByteArray
  pt:Int
def dZ (p:dP):D:=.agg [.sl (p.pr.map zD),.sl (p.al.map zD),.str p.ho,.int .i64 p.pt]
def cC (code:Int):List UInt8:=aO [⟨true,2,aI [code]⟩,⟨true,0,[]⟩]
def iB (b:List UInt8):Prop:=dV b∧(bI (aD b) 1).length≠0∧(bI (aD b) 4).length≠0∧(bI (aD b) 2).length+(bI (aD b) 3).length+(bI (aD b) 5).length=0
instance (b:List UInt8):Decidable (iB b):=by unfold iB; infer_instance
def jy (ns:List (List UInt8)) (ho:ByteArray):Prop:=1≤ns.length∧ns.length≤8∧ho.size≤255∧∀ n∈ns,n.length=16
instance (ns:List (List UInt8)) (ho:ByteArray):Decidable (jy ns ho):=by unfold jy; infer_instance
def eb (l:List Ek) (k:Int):List Int:=eG (l.getD ((bI l k).getD 0 0) default).bo
def ft (r:List Fd) (c:Ch) (v a:Int) (ns:List (List UInt8)):List Ek:=ns.map fun n=>⟨false,5,mh r a (bu c v a 0) (bu c v a 1) n⟩
def gq (p:dP):List Ek:=(if p.ho.size=0 then [] else [⟨true,6,p.ho.data.toList⟩])++((if p.pt=0 then [] else [⟨true,7,aI [p.pt]⟩])++[⟨true,0,[]⟩])
def ew (p:dP) (r:List Fd) (c:Ch) (x y:List Int) (ns:List (List UInt8)):List Ek :=
  match dO x p.pr with
  | none=>[⟨true,1,[]⟩]
  | some v=>⟨true,1,aI [v]⟩::match dO y p.al with
    | none=>[⟨true,4,[]⟩]
    | some a=>⟨true,4,aI [a]⟩::ft r c v a ns
def eH (p:dP) (r:List Fd) (c:Ch):Int:=if ¬ (dv c∧cQ r) then 3 else if ¬ (bH p.pr∧bH p.al∧bH [p.pt]) then 4 else 0
def dD (p:dP) (r:List Fd) (c:Ch) (b:List UInt8) (ns:List (List UInt8)):List UInt8 :=
  if ¬ eH p r c=0 then [] else if ¬ iB b then cC 1 else if fq (aD b)=true then cC 0 else if ¬ jy ns p.ho then cC 2 else aO (ew p r c (eb (aD b) 1) (eb (aD b) 4) ns++gq p)
structure tY where
  pr:Int
  al:Int
  up:List UInt8
  dn:List UInt8
  ck:List (List UInt8)
  ho:List UInt8
  pt:Int
def jz (t:tY):D:=.agg [.int .i64 t.pr,.int .i64 t.al,.sl (t.up.map bD),.sl (t.dn.map bD),.sl (t.ck.map fun l=>D.sl (l.map bD)),.str ⟨t.ho.toArray⟩,.int .i64 t.pt]
def oo:tY:=⟨0,0,[],[],[],[],0⟩
def g8 (q:List UInt8):List Int:=eG ((aD q).getD 0 default).bo
def g9 (q:List UInt8):List Int:=eG ((aD q).getD 1 default).bo
def hC (q:List UInt8):Prop:=dV q∧(aD q).length=3∧dh (g8 q) (g9 q)=0∧bc (g8 q) (g9 q)=q
instance (q:List UInt8):Decidable (hC q):=by unfold hC; infer_instance
def eV (l:List Ek) (k:Int) (x:List Int):Option Int:=if (bI l k).length=1 then (if (eb l k).length=1∧(eb l k).getD 0 0∈x then some ((eb l k).getD 0 0) else none) else none
def i9 (l:List Ek):List (List UInt8):=(am l 5).map (·.bo)
def dQ (c:Ch) (q b:List UInt8):Int :=
  if ¬ dv c then 3 else if ¬ hC q then 3 else if ¬ dV b then 3 else if fq (aD b)=true then 11 else if (bI (aD b) 2).length≠0 then 7
  else if ¬ ((eV (aD b) 1 (g8 q)).isSome∧(eV (aD b) 4 (g9 q)).isSome∧(bI (aD b) 5).length≠0) then 10
  else if 8<(bI (aD b) 5).length then 8 else if ¬ ∀ x∈i9 (aD b),x.length=104 then 3 else 0
def ot (l:List Ek):List UInt8:=if (bI l 6).length=1 then (l.getD ((bI l 6).getD 0 0) default).bo else []
def ou (l:List Ek):Int:=if (bI l 7).length=1 then (aY (l.getD ((bI l 7).getD 0 0) default).bo:Int) else 0
def ja (c:Ch) (q b:List UInt8):tY :=
  if dQ c q b=0 then
    ⟨(eV (aD b) 1 (g8 q)).getD 0,(eV (aD b) 4 (g9 q)).getD 0,bu c ((eV (aD b) 1 (g8 q)).getD 0) ((eV (aD b) 4 (g9 q)).getD 0) 0,bu c ((eV (aD b) 1 (g8 q)).getD 0) ((eV (aD b) 4 (g9 q)).getD 0) 1,i9 (aD b),ot (aD b),ou (aD b)⟩
  else oo
theorem nh {m:Nat}:∀ {l:List Ek},(∀ r∈l,r.bo.length≤m)→(aO l).length≤l.length*(m+4)
  | [],_=>VY _
  | r::l,h=>by
    have ih:=nh fun x hx=>h x (Wg r hx)
    have h1:=h r Wt;rw[ly,VR,lA,WO,Wx,Nat.one_mul];omega
theorem nG {l:List Ek} (h:∀ r∈l,0≤r.ty∧r.ty≤7∧r.bo.length≤255) (hl:l.length≤64):bT l=0∧fc l=aO l:=by
  have h1:=nh (m:=255) fun r hr=>(h r hr).2.2
  exact rZ (fun r hr=>by obtain⟨a,b,c⟩:=h r hr; exact rY a (by omega) (by omega)) hl (by omega)
theorem fw (k:Int):am [] k=[]:=rfl
theorem mU (a b:List Ek) (k:Int):am (a++b) k=am a k++am b k:=List.filter_append a b
theorem iV {c:Bool} {t:Int} {b:List UInt8} {l:List Ek} {k:Int} (h:t=k):am (⟨c,t,b⟩::l) k=⟨c,t,b⟩::am l k:=by
  unfold am;rw[List.filter_cons,if_pos (decide_eq_true h)]
theorem cE {c:Bool} {t:Int} {b:List UInt8} {l:List Ek} {k:Int} (h:t≠k):am (⟨c,t,b⟩::l) k=am l k:=by
  unfold am;rw[List.filter_cons,if_neg (fun q=>h (of_decide_eq_true q))]
theorem dR {c:Bool} {t:Int} {b:List UInt8} (h1:0≤t∧t≤7) (h2:b.length≤255):0≤(⟨c,t,b⟩:Ek).ty∧(⟨c,t,b⟩:Ek).ty≤7∧(⟨c,t,b⟩:Ek).bo.length≤255:=⟨h1.1,h1.2,h2⟩
theorem lL {c:Bool} {t:Int} {b:List UInt8} (h:t≠7) (h2:t=1∨t=4→b.length%2=0):om ⟨c,t,b⟩:=⟨h2,fun q=>absurd q h⟩
theorem Ri {l:List Ek} {k:Int} (h:∀ r∈l,r.ty=k):am l k=l:=List.filter_eq_self.2 fun r hr=>decide_eq_true (h r hr)
theorem Ty {l:List Ek} {k:Int} (h:∀ r∈l,r.ty≠k):am l k=[]:=List.filter_eq_nil_iff.2 fun r hr q=>h r hr (of_decide_eq_true q)
theorem Tz {i:List Ek} {e:Ek} {k:Int} (h:am i k=[]) (he:e.ty=k):bI (i++[e]) k=[i.length]:=by
  have hl:(i++[e]).length=i.length+1:=by simp
  have hg:(i++[e]).getD i.length default=e:=by simp[VS]
  have h0:ml (i++[e]) k i.length=[]:=by
    have h1:ml (i++[e]) k i.length=ml i k i.length:=by
      refine List.filter_congr fun j hj=>?_
      have hj:=Xu.1 hj;rw[VS,WE hj,← VS]
    rw[h1];have:=bJ i k;rw[h] at this;exact Wr.1 this
  unfold bI;rw[hl,Rf (by rw[hg]; exact he),h0]; rfl
theorem su {i:List Ek} (h0:am i 0=[]) (h1:(am i 1).length≤1) (h4:(am i 4).length≤1) (h6:(am i 6).length≤1) (h7:(am i 7).length≤1) (hb:∀ r∈i,om r):iA (i++[⟨true,0,[]⟩]):=by
  have e:=Tz (e:=⟨true,0,[]⟩) h0 rfl;have en:∀ k:Int,(0:Int)≠k→am (i++[⟨true,0,[]⟩]) k=am i k:=fun k hk=>by rw[mU,cE hk,fw,Wc]
  refine⟨⟨by rw[e]; rfl,?_,?_,?_,?_,?_,?_⟩,fun r hr=>?_⟩
  ·rw[e]; simp
  ·rw[e]
   show ((i++[(⟨true,0,[]⟩:Ek)]).getD i.length default).bo.length=0
   simp[VS]
  ·rw[bJ,en 1 (by decide)]; exact h1
  ·rw[bJ,en 4 (by decide)]; exact h4
  ·rw[bJ,en 6 (by decide)]; exact h6
  ·rw[bJ,en 7 (by decide)]; exact h7
  ·rcases V8.1 hr with h | h
   ·exact hb r h
   ·rw[VU.1 h]; exact lL (by decide) fun _=>rfl
theorem pC {l:List Ek} {k:Int} {r:Ek} (h:am l k=[r]):eb l k=eG r.bo:=by
  have hl:(bI l k).length=1:=by rw[bJ,h]; rfl
  unfold eb;rw[kG (by omega),h]; rfl
theorem qb {x y:List Int} (h:dh x y=0):bH x∧bH y∧x.length≠0∧x.length≤16∧y.length≠0∧y.length≤16:=by
  unfold dh at h;by_cases h1:bH x∧bH y
  ·rw[if_neg (not_not_intro h1)] at h;by_cases h2:x.length=0∨16<x.length∨y.length=0∨16<y.length
   ·rw[if_pos h2] at h; exact absurd h (by decide)
   ·exact⟨h1.1,h1.2,by omega,by omega,by omega,by omega⟩
  ·rw[if_pos h1] at h; exact absurd h (by decide)
theorem xO {x y:List Int} (h:dh x y=0):bT (dC x y)=0∧fc (dC x y)=aO (dC x y):=by
  obtain⟨_,_,_,h1,_,h2⟩:=qb h;refine nG (fun r hr=>?_) (show 3≤64 by decide);unfold dC at hr;rcases V6.1 hr with rfl | hr
  ·exact dR (by decide) (by rw[eW]; omega)
  ·rcases V6.1 hr with rfl | hr
   ·exact dR (by decide) (by rw[eW]; omega)
   ·rw[VU.1 hr]; exact dR (by decide) (by decide)
theorem tg {x y:List Int} (h:dh x y=0):cN (bc x y)=0∧aD (bc x y)=dC x y∧dV (bc x y):=by
  have e:bc x y=aO (dC x y):=if_pos h;obtain⟨q1,q2⟩:=sW (xO h).1;rw[e];refine⟨q1,q2,q1,?_⟩;rw[q2];have n:∀ (k:Int),(1:Int)≠k→(4:Int)≠k→am [(⟨true,1,aI x⟩:Ek),⟨true,4,aI y⟩] k=[]:=fun k h1 h2=>by rw[cE h1,cE h2,fw]
  refine su (i:=[⟨true,1,aI x⟩,⟨true,4,aI y⟩]) (n 0 (by decide) (by decide)) ?_ ?_ ?_ ?_ ?_
  ·rw[iV rfl,cE (by decide),fw]; exact V0 _
  ·rw[cE (by decide),iV rfl,fw]; exact V0 _
  ·rw[n 6 (by decide) (by decide)]; exact VY _
  ·rw[n 7 (by decide) (by decide)]; exact VY _
  ·intro r hr;rcases V6.1 hr with rfl | hr
   ·exact lL (by decide) fun _=>by rw[eW]; omega
   ·rw[VU.1 hr]; exact lL (by decide) fun _=>by rw[eW]; omega
theorem Kc (x y:List Int):am (dC x y) 1=[⟨true,1,aI x⟩]∧am (dC x y) 4=[⟨true,4,aI y⟩]∧∀ k:Int,(1:Int)≠k→(4:Int)≠k→(0:Int)≠k→am (dC x y) k=[]:=by
  unfold dC;refine⟨?_,?_,fun k h1 h2 h3=>?_⟩
  ·rw[iV rfl,cE (by decide),cE (by decide),fw]
  ·rw[cE (by decide),iV rfl,cE (by decide),fw]
  ·rw[cE h1,cE h2,cE h3,fw]
theorem KW {x y:List Int} (h:dh x y=0):iB (bc x y)∧fq (aD (bc x y))=false∧eb (aD (bc x y)) 1=x∧eb (aD (bc x y)) 4=y:=by
  obtain⟨hx,hy,_⟩:=qb h;obtain⟨q1,q2,q3⟩:=tg h;obtain⟨a1,a4,an⟩:=Kc x y;unfold iB;rw[q2];refine⟨⟨q3,?_,?_,?_⟩,rfl,?_,?_⟩
  ·rw[bJ,a1]; exact Nat.one_ne_zero
  ·rw[bJ,a4]; exact Nat.one_ne_zero
  ·rw[bJ,bJ,bJ,an 2 (by decide) (by decide) (by decide),an 3 (by decide) (by decide) (by decide),an 5 (by decide) (by decide) (by decide)]; rfl
  ·rw[pC a1,jg hx]
  ·rw[pC a4,jg hy]
theorem zn {x y:List Int} (h:dh x y=0):hC (bc x y)∧g8 (bc x y)=x∧g9 (bc x y)=y:=by
  obtain⟨hx,hy,_⟩:=qb h;obtain⟨q1,q2,q3⟩:=tg h;have ex:g8 (bc x y)=x:=by
    unfold g8;rw[q2];exact jg hx
  have ey:g9 (bc x y)=y:=by
    unfold g9;rw[q2];exact jg hy
  refine⟨⟨q3,by rw[q2]; rfl,by rw[ex,ey]; exact h,by rw[ex,ey]⟩,ex,ey⟩
theorem kL {x y:List Int} {v:Int} (h:dO x y=some v):v∈x∧v∈y:=by
  obtain⟨h1,h2⟩:=List.find?_eq_some_iff_append.1 h;obtain⟨u,w,rfl,_⟩:=h2;exact⟨Wb _ Wt,of_decide_eq_true h1⟩
theorem I6 {l:List Ek} {k:Int} {x:List Int} {r:Ek} (h:am l k=[r]):eV l k x=if (eG r.bo).length=1∧(eG r.bo).getD 0 0∈x then some ((eG r.bo).getD 0 0) else none:=by
  unfold eV;rw[bJ,h,if_pos (show [r].length=1 from rfl),pC h]
theorem GH {l:List Ek} {k v:Int} {x:List Int} {c:Bool} (h:am l k=[⟨c,k,aI [v]⟩]) (hv:v∈x) (hs:0≤v∧v≤65535):eV l k x=some v:=by
  have e:eG (aI [v])=[v]:=jg fun n hn=>by rw[VU.1 hn]; exact hs
  rw[I6 h];dsimp only;rw[e,if_pos ⟨rfl,hv⟩];rfl
theorem Ew {l:List Ek} {k:Int} {x:List Int} {c:Bool} (h:am l k=[⟨c,k,[]⟩]):eV l k x=none:=by
  have e:eG (⟨c,k,[]⟩:Ek).bo=[]:=jg (l:=[]) fun n hn=>by cases hn
  rw[I6 h,e,if_neg (fun q=>absurd q.1 (by decide))]
theorem Rj (r:List Fd) (c:Ch) (v a:Int) (ns:List (List UInt8)):∀ e∈ft r c v a ns,e.ty=5∧e.cr=false:=fun e he=>by
  obtain⟨n,_,rfl⟩:=Wm.1 he;exact⟨rfl,rfl⟩
open IntWalk
def il (f:Fd):Prop:=0≤f.ty∧f.ty≤4294967295∧f.da.length=32
theorem Ja {l:List Fd} (h1:1≤l.length) (h2:l.length≤4) (h3:∀ i,i<l.length→il (l.getD i default)∧∀ k,k<i→(l.getD k default).ty≠(l.getD i default).ty):cQ l:=by
  refine⟨h1,h2,fun f hf=>?_,vk.2 fun i j hij hj=>(h3 j hj).2 i hij⟩;obtain⟨i,hi,rfl⟩:=WA hf;have:=(h3 i hi).1;rw[VS,VQ hi] at this;exact this
theorem lM {l:List Fd} (h:cQ l) {i:Nat} (hi:i<l.length):il (l.getD i default)∧∀ k,k<i→(l.getD k default).ty≠(l.getD i default).ty :=
  ⟨h.2.2.1 _ (Eu hi),fun k hk=>vk.1 h.2.2.2 k i hk hi⟩
def oa (l:List Fd) (i:Nat):St:=⟨aV [(1,.w (.c (.rp [.sl (l.map cw)]))),(3,.w (.c (.d (.int .i64 (i:Int)))))],hL [],uL []⟩
def tR (l:List Fd) (i k:Nat):St:=⟨aV [(1,.w (.c (.rp [.sl (l.map cw)]))),(3,.w (.c (.d (.int .i64 (i:Int))))),(4,.w (.c (.d (.int .i64 (k:Int)))))],hL [],uL []⟩
def qI:aN := .seq (.seq (.reg [oM 48 4,oM 49 3,oO 50 (.bin .lss (.t 48) (.t 49))]) (.cond (.t 50) (.skip) (.exit 2))) (.seq (.block 3 (.seq (.reg [oO 53 (.fieldAddr 0 (.t 1)),oO 54 (.load .sc (.t 53)),oM 55 4,oO 56 (.idxSl 2 (.t 54) (.t 55)),oO 57 (.fieldAddr 0 (.t 56)),oO 58 (.load .sc (.t 57)),oO 59 (.fieldAddr 0 (.t 1)),oO 60 (.load .sc (.t 59)),oM 61 3,oO 62 (.idxSl 2 (.t 60) (.t 61)),oO 63 (.fieldAddr 0 (.t 62)),oO 64 (.load .sc (.t 63)),oO 65 (.bin .eql (.t 58) (.t 64))]) (.cond (.t 65) (.seq (.reg [oO 2 (.mv (.k (.c (.d (.bool false)))))]) (.ret)) (.skip)))) (.reg [oM 51 4,oO 52 (.bin .add (.t 51) (kI 1)),oM 4 52]))
def mF:aN := .seq (.seq (.reg [oM 15 3,oO 16 (.fieldAddr 0 (.t 1)),oO 17 (.load .sc (.t 16)),oO 18 (.len (.t 17)),oO 19 (.bin .lss (.t 15) (.t 18))]) (.cond (.t 19) (.skip) (.exit 0))) (.seq (.block 1 (.seq (.seq (.reg [oO 22 (.fieldAddr 0 (.t 1)),oO 23 (.load .sc (.t 22)),oM 24 3,oO 25 (.idxSl 2 (.t 23) (.t 24)),oO 26 (.fieldAddr 0 (.t 25)),oO 27 (.load .sc (.t 26)),oO 28 (.bin .lss (.t 27) (kI 0)),oM 29 28,oG 30 (.fieldAddr 0 (.t 1)) 29 false,oG 31 (.load .sc (.t 30)) 29 false,oG 32 (.mv (.t 3)) 29 false,oG 33 (.idxSl 2 (.t 31) (.t 32)) 29 false,oG 34 (.fieldAddr 0 (.t 33)) 29 false,oG 35 (.load .sc (.t 34)) 29 false,oG 36 (.bin .gtr (.t 35) (kI 4294967295)) 29 false,oO 37 (.pick (.t 29) (.k (.c (.d (.bool true)))) (.t 36)),oM 38 37,oG 39 (.fieldAddr 0 (.t 1)) 38 false,oG 40 (.load .sc (.t 39)) 38 false,
 oG 41 (.mv (.t 3)) 38 false,oG 42 (.idxSl 2 (.t 40) (.t 41)) 38 false,oG 43 (.fieldAddr 1 (.t 42)) 38 false,oG 44 (.load .sc (.t 43)) 38 false,oG 45 (.len (.t 44)) 38 false,oG 46 (.bin .neq (.t 45) (kI 32)) 38 false,oO 47 (.pick (.t 38) (.k (.c (.d (.bool true)))) (.t 46))]) (.cond (.t 47) (.seq (.reg [oO 2 (.mv (.k (.c (.d (.bool false)))))]) (.ret)) (.skip))) (.seq (.reg [oO 4 (.mv (kI 0))]) (.block 2 (.loop qI))))) (.reg [oM 20 3,oO 21 (.bin .add (.t 20) (kI 1)),oM 3 21]))
def rK:aF:=⟨1,66,.seq (.reg [oO 1 (.box .roBox (.t 0)),oO 2 (.mv (.k (.c (.d (.bool false)))))]) (.seq (.seq (.reg [oO 5 (.fieldAddr 0 (.t 1)),oO 6 (.load .sc (.t 5)),oO 7 (.len (.t 6)),oO 8 (.bin .lss (.t 7) (kI 1)),oM 9 8,oG 10 (.fieldAddr 0 (.t 1)) 9 false,oG 11 (.load .sc (.t 10)) 9 false,oG 12 (.len (.t 11)) 9 false,oG 13 (.bin .gtr (.t 12) (kI 4)) 9 false,oO 14 (.pick (.t 9) (.k (.c (.d (.bool true)))) (.t 13))]) (.cond (.t 14) (.seq (.reg [oO 2 (.mv (.k (.c (.d (.bool false)))))]) (.ret)) (.skip))) (.seq (.seq (.reg [oO 3 (.mv (kI 0))]) (.block 0 (.loop mF))) (.seq (.reg [oO 2 (.mv (.k (.c (.d (.bool true)))))]) (.ret)))),[(2,none)]⟩
theorem Rl:aE Tryz.prog { own:=[],comp:=[],frz:=[],nils:=[] } Tryz.f73=some rK:=by kernel_rfl
set_option maxHeartbeats 3200000 in
theorem TH (G:ai) (l:List Fd) (hl:l.length≤9223372036854775807):au Tryz.prog G 73 [bM l] (.w (.c (.d (.bool (decide (cQ l)))))):=by
  refine aG Tryz.func73 Rl rfl rfl ?_;unfold bM;rcases Wv l.length 1 with h1 | h1
  ·have hno:¬ cQ l:=fun h=>by have:=h.1; omega
   rw[decide_eq_false hno];simp only[rK,ah,af,aa,seval,iteOmega,toNatUp];exact aJ
  ·rcases Wv 4 l.length with h4 | h4
   ·have hno:¬ cQ l:=fun h=>by have:=h.2.1; omega
    have g4:((l.length:Int)>4)=True:=eq_true (by omega);rw[decide_eq_false hno];simp only[rK,ah,af,aa,seval,iteOmega,toNatUp,g4];exact aJ
   ·have g4:((l.length:Int)>4)=False:=eq_false (by omega);simp only[rK,ah,af,aa,seval,iteOmega,toNatUp,g4];refine bd (oa l) (fun i=>l.length-i) (fun i=>i≤l.length∧∀ j,j<i→il (l.getD j default)∧∀ k,k<j→(l.getD k default).ty≠(l.getD j default).ty) 0 ⟨VY _,fun j hj=>by omega⟩ ?_ ?_
    ·refine aB (fun i=>0) ?_ ?_ rfl rfl <;> simp only[wx,aA,aK,aa,seval,iteOmega,toNatUp]
    ·rintro i ⟨hi,hok⟩;by_cases hlt:i<l.length
     ·have g:=me hlt;have hno:¬ il (l.getD i default)→¬ cQ l:=fun h hr=>h (lM hr hlt).1
      have hno2:∀ k,k<i→(l.getD k default).ty=(l.getD i default).ty→¬ cQ l:=fun k hk e hr=>(lM hr hlt).2 k hk e
      have hgo:il (l.getD i default)→(∀ k,k<i→(l.getD k default).ty≠(l.getD i default).ty)→∀ j,j<i+1→il (l.getD j default)∧∀ k,k<j→(l.getD k default).ty≠(l.getD j default).ty:=fun a b j hj=>by
        rcases Wv j i with h | h
        ·exact hok j h
        ·obtain rfl:j=i:=by omega
         exact⟨a,b⟩
      by_cases hm:il (l.getD i default)
      ·obtain⟨m1,m2,m3⟩:=hm;have g1:((l.getD i default).ty>4294967295)=False:=eq_false (by omega);have hgo:=hgo ⟨m1,m2,m3⟩;have est:oa l i=⟨aV [(1,.w (.c (.rp [.sl (l.map cw)]))),(3,.w (.c (.d (.int .i64 (i:Int)))))],hL [],uL []⟩:=rfl;rw[est];clear hok hno est;generalize hx:l.getD i default=x at *
       simp only[mF,af,aa,seval,iteOmega,toNatUp,aM,g,cw,g1,m3];refine bd (tR l i) (fun k=>i-k) (fun k=>k≤i∧∀ m,m<k→(l.getD m default).ty≠x.ty) 0 ⟨VY _,fun m hm=>by omega⟩ ?_ ?_
       ·refine aB (fun i=>0) ?_ ?_ rfl rfl <;> simp only[wx,aA,aK,aa,seval,iteOmega,toNatUp] <;> try rfl
       ·rintro k ⟨hk,hd⟩;by_cases hki:k<i
        ·have gk:=me (l:=l) (i:=k) (by omega);have hne:=hno2 k hki;by_cases he:(l.getD k default).ty=x.ty
         ·rw[decide_eq_false (hne he)];have ge:((l.getD k default).ty=x.ty)=True:=eq_true he;clear hd hgo hno2 hne;generalize l.getD k default=y at *
          simp only[qI,tR,af,aa,seval,iteOmega,toNatUp,aM,g,gk,cw,ge];exact aJ
         ·have ge:((l.getD k default).ty=x.ty)=False:=eq_false he;have hd':∀ m,m<k+1→(l.getD m default).ty≠x.ty:=fun m hm=>by
            rcases Wv m k with h | h
            ·exact hd m h
            ·obtain rfl:m=k:=by omega
             exact he
          clear hd hgo hno2 hne;generalize l.getD k default=y at *
          simp only[qI,tR,af,aa,seval,iteOmega,toNatUp,aM,g,gk,cw,ge];refine aX (k+1) (by omega) ⟨by omega,hd'⟩ (aB (fun _=>0) ?_ ?_ rfl rfl) <;> simp only[wx,aA,aK,aa,seval,iteOmega,toNatUp] <;> try rfl
        ·obtain rfl:k=i:=by omega
         have hgo:=hgo hd;clear hno2 hd;simp only[qI,tR,af,aa,seval,iteOmega,toNatUp];refine aX (k+1) (by omega) ⟨by omega,hgo⟩ (aB (fun _=>0) ?_ ?_ rfl rfl) <;> simp only[wx,aA,aK,aa,seval,iteOmega,toNatUp] <;> try rfl
      ·rw[decide_eq_false (hno hm)];clear hok hno hno2 hgo;generalize hx:l.getD i default=x at *
       unfold il at hm;rcases Int.lt_or_le x.ty 0 with m1 | m1
       ·have g1:(x.ty<0)=True:=eq_true m1;simp only[mF,oa,af,aa,seval,iteOmega,toNatUp,aM,g,cw,g1];exact aJ
       ·have g0:(x.ty<0)=False:=eq_false (by omega);rcases Int.lt_or_le 4294967295 x.ty with m2 | m2
        ·have g1:(x.ty>4294967295)=True:=eq_true m2;simp only[mF,oa,af,aa,seval,iteOmega,toNatUp,aM,g,cw,g0,g1];exact aJ
        ·have g1:(x.ty>4294967295)=False:=eq_false (by omega);have g2:((x.da.length:Int)=32)=False:=eq_false (by omega);simp only[mF,oa,af,aa,seval,iteOmega,toNatUp,aM,g,cw,g0,g1,g2];exact aJ
     ·have hr:cQ l:=Ja h1 h4 fun j hj=>hok j (by omega)
      rw[decide_eq_true hr];clear hok hr;simp only[mF,oa,af,aa,seval,iteOmega,toNatUp];exact aJ
theorem BZ {α:Type} (k:Int) (v:α):∀ es:List (Int×α),(bR es k v).map (·.1)=if k∈es.map (·.1) then es.map (·.1) else es.map (·.1)++[k]
  | []=>rfl
  | (y,u)::r=>by
    simp only[bR];by_cases e:y=k
    ·subst e;rw[if_pos rfl,if_pos (by simp)];rfl
    ·rw[if_neg e,VX,BZ k v r,VX];by_cases h:k∈r.map (·.1)
     ·rw[if_pos h,if_pos (Wg _ h)]
     ·rw[if_neg h,if_neg (by
      intro q;rcases V6.1 q with q | q
      ·exact e q.symm
      ·exact h q),WW]
theorem Mb {α:Type} {es:List (Int×α)} (h:(es.map (·.1)).Nodup) (k:Int) (v:α):((bR es k v).map (·.1)).Nodup:=by
  rw[BZ];split
  ·exact h
  ·rename_i hk;refine Xp.2 ⟨h,by simp,fun a ha b hb e=>?_⟩;rw[VU] at hb;subst hb e;exact hk ha
theorem iK {α:Type} (y:Int) (u:α) (r:List (Int×α)) (k:Int):aU ((y,u)::r) k=if y=k then some u else aU r k:=by
  unfold aU;by_cases e:y=k
  ·subst e; simp
  ·rw[if_neg e,WH (by simpa using e)]
theorem w7 {α:Type}:∀ {es:List (Int×α)} {k:Int} {v:α},(es.map (·.1)).Nodup→(k,v)∈es→aU es k=some v
  | (y,u)::r,k,v,hn,h=>by
    rw[VX,List.nodup_cons] at hn;rw[iK];rcases V6.1 h with h | h
    ·cases h; rw[if_pos rfl]
    ·have:y≠k:=fun e=>hn.1 (e ▸ Wm.2 ⟨_,h,rfl⟩)
     rw[if_neg this];exact w7 hn.2 h
theorem Ju {α:Type}:∀ {es:List (Int×α)} {k:Int} {v:α},aU es k=some v→(k,v)∈es
  | [],_,_,h=>by cases h
  | (y,u)::r,k,v,h=>by
    rw[iK] at h;by_cases e:y=k
    ·rw[if_pos e] at h; cases h; subst e; exact Wt
    ·rw[if_neg e] at h; exact Wg _ (Ju h)
theorem G2 {α β:Type} (f:α→β):∀ (es:List (Int×α)) (k:Int),aU (es.map fun p=>(p.1,f p.2)) k=(aU es k).map f
  | [],_=>rfl
  | (y,u)::r,k=>by
    rw[VX,iK,iK,G2 f r k];split <;> rfl
def eI (l:List Ek):Nat→List (Int×List Ek)
  | 0=>[]
  | i+1=>bR (eI l i) (l.getD i default).ty ((aU (eI l i) (l.getD i default).ty).getD []++[l.getD i default])
theorem vm (l:List Ek):∀ i,((eI l i).map (·.1)).Nodup
  | 0=>List.nodup_nil
  | i+1=>Mb (vm l i) _ _
theorem Pr (l:List Ek) (r:Ek) (k:Int):am (l++[r]) k=if r.ty=k then am l k++[r] else am l k:=by
  unfold am;rw[List.filter_append];by_cases h:r.ty=k
  ·rw[if_pos h,List.filter_cons_of_pos (by simpa using h)]; rfl
  ·rw[if_neg h,List.filter_cons_of_neg (by simpa using h)]; simp
theorem xW (l:List Ek):∀ (i:Nat),i≤l.length→∀ k,aU (eI l i) k=if am (l.take i) k=[] then none else some (am (l.take i) k)
  | 0,_,k=>by rw[WU]; rfl
  | i+1,hi,k=>by
    have ih:=xW l i (by omega);have hg:(aU (eI l i) (l.getD i default).ty).getD []=am (l.take i) (l.getD i default).ty:=by
      rw[ih];split
      ·rename_i h; rw[h]; rfl
      ·rfl
    rw[eI,G1,hg,my (by omega),Pr];by_cases h:k=(l.getD i default).ty
    ·subst h;rw[if_pos rfl,if_pos rfl,if_neg (by simp)]
    ·rw[if_neg h,if_neg (show ¬ (l.getD i default).ty=k from fun e=>h e.symm),ih]
def t9 (l:List Ek):List (Int×List Ek):=eI l l.length
theorem xX (l:List Ek) (k:Int):aU (t9 l) k=if am l k=[] then none else some (am l k):=by
  have:=xW l l.length (V0 _) k;rw[WP] at this;exact this
theorem Rs {l:List Ek} {k:Int} {x:List Ek} (h:(k,x)∈t9 l):x=am l k∧x≠[]:=by
  have:=w7 (vm l _) h;rw[show aU (eI l l.length) k=_ from xX l k] at this;split at this
  ·cases this
  ·rename_i h2; cases this; exact⟨rfl,h2⟩
theorem Ru {l:List Ek} {k:Int} (h:am l k≠[]):(k,am l k)∈t9 l:=Ju (by rw[xX,if_neg h])
def cG (l:List Ek):List (Int×D):=(t9 l).map fun p=>(p.1,.sl (p.2.map aH))
def cg (l:List Ek):D:=.mp .i64 (cG l)
theorem xY (l:List Ek) (k:Int):(aU (cG l) k).getD (.sl [])=.sl ((am l k).map aH):=by
  unfold cG;rw[G2 (fun x:List Ek=>D.sl (x.map aH)),xX];split
  ·rename_i h; rw[h]; rfl
  ·rfl
theorem G3 {l:List Ek} {p:Int×D} (h:p∈cG l):p=(p.1,.sl ((am l p.1).map aH))∧am l p.1≠[]:=by
  obtain⟨⟨k,x⟩,h1,rfl⟩:=Wm.1 h;obtain⟨rfl,h2⟩:=Rs h1;exact⟨rfl,h2⟩
theorem Rv {l:List Ek} {k:Int} (h:am l k≠[]):(k,D.sl ((am l k).map aH))∈cG l:=Wm.2 ⟨_,Ru h,rfl⟩
theorem pn:cg []=.mp .i64 []:=rfl
def cy:List (Int×List Ek)→Nat→List (Int×C)
  | [],_=>[]
  | p::r,j=>(p.1,.own (8*j+3) 3 0 p.2.length)::cy r (j+1)
theorem Jv:∀ (es:List (Int×List Ek)) (b:Nat) (k:Int),aU (cy es b) k=none∧aU es k=none∨∃ j x,aU es k=some x∧es[j]?=some (k,x)∧aU (cy es b) k=some (.own (8*(b+j)+3) 3 0 x.length)∧∀ c,bR (cy es b) k c=((cy es b).set j (k,c))∧∀ y,bR es k y=es.set j (k,y)
  | [],_,_=>.inl ⟨rfl,rfl⟩
  | (y,u)::r,b,k=>by
    by_cases e:y=k
    ·subst e;refine .inr ⟨0,u,by rw[iK,if_pos rfl],rfl,by rw[cy,iK,if_pos rfl]; rfl,fun c=>⟨?_,fun z=>?_⟩⟩
     ·rw[cy,bR,if_pos rfl]; rfl
     ·rw[bR,if_pos rfl]; rfl
    ·rcases Jv r (b+1) k with ⟨h1,h2⟩ | ⟨j,x,h1,h2,h3,h4⟩
     ·exact .inl ⟨by rw[cy,iK,if_neg e,h1],by rw[iK,if_neg e,h2]⟩
     ·refine .inr ⟨j+1,x,by rw[iK,if_neg e,h1],h2,?_,fun c=>⟨?_,fun z=>?_⟩⟩
      ·rw[cy,iK,if_neg e,h3,show b+1+j=b+(j+1) by omega]
      ·rw[cy,bR,if_neg e,(h4 c).1]; rfl
      ·rw[bR,if_neg e,(h4 c).2 z]; rfl
theorem wb {α:Type}:∀ {es:List (Int×α)} {k:Int} (v:α),aU es k=none→bR es k v=es++[(k,v)]
  | [],_,_,_=>rfl
  | (y,u)::r,k,v,h=>by
    rw[iK] at h;by_cases e:y=k
    ·rw[if_pos e] at h; cases h
    ·rw[if_neg e] at h;rw[bR,if_neg e,wb v h,WW]
theorem G4:∀ (es:List (Int×List Ek)) (b:Nat),(cy es b).length=es.length
  | [],_=>rfl
  | _::r,b=>by rw[cy,WO,G4 r,WO]
theorem po:∀ (es:List (Int×List Ek)) (b j:Nat),(cy es b)[j]?=(es[j]?).map fun p=>(p.1,.own (8*(b+j)+3) 3 0 p.2.length)
  | [],_,_=>rfl
  | p::r,b,0=>rfl
  | p::r,b,j+1=>by rw[cy,WC,po r (b+1) j,WC,show b+1+j=b+(j+1) by omega]
def fb (es:List (Int×List Ek)):aw:=fun id=>if id=1 then some (.mp .i64 (cy es 0)) else if id%8=3 then (es[id / 8]?).map fun p=>.row 3 (p.2.map aH) else none
def fS:Nat→Bool:=fun id=>decide (id=1) || decide (id%8=3)
theorem T8 (es:List (Int×List Ek)):fb es 1=some (.mp .i64 (cy es 0)):=rfl
theorem sG (es:List (Int×List Ek)) (j:Nat):fb es (8*j+3)=(es[j]?).map fun p=>.row 3 (p.2.map aH):=by
  unfold fb;rw[if_neg (by omega),if_pos (by omega),show (8*j+3) / 8=j by omega]
theorem xZ (j:Nat):fS (8*j)=false:=by
  unfold fS;rw[decide_eq_false (by omega),decide_eq_false (by omega)]; rfl
theorem Jw (j:Nat):fS (8*j+3)=true:=by
  unfold fS;rw[decide_eq_true (show (8*j+3)%8=3 by omega),Bool.or_true]
theorem qJ {es:List (Int×List Ek)} {id:Nat} {o:Ob} (h:fb es id=some o):(id=1∧o=.mp .i64 (cy es 0))∨∃ j p,id=8*j+3∧es[j]?=some p∧o=.row 3 (p.2.map aH):=by
  unfold fb at h;split at h
  ·rename_i e; cases h; exact .inl ⟨e,rfl⟩
  ·split at h
   ·obtain⟨p,h1,rfl⟩:=VP.1 h;exact .inr ⟨id / 8,p,by omega,h1,rfl⟩
   ·cases h
theorem Rx {es:List (Int×List Ek)} {b i:Nat} (h:i∈(cy es b).flatMap fun p=>p.2.ids):∃ j,i=8*j+3:=by
  obtain⟨p,h1,h2⟩:=V4.1 h;obtain⟨j,hj⟩:=List.getElem?_of_mem h1;rw[po] at hj;obtain⟨q,_,rfl⟩:=VP.1 hj;have:i=8*(b+j)+3:=by simpa [C.ids] using h2
  exact⟨b+j,this⟩
theorem w8 {σ:St} (g:Nat→Nat) {fl:List (Nat×V)} {es:List (Int×List Ek)} (h1:kj σ.f g fl) (hm:σ.h (g 1)=some (.mp .i64 ((cy es 0).map fun p=>(p.1,p.2.ren g)))) (hr:∀ j p,es[j]?=some p→σ.h (g (8*j+3))=some (.row 3 (p.2.map aH)))
    (hg1:∀ j,g 1≠g (8*j+3)) (hg2:∀ i j,i<es.length→j<es.length→g (8*i+3)=g (8*j+3)→i=j) (hf:(fl.flatMap fun p=>p.2.ids).all (fun i=>fS i)=true):dK σ ⟨aV fl,fb es,fS⟩:=by
  refine⟨⟨g,xo (wu h1),fun i o ho=>?_,fun i j hi hj e=>?_⟩,fun t i hi=>Wd.1 hf i (FL hi),fun i o ho=>?_⟩
  ·rcases qJ ho with ⟨rfl,rfl⟩ | ⟨j,p,rfl,hp,rfl⟩
   ·exact hm
   ·exact hr j p hp
  ·obtain⟨oi,hi⟩:=We.1 hi;obtain⟨oj,hj⟩:=We.1 hj;rcases qJ hi with ⟨rfl,_⟩ | ⟨a,p,rfl,hp,_⟩ <;> rcases qJ hj with ⟨rfl,_⟩ | ⟨b,q,rfl,hq,_⟩
   ·rfl
   ·exact absurd e (hg1 b)
   ·exact absurd e.symm (hg1 a)
   ·rw[hg2 a b (V9.1 hp).1 (V9.1 hq).1 e]
  ·rcases qJ ho with ⟨rfl,rfl⟩ | ⟨j,p,rfl,hp,rfl⟩
   ·refine⟨rfl,fun i hi=>?_⟩;obtain⟨j,rfl⟩:=Rx (show i∈(cy es 0).flatMap fun p=>p.2.ids from hi);exact Jw j
   ·exact⟨Jw j,fun i hi=>by cases hi⟩
theorem B3 (es:List (Int×List Ek)):∀ (r:List (Int×List Ek)) (b:Nat),(∀ j p,r[j]?=some p→fb es (8*(b+j)+3)=some (.row 3 (p.2.map aH)))→jQ (fb es) (cy r b)=some (r.map fun p=>(p.1,D.sl (p.2.map aH)))
  | [],_,_=>rfl
  | p::r,b,h=>by
    have h0:=h 0 p rfl;have ih:=B3 es r (b+1) fun j q hq=>by have:=h (j+1) q hq; rw[show b+(j+1)=b+1+j by omega] at this; exact this
    have hd:dt (fb es) (.own (8*b+3) 3 0 p.2.length)=some (.sl (p.2.map aH)):=by
      simp only[dt];rw[show b+0=b from rfl] at h0;rw[h0];simp[cZ,VV]
    simp only[cy,jQ,hd,ih,D.one,if_true,VX]
theorem Ny (es:List (Int×List Ek)):jQ (fb es) (cy es 0)=some (es.map fun p=>(p.1,D.sl (p.2.map aH))) :=
  B3 es es 0 fun j p hp=>by rw[WJ,sG,hp]; rfl
theorem pH {l:List Ek} {t:Int} (h:∀ r∈l,r.ty=t) (k:Int):am l k=if k=t then l else []:=by
  by_cases e:k=t
  ·rw[if_pos e,e,Ri h]
  ·rw[if_neg e];exact Ty fun r hr q=>e (by rw[← q,h r hr])
def bA (a:Ek) (b x h p:List Ek):List Ek:=a::(b++(x++(h++p)))
theorem UC {a:Ek} {b x h p:List Ek} (h1:a.ty=1) (h4:∀ r∈b,r.ty=4) (h5:∀ r∈x,r.ty=5) (h6:∀ r∈h,r.ty=6) (h7:∀ r∈p,r.ty=7) (k:Int) :
    am (bA a b x h p) k=(if k=1 then [a] else [])++((if k=4 then b else [])++((if k=5 then x else [])++((if k=6 then h else [])++(if k=7 then p else [])))):=by
  have e:bA a b x h p=[a]++(b++(x++(h++p))):=rfl;rw[e,mU,mU,mU,mU,pH (l:=[a]) (t:=1) (fun r hr=>by rw[VU.1 hr]; exact h1),pH h4,pH h5,pH h6,pH h7]
def bY:Ek:=⟨true,0,[]⟩
theorem yg {a:Ek} {b x h p:List Ek} {P:Ek→Prop} (h1:P a) (h4:∀ r∈b,P r) (h5:∀ r∈x,P r) (h6:∀ r∈h,P r) (h7:∀ r∈p,P r):∀ r∈bA a b x h p,P r:=by
  intro r hr;rcases V6.1 hr with rfl | hr
  ·exact h1
  ·rcases V8.1 hr with hr | hr
   ·exact h4 r hr
   ·rcases V8.1 hr with hr | hr
    ·exact h5 r hr
    ·rcases V8.1 hr with hr | hr
     ·exact h6 r hr
     ·exact h7 r hr
theorem yW {a:Ek} {b x h p:List Ek} (h1:a.ty=1) (h4:∀ r∈b,r.ty=4) (h5:∀ r∈x,r.ty=5) (h6:∀ r∈h,r.ty=6) (h7:∀ r∈p,r.ty=7)
    (l4:b.length≤1) (l5:x.length≤8) (l6:h.length≤1) (l7:p.length≤1) (b1:a.bo.length%2=0∧a.bo.length≤255) (b4:∀ r∈b,r.bo.length%2=0∧r.bo.length≤255) (b5:∀ r∈x,r.bo.length≤255) (b6:∀ r∈h,r.bo.length≤255) (b7:∀ r∈p,r.bo.length=2) :
    bT (bA a b x h p++[bY])=0∧cN (aO (bA a b x h p++[bY]))=0∧aD (aO (bA a b x h p++[bY]))=bA a b x h p++[bY]∧dV (aO (bA a b x h p++[bY]))∧fq (bA a b x h p++[bY])=false ∧
      am (bA a b x h p++[bY]) 1=[a]∧am (bA a b x h p++[bY]) 2=[]∧am (bA a b x h p++[bY]) 4=b∧am (bA a b x h p++[bY]) 5=x∧am (bA a b x h p++[bY]) 6=h∧am (bA a b x h p++[bY]) 7=p:=by
  have al:=UC h1 h4 h5 h6 h7;have z1:(1:Int)≠4∧(1:Int)≠5∧(1:Int)≠6∧(1:Int)≠7:=by decide
  have al0:am (bA a b x h p) 0=[]:=by rw[al]; rfl
  have al1:am (bA a b x h p) 1=[a]:=by rw[al]; rfl
  have al2:am (bA a b x h p) 2=[]:=by rw[al]; rfl
  have al4:am (bA a b x h p) 4=b:=by
    rw[al]
    show []++(b++([]++([]++[])))=b
    simp
  have al5:am (bA a b x h p) 5=x:=by
    rw[al]
    show []++([]++(x++([]++[])))=x
    simp
  have al6:am (bA a b x h p) 6=h:=by
    rw[al]
    show []++([]++([]++(h++[])))=h
    simp
  have al7:am (bA a b x h p) 7=p:=by
    rw[al]; rfl
  have en:∀ k:Int,(0:Int)≠k→am (bA a b x h p++[bY]) k=am (bA a b x h p) k:=fun k hk=>by
    unfold bY;rw[mU,cE hk,fw,Wc]
  have hl:(bA a b x h p).length≤12:=by
    unfold bA;rw[WO,VR,VR,VR]; omega
  have ok:bT (bA a b x h p++[bY])=0:=by
    refine (nG (fun r hr=>?_) (by rw[VR]; show _+1≤64; omega)).1;rcases V8.1 hr with hr | hr
    ·refine yg (P:=fun r=>0≤r.ty∧r.ty≤7∧r.bo.length≤255) ?_ ?_ ?_ ?_ ?_ r hr
     ·exact⟨by omega,by omega,b1.2⟩
     ·exact fun r hr=>⟨by rw[h4 r hr]; decide,by rw[h4 r hr]; decide,(b4 r hr).2⟩
     ·exact fun r hr=>⟨by rw[h5 r hr]; decide,by rw[h5 r hr]; decide,b5 r hr⟩
     ·exact fun r hr=>⟨by rw[h6 r hr]; decide,by rw[h6 r hr]; decide,b6 r hr⟩
     ·exact fun r hr=>⟨by rw[h7 r hr]; decide,by rw[h7 r hr]; decide,by rw[b7 r hr]; decide⟩
    ·rw[VU.1 hr]; exact dR (by decide) (by decide)
  obtain⟨d1,d2⟩:=sW ok;have fm:iA (bA a b x h p++[bY]):=by
    refine su al0 (by rw[al1]; exact V0 _) (by rw[al4]; exact l4) (by rw[al6]; exact l6) (by rw[al7]; exact l7) ?_;refine yg ?_ ?_ ?_ ?_ ?_
    ·exact⟨fun _=>b1.1,fun q=>absurd (h1.symm.trans q) (by decide)⟩
    ·exact fun r hr=>⟨fun _=>(b4 r hr).1,fun q=>absurd ((h4 r hr).symm.trans q) (by decide)⟩
    ·exact fun r hr=>⟨fun q=>by rcases q with q | q <;> exact absurd ((h5 r hr).symm.trans q) (by decide),fun q=>absurd ((h5 r hr).symm.trans q) (by decide)⟩
    ·exact fun r hr=>⟨fun q=>by rcases q with q | q <;> exact absurd ((h6 r hr).symm.trans q) (by decide),fun q=>absurd ((h6 r hr).symm.trans q) (by decide)⟩
    ·exact fun r hr=>⟨fun q=>by rcases q with q | q <;> exact absurd ((h7 r hr).symm.trans q) (by decide),fun _=>b7 r hr⟩
  have st:fq (bA a b x h p++[bY])=false:=by
    unfold fq;rw[WS];intro r hr;have:r.ty≤7:=by
      rcases V8.1 hr with hr | hr
      ·refine yg (P:=fun r=>r.ty≤7) (by omega) ?_ ?_ ?_ ?_ r hr
       ·exact fun r hr=>by rw[h4 r hr]; decide
       ·exact fun r hr=>by rw[h5 r hr]; decide
       ·exact fun r hr=>by rw[h6 r hr]; decide
       ·exact fun r hr=>by rw[h7 r hr]; decide
      ·rw[VU.1 hr]; exact (show (0:Int)≤7 by decide)
    rw[Wh];exact fun q=>absurd (of_decide_eq_true q.2) (by omega)
  exact⟨ok,d1,d2,⟨d1,by rw[d2]; exact fm⟩,st,by rw[en 1 (by decide),al1],by rw[en 2 (by decide),al2],by rw[en 4 (by decide),al4],by rw[en 5 (by decide),al5],by rw[en 6 (by decide),al6],by rw[en 7 (by decide),al7]⟩
theorem yX {a:Ek} {b x h p:List Ek} {c:Ch} {q:List UInt8} (hv:dv c) (hq:hC q)
    (fm:dV (aO (bA a b x h p++[bY]))) (dl:aD (aO (bA a b x h p++[bY]))=bA a b x h p++[bY]) (st:fq (bA a b x h p++[bY])=false)
    (a2:am (bA a b x h p++[bY]) 2=[]) (a5:am (bA a b x h p++[bY]) 5=x) (l5:x.length≤8) (c5:∀ r∈x,r.bo.length=104) :
    (eV (bA a b x h p++[bY]) 1 (g8 q)=none∨eV (bA a b x h p++[bY]) 4 (g9 q)=none→dQ c q (aO (bA a b x h p++[bY]))=10) ∧
      (∀ v w,eV (bA a b x h p++[bY]) 1 (g8 q)=some v→eV (bA a b x h p++[bY]) 4 (g9 q)=some w→x.length≠0→dQ c q (aO (bA a b x h p++[bY]))=0 ∧
        ja c q (aO (bA a b x h p++[bY]))=⟨v,w,bu c v w 0,bu c v w 1,x.map (·.bo),ot (bA a b x h p++[bY]),ou (bA a b x h p++[bY])⟩):=by
  generalize bA a b x h p++[bY]=L at *
  have n5:(bI L 5).length=x.length:=by rw[bJ,a5]
  have n2:(bI L 2).length=0:=by rw[bJ,a2]; rfl
  have ck:i9 L=x.map (·.bo):=by unfold i9; rw[a5]
  have e:dQ c q (aO L)=if ¬ ((eV L 1 (g8 q)).isSome∧(eV L 4 (g9 q)).isSome∧(bI L 5).length≠0) then 10 else if 8<(bI L 5).length then 8 else if ¬ ∀ x∈i9 L,x.length=104 then 3 else 0:=by
    unfold dQ;rw[dl,if_neg (not_not_intro hv),if_neg (not_not_intro hq),if_neg (not_not_intro fm),if_neg (by rw[st]; exact Bool.false_ne_true),if_neg (not_not_intro n2)]
  refine⟨fun hno=>?_,fun v w e1 e4 h0=>?_⟩
  ·rw[e,if_pos];rintro⟨q1,q2,_⟩;rcases hno with hno | hno
   ·rw[hno] at q1; exact absurd q1 (by decide)
   ·rw[hno] at q2; exact absurd q2 (by decide)
  ·have e0:dQ c q (aO L)=0:=by
     rw[e,if_neg,n5,if_neg (by omega),if_neg]
     ·refine not_not_intro fun y hy=>?_
      rw[ck] at hy;obtain⟨r,hr,rfl⟩:=Wm.1 hy;exact c5 r hr
     ·refine not_not_intro ⟨by rw[e1]; rfl,by rw[e4]; rfl,by rw[n5]; exact h0⟩
   refine⟨e0,?_⟩;unfold ja;rw[if_pos e0,dl,e1,e4,ck];rfl
end Go.Proofs.YtlghfnidknfakaaGreatDoor
