/- Texts of one's own, merged: from: Layer 19,without code: rings of keys (as fields: an ID and a key),cookies,and what the functions return. Own work. -/
import Derived.Test.YtlghfnidknfakaaGreatDoorMg410
import Derived.Test.YtlghfnidknfakaaGreatDoorMg414
import Derived.Test.YtlghfnidknfakaaGreatDoorMg416
import Derived.Test.YtlghfnidknfakaaGreatDoorMg411
import Derived.Test.YtlghfnidknfakaaGreatDoorMg47
set_option linter.unusedVariables false
set_option linter.unusedSimpArgs false
namespace Go.Proofs.YtlghfnidknfakaaGreatDoor
open Go.RowKit
def bJ (l:List Fd):D:=.agg [.sl (l.map bY)]
def Oe (l:List Fd):Prop:=∀ i j,i<j→j<l.length→(l.getD i default).ty≠(l.getD j default).ty
def cZ (l:List Fd):Prop:=1≤l.length∧l.length≤4∧(∀ f∈l,0≤f.ty∧f.ty≤4294967295∧f.da.length=32)∧(l.map Fd.ty).Nodup
instance (l:List Fd):Decidable (cZ l):=by unfold cZ; infer_instance
theorem yr {l:List Fd}:(l.map Fd.ty).Nodup↔Oe l:=by
  unfold Oe;rw[List.nodup_iff_pairwise_ne,List.pairwise_iff_getElem];constructor
  ·intro h i j hij hj;have:=h i j (by simp; omega) (by simp; omega) hij
   simpa [aa0,aaY hj,aaY (show i<l.length by omega)] using this
  ·intro h i j hi hj hij;have hi':i<l.length:=by simpa using hi
   have hj':j<l.length:=by simpa using hj
   have:=h i j hij hj'
   simpa [aa0,aaY hj',aaY hi'] using this
def qR:List UInt8:=[115,101,99,116,105,109,101,32,115,116,97,114,116]
def uw:List UInt8:=[115,101,99,116,105,109,101,32,110,101,120,116]
def p7 (seed:List UInt8):List UInt8:=fa seed qR 32
def p8 (key:List UInt8):List UInt8:=fa key uw 32
theorem S9 (s:List UInt8):(p7 s).length=32:=y1 _ _ _
theorem Ta (s:List UInt8):(p8 s).length=32:=y1 _ _ _
def jA (id:Int) (seed:List UInt8):Int:=if id<0∨4294967295<id then 4 else if seed.length≠32 then 5 else 0
def nK (id:Int) (seed:List UInt8):List Fd:=if jA id seed=0 then [⟨id,p7 seed⟩] else []
def fV (l:List Fd):Int:=((l.getD 0 default).ty+1)%4294967296
def lH (l:List Fd):Fd:=⟨fV l,p8 (l.getD 0 default).da⟩
def clash (l:List Fd):Bool:=(l.take 3).any fun f=>decide (f.ty=fV l)
def iH (l:List Fd):Int:=if cZ l then (if clash l=true then 7 else 0) else 3
def lI (l:List Fd):List Fd:=if iH l=0 then lH l::l.take 3 else []
def fF (algo:Int) (up down:List UInt8):List UInt8:=aO algo.toNat 2++([0,0]++(up++down))
def eR (m:Fd):List UInt8:=aO m.ty.toNat 4
def bZ (m:Fd) (algo:Int) (up down nonce:List UInt8):List UInt8:=eR m++(nonce++im m.da [eR m,nonce] (fF algo up down))
def jc (l:List Fd) (algo:Int) (up down nonce:List UInt8):Int :=
  if cZ l then (if algo<0∨65535<algo then 4 else if up.length≠32∨down.length≠32 then 5 else if nonce.length≠16 then 3 else 0) else 3
def nP (l:List Fd) (algo:Int) (up down nonce:List UInt8):List UInt8:=if jc l algo up down nonce=0 then bZ (l.getD 0 default) algo up down nonce else []
def sA (c:List UInt8):Int:=if c.length≠104 then 3 else 0
def fW (c:List UInt8):Nat:=if c.length≠104 then 0 else aZ (aN c 0 4)
def gN (l:List Fd) (id:Int):Option Nat:=l.findIdx? fun f=>decide (f.ty=id)
def ky (m:Fd) (c:List UInt8):Int:=fS m.da [aN c 0 4,aN c 4 16] (c.drop 20)
def fc (m:Fd) (c:List UInt8):List UInt8:=iy m.da [aN c 0 4,aN c 4 16] (c.drop 20)
def nL (m:Fd) (c:List UInt8):Prop:=ky m c=0∧(fc m c).getD 2 0=0∧(fc m c).getD 3 0=0
instance (m:Fd) (c:List UInt8):Decidable (nL m c):=by unfold nL; infer_instance
def fe (l:List Fd) (c:List UInt8):Int :=
  if cZ l then (if c.length≠104 then 3 else match gN l (fW c) with | none=>5 | some i=>if nL (l.getD i default) c then 0 else 6) else 3
structure Cw where
  al:Int
  up:List UInt8
  dn:List UInt8
  ag:Int
def jF (l:List Fd) (c:List UInt8):Cw :=
  if fe l c=0 then (let i:=(gN l (fW c)).getD 0; let b:=fc (l.getD i default) c; ⟨(aZ (aN b 0 2):Int),aN b 4 32,aN b 36 32,(i:Int)⟩) else ⟨0,[],[],0⟩
theorem U3 {m:Fd} {c:List UInt8} (hc:c.length=104) (h:ky m c=0):(fc m c).length=68:=by
  unfold fc iy;unfold ky at h;rw[if_pos h,oE];simp[hc]
theorem JF (algo:Int) {up down:List UInt8} (h1:up.length=32) (h2:down.length=32):(fF algo up down).length=68:=by
  simp[fF,cF,h1,h2]
theorem y5 {m:Fd} {algo:Int} {up down nonce:List UInt8} (hk:m.da.length=32) (i0:0≤m.ty) (i1:m.ty≤4294967295) (a0:0≤algo) (a1:algo≤65535) (h1:up.length=32) (h2:down.length=32) (hn:nonce.length=16) :
    (bZ m algo up down nonce).length=104∧(fW (bZ m algo up down nonce):Int)=m.ty∧nL m (bZ m algo up down nonce) ∧
      (aZ (aN (fc m (bZ m algo up down nonce)) 0 2):Int)=algo∧aN (fc m (bZ m algo up down nonce)) 4 32=up∧aN (fc m (bZ m algo up down nonce)) 36 32=down:=by
  have hp:=JF algo h1 h2;have hi:(eR m).length=4:=cF _ _;have ha:cU m.da [eR m,nonce] ((fF algo up down).length:Int)=0:=Hk hk (by simp) (fun x hx=>by simp at hx; rcases hx with rfl | rfl <;> omega) (by omega);have hs:(im m.da [eR m,nonce] (fF algo up down)).length=84:=by rw[yY ha,aa1,lT,oE,hp]
  have hl:(bZ m algo up down nonce).length=104:=by
    unfold bZ;simp only[aa1,hi,hn,hs]
  have c1:aN (bZ m algo up down nonce) 0 4=eR m:=by
    unfold bZ aN;rw[acC];exact List.take_left' hi
  have c2:aN (bZ m algo up down nonce) 4 16=nonce:=by
    have:=oA (eR m) nonce (im m.da [eR m,nonce] (fF algo up down));rw[hi,hn] at this;exact this
  have c3:(bZ m algo up down nonce).drop 20=im m.da [eR m,nonce] (fF algo up down):=by
    unfold bZ;rw[← abe];exact List.drop_left' (by simp[hi,hn])
  obtain⟨o1,o2⟩:=SN ha;rw[← yY ha] at o1 o2;have x1:ky m (bZ m algo up down nonce)=0:=by unfold ky; rw[c1,c2,c3]; exact o1
  have x2:fc m (bZ m algo up down nonce)=fF algo up down:=by unfold fc; rw[c1,c2,c3]; exact o2
  have p2:fF algo up down=aO algo.toNat 2++([0,0]++(up++down)):=rfl;refine⟨hl,?_,⟨x1,?_,?_⟩,?_,?_,?_⟩
  ·unfold fW;rw[if_neg (by omega),c1];unfold eR;rw[get_put 4 (by decide)];omega
  ·rw[x2,p2,aa0,abh (by simp[cF])];simp[cF]
  ·rw[x2,p2,aa0,abh (by simp[cF])];simp[cF]
  ·rw[x2,p2];have:=oA [] (aO algo.toNat 2) ([0,0]++(up++down));rw[abS,cF] at this;rw[show ([]:List UInt8).length=0 from rfl] at this;rw[this,get_put 2 (by decide)];omega
  ·rw[x2,p2];have:=oA (aO algo.toNat 2++[0,0]) up down;rw[abe,aa1,cF,h1] at this;exact this
  ·rw[x2,p2];have:=oA (aO algo.toNat 2++([0,0]++up)) down [];rw[abj,abe,abe,aa1,aa1,cF,h1,h2] at this;exact this
def qi (seed:List UInt8):Nat→List UInt8
  | 0=>p7 seed
  | n+1=>p8 (qi seed n)
theorem zS (seed:List UInt8) (n:Nat):(qi seed n).length=32:=by
  cases n
  ·exact S9 _
  ·exact Ta _
def bH (s:Nat) (seed:List UInt8) (t:Nat):List Fd:=(List.range (min 4 (t+1))).map fun i=>⟨((s+(t-i):Nat):Int),qi seed (t-i)⟩
theorem kP (s:Nat) (seed:List UInt8) (t:Nat):(bH s seed t).length=min 4 (t+1):=by simp[bH]
theorem rv {s:Nat} {seed:List UInt8} {t i:Nat} (h:i<min 4 (t+1)):(bH s seed t).getD i default=⟨((s+(t-i):Nat):Int),qi seed (t-i)⟩:=by
  unfold bH;rw[aa0,abK,acr h];rfl
theorem u6 {s:Nat} {seed:List UInt8} {t:Nat} (h:s+t≤4294967295):cZ (bH s seed t):=by
  have hl:=kP s seed t;refine⟨by omega,by omega,?_,?_⟩
  ·intro f hf;obtain⟨i,hi,rfl⟩:=abo.1 hf;exact⟨by show (0:Int)≤((s+(t-i):Nat):Int); omega,by show ((s+(t-i):Nat):Int)≤4294967295; omega,zS _ _⟩
  ·rw[yr];intro i j hij hj;rw[hl] at hj;rw[rv (by omega),rv (by omega)]
   show ((s+(t-i):Nat):Int)≠((s+(t-j):Nat):Int)
   omega
theorem Q2 (s:Nat) (seed:List UInt8) (h:s≤4294967295) (hs:seed.length=32):jA s seed=0∧nK s seed=bH s seed 0:=by
  have e:jA s seed=0:=by unfold jA; rw[if_neg (by omega),if_neg (by omega)]
  exact⟨e,by unfold nK; rw[if_pos e]; rfl⟩
theorem Tb {s:Nat} {seed:List UInt8} {t:Nat} (h:s+t<4294967295):iH (bH s seed t)=0∧lI (bH s seed t)=bH s seed (t+1):=by
  have hl:=kP s seed t;have h0:=rv (s:=s) (seed:=seed) (t:=t) (i:=0) (by omega);have hn:fV (bH s seed t)=((s+(t+1):Nat):Int):=by
    unfold fV;rw[h0]
    show (((s+(t-0):Nat):Int)+1)%4294967296=_
    omega
  have hc:clash (bH s seed t)=false:=by
    unfold clash;rw[ab1];intro f hf;obtain⟨i,hi,rfl⟩:=abo.1 (acb hf);rw[hn,decide_eq_false (by show ((s+(t-i):Nat):Int)≠((s+(t+1):Nat):Int); omega)];decide
  have e:iH (bH s seed t)=0:=by unfold iH; rw[if_pos (u6 (by omega)),if_neg (by rw[hc]; decide)]
  refine⟨e,?_⟩;unfold lI;rw[if_pos e];have hx:lH (bH s seed t)=⟨((s+(t+1):Nat):Int),qi seed (t+1)⟩:=by
    unfold lH;rw[hn,h0];rfl
  rw[hx];refine List.ext_getElem (by simp[kP]; omega) fun i i1 i2=>?_
  have hi:i<min 4 (t+1+1):=by rw[kP] at i2; exact i2
  cases i with
  | zero=>simp[bH]
  | succ i =>
    rw[List.getElem_cons_succ,ab5];simp only[bH,abw,acj];rw[show t+1-(i+1)=t-i by omega]
theorem Tc {s:Nat} {seed:List UInt8} {t k:Nat} (hk:k≤t):gN (bH s seed t) ((s+k:Nat):Int)=if t-k<4 then some (t-k) else none:=by
  unfold gN;have hl:=kP s seed t;have hat:∀ i (hi:i<(bH s seed t).length),(bH s seed t)[i].ty=((s+(t-i):Nat):Int):=fun i hi=>by simp[bH]
  split
  ·rename_i h;rw[aci];refine⟨by omega,?_,fun j hj=>?_⟩
   ·rw[hat]; exact decide_eq_true (by omega)
   ·rw[hat,decide_eq_false (by omega)]; decide
  ·rename_i h;rw[List.findIdx?_eq_none_iff];intro f hf;obtain⟨i,hi,rfl⟩:=abB hf;rw[hat];exact decide_eq_false (by omega)
def nQ (b:List UInt8) (i:Nat):Int:=(aZ (aN b (2*i) 2):Int)
def jG (b:List UInt8) (k:Nat):List Int:=(List.range k).map (nQ b)
def lJ (b:List UInt8):List Int:=jG b (b.length / 2)
def eS (b:List UInt8):List Int:=if b.length%2=0 then lJ b else []
theorem Td (b:List UInt8) (k:Nat):jG b (k+1)=jG b k++[nQ b k]:=by simp[jG,acI]
theorem JG (b:List UInt8) (k:Nat):(jG b k).length=k:=by simp[jG]
theorem U4 (b:List UInt8):(lJ b).length=b.length / 2:=JG _ _
theorem Xx {b:List UInt8} {i:Nat} (h:2*i+2≤b.length):0≤nQ b i∧nQ b i≤65535:=by
  have:=(jK 2 (aN b (2*i) 2) (kG (by omega)) (by decide)).1;unfold nQ;omega
def aW (l:List Int):List UInt8:=l.flatMap fun n=>aO n.toNat 2
theorem y6 (n:Int) (l:List Int):aW (n::l)=aO n.toNat 2++aW l:=rfl
theorem U5 (a b:List Int):aW (a++b)=aW a++aW b:=by simp[aW]
theorem fJ (l:List Int):(aW l).length=2*l.length:=by
  induction l with
  | nil=>rfl
  | cons n l ih=>rw[y6,aa1,cF,ih,abR]; omega
def bQ (l:List Int):Prop:=∀ n∈l,0≤n∧n≤65535
instance (l:List Int):Decidable (bQ l):=by unfold bQ; infer_instance
theorem Te {n:Int} {l:List Int} (h:bQ (n::l)):(0≤n∧n≤65535)∧bQ l:=⟨h n abC,fun x hx=>h x (abq _ hx)⟩
theorem Tf {x:List UInt8} (hx:x.length=2) (b:List UInt8):lJ (x++b)=(aZ x:Int)::lJ b:=by
  have hl:(x++b).length / 2=b.length / 2+1:=by rw[aa1]; omega
  unfold lJ jG;rw[hl,List.range_succ_eq_map,aa5,ac6]
  congr 1
  ·unfold nQ;rw[show aN (x++b) (2*0) 2=x from List.take_left' hx]
  ·refine abL fun i _=>?_
   show (aZ (aN (x++b) (2*(i+1)) 2):Int)=(aZ (aN b (2*i) 2):Int)
   rw[show 2*(i+1)=x.length+2*i by omega,T1]
theorem U6 {l:List Int} (h:bQ l):lJ (aW l)=l:=by
  induction l with
  | nil=>rfl
  | cons n l ih =>
    obtain⟨h1,h2⟩:=Te h;rw[y6,Tf (cF _ _),ih h2,get_put 2 (by decide)]
    congr 1; omega
theorem lY {l:List Int} (h:bQ l):eS (aW l)=l:=by
  unfold eS;rw[if_pos (by rw[fJ]; omega),U6 h]
def nR (l:List Ek) (k:Int) (i:Nat):List Nat:=(List.range i).filter fun j=>decide ((l.getD j default).ty=k)
def bS (l:List Ek) (k:Int):List Nat:=nR l k l.length
def ar (l:List Ek) (k:Int):List Ek:=l.filter fun r=>decide (r.ty=k)
theorem U7 {l:List Ek} {k:Int} {i:Nat} (h:(l.getD i default).ty=k):nR l k (i+1)=nR l k i++[i]:=by
  unfold nR;rw[acI,List.filter_append]
  congr 1
  rw[List.filter_cons,if_pos (decide_eq_true h),List.filter_nil]
theorem Xy {l:List Ek} {k:Int} {j:Nat} (h:j<(bS l k).length):(bS l k).getD j 0<l.length∧(l.getD ((bS l k).getD j 0) default).ty=k:=by
  have hm:(bS l k).getD j 0∈bS l k:=by
    rw[aa0,aaY h];exact aby h
  obtain⟨h1,h2⟩:=acw.1 hm;exact⟨acD.1 h1,of_decide_eq_true h2⟩
theorem Py (l:List Ek):(List.range l.length).map (fun i=>l.getD i default)=l:=by
  refine List.ext_getElem (by simp) fun i h1 h2=>?_
  rw[abw,acj,aa0,aaY h2]; rfl
theorem JH (l:List Ek) (k:Int):(bS l k).map (fun i=>l.getD i default)=ar l k:=by
  have:ar l k=((List.range l.length).map (fun i=>l.getD i default)).filter fun r=>decide (r.ty=k):=by rw[Py]; rfl
  rw[this,List.filter_map];rfl
theorem cx (l:List Ek) (k:Int):(bS l k).length=(ar l k).length:=by rw[← JH,aa7]
theorem lZ {l:List Ek} {k:Int} {j:Nat} (h:j<(bS l k).length):l.getD ((bS l k).getD j 0) default=(ar l k).getD j default:=by
  rw[← JH,aa0 (l:=(bS l k).map _),abK,aaY h,aa0 (l:=bS l k),aaY h];rfl
def qj (r:Ek):Prop:=((r.ty=1∨r.ty=4)→r.bo.length%2=0)∧(r.ty=7→r.bo.length=2)
instance (r:Ek):Decidable (qj r):=by unfold qj; infer_instance
def Cx (l:List Ek):Prop:=(bS l 0).length=1∧(bS l 0).getD 0 0=l.length-1∧(l.getD ((bS l 0).getD 0 0) default).bo.length=0∧(bS l 1).length≤1∧(bS l 4).length≤1∧(bS l 6).length≤1∧(bS l 7).length≤1
instance (l:List Ek):Decidable (Cx l):=by unfold Cx; infer_instance
def lK (l:List Ek):Prop:=Cx l∧∀ r∈l,qj r
instance (l:List Ek):Decidable (lK l):=by unfold lK; infer_instance
def eK (b:List UInt8):Prop:=dY b=0∧lK (aI b)
instance (b:List UInt8):Decidable (eK b):=by unfold eK; infer_instance
def iI (b:List UInt8):List Ek:=if eK b then aI b else []
def ic (l:List Ek):Bool:=l.any fun r=>r.cr&&decide (7<r.ty)
def dD (x y:List Int):Int:=if ¬ (bQ x∧bQ y) then 4 else if x.length=0∨16<x.length∨y.length=0∨16<y.length then 8 else 0
def dT (x y:List Int):List Ek:=[⟨true,1,aW x⟩,⟨true,4,aW y⟩,⟨true,0,[]⟩]
def bF (x y:List Int):List UInt8:=if dD x y=0 then bh (dT x y) else []
def dj (x y:List Int):Option Int:=x.find? fun v=>decide (v∈y)
def pH:List UInt8:=[115,101,99,116,105,109,101,32,107,101,121,115]
def gu (p a:Int) (z:UInt8):List UInt8:=aW [p,a]++[z]
def gO (c:Ch) (p a:Int):Int:=if ¬ dK c then 3 else if ¬ bQ [p,a] then 4 else 0
def bp (c:Ch) (p a:Int) (z:UInt8):List UInt8:=if gO c p a=0 then fa c.se (hZ jw pH (gu p a z)) 32 else []
theorem l8 {c:Ch} {p a:Int} {z:UInt8} (h:gO c p a=0):(bp c p a z).length=32:=by unfold bp; rw[if_pos h]; exact y1 _ _ _
structure dZ where
  pr:List Int
  al:List Int
  ho:ByteArray
  pt:Int
def fb (p:dZ):D:=.agg [.sl (p.pr.map zD),.sl (p.al.map zD),.str p.ho,.int .i64 p.pt]
def ie (code:Int):List UInt8:=bh [⟨true,2,aW [code]⟩,⟨true,0,[]⟩]
def mO (b:List UInt8):Prop:=eK b∧(bS (aI b) 1).length≠0∧(bS (aI b) 4).length≠0∧(bS (aI b) 2).length+(bS (aI b) 3).length+(bS (aI b) 5).length=0
instance (b:List UInt8):Decidable (mO b):=by unfold mO; infer_instance
def mP (ns:List (List UInt8)) (ho:ByteArray):Prop:=1≤ns.length∧ns.length≤8∧ho.size≤255∧∀ n∈ns,n.length=16
instance (ns:List (List UInt8)) (ho:ByteArray):Decidable (mP ns ho):=by unfold mP; infer_instance
def iJ (l:List Ek) (k:Int):List Int:=eS (l.getD ((bS l k).getD 0 0) default).bo
def gv (r:List Fd) (c:Ch) (v a:Int) (ns:List (List UInt8)):List Ek:=ns.map fun n=>⟨false,5,nP r a (bp c v a 0) (bp c v a 1) n⟩
def ig (p:dZ):List Ek:=(if p.ho.size=0 then [] else [⟨true,6,p.ho.data.toList⟩])++((if p.pt=0 then [] else [⟨true,7,aW [p.pt]⟩])++[⟨true,0,[]⟩])
def fG (p:dZ) (r:List Fd) (c:Ch) (x y:List Int) (ns:List (List UInt8)):List Ek :=
  match dj x p.pr with
  | none=>[⟨true,1,[]⟩]
  | some v=>⟨true,1,aW [v]⟩::match dj y p.al with
    | none=>[⟨true,4,[]⟩]
    | some a=>⟨true,4,aW [a]⟩::gv r c v a ns
def eL (p:dZ) (r:List Fd) (c:Ch):Int:=if ¬ (dK c∧cZ r) then 3 else if ¬ (bQ p.pr∧bQ p.al∧bQ [p.pt]) then 4 else 0
def gP (p:dZ) (r:List Fd) (c:Ch) (b:List UInt8) (ns:List (List UInt8)):List UInt8 :=
  if ¬ eL p r c=0 then [] else if ¬ mO b then ie 1 else if ic (aI b)=true then ie 0 else if ¬ mP ns p.ho then ie 2 else bh (fG p r c (iJ (aI b) 1) (iJ (aI b) 4) ns++ig p)
structure xf where
  pr:Int
  al:Int
  up:List UInt8
  dn:List UInt8
  ck:List (List UInt8)
  ho:List UInt8
  pt:Int
def nS (t:xf):D:=.agg [.int .i64 t.pr,.int .i64 t.al,.sl (t.up.map bD),.sl (t.dn.map bD),.sl (t.ck.map fun l=>D.sl (l.map bD)),.str ⟨t.ho.toArray⟩,.int .i64 t.pt]
def qk:xf:=⟨0,0,[],[],[],[],0⟩
def iK (q:List UInt8):List Int:=eS ((aI q).getD 0 default).bo
def iL (q:List UInt8):List Int:=eS ((aI q).getD 1 default).bo
def jd (q:List UInt8):Prop:=eK q∧(aI q).length=3∧dD (iK q) (iL q)=0∧bF (iK q) (iL q)=q
instance (q:List UInt8):Decidable (jd q):=by unfold jd; infer_instance
def fg (l:List Ek) (k:Int) (x:List Int):Option Int:=if (bS l k).length=1 then (if (iJ l k).length=1∧(iJ l k).getD 0 0∈x then some ((iJ l k).getD 0 0) else none) else none
def jH (l:List Ek):List (List UInt8):=(ar l 5).map (·.bo)
def ei (c:Ch) (q b:List UInt8):Int :=
  if ¬ dK c then 3 else if ¬ jd q then 3 else if ¬ eK b then 3 else if ic (aI b)=true then 11 else if (bS (aI b) 2).length≠0 then 7
  else if ¬ ((fg (aI b) 1 (iK q)).isSome∧(fg (aI b) 4 (iL q)).isSome∧(bS (aI b) 5).length≠0) then 10
  else if 8<(bS (aI b) 5).length then 8 else if ¬ ∀ x∈jH (aI b),x.length=104 then 3 else 0
def qm (l:List Ek):List UInt8:=if (bS l 6).length=1 then (l.getD ((bS l 6).getD 0 0) default).bo else []
def qn (l:List Ek):Int:=if (bS l 7).length=1 then (aZ (l.getD ((bS l 7).getD 0 0) default).bo:Int) else 0
def mQ (c:Ch) (q b:List UInt8):xf :=
  if ei c q b=0 then
    ⟨(fg (aI b) 1 (iK q)).getD 0,(fg (aI b) 4 (iL q)).getD 0,bp c ((fg (aI b) 1 (iK q)).getD 0) ((fg (aI b) 4 (iL q)).getD 0) 0,bp c ((fg (aI b) 1 (iK q)).getD 0) ((fg (aI b) 4 (iL q)).getD 0) 1,jH (aI b),qm (aI b),qn (aI b)⟩
  else qk
theorem L5 {m:Nat}:∀ {l:List Ek},(∀ r∈l,r.bo.length≤m)→(bh l).length≤l.length*(m+4)
  | [],_=>aa8 _
  | r::l,h=>by
    have ih:=L5 fun x hx=>h x (abq r hx)
    have h1:=h r abC;rw[oC,aa1,oS,abR,abF,Nat.one_mul];omega
theorem vY {l:List Ek} (h:∀ r∈l,0≤r.ty∧r.ty≤7∧r.bo.length≤255) (hl:l.length≤64):dX l=0∧kw l=bh l:=by
  have h1:=L5 (m:=255) fun r hr=>(h r hr).2.2
  exact Al (fun r hr=>by obtain⟨a,b,c⟩:=h r hr; exact Ak a (by omega) (by omega)) hl (by omega)
theorem l9 (k:Int):ar [] k=[]:=rfl
theorem oV (a b:List Ek) (k:Int):ar (a++b) k=ar a k++ar b k:=List.filter_append a b
theorem vZ {c:Bool} {t:Int} {b:List UInt8} {l:List Ek} {k:Int} (h:t=k):ar (⟨c,t,b⟩::l) k=⟨c,t,b⟩::ar l k:=by
  unfold ar;rw[List.filter_cons,if_pos (decide_eq_true h)]
theorem ip {c:Bool} {t:Int} {b:List UInt8} {l:List Ek} {k:Int} (h:t≠k):ar (⟨c,t,b⟩::l) k=ar l k:=by
  unfold ar;rw[List.filter_cons,if_neg (fun q=>h (of_decide_eq_true q))]
theorem gC {c:Bool} {t:Int} {b:List UInt8} (h1:0≤t∧t≤7) (h2:b.length≤255):0≤(⟨c,t,b⟩:Ek).ty∧(⟨c,t,b⟩:Ek).ty≤7∧(⟨c,t,b⟩:Ek).bo.length≤255:=⟨h1.1,h1.2,h2⟩
theorem AC {c:Bool} {t:Int} {b:List UInt8} (h:t≠7) (h2:t=1∨t=4→b.length%2=0):qj ⟨c,t,b⟩:=⟨h2,fun q=>absurd q h⟩
theorem U8 {l:List Ek} {k:Int} (h:∀ r∈l,r.ty=k):ar l k=l:=List.filter_eq_self.2 fun r hr=>decide_eq_true (h r hr)
theorem XB {l:List Ek} {k:Int} (h:∀ r∈l,r.ty≠k):ar l k=[]:=List.filter_eq_nil_iff.2 fun r hr q=>h r hr (of_decide_eq_true q)
theorem XC {i:List Ek} {e:Ek} {k:Int} (h:ar i k=[]) (he:e.ty=k):bS (i++[e]) k=[i.length]:=by
  have hl:(i++[e]).length=i.length+1:=by simp
  have hg:(i++[e]).getD i.length default=e:=by simp[aa0]
  have h0:nR (i++[e]) k i.length=[]:=by
    have h1:nR (i++[e]) k i.length=nR i k i.length:=by
      refine List.filter_congr fun j hj=>?_
      have hj:=acD.1 hj;rw[aa0,abt hj,← aa0]
    rw[h1];have:=cx i k;rw[h] at this;exact abz.1 this
  unfold bS;rw[hl,U7 (by rw[hg]; exact he),h0]; rfl
theorem L6 {i:List Ek} (h0:ar i 0=[]) (h1:(ar i 1).length≤1) (h4:(ar i 4).length≤1) (h6:(ar i 6).length≤1) (h7:(ar i 7).length≤1) (hb:∀ r∈i,qj r):lK (i++[⟨true,0,[]⟩]):=by
  have e:=XC (e:=⟨true,0,[]⟩) h0 rfl;have en:∀ k:Int,(0:Int)≠k→ar (i++[⟨true,0,[]⟩]) k=ar i k:=fun k hk=>by rw[oV,ip hk,l9,abj]
  refine⟨⟨by rw[e]; rfl,?_,?_,?_,?_,?_,?_⟩,fun r hr=>?_⟩
  ·rw[e]; simp
  ·rw[e]
   show ((i++[(⟨true,0,[]⟩:Ek)]).getD i.length default).bo.length=0
   simp[aa0]
  ·rw[cx,en 1 (by decide)]; exact h1
  ·rw[cx,en 4 (by decide)]; exact h4
  ·rw[cx,en 6 (by decide)]; exact h6
  ·rw[cx,en 7 (by decide)]; exact h7
  ·rcases abd.1 hr with h | h
   ·exact hb r h
   ·rw[aa6.1 h]; exact AC (by decide) fun _=>rfl
theorem AD {l:List Ek} {k:Int} {r:Ek} (h:ar l k=[r]):iJ l k=eS r.bo:=by
  have hl:(bS l k).length=1:=by rw[cx,h]; rfl
  unfold iJ;rw[lZ (by omega),h]; rfl
theorem r9 {x y:List Int} (h:dD x y=0):bQ x∧bQ y∧x.length≠0∧x.length≤16∧y.length≠0∧y.length≤16:=by
  unfold dD at h;by_cases h1:bQ x∧bQ y
  ·rw[if_neg (not_not_intro h1)] at h;by_cases h2:x.length=0∨16<x.length∨y.length=0∨16<y.length
   ·rw[if_pos h2] at h; exact absurd h (by decide)
   ·exact⟨h1.1,h1.2,by omega,by omega,by omega,by omega⟩
  ·rw[if_pos h1] at h; exact absurd h (by decide)
theorem AE {x y:List Int} (h:dD x y=0):dX (dT x y)=0∧kw (dT x y)=bh (dT x y):=by
  obtain⟨_,_,_,h1,_,h2⟩:=r9 h;refine vY (fun r hr=>?_) (show 3≤64 by decide);unfold dT at hr;rcases abk.1 hr with rfl | hr
  ·exact gC (by decide) (by rw[fJ]; omega)
  ·rcases abk.1 hr with rfl | hr
   ·exact gC (by decide) (by rw[fJ]; omega)
   ·rw[aa6.1 hr]; exact gC (by decide) (by decide)
theorem Bz {x y:List Int} (h:dD x y=0):dY (bF x y)=0∧aI (bF x y)=dT x y∧eK (bF x y):=by
  have e:bF x y=bh (dT x y):=if_pos h;obtain⟨q1,q2⟩:=Nk (AE h).1;rw[e];refine⟨q1,q2,q1,?_⟩;rw[q2];have n:∀ (k:Int),(1:Int)≠k→(4:Int)≠k→ar [(⟨true,1,aW x⟩:Ek),⟨true,4,aW y⟩] k=[]:=fun k h1 h2=>by rw[ip h1,ip h2,l9]
  refine L6 (i:=[⟨true,1,aW x⟩,⟨true,4,aW y⟩]) (n 0 (by decide) (by decide)) ?_ ?_ ?_ ?_ ?_
  ·rw[vZ rfl,ip (by decide),l9]; exact aba _
  ·rw[ip (by decide),vZ rfl,l9]; exact aba _
  ·rw[n 6 (by decide) (by decide)]; exact aa8 _
  ·rw[n 7 (by decide) (by decide)]; exact aa8 _
  ·intro r hr;rcases abk.1 hr with rfl | hr
   ·exact AC (by decide) fun _=>by rw[fJ]; omega
   ·rw[aa6.1 hr]; exact AC (by decide) fun _=>by rw[fJ]; omega
theorem Nt (x y:List Int):ar (dT x y) 1=[⟨true,1,aW x⟩]∧ar (dT x y) 4=[⟨true,4,aW y⟩]∧∀ k:Int,(1:Int)≠k→(4:Int)≠k→(0:Int)≠k→ar (dT x y) k=[]:=by
  unfold dT;refine⟨?_,?_,fun k h1 h2 h3=>?_⟩
  ·rw[vZ rfl,ip (by decide),ip (by decide),l9]
  ·rw[ip (by decide),vZ rfl,ip (by decide),l9]
  ·rw[ip h1,ip h2,ip h3,l9]
theorem aaL {x y:List Int} (h:dD x y=0):mO (bF x y)∧ic (aI (bF x y))=false∧iJ (aI (bF x y)) 1=x∧iJ (aI (bF x y)) 4=y:=by
  obtain⟨hx,hy,_⟩:=r9 h;obtain⟨q1,q2,q3⟩:=Bz h;obtain⟨a1,a4,an⟩:=Nt x y;unfold mO;rw[q2];refine⟨⟨q3,?_,?_,?_⟩,rfl,?_,?_⟩
  ·rw[cx,a1]; exact Nat.one_ne_zero
  ·rw[cx,a4]; exact Nat.one_ne_zero
  ·rw[cx,cx,cx,an 2 (by decide) (by decide) (by decide),an 3 (by decide) (by decide) (by decide),an 5 (by decide) (by decide) (by decide)]; rfl
  ·rw[AD a1,lY hx]
  ·rw[AD a4,lY hy]
theorem Of {x y:List Int} (h:dD x y=0):jd (bF x y)∧iK (bF x y)=x∧iL (bF x y)=y:=by
  obtain⟨hx,hy,_⟩:=r9 h;obtain⟨q1,q2,q3⟩:=Bz h;have ex:iK (bF x y)=x:=by
    unfold iK;rw[q2];exact lY hx
  have ey:iL (bF x y)=y:=by
    unfold iL;rw[q2];exact lY hy
  refine⟨⟨q3,by rw[q2]; rfl,by rw[ex,ey]; exact h,by rw[ex,ey]⟩,ex,ey⟩
theorem mg {x y:List Int} {v:Int} (h:dj x y=some v):v∈x∧v∈y:=by
  obtain⟨h1,h2⟩:=List.find?_eq_some_iff_append.1 h;obtain⟨u,w,rfl,_⟩:=h2;exact⟨abl _ abC,of_decide_eq_true h1⟩
theorem L8 {l:List Ek} {k:Int} {x:List Int} {r:Ek} (h:ar l k=[r]):fg l k x=if (eS r.bo).length=1∧(eS r.bo).getD 0 0∈x then some ((eS r.bo).getD 0 0) else none:=by
  unfold fg;rw[cx,h,if_pos (show [r].length=1 from rfl),AD h]
theorem JI {l:List Ek} {k v:Int} {x:List Int} {c:Bool} (h:ar l k=[⟨c,k,aW [v]⟩]) (hv:v∈x) (hs:0≤v∧v≤65535):fg l k x=some v:=by
  have e:eS (aW [v])=[v]:=lY fun n hn=>by rw[aa6.1 hn]; exact hs
  rw[L8 h];dsimp only;rw[e,if_pos ⟨rfl,hv⟩];rfl
theorem HC {l:List Ek} {k:Int} {x:List Int} {c:Bool} (h:ar l k=[⟨c,k,[]⟩]):fg l k x=none:=by
  have e:eS (⟨c,k,[]⟩:Ek).bo=[]:=lY (l:=[]) fun n hn=>by cases hn
  rw[L8 h,e,if_neg (fun q=>absurd q.1 (by decide))]
theorem U9 (r:List Fd) (c:Ch) (v a:Int) (ns:List (List UInt8)):∀ e∈gv r c v a ns,e.ty=5∧e.cr=false:=fun e he=>by
  obtain⟨n,_,rfl⟩:=abo.1 he;exact⟨rfl,rfl⟩
open IntWalk
set_option maxHeartbeats 3200000
def iU (f:Fd):Prop:=0≤f.ty∧f.ty≤4294967295∧f.da.length=32
theorem Me {l:List Fd} (h1:1≤l.length) (h2:l.length≤4) (h3:∀ i,i<l.length→iU (l.getD i default)∧∀ k,k<i→(l.getD k default).ty≠(l.getD i default).ty):cZ l:=by
  refine⟨h1,h2,fun f hf=>?_,yr.2 fun i j hij hj=>(h3 j hj).2 i hij⟩;obtain⟨i,hi,rfl⟩:=abB hf;have:=(h3 i hi).1;rw[aa0,aaY hi] at this;exact this
theorem mh {l:List Fd} (h:cZ l) {i:Nat} (hi:i<l.length):iU (l.getD i default)∧∀ k,k<i→(l.getD k default).ty≠(l.getD i default).ty :=
  ⟨h.2.2.1 _ (HB hi),fun k hk=>yr.1 h.2.2.2 k i hk hi⟩
def p9 (l:List Fd) (i:Nat):St:=⟨aT [(1,.w (.c (.rp [.sl (l.map bY)]))),(3,.w (.c (.d (.int .i64 (i:Int)))))],hL [],uL []⟩
def wK (l:List Fd) (i k:Nat):St:=⟨aT [(1,.w (.c (.rp [.sl (l.map bY)]))),(3,.w (.c (.d (.int .i64 (i:Int))))),(4,.w (.c (.d (.int .i64 (k:Int)))))],hL [],uL []⟩
def td:aL := .seq (.seq (.reg [oM 48 4,oM 49 3,oO 50 (.bin .lss (.t 48) (.t 49))]) (.cond (.t 50) (.skip) (.exit 2))) (.seq (.block 3 (.seq (.reg [oO 53 (.fieldAddr 0 (.t 1)),oO 54 (.load .sc (.t 53)),oM 55 4,oO 56 (.idxSl 2 (.t 54) (.t 55)),oO 57 (.fieldAddr 0 (.t 56)),oO 58 (.load .sc (.t 57)),oO 59 (.fieldAddr 0 (.t 1)),oO 60 (.load .sc (.t 59)),oM 61 3,oO 62 (.idxSl 2 (.t 60) (.t 61)),oO 63 (.fieldAddr 0 (.t 62)),oO 64 (.load .sc (.t 63)),oO 65 (.bin .eql (.t 58) (.t 64))]) (.cond (.t 65) (.seq (.reg [oO 2 (.mv (.k (.c (.d (.bool false)))))]) (.ret)) (.skip)))) (.reg [oM 51 4,oO 52 (.bin .add (.t 51) (kI 1)),oM 4 52]))
def oh:aL := .seq (.seq (.reg [oM 15 3,oO 16 (.fieldAddr 0 (.t 1)),oO 17 (.load .sc (.t 16)),oO 18 (.len (.t 17)),oO 19 (.bin .lss (.t 15) (.t 18))]) (.cond (.t 19) (.skip) (.exit 0))) (.seq (.block 1 (.seq (.seq (.reg [oO 22 (.fieldAddr 0 (.t 1)),oO 23 (.load .sc (.t 22)),oM 24 3,oO 25 (.idxSl 2 (.t 23) (.t 24)),oO 26 (.fieldAddr 0 (.t 25)),oO 27 (.load .sc (.t 26)),oO 28 (.bin .lss (.t 27) (kI 0)),oM 29 28,oG 30 (.fieldAddr 0 (.t 1)) 29 false,oG 31 (.load .sc (.t 30)) 29 false,oG 32 (.mv (.t 3)) 29 false,oG 33 (.idxSl 2 (.t 31) (.t 32)) 29 false,oG 34 (.fieldAddr 0 (.t 33)) 29 false,oG 35 (.load .sc (.t 34)) 29 false,oG 36 (.bin .gtr (.t 35) (kI 4294967295)) 29 false,oO 37 (.pick (.t 29) (.k (.c (.d (.bool true)))) (.t 36)),oM 38 37,oG 39 (.fieldAddr 0 (.t 1)) 38 false,oG 40 (.load .sc (.t 39)) 38 false,
 oG 41 (.mv (.t 3)) 38 false,oG 42 (.idxSl 2 (.t 40) (.t 41)) 38 false,oG 43 (.fieldAddr 1 (.t 42)) 38 false,oG 44 (.load .sc (.t 43)) 38 false,oG 45 (.len (.t 44)) 38 false,oG 46 (.bin .neq (.t 45) (kI 32)) 38 false,oO 47 (.pick (.t 38) (.k (.c (.d (.bool true)))) (.t 46))]) (.cond (.t 47) (.seq (.reg [oO 2 (.mv (.k (.c (.d (.bool false)))))]) (.ret)) (.skip))) (.seq (.reg [oO 4 (.mv (kI 0))]) (.block 2 (.loop td))))) (.reg [oM 20 3,oO 21 (.bin .add (.t 20) (kI 1)),oM 3 21]))
def uz:aD:=⟨1,66,.seq (.reg [oO 1 (.box .roBox (.t 0)),oO 2 (.mv (.k (.c (.d (.bool false)))))]) (.seq (.seq (.reg [oO 5 (.fieldAddr 0 (.t 1)),oO 6 (.load .sc (.t 5)),oO 7 (.len (.t 6)),oO 8 (.bin .lss (.t 7) (kI 1)),oM 9 8,oG 10 (.fieldAddr 0 (.t 1)) 9 false,oG 11 (.load .sc (.t 10)) 9 false,oG 12 (.len (.t 11)) 9 false,oG 13 (.bin .gtr (.t 12) (kI 4)) 9 false,oO 14 (.pick (.t 9) (.k (.c (.d (.bool true)))) (.t 13))]) (.cond (.t 14) (.seq (.reg [oO 2 (.mv (.k (.c (.d (.bool false)))))]) (.ret)) (.skip))) (.seq (.seq (.reg [oO 3 (.mv (kI 0))]) (.block 0 (.loop oh))) (.seq (.reg [oO 2 (.mv (.k (.c (.d (.bool true)))))]) (.ret)))),[(2,none)]⟩
theorem Vb:aB Tryz.prog { own:=[],comp:=[],frz:=[],nils:=[] } Tryz.f73=some uz:=by kernel_rfl
theorem XL (G:ah) (l:List Fd) (hl:l.length≤9223372036854775807):am Tryz.prog G 73 [bJ l] (.w (.c (.d (.bool (decide (cZ l)))))):=by
  refine aE Tryz.func73 Vb rfl rfl ?_;unfold bJ;rcases abD l.length 1 with h1 | h1
  ·have hno:¬ cZ l:=fun h=>by have:=h.1; omega
   rw[decide_eq_false hno];simp only[uz,af,ae,aa,seval,iteOmega,toNatUp];exact aF
  ·rcases abD 4 l.length with h4 | h4
   ·have hno:¬ cZ l:=fun h=>by have:=h.2.1; omega
    have g4:((l.length:Int)>4)=True:=eq_true (by omega);rw[decide_eq_false hno];simp only[uz,af,ae,aa,seval,iteOmega,toNatUp,g4];exact aF
   ·have g4:((l.length:Int)>4)=False:=eq_false (by omega);simp only[uz,af,ae,aa,seval,iteOmega,toNatUp,g4];refine be (p9 l) (fun i=>l.length-i) (fun i=>i≤l.length∧∀ j,j<i→iU (l.getD j default)∧∀ k,k<j→(l.getD k default).ty≠(l.getD j default).ty) 0 ⟨aa8 _,fun j hj=>by omega⟩ ?_ ?_
    ·refine aA (fun i=>0) ?_ ?_ rfl rfl <;> simp only[wx,aw,aG,aa,seval,iteOmega,toNatUp]
    ·rintro i ⟨hi,hok⟩;by_cases hlt:i<l.length
     ·have g:=mK hlt;have hno:¬ iU (l.getD i default)→¬ cZ l:=fun h hr=>h (mh hr hlt).1
      have hno2:∀ k,k<i→(l.getD k default).ty=(l.getD i default).ty→¬ cZ l:=fun k hk e hr=>(mh hr hlt).2 k hk e
      have hgo:iU (l.getD i default)→(∀ k,k<i→(l.getD k default).ty≠(l.getD i default).ty)→∀ j,j<i+1→iU (l.getD j default)∧∀ k,k<j→(l.getD k default).ty≠(l.getD j default).ty:=fun a b j hj=>by
        rcases abD j i with h | h
        ·exact hok j h
        ·obtain rfl:j=i:=by omega
         exact⟨a,b⟩
      by_cases hm:iU (l.getD i default)
      ·obtain⟨m1,m2,m3⟩:=hm;have g1:((l.getD i default).ty>4294967295)=False:=eq_false (by omega);have hgo:=hgo ⟨m1,m2,m3⟩;have est:p9 l i=⟨aT [(1,.w (.c (.rp [.sl (l.map bY)]))),(3,.w (.c (.d (.int .i64 (i:Int)))))],hL [],uL []⟩:=rfl;rw[est];clear hok hno est;generalize hx:l.getD i default=x at *
       simp only[oh,ae,aa,seval,iteOmega,toNatUp,aJ,g,bY,g1,m3];refine be (wK l i) (fun k=>i-k) (fun k=>k≤i∧∀ m,m<k→(l.getD m default).ty≠x.ty) 0 ⟨aa8 _,fun m hm=>by omega⟩ ?_ ?_
       ·refine aA (fun i=>0) ?_ ?_ rfl rfl <;> simp only[wx,aw,aG,aa,seval,iteOmega,toNatUp] <;> try rfl
       ·rintro k ⟨hk,hd⟩;by_cases hki:k<i
        ·have gk:=mK (l:=l) (i:=k) (by omega);have hne:=hno2 k hki;by_cases he:(l.getD k default).ty=x.ty
         ·rw[decide_eq_false (hne he)];have ge:((l.getD k default).ty=x.ty)=True:=eq_true he;clear hd hgo hno2 hne;generalize l.getD k default=y at *
          simp only[td,wK,ae,aa,seval,iteOmega,toNatUp,aJ,g,gk,bY,ge];exact aF
         ·have ge:((l.getD k default).ty=x.ty)=False:=eq_false he;have hd':∀ m,m<k+1→(l.getD m default).ty≠x.ty:=fun m hm=>by
            rcases abD m k with h | h
            ·exact hd m h
            ·obtain rfl:m=k:=by omega
             exact he
          clear hd hgo hno2 hne;generalize l.getD k default=y at *
          simp only[td,wK,ae,aa,seval,iteOmega,toNatUp,aJ,g,gk,bY,ge];refine aV (k+1) (by omega) ⟨by omega,hd'⟩ (aA (fun _=>0) ?_ ?_ rfl rfl) <;> simp only[wx,aw,aG,aa,seval,iteOmega,toNatUp] <;> try rfl
        ·obtain rfl:k=i:=by omega
         have hgo:=hgo hd;clear hno2 hd;simp only[td,wK,ae,aa,seval,iteOmega,toNatUp];refine aV (k+1) (by omega) ⟨by omega,hgo⟩ (aA (fun _=>0) ?_ ?_ rfl rfl) <;> simp only[wx,aw,aG,aa,seval,iteOmega,toNatUp] <;> try rfl
      ·rw[decide_eq_false (hno hm)];clear hok hno hno2 hgo;generalize hx:l.getD i default=x at *
       unfold iU at hm;rcases Int.lt_or_le x.ty 0 with m1 | m1
       ·have g1:(x.ty<0)=True:=eq_true m1;simp only[oh,p9,ae,aa,seval,iteOmega,toNatUp,aJ,g,bY,g1];exact aF
       ·have g0:(x.ty<0)=False:=eq_false (by omega);rcases Int.lt_or_le 4294967295 x.ty with m2 | m2
        ·have g1:(x.ty>4294967295)=True:=eq_true m2;simp only[oh,p9,ae,aa,seval,iteOmega,toNatUp,aJ,g,bY,g0,g1];exact aF
        ·have g1:(x.ty>4294967295)=False:=eq_false (by omega);have g2:((x.da.length:Int)=32)=False:=eq_false (by omega);simp only[oh,p9,ae,aa,seval,iteOmega,toNatUp,aJ,g,bY,g0,g1,g2];exact aF
     ·have hr:cZ l:=Me h1 h4 fun j hj=>hok j (by omega)
      rw[decide_eq_true hr];clear hok hr;simp only[oh,p9,ae,aa,seval,iteOmega,toNatUp];exact aF
def Mf:aD:=⟨2,17,.seq (.reg [oO 2 (.box .roBox (.t 0)),oO 3 (.box .roBox (.t 1)),oO 4 (.mv (.k (.c (.d (.bool false)))))]) (.seq (.reg [oO 5 (.fieldAddr 0 (.t 2)),oO 6 (.load .sc (.t 5)),oO 7 (.fieldAddr 0 (.t 3)),oO 8 (.load .sc (.t 7)),oO 9 (.call 20 [(.t 6),(.t 8)] none),oM 10 9,oG 11 (.fieldAddr 1 (.t 2)) 10 true,oG 12 (.load .sc (.t 11)) 10 true,oG 13 (.fieldAddr 1 (.t 3)) 10 true,oG 14 (.load .sc (.t 13)) 10 true,oG 15 (.call 20 [(.t 12),(.t 14)] none) 10 true,oO 16 (.pick (.t 10) (.t 15) (.k (.c (.d (.bool false))))),oM 4 16]) (.ret)),[(4,none)]⟩
theorem XM:aB Tryz.prog { own:=[],comp:=[],frz:=[],nils:=[] } Tryz.f32=some Mf:=by kernel_rfl
theorem ZN (G:ah) (a b:List UInt8):am Tryz.prog G 32 [.agg [.sl (a.map bD),.sl (b.map bD)],.agg [.sl (a.map bD),.sl (b.map bD)]] (.w (.c (.d (.bool true)))):=by
  refine aE Tryz.func32 XM rfl rfl ?_;have c1:=zx G a a;have c2:=zx G b b;rw[beq_self_eq_true] at c1 c2;simp only[Mf,af,ae,aa,seval,iteOmega,toNatUp];refine sD (c1) ?_;refine sD (c2) ?_;exact aF
theorem E6 {α:Type} (k:Int) (v:α):∀ es:List (Int×α),(cg es k v).map (·.1)=if k∈es.map (·.1) then es.map (·.1) else es.map (·.1)++[k]
  | []=>rfl
  | (y,u)::r=>by
    simp only[cg];by_cases e:y=k
    ·subst e;rw[if_pos rfl,if_pos (by simp)];rfl
    ·rw[if_neg e,aa5,E6 k v r,aa5];by_cases h:k∈r.map (·.1)
     ·rw[if_pos h,if_pos (abq _ h)]
     ·rw[if_neg h,if_neg (by
      intro q;rcases abk.1 q with q | q
      ·exact e q.symm
      ·exact h q),abT]
theorem Pz {α:Type} {es:List (Int×α)} (h:(es.map (·.1)).Nodup) (k:Int) (v:α):((cg es k v).map (·.1)).Nodup:=by
  rw[E6];split
  ·exact h
  ·rename_i hk;refine acE.2 ⟨h,by simp,fun a ha b hb e=>?_⟩;rw[aa6] at hb;subst hb e;exact hk ha
theorem jk {α:Type} (y:Int) (u:α) (r:List (Int×α)) (k:Int):aU ((y,u)::r) k=if y=k then some u else aU r k:=by
  unfold aU;by_cases e:y=k
  ·subst e; simp
  ·rw[if_neg e,abN (by simpa using e)]
theorem zV {α:Type}:∀ {es:List (Int×α)} {k:Int} {v:α},(es.map (·.1)).Nodup→(k,v)∈es→aU es k=some v
  | (y,u)::r,k,v,hn,h=>by
    rw[aa5,List.nodup_cons] at hn;rw[jk];rcases abk.1 h with h | h
    ·cases h; rw[if_pos rfl]
    ·have:y≠k:=fun e=>hn.1 (e ▸ abo.2 ⟨_,h,rfl⟩)
     rw[if_neg this];exact zV hn.2 h
theorem MA {α:Type}:∀ {es:List (Int×α)} {k:Int} {v:α},aU es k=some v→(k,v)∈es
  | [],_,_,h=>by cases h
  | (y,u)::r,k,v,h=>by
    rw[jk] at h;by_cases e:y=k
    ·rw[if_pos e] at h; cases h; subst e; exact abC
    ·rw[if_neg e] at h; exact abq _ (MA h)
theorem JZ {α β:Type} (f:α→β):∀ (es:List (Int×α)) (k:Int),aU (es.map fun p=>(p.1,f p.2)) k=(aU es k).map f
  | [],_=>rfl
  | (y,u)::r,k=>by
    rw[aa5,jk,jk,JZ f r k];split <;> rfl
def eT (l:List Ek):Nat→List (Int×List Ek)
  | 0=>[]
  | i+1=>cg (eT l i) (l.getD i default).ty ((aU (eT l i) (l.getD i default).ty).getD []++[l.getD i default])
theorem yt (l:List Ek):∀ i,((eT l i).map (·.1)).Nodup
  | 0=>List.nodup_nil
  | i+1=>Pz (yt l i) _ _
theorem Tj (l:List Ek) (r:Ek) (k:Int):ar (l++[r]) k=if r.ty=k then ar l k++[r] else ar l k:=by
  unfold ar;rw[List.filter_append];by_cases h:r.ty=k
  ·rw[if_pos h,List.filter_cons_of_pos (by simpa using h)]; rfl
  ·rw[if_neg h,List.filter_cons_of_neg (by simpa using h)]; simp
theorem AO (l:List Ek):∀ (i:Nat),i≤l.length→∀ k,aU (eT l i) k=if ar (l.take i) k=[] then none else some (ar (l.take i) k)
  | 0,_,k=>by rw[ab9]; rfl
  | i+1,hi,k=>by
    have ih:=AO l i (by omega);have hg:(aU (eT l i) (l.getD i default).ty).getD []=ar (l.take i) (l.getD i default).ty:=by
      rw[ih];split
      ·rename_i h; rw[h]; rfl
      ·rfl
    rw[eT,JY,hg,sQ (by omega),Tj];by_cases h:k=(l.getD i default).ty
    ·subst h;rw[if_pos rfl,if_pos rfl,if_neg (by simp)]
    ·rw[if_neg h,if_neg (show ¬ (l.getD i default).ty=k from fun e=>h e.symm),ih]
def xj (l:List Ek):List (Int×List Ek):=eT l l.length
theorem AP (l:List Ek) (k:Int):aU (xj l) k=if ar l k=[] then none else some (ar l k):=by
  have:=AO l l.length (aba _) k;rw[acm] at this;exact this
theorem Vl {l:List Ek} {k:Int} {x:List Ek} (h:(k,x)∈xj l):x=ar l k∧x≠[]:=by
  have:=zV (yt l _) h;rw[show aU (eT l l.length) k=_ from AP l k] at this;split at this
  ·cases this
  ·rename_i h2; cases this; exact⟨rfl,h2⟩
theorem Vm {l:List Ek} {k:Int} (h:ar l k≠[]):(k,ar l k)∈xj l:=MA (by rw[AP,if_neg h])
def cV (l:List Ek):List (Int×D):=(xj l).map fun p=>(p.1,.sl (p.2.map aM))
def cE (l:List Ek):D:=.mp .i64 (cV l)
theorem AQ (l:List Ek) (k:Int):(aU (cV l) k).getD (.sl [])=.sl ((ar l k).map aM):=by
  unfold cV;rw[JZ (fun x:List Ek=>D.sl (x.map aM)),AP];split
  ·rename_i h; rw[h]; rfl
  ·rfl
theorem J0 {l:List Ek} {p:Int×D} (h:p∈cV l):p=(p.1,.sl ((ar l p.1).map aM))∧ar l p.1≠[]:=by
  obtain⟨⟨k,x⟩,h1,rfl⟩:=abo.1 h;obtain⟨rfl,h2⟩:=Vl h1;exact⟨rfl,h2⟩
theorem Vn {l:List Ek} {k:Int} (h:ar l k≠[]):(k,D.sl ((ar l k).map aM))∈cV l:=abo.2 ⟨_,Vm h,rfl⟩
theorem qZ:cE []=.mp .i64 []:=rfl
def cJ:List (Int×List Ek)→Nat→List (Int×C)
  | [],_=>[]
  | p::r,j=>(p.1,.own (8*j+3) 3 0 p.2.length)::cJ r (j+1)
theorem MB:∀ (es:List (Int×List Ek)) (b:Nat) (k:Int),aU (cJ es b) k=none∧aU es k=none∨∃ j x,aU es k=some x∧es[j]?=some (k,x)∧aU (cJ es b) k=some (.own (8*(b+j)+3) 3 0 x.length)∧∀ c,cg (cJ es b) k c=((cJ es b).set j (k,c))∧∀ y,cg es k y=es.set j (k,y)
  | [],_,_=>.inl ⟨rfl,rfl⟩
  | (y,u)::r,b,k=>by
    by_cases e:y=k
    ·subst e;refine .inr ⟨0,u,by rw[jk,if_pos rfl],rfl,by rw[cJ,jk,if_pos rfl]; rfl,fun c=>⟨?_,fun z=>?_⟩⟩
     ·rw[cJ,cg,if_pos rfl]; rfl
     ·rw[cg,if_pos rfl]; rfl
    ·rcases MB r (b+1) k with ⟨h1,h2⟩ | ⟨j,x,h1,h2,h3,h4⟩
     ·exact .inl ⟨by rw[cJ,jk,if_neg e,h1],by rw[jk,if_neg e,h2]⟩
     ·refine .inr ⟨j+1,x,by rw[jk,if_neg e,h1],h2,?_,fun c=>⟨?_,fun z=>?_⟩⟩
      ·rw[cJ,jk,if_neg e,h3,show b+1+j=b+(j+1) by omega]
      ·rw[cJ,cg,if_neg e,(h4 c).1]; rfl
      ·rw[cg,if_neg e,(h4 c).2 z]; rfl
theorem zb {α:Type}:∀ {es:List (Int×α)} {k:Int} (v:α),aU es k=none→cg es k v=es++[(k,v)]
  | [],_,_,_=>rfl
  | (y,u)::r,k,v,h=>by
    rw[jk] at h;by_cases e:y=k
    ·rw[if_pos e] at h; cases h
    ·rw[if_neg e] at h;rw[cg,if_neg e,zb v h,abT]
theorem J1:∀ (es:List (Int×List Ek)) (b:Nat),(cJ es b).length=es.length
  | [],_=>rfl
  | _::r,b=>by rw[cJ,abR,J1 r,abR]
theorem q0:∀ (es:List (Int×List Ek)) (b j:Nat),(cJ es b)[j]?=(es[j]?).map fun p=>(p.1,.own (8*(b+j)+3) 3 0 p.2.length)
  | [],_,_=>rfl
  | p::r,b,0=>rfl
  | p::r,b,j+1=>by rw[cJ,abI,q0 r (b+1) j,abI,show b+1+j=b+(j+1) by omega]
def fu (es:List (Int×List Ek)):au:=fun id=>if id=1 then some (.mp .i64 (cJ es 0)) else if id%8=3 then (es[id / 8]?).map fun p=>.row 3 (p.2.map aM) else none
def gj:Nat→Bool:=fun id=>decide (id=1) || decide (id%8=3)
theorem Yc (es:List (Int×List Ek)):fu es 1=some (.mp .i64 (cJ es 0)):=rfl
theorem vh (es:List (Int×List Ek)) (j:Nat):fu es (8*j+3)=(es[j]?).map fun p=>.row 3 (p.2.map aM):=by
  unfold fu;rw[if_neg (by omega),if_pos (by omega),show (8*j+3) / 8=j by omega]
theorem AR (j:Nat):gj (8*j)=false:=by
  unfold gj;rw[decide_eq_false (by omega),decide_eq_false (by omega)]; rfl
theorem MC (j:Nat):gj (8*j+3)=true:=by
  unfold gj;rw[decide_eq_true (show (8*j+3)%8=3 by omega),Bool.or_true]
theorem te {es:List (Int×List Ek)} {id:Nat} {o:Ob} (h:fu es id=some o):(id=1∧o=.mp .i64 (cJ es 0))∨∃ j p,id=8*j+3∧es[j]?=some p∧o=.row 3 (p.2.map aM):=by
  unfold fu at h;split at h
  ·rename_i e; cases h; exact .inl ⟨e,rfl⟩
  ·split at h
   ·obtain⟨p,h1,rfl⟩:=aaZ.1 h;exact .inr ⟨id / 8,p,by omega,h1,rfl⟩
   ·cases h
theorem Vo {es:List (Int×List Ek)} {b i:Nat} (h:i∈(cJ es b).flatMap fun p=>p.2.ids):∃ j,i=8*j+3:=by
  obtain⟨p,h1,h2⟩:=abb.1 h;obtain⟨j,hj⟩:=List.getElem?_of_mem h1;rw[q0] at hj;obtain⟨q,_,rfl⟩:=aaZ.1 hj;have:i=8*(b+j)+3:=by simpa [C.ids] using h2
  exact⟨b+j,this⟩
theorem zW {σ:St} (g:Nat→Nat) {fl:List (Nat×V)} {es:List (Int×List Ek)} (h1:lD σ.f g fl) (hm:σ.h (g 1)=some (.mp .i64 ((cJ es 0).map fun p=>(p.1,p.2.ren g)))) (hr:∀ j p,es[j]?=some p→σ.h (g (8*j+3))=some (.row 3 (p.2.map aM)))
    (hg1:∀ j,g 1≠g (8*j+3)) (hg2:∀ i j,i<es.length→j<es.length→g (8*i+3)=g (8*j+3)→i=j) (hf:(fl.flatMap fun p=>p.2.ids).all (fun i=>gj i)=true):dP σ ⟨aT fl,fu es,gj⟩:=by
  refine⟨⟨g,Ae (zt h1),fun i o ho=>?_,fun i j hi hj e=>?_⟩,fun t i hi=>abi.1 hf i (IM hi),fun i o ho=>?_⟩
  ·rcases te ho with ⟨rfl,rfl⟩ | ⟨j,p,rfl,hp,rfl⟩
   ·exact hm
   ·exact hr j p hp
  ·obtain⟨oi,hi⟩:=abm.1 hi;obtain⟨oj,hj⟩:=abm.1 hj;rcases te hi with ⟨rfl,_⟩ | ⟨a,p,rfl,hp,_⟩ <;> rcases te hj with ⟨rfl,_⟩ | ⟨b,q,rfl,hq,_⟩
   ·rfl
   ·exact absurd e (hg1 b)
   ·exact absurd e.symm (hg1 a)
   ·rw[hg2 a b (abf.1 hp).1 (abf.1 hq).1 e]
  ·rcases te ho with ⟨rfl,rfl⟩ | ⟨j,p,rfl,hp,rfl⟩
   ·refine⟨rfl,fun i hi=>?_⟩;obtain⟨j,rfl⟩:=Vo (show i∈(cJ es 0).flatMap fun p=>p.2.ids from hi);exact MC j
   ·exact⟨MC j,fun i hi=>by cases hi⟩
theorem E7 (es:List (Int×List Ek)):∀ (r:List (Int×List Ek)) (b:Nat),(∀ j p,r[j]?=some p→fu es (8*(b+j)+3)=some (.row 3 (p.2.map aM)))→kU (fu es) (cJ r b)=some (r.map fun p=>(p.1,D.sl (p.2.map aM)))
  | [],_,_=>rfl
  | p::r,b,h=>by
    have h0:=h 0 p rfl;have ih:=E7 es r (b+1) fun j q hq=>by have:=h (j+1) q hq; rw[show b+(j+1)=b+1+j by omega] at this; exact this
    have hd:dC (fu es) (.own (8*b+3) 3 0 p.2.length)=some (.sl (p.2.map aM)):=by
      simp only[dC];rw[show b+0=b from rfl] at h0;rw[h0];simp[df,aa2]
    simp only[cJ,kU,hd,ih,D.one,if_true,aa5]
theorem Q4 (es:List (Int×List Ek)):kU (fu es) (cJ es 0)=some (es.map fun p=>(p.1,D.sl (p.2.map aM))) :=
  E7 es es 0 fun j p hp=>by rw[abQ,vh,hp]; rfl
theorem rC {l:List Ek} {t:Int} (h:∀ r∈l,r.ty=t) (k:Int):ar l k=if k=t then l else []:=by
  by_cases e:k=t
  ·rw[if_pos e,e,U8 h]
  ·rw[if_neg e];exact XB fun r hr q=>e (by rw[← q,h r hr])
def bK (a:Ek) (b x h p:List Ek):List Ek:=a::(b++(x++(h++p)))
theorem YL {a:Ek} {b x h p:List Ek} (h1:a.ty=1) (h4:∀ r∈b,r.ty=4) (h5:∀ r∈x,r.ty=5) (h6:∀ r∈h,r.ty=6) (h7:∀ r∈p,r.ty=7) (k:Int) :
    ar (bK a b x h p) k=(if k=1 then [a] else [])++((if k=4 then b else [])++((if k=5 then x else [])++((if k=6 then h else [])++(if k=7 then p else [])))):=by
  have e:bK a b x h p=[a]++(b++(x++(h++p))):=rfl;rw[e,oV,oV,oV,oV,rC (l:=[a]) (t:=1) (fun r hr=>by rw[aa6.1 hr]; exact h1),rC h4,rC h5,rC h6,rC h7]
def cv:Ek:=⟨true,0,[]⟩
theorem A4 {a:Ek} {b x h p:List Ek} {P:Ek→Prop} (h1:P a) (h4:∀ r∈b,P r) (h5:∀ r∈x,P r) (h6:∀ r∈h,P r) (h7:∀ r∈p,P r):∀ r∈bK a b x h p,P r:=by
  intro r hr;rcases abk.1 hr with rfl | hr
  ·exact h1
  ·rcases abd.1 hr with hr | hr
   ·exact h4 r hr
   ·rcases abd.1 hr with hr | hr
    ·exact h5 r hr
    ·rcases abd.1 hr with hr | hr
     ·exact h6 r hr
     ·exact h7 r hr
theorem BM {a:Ek} {b x h p:List Ek} (h1:a.ty=1) (h4:∀ r∈b,r.ty=4) (h5:∀ r∈x,r.ty=5) (h6:∀ r∈h,r.ty=6) (h7:∀ r∈p,r.ty=7)
    (l4:b.length≤1) (l5:x.length≤8) (l6:h.length≤1) (l7:p.length≤1) (b1:a.bo.length%2=0∧a.bo.length≤255) (b4:∀ r∈b,r.bo.length%2=0∧r.bo.length≤255) (b5:∀ r∈x,r.bo.length≤255) (b6:∀ r∈h,r.bo.length≤255) (b7:∀ r∈p,r.bo.length=2) :
    dX (bK a b x h p++[cv])=0∧dY (bh (bK a b x h p++[cv]))=0∧aI (bh (bK a b x h p++[cv]))=bK a b x h p++[cv]∧eK (bh (bK a b x h p++[cv]))∧ic (bK a b x h p++[cv])=false ∧
      ar (bK a b x h p++[cv]) 1=[a]∧ar (bK a b x h p++[cv]) 2=[]∧ar (bK a b x h p++[cv]) 4=b∧ar (bK a b x h p++[cv]) 5=x∧ar (bK a b x h p++[cv]) 6=h∧ar (bK a b x h p++[cv]) 7=p:=by
  have al:=YL h1 h4 h5 h6 h7;have z1:(1:Int)≠4∧(1:Int)≠5∧(1:Int)≠6∧(1:Int)≠7:=by decide
  have al0:ar (bK a b x h p) 0=[]:=by rw[al]; rfl
  have al1:ar (bK a b x h p) 1=[a]:=by rw[al]; rfl
  have al2:ar (bK a b x h p) 2=[]:=by rw[al]; rfl
  have al4:ar (bK a b x h p) 4=b:=by
    rw[al]
    show []++(b++([]++([]++[])))=b
    simp
  have al5:ar (bK a b x h p) 5=x:=by
    rw[al]
    show []++([]++(x++([]++[])))=x
    simp
  have al6:ar (bK a b x h p) 6=h:=by
    rw[al]
    show []++([]++([]++(h++[])))=h
    simp
  have al7:ar (bK a b x h p) 7=p:=by
    rw[al]; rfl
  have en:∀ k:Int,(0:Int)≠k→ar (bK a b x h p++[cv]) k=ar (bK a b x h p) k:=fun k hk=>by
    unfold cv;rw[oV,ip hk,l9,abj]
  have hl:(bK a b x h p).length≤12:=by
    unfold bK;rw[abR,aa1,aa1,aa1]; omega
  have ok:dX (bK a b x h p++[cv])=0:=by
    refine (vY (fun r hr=>?_) (by rw[aa1]; show _+1≤64; omega)).1;rcases abd.1 hr with hr | hr
    ·refine A4 (P:=fun r=>0≤r.ty∧r.ty≤7∧r.bo.length≤255) ?_ ?_ ?_ ?_ ?_ r hr
     ·exact⟨by omega,by omega,b1.2⟩
     ·exact fun r hr=>⟨by rw[h4 r hr]; decide,by rw[h4 r hr]; decide,(b4 r hr).2⟩
     ·exact fun r hr=>⟨by rw[h5 r hr]; decide,by rw[h5 r hr]; decide,b5 r hr⟩
     ·exact fun r hr=>⟨by rw[h6 r hr]; decide,by rw[h6 r hr]; decide,b6 r hr⟩
     ·exact fun r hr=>⟨by rw[h7 r hr]; decide,by rw[h7 r hr]; decide,by rw[b7 r hr]; decide⟩
    ·rw[aa6.1 hr]; exact gC (by decide) (by decide)
  obtain⟨d1,d2⟩:=Nk ok;have fm:lK (bK a b x h p++[cv]):=by
    refine L6 al0 (by rw[al1]; exact aba _) (by rw[al4]; exact l4) (by rw[al6]; exact l6) (by rw[al7]; exact l7) ?_;refine A4 ?_ ?_ ?_ ?_ ?_
    ·exact⟨fun _=>b1.1,fun q=>absurd (h1.symm.trans q) (by decide)⟩
    ·exact fun r hr=>⟨fun _=>(b4 r hr).1,fun q=>absurd ((h4 r hr).symm.trans q) (by decide)⟩
    ·exact fun r hr=>⟨fun q=>by rcases q with q | q <;> exact absurd ((h5 r hr).symm.trans q) (by decide),fun q=>absurd ((h5 r hr).symm.trans q) (by decide)⟩
    ·exact fun r hr=>⟨fun q=>by rcases q with q | q <;> exact absurd ((h6 r hr).symm.trans q) (by decide),fun q=>absurd ((h6 r hr).symm.trans q) (by decide)⟩
    ·exact fun r hr=>⟨fun q=>by rcases q with q | q <;> exact absurd ((h7 r hr).symm.trans q) (by decide),fun _=>b7 r hr⟩
  have st:ic (bK a b x h p++[cv])=false:=by
    unfold ic;rw[ab1];intro r hr;have:r.ty≤7:=by
      rcases abd.1 hr with hr | hr
      ·refine A4 (P:=fun r=>r.ty≤7) (by omega) ?_ ?_ ?_ ?_ r hr
       ·exact fun r hr=>by rw[h4 r hr]; decide
       ·exact fun r hr=>by rw[h5 r hr]; decide
       ·exact fun r hr=>by rw[h6 r hr]; decide
       ·exact fun r hr=>by rw[h7 r hr]; decide
      ·rw[aa6.1 hr]; exact (show (0:Int)≤7 by decide)
    rw[abu];exact fun q=>absurd (of_decide_eq_true q.2) (by omega)
  exact⟨ok,d1,d2,⟨d1,by rw[d2]; exact fm⟩,st,by rw[en 1 (by decide),al1],by rw[en 2 (by decide),al2],by rw[en 4 (by decide),al4],by rw[en 5 (by decide),al5],by rw[en 6 (by decide),al6],by rw[en 7 (by decide),al7]⟩
theorem BN {a:Ek} {b x h p:List Ek} {c:Ch} {q:List UInt8} (hv:dK c) (hq:jd q)
    (fm:eK (bh (bK a b x h p++[cv]))) (dl:aI (bh (bK a b x h p++[cv]))=bK a b x h p++[cv]) (st:ic (bK a b x h p++[cv])=false)
    (a2:ar (bK a b x h p++[cv]) 2=[]) (a5:ar (bK a b x h p++[cv]) 5=x) (l5:x.length≤8) (c5:∀ r∈x,r.bo.length=104) :
    (fg (bK a b x h p++[cv]) 1 (iK q)=none∨fg (bK a b x h p++[cv]) 4 (iL q)=none→ei c q (bh (bK a b x h p++[cv]))=10) ∧
      (∀ v w,fg (bK a b x h p++[cv]) 1 (iK q)=some v→fg (bK a b x h p++[cv]) 4 (iL q)=some w→x.length≠0→ei c q (bh (bK a b x h p++[cv]))=0 ∧
        mQ c q (bh (bK a b x h p++[cv]))=⟨v,w,bp c v w 0,bp c v w 1,x.map (·.bo),qm (bK a b x h p++[cv]),qn (bK a b x h p++[cv])⟩):=by
  generalize bK a b x h p++[cv]=L at *
  have n5:(bS L 5).length=x.length:=by rw[cx,a5]
  have n2:(bS L 2).length=0:=by rw[cx,a2]; rfl
  have ck:jH L=x.map (·.bo):=by unfold jH; rw[a5]
  have e:ei c q (bh L)=if ¬ ((fg L 1 (iK q)).isSome∧(fg L 4 (iL q)).isSome∧(bS L 5).length≠0) then 10 else if 8<(bS L 5).length then 8 else if ¬ ∀ x∈jH L,x.length=104 then 3 else 0:=by
    unfold ei;rw[dl,if_neg (not_not_intro hv),if_neg (not_not_intro hq),if_neg (not_not_intro fm),if_neg (by rw[st]; exact Bool.false_ne_true),if_neg (not_not_intro n2)]
  refine⟨fun hno=>?_,fun v w e1 e4 h0=>?_⟩
  ·rw[e,if_pos];rintro⟨q1,q2,_⟩;rcases hno with hno | hno
   ·rw[hno] at q1; exact absurd q1 (by decide)
   ·rw[hno] at q2; exact absurd q2 (by decide)
  ·have e0:ei c q (bh L)=0:=by
     rw[e,if_neg,n5,if_neg (by omega),if_neg]
     ·refine not_not_intro fun y hy=>?_
      rw[ck] at hy;obtain⟨r,hr,rfl⟩:=abo.1 hy;exact c5 r hr
     ·refine not_not_intro ⟨by rw[e1]; rfl,by rw[e4]; rfl,by rw[n5]; exact h0⟩
   refine⟨e0,?_⟩;unfold mQ;rw[if_pos e0,dl,e1,e4,ck];rfl
theorem rP (H W:Nat→List UInt32) (hW:∀ s,(W s).length=16) (L:Nat):iz (bc L) (cQ L) (bO H L) (pw (fun s=>(W s).getD 0 0) L) (pw (fun s=>(W s).getD 1 0) L) (pw (fun s=>(W s).getD 2 0) L) (pw (fun s=>(W s).getD 3 0) L) (pw (fun s=>(W s).getD 4 0) L) (pw (fun s=>(W s).getD 5 0) L) (pw (fun s=>(W s).getD 6 0) L) (pw (fun s=>(W s).getD 7 0) L) (pw (fun s=>(W s).getD 8 0) L) (pw (fun s=>(W s).getD 9 0) L) (pw (fun s=>(W s).getD 10 0) L) (pw (fun s=>(W s).getD 11 0) L) (pw (fun s=>(W s).getD 12 0) L) (pw (fun s=>(W s).getD 13 0) L) (pw (fun s=>(W s).getD 14 0) L) (pw (fun s=>(W s).getD 15 0) L)=bO (fun s=>hB (H s) (W s)) L:=by
  have g:=MN H (fun s=>aK (W s)) L;have w:∀ t,t<16→(fun s=>bR (aK (W s)) t)=fun s=>(W s).getD t 0:=fun t ht=>funext fun s=>z3 (W s) (by rw[hW]; exact ht)
  rw[w 0 (by decide),w 1 (by decide),w 2 (by decide),w 3 (by decide),w 4 (by decide),w 5 (by decide),w 6 (by decide),w 7 (by decide),w 8 (by decide),w 9 (by decide),w 10 (by decide),w 11 (by decide),w 12 (by decide),w 13 (by decide),w 14 (by decide),w 15 (by decide)] at g;exact g
noncomputable def sJ (one m:Nat) (S T:E8) (c0 c1 c2 c3 c4 c5 c6 c7:Nat):E8:=E8.rec (fun a0 a1 a2 a3 a4 a5 a6 a7=>iz one m S a0 a1 a2 a3 a4 a5 a6 a7 c0 c1 c2 c3 c4 c5 c6 c7) T
theorem Y5 (one m:Nat) (S:E8) (a0 a1 a2 a3 a4 a5 a6 a7 c0 c1 c2 c3 c4 c5 c6 c7:Nat):sJ one m S (E8.mk a0 a1 a2 a3 a4 a5 a6 a7) c0 c1 c2 c3 c4 c5 c6 c7=iz one m S a0 a1 a2 a3 a4 a5 a6 a7 c0 c1 c2 c3 c4 c5 c6 c7:=rfl
theorem Y6 {A C:List UInt32} (hA:A.length=8) {t:Nat} (h:t<8):(A++C).getD t 0=A.getD t 0:=by
  rw[aa0,abt (by omega),aa0]
theorem Y7 {A C:List UInt32} (hA:A.length=8) (t:Nat):(A++C).getD (8+t) 0=C.getD t 0:=by
  rw[aa0,abh (by omega),aa0,hA,ab8]
theorem Y8 (H A:Nat→List UInt32) (C:List UInt32) (hA:∀ s,(A s).length=8) (hC:C.length=8) (L:Nat):sJ (bc L) (cQ L) (bO H L) (bO A L) (Nat.mul (C.getD 0 0).toNat (bc L)) (Nat.mul (C.getD 1 0).toNat (bc L)) (Nat.mul (C.getD 2 0).toNat (bc L)) (Nat.mul (C.getD 3 0).toNat (bc L)) (Nat.mul (C.getD 4 0).toNat (bc L)) (Nat.mul (C.getD 5 0).toNat (bc L)) (Nat.mul (C.getD 6 0).toNat (bc L)) (Nat.mul (C.getD 7 0).toNat (bc L))=bO (fun s=>hB (H s) (A s++C)) L:=by
  have g:=rP H (fun s=>A s++C) (fun s=>by rw[aa1,hA,hC]) L;have l:∀ t,t<8→(fun s=>(A s++C).getD t 0)=fun s=>(A s).getD t 0:=fun t h=>funext fun s=>Y6 (hA s) h
  have r:∀ t,(fun s=>(A s++C).getD (8+t) 0)=fun _=>C.getD t 0:=fun t=>funext fun s=>Y7 (hA s) t
  have c:∀ t,Nat.mul (C.getD t 0).toNat (bc L)=pw (fun _=>C.getD t 0) L:=fun t=>ik _ L
  rw[l 0 (by decide),l 1 (by decide),l 2 (by decide),l 3 (by decide),l 4 (by decide),l 5 (by decide),l 6 (by decide),l 7 (by decide),show (fun s=>(A s++C).getD 8 0)=fun _=>C.getD 0 0 from r 0,show (fun s=>(A s++C).getD 9 0)=fun _=>C.getD 1 0 from r 1,show (fun s=>(A s++C).getD 10 0)=fun _=>C.getD 2 0 from r 2,show (fun s=>(A s++C).getD 11 0)=fun _=>C.getD 3 0 from r 3,show (fun s=>(A s++C).getD 12 0)=fun _=>C.getD 4 0 from r 4,show (fun s=>(A s++C).getD 13 0)=fun _=>C.getD 5 0 from r 5,show (fun s=>(A s++C).getD 14 0)=fun _=>C.getD 6 0 from r 6,show (fun s=>(A s++C).getD 15 0)=fun _=>C.getD 7 0 from r 7] at g;rw[c 0,c 1,c 2,c 3,c 4,c 5,c 6,c 7];unfold bO at *
  rw[Y5];exact g
theorem MS {H A:Nat→List UInt32} {C:List UInt32} {S T:E8} {L c0 c1 c2 c3 c4 c5 c6 c7:Nat} (hS:S=bO H L) (hT:T=bO A L) (hA:∀ s,(A s).length=8) (hC:C.length=8) (h0:c0=Nat.mul (C.getD 0 0).toNat (bc L)) (h1:c1=Nat.mul (C.getD 1 0).toNat (bc L)) (h2:c2=Nat.mul (C.getD 2 0).toNat (bc L)) (h3:c3=Nat.mul (C.getD 3 0).toNat (bc L)) (h4:c4=Nat.mul (C.getD 4 0).toNat (bc L)) (h5:c5=Nat.mul (C.getD 5 0).toNat (bc L)) (h6:c6=Nat.mul (C.getD 6 0).toNat (bc L)) (h7:c7=Nat.mul (C.getD 7 0).toNat (bc L)):sJ (bc L) (cQ L) S T c0 c1 c2 c3 c4 c5 c6 c7=bO (fun s=>hB (H s) (A s++C)) L:=by
  subst hS hT h0 h1 h2 h3 h4 h5 h6 h7;exact Y8 H A C hA hC L
theorem qb (L:Nat):0=Nat.mul 0 (bc L):=(acx _).symm
noncomputable def OB (c:Nat) (T:E8):E8:=E8.rec (fun a0 a1 a2 a3 a4 a5 a6 a7=>E8.mk (Nat.xor a0 c) (Nat.xor a1 c) (Nat.xor a2 c) (Nat.xor a3 c) (Nat.xor a4 c) (Nat.xor a5 c) (Nat.xor a6 c) (Nat.xor a7 c)) T
theorem Y9 (A:Nat→List UInt32) (hA:∀ s,(A s).length=8) (c:UInt32) (L:Nat):OB (Nat.mul c.toNat (bc L)) (bO A L)=bO (fun s=>(A s).map fun w=>cY w c) L:=by
  have k:∀ t,t<8→Nat.xor (pw (fun s=>(A s).getD t 0) L) (Nat.mul c.toNat (bc L))=pw (fun s=>((A s).map fun w=>cY w c).getD t 0) L:=fun t ht=>by
    rw[ik,MP];refine congrArg (fun x=>pw x L) (funext fun s=>?_);rw[aa0,aa0,abK,aaY (by rw[hA]; exact ht)];rfl
  unfold bO
  show E8.mk (Nat.xor (pw (fun s=>(A s).getD 0 0) L) (Nat.mul c.toNat (bc L))) (Nat.xor (pw (fun s=>(A s).getD 1 0) L) (Nat.mul c.toNat (bc L))) (Nat.xor (pw (fun s=>(A s).getD 2 0) L) (Nat.mul c.toNat (bc L))) (Nat.xor (pw (fun s=>(A s).getD 3 0) L) (Nat.mul c.toNat (bc L))) (Nat.xor (pw (fun s=>(A s).getD 4 0) L) (Nat.mul c.toNat (bc L))) (Nat.xor (pw (fun s=>(A s).getD 5 0) L) (Nat.mul c.toNat (bc L))) (Nat.xor (pw (fun s=>(A s).getD 6 0) L) (Nat.mul c.toNat (bc L))) (Nat.xor (pw (fun s=>(A s).getD 7 0) L) (Nat.mul c.toNat (bc L)))=_
  rw[k 0 (by decide),k 1 (by decide),k 2 (by decide),k 3 (by decide),k 4 (by decide),k 5 (by decide),k 6 (by decide),k 7 (by decide)]
noncomputable def km (one m c:Nat) (K:E8):E8:=iA (Nat.mul c one) fun d=>sJ one m (nN one) (OB d K) d d d d d d d d
theorem uG (A:Nat→List UInt32) (hA:∀ s,(A s).length=8) (c:UInt32) (L:Nat):km (bc L) (cQ L) c.toNat (bO A L)=bO (fun s=>hB bA (eP (A s) c)) L:=by
  unfold km;rw[q8];exact MS (C:=List.replicate 8 c) (vt L) (Y9 A hA c L) (fun s=>by rw[aa7,hA]) rfl rfl rfl rfl rfl rfl rfl rfl rfl
noncomputable def wQ (one m:Nat) (P T:E8):E8:=sJ one m P T (Nat.mul 2147483648 one) 0 0 0 0 0 0 (Nat.mul 768 one)
theorem z4 {H A:Nat→List UInt32} (hA:∀ s,(A s).length=8) (L:Nat):wQ (bc L) (cQ L) (bO H L) (bO A L)=bO (fun s=>hB (H s) (A s++lO)) L :=
  MS rfl rfl hA rfl rfl (qb L) (qb L) (qb L) (qb L) (qb L) (qb L) rfl
noncomputable def wR (one m:Nat) (K M:E8):E8:=wQ one m (km one m 1549556828 K) (wQ one m (km one m 909522486 K) M)
theorem VR {A B:Nat→List UInt32} (hA:∀ s,(A s).length=8) (hB':∀ s,(B s).length=8) (L:Nat):wR (bc L) (cQ L) (bO A L) (bO B L)=bO (fun s=>wO (A s) (B s)) L:=by
  have pi:km (bc L) (cQ L) 909522486 (bO A L)=_:=uG A hA cI L;have po:km (bc L) (cQ L) 1549556828 (bO A L)=_:=uG A hA cO L;unfold wR;rw[pi,po,z4 hB',z4 (fun s=>js _ _)];rfl
noncomputable def Ck (one m:Nat) (T:E8):E8:=E8.rec (fun a0 a1 a2 a3 a4 a5 a6 a7=>iz one m (nN one) a0 a1 a2 a3 a4 (Nat.mul 2147483648 one) 0 0 0 0 0 0 0 0 0 (Nat.mul 160 one)) T
theorem VS (one m a0 a1 a2 a3 a4 a5 a6 a7:Nat):Ck one m (E8.mk a0 a1 a2 a3 a4 a5 a6 a7)=iz one m (nN one) a0 a1 a2 a3 a4 (Nat.mul 2147483648 one) 0 0 0 0 0 0 0 0 0 (Nat.mul 160 one):=rfl
theorem VT (x:Nat→UInt32) (L:Nat):Ck (bc L) (cQ L) (bO (fun s=>dp (x s)) L)=bO (fun s=>qa (x s)) L:=by
  have hx:∀ s,(dp (x s)).length=8:=fun s=>qU _
  have g:=rP (fun _=>bA) (fun s=>(dp (x s)).take 5++fX) (fun s=>by rw[aa1,aa4,hx]; rfl) L;have l:∀ t,t<5→(fun s=>((dp (x s)).take 5++fX).getD t 0)=fun s=>(dp (x s)).getD t 0:=fun t h=>funext fun s=>by
    have:=hx s;rw[aa0,abt (by rw[aa4]; omega),aa0,List.getElem?_take_of_lt h]
  have r:∀ t,(fun s=>((dp (x s)).take 5++fX).getD (5+t) 0)=fun _=>fX.getD t 0:=fun t=>funext fun s=>by
    have:=hx s;have h5:((dp (x s)).take 5).length=5:=by rw[aa4]; omega
    rw[aa0,abh (by omega),aa0,h5,ab8]
  have z:pw (fun _=>0) L=0:=(uF L).symm;rw[l 0 (by decide),l 1 (by decide),l 2 (by decide),l 3 (by decide),l 4 (by decide),show (fun s=>((dp (x s)).take 5++fX).getD 5 0)=fun _=>(2147483648:UInt32) from r 0,show (fun s=>((dp (x s)).take 5++fX).getD 6 0)=fun _=>(0:UInt32) from r 1,show (fun s=>((dp (x s)).take 5++fX).getD 7 0)=fun _=>(0:UInt32) from r 2,show (fun s=>((dp (x s)).take 5++fX).getD 8 0)=fun _=>(0:UInt32) from r 3,show (fun s=>((dp (x s)).take 5++fX).getD 9 0)=fun _=>(0:UInt32) from r 4,show (fun s=>((dp (x s)).take 5++fX).getD 10 0)=fun _=>(0:UInt32) from r 5,show (fun s=>((dp (x s)).take 5++fX).getD 11 0)=fun _=>(0:UInt32) from r 6,show (fun s=>((dp (x s)).take 5++fX).getD 12 0)=fun _=>(0:UInt32) from r 7,show (fun s=>((dp (x s)).take 5++fX).getD 13 0)=fun _=>(0:UInt32) from r 8,show (fun s=>((dp (x s)).take 5++fX).getD 14 0)=fun _=>(0:UInt32) from r 9,show (fun s=>((dp (x s)).take 5++fX).getD 15 0)=fun _=>(160:UInt32) from r 10,← vt,z] at g;have c2:Nat.mul 2147483648 (bc L)=pw (fun _=>2147483648) L:=ik 2147483648 L;have c3:Nat.mul 160 (bc L)=pw (fun _=>160) L:=ik 160 L;unfold bO;rw[VS,c2,c3];exact g
def fH:List UInt32:=[1936024436,1768776992,1702391919,1920204915,1701016681,1835343979,1702458112]
theorem aaw:(jw++[0]++pH++[0])=aK fH:=by decide
def lP (v a z:Nat):List UInt32:=[UInt32.ofNat (v*65536+a),UInt32.ofNat (z*16777216+8388608),0,0,0,0,0,0,0,0,0,0,0,0,0,40]
set_option maxRecDepth 20000 in
theorem aax:∀ v,v<6→∀ a,a<6→∀ z,z<2→gu (v:Nat) (a:Nat) (UInt8.ofNat z)++gD 5=aK (lP v a z):=by decide +kernel
def kn (x:UInt32) (v a z:Nat):List UInt32:=wP (lz x) (fH++hB bA (lP v a z))
theorem E9 (x:UInt32) {v a z:Nat} (hv:v<6) (ha:a<6) (hz:z<2):fa (aK (lz x)) (hZ jw pH (gu (v:Nat) (a:Nat) (UInt8.ofNat z))) 32=aK (kn x v a z):=by
  have hl:(gu (v:Nat) (a:Nat) (UInt8.ofNat z)).length=5:=by unfold gu; rw[aa1,fJ]; rfl
  have e:bL (gu (v:Nat) (a:Nat) (UInt8.ofNat z))=aK (hB bA (lP v a z)):=NT (by omega) rfl (by rw[hl]; exact aax v hv a ha z hz);unfold hZ;rw[e,aaw,← gw];exact Rk (zf x) (by rw[aa1,js]; rfl)
noncomputable def Cl (one m:Nat) (P T:E8):E8:=E8.rec (fun a0 a1 a2 a3 a4 a5 a6 a7=>iz one m P (Nat.mul 1936024436 one) (Nat.mul 1768776992 one) (Nat.mul 1702391919 one) (Nat.mul 1920204915 one) (Nat.mul 1701016681 one) (Nat.mul 1835343979 one) (Nat.mul 1702458112 one) a0 a1 a2 a3 a4 a5 a6 a7 (Nat.mul 25165824 one)) T
theorem VU (one m:Nat) (P:E8) (a0 a1 a2 a3 a4 a5 a6 a7:Nat):Cl one m P (E8.mk a0 a1 a2 a3 a4 a5 a6 a7)=iz one m P (Nat.mul 1936024436 one) (Nat.mul 1768776992 one) (Nat.mul 1702391919 one) (Nat.mul 1920204915 one) (Nat.mul 1701016681 one) (Nat.mul 1835343979 one) (Nat.mul 1702458112 one) a0 a1 a2 a3 a4 a5 a6 a7 (Nat.mul 25165824 one):=rfl
theorem VV (H A:Nat→List UInt32) (hA:∀ s,(A s).length=8) (L:Nat):Cl (bc L) (cQ L) (bO H L) (bO A L)=bO (fun s=>hB (H s) ((fH++A s)++[25165824])) L:=by
  have g:=rP H (fun s=>(fH++A s)++[25165824]) (fun s=>by rw[aa1,aa1,hA]; rfl) L;have w:∀ (t:Nat) (c:UInt32),t<7→fH.getD t 0=c→(fun s=>((fH++A s)++[25165824]).getD t 0)=fun _=>c:=fun t c h e=>funext fun s=>by
    rw[abe,aa0,abt (by exact h),← aa0,e]
  have x:∀ t,t<8→(fun s=>((fH++A s)++[25165824]).getD (7+t) 0)=fun s=>(A s).getD t 0:=fun t h=>funext fun s=>by
    have:=hA s;rw[abe,aa0,abh (by exact Nat.le_add_right 7 t),show 7+t-fH.length=t from ab8 7 t,abt (by omega),← aa0]
  have y:(fun s=>((fH++A s)++[25165824]).getD 15 0)=fun _=>(25165824:UInt32):=funext fun s=>by
    have:=hA s;have h15:(fH++A s).length=15:=by rw[aa1,hA]; rfl
    rw[aa0,abh (by omega),h15]; rfl
  have x0:(fun s=>((fH++A s)++[25165824]).getD 7 0)=fun s=>(A s).getD 0 0:=x 0 (by decide)
  have x1:(fun s=>((fH++A s)++[25165824]).getD 8 0)=fun s=>(A s).getD 1 0:=x 1 (by decide)
  have x2:(fun s=>((fH++A s)++[25165824]).getD 9 0)=fun s=>(A s).getD 2 0:=x 2 (by decide)
  have x3:(fun s=>((fH++A s)++[25165824]).getD 10 0)=fun s=>(A s).getD 3 0:=x 3 (by decide)
  have x4:(fun s=>((fH++A s)++[25165824]).getD 11 0)=fun s=>(A s).getD 4 0:=x 4 (by decide)
  have x5:(fun s=>((fH++A s)++[25165824]).getD 12 0)=fun s=>(A s).getD 5 0:=x 5 (by decide)
  have x6:(fun s=>((fH++A s)++[25165824]).getD 13 0)=fun s=>(A s).getD 6 0:=x 6 (by decide)
  have x7:(fun s=>((fH++A s)++[25165824]).getD 14 0)=fun s=>(A s).getD 7 0:=x 7 (by decide)
  rw[w 0 1936024436 (by decide) rfl,w 1 1768776992 (by decide) rfl,w 2 1702391919 (by decide) rfl,w 3 1920204915 (by decide) rfl,w 4 1701016681 (by decide) rfl,w 5 1835343979 (by decide) rfl,w 6 1702458112 (by decide) rfl,x0,x1,x2,x3,x4,x5,x6,x7,y] at g;have c:=fun c=>ik c L
  unfold bO at *
  rw[VU];exact (congr (congr (congr (congr (congr (congr (congr (congrArg (fun a b c d e f g h=>iz (bc L) (cQ L) _ a b c d e f g (pw (fun s=>(A s).getD 0 0) L) (pw (fun s=>(A s).getD 1 0) L) (pw (fun s=>(A s).getD 2 0) L) (pw (fun s=>(A s).getD 3 0) L) (pw (fun s=>(A s).getD 4 0) L) (pw (fun s=>(A s).getD 5 0) L) (pw (fun s=>(A s).getD 6 0) L) (pw (fun s=>(A s).getD 7 0) L) h) (c 1936024436)) (c 1768776992)) (c 1702391919)) (c 1920204915)) (c 1701016681)) (c 1835343979)) (c 1702458112)) (c 25165824)).trans g
noncomputable def Cm (one m:Nat) (P:E8):E8:=iz one m P 0 0 0 0 0 0 0 0 0 0 0 0 0 0 0 (Nat.mul 1000 one)
theorem VW (H:Nat→List UInt32) (L:Nat):Cm (bc L) (cQ L) (bO H L)=bO (fun s=>hB (H s) kC) L:=by
  have g:=rP H (fun _=>kC) (fun _=>rfl) L;have z:∀ t,t<15→pw (fun _=>kC.getD t 0) L=0:=fun t h=>by
    have:kC.getD t 0=0:=by
      have:∀ t,t<15→kC.getD t 0=0:=by decide
      exact this t h
    rw[this]; exact (uF L).symm
  rw[z 0 (by decide),z 1 (by decide),z 2 (by decide),z 3 (by decide),z 4 (by decide),z 5 (by decide),z 6 (by decide),z 7 (by decide),z 8 (by decide),z 9 (by decide),z 10 (by decide),z 11 (by decide),z 12 (by decide),z 13 (by decide),z 14 (by decide)] at g;have c:Nat.mul 1000 (bc L)=pw (fun _=>1000) L:=ik 1000 L;unfold Cm;rw[c];exact g
noncomputable def CB (one m v a z:Nat):E8:=iz one m (nN one) (Nat.mul (Nat.add (Nat.mul v 65536) a) one) (Nat.mul (Nat.add (Nat.mul z 16777216) 8388608) one) 0 0 0 0 0 0 0 0 0 0 0 0 0 (Nat.mul 40 one)
theorem Za {v a z:Nat} (hv:v<6) (ha:a<6) (hz:z<2) (L:Nat):CB (bc L) (cQ L) v a z=bO (fun _=>hB bA (lP v a z)) L:=by
  have g:=rP (fun _=>bA) (fun _=>lP v a z) (fun _=>rfl) L;have z':∀ t,1<t→t<15→pw (fun _=>(lP v a z).getD t 0) L=0:=fun t h1 h2=>by
    have:t=2∨t=3∨t=4∨t=5∨t=6∨t=7∨t=8∨t=9∨t=10∨t=11∨t=12∨t=13∨t=14:=by omega
    have:(lP v a z).getD t 0=0:=by
      rcases this with rfl | rfl | rfl | rfl | rfl | rfl | rfl | rfl | rfl | rfl | rfl | rfl | rfl <;> rfl
    rw[this]; exact (uF L).symm
  rw[z' 2 (by decide) (by decide),z' 3 (by decide) (by decide),z' 4 (by decide) (by decide),z' 5 (by decide) (by decide),z' 6 (by decide) (by decide),z' 7 (by decide) (by decide),z' 8 (by decide) (by decide),z' 9 (by decide) (by decide),z' 10 (by decide) (by decide),z' 11 (by decide) (by decide),z' 12 (by decide) (by decide),z' 13 (by decide) (by decide),z' 14 (by decide) (by decide),← vt] at g;have c0:Nat.mul (Nat.add (Nat.mul v 65536) a) (bc L)=pw (fun _=>(lP v a z).getD 0 0) L:=by
    rw[← ik];refine congrArg (fun x=>Nat.mul x (bc L)) ?_
    show _=(UInt32.ofNat (v*65536+a)).toNat
    rw[UInt32.toNat_ofNat_of_lt' (by simp only[UInt32.size]; omega)]; rfl
  have c1:Nat.mul (Nat.add (Nat.mul z 16777216) 8388608) (bc L)=pw (fun _=>(lP v a z).getD 1 0) L:=by
    rw[← ik];refine congrArg (fun x=>Nat.mul x (bc L)) ?_
    show _=(UInt32.ofNat (z*16777216+8388608)).toNat
    rw[UInt32.toNat_ofNat_of_lt' (by simp only[UInt32.size]; omega)]; rfl
  have c:Nat.mul 40 (bc L)=pw (fun _=>40) L:=ik 40 L;unfold CB;rw[c0,c1,c];exact g
noncomputable def wT (one m:Nat) (I O:E8) (v a z:Nat):E8:=wQ one m O (Cm one m (Cl one m I (CB one m v a z)))
theorem Ka (x:Nat→UInt32) {v a z:Nat} (hv:v<6) (ha:a<6) (hz:z<2) (L:Nat):wT (bc L) (cQ L) (bO (fun s=>hB bA (eP (lz (x s)) cI)) L) (bO (fun s=>hB bA (eP (lz (x s)) cO)) L) v a z=bO (fun s=>kn (x s) v a z) L:=by
  unfold wT;rw[Za hv ha hz,VV _ _ (fun _=>js _ _),VW,z4 (fun _=>js _ _)];rfl
noncomputable def qc {α:Type} (s:E8) (k:E8→α):α:=E8.rec (fun a0 a1 a2 a3 a4 a5 a6 a7=>iA a0 fun b0=>iA a1 fun b1=>iA a2 fun b2=>iA a3 fun b3=>iA a4 fun b4=>iA a5 fun b5=>iA a6 fun b6=>iA a7 fun b7=>k (E8.mk b0 b1 b2 b3 b4 b5 b6 b7)) s
theorem uH {α:Type} (s:E8) (k:E8→α):qc s k=k s:=by
  cases s;unfold qc;simp only[q8]
noncomputable def aaN (one m:Nat) (I O:E8):Bool:=(List.range 36).all fun j=>Cj one (wT one m I O (Nat.div j 6) (Nat.mod j 6) 0) (wT one m I O (Nat.div j 6) (Nat.mod j 6) 1)
noncomputable def mM (s0 L:Nat):Bool:=iA (bc L) fun one=>iA (cQ L) fun m=>iA (Nat.add (pk (fun s=>s) L) (Nat.mul s0 one)) fun X=>qc (Cg one m X) fun B=>qc (wR one m (Ck one m B) B) fun K=>qc (km one m 909522486 K) fun I=>qc (km one m 1549556828 K) fun O=>aaN one m I O
theorem VX {s0 L:Nat} (h0:s0≤100000) (hL:L≤100000) (h:mM s0 L=true) {s v a:Nat} (hs:s<L) (hv:v<6) (ha:a<6):kn (UInt32.ofNat (s0+s)) v a 0≠kn (UInt32.ofNat (s0+s)) v a 1:=by
  have e:Nat.add (pk (fun s=>s) L) (Nat.mul s0 (bc L))=pw (fun s=>UInt32.ofNat (s0+s)) L:=by
    rw[uE,gV];refine fv fun s hs=>?_
    rw[UInt32.toNat_ofNat_of_lt' (by simp only[UInt32.size]; omega)]
    show s+s0*1=_
    omega
  have pi:km (bc L) (cQ L) 909522486 (bO (fun s=>lz (UInt32.ofNat (s0+s))) L)=_:=uG _ (fun _=>zf _) cI L;have po:km (bc L) (cQ L) 1549556828 (bO (fun s=>lz (UInt32.ofNat (s0+s))) L)=_:=uG _ (fun _=>zf _) cO L;have ms:wR (bc L) (cQ L) (bO (fun s=>qa (UInt32.ofNat (s0+s))) L) (bO (fun s=>dp (UInt32.ofNat (s0+s))) L)=bO (fun s=>lz (UInt32.ofNat (s0+s))) L:=VR (fun _=>js _ _) (fun _=>qU _) L;unfold mM at h;rw[q8,q8,q8,e,VO,uH,VT,ms,uH,uH,uH,pi,po] at h;have h1:=abi.1 h (v*6+a) (acD.2 (by omega));have d1:Nat.div (v*6+a) 6=v:=by show (v*6+a) / 6=v; omega
  have d2:Nat.mod (v*6+a) 6=a:=by show (v*6+a)%6=a; omega
  rw[d1,d2,Ka _ hv ha (by decide),Ka _ hv ha (by decide)] at h1;exact Y2 h1 hs
set_option maxRecDepth 100000 in
theorem Zb:mM 0 200=true:=by decide +kernel
set_option maxRecDepth 100000 in
theorem Zc:mM 200 200=true:=by decide +kernel
set_option maxRecDepth 100000 in
theorem Zd:mM 400 200=true:=by decide +kernel
set_option maxRecDepth 100000 in
theorem Ze:mM 600 200=true:=by decide +kernel
set_option maxRecDepth 100000 in
theorem Zf:mM 800 200=true:=by decide +kernel
theorem VY {s v a:Nat} (hs:s<1000) (hv:v<6) (ha:a<6):kn (UInt32.ofNat s) v a 0≠kn (UInt32.ofNat s) v a 1:=by
  have g:∀ s0,s0≤s→s<s0+200→mM s0 200=true→s0≤100000→kn (UInt32.ofNat s) v a 0≠kn (UInt32.ofNat s) v a 1:=fun s0 h1 h2 h h0=>by
    have:=VX h0 (by decide) h (show s-s0<200 by omega) hv ha;rw[Nat.add_sub_of_le h1] at this;exact this
  by_cases a0:s<200
  ·exact g 0 (by omega) (by omega) Zb (by decide)
  by_cases a1:s<400
  ·exact g 200 (by omega) (by omega) Zc (by decide)
  by_cases a2:s<600
  ·exact g 400 (by omega) (by omega) Zd (by decide)
  by_cases a3:s<800
  ·exact g 600 (by omega) (by omega) Ze (by decide)
  ·exact g 800 (by omega) (by omega) Zf (by decide)
theorem VZ {s:Nat} {v a:Nat} (hs:s<1000) (hv:v<6) (ha:a<6):fa (eF (bL (aQ (s:Int) 20)) (aQ (s:Int) 32)) (hZ jw pH (gu (v:Nat) (a:Nat) 0)) 32≠fa (eF (bL (aQ (s:Int) 20)) (aQ (s:Int) 32)) (hZ jw pH (gu (v:Nat) (a:Nat) 1)) 32:=by
  have k0:=E9 (UInt32.ofNat s) hv ha (z:=0) (by decide);have k1:=E9 (UInt32.ofNat s) hv ha (z:=1) (by decide);have z0:UInt8.ofNat 0=0:=rfl;have z1:UInt8.ofNat 1=1:=rfl;rw[z0] at k0;rw[z1] at k1;rw[Rj (by omega),k0,k1];intro e;exact VY hs hv ha (PE (by rw[kn,kn]; exact (js _ _).trans (js _ _).symm) e)
def eG (s:Nat) (seed:List UInt8) (t:Nat):Fd:=⟨((s+t:Nat):Int),qi seed t⟩
theorem Tp (s:Nat) (seed:List UInt8) (t:Nat):(bH s seed t).getD 0 default=eG s seed t:=rv (by omega)
theorem Zk {s k:Nat} {seed:List UInt8} {algo:Int} {up dn n:List UInt8} (h:s+k≤4294967295) (a0:0≤algo) (a1:algo≤65535) (h1:up.length=32) (h2:dn.length=32) (hn:n.length=16):(bZ (eG s seed k) algo up dn n).length=104 :=
  (y5 (m:=eG s seed k) (zS _ _) (by show (0:Int)≤((s+k:Nat):Int); omega) (by show ((s+k:Nat):Int)≤4294967295; omega) a0 a1 h1 h2 hn).1
theorem V4 {s t k:Nat} {seed:List UInt8} {algo:Int} {up dn n:List UInt8} (h:s+t≤4294967295) (hk:k≤t) (a0:0≤algo) (a1:algo≤65535) (h1:up.length=32) (h2:dn.length=32) (hn:n.length=16) :
    (sA (bZ (eG s seed k) algo up dn n)=0∧(fW (bZ (eG s seed k) algo up dn n):Int)=((s+k:Nat):Int)) ∧
      (t-k<4→fe (bH s seed t) (bZ (eG s seed k) algo up dn n)=0∧jF (bH s seed t) (bZ (eG s seed k) algo up dn n)=⟨algo,up,dn,((t-k:Nat):Int)⟩) ∧
      (4≤t-k→fe (bH s seed t) (bZ (eG s seed k) algo up dn n)=5∧jF (bH s seed t) (bZ (eG s seed k) algo up dn n)=⟨0,[],[],0⟩):=by
  obtain⟨q1,q2,q3,q4,q5,q6⟩:=y5 (m:=eG s seed k) (zS _ _) (by show (0:Int)≤((s+k:Nat):Int); omega) (by show ((s+k:Nat):Int)≤4294967295; omega) a0 a1 h1 h2 hn;have q2:(fW (bZ (eG s seed k) algo up dn n):Int)=((s+k:Nat):Int):=q2;have hr:=u6 (s:=s) (seed:=seed) (t:=t) h;have hf:=Tc (s:=s) (seed:=seed) hk;refine⟨⟨if_neg (by omega),q2⟩,fun hlt=>?_,fun hge=>?_⟩
  ·rw[if_pos hlt] at hf;have hg:(bH s seed t).getD (t-k) default=eG s seed k:=by
     rw[rv (by omega)];unfold eG;rw[show t-(t-k)=k by omega]
   have e:fe (bH s seed t) (bZ (eG s seed k) algo up dn n)=0:=by
     unfold fe;rw[if_pos hr,if_neg (by omega),q2,hf]
     show (if nL ((bH s seed t).getD (t-k) default) _ then (0:Int) else 6)=0
     rw[hg,if_pos q3]
   refine⟨e,?_⟩;unfold jF;rw[if_pos e,q2,hf]
   show Cw.mk (aZ (aN (fc ((bH s seed t).getD (t-k) default) _) 0 2):Int) _ _ ((t-k:Nat):Int)=_
   rw[hg,q4]
   show Cw.mk _ (aN (fc ((bH s seed t).getD (t-k) default) _) 4 32) (aN (fc ((bH s seed t).getD (t-k) default) _) 36 32) _=_
   rw[hg,q5,q6]
  ·rw[if_neg (by omega)] at hf;have e:fe (bH s seed t) (bZ (eG s seed k) algo up dn n)=5:=by
     unfold fe;rw[if_pos hr,if_neg (by omega),q2,hf]
   refine⟨e,?_⟩;unfold jF;rw[if_neg (by rw[e]; decide)]
end Go.Proofs.YtlghfnidknfakaaGreatDoor
