/- Texts of one's own, merged: from: Layer 19,without code: rings of keys (as fields: an ID and a key),cookies,and what the functions return. Own work. -/
import Derived.Test.YtnjhelpgohdajaaGreatDoorMg110
import Derived.Test.YtnjhelpgohdajaaGreatDoorMg114
import Derived.Test.YtnjhelpgohdajaaGreatDoorMg116
import Derived.Test.YtnjhelpgohdajaaGreatDoorMg111
import Derived.Test.YtnjhelpgohdajaaGreatDoorMg112
import Derived.Test.YtnjhelpgohdajaaGreatDoorMg115
import Derived.Test.YtnjhelpgohdajaaGreatDoorMg17
set_option linter.unusedVariables false
set_option linter.unusedSimpArgs false
namespace Go.Proofs.YtnjhelpgohdajaaGreatDoor
open Go.RowKit
def cH (l:List Fd):D:=.agg [.sl (l.map bf)]
def Vt (l:List Fd):Prop:=∀ i j,i<j→j<l.length→(l.getD i default).ty≠(l.getD j default).ty
def eR (l:List Fd):Prop:=1≤l.length∧l.length≤4∧(∀ f∈l,0≤f.ty∧f.ty≤4294967295∧f.da.length=32)∧(l.map Fd.ty).Nodup
instance (l:List Fd):Decidable (eR l):=by unfold eR; infer_instance
theorem FR {l:List Fd}:(l.map Fd.ty).Nodup↔Vt l:=by
  unfold Vt;rw[arl,List.pairwise_iff_getElem];constructor
  ·intro h i j hij hj;have:=h i j (by simp; omega) (by simp; omega) hij
   simpa [apT,apR hj,apR (show i<l.length by omega)] using this
  ·intro h i j hi hj hij;have hi':i<l.length:=by simpa using hi
   have hj':j<l.length:=by simpa using hj
   have:=h i j hij hj'
   simpa [apT,apR hj',apR hi'] using this
def yg:List UInt8:=[115,101,99,116,105,109,101,32,115,116,97,114,116]
def vz:List UInt8:=[115,101,99,116,105,109,101,32,110,101,120,116]
def wT (seed:List UInt8):List UInt8:=j5 seed yg 32
def sQ (key:List UInt8):List UInt8:=j5 key vz 32
theorem abZ (s:List UInt8):(wT s).length=32:=yf _ _ _
theorem ab0 (s:List UInt8):(sQ s).length=32:=yf _ _ _
def ow (id:Int) (seed:List UInt8):Int:=if id<0∨4294967295<id then 4 else if seed.length≠32 then 5 else 0
def ui (id:Int) (seed:List UInt8):List Fd:=if ow id seed=0 then [⟨id,wT seed⟩] else []
def gS (l:List Fd):Int:=((l.getD 0 default).ty+1)%4294967296
def rv (l:List Fd):Fd:=⟨gS l,sQ (l.getD 0 default).da⟩
def clash (l:List Fd):Bool:=(l.take 3).any fun f=>decide (f.ty=gS l)
def mj (l:List Fd):Int:=if eR l then (if clash l=true then 7 else 0) else 3
def oH (l:List Fd):List Fd:=if mj l=0 then rv l::l.take 3 else []
def jL (algo:Int) (up down:List UInt8):List UInt8:=aG algo.toNat 2++([0,0]++(up++down))
def ic (m:Fd):List UInt8:=aG m.ty.toNat 4
def dC (m:Fd) (algo:Int) (up down nonce:List UInt8):List UInt8:=ic m++(nonce++fq m.da [ic m,nonce] (jL algo up down))
def lF (l:List Fd) (algo:Int) (up down nonce:List UInt8):Int :=
  if eR l then (if algo<0∨65535<algo then 4 else if up.length≠32∨down.length≠32 then 5 else if nonce.length≠16 then 3 else 0) else 3
def mV (l:List Fd) (algo:Int) (up down nonce:List UInt8):List UInt8:=if lF l algo up down nonce=0 then dC (l.getD 0 default) algo up down nonce else []
def zY (c:List UInt8):Int:=if c.length≠104 then 3 else 0
def kg (c:List UInt8):Nat:=if c.length≠104 then 0 else bq (aK c 0 4)
def lG (l:List Fd) (id:Int):Option Nat:=l.findIdx? fun f=>decide (f.ty=id)
def pX (m:Fd) (c:List UInt8):Int:=iL m.da [aK c 0 4,aK c 4 16] (c.drop 20)
def jd (m:Fd) (c:List UInt8):List UInt8:=i9 m.da [aK c 0 4,aK c 4 16] (c.drop 20)
def uj (m:Fd) (c:List UInt8):Prop:=pX m c=0∧(jd m c).getD 2 0=0∧(jd m c).getD 3 0=0
instance (m:Fd) (c:List UInt8):Decidable (uj m c):=by unfold uj; infer_instance
def gU (l:List Fd) (c:List UInt8):Int :=
  if eR l then (if c.length≠104 then 3 else match lG l (kg c) with | none=>5 | some i=>if uj (l.getD i default) c then 0 else 6) else 3
structure Lg where
  al:Int
  up:List UInt8
  dn:List UInt8
  ag:Int
def nH (l:List Fd) (c:List UInt8):Lg :=
  if gU l c=0 then (let i:=(lG l (kg c)).getD 0; let b:=jd (l.getD i default) c; ⟨(bq (aK b 0 2):Int),aK b 4 32,aK b 36 32,(i:Int)⟩) else ⟨0,[],[],0⟩
theorem afd {m:Fd} {c:List UInt8} (hc:c.length=104) (h:pX m c=0):(jd m c).length=68:=by
  unfold jd i9;unfold pX at h;rw[if_pos h,lQ];simp[hc]
theorem QN (algo:Int) {up down:List UInt8} (h1:up.length=32) (h2:down.length=32):(jL algo up down).length=68:=by
  simp[jL,bS,h1,h2]
theorem GC {m:Fd} {algo:Int} {up down nonce:List UInt8} (hk:m.da.length=32) (i0:0≤m.ty) (i1:m.ty≤4294967295) (a0:0≤algo) (a1:algo≤65535) (h1:up.length=32) (h2:down.length=32) (hn:nonce.length=16) :
    (dC m algo up down nonce).length=104∧(kg (dC m algo up down nonce):Int)=m.ty∧uj m (dC m algo up down nonce) ∧
      (bq (aK (jd m (dC m algo up down nonce)) 0 2):Int)=algo∧aK (jd m (dC m algo up down nonce)) 4 32=up∧aK (jd m (dC m algo up down nonce)) 36 32=down:=by
  have hp:=QN algo h1 h2;have hi:(ic m).length=4:=bS _ _;have ha:dB m.da [ic m,nonce] ((jL algo up down).length:Int)=0:=A4 hk (by simp) (fun x hx=>by simp at hx; rcases hx with rfl | rfl <;> omega) (by omega);have hs:(fq m.da [ic m,nonce] (jL algo up down)).length=84:=by rw[nS ha,apS,kZ,lQ,hp]
  have hl:(dC m algo up down nonce).length=104:=by
    unfold dC;simp only[apS,hi,hn,hs]
  have c1:aK (dC m algo up down nonce) 0 4=ic m:=by
    unfold dC aK;rw[arm];exact List.take_left' hi
  have c2:aK (dC m algo up down nonce) 4 16=nonce:=by
    have:=ng (ic m) nonce (fq m.da [ic m,nonce] (jL algo up down));rw[hi,hn] at this;exact this
  have c3:(dC m algo up down nonce).drop 20=fq m.da [ic m,nonce] (jL algo up down):=by
    unfold dC;rw[← ap6];exact List.drop_left' (by simp[hi,hn])
  obtain⟨o1,o2⟩:=Gw ha;rw[← nS ha] at o1 o2;have x1:pX m (dC m algo up down nonce)=0:=by unfold pX; rw[c1,c2,c3]; exact o1
  have x2:jd m (dC m algo up down nonce)=jL algo up down:=by unfold jd; rw[c1,c2,c3]; exact o2
  have p2:jL algo up down=aG algo.toNat 2++([0,0]++(up++down)):=rfl;refine⟨hl,?_,⟨x1,?_,?_⟩,?_,?_,?_⟩
  ·unfold kg;rw[if_neg (by omega),c1];unfold ic;rw[get_put 4 (by decide)];omega
  ·rw[x2,p2,apT,aql (by simp[bS])];simp[bS]
  ·rw[x2,p2,apT,aql (by simp[bS])];simp[bS]
  ·rw[x2,p2];have:=ng [] (aG algo.toNat 2) ([0,0]++(up++down));rw[aqz,bS] at this;rw[show ([]:List UInt8).length=0 from rfl] at this;rw[this,get_put 2 (by decide)];omega
  ·rw[x2,p2];have:=ng (aG algo.toNat 2++[0,0]) up down;rw[ap6,apS,bS,h1] at this;exact this
  ·rw[x2,p2];have:=ng (aG algo.toNat 2++([0,0]++up)) down [];rw[ap7,ap6,ap6,apS,apS,bS,h1,h2] at this;exact this
def xp (seed:List UInt8):Nat→List UInt8
  | 0=>wT seed
  | n+1=>sQ (xp seed n)
theorem HB (seed:List UInt8) (n:Nat):(xp seed n).length=32:=by
  cases n
  ·exact abZ _
  ·exact ab0 _
def bW (s:Nat) (seed:List UInt8) (t:Nat):List Fd:=(List.range (min 4 (t+1))).map fun i=>⟨((s+(t-i):Nat):Int),xp seed (t-i)⟩
theorem pb (s:Nat) (seed:List UInt8) (t:Nat):(bW s seed t).length=min 4 (t+1):=by simp[bW]
theorem yN {s:Nat} {seed:List UInt8} {t i:Nat} (h:i<min 4 (t+1)):(bW s seed t).getD i default=⟨((s+(t-i):Nat):Int),xp seed (t-i)⟩:=by
  unfold bW;rw[apT,aqH,arp h];rfl
theorem Cs {s:Nat} {seed:List UInt8} {t:Nat} (h:s+t≤4294967295):eR (bW s seed t):=by
  have hl:=pb s seed t;refine⟨by omega,by omega,?_,?_⟩
  ·intro f hf;obtain⟨i,hi,rfl⟩:=aqa.1 hf;exact⟨by show (0:Int)≤((s+(t-i):Nat):Int); omega,by show ((s+(t-i):Nat):Int)≤4294967295; omega,HB _ _⟩
  ·rw[FR];intro i j hij hj;rw[hl] at hj;rw[yN (by omega),yN (by omega)]
   show ((s+(t-i):Nat):Int)≠((s+(t-j):Nat):Int)
   omega
theorem Y1 (s:Nat) (seed:List UInt8) (h:s≤4294967295) (hs:seed.length=32):ow s seed=0∧ui s seed=bW s seed 0:=by
  have e:ow s seed=0:=by unfold ow; rw[if_neg (by omega),if_neg (by omega)]
  exact⟨e,by unfold ui; rw[if_pos e]; rfl⟩
theorem OV {s:Nat} {seed:List UInt8} {t:Nat} (h:s+t<4294967295):mj (bW s seed t)=0∧oH (bW s seed t)=bW s seed (t+1):=by
  have hl:=pb s seed t;have h0:=yN (s:=s) (seed:=seed) (t:=t) (i:=0) (by omega);have hn:gS (bW s seed t)=((s+(t+1):Nat):Int):=by
    unfold gS;rw[h0]
    show (((s+(t-0):Nat):Int)+1)%4294967296=_
    omega
  have hc:clash (bW s seed t)=false:=by
    unfold clash;rw[aqU];intro f hf;obtain⟨i,hi,rfl⟩:=aqa.1 (List.mem_of_mem_take hf);rw[hn,decide_eq_false (by show ((s+(t-i):Nat):Int)≠((s+(t+1):Nat):Int); omega)];decide
  have e:mj (bW s seed t)=0:=by unfold mj; rw[if_pos (Cs (by omega)),if_neg (by rw[hc]; decide)]
  refine⟨e,?_⟩;unfold oH;rw[if_pos e];have hx:rv (bW s seed t)=⟨((s+(t+1):Nat):Int),xp seed (t+1)⟩:=by
    unfold rv;rw[hn,h0];rfl
  rw[hx];refine List.ext_getElem (by simp[pb]; omega) fun i i1 i2=>?_
  have hi:i<min 4 (t+1+1):=by rw[pb] at i2; exact i2
  cases i with
  | zero=>simp[bW]
  | succ i =>
    rw[List.getElem_cons_succ,ar1];simp only[bW,aqn,aq8];rw[show t+1-(i+1)=t-i by omega]
theorem ab1 {s:Nat} {seed:List UInt8} {t k:Nat} (hk:k≤t):lG (bW s seed t) ((s+k:Nat):Int)=if t-k<4 then some (t-k) else none:=by
  unfold lG;have hl:=pb s seed t;have hat:∀ i (hi:i<(bW s seed t).length),(bW s seed t)[i].ty=((s+(t-i):Nat):Int):=fun i hi=>by simp[bW]
  split
  ·rename_i h;rw[ard];refine⟨by omega,?_,fun j hj=>?_⟩
   ·rw[hat]; exact decide_eq_true (by omega)
   ·rw[hat,decide_eq_false (by omega)]; decide
  ·rename_i h;rw[List.findIdx?_eq_none_iff];intro f hf;obtain⟨i,hi,rfl⟩:=aqs hf;rw[hat];exact decide_eq_false (by omega)
def uw (b:List UInt8) (i:Nat):Int:=(bq (aK b (2*i) 2):Int)
def oI (b:List UInt8) (k:Nat):List Int:=(List.range k).map (uw b)
def rx (b:List UInt8):List Int:=oI b (b.length / 2)
def iQ (b:List UInt8):List Int:=if b.length%2=0 then rx b else []
theorem ab2 (b:List UInt8) (k:Nat):oI b (k+1)=oI b k++[uw b k]:=by simp[oI,aqS]
theorem QO (b:List UInt8) (k:Nat):(oI b k).length=k:=by simp[oI]
theorem afe (b:List UInt8):(rx b).length=b.length / 2:=QO _ _
theorem aj2 {b:List UInt8} {i:Nat} (h:2*i+2≤b.length):0≤uw b i∧uw b i≤65535:=by
  have:=(jk 2 (aK b (2*i) 2) (fp (by omega)) (by decide)).1;unfold uw;omega
def bH (l:List Int):List UInt8:=l.flatMap fun n=>aG n.toNat 2
theorem GD (n:Int) (l:List Int):bH (n::l)=aG n.toNat 2++bH l:=rfl
theorem aff (a b:List Int):bH (a++b)=bH a++bH b:=by simp[bH]
theorem iW (l:List Int):(bH l).length=2*l.length:=by
  induction l with
  | nil=>rfl
  | cons n l ih=>rw[GD,apS,bS,ih,aqx]; omega
def dp (l:List Int):Prop:=∀ n∈l,0≤n∧n≤65535
instance (l:List Int):Decidable (dp l):=by unfold dp; infer_instance
theorem ab3 {n:Int} {l:List Int} (h:dp (n::l)):(0≤n∧n≤65535)∧dp l:=⟨h n aqj,fun x hx=>h x (aqf _ hx)⟩
theorem ab4 {x:List UInt8} (hx:x.length=2) (b:List UInt8):rx (x++b)=(bq x:Int)::rx b:=by
  have hl:(x++b).length / 2=b.length / 2+1:=by rw[apS]; omega
  unfold rx oI;rw[hl,List.range_succ_eq_map,apW,aqQ]
  congr 1
  ·unfold uw;rw[show aK (x++b) (2*0) 2=x from List.take_left' hx]
  ·refine aqu fun i _=>?_
   show (bq (aK (x++b) (2*(i+1)) 2):Int)=(bq (aK b (2*i) 2):Int)
   rw[show 2*(i+1)=x.length+2*i by omega,vt]
theorem afg {l:List Int} (h:dp l):rx (bH l)=l:=by
  induction l with
  | nil=>rfl
  | cons n l ih =>
    obtain⟨h1,h2⟩:=ab3 h;rw[GD,ab4 (bS _ _),ih h2,get_put 2 (by decide)]
    congr 1; omega
theorem rK {l:List Int} (h:dp l):iQ (bH l)=l:=by
  unfold iQ;rw[if_pos (by rw[iW]; omega),afg h]
def ux (l:List Ek) (k:Int) (i:Nat):List Nat:=(List.range i).filter fun j=>decide ((l.getD j default).ty=k)
def di (l:List Ek) (k:Int):List Nat:=ux l k l.length
def ba (l:List Ek) (k:Int):List Ek:=l.filter fun r=>decide (r.ty=k)
theorem afh {l:List Ek} {k:Int} {i:Nat} (h:(l.getD i default).ty=k):ux l k (i+1)=ux l k i++[i]:=by
  unfold ux;rw[aqS,List.filter_append]
  congr 1
  rw[List.filter_cons,if_pos (decide_eq_true h),List.filter_nil]
theorem aj3 {l:List Ek} {k:Int} {j:Nat} (h:j<(di l k).length):(di l k).getD j 0<l.length∧(l.getD ((di l k).getD j 0) default).ty=k:=by
  have hm:(di l k).getD j 0∈di l k:=by
    rw[apT,apR h];exact aqr h
  obtain⟨h1,h2⟩:=arf.1 hm;exact⟨arH.1 h1,of_decide_eq_true h2⟩
theorem W5 (l:List Ek):(List.range l.length).map (fun i=>l.getD i default)=l:=by
  refine List.ext_getElem (by simp) fun i h1 h2=>?_
  rw[aqn,aq8,apT,apR h2]; rfl
theorem QP (l:List Ek) (k:Int):(di l k).map (fun i=>l.getD i default)=ba l k:=by
  have:ba l k=((List.range l.length).map (fun i=>l.getD i default)).filter fun r=>decide (r.ty=k):=by rw[W5]; rfl
  rw[this,List.filter_map];rfl
theorem dR (l:List Ek) (k:Int):(di l k).length=(ba l k).length:=by rw[← QP,ap1]
theorem rM {l:List Ek} {k:Int} {j:Nat} (h:j<(di l k).length):l.getD ((di l k).getD j 0) default=(ba l k).getD j default:=by
  rw[← QP,apT (l:=(di l k).map _),aqH,apR h,apT (l:=di l k),apR h];rfl
def xq (r:Ek):Prop:=((r.ty=1∨r.ty=4)→r.bo.length%2=0)∧(r.ty=7→r.bo.length=2)
instance (r:Ek):Decidable (xq r):=by unfold xq; infer_instance
def Lh (l:List Ek):Prop:=(di l 0).length=1∧(di l 0).getD 0 0=l.length-1∧(l.getD ((di l 0).getD 0 0) default).bo.length=0∧(di l 1).length≤1∧(di l 4).length≤1∧(di l 6).length≤1∧(di l 7).length≤1
instance (l:List Ek):Decidable (Lh l):=by unfold Lh; infer_instance
def ry (l:List Ek):Prop:=Lh l∧∀ r∈l,xq r
instance (l:List Ek):Decidable (ry l):=by unfold ry; infer_instance
def iE (b:List UInt8):Prop:=gQ b=0∧ry (br b)
instance (b:List UInt8):Decidable (iE b):=by unfold iE; infer_instance
def mW (b:List UInt8):List Ek:=if iE b then br b else []
def ml (l:List Ek):Bool:=l.any fun r=>r.cr&&decide (7<r.ty)
def fX (x y:List Int):Int:=if ¬ (dp x∧dp y) then 4 else if x.length=0∨16<x.length∨y.length=0∨16<y.length then 8 else 0
def gz (x y:List Int):List Ek:=[⟨true,1,bH x⟩,⟨true,4,bH y⟩,⟨true,0,[]⟩]
def df (x y:List Int):List UInt8:=if fX x y=0 then cu (gz x y) else []
def gB (x y:List Int):Option Int:=x.find? fun v=>decide (v∈y)
def anM:List UInt8:=[115,101,99,116,105,109,101,32,107,101,121,115]
def sX (p a:Int) (z:UInt8):List UInt8:=bH [p,a]++[z]
def kT (c:Ch) (p a:Int):Int:=if ¬ eV c then 3 else if ¬ dp [p,a] then 4 else 0
def cI (c:Ch) (p a:Int) (z:UInt8):List UInt8:=if kT c p a=0 then j5 c.se (qZ wi anM (sX p a z)) 32 else []
theorem rN {c:Ch} {p a:Int} {z:UInt8} (h:kT c p a=0):(cI c p a z).length=32:=by unfold cI; rw[if_pos h]; exact yf _ _ _
structure gC where
  pr:List Int
  al:List Int
  ho:ByteArray
  pt:Int
def j6 (p:gC):D:=.agg [.sl (p.pr.map zD),.sl (p.al.map zD),.str p.ho,.int .i64 p.pt]
def kU (code:Int):List UInt8:=cu [⟨true,2,bH [code]⟩,⟨true,0,[]⟩]
def rz (b:List UInt8):Prop:=iE b∧(di (br b) 1).length≠0∧(di (br b) 4).length≠0∧(di (br b) 2).length+(di (br b) 3).length+(di (br b) 5).length=0
instance (b:List UInt8):Decidable (rz b):=by unfold rz; infer_instance
def sY (ns:List (List UInt8)) (ho:ByteArray):Prop:=1≤ns.length∧ns.length≤8∧ho.size≤255∧∀ n∈ns,n.length=16
instance (ns:List (List UInt8)) (ho:ByteArray):Decidable (sY ns ho):=by unfold sY; infer_instance
def jv (l:List Ek) (k:Int):List Int:=iQ (l.getD ((di l k).getD 0 0) default).bo
def jM (r:List Fd) (c:Ch) (v a:Int) (ns:List (List UInt8)):List Ek:=ns.map fun n=>⟨false,5,mV r a (cI c v a 0) (cI c v a 1) n⟩
def mm (p:gC):List Ek:=(if p.ho.size=0 then [] else [⟨true,6,p.ho.data.toList⟩])++((if p.pt=0 then [] else [⟨true,7,bH [p.pt]⟩])++[⟨true,0,[]⟩])
def iR (p:gC) (r:List Fd) (c:Ch) (x y:List Int) (ns:List (List UInt8)):List Ek :=
  match gB x p.pr with
  | none=>[⟨true,1,[]⟩]
  | some v=>⟨true,1,bH [v]⟩::match gB y p.al with
    | none=>[⟨true,4,[]⟩]
    | some a=>⟨true,4,bH [a]⟩::jM r c v a ns
def iS (p:gC) (r:List Fd) (c:Ch):Int:=if ¬ (eV c∧eR r) then 3 else if ¬ (dp p.pr∧dp p.al∧dp [p.pt]) then 4 else 0
def kV (p:gC) (r:List Fd) (c:Ch) (b:List UInt8) (ns:List (List UInt8)):List UInt8 :=
  if ¬ iS p r c=0 then [] else if ¬ rz b then kU 1 else if ml (br b)=true then kU 0 else if ¬ sY ns p.ho then kU 2 else cu (iR p r c (jv (br b) 1) (jv (br b) 4) ns++mm p)
structure xr where
  pr:Int
  al:Int
  up:List UInt8
  dn:List UInt8
  ck:List (List UInt8)
  ho:List UInt8
  pt:Int
def nI (t:xr):D:=.agg [.int .i64 t.pr,.int .i64 t.al,.sl (t.up.map bD),.sl (t.dn.map bD),.sl (t.ck.map fun l=>D.sl (l.map bD)),.str ⟨t.ho.toArray⟩,.int .i64 t.pt]
def xu:xr:=⟨0,0,[],[],[],[],0⟩
def mX (q:List UInt8):List Int:=iQ ((br q).getD 0 default).bo
def mY (q:List UInt8):List Int:=iQ ((br q).getD 1 default).bo
def nJ (q:List UInt8):Prop:=iE q∧(br q).length=3∧fX (mX q) (mY q)=0∧df (mX q) (mY q)=q
instance (q:List UInt8):Decidable (nJ q):=by unfold nJ; infer_instance
def je (l:List Ek) (k:Int) (x:List Int):Option Int:=if (di l k).length=1 then (if (jv l k).length=1∧(jv l k).getD 0 0∈x then some ((jv l k).getD 0 0) else none) else none
def oJ (l:List Ek):List (List UInt8):=(ba l 5).map (·.bo)
def iF (c:Ch) (q b:List UInt8):Int :=
  if ¬ eV c then 3 else if ¬ nJ q then 3 else if ¬ iE b then 3 else if ml (br b)=true then 11 else if (di (br b) 2).length≠0 then 7
  else if ¬ ((je (br b) 1 (mX q)).isSome∧(je (br b) 4 (mY q)).isSome∧(di (br b) 5).length≠0) then 10
  else if 8<(di (br b) 5).length then 8 else if ¬ ∀ x∈oJ (br b),x.length=104 then 3 else 0
def xv (l:List Ek):List UInt8:=if (di l 6).length=1 then (l.getD ((di l 6).getD 0 0) default).bo else []
def xw (l:List Ek):Int:=if (di l 7).length=1 then (bq (l.getD ((di l 7).getD 0 0) default).bo:Int) else 0
def uz (c:Ch) (q b:List UInt8):xr :=
  if iF c q b=0 then
    ⟨(je (br b) 1 (mX q)).getD 0,(je (br b) 4 (mY q)).getD 0,cI c ((je (br b) 1 (mX q)).getD 0) ((je (br b) 4 (mY q)).getD 0) 0,cI c ((je (br b) 1 (mX q)).getD 0) ((je (br b) 4 (mY q)).getD 0) 1,oJ (br b),xv (br b),xw (br b)⟩
  else xu
theorem yO {m:Nat}:∀ {l:List Ek},(∀ r∈l,r.bo.length≤m)→(cu l).length≤l.length*(m+4)
  | [],_=>apZ _
  | r::l,h=>by
    have ih:=yO fun x hx=>h x (aqf r hx)
    have h1:=h r aqj;rw[u5,apS,vu,aqx,aqC,Nat.one_mul];omega
theorem Di {l:List Ek} (h:∀ r∈l,0≤r.ty∧r.ty≤7∧r.bo.length≤255) (hl:l.length≤64):gP l=0∧pV l=cu l:=by
  have h1:=yO (m:=255) fun r hr=>(h r hr).2.2
  exact Ix (fun r hr=>by obtain⟨a,b,c⟩:=h r hr; exact Iw a (by omega) (by omega)) hl (by omega)
theorem rO (k:Int):ba [] k=[]:=rfl
theorem vA (a b:List Ek) (k:Int):ba (a++b) k=ba a k++ba b k:=List.filter_append a b
theorem Dj {c:Bool} {t:Int} {b:List UInt8} {l:List Ek} {k:Int} (h:t=k):ba (⟨c,t,b⟩::l) k=⟨c,t,b⟩::ba l k:=by
  unfold ba;rw[List.filter_cons,if_pos (decide_eq_true h)]
theorem mF {c:Bool} {t:Int} {b:List UInt8} {l:List Ek} {k:Int} (h:t≠k):ba (⟨c,t,b⟩::l) k=ba l k:=by
  unfold ba;rw[List.filter_cons,if_neg (fun q=>h (of_decide_eq_true q))]
theorem jA {c:Bool} {t:Int} {b:List UInt8} (h1:0≤t∧t≤7) (h2:b.length≤255):0≤(⟨c,t,b⟩:Ek).ty∧(⟨c,t,b⟩:Ek).ty≤7∧(⟨c,t,b⟩:Ek).bo.length≤255:=⟨h1.1,h1.2,h2⟩
theorem IU {c:Bool} {t:Int} {b:List UInt8} (h:t≠7) (h2:t=1∨t=4→b.length%2=0):xq ⟨c,t,b⟩:=⟨h2,fun q=>absurd q h⟩
theorem afi {l:List Ek} {k:Int} (h:∀ r∈l,r.ty=k):ba l k=l:=List.filter_eq_self.2 fun r hr=>decide_eq_true (h r hr)
theorem aj4 {l:List Ek} {k:Int} (h:∀ r∈l,r.ty≠k):ba l k=[]:=List.filter_eq_nil_iff.2 fun r hr q=>h r hr (of_decide_eq_true q)
theorem aj5 {i:List Ek} {e:Ek} {k:Int} (h:ba i k=[]) (he:e.ty=k):di (i++[e]) k=[i.length]:=by
  have hl:(i++[e]).length=i.length+1:=by simp
  have hg:(i++[e]).getD i.length default=e:=by simp[apT]
  have h0:ux (i++[e]) k i.length=[]:=by
    have h1:ux (i++[e]) k i.length=ux i k i.length:=by
      refine List.filter_congr fun j hj=>?_
      have hj:=arH.1 hj;rw[apT,aqM hj,← apT]
    rw[h1];have:=dR i k;rw[h] at this;exact aqA.1 this
  unfold di;rw[hl,afh (by rw[hg]; exact he),h0]; rfl
theorem SO {i:List Ek} (h0:ba i 0=[]) (h1:(ba i 1).length≤1) (h4:(ba i 4).length≤1) (h6:(ba i 6).length≤1) (h7:(ba i 7).length≤1) (hb:∀ r∈i,xq r):ry (i++[⟨true,0,[]⟩]):=by
  have e:=aj5 (e:=⟨true,0,[]⟩) h0 rfl;have en:∀ k:Int,(0:Int)≠k→ba (i++[⟨true,0,[]⟩]) k=ba i k:=fun k hk=>by rw[vA,mF hk,rO,ap7]
  refine⟨⟨by rw[e]; rfl,?_,?_,?_,?_,?_,?_⟩,fun r hr=>?_⟩
  ·rw[e]; simp
  ·rw[e]
   show ((i++[(⟨true,0,[]⟩:Ek)]).getD i.length default).bo.length=0
   simp[apT]
  ·rw[dR,en 1 (by decide)]; exact h1
  ·rw[dR,en 4 (by decide)]; exact h4
  ·rw[dR,en 6 (by decide)]; exact h6
  ·rw[dR,en 7 (by decide)]; exact h7
  ·rcases aqg.1 hr with h | h
   ·exact hb r h
   ·rw[apY.1 h]; exact IU (by decide) fun _=>rfl
theorem IV {l:List Ek} {k:Int} {r:Ek} (h:ba l k=[r]):jv l k=iQ r.bo:=by
  have hl:(di l k).length=1:=by rw[dR,h]; rfl
  unfold jv;rw[rM (by omega),h]; rfl
theorem zI {x y:List Int} (h:fX x y=0):dp x∧dp y∧x.length≠0∧x.length≤16∧y.length≠0∧y.length≤16:=by
  unfold fX at h;by_cases h1:dp x∧dp y
  ·rw[if_neg (not_not_intro h1)] at h;by_cases h2:x.length=0∨16<x.length∨y.length=0∨16<y.length
   ·rw[if_pos h2] at h; exact absurd h (by decide)
   ·exact⟨h1.1,h1.2,by omega,by omega,by omega,by omega⟩
  ·rw[if_pos h1] at h; exact absurd h (by decide)
theorem aj6 {x y:List Int} (h:fX x y=0):gP (gz x y)=0∧pV (gz x y)=cu (gz x y):=by
  obtain⟨_,_,_,h1,_,h2⟩:=zI h;refine Di (fun r hr=>?_) (show 3≤64 by decide);unfold gz at hr;rcases aqh.1 hr with rfl | hr
  ·exact jA (by decide) (by rw[iW]; omega)
  ·rcases aqh.1 hr with rfl | hr
   ·exact jA (by decide) (by rw[iW]; omega)
   ·rw[apY.1 hr]; exact jA (by decide) (by decide)
theorem J7 {x y:List Int} (h:fX x y=0):gQ (df x y)=0∧br (df x y)=gz x y∧iE (df x y):=by
  have e:df x y=cu (gz x y):=if_pos h;obtain⟨q1,q2⟩:=Ue (aj6 h).1;rw[e];refine⟨q1,q2,q1,?_⟩;rw[q2];have n:∀ (k:Int),(1:Int)≠k→(4:Int)≠k→ba [(⟨true,1,bH x⟩:Ek),⟨true,4,bH y⟩] k=[]:=fun k h1 h2=>by rw[mF h1,mF h2,rO]
  refine SO (i:=[⟨true,1,bH x⟩,⟨true,4,bH y⟩]) (n 0 (by decide) (by decide)) ?_ ?_ ?_ ?_ ?_
  ·rw[Dj rfl,mF (by decide),rO]; exact ap3 _
  ·rw[mF (by decide),Dj rfl,rO]; exact ap3 _
  ·rw[n 6 (by decide) (by decide)]; exact apZ _
  ·rw[n 7 (by decide) (by decide)]; exact apZ _
  ·intro r hr;rcases aqh.1 hr with rfl | hr
   ·exact IU (by decide) fun _=>by rw[iW]; omega
   ·rw[apY.1 hr]; exact IU (by decide) fun _=>by rw[iW]; omega
theorem Uy (x y:List Int):ba (gz x y) 1=[⟨true,1,bH x⟩]∧ba (gz x y) 4=[⟨true,4,bH y⟩]∧∀ k:Int,(1:Int)≠k→(4:Int)≠k→(0:Int)≠k→ba (gz x y) k=[]:=by
  unfold gz;refine⟨?_,?_,fun k h1 h2 h3=>?_⟩
  ·rw[Dj rfl,mF (by decide),mF (by decide),rO]
  ·rw[mF (by decide),Dj rfl,mF (by decide),rO]
  ·rw[mF h1,mF h2,mF h3,rO]
theorem apE {x y:List Int} (h:fX x y=0):rz (df x y)∧ml (br (df x y))=false∧jv (br (df x y)) 1=x∧jv (br (df x y)) 4=y:=by
  obtain⟨hx,hy,_⟩:=zI h;obtain⟨q1,q2,q3⟩:=J7 h;obtain⟨a1,a4,an⟩:=Uy x y;unfold rz;rw[q2];refine⟨⟨q3,?_,?_,?_⟩,rfl,?_,?_⟩
  ·rw[dR,a1]; exact Nat.one_ne_zero
  ·rw[dR,a4]; exact Nat.one_ne_zero
  ·rw[dR,dR,dR,an 2 (by decide) (by decide) (by decide),an 3 (by decide) (by decide) (by decide),an 5 (by decide) (by decide) (by decide)]; rfl
  ·rw[IV a1,rK hx]
  ·rw[IV a4,rK hy]
theorem Vu {x y:List Int} (h:fX x y=0):nJ (df x y)∧mX (df x y)=x∧mY (df x y)=y:=by
  obtain⟨hx,hy,_⟩:=zI h;obtain⟨q1,q2,q3⟩:=J7 h;have ex:mX (df x y)=x:=by
    unfold mX;rw[q2];exact rK hx
  have ey:mY (df x y)=y:=by
    unfold mY;rw[q2];exact rK hy
  refine⟨⟨q3,by rw[q2]; rfl,by rw[ex,ey]; exact h,by rw[ex,ey]⟩,ex,ey⟩
theorem rW {x y:List Int} {v:Int} (h:gB x y=some v):v∈x∧v∈y:=by
  obtain⟨h1,h2⟩:=List.find?_eq_some_iff_append.1 h;obtain⟨u,w,rfl,_⟩:=h2;exact⟨aqi _ aqj,of_decide_eq_true h1⟩
theorem SP {l:List Ek} {k:Int} {x:List Int} {r:Ek} (h:ba l k=[r]):je l k x=if (iQ r.bo).length=1∧(iQ r.bo).getD 0 0∈x then some ((iQ r.bo).getD 0 0) else none:=by
  unfold je;rw[dR,h,if_pos (show [r].length=1 from rfl),IV h]
theorem QQ {l:List Ek} {k v:Int} {x:List Int} {c:Bool} (h:ba l k=[⟨c,k,bH [v]⟩]) (hv:v∈x) (hs:0≤v∧v≤65535):je l k x=some v:=by
  have e:iQ (bH [v])=[v]:=rK fun n hn=>by rw[apY.1 hn]; exact hs
  rw[SP h];dsimp only;rw[e,if_pos ⟨rfl,hv⟩];rfl
theorem OW {l:List Ek} {k:Int} {x:List Int} {c:Bool} (h:ba l k=[⟨c,k,[]⟩]):je l k x=none:=by
  have e:iQ (⟨c,k,[]⟩:Ek).bo=[]:=rK (l:=[]) fun n hn=>by cases hn
  rw[SP h,e,if_neg (fun q=>absurd q.1 (by decide))]
theorem afj (r:List Fd) (c:Ch) (v a:Int) (ns:List (List UInt8)):∀ e∈jM r c v a ns,e.ty=5∧e.cr=false:=fun e he=>by
  obtain⟨n,_,rfl⟩:=aqa.1 he;exact⟨rfl,rfl⟩
theorem yQ {l:List Ek} {t:Int} (h:∀ r∈l,r.ty=t) (k:Int):ba l k=if k=t then l else []:=by
  by_cases e:k=t
  ·rw[if_pos e,e,afi h]
  ·rw[if_neg e];exact aj4 fun r hr q=>e (by rw[← q,h r hr])
def cZ (a:Ek) (b x h p:List Ek):List Ek:=a::(b++(x++(h++p)))
theorem aj7 {a:Ek} {b x h p:List Ek} (h1:a.ty=1) (h4:∀ r∈b,r.ty=4) (h5:∀ r∈x,r.ty=5) (h6:∀ r∈h,r.ty=6) (h7:∀ r∈p,r.ty=7) (k:Int) :
    ba (cZ a b x h p) k=(if k=1 then [a] else [])++((if k=4 then b else [])++((if k=5 then x else [])++((if k=6 then h else [])++(if k=7 then p else [])))):=by
  have e:cZ a b x h p=[a]++(b++(x++(h++p))):=rfl;rw[e,vA,vA,vA,vA,yQ (l:=[a]) (t:=1) (fun r hr=>by rw[apY.1 hr]; exact h1),yQ h4,yQ h5,yQ h6,yQ h7]
def dP:Ek:=⟨true,0,[]⟩
theorem IW {a:Ek} {b x h p:List Ek} {P:Ek→Prop} (h1:P a) (h4:∀ r∈b,P r) (h5:∀ r∈x,P r) (h6:∀ r∈h,P r) (h7:∀ r∈p,P r):∀ r∈cZ a b x h p,P r:=by
  intro r hr;rcases aqh.1 hr with rfl | hr
  ·exact h1
  ·rcases aqg.1 hr with hr | hr
   ·exact h4 r hr
   ·rcases aqg.1 hr with hr | hr
    ·exact h5 r hr
    ·rcases aqg.1 hr with hr | hr
     ·exact h6 r hr
     ·exact h7 r hr
theorem J8 {a:Ek} {b x h p:List Ek} (h1:a.ty=1) (h4:∀ r∈b,r.ty=4) (h5:∀ r∈x,r.ty=5) (h6:∀ r∈h,r.ty=6) (h7:∀ r∈p,r.ty=7)
    (l4:b.length≤1) (l5:x.length≤8) (l6:h.length≤1) (l7:p.length≤1) (b1:a.bo.length%2=0∧a.bo.length≤255) (b4:∀ r∈b,r.bo.length%2=0∧r.bo.length≤255) (b5:∀ r∈x,r.bo.length≤255) (b6:∀ r∈h,r.bo.length≤255) (b7:∀ r∈p,r.bo.length=2) :
    gP (cZ a b x h p++[dP])=0∧gQ (cu (cZ a b x h p++[dP]))=0∧br (cu (cZ a b x h p++[dP]))=cZ a b x h p++[dP]∧iE (cu (cZ a b x h p++[dP]))∧ml (cZ a b x h p++[dP])=false ∧
      ba (cZ a b x h p++[dP]) 1=[a]∧ba (cZ a b x h p++[dP]) 2=[]∧ba (cZ a b x h p++[dP]) 4=b∧ba (cZ a b x h p++[dP]) 5=x∧ba (cZ a b x h p++[dP]) 6=h∧ba (cZ a b x h p++[dP]) 7=p:=by
  have al:=aj7 h1 h4 h5 h6 h7;have z1:(1:Int)≠4∧(1:Int)≠5∧(1:Int)≠6∧(1:Int)≠7:=by decide
  have al0:ba (cZ a b x h p) 0=[]:=by rw[al]; rfl
  have al1:ba (cZ a b x h p) 1=[a]:=by rw[al]; rfl
  have al2:ba (cZ a b x h p) 2=[]:=by rw[al]; rfl
  have al4:ba (cZ a b x h p) 4=b:=by
    rw[al]
    show []++(b++([]++([]++[])))=b
    simp
  have al5:ba (cZ a b x h p) 5=x:=by
    rw[al]
    show []++([]++(x++([]++[])))=x
    simp
  have al6:ba (cZ a b x h p) 6=h:=by
    rw[al]
    show []++([]++([]++(h++[])))=h
    simp
  have al7:ba (cZ a b x h p) 7=p:=by
    rw[al]; rfl
  have en:∀ k:Int,(0:Int)≠k→ba (cZ a b x h p++[dP]) k=ba (cZ a b x h p) k:=fun k hk=>by
    unfold dP;rw[vA,mF hk,rO,ap7]
  have hl:(cZ a b x h p).length≤12:=by
    unfold cZ;rw[aqx,apS,apS,apS]; omega
  have ok:gP (cZ a b x h p++[dP])=0:=by
    refine (Di (fun r hr=>?_) (by rw[apS]; show _+1≤64; omega)).1;rcases aqg.1 hr with hr | hr
    ·refine IW (P:=fun r=>0≤r.ty∧r.ty≤7∧r.bo.length≤255) ?_ ?_ ?_ ?_ ?_ r hr
     ·exact⟨by omega,by omega,b1.2⟩
     ·exact fun r hr=>⟨by rw[h4 r hr]; decide,by rw[h4 r hr]; decide,(b4 r hr).2⟩
     ·exact fun r hr=>⟨by rw[h5 r hr]; decide,by rw[h5 r hr]; decide,b5 r hr⟩
     ·exact fun r hr=>⟨by rw[h6 r hr]; decide,by rw[h6 r hr]; decide,b6 r hr⟩
     ·exact fun r hr=>⟨by rw[h7 r hr]; decide,by rw[h7 r hr]; decide,by rw[b7 r hr]; decide⟩
    ·rw[apY.1 hr]; exact jA (by decide) (by decide)
  obtain⟨d1,d2⟩:=Ue ok;have fm:ry (cZ a b x h p++[dP]):=by
    refine SO al0 (by rw[al1]; exact ap3 _) (by rw[al4]; exact l4) (by rw[al6]; exact l6) (by rw[al7]; exact l7) ?_;refine IW ?_ ?_ ?_ ?_ ?_
    ·exact⟨fun _=>b1.1,fun q=>absurd (h1.symm.trans q) (by decide)⟩
    ·exact fun r hr=>⟨fun _=>(b4 r hr).1,fun q=>absurd ((h4 r hr).symm.trans q) (by decide)⟩
    ·exact fun r hr=>⟨fun q=>by rcases q with q | q <;> exact absurd ((h5 r hr).symm.trans q) (by decide),fun q=>absurd ((h5 r hr).symm.trans q) (by decide)⟩
    ·exact fun r hr=>⟨fun q=>by rcases q with q | q <;> exact absurd ((h6 r hr).symm.trans q) (by decide),fun q=>absurd ((h6 r hr).symm.trans q) (by decide)⟩
    ·exact fun r hr=>⟨fun q=>by rcases q with q | q <;> exact absurd ((h7 r hr).symm.trans q) (by decide),fun _=>b7 r hr⟩
  have st:ml (cZ a b x h p++[dP])=false:=by
    unfold ml;rw[aqU];intro r hr;have:r.ty≤7:=by
      rcases aqg.1 hr with hr | hr
      ·refine IW (P:=fun r=>r.ty≤7) (by omega) ?_ ?_ ?_ ?_ r hr
       ·exact fun r hr=>by rw[h4 r hr]; decide
       ·exact fun r hr=>by rw[h5 r hr]; decide
       ·exact fun r hr=>by rw[h6 r hr]; decide
       ·exact fun r hr=>by rw[h7 r hr]; decide
      ·rw[apY.1 hr]; exact (show (0:Int)≤7 by decide)
    rw[aqm];exact fun q=>absurd (of_decide_eq_true q.2) (by omega)
  exact⟨ok,d1,d2,⟨d1,by rw[d2]; exact fm⟩,st,by rw[en 1 (by decide),al1],by rw[en 2 (by decide),al2],by rw[en 4 (by decide),al4],by rw[en 5 (by decide),al5],by rw[en 6 (by decide),al6],by rw[en 7 (by decide),al7]⟩
theorem J9 {a:Ek} {b x h p:List Ek} {c:Ch} {q:List UInt8} (hv:eV c) (hq:nJ q)
    (fm:iE (cu (cZ a b x h p++[dP]))) (dl:br (cu (cZ a b x h p++[dP]))=cZ a b x h p++[dP]) (st:ml (cZ a b x h p++[dP])=false)
    (a2:ba (cZ a b x h p++[dP]) 2=[]) (a5:ba (cZ a b x h p++[dP]) 5=x) (l5:x.length≤8) (c5:∀ r∈x,r.bo.length=104) :
    (je (cZ a b x h p++[dP]) 1 (mX q)=none∨je (cZ a b x h p++[dP]) 4 (mY q)=none→iF c q (cu (cZ a b x h p++[dP]))=10) ∧
      (∀ v w,je (cZ a b x h p++[dP]) 1 (mX q)=some v→je (cZ a b x h p++[dP]) 4 (mY q)=some w→x.length≠0→iF c q (cu (cZ a b x h p++[dP]))=0 ∧
        uz c q (cu (cZ a b x h p++[dP]))=⟨v,w,cI c v w 0,cI c v w 1,x.map (·.bo),xv (cZ a b x h p++[dP]),xw (cZ a b x h p++[dP])⟩):=by
  generalize cZ a b x h p++[dP]=L at *
  have n5:(di L 5).length=x.length:=by rw[dR,a5]
  have n2:(di L 2).length=0:=by rw[dR,a2]; rfl
  have ck:oJ L=x.map (·.bo):=by unfold oJ; rw[a5]
  have e:iF c q (cu L)=if ¬ ((je L 1 (mX q)).isSome∧(je L 4 (mY q)).isSome∧(di L 5).length≠0) then 10 else if 8<(di L 5).length then 8 else if ¬ ∀ x∈oJ L,x.length=104 then 3 else 0:=by
    unfold iF;rw[dl,if_neg (not_not_intro hv),if_neg (not_not_intro hq),if_neg (not_not_intro fm),if_neg (by rw[st]; exact Bool.false_ne_true),if_neg (not_not_intro n2)]
  refine⟨fun hno=>?_,fun v w e1 e4 h0=>?_⟩
  ·rw[e,if_pos];rintro⟨q1,q2,_⟩;rcases hno with hno | hno
   ·rw[hno] at q1; exact absurd q1 (by decide)
   ·rw[hno] at q2; exact absurd q2 (by decide)
  ·have e0:iF c q (cu L)=0:=by
     rw[e,if_neg,n5,if_neg (by omega),if_neg]
     ·refine not_not_intro fun y hy=>?_
      rw[ck] at hy;obtain⟨r,hr,rfl⟩:=aqa.1 hy;exact c5 r hr
     ·refine not_not_intro ⟨by rw[e1]; rfl,by rw[e4]; rfl,by rw[n5]; exact h0⟩
   refine⟨e0,?_⟩;unfold uz;rw[if_pos e0,dl,e1,e4,ck];rfl
open IntWalk
def ny (f:Fd):Prop:=0≤f.ty∧f.ty≤4294967295∧f.da.length=32
theorem SZ {l:List Fd} (h1:1≤l.length) (h2:l.length≤4) (h3:∀ i,i<l.length→ny (l.getD i default)∧∀ k,k<i→(l.getD k default).ty≠(l.getD i default).ty):eR l:=by
  refine⟨h1,h2,fun f hf=>?_,FR.2 fun i j hij hj=>(h3 j hj).2 i hij⟩;obtain⟨i,hi,rfl⟩:=aqs hf;have:=(h3 i hi).1;rw[apT,apR hi] at this;exact this
theorem pq {l:List Fd} (h:eR l) {i:Nat} (hi:i<l.length):ny (l.getD i default)∧∀ k,k<i→(l.getD k default).ty≠(l.getD i default).ty :=
  ⟨h.2.2.1 _ (va hi),fun k hk=>FR.1 h.2.2.2 k i hk hi⟩
def wW (l:List Fd) (i:Nat):St:=⟨bw [(1,.w (.c (.rp [.sl (l.map bf)]))),(3,.w (.c (.d (.int .i64 (i:Int)))))],hL [],uL []⟩
def Ea (l:List Fd) (i k:Nat):St:=⟨bw [(1,.w (.c (.rp [.sl (l.map bf)]))),(3,.w (.c (.d (.int .i64 (i:Int))))),(4,.w (.c (.d (.int .i64 (k:Int)))))],hL [],uL []⟩
def AG:bp := .seq (ae [oM 48 4,oM 49 3,aU .lss 50 48 49] (ar 50 .skip (.exit 2))) (.seq (.block 3 (ae [aL 53 0 1,aA 54 53,oM 55 4,bU 56 2 54 55,aL 57 0 56,aA 58 57,aL 59 0 1,aA 60 59,oM 61 3,bU 62 2 60 61,aL 63 0 62,aA 64 63,aU .eql 65 58 64] (ar 65 (ae [bG 2 false] .ret) .skip))) (.reg [oM 51 4,ak .add 52 51 1,oM 4 52]))
def uS:bp := .seq (ae [oM 15 3,aL 16 0 1,aA 17 16,bd 18 17,aU .lss 19 15 18] (ar 19 .skip (.exit 0))) (.seq (.block 1 (.seq (ae [aL 22 0 1,aA 23 22,oM 24 3,bU 25 2 23 24,aL 26 0 25,aA 27 26,ak .lss 28 27 0,oM 29 28,dF 30 0 1 29 false,dt 31 30 29 false,bJ 32 3 29 false,oG 33 (.idxSl 2 (.t 31) (.t 32)) 29 false,dF 34 0 33 29 false,dt 35 34 29 false,cC .gtr 36 35 4294967295 29 false,cv 37 29 36,oM 38 37,dF 39 0 1 38 false,dt 40 39 38 false,bJ 41 3 38 false,oG 42 (.idxSl 2 (.t 40) (.t 41)) 38 false,dF 43 1 42 38 false,dt 44 43 38 false,eY 45 44 38 false,cC .neq 46 45 32 38 false,cv 47 38 46] (ar 47 (ae [bG 2 false] .ret) .skip)) (ae [am 4 0] (.block 2 (.loop AG))))) (.reg [oM 20 3,ak .add 21 20 1,oM 3 21]))
def BH:aO:=⟨1,66,ae [cX 1 0,bG 2 false] (.seq (ae [aL 5 0 1,aA 6 5,bd 7 6,ak .lss 8 7 1,oM 9 8,dF 10 0 1 9 false,dt 11 10 9 false,eY 12 11 9 false,cC .gtr 13 12 4 9 false,cv 14 9 13] (ar 14 (ae [bG 2 false] .ret) .skip)) (.seq (ae [am 3 0] (.block 0 (.loop uS))) (ae [bG 2 true] .ret))),[(2,none)]⟩
theorem afl:aM Tryz.prog {} Tryz.f54=some BH:=by kernel_rfl
set_option maxHeartbeats 3200000 in
theorem akm (G:au) (l:List Fd) (hl:l.length≤9223372036854775807):aF Tryz.prog G 54 [cH l] (.w (.c (.d (.bool (decide (eR l)))))):=by
  refine aX Tryz.func54 afl rfl rfl ?_;unfold cH;rcases aqk l.length 1 with h1 | h1
  ·have hno:¬ eR l:=fun h=>by have:=h.1; omega
   rw[decide_eq_false hno];simp only[BH,ai,af,seval,iteOmega];exact aZ
  ·rcases aqk 4 l.length with h4 | h4
   ·have hno:¬ eR l:=fun h=>by have:=h.2.1; omega
    have g4:((l.length:Int)>4)=True:=eq_true (by omega);rw[decide_eq_false hno];simp only[BH,ai,af,seval,iteOmega,g4];exact aZ
   ·have g4:((l.length:Int)>4)=False:=eq_false (by omega);simp only[BH,ai,af,seval,iteOmega,g4];refine bO (wW l) (fun i=>l.length-i) (fun i=>i≤l.length∧∀ j,j<i→ny (l.getD j default)∧∀ k,k<j→(l.getD k default).ty≠(l.getD j default).ty) 0 ⟨apZ _,fun j hj=>by omega⟩ ?_ ?_
    ·refine aR (fun i=>0) ?_ ?_ rfl rfl <;> simp only[wx,aH,seval]
    ·rintro i ⟨hi,hok⟩;by_cases hlt:i<l.length
     ·have g:=kM hlt;have hno:¬ ny (l.getD i default)→¬ eR l:=fun h hr=>h (pq hr hlt).1
      have hno2:∀ k,k<i→(l.getD k default).ty=(l.getD i default).ty→¬ eR l:=fun k hk e hr=>(pq hr hlt).2 k hk e
      have hgo:ny (l.getD i default)→(∀ k,k<i→(l.getD k default).ty≠(l.getD i default).ty)→∀ j,j<i+1→ny (l.getD j default)∧∀ k,k<j→(l.getD k default).ty≠(l.getD j default).ty:=fun a b j hj=>by
        rcases aqk j i with h | h
        ·exact hok j h
        ·obtain rfl:j=i:=by omega
         exact⟨a,b⟩
      by_cases hm:ny (l.getD i default)
      ·obtain⟨m1,m2,m3⟩:=hm;have g1:((l.getD i default).ty>4294967295)=False:=eq_false (by omega);have hgo:=hgo ⟨m1,m2,m3⟩;have est:wW l i=⟨bw [(1,.w (.c (.rp [.sl (l.map bf)]))),(3,.w (.c (.d (.int .i64 (i:Int)))))],hL [],uL []⟩:=rfl;rw[est];clear hok hno est;generalize hx:l.getD i default=x at *
       simp only[uS,af,seval,iteOmega,toNatUp,bc,g,bf,g1,m3];refine bO (Ea l i) (fun k=>i-k) (fun k=>k≤i∧∀ m,m<k→(l.getD m default).ty≠x.ty) 0 ⟨apZ _,fun m hm=>by omega⟩ ?_ ?_
       ·refine aR (fun i=>0) ?_ ?_ rfl rfl <;> simp only[wx,aH,seval] <;> try rfl
       ·rintro k ⟨hk,hd⟩;by_cases hki:k<i
        ·have gk:=kM (l:=l) (i:=k) (by omega);have hne:=hno2 k hki;by_cases he:(l.getD k default).ty=x.ty
         ·rw[decide_eq_false (hne he)];have ge:((l.getD k default).ty=x.ty)=True:=eq_true he;clear hd hgo hno2 hne;generalize l.getD k default=y at *
          simp only[AG,Ea,af,seval,iteOmega,toNatUp,bc,g,gk,bf,ge];exact aZ
         ·have ge:((l.getD k default).ty=x.ty)=False:=eq_false he;have hd':∀ m,m<k+1→(l.getD m default).ty≠x.ty:=fun m hm=>by
            rcases aqk m k with h | h
            ·exact hd m h
            ·obtain rfl:m=k:=by omega
             exact he
          clear hd hgo hno2 hne;generalize l.getD k default=y at *
          simp only[AG,Ea,af,seval,iteOmega,toNatUp,bc,g,gk,bf,ge];refine bA (k+1) (by omega) ⟨by omega,hd'⟩ (aR (fun _=>0) ?_ ?_ rfl rfl) <;> simp only[wx,aH,aV,seval] <;> try rfl
        ·obtain rfl:k=i:=by omega
         have hgo:=hgo hd;clear hno2 hd;simp only[AG,Ea,af,seval,iteOmega];refine bA (k+1) (by omega) ⟨by omega,hgo⟩ (aR (fun _=>0) ?_ ?_ rfl rfl) <;> simp only[wx,aH,aV,seval] <;> try rfl
      ·rw[decide_eq_false (hno hm)];clear hok hno hno2 hgo;generalize hx:l.getD i default=x at *
       unfold ny at hm;rcases arX x.ty 0 with m1 | m1
       ·have g1:(x.ty<0)=True:=eq_true m1;simp only[uS,wW,af,seval,iteOmega,toNatUp,bc,g,bf,g1];exact aZ
       ·have g0:(x.ty<0)=False:=eq_false (by omega);rcases arX 4294967295 x.ty with m2 | m2
        ·have g1:(x.ty>4294967295)=True:=eq_true m2;simp only[uS,wW,af,seval,iteOmega,toNatUp,bc,g,bf,g0,g1];exact aZ
        ·have g1:(x.ty>4294967295)=False:=eq_false (by omega);have g2:((x.da.length:Int)=32)=False:=eq_false (by omega);simp only[uS,wW,af,seval,iteOmega,toNatUp,bc,g,bf,g0,g1,g2];exact aZ
     ·have hr:eR l:=SZ h1 h4 fun j hj=>hok j (by omega)
      rw[decide_eq_true hr];clear hok hr;simp only[uS,wW,af,seval,iteOmega];exact aZ
def gj (s:Nat) (seed:List UInt8) (t:Nat):Fd:=⟨((s+t:Nat):Int),xp seed t⟩
theorem OY (s:Nat) (seed:List UInt8) (t:Nat):(bW s seed t).getD 0 default=gj s seed t:=yN (by omega)
theorem Kc {s t:Nat} {seed:List UInt8} {algo:Int} {up dn n:List UInt8} (h:s+t≤4294967295) (a0:0≤algo) (a1:algo≤65535) (h1:up.length=32) (h2:dn.length=32) (hn:n.length=16) :
    lF (bW s seed t) algo up dn n=0∧mV (bW s seed t) algo up dn n=dC (gj s seed t) algo up dn n:=by
  have e:lF (bW s seed t) algo up dn n=0:=by
    unfold lF;rw[if_pos (Cs h),if_neg (by omega),if_neg (by omega),if_neg (by omega)]
  refine⟨e,?_⟩;unfold mV;rw[if_pos e,OY]
theorem I2 {s k:Nat} {seed:List UInt8} {algo:Int} {up dn n:List UInt8} (h:s+k≤4294967295) (a0:0≤algo) (a1:algo≤65535) (h1:up.length=32) (h2:dn.length=32) (hn:n.length=16):(dC (gj s seed k) algo up dn n).length=104 :=
  (GC (m:=gj s seed k) (HB _ _) (by show (0:Int)≤((s+k:Nat):Int); omega) (by show ((s+k:Nat):Int)≤4294967295; omega) a0 a1 h1 h2 hn).1
theorem QT {s t k:Nat} {seed:List UInt8} {algo:Int} {up dn n:List UInt8} (h:s+t≤4294967295) (hk:k≤t) (a0:0≤algo) (a1:algo≤65535) (h1:up.length=32) (h2:dn.length=32) (hn:n.length=16) :
    (zY (dC (gj s seed k) algo up dn n)=0∧(kg (dC (gj s seed k) algo up dn n):Int)=((s+k:Nat):Int)) ∧
      (t-k<4→gU (bW s seed t) (dC (gj s seed k) algo up dn n)=0∧nH (bW s seed t) (dC (gj s seed k) algo up dn n)=⟨algo,up,dn,((t-k:Nat):Int)⟩) ∧
      (4≤t-k→gU (bW s seed t) (dC (gj s seed k) algo up dn n)=5∧nH (bW s seed t) (dC (gj s seed k) algo up dn n)=⟨0,[],[],0⟩):=by
  obtain⟨q1,q2,q3,q4,q5,q6⟩:=GC (m:=gj s seed k) (HB _ _) (by show (0:Int)≤((s+k:Nat):Int); omega) (by show ((s+k:Nat):Int)≤4294967295; omega) a0 a1 h1 h2 hn;have q2:(kg (dC (gj s seed k) algo up dn n):Int)=((s+k:Nat):Int):=q2;have hr:=Cs (s:=s) (seed:=seed) (t:=t) h;have hf:=ab1 (s:=s) (seed:=seed) hk;refine⟨⟨if_neg (by omega),q2⟩,fun hlt=>?_,fun hge=>?_⟩
  ·rw[if_pos hlt] at hf;have hg:(bW s seed t).getD (t-k) default=gj s seed k:=by
     rw[yN (by omega)];unfold gj;rw[show t-(t-k)=k by omega]
   have e:gU (bW s seed t) (dC (gj s seed k) algo up dn n)=0:=by
     unfold gU;rw[if_pos hr,if_neg (by omega),q2,hf]
     show (if uj ((bW s seed t).getD (t-k) default) _ then (0:Int) else 6)=0
     rw[hg,if_pos q3]
   refine⟨e,?_⟩;unfold nH;rw[if_pos e,q2,hf]
   show Lg.mk (bq (aK (jd ((bW s seed t).getD (t-k) default) _) 0 2):Int) _ _ ((t-k:Nat):Int)=_
   rw[hg,q4]
   show Lg.mk _ (aK (jd ((bW s seed t).getD (t-k) default) _) 4 32) (aK (jd ((bW s seed t).getD (t-k) default) _) 36 32) _=_
   rw[hg,q5,q6]
  ·rw[if_neg (by omega)] at hf;have e:gU (bW s seed t) (dC (gj s seed k) algo up dn n)=5:=by
     unfold gU;rw[if_pos hr,if_neg (by omega),q2,hf]
   refine⟨e,?_⟩;unfold nH;rw[if_neg (by rw[e]; decide)]
structure dq where
  hd:Hd
  pl:List Fd
  se:List Fd
  gu:Bool
def kh:dq:=⟨Hd.z,[],[],false⟩
def dL (p:dq):D:=.agg [.int .i64 p.hd.lp,.int .i64 p.hd.vr,.int .i64 p.hd.md,.int .i64 p.hd.st,.int .i64 p.hd.pl,.int .i64 p.hd.pr,.int .u32 (p.hd.rd:Int),.int .u32 (p.hd.rp:Int),.int .u32 (p.hd.ri:Int),.int .u64 (p.hd.rf:Int),.int .u64 (p.hd.og:Int),.int .u64 (p.hd.rc:Int),.int .u64 (p.hd.tr:Int),.sl (p.pl.map bf),.sl (p.se.map bf),.bool p.gu]
def eS (p:dq):Int:=if jw p.hd=0 then dh p.pl else jw p.hd
def eG (p:dq):List UInt8:=fg p.hd++bQ p.pl
def Eu (p:dq):List UInt8:=if eS p=0 then eG p else []
def ja (b:List UInt8):Int:=if ix b=0 then fk (b.drop 48) else ix b
def pR (b:List UInt8):dq:=if ja b=0 then ⟨d8 b,cK (b.drop 48),[],false⟩ else kh
def ew (n s:List UInt8):List UInt8:=aG n.length 2++(aG s.length 2++(fB n 4++fB s 4))
def nM (n s:List UInt8):Fd:=⟨1028,ew n s⟩
def ie (key:List UInt8) (p:dq) (n:List UInt8):List UInt8:=fq key [eG p,n] (bQ p.se)
def cQ (key:List UInt8) (p:dq) (n:List UInt8):Fd:=nM n (ie key p n)
def gV (key:List UInt8) (p:dq) (n:List UInt8):Int :=
  if key.length≠32 then 5 else if n.length<16∨32<n.length then 4 else if eS p≠0 then eS p else if dh p.se≠0 then dh p.se else if (bP p.pl 1028).length≠0 then 3 else if p.pl.length=24 then 8 else if dh [cQ key p n]≠0∨1280<(eG p).length+cT [cQ key p n] then 2 else 0
def d9 (key:List UInt8) (p:dq) (n:List UInt8):List UInt8:=if gV key p n=0 then eG p++bQ [cQ key p n] else []
def fP (d:List UInt8):Nat:=bq (aK d 0 2)
def kX (d:List UInt8):Nat:=bq (aK d 2 2)
def kj (d:List UInt8):Nat:=4+(fP d+3) / 4*4
def eC (d:List UInt8):List UInt8:=aK d 4 (fP d)
def fY (d:List UInt8):List UInt8:=aK d (kj d) (kX d)
def jf (d:List UInt8):Prop:=4≤d.length∧16≤fP d∧fP d≤32∧kj d+kX d≤d.length∧ew (eC d) (fY d)=d
instance (d:List UInt8):Decidable (jf d):=by unfold jf; infer_instance
def z0 (d:List UInt8):List UInt8:=if jf d then eC d else []
def z5 (d:List UInt8):List UInt8:=if jf d then fY d else []
def fD (b:List UInt8):Nat:=(cK (b.drop 48)).length-1
def fh (b:List UInt8):List UInt8:=((cK (b.drop 48)).getD (fD b) default).da
def na (b:List UInt8):List UInt8:=b.take (48+bN (b.drop 48) (fD b))
def sZ (key b:List UInt8):Int:=iL key [na b,eC (fh b)] (fY (fh b))
def km (key b:List UInt8):List UInt8:=i9 key [na b,eC (fh b)] (fY (fh b))
def gW (key b:List UInt8):Int :=
  if key.length≠32 then 5 else if ja b≠0 then ja b else if (bP (cK (b.drop 48)) 1028).length=0 then 10 else if (bP (cK (b.drop 48)) 1028).getD 0 0≠(fD b:Int)∨¬ jf (fh b) then 3 else if sZ key b≠0 then 6 else fk (km key b)
def gX (key b:List UInt8):dq:=if gW key b=0 then ⟨d8 b,(cK (b.drop 48)).take (fD b),cK (km key b),true⟩ else kh
theorem Ke (b:List UInt8):fB b 4=b++List.replicate (lj b.length 4) 0:=Qf b (n:=4) (by decide)
theorem an0 (n:Nat):n+lj n 4=(n+3) / 4*4:=by unfold lj; omega
theorem AJ (b:List UInt8):(fB b 4).length=(b.length+3) / 4*4:=by rw[Ke,apS,aqo,an0]
theorem vE (n s:List UInt8):(ew n s).length=4+(n.length+3) / 4*4+(s.length+3) / 4*4:=by
  unfold ew;simp only[apS,bS,AJ]; omega
theorem wq {n s:List UInt8} (h:12≤(ew n s).length):cx (nM n s)=4+(ew n s).length:=by
  have:=vE n s;unfold cx nM;dsimp only;omega
theorem afK {n s:List UInt8} (h:12≤(ew n s).length):gO (nM n s)=nM n s:=by
  unfold gO;rw[wq h];have:(nM n s).da=ew n s:=rfl;rw[this,show 4+(ew n s).length-4-(ew n s).length=0 by omega,aro,ap7];rfl
theorem UH {n s:List UInt8} (h:12≤(ew n s).length) (h2:4+(ew n s).length≤1232):dA (nM n s)=0:=RS (by show (0:Int)≤1028; decide) (by show (1028:Int)≤65535; decide) (by rw[wq h]; exact h2)
theorem an1 {n s:List UInt8} (h:16≤n.length):20≤(ew n s).length:=by rw[vE]; omega
theorem acb {n s:List UInt8} (h1:16≤n.length) (h2:n.length≤32) (h3:s.length<65536):jf (ew n s)∧eC (ew n s)=n∧fY (ew n s)=s:=by
  have hl:=vE n s;have a1:fP (ew n s)=n.length:=by
    unfold fP ew;have:=ng [] (aG n.length 2) (aG s.length 2++(fB n 4++fB s 4));rw[aqz,bS] at this;rw[show ([]:List UInt8).length=0 from rfl] at this;rw[this,get_put 2 (by decide)]; omega
  have a2:kX (ew n s)=s.length:=by
    unfold kX ew;have:=ng (aG n.length 2) (aG s.length 2) (fB n 4++fB s 4);rw[bS,bS] at this;rw[this,get_put 2 (by decide)]; omega
  have a3:kj (ew n s)=4+(n.length+3) / 4*4:=by unfold kj; rw[a1]
  have b1:eC (ew n s)=n:=by
    unfold eC;have:=ng (aG n.length 2++aG s.length 2) n (List.replicate (lj n.length 4) 0++fB s 4);rw[apS,bS,bS] at this;rw[a1];unfold ew;rw[← ap6,Ke n,ap6 n];exact this
  have b2:fY (ew n s)=s:=by
    unfold fY;rw[a2,a3];unfold ew;rw[← ap6,← ap6];have:=ng (aG n.length 2++aG s.length 2++fB n 4) s (List.replicate (lj s.length 4) 0);rw[apS,apS,bS,bS,AJ] at this;rw[Ke s];exact this
  refine⟨⟨by omega,by omega,by omega,by omega,by rw[b1,b2]⟩,b1,b2⟩
theorem BK (l r:List Fd) (k:Int):∀ n,n≤l.length→fw (l++r) k n=fw l k n
  | 0,_=>rfl
  | n+1,h=>by
    rw[fw,fw,BK l r k n (by omega)];have:(l++r).getD n default=l.getD n default:=by
      rw[apT,apT,aqM (by omega)]
    rw[this]
theorem Q3 (l:List Fd) (k:Int):∀ n,n≤l.length→fw (l.map gO) k n=fw l k n
  | 0,_=>rfl
  | n+1,h=>by
    rw[fw,fw,Q3 l k n (by omega)];have:((l.map gO).getD n default).ty=(l.getD n default).ty:=by
      rw[apT,apT,aqH];rw[apR (by omega)];rfl
    rw[this]
theorem OZ {l:List Fd} {k:Int} (h:∀ f∈l,f.ty≠k):∀ n,n≤l.length→fw l k n=[]
  | 0,_=>rfl
  | n+1,hn=>by
    rw[Dn (h _ (va (by omega))),OZ h n (by omega)]
theorem acd {l:List Fd} {f:Fd} {k:Int} (h:(bP l k).length=0) (hf:f.ty=k):bP (l++[f]) k=[(l.length:Int)]:=by
  unfold bP;rw[apS,aqw,Dm (by simp[hf]),BK l [f] k _ (ap3 _)];have:fw l k l.length=[]:=aqJ h;rw[this,aqz]
theorem zp {h:Hd}:jw h=0↔mK h=true:=by
  unfold jw;split <;> simp_all
theorem Kf {p:dq} (h:eS p=0):mK p.hd=true∧jw p.hd=0∧dh p.pl=0:=by
  unfold eS at h;split at h
  ·rename_i h0; exact⟨zp.1 h0,h0,h⟩
  ·rename_i h0; exact absurd h h0
theorem tX {l:List Fd} (h:dh l=0):(∀ f∈l,dA f=0)∧l.length≤24∧cT l≤1232∧lD l=bQ l:=by
  have hB:lD l=bQ l:=if_pos h;unfold dh at h;split at h
  ·rename_i h0;split at h
   ·cases h
   ·split at h
    ·cases h
    ·exact⟨zh.1 h0,by omega,by omega,hB⟩
  ·rename_i h0; exact absurd h h0
theorem yU {l:List Fd} (h1:∀ f∈l,dA f=0) (h2:l.length≤24) (h3:cT l≤1232):dh l=0:=(QL (zh.2 h1) h2 h3).1
theorem rQ (p:dq):(eG p).length=48+cT p.pl:=by unfold eG; rw[apS,Bw,jz]
theorem CB {key a n:List UInt8} {m:Int} (hk:key.length=32) (ha:a.length≤65519) (hn:n.length≤65519) (hm:m≤65519):dB key [a,n] m=0:=A4 hk (by simp) (fun x hx=>by simp at hx; rcases hx with rfl | rfl <;> assumption) hm
structure wZ (key:List UInt8) (p:dq) (n:List UInt8):Prop where
  ky:key.length=32
  n1:16≤n.length
  n2:n.length≤32
  un:eS p=0
  se:dh p.se=0
  no:(bP p.pl 1028).length=0
  lt:p.pl.length≤23
  gd:dA (cQ key p n)=0
  all:48+cT p.pl+cx (cQ key p n)≤1280
theorem yV {key:List UInt8} {p:dq} {n:List UInt8} (h:wZ key p n):gV key p n=0∧d9 key p n=eG p++bQ [cQ key p n]:=by
  have ht:cT [cQ key p n]=cx (cQ key p n):=by simp[cT]
  have hx:dh [cQ key p n]=0:=yU (fun f hf=>by simp at hf; subst hf; exact h.gd) (by simp) (by rw[ht]; exact (we h.gd).2.2);have e:gV key p n=0:=by
    unfold gV;have a:=h.ky; have b:=h.n1; have c:=h.n2; have d:=h.lt; have f:=h.all
    rw[if_neg (by omega),if_neg (by omega),if_neg (by simp[h.un]),if_neg (by simp[h.se]),if_neg (by simp[h.no]),if_neg (by omega),if_neg];rw[rQ,ht];rintro (k | k)
    ·exact k hx
    ·omega
  exact⟨e,if_pos e⟩
theorem afL {key:List UInt8} {p:dq} {n:List UInt8} (h:wZ key p n):dB key [eG p,n] ((bQ p.se).length:Int)=0∧(ie key p n).length=16+cT p.se∧cT p.se≤1232:=by
  have h1:=(tX h.se).2.2.1;have h2:=(tX (Kf h.un).2.2).2.2.1;have h3:=h.n2;have ha:dB key [eG p,n] ((bQ p.se).length:Int)=0:=CB h.ky (by rw[rQ]; omega) (by omega) (by rw[jz]; omega);refine⟨ha,?_,h1⟩;unfold ie;rw[nS ha,apS,kZ,lQ,jz]
theorem HL {key:List UInt8} {p:dq} {n:List UInt8} (fit:sW p.hd) (h:wZ key p n):ja (d9 key p n)=0∧pR (d9 key p n)=⟨p.hd,p.pl.map gO++[cQ key p n],[],false⟩∧gW key (d9 key p n)=0∧gX key (d9 key p n)=⟨p.hd,p.pl.map gO,p.se.map gO,true⟩:=by
  obtain⟨k0,k1⟩:=yV h;obtain⟨u1,u2,u3⟩:=Kf h.un;obtain⟨f1,f2,f3,f4⟩:=tX u3;obtain⟨s1,s2,s3⟩:=afL h;have hR:ut p.hd:=of_decide_eq_true u1;have hn:=h.n1; have hn2:=h.n2; have hlt:=h.lt; have hall:=h.all
  have g1:20≤(ew n (ie key p n)).length:=an1 hn;have gp:gO (cQ key p n)=cQ key p n:=afK (by omega);obtain⟨q1,q2,q3⟩:=acb (n:=n) (s:=ie key p n) hn hn2 (by omega);have hG:bQ (p.pl++[cQ key p n])=bQ p.pl++bQ [cQ key p n]:=AU _ _;have hB:d9 key p n=fg p.hd++bQ (p.pl++[cQ key p n]):=by rw[k1,eG,ap6,hG]
  have hT:cT (p.pl++[cQ key p n])=cT p.pl+cx (cQ key p n):=by rw[x9]; simp[cT]
  have ok:∀ f∈p.pl++[cQ key p n],dA f=0:=fun f hf=>by
    rcases aqg.1 hf with hf | hf
    ·exact f1 f hf
    ·rw[apY.1 hf]; exact h.gd
  have e0:dh (p.pl++[cQ key p n])=0:=yU ok (by simp; omega) (by omega);obtain⟨d1,d2,_⟩:=P0 e0;have hbk:=adQ hR fit (bQ (p.pl++[cQ key p n]));have hdr:(d9 key p n).drop 48=bQ (p.pl++[cQ key p n]):=by
    have:=List.drop_left (l₁:=fg p.hd) (l₂:=bQ (p.pl++[cQ key p n]));rw[Bw] at this;rw[hB]; exact this
  have hlen:(d9 key p n).length=48+(cT p.pl+cx (cQ key p n)):=by rw[hB,apS,Bw,jz,hT]
  have hde:ix (d9 key p n)=0:=by
    unfold ix;rw[if_neg (by omega),if_neg (by omega),hB,hbk,if_pos hR.2.2.1]
  have hg:d8 (d9 key p n)=p.hd:=by rw[hB,hbk]
  rw[ap8,List.map_singleton,gp] at d2;have r0:ja (d9 key p n)=0:=by unfold ja; rw[if_pos hde,hdr,d1]
  have lL:fD (d9 key p n)=p.pl.length:=by unfold fD; rw[hdr,d2]; simp
  have hgd:fh (d9 key p n)=ew n (ie key p n):=by
    unfold fh;rw[lL,hdr,d2];simp[cQ,nM]
  have hpl:bN (bQ (p.pl++[cQ key p n])) p.pl.length=cT p.pl:=by
    rw[qx _ ok _ (by simp),List.take_left]
  have hA:na (d9 key p n)=eG p:=by
    unfold na;rw[lL,hdr,hpl,k1,← rQ,List.take_left]
  obtain⟨o1,o2⟩:=Gw s1;rw[← nS s1] at o1 o2;have x1:sZ key (d9 key p n)=0:=by unfold sZ; rw[hA,hgd,q2,q3]; exact o1
  have x2:km key (d9 key p n)=bQ p.se:=by unfold km; rw[hA,hgd,q2,q3]; exact o2
  obtain⟨t1,t2,_⟩:=P0 h.se;have hfn:bP (p.pl.map gO++[cQ key p n]) 1028=[(p.pl.length:Int)]:=by
    have:=acd (l:=p.pl.map gO) (f:=cQ key p n) (k:=1028) (by
      unfold bP;rw[ap1,Q3 _ _ _ (ap3 _)];exact h.no) rfl
    rw[ap1] at this;exact this
  have o0:gW key (d9 key p n)=0:=by
    unfold gW;rw[if_neg (by simp[h.ky]),if_neg (by simp[r0]),hdr,d2,hfn,lL,hgd,x1,x2,t1];simp[q1]
  refine⟨r0,?_,o0,?_⟩
  ·unfold pR;rw[if_pos r0,hg,hdr,d2]
  ·unfold gX;rw[if_pos o0,hg,hdr,d2,lL,x2,t2]
   congr 1
   have:=List.take_left (l₁:=p.pl.map gO) (l₂:=[cQ key p n]);rw[ap1] at this;exact this
structure Jr where
  up:List UInt8
  dn:List UInt8
  ck:List (List UInt8)
  la:List UInt8
  nw:Int
  sn:Int
def eb (j:Jr):D:=.agg [.sl (j.up.map bD),.sl (j.dn.map bD),.sl (j.ck.map fun l=>D.sl (l.map bD)),.sl (j.la.map bD),.int .i64 j.nw,.int .i64 j.sn]
def jx:Jr:=⟨[],[],[],[],0,0⟩
theorem xx {l:List (List UInt8)} {i:Nat} (h:i<l.length):l[i]?=some (l.getD i []):=by
  rw[apT,apR h]; rfl
theorem uC {l:List (List UInt8)} {i:Nat} (h:i<l.length):l.getD i []∈l:=by
  rw[apT,apR h];exact aqr h
theorem Lj {l:List (List UInt8)} {i:Nat} (h:i<l.length):l.take (i+1)=l.take i++[l.getD i []]:=by
  rw[aq3,xx h]; rfl
def inL (l:List (List UInt8)) (c:List UInt8):Bool:=l.any (·==c)
theorem afM {l:List (List UInt8)} {c:List UInt8}:inL l c=true↔c∈l:=by
  unfold inL;rw[aqP];exact⟨fun ⟨x,hx,e⟩=>by rw[← beq_iff_eq.1 e]; exact hx,fun h=>⟨c,h,beq_self_eq_true c⟩⟩
theorem vU {l:List (List UInt8)} {c:List UInt8}:inL l c=false↔c∉l:=by
  rw[← afM,Bool.not_eq_true]
def s5 (l:List (List UInt8)) (i:Nat):Prop:=(l.getD i []).length=104∧inL (l.take i) (l.getD i [])=false
def Ev (j:Jr):Prop:=j.up.length=32∧j.dn.length=32∧j.ck.length≤8∧(j.la.length=0∨j.la.length=104)∧inL j.ck j.la=false∧0≤j.nw∧0≤j.sn∧j.sn≤1099511627776
instance (j:Jr):Decidable (Ev j):=by unfold Ev; infer_instance
instance (l:List (List UInt8)) (i:Nat):Decidable (s5 l i):=by unfold s5; infer_instance
def fE (j:Jr):Prop:=Ev j∧∀ i,i<j.ck.length→s5 j.ck i
instance (j:Jr):Decidable (fE j):=by unfold fE; infer_instance
theorem akN {l:List (List UInt8)}:(∀ i,i<l.length→inL (l.take i) (l.getD i [])=false)↔l.Nodup:=by
  rw[arl,List.pairwise_iff_getElem];constructor
  ·intro h i k hi hk hik e;have:=vU.1 (h k hk);rw[apT,apR hk] at this;exact this (List.mem_take_iff_getElem.2 ⟨i,by omega,e⟩)
  ·intro h k hk;refine vU.2 fun hm=>?_
   obtain⟨i,hi,e⟩:=List.mem_take_iff_getElem.1 hm;rw[apT,apR hk] at e;exact h i k (by omega) hk (by omega) e
theorem yu {j:Jr}:fE j↔Ev j∧(∀ c∈j.ck,c.length=104)∧j.ck.Nodup:=by
  unfold fE s5;rw[← akN];constructor
  ·rintro⟨h,a⟩;refine⟨h,fun c hc=>?_,fun i hi=>(a i hi).2⟩;obtain⟨i,hi,rfl⟩:=aqs hc;have:=(a i hi).1;rw[apT,apR hi] at this;exact this
  ·rintro⟨h,a,b⟩;exact⟨h,fun i hi=>⟨a _ (uC hi),b i hi⟩⟩
def jg (j:Jr):Int:=if ¬ fE j then 3 else if j.ck.length=0 then 10 else if j.sn=1099511627776 then 7 else 0
def kn (j:Jr):Jr:=⟨j.up,j.dn,j.ck.drop 1,j.ck.getD 0 [],j.nw,j.sn+1⟩
def Ew (j:Jr):Jr:=if jg j=0 then kn j else jx
def Ex (j:Jr):List UInt8:=if jg j=0 then j.ck.getD 0 [] else []
def Ey (j:Jr):Int:=if fE j then 0 else 3
def Ez (j:Jr):Int:=if fE j then 8-(j.ck.length:Int) else 0
def zK (la:List UInt8) (l:List (List UInt8)) (c:List UInt8):Bool:=!inL l c&&(!(la==c)&&decide (l.length<8))
def pY (la:List UInt8) (l:List (List UInt8)) (c:List UInt8):List (List UInt8):=if zK la l c=true then l++[c] else l
def eJ (la:List UInt8) (l cs:List (List UInt8)):List (List UInt8):=cs.foldl (pY la) l
def gJ (cs:List (List UInt8)):Bool:=cs.all fun c=>c.length==104
def xy (j:Jr) (cs:List (List UInt8)):Jr:=⟨j.up,j.dn,eJ j.la j.ck cs,j.la,j.nw,j.sn⟩
theorem oS {cs:List (List UInt8)}:gJ cs=true↔∀ c∈cs,c.length=104:=by
  unfold gJ;rw[ap9];exact⟨fun h c hc=>beq_iff_eq.1 (h c hc),fun h c hc=>beq_iff_eq.2 (h c hc)⟩
theorem ace (la:List UInt8) (l cs:List (List UInt8)) (c:List UInt8):eJ la l (cs++[c])=pY la (eJ la l cs) c:=by
  unfold eJ;rw[List.foldl_append]; rfl
theorem afN {la:List UInt8} {l:List (List UInt8)}:∀ cs:List (List UInt8),l.length≤8→(eJ la l cs).length≤8:=by
  intro cs
  induction cs generalizing l with
  | nil=>exact id
  | cons c cs ih =>
    intro h;refine ih (l:=pY la l c) ?_;unfold pY;split
    ·rename_i g;unfold zK at g;rw[aqm,aqm] at g;have:=of_decide_eq_true g.2.2;rw[apS,aqw]; omega
    ·exact h
def pZ:Fd:=⟨772,List.replicate 104 0⟩
def cd (u c:List UInt8) (n:Nat):List Fd:=[⟨260,u⟩,⟨516,c⟩]++List.replicate n pZ
def nb (j:Jr) (t:Nat) (u:List UInt8):dq:=⟨ft t,cd u (j.ck.getD 0 []) (8-j.ck.length),[],false⟩
def lI (j:Jr) (u n:List UInt8):Int:=if ¬ fE j∨u.length≠32∨n.length≠16 then 3 else jg j
def EA (j:Jr) (u n:List UInt8):Jr:=if lI j u n=0 then kn j else jx
def EB (j:Jr) (t:Nat) (u n:List UInt8):List UInt8:=if lI j u n=0 then d9 j.up (nb j t u) n else []
def du (l:List Fd):List (List UInt8):=(l.filter fun f=>decide (f.ty=516)).map Fd.da
def rA (u b:List UInt8) (p:dq):Bool:=match bP p.pl 260 with
  | [i]=>(p.pl.getD i.toNat default).da==u
  | _=>false
def jh (j:Jr) (u b:List UInt8):Int:=if ¬ fE j∨u.length≠32 then 3 else if gW j.dn b≠0 then gW j.dn b else if (gX j.dn b).hd.md≠4 then 3 else if rA u b (gX j.dn b)=false then 7 else if gJ (du (gX j.dn b).se)=true then 0 else 3
def xz (j:Jr) (u b:List UInt8):Jr:=if jh j u b=0 then xy j (du (gX j.dn b).se) else jx
def xA (j:Jr) (u b:List UInt8):dq:=if jh j u b=0 then gX j.dn b else kh
theorem Ti (l:List Fd) (k:Int):∀ n,n≤l.length→(fw l k n).map (fun i=>(l.getD i.toNat default).da)=((l.take n).filter fun f=>decide (f.ty=k)).map Fd.da
  | 0,_=>rfl
  | n+1,h=>by
    have hn:=Ti l k n (by omega);have ht:l.take (n+1)=l.take n++[l.getD n default]:=by
      rw[aq3,apT,apR (by omega)]; rfl
    rw[ht,List.filter_append,ap8,← hn];by_cases hk:(l.getD n default).ty=k
    ·rw[Dm hk,ap8,arR (by rw[hk]; simp)]; rfl
    ·rw[Dn hk,List.filter_cons_of_neg (by simpa using hk),List.filter_nil,ap4,ap7]
theorem akO (l:List Fd):(bP l 516).map (fun i=>(l.getD i.toNat default).da)=du l:=by
  have:=Ti l 516 l.length (ap3 _);rw[aqy] at this;exact this
set_option maxHeartbeats 3200000
def BL:aO:=⟨1,9,ae [bG 2 false] (ae [oM 3 0,oO 4 (.bin .leq (kI 16) (.t 3)),oM 5 4,bJ 6 0 5 true,cC .leq 7 6 32 5 true,ek 8 5 7,oM 2 8] .ret),[(2,none)]⟩
theorem afO:aM Tryz.prog {} Tryz.f88=some BL:=by kernel_rfl
theorem Tj (G:au) (n:Int):aF Tryz.prog G 88 [.int .i64 n] (.w (.c (.d (.bool (decide (16≤n∧n≤32)))))):=by
  refine aX Tryz.func88 afO rfl rfl ?_;by_cases h1:16≤n
  ·by_cases h2:n≤32
   ·rw[decide_eq_true ⟨h1,h2⟩];simp only[BL,ai,af,seval,iteOmega];exact aZ
   ·rw[decide_eq_false (fun h=>h2 h.2)];simp only[BL,ai,af,seval,iteOmega];exact aZ
  ·rw[decide_eq_false (fun h=>h1 h.1)];simp only[BL,ai,af,seval,iteOmega];exact aZ
theorem afP (n s:List UInt8):([aG n.length 2,aG s.length 2,fB n 4,fB s 4]:List (List UInt8)).flatten=ew n s:=by
  unfold ew;simp only[aqD,aqF,ap7]
def Tk:aO:=⟨2,20,ae [oO 4 (.alloc [ah,.nil])] (ae [oM 5 0,bd 6 5,oO 7 (.conv .u64 (.t 6)),oO 8 (.call 62 [(.t 7),(kI 2)] none),oM 9 1,bd 10 9,oO 11 (.conv .u64 (.t 10)),oO 12 (.call 62 [(.t 11),(kI 2)] none),oM 13 0,oO 14 (.call 131 [(.t 13),(kI 4)] none),oM 15 1,oO 16 (.call 131 [(.t 15),(kI 4)] none),oO 17 (.bldSl false 4 1 (.sl []) [(0,(.t 8)),(1,(.t 12)),(2,(.t 14)),(3,(.t 16))]),aY 18 35 17,oO 19 (.build [ah,.nil] [(0,1,(kI 1028)),(1,1,(.t 18))]),aS 2 4 19] .ret),[(4,(some (.ag 2)))]⟩
theorem akP:aM Tryz.prog {} Tryz.f91=some Tk:=by kernel_rfl
theorem UI (G:au) (n s:List UInt8) (hn:n.length≤1000000) (hs:s.length≤1000000):aF Tryz.prog G 91 [.sl (n.map bD),.sl (s.map bD)] (.w (.c (.d (bf (nM n s))))):=by
  refine aX Tryz.func91 akP rfl rfl ?_;have c1:=iJ G n.length 2 (by decide);have c2:=iJ G s.length 2 (by decide);rw[show (2:Int).toNat=2 from rfl] at c1 c2;have c3:=C4 G n 4 (by omega);have c4:=C4 G s 4 (by omega);have cj:=dT G [aG n.length 2,aG s.length 2,fB n 4,fB s 4] (by simp) (by simp[bS,AJ]; omega);rw[afP] at cj;unfold nM bf;generalize ew n s=B at *
  generalize aG n.length 2=B1 at *
  generalize aG s.length 2=B2 at *
  generalize fB n 4=B3 at *
  generalize fB s 4=B4 at *
  simp only[apW,ap4] at cj;simp only[Tk,ai,af,seval,iteOmega];refine sD (c1) ?_;refine sD (c2) ?_;refine sD (c3) ?_;refine sD (c4) ?_;refine sD (cj) ?_;exact aZ
def rR:aO:=⟨1,70,ae [aQ 2,aQ 3,bG 4 false] (ae [oM 10 0,oO 11 (.call 110 [(.t 10),(kI 4)] none),oM 9 11,aC 12 9 0,aC 13 9 1,aC 14 9 2,oM 5 12,oM 6 13,oM 4 14] (.seq (ae [oM 15 4,cW 16 15] (ar 16 (ae [aQ 2,aQ 3,bG 4 false] .ret) .skip)) (ae [oM 17 5,oO 18 (.slice 1 (.t 17) none (some (kI 2)) none),aY 19 68 18,oO 20 (.conv .i64 (.t 19)),oM 21 5,oO 22 (.slice 1 (.t 21) (some (kI 2)) none none),aY 23 68 22,oO 24 (.conv .i64 (.t 23)),oM 7 20,oM 8 24] (ae [oM 26 6,oM 27 7,ct 28 110 26 27,oM 25 28,aC 29 25 0,aC 30 25 1,aC 31 25 2,oM 2 29,oM 4 31] (.seq (ae [oM 32 4,cW 33 32,oM 34 33,bJ 35 7 34 false,oG 36 (.call 88 [(.t 35)] none) 34 false,gn 37 36 34 false,cv 38 34 37] (ar 38 (ae [aQ 2,aQ 3,bG 4 false] .ret) .skip)) (ae [oM 40 6,oM 41 2,oO 42 (.call 131 [(.t 41),(kI 4)] none),
 bd 43 42,ct 44 110 40 43,oM 39 44,aC 45 39 0,aC 46 39 1,aC 47 39 2,oM 6 46,oM 4 47] (.seq (ae [oM 48 4,cW 49 48] (ar 49 (ae [aQ 2,aQ 3,bG 4 false] .ret) .skip)) (ae [oM 51 6,oM 52 8,ct 53 110 51 52,oM 50 53,aC 54 50 0,aC 55 50 1,aC 56 50 2,oM 3 54,oM 4 56] (.seq (ae [oM 57 4,cW 58 57,oM 59 58,bJ 60 2 59 false,bJ 61 3 59 false,oG 62 (.call 91 [(.t 60),(.t 61)] none) 59 false,oG 63 (.field 1 .sc (.t 62)) 59 false,bJ 64 0 59 false,oG 65 (.call 81 [(.t 63),(.t 64)] none) 59 false,gn 66 65 59 false,cv 67 59 66] (ar 67 (ae [aQ 2,aQ 3,bG 4 false] .ret) .skip)) (ae [oM 68 2,oM 69 3,oM 2 68,oM 3 69,bG 4 true] .ret)))))))))),[(2,none),(3,none),(4,none)]⟩
theorem afQ:aM Tryz.prog {} Tryz.f98=some rR:=by kernel_rfl
theorem akQ (G:au) (d:List UInt8) (hd:d.length≤100000):aF Tryz.prog G 98 [.sl (d.map bD)] (.tup [.c (.d (.sl ((z0 d).map bD))),.c (.d (.sl ((z5 d).map bD))),.c (.d (.bool (decide (jf d))))]):=by
  refine aX Tryz.func98 afQ rfl rfl ?_;unfold z0 z5;rcases aqk d.length 4 with h4 | h4
  ·have hno:¬ jf d:=fun h=>by have:=h.1; omega
   rw[if_neg hno,if_neg hno,decide_eq_false hno];have c1:=yR G d 4 (.inr (by omega));simp only[rR,ai,af,seval];refine sD (c1) ?_;exact lS (by simp only[af,seval] <;> rfl) (by simp only[af,seval] <;> rfl) (by simp only[af,seval])
  ·have c1:=tK G d 4 h4 (by omega);rw[show ((4:Nat):Int)=4 from rfl] at c1;have t1:(d.take 4).take 2=aK d 0 2:=by rw[arU]; rfl
   have t2:(d.take 4).drop 2=aK d 2 2:=by rw[List.drop_take]; rfl
   have c2:=kH G (aK d 0 2) (by rw[fp (by omega)]; decide);have c3:=kH G (aK d 2 2) (by rw[fp (by omega)]; decide);have b1:=(jk 2 (aK d 0 2) (fp (by omega)) (by decide)).1;have b2:=(jk 2 (aK d 2 2) (fp (by omega)) (by decide)).1;have hl1:(aK d 0 2).length=2:=fp (by omega);have hl2:(aK d 2 2).length=2:=fp (by omega);have hl4:(d.take 4).length=4:=by simp; omega
   have hld:(d.drop 4).length=d.length-4:=by simp
   have t3:(aK d 2 2).take 2=aK d 2 2:=apX (by omega);rw[show bq (aK d 0 2)=fP d from rfl] at c2 b1;rw[show bq (aK d 2 2)=kX d from rfl] at c3 b2;have cf:=Tj G (fP d:Int);rcases aqk (d.length-4) (fP d) with h5 | h5
   ·have hno:¬ jf d:=fun h=>by have:=h.2.2.2.1; unfold kj at this; omega
    rw[if_neg hno,if_neg hno,decide_eq_false hno];clear hno;have c4:=yR G (d.drop 4) (fP d:Int) (.inr (by omega));generalize fP d=n at *
    generalize kX d=m at *
    simp only[rR,ai,af,seval];refine sC (c1) ?_;simp only[t1,hl4,af,seval,toNatUp];refine sC (c2) ?_;simp only[t2,t3,hl4,af,seval,iteOmega,toNatUp];refine sD (c3) ?_;refine sD (c4) ?_;exact lS (by simp only[af,seval] <;> rfl) (by simp only[af,seval] <;> rfl) (by simp only[af,seval])
   ·have c4:=tK G (d.drop 4) (fP d) (by omega) (by omega);have e4:(d.drop 4).take (fP d)=eC d:=rfl;have hlB:(eC d).length=fP d:=fp (by omega);rw[e4] at c4;by_cases h6:16≤fP d∧fP d≤32
    ·have h6':16≤(fP d:Int)∧(fP d:Int)≤32:=by omega
     rw[decide_eq_true h6'] at cf;have c5:=qw (C4 G (eC d) 4 (by omega));have hlp:=AJ (eC d);rw[hlB] at hlp;rcases aqk (d.length-4) ((fP d+3) / 4*4) with h7 | h7
     ·have hno:¬ jf d:=fun h=>by have:=h.2.2.2.1; unfold kj at this; omega
      rw[if_neg hno,if_neg hno,decide_eq_false hno];clear hno;have c6:=yR G (d.drop 4) ((fB (eC d) 4).length:Int) (.inr (by omega));generalize fB (eC d) 4=B4 at *
      generalize eC d=B3 at *
      generalize fP d=n at *
      generalize kX d=m at *
      simp only[rR,ai,af,seval];refine sC (c1) ?_;simp only[t1,hl4,af,seval,toNatUp];refine sC (c2) ?_;simp only[t2,t3,hl4,af,seval,iteOmega,toNatUp];refine sD (c3) ?_;refine sD (c4) ?_;refine sD (cf) ?_;refine sD (c5) ?_;refine sD (c6) ?_;exact lS (by simp only[af,seval] <;> rfl) (by simp only[af,seval] <;> rfl) (by simp only[af,seval])
     ·have c6:=tK G (d.drop 4) (fB (eC d) 4).length (by omega) (by omega);have e6:(d.drop 4).drop (fB (eC d) 4).length=d.drop (kj d):=by rw[arx,hlp]; rfl
      rw[e6] at c6;have hl6:(d.drop (kj d)).length=d.length-kj d:=by simp
      have hpf:kj d=4+(fP d+3) / 4*4:=rfl;rcases aqk (d.length-kj d) (kX d) with h8 | h8
      ·have hno:¬ jf d:=fun h=>by have:=h.2.2.2.1; omega
       rw[if_neg hno,if_neg hno,decide_eq_false hno];clear hno;have c7:=yR G (d.drop (kj d)) (kX d:Int) (.inr (by omega));generalize d.drop (kj d)=D2 at *
       generalize fB (eC d) 4=B4 at *
       generalize eC d=B3 at *
       generalize fP d=n at *
       generalize kX d=m at *
       simp only[rR,ai,af,seval];refine sC (c1) ?_;simp only[t1,hl4,af,seval,toNatUp];refine sC (c2) ?_;simp only[t2,t3,hl4,af,seval,iteOmega,toNatUp];refine sD (c3) ?_;refine sD (c4) ?_;refine sD (cf) ?_;refine sD (c5) ?_;refine sD (c6) ?_;refine sD (c7) ?_;exact lS (by simp only[af,seval] <;> rfl) (by simp only[af,seval] <;> rfl) (by simp only[af,seval])
      ·have c7:=tK G (d.drop (kj d)) (kX d) (by omega) (by omega);have e7:(d.drop (kj d)).take (kX d)=fY d:=rfl;rw[e7] at c7;have hlS:(fY d).length=kX d:=fp (by omega);have c8:=UI G (eC d) (fY d) (by omega) (by omega);unfold nM bf at c8;have c9:=rV G (ew (eC d) (fY d)) d;by_cases hq:ew (eC d) (fY d)=d
       ·have hok:jf d:=⟨h4,h6.1,h6.2,by omega,hq⟩
        rw[if_pos hok,if_pos hok,decide_eq_true hok];clear hok;rw[hq,beq_self_eq_true] at c9;rw[hq] at c8;clear hq;generalize d.drop (kj d)=D2 at *
        generalize fB (eC d) 4=B4 at *
        generalize fY d=B5 at *
        generalize eC d=B3 at *
        generalize fP d=n at *
        generalize kX d=m at *
        simp only[rR,ai,af,seval];refine sC (c1) ?_;simp only[t1,hl4,af,seval,toNatUp];refine sC (c2) ?_;simp only[t2,t3,hl4,af,seval,iteOmega,toNatUp];refine sD (c3) ?_;refine sD (c4) ?_;refine sD (cf) ?_;refine sD (c5) ?_;refine sD (c6) ?_;refine sD (c7) ?_;refine sD (c8) ?_;refine sD (c9) ?_;exact fj
       ·have hno:¬ jf d:=fun h=>hq h.2.2.2.2
        rw[if_neg hno,if_neg hno,decide_eq_false hno];clear hno;have e9:(ew (eC d) (fY d)==d)=false:=by simpa using hq
        rw[e9] at c9;clear hq e9;generalize ew (eC d) (fY d)=B6 at *
        generalize d.drop (kj d)=D2 at *
        generalize fB (eC d) 4=B4 at *
        generalize fY d=B5 at *
        generalize eC d=B3 at *
        generalize fP d=n at *
        generalize kX d=m at *
        simp only[rR,ai,af,seval];refine sC (c1) ?_;simp only[t1,hl4,af,seval,toNatUp];refine sC (c2) ?_;simp only[t2,t3,hl4,af,seval,iteOmega,toNatUp];refine sD (c3) ?_;refine sD (c4) ?_;refine sD (cf) ?_;refine sD (c5) ?_;refine sD (c6) ?_;refine sD (c7) ?_;refine sD (c8) ?_;refine sD (c9) ?_;exact lS (by simp only[af,seval] <;> rfl) (by simp only[af,seval] <;> rfl) (by simp only[af,seval])
    ·have hno:¬ jf d:=fun h=>h6 ⟨h.2.1,h.2.2.1⟩
     rw[if_neg hno,if_neg hno,decide_eq_false hno];clear hno;have h6':¬ (16≤(fP d:Int)∧(fP d:Int)≤32):=by omega
     rw[decide_eq_false h6'] at cf;clear h6 h6';generalize eC d=B3 at *
     generalize fP d=n at *
     generalize kX d=m at *
     simp only[rR,ai,af,seval];refine sC (c1) ?_;simp only[t1,hl4,af,seval,toNatUp];refine sC (c2) ?_;simp only[t2,t3,hl4,af,seval,iteOmega,toNatUp];refine sD (c3) ?_;refine sD (c4) ?_;refine sD (cf) ?_;exact lS (by simp only[af,seval] <;> rfl) (by simp only[af,seval] <;> rfl) (by simp only[af,seval])
theorem UJ {p:dq} (h:eS p=0):Eu p=eG p:=if_pos h
theorem Tl {p:dq} (h:eS p≠0):Eu p=[]:=if_neg h
theorem afR {h:Hd} (e:jw h=0):Eb h=fg h:=if_pos (zp.1 e)
theorem Tm {p:dq} (h:jw p.hd≠0):eS p=jw p.hd:=if_neg h
theorem I3 {p:dq} (h:jw p.hd=0):eS p=dh p.pl:=if_pos h
theorem Tn {p:dq} (h:eS p=0):(eG p).length≤1280:=by
  have:=(tX (Kf h).2.2).2.2.1;rw[rQ]; omega
def BM:aO:=⟨1,29,ae [cX 1 0,aQ 2,am 3 0] (ae [aL 8 0 1,bn 9 13 8,aY 10 128 9,oM 7 10,aC 11 7 0,aC 12 7 1,oM 4 11,oM 5 12] (.seq (ae [oM 13 5,ak .neq 14 13 0] (ar 14 (ae [oM 15 5,aQ 2,oM 3 15] .ret) .skip)) (ae [aL 17 13 1,aA 18 17,aY 19 90 18,oM 16 19,aC 20 16 0,aC 21 16 1,oM 6 20,oM 5 21] (.seq (ae [oM 22 5,ak .neq 23 22 0] (ar 23 (ae [oM 24 5,aQ 2,oM 3 24] .ret) .skip)) (ae [oM 25 4,oM 26 6,oO 27 (.bldSl false 2 1 (.sl []) [(0,(.t 25)),(1,(.t 26))]),aY 28 35 27,oM 2 28,am 3 0] .ret))))),[(2,none),(3,none)]⟩
theorem afS:aM Tryz.prog {} Tryz.f89=some BM:=by kernel_rfl
theorem akR (G:au) (p:dq) (hf:sW p.hd) (hl:p.pl.length≤1000000) (hd:∀ f∈p.pl,f.da.length≤8000000000000000000):aF Tryz.prog G 89 [dL p] (.tup [.c (.d (.sl ((Eu p).map bD))),.c (.d (.int .i64 (eS p)))]):=by
  refine aX Tryz.func89 afS rfl rfl ?_;have c1:=akE G p.hd hf;have c2:=IR G p.pl hl hd;by_cases h1:jw p.hd=0
  ·rw[afR h1,h1] at c1;by_cases h2:dh p.pl=0
   ·have h0:eS p=0:=by rw[I3 h1,h2]
    have hle:=Tn h0;have cj:=dT G [fg p.hd,bQ p.pl] (by simp) (by
      have:[fg p.hd,bQ p.pl].flatten=eG p:=by simp[eG]
      rw[this]; omega)
    have hX:[fg p.hd,bQ p.pl].flatten=eG p:=by simp[eG]
    rw[hX] at cj;simp only[apW,ap4] at cj;rw[(tX h2).2.2.2,h2] at c2;rw[h0,UJ h0];clear hX hle h0 h1 h2;generalize eG p=X at *
    generalize fg p.hd=B1 at *
    generalize bQ p.pl=B2 at *
    unfold dL;unfold fC at c1;simp only[BM,ai,af,seval];refine sD (c1) ?_;refine sD (c2) ?_;refine sD (cj) ?_;exact bz
   ·have h0:eS p≠0:=by rw[I3 h1]; exact h2
    have g:(eS p=0)=False:=eq_false h0;rw[Tl h0];rw[show dh p.pl=eS p from (I3 h1).symm] at c2;clear h0 h1 h2;generalize eS p=e at *
    generalize fg p.hd=B1 at *
    generalize lD p.pl=B2 at *
    unfold dL;unfold fC at c1;simp only[BM,ai,af,seval];refine sD (c1) ?_;refine sC (c2) ?_;simp only[g,af,seval];exact bz
  ·have h0:eS p≠0:=by rw[Tm h1]; exact h1
   have g:(eS p=0)=False:=eq_false h0;rw[Tl h0];rw[show jw p.hd=eS p from (Tm h1).symm] at c1;clear h0 h1 c2;generalize eS p=e at *
   generalize Eb p.hd=B1 at *
   unfold dL;unfold fC at c1;simp only[BM,ai,af,seval];refine sC (c1) ?_;simp only[g,af,seval];exact bz
theorem O0 {b:List UInt8} (h:ix b≠0):ja b=ix b∧pR b=kh:=by
  have e:ja b=ix b:=if_neg h;exact⟨e,if_neg (by rw[e]; exact h)⟩
theorem Na {b:List UInt8} (h:ix b=0):ja b=fk (b.drop 48)∧Ed b=b.drop 48∧Ec b=d8 b:=⟨if_pos h,if_pos h,if_pos h⟩
def BN:aO:=⟨1,30,ae [oO 2 (.alloc [ah,ah,ah,ah,ah,ah,bh,bh,bh,aW,aW,aW,aW,.nil,.nil,cD]),am 3 0] (ae [oM 9 0,aY 10 92 9,oM 8 10,aC 11 8 0,aC 12 8 1,aC 13 8 2,oO 4 (.alloc [ah,ah,ah,ah,ah,ah,bh,bh,bh,aW,aW,aW,aW]),aS 13 4 11,oM 5 12,oM 6 13] (.seq (ae [oM 14 6,ak .neq 15 14 0] (ar 15 (ae [oO 16 (.build [ah,ah,ah,ah,ah,ah,bh,bh,bh,aW,aW,aW,aW,.nil,.nil,cD] []),oM 17 6,aS 16 2 16,oM 3 17] .ret) .skip)) (ae [oM 19 5,aY 20 93 19,oM 18 20,aC 21 18 0,aC 22 18 1,oM 7 21,oM 6 22] (.seq (ae [oM 23 6,ak .neq 24 23 0] (ar 24 (ae [oO 25 (.build [ah,ah,ah,ah,ah,ah,bh,bh,bh,aW,aW,aW,aW,.nil,.nil,cD] []),oM 26 6,aS 16 2 25,oM 3 26] .ret) .skip)) (ae [bn 27 13 4,oM 28 7,oO 29 (.build [ah,ah,ah,ah,ah,ah,bh,bh,bh,aW,aW,aW,aW,.nil,.nil,cD] [(0,13,(.t 27)),(13,1,(.t 28))]),
 aS 16 2 29,am 3 0] .ret))))),[(2,(some (.ag 16))),(3,none)]⟩
theorem afT:aM Tryz.prog {} Tryz.f44=some BN:=by kernel_rfl
theorem I4 (G:au) (b:List UInt8) (hb:b.length≤9000000000000000000):aF Tryz.prog G 44 [.sl (b.map bD)] (.tup [.c (.d (dL (pR b))),.c (.d (.int .i64 (ja b)))]):=by
  refine aX Tryz.func44 afT rfl rfl ?_;have c1:=akB G b (by omega);by_cases h1:ix b=0
  ·obtain⟨e1,e2,e3⟩:=Na h1;have c2:=Tg G (b.drop 48) (by simp; omega);rw[h1,e2,e3] at c1;by_cases h2:fk (b.drop 48)=0
   ·have e4:pR b=⟨d8 b,cK (b.drop 48),[],false⟩:=if_pos (by rw[e1,h2]);rw[e4,e1,h2];rw[h2] at c2;clear e1 e2 e3 e4 h1 h2;generalize d8 b=q at *
    generalize b.drop 48=R at *
    generalize cK R=L at *
    unfold dL;unfold fC at c1;simp only[BN,ai,af,seval];refine sD (c1) ?_;refine sD (c2) ?_;exact eM (by simp only[af,seval] <;> rfl) (by simp only[af,seval])
   ·have e4:pR b=kh:=if_neg (by rw[e1]; exact h2);have g:(fk (b.drop 48)=0)=False:=eq_false h2;rw[e4,e1];clear e1 e2 e3 e4 h1 h2;generalize fk (b.drop 48)=E at *
    generalize d8 b=q at *
    generalize b.drop 48=R at *
    generalize cK R=L at *
    unfold dL kh Hd.z;unfold fC at c1;simp only[BN,ai,af,seval];refine sD (c1) ?_;refine sC (c2) ?_;simp only[g,af,aa,seval];exact eM (by simp only[af,seval] <;> rfl) (by simp only[af,seval])
  ·obtain⟨e1,e4⟩:=O0 h1;have g:(ix b=0)=False:=eq_false h1;rw[e4,e1];clear e1 e4 h1;generalize ix b=E at *
   generalize Ed b=R at *
   generalize Ec b=q at *
   unfold dL kh Hd.z;unfold fC at c1;simp only[BN,ai,af,seval];refine sC (c1) ?_;simp only[g,af,aa,seval];exact eM (by simp only[af,seval] <;> rfl) (by simp only[af,seval])
theorem rY {key:List UInt8} {p:dq} {n:List UInt8} {e:Int} (h:gV key p n=e) (he:e≠0):d9 key p n=[]:=if_neg (by rw[h]; exact he)
theorem an2 {key:List UInt8} {p:dq} {n:List UInt8} (h:key.length≠32):gV key p n=5:=if_pos h
theorem an3 {key:List UInt8} {p:dq} {n:List UInt8} (h1:key.length=32) (h:n.length<16∨32<n.length):gV key p n=4:=by
  unfold gV; rw[if_neg (by omega),if_pos h]
theorem an4 {key:List UInt8} {p:dq} {n:List UInt8} (h1:key.length=32) (h2:16≤n.length∧n.length≤32) (h:eS p≠0):gV key p n=eS p:=by
  unfold gV; rw[if_neg (by omega),if_neg (by omega),if_pos h]
theorem an5 {key:List UInt8} {p:dq} {n:List UInt8} (h1:key.length=32) (h2:16≤n.length∧n.length≤32) (h3:eS p=0) (h:dh p.se≠0):gV key p n=dh p.se:=by
  unfold gV; rw[if_neg (by omega),if_neg (by omega),if_neg (by simp[h3]),if_pos h]
theorem an6 {key:List UInt8} {p:dq} {n:List UInt8} (h1:key.length=32) (h2:16≤n.length∧n.length≤32) (h3:eS p=0) (h4:dh p.se=0) (h:(bP p.pl 1028).length≠0):gV key p n=3:=by
  unfold gV; rw[if_neg (by omega),if_neg (by omega),if_neg (by simp[h3]),if_neg (by simp[h4]),if_pos h]
theorem an7 {key:List UInt8} {p:dq} {n:List UInt8} (h1:key.length=32) (h2:16≤n.length∧n.length≤32) (h3:eS p=0) (h4:dh p.se=0) (h5:(bP p.pl 1028).length=0) (h:p.pl.length=24):gV key p n=8:=by
  unfold gV; rw[if_neg (by omega),if_neg (by omega),if_neg (by simp[h3]),if_neg (by simp[h4]),if_neg (by simp[h5]),if_pos h]
theorem an8 {key:List UInt8} {p:dq} {n:List UInt8} (h1:key.length=32) (h2:16≤n.length∧n.length≤32) (h3:eS p=0) (h4:dh p.se=0) (h5:(bP p.pl 1028).length=0) (h6:p.pl.length≠24):gV key p n=if dh [cQ key p n]≠0∨1280<(eG p).length+cT [cQ key p n] then 2 else 0:=by
  unfold gV; rw[if_neg (by omega),if_neg (by omega),if_neg (by simp[h3]),if_neg (by simp[h4]),if_neg (by simp[h5]),if_neg h6]
def pc:aO:=⟨3,78,ae [cX 4 1,aQ 6,am 7 0] (.seq (ae [oM 14 0,bd 15 14,ak .neq 16 15 32] (ar 16 (ae [aQ 6,am 7 5] .ret) .skip)) (.seq (ae [oM 17 2,bd 18 17,aY 19 88 18,cW 20 19] (ar 20 (ae [aQ 6,am 7 4] .ret) .skip)) (ae [bn 22 16 4,aY 23 89 22,oM 21 23,aC 24 21 0,aC 25 21 1,oM 8 24,oM 9 25] (.seq (ae [oM 26 9,ak .neq 27 26 0] (ar 27 (ae [oM 28 9,aQ 6,oM 7 28] .ret) .skip)) (ae [aL 30 14 4,aA 31 30,aY 32 90 31,oM 29 32,aC 33 29 0,aC 34 29 1,oM 10 33,oM 9 34] (.seq (ae [oM 35 9,ak .neq 36 35 0] (ar 36 (ae [oM 37 9,aQ 6,oM 7 37] .ret) .skip)) (.seq (ae [aL 38 13 4,aA 39 38,oO 40 (.call 45 [(.t 39),(kI 1028)] none),bd 41 40,ak .gtr 42 41 0] (ar 42 (ae [aQ 6,am 7 3] .ret) .skip)) (.seq (ae [aL 43 13 4,aA 44 43,bd 45 44,ak .eql 46 45 24]
 (ar 46 (ae [aQ 6,am 7 8] .ret) .skip)) (ae [oM 48 0,oM 49 8,oM 50 2,oO 51 (.bldSl false 2 1 (.sl []) [(0,(.t 49)),(1,(.t 50))]),oM 52 10,gq 53 63 48 51 52,oM 47 53,aC 54 47 0,aC 55 47 1,oM 11 54,oM 12 55] (ae [oM 57 2,oM 58 11,ct 59 91 57 58,oO 60 (.bldSl false 1 2 (.agg [dH,(.sl [])]) [(0,(.t 59))]),aY 61 90 60,oM 56 61,aC 62 56 0,aC 63 56 1,oM 13 62,oM 9 63] (.seq (ae [oM 64 9,ak .neq 65 64 0,oM 66 65,bJ 67 8 66 false,eY 68 67 66 false,bJ 69 13 66 false,eY 70 69 66 false,rh .add 71 68 70 66 false,cC .gtr 72 71 1280 66 false,cv 73 66 72] (ar 73 (ae [aQ 6,am 7 2] .ret) .skip)) (ae [oM 74 8,oM 75 13,oO 76 (.bldSl false 2 1 (.sl []) [(0,(.t 74)),(1,(.t 75))]),oO 77 (.call 35 [(.t 76)] (some (0,1))),oM 6 77,am 7 0] .ret)))))))))))),[(6,none),(7,none)]⟩
theorem afU:aM Tryz.prog { own:=[77] } Tryz.f42=some pc:=by kernel_rfl
theorem To (G:au) (key:List UInt8) (p:dq) (n:List UInt8) (hk:key.length≤9223372036854775807) (hf:sW p.hd) (hl:p.pl.length≤1000000) (hd:∀ f∈p.pl,f.da.length≤8000000000000000000) (hl2:p.se.length≤1000000) (hd2:∀ f∈p.se,f.da.length≤8000000000000000000) (hn:n.length≤9223372036854775807):aF Tryz.prog G 42 [.sl (key.map bD),dL p,.sl (n.map bD)] (.tup [.c (.fr 1 ((d9 key p n).map bD)),.c (.d (.int .i64 (gV key p n)))]):=by
  refine aX Tryz.func42 afU rfl rfl ?_;have cf:=Tj G (n.length:Int);have c1:=akR G p hf hl hd;have c2:=IR G p.se hl2 hd2;have c3:=rX G p.pl 1028 hl;by_cases h1:key.length=32
  ·by_cases h2:16≤n.length∧n.length≤32
   ·rw[decide_eq_true (by omega)] at cf;by_cases h3:eS p=0
    ·have hXl:=Tn h3;rw[UJ h3,h3] at c1;by_cases h4:dh p.se=0
     ·obtain⟨_,_,s3,s4⟩:=tX h4;rw[h4,s4] at c2;by_cases h5:(bP p.pl 1028).length=0
      ·by_cases h6:p.pl.length=24
       ·have e:=an7 (key:=key) (n:=n) h1 h2 h3 h4 h5 h6;rw[rY e (by decide),e];clear e h3 h4;generalize eG p=X at *
        generalize bQ p.se=Y at *
        generalize bP p.pl 1028=Z at *
        unfold dL at *
        simp only[pc,ai,af,seval,h1];refine sD (cf) ?_;refine sD (c1) ?_;refine sD (c2) ?_;refine sC (c3) ?_;simp only[h5,h6,af,seval];exact d7
       ·have e7:=an8 (key:=key) (n:=n) h1 h2 h3 h4 h5 h6;have hae:dB key [eG p,n] ((bQ p.se).length:Int)=0:=CB h1 (by omega) (by omega) (by rw[jz]; omega);have hsl:(ie key p n).length=16+cT p.se:=by unfold ie; rw[nS hae,apS,kZ,lQ,jz]
        have c4:=IL G key [eG p,n] (bQ p.se) hk (by simp) (fun x hx=>by simp at hx; rcases hx with rfl | rfl <;> omega) (by rw[jz]; omega);rw[hae,show fq key [eG p,n] (bQ p.se)=ie key p n from rfl] at c4;have c5:=UI G n (ie key p n) (by omega) (by omega);have hgl:(ew n (ie key p n)).length≤4000:=by rw[vE]; omega
        have c6:=IR G [cQ key p n] (by simp) (fun f hf=>by rw[apY.1 hf]; show (ew n (ie key p n)).length≤_; omega);rw[show bf (nM n (ie key p n))=bf (cQ key p n) from rfl] at c5;rw[List.map_singleton] at c6;by_cases h7:dh [cQ key p n]=0
        ·obtain⟨_,_,g3,g4⟩:=tX h7;rw[h7,g4] at c6;have hGl:=jz [cQ key p n];rcases aqk 1280 ((eG p).length+cT [cQ key p n]) with h8 | h8
         ·have e:gV key p n=2:=by rw[e7,if_pos (.inr h8)]
          rw[rY e (by decide),e];rw[← hGl] at h8;have g8:(((eG p).length:Int)+((bQ [cQ key p n]).length:Int)>1280)=True:=eq_true (by omega);clear e e7 h3 h4 h7 hae hsl;unfold dI at c4;simp only[apW,ap4] at c4;generalize bQ [cQ key p n]=W at *
          generalize cQ key p n=g at *
          generalize ie key p n=S at *
          generalize eG p=X at *
          generalize bQ p.se=Y at *
          generalize bP p.pl 1028=Z at *
          unfold dL bf at *
          simp only[pc,ai,af,seval,h1];refine sD (cf) ?_;refine sD (c1) ?_;refine sD (c2) ?_;refine sC (c3) ?_;simp only[h5,af,seval,iteOmega];refine sD (c4) ?_;refine sD (c5) ?_;refine sC (c6) ?_;simp only[g8,af,seval,iteOmega];exact d7
         ·have e:gV key p n=0:=by rw[e7,if_neg (by omega)]
          have eB:d9 key p n=eG p++bQ [cQ key p n]:=if_pos e;have cj:=dT G [eG p,bQ [cQ key p n]] (by simp) (by simp; omega);have hfl:[eG p,bQ [cQ key p n]].flatten=d9 key p n:=by rw[eB]; simp
          rw[hfl] at cj;simp only[apW,ap4] at cj;rw[e];rw[← hGl] at h8;have g8:(((eG p).length:Int)+((bQ [cQ key p n]).length:Int)>1280)=False:=eq_false (by omega);clear e e7 h3 h4 h7 hae hsl eB hfl;unfold dI at c4;simp only[apW,ap4] at c4;generalize d9 key p n=V at *
          generalize bQ [cQ key p n]=W at *
          generalize cQ key p n=g at *
          generalize ie key p n=S at *
          generalize eG p=X at *
          generalize bQ p.se=Y at *
          generalize bP p.pl 1028=Z at *
          unfold dL bf at *
          simp only[pc,ai,af,seval,h1];refine sD (cf) ?_;refine sD (c1) ?_;refine sD (c2) ?_;refine sC (c3) ?_;simp only[h5,af,seval,iteOmega];refine sD (c4) ?_;refine sD (c5) ?_;refine sC (c6) ?_;simp only[g8,af,seval,iteOmega];refine sD (cj) ?_;exact d7
        ·have e:gV key p n=2:=by rw[e7,if_pos (.inl h7)]
         rw[rY e (by decide),e];have g7:(dh [cQ key p n]=0)=False:=eq_false h7;clear e e7 h3 h4 h7 hae hsl;unfold dI at c4;simp only[apW,ap4] at c4;generalize dh [cQ key p n]=E at *
         generalize lD [cQ key p n]=W at *
         generalize cQ key p n=g at *
         generalize ie key p n=S at *
         generalize eG p=X at *
         generalize bQ p.se=Y at *
         generalize bP p.pl 1028=Z at *
         unfold dL bf at *
         simp only[pc,ai,af,seval,h1];refine sD (cf) ?_;refine sD (c1) ?_;refine sD (c2) ?_;refine sC (c3) ?_;simp only[h5,af,seval,iteOmega];refine sD (c4) ?_;refine sD (c5) ?_;refine sC (c6) ?_;simp only[g7,af,seval];exact d7
      ·have e:=an6 (key:=key) (n:=n) h1 h2 h3 h4 h5;rw[rY e (by decide),e];clear e h3 h4;generalize eG p=X at *
       generalize bQ p.se=Y at *
       generalize bP p.pl 1028=Z at *
       unfold dL at *
       simp only[pc,ai,af,seval,h1];refine sD (cf) ?_;refine sD (c1) ?_;refine sD (c2) ?_;refine sD (c3) ?_;exact d7
     ·have e:=an5 (key:=key) (n:=n) h1 h2 h3 h4;rw[rY e h4,e];have g4:(dh p.se=0)=False:=eq_false h4;clear e h3 h4;generalize eG p=X at *
      generalize dh p.se=E at *
      generalize lD p.se=Y at *
      unfold dL at *
      simp only[pc,ai,af,seval,h1];refine sD (cf) ?_;refine sD (c1) ?_;refine sC (c2) ?_;simp only[g4,af,seval];exact d7
    ·have e:=an4 (key:=key) (n:=n) h1 h2 h3;rw[rY e h3,e];have g3:(eS p=0)=False:=eq_false h3;clear e h3;generalize eS p=E at *
     generalize Eu p=X at *
     unfold dL at *
     simp only[pc,ai,af,seval,h1];refine sD (cf) ?_;refine sC (c1) ?_;simp only[g3,af,seval];exact d7
   ·have e:=an3 (key:=key) (p:=p) (n:=n) h1 (by omega);rw[decide_eq_false (by omega)] at cf;rw[rY e (by decide),e];unfold dL;simp only[pc,ai,af,seval,h1];refine sD (cf) ?_;exact d7
  ·have e:=an2 (key:=key) (p:=p) (n:=n) h1;rw[rY e (by decide),e];unfold dL;simp only[pc,ai,af,seval,iteOmega];exact d7
theorem I5 (l:List Fd) (k:Int):∀ n,∀ x∈fw l k n,0≤x∧x<(n:Int)
  | 0,x,h=>by cases h
  | n+1,x,h=>by
    rw[fw,aqg] at h;rcases h with h | h
    ·have:=I5 l k n x h; omega
    ·split at h
     ·rw[apY] at h; omega
     ·cases h
theorem acf {L:List Fd} (h:(bP L 1028).length≠0):∃ i:Nat,i<L.length∧(bP L 1028).getD 0 0=(i:Int)∧(bP L 1028)[0]?=some (i:Int):=by
  have h0:0<(bP L 1028).length:=by omega
  obtain⟨h1,h2⟩:=I5 L 1028 L.length (bP L 1028)[0] (aqr h0);have e:(((bP L 1028)[0].toNat:Nat):Int)=(bP L 1028)[0]:=by omega
  refine⟨(bP L 1028)[0].toNat,by omega,?_,?_⟩
  ·rw[apT,apR h0,e]; rfl
  ·rw[apR h0,e]
theorem akS {b:List UInt8} (h:ja b=0):ix b=0∧fk (b.drop 48)=0∧48≤b.length∧b.length≤1280∧pR b=⟨d8 b,cK (b.drop 48),[],false⟩:=by
  have hd:ix b=0:=by
    by_cases e:ix b=0
    ·exact e
    ·rw[(O0 e).1] at h; exact absurd h e
  have h2:=(Na hd).1;rw[h] at h2;have hl:48≤b.length∧b.length≤1280:=by
    unfold ix at hd;split at hd
    ·cases hd
    ·split at hd
     ·cases hd
     ·omega
  exact⟨hd,h2.symm,hl.1,hl.2,if_pos h⟩
theorem afV {r:List UInt8} {f:Fd} (h:f∈cK r):f.da.length≤r.length:=by
  unfold cK at h;split at h
  ·obtain⟨i,_,rfl⟩:=aqa.1 h;unfold zU aK; simp; omega
  ·cases h
theorem BO {r:List UInt8}:(cK r).length≤24:=by
  unfold cK;split
  ·rw[Hk]; exact (Cz r).1
  ·exact apZ _
theorem akT {r:List UInt8} {i:Nat} (h:fk r=0) (hi:i<(cK r).length):(oF r)[i]?=some (bN r i:Int)∧bN r i≤r.length:=by
  obtain⟨h1,h2,h3,h4⟩:=anp h;have e1:cK r=kR r (fT r):=by unfold cK; rw[if_pos h,h3]
  have e2:oF r=ka r (fT r):=by unfold oF; rw[if_pos h,h3]
  rw[e1,Hk] at hi;refine⟨?_,Iv r i (by omega)⟩;rw[e2];unfold ka;rw[aqH,arp hi];rfl
theorem tM {key b:List UInt8} {e:Int} (h:gW key b=e) (he:e≠0):gX key b=kh:=if_neg (by rw[h]; exact he)
theorem an9 {key b:List UInt8} (h:key.length≠32):gW key b=5:=if_pos h
theorem aoa {key b:List UInt8} (h1:key.length=32) (h:ja b≠0):gW key b=ja b:=by unfold gW; rw[if_neg (by omega),if_pos h]
theorem aob {key b:List UInt8} (h1:key.length=32) (h2:ja b=0) (h:(bP (cK (b.drop 48)) 1028).length=0):gW key b=10:=by
  unfold gW; rw[if_neg (by omega),if_neg (by simp[h2]),if_pos h]
theorem UK {key b:List UInt8} (h1:key.length=32) (h2:ja b=0) (h3:(bP (cK (b.drop 48)) 1028).length≠0) (h:(bP (cK (b.drop 48)) 1028).getD 0 0≠(fD b:Int)∨¬ jf (fh b)):gW key b=3:=by
  unfold gW; rw[if_neg (by omega),if_neg (by simp[h2]),if_neg h3,if_pos h]
theorem aoc {key b:List UInt8} (h1:key.length=32) (h2:ja b=0) (h3:(bP (cK (b.drop 48)) 1028).length≠0) (h4:(bP (cK (b.drop 48)) 1028).getD 0 0=(fD b:Int)) (h5:jf (fh b)):gW key b=if sZ key b≠0 then 6 else fk (km key b):=by
  unfold gW; rw[if_neg (by omega),if_neg (by simp[h2]),if_neg h3,if_neg (by rintro (k | k); exact k h4; exact k h5)]
theorem acg {key:List UInt8} {ad:List (List UInt8)} {s:List UInt8}:(i9 key ad s).length≤s.length:=by
  unfold i9;split
  ·rw[lQ]; simp
  ·exact apZ _
structure OpR (b:List UInt8) where
  l1:48≤b.length
  l2:b.length≤1280
  ea:fk (b.drop 48)=0
  rd:pR b=⟨d8 b,cK (b.drop 48),[],false⟩
theorem akU {d:List UInt8} (h:jf d):z0 d=eC d∧z5 d=fY d:=⟨if_pos h,if_pos h⟩
theorem aod {d:List UInt8} (h:jf d):(eC d).length≤32∧(fY d).length≤d.length:=by
  obtain⟨h1,h2,h3,h4,h5⟩:=h;unfold eC fY aK;simp;omega
def qp:aO:=⟨2,108,ae [oO 4 (.alloc [ah,ah,ah,ah,ah,ah,bh,bh,bh,aW,aW,aW,aW,.nil,.nil,cD]),am 5 0] (.seq (ae [oM 18 0,bd 19 18,ak .neq 20 19 32] (ar 20 (ae [oO 21 (.build [ah,ah,ah,ah,ah,ah,bh,bh,bh,aW,aW,aW,aW,.nil,.nil,cD] []),aS 16 4 21,am 5 5] .ret) .skip)) (ae [oM 23 1,aY 24 44 23,oM 22 24,aC 25 22 0,aC 26 22 1,oO 6 (.alloc [ah,ah,ah,ah,ah,ah,bh,bh,bh,aW,aW,aW,aW,.nil,.nil,cD]),aS 16 6 25,oM 7 26] (.seq (ae [oM 27 7,ak .neq 28 27 0] (ar 28 (ae [oO 29 (.build [ah,ah,ah,ah,ah,ah,bh,bh,bh,aW,aW,aW,aW,.nil,.nil,cD] []),oM 30 7,aS 16 4 29,oM 5 30] .ret) .skip)) (ae [aL 31 13 6,aA 32 31,oO 33 (.call 45 [(.t 32),(kI 1028)] none),oM 8 33] (.seq (ae [oM 34 8,bd 35 34,ak .eql 36 35 0] (ar 36 (ae [oO 37 (.build [ah,ah,ah,ah,ah,ah,bh,bh,bh,aW,aW,aW,aW,.nil,.nil,cD] []),
 aS 16 4 37,am 5 10] .ret) .skip)) (ae [aL 38 13 6,aA 39 38,bd 40 39,ak .sub 41 40 1,oM 9 41] (ae [aL 43 13 6,aA 44 43,oM 45 8,oO 46 (.idxSl 1 (.t 45) (kI 0)),aA 47 46,bU 48 2 44 47,aL 49 1 48,aA 50 49,aY 51 98 50,oM 42 51,aC 52 42 0,aC 53 42 1,aC 54 42 2,oM 10 52,oM 11 53,oM 12 54] (.seq (ae [oM 55 8,oO 56 (.idxSl 1 (.t 55) (kI 0)),aA 57 56,oM 58 9,aU .neq 59 57 58,oM 60 59,bJ 61 12 60 false,gn 62 61 60 false,cv 63 60 62] (ar 63 (ae [oO 64 (.build [ah,ah,ah,ah,ah,ah,bh,bh,bh,aW,aW,aW,aW,.nil,.nil,cD] []),aS 16 4 64,am 5 3] .ret) .skip)) (ae [oM 66 1,oO 67 (.slice 1 (.t 66) (some (kI 48)) none none),aY 68 99 67,oM 65 68,aC 69 65 0,aC 70 65 1,oM 13 69,oM 14 70] (ae [oM 71 1,oM 72 13,oM 73 9,bU 74 1 72 73,aA 75 74,oO 76 (.bin .add (kI 48) (.t 75)),
 oO 77 (.slice 1 (.t 71) none (some (.t 76)) none),oM 15 77] (ae [oM 79 0,oM 80 15,oM 81 10,oO 82 (.bldSl false 2 1 (.sl []) [(0,(.t 80)),(1,(.t 81))]),oM 83 11,gq 84 67 79 82 83,oM 78 84,aC 85 78 0,aC 86 78 1,oM 16 85,oM 7 86] (.seq (ae [oM 87 7,ak .neq 88 87 0] (ar 88 (ae [oO 89 (.build [ah,ah,ah,ah,ah,ah,bh,bh,bh,aW,aW,aW,aW,.nil,.nil,cD] []),aS 16 4 89,am 5 6] .ret) .skip)) (ae [oM 91 16,aY 92 93 91,oM 90 92,aC 93 90 0,aC 94 90 1,oM 17 93,oM 7 94] (.seq (ae [oM 95 7,ak .neq 96 95 0] (ar 96 (ae [oO 97 (.build [ah,ah,ah,ah,ah,ah,bh,bh,bh,aW,aW,aW,aW,.nil,.nil,cD] []),oM 98 7,aS 16 4 97,oM 5 98] .ret) .skip)) (ae [aL 99 0 6,bn 100 13 99,aL 101 13 6,aA 102 101,oM 103 9,oM 104 9,oO 105 (.slice 2 (.t 102) none (some (.t 103)) (some (.t 104))),
 oM 106 17,oO 107 (.build [ah,ah,ah,ah,ah,ah,bh,bh,bh,aW,aW,aW,aW,.nil,.nil,cD] [(0,13,(.t 100)),(13,1,(.t 105)),(14,1,(.t 106)),(15,1,(.k (.c (.d (.bool true)))))]),aS 16 4 107,am 5 0] .ret))))))))))))))),[(4,(some (.ag 16))),(5,none)]⟩
theorem afW:aM Tryz.prog {} Tryz.f47=some qp:=by kernel_rfl
set_option maxHeartbeats 3200000 in
theorem Tp (G:au) (key b:List UInt8) (hk:key.length≤9223372036854775807) (hb:b.length≤9000000000000000000):aF Tryz.prog G 47 [.sl (key.map bD),.sl (b.map bD)] (.tup [.c (.d (dL (gX key b))),.c (.d (.int .i64 (gW key b)))]):=by
  refine aX Tryz.func47 afW rfl rfl ?_;have c1:=I4 G b hb;by_cases h1:key.length=32
  ·by_cases h2:ja b=0
   ·obtain⟨d1,d2,d3,d4,d5⟩:=akS h2;rw[h2,d5] at c1;have hRl:(b.drop 48).length=b.length-48:=by simp
    have c2:=rX G (cK (b.drop 48)) 1028 (by have:=@BO (b.drop 48); omega);by_cases h3:(bP (cK (b.drop 48)) 1028).length=0
    ·have e:=aob h1 h2 h3;rw[tM e (by decide),e];clear e d1 d2 d5 h2;generalize bP (cK (b.drop 48)) 1028=Z at *
     generalize cK (b.drop 48)=L at *
     generalize d8 b=q at *
     unfold dL kh Hd.z at *
     simp only[qp,ai,af,seval,h1];refine sD (c1) ?_;refine sC (c2) ?_;simp only[h3,af,aa,seval];exact eM (by simp only[af,seval] <;> rfl) (by simp only[af,seval])
    ·obtain⟨i,hi,i2,i3⟩:=acf h3;have hLl:=@BO (b.drop 48);have gi:=kM hi;have hdl:=afV (va hi);have c3:=akQ G ((cK (b.drop 48)).getD i default).da (by omega);have hz3:((bP (cK (b.drop 48)) 1028).length:Int)≠0:=by omega
     have hz3':(((bP (cK (b.drop 48)) 1028).length:Int)=0)=False:=eq_false hz3;have hz4:(0:Int)<((bP (cK (b.drop 48)) 1028).length:Int):=by omega
     by_cases h4:i=fD b
     ·have hL1:(fD b:Int)=((cK (b.drop 48)).length:Int)-1:=by unfold fD; omega
      rw[h4] at i2 i3 gi c3 hdl hi;have hfd:((cK (b.drop 48)).getD (fD b) default).da=fh b:=rfl;rw[hfd] at c3 hdl;by_cases h5:jf (fh b)
      ·obtain⟨p1,p2⟩:=akU h5;obtain⟨q1,q2⟩:=aod h5;have hgl:(fh b).length≤1280:=by
         omega
       obtain⟨x1,x2⟩:=akT d2 hi;have x3:(fD b:Int)<((oF (b.drop 48)).length:Int):=by
         have:=(aqd.1 x1).1;omega
       have c4:=akM G (b.drop 48) (by omega);rw[d2] at c4;have hAl:(na b).length≤1280:=by unfold na; simp; omega
       have c5:=JQ G key [na b,eC (fh b)] (fY (fh b)) hk (by simp) (fun x hx=>by simp at hx; rcases hx with rfl | rfl <;> omega) (by omega);rw[show iL key [na b,eC (fh b)] (fY (fh b))=sZ key b from rfl,show i9 key [na b,eC (fh b)] (fY (fh b))=km key b from rfl] at c5;have hVl:(km key b).length≤1280:=by
         have:(km key b).length≤(fY (fh b)).length:=acg;omega
       have c6:=Tg G (km key b) (by omega);have e5:=aoc h1 h2 h3 i2 h5;rw[p1,p2,decide_eq_true h5] at c3;have hcut:b.take (48+bN (b.drop 48) (fD b))=na b:=rfl;unfold dI at c5;simp only[apW,ap4] at c5;have hdr:(b.drop 48).take (b.length-48)=b.drop 48:=apX (by omega);by_cases h6:sZ key b=0
       ·rw[if_neg (by simp[h6])] at e5;rw[h6] at c5;by_cases h7:fk (km key b)=0
        ·rw[h7] at e5 c6;have eP:gX key b=⟨d8 b,(cK (b.drop 48)).take (fD b),cK (km key b),true⟩:=if_pos e5;rw[eP,e5];have az:=lP (cK (b.drop 48));have hle:(fD b≤(cK (b.drop 48)).length)=True:=eq_true (by omega);clear eP e5 d1 d2 d5 h2 h7 h6 p1 p2 h5 q1 q2 hgl h4 hz3;generalize hZ:bP (cK (b.drop 48)) 1028=Z at *
         generalize bN (b.drop 48) (fD b)=pp at *
         generalize oF (b.drop 48)=PL at *
         generalize km key b=V at *
         generalize na b=A at *
         generalize eC (fh b)=n at *
         generalize fY (fh b)=s at *
         generalize fh b=GG at *
         generalize fD b=last at *
         generalize d8 b=q at *
         generalize cK V=LV at *
         generalize cK (b.drop 48)=L at *
         generalize L.getD last default=gf at *
         unfold dL bf at *
         simp only[qp,ai,af,seval,h1];refine sD (c1) ?_;refine sC (c2) ?_;simp only[hz3',bc,i3,zD,← hL1,gi,hfd,af,seval,iteOmega,toNatUp];refine sC (c3) ?_;simp only[bc,i3,zD,hdr,af,seval,iteOmega,toNatUp];refine sC (c4) ?_;simp only[x1,bc,zD,hcut,af,seval,iteOmega,toNatUp];refine sD (c5) ?_;refine sC (c6) ?_;simp only[az,hle,apZ,and_self,af,aa,seval,iteOmega,toNatUp];exact eM (by simp only[af,seval] <;> rfl) (by simp only[af,seval])
        ·rw[tM e5 h7,e5];have g7:(fk (km key b)=0)=False:=eq_false h7;clear e5 d1 d2 d5 h2 h7 h6 p1 p2 h5 q1 q2 hgl h4 hz3;generalize fk (km key b)=E at *
         generalize hZ:bP (cK (b.drop 48)) 1028=Z at *
         generalize bN (b.drop 48) (fD b)=pp at *
         generalize oF (b.drop 48)=PL at *
         generalize km key b=V at *
         generalize na b=A at *
         generalize eC (fh b)=n at *
         generalize fY (fh b)=s at *
         generalize fh b=GG at *
         generalize fD b=last at *
         generalize d8 b=q at *
         generalize cK V=LV at *
         generalize cK (b.drop 48)=L at *
         generalize L.getD last default=gf at *
         unfold kh Hd.z;unfold dL bf at *
         simp only[qp,ai,af,seval,h1];refine sD (c1) ?_;refine sC (c2) ?_;simp only[hz3',bc,i3,zD,← hL1,gi,hfd,af,seval,iteOmega,toNatUp];refine sC (c3) ?_;simp only[bc,i3,zD,hdr,af,seval,iteOmega,toNatUp];refine sC (c4) ?_;simp only[x1,bc,zD,hcut,af,seval,iteOmega,toNatUp];refine sD (c5) ?_;refine sC (c6) ?_;simp only[g7,af,aa,seval];exact eM (by simp only[af,seval] <;> rfl) (by simp only[af,seval])
       ·rw[if_pos h6] at e5;rw[tM e5 (by decide),e5];have g6:(sZ key b=0)=False:=eq_false h6;clear e5 d1 d2 d5 h2 h6 p1 p2 h5 q1 q2 hgl h4 hz3 c6;generalize sZ key b=E at *
        generalize hZ:bP (cK (b.drop 48)) 1028=Z at *
        generalize bN (b.drop 48) (fD b)=pp at *
        generalize oF (b.drop 48)=PL at *
        generalize km key b=V at *
        generalize na b=A at *
        generalize eC (fh b)=n at *
        generalize fY (fh b)=s at *
        generalize fh b=GG at *
        generalize fD b=last at *
        generalize d8 b=q at *
        generalize cK (b.drop 48)=L at *
        generalize L.getD last default=gf at *
        unfold kh Hd.z;unfold dL bf at *
        simp only[qp,ai,af,seval,h1];refine sD (c1) ?_;refine sC (c2) ?_;simp only[hz3',bc,i3,zD,← hL1,gi,hfd,af,seval,iteOmega,toNatUp];refine sC (c3) ?_;simp only[bc,i3,zD,hdr,af,seval,iteOmega,toNatUp];refine sC (c4) ?_;simp only[x1,bc,zD,hcut,af,seval,iteOmega,toNatUp];refine sC (c5) ?_;simp only[g6,af,aa,seval];exact eM (by simp only[af,seval] <;> rfl) (by simp only[af,seval])
      ·have e:=UK h1 h2 h3 (.inr h5);rw[tM e (by decide),e];rw[decide_eq_false h5] at c3;clear e d1 d2 d5 h2 h5 h4 hz3;generalize hZ:bP (cK (b.drop 48)) 1028=Z at *
       generalize z0 (fh b)=n at *
       generalize z5 (fh b)=s at *
       generalize fh b=GG at *
       generalize fD b=last at *
       generalize d8 b=q at *
       generalize cK (b.drop 48)=L at *
       generalize L.getD last default=gf at *
       unfold kh Hd.z dL bf at *
       simp only[qp,ai,af,seval,h1];refine sD (c1) ?_;refine sC (c2) ?_;simp only[hz3',bc,i3,zD,← hL1,gi,hfd,af,seval,iteOmega,toNatUp];refine sC (c3) ?_;simp only[bc,i3,zD,af,aa,seval,iteOmega,toNatUp];exact eM (by simp only[af,seval] <;> rfl) (by simp only[af,seval])
     ·have e:=UK h1 h2 h3 (.inl (by rw[i2]; omega));rw[tM e (by decide),e];have hL1:(fD b:Int)=((cK (b.drop 48)).length:Int)-1:=by unfold fD; omega
      have g4:(i:Int)≠(fD b:Int):=by omega
      have g4':((i:Int)=(fD b:Int))=False:=eq_false g4;clear e d1 d2 d5 h2 h4 hz3;generalize decide (jf ((cK (b.drop 48)).getD i default).da)=ok at *
      generalize z0 ((cK (b.drop 48)).getD i default).da=n at *
      generalize z5 ((cK (b.drop 48)).getD i default).da=s at *
      generalize hZ:bP (cK (b.drop 48)) 1028=Z at *
      generalize fD b=last at *
      generalize d8 b=q at *
      generalize cK (b.drop 48)=L at *
      generalize L.getD i default=gf at *
      unfold kh Hd.z dL bf at *
      simp only[qp,ai,af,seval,h1];refine sD (c1) ?_;refine sC (c2) ?_;simp only[hz3',bc,i3,zD,← hL1,gi,af,seval,iteOmega,toNatUp];refine sC (c3) ?_;simp only[bc,i3,zD,g4',af,aa,seval,iteOmega,toNatUp];exact eM (by simp only[af,seval] <;> rfl) (by simp only[af,seval])
   ·have e:=aoa h1 h2;have g:(ja b=0)=False:=eq_false h2;rw[tM e h2,e];clear e h2;generalize ja b=E at *
    generalize pR b=q at *
    unfold dL kh Hd.z at *
    simp only[qp,ai,af,seval,h1];refine sC (c1) ?_;simp only[g,af,aa,seval];exact eM (by simp only[af,seval] <;> rfl) (by simp only[af,seval])
  ·have e:=an9 (b:=b) h1;rw[tM e (by decide),e];unfold dL kh Hd.z;simp only[qp,ai,af,aa,seval,iteOmega];exact eM (by simp only[af,seval] <;> rfl) (by simp only[af,seval])
theorem yW:pZ.da.length=104:=aqo ..
theorem Kg (u c:List UInt8) (k:Nat):cd u c (k+1)=cd u c k++[pZ]:=by
  unfold cd;rw[ary,ap6]
theorem vF (u c:List UInt8) (k:Nat):(cd u c k).length=k+2:=by
  unfold cd;rw[apS,aqo]
  show 2+k=_
  omega
theorem BP {u c:List UInt8} {k:Nat} {f:Fd} (h:f∈cd u c k):f=⟨260,u⟩∨f=⟨516,c⟩∨f=pZ:=by
  unfold cd at h;rcases aqg.1 h with h | h
  ·rcases aqh.1 h with h | h
   ·exact .inl h
   ·exact .inr (.inl (apY.1 h))
  ·exact .inr (.inr (List.eq_of_mem_replicate h))
theorem HM {u c:List UInt8} (hu:u.length=32) (hc:c.length=104):∀ k,cT (cd u c k)=144+108*k
  | 0=>by
    unfold cd cT cx;simp[hu,hc]
  | k+1=>by
    rw[Kg,x9,HM hu hc k];have:cT [pZ]=108:=by
      unfold cT cx;simp[yW]
    omega
theorem yX {f:Fd} (h1:0≤f.ty) (h2:f.ty≤65535) (h3:f.da.length≤1228):dA f=0:=by
  unfold dA cx;rw[if_neg (by omega),if_neg (by omega)]
theorem aoe {u c:List UInt8} (hu:u.length=32) (hc:c.length=104) {k:Nat} (hk:k≤8):dh (cd u c k)=0:=by
  refine yU (fun f hf=>?_) (by rw[vF]; omega) (by rw[HM hu hc]; omega);rcases BP hf with rfl | rfl | rfl
  ·exact yX (show (0:Int)≤260 by decide) (show (260:Int)≤65535 by decide) (by show u.length≤_; omega)
  ·exact yX (show (0:Int)≤516 by decide) (show (516:Int)≤65535 by decide) (by show c.length≤_; omega)
  ·exact yX (by decide) (by decide) (by rw[yW]; decide)
theorem Tq {l:List Fd} {k:Int} (h:∀ f∈l,f.ty≠k):bP l k=[]:=OZ h _ (ap3 _)
theorem akV {u c:List UInt8} {k:Nat}:bP (cd u c k) 1028=[]:=Tq fun f hf=>by
  rcases BP hf with rfl | rfl | rfl
  ·exact show (260:Int)≠1028 by decide
  ·exact show (516:Int)≠1028 by decide
  ·exact show (772:Int)≠1028 by decide
theorem UL (t:Nat):jw (ft t)=0:=zp.2 rfl
theorem Kh {t:Nat} (h:t<18446744073709551616):sW (ft t):=⟨show 0<_ by decide,show 0<_ by decide,show 0<_ by decide,show 0<_ by decide,show 0<_ by decide,show 0<_ by decide,h⟩
theorem Ki {key u c n:List UInt8} {t k:Nat} (h1:key.length=32) (hu:u.length=32) (hc:c.length=104) (hn:n.length=16) (hk:k≤8):wZ key ⟨ft t,cd u c k,[],false⟩ n∧(d9 key ⟨ft t,cd u c k,[],false⟩ n).length=232+108*k:=by
  have s:cT ([]:List Fd)=0:=rfl;have e:=aoe hu hc hk;have un:eS ⟨ft t,cd u c k,[],false⟩=0:=by
    unfold eS;rw[if_pos (UL t)]; exact e
  have ht:=HM hu hc k;have ha:dB key [eG ⟨ft t,cd u c k,[],false⟩,n] ((bQ []).length:Int)=0:=CB h1 (by rw[rQ,ht]; omega) (by omega) (by decide);have hs:(ie key ⟨ft t,cd u c k,[],false⟩ n).length=16:=by
    unfold ie;rw[nS ha,apS,kZ,lQ]; rfl
  have hl:=vE n (ie key ⟨ft t,cd u c k,[],false⟩ n);have hT:cx (cQ key ⟨ft t,cd u c k,[],false⟩ n)=40:=by
    unfold cQ;rw[wq (by omega),hl,hs]; omega
  have ok:wZ key ⟨ft t,cd u c k,[],false⟩ n:=⟨h1,by omega,by omega,un,rfl,by rw[show bP (cd u c k) 1028=[] from akV]; rfl,by rw[vF]; omega,UH (by omega) (by unfold cQ at hT; rw[wq (by omega)] at hT; omega),by rw[hT,ht]; omega⟩
  refine⟨ok,?_⟩;have hx:cT [cQ key ⟨ft t,cd u c k,[],false⟩ n]=40:=by unfold cT; simp[hT]
  rw[(yV ok).2,apS,rQ,jz,hx,ht];omega
theorem Dp {j:Jr} {u n:List UInt8} {e:Int} (h:lI j u n=e) (he:e≠0):EA j u n=jx∧∀ t,EB j t u n=[]:=⟨if_neg (by rw[h]; exact he),fun t=>if_neg (by rw[h]; exact he)⟩
theorem Kj {j:Jr} {u b:List UInt8} {e:Int} (h:jh j u b=e) (he:e≠0):xz j u b=jx∧xA j u b=kh:=⟨if_neg (by rw[h]; exact he),if_neg (by rw[h]; exact he)⟩
def dv (j:Jr):List D:=[.sl (j.up.map bD),.sl (j.dn.map bD),.sl (j.ck.map fun l=>D.sl (l.map bD)),.sl (j.la.map bD),.int .i64 j.nw,.int .i64 j.sn]
def ig:Ob:=.box [.nil,.nil,.nil,.nil,.d (.int .i64 0),.d (.int .i64 0)]
def ii (j:Jr) (k:C):Ob:=.box [.d (.sl (j.up.map bD)),.d (.sl (j.dn.map bD)),k,.d (.sl (j.la.map bD)),.d (.int .i64 j.nw),.d (.int .i64 j.sn)]
def EC (j:Jr):List C:=[.d (.sl (j.up.map bD)),.d (.sl (j.dn.map bD)),.fr 1 (j.ck.map fun l=>D.sl (l.map bD)),.d (.sl (j.la.map bD)),.d (.int .i64 j.nw),.d (.int .i64 j.sn)]
theorem akW {σ:St} {p:Nat×Option Kd} {j:Jr} {k:C} (h1:dd σ p=some (.mix [.d (.sl (j.up.map bD)),.d (.sl (j.dn.map bD)),k,.d (.sl (j.la.map bD)),.d (.int .i64 j.nw),.d (.int .i64 j.sn)])) (hk:xj σ.h k (.fr 1 (j.ck.map fun l=>D.sl (l.map bD)))) (hd:k.ids.Nodup):fi σ [p] (.w (.mix (EC j))):=by
  refine⟨[.mix [.d (.sl (j.up.map bD)),.d (.sl (j.dn.map bD)),k,.d (.sl (j.la.map bD)),.d (.int .i64 j.nw),.d (.int .i64 j.sn)]],by simp[bE,h1],.inl ⟨?_,?_⟩⟩
  ·simpa [W.ids,C.ids] using hd
  ·exact .cons rfl (.cons rfl (.cons hk (.cons rfl (.cons rfl (.cons rfl .nil)))))
theorem afX {P:Program} {G:au} {F:FuncId} {args:List D} {cs:List C} {ds:List D} (hds:jC (cs.map C.ro)=.c (.d (.agg ds))) (h:aF P G F args (.w (.mix cs))):aF P G F args (.w (.c (.d (.agg ds)))):=by
  intro w S vs h1 h2 h3;refine (h w S vs h1 h2 h3).mono ?_;rintro e w' ⟨v,S',bl,rfl,k1,k2,k3,k4⟩;have cs0:∀ {us:List Value} {cs:List C} {bk:List Nat},li S' w' w.heap.size us cs bk→∀ b∈bk,w.heap.size≤b∧b<w'.heap.size:=by
    intro us cs bk hc
    induction hc with
    | nil=>intro b hb; cases hb
    | cons h1 _ ih =>
      rename_i c _ _ _ _ _;intro b hb;rcases aqg.1 hb with hb | hb
      ·cases c <;> simp only[jY] at h1 <;> first | exact h1.elim | skip
       ·rw[h1.2] at hb; cases hb
       ·rcases h1 with ⟨_,_,rfl⟩ | ⟨b',cap,ty,N,rfl,_,_,_,q1,_,q2⟩
        ·cases hb
        ·simp only[apY] at hb;subst hb;obtain⟨f1,_,cur,ty',fz,f3,_⟩:=q2;exact⟨f1,(aqp.1 f3).1⟩
      ·exact ih b hb
  have hfresh:∀ b∈bl,w.heap.size≤b∧b<w'.heap.size:=by
    obtain⟨us,_,hc⟩:=k4;exact cs0 hc
  refine⟨v,fun b i=>S' b i∨b∈bl,[],rfl,k1,fun b i hs=>?_,.nil,?_⟩
  ·rcases hs with hs | hs
   ·exact k2 b i hs
   ·exact⟨.inr (hfresh b hs).1,(hfresh b hs).2⟩
  ·have:=wb (m:=fun _=>none) (x:=.mix cs) k4 (T:=fun b i=>S' b i∨b∈bl) (fun _ _ h=>.inl h) (fun b hb _=>.inr hb);rw[show W.ro (.mix cs)=_ from hds] at this;exact⟨this.1,rfl⟩
theorem CC {j:Jr} (v:fE j):j.up.length=32∧j.dn.length=32∧j.ck.length≤8∧j.la.length≤104∧∀ c∈j.ck,c.length=104:=by
  obtain⟨⟨a,b,c,d,_⟩,h,_⟩:=yu.1 v;exact⟨a,b,c,by omega,h⟩
theorem Kk {j:Jr} {e:Int} (h:jg j=e) (he:e≠0):Ew j=jx∧Ex j=[]:=⟨if_neg (by rw[h]; exact he),if_neg (by rw[h]; exact he)⟩
theorem afY {cs:List (List UInt8)} {i:Nat} (h:i<cs.length) (h1:gJ (cs.take i)=true) (h2:(cs.getD i []).length=104):gJ (cs.take (i+1))=true:=by
  unfold gJ at *
  rw[Lj h,List.all_append,h1,arY,List.all_nil,beq_iff_eq.2 h2]; rfl

def sq (p:dq):List C:=[.d (.int .i64 p.hd.lp),.d (.int .i64 p.hd.vr),.d (.int .i64 p.hd.md),.d (.int .i64 p.hd.st),.d (.int .i64 p.hd.pl),.d (.int .i64 p.hd.pr),.d (.int .u32 (p.hd.rd:Int)),.d (.int .u32 (p.hd.rp:Int)),.d (.int .u32 (p.hd.ri:Int)),.d (.int .u64 (p.hd.rf:Int)),.d (.int .u64 (p.hd.og:Int)),.d (.int .u64 (p.hd.rc:Int)),.d (.int .u64 (p.hd.tr:Int)),.d (.sl (p.pl.map bf)),.d (.sl (p.se.map bf)),.d (.bool p.gu)]
def ED (l:List Fd) (i:Nat):List (List UInt8):=((bP l 516).take i).map fun k=>(l.getD k.toNat default).da
theorem afZ (l:List Fd):ED l (bP l 516).length=du l:=by
  unfold ED;rw[aqy,akO]
theorem af0 {l:List Fd} {i:Nat} (h:i≤(bP l 516).length):(ED l i).length=i:=by
  unfold ED;rw[ap1,ap0]; omega
theorem akX {l:List Fd} {k:Int} {i:Nat} (h:i<(bP l k).length):∃ m:Nat,(bP l k)[i]?=some (m:Int)∧(bP l k).getD i 0=(m:Int)∧m<l.length:=by
  have e:(bP l k)[i]?=some ((bP l k)[i]):=apR h;obtain⟨h1,h2⟩:=I5 l k l.length _ (show (bP l k)[i]∈fw l k l.length from aqr h);obtain⟨m,hm⟩:=aqB h1;have hm:(bP l k)[i]=(m:Int):=hm;refine⟨m,by rw[e,hm],by rw[apT,e,hm]; rfl,by omega⟩
theorem akY (l:List Fd) (k:Int):(bP l k).length≤l.length:=HH l k _
theorem aof {key b:List UInt8}:(gX key b).pl.length≤24∧(gX key b).se.length≤24:=by
  unfold gX;split
  ·have h1:=@BO (b.drop 48);have h2:=@BO (km key b);exact⟨by simp; omega,h2⟩
  ·exact⟨by decide,by decide⟩
theorem akZ {u b:List UInt8} {p:dq} (h:(bP p.pl 260).length≠1):rA u b p=false:=by
  unfold rA;split
  ·rename_i i e;rw[e] at h;exact absurd rfl h
  ·rfl
theorem aog {u b:List UInt8} {p:dq} {m:Nat} (h:(bP p.pl 260).length=1) (hm:(bP p.pl 260)[0]?=some (m:Int)):rA u b p=((p.pl.getD m default).da==u):=by
  obtain⟨i,e⟩:=List.length_eq_one_iff.1 h;unfold rA;rw[e] at hm ⊢;obtain rfl:i=(m:Int):=Option.some.inj hm;rfl
theorem wu:dL kh=.agg [.int .i64 0,.int .i64 0,.int .i64 0,.int .i64 0,.int .i64 0,.int .i64 0,.int .u32 0,.int .u32 0,.int .u32 0,.int .u64 0,.int .u64 0,.int .u64 0,.int .u64 0,.sl [],.sl [],.bool false]:=rfl
theorem af1 {f:Fd} (h1:f.da.length%4=0) (h2:12≤f.da.length):gO f=f:=by
  unfold gO cx;rw[show max 16 ((f.da.length+7) / 4*4)-4-f.da.length=0 by omega,aro,ap7]
theorem HN {l:List Fd} (h:∀ f∈l,f.da.length%4=0∧12≤f.da.length):l.map gO=l:=by
  conv=>rhs; rw[← List.map_id l]
  exact aqu fun f hf=>af1 (h f hf).1 (h f hf).2
theorem Q4 {u c:List UInt8} (hu:u.length=32) (hc:c.length=104) (k:Nat):(cd u c k).map gO=cd u c k:=HN fun f hf=>by
  rcases BP hf with rfl | rfl | rfl
  ·exact⟨by show u.length%4=0; omega,by show 12≤u.length; omega⟩
  ·exact⟨by show c.length%4=0; omega,by show 12≤c.length; omega⟩
  ·exact⟨by rw[yW],by rw[yW]; decide⟩
theorem aoh {key u c n:List UInt8} {t k:Nat} (ht:t<18446744073709551616) (h1:key.length=32) (hu:u.length=32) (hc:c.length=104) (hn:n.length=16) (hk:k≤8):gW key (d9 key ⟨ft t,cd u c k,[],false⟩ n)=0∧gX key (d9 key ⟨ft t,cd u c k,[],false⟩ n)=⟨ft t,cd u c k,[],true⟩:=by
  obtain⟨ok,_⟩:=Ki (t:=t) h1 hu hc hn hk;obtain⟨_,_,o1,o2⟩:=HL (Kh ht) ok;refine⟨o1,o2.trans ?_⟩
  show (⟨ft t,(cd u c k).map gO,[].map gO,true⟩:dq)=_
  rw[Q4 hu hc]; rfl
def dr (cs:List (List UInt8)):List Fd:=cs.map fun c=>⟨516,c⟩
theorem UM (cs:List (List UInt8)):du (dr cs)=cs:=by
  unfold du dr
  induction cs with
  | nil=>rfl
  | cons c cs ih =>
    rw[apW,arR (by simp),apW,ih]
theorem HO (cs:List (List UInt8)):(dr cs).length=cs.length:=ap1 _
theorem HP {cs:List (List UInt8)} {f:Fd} (h:f∈dr cs):f.ty=516∧f.da∈cs:=by
  obtain⟨c,hc,rfl⟩:=aqa.1 h;exact⟨rfl,hc⟩
theorem Q5 {cs:List (List UInt8)} (h:∀ c∈cs,c.length=104):cT (dr cs)=108*cs.length:=by
  induction cs with
  | nil=>rfl
  | cons c cs ih =>
    have h1:=h c (aqj ..);have ih:=ih fun x hx=>h x (aqf _ hx)
    have e:dr (c::cs)=[⟨516,c⟩]++dr cs:=rfl;have e1:cT [⟨516,c⟩]=108:=by
      unfold cT cx;simp[h1]
    rw[e,x9,ih,e1,aqx]; omega
theorem aoi {cs:List (List UInt8)} (h:∀ c∈cs,c.length=104) (hl:cs.length≤8):dh (dr cs)=0:=by
  refine yU (fun f hf=>?_) (by rw[HO]; omega) (by rw[Q5 h]; omega);obtain⟨h1,h2⟩:=HP hf;exact yX (by rw[h1]; decide) (by rw[h1]; decide) (by rw[h _ h2]; decide)
theorem af2 {cs:List (List UInt8)} (h:∀ c∈cs,c.length=104):(dr cs).map gO=dr cs:=HN fun f hf=>by
  rw[h _ (HP hf).2]; decide
theorem UN {key u n:List UInt8} {h:Hd} {cs:List (List UInt8)} (h1:key.length=32) (hu:u.length=32) (hn:n.length=16) (hh:jw h=0) (hF:sW h) (hc:∀ c∈cs,c.length=104) (hl:cs.length≤8) :
    gV key ⟨h,[⟨260,u⟩],dr cs,false⟩ n=0∧(d9 key ⟨h,[⟨260,u⟩],dr cs,false⟩ n).length=124+108*cs.length∧gW key (d9 key ⟨h,[⟨260,u⟩],dr cs,false⟩ n)=0∧gX key (d9 key ⟨h,[⟨260,u⟩],dr cs,false⟩ n)=⟨h,[⟨260,u⟩],dr cs,true⟩:=by
  have eu:dh [(⟨260,u⟩:Fd)]=0:=yU (fun f hf=>by
    rw[apY.1 hf];exact yX (show (0:Int)≤260 by decide) (show (260:Int)≤65535 by decide) (by show u.length≤_; omega)) (show 1≤24 by decide) (by unfold cT cx; simp[hu])
  have tu:cT [(⟨260,u⟩:Fd)]=36:=by unfold cT cx; simp[hu]
  have ts:=Q5 hc;have es:=aoi hc hl;have un:eS ⟨h,[⟨260,u⟩],dr cs,false⟩=0:=by
    unfold eS;rw[if_pos hh]; exact eu
  have ha:dB key [eG ⟨h,[⟨260,u⟩],dr cs,false⟩,n] ((bQ (dr cs)).length:Int)=0:=CB h1 (by rw[rQ,tu]; decide) (by omega) (by rw[jz,ts]; omega);have hs:(ie key ⟨h,[⟨260,u⟩],dr cs,false⟩ n).length=16+108*cs.length:=by
    unfold ie;rw[nS ha,apS,kZ,lQ]
    show 16+(bQ (dr cs)).length=_
    rw[jz,ts]
  have hg:=vE n (ie key ⟨h,[⟨260,u⟩],dr cs,false⟩ n);have hT:cx (cQ key ⟨h,[⟨260,u⟩],dr cs,false⟩ n)=40+108*cs.length:=by
    unfold cQ;rw[wq (by omega),hg,hs]; omega
  have no:bP [(⟨260,u⟩:Fd)] 1028=[]:=Tq fun f hf=>by
    rw[apY.1 hf];exact show (260:Int)≠1028 by decide
  have ok:wZ key ⟨h,[⟨260,u⟩],dr cs,false⟩ n:=⟨h1,by omega,by omega,un,es,by rw[show bP [(⟨260,u⟩:Fd)] 1028=[] from no]; rfl,show 1≤23 by decide,UH (by omega) (by unfold cQ at hT; rw[wq (by omega)] at hT; omega),by rw[hT,tu]; omega⟩
  have hx:cT [cQ key ⟨h,[⟨260,u⟩],dr cs,false⟩ n]=40+108*cs.length:=by unfold cT; simp[hT]
  obtain⟨_,_,o1,o2⟩:=HL hF ok;refine⟨(yV ok).1,?_,o1,o2.trans ?_⟩
  ·rw[(yV ok).2,apS,rQ,jz,hx,tu]; omega
  ·show (⟨h,[⟨260,u⟩].map gO,(dr cs).map gO,true⟩:dq)=_
   rw[af2 hc,HN fun f hf=>?_];rw[apY.1 hf];exact⟨by show u.length%4=0; omega,by show 12≤u.length; omega⟩
theorem Q6 {j:Jr} {u b:List UInt8} {h:Hd} {cs:List (List UInt8)} (v:fE j) (hu:u.length=32) (hm:h.md=4) (hc:∀ c∈cs,c.length=104) (o1:gW j.dn b=0) (o2:gX j.dn b=⟨h,[⟨260,u⟩],dr cs,true⟩) :
    jh j u b=0∧xz j u b=xy j cs∧xA j u b=⟨h,[⟨260,u⟩],dr cs,true⟩∧∀ w:List UInt8,w.length=32→w≠u→jh j w b=7:=by
  have key:∀ w:List UInt8,w.length=32→jh j w b=if (u==w)=false then 7 else 0:=fun w hw=>by
    have hU:rA w b (gX j.dn b)=(u==w):=by
      rw[o2]; rfl
    unfold jh;rw[if_neg (fun h=>h.elim (· v) (· hw)),if_neg (not_not_intro o1),if_neg (by rw[o2]; exact not_not_intro hm),hU,o2]
    show (if (u==w)=false then (7:Int) else if gJ (du (dr cs))=true then 0 else 3)=_
    rw[UM,if_pos (oS.2 hc)]
  have e:jh j u b=0:=by rw[key u hu,if_neg (by simp)]
  refine⟨e,(if_pos e).trans ?_,(if_pos e).trans o2,fun w hw hne=>?_⟩
  ·rw[o2]
   show xy j (du (dr cs))=_
   rw[UM]
  ·rw[key w hw,if_pos (beq_eq_false_iff_ne.2 fun h=>hne h.symm)]
theorem HQ {la:List UInt8}:∀ {cs l:List (List UInt8)},(l++cs).Nodup→la∉cs→l.length≤8→eJ la l cs=(l++cs).take 8
  | [],l,_,_,h8=>by
    rw[ap7,apX h8]; rfl
  | c::cs,l,hn,hl,h8=>by
    have e:l++c::cs=(l++[c])++cs:=by rw[ap6]; rfl
    have hc:inL l c=false:=vU.2 fun h=>by
      obtain⟨_,_,h3⟩:=ara.1 hn;exact h3 c h c (aqj ..) rfl
    have hla:(la==c)=false:=beq_eq_false_iff_ne.2 fun h=>hl (by rw[h]; exact aqj ..)
    have hl2:la∉cs:=fun h=>hl (aqf _ h)
    show eJ la (pY la l c) cs=_
    unfold pY zK;rw[hc,hla];by_cases h:l.length<8
    ·rw[if_pos (by rw[decide_eq_true h]; rfl),HQ (by rw[← e]; exact hn) hl2 (by rw[apS,aqw]; omega),e]
    ·rw[if_neg (by rw[decide_eq_false h]; decide)];have hd:(l++cs).Nodup:=by
       rw[e] at hn;exact hn.sublist ((arc l [c]).append_right cs)
     rw[HQ hd hl2 h8,aqK (by omega),aqK (by omega)]
theorem O1 {la:List UInt8} {l:List (List UInt8)} (h:8≤l.length):∀ cs,eJ la l cs=l
  | []=>rfl
  | c::cs=>by
    have e:pY la l c=l:=if_neg (by
      unfold zK;rw[decide_eq_false (by omega),Bool.and_false,Bool.and_false]; decide)
    show eJ la (pY la l c) cs=l
    rw[e];exact O1 h cs
theorem ach {la:List UInt8} {l cs:List (List UInt8)} {i:Nat} (h:(eJ la l (cs.take i)).length=8):eJ la l cs=eJ la l (cs.take i):=by
  have e:eJ la l cs=eJ la (eJ la l (cs.take i)) (cs.drop i):=by
    unfold eJ;rw[← List.foldl_append,aqq]
  rw[e];exact O1 (by omega) _
theorem UO {j:Jr} (v:fE j) (h:j.ck.length≠0) (hs:j.sn≠1099511627776):jg j=0∧fE (kn j):=by
  refine⟨by unfold jg; rw[if_neg (not_not_intro v),if_neg h,if_neg hs],?_⟩;obtain⟨⟨a1,a2,a3,a4,a5,a6,a7,a8⟩,b,c⟩:=yu.1 v;obtain⟨up,dn,ck,la,nw,sn⟩:=j
  match ck,h with
  | x::r,_ =>
    have c:=arB.1 c;refine yu.2 ⟨⟨a1,a2,?_,.inr (b x (aqj ..)),vU.2 c.1,a6,?_,?_⟩,fun y hy=>b y (aqf _ hy),c.2⟩
    ·have a3:r.length+1≤8:=a3
     show r.length≤8
     omega
    ·have a7:0≤sn:=a7
     show 0≤sn+1
     omega
    ·have a8:sn≤1099511627776:=a8;have hs:sn≠1099511627776:=hs
     show sn+1≤1099511627776
     omega
def s6 (up dn:List UInt8):Prop:=up.length=32∧dn.length=32
instance (up dn:List UInt8):Decidable (s6 up dn):=by unfold s6; infer_instance
def CE:aO:=⟨1,13,ae [cX 1 0,bG 2 false] (ae [aL 3 0 1,aA 4 3,bd 5 4,ak .eql 6 5 32,oM 7 6,dF 8 1 1 7 true,dt 9 8 7 true,eY 10 9 7 true,cC .eql 11 10 32 7 true,ek 12 7 11,oM 2 12] .ret),[(2,none)]⟩
theorem ak0:aM Tryz.prog {} Tryz.f29=some CE:=by kernel_rfl
theorem UP (G:au) (up dn:List UInt8):aF Tryz.prog G 29 [.agg [.sl (up.map bD),.sl (dn.map bD)]] (.w (.c (.d (.bool (decide (s6 up dn)))))):=by
  refine aX Tryz.func29 ak0 rfl rfl ?_;by_cases h1:up.length=32
  ·have g1:((up.length:Int)=32)=True:=eq_true (by omega);by_cases h2:dn.length=32
   ·have g2:((dn.length:Int)=32)=True:=eq_true (by omega);rw[decide_eq_true (show s6 up dn from ⟨h1,h2⟩)];simp only[CE,ai,af,seval,g1,g2];exact aZ
   ·have g2:((dn.length:Int)=32)=False:=eq_false (by omega);rw[decide_eq_false (show ¬ s6 up dn from fun h=>h2 h.2)];simp only[CE,ai,af,seval,g1,g2];exact aZ
  ·have g1:((up.length:Int)=32)=False:=eq_false (by omega);rw[decide_eq_false (show ¬ s6 up dn from fun h=>h1 h.1)];simp only[CE,ai,af,seval,g1];exact aZ
def I6:aO:=⟨1,6,ae [bG 2 false] (ae [oM 3 0,bd 4 3,ak .eql 5 4 104,oM 2 5] .ret),[(2,none)]⟩
theorem ak1:aM Tryz.prog {} Tryz.f79=some I6:=by kernel_rfl
theorem Kl (G:au) (b:List UInt8):aF Tryz.prog G 79 [.sl (b.map bD)] (.w (.c (.d (.bool (b.length==104))))):=by
  refine aX Tryz.func79 ak1 rfl rfl ?_;by_cases h1:b.length=104
  ·have g1:((b.length:Int)=104)=True:=eq_true (by omega);rw[beq_iff_eq.2 h1];simp only[I6,ai,af,seval,g1];exact aZ
  ·have g1:((b.length:Int)=104)=False:=eq_false (by omega);rw[beq_eq_false_iff_ne.2 h1];simp only[I6,ai,af,seval,g1];exact aZ
def Dq (l:List (List UInt8)) (i:Nat):St:=⟨bw [(5,.w (.c (.d (.sl (l.map fun x=>D.sl (x.map bD)))))),(6,.w (.c (.d (.int .i64 (l.length:Int))))),(7,.w (.c (.d (.int .i64 (i:Int)))))],hL [],uL []⟩
def A8:bp := ae [aU .lss 8 7 6] (.seq (ar 8 .skip (.exit 0)) (.seq (.block 1 (ae [bU 9 1 5 7,aA 10 9,oM 4 10] (ae [oM 11 4,aY 12 79 11,cW 13 12] (ar 13 (ae [bG 2 false] .ret) .skip)))) (.reg [ak .add 14 7 1,oM 7 14])))
def Ts:aO:=⟨1,15,ae [bG 2 false] (.seq (ae [oM 5 0,bd 6 5,am 7 0] (.block 0 (.loop A8))) (ae [bG 2 true] .ret)),[(2,none)]⟩
theorem ak2:aM Tryz.prog {} Tryz.f30=some Ts:=by kernel_rfl
theorem UQ (G:au) (l:List (List UInt8)) (hl:l.length≤9000000000000000000):aF Tryz.prog G 30 [.sl (l.map fun x=>D.sl (x.map bD))] (.w (.c (.d (.bool (gJ l))))):=by
  refine aX Tryz.func30 ak2 rfl rfl ?_;simp only[Ts,ai,af,seval];refine bO (Dq l) (fun i=>l.length-i) (fun i=>i≤l.length∧gJ (l.take i)=true) 0 ⟨apZ _,rfl⟩ ?_ ?_
  ·refine aR (fun _=>0) ?_ ?_ rfl rfl <;> simp only[wx,aH,seval] <;> first | rfl | exact⟨rfl,rfl⟩ | skip
  ·rintro i ⟨hi,hp⟩;by_cases hlt:i<l.length
   ·have g:=xx hlt;have hs:=afY hlt hp;have hm:=uC hlt;have no:gJ l=true→(l.getD i []).length=104:=fun h=>oS.1 h _ hm
    clear hm;generalize l.getD i []=x at *
    have c1:=Kl G x;by_cases hx:x.length=104
    ·rw[beq_iff_eq.2 hx] at c1;have hs:=hs hx;simp only[A8,Dq,af,seval,iteOmega,toNatUp,bc,g];refine sD (c1) ?_;refine bA (i+1) (by omega) ⟨by omega,hs⟩ (aR (fun i=>i) ?_ ?_ rfl rfl) <;> simp only[wx,aH,aV,seval] <;> first | rfl | exact⟨rfl,rfl⟩ | skip
    ·rw[beq_eq_false_iff_ne.2 hx] at c1;have e:gJ l=false:=by
       cases h:gJ l
       ·rfl
       ·exact absurd (no h) hx
     rw[e];simp only[A8,Dq,af,seval,iteOmega,toNatUp,bc,g];refine sD (c1) ?_;exact aZ
   ·obtain rfl:i=l.length:=by omega
    rw[aqy] at hp;rw[hp];simp only[A8,Dq,af,seval,iteOmega];exact aZ
def Tt:aO:=⟨2,7,ae [bG 3 false] (ae [oM 4 0,aA 5 1,ct 6 81 4 5,oM 3 6] .ret),[(3,none)]⟩
theorem ak3:aM Tryz.prog {} Tryz.f124=some Tt:=by kernel_rfl
theorem aoj (G:au) (c x:List UInt8):oo Tryz.prog G 124 [.ref [.sl (c.map bD)]] [.sl (x.map bD)] (.w (.c (.d (.bool (x==c))))):=by
  refine⟨enters_of Tryz.func124 (by kernel_rfl) rfl,?_⟩;refine M3 Tryz.func124 ak3 rfl rfl ?_;have c1:=rV G x c;simp only[Tt,aqE,aqz,apW,ap4,D.up,iM,af,seval];refine sD (c1) ?_;exact aZ
def Tu:aO:=⟨2,8,ae [cX 3 1,bG 4 false] (ae [oM 5 0,oO 6 (.clos 124 [(.t 3)]),ct 7 123 5 6,oM 4 7] .ret),[(4,none)]⟩
theorem ak4:aM Tryz.prog {} Tryz.f80=some Tu:=by kernel_rfl
theorem Km (G:au) (l:List (List UInt8)) (c:List UInt8) (hl:l.length≤9000000000000000000):aF Tryz.prog G 80 [.sl (l.map fun x=>D.sl (x.map bD)),.sl (c.map bD)] (.w (.c (.d (.bool (inL l c))))):=by
  refine aX Tryz.func80 ak4 rfl rfl ?_;have c1:=RX G l 124 [.ref [.sl (c.map bD)]] (fun x=>x==c) (by omega) (fun x _=>aoj G c x);rw[show l.any (fun x=>x==c)=inL l c from rfl] at c1;simp only[Tu,ai,af,seval];refine sD (c1) ?_;exact aZ
def zL (j:Jr) (n i:Nat):List (Nat×V):=[(1,.w (.c (.ptr 1 1 0 0))),(2,.w (.c (.ptr 3 1 0 0))),(3,.w (.c (.own 2 1 0 n))),(25,.w (.c (.d (.sl (j.ck.map fun l=>D.sl (l.map bD)))))),(26,.w (.c (.d (.int .i64 (j.ck.length:Int))))),(27,.w (.c (.d (.int .i64 (i:Int)))))]
def Dr (j:Jr) (i:Nat):St:=⟨bw (zL j (j.ck.take i).length i),hL [(1,ii j (.d (.sl (j.ck.map fun l=>D.sl (l.map bD))))),(2,.row 1 ((j.ck.take i).map fun l=>D.sl (l.map bD))),(3,ig)],uL [1,2,3]⟩
def GH:bp := ae [aU .lss 28 27 26] (.seq (ar 28 .skip (.exit 0)) (.seq (.block 1 (ae [bU 29 1 25 27,aA 30 29,oM 5 30] (.reg [oM 31 3,oM 32 5,oO 33 (.bldSl false 1 1 (.sl []) [(0,(.t 32))]),aY 34 35 33,oO 35 (.bldSl false 1 1 (.sl []) [(0,(.t 34))]),oO 36 (.app false 1 24 (.t 31) (.t 35)),oM 3 36]))) (.reg [ak .add 37 27 1,oM 27 37])))
def Tv:aO:=⟨1,41,ae [oO 1 (.box .ownBox (.t 0)),oO 2 (.alloc [.nil,.nil,.nil,.nil,ah,ah])] (ae [aL 6 0 1,aL 7 0 6,aA 8 7,oO 9 (.bldSl false 1 1 (.sl []) [(0,(.t 8))]),aY 10 35 9,aL 11 0 1,aL 12 1 11,aA 13 12,oO 14 (.bldSl false 1 1 (.sl []) [(0,(.t 13))]),aY 15 35 14,oO 16 (.build [.nil,.nil] [(0,1,(.t 10)),(1,1,(.t 15))]),aL 17 0 1,aS 2 17 16] (ae [aL 18 3 1,aA 19 18,oO 20 (.bldSl false 1 1 (.sl []) [(0,(.t 19))]),aY 21 35 20,aL 22 3 1,d6 22 21] (ae [oO 23 (.make true 1 24 (.sl []) (kI 0) (kI 8)),oM 3 23] (.seq (ae [aL 24 2 1,aA 25 24,bd 26 25,am 27 0] (.block 0 (.loop GH))) (ae [oM 38 3,aL 39 2 1,d6 39 38] (ae [bn 40 6 1,aS 6 2 40] .ret)))))),[(2,(some (.ag 6)))]⟩
theorem ak5:aM Tryz.prog { own:=[1] } Tryz.f32=some Tv:=by kernel_rfl
theorem Kn (G:au) (j:Jr) (h1:j.up.length≤140737488355328) (h2:j.dn.length≤140737488355328) (h3:j.la.length≤140737488355328) (h4:∀ c∈j.ck,c.length≤140737488355328) (h5:j.ck.length≤1000000):aF Tryz.prog G 32 [eb j] (.w (.mix (EC j))):=by
  refine aX Tryz.func32 ak5 rfl rfl ?_;have c1:=dT G [j.up] (by simp) (by simp; omega);have c2:=dT G [j.dn] (by simp) (by simp; omega);have c3:=dT G [j.la] (by simp) (by simp; omega);simp only[apW,ap4,aqD,aqF,ap7] at c1 c2 c3;unfold eb;simp only[Tv,ai,af,seval];refine sD (c1) ?_;refine sD (c2) ?_;refine sD (c3) ?_;refine bO (Dr j) (fun i=>j.ck.length-i) (fun i=>i≤j.ck.length) 0 (apZ _) ?_ ?_
  ·refine aR (fun i=>if i=1 then 8 else if i=2 then 184 else 16) ?_ ?_ rfl rfl <;> simp only[zL,ii,ig,wx,aH,seval] <;> first | rfl | exact⟨rfl,rfl⟩ | skip
  ·intro i hi;clear c1 c2 c3;by_cases hlt:i<j.ck.length
   ·have g:=xx hlt;have hs:=Lj hlt;have hm:=h4 _ (uC hlt);have tl:(j.ck.take i).length=i:=by rw[ap0]; omega
    have az:=mq (j.ck.take i);generalize j.ck.getD i []=x at *
    have c4:=dT G [x] (by simp) (by simp; omega);simp only[apW,ap4,aqD,aqF,ap7] at c4;simp only[GH,Dr,zL,ii,ig,af,seval,iteOmega,toNatUp,bc,g,tl];refine sC (c4) ?_;simp only[cg,tl,af,seval,iteOmega];refine bA (i+1) (by omega) (by omega) (aR (fun i=>if i=1 then 1 else if i=2 then 288 else 3) ?_ ?_ rfl rfl) <;> simp only[zL,ii,ig,hs,apS,ap8,tl,wx,aH,aV,seval] <;> first | rfl | exact⟨rfl,rfl⟩ | skip
   ·obtain rfl:i=j.ck.length:=by omega
    have hk:j.ck.take j.ck.length=j.ck:=aqy;have az:=mq j.ck;simp only[GH,Dr,zL,ii,ig,hk,af,aa,seval,iteOmega];exact akW (k:=.own 2 1 0 j.ck.length) (by simp only[af,seval] <;> rfl) ⟨rfl,rfl,by simp only[af,seval,iteOmega,hk]⟩ (by simp[C.ids])
theorem aok (G:au) (j:Jr) (h1:j.up.length≤140737488355328) (h2:j.dn.length≤140737488355328) (h3:j.la.length≤140737488355328) (h4:∀ c∈j.ck,c.length≤140737488355328) (h5:j.ck.length≤1000000):aF Tryz.prog G 32 [eb j] (.w (.c (.d (eb j)))):=afX rfl (Kn G j h1 h2 h3 h4 h5)
set_option maxHeartbeats 6400000
def tY (j:Jr) (i:Nat):St:=⟨bw [(1,.w (.c (.rp (dv j)))),(35,.w (.c (.d (.sl (j.ck.map fun l=>D.sl (l.map bD)))))),(36,.w (.c (.d (.int .i64 (j.ck.length:Int))))),(37,.w (.c (.d (.int .i64 (i:Int)))))],hL [],uL []⟩
def tm:bp := ae [aU .lss 38 37 36] (.seq (ar 38 .skip (.exit 0)) (.seq (.block 1 (ae [oM 39 37,bU 40 1 35 37,aA 41 40,oM 3 39,oM 4 41] (ae [aL 42 2 1,aA 43 42,oM 44 3,oO 45 (.slice 1 (.t 43) none (some (.t 44)) none),oM 46 4,ct 47 80 45 46] (ar 47 (ae [bG 2 false] .ret) .skip)))) (.reg [ak .add 48 37 1,oM 37 48])))
def rZ:aO:=⟨1,66,ae [cX 1 0,bG 2 false] (.seq (ae [aL 5 0 1,bn 6 2 5,aY 7 29 6,cW 8 7,oM 9 8,dF 10 4 1 9 false,dt 11 10 9 false,cC .lss 12 11 0 9 false,cv 13 9 12,oM 14 13,dF 15 5 1 14 false,dt 16 15 14 false,cC .lss 17 16 0 14 false,cv 18 14 17,oM 19 18,dF 20 5 1 19 false,dt 21 20 19 false,cC .gtr 22 21 1099511627776 19 false,cv 23 19 22] (ar 23 (ae [bG 2 false] .ret) .skip)) (.seq (ae [aL 24 2 1,aA 25 24,bd 26 25,ak .gtr 27 26 8,oM 28 27,dF 29 2 1 28 false,dt 30 29 28 false,oG 31 (.call 30 [(.t 30)] none) 28 false,gn 32 31 28 false,cv 33 28 32] (ar 33 (ae [bG 2 false] .ret) .skip)) (.seq (ae [aL 34 2 1,aA 35 34,bd 36 35,am 37 0] (.block 0 (.loop tm))) (ae [aL 49 3 1,aA 50 49,bd 51 50,ak .eql 52 51 0,oM 53 52,dF 54 3 1 53 false,dt 55 54 53 false,
 oG 56 (.call 79 [(.t 55)] none) 53 false,bJ 57 56 53 false,dF 58 2 1 57 true,dt 59 58 57 true,dF 60 3 1 57 true,dt 61 60 57 true,oG 62 (.call 80 [(.t 59),(.t 61)] none) 57 true,gn 63 62 57 true,oG 64 (.pick (.t 57) (.t 63) (.k (.c cD))) 53 false,cv 65 53 64,oM 2 65] .ret)))),[(2,none)]⟩
theorem ak9:aM Tryz.prog {} Tryz.f39=some rZ:=by kernel_rfl
theorem Ds (G:au) (j:Jr):aF Tryz.prog G 39 [eb j] (.w (.c (.d (.bool (decide (fE j)))))):=by
  refine aX Tryz.func39 ak9 rfl rfl ?_;have no:¬ fE j→decide (fE j)=false:=fun h=>decide_eq_false h
  have c1:=UP G j.up j.dn;unfold eb;by_cases h1:s6 j.up j.dn
  ·rw[decide_eq_true h1] at c1;by_cases h2:j.nw<0
   ·have g2:(j.nw<0)=True:=eq_true h2;rw[no (fun h=>by have:=h.1.2.2.2.2.2.1; omega)];simp only[rZ,ai,af,seval];refine sC (c1) ?_;simp only[g2,af,seval];exact aZ
   ·have g2:(j.nw<0)=False:=eq_false h2;by_cases h3:j.sn<0
    ·have g3:(j.sn<0)=True:=eq_true h3;rw[no (fun h=>by have:=h.1.2.2.2.2.2.2.1; omega)];simp only[rZ,ai,af,seval];refine sC (c1) ?_;simp only[g2,g3,af,seval];exact aZ
    ·have g3:(j.sn<0)=False:=eq_false h3;by_cases h4:1099511627776<j.sn
     ·have g4:(j.sn>1099511627776)=True:=eq_true h4;rw[no (fun h=>by have:=h.1.2.2.2.2.2.2.2; omega)];simp only[rZ,ai,af,seval];refine sC (c1) ?_;simp only[g2,g3,g4,af,seval];exact aZ
     ·have g4:(j.sn>1099511627776)=False:=eq_false h4;by_cases h5:8<j.ck.length
      ·have g5:((j.ck.length:Int)>8)=True:=eq_true (by omega);rw[no (fun h=>by have:=h.1.2.2.1; omega)];simp only[rZ,ai,af,seval];refine sC (c1) ?_;simp only[g2,g3,g4,g5,af,seval];exact aZ
      ·have g5:((j.ck.length:Int)>8)=False:=eq_false (by omega);have c2:=UQ G j.ck (by omega);by_cases h6:gJ j.ck=true
       ·rw[h6] at c2;have a4:=oS.1 h6;simp only[rZ,ai,af,seval];refine sC (c1) ?_;simp only[g2,g3,g4,g5,af,seval];refine sD (c2) ?_;refine bO (tY j) (fun i=>j.ck.length-i) (fun i=>i≤j.ck.length∧∀ k,k<i→s5 j.ck k) 0 ⟨apZ _,fun k hk=>by omega⟩ ?_ ?_
        ·refine aR (fun _=>0) ?_ ?_ rfl rfl <;> simp only[dv,wx,aH,seval] <;> first | rfl | exact⟨rfl,rfl⟩ | skip
        ·clear c1 c2 g2 g3 g4 g5 h6;rintro i ⟨hi,hp⟩;by_cases hlt:i<j.ck.length
         ·have g:=xx hlt;have m4:=a4 _ (uC hlt);have hno:¬ s5 j.ck i→decide (fE j)=false:=fun h=>decide_eq_false fun v=>h (v.2 i hlt)
          have hgo:s5 j.ck i→∀ k,k<i+1→s5 j.ck k:=fun a k hk=>by
            rcases aqk k i with h | h
            ·exact hp k h
            ·obtain rfl:k=i:=by omega
             exact a
          have az:=mq j.ck;have c3:=Km G (j.ck.take i) (j.ck.getD i []) (by rw[ap0]; omega);cases hq:inL (j.ck.take i) (j.ck.getD i [])
          ·have hgo:=hgo ⟨m4,hq⟩;rw[hq] at c3;clear hno hp hq m4 no a4;generalize j.ck.getD i []=x at *
           simp only[tm,tY,dv,af,seval,iteOmega,toNatUp,bc,g,az];refine sD (c3) ?_;refine bA (i+1) (by omega) ⟨by omega,hgo⟩ (aR (fun i=>i) ?_ ?_ rfl rfl) <;> simp only[dv,wx,aH,aV,seval] <;> first | rfl | exact⟨rfl,rfl⟩ | skip
          ·rw[hno (fun h=>by rw[h.2] at hq; cases hq)];rw[hq] at c3;clear hno hp hgo hq m4 no a4;generalize j.ck.getD i []=x at *
           simp only[tm,tY,dv,af,seval,iteOmega,toNatUp,bc,g,az];refine sD (c3) ?_;exact aZ
         ·have hv:(j.la.length=0∨j.la.length=104)→inL j.ck j.la=false→fE j:=fun a b=>⟨⟨h1.1,h1.2,by omega,a,b,by omega,by omega,by omega⟩,fun k hk=>hp k (by omega)⟩
          clear hp;by_cases h7:j.la.length=0
          ·have g7:((j.la.length:Int)=0)=True:=eq_true (by omega);rw[decide_eq_true (hv (.inl h7) (vU.2 fun h=>by have:=a4 _ h; omega))];clear hv no a4;simp only[tm,tY,dv,af,seval,iteOmega,g7];exact aZ
          ·have g7:((j.la.length:Int)=0)=False:=eq_false (by omega);have c4:=Kl G j.la;by_cases h8:j.la.length=104
           ·rw[beq_iff_eq.2 h8] at c4;have c5:=Km G j.ck j.la (by omega);cases hq:inL j.ck j.la
            ·rw[hq] at c5;rw[decide_eq_true (hv (.inr h8) hq)];clear hv no a4 hq;simp only[tm,tY,dv,af,seval,iteOmega,g7];refine sD (c4) ?_;refine sD (c5) ?_;exact aZ
            ·rw[hq] at c5;rw[no (fun h=>by have:=h.1.2.2.2.2.1; rw[hq] at this; cases this)];clear hv no a4 hq;simp only[tm,tY,dv,af,seval,iteOmega,g7];refine sD (c4) ?_;refine sD (c5) ?_;exact aZ
           ·rw[beq_eq_false_iff_ne.2 h8] at c4;rw[no (fun h=>by have:=h.1.2.2.2.1; omega)];clear hv no a4;simp only[tm,tY,dv,af,seval,iteOmega,g7];refine sD (c4) ?_;exact aZ
       ·rw[Bool.not_eq_true] at h6;rw[h6] at c2;rw[no (fun h=>by rw[oS.2 ((yu.1 h).2.1)] at h6; cases h6)];simp only[rZ,ai,af,seval];refine sC (c1) ?_;simp only[g2,g3,g4,g5,af,seval];refine sD (c2) ?_;exact aZ
  ·rw[decide_eq_false h1] at c1;rw[no (fun h=>h1 ⟨h.1.1,h.1.2.1⟩)];simp only[rZ,ai,af,seval];refine sD (c1) ?_;exact aZ
def lM (j:Jr) (id n:Nat):List C:=[.d (.sl (j.up.map bD)),.d (.sl (j.dn.map bD)),.own id 1 0 n,.d (.sl (j.la.map bD)),.d (.int .i64 j.nw),.d (.int .i64 j.sn)]
theorem Dt (g:Nat→Nat) (cs:List C):W.ren g (.mix cs)=.mix (cs.map (C.ren g)):=rfl
def nO (l:List (List UInt8)):List D:=l.map fun x=>D.sl (x.map bD)
def Kp (j:Jr) (cs:List (List UInt8)) (i:Nat):St:=⟨bw [(2,.w (.c (.ptr 1 1 0 0))),(4,.w (.c (.ptr 3 1 0 0))),(7,.w (.c (.d (.sl (cs.map fun l=>D.sl (l.map bD)))))),(8,.w (.c (.d (.int .i64 (cs.length:Int))))),(9,.w (.c (.d (.int .i64 (i:Int)))))],hL [(1,ii j (.own 2 1 0 (eJ j.la j.ck (cs.take i)).length)),(2,.row 1 ((eJ j.la j.ck (cs.take i)).map fun l=>D.sl (l.map bD))),(3,ig)],uL [1,2,3]⟩
def vf:bp := ae [aU .lss 10 9 8] (.seq (ar 10 .skip (.exit 0)) (.seq (.block 1 (ae [bU 11 1 7 9,aA 12 11,oM 6 12] (.seq (ae [aL 13 2 2,aA 14 13,bd 15 14,ak .eql 16 15 8] (ar 16 (.exit 0) .skip)) (ae [aL 17 2 2,aA 18 17,oM 19 6,ct 20 80 18 19,cW 21 20,oM 22 21,dF 23 3 2 22 true,dt 24 23 22 true,bJ 25 6 22 true,oG 26 (.call 81 [(.t 24),(.t 25)] none) 22 true,gn 27 26 22 true,ek 28 22 27] (ar 28 (.reg [aL 29 2 2,aA 30 29,oM 31 6,oO 32 (.bldSl false 1 1 (.sl []) [(0,(.t 31))]),aY 33 35 32,oO 34 (.bldSl false 1 1 (.sl []) [(0,(.t 33))]),oO 35 (.app false 1 24 (.t 30) (.t 34)),aL 36 2 2,d6 36 35]) .skip))))) (.reg [ak .add 37 9 1,oM 9 37])))
def Tw:aO:=⟨2,39,ae [oO 2 (.box .ownBox (.t 0)),oO 4 (.alloc [.nil,.nil,.nil,.nil,ah,ah])] (.seq (ae [oM 7 1,bd 8 7,am 9 0] (.block 0 (.loop vf))) (ae [bn 38 6 2,aS 6 4 38] .ret)),[(4,(some (.ag 6)))]⟩
theorem ala:aM Tryz.prog { own:=[2] } Tryz.f31=some Tw:=by kernel_rfl
theorem UU (G:au) (j:Jr) (cs:List (List UInt8)) (v3:j.ck.length≤8) (m4:∀ c∈cs,c.length≤140737488355328) (hcs:cs.length≤9000000000000000000) :
    kL Tryz.prog G 31 [.mix (lM j 1 j.ck.length),.c (.d (.sl (nO cs)))] [(1,.row 1 (nO j.ck))] (.w (.mix (lM j 3 (eJ j.la j.ck cs).length))) [(3,.row 1 (nO (eJ j.la j.ck cs)))]:=by
  refine uQ Tryz.func31 ala [] rfl rfl rfl rfl rfl rfl rfl ?_;unfold lM nO;simp only[Tw,iM,af,seval];refine bO (Kp j cs) (fun i=>cs.length-i) (fun i=>i≤cs.length) 0 (apZ _) ?_ ?_
  ·refine aR (fun i=>if i=1 then 16 else if i=2 then 1 else 32) ?_ ?_ rfl rfl <;> simp only[arb,eJ,arz,ii,ig,wx,aH,seval] <;> first | rfl | exact⟨rfl,rfl⟩ | skip
  ·intro i hi;have L8:=afN (la:=j.la) (l:=j.ck) (cs.take i) v3;have stop:=fun h=>ach (la:=j.la) (l:=j.ck) (cs:=cs) (i:=i) h
   by_cases hlt:i<cs.length
   ·have g:=xx hlt;have hn:eJ j.la j.ck (cs.take (i+1))=pY j.la (eJ j.la j.ck (cs.take i)) (cs.getD i []):=by rw[Lj hlt,ace]
    have m4:=m4 _ (uC hlt);have az:=mq (eJ j.la j.ck (cs.take i));unfold pY zK at hn;have e2:Kp j cs i=⟨bw [(2,.w (.c (.ptr 1 1 0 0))),(4,.w (.c (.ptr 3 1 0 0))),(7,.w (.c (.d (.sl (cs.map fun l=>D.sl (l.map bD)))))),(8,.w (.c (.d (.int .i64 (cs.length:Int))))),(9,.w (.c (.d (.int .i64 (i:Int)))))],hL [(1,ii j (.own 2 1 0 (eJ j.la j.ck (cs.take i)).length)),(2,.row 1 ((eJ j.la j.ck (cs.take i)).map fun l=>D.sl (l.map bD))),(3,ig)],uL [1,2,3]⟩:=rfl;rw[e2];clear e2;generalize eJ j.la j.ck (cs.take i)=L at *
    generalize cs.getD i []=x at *
    by_cases h8:L.length=8
    ·have g8:((L.length:Int)=8)=True:=eq_true (by omega);rw[stop h8];simp only[vf,ii,ig,lg,af,aa,seval,iteOmega,toNatUp,bc,g,g8];refine si [(3,2)] [] (ws:=[.mix (lM j 2 L.length)]) ?_ rfl ?_ rfl trivial ⟨by simp,fun id h h1=>by simp at h h1; omega⟩
     ·simp only[bE,lM,af,seval] <;> rfl
     ·simp only[kQ,wx,seval,dc]
    ·have g8:((L.length:Int)=8)=False:=eq_false (by omega);have h8':L.length<8:=by omega
     have c3:=Km G L x (by omega);have c4:=rV G j.la x;have c5:=dT G [x] (by simp) (by simp; omega);simp only[apW,ap4,aqD,aqF,ap7] at c5;clear stop;cases q1:inL L x
     ·rw[q1] at c3;cases q2:j.la==x
      ·rw[q2] at c4;rw[if_pos (by rw[q1,q2,decide_eq_true h8']; rfl)] at hn;simp only[vf,ii,ig,af,seval,iteOmega,toNatUp,bc,g,g8];refine bM c3 (by simp only[af,seval,iteOmega]) (.inr rfl) ?_;simp only[af,seval];refine sC (c4) ?_;simp only[af,seval];refine sC (c5) ?_;simp only[cg,af,aa,seval,iteOmega];refine bA (i+1) (by omega) (by omega) (aR (fun i=>if i=1 then 1 else if i=2 then 280 else 3) ?_ ?_ rfl rfl) <;> simp only[hn,ap8,ii,ig,wx,aH,aV,seval] <;> first | rfl | exact⟨rfl,rfl⟩ | skip
      ·rw[q2] at c4;rw[if_neg (by rw[q1,q2]; simp)] at hn;simp only[vf,ii,ig,af,seval,iteOmega,toNatUp,bc,g,g8];refine bM c3 (by simp only[af,seval,iteOmega]) (.inr rfl) ?_;simp only[af,seval];refine sD (c4) ?_;refine bA (i+1) (by omega) (by omega) (aR (fun i=>i) ?_ ?_ rfl rfl) <;> simp only[hn,ii,ig,wx,aH,aV,seval] <;> first | rfl | exact⟨rfl,rfl⟩ | skip
     ·rw[q1] at c3;rw[if_neg (by rw[q1]; simp)] at hn;simp only[vf,ii,ig,af,seval,iteOmega,toNatUp,bc,g,g8];refine bM c3 (by simp only[af,seval,iteOmega]) (.inr rfl) ?_;simp only[af,seval,iteOmega];refine bA (i+1) (by omega) (by omega) (aR (fun i=>i) ?_ ?_ rfl rfl) <;> simp only[hn,ii,ig,wx,aH,aV,seval] <;> first | rfl | exact⟨rfl,rfl⟩ | skip
   ·obtain rfl:i=cs.length:=by omega
    have hk:cs.take cs.length=cs:=aqy;have az:=mq (eJ j.la j.ck cs);simp only[vf,Kp,ii,ig,lg,hk,af,aa,seval,iteOmega];refine si [(3,2)] [] (ws:=[.mix (lM j 2 (eJ j.la j.ck cs).length)]) ?_ rfl ?_ rfl trivial ⟨by simp,fun id h h1=>by simp at h h1; omega⟩
    ·simp only[bE,lM,af,seval] <;> rfl
    ·simp only[kQ,wx,seval,dc]
def yY:aO:=⟨1,39,ae [cX 1 0,oO 2 (.alloc [.nil,.nil,.nil,.nil,ah,ah]),aQ 3,am 4 0] (.seq (ae [bn 6 6 1,aY 7 39 6,cW 8 7] (ar 8 (ae [oO 9 (.build [.nil,.nil,.nil,.nil,ah,ah] []),aS 6 2 9,aQ 3,am 4 3] .ret) .skip)) (.seq (ae [aL 10 2 1,aA 11 10,bd 12 11,ak .eql 13 12 0] (ar 13 (ae [oO 14 (.build [.nil,.nil,.nil,.nil,ah,ah] []),aS 6 2 14,aQ 3,am 4 10] .ret) .skip)) (.seq (ae [aL 15 5 1,aA 16 15,ak .eql 17 16 1099511627776] (ar 17 (ae [oO 18 (.build [.nil,.nil,.nil,.nil,ah,ah] []),aS 6 2 18,aQ 3,am 4 7] .ret) .skip)) (ae [bn 19 6 1,aY 20 32 19,oO 5 (.alloc [.nil,.nil,.nil,.nil,ah,ah]),aS 6 5 20] (ae [aL 21 2 5,aA 22 21,oO 23 (.idxSl 1 (.t 22) (kI 0)),aA 24 23,aL 25 2 5,aA 26 25,oO 27 (.slice 1 (.t 26) (some (kI 1)) none none),aL 28 3 5,
 d6 28 24,aL 29 2 5,d6 29 27] (ae [aL 30 5 5,aA 31 30,ak .add 32 31 1,aL 33 5 5,d6 33 32] (ae [bn 34 6 5,aL 35 3 5,aA 36 35,oO 37 (.bldSl false 1 1 (.sl []) [(0,(.t 36))]),oO 38 (.call 35 [(.t 37)] (some (0,1))),aS 6 2 34,oM 3 38,am 4 0] .ret))))))),[(2,(some (.ag 6))),(3,none),(4,none)]⟩
theorem alb:aM Tryz.prog { own:=[38] } Tryz.f40=some yY:=by kernel_rfl
theorem aon (G:au) (j:Jr):aF Tryz.prog G 40 [eb j] (.tup [.c (.d (eb (Ew j))),.c (.d (.sl ((Ex j).map bD))),.c (.d (.int .i64 (jg j)))]):=by
  refine aX Tryz.func40 alb rfl rfl ?_;have c1:=Ds G j;by_cases v:fE j
  ·rw[decide_eq_true v] at c1;obtain⟨v1,v2,v3,v4,v5⟩:=CC v;by_cases h1:j.ck.length=0
   ·have e:jg j=10:=by unfold jg; rw[if_neg (not_not_intro v),if_pos h1]
    obtain⟨q1,q2⟩:=Kk e (by decide);have g1:((j.ck.length:Int)=0)=True:=eq_true (by omega);rw[q1,q2,e];unfold eb jx at *
    simp only[yY,ai,af,seval];refine sC (c1) ?_;simp only[g1,af,aa,seval];exact fj
   ·have g1:((j.ck.length:Int)=0)=False:=eq_false (by omega);by_cases h2:j.sn=1099511627776
    ·have e:jg j=7:=by unfold jg; rw[if_neg (not_not_intro v),if_neg h1,if_pos h2]
     obtain⟨q1,q2⟩:=Kk e (by decide);have g2:(j.sn=1099511627776)=True:=eq_true h2;rw[q1,q2,e];unfold eb jx at *
     simp only[yY,ai,af,seval];refine sC (c1) ?_;simp only[g1,g2,af,aa,seval];exact fj
    ·have e:jg j=0:=by unfold jg; rw[if_neg (not_not_intro v),if_neg h1,if_neg h2]
     have g2:(j.sn=1099511627776)=False:=eq_false h2;rw[show Ew j=kn j from if_pos e,show Ex j=j.ck.getD 0 [] from if_pos e,e];have c2:=aok G j (by omega) (by omega) (by omega) (fun c hc=>by have:=v5 c hc; omega) (by omega);have f0:=xx (l:=j.ck) (i:=0) (by omega);have m0:=v5 _ (uC (l:=j.ck) (i:=0) (by omega));have s8:0≤j.sn∧j.sn≤1099511627776:=v.1.2.2.2.2.2.2;have az:=mq j.ck;have d1:(j.ck.drop 1).take (j.ck.length-1)=j.ck.drop 1:=apX (by rw[ap5]; omega);unfold kn eb at *
     dsimp only at *
     generalize j.ck.getD 0 []=x at *
     have c3:=dT G [x] (by simp) (by simp; omega);simp only[apW,ap4,aqD,aqF,ap7] at c3;simp only[yY,ai,af,seval];refine sC (c1) ?_;simp only[g1,g2,af,seval];refine sC (c2) ?_;simp only[bc,f0,az,af,aa,seval,iteOmega,toNatUp];refine sC (c3) ?_;simp only[d1,af,aa,seval];exact fj
  ·rw[decide_eq_false v] at c1;have e:jg j=3:=if_pos v;obtain⟨q1,q2⟩:=Kk e (by decide);rw[q1,q2,e];unfold eb jx at *
   simp only[yY,ai,af,seval];refine sD (c1) ?_;exact fj
def I9:aO:=⟨1,11,ae [cX 1 0,am 2 0,am 3 0] (.seq (ae [bn 4 6 1,aY 5 39 4,cW 6 5] (ar 6 (ae [am 2 0,am 3 3] .ret) .skip)) (ae [aL 7 2 1,aA 8 7,bd 9 8,oO 10 (.bin .sub (kI 8) (.t 9)),oM 2 10,am 3 0] .ret)),[(2,none),(3,none)]⟩
theorem alc:aM Tryz.prog {} Tryz.f41=some I9:=by kernel_rfl
theorem aoo (G:au) (j:Jr):aF Tryz.prog G 41 [eb j] (.tup [.c (.d (.int .i64 (Ez j))),.c (.d (.int .i64 (Ey j)))]):=by
  refine aX Tryz.func41 alc rfl rfl ?_;have c1:=Ds G j;by_cases v:fE j
  ·rw[decide_eq_true v] at c1;obtain⟨v1,v2,v3,v4,v5⟩:=CC v;rw[show Ez j=8-(j.ck.length:Int) from if_pos v,show Ey j=0 from if_pos v];unfold eb at *
   simp only[I9,ai,af,seval];refine sD (c1) ?_;exact bz
  ·rw[decide_eq_false v] at c1;rw[show Ez j=0 from if_neg v,show Ey j=3 from if_neg v];unfold eb at *
   simp only[I9,ai,af,seval];refine sD (c1) ?_;exact bz
theorem ald {u c:List UInt8} {k:Nat} (hu:u.length=32) (hc:c.length=104):∀ f∈cd u c k,f.da.length≤104:=fun f hf=>by
  rcases BP hf with rfl | rfl | rfl
  ·show u.length≤104; omega
  ·show c.length≤104; omega
  ·exact Nat.le_of_eq yW
def Kq (t:Nat) (n:List UInt8) (T:Jr) (u c:List UInt8) (K k:Nat):St:=⟨bw [(1,.w (.c (.d (.int .u64 (t:Int))))),(3,.w (.c (.d (.sl (n.map bD))))),(8,.w (.c (.ptr 3 1 0 0))),(11,.w (.c (.ptr 1 1 0 0))),(14,.w (.c (.own 2 2 0 (cd u c k).length))),(54,.w (.c (.d (.int .i64 (K:Int))))),(55,.w (.c (.d (.int .i64 (k:Int)))))],hL [(1,ii T (.d (.sl (T.ck.map fun l=>D.sl (l.map bD))))),(2,.row 2 ((cd u c k).map bf)),(3,ig)],uL [1,2,3]⟩
def GI:bp := ae [aU .lss 56 55 54] (.seq (ar 56 .skip (.exit 0)) (.seq (.block 1 (.reg [oM 57 14,oO 58 (.make true 1 1 aj (kI 104) (kI 104)),oO 59 (.build [ah,.nil] [(0,1,(kI 772)),(1,1,(.t 58))]),oO 60 (.bldFz 1 2 (.agg [dH,(.sl [])]) [(0,(.t 59))]),oO 61 (.app false 2 32 (.t 57) (.t 60)),oM 14 61])) (.reg [ak .add 62 55 1,oM 55 62])))
def vV:aO:=⟨4,77,ae [cX 4 0,oO 8 (.alloc [.nil,.nil,.nil,.nil,ah,ah]),aQ 9,am 10 0] (.seq (ae [bn 19 6 4,aY 20 39 19,cW 21 20,oM 22 21,bJ 23 2 22 false,eY 24 23 22 false,cC .neq 25 24 32 22 false,cv 26 22 25,oM 27 26,bJ 28 3 27 false,eY 29 28 27 false,cC .neq 30 29 16 27 false,cv 31 27 30] (ar 31 (ae [oO 32 (.build [.nil,.nil,.nil,.nil,ah,ah] []),aS 6 8 32,aQ 9,am 10 3] .ret) .skip)) (ae [bn 34 6 4,aY 35 40 34,oM 33 35,aC 36 33 0,aC 37 33 1,aC 38 33 2,oO 11 (.alloc [.nil,.nil,.nil,.nil,ah,ah]),aS 6 11 36,oM 12 37,oM 13 38] (.seq (ae [oM 39 13,ak .neq 40 39 0] (ar 40 (ae [oO 41 (.build [.nil,.nil,.nil,.nil,ah,ah] []),oM 42 13,aS 6 8 41,aQ 9,oM 10 42] .ret) .skip)) (ae [oM 43 2,oO 44 (.build [ah,.nil] [(0,1,(kI 260)),(1,1,(.t 43))]),oM 45 12,oO 46 (.build [ah,.nil] [(0,1,(kI 516)),(1,1,(.t 45))]),
 oO 47 (.bldSl true 2 2 (.agg [dH,(.sl [])]) [(0,(.t 44)),(1,(.t 46))]),oM 14 47] (ae [bn 49 6 11,aY 50 41 49,oM 48 50,aC 51 48 0,aC 52 48 1,oM 15 51,oM 16 52] (.seq (ae [oM 53 15,ak .sub 54 53 1,am 55 0] (.block 0 (.loop GI))) (ae [aL 64 0 11,aL 65 0 64,aA 66 65,oM 67 1,aY 68 43 67,oM 69 14,oO 70 (.build [ah,ah,ah,ah,ah,ah,bh,bh,bh,aW,aW,aW,aW,.nil,.nil,cD] [(0,13,(.t 68)),(13,1,(.t 69))]),oM 71 3,gq 72 42 66 70 71,oM 63 72,aC 73 63 0,aC 74 63 1,oM 17 73,oM 18 74] (ae [bn 75 6 11,oM 76 17,aS 6 8 75,oM 9 76,am 10 0] .ret)))))))),[(8,(some (.ag 6))),(9,none),(10,none)]⟩
theorem ale:aM Tryz.prog { own:=[47],frz:=[60] } Tryz.f12=some vV:=by kernel_rfl
set_option maxHeartbeats 6400000 in
theorem UV (G:au) (j:Jr) (t:Nat) (u n:List UInt8) (ht:t<18446744073709551616):aF Tryz.prog G 12 [eb j,.int .u64 (t:Int),.sl (u.map bD),.sl (n.map bD)] (.tup [.c (.d (eb (EA j u n))),.c (.d (.sl ((EB j t u n).map bD))),.c (.d (.int .i64 (lI j u n)))]):=by
  refine aX Tryz.func12 ale rfl rfl ?_;have c1:=Ds G j;by_cases v:fE j
  ·rw[decide_eq_true v] at c1;by_cases h1:u.length=32
   ·have g1:((u.length:Int)=32)=True:=eq_true (by omega);by_cases h2:n.length=16
    ·have g2:((n.length:Int)=16)=True:=eq_true (by omega);have eE:lI j u n=jg j:=by unfold lI; rw[if_neg (fun h=>h.elim (· v) (fun h=>h.elim (· h1) (· h2)))]
     have c2:=aon G j;by_cases h3:jg j=0
     ·obtain⟨v1,v2,v3,v4,v5⟩:=CC v;have hk:j.ck.length≠0:=fun h=>by
        unfold jg at h3;rw[if_neg (not_not_intro v),if_pos h] at h3;cases h3
      have hs:j.sn≠1099511627776:=fun h=>by
        unfold jg at h3;rw[if_neg (not_not_intro v),if_neg hk,if_pos h] at h3;cases h3
      have m0:=v5 _ (uC (l:=j.ck) (i:=0) (by omega));rw[h3] at eE;rw[show EA j u n=kn j from if_pos eE,show EB j t u n=d9 j.up (nb j t u) n from if_pos eE,eE];rw[show Ew j=kn j from if_pos h3,show Ex j=j.ck.getD 0 [] from if_pos h3,h3] at c2;have cw:=aoo G (kn j);have tv:fE (kn j):=(UO v hk hs).2;have hT:(8-((kn j).ck.length:Int))-1=((8-j.ck.length:Nat):Int):=by
        show (8-((j.ck.drop 1).length:Int))-1=_
        rw[ap5]; omega
      have hT8:(kn j).ck.length≤8:=by
        show (j.ck.drop 1).length≤8
        rw[ap5]; omega
      rw[show Ez (kn j)=8-((kn j).ck.length:Int) from if_pos tv,show Ey (kn j)=0 from if_pos tv] at cw;have c3:=akz G t;obtain⟨ok,_⟩:=Ki (key:=j.up) (u:=u) (c:=j.ck.getD 0 []) (n:=n) (t:=t) (k:=8-j.ck.length) v1 h1 m0 h2 (by omega);have c4:=To G j.up (nb j t u) n (by omega) (Kh ht) (by unfold nb; rw[vF]; omega) (fun f hf=>by
        have:=ald (u:=u) (c:=j.ck.getD 0 []) h1 m0 f hf;omega) (apZ _) (fun f hf=>by cases hf) (by omega)
      rw[show gV j.up (nb j t u) n=0 from (yV ok).1] at c4;have fl:=Uj 1 (d9 j.up (nb j t u) n) .i64 0;have hq:(nb j t u).pl=cd u (j.ck.getD 0 []) (8-j.ck.length):=rfl;unfold dL at c4;rw[hq,show (nb j t u).hd=ft t from rfl,show (nb j t u).se=[] from rfl,show (nb j t u).gu=false from rfl] at c4;have tup:(kn j).up=j.up:=rfl;rw[← tup] at c4 fl ⊢;clear ok eE h3 tv hs v tup;generalize d9 (kn j).up (nb j t u) n=B at *
      generalize j.ck.getD 0 []=c at *
      generalize kn j=T at *
      generalize hK:8-j.ck.length=K at *
      have gK:(8-(T.ck.length:Int))-1=(K:Int):=hT;unfold eb at *
      simp only[vV,ai,af,seval];refine sC (c1) ?_;simp only[g1,g2,af,seval];refine sD (c2) ?_;refine sC (cw) ?_;simp only[gK,af,seval,iteOmega];refine bO (Kq t n T u c K) (fun k=>K-k) (fun k=>k≤K) 0 (apZ _) ?_ ?_
      ·refine aR (fun i=>if i=1 then 88 else if i=2 then 376 else 64) ?_ ?_ rfl rfl <;> simp only[cd,bf,ii,ig,wx,aH,seval] <;> first | rfl | exact⟨rfl,rfl⟩ | skip
      ·intro k hk2;clear c1 c2 cw;have ql:=vF u c k;have az:=lP (cd u c k);by_cases hlt:k<K
       ·have gk:((k:Int)<(K:Int))=True:=eq_true (by omega);have hs:=Kg u c k;have hp:bf pZ=.agg [.int .i64 772,.sl (List.replicate 104 (.int .u8 0))]:=by
          unfold bf pZ;rw[List.map_replicate]; rfl
        have e0:Kq t n T u c K k=⟨bw [(1,.w (.c (.d (.int .u64 (t:Int))))),(3,.w (.c (.d (.sl (n.map bD))))),(8,.w (.c (.ptr 3 1 0 0))),(11,.w (.c (.ptr 1 1 0 0))),(14,.w (.c (.own 2 2 0 (cd u c k).length))),(54,.w (.c (.d (.int .i64 (K:Int))))),(55,.w (.c (.d (.int .i64 (k:Int)))))],hL [(1,ii T (.d (.sl (T.ck.map fun l=>D.sl (l.map bD))))),(2,.row 2 ((cd u c k).map bf)),(3,ig)],uL [1,2,3]⟩:=rfl;rw[e0];clear e0;generalize cd u c k=L at *
        simp only[GI,ii,ig,af,seval,iteOmega,toNatUp,gk,cg];refine bA (k+1) (by omega) (by omega) (aR (fun i=>if i=1 then 1 else if i=2 then 488 else 3) ?_ ?_ rfl rfl) <;> simp only[hs,hp,List.replicate,ap8,apW,ap4,ii,ig,wx,aH,aV,seval] <;> first | rfl | exact⟨rfl,rfl⟩ | skip
       ·obtain rfl:k=K:=by omega
        have gk:((k:Int)<(k:Int))=False:=eq_false (by omega);have e0:Kq t n T u c k k=⟨bw [(1,.w (.c (.d (.int .u64 (t:Int))))),(3,.w (.c (.d (.sl (n.map bD))))),(8,.w (.c (.ptr 3 1 0 0))),(11,.w (.c (.ptr 1 1 0 0))),(14,.w (.c (.own 2 2 0 (cd u c k).length))),(54,.w (.c (.d (.int .i64 (k:Int))))),(55,.w (.c (.d (.int .i64 (k:Int)))))],hL [(1,ii T (.d (.sl (T.ck.map fun l=>D.sl (l.map bD))))),(2,.row 2 ((cd u c k).map bf)),(3,ig)],uL [1,2,3]⟩:=rfl;rw[e0];clear e0;generalize cd u c k=L at *
        unfold fC at c3;simp only[GI,ii,ig,af,seval,gk];refine sD (c3) ?_;refine bM c4 (by simp only[af,seval,iteOmega] <;> rfl) (.inr fl) ?_;simp only[af,aa,seval];exact fj
     ·have g3:(jg j=0)=False:=eq_false h3;obtain⟨q1,q2⟩:=Dp eE h3;rw[q1,q2,eE];unfold eb jx at *
      generalize jg j=e at *
      simp only[vV,ai,af,seval];refine sC (c1) ?_;simp only[g1,g2,af,seval];refine sC (c2) ?_;simp only[g3,af,aa,seval];exact fj
    ·have g2:((n.length:Int)=16)=False:=eq_false (by omega);have e:lI j u n=3:=by unfold lI; rw[if_pos (.inr (.inr h2))]
     obtain⟨q1,q2⟩:=Dp e (by decide);rw[q1,q2,e];unfold eb jx at *
     simp only[vV,ai,af,seval];refine sC (c1) ?_;simp only[g1,g2,af,aa,seval];exact fj
   ·have g1:((u.length:Int)=32)=False:=eq_false (by omega);have e:lI j u n=3:=by unfold lI; rw[if_pos (.inr (.inl h1))]
    obtain⟨q1,q2⟩:=Dp e (by decide);rw[q1,q2,e];unfold eb jx at *
    simp only[vV,ai,af,seval];refine sC (c1) ?_;simp only[g1,af,aa,seval];exact fj
  ·rw[decide_eq_false v] at c1;have e:lI j u n=3:=by unfold lI; rw[if_pos (.inl v)]
   obtain⟨q1,q2⟩:=Dp e (by decide);rw[q1,q2,e];unfold eb jx at *
   simp only[vV,ai,af,seval];refine sD (c1) ?_;exact fj
def Ja:aO:=⟨2,22,ae [bG 4 false] (ae [oM 6 0,oO 7 (.call 45 [(.t 6),(kI 260)] none),oM 5 7] (ae [oM 8 5,bd 9 8,ak .eql 10 9 1,oM 11 10,bJ 12 0 11 true,bJ 13 5 11 true,oG 14 (.idxSl 1 (.t 13) (kI 0)) 11 true,dt 15 14 11 true,oG 16 (.idxSl 2 (.t 12) (.t 15)) 11 true,dF 17 1 16 11 true,dt 18 17 11 true,bJ 19 1 11 true,oG 20 (.call 81 [(.t 18),(.t 19)] none) 11 true,ek 21 11 20,oM 4 21] .ret)),[(4,none)]⟩
theorem alf:aM Tryz.prog {} Tryz.f50=some Ja:=by kernel_rfl
theorem aoq (G:au) (p:dq) (u b:List UInt8) (hl:p.pl.length≤1000000):aF Tryz.prog G 50 [.sl (p.pl.map bf),.sl (u.map bD)] (.w (.c (.d (.bool (rA u b p))))):=by
  refine aX Tryz.func50 alf rfl rfl ?_;have c3:=rX G p.pl 260 hl;by_cases h4:(bP p.pl 260).length=1
  ·have g4:(((bP p.pl 260).length:Int)=1)=True:=eq_true (by omega);obtain⟨m,m1,m2,m3⟩:=akX (l:=p.pl) (k:=260) (i:=0) (by omega);have f0:=kM m3;rw[aog h4 m1];have c4:=rV G (p.pl.getD m default).da u;have az:=lP p.pl;generalize p.pl.getD m default=x at *
   generalize bP p.pl 260=A at *
   simp only[Ja,ai,af,seval];refine sC (c3) ?_;simp only[g4,bc,m1,zD,f0,bf,af,seval,iteOmega,toNatUp];refine sD (c4) ?_;exact aZ
  ·have g4:(((bP p.pl 260).length:Int)=1)=False:=eq_false (by omega);rw[akZ h4];generalize bP p.pl 260=A at *
   simp only[Ja,ai,af,seval];refine sC (c3) ?_;simp only[g4,af,seval];exact aZ
theorem aor {l:List Fd} {i:Nat} (h:i<l.length):du (l.take (i+1))=if (l.getD i default).ty=516 then du (l.take i)++[(l.getD i default).da] else du (l.take i):=by
  have e:l.take (i+1)=l.take i++[l.getD i default]:=by
    rw[aq3,apT,apR h]; rfl
  unfold du;rw[e,List.filter_append,ap8];by_cases hk:(l.getD i default).ty=516
  ·rw[if_pos hk,arR (by rw[hk]; rfl)]; rfl
  ·rw[if_neg hk,List.filter_cons_of_neg (by simpa using hk),List.filter_nil,ap4,ap7]
theorem aos {l:List Fd} {i:Nat} (h:i<l.length) (hk:(l.getD i default).ty=516):(l.getD i default).da∈du l:=by
  unfold du;refine aqa.2 ⟨_,arf.2 ⟨?_,by rw[hk]; rfl⟩,rfl⟩;rw[apT,apR h];exact aqr h
theorem alg (l:List Fd):(du l).length≤l.length:=by
  unfold du;rw[ap1];exact List.length_filter_le _ _
def j8 (l:List Fd) (i:Nat):List (Nat×V):=[(3,.w (.c (.d (.int .i64 0)))),(6,.w (.c (.d (.sl (l.map bf))))),(7,.w (.c (.d (.int .i64 (l.length:Int))))),(8,.w (.c (.d (.int .i64 (i:Int)))))]
def sS (l:List Fd) (i:Nat):List (List UInt8)→St
  | []=>⟨bw ((2,.w (.c .nil))::j8 l i),hL [],uL []⟩
  | x::r=>⟨bw ((2,.w (.c (.own 1 1 0 (x::r).length)))::j8 l i),hL [(1,.row 1 ((x::r).map fun l=>D.sl (l.map bD)))],uL [1]⟩
def Kr (l:List Fd) (i:Nat):St:=sS l i (du (l.take i))
theorem yZ (l:List Fd) (i:Nat):sS l i []=⟨bw ((2,.w (.c .nil))::j8 l i),hL [],uL []⟩:=rfl
theorem tN (l:List Fd) (i:Nat) (x:List UInt8) (r:List (List UInt8)):sS l i (x::r)=⟨bw ((2,.w (.c (.own 1 1 0 (x::r).length)))::j8 l i),hL [(1,.row 1 ((x::r).map fun l=>D.sl (l.map bD)))],uL [1]⟩:=rfl
def zM (l:List Fd):Int:=if gJ (du l)=true then 0 else 3
def zN (l:List Fd):List (List UInt8):=if gJ (du l)=true then du l else []
def qk:bp := ae [aU .lss 9 8 7] (.seq (ar 9 .skip (.exit 0)) (.seq (.block 1 (ae [bU 10 2 6 8,bn 11 2 10,oO 5 (.alloc [ah,.nil]),aS 2 5 11] (.seq (.block 2 (ae [aL 13 0 5,aA 14 13,ak .neq 15 14 516,oM 12 15] (ar 12 (.exit 1) (ae [aL 17 1 5,aA 18 17,aY 19 79 18,cW 20 19,oM 16 20] (ar 16 (ae [aQ 2,am 3 3] (.exit 0)) .skip))))) (.reg [oM 21 2,aL 22 1 5,aA 23 22,oO 24 (.bldSl false 1 1 (.sl []) [(0,(.t 23))]),oO 25 (.app false 1 24 (.t 21) (.t 24)),oM 2 25])))) (.reg [ak .add 26 8 1,oM 8 26])))
def Tx:aO:=⟨1,29,ae [aQ 2,am 3 0] (.seq .skip (.seq (ae [oM 6 0,bd 7 6,am 8 0] (.block 0 (.loop qk))) (ae [oM 27 2,oM 28 3,oM 2 27,oM 3 28] .ret))),[(2,none),(3,none)]⟩
theorem alh:aM Tryz.prog {} Tryz.f51=some Tx:=by kernel_rfl
theorem aot (G:au) (l:List Fd) (hl:l.length≤1000000):aF Tryz.prog G 51 [.sl (l.map bf)] (.tup [.c (.d (.sl ((zN l).map fun x=>D.sl (x.map bD)))),.c (.d (.int .i64 (zM l)))]):=by
  refine aX Tryz.func51 alh rfl rfl ?_;simp only[Tx,ai,af,seval];refine bO (Kr l) (fun i=>l.length-i) (fun i=>i≤l.length∧gJ (du (l.take i))=true) 0 ⟨apZ _,rfl⟩ ?_ ?_
  ·refine aR (fun _=>0) ?_ ?_ rfl rfl <;> simp only[j8,wx,aH,seval] <;> first | rfl | exact⟨rfl,rfl⟩ | skip
  ·rintro i ⟨hi,hp⟩;by_cases hlt:i<l.length
   ·have g:=kM hlt;have hn:=aor hlt;have hm:=fun h=>aos hlt h
    have az:=lP l;have al:=fun (h:gJ (du l)=true)=>oS.1 h
    have e0:Kr l i=sS l i (du (l.take i)):=rfl;rw[e0];have lL:=alg (l.take i);rw[ap0] at lL;clear e0;generalize l.getD i default=y at *
    have c1:=Kl G y.da;by_cases h1:y.ty=516
    ·have g1:(y.ty=516)=True:=eq_true h1;rw[if_pos h1] at hn;by_cases h2:y.da.length=104
     ·rw[beq_iff_eq.2 h2] at c1;have hp':gJ (du (l.take (i+1)))=true:=by
        rw[hn];refine oS.2 fun c hc=>?_
        rcases aqg.1 hc with hc | hc
        ·exact oS.1 hp c hc
        ·rw[apY.1 hc]; exact h2
      clear hm al h2;have tl:=congrArg List.length hn;rw[apS,aqw] at tl;have hx:=hn;have azl:=mq (du (l.take i));generalize du (l.take i)=L at *
      rcases L with _ | ⟨x,r⟩
      ·rw[yZ];simp only[qk,j8,af,aa,seval,iteOmega,toNatUp,bc,g,bf,g1];refine sC (c1) ?_;simp only[cg,af,seval,iteOmega];refine bA (i+1) (by omega) ⟨by omega,hp'⟩ ?_
       show fv _ (sS l (i+1) (du (l.take (i+1))))
       rw[hn,aqz,tN];refine aR (fun _=>200) ?_ ?_ rfl rfl <;> simp only[j8,wx,aH,aV,seval] <;> first | rfl | exact⟨rfl,rfl⟩ | skip
      ·rw[tN];rw[aqx] at lL;simp only[qk,j8,af,aa,seval,iteOmega,toNatUp,bc,g,bf,g1];refine sC (c1) ?_;simp only[cg,af,seval,iteOmega];refine bA (i+1) (by omega) ⟨by omega,hp'⟩ ?_
       show fv _ (sS l (i+1) (du (l.take (i+1))))
       rw[hn,aqE,tN];refine aR (fun _=>200) ?_ ?_ rfl rfl <;> simp only[j8,aqx,apS,apW,ap8,wx,aH,aV,seval] <;> first | rfl | exact⟨rfl,rfl⟩ | skip
     ·rw[beq_eq_false_iff_ne.2 h2] at c1;have hno:¬ gJ (du l)=true:=fun h=>h2 (al h _ (hm h1))
      rw[show zN l=[] from if_neg hno,show zM l=3 from if_neg hno];clear hm al h2 hno hn hp;generalize du (l.take i)=L at *
      rcases L with _ | ⟨x,r⟩
      ·rw[yZ];simp only[qk,j8,af,aa,seval,iteOmega,toNatUp,bc,g,bf,g1];refine sD (c1) ?_;exact bz
      ·rw[tN];simp only[qk,j8,af,aa,seval,iteOmega,toNatUp,bc,g,bf,g1];refine sD (c1) ?_;exact bz
    ·have g1:(y.ty=516)=False:=eq_false h1;rw[if_neg h1] at hn;have hp':gJ (du (l.take (i+1)))=true:=by rw[hn]; exact hp
     clear hm al;generalize du (l.take i)=L at *
     rcases L with _ | ⟨x,r⟩
     ·rw[yZ];simp only[qk,j8,af,aa,seval,iteOmega,toNatUp,bc,g,bf,g1];refine bA (i+1) (by omega) ⟨by omega,hp'⟩ ?_
      show fv _ (sS l (i+1) (du (l.take (i+1))))
      rw[hn,yZ];refine aR (fun i=>i) ?_ ?_ rfl rfl <;> simp only[j8,wx,aH,aV,seval] <;> first | rfl | exact⟨rfl,rfl⟩ | skip
     ·rw[tN];simp only[qk,j8,af,aa,seval,iteOmega,toNatUp,bc,g,bf,g1];refine bA (i+1) (by omega) ⟨by omega,hp'⟩ ?_
      show fv _ (sS l (i+1) (du (l.take (i+1))))
      rw[hn,tN];refine aR (fun i=>i) ?_ ?_ rfl rfl <;> simp only[j8,wx,aH,aV,seval] <;> first | rfl | exact⟨rfl,rfl⟩ | skip
   ·obtain rfl:i=l.length:=by omega
    rw[aqy] at hp;rw[show zN l=du l from if_pos hp,show zM l=0 from if_pos hp];unfold Kr;rw[aqy];have azl:=mq (du l);generalize du l=L at *
    rcases L with _ | ⟨x,r⟩
    ·rw[yZ];simp only[qk,j8,af,seval,iteOmega];exact bz
    ·rw[tN];simp only[qk,j8,af,seval,iteOmega];exact bz
theorem af5 {P:Program} {G:au} {Q:AX→St→Prop} {f:Nat→V} {h:aI} {u:Nat→Bool} {t id sz:Nat} {c:bp} {cs:List C} {ds:List D} (hx:f t=.w (.c (.ptr id sz 0 0))) (hi:h id=some (.box cs)) (hd:gY cs=some ds)
    (k:cE P G c Q ⟨upd f t (.w (.c (.rp ds))),upd h id none,u⟩):cE P G (.ghost t c) Q ⟨f,h,u⟩:=by
  show match sF ⟨f,h,u⟩ t with | some τ=>_ | none=>False
  unfold sF;simp only[hx,hi,hd];exact k
def UW (p:dq):List D:=[.int .i64 p.hd.lp,.int .i64 p.hd.vr,.int .i64 p.hd.md,.int .i64 p.hd.st,.int .i64 p.hd.pl,.int .i64 p.hd.pr,.int .u32 (p.hd.rd:Int),.int .u32 (p.hd.rp:Int),.int .u32 (p.hd.ri:Int),.int .u64 (p.hd.rf:Int),.int .u64 (p.hd.og:Int),.int .u64 (p.hd.rc:Int),.int .u64 (p.hd.tr:Int),.sl (p.pl.map bf),.sl (p.se.map bf),.bool p.gu]
def r6:aO:=⟨3,64,ae [cX 3 0,oO 6 (.alloc [.nil,.nil,.nil,.nil,ah,ah]),oO 7 (.alloc [ah,ah,ah,ah,ah,ah,bh,bh,bh,aW,aW,aW,aW,.nil,.nil,cD]),am 8 0] (.seq (ae [bn 12 6 3,aY 13 39 12,cW 14 13,oM 15 14,bJ 16 1 15 false,eY 17 16 15 false,cC .neq 18 17 32 15 false,cv 19 15 18] (ar 19 (ae [oO 20 (.build [.nil,.nil,.nil,.nil,ah,ah] []),oO 21 (.build [ah,ah,ah,ah,ah,ah,bh,bh,bh,aW,aW,aW,aW,.nil,.nil,cD] []),aS 6 6 20,aS 16 7 21,am 8 3] .ret) .skip)) (ae [aL 23 0 3,aL 24 1 23,aA 25 24,oM 26 2,ct 27 47 25 26,oM 22 27,aC 28 22 0,aC 29 22 1,oO 9 (.alloc [ah,ah,ah,ah,ah,ah,bh,bh,bh,aW,aW,aW,aW,.nil,.nil,cD]),aS 16 9 28,oM 10 29] (.seq (ae [oM 30 10,ak .neq 31 30 0] (ar 31 (ae [oO 32 (.build [.nil,.nil,.nil,.nil,ah,ah] []),oO 33 (.build [ah,ah,ah,ah,ah,ah,bh,bh,bh,aW,aW,aW,aW,.nil,.nil,cD] []),
 oM 34 10,aS 6 6 32,aS 16 7 33,oM 8 34] .ret) .skip)) (.seq (ae [aL 35 0 9,aL 36 2 35,aA 37 36,ak .neq 38 37 4] (ar 38 (ae [oO 39 (.build [.nil,.nil,.nil,.nil,ah,ah] []),oO 40 (.build [ah,ah,ah,ah,ah,ah,bh,bh,bh,aW,aW,aW,aW,.nil,.nil,cD] []),aS 6 6 39,aS 16 7 40,am 8 3] .ret) .skip)) (.seq (ae [aL 41 13 9,aA 42 41,oM 43 1,ct 44 50 42 43,cW 45 44] (ar 45 (ae [oO 46 (.build [.nil,.nil,.nil,.nil,ah,ah] []),oO 47 (.build [ah,ah,ah,ah,ah,ah,bh,bh,bh,aW,aW,aW,aW,.nil,.nil,cD] []),aS 6 6 46,aS 16 7 47,am 8 7] .ret) .skip)) (ae [aL 49 14 9,aA 50 49,aY 51 51 50,oM 48 51,aC 52 48 0,aC 53 48 1,oM 11 52,oM 10 53] (.seq (ae [oM 54 10,ak .neq 55 54 0] (ar 55 (ae [oO 56 (.build [.nil,.nil,.nil,.nil,ah,ah] []),oO 57 (.build [ah,ah,ah,ah,ah,ah,bh,bh,bh,aW,aW,aW,aW,.nil,.nil,cD] []),
 oM 58 10,aS 6 6 56,aS 16 7 57,oM 8 58] .ret) .skip)) (.seq (.ghost 9 (.reg [oO 59 (.loadX (.ag 6) (.t 3) []),oO 60 (.call 32 [(.t 59)] (some (2,1))),oM 61 11,oO 62 (.callM 31 [(.t 60),(.t 61)]),oO 63 (.loadX (.ag 16) (.t 9) []),aS 6 6 62,aS 16 7 63,am 8 0])) .ret)))))))),[(6,(some (.ag 6))),(7,(some (.ag 16))),(8,none)]⟩
theorem ali:aM Tryz.prog { comp:=[(60,1002)],lx:=[(59,[]),(63,[])],mt:=[62],gh:=[(13,9)] } Tryz.f14=some r6:=by kernel_rfl
theorem UX (G:au) (j:Jr) (u b:List UInt8) (hb:b.length≤9000000000000000000):aF Tryz.prog G 14 [eb j,.sl (u.map bD),.sl (b.map bD)] (.tup [.c (.d (eb (xz j u b))),.c (.d (dL (xA j u b))),.c (.d (.int .i64 (jh j u b)))]):=by
  refine aX Tryz.func14 ali rfl rfl ?_;have c1:=Ds G j;by_cases v:fE j
  ·rw[decide_eq_true v] at c1;by_cases h1:u.length=32
   ·have g1:((u.length:Int)=32)=True:=eq_true (by omega);have e0:jh j u b=if gW j.dn b≠0 then gW j.dn b else if (gX j.dn b).hd.md≠4 then 3 else if rA u b (gX j.dn b)=false then 7 else if gJ (du (gX j.dn b).se)=true then 0 else 3:=by unfold jh; rw[if_neg (fun h=>h.elim (· v) (· h1))]
    have no:=fun (e:Int) (h:jh j u b=e) (he:e≠0)=>Kj (u:=u) h he
    have yes:jh j u b=0→xz j u b=xy j (du (gX j.dn b).se)∧xA j u b=gX j.dn b:=fun h=>⟨if_pos h,if_pos h⟩
    obtain⟨v1,v2,v3,v4,v5⟩:=CC v;have c2:=Tp G j.dn b (by omega) hb;obtain⟨p1,p2⟩:=aof (key:=j.dn) (b:=b);generalize gX j.dn b=p at *
    generalize gW j.dn b=q at *
    generalize jh j u b=e at *
    generalize xz j u b=J at *
    generalize xA j u b=P at *
    by_cases h2:q=0
    ·have g2:(q=0)=True:=eq_true h2;rw[if_neg (not_not_intro h2)] at e0;by_cases h3:p.hd.md=4
     ·have g3:(p.hd.md=4)=True:=eq_true h3;rw[if_neg (not_not_intro h3)] at e0;have c3:=aoq G p u b (by omega);cases h5:rA u b p
      ·rw[h5] at c3 e0;rw[if_pos rfl] at e0;obtain⟨rfl,rfl⟩:=no _ e0 (by decide);subst e0;clear no yes;rw[wu];unfold eb jx at *
       try unfold dL at *
       simp only[r6,ai,af,seval];refine sC (c1) ?_;simp only[g1,af,seval];refine sC (c2) ?_;simp only[g2,g3,af,aa,seval];refine sD (c3) ?_;exact fj
      ·rw[h5] at c3 e0;rw[if_neg (by decide)] at e0;have c4:=aot G p.se (by omega);have hl:(du p.se).length≤24:=by
         rw[← afZ,af0 (ap3 _)];have:=akY p.se 516;omega
       by_cases hA:gJ (du p.se)=true
       ·rw[if_pos hA] at e0;obtain⟨yJ,yP⟩:=yes e0;rw[show zN p.se=du p.se from if_pos hA,show zM p.se=0 from if_pos hA] at c4;have a4:=oS.1 hA;have c5:=Kn G j (by omega) (by omega) (by omega) (fun c hc=>by have:=v5 c hc; omega) (by omega);have c6:=UU G j (du p.se) v3 (fun c hc=>by have:=a4 c hc; omega) (by omega);rw[yJ,yP,e0];clear no yes;unfold xy;generalize du p.se=C at *
        have az:=mq (eJ j.la j.ck C);unfold EC at c5;unfold eb at *
        unfold dL at *
        simp only[r6,ai,af,seval];refine sC (c1) ?_;simp only[g1,af,seval];refine sC (c2) ?_;simp only[g2,g3,af,aa,seval];refine sD (c3) ?_;refine sD (c4) ?_;refine af5 (id:=72) (sz:=1) (cs:=sq p) (ds:=UW p) rfl rfl rfl ?_;simp only[UW,af,seval];refine sD (c5) ?_;refine pD [.mix (lM j 480 j.ck.length),.c (.d (.sl (nO C)))] [(1,480),(3,1000)] c6 ?_ ?_ ?_ rfl rfl ?_
        ·simp only[lM,nO,af,seval] <;> rfl
        ·simp only[lM,af,seval,dc,Dt]
        ·simp only[kQ,nO,wx,seval,dc]
        ·simp only[lM,nO,af,aa,seval,dc,Dt];exact fj
       ·rw[if_neg hA] at e0;obtain⟨rfl,rfl⟩:=no _ e0 (by decide);rw[show zN p.se=[] from if_neg hA,show zM p.se=3 from if_neg hA] at c4;rw[e0];clear no yes;rw[wu];unfold eb jx at *
        try unfold dL at *
        simp only[r6,ai,af,seval];refine sC (c1) ?_;simp only[g1,af,seval];refine sC (c2) ?_;simp only[g2,g3,af,aa,seval];refine sD (c3) ?_;refine sD (c4) ?_;exact fj
     ·have g3:(p.hd.md=4)=False:=eq_false h3;rw[if_pos h3] at e0;obtain⟨rfl,rfl⟩:=no _ e0 (by decide);subst e0;clear no yes;rw[wu];unfold eb jx at *
      try unfold dL at *
      simp only[r6,ai,af,seval];refine sC (c1) ?_;simp only[g1,af,seval];refine sC (c2) ?_;simp only[g2,g3,af,aa,seval];exact fj
    ·have g2:(q=0)=False:=eq_false h2;rw[if_pos h2] at e0;obtain⟨rfl,rfl⟩:=no _ e0 h2;subst e0;clear no yes;rw[wu];unfold eb jx at *
     try unfold dL at *
     simp only[r6,ai,af,seval];refine sC (c1) ?_;simp only[g1,af,seval];refine sC (c2) ?_;simp only[g2,af,aa,seval];exact fj
   ·have g1:((u.length:Int)=32)=False:=eq_false (by omega);have e:jh j u b=3:=by unfold jh; rw[if_pos (.inr h1)]
    obtain⟨q1,q2⟩:=Kj e (by decide);rw[q1,q2,e];rw[wu];unfold eb jx at *
    try unfold dL at *
    simp only[r6,ai,af,seval];refine sC (c1) ?_;simp only[g1,af,aa,seval];exact fj
  ·rw[decide_eq_false v] at c1;have e:jh j u b=3:=by unfold jh; rw[if_pos (.inl v)]
   obtain⟨q1,q2⟩:=Kj e (by decide);rw[q1,q2,e];rw[wu];unfold eb jx at *
   try unfold dL at *
   simp only[r6,ai,af,seval];refine sD (c1) ?_;exact fj
theorem Nb {α:Type} (k:Int) (v:α):∀ es:List (Int×α),(dD es k v).map (·.1)=if k∈es.map (·.1) then es.map (·.1) else es.map (·.1)++[k]
  | []=>rfl
  | (y,u)::r=>by
    simp only[dD];by_cases e:y=k
    ·subst e;rw[if_pos rfl,if_pos (by simp)];rfl
    ·rw[if_neg e,apW,Nb k v r,apW];by_cases h:k∈r.map (·.1)
     ·rw[if_pos h,if_pos (aqf _ h)]
     ·rw[if_neg h,if_neg (by
      intro q;rcases aqh.1 q with q | q
      ·exact e q.symm
      ·exact h q),aqE]
theorem W6 {α:Type} {es:List (Int×α)} (h:(es.map (·.1)).Nodup) (k:Int) (v:α):((dD es k v).map (·.1)).Nodup:=by
  rw[Nb];split
  ·exact h
  ·rename_i hk;refine ara.2 ⟨h,by simp,fun a ha b hb e=>?_⟩;rw[apY] at hb;subst hb e;exact hk ha
theorem nT {α:Type} (y:Int) (u:α) (r:List (Int×α)) (k:Int):bL ((y,u)::r) k=if y=k then some u else bL r k:=by
  unfold bL;by_cases e:y=k
  ·subst e; simp
  ·rw[if_neg e,aqN (by simpa using e)]
theorem HT {α:Type}:∀ {es:List (Int×α)} {k:Int} {v:α},(es.map (·.1)).Nodup→(k,v)∈es→bL es k=some v
  | (y,u)::r,k,v,hn,h=>by
    rw[apW,arB] at hn;rw[nT];rcases aqh.1 h with h | h
    ·cases h; rw[if_pos rfl]
    ·have:y≠k:=fun e=>hn.1 (e ▸ aqa.2 ⟨_,h,rfl⟩)
     rw[if_neg this];exact HT hn.2 h
theorem TG {α:Type}:∀ {es:List (Int×α)} {k:Int} {v:α},bL es k=some v→(k,v)∈es
  | [],_,_,h=>by cases h
  | (y,u)::r,k,v,h=>by
    rw[nT] at h;by_cases e:y=k
    ·rw[if_pos e] at h; cases h; subst e; exact aqj
    ·rw[if_neg e] at h; exact aqf _ (TG h)
theorem Ra {α β:Type} (f:α→β):∀ (es:List (Int×α)) (k:Int),bL (es.map fun p=>(p.1,f p.2)) k=(bL es k).map f
  | [],_=>rfl
  | (y,u)::r,k=>by
    rw[apW,nT,nT,Ra f r k];split <;> rfl
def iU (l:List Ek):Nat→List (Int×List Ek)
  | 0=>[]
  | i+1=>dD (iU l i) (l.getD i default).ty ((bL (iU l i) (l.getD i default).ty).getD []++[l.getD i default])
theorem FS (l:List Ek):∀ i,((iU l i).map (·.1)).Nodup
  | 0=>List.nodup_nil
  | i+1=>W6 (FS l i) _ _
theorem acp (l:List Ek) (r:Ek) (k:Int):ba (l++[r]) k=if r.ty=k then ba l k++[r] else ba l k:=by
  unfold ba;rw[List.filter_append];by_cases h:r.ty=k
  ·rw[if_pos h,arR (by simpa using h)]; rfl
  ·rw[if_neg h,List.filter_cons_of_neg (by simpa using h)]; simp
theorem Jg (l:List Ek):∀ (i:Nat),i≤l.length→∀ k,bL (iU l i) k=if ba (l.take i) k=[] then none else some (ba (l.take i) k)
  | 0,_,k=>by rw[arb]; rfl
  | i+1,hi,k=>by
    have ih:=Jg l i (by omega);have hg:(bL (iU l i) (l.getD i default).ty).getD []=ba (l.take i) (l.getD i default).ty:=by
      rw[ih];split
      ·rename_i h; rw[h]; rfl
      ·rfl
    rw[iU,Q9,hg,Al (by omega),acp];by_cases h:k=(l.getD i default).ty
    ·subst h;rw[if_pos rfl,if_pos rfl,if_neg (by simp)]
    ·rw[if_neg h,if_neg (show ¬ (l.getD i default).ty=k from fun e=>h e.symm),ih]
def EF (l:List Ek):List (Int×List Ek):=iU l l.length
theorem Jh (l:List Ek) (k:Int):bL (EF l) k=if ba l k=[] then none else some (ba l k):=by
  have:=Jg l l.length (ap3 _) k;rw[aqy] at this;exact this
theorem agn {l:List Ek} {k:Int} {x:List Ek} (h:(k,x)∈EF l):x=ba l k∧x≠[]:=by
  have:=HT (FS l _) h;rw[show bL (iU l l.length) k=_ from Jh l k] at this;split at this
  ·cases this
  ·rename_i h2; cases this; exact⟨rfl,h2⟩
theorem ago {l:List Ek} {k:Int} (h:ba l k≠[]):(k,ba l k)∈EF l:=TG (by rw[Jh,if_neg h])
def eT (l:List Ek):List (Int×D):=(EF l).map fun p=>(p.1,.sl (p.2.map bB))
def dW (l:List Ek):D:=.mp .i64 (eT l)
theorem Ji (l:List Ek) (k:Int):(bL (eT l) k).getD (.sl [])=.sl ((ba l k).map bB):=by
  unfold eT;rw[Ra (fun x:List Ek=>D.sl (x.map bB)),Jh];split
  ·rename_i h; rw[h]; rfl
  ·rfl
theorem Re {l:List Ek} {p:Int×D} (h:p∈eT l):p=(p.1,.sl ((ba l p.1).map bB))∧ba l p.1≠[]:=by
  obtain⟨⟨k,x⟩,h1,rfl⟩:=aqa.1 h;obtain⟨rfl,h2⟩:=agn h1;exact⟨rfl,h2⟩
theorem agp {l:List Ek} {k:Int} (h:ba l k≠[]):(k,D.sl ((ba l k).map bB))∈eT l:=aqa.2 ⟨_,ago h,rfl⟩
theorem yy:dW []=.mp .i64 []:=rfl
def ee:List (Int×List Ek)→Nat→List (Int×C)
  | [],_=>[]
  | p::r,j=>(p.1,.own (8*j+3) 3 0 p.2.length)::ee r (j+1)
theorem TH:∀ (es:List (Int×List Ek)) (b:Nat) (k:Int),bL (ee es b) k=none∧bL es k=none∨∃ j x,bL es k=some x∧es[j]?=some (k,x)∧bL (ee es b) k=some (.own (8*(b+j)+3) 3 0 x.length)∧∀ c,dD (ee es b) k c=((ee es b).set j (k,c))∧∀ y,dD es k y=es.set j (k,y)
  | [],_,_=>.inl ⟨rfl,rfl⟩
  | (y,u)::r,b,k=>by
    by_cases e:y=k
    ·subst e;refine .inr ⟨0,u,by rw[nT,if_pos rfl],rfl,by rw[ee,nT,if_pos rfl]; rfl,fun c=>⟨?_,fun z=>?_⟩⟩
     ·rw[ee,dD,if_pos rfl]; rfl
     ·rw[dD,if_pos rfl]; rfl
    ·rcases TH r (b+1) k with ⟨h1,h2⟩ | ⟨j,x,h1,h2,h3,h4⟩
     ·exact .inl ⟨by rw[ee,nT,if_neg e,h1],by rw[nT,if_neg e,h2]⟩
     ·refine .inr ⟨j+1,x,by rw[nT,if_neg e,h1],h2,?_,fun c=>⟨?_,fun z=>?_⟩⟩
      ·rw[ee,nT,if_neg e,h3,show b+1+j=b+(j+1) by omega]
      ·rw[ee,dD,if_neg e,(h4 c).1]; rfl
      ·rw[dD,if_neg e,(h4 c).2 z]; rfl
theorem GM {α:Type}:∀ {es:List (Int×α)} {k:Int} (v:α),bL es k=none→dD es k v=es++[(k,v)]
  | [],_,_,_=>rfl
  | (y,u)::r,k,v,h=>by
    rw[nT] at h;by_cases e:y=k
    ·rw[if_pos e] at h; cases h
    ·rw[if_neg e] at h;rw[dD,if_neg e,GM v h,aqE]
theorem Rf:∀ (es:List (Int×List Ek)) (b:Nat),(ee es b).length=es.length
  | [],_=>rfl
  | _::r,b=>by rw[ee,aqx,Rf r,aqx]
theorem yz:∀ (es:List (Int×List Ek)) (b j:Nat),(ee es b)[j]?=(es[j]?).map fun p=>(p.1,.own (8*(b+j)+3) 3 0 p.2.length)
  | [],_,_=>rfl
  | p::r,b,0=>rfl
  | p::r,b,j+1=>by rw[ee,aqR,yz r (b+1) j,aqR,show b+1+j=b+(j+1) by omega]
def jq (es:List (Int×List Ek)):aI:=fun id=>if id=1 then some (.mp .i64 (ee es 0)) else if id%8=3 then (es[id / 8]?).map fun p=>.row 3 (p.2.map bB) else none
def kO:Nat→Bool:=fun id=>decide (id=1) || decide (id%8=3)
theorem alO (es:List (Int×List Ek)):jq es 1=some (.mp .i64 (ee es 0)):=rfl
theorem CJ (es:List (Int×List Ek)) (j:Nat):jq es (8*j+3)=(es[j]?).map fun p=>.row 3 (p.2.map bB):=by
  unfold jq;rw[if_neg (by omega),if_pos (by omega),show (8*j+3) / 8=j by omega]
theorem Jj (j:Nat):kO (8*j)=false:=by
  unfold kO;rw[decide_eq_false (by omega),decide_eq_false (by omega)]; rfl
theorem TI (j:Nat):kO (8*j+3)=true:=by
  unfold kO;rw[decide_eq_true (show (8*j+3)%8=3 by omega),Bool.or_true]
theorem AK {es:List (Int×List Ek)} {id:Nat} {o:Ob} (h:jq es id=some o):(id=1∧o=.mp .i64 (ee es 0))∨∃ j p,id=8*j+3∧es[j]?=some p∧o=.row 3 (p.2.map bB):=by
  unfold jq at h;split at h
  ·rename_i e; cases h; exact .inl ⟨e,rfl⟩
  ·split at h
   ·obtain⟨p,h1,rfl⟩:=apV.1 h;exact .inr ⟨id / 8,p,by omega,h1,rfl⟩
   ·cases h
theorem agq {es:List (Int×List Ek)} {b i:Nat} (h:i∈(ee es b).flatMap fun p=>p.2.ids):∃ j,i=8*j+3:=by
  obtain⟨p,h1,h2⟩:=aqc.1 h;obtain⟨j,hj⟩:=List.getElem?_of_mem h1;rw[yz] at hj;obtain⟨q,_,rfl⟩:=apV.1 hj;have:i=8*(b+j)+3:=by simpa [C.ids] using h2
  exact⟨b+j,this⟩
theorem HU {σ:St} (g:Nat→Nat) {fl:List (Nat×V)} {es:List (Int×List Ek)} (h1:rm σ.f g fl) (hm:σ.h (g 1)=some (.mp .i64 ((ee es 0).map fun p=>(p.1,p.2.ren g)))) (hr:∀ j p,es[j]?=some p→σ.h (g (8*j+3))=some (.row 3 (p.2.map bB)))
    (hg1:∀ j,g 1≠g (8*j+3)) (hg2:∀ i j,i<es.length→j<es.length→g (8*i+3)=g (8*j+3)→i=j) (hf:(fl.flatMap fun p=>p.2.ids).all (fun i=>kO i)=true):fv σ ⟨bw fl,jq es,kO⟩:=by
  refine⟨⟨g,Ip (G9 h1),fun i o ho=>?_,fun i j hi hj e=>?_⟩,fun t i hi=>ap9.1 hf i (PK hi),fun i o ho=>?_⟩
  ·rcases AK ho with ⟨rfl,rfl⟩ | ⟨j,p,rfl,hp,rfl⟩
   ·exact hm
   ·exact hr j p hp
  ·obtain⟨oi,hi⟩:=aqe.1 hi;obtain⟨oj,hj⟩:=aqe.1 hj;rcases AK hi with ⟨rfl,_⟩ | ⟨a,p,rfl,hp,_⟩ <;> rcases AK hj with ⟨rfl,_⟩ | ⟨b,q,rfl,hq,_⟩
   ·rfl
   ·exact absurd e (hg1 b)
   ·exact absurd e.symm (hg1 a)
   ·rw[hg2 a b (aqd.1 hp).1 (aqd.1 hq).1 e]
  ·rcases AK ho with ⟨rfl,rfl⟩ | ⟨j,p,rfl,hp,rfl⟩
   ·refine⟨rfl,fun i hi=>?_⟩;obtain⟨j,rfl⟩:=agq (show i∈(ee es 0).flatMap fun p=>p.2.ids from hi);exact TI j
   ·exact⟨TI j,fun i hi=>by cases hi⟩
theorem Nc (es:List (Int×List Ek)):∀ (r:List (Int×List Ek)) (b:Nat),(∀ j p,r[j]?=some p→jq es (8*(b+j)+3)=some (.row 3 (p.2.map bB)))→qC (jq es) (ee r b)=some (r.map fun p=>(p.1,D.sl (p.2.map bB)))
  | [],_,_=>rfl
  | p::r,b,h=>by
    have h0:=h 0 p rfl;have ih:=Nc es r (b+1) fun j q hq=>by have:=h (j+1) q hq; rw[show b+(j+1)=b+1+j by omega] at this; exact this
    have hd:gm (jq es) (.own (8*b+3) 3 0 p.2.length)=some (.sl (p.2.map bB)):=by
      simp only[gm];rw[show b+0=b from rfl] at h0;rw[h0];simp[fZ,apX]
    simp only[ee,qC,hd,ih,D.one,if_true,apW]
theorem Y4 (es:List (Int×List Ek)):qC (jq es) (ee es 0)=some (es.map fun p=>(p.1,D.sl (p.2.map bB))) :=
  Nc es es 0 fun j p hp=>by rw[aqO,CJ,hp]; rfl




end Go.Proofs.YtnjhelpgohdajaaGreatDoor
