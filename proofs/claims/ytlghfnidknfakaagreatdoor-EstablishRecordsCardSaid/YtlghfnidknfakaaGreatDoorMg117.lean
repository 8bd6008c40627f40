/- Texts of one's own, merged: from: Layer 19,without code: rings of keys (as fields: an ID and a key),cookies,and what the functions return. Own work. -/
import Derived.Test.YtlghfnidknfakaaGreatDoorMg110
import Derived.Test.YtlghfnidknfakaaGreatDoorMg114
import Derived.Test.YtlghfnidknfakaaGreatDoorMg116
import Derived.Test.YtlghfnidknfakaaGreatDoorMg111
import Derived.Test.YtlghfnidknfakaaGreatDoorMg17
set_option linter.unusedVariables false
set_option linter.unusedSimpArgs false
namespace Go.Proofs.YtlghfnidknfakaaGreatDoor
open Go.RowKit
def bR (l:List Fd):D:=.agg [.sl (l.map ct)]
def Li (l:List Fd):Prop:=∀ i j,i<j→j<l.length→(l.getD i default).ty≠(l.getD j default).ty
def cO (l:List Fd):Prop:=1≤l.length∧l.length≤4∧(∀ f∈l,0≤f.ty∧f.ty≤4294967295∧f.da.length=32)∧(l.map Fd.ty).Nodup
instance (l:List Fd):Decidable (cO l):=by unfold cO; infer_instance
theorem vt {l:List Fd}:(l.map Fd.ty).Nodup↔Li l:=by
  unfold Li;rw[List.nodup_iff_pairwise_ne,List.pairwise_iff_getElem];constructor
  ·intro h i j hij hj;have:=h i j (by simp; omega) (by simp; omega) hij
   simpa [WB,Wz hj,Wz (show i<l.length by omega)] using this
  ·intro h i j hi hj hij;have hi':i<l.length:=by simpa using hi
   have hj':j<l.length:=by simpa using hj
   have:=h i j hij hj'
   simpa [WB,Wz hj',Wz hi'] using this
def oZ:List UInt8:=[115,101,99,116,105,109,101,32,115,116,97,114,116]
def rN:List UInt8:=[115,101,99,116,105,109,101,32,110,101,120,116]
def nW (seed:List UInt8):List UInt8:=gA seed oZ 32
def nX (key:List UInt8):List UInt8:=gA key rN 32
theorem PG (s:List UInt8):(nW s).length=32:=v8 _ _ _
theorem PH (s:List UInt8):(nX s).length=32:=v8 _ _ _
def iV (id:Int) (seed:List UInt8):Int:=if id<0∨4294967295<id then 4 else if seed.length≠32 then 5 else 0
def mf (id:Int) (seed:List UInt8):List Fd:=if iV id seed=0 then [⟨id,nW seed⟩] else []
def fw (l:List Fd):Int:=((l.getD 0 default).ty+1)%4294967296
def ki (l:List Fd):Fd:=⟨fw l,nX (l.getD 0 default).da⟩
def clash (l:List Fd):Bool:=(l.take 3).any fun f=>decide (f.ty=fw l)
def gW (l:List Fd):Int:=if cO l then (if clash l=true then 7 else 0) else 3
def kj (l:List Fd):List Fd:=if gW l=0 then ki l::l.take 3 else []
def fc (algo:Int) (up down:List UInt8):List UInt8:=aN algo.toNat 2++([0,0]++(up++down))
def ez (m:Fd):List UInt8:=aN m.ty.toNat 4
def dL (m:Fd) (algo:Int) (up down nonce:List UInt8):List UInt8:=ez m++(nonce++gL m.da [ez m,nonce] (fc algo up down))
def iy (l:List Fd) (algo:Int) (up down nonce:List UInt8):Int :=
  if cO l then (if algo<0∨65535<algo then 4 else if up.length≠32∨down.length≠32 then 5 else if nonce.length≠16 then 3 else 0) else 3
def mh (l:List Fd) (algo:Int) (up down nonce:List UInt8):List UInt8:=if iy l algo up down nonce=0 then dL (l.getD 0 default) algo up down nonce else []
def Lx (c:List UInt8):Nat:=if c.length≠104 then 0 else aX (aV c 0 4)
def zQ (m:Fd) (c:List UInt8):Int:=nV m.da [aV c 0 4,aV c 4 16] (c.drop 20)
def mi (m:Fd) (c:List UInt8):List UInt8:=zz m.da [aV c 0 4,aV c 4 16] (c.drop 20)
def zE (m:Fd) (c:List UInt8):Prop:=zQ m c=0∧(mi m c).getD 2 0=0∧(mi m c).getD 3 0=0
instance (m:Fd) (c:List UInt8):Decidable (zE m c):=by unfold zE; infer_instance
structure Wx where
  al:Int
  up:List UInt8
  dn:List UInt8
  ag:Int
theorem G1 (algo:Int) {up down:List UInt8} (h1:up.length=32) (h2:down.length=32):(fc algo up down).length=68:=by
  simp[fc,bW,h1,h2]
theorem PI {m:Fd} {algo:Int} {up down nonce:List UInt8} (hk:m.da.length=32) (i0:0≤m.ty) (i1:m.ty≤4294967295) (a0:0≤algo) (a1:algo≤65535) (h1:up.length=32) (h2:down.length=32) (hn:nonce.length=16) :
    (dL m algo up down nonce).length=104∧(Lx (dL m algo up down nonce):Int)=m.ty∧zE m (dL m algo up down nonce) ∧
      (aX (aV (mi m (dL m algo up down nonce)) 0 2):Int)=algo∧aV (mi m (dL m algo up down nonce)) 4 32=up∧aV (mi m (dL m algo up down nonce)) 36 32=down:=by
  have hp:=G1 algo h1 h2;have hi:(ez m).length=4:=bW _ _;have ha:dc m.da [ez m,nonce] ((fc algo up down).length:Int)=0:=Ez hk (by simp) (fun x hx=>by simp at hx; rcases hx with rfl | rfl <;> omega) (by omega);have hs:(gL m.da [ez m,nonce] (fc algo up down)).length=84:=by rw[v6 ha,WA,ku,q7,hp]
  have hl:(dL m algo up down nonce).length=104:=by
    unfold dL;simp only[WA,hi,hn,hs]
  have c1:aV (dL m algo up down nonce) 0 4=ez m:=by
    unfold dL aV;rw[X8];exact List.take_left' hi
  have c2:aV (dL m algo up down nonce) 4 16=nonce:=by
    have:=mH (ez m) nonce (gL m.da [ez m,nonce] (fc algo up down));rw[hi,hn] at this;exact this
  have c3:(dL m algo up down nonce).drop 20=gL m.da [ez m,nonce] (fc algo up down):=by
    unfold dL;rw[← W7];exact List.drop_left' (by simp[hi,hn])
  obtain⟨o1,o2⟩:=Po ha;rw[← v6 ha] at o1 o2;have x1:zQ m (dL m algo up down nonce)=0:=by unfold zQ; rw[c1,c2,c3]; exact o1
  have x2:mi m (dL m algo up down nonce)=fc algo up down:=by unfold mi; rw[c1,c2,c3]; exact o2
  have p2:fc algo up down=aN algo.toNat 2++([0,0]++(up++down)):=rfl;refine⟨hl,?_,⟨x1,?_,?_⟩,?_,?_,?_⟩
  ·unfold Lx;rw[if_neg (by omega),c1];unfold ez;rw[get_put 4 (by decide)];omega
  ·rw[x2,p2,WB,Xb (by simp[bW])];simp[bW]
  ·rw[x2,p2,WB,Xb (by simp[bW])];simp[bW]
  ·rw[x2,p2];have:=mH [] (aN algo.toNat 2) ([0,0]++(up++down));rw[XP,bW] at this;rw[show ([]:List UInt8).length=0 from rfl] at this;rw[this,get_put 2 (by decide)];omega
  ·rw[x2,p2];have:=mH (aN algo.toNat 2++[0,0]) up down;rw[W7,WA,bW,h1] at this;exact this
  ·rw[x2,p2];have:=mH (aN algo.toNat 2++([0,0]++up)) down [];rw[WS,W7,W7,WA,WA,bW,h1,h2] at this;exact this
def qg (seed:List UInt8):Nat→List UInt8
  | 0=>nW seed
  | n+1=>nX (qg seed n)
theorem RD (seed:List UInt8) (n:Nat):(qg seed n).length=32:=by
  cases n
  ·exact PG _
  ·exact PH _
def dt (s:Nat) (seed:List UInt8) (t:Nat):List Fd:=(List.range (min 4 (t+1))).map fun i=>⟨((s+(t-i):Nat):Int),qg seed (t-i)⟩
theorem mS (s:Nat) (seed:List UInt8) (t:Nat):(dt s seed t).length=min 4 (t+1):=by simp[dt]
theorem xT {s:Nat} {seed:List UInt8} {t i:Nat} (h:i<min 4 (t+1)):(dt s seed t).getD i default=⟨((s+(t-i):Nat):Int),qg seed (t-i)⟩:=by
  unfold dt;rw[WB,Xv,Yi h];rfl
theorem Jo {s:Nat} {seed:List UInt8} {t:Nat} (h:s+t≤4294967295):cO (dt s seed t):=by
  have hl:=mS s seed t;refine⟨by omega,by omega,?_,?_⟩
  ·intro f hf;obtain⟨i,hi,rfl⟩:=WZ.1 hf;exact⟨by show (0:Int)≤((s+(t-i):Nat):Int); omega,by show ((s+(t-i):Nat):Int)≤4294967295; omega,RD _ _⟩
  ·rw[vt];intro i j hij hj;rw[hl] at hj;rw[xT (by omega),xT (by omega)]
   show ((s+(t-i):Nat):Int)≠((s+(t-j):Nat):Int)
   omega
theorem NS (s:Nat) (seed:List UInt8) (h:s≤4294967295) (hs:seed.length=32):iV s seed=0∧mf s seed=dt s seed 0:=by
  have e:iV s seed=0:=by unfold iV; rw[if_neg (by omega),if_neg (by omega)]
  exact⟨e,by unfold mf; rw[if_pos e]; rfl⟩
theorem PK {s:Nat} {seed:List UInt8} {t:Nat} (h:s+t<4294967295):gW (dt s seed t)=0∧kj (dt s seed t)=dt s seed (t+1):=by
  have hl:=mS s seed t;have h0:=xT (s:=s) (seed:=seed) (t:=t) (i:=0) (by omega);have hn:fw (dt s seed t)=((s+(t+1):Nat):Int):=by
    unfold fw;rw[h0]
    show (((s+(t-0):Nat):Int)+1)%4294967296=_
    omega
  have hc:clash (dt s seed t)=false:=by
    unfold clash;rw[XB];intro f hf;obtain⟨i,hi,rfl⟩:=WZ.1 (XM hf);rw[hn,decide_eq_false (by show ((s+(t-i):Nat):Int)≠((s+(t+1):Nat):Int); omega)];decide
  have e:gW (dt s seed t)=0:=by unfold gW; rw[if_pos (Jo (by omega)),if_neg (by rw[hc]; decide)]
  refine⟨e,?_⟩;unfold kj;rw[if_pos e];have hx:ki (dt s seed t)=⟨((s+(t+1):Nat):Int),qg seed (t+1)⟩:=by
    unfold ki;rw[hn,h0];rfl
  rw[hx];refine List.ext_getElem (by simp[mS]; omega) fun i i1 i2=>?_
  have hi:i<min 4 (t+1+1):=by rw[mS] at i2; exact i2
  cases i with
  | zero=>simp[dt]
  | succ i =>
    rw[List.getElem_cons_succ,XI];simp only[dt,W4,XS];rw[show t+1-(i+1)=t-i by omega]
def li (b:List UInt8) (i:Nat):Int:=(aX (aV b (2*i) 2):Int)
def gD (b:List UInt8) (k:Nat):List Int:=(List.range k).map (li b)
def i5 (b:List UInt8):List Int:=gD b (b.length / 2)
def dB (b:List UInt8):List Int:=if b.length%2=0 then i5 b else []
theorem EN (b:List UInt8) (k:Nat):gD b (k+1)=gD b k++[li b k]:=by simp[gD,Ye]
theorem xg (b:List UInt8) (k:Nat):(gD b k).length=k:=by simp[gD]
theorem RE (b:List UInt8):(i5 b).length=b.length / 2:=xg _ _
theorem TQ {b:List UInt8} {i:Nat} (h:2*i+2≤b.length):0≤li b i∧li b i≤65535:=by
  have:=(iD 2 (aV b (2*i) 2) (kr (by omega)) (by decide)).1;unfold li;omega
def aR (l:List Int):List UInt8:=l.flatMap fun n=>aN n.toNat 2
theorem rj (n:Int) (l:List Int):aR (n::l)=aN n.toNat 2++aR l:=rfl
theorem G2 (a b:List Int):aR (a++b)=aR a++aR b:=by simp[aR]
theorem fi (l:List Int):(aR l).length=2*l.length:=by
  induction l with
  | nil=>rfl
  | cons n l ih=>rw[rj,WA,bW,ih,Xx]; omega
def br (l:List Int):Prop:=∀ n∈l,0≤n∧n≤65535
instance (l:List Int):Decidable (br l):=by unfold br; infer_instance
theorem PL {n:Int} {l:List Int} (h:br (n::l)):(0≤n∧n≤65535)∧br l:=⟨h n W6,fun x hx=>h x (WW _ hx)⟩
theorem PM {x:List UInt8} (hx:x.length=2) (b:List UInt8):i5 (x++b)=(aX x:Int)::i5 b:=by
  have hl:(x++b).length / 2=b.length / 2+1:=by rw[WA]; omega
  unfold i5 gD;rw[hl,List.range_succ_eq_map,WH,Yy]
  congr 1
  ·unfold li;rw[show aV (x++b) (2*0) 2=x from List.take_left' hx]
  ·refine Xj fun i _=>?_
   show (aX (aV (x++b) (2*(i+1)) 2):Int)=(aX (aV b (2*i) 2):Int)
   rw[show 2*(i+1)=x.length+2*i by omega,Qw]
theorem RF {l:List Int} (h:br l):i5 (aR l)=l:=by
  induction l with
  | nil=>rfl
  | cons n l ih =>
    obtain⟨h1,h2⟩:=PL h;rw[rj,PM (bW _ _),ih h2,get_put 2 (by decide)]
    congr 1; omega
theorem kC {l:List Int} (h:br l):dB (aR l)=l:=by
  unfold dB;rw[if_pos (by rw[fi]; omega),RF h]
def mj (l:List Ek) (k:Int) (i:Nat):List Nat:=(List.range i).filter fun j=>decide ((l.getD j default).ty=k)
def bL (l:List Ek) (k:Int):List Nat:=mj l k l.length
def au (l:List Ek) (k:Int):List Ek:=l.filter fun r=>decide (r.ty=k)
theorem RG {l:List Ek} {k:Int} {i:Nat} (h:(l.getD i default).ty=k):mj l k (i+1)=mj l k i++[i]:=by
  unfold mj;rw[Ye,List.filter_append]
  congr 1
  rw[List.filter_cons,if_pos (decide_eq_true h),List.filter_nil]
theorem TR {l:List Ek} {k:Int} {j:Nat} (h:j<(bL l k).length):(bL l k).getD j 0<l.length∧(l.getD ((bL l k).getD j 0) default).ty=k:=by
  have hm:(bL l k).getD j 0∈bL l k:=by
    rw[WB,Wz h];exact W9 h
  obtain⟨h1,h2⟩:=XZ.1 hm;exact⟨X9.1 h1,of_decide_eq_true h2⟩
theorem My (l:List Ek):(List.range l.length).map (fun i=>l.getD i default)=l:=by
  refine List.ext_getElem (by simp) fun i h1 h2=>?_
  rw[W4,XS,WB,Wz h2]; rfl
theorem G3 (l:List Ek) (k:Int):(bL l k).map (fun i=>l.getD i default)=au l k:=by
  have:au l k=((List.range l.length).map (fun i=>l.getD i default)).filter fun r=>decide (r.ty=k):=by rw[My]; rfl
  rw[this,List.filter_map];rfl
theorem bX (l:List Ek) (k:Int):(bL l k).length=(au l k).length:=by rw[← G3,WJ]
theorem kD {l:List Ek} {k:Int} {j:Nat} (h:j<(bL l k).length):l.getD ((bL l k).getD j 0) default=(au l k).getD j default:=by
  rw[← G3,WB (l:=(bL l k).map _),Xv,Wz h,WB (l:=bL l k),Wz h];rfl
def oe (r:Ek):Prop:=((r.ty=1∨r.ty=4)→r.bo.length%2=0)∧(r.ty=7→r.bo.length=2)
instance (r:Ek):Decidable (oe r):=by unfold oe; infer_instance
def zR (l:List Ek):Prop:=(bL l 0).length=1∧(bL l 0).getD 0 0=l.length-1∧(l.getD ((bL l 0).getD 0 0) default).bo.length=0∧(bL l 1).length≤1∧(bL l 4).length≤1∧(bL l 6).length≤1∧(bL l 7).length≤1
instance (l:List Ek):Decidable (zR l):=by unfold zR; infer_instance
def km (l:List Ek):Prop:=zR l∧∀ r∈l,oe r
instance (l:List Ek):Decidable (km l):=by unfold km; infer_instance
def ec (b:List UInt8):Prop:=cN b=0∧km (aK b)
instance (b:List UInt8):Decidable (ec b):=by unfold ec; infer_instance
def gX (b:List UInt8):List Ek:=if ec b then aK b else []
def gE (l:List Ek):Bool:=l.any fun r=>r.cr&&decide (7<r.ty)
def cJ (x y:List Int):Int:=if ¬ (br x∧br y) then 4 else if x.length=0∨16<x.length∨y.length=0∨16<y.length then 8 else 0
def dd (x y:List Int):List Ek:=[⟨true,1,aR x⟩,⟨true,4,aR y⟩,⟨true,0,[]⟩]
def bK (x y:List Int):List UInt8:=if cJ x y=0 then aY (dd x y) else []
def de (x y:List Int):Option Int:=x.find? fun v=>decide (v∈y)
def Vx:List UInt8:=[115,101,99,116,105,109,101,32,107,101,121,115]
def lj (p a:Int) (z:UInt8):List UInt8:=aR [p,a]++[z]
def gg (c:Ch) (p a:Int):Int:=if ¬ dA c then 3 else if ¬ br [p,a] then 4 else 0
def bw (c:Ch) (p a:Int) (z:UInt8):List UInt8:=if gg c p a=0 then gA c.se (ka nG Vx (lj p a z)) 32 else []
theorem mT {c:Ch} {p a:Int} {z:UInt8} (h:gg c p a=0):(bw c p a z).length=32:=by unfold bw; rw[if_pos h]; exact v8 _ _ _
structure dQ where
  pr:List Int
  al:List Int
  ho:ByteArray
  pt:Int
def eV (p:dQ):D:=.agg [.sl (p.pr.map zD),.sl (p.al.map zD),.str p.ho,.int .i64 p.pt]
def gF (code:Int):List UInt8:=aY [⟨true,2,aR [code]⟩,⟨true,0,[]⟩]
def lk (b:List UInt8):Prop:=ec b∧(bL (aK b) 1).length≠0∧(bL (aK b) 4).length≠0∧(bL (aK b) 2).length+(bL (aK b) 3).length+(bL (aK b) 5).length=0
instance (b:List UInt8):Decidable (lk b):=by unfold lk; infer_instance
def ml (ns:List (List UInt8)) (ho:ByteArray):Prop:=1≤ns.length∧ns.length≤8∧ho.size≤255∧∀ n∈ns,n.length=16
instance (ns:List (List UInt8)) (ho:ByteArray):Decidable (ml ns ho):=by unfold ml; infer_instance
def gY (l:List Ek) (k:Int):List Int:=dB (l.getD ((bL l k).getD 0 0) default).bo
def fQ (r:List Fd) (c:Ch) (v a:Int) (ns:List (List UInt8)):List Ek:=ns.map fun n=>⟨false,5,mh r a (bw c v a 0) (bw c v a 1) n⟩
def gG (p:dQ):List Ek:=(if p.ho.size=0 then [] else [⟨true,6,p.ho.data.toList⟩])++((if p.pt=0 then [] else [⟨true,7,aR [p.pt]⟩])++[⟨true,0,[]⟩])
def fe (p:dQ) (r:List Fd) (c:Ch) (x y:List Int) (ns:List (List UInt8)):List Ek :=
  match de x p.pr with
  | none=>[⟨true,1,[]⟩]
  | some v=>⟨true,1,aR [v]⟩::match de y p.al with
    | none=>[⟨true,4,[]⟩]
    | some a=>⟨true,4,aR [a]⟩::fQ r c v a ns
def eN (p:dQ) (r:List Fd) (c:Ch):Int:=if ¬ (dA c∧cO r) then 3 else if ¬ (br p.pr∧br p.al∧br [p.pt]) then 4 else 0
def i6 (p:dQ) (r:List Fd) (c:Ch) (b:List UInt8) (ns:List (List UInt8)):List UInt8 :=
  if ¬ eN p r c=0 then [] else if ¬ lk b then gF 1 else if gE (aK b)=true then gF 0 else if ¬ ml ns p.ho then gF 2 else aY (fe p r c (gY (aK b) 1) (gY (aK b) 4) ns++gG p)
structure uc where
  pr:Int
  al:Int
  up:List UInt8
  dn:List UInt8
  ck:List (List UInt8)
  ho:List UInt8
  pt:Int
def oh (t:uc):D:=.agg [.int .i64 t.pr,.int .i64 t.al,.sl (t.up.map bD),.sl (t.dn.map bD),.sl (t.ck.map fun l=>D.sl (l.map bD)),.str ⟨t.ho.toArray⟩,.int .i64 t.pt]
def om:uc:=⟨0,0,[],[],[],[],0⟩
def gZ (q:List UInt8):List Int:=dB ((aK q).getD 0 default).bo
def g8 (q:List UInt8):List Int:=dB ((aK q).getD 1 default).bo
def iz (q:List UInt8):Prop:=ec q∧(aK q).length=3∧cJ (gZ q) (g8 q)=0∧bK (gZ q) (g8 q)=q
instance (q:List UInt8):Decidable (iz q):=by unfold iz; infer_instance
def eP (l:List Ek) (k:Int) (x:List Int):Option Int:=if (bL l k).length=1 then (if (gY l k).length=1∧(gY l k).getD 0 0∈x then some ((gY l k).getD 0 0) else none) else none
def i7 (l:List Ek):List (List UInt8):=(au l 5).map (·.bo)
def ee (c:Ch) (q b:List UInt8):Int :=
  if ¬ dA c then 3 else if ¬ iz q then 3 else if ¬ ec b then 3 else if gE (aK b)=true then 11 else if (bL (aK b) 2).length≠0 then 7
  else if ¬ ((eP (aK b) 1 (gZ q)).isSome∧(eP (aK b) 4 (g8 q)).isSome∧(bL (aK b) 5).length≠0) then 10
  else if 8<(bL (aK b) 5).length then 8 else if ¬ ∀ x∈i7 (aK b),x.length=104 then 3 else 0
def oo (l:List Ek):List UInt8:=if (bL l 6).length=1 then (l.getD ((bL l 6).getD 0 0) default).bo else []
def oq (l:List Ek):Int:=if (bL l 7).length=1 then (aX (l.getD ((bL l 7).getD 0 0) default).bo:Int) else 0
def mm (c:Ch) (q b:List UInt8):uc :=
  if ee c q b=0 then
    ⟨(eP (aK b) 1 (gZ q)).getD 0,(eP (aK b) 4 (g8 q)).getD 0,bw c ((eP (aK b) 1 (gZ q)).getD 0) ((eP (aK b) 4 (g8 q)).getD 0) 0,bw c ((eP (aK b) 1 (gZ q)).getD 0) ((eP (aK b) 4 (g8 q)).getD 0) 1,i7 (aK b),oo (aK b),oq (aK b)⟩
  else om
theorem Jv {m:Nat}:∀ {l:List Ek},(∀ r∈l,r.bo.length≤m)→(aY l).length≤l.length*(m+4)
  | [],_=>WI _
  | r::l,h=>by
    have ih:=Jv fun x hx=>h x (WW r hx)
    have h1:=h r W6;rw[lB,WA,lD,Xx,Xf,Nat.one_mul];omega
theorem tm {l:List Ek} (h:∀ r∈l,0≤r.ty∧r.ty≤7∧r.bo.length≤255) (hl:l.length≤64):cx l=0∧dX l=aY l:=by
  have h1:=Jv (m:=255) fun r hr=>(h r hr).2.2
  exact xC (fun r hr=>by obtain⟨a,b,c⟩:=h r hr; exact xB a (by omega) (by omega)) hl (by omega)
theorem kF (k:Int):au [] k=[]:=rfl
theorem mU (a b:List Ek) (k:Int):au (a++b) k=au a k++au b k:=List.filter_append a b
theorem tn {c:Bool} {t:Int} {b:List UInt8} {l:List Ek} {k:Int} (h:t=k):au (⟨c,t,b⟩::l) k=⟨c,t,b⟩::au l k:=by
  unfold au;rw[List.filter_cons,if_pos (decide_eq_true h)]
theorem gN {c:Bool} {t:Int} {b:List UInt8} {l:List Ek} {k:Int} (h:t≠k):au (⟨c,t,b⟩::l) k=au l k:=by
  unfold au;rw[List.filter_cons,if_neg (fun q=>h (of_decide_eq_true q))]
theorem fV {c:Bool} {t:Int} {b:List UInt8} (h1:0≤t∧t≤7) (h2:b.length≤255):0≤(⟨c,t,b⟩:Ek).ty∧(⟨c,t,b⟩:Ek).ty≤7∧(⟨c,t,b⟩:Ek).bo.length≤255:=⟨h1.1,h1.2,h2⟩
theorem xY {c:Bool} {t:Int} {b:List UInt8} (h:t≠7) (h2:t=1∨t=4→b.length%2=0):oe ⟨c,t,b⟩:=⟨h2,fun q=>absurd q h⟩
theorem RI {l:List Ek} {k:Int} (h:∀ r∈l,r.ty=k):au l k=l:=List.filter_eq_self.2 fun r hr=>decide_eq_true (h r hr)
theorem T1 {l:List Ek} {k:Int} (h:∀ r∈l,r.ty≠k):au l k=[]:=List.filter_eq_nil_iff.2 fun r hr q=>h r hr (of_decide_eq_true q)
theorem T2 {i:List Ek} {e:Ek} {k:Int} (h:au i k=[]) (he:e.ty=k):bL (i++[e]) k=[i.length]:=by
  have hl:(i++[e]).length=i.length+1:=by simp
  have hg:(i++[e]).getD i.length default=e:=by simp[WB]
  have h0:mj (i++[e]) k i.length=[]:=by
    have h1:mj (i++[e]) k i.length=mj i k i.length:=by
      refine List.filter_congr fun j hj=>?_
      have hj:=X9.1 hj;rw[WB,Xl hj,← WB]
    rw[h1];have:=bX i k;rw[h] at this;exact Xa.1 this
  unfold bL;rw[hl,RG (by rw[hg]; exact he),h0]; rfl
theorem Jw {i:List Ek} (h0:au i 0=[]) (h1:(au i 1).length≤1) (h4:(au i 4).length≤1) (h6:(au i 6).length≤1) (h7:(au i 7).length≤1) (hb:∀ r∈i,oe r):km (i++[⟨true,0,[]⟩]):=by
  have e:=T2 (e:=⟨true,0,[]⟩) h0 rfl;have en:∀ k:Int,(0:Int)≠k→au (i++[⟨true,0,[]⟩]) k=au i k:=fun k hk=>by rw[mU,gN hk,kF,WS]
  refine⟨⟨by rw[e]; rfl,?_,?_,?_,?_,?_,?_⟩,fun r hr=>?_⟩
  ·rw[e]; simp
  ·rw[e]
   show ((i++[(⟨true,0,[]⟩:Ek)]).getD i.length default).bo.length=0
   simp[WB]
  ·rw[bX,en 1 (by decide)]; exact h1
  ·rw[bX,en 4 (by decide)]; exact h4
  ·rw[bX,en 6 (by decide)]; exact h6
  ·rw[bX,en 7 (by decide)]; exact h7
  ·rcases WO.1 hr with h | h
   ·exact hb r h
   ·rw[WG.1 h]; exact xY (by decide) fun _=>rfl
theorem xZ {l:List Ek} {k:Int} {r:Ek} (h:au l k=[r]):gY l k=dB r.bo:=by
  have hl:(bL l k).length=1:=by rw[bX,h]; rfl
  unfold gY;rw[kD (by omega),h]; rfl
theorem p9 {x y:List Int} (h:cJ x y=0):br x∧br y∧x.length≠0∧x.length≤16∧y.length≠0∧y.length≤16:=by
  unfold cJ at h;by_cases h1:br x∧br y
  ·rw[if_neg (not_not_intro h1)] at h;by_cases h2:x.length=0∨16<x.length∨y.length=0∨16<y.length
   ·rw[if_pos h2] at h; exact absurd h (by decide)
   ·exact⟨h1.1,h1.2,by omega,by omega,by omega,by omega⟩
  ·rw[if_pos h1] at h; exact absurd h (by decide)
theorem x5 {x y:List Int} (h:cJ x y=0):cx (dd x y)=0∧dX (dd x y)=aY (dd x y):=by
  obtain⟨_,_,_,h1,_,h2⟩:=p9 h;refine tm (fun r hr=>?_) (show 3≤64 by decide);unfold dd at hr;rcases WR.1 hr with rfl | hr
  ·exact fV (by decide) (by rw[fi]; omega)
  ·rcases WR.1 hr with rfl | hr
   ·exact fV (by decide) (by rw[fi]; omega)
   ·rw[WG.1 hr]; exact fV (by decide) (by decide)
theorem yW {x y:List Int} (h:cJ x y=0):cN (bK x y)=0∧aK (bK x y)=dd x y∧ec (bK x y):=by
  have e:bK x y=aY (dd x y):=if_pos h;obtain⟨q1,q2⟩:=yy (x5 h).1;rw[e];refine⟨q1,q2,q1,?_⟩;rw[q2];have n:∀ (k:Int),(1:Int)≠k→(4:Int)≠k→au [(⟨true,1,aR x⟩:Ek),⟨true,4,aR y⟩] k=[]:=fun k h1 h2=>by rw[gN h1,gN h2,kF]
  refine Jw (i:=[⟨true,1,aR x⟩,⟨true,4,aR y⟩]) (n 0 (by decide) (by decide)) ?_ ?_ ?_ ?_ ?_
  ·rw[tn rfl,gN (by decide),kF]; exact WM _
  ·rw[gN (by decide),tn rfl,kF]; exact WM _
  ·rw[n 6 (by decide) (by decide)]; exact WI _
  ·rw[n 7 (by decide) (by decide)]; exact WI _
  ·intro r hr;rcases WR.1 hr with rfl | hr
   ·exact xY (by decide) fun _=>by rw[fi]; omega
   ·rw[WG.1 hr]; exact xY (by decide) fun _=>by rw[fi]; omega
theorem KH (x y:List Int):au (dd x y) 1=[⟨true,1,aR x⟩]∧au (dd x y) 4=[⟨true,4,aR y⟩]∧∀ k:Int,(1:Int)≠k→(4:Int)≠k→(0:Int)≠k→au (dd x y) k=[]:=by
  unfold dd;refine⟨?_,?_,fun k h1 h2 h3=>?_⟩
  ·rw[tn rfl,gN (by decide),gN (by decide),kF]
  ·rw[gN (by decide),tn rfl,gN (by decide),kF]
  ·rw[gN h1,gN h2,gN h3,kF]
theorem Wn {x y:List Int} (h:cJ x y=0):lk (bK x y)∧gE (aK (bK x y))=false∧gY (aK (bK x y)) 1=x∧gY (aK (bK x y)) 4=y:=by
  obtain⟨hx,hy,_⟩:=p9 h;obtain⟨q1,q2,q3⟩:=yW h;obtain⟨a1,a4,an⟩:=KH x y;unfold lk;rw[q2];refine⟨⟨q3,?_,?_,?_⟩,rfl,?_,?_⟩
  ·rw[bX,a1]; exact Nat.one_ne_zero
  ·rw[bX,a4]; exact Nat.one_ne_zero
  ·rw[bX,bX,bX,an 2 (by decide) (by decide) (by decide),an 3 (by decide) (by decide) (by decide),an 5 (by decide) (by decide) (by decide)]; rfl
  ·rw[xZ a1,kC hx]
  ·rw[xZ a4,kC hy]
theorem Lj {x y:List Int} (h:cJ x y=0):iz (bK x y)∧gZ (bK x y)=x∧g8 (bK x y)=y:=by
  obtain⟨hx,hy,_⟩:=p9 h;obtain⟨q1,q2,q3⟩:=yW h;have ex:gZ (bK x y)=x:=by
    unfold gZ;rw[q2];exact kC hx
  have ey:g8 (bK x y)=y:=by
    unfold g8;rw[q2];exact kC hy
  refine⟨⟨q3,by rw[q2]; rfl,by rw[ex,ey]; exact h,by rw[ex,ey]⟩,ex,ey⟩
theorem nh {x y:List Int} {v:Int} (h:de x y=some v):v∈x∧v∈y:=by
  obtain⟨h1,h2⟩:=List.find?_eq_some_iff_append.1 h;obtain⟨u,w,rfl,_⟩:=h2;exact⟨WT _ W6,of_decide_eq_true h1⟩
theorem Jy {l:List Ek} {k:Int} {x:List Int} {r:Ek} (h:au l k=[r]):eP l k x=if (dB r.bo).length=1∧(dB r.bo).getD 0 0∈x then some ((dB r.bo).getD 0 0) else none:=by
  unfold eP;rw[bX,h,if_pos (show [r].length=1 from rfl),xZ h]
theorem G5 {l:List Ek} {k v:Int} {x:List Int} {c:Bool} (h:au l k=[⟨c,k,aR [v]⟩]) (hv:v∈x) (hs:0≤v∧v≤65535):eP l k x=some v:=by
  have e:dB (aR [v])=[v]:=kC fun n hn=>by rw[WG.1 hn]; exact hs
  rw[Jy h];dsimp only;rw[e,if_pos ⟨rfl,hv⟩];rfl
theorem EP {l:List Ek} {k:Int} {x:List Int} {c:Bool} (h:au l k=[⟨c,k,[]⟩]):eP l k x=none:=by
  have e:dB (⟨c,k,[]⟩:Ek).bo=[]:=kC (l:=[]) fun n hn=>by cases hn
  rw[Jy h,e,if_neg (fun q=>absurd q.1 (by decide))]
theorem RJ (r:List Fd) (c:Ch) (v a:Int) (ns:List (List UInt8)):∀ e∈fQ r c v a ns,e.ty=5∧e.cr=false:=fun e he=>by
  obtain⟨n,_,rfl⟩:=WZ.1 he;exact⟨rfl,rfl⟩
open IntWalk
def ij (f:Fd):Prop:=0≤f.ty∧f.ty≤4294967295∧f.da.length=32
theorem JC {l:List Fd} (h1:1≤l.length) (h2:l.length≤4) (h3:∀ i,i<l.length→ij (l.getD i default)∧∀ k,k<i→(l.getD k default).ty≠(l.getD i default).ty):cO l:=by
  refine⟨h1,h2,fun f hf=>?_,vt.2 fun i j hij hj=>(h3 j hj).2 i hij⟩;obtain⟨i,hi,rfl⟩:=Xh hf;have:=(h3 i hi).1;rw[WB,Wz hi] at this;exact this
theorem lM {l:List Fd} (h:cO l) {i:Nat} (hi:i<l.length):ij (l.getD i default)∧∀ k,k<i→(l.getD k default).ty≠(l.getD i default).ty :=
  ⟨h.2.2.1 _ (EM hi),fun k hk=>vt.1 h.2.2.2 k i hk hi⟩
def nY (l:List Fd) (i:Nat):St:=⟨aQ [(1,.w (.c (.rp [.sl (l.map ct)]))),(3,.w (.c (.d (.int .i64 (i:Int)))))],hL [],uL []⟩
def tW (l:List Fd) (i k:Nat):St:=⟨aQ [(1,.w (.c (.rp [.sl (l.map ct)]))),(3,.w (.c (.d (.int .i64 (i:Int))))),(4,.w (.c (.d (.int .i64 (k:Int)))))],hL [],uL []⟩
def qH:aM := .seq (.seq (.reg [oM 48 4,oM 49 3,oO 50 (.bin .lss (.t 48) (.t 49))]) (.cond (.t 50) (.skip) (.exit 2))) (.seq (.block 3 (.seq (.reg [oO 53 (.fieldAddr 0 (.t 1)),oO 54 (.load .sc (.t 53)),oM 55 4,oO 56 (.idxSl 2 (.t 54) (.t 55)),oO 57 (.fieldAddr 0 (.t 56)),oO 58 (.load .sc (.t 57)),oO 59 (.fieldAddr 0 (.t 1)),oO 60 (.load .sc (.t 59)),oM 61 3,oO 62 (.idxSl 2 (.t 60) (.t 61)),oO 63 (.fieldAddr 0 (.t 62)),oO 64 (.load .sc (.t 63)),oO 65 (.bin .eql (.t 58) (.t 64))]) (.cond (.t 65) (.seq (.reg [oO 2 (.mv (.k (.c (.d (.bool false)))))]) (.ret)) (.skip)))) (.reg [oM 51 4,oO 52 (.bin .add (.t 51) (kI 1)),oM 4 52]))
def mD:aM := .seq (.seq (.reg [oM 15 3,oO 16 (.fieldAddr 0 (.t 1)),oO 17 (.load .sc (.t 16)),oO 18 (.len (.t 17)),oO 19 (.bin .lss (.t 15) (.t 18))]) (.cond (.t 19) (.skip) (.exit 0))) (.seq (.block 1 (.seq (.seq (.reg [oO 22 (.fieldAddr 0 (.t 1)),oO 23 (.load .sc (.t 22)),oM 24 3,oO 25 (.idxSl 2 (.t 23) (.t 24)),oO 26 (.fieldAddr 0 (.t 25)),oO 27 (.load .sc (.t 26)),oO 28 (.bin .lss (.t 27) (kI 0)),oM 29 28,oG 30 (.fieldAddr 0 (.t 1)) 29 false,oG 31 (.load .sc (.t 30)) 29 false,oG 32 (.mv (.t 3)) 29 false,oG 33 (.idxSl 2 (.t 31) (.t 32)) 29 false,oG 34 (.fieldAddr 0 (.t 33)) 29 false,oG 35 (.load .sc (.t 34)) 29 false,oG 36 (.bin .gtr (.t 35) (kI 4294967295)) 29 false,oO 37 (.pick (.t 29) (.k (.c (.d (.bool true)))) (.t 36)),oM 38 37,oG 39 (.fieldAddr 0 (.t 1)) 38 false,oG 40 (.load .sc (.t 39)) 38 false,
 oG 41 (.mv (.t 3)) 38 false,oG 42 (.idxSl 2 (.t 40) (.t 41)) 38 false,oG 43 (.fieldAddr 1 (.t 42)) 38 false,oG 44 (.load .sc (.t 43)) 38 false,oG 45 (.len (.t 44)) 38 false,oG 46 (.bin .neq (.t 45) (kI 32)) 38 false,oO 47 (.pick (.t 38) (.k (.c (.d (.bool true)))) (.t 46))]) (.cond (.t 47) (.seq (.reg [oO 2 (.mv (.k (.c (.d (.bool false)))))]) (.ret)) (.skip))) (.seq (.reg [oO 4 (.mv (kI 0))]) (.block 2 (.loop qH))))) (.reg [oM 20 3,oO 21 (.bin .add (.t 20) (kI 1)),oM 3 21]))
def rO:aE:=⟨1,66,.seq (.reg [oO 1 (.box .roBox (.t 0)),oO 2 (.mv (.k (.c (.d (.bool false)))))]) (.seq (.seq (.reg [oO 5 (.fieldAddr 0 (.t 1)),oO 6 (.load .sc (.t 5)),oO 7 (.len (.t 6)),oO 8 (.bin .lss (.t 7) (kI 1)),oM 9 8,oG 10 (.fieldAddr 0 (.t 1)) 9 false,oG 11 (.load .sc (.t 10)) 9 false,oG 12 (.len (.t 11)) 9 false,oG 13 (.bin .gtr (.t 12) (kI 4)) 9 false,oO 14 (.pick (.t 9) (.k (.c (.d (.bool true)))) (.t 13))]) (.cond (.t 14) (.seq (.reg [oO 2 (.mv (.k (.c (.d (.bool false)))))]) (.ret)) (.skip))) (.seq (.seq (.reg [oO 3 (.mv (kI 0))]) (.block 0 (.loop mD))) (.seq (.reg [oO 2 (.mv (.k (.c (.d (.bool true)))))]) (.ret)))),[(2,none)]⟩
theorem RO:aC Tryz.prog { own:=[],comp:=[],frz:=[],nils:=[] } Tryz.f73=some rO:=by kernel_rfl
set_option maxHeartbeats 3200000 in
theorem Ua (G:ah) (l:List Fd) (hl:l.length≤9223372036854775807):ak Tryz.prog G 73 [bR l] (.w (.c (.d (.bool (decide (cO l)))))):=by
  refine aG Tryz.func73 RO rfl rfl ?_;unfold bR;rcases Xd l.length 1 with h1 | h1
  ·have hno:¬ cO l:=fun h=>by have:=h.1; omega
   rw[decide_eq_false hno];simp only[rO,af,ae,aa,seval,iteOmega,toNatUp];exact aI
  ·rcases Xd 4 l.length with h4 | h4
   ·have hno:¬ cO l:=fun h=>by have:=h.2.1; omega
    have g4:((l.length:Int)>4)=True:=eq_true (by omega);rw[decide_eq_false hno];simp only[rO,af,ae,aa,seval,iteOmega,toNatUp,g4];exact aI
   ·have g4:((l.length:Int)>4)=False:=eq_false (by omega);simp only[rO,af,ae,aa,seval,iteOmega,toNatUp,g4];refine ba (nY l) (fun i=>l.length-i) (fun i=>i≤l.length∧∀ j,j<i→ij (l.getD j default)∧∀ k,k<j→(l.getD k default).ty≠(l.getD j default).ty) 0 ⟨WI _,fun j hj=>by omega⟩ ?_ ?_
    ·refine aw (fun i=>0) ?_ ?_ rfl rfl <;> simp only[wx,am,aH,aa,seval,iteOmega,toNatUp]
    ·rintro i ⟨hi,hok⟩;by_cases hlt:i<l.length
     ·have g:=me hlt;have hno:¬ ij (l.getD i default)→¬ cO l:=fun h hr=>h (lM hr hlt).1
      have hno2:∀ k,k<i→(l.getD k default).ty=(l.getD i default).ty→¬ cO l:=fun k hk e hr=>(lM hr hlt).2 k hk e
      have hgo:ij (l.getD i default)→(∀ k,k<i→(l.getD k default).ty≠(l.getD i default).ty)→∀ j,j<i+1→ij (l.getD j default)∧∀ k,k<j→(l.getD k default).ty≠(l.getD j default).ty:=fun a b j hj=>by
        rcases Xd j i with h | h
        ·exact hok j h
        ·obtain rfl:j=i:=by omega
         exact⟨a,b⟩
      by_cases hm:ij (l.getD i default)
      ·obtain⟨m1,m2,m3⟩:=hm;have g1:((l.getD i default).ty>4294967295)=False:=eq_false (by omega);have hgo:=hgo ⟨m1,m2,m3⟩;have est:nY l i=⟨aQ [(1,.w (.c (.rp [.sl (l.map ct)]))),(3,.w (.c (.d (.int .i64 (i:Int)))))],hL [],uL []⟩:=rfl;rw[est];clear hok hno est;generalize hx:l.getD i default=x at *
       simp only[mD,ae,aa,seval,iteOmega,toNatUp,aJ,g,ct,g1,m3];refine ba (tW l i) (fun k=>i-k) (fun k=>k≤i∧∀ m,m<k→(l.getD m default).ty≠x.ty) 0 ⟨WI _,fun m hm=>by omega⟩ ?_ ?_
       ·refine aw (fun i=>0) ?_ ?_ rfl rfl <;> simp only[wx,am,aH,aa,seval,iteOmega,toNatUp] <;> try rfl
       ·rintro k ⟨hk,hd⟩;by_cases hki:k<i
        ·have gk:=me (l:=l) (i:=k) (by omega);have hne:=hno2 k hki;by_cases he:(l.getD k default).ty=x.ty
         ·rw[decide_eq_false (hne he)];have ge:((l.getD k default).ty=x.ty)=True:=eq_true he;clear hd hgo hno2 hne;generalize l.getD k default=y at *
          simp only[qH,tW,ae,aa,seval,iteOmega,toNatUp,aJ,g,gk,ct,ge];exact aI
         ·have ge:((l.getD k default).ty=x.ty)=False:=eq_false he;have hd':∀ m,m<k+1→(l.getD m default).ty≠x.ty:=fun m hm=>by
            rcases Xd m k with h | h
            ·exact hd m h
            ·obtain rfl:m=k:=by omega
             exact he
          clear hd hgo hno2 hne;generalize l.getD k default=y at *
          simp only[qH,tW,ae,aa,seval,iteOmega,toNatUp,aJ,g,gk,ct,ge];refine aS (k+1) (by omega) ⟨by omega,hd'⟩ (aw (fun _=>0) ?_ ?_ rfl rfl) <;> simp only[wx,am,aH,aa,seval,iteOmega,toNatUp] <;> try rfl
        ·obtain rfl:k=i:=by omega
         have hgo:=hgo hd;clear hno2 hd;simp only[qH,tW,ae,aa,seval,iteOmega,toNatUp];refine aS (k+1) (by omega) ⟨by omega,hgo⟩ (aw (fun _=>0) ?_ ?_ rfl rfl) <;> simp only[wx,am,aH,aa,seval,iteOmega,toNatUp] <;> try rfl
      ·rw[decide_eq_false (hno hm)];clear hok hno hno2 hgo;generalize hx:l.getD i default=x at *
       unfold ij at hm;rcases Int.lt_or_le x.ty 0 with m1 | m1
       ·have g1:(x.ty<0)=True:=eq_true m1;simp only[mD,nY,ae,aa,seval,iteOmega,toNatUp,aJ,g,ct,g1];exact aI
       ·have g0:(x.ty<0)=False:=eq_false (by omega);rcases Int.lt_or_le 4294967295 x.ty with m2 | m2
        ·have g1:(x.ty>4294967295)=True:=eq_true m2;simp only[mD,nY,ae,aa,seval,iteOmega,toNatUp,aJ,g,ct,g0,g1];exact aI
        ·have g1:(x.ty>4294967295)=False:=eq_false (by omega);have g2:((x.da.length:Int)=32)=False:=eq_false (by omega);simp only[mD,nY,ae,aa,seval,iteOmega,toNatUp,aJ,g,ct,g0,g1,g2];exact aI
     ·have hr:cO l:=JC h1 h4 fun j hj=>hok j (by omega)
      rw[decide_eq_true hr];clear hok hr;simp only[mD,nY,ae,aa,seval,iteOmega,toNatUp];exact aI
theorem Ck {α:Type} (k:Int) (v:α):∀ es:List (Int×α),(bO es k v).map (·.1)=if k∈es.map (·.1) then es.map (·.1) else es.map (·.1)++[k]
  | []=>rfl
  | (y,u)::r=>by
    simp only[bO];by_cases e:y=k
    ·subst e;rw[if_pos rfl,if_pos (by simp)];rfl
    ·rw[if_neg e,WH,Ck k v r,WH];by_cases h:k∈r.map (·.1)
     ·rw[if_pos h,if_pos (WW _ h)]
     ·rw[if_neg h,if_neg (by
      intro q;rcases WR.1 q with q | q
      ·exact e q.symm
      ·exact h q),XF]
theorem Mz {α:Type} {es:List (Int×α)} (h:(es.map (·.1)).Nodup) (k:Int) (v:α):((bO es k v).map (·.1)).Nodup:=by
  rw[Ck];split
  ·exact h
  ·rename_i hk;refine X4.2 ⟨h,by simp,fun a ha b hb e=>?_⟩;rw[WG] at hb;subst hb e;exact hk ha
theorem iH {α:Type} (y:Int) (u:α) (r:List (Int×α)) (k:Int):aW ((y,u)::r) k=if y=k then some u else aW r k:=by
  unfold aW;by_cases e:y=k
  ·subst e; simp
  ·rw[if_neg e,Xo (by simpa using e)]
theorem xj {α:Type}:∀ {es:List (Int×α)} {k:Int} {v:α},(es.map (·.1)).Nodup→(k,v)∈es→aW es k=some v
  | (y,u)::r,k,v,hn,h=>by
    rw[WH,List.nodup_cons] at hn;rw[iH];rcases WR.1 h with h | h
    ·cases h; rw[if_pos rfl]
    ·have:y≠k:=fun e=>hn.1 (e ▸ WZ.2 ⟨_,h,rfl⟩)
     rw[if_neg this];exact xj hn.2 h
theorem JX {α:Type}:∀ {es:List (Int×α)} {k:Int} {v:α},aW es k=some v→(k,v)∈es
  | [],_,_,h=>by cases h
  | (y,u)::r,k,v,h=>by
    rw[iH] at h;by_cases e:y=k
    ·rw[if_pos e] at h; cases h; subst e; exact W6
    ·rw[if_neg e] at h; exact WW _ (JX h)
theorem Hm {α β:Type} (f:α→β):∀ (es:List (Int×α)) (k:Int),aW (es.map fun p=>(p.1,f p.2)) k=(aW es k).map f
  | [],_=>rfl
  | (y,u)::r,k=>by
    rw[WH,iH,iH,Hm f r k];split <;> rfl
def eC (l:List Ek):Nat→List (Int×List Ek)
  | 0=>[]
  | i+1=>bO (eC l i) (l.getD i default).ty ((aW (eC l i) (l.getD i default).ty).getD []++[l.getD i default])
theorem vw (l:List Ek):∀ i,((eC l i).map (·.1)).Nodup
  | 0=>List.nodup_nil
  | i+1=>Mz (vw l i) _ _
theorem PO (l:List Ek) (r:Ek) (k:Int):au (l++[r]) k=if r.ty=k then au l k++[r] else au l k:=by
  unfold au;rw[List.filter_append];by_cases h:r.ty=k
  ·rw[if_pos h,List.filter_cons_of_pos (by simpa using h)]; rfl
  ·rw[if_neg h,List.filter_cons_of_neg (by simpa using h)]; simp
theorem yf (l:List Ek):∀ (i:Nat),i≤l.length→∀ k,aW (eC l i) k=if au (l.take i) k=[] then none else some (au (l.take i) k)
  | 0,_,k=>by rw[Xq]; rfl
  | i+1,hi,k=>by
    have ih:=yf l i (by omega);have hg:(aW (eC l i) (l.getD i default).ty).getD []=au (l.take i) (l.getD i default).ty:=by
      rw[ih];split
      ·rename_i h; rw[h]; rfl
      ·rfl
    rw[eC,Hl,hg,lu (by omega),PO];by_cases h:k=(l.getD i default).ty
    ·subst h;rw[if_pos rfl,if_pos rfl,if_neg (by simp)]
    ·rw[if_neg h,if_neg (show ¬ (l.getD i default).ty=k from fun e=>h e.symm),ih]
def uh (l:List Ek):List (Int×List Ek):=eC l l.length
theorem yg (l:List Ek) (k:Int):aW (uh l) k=if au l k=[] then none else some (au l k):=by
  have:=yf l l.length (WM _) k;rw[XE] at this;exact this
theorem RY {l:List Ek} {k:Int} {x:List Ek} (h:(k,x)∈uh l):x=au l k∧x≠[]:=by
  have:=xj (vw l _) h;rw[show aW (eC l l.length) k=_ from yg l k] at this;split at this
  ·cases this
  ·rename_i h2; cases this; exact⟨rfl,h2⟩
theorem RZ {l:List Ek} {k:Int} (h:au l k≠[]):(k,au l k)∈uh l:=JX (by rw[yg,if_neg h])
def cD (l:List Ek):List (Int×D):=(uh l).map fun p=>(p.1,.sl (p.2.map aF))
def cb (l:List Ek):D:=.mp .i64 (cD l)
theorem yh (l:List Ek) (k:Int):(aW (cD l) k).getD (.sl [])=.sl ((au l k).map aF):=by
  unfold cD;rw[Hm (fun x:List Ek=>D.sl (x.map aF)),yg];split
  ·rename_i h; rw[h]; rfl
  ·rfl
theorem Hn {l:List Ek} {p:Int×D} (h:p∈cD l):p=(p.1,.sl ((au l p.1).map aF))∧au l p.1≠[]:=by
  obtain⟨⟨k,x⟩,h1,rfl⟩:=WZ.1 h;obtain⟨rfl,h2⟩:=RY h1;exact⟨rfl,h2⟩
theorem R0 {l:List Ek} {k:Int} (h:au l k≠[]):(k,D.sl ((au l k).map aF))∈cD l:=WZ.2 ⟨_,RZ h,rfl⟩
theorem pj:cb []=.mp .i64 []:=rfl
def cv:List (Int×List Ek)→Nat→List (Int×C)
  | [],_=>[]
  | p::r,j=>(p.1,.own (8*j+3) 3 0 p.2.length)::cv r (j+1)
theorem JY:∀ (es:List (Int×List Ek)) (b:Nat) (k:Int),aW (cv es b) k=none∧aW es k=none∨∃ j x,aW es k=some x∧es[j]?=some (k,x)∧aW (cv es b) k=some (.own (8*(b+j)+3) 3 0 x.length)∧∀ c,bO (cv es b) k c=((cv es b).set j (k,c))∧∀ y,bO es k y=es.set j (k,y)
  | [],_,_=>.inl ⟨rfl,rfl⟩
  | (y,u)::r,b,k=>by
    by_cases e:y=k
    ·subst e;refine .inr ⟨0,u,by rw[iH,if_pos rfl],rfl,by rw[cv,iH,if_pos rfl]; rfl,fun c=>⟨?_,fun z=>?_⟩⟩
     ·rw[cv,bO,if_pos rfl]; rfl
     ·rw[bO,if_pos rfl]; rfl
    ·rcases JY r (b+1) k with ⟨h1,h2⟩ | ⟨j,x,h1,h2,h3,h4⟩
     ·exact .inl ⟨by rw[cv,iH,if_neg e,h1],by rw[iH,if_neg e,h2]⟩
     ·refine .inr ⟨j+1,x,by rw[iH,if_neg e,h1],h2,?_,fun c=>⟨?_,fun z=>?_⟩⟩
      ·rw[cv,iH,if_neg e,h3,show b+1+j=b+(j+1) by omega]
      ·rw[cv,bO,if_neg e,(h4 c).1]; rfl
      ·rw[bO,if_neg e,(h4 c).2 z]; rfl
theorem wj {α:Type}:∀ {es:List (Int×α)} {k:Int} (v:α),aW es k=none→bO es k v=es++[(k,v)]
  | [],_,_,_=>rfl
  | (y,u)::r,k,v,h=>by
    rw[iH] at h;by_cases e:y=k
    ·rw[if_pos e] at h; cases h
    ·rw[if_neg e] at h;rw[bO,if_neg e,wj v h,XF]
theorem Ho:∀ (es:List (Int×List Ek)) (b:Nat),(cv es b).length=es.length
  | [],_=>rfl
  | _::r,b=>by rw[cv,Xx,Ho r,Xx]
theorem pk:∀ (es:List (Int×List Ek)) (b j:Nat),(cv es b)[j]?=(es[j]?).map fun p=>(p.1,.own (8*(b+j)+3) 3 0 p.2.length)
  | [],_,_=>rfl
  | p::r,b,0=>rfl
  | p::r,b,j+1=>by rw[cv,Xk,pk r (b+1) j,Xk,show b+1+j=b+(j+1) by omega]
def eX (es:List (Int×List Ek)):aB:=fun id=>if id=1 then some (.mp .i64 (cv es 0)) else if id%8=3 then (es[id / 8]?).map fun p=>.row 3 (p.2.map aF) else none
def fJ:Nat→Bool:=fun id=>decide (id=1) || decide (id%8=3)
theorem UB (es:List (Int×List Ek)):eX es 1=some (.mp .i64 (cv es 0)):=rfl
theorem sH (es:List (Int×List Ek)) (j:Nat):eX es (8*j+3)=(es[j]?).map fun p=>.row 3 (p.2.map aF):=by
  unfold eX;rw[if_neg (by omega),if_pos (by omega),show (8*j+3) / 8=j by omega]
theorem yi (j:Nat):fJ (8*j)=false:=by
  unfold fJ;rw[decide_eq_false (by omega),decide_eq_false (by omega)]; rfl
theorem JZ (j:Nat):fJ (8*j+3)=true:=by
  unfold fJ;rw[decide_eq_true (show (8*j+3)%8=3 by omega),Bool.or_true]
theorem qI {es:List (Int×List Ek)} {id:Nat} {o:Ob} (h:eX es id=some o):(id=1∧o=.mp .i64 (cv es 0))∨∃ j p,id=8*j+3∧es[j]?=some p∧o=.row 3 (p.2.map aF):=by
  unfold eX at h;split at h
  ·rename_i e; cases h; exact .inl ⟨e,rfl⟩
  ·split at h
   ·obtain⟨p,h1,rfl⟩:=Wy.1 h;exact .inr ⟨id / 8,p,by omega,h1,rfl⟩
   ·cases h
theorem R1 {es:List (Int×List Ek)} {b i:Nat} (h:i∈(cv es b).flatMap fun p=>p.2.ids):∃ j,i=8*j+3:=by
  obtain⟨p,h1,h2⟩:=WK.1 h;obtain⟨j,hj⟩:=List.getElem?_of_mem h1;rw[pk] at hj;obtain⟨q,_,rfl⟩:=Wy.1 hj;have:i=8*(b+j)+3:=by simpa [C.ids] using h2
  exact⟨b+j,this⟩
theorem xk {σ:St} (g:Nat→Nat) {fl:List (Nat×V)} {es:List (Int×List Ek)} (h1:kf σ.f g fl) (hm:σ.h (g 1)=some (.mp .i64 ((cv es 0).map fun p=>(p.1,p.2.ren g)))) (hr:∀ j p,es[j]?=some p→σ.h (g (8*j+3))=some (.row 3 (p.2.map aF)))
    (hg1:∀ j,g 1≠g (8*j+3)) (hg2:∀ i j,i<es.length→j<es.length→g (8*i+3)=g (8*j+3)→i=j) (hf:(fl.flatMap fun p=>p.2.ids).all (fun i=>fJ i)=true):dI σ ⟨aQ fl,eX es,fJ⟩:=by
  refine⟨⟨g,xx (wJ h1),fun i o ho=>?_,fun i j hi hj e=>?_⟩,fun t i hi=>WU.1 hf i (F5 hi),fun i o ho=>?_⟩
  ·rcases qI ho with ⟨rfl,rfl⟩ | ⟨j,p,rfl,hp,rfl⟩
   ·exact hm
   ·exact hr j p hp
  ·obtain⟨oi,hi⟩:=WV.1 hi;obtain⟨oj,hj⟩:=WV.1 hj;rcases qI hi with ⟨rfl,_⟩ | ⟨a,p,rfl,hp,_⟩ <;> rcases qI hj with ⟨rfl,_⟩ | ⟨b,q,rfl,hq,_⟩
   ·rfl
   ·exact absurd e (hg1 b)
   ·exact absurd e.symm (hg1 a)
   ·rw[hg2 a b (WP.1 hp).1 (WP.1 hq).1 e]
  ·rcases qI ho with ⟨rfl,rfl⟩ | ⟨j,p,rfl,hp,rfl⟩
   ·refine⟨rfl,fun i hi=>?_⟩;obtain⟨j,rfl⟩:=R1 (show i∈(cv es 0).flatMap fun p=>p.2.ids from hi);exact JZ j
   ·exact⟨JZ j,fun i hi=>by cases hi⟩
theorem Cl (es:List (Int×List Ek)):∀ (r:List (Int×List Ek)) (b:Nat),(∀ j p,r[j]?=some p→eX es (8*(b+j)+3)=some (.row 3 (p.2.map aF)))→jL (eX es) (cv r b)=some (r.map fun p=>(p.1,D.sl (p.2.map aF)))
  | [],_,_=>rfl
  | p::r,b,h=>by
    have h0:=h 0 p rfl;have ih:=Cl es r (b+1) fun j q hq=>by have:=h (j+1) q hq; rw[show b+(j+1)=b+1+j by omega] at this; exact this
    have hd:dq (eX es) (.own (8*b+3) 3 0 p.2.length)=some (.sl (p.2.map aF)):=by
      simp only[dq];rw[show b+0=b from rfl] at h0;rw[h0];simp[cW,WE]
    simp only[cv,jL,hd,ih,D.one,if_true,WH]
theorem NV (es:List (Int×List Ek)):jL (eX es) (cv es 0)=some (es.map fun p=>(p.1,D.sl (p.2.map aF))) :=
  Cl es es 0 fun j p hp=>by rw[Xr,sH,hp]; rfl
theorem pC {l:List Ek} {t:Int} (h:∀ r∈l,r.ty=t) (k:Int):au l k=if k=t then l else []:=by
  by_cases e:k=t
  ·rw[if_pos e,e,RI h]
  ·rw[if_neg e];exact T1 fun r hr q=>e (by rw[← q,h r hr])
def bE (a:Ek) (b x h p:List Ek):List Ek:=a::(b++(x++(h++p)))
theorem U7 {a:Ek} {b x h p:List Ek} (h1:a.ty=1) (h4:∀ r∈b,r.ty=4) (h5:∀ r∈x,r.ty=5) (h6:∀ r∈h,r.ty=6) (h7:∀ r∈p,r.ty=7) (k:Int) :
    au (bE a b x h p) k=(if k=1 then [a] else [])++((if k=4 then b else [])++((if k=5 then x else [])++((if k=6 then h else [])++(if k=7 then p else [])))):=by
  have e:bE a b x h p=[a]++(b++(x++(h++p))):=rfl;rw[e,mU,mU,mU,mU,pC (l:=[a]) (t:=1) (fun r hr=>by rw[WG.1 hr]; exact h1),pC h4,pC h5,pC h6,pC h7]
def bV:Ek:=⟨true,0,[]⟩
theorem yq {a:Ek} {b x h p:List Ek} {P:Ek→Prop} (h1:P a) (h4:∀ r∈b,P r) (h5:∀ r∈x,P r) (h6:∀ r∈h,P r) (h7:∀ r∈p,P r):∀ r∈bE a b x h p,P r:=by
  intro r hr;rcases WR.1 hr with rfl | hr
  ·exact h1
  ·rcases WO.1 hr with hr | hr
   ·exact h4 r hr
   ·rcases WO.1 hr with hr | hr
    ·exact h5 r hr
    ·rcases WO.1 hr with hr | hr
     ·exact h6 r hr
     ·exact h7 r hr
theorem ze {a:Ek} {b x h p:List Ek} (h1:a.ty=1) (h4:∀ r∈b,r.ty=4) (h5:∀ r∈x,r.ty=5) (h6:∀ r∈h,r.ty=6) (h7:∀ r∈p,r.ty=7)
    (l4:b.length≤1) (l5:x.length≤8) (l6:h.length≤1) (l7:p.length≤1) (b1:a.bo.length%2=0∧a.bo.length≤255) (b4:∀ r∈b,r.bo.length%2=0∧r.bo.length≤255) (b5:∀ r∈x,r.bo.length≤255) (b6:∀ r∈h,r.bo.length≤255) (b7:∀ r∈p,r.bo.length=2) :
    cx (bE a b x h p++[bV])=0∧cN (aY (bE a b x h p++[bV]))=0∧aK (aY (bE a b x h p++[bV]))=bE a b x h p++[bV]∧ec (aY (bE a b x h p++[bV]))∧gE (bE a b x h p++[bV])=false ∧
      au (bE a b x h p++[bV]) 1=[a]∧au (bE a b x h p++[bV]) 2=[]∧au (bE a b x h p++[bV]) 4=b∧au (bE a b x h p++[bV]) 5=x∧au (bE a b x h p++[bV]) 6=h∧au (bE a b x h p++[bV]) 7=p:=by
  have al:=U7 h1 h4 h5 h6 h7;have z1:(1:Int)≠4∧(1:Int)≠5∧(1:Int)≠6∧(1:Int)≠7:=by decide
  have al0:au (bE a b x h p) 0=[]:=by rw[al]; rfl
  have al1:au (bE a b x h p) 1=[a]:=by rw[al]; rfl
  have al2:au (bE a b x h p) 2=[]:=by rw[al]; rfl
  have al4:au (bE a b x h p) 4=b:=by
    rw[al]
    show []++(b++([]++([]++[])))=b
    simp
  have al5:au (bE a b x h p) 5=x:=by
    rw[al]
    show []++([]++(x++([]++[])))=x
    simp
  have al6:au (bE a b x h p) 6=h:=by
    rw[al]
    show []++([]++([]++(h++[])))=h
    simp
  have al7:au (bE a b x h p) 7=p:=by
    rw[al]; rfl
  have en:∀ k:Int,(0:Int)≠k→au (bE a b x h p++[bV]) k=au (bE a b x h p) k:=fun k hk=>by
    unfold bV;rw[mU,gN hk,kF,WS]
  have hl:(bE a b x h p).length≤12:=by
    unfold bE;rw[Xx,WA,WA,WA]; omega
  have ok:cx (bE a b x h p++[bV])=0:=by
    refine (tm (fun r hr=>?_) (by rw[WA]; show _+1≤64; omega)).1;rcases WO.1 hr with hr | hr
    ·refine yq (P:=fun r=>0≤r.ty∧r.ty≤7∧r.bo.length≤255) ?_ ?_ ?_ ?_ ?_ r hr
     ·exact⟨by omega,by omega,b1.2⟩
     ·exact fun r hr=>⟨by rw[h4 r hr]; decide,by rw[h4 r hr]; decide,(b4 r hr).2⟩
     ·exact fun r hr=>⟨by rw[h5 r hr]; decide,by rw[h5 r hr]; decide,b5 r hr⟩
     ·exact fun r hr=>⟨by rw[h6 r hr]; decide,by rw[h6 r hr]; decide,b6 r hr⟩
     ·exact fun r hr=>⟨by rw[h7 r hr]; decide,by rw[h7 r hr]; decide,by rw[b7 r hr]; decide⟩
    ·rw[WG.1 hr]; exact fV (by decide) (by decide)
  obtain⟨d1,d2⟩:=yy ok;have fm:km (bE a b x h p++[bV]):=by
    refine Jw al0 (by rw[al1]; exact WM _) (by rw[al4]; exact l4) (by rw[al6]; exact l6) (by rw[al7]; exact l7) ?_;refine yq ?_ ?_ ?_ ?_ ?_
    ·exact⟨fun _=>b1.1,fun q=>absurd (h1.symm.trans q) (by decide)⟩
    ·exact fun r hr=>⟨fun _=>(b4 r hr).1,fun q=>absurd ((h4 r hr).symm.trans q) (by decide)⟩
    ·exact fun r hr=>⟨fun q=>by rcases q with q | q <;> exact absurd ((h5 r hr).symm.trans q) (by decide),fun q=>absurd ((h5 r hr).symm.trans q) (by decide)⟩
    ·exact fun r hr=>⟨fun q=>by rcases q with q | q <;> exact absurd ((h6 r hr).symm.trans q) (by decide),fun q=>absurd ((h6 r hr).symm.trans q) (by decide)⟩
    ·exact fun r hr=>⟨fun q=>by rcases q with q | q <;> exact absurd ((h7 r hr).symm.trans q) (by decide),fun _=>b7 r hr⟩
  have st:gE (bE a b x h p++[bV])=false:=by
    unfold gE;rw[XB];intro r hr;have:r.ty≤7:=by
      rcases WO.1 hr with hr | hr
      ·refine yq (P:=fun r=>r.ty≤7) (by omega) ?_ ?_ ?_ ?_ r hr
       ·exact fun r hr=>by rw[h4 r hr]; decide
       ·exact fun r hr=>by rw[h5 r hr]; decide
       ·exact fun r hr=>by rw[h6 r hr]; decide
       ·exact fun r hr=>by rw[h7 r hr]; decide
      ·rw[WG.1 hr]; exact (show (0:Int)≤7 by decide)
    rw[WX];exact fun q=>absurd (of_decide_eq_true q.2) (by omega)
  exact⟨ok,d1,d2,⟨d1,by rw[d2]; exact fm⟩,st,by rw[en 1 (by decide),al1],by rw[en 2 (by decide),al2],by rw[en 4 (by decide),al4],by rw[en 5 (by decide),al5],by rw[en 6 (by decide),al6],by rw[en 7 (by decide),al7]⟩
theorem zf {a:Ek} {b x h p:List Ek} {c:Ch} {q:List UInt8} (hv:dA c) (hq:iz q)
    (fm:ec (aY (bE a b x h p++[bV]))) (dl:aK (aY (bE a b x h p++[bV]))=bE a b x h p++[bV]) (st:gE (bE a b x h p++[bV])=false)
    (a2:au (bE a b x h p++[bV]) 2=[]) (a5:au (bE a b x h p++[bV]) 5=x) (l5:x.length≤8) (c5:∀ r∈x,r.bo.length=104) :
    (eP (bE a b x h p++[bV]) 1 (gZ q)=none∨eP (bE a b x h p++[bV]) 4 (g8 q)=none→ee c q (aY (bE a b x h p++[bV]))=10) ∧
      (∀ v w,eP (bE a b x h p++[bV]) 1 (gZ q)=some v→eP (bE a b x h p++[bV]) 4 (g8 q)=some w→x.length≠0→ee c q (aY (bE a b x h p++[bV]))=0 ∧
        mm c q (aY (bE a b x h p++[bV]))=⟨v,w,bw c v w 0,bw c v w 1,x.map (·.bo),oo (bE a b x h p++[bV]),oq (bE a b x h p++[bV])⟩):=by
  generalize bE a b x h p++[bV]=L at *
  have n5:(bL L 5).length=x.length:=by rw[bX,a5]
  have n2:(bL L 2).length=0:=by rw[bX,a2]; rfl
  have ck:i7 L=x.map (·.bo):=by unfold i7; rw[a5]
  have e:ee c q (aY L)=if ¬ ((eP L 1 (gZ q)).isSome∧(eP L 4 (g8 q)).isSome∧(bL L 5).length≠0) then 10 else if 8<(bL L 5).length then 8 else if ¬ ∀ x∈i7 L,x.length=104 then 3 else 0:=by
    unfold ee;rw[dl,if_neg (not_not_intro hv),if_neg (not_not_intro hq),if_neg (not_not_intro fm),if_neg (by rw[st]; exact Bool.false_ne_true),if_neg (not_not_intro n2)]
  refine⟨fun hno=>?_,fun v w e1 e4 h0=>?_⟩
  ·rw[e,if_pos];rintro⟨q1,q2,_⟩;rcases hno with hno | hno
   ·rw[hno] at q1; exact absurd q1 (by decide)
   ·rw[hno] at q2; exact absurd q2 (by decide)
  ·have e0:ee c q (aY L)=0:=by
     rw[e,if_neg,n5,if_neg (by omega),if_neg]
     ·refine not_not_intro fun y hy=>?_
      rw[ck] at hy;obtain⟨r,hr,rfl⟩:=WZ.1 hy;exact c5 r hr
     ·refine not_not_intro ⟨by rw[e1]; rfl,by rw[e4]; rfl,by rw[n5]; exact h0⟩
   refine⟨e0,?_⟩;unfold mm;rw[if_pos e0,dl,e1,e4,ck];rfl
end Go.Proofs.YtlghfnidknfakaaGreatDoor
