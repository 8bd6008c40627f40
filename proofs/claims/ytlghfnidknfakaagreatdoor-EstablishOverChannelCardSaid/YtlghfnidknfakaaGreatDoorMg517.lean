/- Texts of one's own, merged: from: Layer 19,without code: rings of keys (as fields: an ID and a key),cookies,and what the functions return. Own work. -/
import Derived.Test.YtlghfnidknfakaaGreatDoorMg510
import Derived.Test.YtlghfnidknfakaaGreatDoorMg514
import Derived.Test.YtlghfnidknfakaaGreatDoorMg516
import Derived.Test.YtlghfnidknfakaaGreatDoorMg511
import Derived.Test.YtlghfnidknfakaaGreatDoorMg57
set_option linter.unusedVariables false
set_option linter.unusedSimpArgs false
namespace Go.Proofs.YtlghfnidknfakaaGreatDoor
open Go.RowKit
def bG (l:List Fd):D:=.agg [.sl (l.map bM)]
def Mq (l:List Fd):Prop:=∀ i j,i<j→j<l.length→(l.getD i default).ty≠(l.getD j default).ty
def cT (l:List Fd):Prop:=1≤l.length∧l.length≤4∧(∀ f∈l,0≤f.ty∧f.ty≤4294967295∧f.da.length=32)∧(l.map Fd.ty).Nodup
instance (l:List Fd):Decidable (cT l):=by unfold cT; infer_instance
theorem wk {l:List Fd}:(l.map Fd.ty).Nodup↔Mq l:=by
  unfold Mq;rw[List.nodup_iff_pairwise_ne,List.pairwise_iff_getElem];constructor
  ·intro h i j hij hj;have:=h i j (by simp; omega) (by simp; omega) hij
   simpa [X6,X3 hj,X3 (show i<l.length by omega)] using this
  ·intro h i j hi hj hij;have hi':i<l.length:=by simpa using hi
   have hj':j<l.length:=by simpa using hj
   have:=h i j hij hj'
   simpa [X6,X3 hj',X3 hi'] using this
def pS:List UInt8:=[115,101,99,116,105,109,101,32,115,116,97,114,116]
def sW:List UInt8:=[115,101,99,116,105,109,101,32,110,101,120,116]
def oZ (seed:List UInt8):List UInt8:=fp seed pS 32
def o0 (key:List UInt8):List UInt8:=fp key sW 32
theorem QZ (s:List UInt8):(oZ s).length=32:=pR _ _ _
theorem Q0 (s:List UInt8):(o0 s).length=32:=pR _ _ _
def jg (id:Int) (seed:List UInt8):Int:=if id<0∨4294967295<id then 4 else if seed.length≠32 then 5 else 0
def mV (id:Int) (seed:List UInt8):List Fd:=if jg id seed=0 then [⟨id,oZ seed⟩] else []
def fV (l:List Fd):Int:=((l.getD 0 default).ty+1)%4294967296
def kR (l:List Fd):Fd:=⟨fV l,o0 (l.getD 0 default).da⟩
def clash (l:List Fd):Bool:=(l.take 3).any fun f=>decide (f.ty=fV l)
def iq (l:List Fd):Int:=if cT l then (if clash l=true then 7 else 0) else 3
def kS (l:List Fd):List Fd:=if iq l=0 then kR l::l.take 3 else []
def fH (algo:Int) (up down:List UInt8):List UInt8:=aP algo.toNat 2++([0,0]++(up++down))
def eN (m:Fd):List UInt8:=aP m.ty.toNat 4
def cG (m:Fd) (algo:Int) (up down nonce:List UInt8):List UInt8:=eN m++(nonce++dr m.da [eN m,nonce] (fH algo up down))
def iQ (l:List Fd) (algo:Int) (up down nonce:List UInt8):Int :=
  if cT l then (if algo<0∨65535<algo then 4 else if up.length≠32∨down.length≠32 then 5 else if nonce.length≠16 then 3 else 0) else 3
def mZ (l:List Fd) (algo:Int) (up down nonce:List UInt8):List UInt8:=if iQ l algo up down nonce=0 then cG (l.getD 0 default) algo up down nonce else []
def rh (c:List UInt8):Int:=if c.length≠104 then 3 else 0
def fW (c:List UInt8):Nat:=if c.length≠104 then 0 else aR (aI c 0 4)
def gI (l:List Fd) (id:Int):Option Nat:=l.findIdx? fun f=>decide (f.ty=id)
def jP (m:Fd) (c:List UInt8):Int:=fo m.da [aI c 0 4,aI c 4 16] (c.drop 20)
def fc (m:Fd) (c:List UInt8):List UInt8:=gj m.da [aI c 0 4,aI c 4 16] (c.drop 20)
def mW (m:Fd) (c:List UInt8):Prop:=jP m c=0∧(fc m c).getD 2 0=0∧(fc m c).getD 3 0=0
instance (m:Fd) (c:List UInt8):Decidable (mW m c):=by unfold mW; infer_instance
def fe (l:List Fd) (c:List UInt8):Int :=
  if cT l then (if c.length≠104 then 3 else match gI l (fW c) with | none=>5 | some i=>if mW (l.getD i default) c then 0 else 6) else 3
structure Ay where
  al:Int
  up:List UInt8
  dn:List UInt8
  ag:Int
def jl (l:List Fd) (c:List UInt8):Ay :=
  if fe l c=0 then (let i:=(gI l (fW c)).getD 0; let b:=fc (l.getD i default) c; ⟨(aR (aI b 0 2):Int),aI b 4 32,aI b 36 32,(i:Int)⟩) else ⟨0,[],[],0⟩
theorem Ta {m:Fd} {c:List UInt8} (hc:c.length=104) (h:jP m c=0):(fc m c).length=68:=by
  unfold fc gj;unfold jP at h;rw[if_pos h,jV];simp[hc]
theorem HM (algo:Int) {up down:List UInt8} (h1:up.length=32) (h2:down.length=32):(fH algo up down).length=68:=by
  simp[fH,bN,h1,h2]
theorem xf {m:Fd} {algo:Int} {up down nonce:List UInt8} (hk:m.da.length=32) (i0:0≤m.ty) (i1:m.ty≤4294967295) (a0:0≤algo) (a1:algo≤65535) (h1:up.length=32) (h2:down.length=32) (hn:nonce.length=16) :
    (cG m algo up down nonce).length=104∧(fW (cG m algo up down nonce):Int)=m.ty∧mW m (cG m algo up down nonce) ∧
      (aR (aI (fc m (cG m algo up down nonce)) 0 2):Int)=algo∧aI (fc m (cG m algo up down nonce)) 4 32=up∧aI (fc m (cG m algo up down nonce)) 36 32=down:=by
  have hp:=HM algo h1 h2;have hi:(eN m).length=4:=bN _ _;have ha:cJ m.da [eN m,nonce] ((fH algo up down).length:Int)=0:=w6 hk (by simp) (fun x hx=>by simp at hx; rcases hx with rfl | rfl <;> omega) (by omega);have hs:(dr m.da [eN m,nonce] (fH algo up down)).length=84:=by rw[nF ha,X5,iY,jV,hp]
  have hl:(cG m algo up down nonce).length=104:=by
    unfold cG;simp only[X5,hi,hn,hs]
  have c1:aI (cG m algo up down nonce) 0 4=eN m:=by
    unfold cG aI;rw[ZL];exact List.take_left' hi
  have c2:aI (cG m algo up down nonce) 4 16=nonce:=by
    have:=me (eN m) nonce (dr m.da [eN m,nonce] (fH algo up down));rw[hi,hn] at this;exact this
  have c3:(cG m algo up down nonce).drop 20=dr m.da [eN m,nonce] (fH algo up down):=by
    unfold cG;rw[← Yy];exact List.drop_left' (by simp[hi,hn])
  obtain⟨o1,o2⟩:=Fj ha;rw[← nF ha] at o1 o2;have x1:jP m (cG m algo up down nonce)=0:=by unfold jP; rw[c1,c2,c3]; exact o1
  have x2:fc m (cG m algo up down nonce)=fH algo up down:=by unfold fc; rw[c1,c2,c3]; exact o2
  have p2:fH algo up down=aP algo.toNat 2++([0,0]++(up++down)):=rfl;refine⟨hl,?_,⟨x1,?_,?_⟩,?_,?_,?_⟩
  ·unfold fW;rw[if_neg (by omega),c1];unfold eN;rw[get_put 4 (by decide)];omega
  ·rw[x2,p2,X6,YC (by simp[bN])];simp[bN]
  ·rw[x2,p2,X6,YC (by simp[bN])];simp[bN]
  ·rw[x2,p2];have:=me [] (aP algo.toNat 2) ([0,0]++(up++down));rw[Y4,bN] at this;rw[show ([]:List UInt8).length=0 from rfl] at this;rw[this,get_put 2 (by decide)];omega
  ·rw[x2,p2];have:=me (aP algo.toNat 2++[0,0]) up down;rw[Yy,X5,bN,h1] at this;exact this
  ·rw[x2,p2];have:=me (aP algo.toNat 2++([0,0]++up)) down [];rw[Ym,Yy,Yy,X5,X5,bN,h1,h2] at this;exact this
def pg (seed:List UInt8):Nat→List UInt8
  | 0=>oZ seed
  | n+1=>o0 (pg seed n)
theorem xW (seed:List UInt8) (n:Nat):(pg seed n).length=32:=by
  cases n
  ·exact QZ _
  ·exact Q0 _
def bw (s:Nat) (seed:List UInt8) (t:Nat):List Fd:=(List.range (min 4 (t+1))).map fun i=>⟨((s+(t-i):Nat):Int),pg seed (t-i)⟩
theorem j9 (s:Nat) (seed:List UInt8) (t:Nat):(bw s seed t).length=min 4 (t+1):=by simp[bw]
theorem qk {s:Nat} {seed:List UInt8} {t i:Nat} (h:i<min 4 (t+1)):(bw s seed t).getD i default=⟨((s+(t-i):Nat):Int),pg seed (t-i)⟩:=by
  unfold bw;rw[X6,YX,ZK h];rfl
theorem yP {s:Nat} {seed:List UInt8} {t:Nat} (h:s+t≤4294967295):cT (bw s seed t):=by
  have hl:=j9 s seed t;refine⟨by omega,by omega,?_,?_⟩
  ·intro f hf;obtain⟨i,hi,rfl⟩:=Yu.1 hf;exact⟨by show (0:Int)≤((s+(t-i):Nat):Int); omega,by show ((s+(t-i):Nat):Int)≤4294967295; omega,xW _ _⟩
  ·rw[wk];intro i j hij hj;rw[hl] at hj;rw[qk (by omega),qk (by omega)]
   show ((s+(t-i):Nat):Int)≠((s+(t-j):Nat):Int)
   omega
theorem Pg (s:Nat) (seed:List UInt8) (h:s≤4294967295) (hs:seed.length=32):jg s seed=0∧mV s seed=bw s seed 0:=by
  have e:jg s seed=0:=by unfold jg; rw[if_neg (by omega),if_neg (by omega)]
  exact⟨e,by unfold mV; rw[if_pos e]; rfl⟩
theorem Q1 {s:Nat} {seed:List UInt8} {t:Nat} (h:s+t<4294967295):iq (bw s seed t)=0∧kS (bw s seed t)=bw s seed (t+1):=by
  have hl:=j9 s seed t;have h0:=qk (s:=s) (seed:=seed) (t:=t) (i:=0) (by omega);have hn:fV (bw s seed t)=((s+(t+1):Nat):Int):=by
    unfold fV;rw[h0]
    show (((s+(t-0):Nat):Int)+1)%4294967296=_
    omega
  have hc:clash (bw s seed t)=false:=by
    unfold clash;rw[Y1];intro f hf;obtain⟨i,hi,rfl⟩:=Yu.1 (Za hf);rw[hn,decide_eq_false (by show ((s+(t-i):Nat):Int)≠((s+(t+1):Nat):Int); omega)];decide
  have e:iq (bw s seed t)=0:=by unfold iq; rw[if_pos (yP (by omega)),if_neg (by rw[hc]; decide)]
  refine⟨e,?_⟩;unfold kS;rw[if_pos e];have hx:kR (bw s seed t)=⟨((s+(t+1):Nat):Int),pg seed (t+1)⟩:=by
    unfold kR;rw[hn,h0];rfl
  rw[hx];refine List.ext_getElem (by simp[j9]; omega) fun i i1 i2=>?_
  have hi:i<min 4 (t+1+1):=by rw[j9] at i2; exact i2
  cases i with
  | zero=>simp[bw]
  | succ i =>
    rw[List.getElem_cons_succ,Y6];simp only[bw,Yw,Zi];rw[show t+1-(i+1)=t-i by omega]
theorem Q2 {s:Nat} {seed:List UInt8} {t k:Nat} (hk:k≤t):gI (bw s seed t) ((s+k:Nat):Int)=if t-k<4 then some (t-k) else none:=by
  unfold gI;have hl:=j9 s seed t;have hat:∀ i (hi:i<(bw s seed t).length),(bw s seed t)[i].ty=((s+(t-i):Nat):Int):=fun i hi=>by simp[bw]
  split
  ·rename_i h;rw[Zh];refine⟨by omega,?_,fun j hj=>?_⟩
   ·rw[hat]; exact decide_eq_true (by omega)
   ·rw[hat,decide_eq_false (by omega)]; decide
  ·rename_i h;rw[List.findIdx?_eq_none_iff];intro f hf;obtain⟨i,hi,rfl⟩:=YE hf;rw[hat];exact decide_eq_false (by omega)
def na (b:List UInt8) (i:Nat):Int:=(aR (aI b (2*i) 2):Int)
def jm (b:List UInt8) (k:Nat):List Int:=(List.range k).map (na b)
def kT (b:List UInt8):List Int:=jm b (b.length / 2)
def eO (b:List UInt8):List Int:=if b.length%2=0 then kT b else []
theorem Q3 (b:List UInt8) (k:Nat):jm b (k+1)=jm b k++[na b k]:=by simp[jm,ZE]
theorem HN (b:List UInt8) (k:Nat):(jm b k).length=k:=by simp[jm]
theorem Tb (b:List UInt8):(kT b).length=b.length / 2:=HN _ _
theorem Vg {b:List UInt8} {i:Nat} (h:2*i+2≤b.length):0≤na b i∧na b i≤65535:=by
  have:=(iV 2 (aI b (2*i) 2) (jr (by omega)) (by decide)).1;unfold na;omega
def aM (l:List Int):List UInt8:=l.flatMap fun n=>aP n.toNat 2
theorem sA (n:Int) (l:List Int):aM (n::l)=aP n.toNat 2++aM l:=rfl
theorem HO (a b:List Int):aM (a++b)=aM a++aM b:=by simp[aM]
theorem dZ (l:List Int):(aM l).length=2*l.length:=by
  induction l with
  | nil=>rfl
  | cons n l ih=>rw[sA,X5,bN,ih,YZ]; omega
def bz (l:List Int):Prop:=∀ n∈l,0≤n∧n≤65535
instance (l:List Int):Decidable (bz l):=by unfold bz; infer_instance
theorem Q4 {n:Int} {l:List Int} (h:bz (n::l)):(0≤n∧n≤65535)∧bz l:=⟨h n YF,fun x hx=>h x (Yr _ hx)⟩
theorem Q5 {x:List UInt8} (hx:x.length=2) (b:List UInt8):kT (x++b)=(aR x:Int)::kT b:=by
  have hl:(x++b).length / 2=b.length / 2+1:=by rw[X5]; omega
  unfold kT jm;rw[hl,List.range_succ_eq_map,Ya,List.map_map]
  congr 1
  ·unfold na;rw[show aI (x++b) (2*0) 2=x from List.take_left' hx]
  ·refine YN fun i _=>?_
   show (aR (aI (x++b) (2*(i+1)) 2):Int)=(aR (aI b (2*i) 2):Int)
   rw[show 2*(i+1)=x.length+2*i by omega,RR]
theorem Tc {l:List Int} (h:bz l):kT (aM l)=l:=by
  induction l with
  | nil=>rfl
  | cons n l ih =>
    obtain⟨h1,h2⟩:=Q4 h;rw[sA,Q5 (bN _ _),ih h2,get_put 2 (by decide)]
    congr 1; omega
theorem li {l:List Int} (h:bz l):eO (aM l)=l:=by
  unfold eO;rw[if_pos (by rw[dZ]; omega),Tc h]
def nb (l:List Ek) (k:Int) (i:Nat):List Nat:=(List.range i).filter fun j=>decide ((l.getD j default).ty=k)
def bI (l:List Ek) (k:Int):List Nat:=nb l k l.length
def ar (l:List Ek) (k:Int):List Ek:=l.filter fun r=>decide (r.ty=k)
theorem Td {l:List Ek} {k:Int} {i:Nat} (h:(l.getD i default).ty=k):nb l k (i+1)=nb l k i++[i]:=by
  unfold nb;rw[ZE,List.filter_append]
  congr 1
  rw[List.filter_cons,if_pos (decide_eq_true h),List.filter_nil]
theorem Vh {l:List Ek} {k:Int} {j:Nat} (h:j<(bI l k).length):(bI l k).getD j 0<l.length∧(l.getD ((bI l k).getD j 0) default).ty=k:=by
  have hm:(bI l k).getD j 0∈bI l k:=by
    rw[X6,X3 h];exact Yz h
  obtain⟨h1,h2⟩:=Zp.1 hm;exact⟨Zy.1 h1,of_decide_eq_true h2⟩
theorem NJ (l:List Ek):(List.range l.length).map (fun i=>l.getD i default)=l:=by
  refine List.ext_getElem (by simp) fun i h1 h2=>?_
  rw[Yw,Zi,X6,X3 h2]; rfl
theorem HP (l:List Ek) (k:Int):(bI l k).map (fun i=>l.getD i default)=ar l k:=by
  have:ar l k=((List.range l.length).map (fun i=>l.getD i default)).filter fun r=>decide (r.ty=k):=by rw[NJ]; rfl
  rw[this,List.filter_map];rfl
theorem bY (l:List Ek) (k:Int):(bI l k).length=(ar l k).length:=by rw[← HP,Yc]
theorem lj {l:List Ek} {k:Int} {j:Nat} (h:j<(bI l k).length):l.getD ((bI l k).getD j 0) default=(ar l k).getD j default:=by
  rw[← HP,X6 (l:=(bI l k).map _),YX,X3 h,X6 (l:=bI l k),X3 h];rfl
def pi (r:Ek):Prop:=((r.ty=1∨r.ty=4)→r.bo.length%2=0)∧(r.ty=7→r.bo.length=2)
instance (r:Ek):Decidable (pi r):=by unfold pi; infer_instance
def Az (l:List Ek):Prop:=(bI l 0).length=1∧(bI l 0).getD 0 0=l.length-1∧(l.getD ((bI l 0).getD 0 0) default).bo.length=0∧(bI l 1).length≤1∧(bI l 4).length≤1∧(bI l 6).length≤1∧(bI l 7).length≤1
instance (l:List Ek):Decidable (Az l):=by unfold Az; infer_instance
def kU (l:List Ek):Prop:=Az l∧∀ r∈l,pi r
instance (l:List Ek):Decidable (kU l):=by unfold kU; infer_instance
def eG (b:List UInt8):Prop:=dP b=0∧kU (aG b)
instance (b:List UInt8):Decidable (eG b):=by unfold eG; infer_instance
def ir (b:List UInt8):List Ek:=if eG b then aG b else []
def gX (l:List Ek):Bool:=l.any fun r=>r.cr&&decide (7<r.ty)
def dA (x y:List Int):Int:=if ¬ (bz x∧bz y) then 4 else if x.length=0∨16<x.length∨y.length=0∨16<y.length then 8 else 0
def dB (x y:List Int):List Ek:=[⟨true,1,aM x⟩,⟨true,4,aM y⟩,⟨true,0,[]⟩]
def bi (x y:List Int):List UInt8:=if dA x y=0 then be (dB x y) else []
def dS (x y:List Int):Option Int:=x.find? fun v=>decide (v∈y)
def oC:List UInt8:=[115,101,99,116,105,109,101,32,107,101,121,115]
def eH (p a:Int) (z:UInt8):List UInt8:=aM [p,a]++[z]
def eP (c:Ch) (p a:Int):Int:=if ¬ cy c then 3 else if ¬ bz [p,a] then 4 else 0
def a7 (c:Ch) (p a:Int) (z:UInt8):List UInt8:=if eP c p a=0 then fp c.se (fq gy oC (eH p a z)) 32 else []
theorem lk {c:Ch} {p a:Int} {z:UInt8} (h:eP c p a=0):(a7 c p a z).length=32:=by unfold a7; rw[if_pos h]; exact pR _ _ _
structure dT where
  pr:List Int
  al:List Int
  ho:ByteArray
  pt:Int
def fb (p:dT):D:=.agg [.sl (p.pr.map zD),.sl (p.al.map zD),.str p.ho,.int .i64 p.pt]
def gr (code:Int):List UInt8:=be [⟨true,2,aM [code]⟩,⟨true,0,[]⟩]
def kV (b:List UInt8):Prop:=eG b∧(bI (aG b) 1).length≠0∧(bI (aG b) 4).length≠0∧(bI (aG b) 2).length+(bI (aG b) 3).length+(bI (aG b) 5).length=0
instance (b:List UInt8):Decidable (kV b):=by unfold kV; infer_instance
def kW (ns:List (List UInt8)) (ho:ByteArray):Prop:=1≤ns.length∧ns.length≤8∧ho.size≤255∧∀ n∈ns,n.length=16
instance (ns:List (List UInt8)) (ho:ByteArray):Decidable (kW ns ho):=by unfold kW; infer_instance
def fv (l:List Ek) (k:Int):List Int:=eO (l.getD ((bI l k).getD 0 0) default).bo
def fI (r:List Fd) (c:Ch) (v a:Int) (ns:List (List UInt8)):List Ek:=ns.map fun n=>⟨false,5,mZ r a (a7 c v a 0) (a7 c v a 1) n⟩
def gY (p:dT):List Ek:=(if p.ho.size=0 then [] else [⟨true,6,p.ho.data.toList⟩])++((if p.pt=0 then [] else [⟨true,7,aM [p.pt]⟩])++[⟨true,0,[]⟩])
def eQ (p:dT) (r:List Fd) (c:Ch) (x y:List Int) (ns:List (List UInt8)):List Ek :=
  match dS x p.pr with
  | none=>[⟨true,1,[]⟩]
  | some v=>⟨true,1,aM [v]⟩::match dS y p.al with
    | none=>[⟨true,4,[]⟩]
    | some a=>⟨true,4,aM [a]⟩::fI r c v a ns
def eR (p:dT) (r:List Fd) (c:Ch):Int:=if ¬ (cy c∧cT r) then 3 else if ¬ (bz p.pr∧bz p.al∧bz [p.pt]) then 4 else 0
def fJ (p:dT) (r:List Fd) (c:Ch) (b:List UInt8) (ns:List (List UInt8)):List UInt8 :=
  if ¬ eR p r c=0 then [] else if ¬ kV b then gr 1 else if gX (aG b)=true then gr 0 else if ¬ kW ns p.ho then gr 2 else be (eQ p r c (fv (aG b) 1) (fv (aG b) 4) ns++gY p)
structure u6 where
  pr:Int
  al:Int
  up:List UInt8
  dn:List UInt8
  ck:List (List UInt8)
  ho:List UInt8
  pt:Int
def nc (t:u6):D:=.agg [.int .i64 t.pr,.int .i64 t.al,.sl (t.up.map bD),.sl (t.dn.map bD),.sl (t.ck.map fun l=>D.sl (l.map bD)),.str ⟨t.ho.toArray⟩,.int .i64 t.pt]
def pj:u6:=⟨0,0,[],[],[],[],0⟩
def iu (q:List UInt8):List Int:=eO ((aG q).getD 0 default).bo
def iv (q:List UInt8):List Int:=eO ((aG q).getD 1 default).bo
def iR (q:List UInt8):Prop:=eG q∧(aG q).length=3∧dA (iu q) (iv q)=0∧bi (iu q) (iv q)=q
instance (q:List UInt8):Decidable (iR q):=by unfold iR; infer_instance
def fg (l:List Ek) (k:Int) (x:List Int):Option Int:=if (bI l k).length=1 then (if (fv l k).length=1∧(fv l k).getD 0 0∈x then some ((fv l k).getD 0 0) else none) else none
def jn (l:List Ek):List (List UInt8):=(ar l 5).map (·.bo)
def eI (c:Ch) (q b:List UInt8):Int :=
  if ¬ cy c then 3 else if ¬ iR q then 3 else if ¬ eG b then 3 else if gX (aG b)=true then 11 else if (bI (aG b) 2).length≠0 then 7
  else if ¬ ((fg (aG b) 1 (iu q)).isSome∧(fg (aG b) 4 (iv q)).isSome∧(bI (aG b) 5).length≠0) then 10
  else if 8<(bI (aG b) 5).length then 8 else if ¬ ∀ x∈jn (aG b),x.length=104 then 3 else 0
def pk (l:List Ek):List UInt8:=if (bI l 6).length=1 then (l.getD ((bI l 6).getD 0 0) default).bo else []
def pm (l:List Ek):Int:=if (bI l 7).length=1 then (aR (l.getD ((bI l 7).getD 0 0) default).bo:Int) else 0
def ng (c:Ch) (q b:List UInt8):u6 :=
  if eI c q b=0 then
    ⟨(fg (aG b) 1 (iu q)).getD 0,(fg (aG b) 4 (iv q)).getD 0,a7 c ((fg (aG b) 1 (iu q)).getD 0) ((fg (aG b) 4 (iv q)).getD 0) 0,a7 c ((fg (aG b) 1 (iu q)).getD 0) ((fg (aG b) 4 (iv q)).getD 0) 1,jn (aG b),pk (aG b),pm (aG b)⟩
  else pj
theorem qm {m:Nat}:∀ {l:List Ek},(∀ r∈l,r.bo.length≤m)→(be l).length≤l.length*(m+4)
  | [],_=>Yd _
  | r::l,h=>by
    have ih:=qm fun x hx=>h x (Yr r hx)
    have h1:=h r YF;rw[nD,X5,nN,YZ,YH,Nat.one_mul];omega
theorem uh {l:List Ek} (h:∀ r∈l,0≤r.ty∧r.ty≤7∧r.bo.length≤255) (hl:l.length≤64):dX l=0∧jO l=be l:=by
  have h1:=qm (m:=255) fun r hr=>(h r hr).2.2
  exact yt (fun r hr=>by obtain⟨a,b,c⟩:=h r hr; exact yr a (by omega) (by omega)) hl (by omega)
theorem ln (k:Int):ar [] k=[]:=rfl
theorem nP (a b:List Ek) (k:Int):ar (a++b) k=ar a k++ar b k:=List.filter_append a b
theorem ui {c:Bool} {t:Int} {b:List UInt8} {l:List Ek} {k:Int} (h:t=k):ar (⟨c,t,b⟩::l) k=⟨c,t,b⟩::ar l k:=by
  unfold ar;rw[List.filter_cons,if_pos (decide_eq_true h)]
theorem hY {c:Bool} {t:Int} {b:List UInt8} {l:List Ek} {k:Int} (h:t≠k):ar (⟨c,t,b⟩::l) k=ar l k:=by
  unfold ar;rw[List.filter_cons,if_neg (fun q=>h (of_decide_eq_true q))]
theorem fw {c:Bool} {t:Int} {b:List UInt8} (h1:0≤t∧t≤7) (h2:b.length≤255):0≤(⟨c,t,b⟩:Ek).ty∧(⟨c,t,b⟩:Ek).ty≤7∧(⟨c,t,b⟩:Ek).bo.length≤255:=⟨h1.1,h1.2,h2⟩
theorem yQ {c:Bool} {t:Int} {b:List UInt8} (h:t≠7) (h2:t=1∨t=4→b.length%2=0):pi ⟨c,t,b⟩:=⟨h2,fun q=>absurd q h⟩
theorem Te {l:List Ek} {k:Int} (h:∀ r∈l,r.ty=k):ar l k=l:=List.filter_eq_self.2 fun r hr=>decide_eq_true (h r hr)
theorem Vl {l:List Ek} {k:Int} (h:∀ r∈l,r.ty≠k):ar l k=[]:=List.filter_eq_nil_iff.2 fun r hr q=>h r hr (of_decide_eq_true q)
theorem Vm {i:List Ek} {e:Ek} {k:Int} (h:ar i k=[]) (he:e.ty=k):bI (i++[e]) k=[i.length]:=by
  have hl:(i++[e]).length=i.length+1:=by simp
  have hg:(i++[e]).getD i.length default=e:=by simp[X6]
  have h0:nb (i++[e]) k i.length=[]:=by
    have h1:nb (i++[e]) k i.length=nb i k i.length:=by
      refine List.filter_congr fun j hj=>?_
      have hj:=Zy.1 hj;rw[X6,YO hj,← X6]
    rw[h1];have:=bY i k;rw[h] at this;exact YA.1 this
  unfold bI;rw[hl,Td (by rw[hg]; exact he),h0]; rfl
theorem Kg {i:List Ek} (h0:ar i 0=[]) (h1:(ar i 1).length≤1) (h4:(ar i 4).length≤1) (h6:(ar i 6).length≤1) (h7:(ar i 7).length≤1) (hb:∀ r∈i,pi r):kU (i++[⟨true,0,[]⟩]):=by
  have e:=Vm (e:=⟨true,0,[]⟩) h0 rfl;have en:∀ k:Int,(0:Int)≠k→ar (i++[⟨true,0,[]⟩]) k=ar i k:=fun k hk=>by rw[nP,hY hk,ln,Ym]
  refine⟨⟨by rw[e]; rfl,?_,?_,?_,?_,?_,?_⟩,fun r hr=>?_⟩
  ·rw[e]; simp
  ·rw[e]
   show ((i++[(⟨true,0,[]⟩:Ek)]).getD i.length default).bo.length=0
   simp[X6]
  ·rw[bY,en 1 (by decide)]; exact h1
  ·rw[bY,en 4 (by decide)]; exact h4
  ·rw[bY,en 6 (by decide)]; exact h6
  ·rw[bY,en 7 (by decide)]; exact h7
  ·rcases Yj.1 hr with h | h
   ·exact hb r h
   ·rw[X9.1 h]; exact yQ (by decide) fun _=>rfl
theorem yR {l:List Ek} {k:Int} {r:Ek} (h:ar l k=[r]):fv l k=eO r.bo:=by
  have hl:(bI l k).length=1:=by rw[bY,h]; rfl
  unfold fv;rw[lj (by omega),h]; rfl
theorem qW {x y:List Int} (h:dA x y=0):bz x∧bz y∧x.length≠0∧x.length≤16∧y.length≠0∧y.length≤16:=by
  unfold dA at h;by_cases h1:bz x∧bz y
  ·rw[if_neg (not_not_intro h1)] at h;by_cases h2:x.length=0∨16<x.length∨y.length=0∨16<y.length
   ·rw[if_pos h2] at h; exact absurd h (by decide)
   ·exact⟨h1.1,h1.2,by omega,by omega,by omega,by omega⟩
  ·rw[if_pos h1] at h; exact absurd h (by decide)
theorem yS {x y:List Int} (h:dA x y=0):dX (dB x y)=0∧jO (dB x y)=be (dB x y):=by
  obtain⟨_,_,_,h1,_,h2⟩:=qW h;refine uh (fun r hr=>?_) (show 3≤64 by decide);unfold dB at hr;rcases Yi.1 hr with rfl | hr
  ·exact fw (by decide) (by rw[dZ]; omega)
  ·rcases Yi.1 hr with rfl | hr
   ·exact fw (by decide) (by rw[dZ]; omega)
   ·rw[X9.1 hr]; exact fw (by decide) (by decide)
theorem uj {x y:List Int} (h:dA x y=0):dP (bi x y)=0∧aG (bi x y)=dB x y∧eG (bi x y):=by
  have e:bi x y=be (dB x y):=if_pos h;obtain⟨q1,q2⟩:=Lo (yS h).1;rw[e];refine⟨q1,q2,q1,?_⟩;rw[q2];have n:∀ (k:Int),(1:Int)≠k→(4:Int)≠k→ar [(⟨true,1,aM x⟩:Ek),⟨true,4,aM y⟩] k=[]:=fun k h1 h2=>by rw[hY h1,hY h2,ln]
  refine Kg (i:=[⟨true,1,aM x⟩,⟨true,4,aM y⟩]) (n 0 (by decide) (by decide)) ?_ ?_ ?_ ?_ ?_
  ·rw[ui rfl,hY (by decide),ln]; exact Ye _
  ·rw[hY (by decide),ui rfl,ln]; exact Ye _
  ·rw[n 6 (by decide) (by decide)]; exact Yd _
  ·rw[n 7 (by decide) (by decide)]; exact Yd _
  ·intro r hr;rcases Yi.1 hr with rfl | hr
   ·exact yQ (by decide) fun _=>by rw[dZ]; omega
   ·rw[X9.1 hr]; exact yQ (by decide) fun _=>by rw[dZ]; omega
theorem Lx (x y:List Int):ar (dB x y) 1=[⟨true,1,aM x⟩]∧ar (dB x y) 4=[⟨true,4,aM y⟩]∧∀ k:Int,(1:Int)≠k→(4:Int)≠k→(0:Int)≠k→ar (dB x y) k=[]:=by
  unfold dB;refine⟨?_,?_,fun k h1 h2 h3=>?_⟩
  ·rw[ui rfl,hY (by decide),hY (by decide),ln]
  ·rw[hY (by decide),ui rfl,hY (by decide),ln]
  ·rw[hY h1,hY h2,hY h3,ln]
theorem XV {x y:List Int} (h:dA x y=0):kV (bi x y)∧gX (aG (bi x y))=false∧fv (aG (bi x y)) 1=x∧fv (aG (bi x y)) 4=y:=by
  obtain⟨hx,hy,_⟩:=qW h;obtain⟨q1,q2,q3⟩:=uj h;obtain⟨a1,a4,an⟩:=Lx x y;unfold kV;rw[q2];refine⟨⟨q3,?_,?_,?_⟩,rfl,?_,?_⟩
  ·rw[bY,a1]; exact Nat.one_ne_zero
  ·rw[bY,a4]; exact Nat.one_ne_zero
  ·rw[bY,bY,bY,an 2 (by decide) (by decide) (by decide),an 3 (by decide) (by decide) (by decide),an 5 (by decide) (by decide) (by decide)]; rfl
  ·rw[yR a1,li hx]
  ·rw[yR a4,li hy]
theorem Mr {x y:List Int} (h:dA x y=0):iR (bi x y)∧iu (bi x y)=x∧iv (bi x y)=y:=by
  obtain⟨hx,hy,_⟩:=qW h;obtain⟨q1,q2,q3⟩:=uj h;have ex:iu (bi x y)=x:=by
    unfold iu;rw[q2];exact li hx
  have ey:iv (bi x y)=y:=by
    unfold iv;rw[q2];exact li hy
  refine⟨⟨q3,by rw[q2]; rfl,by rw[ex,ey]; exact h,by rw[ex,ey]⟩,ex,ey⟩
theorem lv {x y:List Int} {v:Int} (h:dS x y=some v):v∈x∧v∈y:=by
  obtain⟨h1,h2⟩:=List.find?_eq_some_iff_append.1 h;obtain⟨u,w,rfl,_⟩:=h2;exact⟨Yn _ YF,of_decide_eq_true h1⟩
theorem Kh {l:List Ek} {k:Int} {x:List Int} {r:Ek} (h:ar l k=[r]):fg l k x=if (eO r.bo).length=1∧(eO r.bo).getD 0 0∈x then some ((eO r.bo).getD 0 0) else none:=by
  unfold fg;rw[bY,h,if_pos (show [r].length=1 from rfl),yR h]
theorem HQ {l:List Ek} {k v:Int} {x:List Int} {c:Bool} (h:ar l k=[⟨c,k,aM [v]⟩]) (hv:v∈x) (hs:0≤v∧v≤65535):fg l k x=some v:=by
  have e:eO (aM [v])=[v]:=li fun n hn=>by rw[X9.1 hn]; exact hs
  rw[Kh h];dsimp only;rw[e,if_pos ⟨rfl,hv⟩];rfl
theorem FG {l:List Ek} {k:Int} {x:List Int} {c:Bool} (h:ar l k=[⟨c,k,[]⟩]):fg l k x=none:=by
  have e:eO (⟨c,k,[]⟩:Ek).bo=[]:=li (l:=[]) fun n hn=>by cases hn
  rw[Kh h,e,if_neg (fun q=>absurd q.1 (by decide))]
theorem Tf (r:List Fd) (c:Ch) (v a:Int) (ns:List (List UInt8)):∀ e∈fI r c v a ns,e.ty=5∧e.cr=false:=fun e he=>by
  obtain⟨n,_,rfl⟩:=Yu.1 he;exact⟨rfl,rfl⟩
open IntWalk
set_option maxHeartbeats 3200000
def iF (f:Fd):Prop:=0≤f.ty∧f.ty≤4294967295∧f.da.length=32
theorem Kp {l:List Fd} (h1:1≤l.length) (h2:l.length≤4) (h3:∀ i,i<l.length→iF (l.getD i default)∧∀ k,k<i→(l.getD k default).ty≠(l.getD i default).ty):cT l:=by
  refine⟨h1,h2,fun f hf=>?_,wk.2 fun i j hij hj=>(h3 j hj).2 i hij⟩;obtain⟨i,hi,rfl⟩:=YE hf;have:=(h3 i hi).1;rw[X6,X3 hi] at this;exact this
theorem ly {l:List Fd} (h:cT l) {i:Nat} (hi:i<l.length):iF (l.getD i default)∧∀ k,k<i→(l.getD k default).ty≠(l.getD i default).ty :=
  ⟨h.2.2.1 _ (FF hi),fun k hk=>wk.1 h.2.2.2 k i hk hi⟩
def o5 (l:List Fd) (i:Nat):St:=⟨aY [(1,.w (.c (.rp [.sl (l.map bM)]))),(3,.w (.c (.d (.int .i64 (i:Int)))))],hL [],uL []⟩
def uS (l:List Fd) (i k:Nat):St:=⟨aY [(1,.w (.c (.rp [.sl (l.map bM)]))),(3,.w (.c (.d (.int .i64 (i:Int))))),(4,.w (.c (.d (.int .i64 (k:Int)))))],hL [],uL []⟩
def rN:aO := .seq (.seq (.reg [oM 48 4,oM 49 3,oO 50 (.bin .lss (.t 48) (.t 49))]) (.cond (.t 50) (.skip) (.exit 2))) (.seq (.block 3 (.seq (.reg [oO 53 (.fieldAddr 0 (.t 1)),oO 54 (.load .sc (.t 53)),oM 55 4,oO 56 (.idxSl 2 (.t 54) (.t 55)),oO 57 (.fieldAddr 0 (.t 56)),oO 58 (.load .sc (.t 57)),oO 59 (.fieldAddr 0 (.t 1)),oO 60 (.load .sc (.t 59)),oM 61 3,oO 62 (.idxSl 2 (.t 60) (.t 61)),oO 63 (.fieldAddr 0 (.t 62)),oO 64 (.load .sc (.t 63)),oO 65 (.bin .eql (.t 58) (.t 64))]) (.cond (.t 65) (.seq (.reg [oO 2 (.mv (.k (.c (.d (.bool false)))))]) (.ret)) (.skip)))) (.reg [oM 51 4,oO 52 (.bin .add (.t 51) (kI 1)),oM 4 52]))
def nx:aO := .seq (.seq (.reg [oM 15 3,oO 16 (.fieldAddr 0 (.t 1)),oO 17 (.load .sc (.t 16)),oO 18 (.len (.t 17)),oO 19 (.bin .lss (.t 15) (.t 18))]) (.cond (.t 19) (.skip) (.exit 0))) (.seq (.block 1 (.seq (.seq (.reg [oO 22 (.fieldAddr 0 (.t 1)),oO 23 (.load .sc (.t 22)),oM 24 3,oO 25 (.idxSl 2 (.t 23) (.t 24)),oO 26 (.fieldAddr 0 (.t 25)),oO 27 (.load .sc (.t 26)),oO 28 (.bin .lss (.t 27) (kI 0)),oM 29 28,oG 30 (.fieldAddr 0 (.t 1)) 29 false,oG 31 (.load .sc (.t 30)) 29 false,oG 32 (.mv (.t 3)) 29 false,oG 33 (.idxSl 2 (.t 31) (.t 32)) 29 false,oG 34 (.fieldAddr 0 (.t 33)) 29 false,oG 35 (.load .sc (.t 34)) 29 false,oG 36 (.bin .gtr (.t 35) (kI 4294967295)) 29 false,oO 37 (.pick (.t 29) (.k (.c (.d (.bool true)))) (.t 36)),oM 38 37,oG 39 (.fieldAddr 0 (.t 1)) 38 false,oG 40 (.load .sc (.t 39)) 38 false,
 oG 41 (.mv (.t 3)) 38 false,oG 42 (.idxSl 2 (.t 40) (.t 41)) 38 false,oG 43 (.fieldAddr 1 (.t 42)) 38 false,oG 44 (.load .sc (.t 43)) 38 false,oG 45 (.len (.t 44)) 38 false,oG 46 (.bin .neq (.t 45) (kI 32)) 38 false,oO 47 (.pick (.t 38) (.k (.c (.d (.bool true)))) (.t 46))]) (.cond (.t 47) (.seq (.reg [oO 2 (.mv (.k (.c (.d (.bool false)))))]) (.ret)) (.skip))) (.seq (.reg [oO 4 (.mv (kI 0))]) (.block 2 (.loop rN))))) (.reg [oM 20 3,oO 21 (.bin .add (.t 20) (kI 1)),oM 3 21]))
def sX:aA:=⟨1,66,.seq (.reg [oO 1 (.box .roBox (.t 0)),oO 2 (.mv (.k (.c (.d (.bool false)))))]) (.seq (.seq (.reg [oO 5 (.fieldAddr 0 (.t 1)),oO 6 (.load .sc (.t 5)),oO 7 (.len (.t 6)),oO 8 (.bin .lss (.t 7) (kI 1)),oM 9 8,oG 10 (.fieldAddr 0 (.t 1)) 9 false,oG 11 (.load .sc (.t 10)) 9 false,oG 12 (.len (.t 11)) 9 false,oG 13 (.bin .gtr (.t 12) (kI 4)) 9 false,oO 14 (.pick (.t 9) (.k (.c (.d (.bool true)))) (.t 13))]) (.cond (.t 14) (.seq (.reg [oO 2 (.mv (.k (.c (.d (.bool false)))))]) (.ret)) (.skip))) (.seq (.seq (.reg [oO 3 (.mv (kI 0))]) (.block 0 (.loop nx))) (.seq (.reg [oO 2 (.mv (.k (.c (.d (.bool true)))))]) (.ret)))),[(2,none)]⟩
theorem Ti:aw Tryz.prog { own:=[],comp:=[],frz:=[],nils:=[] } Tryz.f73=some sX:=by kernel_rfl
theorem VF (G:ah) (l:List Fd) (hl:l.length≤9223372036854775807):aj Tryz.prog G 73 [bG l] (.w (.c (.d (.bool (decide (cT l)))))):=by
  refine aB Tryz.func73 Ti rfl rfl ?_;unfold bG;rcases YG l.length 1 with h1 | h1
  ·have hno:¬ cT l:=fun h=>by have:=h.1; omega
   rw[decide_eq_false hno];simp only[sX,af,ae,aa,seval,iteOmega,toNatUp];exact aF
  ·rcases YG 4 l.length with h4 | h4
   ·have hno:¬ cT l:=fun h=>by have:=h.2.1; omega
    have g4:((l.length:Int)>4)=True:=eq_true (by omega);rw[decide_eq_false hno];simp only[sX,af,ae,aa,seval,iteOmega,toNatUp,g4];exact aF
   ·have g4:((l.length:Int)>4)=False:=eq_false (by omega);simp only[sX,af,ae,aa,seval,iteOmega,toNatUp,g4];refine bf (o5 l) (fun i=>l.length-i) (fun i=>i≤l.length∧∀ j,j<i→iF (l.getD j default)∧∀ k,k<j→(l.getD k default).ty≠(l.getD j default).ty) 0 ⟨Yd _,fun j hj=>by omega⟩ ?_ ?_
    ·refine aD (fun i=>0) ?_ ?_ rfl rfl <;> simp only[wx,aC,aK,aa,seval,iteOmega,toNatUp]
    ·rintro i ⟨hi,hok⟩;by_cases hlt:i<l.length
     ·have g:=lU hlt;have hno:¬ iF (l.getD i default)→¬ cT l:=fun h hr=>h (ly hr hlt).1
      have hno2:∀ k,k<i→(l.getD k default).ty=(l.getD i default).ty→¬ cT l:=fun k hk e hr=>(ly hr hlt).2 k hk e
      have hgo:iF (l.getD i default)→(∀ k,k<i→(l.getD k default).ty≠(l.getD i default).ty)→∀ j,j<i+1→iF (l.getD j default)∧∀ k,k<j→(l.getD k default).ty≠(l.getD j default).ty:=fun a b j hj=>by
        rcases YG j i with h | h
        ·exact hok j h
        ·obtain rfl:j=i:=by omega
         exact⟨a,b⟩
      by_cases hm:iF (l.getD i default)
      ·obtain⟨m1,m2,m3⟩:=hm;have g1:((l.getD i default).ty>4294967295)=False:=eq_false (by omega);have hgo:=hgo ⟨m1,m2,m3⟩;have est:o5 l i=⟨aY [(1,.w (.c (.rp [.sl (l.map bM)]))),(3,.w (.c (.d (.int .i64 (i:Int)))))],hL [],uL []⟩:=rfl;rw[est];clear hok hno est;generalize hx:l.getD i default=x at *
       simp only[nx,ae,aa,seval,iteOmega,toNatUp,aL,g,bM,g1,m3];refine bf (uS l i) (fun k=>i-k) (fun k=>k≤i∧∀ m,m<k→(l.getD m default).ty≠x.ty) 0 ⟨Yd _,fun m hm=>by omega⟩ ?_ ?_
       ·refine aD (fun i=>0) ?_ ?_ rfl rfl <;> simp only[wx,aC,aK,aa,seval,iteOmega,toNatUp] <;> try rfl
       ·rintro k ⟨hk,hd⟩;by_cases hki:k<i
        ·have gk:=lU (l:=l) (i:=k) (by omega);have hne:=hno2 k hki;by_cases he:(l.getD k default).ty=x.ty
         ·rw[decide_eq_false (hne he)];have ge:((l.getD k default).ty=x.ty)=True:=eq_true he;clear hd hgo hno2 hne;generalize l.getD k default=y at *
          simp only[rN,uS,ae,aa,seval,iteOmega,toNatUp,aL,g,gk,bM,ge];exact aF
         ·have ge:((l.getD k default).ty=x.ty)=False:=eq_false he;have hd':∀ m,m<k+1→(l.getD m default).ty≠x.ty:=fun m hm=>by
            rcases YG m k with h | h
            ·exact hd m h
            ·obtain rfl:m=k:=by omega
             exact he
          clear hd hgo hno2 hne;generalize l.getD k default=y at *
          simp only[rN,uS,ae,aa,seval,iteOmega,toNatUp,aL,g,gk,bM,ge];refine a6 (k+1) (by omega) ⟨by omega,hd'⟩ (aD (fun _=>0) ?_ ?_ rfl rfl) <;> simp only[wx,aC,aK,aa,seval,iteOmega,toNatUp] <;> try rfl
        ·obtain rfl:k=i:=by omega
         have hgo:=hgo hd;clear hno2 hd;simp only[rN,uS,ae,aa,seval,iteOmega,toNatUp];refine a6 (k+1) (by omega) ⟨by omega,hgo⟩ (aD (fun _=>0) ?_ ?_ rfl rfl) <;> simp only[wx,aC,aK,aa,seval,iteOmega,toNatUp] <;> try rfl
      ·rw[decide_eq_false (hno hm)];clear hok hno hno2 hgo;generalize hx:l.getD i default=x at *
       unfold iF at hm;rcases Int.lt_or_le x.ty 0 with m1 | m1
       ·have g1:(x.ty<0)=True:=eq_true m1;simp only[nx,o5,ae,aa,seval,iteOmega,toNatUp,aL,g,bM,g1];exact aF
       ·have g0:(x.ty<0)=False:=eq_false (by omega);rcases Int.lt_or_le 4294967295 x.ty with m2 | m2
        ·have g1:(x.ty>4294967295)=True:=eq_true m2;simp only[nx,o5,ae,aa,seval,iteOmega,toNatUp,aL,g,bM,g0,g1];exact aF
        ·have g1:(x.ty>4294967295)=False:=eq_false (by omega);have g2:((x.da.length:Int)=32)=False:=eq_false (by omega);simp only[nx,o5,ae,aa,seval,iteOmega,toNatUp,aL,g,bM,g0,g1,g2];exact aF
     ·have hr:cT l:=Kp h1 h4 fun j hj=>hok j (by omega)
      rw[decide_eq_true hr];clear hok hr;simp only[nx,o5,ae,aa,seval,iteOmega,toNatUp];exact aF
def Kq:aA:=⟨2,17,.seq (.reg [oO 2 (.box .roBox (.t 0)),oO 3 (.box .roBox (.t 1)),oO 4 (.mv (.k (.c (.d (.bool false)))))]) (.seq (.reg [oO 5 (.fieldAddr 0 (.t 2)),oO 6 (.load .sc (.t 5)),oO 7 (.fieldAddr 0 (.t 3)),oO 8 (.load .sc (.t 7)),oO 9 (.call 20 [(.t 6),(.t 8)] none),oM 10 9,oG 11 (.fieldAddr 1 (.t 2)) 10 true,oG 12 (.load .sc (.t 11)) 10 true,oG 13 (.fieldAddr 1 (.t 3)) 10 true,oG 14 (.load .sc (.t 13)) 10 true,oG 15 (.call 20 [(.t 12),(.t 14)] none) 10 true,oO 16 (.pick (.t 10) (.t 15) (.k (.c (.d (.bool false))))),oM 4 16]) (.ret)),[(4,none)]⟩
theorem VG:aw Tryz.prog { own:=[],comp:=[],frz:=[],nils:=[] } Tryz.f32=some Kq:=by kernel_rfl
theorem LJ (G:ah) (a b:List UInt8):aj Tryz.prog G 32 [.agg [.sl (a.map bD),.sl (b.map bD)],.agg [.sl (a.map bD),.sl (b.map bD)]] (.w (.c (.d (.bool true)))):=by
  refine aB Tryz.func32 VG rfl rfl ?_;have c1:=p8 G a a;have c2:=p8 G b b;rw[beq_self_eq_true] at c1 c2;simp only[Kq,af,ae,aa,seval,iteOmega,toNatUp];refine sD (c1) ?_;refine sD (c2) ?_;exact aF
theorem C6 {α:Type} (k:Int) (v:α):∀ es:List (Int×α),(bP es k v).map (·.1)=if k∈es.map (·.1) then es.map (·.1) else es.map (·.1)++[k]
  | []=>rfl
  | (y,u)::r=>by
    simp only[bP];by_cases e:y=k
    ·subst e;rw[if_pos rfl,if_pos (by simp)];rfl
    ·rw[if_neg e,Ya,C6 k v r,Ya];by_cases h:k∈r.map (·.1)
     ·rw[if_pos h,if_pos (Yr _ h)]
     ·rw[if_neg h,if_neg (by
      intro q;rcases Yi.1 q with q | q
      ·exact e q.symm
      ·exact h q),YW]
theorem NK {α:Type} {es:List (Int×α)} (h:(es.map (·.1)).Nodup) (k:Int) (v:α):((bP es k v).map (·.1)).Nodup:=by
  rw[C6];split
  ·exact h
  ·rename_i hk;refine Zv.2 ⟨h,by simp,fun a ha b hb e=>?_⟩;rw[X9] at hb;subst hb e;exact hk ha
theorem iZ {α:Type} (y:Int) (u:α) (r:List (Int×α)) (k:Int):aX ((y,u)::r) k=if y=k then some u else aX r k:=by
  unfold aX;by_cases e:y=k
  ·subst e; simp
  ·rw[if_neg e,YQ (by simpa using e)]
theorem xZ {α:Type}:∀ {es:List (Int×α)} {k:Int} {v:α},(es.map (·.1)).Nodup→(k,v)∈es→aX es k=some v
  | (y,u)::r,k,v,hn,h=>by
    rw[Ya,List.nodup_cons] at hn;rw[iZ];rcases Yi.1 h with h | h
    ·cases h; rw[if_pos rfl]
    ·have:y≠k:=fun e=>hn.1 (e ▸ Yu.2 ⟨_,h,rfl⟩)
     rw[if_neg this];exact xZ hn.2 h
theorem KL {α:Type}:∀ {es:List (Int×α)} {k:Int} {v:α},aX es k=some v→(k,v)∈es
  | [],_,_,h=>by cases h
  | (y,u)::r,k,v,h=>by
    rw[iZ] at h;by_cases e:y=k
    ·rw[if_pos e] at h; cases h; subst e; exact YF
    ·rw[if_neg e] at h; exact Yr _ (KL h)
theorem H7 {α β:Type} (f:α→β):∀ (es:List (Int×α)) (k:Int),aX (es.map fun p=>(p.1,f p.2)) k=(aX es k).map f
  | [],_=>rfl
  | (y,u)::r,k=>by
    rw[Ya,iZ,iZ,H7 f r k];split <;> rfl
def eT (l:List Ek):Nat→List (Int×List Ek)
  | 0=>[]
  | i+1=>bP (eT l i) (l.getD i default).ty ((aX (eT l i) (l.getD i default).ty).getD []++[l.getD i default])
theorem wm (l:List Ek):∀ i,((eT l i).map (·.1)).Nodup
  | 0=>List.nodup_nil
  | i+1=>NK (wm l i) _ _
theorem Q8 (l:List Ek) (r:Ek) (k:Int):ar (l++[r]) k=if r.ty=k then ar l k++[r] else ar l k:=by
  unfold ar;rw[List.filter_append];by_cases h:r.ty=k
  ·rw[if_pos h,List.filter_cons_of_pos (by simpa using h)]; rfl
  ·rw[if_neg h,List.filter_cons_of_neg (by simpa using h)]; simp
theorem y7 (l:List Ek):∀ (i:Nat),i≤l.length→∀ k,aX (eT l i) k=if ar (l.take i) k=[] then none else some (ar (l.take i) k)
  | 0,_,k=>by rw[Zf]; rfl
  | i+1,hi,k=>by
    have ih:=y7 l i (by omega);have hg:(aX (eT l i) (l.getD i default).ty).getD []=ar (l.take i) (l.getD i default).ty:=by
      rw[ih];split
      ·rename_i h; rw[h]; rfl
      ·rfl
    rw[eT,H6,hg,rx (by omega),Q8];by_cases h:k=(l.getD i default).ty
    ·subst h;rw[if_pos rfl,if_pos rfl,if_neg (by simp)]
    ·rw[if_neg h,if_neg (show ¬ (l.getD i default).ty=k from fun e=>h e.symm),ih]
def vf (l:List Ek):List (Int×List Ek):=eT l l.length
theorem y8 (l:List Ek) (k:Int):aX (vf l) k=if ar l k=[] then none else some (ar l k):=by
  have:=y7 l l.length (Ye _) k;rw[Zb] at this;exact this
theorem Tr {l:List Ek} {k:Int} {x:List Ek} (h:(k,x)∈vf l):x=ar l k∧x≠[]:=by
  have:=xZ (wm l _) h;rw[show aX (eT l l.length) k=_ from y8 l k] at this;split at this
  ·cases this
  ·rename_i h2; cases this; exact⟨rfl,h2⟩
theorem Ts {l:List Ek} {k:Int} (h:ar l k≠[]):(k,ar l k)∈vf l:=KL (by rw[y8,if_neg h])
def cO (l:List Ek):List (Int×D):=(vf l).map fun p=>(p.1,.sl (p.2.map aN))
def cd (l:List Ek):D:=.mp .i64 (cO l)
theorem y9 (l:List Ek) (k:Int):(aX (cO l) k).getD (.sl [])=.sl ((ar l k).map aN):=by
  unfold cO;rw[H7 (fun x:List Ek=>D.sl (x.map aN)),y8];split
  ·rename_i h; rw[h]; rfl
  ·rfl
theorem H8 {l:List Ek} {p:Int×D} (h:p∈cO l):p=(p.1,.sl ((ar l p.1).map aN))∧ar l p.1≠[]:=by
  obtain⟨⟨k,x⟩,h1,rfl⟩:=Yu.1 h;obtain⟨rfl,h2⟩:=Tr h1;exact⟨rfl,h2⟩
theorem Tt {l:List Ek} {k:Int} (h:ar l k≠[]):(k,D.sl ((ar l k).map aN))∈cO l:=Yu.2 ⟨_,Ts h,rfl⟩
theorem qa:cd []=.mp .i64 []:=rfl
def cu:List (Int×List Ek)→Nat→List (Int×C)
  | [],_=>[]
  | p::r,j=>(p.1,.own (8*j+3) 3 0 p.2.length)::cu r (j+1)
theorem KM:∀ (es:List (Int×List Ek)) (b:Nat) (k:Int),aX (cu es b) k=none∧aX es k=none∨∃ j x,aX es k=some x∧es[j]?=some (k,x)∧aX (cu es b) k=some (.own (8*(b+j)+3) 3 0 x.length)∧∀ c,bP (cu es b) k c=((cu es b).set j (k,c))∧∀ y,bP es k y=es.set j (k,y)
  | [],_,_=>.inl ⟨rfl,rfl⟩
  | (y,u)::r,b,k=>by
    by_cases e:y=k
    ·subst e;refine .inr ⟨0,u,by rw[iZ,if_pos rfl],rfl,by rw[cu,iZ,if_pos rfl]; rfl,fun c=>⟨?_,fun z=>?_⟩⟩
     ·rw[cu,bP,if_pos rfl]; rfl
     ·rw[bP,if_pos rfl]; rfl
    ·rcases KM r (b+1) k with ⟨h1,h2⟩ | ⟨j,x,h1,h2,h3,h4⟩
     ·exact .inl ⟨by rw[cu,iZ,if_neg e,h1],by rw[iZ,if_neg e,h2]⟩
     ·refine .inr ⟨j+1,x,by rw[iZ,if_neg e,h1],h2,?_,fun c=>⟨?_,fun z=>?_⟩⟩
      ·rw[cu,iZ,if_neg e,h3,show b+1+j=b+(j+1) by omega]
      ·rw[cu,bP,if_neg e,(h4 c).1]; rfl
      ·rw[bP,if_neg e,(h4 c).2 z]; rfl
theorem xm {α:Type}:∀ {es:List (Int×α)} {k:Int} (v:α),aX es k=none→bP es k v=es++[(k,v)]
  | [],_,_,_=>rfl
  | (y,u)::r,k,v,h=>by
    rw[iZ] at h;by_cases e:y=k
    ·rw[if_pos e] at h; cases h
    ·rw[if_neg e] at h;rw[bP,if_neg e,xm v h,YW]
theorem H9:∀ (es:List (Int×List Ek)) (b:Nat),(cu es b).length=es.length
  | [],_=>rfl
  | _::r,b=>by rw[cu,YZ,H9 r,YZ]
theorem qb:∀ (es:List (Int×List Ek)) (b j:Nat),(cu es b)[j]?=(es[j]?).map fun p=>(p.1,.own (8*(b+j)+3) 3 0 p.2.length)
  | [],_,_=>rfl
  | p::r,b,0=>rfl
  | p::r,b,j+1=>by rw[cu,YL,qb r (b+1) j,YL,show b+1+j=b+(j+1) by omega]
def fu (es:List (Int×List Ek)):au:=fun id=>if id=1 then some (.mp .i64 (cu es 0)) else if id%8=3 then (es[id / 8]?).map fun p=>.row 3 (p.2.map aN) else none
def gm:Nat→Bool:=fun id=>decide (id=1) || decide (id%8=3)
theorem Wa (es:List (Int×List Ek)):fu es 1=some (.mp .i64 (cu es 0)):=rfl
theorem tF (es:List (Int×List Ek)) (j:Nat):fu es (8*j+3)=(es[j]?).map fun p=>.row 3 (p.2.map aN):=by
  unfold fu;rw[if_neg (by omega),if_pos (by omega),show (8*j+3) / 8=j by omega]
theorem za (j:Nat):gm (8*j)=false:=by
  unfold gm;rw[decide_eq_false (by omega),decide_eq_false (by omega)]; rfl
theorem KN (j:Nat):gm (8*j+3)=true:=by
  unfold gm;rw[decide_eq_true (show (8*j+3)%8=3 by omega),Bool.or_true]
theorem rO {es:List (Int×List Ek)} {id:Nat} {o:Ob} (h:fu es id=some o):(id=1∧o=.mp .i64 (cu es 0))∨∃ j p,id=8*j+3∧es[j]?=some p∧o=.row 3 (p.2.map aN):=by
  unfold fu at h;split at h
  ·rename_i e; cases h; exact .inl ⟨e,rfl⟩
  ·split at h
   ·obtain⟨p,h1,rfl⟩:=X4.1 h;exact .inr ⟨id / 8,p,by omega,h1,rfl⟩
   ·cases h
theorem Tu {es:List (Int×List Ek)} {b i:Nat} (h:i∈(cu es b).flatMap fun p=>p.2.ids):∃ j,i=8*j+3:=by
  obtain⟨p,h1,h2⟩:=Yf.1 h;obtain⟨j,hj⟩:=List.getElem?_of_mem h1;rw[qb] at hj;obtain⟨q,_,rfl⟩:=X4.1 hj;have:i=8*(b+j)+3:=by simpa [C.ids] using h2
  exact⟨b+j,this⟩
theorem x5 {σ:St} (g:Nat→Nat) {fl:List (Nat×V)} {es:List (Int×List Ek)} (h1:kO σ.f g fl) (hm:σ.h (g 1)=some (.mp .i64 ((cu es 0).map fun p=>(p.1,p.2.ren g)))) (hr:∀ j p,es[j]?=some p→σ.h (g (8*j+3))=some (.row 3 (p.2.map aN)))
    (hg1:∀ j,g 1≠g (8*j+3)) (hg2:∀ i j,i<es.length→j<es.length→g (8*i+3)=g (8*j+3)→i=j) (hf:(fl.flatMap fun p=>p.2.ids).all (fun i=>gm i)=true):dN σ ⟨aY fl,fu es,gm⟩:=by
  refine⟨⟨g,yn (xB h1),fun i o ho=>?_,fun i j hi hj e=>?_⟩,fun t i hi=>Yp.1 hf i (GR hi),fun i o ho=>?_⟩
  ·rcases rO ho with ⟨rfl,rfl⟩ | ⟨j,p,rfl,hp,rfl⟩
   ·exact hm
   ·exact hr j p hp
  ·obtain⟨oi,hi⟩:=Yq.1 hi;obtain⟨oj,hj⟩:=Yq.1 hj;rcases rO hi with ⟨rfl,_⟩ | ⟨a,p,rfl,hp,_⟩ <;> rcases rO hj with ⟨rfl,_⟩ | ⟨b,q,rfl,hq,_⟩
   ·rfl
   ·exact absurd e (hg1 b)
   ·exact absurd e.symm (hg1 a)
   ·rw[hg2 a b (Yk.1 hp).1 (Yk.1 hq).1 e]
  ·rcases rO ho with ⟨rfl,rfl⟩ | ⟨j,p,rfl,hp,rfl⟩
   ·refine⟨rfl,fun i hi=>?_⟩;obtain⟨j,rfl⟩:=Tu (show i∈(cu es 0).flatMap fun p=>p.2.ids from hi);exact KN j
   ·exact⟨KN j,fun i hi=>by cases hi⟩
theorem C7 (es:List (Int×List Ek)):∀ (r:List (Int×List Ek)) (b:Nat),(∀ j p,r[j]?=some p→fu es (8*(b+j)+3)=some (.row 3 (p.2.map aN)))→kj (fu es) (cu r b)=some (r.map fun p=>(p.1,D.sl (p.2.map aN)))
  | [],_,_=>rfl
  | p::r,b,h=>by
    have h0:=h 0 p rfl;have ih:=C7 es r (b+1) fun j q hq=>by have:=h (j+1) q hq; rw[show b+(j+1)=b+1+j by omega] at this; exact this
    have hd:dv (fu es) (.own (8*b+3) 3 0 p.2.length)=some (.sl (p.2.map aN)):=by
      simp only[dv];rw[show b+0=b from rfl] at h0;rw[h0];simp[dd,X7]
    simp only[cu,kj,hd,ih,D.one,if_true,Ya]
theorem Pi (es:List (Int×List Ek)):kj (fu es) (cu es 0)=some (es.map fun p=>(p.1,D.sl (p.2.map aN))) :=
  C7 es es 0 fun j p hp=>by rw[YT,tF,hp]; rfl
theorem qv {l:List Ek} {t:Int} (h:∀ r∈l,r.ty=t) (k:Int):ar l k=if k=t then l else []:=by
  by_cases e:k=t
  ·rw[if_pos e,e,Te h]
  ·rw[if_neg e];exact Vl fun r hr q=>e (by rw[← q,h r hr])
def bB (a:Ek) (b x h p:List Ek):List Ek:=a::(b++(x++(h++p)))
theorem WL {a:Ek} {b x h p:List Ek} (h1:a.ty=1) (h4:∀ r∈b,r.ty=4) (h5:∀ r∈x,r.ty=5) (h6:∀ r∈h,r.ty=6) (h7:∀ r∈p,r.ty=7) (k:Int) :
    ar (bB a b x h p) k=(if k=1 then [a] else [])++((if k=4 then b else [])++((if k=5 then x else [])++((if k=6 then h else [])++(if k=7 then p else [])))):=by
  have e:bB a b x h p=[a]++(b++(x++(h++p))):=rfl;rw[e,nP,nP,nP,nP,qv (l:=[a]) (t:=1) (fun r hr=>by rw[X9.1 hr]; exact h1),qv h4,qv h5,qv h6,qv h7]
def bX:Ek:=⟨true,0,[]⟩
theorem zk {a:Ek} {b x h p:List Ek} {P:Ek→Prop} (h1:P a) (h4:∀ r∈b,P r) (h5:∀ r∈x,P r) (h6:∀ r∈h,P r) (h7:∀ r∈p,P r):∀ r∈bB a b x h p,P r:=by
  intro r hr;rcases Yi.1 hr with rfl | hr
  ·exact h1
  ·rcases Yj.1 hr with hr | hr
   ·exact h4 r hr
   ·rcases Yj.1 hr with hr | hr
    ·exact h5 r hr
    ·rcases Yj.1 hr with hr | hr
     ·exact h6 r hr
     ·exact h7 r hr
theorem z5 {a:Ek} {b x h p:List Ek} (h1:a.ty=1) (h4:∀ r∈b,r.ty=4) (h5:∀ r∈x,r.ty=5) (h6:∀ r∈h,r.ty=6) (h7:∀ r∈p,r.ty=7)
    (l4:b.length≤1) (l5:x.length≤8) (l6:h.length≤1) (l7:p.length≤1) (b1:a.bo.length%2=0∧a.bo.length≤255) (b4:∀ r∈b,r.bo.length%2=0∧r.bo.length≤255) (b5:∀ r∈x,r.bo.length≤255) (b6:∀ r∈h,r.bo.length≤255) (b7:∀ r∈p,r.bo.length=2) :
    dX (bB a b x h p++[bX])=0∧dP (be (bB a b x h p++[bX]))=0∧aG (be (bB a b x h p++[bX]))=bB a b x h p++[bX]∧eG (be (bB a b x h p++[bX]))∧gX (bB a b x h p++[bX])=false ∧
      ar (bB a b x h p++[bX]) 1=[a]∧ar (bB a b x h p++[bX]) 2=[]∧ar (bB a b x h p++[bX]) 4=b∧ar (bB a b x h p++[bX]) 5=x∧ar (bB a b x h p++[bX]) 6=h∧ar (bB a b x h p++[bX]) 7=p:=by
  have al:=WL h1 h4 h5 h6 h7;have z1:(1:Int)≠4∧(1:Int)≠5∧(1:Int)≠6∧(1:Int)≠7:=by decide
  have al0:ar (bB a b x h p) 0=[]:=by rw[al]; rfl
  have al1:ar (bB a b x h p) 1=[a]:=by rw[al]; rfl
  have al2:ar (bB a b x h p) 2=[]:=by rw[al]; rfl
  have al4:ar (bB a b x h p) 4=b:=by
    rw[al]
    show []++(b++([]++([]++[])))=b
    simp
  have al5:ar (bB a b x h p) 5=x:=by
    rw[al]
    show []++([]++(x++([]++[])))=x
    simp
  have al6:ar (bB a b x h p) 6=h:=by
    rw[al]
    show []++([]++([]++(h++[])))=h
    simp
  have al7:ar (bB a b x h p) 7=p:=by
    rw[al]; rfl
  have en:∀ k:Int,(0:Int)≠k→ar (bB a b x h p++[bX]) k=ar (bB a b x h p) k:=fun k hk=>by
    unfold bX;rw[nP,hY hk,ln,Ym]
  have hl:(bB a b x h p).length≤12:=by
    unfold bB;rw[YZ,X5,X5,X5]; omega
  have ok:dX (bB a b x h p++[bX])=0:=by
    refine (uh (fun r hr=>?_) (by rw[X5]; show _+1≤64; omega)).1;rcases Yj.1 hr with hr | hr
    ·refine zk (P:=fun r=>0≤r.ty∧r.ty≤7∧r.bo.length≤255) ?_ ?_ ?_ ?_ ?_ r hr
     ·exact⟨by omega,by omega,b1.2⟩
     ·exact fun r hr=>⟨by rw[h4 r hr]; decide,by rw[h4 r hr]; decide,(b4 r hr).2⟩
     ·exact fun r hr=>⟨by rw[h5 r hr]; decide,by rw[h5 r hr]; decide,b5 r hr⟩
     ·exact fun r hr=>⟨by rw[h6 r hr]; decide,by rw[h6 r hr]; decide,b6 r hr⟩
     ·exact fun r hr=>⟨by rw[h7 r hr]; decide,by rw[h7 r hr]; decide,by rw[b7 r hr]; decide⟩
    ·rw[X9.1 hr]; exact fw (by decide) (by decide)
  obtain⟨d1,d2⟩:=Lo ok;have fm:kU (bB a b x h p++[bX]):=by
    refine Kg al0 (by rw[al1]; exact Ye _) (by rw[al4]; exact l4) (by rw[al6]; exact l6) (by rw[al7]; exact l7) ?_;refine zk ?_ ?_ ?_ ?_ ?_
    ·exact⟨fun _=>b1.1,fun q=>absurd (h1.symm.trans q) (by decide)⟩
    ·exact fun r hr=>⟨fun _=>(b4 r hr).1,fun q=>absurd ((h4 r hr).symm.trans q) (by decide)⟩
    ·exact fun r hr=>⟨fun q=>by rcases q with q | q <;> exact absurd ((h5 r hr).symm.trans q) (by decide),fun q=>absurd ((h5 r hr).symm.trans q) (by decide)⟩
    ·exact fun r hr=>⟨fun q=>by rcases q with q | q <;> exact absurd ((h6 r hr).symm.trans q) (by decide),fun q=>absurd ((h6 r hr).symm.trans q) (by decide)⟩
    ·exact fun r hr=>⟨fun q=>by rcases q with q | q <;> exact absurd ((h7 r hr).symm.trans q) (by decide),fun _=>b7 r hr⟩
  have st:gX (bB a b x h p++[bX])=false:=by
    unfold gX;rw[Y1];intro r hr;have:r.ty≤7:=by
      rcases Yj.1 hr with hr | hr
      ·refine zk (P:=fun r=>r.ty≤7) (by omega) ?_ ?_ ?_ ?_ r hr
       ·exact fun r hr=>by rw[h4 r hr]; decide
       ·exact fun r hr=>by rw[h5 r hr]; decide
       ·exact fun r hr=>by rw[h6 r hr]; decide
       ·exact fun r hr=>by rw[h7 r hr]; decide
      ·rw[X9.1 hr]; exact (show (0:Int)≤7 by decide)
    rw[Ys];exact fun q=>absurd (of_decide_eq_true q.2) (by omega)
  exact⟨ok,d1,d2,⟨d1,by rw[d2]; exact fm⟩,st,by rw[en 1 (by decide),al1],by rw[en 2 (by decide),al2],by rw[en 4 (by decide),al4],by rw[en 5 (by decide),al5],by rw[en 6 (by decide),al6],by rw[en 7 (by decide),al7]⟩
theorem z6 {a:Ek} {b x h p:List Ek} {c:Ch} {q:List UInt8} (hv:cy c) (hq:iR q)
    (fm:eG (be (bB a b x h p++[bX]))) (dl:aG (be (bB a b x h p++[bX]))=bB a b x h p++[bX]) (st:gX (bB a b x h p++[bX])=false)
    (a2:ar (bB a b x h p++[bX]) 2=[]) (a5:ar (bB a b x h p++[bX]) 5=x) (l5:x.length≤8) (c5:∀ r∈x,r.bo.length=104) :
    (fg (bB a b x h p++[bX]) 1 (iu q)=none∨fg (bB a b x h p++[bX]) 4 (iv q)=none→eI c q (be (bB a b x h p++[bX]))=10) ∧
      (∀ v w,fg (bB a b x h p++[bX]) 1 (iu q)=some v→fg (bB a b x h p++[bX]) 4 (iv q)=some w→x.length≠0→eI c q (be (bB a b x h p++[bX]))=0 ∧
        ng c q (be (bB a b x h p++[bX]))=⟨v,w,a7 c v w 0,a7 c v w 1,x.map (·.bo),pk (bB a b x h p++[bX]),pm (bB a b x h p++[bX])⟩):=by
  generalize bB a b x h p++[bX]=L at *
  have n5:(bI L 5).length=x.length:=by rw[bY,a5]
  have n2:(bI L 2).length=0:=by rw[bY,a2]; rfl
  have ck:jn L=x.map (·.bo):=by unfold jn; rw[a5]
  have e:eI c q (be L)=if ¬ ((fg L 1 (iu q)).isSome∧(fg L 4 (iv q)).isSome∧(bI L 5).length≠0) then 10 else if 8<(bI L 5).length then 8 else if ¬ ∀ x∈jn L,x.length=104 then 3 else 0:=by
    unfold eI;rw[dl,if_neg (not_not_intro hv),if_neg (not_not_intro hq),if_neg (not_not_intro fm),if_neg (by rw[st]; exact Bool.false_ne_true),if_neg (not_not_intro n2)]
  refine⟨fun hno=>?_,fun v w e1 e4 h0=>?_⟩
  ·rw[e,if_pos];rintro⟨q1,q2,_⟩;rcases hno with hno | hno
   ·rw[hno] at q1; exact absurd q1 (by decide)
   ·rw[hno] at q2; exact absurd q2 (by decide)
  ·have e0:eI c q (be L)=0:=by
     rw[e,if_neg,n5,if_neg (by omega),if_neg]
     ·refine not_not_intro fun y hy=>?_
      rw[ck] at hy;obtain⟨r,hr,rfl⟩:=Yu.1 hy;exact c5 r hr
     ·refine not_not_intro ⟨by rw[e1]; rfl,by rw[e4]; rfl,by rw[n5]; exact h0⟩
   refine⟨e0,?_⟩;unfold ng;rw[if_pos e0,dl,e1,e4,ck];rfl
def fS (s:Nat) (seed:List UInt8) (t:Nat):Fd:=⟨((s+t:Nat):Int),pg seed t⟩
theorem Rh (s:Nat) (seed:List UInt8) (t:Nat):(bw s seed t).getD 0 default=fS s seed t:=qk (by omega)
theorem WU {s k:Nat} {seed:List UInt8} {algo:Int} {up dn n:List UInt8} (h:s+k≤4294967295) (a0:0≤algo) (a1:algo≤65535) (h1:up.length=32) (h2:dn.length=32) (hn:n.length=16):(cG (fS s seed k) algo up dn n).length=104 :=
  (xf (m:=fS s seed k) (xW _ _) (by show (0:Int)≤((s+k:Nat):Int); omega) (by show ((s+k:Nat):Int)≤4294967295; omega) a0 a1 h1 h2 hn).1
theorem TN {s t k:Nat} {seed:List UInt8} {algo:Int} {up dn n:List UInt8} (h:s+t≤4294967295) (hk:k≤t) (a0:0≤algo) (a1:algo≤65535) (h1:up.length=32) (h2:dn.length=32) (hn:n.length=16) :
    (rh (cG (fS s seed k) algo up dn n)=0∧(fW (cG (fS s seed k) algo up dn n):Int)=((s+k:Nat):Int)) ∧
      (t-k<4→fe (bw s seed t) (cG (fS s seed k) algo up dn n)=0∧jl (bw s seed t) (cG (fS s seed k) algo up dn n)=⟨algo,up,dn,((t-k:Nat):Int)⟩) ∧
      (4≤t-k→fe (bw s seed t) (cG (fS s seed k) algo up dn n)=5∧jl (bw s seed t) (cG (fS s seed k) algo up dn n)=⟨0,[],[],0⟩):=by
  obtain⟨q1,q2,q3,q4,q5,q6⟩:=xf (m:=fS s seed k) (xW _ _) (by show (0:Int)≤((s+k:Nat):Int); omega) (by show ((s+k:Nat):Int)≤4294967295; omega) a0 a1 h1 h2 hn;have q2:(fW (cG (fS s seed k) algo up dn n):Int)=((s+k:Nat):Int):=q2;have hr:=yP (s:=s) (seed:=seed) (t:=t) h;have hf:=Q2 (s:=s) (seed:=seed) hk;refine⟨⟨if_neg (by omega),q2⟩,fun hlt=>?_,fun hge=>?_⟩
  ·rw[if_pos hlt] at hf;have hg:(bw s seed t).getD (t-k) default=fS s seed k:=by
     rw[qk (by omega)];unfold fS;rw[show t-(t-k)=k by omega]
   have e:fe (bw s seed t) (cG (fS s seed k) algo up dn n)=0:=by
     unfold fe;rw[if_pos hr,if_neg (by omega),q2,hf]
     show (if mW ((bw s seed t).getD (t-k) default) _ then (0:Int) else 6)=0
     rw[hg,if_pos q3]
   refine⟨e,?_⟩;unfold jl;rw[if_pos e,q2,hf]
   show Ay.mk (aR (aI (fc ((bw s seed t).getD (t-k) default) _) 0 2):Int) _ _ ((t-k:Nat):Int)=_
   rw[hg,q4]
   show Ay.mk _ (aI (fc ((bw s seed t).getD (t-k) default) _) 4 32) (aI (fc ((bw s seed t).getD (t-k) default) _) 36 32) _=_
   rw[hg,q5,q6]
  ·rw[if_neg (by omega)] at hf;have e:fe (bw s seed t) (cG (fS s seed k) algo up dn n)=5:=by
     unfold fe;rw[if_pos hr,if_neg (by omega),q2,hf]
   refine⟨e,?_⟩;unfold jl;rw[if_neg (by rw[e]; decide)]
end Go.Proofs.YtlghfnidknfakaaGreatDoor
