/- Texts of one's own, merged: from: Layer 17,without code: extension fields,their sizes and bytes,and what is read of bytes. Own work. -/
import Derived.Test.YtnjhelpgohdajaaGreatDoorMg110
import Derived.Test.YtnjhelpgohdajaaGreatDoorMg19
set_option linter.unusedVariables false
set_option linter.unusedSimpArgs false
namespace Go.Proofs.YtnjhelpgohdajaaGreatDoor
open Go.RowKit
structure Fd where
  ty:Int
  da:List UInt8
deriving DecidableEq,Inhabited
def bf (f:Fd):D:=.agg [.int .i64 f.ty,.sl (f.da.map bD)]
theorem MI (f:Fd):(bf f).cells=[.int .i64 f.ty,.sl (f.da.map bD)]:=rfl
theorem lP (l:List Fd):eZ 2 (l.map bf)=true:=by
  unfold eZ;rw[ap9];intro d hd;obtain⟨x,_,rfl⟩:=aqa.1 hd;rfl
def cx (f:Fd):Nat:=max 16 ((f.da.length+7) / 4*4)
def dA (f:Fd):Int:=if f.ty<0∨65535<f.ty then 4 else if 1232<cx f then 2 else 0
def oE (f:Fd):Nat:=if dA f=0 then cx f else 0
def jt (f:Fd):List UInt8:=aG f.ty.toNat 2++(aG (cx f) 2++(f.da++List.replicate (cx f-4-f.da.length) 0))
def gO (f:Fd):Fd:=⟨f.ty,f.da++List.replicate (cx f-4-f.da.length) 0⟩
theorem aiU (f:Fd):16≤cx f:=Nat.le_max_left _ _
theorem Hj (f:Fd):4+f.da.length≤cx f:=by unfold cx; omega
theorem adS (f:Fd):cx f%4=0:=by unfold cx; omega
theorem adT (f:Fd):cx f-4-f.da.length≤12:=by unfold cx; omega
theorem adU (f:Fd):(jt f).length=cx f:=by
  have:=Hj f;simp[jt,bS]; omega
theorem we {f:Fd} (h:dA f=0):0≤f.ty∧f.ty≤65535∧cx f≤1232:=by
  unfold dA at h;split at h
  ·cases h
  ·split at h
   ·cases h
   ·omega
theorem RS {f:Fd} (h1:0≤f.ty) (h2:f.ty≤65535) (h3:cx f≤1232):dA f=0:=by
  unfold dA;rw[if_neg (by omega),if_neg (by omega)]
def ia:List Fd→Int
  | []=>0
  | f::r=>if dA f=0 then ia r else dA f
def cT (l:List Fd):Nat:=(l.map cx).sum
def bQ (l:List Fd):List UInt8:=l.flatMap jt
def dh (l:List Fd):Int:=if ia l=0 then (if 24<l.length then 8 else if 1232<cT l then 2 else 0) else ia l
def lD (l:List Fd):List UInt8:=if dh l=0 then bQ l else []
theorem aaV:cT []=0:=rfl
theorem MJ (f:Fd) (l:List Fd):cT (f::l)=cx f+cT l:=rfl
theorem x9 (a b:List Fd):cT (a++b)=cT a+cT b:=by simp[cT]
theorem aaW:bQ []=[]:=rfl
theorem Yv (f:Fd) (l:List Fd):bQ (f::l)=jt f++bQ l:=rfl
theorem AU (a b:List Fd):bQ (a++b)=bQ a++bQ b:=by simp[bQ]
theorem jz (l:List Fd):(bQ l).length=cT l:=by
  induction l with
  | nil=>rfl
  | cons f l ih=>rw[Yv,apS,ih,adU,MJ]
theorem zh {l:List Fd}:ia l=0↔∀ f∈l,dA f=0:=by
  induction l with
  | nil=>exact⟨fun _ f hf=>(by cases hf),fun _=>rfl⟩
  | cons f l ih =>
    unfold ia;by_cases h:dA f=0
    ·rw[if_pos h,ih];simp[h]
    ·rw[if_neg h];exact⟨fun e=>absurd e h,fun e=>absurd (e f (by simp)) h⟩
theorem PX (a b:List Fd):ia (a++b)=if ia a=0 then ia b else ia a:=by
  induction a with
  | nil=>rfl
  | cons f a ih =>
    rw[aqE,ia,ia];by_cases h:dA f=0
    ·rw[if_pos h,if_pos h,ih]
    ·rw[if_neg h,if_neg h,if_neg h]
theorem Ax {l:List Fd} {i:Nat} (h:i<l.length):l.take (i+1)=l.take i++[l.getD i default]:=by
  rw[aq3,apR h,apT,apR h];rfl
theorem Ay {l:List Fd} {i:Nat} (h:i<l.length):cT (l.take (i+1))=cT (l.take i)+cx (l.getD i default):=by
  rw[Ax h,x9]; rfl
theorem Fy {l:List Fd} {i:Nat} (h:i<l.length):bQ (l.take (i+1))=bQ (l.take i)++jt (l.getD i default):=by
  rw[Ax h,AU]; simp[bQ]
theorem PY (l:List Fd) (i:Nat):cT (l.take i)≤cT l:=by
  conv=>rhs; rw[← aqq i l]
  rw[x9]; omega
theorem Oc {l:List Fd} {i:Nat} (h:i<l.length) (h0:ia (l.take i)=0):ia (l.take (i+1))=dA (l.getD i default):=by
  rw[Ax h,PX,if_pos h0,ia];by_cases e:dA (l.getD i default)=0
  ·rw[if_pos e,e]; rfl
  ·rw[if_neg e]
theorem aaX {l:List Fd} {i:Nat} (h:i<l.length) (h0:ia (l.take i)=0) (he:dA (l.getD i default)≠0):ia l=dA (l.getD i default):=by
  have h1:ia (l.take (i+1))=dA (l.getD i default):=Oc h h0
  conv=>lhs; rw[← aqq (i+1) l]
  rw[PX,h1,if_neg he]
theorem adV (l:List Fd) (h:∀ f∈l,dA f=0):cT l≤1232*l.length:=by
  induction l with
  | nil=>exact ap3 _
  | cons f l ih =>
    have:=we (h f (by simp));have:=ih fun g hg=>h g (by simp[hg])
    rw[MJ,aqx]; omega
def dO (l:List UInt8) (p:Nat):Nat:=bq (aK l (p+2) 2)
def bN (l:List UInt8):Nat→Nat
  | 0=>0
  | k+1=>bN l k+dO l (bN l k)
def jH (rest z:Nat):Int:=if rest<4 then 1 else if z%4≠0∨z<16 then 3 else if rest<z then 1 else 0
def fN (l:List UInt8) (k:Nat):Option Int :=
  if l.length≤bN l k then some 0 else if jH (l.length-bN l k) (dO l (bN l k))≠0 then some (jH (l.length-bN l k) (dO l (bN l k))) else if k=24 then some 8 else none
def cntF (l:List UInt8):Nat→Nat→Nat
  | 0,k=>k
  | n+1,k=>if (fN l k).isSome=true then k else cntF l n (k+1)
def fT (l:List UInt8):Nat:=cntF l 24 0
def zU (l:List UInt8) (k:Nat):Fd:=⟨(bq (aK l (bN l k) 2):Int),aK l (bN l k+4) (dO l (bN l k)-4)⟩
def kR (l:List UInt8) (k:Nat):List Fd:=(List.range k).map (zU l)
def ka (l:List UInt8) (k:Nat):List Int:=(List.range k).map fun i=>(bN l i:Int)
def fk (l:List UInt8):Int:=if 1232<l.length then 2 else (fN l (fT l)).getD 0
def ju (l:List UInt8):Nat:=if 1232<l.length then 0 else fT l
def cK (l:List UInt8):List Fd:=if fk l=0 then kR l (ju l) else []
def oF (l:List UInt8):List Int:=if fk l=0 then ka l (ju l) else []
theorem Hk (l:List UInt8) (k:Nat):(kR l k).length=k:=by simp[kR]
theorem adW (l:List UInt8) (k:Nat):(ka l k).length=k:=by simp[ka]
theorem aaY (l:List UInt8) (k:Nat):kR l (k+1)=kR l k++[zU l k]:=by simp[kR,aqS]
theorem aaZ (l:List UInt8) (k:Nat):ka l (k+1)=ka l k++[(bN l k:Int)]:=by simp[ka,aqS]
theorem aiV (l:List UInt8):(fN l 24).isSome=true:=by
  unfold fN;split
  ·rfl
  ·split
   ·rfl
   ·rfl
theorem PZ (l:List UInt8):∀ n k,k+n=24→k≤cntF l n k∧cntF l n k≤24∧(fN l (cntF l n k)).isSome=true∧∀ j,k≤j→j<cntF l n k→fN l j=none
  | 0,k,h=>by
    obtain rfl:k=24:=by omega
    exact⟨ap3 _,ap3 _,aiV l,fun j h1 h2=>by rw[cntF] at h2; omega⟩
  | n+1,k,h=>by
    rw[cntF];by_cases e:(fN l k).isSome=true
    ·rw[if_pos e];exact⟨ap3 _,by omega,e,fun j h1 h2=>by omega⟩
    ·rw[if_neg e];obtain⟨h1,h2,h3,h4⟩:=PZ l n (k+1) (by omega);refine⟨by omega,h2,h3,fun j h5 h6=>?_⟩;by_cases e2:j=k
     ·subst e2;cases hs:fN l j with
      | none=>rfl
      | some x=>rw[hs] at e; exact absurd rfl e
     ·exact h4 j (by omega) h6
theorem vq (l:List UInt8):fT l≤24∧(fN l (fT l)).isSome=true∧∀ j,j<fT l→fN l j=none:=by
  obtain⟨_,h2,h3,h4⟩:=PZ l 24 0 rfl;exact⟨h2,h3,fun j hj=>h4 j (apZ _) hj⟩
theorem adY {l:List UInt8} {n:Nat} (h1:(fN l n).isSome=true) (h2:∀ j,j<n→fN l j=none):fT l=n:=by
  obtain⟨k1,k2,k3⟩:=vq l;rcases Nat.lt_trichotomy (fT l) n with h | h | h
  ·rw[h2 _ h] at k2; cases k2
  ·exact h
  ·rw[k3 _ h] at h1; cases h1
theorem ano {r z:Nat} (h:jH r z=0):4≤r∧z%4=0∧16≤z∧z≤r:=by
  unfold jH at h;split at h
  ·cases h
  ·split at h
   ·cases h
   ·split at h
    ·cases h
    ·omega
theorem aiW {r z:Nat} (h1:z%4=0) (h2:16≤z) (h3:z≤r):jH r z=0:=by
  unfold jH;rw[if_neg (by omega),if_neg (by omega),if_neg (by omega)]
theorem Od {l:List UInt8} {k:Nat} (h:fN l k=none):bN l k<l.length∧jH (l.length-bN l k) (dO l (bN l k))=0∧k≠24:=by
  unfold fN at h;split at h
  ·cases h
  ·split at h
   ·cases h
   ·rename_i h1 h2;split at h
    ·cases h
    ·rename_i h3;exact⟨by omega,by simpa using h2,h3⟩
theorem Iu {l:List UInt8} {k:Nat} (h:fN l k=none):bN l k+dO l (bN l k)≤l.length∧dO l (bN l k)%4=0∧16≤dO l (bN l k)∧4≤l.length-bN l k:=by
  obtain⟨h1,h2,_⟩:=Od h;have:=ano h2;omega
theorem Iv (l:List UInt8):∀ k,k≤fT l→bN l k≤l.length
  | 0,_=>apZ _
  | k+1,h=>by
    have:=Iu ((vq l).2.2 k (by omega));rw[bN]; omega
theorem aiX (l:List UInt8) (p:Nat) (h:p+4≤l.length):dO l p<65536 :=
  (jk 2 (aK l (p+2) 2) (fp (by omega)) (by decide)).1
theorem anp {l:List UInt8} (h:fk l=0):l.length≤1232∧fN l (fT l)=some 0∧ju l=fT l∧bN l (fT l)=l.length:=by
  unfold fk at h;split at h
  ·cases h
  ·rename_i h1;have h2:=(vq l).2.1;cases hs:fN l (fT l) with
   | none=>rw[hs] at h2; cases h2
   | some x =>
     rw[hs] at h;obtain rfl:x=0:=h;refine⟨by omega,rfl,if_neg h1,?_⟩;have h3:=Iv l _ (ap3 _);unfold fN at hs;split at hs
     ·omega
     ·split at hs
      ·rename_i h5;exact absurd (Option.some.inj hs) h5
      ·split at hs
       ·exact absurd (Option.some.inj hs) (by decide)
       ·cases hs
theorem vt (p q:List UInt8) (a n:Nat):aK (p++q) (p.length+a) n=aK q a n:=by
  unfold aK;rw[List.drop_append,List.drop_of_length_le (by omega),aqz]
  congr 2
  omega
theorem aiY (f:Fd) (r:List UInt8):aK (jt f++r) 0 2=aG f.ty.toNat 2:=by
  unfold jt aK;rw[ap6,arm,aqK (by simp[bS]),apX (by simp[bS])]
theorem aiZ (f:Fd) (r:List UInt8):aK (jt f++r) 2 2=aG (cx f) 2:=by
  have h:=vt (aG f.ty.toNat 2) ((aG (cx f) 2++(f.da++List.replicate (cx f-4-f.da.length) 0))++r) 0 2;rw[bS,← ap6] at h;unfold jt;refine h.trans ?_;unfold aK;rw[ap6,arm,aqK (by simp[bS]),apX (by simp[bS])]
theorem ai0 (f:Fd) (r:List UInt8):aK (jt f++r) 4 (cx f-4)=f.da++List.replicate (cx f-4-f.da.length) 0:=by
  have hl:=Hj f;have h:=vt (aG f.ty.toNat 2++aG (cx f) 2) ((f.da++List.replicate (cx f-4-f.da.length) 0)++r) 0 (cx f-4);rw[apS,bS,bS,← ap6,ap6 (aG f.ty.toNat 2)] at h;unfold jt;refine h.trans ?_;unfold aK;rw[arm,aqK (by simp; omega),apX (by simp; omega)]
theorem qx (l:List Fd) (ok:∀ f∈l,dA f=0):∀ k,k≤l.length→bN (bQ l) k=cT (l.take k)
  | 0,_=>rfl
  | k+1,h=>by
    have h0:k<l.length:=by omega
    have hf:dA (l.getD k default)=0:=ok _ (by rw[apT,apR h0]; exact aqr h0);have e:bQ l=bQ (l.take k)++(jt (l.getD k default)++bQ (l.drop (k+1))):=by
      rw[← ap6,← Fy h0,← AU,aqq]
    rw[bN,qx l ok k (by omega),Ay h0]
    congr 1
    unfold dO;rw[e,← jz (l.take k),vt,aiZ,get_put 2 (by decide)];have:=we hf;omega
theorem RU {l:List Fd} (ok:∀ f∈l,dA f=0) {k:Nat} (h:k<l.length):dO (bQ l) (bN (bQ l) k)=cx (l.getD k default):=by
  have h1:=qx l ok (k+1) (by omega);rw[bN,qx l ok k (by omega),Ay h] at h1;rw[qx l ok k (by omega)];omega
theorem ai1 {l:List Fd} (ok:∀ f∈l,dA f=0) {k:Nat} (h:k<l.length):zU (bQ l) k=gO (l.getD k default):=by
  have hf:dA (l.getD k default)=0:=ok _ (by rw[apT,apR h]; exact aqr h);have e:bQ l=bQ (l.take k)++(jt (l.getD k default)++bQ (l.drop (k+1))):=by
    rw[← ap6,← Fy h,← AU,aqq]
  have hx:=we hf;unfold zU gO;rw[RU ok h,qx l ok k (by omega),e,← jz (l.take k),vt,ai0]
  congr 1
  have:=vt (bQ (l.take k)) (jt (l.getD k default)++bQ (l.drop (k+1))) 0 2;rw[ark (bQ (l.take k)).length] at this;rw[this,aiY,get_put 2 (by decide)];have:=hx.1;omega
theorem ai2 {l:List Fd} (ok:∀ f∈l,dA f=0) (hn:l.length≤24) {k:Nat} (h:k<l.length):fN (bQ l) k=none:=by
  have h1:=RU ok h;have h2:=qx l ok k (by omega);have h3:=Ay h;have h4:=PY l (k+1);have h5:=aiU (l.getD k default);have h6:=adS (l.getD k default);unfold fN;rw[jz,h1,h2,if_neg (by omega),if_neg (by rw[aiW h6 h5 (by omega)]; simp),if_neg (by omega)]
theorem adZ {l:List Fd} (ok:∀ f∈l,dA f=0) (hn:l.length≤24):fT (bQ l)=l.length∧fN (bQ l) l.length=some 0:=by
  have e:fN (bQ l) l.length=some 0:=by
    unfold fN;rw[qx l ok _ (ap3 _),aqy,jz,if_pos (ap3 _)]
  exact⟨adY (by rw[e]; rfl) fun j hj=>ai2 ok hn hj,e⟩
theorem P0 {l:List Fd} (h:dh l=0):fk (bQ l)=0∧cK (bQ l)=l.map gO∧oF (bQ l)=(List.range l.length).map fun k=>(cT (l.take k):Int):=by
  unfold dh at h;split at h
  ·rename_i h0;have ok:=zh.1 h0;split at h
   ·cases h
   ·split at h
    ·cases h
    ·rename_i h1 h2;obtain⟨c1,c2⟩:=adZ ok (by omega);have hl:¬ 1232<(bQ l).length:=by rw[jz]; omega
     have e0:fk (bQ l)=0:=by unfold fk; rw[if_neg hl,c1,c2]; rfl
     have e1:ju (bQ l)=l.length:=by unfold ju; rw[if_neg hl,c1]
     refine⟨e0,?_,?_⟩
     ·unfold cK kR;rw[if_pos e0,e1];refine List.ext_getElem (by simp) fun i i1 i2=>?_
      have hi:i<l.length:=by simpa using i1
      rw[aqn,aqn,aq8,ai1 ok hi,apT,apR hi];rfl
     ·unfold oF ka;rw[if_pos e0,e1];refine aqu fun i hi=>?_
      rw[qx l ok i (by have:=arH.1 hi; omega)]
  ·rename_i h0; exact absurd h h0
structure Ek where
  cr:Bool
  ty:Int
  bo:List UInt8
deriving DecidableEq,Inhabited
def bB (r:Ek):D:=.agg [.bool r.cr,.int .i64 r.ty,.sl (r.bo.map bD)]
theorem u4 (l:List Ek):eZ 3 (l.map bB)=true:=by
  unfold eZ;rw[ap9];intro d hd;obtain⟨x,_,rfl⟩:=aqa.1 hd;rfl
theorem qS {l:List Ek} {i:Nat} (h:i<l.length):l[i]?=some (l.getD i default):=by
  rw[apT,apR h]; rfl
theorem oV {l:List Ek} {i:Nat} (h:i<l.length):l.getD i default∈l:=by
  rw[apT,apR h];exact aqr h
theorem Al {l:List Ek} {i:Nat} (h:i<l.length):l.take (i+1)=l.take i++[l.getD i default]:=by
  rw[aq3,qS h]; rfl
def eI (r:Ek):Int:=if r.ty<0∨32767<r.ty then 4 else if 65535<r.bo.length then 2 else 0
def mR (r:Ek):Nat:=r.ty.toNat+if r.cr then 32768 else 0
def iz (r:Ek):List UInt8:=aG (mR r) 2++(aG r.bo.length 2++r.bo)
theorem vu (r:Ek):(iz r).length=r.bo.length+4:=by simp[iz,bS]; omega
theorem r9 {r:Ek} (h:eI r=0):0≤r.ty∧r.ty≤32767∧r.bo.length≤65535:=by
  unfold eI at h;split at h
  ·exact absurd h (by decide)
  ·split at h
   ·exact absurd h (by decide)
   ·omega
theorem Iw {r:Ek} (h1:0≤r.ty) (h2:r.ty≤32767) (h3:r.bo.length≤65535):eI r=0:=by
  unfold eI;rw[if_neg (by omega),if_neg (by omega)]
def cu (l:List Ek):List UInt8:=l.flatMap iz
def iA:List Ek→Int
  | []=>0
  | r::l=>if eI r=0 then iA l else eI r
theorem P3:cu []=[]:=rfl
theorem u5 (r:Ek) (l:List Ek):cu (r::l)=iz r++cu l:=rfl
theorem P4 (a b:List Ek):cu (a++b)=cu a++cu b:=by simp[cu]
theorem P5 (a b:List Ek):iA (a++b)=if iA a=0 then iA b else iA a:=by
  induction a with
  | nil=>rfl
  | cons r l ih =>
    show (if eI r=0 then iA (l++b) else eI r)=if (if eI r=0 then iA l else eI r)=0 then iA b else (if eI r=0 then iA l else eI r)
    by_cases h:eI r=0
    ·rw[if_pos h,if_pos h,ih]
    ·rw[if_neg h,if_neg h,if_neg h]
theorem C1 {l:List Ek}:iA l=0↔∀ r∈l,eI r=0:=by
  induction l with
  | nil=>exact⟨fun _ r hr=>(by cases hr),fun _=>rfl⟩
  | cons r l ih =>
    show (if eI r=0 then iA l else eI r)=0↔_
    by_cases h:eI r=0
    ·rw[if_pos h,ih];exact⟨fun q x hx=>(aqh.1 hx).elim (fun e=>e ▸ h) (q x),fun q x hx=>q x (aqf _ hx)⟩
    ·rw[if_neg h];exact⟨fun q=>absurd q h,fun q=>absurd (q r aqj) h⟩
theorem Oe {l:List Ek} {i:Nat} (h:i<l.length) (h0:iA (l.take i)=0):iA (l.take (i+1))=eI (l.getD i default):=by
  rw[Al h,P5,if_pos h0]
  show (if eI _=0 then 0 else eI _)=_
  split
  ·rename_i e; exact e.symm
  ·rfl
theorem aa0 {l:List Ek} {i:Nat} (h:i<l.length) (h0:iA (l.take i)=0) (he:eI (l.getD i default)≠0):iA l=eI (l.getD i default):=by
  have e:l=l.take (i+1)++l.drop (i+1):=(aqq _ _).symm;have e2:=Oe h h0
  calc iA l=iA (l.take (i+1)++l.drop (i+1)):=congrArg iA e
    _=_:=by rw[P5,if_neg (by rw[e2]; exact he),e2]
def gP (l:List Ek):Int:=if iA l=0 then (if 64<l.length then 8 else if 65535<(cu l).length then 2 else 0) else iA l
def pV (l:List Ek):List UInt8:=if gP l=0 then cu l else []
theorem wg {l:List Ek} (h:gP l=0):(∀ r∈l,eI r=0)∧l.length≤64∧(cu l).length≤65535:=by
  unfold gP at h;by_cases h0:iA l=0
  ·rw[if_pos h0] at h;by_cases h1:64<l.length
   ·rw[if_pos h1] at h; exact absurd h (by decide)
   ·rw[if_neg h1] at h;by_cases h2:65535<(cu l).length
    ·rw[if_pos h2] at h; exact absurd h (by decide)
    ·exact⟨C1.1 h0,by omega,by omega⟩
  ·rw[if_neg h0] at h; exact absurd h h0
theorem Ix {l:List Ek} (h:∀ r∈l,eI r=0) (h1:l.length≤64) (h2:(cu l).length≤65535):gP l=0∧pV l=cu l:=by
  have e:gP l=0:=by
    unfold gP;rw[if_pos (C1.2 h),if_neg (by omega),if_neg (by omega)]
  exact⟨e,if_pos e⟩
def eF (r:List UInt8):Nat:=bq (aK r 2 2)
def ke (r:List UInt8):Fd:=⟨(bq (r.take 2):Int),aK r 4 (eF r)⟩
def gv (r:List UInt8):Option (List Fd) :=
  if h0:r.length=0 then some [] else if h1:r.length<4 then none else if h2:r.length-4<eF r then none else (gv (r.drop (4+eF r))).map (ke r::·)
termination_by r.length
decreasing_by rw[ap5]; omega
theorem Bz:gv []=some []:=by rw[gv]; rfl
theorem P6 {r:List UInt8} (h0:r.length≠0) (h1:r.length<4):gv r=none:=by rw[gv,dif_neg h0,dif_pos h1]
theorem MK {r:List UInt8} (h1:¬ r.length<4) (h2:r.length-4<eF r):gv r=none:=by rw[gv,dif_neg (by omega),dif_neg h1,dif_pos h2]
theorem Iy {r:List UInt8} (h1:¬ r.length<4) (h2:¬ r.length-4<eF r):gv r=(gv (r.drop (4+eF r))).map (ke r::·):=by rw[gv,dif_neg (by omega),dif_neg h1,dif_neg h2]
def mS (b:List UInt8):Int:=if 65535<b.length then 2 else if (gv b).isSome then 0 else 1
def rq (b:List UInt8):List Fd:=if 65535<b.length then [] else (gv b).getD []
def iu (f:Fd):Ek:=⟨decide (32768≤f.ty),f.ty%32768,f.da⟩
def gQ (b:List UInt8):Int:=if mS b=0 then (if 64<(rq b).length then 8 else 0) else mS b
def br (b:List UInt8):List Ek:=if gQ b=0 then (rq b).map iu else []
def uc (r:Ek):Fd:=⟨(mR r:Int),r.bo⟩
theorem ai3 {r:Ek} (h:eI r=0):mR r<65536:=by
  obtain⟨h1,h2,_⟩:=r9 h;unfold mR;split <;> omega
theorem ad1 {r:Ek} (h:eI r=0):iu (uc r)=r:=by
  obtain⟨h1,h2,_⟩:=r9 h;obtain⟨c,t,b⟩:=r;unfold iu uc mR;dsimp only at *
  cases c
  ·rw[if_neg (by decide),ark,decide_eq_false (by omega),show ((t.toNat:Nat):Int)%32768=t by omega]
  ·rw[if_pos rfl,decide_eq_true (by omega),show ((t.toNat+32768:Nat):Int)%32768=t by omega]
theorem ai4 (r:Ek) (x:List UInt8):(iz r++x).take 2=aG (mR r) 2:=by
  unfold iz;rw[ap6,List.take_left' (bS _ _)]
theorem ai5 (r:Ek) (x:List UInt8):aK (iz r++x) 2 2=aG r.bo.length 2:=by
  have:=ng (aG (mR r) 2) (aG r.bo.length 2) (r.bo++x);rw[bS,bS] at this;unfold iz;rw[ap6,ap6];exact this
theorem ai6 (r:Ek) (x:List UInt8):aK (iz r++x) 4 r.bo.length=r.bo:=by
  have:=ng (aG (mR r) 2++aG r.bo.length 2) r.bo x;rw[apS,bS,bS] at this;unfold iz;rw[ap6,ap6];rw[ap6] at this;exact this
theorem ad3 {r:Ek} (h:eI r=0) (x:List UInt8):gv (iz r++x)=(gv x).map (uc r::·):=by
  obtain⟨_,_,h3⟩:=r9 h;have hN:eF (iz r++x)=r.bo.length:=by
    unfold eF;rw[ai5,get_put 2 (by decide)]; omega
  have hl:(iz r++x).length=r.bo.length+4+x.length:=by rw[apS,vu]
  rw[Iy (by omega) (by rw[hN]; omega),hN];have e1:(iz r++x).drop (4+r.bo.length)=x:=List.drop_left' (by rw[vu]; omega);have e2:ke (iz r++x)=uc r:=by
    unfold ke uc;rw[hN,ai6,ai4,get_put 2 (by decide)];have:=ai3 h
    congr 2
    omega
  rw[e1,e2]
theorem ad4 {l:List Ek} (h:∀ r∈l,eI r=0):gv (cu l)=some (l.map uc):=by
  induction l with
  | nil=>exact Bz
  | cons r l ih =>
    rw[u5,ad3 (h r aqj),ih fun x hx=>h x (aqf _ hx)];rfl
theorem Ue {l:List Ek} (h:gP l=0):gQ (cu l)=0∧br (cu l)=l:=by
  obtain⟨h1,h2,h3⟩:=wg h;have hd:=ad4 h1;have e1:mS (cu l)=0:=by
    unfold mS;rw[if_neg (by omega),hd]; rfl
  have e2:rq (cu l)=l.map uc:=by
    unfold rq;rw[if_neg (by omega),hd]; rfl
  have e:gQ (cu l)=0:=by
    unfold gQ;rw[if_pos e1,e2,ap1,if_neg (by omega)]
  refine⟨e,?_⟩;unfold br;rw[if_pos e,e2,aqQ];refine (aqu fun r hr=>?_).trans (List.map_id l);exact ad1 (h1 r hr)
theorem Of:∀ (n:Nat) {r:List UInt8} {l:List Fd},r.length≤n→gv r=some l→cu (l.map iu)=r∧∀ f∈l.map iu,0≤f.ty∧f.ty≤32767∧f.bo.length≤65535
  | 0,r,l,hn,h=>by
    have:r=[]:=aqA.1 (by omega);subst this;rw[Bz] at h;obtain rfl:=(Option.some.inj h).symm;exact⟨rfl,fun f hf=>by cases hf⟩
  | n+1,r,l,hn,h=>by
    by_cases h0:r.length=0
    ·have:r=[]:=aqA.1 h0;subst this;rw[Bz] at h;obtain rfl:=(Option.some.inj h).symm;exact⟨rfl,fun f hf=>by cases hf⟩
    ·by_cases h1:r.length<4
     ·rw[P6 h0 h1] at h; cases h
     ·by_cases h2:r.length-4<eF r
      ·rw[MK h1 h2] at h; cases h
      ·rw[Iy h1 h2] at h;obtain⟨l',h3,rfl⟩:=apV.1 h;obtain⟨q1,q2⟩:=Of n (by rw[ap5]; omega) h3;have l2:(r.take 2).length=2:=by rw[ap0]; omega
       have l3:(aK r 2 2).length=2:=fp (by omega);have l4:(aK r 4 (eF r)).length=eF r:=fp (by omega);have b2:=jk 2 (r.take 2) l2 (by decide);have b3:=jk 2 (aK r 2 2) l3 (by decide);have hN:eF r<65536:=b3.1;have hT:mR (iu (ke r))=bq (r.take 2):=by
         unfold mR iu ke;dsimp only;by_cases hc:32768≤bq (r.take 2)
         ·rw[if_pos (decide_eq_true (by omega))]; omega
         ·rw[if_neg (by rw[decide_eq_true_eq]; omega)]; omega
       have hB:iz (iu (ke r))=r.take (4+eF r):=by
         unfold iz;rw[hT,b2.2,show (iu (ke r)).bo=aK r 4 (eF r) from rfl,l4,show eF r=bq (aK r 2 2) from rfl,b3.2];have e1:=NZ r 2 2 (bq (aK r 2 2));have e2:=NZ r 0 2 (2+bq (aK r 2 2));rw[e1]
         show aK r 0 2++aK r (0+2) (2+bq (aK r 2 2))=_
         rw[e2]
         show r.take (2+(2+bq (aK r 2 2)))=_
         congr 1; omega
       refine⟨?_,fun f hf=>?_⟩
       ·rw[apW,u5,q1,hB,aqq]
       ·rw[apW] at hf;rcases aqh.1 hf with rfl | hf
        ·refine⟨?_,?_,?_⟩
         ·show 0≤(bq (r.take 2):Int)%32768; omega
         ·show (bq (r.take 2):Int)%32768≤32767; omega
         ·show (aK r 4 (eF r)).length≤65535; omega
        ·exact q2 f hf
theorem Uf {b:List UInt8} (h:gQ b=0):gP (br b)=0∧cu (br b)=b∧b.length≤65535∧(∀ r∈br b,eI r=0):=by
  have h9:=h;unfold gQ at h;by_cases h0:mS b=0
  ·rw[if_pos h0] at h;by_cases h1:64<(rq b).length
   ·rw[if_pos h1] at h; exact absurd h (by decide)
   ·unfold mS at h0;by_cases h2:65535<b.length
    ·rw[if_pos h2] at h0; exact absurd h0 (by decide)
    ·rw[if_neg h2] at h0;rcases hd:gv b with _ | l
     ·rw[hd] at h0; exact absurd h0 (by decide)
     ·have el:rq b=l:=by unfold rq; rw[if_neg h2,hd]; rfl
      have e:br b=l.map iu:=by unfold br; rw[if_pos h9,el]
      obtain⟨q1,q2⟩:=Of b.length (ap3 _) hd;rw[e];have q3:∀ r∈l.map iu,eI r=0:=fun r hr=>by
        obtain⟨a,c,d⟩:=q2 r hr;exact Iw a c d
      refine⟨(Ix q3 (by rw[ap1]; rw[el] at h1; omega) (by rw[q1]; omega)).1,q1,by omega,q3⟩
  ·rw[if_neg h0] at h; exact absurd h h0
end Go.Proofs.YtnjhelpgohdajaaGreatDoor
