/- Texts of one's own, merged: from: Layer 17,without code: extension fields,their sizes and bytes,and what is read of bytes. Own work. -/
import Derived.Test.YtofonnokanoflaaGreatDoorMt110
import Derived.Test.YtofonnokanoflaaGreatDoorMt19
set_option linter.unusedVariables false
set_option linter.unusedSimpArgs false
namespace Go.Proofs.YtofonnokanoflaaGreatDoor
open Go.RowKit
structure Fd where
  ty:Int
  da:List UInt8
deriving DecidableEq,Inhabited
def bg (f:Fd):D:=.agg [.int .i64 f.ty,.sl (f.da.map bD)]
theorem aa7 (f:Fd):(bg f).cells=[.int .i64 f.ty,.sl (f.da.map bD)]:=rfl
theorem mO (l:List Fd):fL 2 (l.map bg)=true:=by
  unfold fL;rw[aoE];intro d hd;obtain⟨x,_,rfl⟩:=aoN.1 hd;rfl
def ct (f:Fd):Nat:=max 16 ((f.da.length+7) / 4*4)
def dA (f:Fd):Int:=if f.ty<0∨65535<f.ty then 4 else if 1232<ct f then 2 else 0
def ow (f:Fd):Nat:=if dA f=0 then ct f else 0
def jk (f:Fd):List UInt8:=aC f.ty.toNat 2++(aC (ct f) 2++(f.da++List.replicate (ct f-4-f.da.length) 0))
def gO (f:Fd):Fd:=⟨f.ty,f.da++List.replicate (ct f-4-f.da.length) 0⟩
theorem aic (f:Fd):16≤ct f:=Nat.le_max_left _ _
theorem GU (f:Fd):4+f.da.length≤ct f:=by unfold ct; omega
theorem aeA (f:Fd):ct f%4=0:=by unfold ct; omega
theorem aeB (f:Fd):ct f-4-f.da.length≤12:=by unfold ct; omega
theorem aeC (f:Fd):(jk f).length=ct f:=by
  have:=GU f;simp[jk,bO]; omega
theorem vT {f:Fd} (h:dA f=0):0≤f.ty∧f.ty≤65535∧ct f≤1232:=by
  unfold dA at h;split at h
  ·cases h
  ·split at h
   ·cases h
   ·omega
theorem Va {f:Fd} (h1:0≤f.ty) (h2:f.ty≤65535) (h3:ct f≤1232):dA f=0:=by
  unfold dA;rw[if_neg (by omega),if_neg (by omega)]
def gZ:List Fd→Int
  | []=>0
  | f::r=>if dA f=0 then gZ r else dA f
def cQ (l:List Fd):Nat:=(l.map ct).sum
def bN (l:List Fd):List UInt8:=l.flatMap jk
def di (l:List Fd):Int:=if gZ l=0 then (if 24<l.length then 8 else if 1232<cQ l then 2 else 0) else gZ l
def lr (l:List Fd):List UInt8:=if di l=0 then bN l else []
theorem acs:cQ []=0:=rfl
theorem MJ (f:Fd) (l:List Fd):cQ (f::l)=ct f+cQ l:=rfl
theorem xG (a b:List Fd):cQ (a++b)=cQ a+cQ b:=by simp[cQ]
theorem acu:bN []=[]:=rfl
theorem aa8 (f:Fd) (l:List Fd):bN (f::l)=jk f++bN l:=rfl
theorem As (a b:List Fd):bN (a++b)=bN a++bN b:=by simp[bN]
theorem jp (l:List Fd):(bN l).length=cQ l:=by
  induction l with
  | nil=>rfl
  | cons f l ih=>rw[aa8,aoq,ih,aeC,MJ]
theorem yH {l:List Fd}:gZ l=0↔∀ f∈l,dA f=0:=by
  induction l with
  | nil=>exact⟨fun _ f hf=>(by cases hf),fun _=>rfl⟩
  | cons f l ih =>
    unfold gZ;by_cases h:dA f=0
    ·rw[if_pos h,ih];simp[h]
    ·rw[if_neg h];exact⟨fun e=>absurd e h,fun e=>absurd (e f (by simp)) h⟩
theorem RL (a b:List Fd):gZ (a++b)=if gZ a=0 then gZ b else gZ a:=by
  induction a with
  | nil=>rfl
  | cons f a ih =>
    rw[ape,gZ,gZ];by_cases h:dA f=0
    ·rw[if_pos h,if_pos h,ih]
    ·rw[if_neg h,if_neg h,if_neg h]
theorem zZ {l:List Fd} {i:Nat} (h:i<l.length):l.take (i+1)=l.take i++[l.getD i default]:=by
  rw[apR,aon h,aor,aon h];rfl
theorem z0 {l:List Fd} {i:Nat} (h:i<l.length):cQ (l.take (i+1))=cQ (l.take i)+ct (l.getD i default):=by
  rw[zZ h,xG]; rfl
theorem Fl {l:List Fd} {i:Nat} (h:i<l.length):bN (l.take (i+1))=bN (l.take i)++jk (l.getD i default):=by
  rw[zZ h,As]; simp[bN]
theorem RN (l:List Fd) (i:Nat):cQ (l.take i)≤cQ l:=by
  conv=>rhs; rw[← aoX i l]
  rw[xG]; omega
theorem Pj {l:List Fd} {i:Nat} (h:i<l.length) (h0:gZ (l.take i)=0):gZ (l.take (i+1))=dA (l.getD i default):=by
  rw[zZ h,RL,if_pos h0,gZ];by_cases e:dA (l.getD i default)=0
  ·rw[if_pos e,e]; rfl
  ·rw[if_neg e]
theorem acv {l:List Fd} {i:Nat} (h:i<l.length) (h0:gZ (l.take i)=0) (he:dA (l.getD i default)≠0):gZ l=dA (l.getD i default):=by
  have h1:gZ (l.take (i+1))=dA (l.getD i default):=Pj h h0
  conv=>lhs; rw[← aoX (i+1) l]
  rw[RL,h1,if_neg he]
theorem aeD (l:List Fd) (h:∀ f∈l,dA f=0):cQ l≤1232*l.length:=by
  induction l with
  | nil=>exact aoz _
  | cons f l ih =>
    have:=vT (h f (by simp));have:=ih fun g hg=>h g (by simp[hg])
    rw[MJ,apj]; omega
def dO (l:List UInt8) (p:Nat):Nat:=bi (aG l (p+2) 2)
def bL (l:List UInt8):Nat→Nat
  | 0=>0
  | k+1=>bL l k+dO l (bL l k)
def jx (rest z:Nat):Int:=if rest<4 then 1 else if z%4≠0∨z<16 then 3 else if rest<z then 1 else 0
def fP (l:List UInt8) (k:Nat):Option Int :=
  if l.length≤bL l k then some 0 else if jx (l.length-bL l k) (dO l (bL l k))≠0 then some (jx (l.length-bL l k) (dO l (bL l k))) else if k=24 then some 8 else none
def cntF (l:List UInt8):Nat→Nat→Nat
  | 0,k=>k
  | n+1,k=>if (fP l k).isSome=true then k else cntF l n (k+1)
def fU (l:List UInt8):Nat:=cntF l 24 0
def zq (l:List UInt8) (k:Nat):Fd:=⟨(bi (aG l (bL l k) 2):Int),aG l (bL l k+4) (dO l (bL l k)-4)⟩
def kF (l:List UInt8) (k:Nat):List Fd:=(List.range k).map (zq l)
def jT (l:List UInt8) (k:Nat):List Int:=(List.range k).map fun i=>(bL l i:Int)
def fh (l:List UInt8):Int:=if 1232<l.length then 2 else (fP l (fU l)).getD 0
def jl (l:List UInt8):Nat:=if 1232<l.length then 0 else fU l
def cH (l:List UInt8):List Fd:=if fh l=0 then kF l (jl l) else []
def ox (l:List UInt8):List Int:=if fh l=0 then jT l (jl l) else []
theorem GV (l:List UInt8) (k:Nat):(kF l k).length=k:=by simp[kF]
theorem aeF (l:List UInt8) (k:Nat):(jT l k).length=k:=by simp[jT]
theorem acw (l:List UInt8) (k:Nat):kF l (k+1)=kF l k++[zq l k]:=by simp[kF,apv]
theorem acx (l:List UInt8) (k:Nat):jT l (k+1)=jT l k++[(bL l k:Int)]:=by simp[jT,apv]
theorem aid (l:List UInt8):(fP l 24).isSome=true:=by
  unfold fP;split
  ·rfl
  ·split
   ·rfl
   ·rfl
theorem RO (l:List UInt8):∀ n k,k+n=24→k≤cntF l n k∧cntF l n k≤24∧(fP l (cntF l n k)).isSome=true∧∀ j,k≤j→j<cntF l n k→fP l j=none
  | 0,k,h=>by
    obtain rfl:k=24:=by omega
    exact⟨aoz _,aoz _,aid l,fun j h1 h2=>by rw[cntF] at h2; omega⟩
  | n+1,k,h=>by
    rw[cntF];by_cases e:(fP l k).isSome=true
    ·rw[if_pos e];exact⟨aoz _,by omega,e,fun j h1 h2=>by omega⟩
    ·rw[if_neg e];obtain⟨h1,h2,h3,h4⟩:=RO l n (k+1) (by omega);refine⟨by omega,h2,h3,fun j h5 h6=>?_⟩;by_cases e2:j=k
     ·subst e2;cases hs:fP l j with
      | none=>rfl
      | some x=>rw[hs] at e; exact absurd rfl e
     ·exact h4 j (by omega) h6
theorem uX (l:List UInt8):fU l≤24∧(fP l (fU l)).isSome=true∧∀ j,j<fU l→fP l j=none:=by
  obtain⟨_,h2,h3,h4⟩:=RO l 24 0 rfl;exact⟨h2,h3,fun j hj=>h4 j (aoy _) hj⟩
theorem aeG {l:List UInt8} {n:Nat} (h1:(fP l n).isSome=true) (h2:∀ j,j<n→fP l j=none):fU l=n:=by
  obtain⟨k1,k2,k3⟩:=uX l;rcases Nat.lt_trichotomy (fU l) n with h | h | h
  ·rw[h2 _ h] at k2; cases k2
  ·exact h
  ·rw[k3 _ h] at h1; cases h1
theorem al9 {r z:Nat} (h:jx r z=0):4≤r∧z%4=0∧16≤z∧z≤r:=by
  unfold jx at h;split at h
  ·cases h
  ·split at h
   ·cases h
   ·split at h
    ·cases h
    ·omega
theorem aie {r z:Nat} (h1:z%4=0) (h2:16≤z) (h3:z≤r):jx r z=0:=by
  unfold jx;rw[if_neg (by omega),if_neg (by omega),if_neg (by omega)]
theorem Pk {l:List UInt8} {k:Nat} (h:fP l k=none):bL l k<l.length∧jx (l.length-bL l k) (dO l (bL l k))=0∧k≠24:=by
  unfold fP at h;split at h
  ·cases h
  ·split at h
   ·cases h
   ·rename_i h1 h2;split at h
    ·cases h
    ·rename_i h3;exact⟨by omega,by simpa using h2,h3⟩
theorem HU {l:List UInt8} {k:Nat} (h:fP l k=none):bL l k+dO l (bL l k)≤l.length∧dO l (bL l k)%4=0∧16≤dO l (bL l k)∧4≤l.length-bL l k:=by
  obtain⟨h1,h2,_⟩:=Pk h;have:=al9 h2;omega
theorem HV (l:List UInt8):∀ k,k≤fU l→bL l k≤l.length
  | 0,_=>aoy _
  | k+1,h=>by
    have:=HU ((uX l).2.2 k (by omega));rw[bL]; omega
theorem aif (l:List UInt8) (p:Nat) (h:p+4≤l.length):dO l p<65536 :=
  (jc 2 (aG l (p+2) 2) (fj (by omega)) (by decide)).1
theorem ama {l:List UInt8} (h:fh l=0):l.length≤1232∧fP l (fU l)=some 0∧jl l=fU l∧bL l (fU l)=l.length:=by
  unfold fh at h;split at h
  ·cases h
  ·rename_i h1;have h2:=(uX l).2.1;cases hs:fP l (fU l) with
   | none=>rw[hs] at h2; cases h2
   | some x =>
     rw[hs] at h;obtain rfl:x=0:=h;refine⟨by omega,rfl,if_neg h1,?_⟩;have h3:=HV l _ (aoz _);unfold fP at hs;split at hs
     ·omega
     ·split at hs
      ·rename_i h5;exact absurd (Option.some.inj hs) h5
      ·split at hs
       ·exact absurd (Option.some.inj hs) (by decide)
       ·cases hs
theorem uY (p q:List UInt8) (a n:Nat):aG (p++q) (p.length+a) n=aG q a n:=by
  unfold aG;rw[List.drop_append,List.drop_of_length_le (by omega),apa]
  congr 2
  omega
theorem aig (f:Fd) (r:List UInt8):aG (jk f++r) 0 2=aC f.ty.toNat 2:=by
  unfold jk aG;rw[aoC,apS,apn (by simp[bO]),aot (by simp[bO])]
theorem aih (f:Fd) (r:List UInt8):aG (jk f++r) 2 2=aC (ct f) 2:=by
  have h:=uY (aC f.ty.toNat 2) ((aC (ct f) 2++(f.da++List.replicate (ct f-4-f.da.length) 0))++r) 0 2;rw[bO,← aoC] at h;unfold jk;refine h.trans ?_;unfold aG;rw[aoC,apS,apn (by simp[bO]),aot (by simp[bO])]
theorem aii (f:Fd) (r:List UInt8):aG (jk f++r) 4 (ct f-4)=f.da++List.replicate (ct f-4-f.da.length) 0:=by
  have hl:=GU f;have h:=uY (aC f.ty.toNat 2++aC (ct f) 2) ((f.da++List.replicate (ct f-4-f.da.length) 0)++r) 0 (ct f-4);rw[aoq,bO,bO,← aoC,aoC (aC f.ty.toNat 2)] at h;unfold jk;refine h.trans ?_;unfold aG;rw[apS,apn (by simp; omega),aot (by simp; omega)]
theorem qh (l:List Fd) (ok:∀ f∈l,dA f=0):∀ k,k≤l.length→bL (bN l) k=cQ (l.take k)
  | 0,_=>rfl
  | k+1,h=>by
    have h0:k<l.length:=by omega
    have hf:dA (l.getD k default)=0:=ok _ (by rw[aor,aon h0]; exact aoS h0);have e:bN l=bN (l.take k)++(jk (l.getD k default)++bN (l.drop (k+1))):=by
      rw[← aoC,← Fl h0,← As,aoX]
    rw[bL,qh l ok k (by omega),z0 h0]
    congr 1
    unfold dO;rw[e,← jp (l.take k),uY,aih,get_put 2 (by decide)];have:=vT hf;omega
theorem Vb {l:List Fd} (ok:∀ f∈l,dA f=0) {k:Nat} (h:k<l.length):dO (bN l) (bL (bN l) k)=ct (l.getD k default):=by
  have h1:=qh l ok (k+1) (by omega);rw[bL,qh l ok k (by omega),z0 h] at h1;rw[qh l ok k (by omega)];omega
theorem aij {l:List Fd} (ok:∀ f∈l,dA f=0) {k:Nat} (h:k<l.length):zq (bN l) k=gO (l.getD k default):=by
  have hf:dA (l.getD k default)=0:=ok _ (by rw[aor,aon h]; exact aoS h);have e:bN l=bN (l.take k)++(jk (l.getD k default)++bN (l.drop (k+1))):=by
    rw[← aoC,← Fl h,← As,aoX]
  have hx:=vT hf;unfold zq gO;rw[Vb ok h,qh l ok k (by omega),e,← jp (l.take k),uY,aii]
  congr 1
  have:=uY (bN (l.take k)) (jk (l.getD k default)++bN (l.drop (k+1))) 0 2;rw[apL (bN (l.take k)).length] at this;rw[this,aig,get_put 2 (by decide)];have:=hx.1;omega
theorem aik {l:List Fd} (ok:∀ f∈l,dA f=0) (hn:l.length≤24) {k:Nat} (h:k<l.length):fP (bN l) k=none:=by
  have h1:=Vb ok h;have h2:=qh l ok k (by omega);have h3:=z0 h;have h4:=RN l (k+1);have h5:=aic (l.getD k default);have h6:=aeA (l.getD k default);unfold fP;rw[jp,h1,h2,if_neg (by omega),if_neg (by rw[aie h6 h5 (by omega)]; simp),if_neg (by omega)]
theorem aeH {l:List Fd} (ok:∀ f∈l,dA f=0) (hn:l.length≤24):fU (bN l)=l.length∧fP (bN l) l.length=some 0:=by
  have e:fP (bN l) l.length=some 0:=by
    unfold fP;rw[qh l ok _ (aoz _),ao7,jp,if_pos (aoz _)]
  exact⟨aeG (by rw[e]; rfl) fun j hj=>aik ok hn hj,e⟩
theorem RP {l:List Fd} (h:di l=0):fh (bN l)=0∧cH (bN l)=l.map gO∧ox (bN l)=(List.range l.length).map fun k=>(cQ (l.take k):Int):=by
  unfold di at h;split at h
  ·rename_i h0;have ok:=yH.1 h0;split at h
   ·cases h
   ·split at h
    ·cases h
    ·rename_i h1 h2;obtain⟨c1,c2⟩:=aeH ok (by omega);have hl:¬ 1232<(bN l).length:=by rw[jp]; omega
     have e0:fh (bN l)=0:=by unfold fh; rw[if_neg hl,c1,c2]; rfl
     have e1:jl (bN l)=l.length:=by unfold jl; rw[if_neg hl,c1]
     refine⟨e0,?_,?_⟩
     ·unfold cH kF;rw[if_pos e0,e1];refine List.ext_getElem (by simp) fun i i1 i2=>?_
      have hi:i<l.length:=by simpa using i1
      rw[aoT,aoT,apN,aij ok hi,aor,aon hi];rfl
     ·unfold ox jT;rw[if_pos e0,e1];refine ao1 fun i hi=>?_
      rw[qh l ok i (by have:=apI.1 hi; omega)]
  ·rename_i h0; exact absurd h h0
structure Ek where
  cr:Bool
  ty:Int
  bo:List UInt8
deriving DecidableEq,Inhabited
def bw (r:Ek):D:=.agg [.bool r.cr,.int .i64 r.ty,.sl (r.bo.map bD)]
theorem uH (l:List Ek):fL 3 (l.map bw)=true:=by
  unfold fL;rw[aoE];intro d hd;obtain⟨x,_,rfl⟩:=aoN.1 hd;rfl
theorem qC {l:List Ek} {i:Nat} (h:i<l.length):l[i]?=some (l.getD i default):=by
  rw[aor,aon h]; rfl
theorem oI {l:List Ek} {i:Nat} (h:i<l.length):l.getD i default∈l:=by
  rw[aor,aon h];exact aoS h
theorem zO {l:List Ek} {i:Nat} (h:i<l.length):l.take (i+1)=l.take i++[l.getD i default]:=by
  rw[apR,qC h]; rfl
def eJ (r:Ek):Int:=if r.ty<0∨32767<r.ty then 4 else if 65535<r.bo.length then 2 else 0
def mw (r:Ek):Nat:=r.ty.toNat+if r.cr then 32768 else 0
def iu (r:Ek):List UInt8:=aC (mw r) 2++(aC r.bo.length 2++r.bo)
theorem uZ (r:Ek):(iu r).length=r.bo.length+4:=by simp[iu,bO]; omega
theorem rN {r:Ek} (h:eJ r=0):0≤r.ty∧r.ty≤32767∧r.bo.length≤65535:=by
  unfold eJ at h;split at h
  ·exact absurd h (by decide)
  ·split at h
   ·exact absurd h (by decide)
   ·omega
theorem HW {r:Ek} (h1:0≤r.ty) (h2:r.ty≤32767) (h3:r.bo.length≤65535):eJ r=0:=by
  unfold eJ;rw[if_neg (by omega),if_neg (by omega)]
def cg (l:List Ek):List UInt8:=l.flatMap iu
def iv:List Ek→Int
  | []=>0
  | r::l=>if eJ r=0 then iv l else eJ r
theorem RQ:cg []=[]:=rfl
theorem uI (r:Ek) (l:List Ek):cg (r::l)=iu r++cg l:=rfl
theorem RR (a b:List Ek):cg (a++b)=cg a++cg b:=by simp[cg]
theorem RS (a b:List Ek):iv (a++b)=if iv a=0 then iv b else iv a:=by
  induction a with
  | nil=>rfl
  | cons r l ih =>
    show (if eJ r=0 then iv (l++b) else eJ r)=if (if eJ r=0 then iv l else eJ r)=0 then iv b else (if eJ r=0 then iv l else eJ r)
    by_cases h:eJ r=0
    ·rw[if_pos h,if_pos h,ih]
    ·rw[if_neg h,if_neg h,if_neg h]
theorem CU {l:List Ek}:iv l=0↔∀ r∈l,eJ r=0:=by
  induction l with
  | nil=>exact⟨fun _ r hr=>(by cases hr),fun _=>rfl⟩
  | cons r l ih =>
    show (if eJ r=0 then iv l else eJ r)=0↔_
    by_cases h:eJ r=0
    ·rw[if_pos h,ih];exact⟨fun q x hx=>(aoK.1 hx).elim (fun e=>e ▸ h) (q x),fun q x hx=>q x (aoQ _ hx)⟩
    ·rw[if_neg h];exact⟨fun q=>absurd q h,fun q=>absurd (q r aoW) h⟩
theorem Pl {l:List Ek} {i:Nat} (h:i<l.length) (h0:iv (l.take i)=0):iv (l.take (i+1))=eJ (l.getD i default):=by
  rw[zO h,RS,if_pos h0]
  show (if eJ _=0 then 0 else eJ _)=_
  split
  ·rename_i e; exact e.symm
  ·rfl
theorem acy {l:List Ek} {i:Nat} (h:i<l.length) (h0:iv (l.take i)=0) (he:eJ (l.getD i default)≠0):iv l=eJ (l.getD i default):=by
  have e:l=l.take (i+1)++l.drop (i+1):=(aoX _ _).symm;have e2:=Pl h h0
  calc iv l=iv (l.take (i+1)++l.drop (i+1)):=congrArg iv e
    _=_:=by rw[RS,if_neg (by rw[e2]; exact he),e2]
def gP (l:List Ek):Int:=if iv l=0 then (if 64<l.length then 8 else if 65535<(cg l).length then 2 else 0) else iv l
def pL (l:List Ek):List UInt8:=if gP l=0 then cg l else []
theorem vU {l:List Ek} (h:gP l=0):(∀ r∈l,eJ r=0)∧l.length≤64∧(cg l).length≤65535:=by
  unfold gP at h;by_cases h0:iv l=0
  ·rw[if_pos h0] at h;by_cases h1:64<l.length
   ·rw[if_pos h1] at h; exact absurd h (by decide)
   ·rw[if_neg h1] at h;by_cases h2:65535<(cg l).length
    ·rw[if_pos h2] at h; exact absurd h (by decide)
    ·exact⟨CU.1 h0,by omega,by omega⟩
  ·rw[if_neg h0] at h; exact absurd h h0
theorem HX {l:List Ek} (h:∀ r∈l,eJ r=0) (h1:l.length≤64) (h2:(cg l).length≤65535):gP l=0∧pL l=cg l:=by
  have e:gP l=0:=by
    unfold gP;rw[if_pos (CU.2 h),if_neg (by omega),if_neg (by omega)]
  exact⟨e,if_pos e⟩
def eD (r:List UInt8):Nat:=bi (aG r 2 2)
def jU (r:List UInt8):Fd:=⟨(bi (r.take 2):Int),aG r 4 (eD r)⟩
def gy (r:List UInt8):Option (List Fd) :=
  if h0:r.length=0 then some [] else if h1:r.length<4 then none else if h2:r.length-4<eD r then none else (gy (r.drop (4+eD r))).map (jU r::·)
termination_by r.length
decreasing_by rw[aoB]; omega
theorem A8:gy []=some []:=by rw[gy]; rfl
theorem RU {r:List UInt8} (h0:r.length≠0) (h1:r.length<4):gy r=none:=by rw[gy,dif_neg h0,dif_pos h1]
theorem MK {r:List UInt8} (h1:¬ r.length<4) (h2:r.length-4<eD r):gy r=none:=by rw[gy,dif_neg (by omega),dif_neg h1,dif_pos h2]
theorem HY {r:List UInt8} (h1:¬ r.length<4) (h2:¬ r.length-4<eD r):gy r=(gy (r.drop (4+eD r))).map (jU r::·):=by rw[gy,dif_neg (by omega),dif_neg h1,dif_neg h2]
def my (b:List UInt8):Int:=if 65535<b.length then 2 else if (gy b).isSome then 0 else 1
def qP (b:List UInt8):List Fd:=if 65535<b.length then [] else (gy b).getD []
def im (f:Fd):Ek:=⟨decide (32768≤f.ty),f.ty%32768,f.da⟩
def gQ (b:List UInt8):Int:=if my b=0 then (if 64<(qP b).length then 8 else 0) else my b
def bp (b:List UInt8):List Ek:=if gQ b=0 then (qP b).map im else []
def tN (r:Ek):Fd:=⟨(mw r:Int),r.bo⟩
theorem ail {r:Ek} (h:eJ r=0):mw r<65536:=by
  obtain⟨h1,h2,_⟩:=rN h;unfold mw;split <;> omega
theorem aeI {r:Ek} (h:eJ r=0):im (tN r)=r:=by
  obtain⟨h1,h2,_⟩:=rN h;obtain⟨c,t,b⟩:=r;unfold im tN mw;dsimp only at *
  cases c
  ·rw[if_neg (by decide),apL,decide_eq_false (by omega),show ((t.toNat:Nat):Int)%32768=t by omega]
  ·rw[if_pos rfl,decide_eq_true (by omega),show ((t.toNat+32768:Nat):Int)%32768=t by omega]
theorem aim (r:Ek) (x:List UInt8):(iu r++x).take 2=aC (mw r) 2:=by
  unfold iu;rw[aoC,aqx (bO _ _)]
theorem ain (r:Ek) (x:List UInt8):aG (iu r++x) 2 2=aC r.bo.length 2:=by
  have:=mN (aC (mw r) 2) (aC r.bo.length 2) (r.bo++x);rw[bO,bO] at this;unfold iu;rw[aoC,aoC];exact this
theorem aio (r:Ek) (x:List UInt8):aG (iu r++x) 4 r.bo.length=r.bo:=by
  have:=mN (aC (mw r) 2++aC r.bo.length 2) r.bo x;rw[aoq,bO,bO] at this;unfold iu;rw[aoC,aoC];rw[aoC] at this;exact this
theorem aeJ {r:Ek} (h:eJ r=0) (x:List UInt8):gy (iu r++x)=(gy x).map (tN r::·):=by
  obtain⟨_,_,h3⟩:=rN h;have hN:eD (iu r++x)=r.bo.length:=by
    unfold eD;rw[ain,get_put 2 (by decide)]; omega
  have hl:(iu r++x).length=r.bo.length+4+x.length:=by rw[aoq,uZ]
  rw[HY (by omega) (by rw[hN]; omega),hN];have e1:(iu r++x).drop (4+r.bo.length)=x:=List.drop_left' (by rw[uZ]; omega);have e2:jU (iu r++x)=tN r:=by
    unfold jU tN;rw[hN,aio,aim,get_put 2 (by decide)];have:=ail h
    congr 2
    omega
  rw[e1,e2]
theorem aeK {l:List Ek} (h:∀ r∈l,eJ r=0):gy (cg l)=some (l.map tN):=by
  induction l with
  | nil=>exact A8
  | cons r l ih =>
    rw[uI,aeJ (h r aoW),ih fun x hx=>h x (aoQ _ hx)];rfl
theorem XQ {l:List Ek} (h:gP l=0):gQ (cg l)=0∧bp (cg l)=l:=by
  obtain⟨h1,h2,h3⟩:=vU h;have hd:=aeK h1;have e1:my (cg l)=0:=by
    unfold my;rw[if_neg (by omega),hd]; rfl
  have e2:qP (cg l)=l.map tN:=by
    unfold qP;rw[if_neg (by omega),hd]; rfl
  have e:gQ (cg l)=0:=by
    unfold gQ;rw[if_pos e1,e2,aox,if_neg (by omega)]
  refine⟨e,?_⟩;unfold bp;rw[if_pos e,e2,apO];refine (ao1 fun r hr=>?_).trans (List.map_id l);exact aeI (h1 r hr)
theorem Pm:∀ (n:Nat) {r:List UInt8} {l:List Fd},r.length≤n→gy r=some l→cg (l.map im)=r∧∀ f∈l.map im,0≤f.ty∧f.ty≤32767∧f.bo.length≤65535
  | 0,r,l,hn,h=>by
    have:r=[]:=ao3.1 (by omega);subst this;rw[A8] at h;obtain rfl:=(Option.some.inj h).symm;exact⟨rfl,fun f hf=>by cases hf⟩
  | n+1,r,l,hn,h=>by
    by_cases h0:r.length=0
    ·have:r=[]:=ao3.1 h0;subst this;rw[A8] at h;obtain rfl:=(Option.some.inj h).symm;exact⟨rfl,fun f hf=>by cases hf⟩
    ·by_cases h1:r.length<4
     ·rw[RU h0 h1] at h; cases h
     ·by_cases h2:r.length-4<eD r
      ·rw[MK h1 h2] at h; cases h
      ·rw[HY h1 h2] at h;obtain⟨l',h3,rfl⟩:=aoo.1 h;obtain⟨q1,q2⟩:=Pm n (by rw[aoB]; omega) h3;have l2:(r.take 2).length=2:=by rw[aow]; omega
       have l3:(aG r 2 2).length=2:=fj (by omega);have l4:(aG r 4 (eD r)).length=eD r:=fj (by omega);have b2:=jc 2 (r.take 2) l2 (by decide);have b3:=jc 2 (aG r 2 2) l3 (by decide);have hN:eD r<65536:=b3.1;have hT:mw (im (jU r))=bi (r.take 2):=by
         unfold mw im jU;dsimp only;by_cases hc:32768≤bi (r.take 2)
         ·rw[if_pos (decide_eq_true (by omega))]; omega
         ·rw[if_neg (by rw[decide_eq_true_eq]; omega)]; omega
       have hB:iu (im (jU r))=r.take (4+eD r):=by
         unfold iu;rw[hT,b2.2,show (im (jU r)).bo=aG r 4 (eD r) from rfl,l4,show eD r=bi (aG r 2 2) from rfl,b3.2];have e1:=Ph r 2 2 (bi (aG r 2 2));have e2:=Ph r 0 2 (2+bi (aG r 2 2));rw[e1]
         show aG r 0 2++aG r (0+2) (2+bi (aG r 2 2))=_
         rw[e2]
         show r.take (2+(2+bi (aG r 2 2)))=_
         congr 1; omega
       refine⟨?_,fun f hf=>?_⟩
       ·rw[aos,uI,q1,hB,aoX]
       ·rw[aos] at hf;rcases aoK.1 hf with rfl | hf
        ·refine⟨?_,?_,?_⟩
         ·show 0≤(bi (r.take 2):Int)%32768; omega
         ·show (bi (r.take 2):Int)%32768≤32767; omega
         ·show (aG r 4 (eD r)).length≤65535; omega
        ·exact q2 f hf
theorem XR {b:List UInt8} (h:gQ b=0):gP (bp b)=0∧cg (bp b)=b∧b.length≤65535∧(∀ r∈bp b,eJ r=0):=by
  have h9:=h;unfold gQ at h;by_cases h0:my b=0
  ·rw[if_pos h0] at h;by_cases h1:64<(qP b).length
   ·rw[if_pos h1] at h; exact absurd h (by decide)
   ·unfold my at h0;by_cases h2:65535<b.length
    ·rw[if_pos h2] at h0; exact absurd h0 (by decide)
    ·rw[if_neg h2] at h0;rcases hd:gy b with _ | l
     ·rw[hd] at h0; exact absurd h0 (by decide)
     ·have el:qP b=l:=by unfold qP; rw[if_neg h2,hd]; rfl
      have e:bp b=l.map im:=by unfold bp; rw[if_pos h9,el]
      obtain⟨q1,q2⟩:=Pm b.length (aoz _) hd;rw[e];have q3:∀ r∈l.map im,eJ r=0:=fun r hr=>by
        obtain⟨a,c,d⟩:=q2 r hr;exact HW a c d
      refine⟨(HX q3 (by rw[aox]; rw[el] at h1; omega) (by rw[q1]; omega)).1,q1,by omega,q3⟩
  ·rw[if_neg h0] at h; exact absurd h h0
end Go.Proofs.YtofonnokanoflaaGreatDoor
