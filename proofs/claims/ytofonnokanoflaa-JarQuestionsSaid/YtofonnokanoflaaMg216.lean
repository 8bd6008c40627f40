/- Texts of one's own, merged: from: Layer 17,without code: extension fields,their sizes and bytes,and what is read of bytes. Own work. -/
import Derived.Test.YtofonnokanoflaaMg210
import Derived.Test.YtofonnokanoflaaMg29
set_option linter.unusedVariables false
set_option linter.unusedSimpArgs false
namespace Go.Proofs.Ytofonnokanoflaa
open Go.RowKit
structure Fd where
  ty:Int
  da:List UInt8
deriving DecidableEq,Inhabited
def aR (f:Fd):D:=.agg [.int .i64 f.ty,.sl (f.da.map bD)]
theorem CC (l:List Fd):dh 2 (l.map aR)=true:=by
  unfold dh;rw[UN];intro d hd;obtain⟨x,_,rfl⟩:=U4.1 hd;rfl
def aW (f:Fd):Nat:=max 16 ((f.da.length+7) / 4*4)
def bA (f:Fd):Int:=if f.ty<0∨65535<f.ty then 4 else if 1232<aW f then 2 else 0
def iA (f:Fd):Nat:=if bA f=0 then aW f else 0
def ej (f:Fd):List UInt8:=al f.ty.toNat 2++(al (aW f) 2++(f.da++List.replicate (aW f-4-f.da.length) 0))
def dT (f:Fd):Fd:=⟨f.ty,f.da++List.replicate (aW f-4-f.da.length) 0⟩
theorem Rp (f:Fd):16≤aW f:=Nat.le_max_left _ _
theorem vI (f:Fd):4+f.da.length≤aW f:=by unfold aW; omega
theorem O1 (f:Fd):aW f%4=0:=by unfold aW; omega
theorem O2 (f:Fd):aW f-4-f.da.length≤12:=by unfold aW; omega
theorem O3 (f:Fd):(ej f).length=aW f:=by
  have:=vI f;simp[ej,bp]; omega
theorem mD {f:Fd} (h:bA f=0):0≤f.ty∧f.ty≤65535∧aW f≤1232:=by
  unfold bA at h;split at h
  ·cases h
  ·split at h
   ·cases h
   ·omega
theorem G6 {f:Fd} (h1:0≤f.ty) (h2:f.ty≤65535) (h3:aW f≤1232):bA f=0:=by
  unfold bA;rw[if_neg (by omega),if_neg (by omega)]
def dq:List Fd→Int
  | []=>0
  | f::r=>if bA f=0 then dq r else bA f
def bn (l:List Fd):Nat:=(l.map aW).sum
def aM (l:List Fd):List UInt8:=l.flatMap ej
def bu (l:List Fd):Int:=if dq l=0 then (if 24<l.length then 8 else if 1232<bn l then 2 else 0) else dq l
def fG (l:List Fd):List UInt8:=if bu l=0 then aM l else []
theorem MR:bn []=0:=rfl
theorem Ad (f:Fd) (l:List Fd):bn (f::l)=aW f+bn l:=rfl
theorem qj (a b:List Fd):bn (a++b)=bn a+bn b:=by simp[bn]
theorem MS:aM []=[]:=rfl
theorem K5 (f:Fd) (l:List Fd):aM (f::l)=ej f++aM l:=rfl
theorem qk (a b:List Fd):aM (a++b)=aM a++aM b:=by simp[aM]
theorem fq (l:List Fd):(aM l).length=bn l:=by
  induction l with
  | nil=>rfl
  | cons f l ih=>rw[K5,UF,ih,O3,Ad]
theorem oq {l:List Fd}:dq l=0↔∀ f∈l,bA f=0:=by
  induction l with
  | nil=>exact⟨fun _ f hf=>(by cases hf),fun _=>rfl⟩
  | cons f l ih =>
    unfold dq;by_cases h:bA f=0
    ·rw[if_pos h,ih];simp[h]
    ·rw[if_neg h];exact⟨fun e=>absurd e h,fun e=>absurd (e f (by simp)) h⟩
theorem EE (a b:List Fd):dq (a++b)=if dq a=0 then dq b else dq a:=by
  induction a with
  | nil=>rfl
  | cons f a ih =>
    rw[Vt,dq,dq];by_cases h:bA f=0
    ·rw[if_pos h,if_pos h,ih]
    ·rw[if_neg h,if_neg h,if_neg h]
theorem t6 {l:List Fd} {i:Nat} (h:i<l.length):l.take (i+1)=l.take i++[l.getD i default]:=by
  rw[List.take_add_one,UB h,UD,UB h];rfl
theorem pN {l:List Fd} {i:Nat} (h:i<l.length):bn (l.take (i+1))=bn (l.take i)+aW (l.getD i default):=by
  rw[t6 h,qj]; rfl
theorem t7 {l:List Fd} {i:Nat} (h:i<l.length):aM (l.take (i+1))=aM (l.take i)++ej (l.getD i default):=by
  rw[t6 h,qk]; simp[aM]
theorem EF (l:List Fd) (i:Nat):bn (l.take i)≤bn l:=by
  conv=>rhs; rw[← Vh i l]
  rw[qj]; omega
theorem CE {l:List Fd} {i:Nat} (h:i<l.length) (h0:dq (l.take i)=0):dq (l.take (i+1))=bA (l.getD i default):=by
  rw[t6 h,EE,if_pos h0,dq];by_cases e:bA (l.getD i default)=0
  ·rw[if_pos e,e]; rfl
  ·rw[if_neg e]
theorem MU {l:List Fd} {i:Nat} (h:i<l.length) (h0:dq (l.take i)=0) (he:bA (l.getD i default)≠0):dq l=bA (l.getD i default):=by
  have h1:dq (l.take (i+1))=bA (l.getD i default):=CE h h0
  conv=>lhs; rw[← Vh (i+1) l]
  rw[EE,h1,if_neg he]
theorem O4 (l:List Fd) (h:∀ f∈l,bA f=0):bn l≤1232*l.length:=by
  induction l with
  | nil=>exact UJ _
  | cons f l ih =>
    have:=mD (h f (by simp));have:=ih fun g hg=>h g (by simp[hg])
    rw[Ad,Wn]; omega
def bK (l:List UInt8) (p:Nat):Nat:=aU (aE l (p+2) 2)
def aJ (l:List UInt8):Nat→Nat
  | 0=>0
  | k+1=>aJ l k+bK l (aJ l k)
def ew (rest z:Nat):Int:=if rest<4 then 1 else if z%4≠0∨z<16 then 3 else if rest<z then 1 else 0
def cJ (l:List UInt8) (k:Nat):Option Int :=
  if l.length≤aJ l k then some 0 else if ew (l.length-aJ l k) (bK l (aJ l k))≠0 then some (ew (l.length-aJ l k) (bK l (aJ l k))) else if k=24 then some 8 else none
def cntF (l:List UInt8):Nat→Nat→Nat
  | 0,k=>k
  | n+1,k=>if (cJ l k).isSome=true then k else cntF l n (k+1)
def cU (l:List UInt8):Nat:=cntF l 24 0
def oU (l:List UInt8) (k:Nat):Fd:=⟨(aU (aE l (aJ l k) 2):Int),aE l (aJ l k+4) (bK l (aJ l k)-4)⟩
def fh (l:List UInt8) (k:Nat):List Fd:=(List.range k).map (oU l)
def eU (l:List UInt8) (k:Nat):List Int:=(List.range k).map fun i=>(aJ l i:Int)
def cx (l:List UInt8):Int:=if 1232<l.length then 2 else (cJ l (cU l)).getD 0
def ek (l:List UInt8):Nat:=if 1232<l.length then 0 else cU l
def aY (l:List UInt8):List Fd:=if cx l=0 then fh l (ek l) else []
def iB (l:List UInt8):List Int:=if cx l=0 then eU l (ek l) else []
theorem vJ (l:List UInt8) (k:Nat):(fh l k).length=k:=by simp[fh]
theorem O5 (l:List UInt8) (k:Nat):(eU l k).length=k:=by simp[eU]
theorem MV (l:List UInt8) (k:Nat):fh l (k+1)=fh l k++[oU l k]:=by simp[fh,VZ]
theorem MW (l:List UInt8) (k:Nat):eU l (k+1)=eU l k++[(aJ l k:Int)]:=by simp[eU,VZ]
theorem Rq (l:List UInt8):(cJ l 24).isSome=true:=by
  unfold cJ;split
  ·rfl
  ·split
   ·rfl
   ·rfl
theorem EG (l:List UInt8):∀ n k,k+n=24→k≤cntF l n k∧cntF l n k≤24∧(cJ l (cntF l n k)).isSome=true∧∀ j,k≤j→j<cntF l n k→cJ l j=none
  | 0,k,h=>by
    obtain rfl:k=24:=by omega
    exact⟨UJ _,UJ _,Rq l,fun j h1 h2=>by rw[cntF] at h2; omega⟩
  | n+1,k,h=>by
    rw[cntF];by_cases e:(cJ l k).isSome=true
    ·rw[if_pos e];exact⟨UJ _,by omega,e,fun j h1 h2=>by omega⟩
    ·rw[if_neg e];obtain⟨h1,h2,h3,h4⟩:=EG l n (k+1) (by omega);refine⟨by omega,h2,h3,fun j h5 h6=>?_⟩;by_cases e2:j=k
     ·subst e2;cases hs:cJ l j with
      | none=>rfl
      | some x=>rw[hs] at e; exact absurd rfl e
     ·exact h4 j (by omega) h6
theorem l7 (l:List UInt8):cU l≤24∧(cJ l (cU l)).isSome=true∧∀ j,j<cU l→cJ l j=none:=by
  obtain⟨_,h2,h3,h4⟩:=EG l 24 0 rfl;exact⟨h2,h3,fun j hj=>h4 j (UR _) hj⟩
theorem O6 {l:List UInt8} {n:Nat} (h1:(cJ l n).isSome=true) (h2:∀ j,j<n→cJ l j=none):cU l=n:=by
  obtain⟨k1,k2,k3⟩:=l7 l;rcases Nat.lt_trichotomy (cU l) n with h | h | h
  ·rw[h2 _ h] at k2; cases k2
  ·exact h
  ·rw[k3 _ h] at h1; cases h1
theorem Tm {r z:Nat} (h:ew r z=0):4≤r∧z%4=0∧16≤z∧z≤r:=by
  unfold ew at h;split at h
  ·cases h
  ·split at h
   ·cases h
   ·split at h
    ·cases h
    ·omega
theorem Rr {r z:Nat} (h1:z%4=0) (h2:16≤z) (h3:z≤r):ew r z=0:=by
  unfold ew;rw[if_neg (by omega),if_neg (by omega),if_neg (by omega)]
theorem CF {l:List UInt8} {k:Nat} (h:cJ l k=none):aJ l k<l.length∧ew (l.length-aJ l k) (bK l (aJ l k))=0∧k≠24:=by
  unfold cJ at h;split at h
  ·cases h
  ·split at h
   ·cases h
   ·rename_i h1 h2;split at h
    ·cases h
    ·rename_i h3;exact⟨by omega,by simpa using h2,h3⟩
theorem wC {l:List UInt8} {k:Nat} (h:cJ l k=none):aJ l k+bK l (aJ l k)≤l.length∧bK l (aJ l k)%4=0∧16≤bK l (aJ l k)∧4≤l.length-aJ l k:=by
  obtain⟨h1,h2,_⟩:=CF h;have:=Tm h2;omega
theorem wE (l:List UInt8):∀ k,k≤cU l→aJ l k≤l.length
  | 0,_=>UR _
  | k+1,h=>by
    have:=wC ((l7 l).2.2 k (by omega));rw[aJ]; omega
theorem Rs (l:List UInt8) (p:Nat) (h:p+4≤l.length):bK l p<65536 :=
  (jV 2 (aE l (p+2) 2) (d6 (by omega)) (by decide)).1
theorem Tn {l:List UInt8} (h:cx l=0):l.length≤1232∧cJ l (cU l)=some 0∧ek l=cU l∧aJ l (cU l)=l.length:=by
  unfold cx at h;split at h
  ·cases h
  ·rename_i h1;have h2:=(l7 l).2.1;cases hs:cJ l (cU l) with
   | none=>rw[hs] at h2; cases h2
   | some x =>
     rw[hs] at h;obtain rfl:x=0:=h;refine⟨by omega,rfl,if_neg h1,?_⟩;have h3:=wE l _ (UJ _);unfold cJ at hs;split at hs
     ·omega
     ·split at hs
      ·rename_i h5;exact absurd (Option.some.inj hs) h5
      ·split at hs
       ·exact absurd (Option.some.inj hs) (by decide)
       ·cases hs
theorem nF (p q:List UInt8) (a n:Nat):aE (p++q) (p.length+a) n=aE q a n:=by
  unfold aE;rw[List.drop_append,List.drop_of_length_le (by omega),Vq]
  congr 2
  omega
theorem Rt (f:Fd) (r:List UInt8):aE (ej f++r) 0 2=al f.ty.toNat 2:=by
  unfold ej aE;rw[UV,VI,VB (by simp[bp]),UG (by simp[bp])]
theorem Ru (f:Fd) (r:List UInt8):aE (ej f++r) 2 2=al (aW f) 2:=by
  have h:=nF (al f.ty.toNat 2) ((al (aW f) 2++(f.da++List.replicate (aW f-4-f.da.length) 0))++r) 0 2;rw[bp,← UV] at h;unfold ej;refine h.trans ?_;unfold aE;rw[UV,VI,VB (by simp[bp]),UG (by simp[bp])]
theorem Rv (f:Fd) (r:List UInt8):aE (ej f++r) 4 (aW f-4)=f.da++List.replicate (aW f-4-f.da.length) 0:=by
  have hl:=vI f;have h:=nF (al f.ty.toNat 2++al (aW f) 2) ((f.da++List.replicate (aW f-4-f.da.length) 0)++r) 0 (aW f-4);rw[UF,bp,bp,← UV,UV (al f.ty.toNat 2)] at h;unfold ej;refine h.trans ?_;unfold aE;rw[VI,VB (by simp; omega),UG (by simp; omega)]
theorem jm (l:List Fd) (ok:∀ f∈l,bA f=0):∀ k,k≤l.length→aJ (aM l) k=bn (l.take k)
  | 0,_=>rfl
  | k+1,h=>by
    have h0:k<l.length:=by omega
    have hf:bA (l.getD k default)=0:=ok _ (by rw[UD,UB h0]; exact U3 h0);have e:aM l=aM (l.take k)++(ej (l.getD k default)++aM (l.drop (k+1))):=by
      rw[← UV,← t7 h0,← qk,Vh]
    rw[aJ,jm l ok k (by omega),pN h0]
    congr 1
    unfold bK;rw[e,← fq (l.take k),nF,Ru,get_put 2 (by decide)];have:=mD hf;omega
theorem G7 {l:List Fd} (ok:∀ f∈l,bA f=0) {k:Nat} (h:k<l.length):bK (aM l) (aJ (aM l) k)=aW (l.getD k default):=by
  have h1:=jm l ok (k+1) (by omega);rw[aJ,jm l ok k (by omega),pN h] at h1;rw[jm l ok k (by omega)];omega
theorem Rw {l:List Fd} (ok:∀ f∈l,bA f=0) {k:Nat} (h:k<l.length):oU (aM l) k=dT (l.getD k default):=by
  have hf:bA (l.getD k default)=0:=ok _ (by rw[UD,UB h]; exact U3 h);have e:aM l=aM (l.take k)++(ej (l.getD k default)++aM (l.drop (k+1))):=by
    rw[← UV,← t7 h,← qk,Vh]
  have hx:=mD hf;unfold oU dT;rw[G7 ok h,jm l ok k (by omega),e,← fq (l.take k),nF,Rv]
  congr 1
  have:=nF (aM (l.take k)) (ej (l.getD k default)++aM (l.drop (k+1))) 0 2;rw[VH (aM (l.take k)).length] at this;rw[this,Rt,get_put 2 (by decide)];have:=hx.1;omega
theorem Rx {l:List Fd} (ok:∀ f∈l,bA f=0) (hn:l.length≤24) {k:Nat} (h:k<l.length):cJ (aM l) k=none:=by
  have h1:=G7 ok h;have h2:=jm l ok k (by omega);have h3:=pN h;have h4:=EF l (k+1);have h5:=Rp (l.getD k default);have h6:=O1 (l.getD k default);unfold cJ;rw[fq,h1,h2,if_neg (by omega),if_neg (by rw[Rr h6 h5 (by omega)]; simp),if_neg (by omega)]
theorem O7 {l:List Fd} (ok:∀ f∈l,bA f=0) (hn:l.length≤24):cU (aM l)=l.length∧cJ (aM l) l.length=some 0:=by
  have e:cJ (aM l) l.length=some 0:=by
    unfold cJ;rw[jm l ok _ (UJ _),Wb,fq,if_pos (UJ _)]
  exact⟨O6 (by rw[e]; rfl) fun j hj=>Rx ok hn hj,e⟩
theorem EH {l:List Fd} (h:bu l=0):cx (aM l)=0∧aY (aM l)=l.map dT∧iB (aM l)=(List.range l.length).map fun k=>(bn (l.take k):Int):=by
  unfold bu at h;split at h
  ·rename_i h0;have ok:=oq.1 h0;split at h
   ·cases h
   ·split at h
    ·cases h
    ·rename_i h1 h2;obtain⟨c1,c2⟩:=O7 ok (by omega);have hl:¬ 1232<(aM l).length:=by rw[fq]; omega
     have e0:cx (aM l)=0:=by unfold cx; rw[if_neg hl,c1,c2]; rfl
     have e1:ek (aM l)=l.length:=by unfold ek; rw[if_neg hl,c1]
     refine⟨e0,?_,?_⟩
     ·unfold aY fh;rw[if_pos e0,e1];refine List.ext_getElem (by simp) fun i i1 i2=>?_
      have hi:i<l.length:=by simpa using i1
      rw[UZ,UZ,VR,Rw ok hi,UD,UB hi];rfl
     ·unfold iB eU;rw[if_pos e0,e1];refine Vd fun i hi=>?_
      rw[jm l ok i (by have:=Wj.1 hi; omega)]
  ·rename_i h0; exact absurd h h0
end Go.Proofs.Ytofonnokanoflaa
