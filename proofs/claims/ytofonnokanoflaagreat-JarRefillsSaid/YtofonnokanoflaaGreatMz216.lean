/- Texts of one's own, merged: from: Layer 17,without code: extension fields,their sizes and bytes,and what is read of bytes. Own work. -/
import Derived.Test.YtofonnokanoflaaGreatMz210
import Derived.Test.YtofonnokanoflaaGreatMz29
set_option linter.unusedVariables false
set_option linter.unusedSimpArgs false
namespace Go.Proofs.YtofonnokanoflaaGreat
open Go.RowKit
structure Fd where
  ty:Int
  da:List UInt8
deriving DecidableEq,Inhabited
def aL (f:Fd):D:=.agg [.int .i64 f.ty,.sl (f.da.map bD)]
theorem nE (l:List Fd):eT 2 (l.map aL)=true:=by
  unfold eT;rw[abZ];intro d hd;obtain⟨x,_,rfl⟩:=ab9.1 hd;rfl
def bc (f:Fd):Nat:=max 16 ((f.da.length+7) / 4*4)
def ca (f:Fd):Int:=if f.ty<0∨65535<f.ty then 4 else if 1232<bc f then 2 else 0
def iK (f:Fd):Nat:=if ca f=0 then bc f else 0
def fk (f:Fd):List UInt8:=au f.ty.toNat 2++(au (bc f) 2++(f.da++List.replicate (bc f-4-f.da.length) 0))
def gm (f:Fd):Fd:=⟨f.ty,f.da++List.replicate (bc f-4-f.da.length) 0⟩
theorem Yu (f:Fd):16≤bc f:=Nat.le_max_left _ _
theorem rY (f:Fd):4+f.da.length≤bc f:=by unfold bc; omega
theorem VM (f:Fd):bc f%4=0:=by unfold bc; omega
theorem VN (f:Fd):bc f-4-f.da.length≤12:=by unfold bc; omega
theorem VO (f:Fd):(fk f).length=bc f:=by
  have:=rY f;simp[fk,bP]; omega
theorem mZ {f:Fd} (h:ca f=0):0≤f.ty∧f.ty≤65535∧bc f≤1232:=by
  unfold ca at h;split at h
  ·cases h
  ·split at h
   ·cases h
   ·omega
theorem Nh {f:Fd} (h1:0≤f.ty) (h2:f.ty≤65535) (h3:bc f≤1232):ca f=0:=by
  unfold ca;rw[if_neg (by omega),if_neg (by omega)]
def eY:List Fd→Int
  | []=>0
  | f::r=>if ca f=0 then eY r else ca f
def bB (l:List Fd):Nat:=(l.map bc).sum
def aY (l:List Fd):List UInt8:=l.flatMap fk
def bX (l:List Fd):Int:=if eY l=0 then (if 24<l.length then 8 else if 1232<bB l then 2 else 0) else eY l
def eZ (l:List Fd):List UInt8:=if bX l=0 then aY l else []
theorem Ie:bB []=0:=rfl
theorem FR (f:Fd) (l:List Fd):bB (f::l)=bc f+bB l:=rfl
theorem rF (a b:List Fd):bB (a++b)=bB a+bB b:=by simp[bB]
theorem Ig:aY []=[]:=rfl
theorem R3 (f:Fd) (l:List Fd):aY (f::l)=fk f++aY l:=rfl
theorem vg (a b:List Fd):aY (a++b)=aY a++aY b:=by simp[aY]
theorem fQ (l:List Fd):(aY l).length=bB l:=by
  induction l with
  | nil=>rfl
  | cons f l ih=>rw[R3,abJ,ih,VO,FR]
theorem qh {l:List Fd}:eY l=0↔∀ f∈l,ca f=0:=by
  induction l with
  | nil=>exact⟨fun _ f hf=>(by cases hf),fun _=>rfl⟩
  | cons f l ih =>
    unfold eY;by_cases h:ca f=0
    ·rw[if_pos h,ih];simp[h]
    ·rw[if_neg h];exact⟨fun e=>absurd e h,fun e=>absurd (e f (by simp)) h⟩
theorem KB (a b:List Fd):eY (a++b)=if eY a=0 then eY b else eY a:=by
  induction a with
  | nil=>rfl
  | cons f a ih =>
    rw[acF,eY,eY];by_cases h:ca f=0
    ·rw[if_pos h,if_pos h,ih]
    ·rw[if_neg h,if_neg h,if_neg h]
theorem rn {l:List Fd} {i:Nat} (h:i<l.length):l.take (i+1)=l.take i++[l.getD i default]:=by
  rw[adg,abF h,abI,abF h];rfl
theorem rq {l:List Fd} {i:Nat} (h:i<l.length):bB (l.take (i+1))=bB (l.take i)+bc (l.getD i default):=by
  rw[rn h,rF]; rfl
theorem uI {l:List Fd} {i:Nat} (h:i<l.length):aY (l.take (i+1))=aY (l.take i)++fk (l.getD i default):=by
  rw[rn h,vg]; simp[aY]
theorem AH (l:List Fd) (i:Nat):bB (l.take i)≤bB l:=by
  conv=>rhs; rw[← acl i l]
  rw[rF]; omega
theorem z0 {l:List Fd} {i:Nat} (h:i<l.length) (h0:eY (l.take i)=0):eY (l.take (i+1))=ca (l.getD i default):=by
  rw[rn h,KB,if_pos h0,eY];by_cases e:ca (l.getD i default)=0
  ·rw[if_pos e,e]; rfl
  ·rw[if_neg e]
theorem Ih {l:List Fd} {i:Nat} (h:i<l.length) (h0:eY (l.take i)=0) (he:ca (l.getD i default)≠0):eY l=ca (l.getD i default):=by
  have h1:eY (l.take (i+1))=ca (l.getD i default):=z0 h h0
  conv=>lhs; rw[← acl (i+1) l]
  rw[KB,h1,if_neg he]
theorem KC (l:List Fd) (h:∀ f∈l,ca f=0):bB l≤1232*l.length:=by
  induction l with
  | nil=>exact abR _
  | cons f l ih =>
    have:=mZ (h f (by simp));have:=ih fun g hg=>h g (by simp[hg])
    rw[FR,ada]; omega
def bu (l:List UInt8) (p:Nat):Nat:=be (aK l (p+2) 2)
def aC (l:List UInt8):Nat→Nat
  | 0=>0
  | k+1=>aC l k+bu l (aC l k)
def fa (rest z:Nat):Int:=if rest<4 then 1 else if z%4≠0∨z<16 then 3 else if rest<z then 1 else 0
def dC (l:List UInt8) (k:Nat):Option Int :=
  if l.length≤aC l k then some 0 else if fa (l.length-aC l k) (bu l (aC l k))≠0 then some (fa (l.length-aC l k) (bu l (aC l k))) else if k=24 then some 8 else none
def cntF (l:List UInt8):Nat→Nat→Nat
  | 0,k=>k
  | n+1,k=>if (dC l k).isSome=true then k else cntF l n (k+1)
def cP (l:List UInt8):Nat:=cntF l 24 0
def qO (l:List UInt8) (k:Nat):Fd:=⟨(be (aK l (aC l k) 2):Int),aK l (aC l k+4) (bu l (aC l k)-4)⟩
def d9 (l:List UInt8) (k:Nat):List Fd:=(List.range k).map (qO l)
def eQ (l:List UInt8) (k:Nat):List Int:=(List.range k).map fun i=>(aC l i:Int)
def cn (l:List UInt8):Int:=if 1232<l.length then 2 else (dC l (cP l)).getD 0
def fN (l:List UInt8):Nat:=if 1232<l.length then 0 else cP l
def aV (l:List UInt8):List Fd:=if cn l=0 then d9 l (fN l) else []
def fO (l:List UInt8):List Int:=if cn l=0 then eQ l (fN l) else []
theorem vL (l:List UInt8) (k:Nat):(d9 l k).length=k:=by simp[d9]
theorem KD (l:List UInt8) (k:Nat):(eQ l k).length=k:=by simp[eQ]
theorem Ii (l:List UInt8) (k:Nat):d9 l (k+1)=d9 l k++[qO l k]:=by simp[d9,ac8]
theorem Ij (l:List UInt8) (k:Nat):eQ l (k+1)=eQ l k++[(aC l k:Int)]:=by simp[eQ,ac8]
theorem Yv (l:List UInt8):(dC l 24).isSome=true:=by
  unfold dC;split
  ·rfl
  ·split
   ·rfl
   ·rfl
theorem KE (l:List UInt8):∀ n k,k+n=24→k≤cntF l n k∧cntF l n k≤24∧(dC l (cntF l n k)).isSome=true∧∀ j,k≤j→j<cntF l n k→dC l j=none
  | 0,k,h=>by
    obtain rfl:k=24:=by omega
    exact⟨abR _,abR _,Yv l,fun j h1 h2=>by rw[cntF] at h2; omega⟩
  | n+1,k,h=>by
    rw[cntF];by_cases e:(dC l k).isSome=true
    ·rw[if_pos e];exact⟨abR _,by omega,e,fun j h1 h2=>by omega⟩
    ·rw[if_neg e];obtain⟨h1,h2,h3,h4⟩:=KE l n (k+1) (by omega);refine⟨by omega,h2,h3,fun j h5 h6=>?_⟩;by_cases e2:j=k
     ·subst e2;cases hs:dC l j with
      | none=>rfl
      | some x=>rw[hs] at e; exact absurd rfl e
     ·exact h4 j (by omega) h6
theorem mK (l:List UInt8):cP l≤24∧(dC l (cP l)).isSome=true∧∀ j,j<cP l→dC l j=none:=by
  obtain⟨_,h2,h3,h4⟩:=KE l 24 0 rfl;exact⟨h2,h3,fun j hj=>h4 j (abM _) hj⟩
theorem VP {l:List UInt8} {n:Nat} (h1:(dC l n).isSome=true) (h2:∀ j,j<n→dC l j=none):cP l=n:=by
  obtain⟨k1,k2,k3⟩:=mK l;rcases Nat.lt_trichotomy (cP l) n with h | h | h
  ·rw[h2 _ h] at k2; cases k2
  ·exact h
  ·rw[k3 _ h] at h1; cases h1
theorem O6 {r z:Nat} (h:fa r z=0):4≤r∧z%4=0∧16≤z∧z≤r:=by
  unfold fa at h;split at h
  ·cases h
  ·split at h
   ·cases h
   ·split at h
    ·cases h
    ·omega
theorem Yw {r z:Nat} (h1:z%4=0) (h2:16≤z) (h3:z≤r):fa r z=0:=by
  unfold fa;rw[if_neg (by omega),if_neg (by omega),if_neg (by omega)]
theorem z1 {l:List UInt8} {k:Nat} (h:dC l k=none):aC l k<l.length∧fa (l.length-aC l k) (bu l (aC l k))=0∧k≠24:=by
  unfold dC at h;split at h
  ·cases h
  ·split at h
   ·cases h
   ·rename_i h1 h2;split at h
    ·cases h
    ·rename_i h3;exact⟨by omega,by simpa using h2,h3⟩
theorem sK {l:List UInt8} {k:Nat} (h:dC l k=none):aC l k+bu l (aC l k)≤l.length∧bu l (aC l k)%4=0∧16≤bu l (aC l k)∧4≤l.length-aC l k:=by
  obtain⟨h1,h2,_⟩:=z1 h;have:=O6 h2;omega
theorem wk (l:List UInt8):∀ k,k≤cP l→aC l k≤l.length
  | 0,_=>abM _
  | k+1,h=>by
    have:=sK ((mK l).2.2 k (by omega));rw[aC]; omega
theorem Ni (l:List UInt8) (p:Nat) (h:p+4≤l.length):bu l p<65536 :=
  (iL 2 (aK l (p+2) 2) (dj (by omega)) (by decide)).1
theorem O7 {l:List UInt8} (h:cn l=0):l.length≤1232∧dC l (cP l)=some 0∧fN l=cP l∧aC l (cP l)=l.length:=by
  unfold cn at h;split at h
  ·cases h
  ·rename_i h1;have h2:=(mK l).2.1;cases hs:dC l (cP l) with
   | none=>rw[hs] at h2; cases h2
   | some x =>
     rw[hs] at h;obtain rfl:x=0:=h;refine⟨by omega,rfl,if_neg h1,?_⟩;have h3:=wk l _ (abR _);unfold dC at hs;split at hs
     ·omega
     ·split at hs
      ·rename_i h5;exact absurd (Option.some.inj hs) h5
      ·split at hs
       ·exact absurd (Option.some.inj hs) (by decide)
       ·cases hs
theorem rZ (p q:List UInt8) (a n:Nat):aK (p++q) (p.length+a) n=aK q a n:=by
  unfold aK;rw[List.drop_append,List.drop_of_length_le (by omega),acE]
  congr 2
  omega
theorem Yx (f:Fd) (r:List UInt8):aK (fk f++r) 0 2=au f.ty.toNat 2:=by
  unfold fk aK;rw[abV,acW,acz (by simp[bP]),abH (by simp[bP])]
theorem Yy (f:Fd) (r:List UInt8):aK (fk f++r) 2 2=au (bc f) 2:=by
  have h:=rZ (au f.ty.toNat 2) ((au (bc f) 2++(f.da++List.replicate (bc f-4-f.da.length) 0))++r) 0 2;rw[bP,← abV] at h;unfold fk;refine h.trans ?_;unfold aK;rw[abV,acW,acz (by simp[bP]),abH (by simp[bP])]
theorem Yz (f:Fd) (r:List UInt8):aK (fk f++r) 4 (bc f-4)=f.da++List.replicate (bc f-4-f.da.length) 0:=by
  have hl:=rY f;have h:=rZ (au f.ty.toNat 2++au (bc f) 2) ((f.da++List.replicate (bc f-4-f.da.length) 0)++r) 0 (bc f-4);rw[abJ,bP,bP,← abV,abV (au f.ty.toNat 2)] at h;unfold fk;refine h.trans ?_;unfold aK;rw[acW,acz (by simp; omega),abH (by simp; omega)]
theorem lZ (l:List Fd) (ok:∀ f∈l,ca f=0):∀ k,k≤l.length→aC (aY l) k=bB (l.take k)
  | 0,_=>rfl
  | k+1,h=>by
    have h0:k<l.length:=by omega
    have hf:ca (l.getD k default)=0:=ok _ (by rw[abI,abF h0]; exact aca h0);have e:aY l=aY (l.take k)++(fk (l.getD k default)++aY (l.drop (k+1))):=by
      rw[← abV,← uI h0,← vg,acl]
    rw[aC,lZ l ok k (by omega),rq h0]
    congr 1
    unfold bu;rw[e,← fQ (l.take k),rZ,Yy,get_put 2 (by decide)];have:=mZ hf;omega
theorem Nj {l:List Fd} (ok:∀ f∈l,ca f=0) {k:Nat} (h:k<l.length):bu (aY l) (aC (aY l) k)=bc (l.getD k default):=by
  have h1:=lZ l ok (k+1) (by omega);rw[aC,lZ l ok k (by omega),rq h] at h1;rw[lZ l ok k (by omega)];omega
theorem YA {l:List Fd} (ok:∀ f∈l,ca f=0) {k:Nat} (h:k<l.length):qO (aY l) k=gm (l.getD k default):=by
  have hf:ca (l.getD k default)=0:=ok _ (by rw[abI,abF h]; exact aca h);have e:aY l=aY (l.take k)++(fk (l.getD k default)++aY (l.drop (k+1))):=by
    rw[← abV,← uI h,← vg,acl]
  have hx:=mZ hf;unfold qO gm;rw[Nj ok h,lZ l ok k (by omega),e,← fQ (l.take k),rZ,Yz]
  congr 1
  have:=rZ (aY (l.take k)) (fk (l.getD k default)++aY (l.drop (k+1))) 0 2;rw[acD (aY (l.take k)).length] at this;rw[this,Yx,get_put 2 (by decide)];have:=hx.1;omega
theorem YB {l:List Fd} (ok:∀ f∈l,ca f=0) (hn:l.length≤24) {k:Nat} (h:k<l.length):dC (aY l) k=none:=by
  have h1:=Nj ok h;have h2:=lZ l ok k (by omega);have h3:=rq h;have h4:=AH l (k+1);have h5:=Yu (l.getD k default);have h6:=VM (l.getD k default);unfold dC;rw[fQ,h1,h2,if_neg (by omega),if_neg (by rw[Yw h6 h5 (by omega)]; simp),if_neg (by omega)]
theorem VQ {l:List Fd} (ok:∀ f∈l,ca f=0) (hn:l.length≤24):cP (aY l)=l.length∧dC (aY l) l.length=some 0:=by
  have e:dC (aY l) l.length=some 0:=by
    unfold dC;rw[lZ l ok _ (abR _),ab8,fQ,if_pos (abR _)]
  exact⟨VP (by rw[e]; rfl) fun j hj=>YB ok hn hj,e⟩
theorem KF {l:List Fd} (h:bX l=0):cn (aY l)=0∧aV (aY l)=l.map gm∧fO (aY l)=(List.range l.length).map fun k=>(bB (l.take k):Int):=by
  unfold bX at h;split at h
  ·rename_i h0;have ok:=qh.1 h0;split at h
   ·cases h
   ·split at h
    ·cases h
    ·rename_i h1 h2;obtain⟨c1,c2⟩:=VQ ok (by omega);have hl:¬ 1232<(aY l).length:=by rw[fQ]; omega
     have e0:cn (aY l)=0:=by unfold cn; rw[if_neg hl,c1,c2]; rfl
     have e1:fN (aY l)=l.length:=by unfold fN; rw[if_neg hl,c1]
     refine⟨e0,?_,?_⟩
     ·unfold aV d9;rw[if_pos e0,e1];refine List.ext_getElem (by simp) fun i i1 i2=>?_
      have hi:i<l.length:=by simpa using i1
      rw[ab7,ab7,adb,YA ok hi,abI,abF hi];rfl
     ·unfold fO eQ;rw[if_pos e0,e1];refine aco fun i hi=>?_
      rw[lZ l ok i (by have:=ads.1 hi; omega)]
  ·rename_i h0; exact absurd h h0
end Go.Proofs.YtofonnokanoflaaGreat
