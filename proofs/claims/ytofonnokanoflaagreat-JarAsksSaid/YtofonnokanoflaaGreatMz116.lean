/- Texts of one's own, merged: from: Layer 17,without code: extension fields,their sizes and bytes,and what is read of bytes. Own work. -/
import Derived.Test.YtofonnokanoflaaGreatMz110
import Derived.Test.YtofonnokanoflaaGreatMz19
set_option linter.unusedVariables false
set_option linter.unusedSimpArgs false
namespace Go.Proofs.YtofonnokanoflaaGreat
open Go.RowKit
structure Fd where
  ty:Int
  da:List UInt8
deriving DecidableEq,Inhabited
def aJ (f:Fd):D:=.agg [.int .i64 f.ty,.sl (f.da.map bD)]
theorem mA (l:List Fd):ep 2 (l.map aJ)=true:=by
  unfold ep;rw[YB];intro d hd;obtain⟨x,_,rfl⟩:=YN.1 hd;rfl
def bu (f:Fd):Nat:=max 16 ((f.da.length+7) / 4*4)
def cy (f:Fd):Int:=if f.ty<0∨65535<f.ty then 4 else if 1232<bu f then 2 else 0
def ic (f:Fd):Nat:=if cy f=0 then bu f else 0
def iy (f:Fd):List UInt8:=aI f.ty.toNat 2++(aI (bu f) 2++(f.da++List.replicate (bu f-4-f.da.length) 0))
theorem tJ (f:Fd):4+f.da.length≤bu f:=by unfold bu; omega
theorem TA (f:Fd):bu f-4-f.da.length≤12:=by unfold bu; omega
theorem TB (f:Fd):(iy f).length=bu f:=by
  have:=tJ f;simp[iy,dD]; omega
theorem oK {f:Fd} (h:cy f=0):0≤f.ty∧f.ty≤65535∧bu f≤1232:=by
  unfold cy at h;split at h
  ·cases h
  ·split at h
   ·cases h
   ·omega
theorem KT {f:Fd} (h1:0≤f.ty) (h2:f.ty≤65535) (h3:bu f≤1232):cy f=0:=by
  unfold cy;rw[if_neg (by omega),if_neg (by omega)]
def eD:List Fd→Int
  | []=>0
  | f::r=>if cy f=0 then eD r else cy f
def bY (l:List Fd):Nat:=(l.map bu).sum
def be (l:List Fd):List UInt8:=l.flatMap iy
def bI (l:List Fd):Int:=if eD l=0 then (if 24<l.length then 8 else if 1232<bY l then 2 else 0) else eD l
def dK (l:List Fd):List UInt8:=if bI l=0 then be l else []
theorem F0:bY []=0:=rfl
theorem DC (f:Fd) (l:List Fd):bY (f::l)=bu f+bY l:=rfl
theorem xW (a b:List Fd):bY (a++b)=bY a+bY b:=by simp[bY]
theorem F1:be []=[]:=rfl
theorem PH (f:Fd) (l:List Fd):be (f::l)=iy f++be l:=rfl
theorem Rj (a b:List Fd):be (a++b)=be a++be b:=by simp[be]
theorem iB (l:List Fd):(be l).length=bY l:=by
  induction l with
  | nil=>rfl
  | cons f l ih=>rw[PH,Yr,ih,TB,DC]
theorem qY {l:List Fd}:eD l=0↔∀ f∈l,cy f=0:=by
  induction l with
  | nil=>exact⟨fun _ f hf=>(by cases hf),fun _=>rfl⟩
  | cons f l ih =>
    unfold eD;by_cases h:cy f=0
    ·rw[if_pos h,ih];simp[h]
    ·rw[if_neg h];exact⟨fun e=>absurd e h,fun e=>absurd (e f (by simp)) h⟩
theorem Im (a b:List Fd):eD (a++b)=if eD a=0 then eD b else eD a:=by
  induction a with
  | nil=>rfl
  | cons f a ih =>
    rw[Zm,eD,eD];by_cases h:cy f=0
    ·rw[if_pos h,if_pos h,ih]
    ·rw[if_neg h,if_neg h,if_neg h]
theorem pS {l:List Fd} {i:Nat} (h:i<l.length):l.take (i+1)=l.take i++[l.getD i default]:=by
  rw[Zq,Yn h,Ys,Yn h];rfl
theorem DD {l:List Fd} {i:Nat} (h:i<l.length):bY (l.take (i+1))=bY (l.take i)+bu (l.getD i default):=by
  rw[pS h,xW]; rfl
theorem DF {l:List Fd} {i:Nat} (h:i<l.length):be (l.take (i+1))=be (l.take i)++iy (l.getD i default):=by
  rw[pS h,Rj]; simp[be]
theorem Io (l:List Fd) (i:Nat):bY (l.take i)≤bY l:=by
  conv=>rhs; rw[← Y7 i l]
  rw[xW]; omega
theorem xX {l:List Fd} {i:Nat} (h:i<l.length) (h0:eD (l.take i)=0):eD (l.take (i+1))=cy (l.getD i default):=by
  rw[pS h,Im,if_pos h0,eD];by_cases e:cy (l.getD i default)=0
  ·rw[if_pos e,e]; rfl
  ·rw[if_neg e]
theorem F2 {l:List Fd} {i:Nat} (h:i<l.length) (h0:eD (l.take i)=0) (he:cy (l.getD i default)≠0):eD l=cy (l.getD i default):=by
  have h1:eD (l.take (i+1))=cy (l.getD i default):=xX h h0
  conv=>lhs; rw[← Y7 (i+1) l]
  rw[Im,h1,if_neg he]
theorem Ip (l:List Fd) (h:∀ f∈l,cy f=0):bY l≤1232*l.length:=by
  induction l with
  | nil=>exact Yz _
  | cons f l ih =>
    have:=oK (h f (by simp));have:=ih fun g hg=>h g (by simp[hg])
    rw[DC,ZN]; omega
def bq (l:List UInt8) (p:Nat):Nat:=aZ (aO l (p+2) 2)
def aE (l:List UInt8):Nat→Nat
  | 0=>0
  | k+1=>aE l k+bq l (aE l k)
def eY (rest z:Nat):Int:=if rest<4 then 1 else if z%4≠0∨z<16 then 3 else if rest<z then 1 else 0
def eF (l:List UInt8) (k:Nat):Option Int :=
  if l.length≤aE l k then some 0 else if eY (l.length-aE l k) (bq l (aE l k))≠0 then some (eY (l.length-aE l k) (bq l (aE l k))) else if k=24 then some 8 else none
def cntF (l:List UInt8):Nat→Nat→Nat
  | 0,k=>k
  | n+1,k=>if (eF l k).isSome=true then k else cntF l n (k+1)
def cQ (l:List UInt8):Nat:=cntF l 24 0
def vM (l:List UInt8) (k:Nat):Fd:=⟨(aZ (aO l (aE l k) 2):Int),aO l (aE l k+4) (bq l (aE l k)-4)⟩
def dT (l:List UInt8) (k:Nat):List Fd:=(List.range k).map (vM l)
def eG (l:List UInt8) (k:Nat):List Int:=(List.range k).map fun i=>(aE l i:Int)
def cm (l:List UInt8):Int:=if 1232<l.length then 2 else (eF l (cQ l)).getD 0
def fP (l:List UInt8):Nat:=if 1232<l.length then 0 else cQ l
def aR (l:List UInt8):List Fd:=if cm l=0 then dT l (fP l) else []
def fQ (l:List UInt8):List Int:=if cm l=0 then eG l (fP l) else []
theorem tK (l:List UInt8) (k:Nat):(dT l k).length=k:=by simp[dT]
theorem Iq (l:List UInt8) (k:Nat):(eG l k).length=k:=by simp[eG]
theorem F3 (l:List UInt8) (k:Nat):dT l (k+1)=dT l k++[vM l k]:=by simp[dT,ZW]
theorem F4 (l:List UInt8) (k:Nat):eG l (k+1)=eG l k++[(aE l k:Int)]:=by simp[eG,ZW]
theorem VJ (l:List UInt8):(eF l 24).isSome=true:=by
  unfold eF;split
  ·rfl
  ·split
   ·rfl
   ·rfl
theorem Ir (l:List UInt8):∀ n k,k+n=24→k≤cntF l n k∧cntF l n k≤24∧(eF l (cntF l n k)).isSome=true∧∀ j,k≤j→j<cntF l n k→eF l j=none
  | 0,k,h=>by
    obtain rfl:k=24:=by omega
    exact⟨Yz _,Yz _,VJ l,fun j h1 h2=>by rw[cntF] at h2; omega⟩
  | n+1,k,h=>by
    rw[cntF];by_cases e:(eF l k).isSome=true
    ·rw[if_pos e];exact⟨Yz _,by omega,e,fun j h1 h2=>by omega⟩
    ·rw[if_neg e];obtain⟨h1,h2,h3,h4⟩:=Ir l n (k+1) (by omega);refine⟨by omega,h2,h3,fun j h5 h6=>?_⟩;by_cases e2:j=k
     ·subst e2;cases hs:eF l j with
      | none=>rfl
      | some x=>rw[hs] at e; exact absurd rfl e
     ·exact h4 j (by omega) h6
theorem mJ (l:List UInt8):cQ l≤24∧(eF l (cQ l)).isSome=true∧∀ j,j<cQ l→eF l j=none:=by
  obtain⟨_,h2,h3,h4⟩:=Ir l 24 0 rfl;exact⟨h2,h3,fun j hj=>h4 j (Yt _) hj⟩
theorem Mt {r z:Nat} (h:eY r z=0):4≤r∧z%4=0∧16≤z∧z≤r:=by
  unfold eY at h;split at h
  ·cases h
  ·split at h
   ·cases h
   ·split at h
    ·cases h
    ·omega
theorem xY {l:List UInt8} {k:Nat} (h:eF l k=none):aE l k<l.length∧eY (l.length-aE l k) (bq l (aE l k))=0∧k≠24:=by
  unfold eF at h;split at h
  ·cases h
  ·split at h
   ·cases h
   ·rename_i h1 h2;split at h
    ·cases h
    ·rename_i h3;exact⟨by omega,by simpa using h2,h3⟩
theorem qK {l:List UInt8} {k:Nat} (h:eF l k=none):aE l k+bq l (aE l k)≤l.length∧bq l (aE l k)%4=0∧16≤bq l (aE l k)∧4≤l.length-aE l k:=by
  obtain⟨h1,h2,_⟩:=xY h;have:=Mt h2;omega
theorem ug (l:List UInt8):∀ k,k≤cQ l→aE l k≤l.length
  | 0,_=>Yt _
  | k+1,h=>by
    have:=qK ((mJ l).2.2 k (by omega));rw[aE]; omega
theorem KU (l:List UInt8) (p:Nat) (h:p+4≤l.length):bq l p<65536 :=
  (ie 2 (aO l (p+2) 2) (cS (by omega)) (by decide)).1
theorem Mu {l:List UInt8} (h:cm l=0):l.length≤1232∧eF l (cQ l)=some 0∧fP l=cQ l∧aE l (cQ l)=l.length:=by
  unfold cm at h;split at h
  ·cases h
  ·rename_i h1;have h2:=(mJ l).2.1;cases hs:eF l (cQ l) with
   | none=>rw[hs] at h2; cases h2
   | some x =>
     rw[hs] at h;obtain rfl:x=0:=h;refine⟨by omega,rfl,if_neg h1,?_⟩;have h3:=ug l _ (Yz _);unfold eF at hs;split at hs
     ·omega
     ·split at hs
      ·rename_i h5;exact absurd (Option.some.inj hs) h5
      ·split at hs
       ·exact absurd (Option.some.inj hs) (by decide)
       ·cases hs
end Go.Proofs.YtofonnokanoflaaGreat
