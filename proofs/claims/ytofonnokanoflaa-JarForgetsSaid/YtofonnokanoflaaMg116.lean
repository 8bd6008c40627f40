/- Texts of one's own, merged: from: Layer 17,without code: extension fields,their sizes and bytes,and what is read of bytes. Own work. -/
import Derived.Test.YtofonnokanoflaaMg110
import Derived.Test.YtofonnokanoflaaMg19
set_option linter.unusedVariables false
set_option linter.unusedSimpArgs false
namespace Go.Proofs.Ytofonnokanoflaa
open Go.RowKit
structure Fd where
  ty:Int
  da:List UInt8
deriving DecidableEq,Inhabited
def bE (f:Fd):D:=.agg [.int .i64 f.ty,.sl (f.da.map bD)]
theorem IH (l:List Fd):cB 2 (l.map bE)=true:=by
  unfold cB;rw[Pw];intro d hd;obtain⟨x,_,rfl⟩:=PR.1 hd;rfl
def ba (f:Fd):Nat:=max 16 ((f.da.length+7) / 4*4)
def bF (f:Fd):Int:=if f.ty<0∨65535<f.ty then 4 else if 1232<ba f then 2 else 0
def gg (f:Fd):Nat:=if bF f=0 then ba f else 0
def gP (f:Fd):List UInt8:=au f.ty.toNat 2++(au (ba f) 2++(f.da++List.replicate (ba f-4-f.da.length) 0))
theorem A3 (f:Fd):4+f.da.length≤ba f:=by unfold ba; omega
theorem Kq (f:Fd):ba f-4-f.da.length≤12:=by unfold ba; omega
theorem Kr (f:Fd):(gP f).length=ba f:=by
  have:=A3 f;simp[gP,cL]; omega
theorem oL {f:Fd} (h:bF f=0):0≤f.ty∧f.ty≤65535∧ba f≤1232:=by
  unfold bF at h;split at h
  ·cases h
  ·split at h
   ·cases h
   ·omega
theorem Db {f:Fd} (h1:0≤f.ty) (h2:f.ty≤65535) (h3:ba f≤1232):bF f=0:=by
  unfold bF;rw[if_neg (by omega),if_neg (by omega)]
def cJ:List Fd→Int
  | []=>0
  | f::r=>if bF f=0 then cJ r else bF f
def br (l:List Fd):Nat:=(l.map ba).sum
def bf (l:List Fd):List UInt8:=l.flatMap gP
def bi (l:List Fd):Int:=if cJ l=0 then (if 24<l.length then 8 else if 1232<br l then 2 else 0) else cJ l
def ei (l:List Fd):List UInt8:=if bi l=0 then bf l else []
theorem II:br []=0:=rfl
theorem xi (f:Fd) (l:List Fd):br (f::l)=ba f+br l:=rfl
theorem rE (a b:List Fd):br (a++b)=br a+br b:=by simp[br]
theorem IJ:bf []=[]:=rfl
theorem G8 (f:Fd) (l:List Fd):bf (f::l)=gP f++bf l:=rfl
theorem IK (a b:List Fd):bf (a++b)=bf a++bf b:=by simp[bf]
theorem je (l:List Fd):(bf l).length=br l:=by
  induction l with
  | nil=>rfl
  | cons f l ih=>rw[G8,Ph,ih,Kr,xi]
theorem oP {l:List Fd}:cJ l=0↔∀ f∈l,bF f=0:=by
  induction l with
  | nil=>exact⟨fun _ f hf=>(by cases hf),fun _=>rfl⟩
  | cons f l ih =>
    unfold cJ;by_cases h:bF f=0
    ·rw[if_pos h,ih];simp[h]
    ·rw[if_neg h];exact⟨fun e=>absurd e h,fun e=>absurd (e f (by simp)) h⟩
theorem A4 (a b:List Fd):cJ (a++b)=if cJ a=0 then cJ b else cJ a:=by
  induction a with
  | nil=>rfl
  | cons f a ih =>
    rw[P5,cJ,cJ];by_cases h:bF f=0
    ·rw[if_pos h,if_pos h,ih]
    ·rw[if_neg h,if_neg h,if_neg h]
theorem qM {l:List Fd} {i:Nat} (h:i<l.length):l.take (i+1)=l.take i++[l.getD i default]:=by
  rw[QP,Pb h,Pg,Pb h];rfl
theorem G9 {l:List Fd} {i:Nat} (h:i<l.length):br (l.take (i+1))=br (l.take i)+ba (l.getD i default):=by
  rw[qM h,rE]; rfl
theorem Ha {l:List Fd} {i:Nat} (h:i<l.length):bf (l.take (i+1))=bf (l.take i)++gP (l.getD i default):=by
  rw[qM h,IK]; simp[bf]
theorem Ks (l:List Fd) (i:Nat):br (l.take i)≤br l:=by
  conv=>rhs; rw[← P1 i l]
  rw[rE]; omega
theorem zk {l:List Fd} {i:Nat} (h:i<l.length) (h0:cJ (l.take i)=0):cJ (l.take (i+1))=bF (l.getD i default):=by
  rw[qM h,A4,if_pos h0,cJ];by_cases e:bF (l.getD i default)=0
  ·rw[if_pos e,e]; rfl
  ·rw[if_neg e]
theorem IL {l:List Fd} {i:Nat} (h:i<l.length) (h0:cJ (l.take i)=0) (he:bF (l.getD i default)≠0):cJ l=bF (l.getD i default):=by
  have h1:cJ (l.take (i+1))=bF (l.getD i default):=zk h h0
  conv=>lhs; rw[← P1 (i+1) l]
  rw[A4,h1,if_neg he]
theorem Kt (l:List Fd) (h:∀ f∈l,bF f=0):br l≤1232*l.length:=by
  induction l with
  | nil=>exact Pn _
  | cons f l ih =>
    have:=oL (h f (by simp));have:=ih fun g hg=>h g (by simp[hg])
    rw[xi,QR]; omega
def pK (l:List UInt8) (p:Nat):Nat:=fX (eJ l (p+2) 2)
def gQ (l:List UInt8):Nat→Nat
  | 0=>0
  | k+1=>gQ l k+pK l (gQ l k)
def EY (rest z:Nat):Int:=if rest<4 then 1 else if z%4≠0∨z<16 then 3 else if rest<z then 1 else 0
def EZ (l:List UInt8) (k:Nat):Option Int :=
  if l.length≤gQ l k then some 0 else if EY (l.length-gQ l k) (pK l (gQ l k))≠0 then some (EY (l.length-gQ l k) (pK l (gQ l k))) else if k=24 then some 8 else none
def cntF (l:List UInt8):Nat→Nat→Nat
  | 0,k=>k
  | n+1,k=>if (EZ l k).isSome=true then k else cntF l n (k+1)
def EK (l:List UInt8):Nat:=cntF l 24 0
def OX (l:List UInt8) (k:Nat):Fd:=⟨(fX (eJ l (gQ l k) 2):Int),eJ l (gQ l k+4) (pK l (gQ l k)-4)⟩
def OY (l:List UInt8) (k:Nat):List Fd:=(List.range k).map (OX l)
def uI (l:List UInt8):Int:=if 1232<l.length then 2 else (EZ l (EK l)).getD 0
def OZ (l:List UInt8):Nat:=if 1232<l.length then 0 else EK l
def E0 (l:List UInt8):List Fd:=if uI l=0 then OY l (OZ l) else []
end Go.Proofs.Ytofonnokanoflaa
