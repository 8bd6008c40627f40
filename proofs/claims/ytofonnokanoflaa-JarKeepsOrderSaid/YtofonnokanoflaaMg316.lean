/- Texts of one's own, merged: from: Layer 17,without code: extension fields,their sizes and bytes,and what is read of bytes. Own work. -/
import Derived.Test.YtofonnokanoflaaMg310
import Derived.Test.YtofonnokanoflaaMg39
set_option linter.unusedVariables false
set_option linter.unusedSimpArgs false
namespace Go.Proofs.Ytofonnokanoflaa
open Go.RowKit
structure Fd where
  ty:Int
  da:List UInt8
deriving DecidableEq,Inhabited
def bH (f:Fd):D:=.agg [.int .i64 f.ty,.sl (f.da.map bD)]
theorem Kh (l:List Fd):cH 2 (l.map bH)=true:=by
  unfold cH;rw[Q2];intro d hd;obtain⟨x,_,rfl⟩:=Rn.1 hd;rfl
def bd (f:Fd):Nat:=max 16 ((f.da.length+7) / 4*4)
def bI (f:Fd):Int:=if f.ty<0∨65535<f.ty then 4 else if 1232<bd f then 2 else 0
def gB (f:Fd):Nat:=if bI f=0 then bd f else 0
def hH (f:Fd):List UInt8:=au f.ty.toNat 2++(au (bd f) 2++(f.da++List.replicate (bd f-4-f.da.length) 0))
theorem Cn (f:Fd):4+f.da.length≤bd f:=by unfold bd; omega
theorem LX (f:Fd):bd f-4-f.da.length≤12:=by unfold bd; omega
theorem LY (f:Fd):(hH f).length=bd f:=by
  have:=Cn f;simp[hH,cR]; omega
theorem pG {f:Fd} (h:bI f=0):0≤f.ty∧f.ty≤65535∧bd f≤1232:=by
  unfold bI at h;split at h
  ·cases h
  ·split at h
   ·cases h
   ·omega
theorem EB {f:Fd} (h1:0≤f.ty) (h2:f.ty≤65535) (h3:bd f≤1232):bI f=0:=by
  unfold bI;rw[if_neg (by omega),if_neg (by omega)]
def cO:List Fd→Int
  | []=>0
  | f::r=>if bI f=0 then cO r else bI f
def bz (l:List Fd):Nat:=(l.map bd).sum
def bn (l:List Fd):List UInt8:=l.flatMap hH
def bp (l:List Fd):Int:=if cO l=0 then (if 24<l.length then 8 else if 1232<bz l then 2 else 0) else cO l
def ek (l:List Fd):List UInt8:=if bp l=0 then bn l else []
theorem Ki:bz []=0:=rfl
theorem yi (f:Fd) (l:List Fd):bz (f::l)=bd f+bz l:=rfl
theorem sF (a b:List Fd):bz (a++b)=bz a+bz b:=by simp[bz]
theorem Kj:bn []=[]:=rfl
theorem ID (f:Fd) (l:List Fd):bn (f::l)=hH f++bn l:=rfl
theorem Kk (a b:List Fd):bn (a++b)=bn a++bn b:=by simp[bn]
theorem jC (l:List Fd):(bn l).length=bz l:=by
  induction l with
  | nil=>rfl
  | cons f l ih=>rw[ID,QV,ih,LY,yi]
theorem pH {l:List Fd}:cO l=0↔∀ f∈l,bI f=0:=by
  induction l with
  | nil=>exact⟨fun _ f hf=>(by cases hf),fun _=>rfl⟩
  | cons f l ih =>
    unfold cO;by_cases h:bI f=0
    ·rw[if_pos h,ih];simp[h]
    ·rw[if_neg h];exact⟨fun e=>absurd e h,fun e=>absurd (e f (by simp)) h⟩
theorem Co (a b:List Fd):cO (a++b)=if cO a=0 then cO b else cO a:=by
  induction a with
  | nil=>rfl
  | cons f a ih =>
    rw[RN,cO,cO];by_cases h:bI f=0
    ·rw[if_pos h,if_pos h,ih]
    ·rw[if_neg h,if_neg h,if_neg h]
theorem rF {l:List Fd} {i:Nat} (h:i<l.length):l.take (i+1)=l.take i++[l.getD i default]:=by
  rw[List.take_add_one,QT h,QW,QT h];rfl
theorem IE {l:List Fd} {i:Nat} (h:i<l.length):bz (l.take (i+1))=bz (l.take i)+bd (l.getD i default):=by
  rw[rF h,sF]; rfl
theorem IF {l:List Fd} {i:Nat} (h:i<l.length):bn (l.take (i+1))=bn (l.take i)++hH (l.getD i default):=by
  rw[rF h,Kk]; simp[bn]
theorem LZ (l:List Fd) (i:Nat):bz (l.take i)≤bz l:=by
  conv=>rhs; rw[← RA i l]
  rw[sF]; omega
theorem Al {l:List Fd} {i:Nat} (h:i<l.length) (h0:cO (l.take i)=0):cO (l.take (i+1))=bI (l.getD i default):=by
  rw[rF h,Co,if_pos h0,cO];by_cases e:bI (l.getD i default)=0
  ·rw[if_pos e,e]; rfl
  ·rw[if_neg e]
theorem Kl {l:List Fd} {i:Nat} (h:i<l.length) (h0:cO (l.take i)=0) (he:bI (l.getD i default)≠0):cO l=bI (l.getD i default):=by
  have h1:cO (l.take (i+1))=bI (l.getD i default):=Al h h0
  conv=>lhs; rw[← RA (i+1) l]
  rw[Co,h1,if_neg he]
theorem L0 (l:List Fd) (h:∀ f∈l,bI f=0):bz l≤1232*l.length:=by
  induction l with
  | nil=>exact Q5 _
  | cons f l ih =>
    have:=pG (h f (by simp));have:=ih fun g hg=>h g (by simp[hg])
    rw[yi,SJ]; omega
def qv (l:List UInt8) (p:Nat):Nat:=gw (eQ l (p+2) 2)
def hO (l:List UInt8):Nat→Nat
  | 0=>0
  | k+1=>hO l k+qv l (hO l k)
def GC (rest z:Nat):Int:=if rest<4 then 1 else if z%4≠0∨z<16 then 3 else if rest<z then 1 else 0
def GD (l:List UInt8) (k:Nat):Option Int :=
  if l.length≤hO l k then some 0 else if GC (l.length-hO l k) (qv l (hO l k))≠0 then some (GC (l.length-hO l k) (qv l (hO l k))) else if k=24 then some 8 else none
def cntF (l:List UInt8):Nat→Nat→Nat
  | 0,k=>k
  | n+1,k=>if (GD l k).isSome=true then k else cntF l n (k+1)
def Gl (l:List UInt8):Nat:=cntF l 24 0
def QJ (l:List UInt8) (k:Nat):Fd:=⟨(gw (eQ l (hO l k) 2):Int),eQ l (hO l k+4) (qv l (hO l k)-4)⟩
def QK (l:List UInt8) (k:Nat):List Fd:=(List.range k).map (QJ l)
def vM (l:List UInt8):Int:=if 1232<l.length then 2 else (GD l (Gl l)).getD 0
def QL (l:List UInt8):Nat:=if 1232<l.length then 0 else Gl l
def GE (l:List UInt8):List Fd:=if vM l=0 then QK l (QL l) else []
end Go.Proofs.Ytofonnokanoflaa
