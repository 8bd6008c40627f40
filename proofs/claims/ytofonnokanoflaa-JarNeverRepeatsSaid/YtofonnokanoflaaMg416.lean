/- Texts of one's own, merged: from: Layer 17,without code: extension fields,their sizes and bytes,and what is read of bytes. Own work. -/
import Derived.Test.YtofonnokanoflaaMg410
import Derived.Test.YtofonnokanoflaaMg49
set_option linter.unusedVariables false
set_option linter.unusedSimpArgs false
namespace Go.Proofs.Ytofonnokanoflaa
open Go.RowKit
structure Fd where
  ty:Int
  da:List UInt8
deriving DecidableEq,Inhabited
def bN (f:Fd):D:=.agg [.int .i64 f.ty,.sl (f.da.map bD)]
theorem Ku (l:List Fd):cH 2 (l.map bN)=true:=by
  unfold cH;rw[Ru];intro d hd;obtain⟨x,_,rfl⟩:=RO.1 hd;rfl
def be (f:Fd):Nat:=max 16 ((f.da.length+7) / 4*4)
def bO (f:Fd):Int:=if f.ty<0∨65535<f.ty then 4 else if 1232<be f then 2 else 0
def gL (f:Fd):Nat:=if bO f=0 then be f else 0
def ip (f:Fd):List UInt8:=aw f.ty.toNat 2++(aw (be f) 2++(f.da++List.replicate (be f-4-f.da.length) 0))
theorem Cx (f:Fd):4+f.da.length≤be f:=by unfold be; omega
theorem Me (f:Fd):be f-4-f.da.length≤12:=by unfold be; omega
theorem Mf (f:Fd):(ip f).length=be f:=by
  have:=Cx f;simp[ip,cX]; omega
theorem pZ {f:Fd} (h:bO f=0):0≤f.ty∧f.ty≤65535∧be f≤1232:=by
  unfold bO at h;split at h
  ·cases h
  ·split at h
   ·cases h
   ·omega
theorem EK {f:Fd} (h1:0≤f.ty) (h2:f.ty≤65535) (h3:be f≤1232):bO f=0:=by
  unfold bO;rw[if_neg (by omega),if_neg (by omega)]
def cT:List Fd→Int
  | []=>0
  | f::r=>if bO f=0 then cT r else bO f
def bz (l:List Fd):Nat:=(l.map be).sum
def bo (l:List Fd):List UInt8:=l.flatMap ip
def bq (l:List Fd):Int:=if cT l=0 then (if 24<l.length then 8 else if 1232<bz l then 2 else 0) else cT l
def eF (l:List Fd):List UInt8:=if bq l=0 then bo l else []
theorem Kv:bz []=0:=rfl
theorem yt (f:Fd) (l:List Fd):bz (f::l)=be f+bz l:=rfl
theorem sV (a b:List Fd):bz (a++b)=bz a+bz b:=by simp[bz]
theorem Kw:bo []=[]:=rfl
theorem IR (f:Fd) (l:List Fd):bo (f::l)=ip f++bo l:=rfl
theorem Kx (a b:List Fd):bo (a++b)=bo a++bo b:=by simp[bo]
theorem jU (l:List Fd):(bo l).length=bz l:=by
  induction l with
  | nil=>rfl
  | cons f l ih=>rw[IR,Rk,ih,Mf,yt]
theorem p0 {l:List Fd}:cT l=0↔∀ f∈l,bO f=0:=by
  induction l with
  | nil=>exact⟨fun _ f hf=>(by cases hf),fun _=>rfl⟩
  | cons f l ih =>
    unfold cT;by_cases h:bO f=0
    ·rw[if_pos h,ih];simp[h]
    ·rw[if_neg h];exact⟨fun e=>absurd e h,fun e=>absurd (e f (by simp)) h⟩
theorem Cy (a b:List Fd):cT (a++b)=if cT a=0 then cT b else cT a:=by
  induction a with
  | nil=>rfl
  | cons f a ih =>
    rw[Rn,cT,cT];by_cases h:bO f=0
    ·rw[if_pos h,if_pos h,ih]
    ·rw[if_neg h,if_neg h,if_neg h]
theorem rV {l:List Fd} {i:Nat} (h:i<l.length):l.take (i+1)=l.take i++[l.getD i default]:=by
  rw[List.take_add_one,Rh h,Rj,Rh h];rfl
theorem IU {l:List Fd} {i:Nat} (h:i<l.length):bz (l.take (i+1))=bz (l.take i)+be (l.getD i default):=by
  rw[rV h,sV]; rfl
theorem IV {l:List Fd} {i:Nat} (h:i<l.length):bo (l.take (i+1))=bo (l.take i)++ip (l.getD i default):=by
  rw[rV h,Kx]; simp[bo]
theorem Mg (l:List Fd) (i:Nat):bz (l.take i)≤bz l:=by
  conv=>rhs; rw[← R5 i l]
  rw[sV]; omega
theorem Av {l:List Fd} {i:Nat} (h:i<l.length) (h0:cT (l.take i)=0):cT (l.take (i+1))=bO (l.getD i default):=by
  rw[rV h,Cy,if_pos h0,cT];by_cases e:bO (l.getD i default)=0
  ·rw[if_pos e,e]; rfl
  ·rw[if_neg e]
theorem Ky {l:List Fd} {i:Nat} (h:i<l.length) (h0:cT (l.take i)=0) (he:bO (l.getD i default)≠0):cT l=bO (l.getD i default):=by
  have h1:cT (l.take (i+1))=bO (l.getD i default):=Av h h0
  conv=>lhs; rw[← R5 (i+1) l]
  rw[Cy,h1,if_neg he]
theorem Mh (l:List Fd) (h:∀ f∈l,bO f=0):bz l≤1232*l.length:=by
  induction l with
  | nil=>exact Rt _
  | cons f l ih =>
    have:=pZ (h f (by simp));have:=ih fun g hg=>h g (by simp[hg])
    rw[yt,Tb]; omega
def qM (l:List UInt8) (p:Nat):Nat:=gE (eZ l (p+2) 2)
def iq (l:List UInt8):Nat→Nat
  | 0=>0
  | k+1=>iq l k+qM l (iq l k)
def GN (rest z:Nat):Int:=if rest<4 then 1 else if z%4≠0∨z<16 then 3 else if rest<z then 1 else 0
def GO (l:List UInt8) (k:Nat):Option Int :=
  if l.length≤iq l k then some 0 else if GN (l.length-iq l k) (qM l (iq l k))≠0 then some (GN (l.length-iq l k) (qM l (iq l k))) else if k=24 then some 8 else none
def cntF (l:List UInt8):Nat→Nat→Nat
  | 0,k=>k
  | n+1,k=>if (GO l k).isSome=true then k else cntF l n (k+1)
def Gz (l:List UInt8):Nat:=cntF l 24 0
def Q3 (l:List UInt8) (k:Nat):Fd:=⟨(gE (eZ l (iq l k) 2):Int),eZ l (iq l k+4) (qM l (iq l k)-4)⟩
def Q4 (l:List UInt8) (k:Nat):List Fd:=(List.range k).map (Q3 l)
def vW (l:List UInt8):Int:=if 1232<l.length then 2 else (GO l (Gz l)).getD 0
def Q5 (l:List UInt8):Nat:=if 1232<l.length then 0 else Gz l
def GQ (l:List UInt8):List Fd:=if vW l=0 then Q4 l (Q5 l) else []
end Go.Proofs.Ytofonnokanoflaa
