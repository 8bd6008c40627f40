/- Texts of one's own, merged: from: Layer 17,without code: extension fields,their sizes and bytes,and what is read of bytes. Own work. -/
import Derived.Test.YtlghfnidknfakaaGreatDoorMg410
import Derived.Test.YtlghfnidknfakaaGreatDoorMg49
set_option linter.unusedVariables false
set_option linter.unusedSimpArgs false
namespace Go.Proofs.YtlghfnidknfakaaGreatDoor
open Go.RowKit
structure Fd where
  ty:Int
  da:List UInt8
deriving DecidableEq,Inhabited
def bY (f:Fd):D:=.agg [.int .i64 f.ty,.sl (f.da.map bD)]
theorem Qu (f:Fd):(bY f).cells=[.int .i64 f.ty,.sl (f.da.map bD)]:=rfl
theorem tD (l:List Fd):dA 2 (l.map bY)=true:=by
  unfold dA;rw[abi];intro d hd;obtain⟨x,_,rfl⟩:=abo.1 hd;rfl
theorem Qv {l:List Fd} {i:Nat} (h:i<l.length):l.take (i+1)=l.take i++[l.getD i default]:=by
  rw[acG,aaY h,aa0,aaY h];rfl
theorem T1 (p q:List UInt8) (a n:Nat):aN (p++q) (p.length+a) n=aN q a n:=by
  unfold aN;rw[List.drop_append,List.drop_of_length_le (by omega),abS]
  congr 2
  omega
structure Ek where
  cr:Bool
  ty:Int
  bo:List UInt8
deriving DecidableEq,Inhabited
def aM (r:Ek):D:=.agg [.bool r.cr,.int .i64 r.ty,.sl (r.bo.map bD)]
theorem oB (l:List Ek):dA 3 (l.map aM)=true:=by
  unfold dA;rw[abi];intro d hd;obtain⟨x,_,rfl⟩:=abo.1 hd;rfl
theorem ll {l:List Ek} {i:Nat} (h:i<l.length):l[i]?=some (l.getD i default):=by
  rw[aa0,aaY h]; rfl
theorem jP {l:List Ek} {i:Nat} (h:i<l.length):l.getD i default∈l:=by
  rw[aa0,aaY h];exact aby h
theorem sQ {l:List Ek} {i:Nat} (h:i<l.length):l.take (i+1)=l.take i++[l.getD i default]:=by
  rw[acG,ll h]; rfl
def cS (r:Ek):Int:=if r.ty<0∨32767<r.ty then 4 else if 65535<r.bo.length then 2 else 0
def iD (r:Ek):Nat:=r.ty.toNat+if r.cr then 32768 else 0
def eI (r:Ek):List UInt8:=aO (iD r) 2++(aO r.bo.length 2++r.bo)
theorem oS (r:Ek):(eI r).length=r.bo.length+4:=by simp[eI,cF]; omega
theorem ml {r:Ek} (h:cS r=0):0≤r.ty∧r.ty≤32767∧r.bo.length≤65535:=by
  unfold cS at h;split at h
  ·exact absurd h (by decide)
  ·split at h
   ·exact absurd h (by decide)
   ·omega
theorem Ak {r:Ek} (h1:0≤r.ty) (h2:r.ty≤32767) (h3:r.bo.length≤65535):cS r=0:=by
  unfold cS;rw[if_neg (by omega),if_neg (by omega)]
def bh (l:List Ek):List UInt8:=l.flatMap eI
def eJ:List Ek→Int
  | []=>0
  | r::l=>if cS r=0 then eJ l else cS r
theorem Ja:bh []=[]:=rfl
theorem oC (r:Ek) (l:List Ek):bh (r::l)=eI r++bh l:=rfl
theorem Jb (a b:List Ek):bh (a++b)=bh a++bh b:=by simp[bh]
theorem Jc (a b:List Ek):eJ (a++b)=if eJ a=0 then eJ b else eJ a:=by
  induction a with
  | nil=>rfl
  | cons r l ih =>
    show (if cS r=0 then eJ (l++b) else cS r)=if (if cS r=0 then eJ l else cS r)=0 then eJ b else (if cS r=0 then eJ l else cS r)
    by_cases h:cS r=0
    ·rw[if_pos h,if_pos h,ih]
    ·rw[if_neg h,if_neg h,if_neg h]
theorem vI {l:List Ek}:eJ l=0↔∀ r∈l,cS r=0:=by
  induction l with
  | nil=>exact⟨fun _ r hr=>(by cases hr),fun _=>rfl⟩
  | cons r l ih =>
    show (if cS r=0 then eJ l else cS r)=0↔_
    by_cases h:cS r=0
    ·rw[if_pos h,ih];exact⟨fun q x hx=>(abk.1 hx).elim (fun e=>e ▸ h) (q x),fun q x hx=>q x (abq _ hx)⟩
    ·rw[if_neg h];exact⟨fun q=>absurd q h,fun q=>absurd (q r abC) h⟩
theorem G3 {l:List Ek} {i:Nat} (h:i<l.length) (h0:eJ (l.take i)=0):eJ (l.take (i+1))=cS (l.getD i default):=by
  rw[sQ h,Jc,if_pos h0]
  show (if cS _=0 then 0 else cS _)=_
  split
  ·rename_i e; exact e.symm
  ·rfl
theorem R5 {l:List Ek} {i:Nat} (h:i<l.length) (h0:eJ (l.take i)=0) (he:cS (l.getD i default)≠0):eJ l=cS (l.getD i default):=by
  have e:l=l.take (i+1)++l.drop (i+1):=(abE _ _).symm;have e2:=G3 h h0
  calc eJ l=eJ (l.take (i+1)++l.drop (i+1)):=congrArg eJ e
    _=_:=by rw[Jc,if_neg (by rw[e2]; exact he),e2]
def dX (l:List Ek):Int:=if eJ l=0 then (if 64<l.length then 8 else if 65535<(bh l).length then 2 else 0) else eJ l
def kw (l:List Ek):List UInt8:=if dX l=0 then bh l else []
theorem mm {l:List Ek} (h:dX l=0):(∀ r∈l,cS r=0)∧l.length≤64∧(bh l).length≤65535:=by
  unfold dX at h;by_cases h0:eJ l=0
  ·rw[if_pos h0] at h;by_cases h1:64<l.length
   ·rw[if_pos h1] at h; exact absurd h (by decide)
   ·rw[if_neg h1] at h;by_cases h2:65535<(bh l).length
    ·rw[if_pos h2] at h; exact absurd h (by decide)
    ·exact⟨vI.1 h0,by omega,by omega⟩
  ·rw[if_neg h0] at h; exact absurd h h0
theorem Al {l:List Ek} (h:∀ r∈l,cS r=0) (h1:l.length≤64) (h2:(bh l).length≤65535):dX l=0∧kw l=bh l:=by
  have e:dX l=0:=by
    unfold dX;rw[if_pos (vI.2 h),if_neg (by omega),if_neg (by omega)]
  exact⟨e,if_pos e⟩
def cN (r:List UInt8):Nat:=aZ (aN r 2 2)
def fT (r:List UInt8):Fd:=⟨(aZ (r.take 2):Int),aN r 4 (cN r)⟩
def dR (r:List UInt8):Option (List Fd) :=
  if h0:r.length=0 then some [] else if h1:r.length<4 then none else if h2:r.length-4<cN r then none else (dR (r.drop (4+cN r))).map (fT r::·)
termination_by r.length
decreasing_by rw[aa9]; omega
theorem um:dR []=some []:=by rw[dR]; rfl
theorem Jd {r:List UInt8} (h0:r.length≠0) (h1:r.length<4):dR r=none:=by rw[dR,dif_neg h0,dif_pos h1]
theorem EG {r:List UInt8} (h1:¬ r.length<4) (h2:r.length-4<cN r):dR r=none:=by rw[dR,dif_neg (by omega),dif_neg h1,dif_pos h2]
theorem Am {r:List UInt8} (h1:¬ r.length<4) (h2:¬ r.length-4<cN r):dR r=(dR (r.drop (4+cN r))).map (fT r::·):=by rw[dR,dif_neg (by omega),dif_neg h1,dif_neg h2]
def iE (b:List UInt8):Int:=if 65535<b.length then 2 else if (dR b).isSome then 0 else 1
def lE (b:List UInt8):List Fd:=if 65535<b.length then [] else (dR b).getD []
def eC (f:Fd):Ek:=⟨decide (32768≤f.ty),f.ty%32768,f.da⟩
def dY (b:List UInt8):Int:=if iE b=0 then (if 64<(lE b).length then 8 else 0) else iE b
def aI (b:List UInt8):List Ek:=if dY b=0 then (lE b).map eC else []
def nG (r:Ek):Fd:=⟨(iD r:Int),r.bo⟩
theorem Wy {r:Ek} (h:cS r=0):iD r<65536:=by
  obtain⟨h1,h2,_⟩:=ml h;unfold iD;split <;> omega
theorem T2 {r:Ek} (h:cS r=0):eC (nG r)=r:=by
  obtain⟨h1,h2,_⟩:=ml h;obtain⟨c,t,b⟩:=r;unfold eC nG iD;dsimp only at *
  cases c
  ·rw[if_neg (by decide),acg,decide_eq_false (by omega),show ((t.toNat:Nat):Int)%32768=t by omega]
  ·rw[if_pos rfl,decide_eq_true (by omega),show ((t.toNat+32768:Nat):Int)%32768=t by omega]
theorem Wz (r:Ek) (x:List UInt8):(eI r++x).take 2=aO (iD r) 2:=by
  unfold eI;rw[abe,List.take_left' (cF _ _)]
theorem WA (r:Ek) (x:List UInt8):aN (eI r++x) 2 2=aO r.bo.length 2:=by
  have:=oA (aO (iD r) 2) (aO r.bo.length 2) (r.bo++x);rw[cF,cF] at this;unfold eI;rw[abe,abe];exact this
theorem WB (r:Ek) (x:List UInt8):aN (eI r++x) 4 r.bo.length=r.bo:=by
  have:=oA (aO (iD r) 2++aO r.bo.length 2) r.bo x;rw[aa1,cF,cF] at this;unfold eI;rw[abe,abe];rw[abe] at this;exact this
theorem T3 {r:Ek} (h:cS r=0) (x:List UInt8):dR (eI r++x)=(dR x).map (nG r::·):=by
  obtain⟨_,_,h3⟩:=ml h;have hN:cN (eI r++x)=r.bo.length:=by
    unfold cN;rw[WA,get_put 2 (by decide)]; omega
  have hl:(eI r++x).length=r.bo.length+4+x.length:=by rw[aa1,oS]
  rw[Am (by omega) (by rw[hN]; omega),hN];have e1:(eI r++x).drop (4+r.bo.length)=x:=List.drop_left' (by rw[oS]; omega);have e2:fT (eI r++x)=nG r:=by
    unfold fT nG;rw[hN,WB,Wz,get_put 2 (by decide)];have:=Wy h
    congr 2
    omega
  rw[e1,e2]
theorem T4 {l:List Ek} (h:∀ r∈l,cS r=0):dR (bh l)=some (l.map nG):=by
  induction l with
  | nil=>exact um
  | cons r l ih =>
    rw[oC,T3 (h r abC),ih fun x hx=>h x (abq _ hx)];rfl
theorem Nk {l:List Ek} (h:dX l=0):dY (bh l)=0∧aI (bh l)=l:=by
  obtain⟨h1,h2,h3⟩:=mm h;have hd:=T4 h1;have e1:iE (bh l)=0:=by
    unfold iE;rw[if_neg (by omega),hd]; rfl
  have e2:lE (bh l)=l.map nG:=by
    unfold lE;rw[if_neg (by omega),hd]; rfl
  have e:dY (bh l)=0:=by
    unfold dY;rw[if_pos e1,e2,aa7,if_neg (by omega)]
  refine⟨e,?_⟩;unfold aI;rw[if_pos e,e2,ac6];refine (abL fun r hr=>?_).trans (List.map_id l);exact T2 (h1 r hr)
theorem G4:∀ (n:Nat) {r:List UInt8} {l:List Fd},r.length≤n→dR r=some l→bh (l.map eC)=r∧∀ f∈l.map eC,0≤f.ty∧f.ty≤32767∧f.bo.length≤65535
  | 0,r,l,hn,h=>by
    have:r=[]:=abz.1 (by omega);subst this;rw[um] at h;obtain rfl:=(Option.some.inj h).symm;exact⟨rfl,fun f hf=>by cases hf⟩
  | n+1,r,l,hn,h=>by
    by_cases h0:r.length=0
    ·have:r=[]:=abz.1 h0;subst this;rw[um] at h;obtain rfl:=(Option.some.inj h).symm;exact⟨rfl,fun f hf=>by cases hf⟩
    ·by_cases h1:r.length<4
     ·rw[Jd h0 h1] at h; cases h
     ·by_cases h2:r.length-4<cN r
      ·rw[EG h1 h2] at h; cases h
      ·rw[Am h1 h2] at h;obtain⟨l',h3,rfl⟩:=aaZ.1 h;obtain⟨q1,q2⟩:=G4 n (by rw[aa9]; omega) h3;have l2:(r.take 2).length=2:=by rw[aa4]; omega
       have l3:(aN r 2 2).length=2:=kG (by omega);have l4:(aN r 4 (cN r)).length=cN r:=kG (by omega);have b2:=jK 2 (r.take 2) l2 (by decide);have b3:=jK 2 (aN r 2 2) l3 (by decide);have hN:cN r<65536:=b3.1;have hT:iD (eC (fT r))=aZ (r.take 2):=by
         unfold iD eC fT;dsimp only;by_cases hc:32768≤aZ (r.take 2)
         ·rw[if_pos (decide_eq_true (by omega))]; omega
         ·rw[if_neg (by rw[decide_eq_true_eq]; omega)]; omega
       have hB:eI (eC (fT r))=r.take (4+cN r):=by
         unfold eI;rw[hT,b2.2,show (eC (fT r)).bo=aN r 4 (cN r) from rfl,l4,show cN r=aZ (aN r 2 2) from rfl,b3.2];have e1:=G2 r 2 2 (aZ (aN r 2 2));have e2:=G2 r 0 2 (2+aZ (aN r 2 2));rw[e1]
         show aN r 0 2++aN r (0+2) (2+aZ (aN r 2 2))=_
         rw[e2]
         show r.take (2+(2+aZ (aN r 2 2)))=_
         congr 1; omega
       refine⟨?_,fun f hf=>?_⟩
       ·rw[aa5,oC,q1,hB,abE]
       ·rw[aa5] at hf;rcases abk.1 hf with rfl | hf
        ·refine⟨?_,?_,?_⟩
         ·show 0≤(aZ (r.take 2):Int)%32768; omega
         ·show (aZ (r.take 2):Int)%32768≤32767; omega
         ·show (aN r 4 (cN r)).length≤65535; omega
        ·exact q2 f hf
theorem Nl {b:List UInt8} (h:dY b=0):dX (aI b)=0∧bh (aI b)=b∧b.length≤65535∧(∀ r∈aI b,cS r=0):=by
  have h9:=h;unfold dY at h;by_cases h0:iE b=0
  ·rw[if_pos h0] at h;by_cases h1:64<(lE b).length
   ·rw[if_pos h1] at h; exact absurd h (by decide)
   ·unfold iE at h0;by_cases h2:65535<b.length
    ·rw[if_pos h2] at h0; exact absurd h0 (by decide)
    ·rw[if_neg h2] at h0;rcases hd:dR b with _ | l
     ·rw[hd] at h0; exact absurd h0 (by decide)
     ·have el:lE b=l:=by unfold lE; rw[if_neg h2,hd]; rfl
      have e:aI b=l.map eC:=by unfold aI; rw[if_pos h9,el]
      obtain⟨q1,q2⟩:=G4 b.length (aba _) hd;rw[e];have q3:∀ r∈l.map eC,cS r=0:=fun r hr=>by
        obtain⟨a,c,d⟩:=q2 r hr;exact Ak a c d
      refine⟨(Al q3 (by rw[aa7]; rw[el] at h1; omega) (by rw[q1]; omega)).1,q1,by omega,q3⟩
  ·rw[if_neg h0] at h; exact absurd h h0
end Go.Proofs.YtlghfnidknfakaaGreatDoor
