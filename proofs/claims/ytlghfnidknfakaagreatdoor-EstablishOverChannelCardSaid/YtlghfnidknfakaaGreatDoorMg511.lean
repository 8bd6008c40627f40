/- Texts of one's own, merged: from: Layer 17,without code: extension fields,their sizes and bytes,and what is read of bytes. Own work. -/
import Derived.Test.YtlghfnidknfakaaGreatDoorMg510
import Derived.Test.YtlghfnidknfakaaGreatDoorMg59
set_option linter.unusedVariables false
set_option linter.unusedSimpArgs false
namespace Go.Proofs.YtlghfnidknfakaaGreatDoor
open Go.RowKit
structure Fd where
  ty:Int
  da:List UInt8
deriving DecidableEq,Inhabited
def bM (f:Fd):D:=.agg [.int .i64 f.ty,.sl (f.da.map bD)]
theorem OD (f:Fd):(bM f).cells=[.int .i64 f.ty,.sl (f.da.map bD)]:=rfl
theorem r7 (l:List Fd):dq 2 (l.map bM)=true:=by
  unfold dq;rw[Yp];intro d hd;obtain⟨x,_,rfl⟩:=Yu.1 hd;rfl
theorem OE {l:List Fd} {i:Nat} (h:i<l.length):l.take (i+1)=l.take i++[l.getD i default]:=by
  rw[ZG,X3 h,X6,X3 h];rfl
theorem RR (p q:List UInt8) (a n:Nat):aI (p++q) (p.length+a) n=aI q a n:=by
  unfold aI;rw[List.drop_append,List.drop_of_length_le (by omega),Y4]
  congr 2
  omega
structure Ek where
  cr:Bool
  ty:Int
  bo:List UInt8
deriving DecidableEq,Inhabited
def aN (r:Ek):D:=.agg [.bool r.cr,.int .i64 r.ty,.sl (r.bo.map bD)]
theorem nC (l:List Ek):dq 3 (l.map aN)=true:=by
  unfold dq;rw[Yp];intro d hd;obtain⟨x,_,rfl⟩:=Yu.1 hd;rfl
theorem kF {l:List Ek} {i:Nat} (h:i<l.length):l[i]?=some (l.getD i default):=by
  rw[X6,X3 h]; rfl
theorem js {l:List Ek} {i:Nat} (h:i<l.length):l.getD i default∈l:=by
  rw[X6,X3 h];exact Yz h
theorem rx {l:List Ek} {i:Nat} (h:i<l.length):l.take (i+1)=l.take i++[l.getD i default]:=by
  rw[ZG,kF h]; rfl
def cM (r:Ek):Int:=if r.ty<0∨32767<r.ty then 4 else if 65535<r.bo.length then 2 else 0
def il (r:Ek):Nat:=r.ty.toNat+if r.cr then 32768 else 0
def eD (r:Ek):List UInt8:=aP (il r) 2++(aP r.bo.length 2++r.bo)
theorem nN (r:Ek):(eD r).length=r.bo.length+4:=by simp[eD,bN]; omega
theorem lB {r:Ek} (h:cM r=0):0≤r.ty∧r.ty≤32767∧r.bo.length≤65535:=by
  unfold cM at h;split at h
  ·exact absurd h (by decide)
  ·split at h
   ·exact absurd h (by decide)
   ·omega
theorem yr {r:Ek} (h1:0≤r.ty) (h2:r.ty≤32767) (h3:r.bo.length≤65535):cM r=0:=by
  unfold cM;rw[if_neg (by omega),if_neg (by omega)]
def be (l:List Ek):List UInt8:=l.flatMap eD
def eE:List Ek→Int
  | []=>0
  | r::l=>if cM r=0 then eE l else cM r
theorem Hf:be []=[]:=rfl
theorem nD (r:Ek) (l:List Ek):be (r::l)=eD r++be l:=rfl
theorem Hg (a b:List Ek):be (a++b)=be a++be b:=by simp[be]
theorem Hh (a b:List Ek):eE (a++b)=if eE a=0 then eE b else eE a:=by
  induction a with
  | nil=>rfl
  | cons r l ih =>
    show (if cM r=0 then eE (l++b) else cM r)=if (if cM r=0 then eE l else cM r)=0 then eE b else (if cM r=0 then eE l else cM r)
    by_cases h:cM r=0
    ·rw[if_pos h,if_pos h,ih]
    ·rw[if_neg h,if_neg h,if_neg h]
theorem tV {l:List Ek}:eE l=0↔∀ r∈l,cM r=0:=by
  induction l with
  | nil=>exact⟨fun _ r hr=>(by cases hr),fun _=>rfl⟩
  | cons r l ih =>
    show (if cM r=0 then eE l else cM r)=0↔_
    by_cases h:cM r=0
    ·rw[if_pos h,ih];exact⟨fun q x hx=>(Yi.1 hx).elim (fun e=>e ▸ h) (q x),fun q x hx=>q x (Yr _ hx)⟩
    ·rw[if_neg h];exact⟨fun q=>absurd q h,fun q=>absurd (q r YF) h⟩
theorem E0 {l:List Ek} {i:Nat} (h:i<l.length) (h0:eE (l.take i)=0):eE (l.take (i+1))=cM (l.getD i default):=by
  rw[rx h,Hh,if_pos h0]
  show (if cM _=0 then 0 else cM _)=_
  split
  ·rename_i e; exact e.symm
  ·rfl
theorem P5 {l:List Ek} {i:Nat} (h:i<l.length) (h0:eE (l.take i)=0) (he:cM (l.getD i default)≠0):eE l=cM (l.getD i default):=by
  have e:l=l.take (i+1)++l.drop (i+1):=(YI _ _).symm;have e2:=E0 h h0
  calc eE l=eE (l.take (i+1)++l.drop (i+1)):=congrArg eE e
    _=_:=by rw[Hh,if_neg (by rw[e2]; exact he),e2]
def dX (l:List Ek):Int:=if eE l=0 then (if 64<l.length then 8 else if 65535<(be l).length then 2 else 0) else eE l
def jO (l:List Ek):List UInt8:=if dX l=0 then be l else []
theorem lC {l:List Ek} (h:dX l=0):(∀ r∈l,cM r=0)∧l.length≤64∧(be l).length≤65535:=by
  unfold dX at h;by_cases h0:eE l=0
  ·rw[if_pos h0] at h;by_cases h1:64<l.length
   ·rw[if_pos h1] at h; exact absurd h (by decide)
   ·rw[if_neg h1] at h;by_cases h2:65535<(be l).length
    ·rw[if_pos h2] at h; exact absurd h (by decide)
    ·exact⟨tV.1 h0,by omega,by omega⟩
  ·rw[if_neg h0] at h; exact absurd h h0
theorem yt {l:List Ek} (h:∀ r∈l,cM r=0) (h1:l.length≤64) (h2:(be l).length≤65535):dX l=0∧jO l=be l:=by
  have e:dX l=0:=by
    unfold dX;rw[if_pos (tV.2 h),if_neg (by omega),if_neg (by omega)]
  exact⟨e,if_pos e⟩
def cI (r:List UInt8):Nat:=aR (aI r 2 2)
def fT (r:List UInt8):Fd:=⟨(aR (r.take 2):Int),aI r 4 (cI r)⟩
def dO (r:List UInt8):Option (List Fd) :=
  if h0:r.length=0 then some [] else if h1:r.length<4 then none else if h2:r.length-4<cI r then none else (dO (r.drop (4+cI r))).map (fT r::·)
termination_by r.length
decreasing_by rw[Yg]; omega
theorem sQ:dO []=some []:=by rw[dO]; rfl
theorem Hi {r:List UInt8} (h0:r.length≠0) (h1:r.length<4):dO r=none:=by rw[dO,dif_neg h0,dif_pos h1]
theorem CI {r:List UInt8} (h1:¬ r.length<4) (h2:r.length-4<cI r):dO r=none:=by rw[dO,dif_neg (by omega),dif_neg h1,dif_pos h2]
theorem yu {r:List UInt8} (h1:¬ r.length<4) (h2:¬ r.length-4<cI r):dO r=(dO (r.drop (4+cI r))).map (fT r::·):=by rw[dO,dif_neg (by omega),dif_neg h1,dif_neg h2]
def im (b:List UInt8):Int:=if 65535<b.length then 2 else if (dO b).isSome then 0 else 1
def kP (b:List UInt8):List Fd:=if 65535<b.length then [] else (dO b).getD []
def ew (f:Fd):Ek:=⟨decide (32768≤f.ty),f.ty%32768,f.da⟩
def dP (b:List UInt8):Int:=if im b=0 then (if 64<(kP b).length then 8 else 0) else im b
def aG (b:List UInt8):List Ek:=if dP b=0 then (kP b).map ew else []
def mQ (r:Ek):Fd:=⟨(il r:Int),r.bo⟩
theorem Uh {r:Ek} (h:cM r=0):il r<65536:=by
  obtain⟨h1,h2,_⟩:=lB h;unfold il;split <;> omega
theorem RS {r:Ek} (h:cM r=0):ew (mQ r)=r:=by
  obtain⟨h1,h2,_⟩:=lB h;obtain⟨c,t,b⟩:=r;unfold ew mQ il;dsimp only at *
  cases c
  ·rw[if_neg (by decide),Ze,decide_eq_false (by omega),show ((t.toNat:Nat):Int)%32768=t by omega]
  ·rw[if_pos rfl,decide_eq_true (by omega),show ((t.toNat+32768:Nat):Int)%32768=t by omega]
theorem Ui (r:Ek) (x:List UInt8):(eD r++x).take 2=aP (il r) 2:=by
  unfold eD;rw[Yy,List.take_left' (bN _ _)]
theorem Uj (r:Ek) (x:List UInt8):aI (eD r++x) 2 2=aP r.bo.length 2:=by
  have:=me (aP (il r) 2) (aP r.bo.length 2) (r.bo++x);rw[bN,bN] at this;unfold eD;rw[Yy,Yy];exact this
theorem Uk (r:Ek) (x:List UInt8):aI (eD r++x) 4 r.bo.length=r.bo:=by
  have:=me (aP (il r) 2++aP r.bo.length 2) r.bo x;rw[X5,bN,bN] at this;unfold eD;rw[Yy,Yy];rw[Yy] at this;exact this
theorem RU {r:Ek} (h:cM r=0) (x:List UInt8):dO (eD r++x)=(dO x).map (mQ r::·):=by
  obtain⟨_,_,h3⟩:=lB h;have hN:cI (eD r++x)=r.bo.length:=by
    unfold cI;rw[Uj,get_put 2 (by decide)]; omega
  have hl:(eD r++x).length=r.bo.length+4+x.length:=by rw[X5,nN]
  rw[yu (by omega) (by rw[hN]; omega),hN];have e1:(eD r++x).drop (4+r.bo.length)=x:=List.drop_left' (by rw[nN]; omega);have e2:fT (eD r++x)=mQ r:=by
    unfold fT mQ;rw[hN,Uk,Ui,get_put 2 (by decide)];have:=Uh h
    congr 2
    omega
  rw[e1,e2]
theorem RX {l:List Ek} (h:∀ r∈l,cM r=0):dO (be l)=some (l.map mQ):=by
  induction l with
  | nil=>exact sQ
  | cons r l ih =>
    rw[nD,RU (h r YF),ih fun x hx=>h x (Yr _ hx)];rfl
theorem Lo {l:List Ek} (h:dX l=0):dP (be l)=0∧aG (be l)=l:=by
  obtain⟨h1,h2,h3⟩:=lC h;have hd:=RX h1;have e1:im (be l)=0:=by
    unfold im;rw[if_neg (by omega),hd]; rfl
  have e2:kP (be l)=l.map mQ:=by
    unfold kP;rw[if_neg (by omega),hd]; rfl
  have e:dP (be l)=0:=by
    unfold dP;rw[if_pos e1,e2,Yc,if_neg (by omega)]
  refine⟨e,?_⟩;unfold aG;rw[if_pos e,e2,List.map_map];refine (YN fun r hr=>?_).trans (List.map_id l);exact RS (h1 r hr)
theorem E3:∀ (n:Nat) {r:List UInt8} {l:List Fd},r.length≤n→dO r=some l→be (l.map ew)=r∧∀ f∈l.map ew,0≤f.ty∧f.ty≤32767∧f.bo.length≤65535
  | 0,r,l,hn,h=>by
    have:r=[]:=YA.1 (by omega);subst this;rw[sQ] at h;obtain rfl:=(Option.some.inj h).symm;exact⟨rfl,fun f hf=>by cases hf⟩
  | n+1,r,l,hn,h=>by
    by_cases h0:r.length=0
    ·have:r=[]:=YA.1 h0;subst this;rw[sQ] at h;obtain rfl:=(Option.some.inj h).symm;exact⟨rfl,fun f hf=>by cases hf⟩
    ·by_cases h1:r.length<4
     ·rw[Hi h0 h1] at h; cases h
     ·by_cases h2:r.length-4<cI r
      ·rw[CI h1 h2] at h; cases h
      ·rw[yu h1 h2] at h;obtain⟨l',h3,rfl⟩:=X4.1 h;obtain⟨q1,q2⟩:=E3 n (by rw[Yg]; omega) h3;have l2:(r.take 2).length=2:=by rw[Yb]; omega
       have l3:(aI r 2 2).length=2:=jr (by omega);have l4:(aI r 4 (cI r)).length=cI r:=jr (by omega);have b2:=iV 2 (r.take 2) l2 (by decide);have b3:=iV 2 (aI r 2 2) l3 (by decide);have hN:cI r<65536:=b3.1;have hT:il (ew (fT r))=aR (r.take 2):=by
         unfold il ew fT;dsimp only;by_cases hc:32768≤aR (r.take 2)
         ·rw[if_pos (decide_eq_true (by omega))]; omega
         ·rw[if_neg (by rw[decide_eq_true_eq]; omega)]; omega
       have hB:eD (ew (fT r))=r.take (4+cI r):=by
         unfold eD;rw[hT,b2.2,show (ew (fT r)).bo=aI r 4 (cI r) from rfl,l4,show cI r=aR (aI r 2 2) from rfl,b3.2];have e1:=EZ r 2 2 (aR (aI r 2 2));have e2:=EZ r 0 2 (2+aR (aI r 2 2));rw[e1]
         show aI r 0 2++aI r (0+2) (2+aR (aI r 2 2))=_
         rw[e2]
         show r.take (2+(2+aR (aI r 2 2)))=_
         congr 1; omega
       refine⟨?_,fun f hf=>?_⟩
       ·rw[Ya,nD,q1,hB,YI]
       ·rw[Ya] at hf;rcases Yi.1 hf with rfl | hf
        ·refine⟨?_,?_,?_⟩
         ·show 0≤(aR (r.take 2):Int)%32768; omega
         ·show (aR (r.take 2):Int)%32768≤32767; omega
         ·show (aI r 4 (cI r)).length≤65535; omega
        ·exact q2 f hf
theorem Lp {b:List UInt8} (h:dP b=0):dX (aG b)=0∧be (aG b)=b∧b.length≤65535∧(∀ r∈aG b,cM r=0):=by
  have h9:=h;unfold dP at h;by_cases h0:im b=0
  ·rw[if_pos h0] at h;by_cases h1:64<(kP b).length
   ·rw[if_pos h1] at h; exact absurd h (by decide)
   ·unfold im at h0;by_cases h2:65535<b.length
    ·rw[if_pos h2] at h0; exact absurd h0 (by decide)
    ·rw[if_neg h2] at h0;rcases hd:dO b with _ | l
     ·rw[hd] at h0; exact absurd h0 (by decide)
     ·have el:kP b=l:=by unfold kP; rw[if_neg h2,hd]; rfl
      have e:aG b=l.map ew:=by unfold aG; rw[if_pos h9,el]
      obtain⟨q1,q2⟩:=E3 b.length (Ye _) hd;rw[e];have q3:∀ r∈l.map ew,cM r=0:=fun r hr=>by
        obtain⟨a,c,d⟩:=q2 r hr;exact yr a c d
      refine⟨(yt q3 (by rw[Yc]; rw[el] at h1; omega) (by rw[q1]; omega)).1,q1,by omega,q3⟩
  ·rw[if_neg h0] at h; exact absurd h h0
end Go.Proofs.YtlghfnidknfakaaGreatDoor
