/- Texts of one's own, merged: from: Layer 17,without code: extension fields,their sizes and bytes,and what is read of bytes. Own work. -/
import Derived.Test.YtlghfnidknfakaaGreatDoorMg110
import Derived.Test.YtlghfnidknfakaaGreatDoorMg19
set_option linter.unusedVariables false
set_option linter.unusedSimpArgs false
namespace Go.Proofs.YtlghfnidknfakaaGreatDoor
open Go.RowKit
structure Fd where
  ty:Int
  da:List UInt8
deriving DecidableEq,Inhabited
def ct (f:Fd):D:=.agg [.int .i64 f.ty,.sl (f.da.map bD)]
theorem Nm (f:Fd):(ct f).cells=[.int .i64 f.ty,.sl (f.da.map bD)]:=rfl
theorem vN (l:List Fd):dk 2 (l.map ct)=true:=by
  unfold dk;rw[WU];intro d hd;obtain⟨x,_,rfl⟩:=WZ.1 hd;rfl
theorem BU {l:List Fd} {i:Nat} (h:i<l.length):l.take (i+1)=l.take i++[l.getD i default]:=by
  rw[Yg,Wz h,WB,Wz h];rfl
theorem Qw (p q:List UInt8) (a n:Nat):aV (p++q) (p.length+a) n=aV q a n:=by
  unfold aV;rw[List.drop_append,List.drop_of_length_le (by omega),XP]
  congr 2
  omega
structure Ek where
  cr:Bool
  ty:Int
  bo:List UInt8
deriving DecidableEq,Inhabited
def aF (r:Ek):D:=.agg [.bool r.cr,.int .i64 r.ty,.sl (r.bo.map bD)]
def zM (r:Ek):Prop:=pX r.ty∧r.bo.length≤maxLen
theorem lA (l:List Ek):dk 3 (l.map aF)=true:=by
  unfold dk;rw[WU];intro d hd;obtain⟨x,_,rfl⟩:=WZ.1 hd;rfl
theorem Qx {x:D} (h:dO (.sl [.bool,.int .i64,.sl [.int .u8]]) x):∃ l:List Ek,x=.sl (l.map aF)∧l.length≤maxLen∧∀ f∈l,zM f:=by
  cases x <;> simp only[dO] at h;rename_i es;obtain⟨h1,h2⟩:=h;have key:∀ es:List D,(∀ e∈es,([Sh.bool,Sh.int .i64,Sh.sl [.int .u8]].length=1→e.one=true)∧([Sh.bool,Sh.int .i64,Sh.sl [.int .u8]].length≠1→e=.agg e.cells)∧fF [.bool,.int .i64,.sl [.int .u8]] e.cells)→∃ l:List Ek,es=l.map aF∧∀ f∈l,zM f:=by
    intro es
    induction es with
    | nil=>intro _; exact⟨[],rfl,fun p hp=>by cases hp⟩
    | cons e r ih =>
      intro h;obtain⟨l,hl,hf⟩:=ih fun x hx=>h x (WW _ hx)
      obtain⟨_,h4,h5⟩:=h e W6;have h4:=h4 (by decide);obtain⟨a,c1,e1,ha,h5⟩:=vL h5;obtain⟨b,c2,e2,hb,h5⟩:=vL h5;obtain⟨c,c3,e3,hc,h5⟩:=vL h5;have e4:=Qu h5;obtain⟨q,rfl⟩:=Qt ha;obtain⟨n,rfl,n1,n2⟩:=IJ hb;obtain⟨m,rfl,m1⟩:=Eb hc;refine⟨⟨q,n,m⟩::l,?_,fun p hp=>?_⟩
      ·rw[WH,← hl,h4,e1,e2,e3,e4]; rfl
      ·rcases WR.1 hp with rfl | hp
       ·exact⟨⟨n1,n2⟩,m1⟩
       ·exact hf p hp
  obtain⟨l,rfl,hf⟩:=key es h2;exact⟨l,rfl,by simpa using h1,hf⟩
theorem io {l:List Ek} {i:Nat} (h:i<l.length):l[i]?=some (l.getD i default):=by
  rw[WB,Wz h]; rfl
theorem hC {l:List Ek} {i:Nat} (h:i<l.length):l.getD i default∈l:=by
  rw[WB,Wz h];exact W9 h
theorem lu {l:List Ek} {i:Nat} (h:i<l.length):l.take (i+1)=l.take i++[l.getD i default]:=by
  rw[Yg,io h]; rfl
def cu (r:Ek):Int:=if r.ty<0∨32767<r.ty then 4 else if 65535<r.bo.length then 2 else 0
def fO (r:Ek):Nat:=r.ty.toNat+if r.cr then 32768 else 0
def db (r:Ek):List UInt8:=aN (fO r) 2++(aN r.bo.length 2++r.bo)
theorem lD (r:Ek):(db r).length=r.bo.length+4:=by simp[db,bW]; omega
theorem jg {r:Ek} (h:cu r=0):0≤r.ty∧r.ty≤32767∧r.bo.length≤65535:=by
  unfold cu at h;split at h
  ·exact absurd h (by decide)
  ·split at h
   ·exact absurd h (by decide)
   ·omega
theorem xB {r:Ek} (h1:0≤r.ty) (h2:r.ty≤32767) (h3:r.bo.length≤65535):cu r=0:=by
  unfold cu;rw[if_neg (by omega),if_neg (by omega)]
def aY (l:List Ek):List UInt8:=l.flatMap db
def dW:List Ek→Int
  | []=>0
  | r::l=>if cu r=0 then dW l else cu r
theorem wR:aY []=[]:=rfl
theorem lB (r:Ek) (l:List Ek):aY (r::l)=db r++aY l:=rfl
theorem wS (a b:List Ek):aY (a++b)=aY a++aY b:=by simp[aY]
theorem Gt (a b:List Ek):dW (a++b)=if dW a=0 then dW b else dW a:=by
  induction a with
  | nil=>rfl
  | cons r l ih =>
    show (if cu r=0 then dW (l++b) else cu r)=if (if cu r=0 then dW l else cu r)=0 then dW b else (if cu r=0 then dW l else cu r)
    by_cases h:cu r=0
    ·rw[if_pos h,if_pos h,ih]
    ·rw[if_neg h,if_neg h,if_neg h]
theorem pJ {l:List Ek}:dW l=0↔∀ r∈l,cu r=0:=by
  induction l with
  | nil=>exact⟨fun _ r hr=>(by cases hr),fun _=>rfl⟩
  | cons r l ih =>
    show (if cu r=0 then dW l else cu r)=0↔_
    by_cases h:cu r=0
    ·rw[if_pos h,ih];exact⟨fun q x hx=>(WR.1 hx).elim (fun e=>e ▸ h) (q x),fun q x hx=>q x (WW _ hx)⟩
    ·rw[if_neg h];exact⟨fun q=>absurd q h,fun q=>absurd (q r W6) h⟩
theorem vO {l:List Ek} {i:Nat} (h:i<l.length) (h0:dW (l.take i)=0):dW (l.take (i+1))=cu (l.getD i default):=by
  rw[lu h,Gt,if_pos h0]
  show (if cu _=0 then 0 else cu _)=_
  split
  ·rename_i e; exact e.symm
  ·rfl
theorem Ei {l:List Ek} {i:Nat} (h:i<l.length) (h0:dW (l.take i)=0) (he:cu (l.getD i default)≠0):dW l=cu (l.getD i default):=by
  have e:l=l.take (i+1)++l.drop (i+1):=(Xg _ _).symm;have e2:=vO h h0
  calc dW l=dW (l.take (i+1)++l.drop (i+1)):=congrArg dW e
    _=_:=by rw[Gt,if_neg (by rw[e2]; exact he),e2]
def cx (l:List Ek):Int:=if dW l=0 then (if 64<l.length then 8 else if 65535<(aY l).length then 2 else 0) else dW l
def dX (l:List Ek):List UInt8:=if cx l=0 then aY l else []
theorem jP {l:List Ek} (h:cx l=0):(∀ r∈l,cu r=0)∧l.length≤64∧(aY l).length≤65535:=by
  unfold cx at h;by_cases h0:dW l=0
  ·rw[if_pos h0] at h;by_cases h1:64<l.length
   ·rw[if_pos h1] at h; exact absurd h (by decide)
   ·rw[if_neg h1] at h;by_cases h2:65535<(aY l).length
    ·rw[if_pos h2] at h; exact absurd h (by decide)
    ·exact⟨pJ.1 h0,by omega,by omega⟩
  ·rw[if_neg h0] at h; exact absurd h h0
theorem xC {l:List Ek} (h:∀ r∈l,cu r=0) (h1:l.length≤64) (h2:(aY l).length≤65535):cx l=0∧dX l=aY l:=by
  have e:cx l=0:=by
    unfold cx;rw[if_pos (pJ.2 h),if_neg (by omega),if_neg (by omega)]
  exact⟨e,if_pos e⟩
def dJ (l:List Ek):Nat→List UInt8
  | 0=>[]
  | i+1=>if (dJ l i).length≤65535 then dJ l i++db (l.getD i default) else dJ l i
theorem IP (l:List Ek):∀ i,i≤l.length→((aY (l.take i)).length≤65535→dJ l i=aY (l.take i))∧((dJ l i).length≤65535→(aY (l.take i)).length≤65535)
  | 0,_=>⟨fun _=>by rw[Xq]; rfl,fun _=>by rw[Xq]; exact WI _⟩
  | i+1,h=>by
    obtain⟨h1,h2⟩:=IP l i (by omega);have e:aY (l.take (i+1))=aY (l.take i)++db (l.getD i default):=by
      rw[lu (by omega),wS,lB,wR,WS]
    have el:(aY (l.take (i+1))).length=(aY (l.take i)).length+(db (l.getD i default)).length:=by rw[e,WA]
    rw[dJ];by_cases hs:(dJ l i).length≤65535
    ·rw[if_pos hs];have h3:=h1 (h2 hs);exact⟨fun _=>by rw[h3,e],fun q=>by rw[h3,← e] at q; exact q⟩
    ·rw[if_neg hs];have h4:¬ (aY (l.take i)).length≤65535:=fun q=>hs (by rw[h1 q]; exact q)
     exact⟨fun q=>absurd (by omega) h4,fun q=>absurd q hs⟩
theorem Gu (l:List Ek):∀ i,i≤l.length→(∀ r∈l.take i,r.bo.length≤65535)→(dJ l i).length≤131074
  | 0,_,_=>WI _
  | i+1,h,hb=>by
    have e:=lu (l:=l) (i:=i) (by omega);have ih:=Gu l i (by omega) fun r hr=>hb r (by rw[e]; exact Xe _ hr)
    rw[dJ];by_cases hs:(dJ l i).length≤65535
    ·rw[if_pos hs,WA,lD];have:=hb _ (by rw[e]; exact WT _ W6);omega
    ·rw[if_neg hs]; exact ih
theorem Qy (l:List Ek):((aY l).length≤65535→dJ l l.length=aY l)∧(¬ (aY l).length≤65535→65535<(dJ l l.length).length):=by
  have h:=IP l l.length (WM _);rw[XE] at h;exact⟨h.1,fun q=>by
    rcases Xd 65535 (dJ l l.length).length with h1 | h1
    ·exact h1
    ·exact absurd (h.2 h1) q⟩
def bZ (r:List UInt8):Nat:=aX (aV r 2 2)
def fb (r:List UInt8):Fd:=⟨(aX (r.take 2):Int),aV r 4 (bZ r)⟩
def cH (r:List UInt8):Option (List Fd) :=
  if h0:r.length=0 then some [] else if h1:r.length<4 then none else if h2:r.length-4<bZ r then none else (cH (r.drop (4+bZ r))).map (fb r::·)
termination_by r.length
decreasing_by rw[WL]; omega
theorem pg:cH []=some []:=by rw[cH]; rfl
theorem wT {r:List UInt8} (h0:r.length≠0) (h1:r.length<4):cH r=none:=by rw[cH,dif_neg h0,dif_pos h1]
theorem u7 {r:List UInt8} (h1:¬ r.length<4) (h2:r.length-4<bZ r):cH r=none:=by rw[cH,dif_neg (by omega),dif_neg h1,dif_pos h2]
theorem r8 {r:List UInt8} (h1:¬ r.length<4) (h2:¬ r.length-4<bZ r):cH r=(cH (r.drop (4+bZ r))).map (fb r::·):=by rw[cH,dif_neg (by omega),dif_neg h1,dif_neg h2]
def dP (b:List UInt8):Int:=if 65535<b.length then 2 else if (cH b).isSome then 0 else 1
def eM (b:List UInt8):List Fd:=if 65535<b.length then [] else (cH b).getD []
def dp (f:Fd):Ek:=⟨decide (32768≤f.ty),f.ty%32768,f.da⟩
def cN (b:List UInt8):Int:=if dP b=0 then (if 64<(eM b).length then 8 else 0) else dP b
def aK (b:List UInt8):List Ek:=if cN b=0 then (eM b).map dp else []
def l8 (r:Ek):Fd:=⟨(fO r:Int),r.bo⟩
theorem SN {r:Ek} (h:cu r=0):fO r<65536:=by
  obtain⟨h1,h2,_⟩:=jg h;unfold fO;split <;> omega
theorem Qz {r:Ek} (h:cu r=0):dp (l8 r)=r:=by
  obtain⟨h1,h2,_⟩:=jg h;obtain⟨c,t,b⟩:=r;unfold dp l8 fO;dsimp only at *
  cases c
  ·rw[if_neg (by decide),XN,decide_eq_false (by omega),show ((t.toNat:Nat):Int)%32768=t by omega]
  ·rw[if_pos rfl,decide_eq_true (by omega),show ((t.toNat+32768:Nat):Int)%32768=t by omega]
theorem SO (r:Ek) (x:List UInt8):(db r++x).take 2=aN (fO r) 2:=by
  unfold db;rw[W7,List.take_left' (bW _ _)]
theorem SP (r:Ek) (x:List UInt8):aV (db r++x) 2 2=aN r.bo.length 2:=by
  have:=mH (aN (fO r) 2) (aN r.bo.length 2) (r.bo++x);rw[bW,bW] at this;unfold db;rw[W7,W7];exact this
theorem SQ (r:Ek) (x:List UInt8):aV (db r++x) 4 r.bo.length=r.bo:=by
  have:=mH (aN (fO r) 2++aN r.bo.length 2) r.bo x;rw[WA,bW,bW] at this;unfold db;rw[W7,W7];rw[W7] at this;exact this
theorem QA {r:Ek} (h:cu r=0) (x:List UInt8):cH (db r++x)=(cH x).map (l8 r::·):=by
  obtain⟨_,_,h3⟩:=jg h;have hN:bZ (db r++x)=r.bo.length:=by
    unfold bZ;rw[SP,get_put 2 (by decide)]; omega
  have hl:(db r++x).length=r.bo.length+4+x.length:=by rw[WA,lD]
  rw[r8 (by omega) (by rw[hN]; omega),hN];have e1:(db r++x).drop (4+r.bo.length)=x:=List.drop_left' (by rw[lD]; omega);have e2:fb (db r++x)=l8 r:=by
    unfold fb l8;rw[hN,SQ,SO,get_put 2 (by decide)];have:=SN h
    congr 2
    omega
  rw[e1,e2]
theorem QB {l:List Ek} (h:∀ r∈l,cu r=0):cH (aY l)=some (l.map l8):=by
  induction l with
  | nil=>exact pg
  | cons r l ih =>
    rw[lB,QA (h r W6),ih fun x hx=>h x (WW _ hx)];rfl
theorem yy {l:List Ek} (h:cx l=0):cN (aY l)=0∧aK (aY l)=l:=by
  obtain⟨h1,h2,h3⟩:=jP h;have hd:=QB h1;have e1:dP (aY l)=0:=by
    unfold dP;rw[if_neg (by omega),hd]; rfl
  have e2:eM (aY l)=l.map l8:=by
    unfold eM;rw[if_neg (by omega),hd]; rfl
  have e:cN (aY l)=0:=by
    unfold cN;rw[if_pos e1,e2,WJ,if_neg (by omega)]
  refine⟨e,?_⟩;unfold aK;rw[if_pos e,e2,Yy];refine (Xj fun r hr=>?_).trans (List.map_id l);exact Qz (h1 r hr)
theorem Ej:∀ (n:Nat) {r:List UInt8} {l:List Fd},r.length≤n→cH r=some l→aY (l.map dp)=r∧∀ f∈l.map dp,0≤f.ty∧f.ty≤32767∧f.bo.length≤65535
  | 0,r,l,hn,h=>by
    have:r=[]:=Xa.1 (by omega);subst this;rw[pg] at h;obtain rfl:=(Option.some.inj h).symm;exact⟨rfl,fun f hf=>by cases hf⟩
  | n+1,r,l,hn,h=>by
    by_cases h0:r.length=0
    ·have:r=[]:=Xa.1 h0;subst this;rw[pg] at h;obtain rfl:=(Option.some.inj h).symm;exact⟨rfl,fun f hf=>by cases hf⟩
    ·by_cases h1:r.length<4
     ·rw[wT h0 h1] at h; cases h
     ·by_cases h2:r.length-4<bZ r
      ·rw[u7 h1 h2] at h; cases h
      ·rw[r8 h1 h2] at h;obtain⟨l',h3,rfl⟩:=Wy.1 h;obtain⟨q1,q2⟩:=Ej n (by rw[WL]; omega) h3;have l2:(r.take 2).length=2:=by rw[WF]; omega
       have l3:(aV r 2 2).length=2:=kr (by omega);have l4:(aV r 4 (bZ r)).length=bZ r:=kr (by omega);have b2:=iD 2 (r.take 2) l2 (by decide);have b3:=iD 2 (aV r 2 2) l3 (by decide);have hN:bZ r<65536:=b3.1;have hT:fO (dp (fb r))=aX (r.take 2):=by
         unfold fO dp fb;dsimp only;by_cases hc:32768≤aX (r.take 2)
         ·rw[if_pos (decide_eq_true (by omega))]; omega
         ·rw[if_neg (by rw[decide_eq_true_eq]; omega)]; omega
       have hB:db (dp (fb r))=r.take (4+bZ r):=by
         unfold db;rw[hT,b2.2,show (dp (fb r)).bo=aV r 4 (bZ r) from rfl,l4,show bZ r=aX (aV r 2 2) from rfl,b3.2];have e1:=Eg r 2 2 (aX (aV r 2 2));have e2:=Eg r 0 2 (2+aX (aV r 2 2));rw[e1]
         show aV r 0 2++aV r (0+2) (2+aX (aV r 2 2))=_
         rw[e2]
         show r.take (2+(2+aX (aV r 2 2)))=_
         congr 1; omega
       refine⟨?_,fun f hf=>?_⟩
       ·rw[WH,lB,q1,hB,Xg]
       ·rw[WH] at hf;rcases WR.1 hf with rfl | hf
        ·refine⟨?_,?_,?_⟩
         ·show 0≤(aX (r.take 2):Int)%32768; omega
         ·show (aX (r.take 2):Int)%32768≤32767; omega
         ·show (aV r 4 (bZ r)).length≤65535; omega
        ·exact q2 f hf
theorem yz {b:List UInt8} (h:cN b=0):cx (aK b)=0∧aY (aK b)=b∧b.length≤65535∧(∀ r∈aK b,cu r=0):=by
  have h9:=h;unfold cN at h;by_cases h0:dP b=0
  ·rw[if_pos h0] at h;by_cases h1:64<(eM b).length
   ·rw[if_pos h1] at h; exact absurd h (by decide)
   ·unfold dP at h0;by_cases h2:65535<b.length
    ·rw[if_pos h2] at h0; exact absurd h0 (by decide)
    ·rw[if_neg h2] at h0;rcases hd:cH b with _ | l
     ·rw[hd] at h0; exact absurd h0 (by decide)
     ·have el:eM b=l:=by unfold eM; rw[if_neg h2,hd]; rfl
      have e:aK b=l.map dp:=by unfold aK; rw[if_pos h9,el]
      obtain⟨q1,q2⟩:=Ej b.length (WM _) hd;rw[e];have q3:∀ r∈l.map dp,cu r=0:=fun r hr=>by
        obtain⟨a,c,d⟩:=q2 r hr;exact xB a c d
      refine⟨(xC q3 (by rw[WJ]; rw[el] at h1; omega) (by rw[q1]; omega)).1,q1,by omega,q3⟩
  ·rw[if_neg h0] at h; exact absurd h h0
end Go.Proofs.YtlghfnidknfakaaGreatDoor
