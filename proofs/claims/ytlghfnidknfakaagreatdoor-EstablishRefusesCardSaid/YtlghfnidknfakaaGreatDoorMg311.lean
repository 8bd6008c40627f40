/- Texts of one's own, merged: from: Layer 17,without code: extension fields,their sizes and bytes,and what is read of bytes. Own work. -/
import Derived.Test.YtlghfnidknfakaaGreatDoorMg310
import Derived.Test.YtlghfnidknfakaaGreatDoorMg39
set_option linter.unusedVariables false
set_option linter.unusedSimpArgs false
namespace Go.Proofs.YtlghfnidknfakaaGreatDoor
open Go.RowKit
structure Fd where
  ty:Int
  da:List UInt8
deriving DecidableEq,Inhabited
def cw (f:Fd):D:=.agg [.int .i64 f.ty,.sl (f.da.map bD)]
theorem MX (f:Fd):(cw f).cells=[.int .i64 f.ty,.sl (f.da.map bD)]:=rfl
theorem vG (l:List Fd):dp 2 (l.map cw)=true:=by
  unfold dp;rw[Wd];intro d hd;obtain⟨x,_,rfl⟩:=Wm.1 hd;rfl
theorem BE {l:List Fd} {i:Nat} (h:i<l.length):l.take (i+1)=l.take i++[l.getD i default]:=by
  rw[XC,VQ h,VS,VQ h];rfl
theorem P9 (p q:List UInt8) (a n:Nat):a6 (p++q) (p.length+a) n=a6 q a n:=by
  unfold a6;rw[List.drop_append,List.drop_of_length_le (by omega),Xb]
  congr 2
  omega
structure Ek where
  cr:Bool
  ty:Int
  bo:List UInt8
deriving DecidableEq,Inhabited
def aH (r:Ek):D:=.agg [.bool r.cr,.int .i64 r.ty,.sl (r.bo.map bD)]
theorem lw (l:List Ek):dp 3 (l.map aH)=true:=by
  unfold dp;rw[Wd];intro d hd;obtain⟨x,_,rfl⟩:=Wm.1 hd;rfl
theorem jq {l:List Ek} {i:Nat} (h:i<l.length):l[i]?=some (l.getD i default):=by
  rw[VS,VQ h]; rfl
theorem iH {l:List Ek} {i:Nat} (h:i<l.length):l.getD i default∈l:=by
  rw[VS,VQ h];exact Wq h
theorem my {l:List Ek} {i:Nat} (h:i<l.length):l.take (i+1)=l.take i++[l.getD i default]:=by
  rw[XC,jq h]; rfl
def cx (r:Ek):Int:=if r.ty<0∨32767<r.ty then 4 else if 65535<r.bo.length then 2 else 0
def fV (r:Ek):Nat:=r.ty.toNat+if r.cr then 32768 else 0
def de (r:Ek):List UInt8:=aQ (fV r) 2++(aQ r.bo.length 2++r.bo)
theorem lA (r:Ek):(de r).length=r.bo.length+4:=by simp[de,ch]; omega
theorem ij {r:Ek} (h:cx r=0):0≤r.ty∧r.ty≤32767∧r.bo.length≤65535:=by
  unfold cx at h;split at h
  ·exact absurd h (by decide)
  ·split at h
   ·exact absurd h (by decide)
   ·omega
theorem rY {r:Ek} (h1:0≤r.ty) (h2:r.ty≤32767) (h3:r.bo.length≤65535):cx r=0:=by
  unfold cx;rw[if_neg (by omega),if_neg (by omega)]
def aO (l:List Ek):List UInt8:=l.flatMap de
def ea:List Ek→Int
  | []=>0
  | r::l=>if cx r=0 then ea l else cx r
theorem wI:aO []=[]:=rfl
theorem ly (r:Ek) (l:List Ek):aO (r::l)=de r++aO l:=rfl
theorem wJ (a b:List Ek):aO (a++b)=aO a++aO b:=by simp[aO]
theorem F5 (a b:List Ek):ea (a++b)=if ea a=0 then ea b else ea a:=by
  induction a with
  | nil=>rfl
  | cons r l ih =>
    show (if cx r=0 then ea (l++b) else cx r)=if (if cx r=0 then ea l else cx r)=0 then ea b else (if cx r=0 then ea l else cx r)
    by_cases h:cx r=0
    ·rw[if_pos h,if_pos h,ih]
    ·rw[if_neg h,if_neg h,if_neg h]
theorem pO {l:List Ek}:ea l=0↔∀ r∈l,cx r=0:=by
  induction l with
  | nil=>exact⟨fun _ r hr=>(by cases hr),fun _=>rfl⟩
  | cons r l ih =>
    show (if cx r=0 then ea l else cx r)=0↔_
    by_cases h:cx r=0
    ·rw[if_pos h,ih];exact⟨fun q x hx=>(V6.1 hx).elim (fun e=>e ▸ h) (q x),fun q x hx=>q x (Wg _ hx)⟩
    ·rw[if_neg h];exact⟨fun q=>absurd q h,fun q=>absurd (q r Wt) h⟩
theorem vH {l:List Ek} {i:Nat} (h:i<l.length) (h0:ea (l.take i)=0):ea (l.take (i+1))=cx (l.getD i default):=by
  rw[my h,F5,if_pos h0]
  show (if cx _=0 then 0 else cx _)=_
  split
  ·rename_i e; exact e.symm
  ·rfl
theorem D1 {l:List Ek} {i:Nat} (h:i<l.length) (h0:ea (l.take i)=0) (he:cx (l.getD i default)≠0):ea l=cx (l.getD i default):=by
  have e:l=l.take (i+1)++l.drop (i+1):=(Wy _ _).symm;have e2:=vH h h0
  calc ea l=ea (l.take (i+1)++l.drop (i+1)):=congrArg ea e
    _=_:=by rw[F5,if_neg (by rw[e2]; exact he),e2]
def bT (l:List Ek):Int:=if ea l=0 then (if 64<l.length then 8 else if 65535<(aO l).length then 2 else 0) else ea l
def fc (l:List Ek):List UInt8:=if bT l=0 then aO l else []
theorem gA {l:List Ek} (h:bT l=0):(∀ r∈l,cx r=0)∧l.length≤64∧(aO l).length≤65535:=by
  unfold bT at h;by_cases h0:ea l=0
  ·rw[if_pos h0] at h;by_cases h1:64<l.length
   ·rw[if_pos h1] at h; exact absurd h (by decide)
   ·rw[if_neg h1] at h;by_cases h2:65535<(aO l).length
    ·rw[if_pos h2] at h; exact absurd h (by decide)
    ·exact⟨pO.1 h0,by omega,by omega⟩
  ·rw[if_neg h0] at h; exact absurd h h0
theorem rZ {l:List Ek} (h:∀ r∈l,cx r=0) (h1:l.length≤64) (h2:(aO l).length≤65535):bT l=0∧fc l=aO l:=by
  have e:bT l=0:=by
    unfold bT;rw[if_pos (pO.2 h),if_neg (by omega),if_neg (by omega)]
  exact⟨e,if_pos e⟩
def dL (l:List Ek):Nat→List UInt8
  | 0=>[]
  | i+1=>if (dL l i).length≤65535 then dL l i++de (l.getD i default) else dL l i
theorem Is (l:List Ek):∀ i,i≤l.length→((aO (l.take i)).length≤65535→dL l i=aO (l.take i))∧((dL l i).length≤65535→(aO (l.take i)).length≤65535)
  | 0,_=>⟨fun _=>by rw[WU]; rfl,fun _=>by rw[WU]; exact VY _⟩
  | i+1,h=>by
    obtain⟨h1,h2⟩:=Is l i (by omega);have e:aO (l.take (i+1))=aO (l.take i)++de (l.getD i default):=by
      rw[my (by omega),wJ,ly,wI,Wc]
    have el:(aO (l.take (i+1))).length=(aO (l.take i)).length+(de (l.getD i default)).length:=by rw[e,VR]
    rw[dL];by_cases hs:(dL l i).length≤65535
    ·rw[if_pos hs];have h3:=h1 (h2 hs);exact⟨fun _=>by rw[h3,e],fun q=>by rw[h3,← e] at q; exact q⟩
    ·rw[if_neg hs];have h4:¬ (aO (l.take i)).length≤65535:=fun q=>hs (by rw[h1 q]; exact q)
     exact⟨fun q=>absurd (by omega) h4,fun q=>absurd q hs⟩
theorem F6 (l:List Ek):∀ i,i≤l.length→(∀ r∈l.take i,r.bo.length≤65535)→(dL l i).length≤131074
  | 0,_,_=>VY _
  | i+1,h,hb=>by
    have e:=my (l:=l) (i:=i) (by omega);have ih:=F6 l i (by omega) fun r hr=>hb r (by rw[e]; exact Ww _ hr)
    rw[dL];by_cases hs:(dL l i).length≤65535
    ·rw[if_pos hs,VR,lA];have:=hb _ (by rw[e]; exact Wb _ Wt);omega
    ·rw[if_neg hs]; exact ih
theorem Qa (l:List Ek):((aO l).length≤65535→dL l l.length=aO l)∧(¬ (aO l).length≤65535→65535<(dL l l.length).length):=by
  have h:=Is l l.length (V0 _);rw[WP] at h;exact⟨h.1,fun q=>by
    rcases Wv 65535 (dL l l.length).length with h1 | h1
    ·exact h1
    ·exact absurd (h.2 h1) q⟩
def cd (r:List UInt8):Nat:=aY (a6 r 2 2)
def fo (r:List UInt8):Fd:=⟨(aY (r.take 2):Int),a6 r 4 (cd r)⟩
def cK (r:List UInt8):Option (List Fd) :=
  if h0:r.length=0 then some [] else if h1:r.length<4 then none else if h2:r.length-4<cd r then none else (cK (r.drop (4+cd r))).map (fo r::·)
termination_by r.length
decreasing_by rw[V5]; omega
theorem pk:cK []=some []:=by rw[cK]; rfl
theorem wK {r:List UInt8} (h0:r.length≠0) (h1:r.length<4):cK r=none:=by rw[cK,dif_neg h0,dif_pos h1]
theorem uY {r:List UInt8} (h1:¬ r.length<4) (h2:r.length-4<cd r):cK r=none:=by rw[cK,dif_neg (by omega),dif_neg h1,dif_pos h2]
theorem r6 {r:List UInt8} (h1:¬ r.length<4) (h2:¬ r.length-4<cd r):cK r=(cK (r.drop (4+cd r))).map (fo r::·):=by rw[cK,dif_neg (by omega),dif_neg h1,dif_neg h2]
def dU (b:List UInt8):Int:=if 65535<b.length then 2 else if (cK b).isSome then 0 else 1
def eU (b:List UInt8):List Fd:=if 65535<b.length then [] else (cK b).getD []
def dr (f:Fd):Ek:=⟨decide (32768≤f.ty),f.ty%32768,f.da⟩
def cN (b:List UInt8):Int:=if dU b=0 then (if 64<(eU b).length then 8 else 0) else dU b
def aD (b:List UInt8):List Ek:=if cN b=0 then (eU b).map dr else []
def l8 (r:Ek):Fd:=⟨(fV r:Int),r.bo⟩
theorem Sm {r:Ek} (h:cx r=0):fV r<65536:=by
  obtain⟨h1,h2,_⟩:=ij h;unfold fV;split <;> omega
theorem Qb {r:Ek} (h:cx r=0):dr (l8 r)=r:=by
  obtain⟨h1,h2,_⟩:=ij h;obtain⟨c,t,b⟩:=r;unfold dr l8 fV;dsimp only at *
  cases c
  ·rw[if_neg (by decide),W8,decide_eq_false (by omega),show ((t.toNat:Nat):Int)%32768=t by omega]
  ·rw[if_pos rfl,decide_eq_true (by omega),show ((t.toNat+32768:Nat):Int)%32768=t by omega]
theorem Sn (r:Ek) (x:List UInt8):(de r++x).take 2=aQ (fV r) 2:=by
  unfold de;rw[Wp,List.take_left' (ch _ _)]
theorem Sp (r:Ek) (x:List UInt8):a6 (de r++x) 2 2=aQ r.bo.length 2:=by
  have:=mJ (aQ (fV r) 2) (aQ r.bo.length 2) (r.bo++x);rw[ch,ch] at this;unfold de;rw[Wp,Wp];exact this
theorem Sq (r:Ek) (x:List UInt8):a6 (de r++x) 4 r.bo.length=r.bo:=by
  have:=mJ (aQ (fV r) 2++aQ r.bo.length 2) r.bo x;rw[VR,ch,ch] at this;unfold de;rw[Wp,Wp];rw[Wp] at this;exact this
theorem Qc {r:Ek} (h:cx r=0) (x:List UInt8):cK (de r++x)=(cK x).map (l8 r::·):=by
  obtain⟨_,_,h3⟩:=ij h;have hN:cd (de r++x)=r.bo.length:=by
    unfold cd;rw[Sp,get_put 2 (by decide)]; omega
  have hl:(de r++x).length=r.bo.length+4+x.length:=by rw[VR,lA]
  rw[r6 (by omega) (by rw[hN]; omega),hN];have e1:(de r++x).drop (4+r.bo.length)=x:=List.drop_left' (by rw[lA]; omega);have e2:fo (de r++x)=l8 r:=by
    unfold fo l8;rw[hN,Sq,Sn,get_put 2 (by decide)];have:=Sm h
    congr 2
    omega
  rw[e1,e2]
theorem Qd {l:List Ek} (h:∀ r∈l,cx r=0):cK (aO l)=some (l.map l8):=by
  induction l with
  | nil=>exact pk
  | cons r l ih =>
    rw[ly,Qc (h r Wt),ih fun x hx=>h x (Wg _ hx)];rfl
theorem sW {l:List Ek} (h:bT l=0):cN (aO l)=0∧aD (aO l)=l:=by
  obtain⟨h1,h2,h3⟩:=gA h;have hd:=Qd h1;have e1:dU (aO l)=0:=by
    unfold dU;rw[if_neg (by omega),hd]; rfl
  have e2:eU (aO l)=l.map l8:=by
    unfold eU;rw[if_neg (by omega),hd]; rfl
  have e:cN (aO l)=0:=by
    unfold cN;rw[if_pos e1,e2,VZ,if_neg (by omega)]
  refine⟨e,?_⟩;unfold aD;rw[if_pos e,e2,List.map_map];refine (WB fun r hr=>?_).trans (List.map_id l);exact Qb (h1 r hr)
theorem D2:∀ (n:Nat) {r:List UInt8} {l:List Fd},r.length≤n→cK r=some l→aO (l.map dr)=r∧∀ f∈l.map dr,0≤f.ty∧f.ty≤32767∧f.bo.length≤65535
  | 0,r,l,hn,h=>by
    have:r=[]:=Wr.1 (by omega);subst this;rw[pk] at h;obtain rfl:=(Option.some.inj h).symm;exact⟨rfl,fun f hf=>by cases hf⟩
  | n+1,r,l,hn,h=>by
    by_cases h0:r.length=0
    ·have:r=[]:=Wr.1 h0;subst this;rw[pk] at h;obtain rfl:=(Option.some.inj h).symm;exact⟨rfl,fun f hf=>by cases hf⟩
    ·by_cases h1:r.length<4
     ·rw[wK h0 h1] at h; cases h
     ·by_cases h2:r.length-4<cd r
      ·rw[uY h1 h2] at h; cases h
      ·rw[r6 h1 h2] at h;obtain⟨l',h3,rfl⟩:=VP.1 h;obtain⟨q1,q2⟩:=D2 n (by rw[V5]; omega) h3;have l2:(r.take 2).length=2:=by rw[VW]; omega
       have l3:(a6 r 2 2).length=2:=lv (by omega);have l4:(a6 r 4 (cd r)).length=cd r:=lv (by omega);have b2:=jb 2 (r.take 2) l2 (by decide);have b3:=jb 2 (a6 r 2 2) l3 (by decide);have hN:cd r<65536:=b3.1;have hT:fV (dr (fo r))=aY (r.take 2):=by
         unfold fV dr fo;dsimp only;by_cases hc:32768≤aY (r.take 2)
         ·rw[if_pos (decide_eq_true (by omega))]; omega
         ·rw[if_neg (by rw[decide_eq_true_eq]; omega)]; omega
       have hB:de (dr (fo r))=r.take (4+cd r):=by
         unfold de;rw[hT,b2.2,show (dr (fo r)).bo=a6 r 4 (cd r) from rfl,l4,show cd r=aY (a6 r 2 2) from rfl,b3.2];have e1:=DZ r 2 2 (aY (a6 r 2 2));have e2:=DZ r 0 2 (2+aY (a6 r 2 2));rw[e1]
         show a6 r 0 2++a6 r (0+2) (2+aY (a6 r 2 2))=_
         rw[e2]
         show r.take (2+(2+aY (a6 r 2 2)))=_
         congr 1; omega
       refine⟨?_,fun f hf=>?_⟩
       ·rw[VX,ly,q1,hB,Wy]
       ·rw[VX] at hf;rcases V6.1 hf with rfl | hf
        ·refine⟨?_,?_,?_⟩
         ·show 0≤(aY (r.take 2):Int)%32768; omega
         ·show (aY (r.take 2):Int)%32768≤32767; omega
         ·show (a6 r 4 (cd r)).length≤65535; omega
        ·exact q2 f hf
theorem J7 {b:List UInt8} (h:cN b=0):bT (aD b)=0∧aO (aD b)=b∧b.length≤65535∧(∀ r∈aD b,cx r=0):=by
  have h9:=h;unfold cN at h;by_cases h0:dU b=0
  ·rw[if_pos h0] at h;by_cases h1:64<(eU b).length
   ·rw[if_pos h1] at h; exact absurd h (by decide)
   ·unfold dU at h0;by_cases h2:65535<b.length
    ·rw[if_pos h2] at h0; exact absurd h0 (by decide)
    ·rw[if_neg h2] at h0;rcases hd:cK b with _ | l
     ·rw[hd] at h0; exact absurd h0 (by decide)
     ·have el:eU b=l:=by unfold eU; rw[if_neg h2,hd]; rfl
      have e:aD b=l.map dr:=by unfold aD; rw[if_pos h9,el]
      obtain⟨q1,q2⟩:=D2 b.length (V0 _) hd;rw[e];have q3:∀ r∈l.map dr,cx r=0:=fun r hr=>by
        obtain⟨a,c,d⟩:=q2 r hr;exact rY a c d
      refine⟨(rZ q3 (by rw[VZ]; rw[el] at h1; omega) (by rw[q1]; omega)).1,q1,by omega,q3⟩
  ·rw[if_neg h0] at h; exact absurd h h0
end Go.Proofs.YtlghfnidknfakaaGreatDoor
