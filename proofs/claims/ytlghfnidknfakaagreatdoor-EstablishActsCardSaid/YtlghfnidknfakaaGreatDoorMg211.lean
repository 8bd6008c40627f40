/- Texts of one's own, merged: from: Layer 17,without code: extension fields,their sizes and bytes,and what is read of bytes. Own work. -/
import Derived.Test.YtlghfnidknfakaaGreatDoorMg210
import Derived.Test.YtlghfnidknfakaaGreatDoorMg29
set_option linter.unusedVariables false
set_option linter.unusedSimpArgs false
namespace Go.Proofs.YtlghfnidknfakaaGreatDoor
open Go.RowKit
structure Fd where
  ty:Int
  da:List UInt8
deriving DecidableEq,Inhabited
def bV (f:Fd):D:=.agg [.int .i64 f.ty,.sl (f.da.map bD)]
theorem R7 (f:Fd):(bV f).cells=[.int .i64 f.ty,.sl (f.da.map bD)]:=rfl
theorem zF (l:List Fd):dT 2 (l.map bV)=true:=by
  unfold dT;rw[aby];intro d hd;obtain⟨x,_,rfl⟩:=abB.1 hd;rfl
theorem FV {l:List Fd} {i:Nat} (h:i<l.length):l.take (i+1)=l.take i++[l.getD i default]:=by
  rw[aco,aa7 h,abb,aa7 h];rfl
theorem U2 (p q:List UInt8) (a n:Nat):a9 (p++q) (p.length+a) n=a9 q a n:=by
  unfold a9;rw[List.drop_append,List.drop_of_length_le (by omega),abF]
  congr 2
  omega
structure Ek where
  cr:Bool
  ty:Int
  bo:List UInt8
deriving DecidableEq,Inhabited
def ak (r:Ek):D:=.agg [.bool r.cr,.int .i64 r.ty,.sl (r.bo.map bD)]
theorem mL (l:List Ek):dT 3 (l.map ak)=true:=by
  unfold dT;rw[aby];intro d hd;obtain⟨x,_,rfl⟩:=abB.1 hd;rfl
theorem i8 {l:List Ek} {i:Nat} (h:i<l.length):l[i]?=some (l.getD i default):=by
  rw[abb,aa7 h]; rfl
theorem gg {l:List Ek} {i:Nat} (h:i<l.length):l.getD i default∈l:=by
  rw[abb,aa7 h];exact abG h
theorem mJ {l:List Ek} {i:Nat} (h:i<l.length):l.take (i+1)=l.take i++[l.getD i default]:=by
  rw[aco,i8 h]; rfl
def cM (r:Ek):Int:=if r.ty<0∨32767<r.ty then 4 else if 65535<r.bo.length then 2 else 0
def iw (r:Ek):Nat:=r.ty.toNat+if r.cr then 32768 else 0
def dY (r:Ek):List UInt8:=aV (iw r) 2++(aV r.bo.length 2++r.bo)
theorem nZ (r:Ek):(dY r).length=r.bo.length+4:=by simp[dY,bU]; omega
theorem kD {r:Ek} (h:cM r=0):0≤r.ty∧r.ty≤32767∧r.bo.length≤65535:=by
  unfold cM at h;split at h
  ·exact absurd h (by decide)
  ·split at h
   ·exact absurd h (by decide)
   ·omega
theorem Bm {r:Ek} (h1:0≤r.ty) (h2:r.ty≤32767) (h3:r.bo.length≤65535):cM r=0:=by
  unfold cM;rw[if_neg (by omega),if_neg (by omega)]
def bc (l:List Ek):List UInt8:=l.flatMap dY
def fo:List Ek→Int
  | []=>0
  | r::l=>if cM r=0 then fo l else cM r
theorem AC:bc []=[]:=rfl
theorem nU (r:Ek) (l:List Ek):bc (r::l)=dY r++bc l:=rfl
theorem AD (a b:List Ek):bc (a++b)=bc a++bc b:=by simp[bc]
theorem Kr (a b:List Ek):fo (a++b)=if fo a=0 then fo b else fo a:=by
  induction a with
  | nil=>rfl
  | cons r l ih =>
    show (if cM r=0 then fo (l++b) else cM r)=if (if cM r=0 then fo l else cM r)=0 then fo b else (if cM r=0 then fo l else cM r)
    by_cases h:cM r=0
    ·rw[if_pos h,if_pos h,ih]
    ·rw[if_neg h,if_neg h,if_neg h]
theorem sP {l:List Ek}:fo l=0↔∀ r∈l,cM r=0:=by
  induction l with
  | nil=>exact⟨fun _ r hr=>(by cases hr),fun _=>rfl⟩
  | cons r l ih =>
    show (if cM r=0 then fo l else cM r)=0↔_
    by_cases h:cM r=0
    ·rw[if_pos h,ih];exact⟨fun q x hx=>(abr.1 hx).elim (fun e=>e ▸ h) (q x),fun q x hx=>q x (abD _ hx)⟩
    ·rw[if_neg h];exact⟨fun q=>absurd q h,fun q=>absurd (q r abK) h⟩
theorem zH {l:List Ek} {i:Nat} (h:i<l.length) (h0:fo (l.take i)=0):fo (l.take (i+1))=cM (l.getD i default):=by
  rw[mJ h,Kr,if_pos h0]
  show (if cM _=0 then 0 else cM _)=_
  split
  ·rename_i e; exact e.symm
  ·rfl
theorem Ie {l:List Ek} {i:Nat} (h:i<l.length) (h0:fo (l.take i)=0) (he:cM (l.getD i default)≠0):fo l=cM (l.getD i default):=by
  have e:l=l.take (i+1)++l.drop (i+1):=(abP _ _).symm;have e2:=zH h h0
  calc fo l=fo (l.take (i+1)++l.drop (i+1)):=congrArg fo e
    _=_:=by rw[Kr,if_neg (by rw[e2]; exact he),e2]
def cW (l:List Ek):Int:=if fo l=0 then (if 64<l.length then 8 else if 65535<(bc l).length then 2 else 0) else fo l
def ix (l:List Ek):List UInt8:=if cW l=0 then bc l else []
theorem mh {l:List Ek} (h:cW l=0):(∀ r∈l,cM r=0)∧l.length≤64∧(bc l).length≤65535:=by
  unfold cW at h;by_cases h0:fo l=0
  ·rw[if_pos h0] at h;by_cases h1:64<l.length
   ·rw[if_pos h1] at h; exact absurd h (by decide)
   ·rw[if_neg h1] at h;by_cases h2:65535<(bc l).length
    ·rw[if_pos h2] at h; exact absurd h (by decide)
    ·exact⟨sP.1 h0,by omega,by omega⟩
  ·rw[if_neg h0] at h; exact absurd h h0
theorem Bn {l:List Ek} (h:∀ r∈l,cM r=0) (h1:l.length≤64) (h2:(bc l).length≤65535):cW l=0∧ix l=bc l:=by
  have e:cW l=0:=by
    unfold cW;rw[if_pos (sP.2 h),if_neg (by omega),if_neg (by omega)]
  exact⟨e,if_pos e⟩
def eQ (l:List Ek):Nat→List UInt8
  | 0=>[]
  | i+1=>if (eQ l i).length≤65535 then eQ l i++dY (l.getD i default) else eQ l i
theorem MX (l:List Ek):∀ i,i≤l.length→((bc (l.take i)).length≤65535→eQ l i=bc (l.take i))∧((eQ l i).length≤65535→(bc (l.take i)).length≤65535)
  | 0,_=>⟨fun _=>by rw[abS]; rfl,fun _=>by rw[abS]; exact abc _⟩
  | i+1,h=>by
    obtain⟨h1,h2⟩:=MX l i (by omega);have e:bc (l.take (i+1))=bc (l.take i)++dY (l.getD i default):=by
      rw[mJ (by omega),AD,nU,AC,abm]
    have el:(bc (l.take (i+1))).length=(bc (l.take i)).length+(dY (l.getD i default)).length:=by rw[e,aba]
    rw[eQ];by_cases hs:(eQ l i).length≤65535
    ·rw[if_pos hs];have h3:=h1 (h2 hs);exact⟨fun _=>by rw[h3,e],fun q=>by rw[h3,← e] at q; exact q⟩
    ·rw[if_neg hs];have h4:¬ (bc (l.take i)).length≤65535:=fun q=>hs (by rw[h1 q]; exact q)
     exact⟨fun q=>absurd (by omega) h4,fun q=>absurd q hs⟩
theorem Ks (l:List Ek):∀ i,i≤l.length→(∀ r∈l.take i,r.bo.length≤65535)→(eQ l i).length≤131074
  | 0,_,_=>abc _
  | i+1,h,hb=>by
    have e:=mJ (l:=l) (i:=i) (by omega);have ih:=Ks l i (by omega) fun r hr=>hb r (by rw[e]; exact abT _ hr)
    rw[eQ];by_cases hs:(eQ l i).length≤65535
    ·rw[if_pos hs,aba,nZ];have:=hb _ (by rw[e]; exact abw _ abK);omega
    ·rw[if_neg hs]; exact ih
theorem U3 (l:List Ek):((bc l).length≤65535→eQ l l.length=bc l)∧(¬ (bc l).length≤65535→65535<(eQ l l.length).length):=by
  have h:=MX l l.length (abl _);rw[abv] at h;exact⟨h.1,fun q=>by
    rcases abL 65535 (eQ l l.length).length with h1 | h1
    ·exact h1
    ·exact absurd (h.2 h1) q⟩
def cH (r:List UInt8):Nat:=aY (a9 r 2 2)
def gN (r:List UInt8):Fd:=⟨(aY (r.take 2):Int),a9 r 4 (cH r)⟩
def dd (r:List UInt8):Option (List Fd) :=
  if h0:r.length=0 then some [] else if h1:r.length<4 then none else if h2:r.length-4<cH r then none else (dd (r.drop (4+cH r))).map (gN r::·)
termination_by r.length
decreasing_by rw[abi]; omega
theorem rP:dd []=some []:=by rw[dd]; rfl
theorem AE {r:List UInt8} (h0:r.length≠0) (h1:r.length<4):dd r=none:=by rw[dd,dif_neg h0,dif_pos h1]
theorem yN {r:List UInt8} (h1:¬ r.length<4) (h2:r.length-4<cH r):dd r=none:=by rw[dd,dif_neg (by omega),dif_neg h1,dif_pos h2]
theorem vY {r:List UInt8} (h1:¬ r.length<4) (h2:¬ r.length-4<cH r):dd r=(dd (r.drop (4+cH r))).map (gN r::·):=by rw[dd,dif_neg (by omega),dif_neg h1,dif_neg h2]
def fa (b:List UInt8):Int:=if 65535<b.length then 2 else if (dd b).isSome then 0 else 1
def gd (b:List UInt8):List Fd:=if 65535<b.length then [] else (dd b).getD []
def ek (f:Fd):Ek:=⟨decide (32768≤f.ty),f.ty%32768,f.da⟩
def dM (b:List UInt8):Int:=if fa b=0 then (if 64<(gd b).length then 8 else 0) else fa b
def aB (b:List UInt8):List Ek:=if dM b=0 then (gd b).map ek else []
def oI (r:Ek):Fd:=⟨(iw r:Int),r.bo⟩
theorem Xp {r:Ek} (h:cM r=0):iw r<65536:=by
  obtain⟨h1,h2,_⟩:=kD h;unfold iw;split <;> omega
theorem U4 {r:Ek} (h:cM r=0):ek (oI r)=r:=by
  obtain⟨h1,h2,_⟩:=kD h;obtain⟨c,t,b⟩:=r;unfold ek oI iw;dsimp only at *
  cases c
  ·rw[if_neg (by decide),ab8,decide_eq_false (by omega),show ((t.toNat:Nat):Int)%32768=t by omega]
  ·rw[if_pos rfl,decide_eq_true (by omega),show ((t.toNat+32768:Nat):Int)%32768=t by omega]
theorem Xq (r:Ek) (x:List UInt8):(dY r++x).take 2=aV (iw r) 2:=by
  unfold dY;rw[abq,List.take_left' (bU _ _)]
theorem Xr (r:Ek) (x:List UInt8):a9 (dY r++x) 2 2=aV r.bo.length 2:=by
  have:=pk (aV (iw r) 2) (aV r.bo.length 2) (r.bo++x);rw[bU,bU] at this;unfold dY;rw[abq,abq];exact this
theorem Xs (r:Ek) (x:List UInt8):a9 (dY r++x) 4 r.bo.length=r.bo:=by
  have:=pk (aV (iw r) 2++aV r.bo.length 2) r.bo x;rw[aba,bU,bU] at this;unfold dY;rw[abq,abq];rw[abq] at this;exact this
theorem U5 {r:Ek} (h:cM r=0) (x:List UInt8):dd (dY r++x)=(dd x).map (oI r::·):=by
  obtain⟨_,_,h3⟩:=kD h;have hN:cH (dY r++x)=r.bo.length:=by
    unfold cH;rw[Xr,get_put 2 (by decide)]; omega
  have hl:(dY r++x).length=r.bo.length+4+x.length:=by rw[aba,nZ]
  rw[vY (by omega) (by rw[hN]; omega),hN];have e1:(dY r++x).drop (4+r.bo.length)=x:=List.drop_left' (by rw[nZ]; omega);have e2:gN (dY r++x)=oI r:=by
    unfold gN oI;rw[hN,Xs,Xq,get_put 2 (by decide)];have:=Xp h
    congr 2
    omega
  rw[e1,e2]
theorem U6 {l:List Ek} (h:∀ r∈l,cM r=0):dd (bc l)=some (l.map oI):=by
  induction l with
  | nil=>exact rP
  | cons r l ih =>
    rw[nU,U5 (h r abK),ih fun x hx=>h x (abD _ hx)];rfl
theorem OQ {l:List Ek} (h:cW l=0):dM (bc l)=0∧aB (bc l)=l:=by
  obtain⟨h1,h2,h3⟩:=mh h;have hd:=U6 h1;have e1:fa (bc l)=0:=by
    unfold fa;rw[if_neg (by omega),hd]; rfl
  have e2:gd (bc l)=l.map oI:=by
    unfold gd;rw[if_neg (by omega),hd]; rfl
  have e:dM (bc l)=0:=by
    unfold dM;rw[if_pos e1,e2,abh,if_neg (by omega)]
  refine⟨e,?_⟩;unfold aB;rw[if_pos e,e2,acS];refine (ab0 fun r hr=>?_).trans (List.map_id l);exact U4 (h1 r hr)
theorem Ig:∀ (n:Nat) {r:List UInt8} {l:List Fd},r.length≤n→dd r=some l→bc (l.map ek)=r∧∀ f∈l.map ek,0≤f.ty∧f.ty≤32767∧f.bo.length≤65535
  | 0,r,l,hn,h=>by
    have:r=[]:=abM.1 (by omega);subst this;rw[rP] at h;obtain rfl:=(Option.some.inj h).symm;exact⟨rfl,fun f hf=>by cases hf⟩
  | n+1,r,l,hn,h=>by
    by_cases h0:r.length=0
    ·have:r=[]:=abM.1 h0;subst this;rw[rP] at h;obtain rfl:=(Option.some.inj h).symm;exact⟨rfl,fun f hf=>by cases hf⟩
    ·by_cases h1:r.length<4
     ·rw[AE h0 h1] at h; cases h
     ·by_cases h2:r.length-4<cH r
      ·rw[yN h1 h2] at h; cases h
      ·rw[vY h1 h2] at h;obtain⟨l',h3,rfl⟩:=aa8.1 h;obtain⟨q1,q2⟩:=Ig n (by rw[abi]; omega) h3;have l2:(r.take 2).length=2:=by rw[abg]; omega
       have l3:(a9 r 2 2).length=2:=mK (by omega);have l4:(a9 r 4 (cH r)).length=cH r:=mK (by omega);have b2:=jj 2 (r.take 2) l2 (by decide);have b3:=jj 2 (a9 r 2 2) l3 (by decide);have hN:cH r<65536:=b3.1;have hT:iw (ek (gN r))=aY (r.take 2):=by
         unfold iw ek gN;dsimp only;by_cases hc:32768≤aY (r.take 2)
         ·rw[if_pos (decide_eq_true (by omega))]; omega
         ·rw[if_neg (by rw[decide_eq_true_eq]; omega)]; omega
       have hB:dY (ek (gN r))=r.take (4+cH r):=by
         unfold dY;rw[hT,b2.2,show (ek (gN r)).bo=a9 r 4 (cH r) from rfl,l4,show cH r=aY (a9 r 2 2) from rfl,b3.2];have e1:=Ib r 2 2 (aY (a9 r 2 2));have e2:=Ib r 0 2 (2+aY (a9 r 2 2));rw[e1]
         show a9 r 0 2++a9 r (0+2) (2+aY (a9 r 2 2))=_
         rw[e2]
         show r.take (2+(2+aY (a9 r 2 2)))=_
         congr 1; omega
       refine⟨?_,fun f hf=>?_⟩
       ·rw[abd,nU,q1,hB,abP]
       ·rw[abd] at hf;rcases abr.1 hf with rfl | hf
        ·refine⟨?_,?_,?_⟩
         ·show 0≤(aY (r.take 2):Int)%32768; omega
         ·show (aY (r.take 2):Int)%32768≤32767; omega
         ·show (a9 r 4 (cH r)).length≤65535; omega
        ·exact q2 f hf
theorem OR {b:List UInt8} (h:dM b=0):cW (aB b)=0∧bc (aB b)=b∧b.length≤65535∧(∀ r∈aB b,cM r=0):=by
  have h9:=h;unfold dM at h;by_cases h0:fa b=0
  ·rw[if_pos h0] at h;by_cases h1:64<(gd b).length
   ·rw[if_pos h1] at h; exact absurd h (by decide)
   ·unfold fa at h0;by_cases h2:65535<b.length
    ·rw[if_pos h2] at h0; exact absurd h0 (by decide)
    ·rw[if_neg h2] at h0;rcases hd:dd b with _ | l
     ·rw[hd] at h0; exact absurd h0 (by decide)
     ·have el:gd b=l:=by unfold gd; rw[if_neg h2,hd]; rfl
      have e:aB b=l.map ek:=by unfold aB; rw[if_pos h9,el]
      obtain⟨q1,q2⟩:=Ig b.length (abl _) hd;rw[e];have q3:∀ r∈l.map ek,cM r=0:=fun r hr=>by
        obtain⟨a,c,d⟩:=q2 r hr;exact Bm a c d
      refine⟨(Bn q3 (by rw[abh]; rw[el] at h1; omega) (by rw[q1]; omega)).1,q1,by omega,q3⟩
  ·rw[if_neg h0] at h; exact absurd h h0
end Go.Proofs.YtlghfnidknfakaaGreatDoor
