/- Texts of one's own, merged: from: The plain logic (20): words of 32 bits. Own work. -/
import Derived.Laws.BitsLemmas
import Derived.Laws.Bits64
import Derived.Laws.BitsAllLaws
import Derived.Test.YtofonnokanoflaaGreatMz16
set_option linter.unusedVariables false
set_option linter.unusedSimpArgs false
namespace Go.Proofs.YtofonnokanoflaaGreat
open Go.RowKit IntWalk
def ip (x y:UInt32):UInt32:=x ^^^ y
def mc (x y:UInt32):UInt32:=x &&& y
def nh (x y:UInt32):UInt32:=x ||| y
def cx (x y:UInt32):UInt32:=x+y
def vB (x:UInt32):UInt32:=UInt32.ofNat (4294967295-x.toNat)
def pc (x:UInt32) (n:Nat):UInt32:=UInt32.ofNat (x.toNat / 2^n)
def m5 (x:UInt32) (n:Nat):UInt32:=UInt32.ofNat (x.toNat*2^n)
def jI (x:UInt32) (n:Nat):UInt32:=nh (pc x n) (m5 x (32-n))
def mT (b:UInt8):UInt32:=UInt32.ofNat b.toNat
theorem word_lt (x:UInt32):x.toNat<4294967296:=x.toNat_lt
theorem O9 (x y:UInt32):bits .xor .u32 (x.toNat:Int) (y.toNat:Int)=((ip x y).toNat:Int):=by
  rw[u32_xor_nat _ _ (word_lt x) (word_lt y)]; simp[ip]
theorem Pb (x y:UInt32):bits .and .u32 (x.toNat:Int) (y.toNat:Int)=((mc x y).toNat:Int):=by
  rw[u32_and_nat _ _ (word_lt x) (word_lt y)]; simp[mc]
theorem Qi (x y:UInt32):bits .or .u32 (x.toNat:Int) (y.toNat:Int)=((nh x y).toNat:Int):=by
  rw[u32_or_nat _ _ (word_lt x) (word_lt y)]; simp[nh]
theorem Pf (x y:UInt32):IntKind.u32.wrap ((x.toNat:Int)+(y.toNat:Int))=((cx x y).toNat:Int):=by
  rw[IntKind.wrap_u32]; simp[cx]
theorem Qj (x:UInt32) (n:Nat):(x.toNat:Int) / 2^n=((pc x n).toNat:Int):=by
  have h:x.toNat / 2^n<4294967296:=Nat.lt_of_le_of_lt (Nat.div_le_self _ _) (word_lt x);unfold pc;rw[UInt32.toNat_ofNat_of_lt' (by simpa [UInt32.size] using h)];simp
theorem Qk (x:UInt32) (n:Nat):(x.toNat:Int)*2^n%4294967296=((m5 x n).toNat:Int):=by
  unfold m5;simp
theorem Ql (x:UInt32):(4294967295:Int)-(x.toNat:Int)=((vB x).toNat:Int):=by
  have h:=word_lt x;unfold vB;rw[UInt32.toNat_ofNat_of_lt' (by simp[UInt32.size]; omega)];omega
theorem Pg (b:UInt8):(b.toNat:Int)=((mT b).toNat:Int):=by
  have h:=b.toNat_lt;unfold mT;rw[UInt32.toNat_ofNat_of_lt' (by simp[UInt32.size]; omega)]
theorem C1 (x y:UInt32):bM .xor (.w (.c (.d (wD x)))) (.w (.c (.d (wD y))))=some (wD (ip x y)):=by
  show bA .xor .u32 (x.toNat:Int) .u32 (y.toNat:Int)=_
  rw[sR,O9]; rfl
theorem C2 (x y:UInt32):bM .and (.w (.c (.d (wD x)))) (.w (.c (.d (wD y))))=some (wD (mc x y)):=by
  show bA .and .u32 (x.toNat:Int) .u32 (y.toNat:Int)=_
  rw[sQ,Pb]; rfl
theorem Fc (x y:UInt32):bM .or (.w (.c (.d (wD x)))) (.w (.c (.d (wD y))))=some (wD (nh x y)):=by
  show bA .or .u32 (x.toNat:Int) .u32 (y.toNat:Int)=_
  rw[tu,Qi]; rfl
theorem C3 (x y:UInt32):bM .add (.w (.c (.d (wD x)))) (.w (.c (.d (wD y))))=some (wD (cx x y)):=by
  show bA .add .u32 (x.toNat:Int) .u32 (y.toNat:Int)=_
  rw[sN,Pf]; rfl
theorem C4 (x:UInt32) (k:IntKind) (n:Int) (h:0≤n):bM .shl (.w (.c (.d (wD x)))) (.w (.c (.d (.int k n))))=some (wD (m5 x (min n.toNat 32))):=by
  show bA .shl .u32 (x.toNat:Int) k n=_
  rw[sS _ _ _ _ h,IntKind.wrap_u32]
  show some (D.int .u32 ((x.toNat:Int)*2^min n.toNat 32%4294967296))=_
  rw[Qk]; rfl
theorem C5 (x:UInt32) (k:IntKind) (n:Int) (h:0≤n):bM .shr (.w (.c (.d (wD x)))) (.w (.c (.d (.int k n))))=some (wD (pc x (min n.toNat 32))):=by
  show bA .shr .u32 (x.toNat:Int) k n=_
  rw[sT _ _ _ _ h]
  show some (D.int .u32 ((x.toNat:Int) / 2^min n.toNat 32))=_
  rw[Qj]; rfl
theorem Fe (x:UInt32):kC .xor (.w (.c (.d (wD x))))=some (wD (vB x)):=by
  have:bits .xor .u32 4294967295 (x.toNat:Int)=(4294967295:Int)-(x.toNat:Int):=by
    have h:=x.toNat_lt;have h2:4294967295 ^^^ x.toNat=4294967295-x.toNat:=by
      have e:=congrArg BitVec.toNat (BitVec.allOnes_xor (x:=BitVec.ofNat 32 x.toNat));rw[BitVec.toNat_xor,BitVec.toNat_not,BitVec.toNat_allOnes,BitVec.toNat_ofNat,Z5 (by omega)] at e;omega
    have h3:=u32_xor_nat 4294967295 x.toNat (by decide) h;rw[h2] at h3;have h4:((4294967295:Nat):Int)=4294967295:=rfl;rw[h4] at h3;omega
  show some (D.int .u32 (bits .xor .u32 4294967295 (x.toNat:Int)))=_
  rw[this,Ql]; rfl
theorem C6 (x y:UInt32):bM .eql (.w (.c (.d (wD x)))) (.w (.c (.d (wD y))))=some (.bool (x==y)):=by
  show bA .eql .u32 (x.toNat:Int) .u32 (y.toNat:Int)=_
  rw[sO];by_cases h:x=y
  ·subst h; simp
  ·have:¬ ((x.toNat:Int)=(y.toNat:Int)):=fun e=>h (UInt32.toNat_inj.1 (by omega))
   simp[this,h]
theorem C7 (x y:UInt32):bM .neq (.w (.c (.d (wD x)))) (.w (.c (.d (wD y))))=some (.bool (x != y)):=by
  show bA .neq .u32 (x.toNat:Int) .u32 (y.toNat:Int)=_
  rw[sP];by_cases h:x=y
  ·subst h; simp
  ·have:¬ ((x.toNat:Int)=(y.toNat:Int)):=fun e=>h (UInt32.toNat_inj.1 (by omega))
   simp[this,h]
theorem Ff (b:UInt8):D.int .u32 (IntKind.u32.wrap (b.toNat:Int))=wD (mT b):=by
  have h:=b.toNat_lt;rw[IntWalk.u32_in _ (by omega),Pg]; rfl
def am (x y:UInt8):UInt8:=x ^^^ y
def fK (x y:UInt8):UInt8:=x &&& y
def jh (x y:UInt8):UInt8:=x ||| y
def cH (x:UInt8) (n:Nat):UInt8:=UInt8.ofNat (x.toNat*2^n)
def ci (x:UInt8) (n:Nat):UInt8:=UInt8.ofNat (x.toNat / 2^n)
theorem fb (x:UInt8):x.toNat<256:=x.toNat_lt
theorem de (x y:UInt8):bM .xor (.w (.c (.d (bD x)))) (.w (.c (.d (bD y))))=some (bD (am x y)):=by
  show bA .xor .u8 (x.toNat:Int) .u8 (y.toNat:Int)=_
  rw[sR,u8_xor_nat _ _ (fb x) (fb y)]; simp[am,bD]
theorem wC (x y:UInt8):bM .and (.w (.c (.d (bD x)))) (.w (.c (.d (bD y))))=some (bD (fK x y)):=by
  show bA .and .u8 (x.toNat:Int) .u8 (y.toNat:Int)=_
  rw[sQ,u8_and_nat _ _ (fb x) (fb y)]; simp[fK,bD]
theorem pZ (x y:UInt8):bM .or (.w (.c (.d (bD x)))) (.w (.c (.d (bD y))))=some (bD (jh x y)):=by
  show bA .or .u8 (x.toNat:Int) .u8 (y.toNat:Int)=_
  rw[tu,u8_or_nat _ _ (fb x) (fb y)]; simp[jh,bD]
theorem Ph (x:UInt8) (k:IntKind) (n:Int) (h:0≤n):bM .shl (.w (.c (.d (bD x)))) (.w (.c (.d (.int k n))))=some (bD (cH x (min n.toNat 8))):=by
  show bA .shl .u8 (x.toNat:Int) k n=_
  rw[sS _ _ _ _ h,IntKind.wrap_u8]
  show some (D.int .u8 ((x.toNat:Int)*2^min n.toNat 8%256))=_
  have:(x.toNat:Int)*2^min n.toNat 8%256=((cH x (min n.toNat 8)).toNat:Int):=by unfold cH; simp
  rw[this]; rfl
theorem Pi (x:UInt8) (k:IntKind) (n:Int) (h:0≤n):bM .shr (.w (.c (.d (bD x)))) (.w (.c (.d (.int k n))))=some (bD (ci x (min n.toNat 8))):=by
  show bA .shr .u8 (x.toNat:Int) k n=_
  rw[sT _ _ _ _ h]
  show some (D.int .u8 ((x.toNat:Int) / 2^min n.toNat 8))=_
  have:(x.toNat:Int) / 2^min n.toNat 8=((ci x (min n.toNat 8)).toNat:Int):=by
    have h:x.toNat / 2^min n.toNat 8<256:=Nat.lt_of_le_of_lt (Nat.div_le_self _ _) (fb x);unfold ci;rw[UInt8.toNat_ofNat_of_lt' (by simpa [UInt8.size] using h)];simp
  rw[this]; rfl
theorem Pj (x y:UInt8):bM .eql (.w (.c (.d (bD x)))) (.w (.c (.d (bD y))))=some (.bool (x==y)):=by
  show bA .eql .u8 (x.toNat:Int) .u8 (y.toNat:Int)=_
  rw[sO];by_cases h:x=y
  ·subst h; simp
  ·have:¬ ((x.toNat:Int)=(y.toNat:Int)):=fun e=>h (UInt8.toNat_inj.1 (by omega))
   simp[this,h]
theorem Pk (x y:UInt8):bM .neq (.w (.c (.d (bD x)))) (.w (.c (.d (bD y))))=some (.bool (x != y)):=by
  show bA .neq .u8 (x.toNat:Int) .u8 (y.toNat:Int)=_
  rw[sP];by_cases h:x=y
  ·subst h; simp
  ·have:¬ ((x.toNat:Int)=(y.toNat:Int)):=fun e=>h (UInt8.toNat_inj.1 (by omega))
   simp[this,h]
theorem Na (G:ah) (f:Nat→V):ev G f .u=.undef:=rfl
def LX (P:Program) (G:ah) (d:Option Nat) (r:List aU) (K:St→Prop) (f:Nat→V) (h:aA) (u:Nat→Bool) (F:Nat) (ds:List D):Prop:=aM P G r K ⟨bi f d (.w (.c (.d (.fn F ds)))),h,u⟩
theorem Hp (P:Program) (G:ah) (d:Option Nat) (r:List aU) (K:St→Prop) (f:Nat→V) (h:aA) (u:Nat→Bool) (F:Nat) (xs:List SX):aM P G (⟨d,.clos F xs,none⟩::r) K ⟨f,h,u⟩=bc (eT (xs.map (ev G f))) (LX P G d r K f h u F):=by
  show (match (eT (xs.map (ev G f))).map fun ds=>((.w (.c (.d (.fn F ds))),h,u):R) with | some r=>_ | none=>False)=_
  cases eT (xs.map (ev G f)) <;> rfl
theorem Fg (P:Program) (G:ah) (d:Option Nat) (r:List aU) (K:St→Prop) (f:Nat→V) (h:aA) (u:Nat→Bool) (F:Nat) (ds:List D):LX P G d r K f h u F ds=aM P G r K ⟨bi f d (.w (.c (.d (.fn F ds)))),h,u⟩:=rfl
theorem C8:eT []=some []:=rfl
theorem Fh (cs:List D) (r:List V):eT (.w (.c (.rp cs))::r)=(eT r).map fun l=>.ref cs::l:=by
  simp only[eT,kv]; cases eT r <;> rfl
theorem C9 (k:IntKind) (n:Int) (r:List V):eT (.w (.c (.d (.int k n)))::r)=(eT r).map fun l=>.int k n::l:=by
  simp only[eT,kv]; cases eT r <;> rfl
theorem Fi (es:List D) (r:List V):eT (.w (.c (.d (.sl es)))::r)=(eT r).map fun l=>.sl es::l:=by
  simp only[eT,kv]; cases eT r <;> rfl
def AM (P:Program) (G:ah) (body:aN) (K:AX→St→Prop) (e:AX) (s:St):Prop:=match e with | .nrm=>bE P G body K s | _=>False
def AO (f0:Nat→V) (I:Nat→aA→(Nat→Bool)→Prop) (Q:AX→St→Prop) (k:Nat) (e:AX) (s:St):Prop:=match e with
  | .nrm=>∃ h' u',eM s ⟨f0,h',u'⟩∧I (k+1) h' u'
  | e=>∃ h' u',eM s ⟨f0,h',u'⟩∧Q e ⟨f0,h',u'⟩
theorem Fj (P:Program) (G:ah) (body:aN) (K:AX→St→Prop) (s:St):AM P G body K .nrm s=bE P G body K s:=rfl
def AP (st:Nat→aA×(Nat→Bool)) (k:Nat) (h:aA) (u:Nat→Bool):Prop:=(h,u)=st k
theorem Qm {P:Program} {G:ah} {Q:AX→St→Prop} {σ:St} {x:SX} {ps:List Nat} {asg body:aN} {g:Nat} {caps:List D} {xs:List (List D)} (f0:Nat→V) {f1:Nat→V} (hf:f0=f1) (st:Nat→aA×(Nat→Bool))
    (hev:ev G σ.f x=.w (.c (.d (.fn g caps)))) (hseq:AJ P G g caps xs) (hlen:∀ r∈xs,r.length=ps.length) (hent:eM σ ⟨f1,(st 0).1,(st 0).2⟩) (hun:∀ t∈ps++asg.writes++body.writes,f1 t=.undef)
    (round:∀ k r,xs[k]?=some r→bE P G asg (AM P G body (AO f0 (AP st) Q k)) ⟨ov f1 ps r,(st k).1,(st k).2⟩)
    (done:Q .nrm ⟨f1,(st xs.length).1,(st xs.length).2⟩):bE P G (.rangeF x ps asg body) Q σ:=by
  subst hf;refine⟨g,caps,xs,f0,(st 0).1,(st 0).2,fun k h u=>(h,u)=st k,hev,hseq,hlen,hent,hun,rfl,fun k r h u hr e=>?_,fun h u e=>?_⟩
  ·have:=round k r hr;rw[← e] at this
   have e1:(fun (e:AX) (s:St)=>match e with
       | .nrm=>bE P G body (fun e s'=>match e with
         | .nrm=>∃ h' u',eM s' ⟨f0,h',u'⟩∧(h',u')=st (k+1)
         | e=>∃ h' u',eM s' ⟨f0,h',u'⟩∧Q e ⟨f0,h',u'⟩) s
       | _=>False)=AM P G body (AO f0 (AP st) Q k):=by
     funext e s
     cases e with
     | nrm =>
       show bE P G body _ s=bE P G body _ s
       congr 1
     | _=>rfl
   rw[← e1] at this;exact this
  ·rw[← e] at done; exact done
theorem Qn {f0:Nat→V} {f1:Nat→V} (hf:f0=f1) {st:Nat→aA×(Nat→Bool)} {Q:AX→St→Prop} {k:Nat} {s:St} (h:eM s ⟨f1,(st (k+1)).1,(st (k+1)).2⟩):AO f0 (AP st) Q k .nrm s:=⟨_,_,hf ▸ h,rfl⟩
def bC (x:UInt8):C:=.d (bD x)
theorem i6 (l:List UInt8):(l.map bD).map C.d=l.map bC:=by rw[Z8]; rfl
theorem gV:∀ l:List UInt8,fu (l.map bC)=some (l.map bD)
  | []=>rfl
  | x::l=>by
    have h:=gV l
    show fu (C.d (bD x)::l.map bC)=_
    simp only[fu,h,Yp,ZF]
theorem Qo {α β:Type} (f:α→β) (l cs:List α) (off:Nat):cJ (l.map f) off (cs.map f)=(cJ l off cs).map f:=by
  unfold cJ; simp
theorem bT (l:List UInt8):(l.map bC).flatMap C.ids=[]:=by
  induction l with
  | nil=>rfl
  | cons x l ih=>rw[Yp,YG,ih]; rfl
theorem eR (g:Nat→Nat) (l:List UInt8):(l.map bC).map (C.ren g)=l.map bC:=by rw[Z8]; rfl
theorem ze (x c:UInt8) (n:Int) (h:n=(c.toNat:Int)):bM .eql (.w (.c (.d (bD x)))) (.w (.c (.d (.int .u8 n))))=some (.bool (x==c)):=by subst h; exact Pj x c
theorem zf (x c:UInt8) (n:Int) (h:n=(c.toNat:Int)):bM .neq (.w (.c (.d (bD x)))) (.w (.c (.d (.int .u8 n))))=some (.bool (x != c)):=by subst h; exact Pk x c
theorem tZ (x c:UInt8) (n:Int) (h:n=(c.toNat:Int)):bM .xor (.w (.c (.d (bD x)))) (.w (.c (.d (.int .u8 n))))=some (bD (am x c)):=by subst h; exact de x c
theorem od (x c:UInt8) (n:Int) (h:n=(c.toNat:Int)):bM .and (.w (.c (.d (bD x)))) (.w (.c (.d (.int .u8 n))))=some (bD (fK x c)):=by subst h; exact wC x c
theorem oe (x:UInt8) (k:IntKind) (j:Nat) (n:Int) (h:n=(j:Int)) (hj:j≤8):bM .shr (.w (.c (.d (bD x)))) (.w (.c (.d (.int k n))))=some (bD (ci x j)):=by
  subst h;rw[Pi _ _ _ (Int.natCast_nonneg j),Int.toNat_natCast,ZU hj]
theorem qA (x:UInt8) (k:IntKind) (j:Nat) (n:Int) (h:n=(j:Int)) (hj:j≤8):bM .shl (.w (.c (.d (bD x)))) (.w (.c (.d (.int k n))))=some (bD (cH x j)):=by
  subst h;rw[Ph _ _ _ (Int.natCast_nonneg j),Int.toNat_natCast,ZU hj]
def aL {α:Type} (n:Nat) (x:α):List α:=List.replicate n x
theorem aX {α:Type} (n:Nat) (x:α):(aL n x).length=n:=YK
theorem Qp {α:Type} {n i:Nat} (x:α) (h:i<n):(aL n x)[i]?=some x:=by unfold aL; rw[List.getElem?_replicate,if_pos h]
theorem R6 (n:Nat):aL n (D.int .u8 0)=(aL n (0:UInt8)).map bD:=by unfold aL; rw[Z0]; rfl
theorem qi (n:Nat):aL n (C.d (D.int .u8 0))=(aL n (0:UInt8)).map bC:=by unfold aL; rw[Z0]; rfl
set_option maxRecDepth 100000
theorem jW {a b : Prop} (l : a) (r : b) : a ∧ b := And.intro l r
theorem wx:j8 (jW @uC (jW @uD (jW @uE (jW @uF (jW @uG (jW @sx (jW @yZ (jW @ya (jW @I2 (jW @I3 (jW @I1 (jW @yY (jW @Gi (jW @Lz (jW @LC (jW @LD (jW @df.eq_1 (jW @df.eq_2 (jW @df.eq_3 (jW @df.eq_4 (jW @gW.eq_1 (jW @gW.eq_2 (jW @killAll.eq_1 (jW @killAll.eq_2 (jW @killAll.eq_3 (jW @Na (jW @Hp (jW @Fg (jW @C8 (jW @Fh (jW @C9 (jW @Fi (jW @Fj (jW @ef.eq_1 (jW @ef.eq_2 (jW @ef.eq_3 (jW @ef.eq_4 (jW @ef.eq_5 (jW @ef.eq_6 (jW @ef.eq_7 (jW @ef.eq_8 (jW @ef.eq_9 (jW @ef.eq_10 (jW @ef.eq_11 (jW @ef.eq_12 (jW @ef.eq_13 (jW @ef.eq_14 (jW @ef.eq_15 (jW @ef.eq_16 (jW @ef.eq_17 (jW @ef.eq_18 (jW @ef.eq_19 (jW @ef.eq_20 (jW @ef.eq_21 (jW @ef.eq_22 (jW @ef.eq_23 (jW @ef.eq_24 (jW @ef.eq_25 (jW @ef.eq_26 (jW @ef.eq_27 (jW @ef.eq_28 (jW @ef.eq_29 (jW @ef.eq_30 (jW @ef.eq_31 (jW @ef.eq_32 (jW @ef.eq_33 (jW @ef.eq_34 (jW @ef.eq_35 (jW @ef.eq_36 (jW @ef.eq_37 (jW @ef.eq_38 (jW @ef.eq_39 (jW @ef.eq_40 (jW @ef.eq_41 (jW @ef.eq_42 (jW @ef.eq_43 (jW @ef.eq_44 (jW @ef.eq_45 (jW @ef.eq_46 (jW @ef.eq_47 (jW @ef.eq_48 (jW @ef.eq_49 (jW @ef.eq_50 (jW @ef.eq_51 (jW @ef.eq_52 (jW @ef.eq_53 (jW @bound.eq_1 (jW @bound.eq_2 (jW @kD.eq_1 (jW @kD.eq_2 (jW @kD.eq_3 (jW @kD.eq_4 (jW @gM.eq_1 (jW @cE.eq_1 (jW @cE.eq_2 (jW @cE.eq_3 (jW @cE.eq_4 (jW @cE.eq_5 (jW @cE.eq_6 (jW @cE.eq_7 (jW @cE.eq_8 (jW @d7.eq_1 (jW @d7.eq_2 (jW @d7.eq_3 (jW @d7.eq_4 (jW @d7.eq_5 (jW @d7.eq_6 (jW @d7.eq_7 (jW @He (jW @ia.eq_1 (jW @ia.eq_2 (jW @parts.eq_1 (jW @parts.eq_2 (jW @elems.eq_1 (jW @elems.eq_2 (jW @fJ.eq_1 (jW @M8 (jW @M9 (jW @J1 (jW @Ho (jW @J2 (jW @LU (jW @J3 (jW @J4 (jW @J5 (jW @J6 (jW @LW (jW @J7 (jW @gm.eq_1 (jW @gm.eq_2 (jW @gm.eq_3 (jW @gm.eq_4 (jW @ou.eq_1 (jW @ou.eq_2 (jW @fu.eq_1 (jW @fu.eq_2 (jW @fu.eq_3 (jW @dF.eq_1 (jW @dF.eq_2 (jW @dF.eq_3 (jW @dF.eq_4 (jW @eL.eq_1 (jW @eL.eq_2 (jW @eL.eq_3 (jW @di.eq_1 (jW @di.eq_2 (jW @di.eq_3 (jW @di.eq_4 (jW @di.eq_5 (jW @di.eq_6 (jW @di.eq_7 (jW @di.eq_8 (jW @di.eq_9 (jW @di.eq_10 (jW @jG.eq_1 (jW @gn.eq_1 (jW @gn.eq_2 (jW @gn.eq_3 (jW @toW.eq_1 (jW @toW.eq_2 (jW @d6.eq_1 (jW @d6.eq_2 (jW @d6.eq_3 (jW @d6.eq_4 (jW @gH.eq_1 (jW @gH.eq_2 (jW @du.eq_1 (jW @du.eq_2 (jW @dQ.eq_1 (jW @dQ.eq_2 (jW @dQ.eq_3 (jW @ints.eq_1 (jW @ints.eq_2 (jW @ints.eq_3 (jW @dR.eq_1 (jW @dR.eq_2 (jW @dR.eq_3 (jW @kw.eq_1 (jW @kw.eq_2 (jW @kw.eq_3 (jW @W.ro.eq_1 (jW @W.ro.eq_2 (jW @C.ro.eq_1 (jW @C.ro.eq_2 (jW @V.ro.eq_1 (jW @V.ro.eq_2 (jW @V.ro.eq_3 (jW @l6.eq_1 (jW @l6.eq_2 (jW @l6.eq_3 (jW @Kd.size.eq_1 (jW @Kd.size.eq_2 (jW @CW (jW @Ce (jW @CX (jW @E1 (jW @CY (jW @cJ.eq_1 (jW @cv.eq_1 (jW @cv.eq_2 (jW @Nat.min_def (jW @ZF.{0,0} (jW @Option.map_none.{0,0} (jW @Bool.not_true (jW @Bool.not_false (jW @decide_true (jW @decide_false (jW @Bool.and_self (jW @Yp.{0,0} (jW @Yv.{0,0} (jW @List.any_cons.{0} (jW @List.any_nil.{0} (jW @ZN.{0} (jW @ZK.{0} (jW @Zl.{0} (jW @Zp.{0} (jW @Y2.{0} (jW @if_true.{1} (jW @if_false.{1} (jW @true_and (jW @and_true (jW @vd.eq_1 (jW @Int.natCast_nonneg (jW @ZP.{0} (jW @YR.{0} (jW @bo (jW @ek (jW @cq (jW @gD (jW @E6 (jW @E7 (jW @LP (jW @LQ (jW @Hk (jW @Hl (jW @LR (jW @C1 (jW @C2 (jW @Fc (jW @C3 (jW @C4 (jW @C5 (jW @C6 (jW @C7 (jW @de (jW @wC (jW @pZ (jW @ET (jW @EU (jW @EV (jW @EW (jW @EX (jW @EY (jW @EZ (jW @E0 (jW @Fa (jW @Fb (jW @Fe (jW @Ff (jW @E5 (jW @E2 (jW @E3 (jW @E4 (jW @List.set_cons_zero.{0} (jW @List.set_cons_succ.{0} (jW @Hm (jW @ij (jW @Kd.ag.injEq (jW @Yr.{0} (jW @YK.{0} (jW @sU (jW @Hf (jW @mE (jW @JU (jW @tw (jW @JV (jW @Hj (jW @ES (jW @Zu.{0} (jW @Zm.{0} (jW @List.take_succ_cons.{0} (jW @Zs.{0} (jW @List.drop_succ_cons.{0} (jW @List.take_nil.{0} (jW @List.drop_nil.{0} (jW @Yy.{0} (jW @YG.{0,0} (jW @List.flatMap_nil.{0,0} (jW @Option.bind_some.{0,0} (jW @ne_eq.{1} (jW @not_false_eq_true (@not_true_eq_false)))))))))))))))))))))))))))))))))))))))))))))))))))))))))))))))))))))))))))))))))))))))))))))))))))))))))))))))))))))))))))))))))))))))))))))))))))))))))))))))))))))))))))))))))))))))))))))))))))))))))))))))))))))))))))))))))))))))))))))))))))))))))))))))))))))))))))))))))))))))))))))))))))):=jW @uC (jW @uD (jW @uE (jW @uF (jW @uG (jW @sx (jW @yZ (jW @ya (jW @I2 (jW @I3 (jW @I1 (jW @yY (jW @Gi (jW @Lz (jW @LC (jW @LD (jW @df.eq_1 (jW @df.eq_2 (jW @df.eq_3 (jW @df.eq_4 (jW @gW.eq_1 (jW @gW.eq_2 (jW @killAll.eq_1 (jW @killAll.eq_2 (jW @killAll.eq_3 (jW @Na (jW @Hp (jW @Fg (jW @C8 (jW @Fh (jW @C9 (jW @Fi (jW @Fj (jW @ef.eq_1 (jW @ef.eq_2 (jW @ef.eq_3 (jW @ef.eq_4 (jW @ef.eq_5 (jW @ef.eq_6 (jW @ef.eq_7 (jW @ef.eq_8 (jW @ef.eq_9 (jW @ef.eq_10 (jW @ef.eq_11 (jW @ef.eq_12 (jW @ef.eq_13 (jW @ef.eq_14 (jW @ef.eq_15 (jW @ef.eq_16 (jW @ef.eq_17 (jW @ef.eq_18 (jW @ef.eq_19 (jW @ef.eq_20 (jW @ef.eq_21 (jW @ef.eq_22 (jW @ef.eq_23 (jW @ef.eq_24 (jW @ef.eq_25 (jW @ef.eq_26 (jW @ef.eq_27 (jW @ef.eq_28 (jW @ef.eq_29 (jW @ef.eq_30 (jW @ef.eq_31 (jW @ef.eq_32 (jW @ef.eq_33 (jW @ef.eq_34 (jW @ef.eq_35 (jW @ef.eq_36 (jW @ef.eq_37 (jW @ef.eq_38 (jW @ef.eq_39 (jW @ef.eq_40 (jW @ef.eq_41 (jW @ef.eq_42 (jW @ef.eq_43 (jW @ef.eq_44 (jW @ef.eq_45 (jW @ef.eq_46 (jW @ef.eq_47 (jW @ef.eq_48 (jW @ef.eq_49 (jW @ef.eq_50 (jW @ef.eq_51 (jW @ef.eq_52 (jW @ef.eq_53 (jW @bound.eq_1 (jW @bound.eq_2 (jW @kD.eq_1 (jW @kD.eq_2 (jW @kD.eq_3 (jW @kD.eq_4 (jW @gM.eq_1 (jW @cE.eq_1 (jW @cE.eq_2 (jW @cE.eq_3 (jW @cE.eq_4 (jW @cE.eq_5 (jW @cE.eq_6 (jW @cE.eq_7 (jW @cE.eq_8 (jW @d7.eq_1 (jW @d7.eq_2 (jW @d7.eq_3 (jW @d7.eq_4 (jW @d7.eq_5 (jW @d7.eq_6 (jW @d7.eq_7 (jW @He (jW @ia.eq_1 (jW @ia.eq_2 (jW @parts.eq_1 (jW @parts.eq_2 (jW @elems.eq_1 (jW @elems.eq_2 (jW @fJ.eq_1 (jW @M8 (jW @M9 (jW @J1 (jW @Ho (jW @J2 (jW @LU (jW @J3 (jW @J4 (jW @J5 (jW @J6 (jW @LW (jW @J7 (jW @gm.eq_1 (jW @gm.eq_2 (jW @gm.eq_3 (jW @gm.eq_4 (jW @ou.eq_1 (jW @ou.eq_2 (jW @fu.eq_1 (jW @fu.eq_2 (jW @fu.eq_3 (jW @dF.eq_1 (jW @dF.eq_2 (jW @dF.eq_3 (jW @dF.eq_4 (jW @eL.eq_1 (jW @eL.eq_2 (jW @eL.eq_3 (jW @di.eq_1 (jW @di.eq_2 (jW @di.eq_3 (jW @di.eq_4 (jW @di.eq_5 (jW @di.eq_6 (jW @di.eq_7 (jW @di.eq_8 (jW @di.eq_9 (jW @di.eq_10 (jW @jG.eq_1 (jW @gn.eq_1 (jW @gn.eq_2 (jW @gn.eq_3 (jW @toW.eq_1 (jW @toW.eq_2 (jW @d6.eq_1 (jW @d6.eq_2 (jW @d6.eq_3 (jW @d6.eq_4 (jW @gH.eq_1 (jW @gH.eq_2 (jW @du.eq_1 (jW @du.eq_2 (jW @dQ.eq_1 (jW @dQ.eq_2 (jW @dQ.eq_3 (jW @ints.eq_1 (jW @ints.eq_2 (jW @ints.eq_3 (jW @dR.eq_1 (jW @dR.eq_2 (jW @dR.eq_3 (jW @kw.eq_1 (jW @kw.eq_2 (jW @kw.eq_3 (jW @W.ro.eq_1 (jW @W.ro.eq_2 (jW @C.ro.eq_1 (jW @C.ro.eq_2 (jW @V.ro.eq_1 (jW @V.ro.eq_2 (jW @V.ro.eq_3 (jW @l6.eq_1 (jW @l6.eq_2 (jW @l6.eq_3 (jW @Kd.size.eq_1 (jW @Kd.size.eq_2 (jW @CW (jW @Ce (jW @CX (jW @E1 (jW @CY (jW @cJ.eq_1 (jW @cv.eq_1 (jW @cv.eq_2 (jW @Nat.min_def (jW @ZF.{0,0} (jW @Option.map_none.{0,0} (jW @Bool.not_true (jW @Bool.not_false (jW @decide_true (jW @decide_false (jW @Bool.and_self (jW @Yp.{0,0} (jW @Yv.{0,0} (jW @List.any_cons.{0} (jW @List.any_nil.{0} (jW @ZN.{0} (jW @ZK.{0} (jW @Zl.{0} (jW @Zp.{0} (jW @Y2.{0} (jW @if_true.{1} (jW @if_false.{1} (jW @true_and (jW @and_true (jW @vd.eq_1 (jW @Int.natCast_nonneg (jW @ZP.{0} (jW @YR.{0} (jW @bo (jW @ek (jW @cq (jW @gD (jW @E6 (jW @E7 (jW @LP (jW @LQ (jW @Hk (jW @Hl (jW @LR (jW @C1 (jW @C2 (jW @Fc (jW @C3 (jW @C4 (jW @C5 (jW @C6 (jW @C7 (jW @de (jW @wC (jW @pZ (jW @ET (jW @EU (jW @EV (jW @EW (jW @EX (jW @EY (jW @EZ (jW @E0 (jW @Fa (jW @Fb (jW @Fe (jW @Ff (jW @E5 (jW @E2 (jW @E3 (jW @E4 (jW @List.set_cons_zero.{0} (jW @List.set_cons_succ.{0} (jW @Hm (jW @ij (jW @Kd.ag.injEq (jW @Yr.{0} (jW @YK.{0} (jW @sU (jW @Hf (jW @mE (jW @JU (jW @tw (jW @JV (jW @Hj (jW @ES (jW @Zu.{0} (jW @Zm.{0} (jW @List.take_succ_cons.{0} (jW @Zs.{0} (jW @List.drop_succ_cons.{0} (jW @List.take_nil.{0} (jW @List.drop_nil.{0} (jW @Yy.{0} (jW @YG.{0,0} (jW @List.flatMap_nil.{0,0} (jW @Option.bind_some.{0,0} (jW @ne_eq.{1} (jW @not_false_eq_true (@not_true_eq_false)))))))))))))))))))))))))))))))))))))))))))))))))))))))))))))))))))))))))))))))))))))))))))))))))))))))))))))))))))))))))))))))))))))))))))))))))))))))))))))))))))))))))))))))))))))))))))))))))))))))))))))))))))))))))))))))))))))))))))))))))))))))))))))))))))))))))))))))))))))))))))))))))))
theorem wy:j8 (jW @LS (jW @BK (jW @yk (jW @E8 (jW @Hn (jW @J0 (jW @dP (jW @uJ (@cond_true.{1}))))))))):=jW @LS (jW @BK (jW @yk (jW @E8 (jW @Hn (jW @J0 (jW @dP (jW @uJ (@cond_true.{1}))))))))
theorem wz:j8 (jW @Bool.false_and (jW @Bool.and_false (jW @C0 (jW @Nat.sub_zero (jW @CZ (jW @Cf (jW @beq_self_eq_true.{0} (jW @Bool.and_true (jW @Bool.true_and (jW @M2 (jW @M3 (jW @M4 (jW @M5 (jW @M6 (jW @M7 (jW @ZD.{0} (jW @ZS (jW @Nat.one_mul (jW @Zf (jW @Zr (jW @JY (jW @zb (jW @JZ (jW @uI (jW @Int.natCast_add (jW @Int.natCast_mul (jW @Int.natCast_one (jW @ZO (@Z1))))))))))))))))))))))))))))):=jW @Bool.false_and (jW @Bool.and_false (jW @C0 (jW @Nat.sub_zero (jW @CZ (jW @Cf (jW @beq_self_eq_true.{0} (jW @Bool.and_true (jW @Bool.true_and (jW @M2 (jW @M3 (jW @M4 (jW @M5 (jW @M6 (jW @M7 (jW @ZD.{0} (jW @ZS (jW @Nat.one_mul (jW @Zf (jW @Zr (jW @JY (jW @zb (jW @JZ (jW @uI (jW @Int.natCast_add (jW @Int.natCast_mul (jW @Int.natCast_one (jW @ZO (@Z1))))))))))))))))))))))))))))
theorem aj:j8 (jW @V.ren.eq_1 (jW @V.ren.eq_2 (jW @V.ren.eq_3 (jW @W.ren.eq_1 (jW @W.ren.eq_2 (jW @C.ren.eq_1 (jW @C.ren.eq_2 (jW @C.ren.eq_3 (jW @C.ren.eq_4 (jW @C.ren.eq_5 (jW @C.ren.eq_6 (jW @V.ids.eq_1 (jW @V.ids.eq_2 (jW @V.ids.eq_3 (jW @W.ids.eq_1 (jW @W.ids.eq_2 (jW @C.ids.eq_1 (jW @C.ids.eq_2 (jW @C.ids.eq_3 (jW @C.ids.eq_4 (jW @C.ids.eq_5 (jW @C.ids.eq_6 (jW @Ob.ren.eq_1 (jW @Ob.ren.eq_2 (jW @Ob.ren.eq_3 (jW @Ob.ren.eq_4 (jW @Ob.ids.eq_1 (jW @Ob.ids.eq_2 (jW @Ob.ids.eq_3 (jW @Ob.ids.eq_4 (jW @Z1 (jW @ZD.{0} (jW @Hg (jW @EQ (jW @Hh (jW @ER (jW @id_eq.{1} (jW @ZS (jW @Z2 (jW @Nat.zero_mul (@YU.{0}))))))))))))))))))))))))))))))))))))))))):=jW @V.ren.eq_1 (jW @V.ren.eq_2 (jW @V.ren.eq_3 (jW @W.ren.eq_1 (jW @W.ren.eq_2 (jW @C.ren.eq_1 (jW @C.ren.eq_2 (jW @C.ren.eq_3 (jW @C.ren.eq_4 (jW @C.ren.eq_5 (jW @C.ren.eq_6 (jW @V.ids.eq_1 (jW @V.ids.eq_2 (jW @V.ids.eq_3 (jW @W.ids.eq_1 (jW @W.ids.eq_2 (jW @C.ids.eq_1 (jW @C.ids.eq_2 (jW @C.ids.eq_3 (jW @C.ids.eq_4 (jW @C.ids.eq_5 (jW @C.ids.eq_6 (jW @Ob.ren.eq_1 (jW @Ob.ren.eq_2 (jW @Ob.ren.eq_3 (jW @Ob.ren.eq_4 (jW @Ob.ids.eq_1 (jW @Ob.ids.eq_2 (jW @Ob.ids.eq_3 (jW @Ob.ids.eq_4 (jW @Z1 (jW @ZD.{0} (jW @Hg (jW @EQ (jW @Hh (jW @ER (jW @id_eq.{1} (jW @ZS (jW @Z2 (jW @Nat.zero_mul (@YU.{0}))))))))))))))))))))))))))))))))))))))))
theorem ar:j8 (jW @Int.natCast_add (jW @Int.natCast_mul (jW @Int.natCast_one (@ZO)))):=jW @Int.natCast_add (jW @Int.natCast_mul (jW @Int.natCast_one (@ZO)))
theorem ae:j8 (jW @wx (jW @wy @wz)):=jW @wx (jW @wy @wz)
theorem aG {σ:St} {p:Nat×Option Kd} {x:D} (h1:(cv σ p).bind (toW σ.h)=some x:=by simp only[ae,aa,seval,iteOmega,toNatUp]):dH σ [p] (.w (.c (.d x))):=oc h1
theorem cF {σ:St} {p q:Nat×Option Kd} {x y:D} (h1:(cv σ p).bind (toW σ.h)=some x:=by simp only[ae,aa,seval,iteOmega,toNatUp]) (h2:(cv σ q).bind (toW σ.h)=some y:=by simp only[ae,aa,seval,iteOmega,toNatUp]):dH σ [p,q] (.tup [.c (.d x),.c (.d y)]):=cM h1 h2
theorem bP {σ:St} {p q r:Nat×Option Kd} {x y z:D} (h1:(cv σ p).bind (toW σ.h)=some x:=by simp only[ae,aa,seval,iteOmega,toNatUp]) (h2:(cv σ q).bind (toW σ.h)=some y:=by simp only[ae,aa,seval,iteOmega,toNatUp]) (h3:(cv σ r).bind (toW σ.h)=some z:=by simp only[ae,aa,seval,iteOmega,toNatUp]):dH σ [p,q,r] (.tup [.c (.d x),.c (.d y),.c (.d z)]):=fq h1 h2 h3
theorem fm {σ:St} {p:Nat×Option Kd} {sz:Nat} {es:List D} (h1:(cv σ p).bind (jH σ.h sz)=some es:=by simp only[ae,aa,seval,iteOmega,toNatUp]):dH σ [p] (.w (.c (.fr sz es))):=tX h1
theorem bw {σ:St} {p q:Nat×Option Kd} {sz:Nat} {es:List D} {y:D} (h1:(cv σ p).bind (jH σ.h sz)=some es:=by simp only[ae,aa,seval,iteOmega,toNatUp]) (h2:cv σ q=some (.c (.d y)):=by simp only[ae,aa,seval,iteOmega,toNatUp]):dH σ [p,q] (.tup [.c (.fr sz es),.c (.d y)]):=tY h1 h2
theorem sD {P:Program} {G:ah} {K:St→Prop} {r:List aU} {f:Nat→V} {h:aA} {u:Nat→Bool} {d:Option Nat} {fn:FuncId} {xs:List SX} {own:Option (Nat×Nat)} {ds:List D} {res:V} {q:Prop} (h2:au P G fn ds res) (e:q)
    (hq:bc (dR h u (d.getD 0) own res) (cT P G d r K f)=q:=by simp only[ae,aa,seval,iteOmega,toNatUp]; rfl) (h1:du h (xs.map (ev G f))=some ds:=by exact rfl)
    (h3:((xs.map (ev G f)).any V.hasOwn=false∨res.flat=true):=by exact .inl rfl) (hne:fn≠gr:=by decide) (hp:iW own (xs.map (ev G f)):=by first | exact pU _ | exact qf _ _ _ | exact pV _ _ rfl):aM P G (⟨d,.call fn xs own,none⟩::r) K ⟨f,h,u⟩ :=
  sC h2 (hq ▸ e) h1 h3 hne hp
def fW (x:UInt8):UInt8:=am (cH x 1) (if x<128 then 0 else 27)
def iq (c:Bool) (v:UInt8):UInt8:=if c then v else 0
def fS (y:UInt8) (i:Nat):Bool:=y.toNat.testBit i
def gP (x:UInt8):Nat→UInt8
  | 0=>x
  | n+1=>fW (gP x n)
def gQ (x y:UInt8):Nat→UInt8
  | 0=>0
  | n+1=>am (gQ x y n) (iq (fS y n) (gP x n))
def eS (x y:UInt8):UInt8:=gQ x y 8
theorem Dh (x y:UInt8):am x y=am y x:=UInt8.xor_comm x y
theorem pH (x y z:UInt8):am (am x y) z=am x (am y z):=UInt8.xor_assoc x y z
theorem pL (x:UInt8):am x 0=x:=UInt8.xor_zero
theorem Pr (x:UInt8):am x x=0:=UInt8.xor_self
theorem Ps (a b c d:UInt8):am (am a b) (am c d)=am (am a c) (am b d):=by
  rw[pH,← pH b,Dh b c,pH c,← pH]
def AQ (f:UInt8→UInt8):Prop:=∀ a b,f (am a b)=am (f a) (f b)
theorem Qy (x y:UInt8) (i:Nat):fS (am x y) i=(fS x i ^^ fS y i):=by
  unfold fS am;rw[UInt8.toNat_xor,Nat.testBit_xor]
theorem Qz (c d:Bool) (v:UInt8):iq (c ^^ d) v=am (iq c v) (iq d v):=by
  cases c <;> cases d <;> simp[iq,am]
def mf (f:UInt8→UInt8) (x:UInt8):Nat→UInt8
  | 0=>0
  | n+1=>am (mf f x n) (iq (fS x n) (f (UInt8.ofNat (2^n))))
theorem Fq (f:UInt8→UInt8):∀ n,AQ fun x=>mf f x n
  | 0=>fun a b=>(Pr 0).symm
  | n+1=>fun a b=>by
    show am (mf f (am a b) n) (iq (fS (am a b) n) _)=_
    rw[show mf f (am a b) n=am (mf f a n) (mf f b n) from Fq f n a b,Qy,Qz,Ps];rfl
theorem UN {f:UInt8→UInt8} (h:∀ x,f x=mf f x 8):AQ f:=by
  intro a b;rw[h,h a,h b];exact Fq f 8 a b
theorem jD {p:UInt8→Bool} (h:((List.range 256).all fun i=>p (UInt8.ofNat i))=true) (x:UInt8):p x=true:=by
  have:=YB.1 h x.toNat (List.mem_range.2 x.toNat_lt)
  simpa using this
theorem Si:AQ fW:=UN fun x=>by
  have:=jD (p:=fun x=>fW x==mf fW x 8) (by decide +kernel) x
  simpa using this
def fT (x:UInt8):Nat→UInt8
  | 0=>1
  | n+1=>eS (fT x n) x
def ew (x:UInt8) (n:Nat):UInt8:=jh (cH x n) (ci x (8-n))
def pd (y:UInt8):UInt8:=am (am (am (am (am y (ew y 1)) (ew y 2)) (ew y 3)) (ew y 4)) 99
def Nb (x:UInt8):UInt8 :=
  let x2:=eS x x
  let x3:=eS x2 x
  let x6:=eS x3 x3
  let x12:=eS x6 x6
  let x15:=eS x12 x3
  let x30:=eS x15 x15
  let x60:=eS x30 x30
  let x120:=eS x60 x60
  let x240:=eS x120 x120
  eS (eS x240 x12) x2
def jK:List UInt8:=(List.range 256).map fun i=>pd (Nb (UInt8.ofNat i))
def dc (x:UInt8):UInt8:=pd (Nb x)
theorem ig:jK.length=256:=by simp[jK]
theorem xC (x:UInt8):jK[x.toNat]?=some (dc x):=by
  unfold jK dc;rw[Zn,List.getElem?_range x.toNat_lt];simp
instance:Std.Associative am:=⟨pH⟩
instance:Std.Commutative am:=⟨Dh⟩
def gy (x:UInt8):UInt8:=eS x 2
def pf (a b c d:UInt8):UInt8:=am (am (am (am (gy a) (gy b)) b) c) d
abbrev dq:=Nat→UInt8
def dS (s k:dq):dq:=fun j=>am (s j) (k j)
def bU (s:dq):dq:=fun j=>dc (s (j%4+4*((j / 4+j%4)%4)))
def gI (t:dq):dq:=fun j=>pf (t (4*(j / 4)+j%4)) (t (4*(j / 4)+(j%4+1)%4)) (t (4*(j / 4)+(j%4+2)%4)) (t (4*(j / 4)+(j%4+3)%4))
def Mc (s t:dq):Prop:=∀ j,j<16→s j=t j
def kU (k:Nat→dq) (s:dq) (n:Nat):dq:=if n<10 then dS (gI (bU s)) (k n) else dS (bU s) (k n)
def fL (k:Nat→dq) (s:dq):Nat→dq
  | 0=>dS s (k 0)
  | n+1=>kU k (fL k s n) (n+1)
def fi (n:Nat):UInt8:=gP 1 n
theorem Pt (n:Nat):eS (fi n) 2=fi (n+1):=by
  have:=jD (p:=fun c=>eS c 2==fW c) (by decide +kernel) (fi n);rw[beq_iff_eq] at this;exact this
def i7 (t:List UInt8) (n:Nat):List UInt8 :=
  if n%4=0 then [am (dc (t.getD 1 0)) (fi (n / 4)),dc (t.getD 2 0),dc (t.getD 3 0),dc (t.getD 0 0)]
  else [t.getD 0 0,t.getD 1 0,t.getD 2 0,t.getD 3 0]
def iE (l:List UInt8) (n:Nat):List UInt8 :=
  (List.range 4).map fun k=>am (l.getD (4*n+k) 0) ((i7 (l.drop (12+4*n)) n).getD k 0)
def bn (key:List UInt8):Nat→List UInt8
  | 0=>key
  | n+1=>bn key n++iE (bn key n) n
def ak (key:List UInt8):List UInt8:=bn key 40
theorem sg (l:List UInt8) (n:Nat):(iE l n).length=4:=by simp[iE]
theorem jr {key:List UInt8} (h:key.length=16):∀ n,(bn key n).length=16+4*n
  | 0=>h
  | n+1=>by rw[bn,Yr,jr h n,sg]; omega
theorem qk {key:List UInt8} (h:key.length=16):(ak key).length=176:=jr h 40
def bF (f:dq):List UInt8:=(List.range 16).map f
theorem fY (f:dq):(bF f).length=16:=by simp[bF]
theorem qm (f:dq) {j:Nat} (h:j<16):(bF f)[j]?=some (f j):=by simp[bF,h]
def aK (l:List UInt8):dq:=fun j=>l.getD j 0
theorem UO {l:List UInt8} (h:l.length=16):bF (aK l)=l:=by
  apply Zz;intro i;by_cases hi:i<16
  ·rw[qm _ hi,aK,Ys,Yn (by omega)]; rfl
  ·rw[Y3 (by rw[fY]; omega),Y3 (by omega)]
theorem si {f g:dq} (h:Mc f g):bF f=bF g:=Zb fun j hj=>h j (List.mem_range.1 hj)
def cr (rk:List UInt8) (n:Nat):dq:=fun j=>rk.getD (16*n+j) 0
def cW (rk b:List UInt8):List UInt8:=bF (fL (cr rk) (aK b) 10)
theorem ii (rk b:List UInt8):(cW rk b).length=16:=fY _
def jz (key b:List UInt8):List UInt8:=cW (ak key) b
def dw:List UInt8→List UInt8×Bool
  | []=>([],true)
  | x::r=>let (s,c):=dw r; if c then ((x+1)::s,x+1==0) else (x::s,false)
def jE (c:List UInt8):List UInt8:=(dw c).1
theorem xD:∀ c,(dw c).1.length=c.length
  | []=>rfl
  | x::r=>by
    have:=xD r;simp only[dw];split <;> simp[this]
theorem wK (c:List UInt8):(jE c).length=c.length:=xD c
def dh (c:List UInt8):Nat→List UInt8
  | 0=>c
  | n+1=>jE (dh c n)
theorem Fs (c:List UInt8):∀ n,(dh c n).length=c.length
  | 0=>rfl
  | n+1=>by rw[dh,wK,Fs c n]
def pg (rk c:List UInt8):Nat→List UInt8
  | 0=>[]
  | n+1=>pg rk c n++cW rk (dh c n)
theorem qa (rk c:List UInt8):∀ n,(pg rk c n).length=16*n
  | 0=>rfl
  | n+1=>by rw[pg,Yr,qa rk c n,ii]; omega
def vC (a b:List UInt8):List UInt8:=List.zipWith am a b
def fR (rk c b:List UInt8):List UInt8:=vC b (pg rk c ((b.length+15) / 16))
theorem QA {a b:List UInt8} (h:a.length≤b.length):(vC a b).length=a.length:=by
  simp[vC]; omega
theorem pM (rk c b:List UInt8):(fR rk c b).length=b.length:=QA (by rw[qa]; omega)
def AS (b:dq):dq:=fun j=>am (am (cH (b j) 1) (if j<15 then ci (b (j+1)) 7 else 0)) (if j=15 then iq (fS (b 0) 7) 135 else 0)
theorem U2 (x y:UInt8):jh (cH x 1) (ci y 7)=am (cH x 1) (ci y 7):=by
  have h:ci y 7=0∨ci y 7=1:=by
    have:=jD (p:=fun y=>ci y 7==0 || ci y 7==1) (by decide +kernel) y
    simpa using this
  rcases h with h | h <;> rw[h]
  ·have:=jD (p:=fun x=>jh (cH x 1) 0==am (cH x 1) 0) (by decide +kernel) x;rw[beq_iff_eq] at this; exact this
  ·have:=jD (p:=fun x=>jh (cH x 1) 1==am (cH x 1) 1) (by decide +kernel) x;rw[beq_iff_eq] at this; exact this
def dl (b:List UInt8):List UInt8:=if b.length=16 then bF (AS (aK b)) else []
theorem jo {b:List UInt8} (h:b.length=16):(dl b).length=16:=by rw[dl,if_pos h,fY]
def bB:List UInt8→List UInt8→List UInt8
  | x::a,y::b=>am x y::bB a b
  | a,_=>a
theorem xJ (a:List UInt8):bB a []=a:=by cases a <;> rfl
theorem fH:∀ a b:List UInt8,(bB a b).length=a.length
  | [],_=>by simp[bB]
  | x::a,[]=>rfl
  | x::a,y::b=>by simp[bB,fH a b]
theorem FA:∀ (a b:List UInt8) (i:Nat),i<a.length→i<b.length→(bB a b).getD i 0=am (a.getD i 0) (b.getD i 0)
  | [],_,_,h,_=>by simp at h
  | x::a,[],_,_,h=>by simp at h
  | x::a,y::b,0,_,_=>rfl
  | x::a,y::b,i+1,h,g=>by
    show (bB a b).getD i 0=_
    rw[FA a b i (by simpa using h) (by simpa using g)]; rfl
def dE:List UInt8:=List.replicate 16 0
def gv (b:List UInt8):List UInt8:=b++List.replicate ((16-b.length%16)%16) 0
def fA (rk:List UInt8):List UInt8:=dl (cW rk dE)
def iK (rk:List UInt8):List UInt8:=dl (fA rk)
def dm (rk b:List UInt8):Nat→List UInt8
  | 0=>dE
  | n+1=>cW rk (bB (dm rk b n) ((b.drop (16*n)).take 16))
def fI (b:List UInt8):Nat:=(b.length+15) / 16-1
def ir (rk e:List UInt8):List UInt8:=if e.length=16 then bB e (fA rk) else bB (gv (e++[128])) (iK rk)
def fB (rk b:List UInt8):List UInt8:=cW rk (bB (dm rk b (fI b)) (ir rk (b.drop (16*fI b))))
theorem j6 (rk b:List UInt8):∀ n,(dm rk b n).length=16
  | 0=>by simp[dm,dE]
  | n+1=>ii _ _
theorem qb (rk b:List UInt8):(fB rk b).length=16:=ii _ _
theorem my (rk:List UInt8):(fA rk).length=16:=jo (ii _ _)
theorem xK (rk:List UInt8):(iK rk).length=16:=jo (my _)
theorem nv {b:List UInt8} (h:b.length<16):(gv (b++[128])).length=16:=by
  simp[gv]; omega
theorem xL {rk e:List UInt8} (h:e.length≤16):(ir rk e).length=16:=by
  unfold ir;split
  ·rw[fH]; assumption
  ·rw[fH,nv (by omega)]
def eV (rk:List UInt8) (l:List (List UInt8)):Nat→List UInt8
  | 0=>fB rk dE
  | n+1=>bB (dl (eV rk l n)) (fB rk (l.getD n []))
def iu (rk:List UInt8) (l:List (List UInt8)):List UInt8 :=
  if l.length=0 then fB rk (List.replicate 15 0++[1])
  else
    let d:=eV rk l (l.length-1)
    let s:=l.getD (l.length-1) []
    if 16≤s.length then fB rk (s.take (s.length-16)++bB (s.drop (s.length-16)) d)
    else fB rk (bB (dl d) (gv (s++[128])))
theorem xM (rk:List UInt8) (l:List (List UInt8)):∀ n,(eV rk l n).length=16
  | 0=>qb _ _
  | n+1=>by rw[eV,fH,jo (xM rk l n)]
theorem QS (rk:List UInt8) (l:List (List UInt8)):(iu rk l).length=16:=by
  unfold iu;split
  ·exact qb _ _
  ·dsimp only;split <;> exact qb _ _
end Go.Proofs.YtofonnokanoflaaGreat
