/- Texts of one's own, merged: from: The plain logic (20): words of 32 bits. Own work. -/
import Derived.Laws.BitsLemmas
import Derived.Laws.Bits64
import Derived.Laws.BitsAllLaws
import Derived.Test.YtlghfnidknfakaaGreatDoorMg56
set_option linter.unusedVariables false
set_option linter.unusedSimpArgs false
namespace Go.Proofs.YtlghfnidknfakaaGreatDoor
open Go.RowKit IntWalk
def gR (x y:UInt32):UInt32:=x ^^^ y
def lL (x y:UInt32):UInt32:=x &&& y
def jL (x y:UInt32):UInt32:=x ||| y
def bH (x y:UInt32):UInt32:=x+y
def uJ (x:UInt32):UInt32:=UInt32.ofNat (4294967295-x.toNat)
def oU (x:UInt32) (n:Nat):UInt32:=UInt32.ofNat (x.toNat / 2^n)
def kD (x:UInt32) (n:Nat):UInt32:=UInt32.ofNat (x.toNat*2^n)
def ib (x:UInt32) (n:Nat):UInt32:=jL (oU x n) (kD x (32-n))
def kn (b:UInt8):UInt32:=UInt32.ofNat b.toNat
theorem word_lt (x:UInt32):x.toNat<4294967296:=x.toNat_lt
theorem Om (x y:UInt32):bits .xor .u32 (x.toNat:Int) (y.toNat:Int)=((gR x y).toNat:Int):=by
  rw[u32_xor_nat _ _ (word_lt x) (word_lt y)]; simp[gR]
theorem On (x y:UInt32):bits .and .u32 (x.toNat:Int) (y.toNat:Int)=((lL x y).toNat:Int):=by
  rw[u32_and_nat _ _ (word_lt x) (word_lt y)]; simp[lL]
theorem PO (x y:UInt32):bits .or .u32 (x.toNat:Int) (y.toNat:Int)=((jL x y).toNat:Int):=by
  rw[u32_or_nat _ _ (word_lt x) (word_lt y)]; simp[jL]
theorem Oo (x y:UInt32):IntKind.u32.wrap ((x.toNat:Int)+(y.toNat:Int))=((bH x y).toNat:Int):=by
  rw[IntKind.wrap_u32]; simp[bH]
theorem PP (x:UInt32) (n:Nat):(x.toNat:Int) / 2^n=((oU x n).toNat:Int):=by
  have h:x.toNat / 2^n<4294967296:=Nat.lt_of_le_of_lt (Nat.div_le_self _ _) (word_lt x);unfold oU;rw[UInt32.toNat_ofNat_of_lt' (by simpa [UInt32.size] using h)];simp
theorem PQ (x:UInt32) (n:Nat):(x.toNat:Int)*2^n%4294967296=((kD x n).toNat:Int):=by
  unfold kD;simp
theorem PR (x:UInt32):(4294967295:Int)-(x.toNat:Int)=((uJ x).toNat:Int):=by
  have h:=word_lt x;unfold uJ;rw[UInt32.toNat_ofNat_of_lt' (by simp[UInt32.size]; omega)];omega
theorem Cn (b:UInt8):(b.toNat:Int)=((kn b).toNat:Int):=by
  have h:=b.toNat_lt;unfold kn;rw[UInt32.toNat_ofNat_of_lt' (by simp[UInt32.size]; omega)]
theorem Co (x y:UInt32):bF .xor (.w (.c (.d (wD x)))) (.w (.c (.d (wD y))))=some (wD (gR x y)):=by
  show br .xor .u32 (x.toNat:Int) .u32 (y.toNat:Int)=_
  rw[rV,Om]; rfl
theorem Cq (x y:UInt32):bF .and (.w (.c (.d (wD x)))) (.w (.c (.d (wD y))))=some (wD (lL x y)):=by
  show br .and .u32 (x.toNat:Int) .u32 (y.toNat:Int)=_
  rw[rU,On]; rfl
theorem EJ (x y:UInt32):bF .or (.w (.c (.d (wD x)))) (.w (.c (.d (wD y))))=some (wD (jL x y)):=by
  show br .or .u32 (x.toNat:Int) .u32 (y.toNat:Int)=_
  rw[sN,PO]; rfl
theorem Cr (x y:UInt32):bF .add (.w (.c (.d (wD x)))) (.w (.c (.d (wD y))))=some (wD (bH x y)):=by
  show br .add .u32 (x.toNat:Int) .u32 (y.toNat:Int)=_
  rw[rR,Oo]; rfl
theorem Cs (x:UInt32) (k:IntKind) (n:Int) (h:0≤n):bF .shl (.w (.c (.d (wD x)))) (.w (.c (.d (.int k n))))=some (wD (kD x (min n.toNat 32))):=by
  show br .shl .u32 (x.toNat:Int) k n=_
  rw[rW _ _ _ _ h,IntKind.wrap_u32]
  show some (D.int .u32 ((x.toNat:Int)*2^min n.toNat 32%4294967296))=_
  rw[PQ]; rfl
theorem Ct (x:UInt32) (k:IntKind) (n:Int) (h:0≤n):bF .shr (.w (.c (.d (wD x)))) (.w (.c (.d (.int k n))))=some (wD (oU x (min n.toNat 32))):=by
  show br .shr .u32 (x.toNat:Int) k n=_
  rw[rX _ _ _ _ h]
  show some (D.int .u32 ((x.toNat:Int) / 2^min n.toNat 32))=_
  rw[PP]; rfl
theorem EK (x:UInt32):jJ .xor (.w (.c (.d (wD x))))=some (wD (uJ x)):=by
  have:bits .xor .u32 4294967295 (x.toNat:Int)=(4294967295:Int)-(x.toNat:Int):=by
    have h:=x.toNat_lt;have h2:4294967295 ^^^ x.toNat=4294967295-x.toNat:=by
      have e:=congrArg BitVec.toNat (BitVec.allOnes_xor (x:=BitVec.ofNat 32 x.toNat));rw[BitVec.toNat_xor,BitVec.toNat_not,BitVec.toNat_allOnes,BitVec.toNat_ofNat,Nat.mod_eq_of_lt (by omega)] at e;omega
    have h3:=u32_xor_nat 4294967295 x.toNat (by decide) h;rw[h2] at h3;have h4:((4294967295:Nat):Int)=4294967295:=rfl;rw[h4] at h3;omega
  show some (D.int .u32 (bits .xor .u32 4294967295 (x.toNat:Int)))=_
  rw[this,PR]; rfl
theorem Cu (x y:UInt32):bF .eql (.w (.c (.d (wD x)))) (.w (.c (.d (wD y))))=some (.bool (x==y)):=by
  show br .eql .u32 (x.toNat:Int) .u32 (y.toNat:Int)=_
  rw[rS];by_cases h:x=y
  ·subst h; simp
  ·have:¬ ((x.toNat:Int)=(y.toNat:Int)):=fun e=>h (UInt32.toNat_inj.1 (by omega))
   simp[this,h]
theorem Cv (x y:UInt32):bF .neq (.w (.c (.d (wD x)))) (.w (.c (.d (wD y))))=some (.bool (x != y)):=by
  show br .neq .u32 (x.toNat:Int) .u32 (y.toNat:Int)=_
  rw[rT];by_cases h:x=y
  ·subst h; simp
  ·have:¬ ((x.toNat:Int)=(y.toNat:Int)):=fun e=>h (UInt32.toNat_inj.1 (by omega))
   simp[this,h]
theorem EL (b:UInt8):D.int .u32 (IntKind.u32.wrap (b.toNat:Int))=wD (kn b):=by
  have h:=b.toNat_lt;rw[IntWalk.u32_in _ (by omega),Cn]; rfl
def am (x y:UInt8):UInt8:=x ^^^ y
def lM (x y:UInt8):UInt8:=x &&& y
def jN (x y:UInt8):UInt8:=x ||| y
def ek (x:UInt8) (n:Nat):UInt8:=UInt8.ofNat (x.toNat*2^n)
def eu (x:UInt8) (n:Nat):UInt8:=UInt8.ofNat (x.toNat / 2^n)
theorem lg (x:UInt8):x.toNat<256:=x.toNat_lt
theorem gK (x y:UInt8):bF .xor (.w (.c (.d (bD x)))) (.w (.c (.d (bD y))))=some (bD (am x y)):=by
  show br .xor .u8 (x.toNat:Int) .u8 (y.toNat:Int)=_
  rw[rV,u8_xor_nat _ _ (lg x) (lg y)]; simp[am,bD]
theorem vW (x y:UInt8):bF .and (.w (.c (.d (bD x)))) (.w (.c (.d (bD y))))=some (bD (lM x y)):=by
  show br .and .u8 (x.toNat:Int) .u8 (y.toNat:Int)=_
  rw[rU,u8_and_nat _ _ (lg x) (lg y)]; simp[lM,bD]
theorem wM (x y:UInt8):bF .or (.w (.c (.d (bD x)))) (.w (.c (.d (bD y))))=some (bD (jN x y)):=by
  show br .or .u8 (x.toNat:Int) .u8 (y.toNat:Int)=_
  rw[sN,u8_or_nat _ _ (lg x) (lg y)]; simp[jN,bD]
theorem Oq (x:UInt8) (k:IntKind) (n:Int) (h:0≤n):bF .shl (.w (.c (.d (bD x)))) (.w (.c (.d (.int k n))))=some (bD (ek x (min n.toNat 8))):=by
  show br .shl .u8 (x.toNat:Int) k n=_
  rw[rW _ _ _ _ h,IntKind.wrap_u8]
  show some (D.int .u8 ((x.toNat:Int)*2^min n.toNat 8%256))=_
  have:(x.toNat:Int)*2^min n.toNat 8%256=((ek x (min n.toNat 8)).toNat:Int):=by unfold ek; simp
  rw[this]; rfl
theorem Or (x:UInt8) (k:IntKind) (n:Int) (h:0≤n):bF .shr (.w (.c (.d (bD x)))) (.w (.c (.d (.int k n))))=some (bD (eu x (min n.toNat 8))):=by
  show br .shr .u8 (x.toNat:Int) k n=_
  rw[rX _ _ _ _ h]
  show some (D.int .u8 ((x.toNat:Int) / 2^min n.toNat 8))=_
  have:(x.toNat:Int) / 2^min n.toNat 8=((eu x (min n.toNat 8)).toNat:Int):=by
    have h:x.toNat / 2^min n.toNat 8<256:=Nat.lt_of_le_of_lt (Nat.div_le_self _ _) (lg x);unfold eu;rw[UInt8.toNat_ofNat_of_lt' (by simpa [UInt8.size] using h)];simp
  rw[this]; rfl
theorem Ot (x y:UInt8):bF .eql (.w (.c (.d (bD x)))) (.w (.c (.d (bD y))))=some (.bool (x==y)):=by
  show br .eql .u8 (x.toNat:Int) .u8 (y.toNat:Int)=_
  rw[rS];by_cases h:x=y
  ·subst h; simp
  ·have:¬ ((x.toNat:Int)=(y.toNat:Int)):=fun e=>h (UInt8.toNat_inj.1 (by omega))
   simp[this,h]
theorem Ou (x y:UInt8):bF .neq (.w (.c (.d (bD x)))) (.w (.c (.d (bD y))))=some (.bool (x != y)):=by
  show br .neq .u8 (x.toNat:Int) .u8 (y.toNat:Int)=_
  rw[rT];by_cases h:x=y
  ·subst h; simp
  ·have:¬ ((x.toNat:Int)=(y.toNat:Int)):=fun e=>h (UInt8.toNat_inj.1 (by omega))
   simp[this,h]
theorem Mg (G:ah) (f:Nat→V):ev G f .u=.undef:=rfl
def Lm (P:Program) (G:ah) (d:Option Nat) (r:List aZ) (K:St→Prop) (f:Nat→V) (h:au) (u:Nat→Bool) (F:Nat) (ds:List D):Prop:=aH P G r K ⟨bg f d (.w (.c (.d (.fn F ds)))),h,u⟩
theorem G5 (P:Program) (G:ah) (d:Option Nat) (r:List aZ) (K:St→Prop) (f:Nat→V) (h:au) (u:Nat→Bool) (F:Nat) (xs:List SX):aH P G (⟨d,.clos F xs,none⟩::r) K ⟨f,h,u⟩=aV (ej (xs.map (ev G f))) (Lm P G d r K f h u F):=by
  show (match (ej (xs.map (ev G f))).map fun ds=>((.w (.c (.d (.fn F ds))),h,u):R) with | some r=>_ | none=>False)=_
  cases ej (xs.map (ev G f)) <;> rfl
theorem EM (P:Program) (G:ah) (d:Option Nat) (r:List aZ) (K:St→Prop) (f:Nat→V) (h:au) (u:Nat→Bool) (F:Nat) (ds:List D):Lm P G d r K f h u F ds=aH P G r K ⟨bg f d (.w (.c (.d (.fn F ds)))),h,u⟩:=rfl
theorem Cw:ej []=some []:=rfl
theorem EN (cs:List D) (r:List V):ej (.w (.c (.rp cs))::r)=(ej r).map fun l=>.ref cs::l:=by
  simp only[ej,jB]; cases ej r <;> rfl
theorem Cx (k:IntKind) (n:Int) (r:List V):ej (.w (.c (.d (.int k n)))::r)=(ej r).map fun l=>.int k n::l:=by
  simp only[ej,jB]; cases ej r <;> rfl
theorem EO (es:List D) (r:List V):ej (.w (.c (.d (.sl es)))::r)=(ej r).map fun l=>.sl es::l:=by
  simp only[ej,jB]; cases ej r <;> rfl
def Ac (P:Program) (G:ah) (body:aO) (K:AX→St→Prop) (e:AX) (s:St):Prop:=match e with | .nrm=>bu P G body K s | _=>False
def Ad (f0:Nat→V) (I:Nat→au→(Nat→Bool)→Prop) (Q:AX→St→Prop) (k:Nat) (e:AX) (s:St):Prop:=match e with
  | .nrm=>∃ h' u',dN s ⟨f0,h',u'⟩∧I (k+1) h' u'
  | e=>∃ h' u',dN s ⟨f0,h',u'⟩∧Q e ⟨f0,h',u'⟩
theorem EP (P:Program) (G:ah) (body:aO) (K:AX→St→Prop) (s:St):Ac P G body K .nrm s=bu P G body K s:=rfl
def Ae (st:Nat→au×(Nat→Bool)) (k:Nat) (h:au) (u:Nat→Bool):Prop:=(h,u)=st k
theorem PS {P:Program} {G:ah} {Q:AX→St→Prop} {σ:St} {x:SX} {ps:List Nat} {asg body:aO} {g:Nat} {caps:List D} {xs:List (List D)} (f0:Nat→V) {f1:Nat→V} (hf:f0=f1) (st:Nat→au×(Nat→Bool))
    (hev:ev G σ.f x=.w (.c (.d (.fn g caps)))) (hseq:z9 P G g caps xs) (hlen:∀ r∈xs,r.length=ps.length) (hent:dN σ ⟨f1,(st 0).1,(st 0).2⟩) (hun:∀ t∈ps++asg.writes++body.writes,f1 t=.undef)
    (round:∀ k r,xs[k]?=some r→bu P G asg (Ac P G body (Ad f0 (Ae st) Q k)) ⟨ot f1 ps r,(st k).1,(st k).2⟩)
    (done:Q .nrm ⟨f1,(st xs.length).1,(st xs.length).2⟩):bu P G (.rangeF x ps asg body) Q σ:=by
  subst hf;refine⟨g,caps,xs,f0,(st 0).1,(st 0).2,fun k h u=>(h,u)=st k,hev,hseq,hlen,hent,hun,rfl,fun k r h u hr e=>?_,fun h u e=>?_⟩
  ·have:=round k r hr;rw[← e] at this
   have e1:(fun (e:AX) (s:St)=>match e with
       | .nrm=>bu P G body (fun e s'=>match e with
         | .nrm=>∃ h' u',dN s' ⟨f0,h',u'⟩∧(h',u')=st (k+1)
         | e=>∃ h' u',dN s' ⟨f0,h',u'⟩∧Q e ⟨f0,h',u'⟩) s
       | _=>False)=Ac P G body (Ad f0 (Ae st) Q k):=by
     funext e s
     cases e with
     | nrm =>
       show bu P G body _ s=bu P G body _ s
       congr 1
     | _=>rfl
   rw[← e1] at this;exact this
  ·rw[← e] at done; exact done
theorem PT {f0:Nat→V} {f1:Nat→V} (hf:f0=f1) {st:Nat→au×(Nat→Bool)} {Q:AX→St→Prop} {k:Nat} {s:St} (h:dN s ⟨f1,(st (k+1)).1,(st (k+1)).2⟩):Ad f0 (Ae st) Q k .nrm s:=⟨_,_,hf ▸ h,rfl⟩
def bC (x:UInt8):C:=.d (bD x)
theorem qz (l:List UInt8):(l.map bD).map C.d=l.map bC:=by rw[List.map_map]; rfl
theorem p6:∀ l:List UInt8,eY (l.map bC)=some (l.map bD)
  | []=>rfl
  | x::l=>by
    have h:=p6 l
    show eY (C.d (bD x)::l.map bC)=_
    simp only[eY,h,Ya,Y9]
theorem PU {α β:Type} (f:α→β) (l cs:List α) (off:Nat):cK (l.map f) off (cs.map f)=(cK l off cs).map f:=by
  unfold cK; simp
theorem gL (l:List UInt8):(l.map bC).flatMap C.ids=[]:=by
  induction l with
  | nil=>rfl
  | cons x l ih=>rw[Ya,Yl,ih]; rfl
theorem nU (g:Nat→Nat) (l:List UInt8):(l.map bC).map (C.ren g)=l.map bC:=by rw[List.map_map]; rfl
theorem T8 (x c:UInt8) (n:Int) (h:n=(c.toNat:Int)):bF .eql (.w (.c (.d (bD x)))) (.w (.c (.d (.int .u8 n))))=some (.bool (x==c)):=by subst h; exact Ot x c
theorem T9 (x c:UInt8) (n:Int) (h:n=(c.toNat:Int)):bF .neq (.w (.c (.d (bD x)))) (.w (.c (.d (.int .u8 n))))=some (.bool (x != c)):=by subst h; exact Ou x c
theorem Ua (x c:UInt8) (n:Int) (h:n=(c.toNat:Int)):bF .xor (.w (.c (.d (bD x)))) (.w (.c (.d (.int .u8 n))))=some (bD (am x c)):=by subst h; exact gK x c
theorem Js (x c:UInt8) (n:Int) (h:n=(c.toNat:Int)):bF .and (.w (.c (.d (bD x)))) (.w (.c (.d (.int .u8 n))))=some (bD (lM x c)):=by subst h; exact vW x c
theorem Jt (x:UInt8) (k:IntKind) (j:Nat) (n:Int) (h:n=(j:Int)) (hj:j≤8):bF .shr (.w (.c (.d (bD x)))) (.w (.c (.d (.int k n))))=some (bD (eu x j)):=by
  subst h;rw[Or _ _ _ (ZN j),ZS,Nat.min_eq_left hj]
theorem Ju (x:UInt8) (k:IntKind) (j:Nat) (n:Int) (h:n=(j:Int)) (hj:j≤8):bF .shl (.w (.c (.d (bD x)))) (.w (.c (.d (.int k n))))=some (bD (ek x j)):=by
  subst h;rw[Oq _ _ _ (ZN j),ZS,Nat.min_eq_left hj]
def bA {α:Type} (n:Nat) (x:α):List α:=List.replicate n x
theorem cP {α:Type} (n:Nat) (x:α):(bA n x).length=n:=Yt
theorem G6 (n:Nat):bA n (C.d (D.int .u8 0))=(bA n (0:UInt8)).map bC:=by unfold bA; rw[List.map_replicate]; rfl
set_option maxRecDepth 100000
theorem jW {a b : Prop} (l : a) (r : b) : a ∧ b := And.intro l r
theorem wx:j5 (jW @tL (jW @tM (jW @tN (jW @tO (jW @tP (jW @sx (jW @yf (jW @xo (jW @Ik (jW @Il (jW @Ij (jW @yd (jW @FV (jW @KX (jW @KY (jW @KZ (jW @cX.eq_1 (jW @cX.eq_2 (jW @cX.eq_3 (jW @cX.eq_4 (jW @gw.eq_1 (jW @gw.eq_2 (jW @killAll.eq_1 (jW @killAll.eq_2 (jW @killAll.eq_3 (jW @Mg (jW @G5 (jW @EM (jW @Cw (jW @EN (jW @Cx (jW @EO (jW @EP (jW @ef.eq_1 (jW @ef.eq_2 (jW @ef.eq_3 (jW @ef.eq_4 (jW @ef.eq_5 (jW @ef.eq_6 (jW @ef.eq_7 (jW @ef.eq_8 (jW @ef.eq_9 (jW @ef.eq_10 (jW @ef.eq_11 (jW @ef.eq_12 (jW @ef.eq_13 (jW @ef.eq_14 (jW @ef.eq_15 (jW @ef.eq_16 (jW @ef.eq_17 (jW @ef.eq_18 (jW @ef.eq_19 (jW @ef.eq_20 (jW @ef.eq_21 (jW @ef.eq_22 (jW @ef.eq_23 (jW @ef.eq_24 (jW @ef.eq_25 (jW @ef.eq_26 (jW @ef.eq_27 (jW @ef.eq_28 (jW @ef.eq_29 (jW @ef.eq_30 (jW @ef.eq_31 (jW @ef.eq_32 (jW @ef.eq_33 (jW @ef.eq_34 (jW @ef.eq_35 (jW @ef.eq_36 (jW @ef.eq_37 (jW @ef.eq_38 (jW @ef.eq_39 (jW @ef.eq_40 (jW @ef.eq_41 (jW @ef.eq_42 (jW @ef.eq_43 (jW @ef.eq_44 (jW @ef.eq_45 (jW @ef.eq_46 (jW @ef.eq_47 (jW @ef.eq_48 (jW @ef.eq_49 (jW @ef.eq_50 (jW @ef.eq_51 (jW @ef.eq_52 (jW @ef.eq_53 (jW @bound.eq_1 (jW @bound.eq_2 (jW @jK.eq_1 (jW @jK.eq_2 (jW @jK.eq_3 (jW @jK.eq_4 (jW @gn.eq_1 (jW @cv.eq_1 (jW @cv.eq_2 (jW @cv.eq_3 (jW @cv.eq_4 (jW @cv.eq_5 (jW @cv.eq_6 (jW @cv.eq_7 (jW @cv.eq_8 (jW @dM.eq_1 (jW @dM.eq_2 (jW @dM.eq_3 (jW @dM.eq_4 (jW @dM.eq_5 (jW @dM.eq_6 (jW @dM.eq_7 (jW @GO (jW @gF.eq_1 (jW @gF.eq_2 (jW @parts.eq_1 (jW @parts.eq_2 (jW @elems.eq_1 (jW @elems.eq_2 (jW @fA.eq_1 (jW @Me (jW @Mf (jW @Jk (jW @G4 (jW @Jl (jW @Lk (jW @Jm (jW @Jn (jW @Jo (jW @Jp (jW @Ll (jW @Jq (jW @fP.eq_1 (jW @fP.eq_2 (jW @fP.eq_3 (jW @fP.eq_4 (jW @oq.eq_1 (jW @oq.eq_2 (jW @eY.eq_1 (jW @eY.eq_2 (jW @eY.eq_3 (jW @dI.eq_1 (jW @dI.eq_2 (jW @dI.eq_3 (jW @dI.eq_4 (jW @eb.eq_1 (jW @eb.eq_2 (jW @eb.eq_3 (jW @cY.eq_1 (jW @cY.eq_2 (jW @cY.eq_3 (jW @cY.eq_4 (jW @cY.eq_5 (jW @cY.eq_6 (jW @cY.eq_7 (jW @cY.eq_8 (jW @cY.eq_9 (jW @cY.eq_10 (jW @kx.eq_1 (jW @fR.eq_1 (jW @fR.eq_2 (jW @fR.eq_3 (jW @toW.eq_1 (jW @toW.eq_2 (jW @dv.eq_1 (jW @dv.eq_2 (jW @dv.eq_3 (jW @dv.eq_4 (jW @gg.eq_1 (jW @gg.eq_2 (jW @de.eq_1 (jW @de.eq_2 (jW @dd.eq_1 (jW @dd.eq_2 (jW @dd.eq_3 (jW @ints.eq_1 (jW @ints.eq_2 (jW @ints.eq_3 (jW @dD.eq_1 (jW @dD.eq_2 (jW @dD.eq_3 (jW @jE.eq_1 (jW @jE.eq_2 (jW @jE.eq_3 (jW @W.ro.eq_1 (jW @W.ro.eq_2 (jW @C.ro.eq_1 (jW @C.ro.eq_2 (jW @V.ro.eq_1 (jW @V.ro.eq_2 (jW @V.ro.eq_3 (jW @lH.eq_1 (jW @lH.eq_2 (jW @lH.eq_3 (jW @Kd.size.eq_1 (jW @Kd.size.eq_2 (jW @Ci (jW @Bs (jW @Cj (jW @Ey (jW @Ck (jW @cK.eq_1 (jW @bL.eq_1 (jW @bL.eq_2 (jW @Nat.min_def (jW @Y9.{0,0} (jW @Option.map_none.{0,0} (jW @Bool.not_true (jW @Bool.not_false (jW @decide_true (jW @decide_false (jW @Bool.and_self (jW @Ya.{0,0} (jW @Yo.{0,0} (jW @List.any_cons.{0} (jW @List.any_nil.{0} (jW @YZ.{0} (jW @Zo.{0} (jW @Zg.{0} (jW @Zj.{0} (jW @YL.{0} (jW @if_true.{1} (jW @if_false.{1} (jW @true_and (jW @and_true (jW @vd.eq_1 (jW @ZN (jW @ZL.{0} (jW @Zb.{0} (jW @fK (jW @jq (jW @i5 (jW @j6 (jW @ED (jW @EE (jW @Lf (jW @Lg (jW @GY (jW @GZ (jW @Lh (jW @Co (jW @Cq (jW @EJ (jW @Cr (jW @Cs (jW @Ct (jW @Cu (jW @Cv (jW @gK (jW @vW (jW @wM (jW @Eq (jW @Er (jW @Es (jW @Et (jW @Eu (jW @Ev (jW @Ew (jW @Ex (jW @EH (jW @EI (jW @EK (jW @EL (jW @EC (jW @Ez (jW @EA (jW @EB (jW @List.set_cons_zero.{0} (jW @List.set_cons_succ.{0} (jW @G1 (jW @iz (jW @Kd.ag.injEq (jW @X5.{0} (jW @Yt.{0} (jW @rY (jW @GQ (jW @xz (jW @Jd (jW @xA (jW @Je (jW @GX (jW @Ep (jW @Y4.{0} (jW @YW.{0} (jW @List.take_succ_cons.{0} (jW @Zf.{0} (jW @List.drop_succ_cons.{0} (jW @List.take_nil.{0} (jW @List.drop_nil.{0} (jW @Ym.{0} (jW @Yl.{0,0} (jW @ZX.{0,0} (jW @Option.bind_some.{0,0} (jW @ne_eq.{1} (jW @not_false_eq_true (@not_true_eq_false)))))))))))))))))))))))))))))))))))))))))))))))))))))))))))))))))))))))))))))))))))))))))))))))))))))))))))))))))))))))))))))))))))))))))))))))))))))))))))))))))))))))))))))))))))))))))))))))))))))))))))))))))))))))))))))))))))))))))))))))))))))))))))))))))))))))))))))))))))))))))))))))))))):=jW @tL (jW @tM (jW @tN (jW @tO (jW @tP (jW @sx (jW @yf (jW @xo (jW @Ik (jW @Il (jW @Ij (jW @yd (jW @FV (jW @KX (jW @KY (jW @KZ (jW @cX.eq_1 (jW @cX.eq_2 (jW @cX.eq_3 (jW @cX.eq_4 (jW @gw.eq_1 (jW @gw.eq_2 (jW @killAll.eq_1 (jW @killAll.eq_2 (jW @killAll.eq_3 (jW @Mg (jW @G5 (jW @EM (jW @Cw (jW @EN (jW @Cx (jW @EO (jW @EP (jW @ef.eq_1 (jW @ef.eq_2 (jW @ef.eq_3 (jW @ef.eq_4 (jW @ef.eq_5 (jW @ef.eq_6 (jW @ef.eq_7 (jW @ef.eq_8 (jW @ef.eq_9 (jW @ef.eq_10 (jW @ef.eq_11 (jW @ef.eq_12 (jW @ef.eq_13 (jW @ef.eq_14 (jW @ef.eq_15 (jW @ef.eq_16 (jW @ef.eq_17 (jW @ef.eq_18 (jW @ef.eq_19 (jW @ef.eq_20 (jW @ef.eq_21 (jW @ef.eq_22 (jW @ef.eq_23 (jW @ef.eq_24 (jW @ef.eq_25 (jW @ef.eq_26 (jW @ef.eq_27 (jW @ef.eq_28 (jW @ef.eq_29 (jW @ef.eq_30 (jW @ef.eq_31 (jW @ef.eq_32 (jW @ef.eq_33 (jW @ef.eq_34 (jW @ef.eq_35 (jW @ef.eq_36 (jW @ef.eq_37 (jW @ef.eq_38 (jW @ef.eq_39 (jW @ef.eq_40 (jW @ef.eq_41 (jW @ef.eq_42 (jW @ef.eq_43 (jW @ef.eq_44 (jW @ef.eq_45 (jW @ef.eq_46 (jW @ef.eq_47 (jW @ef.eq_48 (jW @ef.eq_49 (jW @ef.eq_50 (jW @ef.eq_51 (jW @ef.eq_52 (jW @ef.eq_53 (jW @bound.eq_1 (jW @bound.eq_2 (jW @jK.eq_1 (jW @jK.eq_2 (jW @jK.eq_3 (jW @jK.eq_4 (jW @gn.eq_1 (jW @cv.eq_1 (jW @cv.eq_2 (jW @cv.eq_3 (jW @cv.eq_4 (jW @cv.eq_5 (jW @cv.eq_6 (jW @cv.eq_7 (jW @cv.eq_8 (jW @dM.eq_1 (jW @dM.eq_2 (jW @dM.eq_3 (jW @dM.eq_4 (jW @dM.eq_5 (jW @dM.eq_6 (jW @dM.eq_7 (jW @GO (jW @gF.eq_1 (jW @gF.eq_2 (jW @parts.eq_1 (jW @parts.eq_2 (jW @elems.eq_1 (jW @elems.eq_2 (jW @fA.eq_1 (jW @Me (jW @Mf (jW @Jk (jW @G4 (jW @Jl (jW @Lk (jW @Jm (jW @Jn (jW @Jo (jW @Jp (jW @Ll (jW @Jq (jW @fP.eq_1 (jW @fP.eq_2 (jW @fP.eq_3 (jW @fP.eq_4 (jW @oq.eq_1 (jW @oq.eq_2 (jW @eY.eq_1 (jW @eY.eq_2 (jW @eY.eq_3 (jW @dI.eq_1 (jW @dI.eq_2 (jW @dI.eq_3 (jW @dI.eq_4 (jW @eb.eq_1 (jW @eb.eq_2 (jW @eb.eq_3 (jW @cY.eq_1 (jW @cY.eq_2 (jW @cY.eq_3 (jW @cY.eq_4 (jW @cY.eq_5 (jW @cY.eq_6 (jW @cY.eq_7 (jW @cY.eq_8 (jW @cY.eq_9 (jW @cY.eq_10 (jW @kx.eq_1 (jW @fR.eq_1 (jW @fR.eq_2 (jW @fR.eq_3 (jW @toW.eq_1 (jW @toW.eq_2 (jW @dv.eq_1 (jW @dv.eq_2 (jW @dv.eq_3 (jW @dv.eq_4 (jW @gg.eq_1 (jW @gg.eq_2 (jW @de.eq_1 (jW @de.eq_2 (jW @dd.eq_1 (jW @dd.eq_2 (jW @dd.eq_3 (jW @ints.eq_1 (jW @ints.eq_2 (jW @ints.eq_3 (jW @dD.eq_1 (jW @dD.eq_2 (jW @dD.eq_3 (jW @jE.eq_1 (jW @jE.eq_2 (jW @jE.eq_3 (jW @W.ro.eq_1 (jW @W.ro.eq_2 (jW @C.ro.eq_1 (jW @C.ro.eq_2 (jW @V.ro.eq_1 (jW @V.ro.eq_2 (jW @V.ro.eq_3 (jW @lH.eq_1 (jW @lH.eq_2 (jW @lH.eq_3 (jW @Kd.size.eq_1 (jW @Kd.size.eq_2 (jW @Ci (jW @Bs (jW @Cj (jW @Ey (jW @Ck (jW @cK.eq_1 (jW @bL.eq_1 (jW @bL.eq_2 (jW @Nat.min_def (jW @Y9.{0,0} (jW @Option.map_none.{0,0} (jW @Bool.not_true (jW @Bool.not_false (jW @decide_true (jW @decide_false (jW @Bool.and_self (jW @Ya.{0,0} (jW @Yo.{0,0} (jW @List.any_cons.{0} (jW @List.any_nil.{0} (jW @YZ.{0} (jW @Zo.{0} (jW @Zg.{0} (jW @Zj.{0} (jW @YL.{0} (jW @if_true.{1} (jW @if_false.{1} (jW @true_and (jW @and_true (jW @vd.eq_1 (jW @ZN (jW @ZL.{0} (jW @Zb.{0} (jW @fK (jW @jq (jW @i5 (jW @j6 (jW @ED (jW @EE (jW @Lf (jW @Lg (jW @GY (jW @GZ (jW @Lh (jW @Co (jW @Cq (jW @EJ (jW @Cr (jW @Cs (jW @Ct (jW @Cu (jW @Cv (jW @gK (jW @vW (jW @wM (jW @Eq (jW @Er (jW @Es (jW @Et (jW @Eu (jW @Ev (jW @Ew (jW @Ex (jW @EH (jW @EI (jW @EK (jW @EL (jW @EC (jW @Ez (jW @EA (jW @EB (jW @List.set_cons_zero.{0} (jW @List.set_cons_succ.{0} (jW @G1 (jW @iz (jW @Kd.ag.injEq (jW @X5.{0} (jW @Yt.{0} (jW @rY (jW @GQ (jW @xz (jW @Jd (jW @xA (jW @Je (jW @GX (jW @Ep (jW @Y4.{0} (jW @YW.{0} (jW @List.take_succ_cons.{0} (jW @Zf.{0} (jW @List.drop_succ_cons.{0} (jW @List.take_nil.{0} (jW @List.drop_nil.{0} (jW @Ym.{0} (jW @Yl.{0,0} (jW @ZX.{0,0} (jW @Option.bind_some.{0,0} (jW @ne_eq.{1} (jW @not_false_eq_true (@not_true_eq_false)))))))))))))))))))))))))))))))))))))))))))))))))))))))))))))))))))))))))))))))))))))))))))))))))))))))))))))))))))))))))))))))))))))))))))))))))))))))))))))))))))))))))))))))))))))))))))))))))))))))))))))))))))))))))))))))))))))))))))))))))))))))))))))))))))))))))))))))))))))))))))))))))))
theorem wy:j5 (jW @Lj (jW @A7 (jW @G2 (jW @EF (jW @G3 (jW @Jj (jW @fB (jW @oz (@cond_true.{1}))))))))):=jW @Lj (jW @A7 (jW @G2 (jW @EF (jW @G3 (jW @Jj (jW @fB (jW @oz (@cond_true.{1}))))))))
theorem wz:j5 (jW @Bool.false_and (jW @Bool.and_false (jW @Cm (jW @Nat.sub_zero (jW @Cl (jW @Bt (jW @beq_self_eq_true.{0} (jW @Bool.and_true (jW @Bool.true_and (jW @L8 (jW @L9 (jW @Ma (jW @Mb (jW @Mc (jW @Md (jW @Zm.{0} (jW @Zx (jW @Nat.one_mul (jW @Ze (jW @YT (jW @Jg (jW @Jh (jW @Ji (jW @Li (jW @ZD (jW @Int.natCast_mul (jW @ZP (jW @Zr (@Zs))))))))))))))))))))))))))))):=jW @Bool.false_and (jW @Bool.and_false (jW @Cm (jW @Nat.sub_zero (jW @Cl (jW @Bt (jW @beq_self_eq_true.{0} (jW @Bool.and_true (jW @Bool.true_and (jW @L8 (jW @L9 (jW @Ma (jW @Mb (jW @Mc (jW @Md (jW @Zm.{0} (jW @Zx (jW @Nat.one_mul (jW @Ze (jW @YT (jW @Jg (jW @Jh (jW @Ji (jW @Li (jW @ZD (jW @Int.natCast_mul (jW @ZP (jW @Zr (@Zs))))))))))))))))))))))))))))
theorem aC:j5 (jW @V.ren.eq_1 (jW @V.ren.eq_2 (jW @V.ren.eq_3 (jW @W.ren.eq_1 (jW @W.ren.eq_2 (jW @C.ren.eq_1 (jW @C.ren.eq_2 (jW @C.ren.eq_3 (jW @C.ren.eq_4 (jW @C.ren.eq_5 (jW @C.ren.eq_6 (jW @V.ids.eq_1 (jW @V.ids.eq_2 (jW @V.ids.eq_3 (jW @W.ids.eq_1 (jW @W.ids.eq_2 (jW @C.ids.eq_1 (jW @C.ids.eq_2 (jW @C.ids.eq_3 (jW @C.ids.eq_4 (jW @C.ids.eq_5 (jW @C.ids.eq_6 (jW @Ob.ren.eq_1 (jW @Ob.ren.eq_2 (jW @Ob.ren.eq_3 (jW @Ob.ren.eq_4 (jW @Ob.ids.eq_1 (jW @Ob.ids.eq_2 (jW @Ob.ids.eq_3 (jW @Ob.ids.eq_4 (jW @Zs (jW @Zm.{0} (jW @GT (jW @Em (jW @GU (jW @En (jW @id_eq.{1} (jW @Zx (jW @Nat.mul_zero (jW @ZW (@Zt.{0}))))))))))))))))))))))))))))))))))))))))):=jW @V.ren.eq_1 (jW @V.ren.eq_2 (jW @V.ren.eq_3 (jW @W.ren.eq_1 (jW @W.ren.eq_2 (jW @C.ren.eq_1 (jW @C.ren.eq_2 (jW @C.ren.eq_3 (jW @C.ren.eq_4 (jW @C.ren.eq_5 (jW @C.ren.eq_6 (jW @V.ids.eq_1 (jW @V.ids.eq_2 (jW @V.ids.eq_3 (jW @W.ids.eq_1 (jW @W.ids.eq_2 (jW @C.ids.eq_1 (jW @C.ids.eq_2 (jW @C.ids.eq_3 (jW @C.ids.eq_4 (jW @C.ids.eq_5 (jW @C.ids.eq_6 (jW @Ob.ren.eq_1 (jW @Ob.ren.eq_2 (jW @Ob.ren.eq_3 (jW @Ob.ren.eq_4 (jW @Ob.ids.eq_1 (jW @Ob.ids.eq_2 (jW @Ob.ids.eq_3 (jW @Ob.ids.eq_4 (jW @Zs (jW @Zm.{0} (jW @GT (jW @Em (jW @GU (jW @En (jW @id_eq.{1} (jW @Zx (jW @Nat.mul_zero (jW @ZW (@Zt.{0}))))))))))))))))))))))))))))))))))))))))
theorem aK:j5 (jW @ZD (jW @Int.natCast_mul (jW @ZP (@Zr)))):=jW @ZD (jW @Int.natCast_mul (jW @ZP (@Zr)))
theorem ae:j5 (jW @wx (jW @wy @wz)):=jW @wx (jW @wy @wz)
theorem aF {σ:St} {p:Nat×Option Kd} {x:D} (h1:(bL σ p).bind (toW σ.h)=some x:=by simp only[ae,aa,seval,iteOmega,toNatUp]):db σ [p] (.w (.c (.d x))):=mo h1
theorem aW {σ:St} {p q:Nat×Option Kd} {x y:D} (h1:(bL σ p).bind (toW σ.h)=some x:=by simp only[ae,aa,seval,iteOmega,toNatUp]) (h2:(bL σ q).bind (toW σ.h)=some y:=by simp only[ae,aa,seval,iteOmega,toNatUp]):db σ [p,q] (.tup [.c (.d x),.c (.d y)]):=ja h1 h2
theorem iN {σ:St} {p q r:Nat×Option Kd} {x y z:D} (h1:(bL σ p).bind (toW σ.h)=some x:=by simp only[ae,aa,seval,iteOmega,toNatUp]) (h2:(bL σ q).bind (toW σ.h)=some y:=by simp only[ae,aa,seval,iteOmega,toNatUp]) (h3:(bL σ r).bind (toW σ.h)=some z:=by simp only[ae,aa,seval,iteOmega,toNatUp]):db σ [p,q,r] (.tup [.c (.d x),.c (.d y),.c (.d z)]):=qg h1 h2 h3
theorem ec {σ:St} {p:Nat×Option Kd} {sz:Nat} {es:List D} (h1:(bL σ p).bind (jF σ.h sz)=some es:=by simp only[ae,aa,seval,iteOmega,toNatUp]):db σ [p] (.w (.c (.fr sz es))):=Jr h1
theorem dw {σ:St} {p q:Nat×Option Kd} {sz:Nat} {es:List D} {y:D} (h1:(bL σ p).bind (jF σ.h sz)=some es:=by simp only[ae,aa,seval,iteOmega,toNatUp]) (h2:bL σ q=some (.c (.d y)):=by simp only[ae,aa,seval,iteOmega,toNatUp]):db σ [p,q] (.tup [.c (.fr sz es),.c (.d y)]):=yp h1 h2
theorem sD {P:Program} {G:ah} {K:St→Prop} {r:List aZ} {f:Nat→V} {h:au} {u:Nat→Bool} {d:Option Nat} {fn:FuncId} {xs:List SX} {own:Option (Nat×Nat)} {ds:List D} {res:V} {q:Prop} (h2:aj P G fn ds res) (e:q)
    (hq:aV (dD h u (d.getD 0) own res) (ct P G d r K f)=q:=by simp only[ae,aa,seval,iteOmega,toNatUp]; rfl) (h1:de h (xs.map (ev G f))=some ds:=by exact rfl)
    (h3:((xs.map (ev G f)).any V.hasOwn=false∨res.flat=true):=by exact .inl rfl) (hne:fn≠gi:=by decide) (hp:iA own (xs.map (ev G f)):=by first | exact pI _ | exact pX _ _ _ | exact pJ _ _ rfl):aH P G (⟨d,.call fn xs own,none⟩::r) K ⟨f,h,u⟩ :=
  sC h2 (hq ▸ e) h1 h3 hne hp
def gW (x:UInt8):UInt8:=am (ek x 1) (if x<128 then 0 else 27)
def jG (c:Bool) (v:UInt8):UInt8:=if c then v else 0
def jH (y:UInt8) (i:Nat):Bool:=y.toNat.testBit i
def Av (x:UInt8):Nat→UInt8
  | 0=>x
  | n+1=>gW (Av x n)
def ME (x y:UInt8):Nat→UInt8
  | 0=>0
  | n+1=>am (ME x y n) (jG (jH y n) (Av x n))
def gN (x y:UInt8):UInt8:=ME x y 8
theorem CJ (x y:UInt8):am x y=am y x:=UInt8.xor_comm x y
theorem nr (x y z:UInt8):am (am x y) z=am x (am y z):=UInt8.xor_assoc x y z
theorem v7 (x:UInt8):am x 0=x:=UInt8.xor_zero
theorem CK (x:UInt8):am x x=0:=UInt8.xor_self
theorem OJ (a b c d:UInt8):am (am a b) (am c d)=am (am a c) (am b d):=by
  rw[nr,← nr b,CJ b c,nr c,← nr]
def Af (f:UInt8→UInt8):Prop:=∀ a b,f (am a b)=am (f a) (f b)
theorem P9 (x y:UInt8) (i:Nat):jH (am x y) i=(jH x i ^^ jH y i):=by
  unfold jH am;rw[UInt8.toNat_xor,Nat.testBit_xor]
theorem Qa (c d:Bool) (v:UInt8):jG (c ^^ d) v=am (jG c v) (jG d v):=by
  cases c <;> cases d <;> simp[jG,am]
def lO (f:UInt8→UInt8) (x:UInt8):Nat→UInt8
  | 0=>0
  | n+1=>am (lO f x n) (jG (jH x n) (f (UInt8.ofNat (2^n))))
theorem E5 (f:UInt8→UInt8):∀ n,Af fun x=>lO f x n
  | 0=>fun a b=>(CK 0).symm
  | n+1=>fun a b=>by
    show am (lO f (am a b) n) (jG (jH (am a b) n) _)=_
    rw[show lO f (am a b) n=am (lO f a n) (lO f b n) from E5 f n a b,P9,Qa,OJ];rfl
theorem Up {f:UInt8→UInt8} (h:∀ x,f x=lO f x 8):Af f:=by
  intro a b;rw[h,h a,h b];exact E5 f 8 a b
theorem lD {p:UInt8→Bool} (h:((List.range 256).all fun i=>p (UInt8.ofNat i))=true) (x:UInt8):p x=true:=by
  have:=Yp.1 h x.toNat (Zy.2 x.toNat_lt)
  simpa using this
theorem R4:Af gW:=Up fun x=>by
  have:=lD (p:=fun x=>gW x==lO gW x 8) (by decide +kernel) x
  simpa using this
def tX (x:UInt8) (n:Nat):UInt8:=jN (ek x n) (eu x (8-n))
def Mh (y:UInt8):UInt8:=am (am (am (am (am y (tX y 1)) (tX y 2)) (tX y 3)) (tX y 4)) 99
def Mi (x:UInt8):UInt8 :=
  let x2:=gN x x
  let x3:=gN x2 x
  let x6:=gN x3 x3
  let x12:=gN x6 x6
  let x15:=gN x12 x3
  let x30:=gN x15 x15
  let x60:=gN x30 x30
  let x120:=gN x60 x60
  let x240:=gN x120 x120
  gN (gN x240 x12) x2
def Ag:List UInt8:=(List.range 256).map fun i=>Mh (Mi (UInt8.ofNat i))
def d8 (x:UInt8):UInt8:=Mh (Mi x)
theorem Qb (x:UInt8):Ag[x.toNat]?=some (d8 x):=by
  unfold Ag d8;rw[YX,ZK x.toNat_lt];simp
instance:Std.Associative am:=⟨nr⟩
instance:Std.Commutative am:=⟨CJ⟩
def Aw (x:UInt8):UInt8:=gN x 2
def uM (a b c d:UInt8):UInt8:=am (am (am (am (Aw a) (Aw b)) b) c) d
abbrev dH:=Nat→UInt8
def gS (s k:dH):dH:=fun j=>am (s j) (k j)
def iB (s:dH):dH:=fun j=>d8 (s (j%4+4*((j / 4+j%4)%4)))
def gT (t:dH):dH:=fun j=>uM (t (4*(j / 4)+j%4)) (t (4*(j / 4)+(j%4+1)%4)) (t (4*(j / 4)+(j%4+2)%4)) (t (4*(j / 4)+(j%4+3)%4))
def Lr (s t:dH):Prop:=∀ j,j<16→s j=t j
def yz (k:Nat→dH) (s:dH) (n:Nat):dH:=if n<10 then gS (gT (iB s)) (k n) else gS (iB s) (k n)
def iI (k:Nat→dH) (s:dH):Nat→dH
  | 0=>gS s (k 0)
  | n+1=>yz k (iI k s n) (n+1)
def ig (n:Nat):UInt8:=Av 1 n
def oB (t:List UInt8) (n:Nat):List UInt8 :=
  if n%4=0 then [am (d8 (t.getD 1 0)) (ig (n / 4)),d8 (t.getD 2 0),d8 (t.getD 3 0),d8 (t.getD 0 0)]
  else [t.getD 0 0,t.getD 1 0,t.getD 2 0,t.getD 3 0]
def ku (l:List UInt8) (n:Nat):List UInt8 :=
  (List.range 4).map fun k=>am (l.getD (4*n+k) 0) ((oB (l.drop (12+4*n)) n).getD k 0)
def dQ (key:List UInt8):Nat→List UInt8
  | 0=>key
  | n+1=>dQ key n++ku (dQ key n) n
def aQ (key:List UInt8):List UInt8:=dQ key 40
theorem OK (l:List UInt8) (n:Nat):(ku l n).length=4:=by simp[ku]
theorem mh {key:List UInt8} (h:key.length=16):∀ n,(dQ key n).length=16+4*n
  | 0=>h
  | n+1=>by rw[dQ,X5,mh h n,OK]; omega
theorem xJ {key:List UInt8} (h:key.length=16):(aQ key).length=176:=mh h 40
def bS (f:dH):List UInt8:=(List.range 16).map f
theorem fZ (f:dH):(bS f).length=16:=by simp[bS]
theorem sR (f:dH) {j:Nat} (h:j<16):(bS f)[j]?=some (f j):=by simp[bS,h]
def bd (l:List UInt8):dH:=fun j=>l.getD j 0
theorem Uq {l:List UInt8} (h:l.length=16):bS (bd l)=l:=by
  apply Y7;intro i;by_cases hi:i<16
  ·rw[sR _ hi,bd,X6,X3 (by omega)]; rfl
  ·rw[YP (by rw[fZ]; omega),YP (by omega)]
theorem v8 {f g:dH} (h:Lr f g):bS f=bS g:=YN fun j hj=>h j (Zy.1 hj)
def d9 (rk:List UInt8) (n:Nat):dH:=fun j=>rk.getD (16*n+j) 0
def ez (rk b:List UInt8):List UInt8:=bS (iI (d9 rk) (bd b) 10)
theorem iX (rk b:List UInt8):(ez rk b).length=16:=fZ _
def tj (key b:List UInt8):List UInt8:=ez (aQ key) b
def df:List UInt8→List UInt8×Bool
  | []=>([],true)
  | x::r=>let (s,c):=df r; if c then ((x+1)::s,x+1==0) else (x::s,false)
def kv (c:List UInt8):List UInt8:=(df c).1
theorem wO:∀ c,(df c).1.length=c.length
  | []=>rfl
  | x::r=>by
    have:=wO r;simp only[df];split <;> simp[this]
theorem CL (c:List UInt8):(kv c).length=c.length:=wO c
def fi (c:List UInt8):Nat→List UInt8
  | 0=>c
  | n+1=>kv (fi c n)
theorem E6 (c:List UInt8):∀ n,(fi c n).length=c.length
  | 0=>rfl
  | n+1=>by rw[fi,CL,E6 c n]
def mR (rk c:List UInt8):Nat→List UInt8
  | 0=>[]
  | n+1=>mR rk c n++ez rk (fi c n)
theorem nE (rk c:List UInt8):∀ n,(mR rk c n).length=16*n
  | 0=>rfl
  | n+1=>by rw[mR,X5,nE rk c n,iX]; omega
def lP (a b:List UInt8):List UInt8:=List.zipWith am a b
def fQ (rk c b:List UInt8):List UInt8:=lP b (mR rk c ((b.length+15) / 16))
theorem E7 {a b:List UInt8} (h:a.length≤b.length):(lP a b).length=a.length:=by
  simp[lP]; omega
theorem rI (rk c b:List UInt8):(fQ rk c b).length=b.length:=E7 (by rw[nE]; omega)
theorem Bu:∀ {a b:List UInt8},a.length≤b.length→lP (lP a b) b=a
  | [],_,_=>by simp[lP]
  | x::a,[],h=>by simp at h
  | x::a,y::b,h=>by
    have h1:=Bu (a:=a) (b:=b) (by simpa using h);simp only[lP,List.zipWith_cons_cons,List.cons.injEq] at h1 ⊢;exact⟨by rw[nr,CK,v7],h1⟩
theorem M5 (rk c b:List UInt8):fQ rk c (fQ rk c b)=b:=by
  unfold fQ;have h:b.length≤(mR rk c ((b.length+15) / 16)).length:=by rw[nE]; omega
  rw[E7 h,Bu h]
def Ah (b:dH):dH:=fun j=>am (am (ek (b j) 1) (if j<15 then eu (b (j+1)) 7 else 0)) (if j=15 then jG (jH (b 0) 7) 135 else 0)
theorem UC (x y:UInt8):jN (ek x 1) (eu y 7)=am (ek x 1) (eu y 7):=by
  have h:eu y 7=0∨eu y 7=1:=by
    have:=lD (p:=fun y=>eu y 7==0 || eu y 7==1) (by decide +kernel) y
    simpa using this
  rcases h with h | h <;> rw[h]
  ·have:=lD (p:=fun x=>jN (ek x 1) 0==am (ek x 1) 0) (by decide +kernel) x;rw[beq_iff_eq] at this; exact this
  ·have:=lD (p:=fun x=>jN (ek x 1) 1==am (ek x 1) 1) (by decide +kernel) x;rw[beq_iff_eq] at this; exact this
def fk (b:List UInt8):List UInt8:=if b.length=16 then bS (Ah (bd b)) else []
theorem mf {b:List UInt8} (h:b.length=16):(fk b).length=16:=by rw[fk,if_pos h,fZ]
def cN:List UInt8→List UInt8→List UInt8
  | x::a,y::b=>am x y::cN a b
  | a,_=>a
theorem ix:∀ a b:List UInt8,(cN a b).length=a.length
  | [],_=>by simp[cN]
  | x::a,[]=>rfl
  | x::a,y::b=>by simp[cN,ix a b]
theorem Fe:∀ (a b:List UInt8) (i:Nat),i<a.length→i<b.length→(cN a b).getD i 0=am (a.getD i 0) (b.getD i 0)
  | [],_,_,h,_=>by simp at h
  | x::a,[],_,_,h=>by simp at h
  | x::a,y::b,0,_,_=>rfl
  | x::a,y::b,i+1,h,g=>by
    show (cN a b).getD i 0=_
    rw[Fe a b i (by simpa using h) (by simpa using g)]; rfl
def f8:List UInt8:=List.replicate 16 0
def iJ (b:List UInt8):List UInt8:=b++List.replicate ((16-b.length%16)%16) 0
def iK (rk:List UInt8):List UInt8:=fk (ez rk f8)
def kG (rk:List UInt8):List UInt8:=fk (iK rk)
def gU (rk b:List UInt8):Nat→List UInt8
  | 0=>f8
  | n+1=>ez rk (cN (gU rk b n) ((b.drop (16*n)).take 16))
def mu (b:List UInt8):Nat:=(b.length+15) / 16-1
def kH (rk e:List UInt8):List UInt8:=if e.length=16 then cN e (iK rk) else cN (iJ (e++[128])) (kG rk)
def ii (rk b:List UInt8):List UInt8:=ez rk (cN (gU rk b (mu b)) (kH rk (b.drop (16*mu b))))
theorem si (rk b:List UInt8):∀ n,(gU rk b n).length=16
  | 0=>by simp[gU,f8]
  | n+1=>iX _ _
theorem sn (rk b:List UInt8):(ii rk b).length=16:=iX _ _
theorem wT (rk:List UInt8):(iK rk).length=16:=mf (iX _ _)
theorem Qq (rk:List UInt8):(kG rk).length=16:=mf (wT _)
theorem vL {b:List UInt8} (h:b.length<16):(iJ (b++[128])).length=16:=by
  simp[iJ]; omega
theorem Qr {rk e:List UInt8} (h:e.length≤16):(kH rk e).length=16:=by
  unfold kH;split
  ·rw[ix]; assumption
  ·rw[ix,vL (by omega)]
def ij (rk:List UInt8) (l:List (List UInt8)):Nat→List UInt8
  | 0=>ii rk f8
  | n+1=>cN (fk (ij rk l n)) (ii rk (l.getD n []))
def je (rk:List UInt8) (l:List (List UInt8)):List UInt8 :=
  if l.length=0 then ii rk (List.replicate 15 0++[1])
  else
    let d:=ij rk l (l.length-1)
    let s:=l.getD (l.length-1) []
    if 16≤s.length then ii rk (s.take (s.length-16)++cN (s.drop (s.length-16)) d)
    else ii rk (cN (fk d) (iJ (s++[128])))
theorem Ff (rk:List UInt8) (l:List (List UInt8)):∀ n,(ij rk l n).length=16
  | 0=>sn _ _
  | n+1=>by rw[ij,ix,mf (Ff rk l n)]
theorem Qs (rk:List UInt8) (l:List (List UInt8)):(je rk l).length=16:=by
  unfold je;split
  ·exact sn _ _
  ·dsimp only;split <;> exact sn _ _
theorem mL {σ:St} {p q r s:Nat×Option Kd} {x y z t:D} (h1:(bL σ p).bind (toW σ.h)=some x) (h2:(bL σ q).bind (toW σ.h)=some y) (h3:(bL σ r).bind (toW σ.h)=some z) (h4:(bL σ s).bind (toW σ.h)=some t):db σ [p,q,r,s] (.tup [.c (.d x),.c (.d y),.c (.d z),.c (.d t)]):=by
  obtain⟨w1,e1,f1⟩:=YB.1 h1;obtain⟨w2,e2,f2⟩:=YB.1 h2;obtain⟨w3,e3,f3⟩:=YB.1 h3;obtain⟨w4,e4,f4⟩:=YB.1 h4;exact⟨[w1,w2,w3,w4],by simp[aU,e1,e2,e3,e4],.inr (.cons ⟨_,rfl,f1⟩ (.cons ⟨_,rfl,f2⟩ (.cons ⟨_,rfl,f3⟩ (.cons ⟨_,rfl,f4⟩ .nil))))⟩
theorem q9 {σ:St} {p q r s:Nat×Option Kd} {x y z t:D} (h1:(bL σ p).bind (toW σ.h)=some x:=by simp only[ae,aa,seval,iteOmega,toNatUp] <;> rfl) (h2:(bL σ q).bind (toW σ.h)=some y:=by simp only[ae,aa,seval,iteOmega,toNatUp] <;> rfl) (h3:(bL σ r).bind (toW σ.h)=some z:=by simp only[ae,aa,seval,iteOmega,toNatUp] <;> rfl) (h4:(bL σ s).bind (toW σ.h)=some t:=by simp only[ae,aa,seval,iteOmega,toNatUp] <;> rfl):db σ [p,q,r,s] (.tup [.c (.d x),.c (.d y),.c (.d z),.c (.d t)]):=mL h1 h2 h3 h4
theorem NI {σ:St} {p q:Nat×Option Kd} {id sz n s:Nat} {full:List D} {y:D} (h1:bL σ p=some (.c (.own id sz 0 n))) (e:σ.h id=some (.row s full)) (hn:n≤full.length) (h2:bL σ q=some (.c (.d y))):db σ [p,q] (.tup [.c (.fr sz (full.take n)),.c (.d y)]):=by
  refine⟨[.c (.own id sz 0 n),.c (.d y)],by simp[aU,h1,h2],.inl ⟨by simp[W.ids,C.ids],.cons ⟨rfl,rfl,?_⟩ (.cons ?_ .nil)⟩⟩
  ·rw[e];exact⟨by simp[dd,hn],trivial⟩
  ·cases y <;> rfl

theorem jM {a b : Prop} (l : a) (r : b) : a ∧ b := And.intro l r
section
variable {P:Program} {G:ah} {K:St→Prop} {r:List aZ} {f:Nat→V} {h:au} {u:Nat→Bool} {d:Option Nat} {x y t:SX}
def MG (P:Program) (G:ah) (d:Option Nat) (r:List aZ) (K:St→Prop) (f:Nat→V) (h:au) (u:Nat→Bool) (q:IntKind) (_:IntKind×Int):Prop:=aV (cS h u (d.getD 0) (.mp q []) (.mp (8*d.getD 0))) (ct P G d r K f)
theorem HT (q:IntKind):aH P G (⟨d,.mkMp q none,none⟩::r) K ⟨f,h,u⟩=aV (cS h u (d.getD 0) (.mp q []) (.mp (8*d.getD 0))) (ct P G d r K f):=by rw[bE _ rfl]; rfl
theorem FJ (q:IntKind):aH P G (⟨d,.mkMp q (some x),none⟩::r) K ⟨f,h,u⟩=aV (dF (ev G f x)) (MG P G d r K f h u q):=by
  rw[bE _ rfl]
  show aV (if (dF (ev G f x)).isSome=true then _ else none) _=_
  cases dF (ev G f x) <;> rfl
theorem KA (q:IntKind) (p:IntKind×Int):MG P G d r K f h u q p=aV (cS h u (d.getD 0) (.mp q []) (.mp (8*d.getD 0))) (ct P G d r K f):=rfl
theorem FK (q:IntKind) (z:D) (co:Bool):aH P G (⟨d,.mpGet q z co x y,none⟩::r) K ⟨f,h,u⟩=aV (gd h q z co (ev G f x) (dF (ev G f y))) (As P G d r K f h u):=by
  rw[bE _ rfl]; exact eU _ _ _
theorem FL (q:IntKind):aH P G (⟨d,.mpSet q x y t,none⟩::r) K ⟨f,h,u⟩=aV (oK h q (oI (ev G f x)) (dF (ev G f y)) (oJ (ev G f t))) (uZ P G d r K f u):=by
  rw[bE _ rfl]; exact eU _ _ _
def goT (P:Program) (G:ah) (d:Option Nat) (r:List aZ) (K:St→Prop) (f:Nat→V) (h:au) (u:Nat→Bool) (p:IntKind×List (Int×D)):Prop:=aV (cS h u (d.getD 0) (.it p.1 p.2 none) (.ptr (8*d.getD 0) 1 0 0)) (ct P G d r K f)
theorem C5:aH P G (⟨d,.mpIter x,none⟩::r) K ⟨f,h,u⟩=aV (oo (ev G f x)) (goT P G d r K f h u):=by
  rw[bE _ rfl]
  show aV (match oo (ev G f x) with | some p=>_ | none=>none) _=_
  cases oo (ev G f x) <;> rfl
theorem KB (q:IntKind) (es:List (Int×D)):goT P G d r K f h u (q,es)=aV (cS h u (d.getD 0) (.it q es none) (.ptr (8*d.getD 0) 1 0 0)) (ct P G d r K f):=rfl
theorem FM:aH P G (⟨d,.mpEnt x,none⟩::r) K ⟨f,h,u⟩=aV (lG h (ev G f x)) (As P G d r K f h u):=by
  rw[bE _ rfl]; exact eU _ _ _
theorem HU (id s:Nat):lG h (.w (.c (.ptr id s 0 0)))=uA (h id):=rfl
theorem HV (q:IntKind) (l:List (Int×D)) (p:Int×D):uA (some (.it q l (some p)))=some (.tup [.c (.d (.int q p.1)),.c (.d p.2)]):=rfl
theorem HW (q:IntKind) (es:List (Int×D)):oo (.w (.c (.d (.mp q es))))=some (q,es):=rfl
theorem HX (id:Nat):oI (.w (.c (.mp id)))=some id:=rfl
theorem KC (x:C):oJ (.w (.c x))=some x:=rfl
def ut (q:IntKind) (z:D) (co:Bool) (n:Int):Option Ob→Option V
  | some (.mp q' es)=>if q'=q then some (iH co (aX es n) (zC z)) else none
  | _=>none
theorem HY (q:IntKind) (z:D) (co:Bool) (id:Nat) (n:Int):gd h q z co (.w (.c (.mp id))) (some (q,n))=ut q z co n (h id):=by
  unfold gd ut;simp only[true_and];rfl
theorem FN (q:IntKind) (z:D) (co:Bool) (n:Int) (es:List (Int×C)):ut q z co n (some (.mp q es))=some (iH co (aX es n) (zC z)):=by simp[ut]
theorem HZ (q:IntKind) (z:D) (es:List (Int×D)) (n:Int):gd h q z false (.w (.c (.d (.mp q es)))) (some (q,n))=some (.w (.c (.d ((aX es n).getD z)))):=by
  unfold gd iH;rcases hl:aX es n with _ | v <;> simp[hl]
theorem H0 (q:IntKind) (z:D) (es:List (Int×D)) (n:Int):gd h q z true (.w (.c (.d (.mp q es)))) (some (q,n))=some (.tup [.c (.d ((aX es n).getD z)),.c (.d (.bool (aX es n).isSome))]):=by
  unfold gd iH;rcases hl:aX es n with _ | v <;> simp[hl]
theorem KD (o:Option C) (z:C):iH false o z=.w (.c (o.getD z)):=rfl
theorem KE (o:Option C) (z:C):iH true o z=.tup [.c (o.getD z),.c (.d (.bool o.isSome))]:=rfl
theorem KF:zC (.sl [])=.nil:=rfl
theorem H1 (b:Bool):zC (.bool b)=.d (.bool b):=rfl
theorem KG (k:IntKind) (n:Int):zC (.int k n)=.d (.int k n):=rfl
def uu (h:au) (q:IntKind) (id:Nat) (n:Int) (d:C):Option Ob→Option au
  | some (.mp q' es)=>if q'=q then some (upd h id (some (.mp q (bP es n d)))) else none
  | _=>none
theorem H2 (q:IntKind) (id:Nat) (n:Int) (d:C):oK h q (some id) (some (q,n)) (some d)=uu h q id n d (h id):=by
  unfold oK uu;simp only[true_and];rfl
theorem FO (q:IntKind) (id:Nat) (n:Int) (d:C) (es:List (Int×C)):uu h q id n d (some (.mp q es))=some (upd h id (some (.mp q (bP es n d)))):=by simp[uu]
theorem KH (id:Nat):(C.mp id).ids=[id]:=rfl
theorem KI (g:Nat→Nat) (id:Nat):(C.mp id).ren g=.mp (g id):=rfl
def gJ (es:List (Int×D)):List (Int×C):=es.map fun p=>(p.1,.d p.2)
theorem H3:gJ []=[]:=rfl
theorem H4 (es:List (Int×D)) (n:Int):aX (gJ es) n=(aX es n).map C.d:=by
  induction es with
  | nil=>rfl
  | cons p r ih =>
    obtain⟨y,x⟩:=p;by_cases e:y=n
    ·subst e; simp[aX,gJ]
    ·have k1:aX ((y,x)::r) n=aX r n:=by unfold aX; rw[YQ (by simpa using e)]
     have k2:aX (gJ ((y,x)::r)) n=aX (gJ r) n:=by unfold aX gJ; rw[Ya,YQ (by simpa using e)]
     rw[k1,k2,ih]
theorem FP (es:List (Int×D)) (n:Int) (d:D):bP (gJ es) n (.d d)=gJ (bP es n d):=by
  induction es with
  | nil=>rfl
  | cons p r ih =>
    obtain⟨y,x⟩:=p;simp only[gJ,Ya,bP] at *
    split
    ·rfl
    ·rw[ih]; rfl
theorem xY (es:List (Int×D)):(gJ es).flatMap (fun p=>p.2.ids)=[]:=by
  induction es with
  | nil=>rfl
  | cons p r ih=>simp only[gJ,Ya,Yl] at *; rw[ih]; rfl
theorem H5 (g:Nat→Nat) (es:List (Int×D)):(gJ es).map (fun p=>(p.1,p.2.ren g))=gJ es:=by
  induction es with
  | nil=>rfl
  | cons p r ih=>simp only[gJ,Ya] at *; rw[ih]; rfl
theorem cZ:j5 (jM @HT (jM @FJ (jM @KA (jM @FK (jM @FL (jM @C5 (jM @KB (jM @FM (jM @HU (jM @HV (jM @HW (jM @HX (jM @KC (jM @HY (jM @FN (jM @HZ (jM @H0 (jM @KD (jM @KE (jM @KF (jM @H1 (jM @KG (jM @H2 (jM @FO (jM @KH (jM @KI (jM @H3 (jM @H4 (jM @FP (jM @xY (jM @H5 (jM @Y0.{0} (@Zd.{0}))))))))))))))))))))))))))))))))) :=
  jM @HT (jM @FJ (jM @KA (jM @FK (jM @FL (jM @C5 (jM @KB (jM @FM (jM @HU (jM @HV (jM @HW (jM @HX (jM @KC (jM @HY (jM @FN (jM @HZ (jM @H0 (jM @KD (jM @KE (jM @KF (jM @H1 (jM @KG (jM @H2 (jM @FO (jM @KH (jM @KI (jM @H3 (jM @H4 (jM @FP (jM @xY (jM @H5 (jM @Y0.{0} (@Zd.{0}))))))))))))))))))))))))))))))))
end
theorem KJ {P:Program} {G:ah} {Q:AX→St→Prop} {f:Nat→V} {h:au} {u:Nat→Bool} {dn:Nat} {x:SX} {rest:List aZ} {id s:Nat} {q:IntKind} {left:List (Int×D)} {last:Option (Int×D)} (hx:ev G f x=.w (.c (.ptr id s 0 0))) (hi:h id=some (.it q left last))
    (k1:left=[]→aH P G rest (Q .nrm) ⟨upd f dn (.tup [.c (.d (.bool false))]),h,u⟩)
    (k2:∀ j p,left[j]?=some p→aH P G rest (Q .nrm) ⟨upd f dn (.tup [.c (.d (.bool true)),.c (.d (.int q p.1)),.c (.d p.2)]),upd h id (some (.it q (left.eraseIdx j) (some p))),u⟩):bu P G (.nextM dn x rest) Q ⟨f,h,u⟩:=by
  show s7 _ dn _ (ev G f x)
  rw[hx]
  show (match h id with | some (.it q left _)=>_ | _=>False)
  rw[hi];exact⟨k1,k2⟩
theorem V9 {P:Program} {G:ah} {Q:AX→St→Prop} {f:Nat→V} {h:au} {u:Nat→Bool} {t id:Nat} {c:aO} {q:IntKind} {es:List (Int×C)} {ds:List (Int×D)} (hx:f t=.w (.c (.mp id))) (hi:h id=some (.mp q es)) (hd:kj h es=some ds)
    (k:bu P G c Q ⟨upd f t (vd (.mp q ds)),upd (killAll h (es.map (·.2))) id none,u⟩):bu P G (.ghost t c) Q ⟨f,h,u⟩:=by
  show (match oR ⟨f,h,u⟩ t with | some τ=>bu P G c Q τ | none=>False)
  have:oR ⟨f,h,u⟩ t=some ⟨upd f t (vd (.mp q ds)),upd (killAll h (es.map (·.2))) id none,u⟩:=by
    unfold oR;simp only[hx,hi,hd,Y9]
  rw[this];exact k
theorem Tq {α:Type} (x:Int):aX ([]:List (Int×α)) x=none:=rfl
theorem H6 {α:Type} (es:List (Int×α)) (x y:Int) (v:α):aX (bP es x v) y=if y=x then some v else aX es y:=by
  induction es with
  | nil =>
    by_cases h:y=x
    ·subst h; simp[bP,aX]
    ·rw[if_neg h];unfold aX bP;rw[YQ (by simpa using fun e=>h e.symm)]
  | cons p r ih =>
    obtain⟨k,w⟩:=p;simp only[bP];by_cases hk:k=x
    ·subst hk;rw[if_pos rfl];by_cases h:y=k
     ·subst h; simp[aX]
     ·rw[if_neg h];unfold aX;rw[YQ (by simpa using fun e=>h e.symm),YQ (by simpa using fun e=>h e.symm)]
    ·rw[if_neg hk];by_cases h:y=k
     ·subst h;rw[if_neg hk];simp[aX]
     ·have e1:aX ((k,w)::bP r x v) y=aX (bP r x v) y:=by
        unfold aX; rw[YQ (by simpa using fun e=>h e.symm)]
      have e2:aX ((k,w)::r) y=aX r y:=by
        unfold aX; rw[YQ (by simpa using fun e=>h e.symm)]
      rw[e1,e2,ih]
end Go.Proofs.YtlghfnidknfakaaGreatDoor
