/- Texts of one's own, merged: from: The plain logic (20): words of 32 bits. Own work. -/
import Derived.Laws.BitsLemmas
import Derived.Laws.Bits64
import Derived.Laws.BitsAllLaws
import Derived.Test.YtofonnokanoflaaMg26
set_option linter.unusedVariables false
set_option linter.unusedSimpArgs false
namespace Go.Proofs.Ytofonnokanoflaa
open Go.RowKit IntWalk
def dA (x y:UInt32):UInt32:=x ^^^ y
def iV (x y:UInt32):UInt32:=x &&& y
def jP (x y:UInt32):UInt32:=x ||| y
def aX (x y:UInt32):UInt32:=x+y
def mN (x:UInt32):UInt32:=UInt32.ofNat (4294967295-x.toNat)
def jC (x:UInt32) (n:Nat):UInt32:=UInt32.ofNat (x.toNat / 2^n)
def iW (x:UInt32) (n:Nat):UInt32:=UInt32.ofNat (x.toNat*2^n)
def gm (x:UInt32) (n:Nat):UInt32:=jP (jC x n) (iW x (32-n))
def js (b:UInt8):UInt32:=UInt32.ofNat b.toNat
theorem word_lt (x:UInt32):x.toNat<4294967296:=x.toNat_lt
theorem Ky (x y:UInt32):bits .xor .u32 (x.toNat:Int) (y.toNat:Int)=((dA x y).toNat:Int):=by
  rw[u32_xor_nat _ _ (word_lt x) (word_lt y)]; simp[dA]
theorem Kz (x y:UInt32):bits .and .u32 (x.toNat:Int) (y.toNat:Int)=((iV x y).toNat:Int):=by
  rw[u32_and_nat _ _ (word_lt x) (word_lt y)]; simp[iV]
theorem LJ (x y:UInt32):bits .or .u32 (x.toNat:Int) (y.toNat:Int)=((jP x y).toNat:Int):=by
  rw[u32_or_nat _ _ (word_lt x) (word_lt y)]; simp[jP]
theorem KA (x y:UInt32):IntKind.u32.wrap ((x.toNat:Int)+(y.toNat:Int))=((aX x y).toNat:Int):=by
  rw[IntKind.wrap_u32]; simp[aX]
theorem LK (x:UInt32) (n:Nat):(x.toNat:Int) / 2^n=((jC x n).toNat:Int):=by
  have h:x.toNat / 2^n<4294967296:=VS (Nat.div_le_self _ _) (word_lt x);unfold jC;rw[UInt32.toNat_ofNat_of_lt' (by simpa [UInt32.size] using h)];simp
theorem LL (x:UInt32) (n:Nat):(x.toNat:Int)*2^n%4294967296=((iW x n).toNat:Int):=by
  unfold iW;simp
theorem LM (x:UInt32):(4294967295:Int)-(x.toNat:Int)=((mN x).toNat:Int):=by
  have h:=word_lt x;unfold mN;rw[UInt32.toNat_ofNat_of_lt' (by simp[UInt32.size]; omega)];omega
theorem zJ (b:UInt8):(b.toNat:Int)=((js b).toNat:Int):=by
  have h:=b.toNat_lt;unfold js;rw[UInt32.toNat_ofNat_of_lt' (by simp[UInt32.size]; omega)]
theorem zK (x y:UInt32):bg .xor (.w (.c (.d (wD x)))) (.w (.c (.d (wD y))))=some (wD (dA x y)):=by
  show ba .xor .u32 (x.toNat:Int) .u32 (y.toNat:Int)=_
  rw[pX,Ky]; rfl
theorem zL (x y:UInt32):bg .and (.w (.c (.d (wD x)))) (.w (.c (.d (wD y))))=some (wD (iV x y)):=by
  show ba .and .u32 (x.toNat:Int) .u32 (y.toNat:Int)=_
  rw[pW,Kz]; rfl
theorem BP (x y:UInt32):bg .or (.w (.c (.d (wD x)))) (.w (.c (.d (wD y))))=some (wD (jP x y)):=by
  show ba .or .u32 (x.toNat:Int) .u32 (y.toNat:Int)=_
  rw[qz,LJ]; rfl
theorem zM (x y:UInt32):bg .add (.w (.c (.d (wD x)))) (.w (.c (.d (wD y))))=some (wD (aX x y)):=by
  show ba .add .u32 (x.toNat:Int) .u32 (y.toNat:Int)=_
  rw[pT,KA]; rfl
theorem zN (x:UInt32) (k:IntKind) (n:Int) (h:0≤n):bg .shl (.w (.c (.d (wD x)))) (.w (.c (.d (.int k n))))=some (wD (iW x (min n.toNat 32))):=by
  show ba .shl .u32 (x.toNat:Int) k n=_
  rw[pY _ _ _ _ h,IntKind.wrap_u32]
  show some (D.int .u32 ((x.toNat:Int)*2^min n.toNat 32%4294967296))=_
  rw[LL]; rfl
theorem zO (x:UInt32) (k:IntKind) (n:Int) (h:0≤n):bg .shr (.w (.c (.d (wD x)))) (.w (.c (.d (.int k n))))=some (wD (jC x (min n.toNat 32))):=by
  show ba .shr .u32 (x.toNat:Int) k n=_
  rw[pZ _ _ _ _ h]
  show some (D.int .u32 ((x.toNat:Int) / 2^min n.toNat 32))=_
  rw[LK]; rfl
theorem BQ (x:UInt32):i7 .xor (.w (.c (.d (wD x))))=some (wD (mN x)):=by
  have:bits .xor .u32 4294967295 (x.toNat:Int)=(4294967295:Int)-(x.toNat:Int):=by
    have h:=x.toNat_lt;have h2:4294967295 ^^^ x.toNat=4294967295-x.toNat:=by
      have e:=congrArg BitVec.toNat (BitVec.allOnes_xor (x:=BitVec.ofNat 32 x.toNat));rw[BitVec.toNat_xor,BitVec.toNat_not,BitVec.toNat_allOnes,BitVec.toNat_ofNat,Wm (by omega)] at e;omega
    have h3:=u32_xor_nat 4294967295 x.toNat (by decide) h;rw[h2] at h3;have h4:((4294967295:Nat):Int)=4294967295:=rfl;rw[h4] at h3;omega
  show some (D.int .u32 (bits .xor .u32 4294967295 (x.toNat:Int)))=_
  rw[this,LM]; rfl
theorem zP (x y:UInt32):bg .eql (.w (.c (.d (wD x)))) (.w (.c (.d (wD y))))=some (.bool (x==y)):=by
  show ba .eql .u32 (x.toNat:Int) .u32 (y.toNat:Int)=_
  rw[pU];by_cases h:x=y
  ·subst h; simp
  ·have:¬ ((x.toNat:Int)=(y.toNat:Int)):=fun e=>h (UInt32.toNat_inj.1 (by omega))
   simp[this,h]
theorem zQ (x y:UInt32):bg .neq (.w (.c (.d (wD x)))) (.w (.c (.d (wD y))))=some (.bool (x != y)):=by
  show ba .neq .u32 (x.toNat:Int) .u32 (y.toNat:Int)=_
  rw[pV];by_cases h:x=y
  ·subst h; simp
  ·have:¬ ((x.toNat:Int)=(y.toNat:Int)):=fun e=>h (UInt32.toNat_inj.1 (by omega))
   simp[this,h]
theorem BR (b:UInt8):D.int .u32 (IntKind.u32.wrap (b.toNat:Int))=wD (js b):=by
  have h:=b.toNat_lt;rw[IntWalk.u32_in _ (by omega),zJ]; rfl
def am (x y:UInt8):UInt8:=x ^^^ y
def ku (x y:UInt8):UInt8:=x &&& y
def ja (x y:UInt8):UInt8:=x ||| y
def dB (x:UInt8) (n:Nat):UInt8:=UInt8.ofNat (x.toNat*2^n)
def dC (x:UInt8) (n:Nat):UInt8:=UInt8.ofNat (x.toNat / 2^n)
theorem jX (x:UInt8):x.toNat<256:=x.toNat_lt
theorem fY (x y:UInt8):bg .xor (.w (.c (.d (bD x)))) (.w (.c (.d (bD y))))=some (bD (am x y)):=by
  show ba .xor .u8 (x.toNat:Int) .u8 (y.toNat:Int)=_
  rw[pX,u8_xor_nat _ _ (jX x) (jX y)]; simp[am,bD]
theorem tL (x y:UInt8):bg .and (.w (.c (.d (bD x)))) (.w (.c (.d (bD y))))=some (bD (ku x y)):=by
  show ba .and .u8 (x.toNat:Int) .u8 (y.toNat:Int)=_
  rw[pW,u8_and_nat _ _ (jX x) (jX y)]; simp[ku,bD]
theorem uD (x y:UInt8):bg .or (.w (.c (.d (bD x)))) (.w (.c (.d (bD y))))=some (bD (ja x y)):=by
  show ba .or .u8 (x.toNat:Int) .u8 (y.toNat:Int)=_
  rw[qz,u8_or_nat _ _ (jX x) (jX y)]; simp[ja,bD]
theorem KB (x:UInt8) (k:IntKind) (n:Int) (h:0≤n):bg .shl (.w (.c (.d (bD x)))) (.w (.c (.d (.int k n))))=some (bD (dB x (min n.toNat 8))):=by
  show ba .shl .u8 (x.toNat:Int) k n=_
  rw[pY _ _ _ _ h,IntKind.wrap_u8]
  show some (D.int .u8 ((x.toNat:Int)*2^min n.toNat 8%256))=_
  have:(x.toNat:Int)*2^min n.toNat 8%256=((dB x (min n.toNat 8)).toNat:Int):=by unfold dB; simp
  rw[this]; rfl
theorem KC (x:UInt8) (k:IntKind) (n:Int) (h:0≤n):bg .shr (.w (.c (.d (bD x)))) (.w (.c (.d (.int k n))))=some (bD (dC x (min n.toNat 8))):=by
  show ba .shr .u8 (x.toNat:Int) k n=_
  rw[pZ _ _ _ _ h]
  show some (D.int .u8 ((x.toNat:Int) / 2^min n.toNat 8))=_
  have:(x.toNat:Int) / 2^min n.toNat 8=((dC x (min n.toNat 8)).toNat:Int):=by
    have h:x.toNat / 2^min n.toNat 8<256:=VS (Nat.div_le_self _ _) (jX x);unfold dC;rw[UInt8.toNat_ofNat_of_lt' (by simpa [UInt8.size] using h)];simp
  rw[this]; rfl
theorem KD (x y:UInt8):bg .eql (.w (.c (.d (bD x)))) (.w (.c (.d (bD y))))=some (.bool (x==y)):=by
  show ba .eql .u8 (x.toNat:Int) .u8 (y.toNat:Int)=_
  rw[pU];by_cases h:x=y
  ·subst h; simp
  ·have:¬ ((x.toNat:Int)=(y.toNat:Int)):=fun e=>h (UInt8.toNat_inj.1 (by omega))
   simp[this,h]
theorem KE (x y:UInt8):bg .neq (.w (.c (.d (bD x)))) (.w (.c (.d (bD y))))=some (.bool (x != y)):=by
  show ba .neq .u8 (x.toNat:Int) .u8 (y.toNat:Int)=_
  rw[pV];by_cases h:x=y
  ·subst h; simp
  ·have:¬ ((x.toNat:Int)=(y.toNat:Int)):=fun e=>h (UInt8.toNat_inj.1 (by omega))
   simp[this,h]
theorem IL (G:aj) (f:Nat→V):ev G f .u=.undef:=rfl
def HV (P:Program) (G:aj) (d:Option Nat) (r:List aI) (K:St→Prop) (f:Nat→V) (h:ak) (u:Nat→Bool) (F:Nat) (ds:List D):Prop:=au P G r K ⟨aT f d (.w (.c (.d (.fn F ds)))),h,u⟩
theorem DX (P:Program) (G:aj) (d:Option Nat) (r:List aI) (K:St→Prop) (f:Nat→V) (h:ak) (u:Nat→Bool) (F:Nat) (xs:List SX):au P G (⟨d,.clos F xs,none⟩::r) K ⟨f,h,u⟩=aN (dz (xs.map (ev G f))) (HV P G d r K f h u F):=by
  show (match (dz (xs.map (ev G f))).map fun ds=>((.w (.c (.d (.fn F ds))),h,u):R) with | some r=>_ | none=>False)=_
  cases dz (xs.map (ev G f)) <;> rfl
theorem BS (P:Program) (G:aj) (d:Option Nat) (r:List aI) (K:St→Prop) (f:Nat→V) (h:ak) (u:Nat→Bool) (F:Nat) (ds:List D):HV P G d r K f h u F ds=au P G r K ⟨aT f d (.w (.c (.d (.fn F ds)))),h,u⟩:=rfl
theorem zR:dz []=some []:=rfl
theorem BU (cs:List D) (r:List V):dz (.w (.c (.rp cs))::r)=(dz r).map fun l=>.ref cs::l:=by
  simp only[dz,iS]; cases dz r <;> rfl
theorem zS (k:IntKind) (n:Int) (r:List V):dz (.w (.c (.d (.int k n)))::r)=(dz r).map fun l=>.int k n::l:=by
  simp only[dz,iS]; cases dz r <;> rfl
theorem BV (es:List D) (r:List V):dz (.w (.c (.d (.sl es)))::r)=(dz r).map fun l=>.sl es::l:=by
  simp only[dz,iS]; cases dz r <;> rfl
def xB (P:Program) (G:aj) (body:aL) (K:AX→St→Prop) (e:AX) (s:St):Prop:=match e with | .nrm=>bd P G body K s | _=>False
def xC (f0:Nat→V) (I:Nat→ak→(Nat→Bool)→Prop) (Q:AX→St→Prop) (k:Nat) (e:AX) (s:St):Prop:=match e with
  | .nrm=>∃ h' u',ei s ⟨f0,h',u'⟩∧I (k+1) h' u'
  | e=>∃ h' u',ei s ⟨f0,h',u'⟩∧Q e ⟨f0,h',u'⟩
theorem BW (P:Program) (G:aj) (body:aL) (K:AX→St→Prop) (s:St):xB P G body K .nrm s=bd P G body K s:=rfl
def xD (st:Nat→ak×(Nat→Bool)) (k:Nat) (h:ak) (u:Nat→Bool):Prop:=(h,u)=st k
theorem LN {P:Program} {G:aj} {Q:AX→St→Prop} {σ:St} {x:SX} {ps:List Nat} {asg body:aL} {g:Nat} {caps:List D} {xs:List (List D)} (f0:Nat→V) {f1:Nat→V} (hf:f0=f1) (st:Nat→ak×(Nat→Bool))
    (hev:ev G σ.f x=.w (.c (.d (.fn g caps)))) (hseq:xx P G g caps xs) (hlen:∀ r∈xs,r.length=ps.length) (hent:ei σ ⟨f1,(st 0).1,(st 0).2⟩) (hun:∀ t∈ps++asg.writes++body.writes,f1 t=.undef)
    (round:∀ k r,xs[k]?=some r→bd P G asg (xB P G body (xC f0 (xD st) Q k)) ⟨mn f1 ps r,(st k).1,(st k).2⟩)
    (done:Q .nrm ⟨f1,(st xs.length).1,(st xs.length).2⟩):bd P G (.rangeF x ps asg body) Q σ:=by
  subst hf;refine⟨g,caps,xs,f0,(st 0).1,(st 0).2,fun k h u=>(h,u)=st k,hev,hseq,hlen,hent,hun,rfl,fun k r h u hr e=>?_,fun h u e=>?_⟩
  ·have:=round k r hr;rw[← e] at this
   have e1:(fun (e:AX) (s:St)=>match e with
       | .nrm=>bd P G body (fun e s'=>match e with
         | .nrm=>∃ h' u',ei s' ⟨f0,h',u'⟩∧(h',u')=st (k+1)
         | e=>∃ h' u',ei s' ⟨f0,h',u'⟩∧Q e ⟨f0,h',u'⟩) s
       | _=>False)=xB P G body (xC f0 (xD st) Q k):=by
     funext e s
     cases e with
     | nrm =>
       show bd P G body _ s=bd P G body _ s
       congr 1
     | _=>rfl
   rw[← e1] at this;exact this
  ·rw[← e] at done; exact done
theorem LO {f0:Nat→V} {f1:Nat→V} (hf:f0=f1) {st:Nat→ak×(Nat→Bool)} {Q:AX→St→Prop} {k:Nat} {s:St} (h:ei s ⟨f1,(st (k+1)).1,(st (k+1)).2⟩):xC f0 (xD st) Q k .nrm s:=⟨_,_,hf ▸ h,rfl⟩
def bC (x:UInt8):C:=.d (bD x)
theorem oh (l:List UInt8):(l.map bD).map C.d=l.map bC:=by rw[Wp]; rfl
theorem nD:∀ l:List UInt8,dP (l.map bC)=some (l.map bD)
  | []=>rfl
  | x::l=>by
    have h:=nD l
    show dP (C.d (bD x)::l.map bC)=_
    simp only[dP,h,UE,VY]
theorem LP {α β:Type} (f:α→β) (l cs:List α) (off:Nat):bV (l.map f) off (cs.map f)=(bV l off cs).map f:=by
  unfold bV; simp
theorem fH (l:List UInt8):(l.map bC).flatMap C.ids=[]:=by
  induction l with
  | nil=>rfl
  | cons x l ih=>rw[UE,UP,ih]; rfl
theorem mf (g:Nat→Nat) (l:List UInt8):(l.map bC).map (C.ren g)=l.map bC:=by rw[Wp]; rfl
theorem Qp (x c:UInt8) (n:Int) (h:n=(c.toNat:Int)):bg .eql (.w (.c (.d (bD x)))) (.w (.c (.d (.int .u8 n))))=some (.bool (x==c)):=by subst h; exact KD x c
theorem Qq (x c:UInt8) (n:Int) (h:n=(c.toNat:Int)):bg .neq (.w (.c (.d (bD x)))) (.w (.c (.d (.int .u8 n))))=some (.bool (x != c)):=by subst h; exact KE x c
theorem Qr (x c:UInt8) (n:Int) (h:n=(c.toNat:Int)):bg .xor (.w (.c (.d (bD x)))) (.w (.c (.d (.int .u8 n))))=some (bD (am x c)):=by subst h; exact fY x c
theorem Gi (x c:UInt8) (n:Int) (h:n=(c.toNat:Int)):bg .and (.w (.c (.d (bD x)))) (.w (.c (.d (.int .u8 n))))=some (bD (ku x c)):=by subst h; exact tL x c
theorem Gj (x:UInt8) (k:IntKind) (j:Nat) (n:Int) (h:n=(j:Int)) (hj:j≤8):bg .shr (.w (.c (.d (bD x)))) (.w (.c (.d (.int k n))))=some (bD (dC x j)):=by
  subst h;rw[KC _ _ _ (Int.natCast_nonneg j),Int.toNat_natCast,VP hj]
theorem Gk (x:UInt8) (k:IntKind) (j:Nat) (n:Int) (h:n=(j:Int)) (hj:j≤8):bg .shl (.w (.c (.d (bD x)))) (.w (.c (.d (.int k n))))=some (bD (dB x j)):=by
  subst h;rw[KB _ _ _ (Int.natCast_nonneg j),Int.toNat_natCast,VP hj]
def bf {α:Type} (n:Nat) (x:α):List α:=List.replicate n x
theorem cd {α:Type} (n:Nat) (x:α):(bf n x).length=n:=UW
theorem DY (n:Nat):bf n (C.d (D.int .u8 0))=(bf n (0:UInt8)).map bC:=by unfold bf; rw[List.map_replicate]; rfl
set_option maxRecDepth 100000
theorem jW {a b : Prop} (l : a) (r : b) : a ∧ b := And.intro l r
theorem wx:iI (jW @rB (jW @rC (jW @rD (jW @rE (jW @rF (jW @sx (jW @vR (jW @uY (jW @E6 (jW @E7 (jW @E5 (jW @vQ (jW @CM (jW @HA (jW @HB (jW @HC (jW @cr.eq_1 (jW @cr.eq_2 (jW @cr.eq_3 (jW @cr.eq_4 (jW @fu.eq_1 (jW @fu.eq_2 (jW @killAll.eq_1 (jW @killAll.eq_2 (jW @killAll.eq_3 (jW @IL (jW @DX (jW @BS (jW @zR (jW @BU (jW @zS (jW @BV (jW @BW (jW @ef.eq_1 (jW @ef.eq_2 (jW @ef.eq_3 (jW @ef.eq_4 (jW @ef.eq_5 (jW @ef.eq_6 (jW @ef.eq_7 (jW @ef.eq_8 (jW @ef.eq_9 (jW @ef.eq_10 (jW @ef.eq_11 (jW @ef.eq_12 (jW @ef.eq_13 (jW @ef.eq_14 (jW @ef.eq_15 (jW @ef.eq_16 (jW @ef.eq_17 (jW @ef.eq_18 (jW @ef.eq_19 (jW @ef.eq_20 (jW @ef.eq_21 (jW @ef.eq_22 (jW @ef.eq_23 (jW @ef.eq_24 (jW @ef.eq_25 (jW @ef.eq_26 (jW @ef.eq_27 (jW @ef.eq_28 (jW @ef.eq_29 (jW @ef.eq_30 (jW @ef.eq_31 (jW @ef.eq_32 (jW @ef.eq_33 (jW @ef.eq_34 (jW @ef.eq_35 (jW @ef.eq_36 (jW @ef.eq_37 (jW @ef.eq_38 (jW @ef.eq_39 (jW @ef.eq_40 (jW @ef.eq_41 (jW @ef.eq_42 (jW @ef.eq_43 (jW @ef.eq_44 (jW @ef.eq_45 (jW @ef.eq_46 (jW @ef.eq_47 (jW @ef.eq_48 (jW @ef.eq_49 (jW @ef.eq_50 (jW @ef.eq_51 (jW @ef.eq_52 (jW @ef.eq_53 (jW @bound.eq_1 (jW @bound.eq_2 (jW @i9.eq_1 (jW @i9.eq_2 (jW @i9.eq_3 (jW @i9.eq_4 (jW @fb.eq_1 (jW @bO.eq_1 (jW @bO.eq_2 (jW @bO.eq_3 (jW @bO.eq_4 (jW @bO.eq_5 (jW @bO.eq_6 (jW @bO.eq_7 (jW @bO.eq_8 (jW @de.eq_1 (jW @de.eq_2 (jW @de.eq_3 (jW @de.eq_4 (jW @de.eq_5 (jW @de.eq_6 (jW @de.eq_7 (jW @DG (jW @fE.eq_1 (jW @fE.eq_2 (jW @parts.eq_1 (jW @parts.eq_2 (jW @elems.eq_1 (jW @elems.eq_2 (jW @d7.eq_1 (jW @IJ (jW @IK (jW @F8 (jW @DW (jW @F9 (jW @HT (jW @Ga (jW @Gb (jW @Gd (jW @Ge (jW @HU (jW @Gf (jW @eK.eq_1 (jW @eK.eq_2 (jW @eK.eq_3 (jW @eK.eq_4 (jW @mm.eq_1 (jW @mm.eq_2 (jW @dP.eq_1 (jW @dP.eq_2 (jW @dP.eq_3 (jW @cZ.eq_1 (jW @cZ.eq_2 (jW @cZ.eq_3 (jW @cZ.eq_4 (jW @dp.eq_1 (jW @dp.eq_2 (jW @dp.eq_3 (jW @cu.eq_1 (jW @cu.eq_2 (jW @cu.eq_3 (jW @cu.eq_4 (jW @cu.eq_5 (jW @cu.eq_6 (jW @cu.eq_7 (jW @cu.eq_8 (jW @cu.eq_9 (jW @cu.eq_10 (jW @jx.eq_1 (jW @eM.eq_1 (jW @eM.eq_2 (jW @eM.eq_3 (jW @toW.eq_1 (jW @toW.eq_2 (jW @dd.eq_1 (jW @dd.eq_2 (jW @dd.eq_3 (jW @dd.eq_4 (jW @fa.eq_1 (jW @fa.eq_2 (jW @cC.eq_1 (jW @cC.eq_2 (jW @cQ.eq_1 (jW @cQ.eq_2 (jW @cQ.eq_3 (jW @ints.eq_1 (jW @ints.eq_2 (jW @ints.eq_3 (jW @cR.eq_1 (jW @cR.eq_2 (jW @cR.eq_3 (jW @iT.eq_1 (jW @iT.eq_2 (jW @iT.eq_3 (jW @W.ro.eq_1 (jW @W.ro.eq_2 (jW @C.ro.eq_1 (jW @C.ro.eq_2 (jW @V.ro.eq_1 (jW @V.ro.eq_2 (jW @V.ro.eq_3 (jW @kj.eq_1 (jW @kj.eq_2 (jW @kj.eq_3 (jW @Kd.size.eq_1 (jW @Kd.size.eq_2 (jW @zE (jW @yS (jW @zF (jW @BE (jW @zG (jW @bV.eq_1 (jW @bJ.eq_1 (jW @bJ.eq_2 (jW @Nat.min_def (jW @VY.{0,0} (jW @Option.map_none.{0,0} (jW @Bool.not_true (jW @Bool.not_false (jW @decide_true (jW @decide_false (jW @Bool.and_self (jW @UE.{0,0} (jW @UT.{0,0} (jW @List.any_cons.{0} (jW @List.any_nil.{0} (jW @Wn.{0} (jW @V7.{0} (jW @VO.{0} (jW @Vy.{0} (jW @Vf.{0} (jW @if_true.{1} (jW @if_false.{1} (jW @true_and (jW @and_true (jW @vd.eq_1 (jW @Int.natCast_nonneg (jW @VI.{0} (jW @Wb.{0} (jW @eF (jW @iG (jW @ie (jW @ji (jW @BJ (jW @BK (jW @HO (jW @HP (jW @DO (jW @DR (jW @HQ (jW @zK (jW @zL (jW @BP (jW @zM (jW @zN (jW @zO (jW @zP (jW @zQ (jW @fY (jW @tL (jW @uD (jW @Bs (jW @Bt (jW @Bu (jW @Bv (jW @Bw (jW @Bz (jW @BC (jW @BD (jW @BN (jW @BO (jW @BQ (jW @BR (jW @BI (jW @BF (jW @BG (jW @BH (jW @List.set_cons_zero.{0} (jW @List.set_cons_succ.{0} (jW @DT (jW @gH (jW @Kd.ag.injEq (jW @UF.{0} (jW @UW.{0} (jW @p0 (jW @DI (jW @kT (jW @F1 (jW @qA (jW @F2 (jW @DN (jW @Br (jW @Vq.{0} (jW @Vt.{0} (jW @List.take_succ_cons.{0} (jW @List.take_zero.{0} (jW @List.drop_succ_cons.{0} (jW @List.take_nil.{0} (jW @List.drop_nil.{0} (jW @UX.{0} (jW @UP.{0,0} (jW @List.flatMap_nil.{0,0} (jW @Option.bind_some.{0,0} (jW @ne_eq.{1} (jW @not_false_eq_true (@not_true_eq_false)))))))))))))))))))))))))))))))))))))))))))))))))))))))))))))))))))))))))))))))))))))))))))))))))))))))))))))))))))))))))))))))))))))))))))))))))))))))))))))))))))))))))))))))))))))))))))))))))))))))))))))))))))))))))))))))))))))))))))))))))))))))))))))))))))))))))))))))))))))))))))))))))))):=jW @rB (jW @rC (jW @rD (jW @rE (jW @rF (jW @sx (jW @vR (jW @uY (jW @E6 (jW @E7 (jW @E5 (jW @vQ (jW @CM (jW @HA (jW @HB (jW @HC (jW @cr.eq_1 (jW @cr.eq_2 (jW @cr.eq_3 (jW @cr.eq_4 (jW @fu.eq_1 (jW @fu.eq_2 (jW @killAll.eq_1 (jW @killAll.eq_2 (jW @killAll.eq_3 (jW @IL (jW @DX (jW @BS (jW @zR (jW @BU (jW @zS (jW @BV (jW @BW (jW @ef.eq_1 (jW @ef.eq_2 (jW @ef.eq_3 (jW @ef.eq_4 (jW @ef.eq_5 (jW @ef.eq_6 (jW @ef.eq_7 (jW @ef.eq_8 (jW @ef.eq_9 (jW @ef.eq_10 (jW @ef.eq_11 (jW @ef.eq_12 (jW @ef.eq_13 (jW @ef.eq_14 (jW @ef.eq_15 (jW @ef.eq_16 (jW @ef.eq_17 (jW @ef.eq_18 (jW @ef.eq_19 (jW @ef.eq_20 (jW @ef.eq_21 (jW @ef.eq_22 (jW @ef.eq_23 (jW @ef.eq_24 (jW @ef.eq_25 (jW @ef.eq_26 (jW @ef.eq_27 (jW @ef.eq_28 (jW @ef.eq_29 (jW @ef.eq_30 (jW @ef.eq_31 (jW @ef.eq_32 (jW @ef.eq_33 (jW @ef.eq_34 (jW @ef.eq_35 (jW @ef.eq_36 (jW @ef.eq_37 (jW @ef.eq_38 (jW @ef.eq_39 (jW @ef.eq_40 (jW @ef.eq_41 (jW @ef.eq_42 (jW @ef.eq_43 (jW @ef.eq_44 (jW @ef.eq_45 (jW @ef.eq_46 (jW @ef.eq_47 (jW @ef.eq_48 (jW @ef.eq_49 (jW @ef.eq_50 (jW @ef.eq_51 (jW @ef.eq_52 (jW @ef.eq_53 (jW @bound.eq_1 (jW @bound.eq_2 (jW @i9.eq_1 (jW @i9.eq_2 (jW @i9.eq_3 (jW @i9.eq_4 (jW @fb.eq_1 (jW @bO.eq_1 (jW @bO.eq_2 (jW @bO.eq_3 (jW @bO.eq_4 (jW @bO.eq_5 (jW @bO.eq_6 (jW @bO.eq_7 (jW @bO.eq_8 (jW @de.eq_1 (jW @de.eq_2 (jW @de.eq_3 (jW @de.eq_4 (jW @de.eq_5 (jW @de.eq_6 (jW @de.eq_7 (jW @DG (jW @fE.eq_1 (jW @fE.eq_2 (jW @parts.eq_1 (jW @parts.eq_2 (jW @elems.eq_1 (jW @elems.eq_2 (jW @d7.eq_1 (jW @IJ (jW @IK (jW @F8 (jW @DW (jW @F9 (jW @HT (jW @Ga (jW @Gb (jW @Gd (jW @Ge (jW @HU (jW @Gf (jW @eK.eq_1 (jW @eK.eq_2 (jW @eK.eq_3 (jW @eK.eq_4 (jW @mm.eq_1 (jW @mm.eq_2 (jW @dP.eq_1 (jW @dP.eq_2 (jW @dP.eq_3 (jW @cZ.eq_1 (jW @cZ.eq_2 (jW @cZ.eq_3 (jW @cZ.eq_4 (jW @dp.eq_1 (jW @dp.eq_2 (jW @dp.eq_3 (jW @cu.eq_1 (jW @cu.eq_2 (jW @cu.eq_3 (jW @cu.eq_4 (jW @cu.eq_5 (jW @cu.eq_6 (jW @cu.eq_7 (jW @cu.eq_8 (jW @cu.eq_9 (jW @cu.eq_10 (jW @jx.eq_1 (jW @eM.eq_1 (jW @eM.eq_2 (jW @eM.eq_3 (jW @toW.eq_1 (jW @toW.eq_2 (jW @dd.eq_1 (jW @dd.eq_2 (jW @dd.eq_3 (jW @dd.eq_4 (jW @fa.eq_1 (jW @fa.eq_2 (jW @cC.eq_1 (jW @cC.eq_2 (jW @cQ.eq_1 (jW @cQ.eq_2 (jW @cQ.eq_3 (jW @ints.eq_1 (jW @ints.eq_2 (jW @ints.eq_3 (jW @cR.eq_1 (jW @cR.eq_2 (jW @cR.eq_3 (jW @iT.eq_1 (jW @iT.eq_2 (jW @iT.eq_3 (jW @W.ro.eq_1 (jW @W.ro.eq_2 (jW @C.ro.eq_1 (jW @C.ro.eq_2 (jW @V.ro.eq_1 (jW @V.ro.eq_2 (jW @V.ro.eq_3 (jW @kj.eq_1 (jW @kj.eq_2 (jW @kj.eq_3 (jW @Kd.size.eq_1 (jW @Kd.size.eq_2 (jW @zE (jW @yS (jW @zF (jW @BE (jW @zG (jW @bV.eq_1 (jW @bJ.eq_1 (jW @bJ.eq_2 (jW @Nat.min_def (jW @VY.{0,0} (jW @Option.map_none.{0,0} (jW @Bool.not_true (jW @Bool.not_false (jW @decide_true (jW @decide_false (jW @Bool.and_self (jW @UE.{0,0} (jW @UT.{0,0} (jW @List.any_cons.{0} (jW @List.any_nil.{0} (jW @Wn.{0} (jW @V7.{0} (jW @VO.{0} (jW @Vy.{0} (jW @Vf.{0} (jW @if_true.{1} (jW @if_false.{1} (jW @true_and (jW @and_true (jW @vd.eq_1 (jW @Int.natCast_nonneg (jW @VI.{0} (jW @Wb.{0} (jW @eF (jW @iG (jW @ie (jW @ji (jW @BJ (jW @BK (jW @HO (jW @HP (jW @DO (jW @DR (jW @HQ (jW @zK (jW @zL (jW @BP (jW @zM (jW @zN (jW @zO (jW @zP (jW @zQ (jW @fY (jW @tL (jW @uD (jW @Bs (jW @Bt (jW @Bu (jW @Bv (jW @Bw (jW @Bz (jW @BC (jW @BD (jW @BN (jW @BO (jW @BQ (jW @BR (jW @BI (jW @BF (jW @BG (jW @BH (jW @List.set_cons_zero.{0} (jW @List.set_cons_succ.{0} (jW @DT (jW @gH (jW @Kd.ag.injEq (jW @UF.{0} (jW @UW.{0} (jW @p0 (jW @DI (jW @kT (jW @F1 (jW @qA (jW @F2 (jW @DN (jW @Br (jW @Vq.{0} (jW @Vt.{0} (jW @List.take_succ_cons.{0} (jW @List.take_zero.{0} (jW @List.drop_succ_cons.{0} (jW @List.take_nil.{0} (jW @List.drop_nil.{0} (jW @UX.{0} (jW @UP.{0,0} (jW @List.flatMap_nil.{0,0} (jW @Option.bind_some.{0,0} (jW @ne_eq.{1} (jW @not_false_eq_true (@not_true_eq_false)))))))))))))))))))))))))))))))))))))))))))))))))))))))))))))))))))))))))))))))))))))))))))))))))))))))))))))))))))))))))))))))))))))))))))))))))))))))))))))))))))))))))))))))))))))))))))))))))))))))))))))))))))))))))))))))))))))))))))))))))))))))))))))))))))))))))))))))))))))))))))))))))))
theorem wy:iI (jW @HS (jW @yA (jW @DU (jW @BL (jW @DV (jW @F7 (jW @fO (jW @rH (@cond_true.{1}))))))))):=jW @HS (jW @yA (jW @DU (jW @BL (jW @DV (jW @F7 (jW @fO (jW @rH (@cond_true.{1}))))))))
theorem wz:iI (jW @Bool.false_and (jW @Bool.and_false (jW @zI (jW @Nat.sub_zero (jW @zH (jW @yT (jW @beq_self_eq_true.{0} (jW @Wh (jW @Wi (jW @ID (jW @IE (jW @IF (jW @IG (jW @IH (jW @II (jW @VM.{0} (jW @VT (jW @Nat.one_mul (jW @VH (jW @VG (jW @F5 (jW @vZ (jW @F6 (jW @HR (jW @Int.natCast_add (jW @Int.natCast_mul (jW @Int.natCast_one (jW @Wq (@Int.cast_ofNat_Int))))))))))))))))))))))))))))):=jW @Bool.false_and (jW @Bool.and_false (jW @zI (jW @Nat.sub_zero (jW @zH (jW @yT (jW @beq_self_eq_true.{0} (jW @Wh (jW @Wi (jW @ID (jW @IE (jW @IF (jW @IG (jW @IH (jW @II (jW @VM.{0} (jW @VT (jW @Nat.one_mul (jW @VH (jW @VG (jW @F5 (jW @vZ (jW @F6 (jW @HR (jW @Int.natCast_add (jW @Int.natCast_mul (jW @Int.natCast_one (jW @Wq (@Int.cast_ofNat_Int))))))))))))))))))))))))))))
theorem aw:iI (jW @V.ren.eq_1 (jW @V.ren.eq_2 (jW @V.ren.eq_3 (jW @W.ren.eq_1 (jW @W.ren.eq_2 (jW @C.ren.eq_1 (jW @C.ren.eq_2 (jW @C.ren.eq_3 (jW @C.ren.eq_4 (jW @C.ren.eq_5 (jW @C.ren.eq_6 (jW @V.ids.eq_1 (jW @V.ids.eq_2 (jW @V.ids.eq_3 (jW @W.ids.eq_1 (jW @W.ids.eq_2 (jW @C.ids.eq_1 (jW @C.ids.eq_2 (jW @C.ids.eq_3 (jW @C.ids.eq_4 (jW @C.ids.eq_5 (jW @C.ids.eq_6 (jW @Ob.ren.eq_1 (jW @Ob.ren.eq_2 (jW @Ob.ren.eq_3 (jW @Ob.ren.eq_4 (jW @Ob.ids.eq_1 (jW @Ob.ids.eq_2 (jW @Ob.ids.eq_3 (jW @Ob.ids.eq_4 (jW @Int.cast_ofNat_Int (jW @VM.{0} (jW @DJ (jW @Bp (jW @DK (jW @Bq (jW @id_eq.{1} (jW @VT (jW @Nat.mul_zero (jW @V6 (@Vv.{0}))))))))))))))))))))))))))))))))))))))))):=jW @V.ren.eq_1 (jW @V.ren.eq_2 (jW @V.ren.eq_3 (jW @W.ren.eq_1 (jW @W.ren.eq_2 (jW @C.ren.eq_1 (jW @C.ren.eq_2 (jW @C.ren.eq_3 (jW @C.ren.eq_4 (jW @C.ren.eq_5 (jW @C.ren.eq_6 (jW @V.ids.eq_1 (jW @V.ids.eq_2 (jW @V.ids.eq_3 (jW @W.ids.eq_1 (jW @W.ids.eq_2 (jW @C.ids.eq_1 (jW @C.ids.eq_2 (jW @C.ids.eq_3 (jW @C.ids.eq_4 (jW @C.ids.eq_5 (jW @C.ids.eq_6 (jW @Ob.ren.eq_1 (jW @Ob.ren.eq_2 (jW @Ob.ren.eq_3 (jW @Ob.ren.eq_4 (jW @Ob.ids.eq_1 (jW @Ob.ids.eq_2 (jW @Ob.ids.eq_3 (jW @Ob.ids.eq_4 (jW @Int.cast_ofNat_Int (jW @VM.{0} (jW @DJ (jW @Bp (jW @DK (jW @Bq (jW @id_eq.{1} (jW @VT (jW @Nat.mul_zero (jW @V6 (@Vv.{0}))))))))))))))))))))))))))))))))))))))))
theorem aH:iI (jW @Int.natCast_add (jW @Int.natCast_mul (jW @Int.natCast_one (@Wq)))):=jW @Int.natCast_add (jW @Int.natCast_mul (jW @Int.natCast_one (@Wq)))
theorem ae:iI (jW @wx (jW @wy @wz)):=jW @wx (jW @wy @wz)
theorem aP {σ:St} {p:Nat×Option Kd} {x:D} (h1:(bJ σ p).bind (toW σ.h)=some x:=by simp only[ae,aa,seval,iteOmega,toNatUp]):cI σ [p] (.w (.c (.d x))):=nR h1
theorem eS {σ:St} {p q:Nat×Option Kd} {x y:D} (h1:(bJ σ p).bind (toW σ.h)=some x:=by simp only[ae,aa,seval,iteOmega,toNatUp]) (h2:(bJ σ q).bind (toW σ.h)=some y:=by simp only[ae,aa,seval,iteOmega,toNatUp]):cI σ [p,q] (.tup [.c (.d x),.c (.d y)]):=dv h1 h2
theorem gX {σ:St} {p q r:Nat×Option Kd} {x y z:D} (h1:(bJ σ p).bind (toW σ.h)=some x:=by simp only[ae,aa,seval,iteOmega,toNatUp]) (h2:(bJ σ q).bind (toW σ.h)=some y:=by simp only[ae,aa,seval,iteOmega,toNatUp]) (h3:(bJ σ r).bind (toW σ.h)=some z:=by simp only[ae,aa,seval,iteOmega,toNatUp]):cI σ [p,q,r] (.tup [.c (.d x),.c (.d y),.c (.d z)]):=gL h1 h2 h3
theorem gz {σ:St} {p:Nat×Option Kd} {sz:Nat} {es:List D} (h1:(bJ σ p).bind (iU σ.h sz)=some es:=by simp only[ae,aa,seval,iteOmega,toNatUp]):cI σ [p] (.w (.c (.fr sz es))):=Gg h1
theorem cv {σ:St} {p q:Nat×Option Kd} {sz:Nat} {es:List D} {y:D} (h1:(bJ σ p).bind (iU σ.h sz)=some es:=by simp only[ae,aa,seval,iteOmega,toNatUp]) (h2:bJ σ q=some (.c (.d y)):=by simp only[ae,aa,seval,iteOmega,toNatUp]):cI σ [p,q] (.tup [.c (.fr sz es),.c (.d y)]):=v7 h1 h2
theorem sD {P:Program} {G:aj} {K:St→Prop} {r:List aI} {f:Nat→V} {h:ak} {u:Nat→Bool} {d:Option Nat} {fn:FuncId} {xs:List SX} {own:Option (Nat×Nat)} {ds:List D} {res:V} {q:Prop} (h2:ar P G fn ds res) (e:q)
    (hq:aN (cR h u (d.getD 0) own res) (ce P G d r K f)=q:=by simp only[ae,aa,seval,iteOmega,toNatUp]; rfl) (h1:cC h (xs.map (ev G f))=some ds:=by exact rfl)
    (h3:((xs.map (ev G f)).any V.hasOwn=false∨res.flat=true):=by exact .inl rfl) (hne:fn≠eQ:=by decide) (hp:gJ own (xs.map (ev G f)):=by first | exact nn _ | exact nB _ _ _ | exact nq _ _ rfl):au P G (⟨d,.call fn xs own,none⟩::r) K ⟨f,h,u⟩ :=
  sC h2 (hq ▸ e) h1 h3 hne hp
def fW (x:UInt8):UInt8:=am (dB x 1) (if x<128 then 0 else 27)
def iX (c:Bool) (v:UInt8):UInt8:=if c then v else 0
def iY (y:UInt8) (i:Nat):Bool:=y.toNat.testBit i
def xZ (x:UInt8):Nat→UInt8
  | 0=>x
  | n+1=>fW (xZ x n)
def I5 (x y:UInt8):Nat→UInt8
  | 0=>0
  | n+1=>am (I5 x y n) (iX (iY y n) (xZ x n))
def fI (x y:UInt8):UInt8:=I5 x y 8
theorem zY (x y:UInt8):am x y=am y x:=UInt8.xor_comm x y
theorem lM (x y z:UInt8):am (am x y) z=am x (am y z):=UInt8.xor_assoc x y z
theorem tR (x:UInt8):am x 0=x:=UInt8.xor_zero
theorem zZ (x:UInt8):am x x=0:=UInt8.xor_self
theorem KO (a b c d:UInt8):am (am a b) (am c d)=am (am a c) (am b d):=by
  rw[lM,← lM b,zY b c,lM c,← lM]
def xE (f:UInt8→UInt8):Prop:=∀ a b,f (am a b)=am (f a) (f b)
theorem LZ (x y:UInt8) (i:Nat):iY (am x y) i=(iY x i ^^ iY y i):=by
  unfold iY am;rw[UInt8.toNat_xor,Vr]
theorem L0 (c d:Bool) (v:UInt8):iX (c ^^ d) v=am (iX c v) (iX d v):=by
  cases c <;> cases d <;> simp[iX,am]
def kw (f:UInt8→UInt8) (x:UInt8):Nat→UInt8
  | 0=>0
  | n+1=>am (kw f x n) (iX (iY x n) (f (UInt8.ofNat (2^n))))
theorem Ca (f:UInt8→UInt8):∀ n,xE fun x=>kw f x n
  | 0=>fun a b=>(zZ 0).symm
  | n+1=>fun a b=>by
    show am (kw f (am a b) n) (iX (iY (am a b) n) _)=_
    rw[show kw f (am a b) n=am (kw f a n) (kw f b n) from Ca f n a b,LZ,L0,KO];rfl
theorem QA {f:UInt8→UInt8} (h:∀ x,f x=kw f x 8):xE f:=by
  intro a b;rw[h,h a,h b];exact Ca f 8 a b
theorem kg {p:UInt8→Bool} (h:((List.range 256).all fun i=>p (UInt8.ofNat i))=true) (x:UInt8):p x=true:=by
  have:=UN.1 h x.toNat (Wj.2 x.toNat_lt)
  simpa using this
theorem NV:xE fW:=QA fun x=>by
  have:=kg (p:=fun x=>fW x==kw fW x 8) (by decide +kernel) x
  simpa using this
def rL (x:UInt8) (n:Nat):UInt8:=ja (dB x n) (dC x (8-n))
def IM (y:UInt8):UInt8:=am (am (am (am (am y (rL y 1)) (rL y 2)) (rL y 3)) (rL y 4)) 99
def IP (x:UInt8):UInt8 :=
  let x2:=fI x x
  let x3:=fI x2 x
  let x6:=fI x3 x3
  let x12:=fI x6 x6
  let x15:=fI x12 x3
  let x30:=fI x15 x15
  let x60:=fI x30 x30
  let x120:=fI x60 x60
  let x240:=fI x120 x120
  fI (fI x240 x12) x2
def xF:List UInt8:=(List.range 256).map fun i=>IM (IP (UInt8.ofNat i))
def dl (x:UInt8):UInt8:=IM (IP x)
theorem Ma (x:UInt8):xF[x.toNat]?=some (dl x):=by
  unfold xF dl;rw[VC,List.getElem?_range x.toNat_lt];simp
instance:Std.Associative am:=⟨lM⟩
instance:Std.Commutative am:=⟨zY⟩
def x5 (x:UInt8):UInt8:=fI x 2
def sy (a b c d:UInt8):UInt8:=am (am (am (am (x5 a) (x5 b)) b) c) d
abbrev cV:=Nat→UInt8
def fR (s k:cV):cV:=fun j=>am (s j) (k j)
def gO (s:cV):cV:=fun j=>dl (s (j%4+4*((j / 4+j%4)%4)))
def fS (t:cV):cV:=fun j=>sy (t (4*(j / 4)+j%4)) (t (4*(j / 4)+(j%4+1)%4)) (t (4*(j / 4)+(j%4+2)%4)) (t (4*(j / 4)+(j%4+3)%4))
def H0 (s t:cV):Prop:=∀ j,j<16→s j=t j
def wc (k:Nat→cV) (s:cV) (n:Nat):cV:=if n<10 then fR (fS (gO s)) (k n) else fR (gO s) (k n)
def gR (k:Nat→cV) (s:cV):Nat→cV
  | 0=>fR s (k 0)
  | n+1=>wc k (gR k s n) (n+1)
def gr (n:Nat):UInt8:=xZ 1 n
def mA (t:List UInt8) (n:Nat):List UInt8 :=
  if n%4=0 then [am (dl (t.getD 1 0)) (gr (n / 4)),dl (t.getD 2 0),dl (t.getD 3 0),dl (t.getD 0 0)]
  else [t.getD 0 0,t.getD 1 0,t.getD 2 0,t.getD 3 0]
def ju (l:List UInt8) (n:Nat):List UInt8 :=
  (List.range 4).map fun k=>am (l.getD (4*n+k) 0) ((mA (l.drop (12+4*n)) n).getD k 0)
def df (key:List UInt8):Nat→List UInt8
  | 0=>key
  | n+1=>df key n++ju (df key n) n
def aC (key:List UInt8):List UInt8:=df key 40
theorem KP (l:List UInt8) (n:Nat):(ju l n).length=4:=by simp[ju]
theorem kU {key:List UInt8} (h:key.length=16):∀ n,(df key n).length=16+4*n
  | 0=>h
  | n+1=>by rw[df,UF,kU h n,KP]; omega
theorem vq {key:List UInt8} (h:key.length=16):(aC key).length=176:=kU h 40
def bF (f:cV):List UInt8:=(List.range 16).map f
theorem eY (f:cV):(bF f).length=16:=by simp[bF]
theorem qF (f:cV) {j:Nat} (h:j<16):(bF f)[j]?=some (f j):=by simp[bF,h]
def aS (l:List UInt8):cV:=fun j=>l.getD j 0
theorem QB {l:List UInt8} (h:l.length=16):bF (aS l)=l:=by
  apply V9;intro i;by_cases hi:i<16
  ·rw[qF _ hi,aS,UD,UB (by omega)]; rfl
  ·rw[Vj (by rw[eY]; omega),Vj (by omega)]
theorem tS {f g:cV} (h:H0 f g):bF f=bF g:=Vd fun j hj=>h j (Wj.1 hj)
def dm (rk:List UInt8) (n:Nat):cV:=fun j=>rk.getD (16*n+j) 0
def dD (rk b:List UInt8):List UInt8:=bF (gR (dm rk) (aS b) 10)
theorem ib (rk b:List UInt8):(dD rk b).length=16:=eY _
def qZ (key b:List UInt8):List UInt8:=dD (aC key) b
def cE:List UInt8→List UInt8×Bool
  | []=>([],true)
  | x::r=>let (s,c):=cE r; if c then ((x+1)::s,x+1==0) else (x::s,false)
def jv (c:List UInt8):List UInt8:=(cE c).1
theorem uF:∀ c,(cE c).1.length=c.length
  | []=>rfl
  | x::r=>by
    have:=uF r;simp only[cE];split <;> simp[this]
theorem z0 (c:List UInt8):(jv c).length=c.length:=uF c
def d8 (c:List UInt8):Nat→List UInt8
  | 0=>c
  | n+1=>jv (d8 c n)
theorem Cb (c:List UInt8):∀ n,(d8 c n).length=c.length
  | 0=>rfl
  | n+1=>by rw[d8,z0,Cb c n]
def lv (rk c:List UInt8):Nat→List UInt8
  | 0=>[]
  | n+1=>lv rk c n++dD rk (d8 c n)
theorem lW (rk c:List UInt8):∀ n,(lv rk c n).length=16*n
  | 0=>rfl
  | n+1=>by rw[lv,UF,lW rk c n,ib]; omega
def kx (a b:List UInt8):List UInt8:=List.zipWith am a b
def eL (rk c b:List UInt8):List UInt8:=kx b (lv rk c ((b.length+15) / 16))
theorem Cc {a b:List UInt8} (h:a.length≤b.length):(kx a b).length=a.length:=by
  simp[kx]; omega
theorem pJ (rk c b:List UInt8):(eL rk c b).length=b.length:=Cc (by rw[lW]; omega)
theorem yU:∀ {a b:List UInt8},a.length≤b.length→kx (kx a b) b=a
  | [],_,_=>by simp[kx]
  | x::a,[],h=>by simp at h
  | x::a,y::b,h=>by
    have h1:=yU (a:=a) (b:=b) (by simpa using h);simp only[kx,List.zipWith_cons_cons,List.cons.injEq] at h1 ⊢;exact⟨by rw[lM,zZ,tR],h1⟩
theorem Jp (rk c b:List UInt8):eL rk c (eL rk c b)=b:=by
  unfold eL;have h:b.length≤(lv rk c ((b.length+15) / 16)).length:=by rw[lW]; omega
  rw[Cc h,yU h]
def xG (b:cV):cV:=fun j=>am (am (dB (b j) 1) (if j<15 then dC (b (j+1)) 7 else 0)) (if j=15 then iX (iY (b 0) 7) 135 else 0)
theorem QN (x y:UInt8):ja (dB x 1) (dC y 7)=am (dB x 1) (dC y 7):=by
  have h:dC y 7=0∨dC y 7=1:=by
    have:=kg (p:=fun y=>dC y 7==0 || dC y 7==1) (by decide +kernel) y
    simpa using this
  rcases h with h | h <;> rw[h]
  ·have:=kg (p:=fun x=>ja (dB x 1) 0==am (dB x 1) 0) (by decide +kernel) x;rw[beq_iff_eq] at this; exact this
  ·have:=kg (p:=fun x=>ja (dB x 1) 1==am (dB x 1) 1) (by decide +kernel) x;rw[beq_iff_eq] at this; exact this
def eb (b:List UInt8):List UInt8:=if b.length=16 then bF (xG (aS b)) else []
theorem kQ {b:List UInt8} (h:b.length=16):(eb b).length=16:=by rw[eb,if_pos h,eY]
def bZ:List UInt8→List UInt8→List UInt8
  | x::a,y::b=>am x y::bZ a b
  | a,_=>a
theorem gE:∀ a b:List UInt8,(bZ a b).length=a.length
  | [],_=>by simp[bZ]
  | x::a,[]=>rfl
  | x::a,y::b=>by simp[bZ,gE a b]
theorem Ci:∀ (a b:List UInt8) (i:Nat),i<a.length→i<b.length→(bZ a b).getD i 0=am (a.getD i 0) (b.getD i 0)
  | [],_,_,h,_=>by simp at h
  | x::a,[],_,_,h=>by simp at h
  | x::a,y::b,0,_,_=>rfl
  | x::a,y::b,i+1,h,g=>by
    show (bZ a b).getD i 0=_
    rw[Ci a b i (by simpa using h) (by simpa using g)]; rfl
def eZ:List UInt8:=List.replicate 16 0
def gS (b:List UInt8):List UInt8:=b++List.replicate ((16-b.length%16)%16) 0
def gT (rk:List UInt8):List UInt8:=eb (dD rk eZ)
def jD (rk:List UInt8):List UInt8:=eb (gT rk)
def fT (rk b:List UInt8):Nat→List UInt8
  | 0=>eZ
  | n+1=>dD rk (bZ (fT rk b n) ((b.drop (16*n)).take 16))
def kY (b:List UInt8):Nat:=(b.length+15) / 16-1
def jE (rk e:List UInt8):List UInt8:=if e.length=16 then bZ e (gT rk) else bZ (gS (e++[128])) (jD rk)
def gv (rk b:List UInt8):List UInt8:=dD rk (bZ (fT rk b (kY b)) (jE rk (b.drop (16*kY b))))
theorem qe (rk b:List UInt8):∀ n,(fT rk b n).length=16
  | 0=>by simp[fT,eZ]
  | n+1=>ib _ _
theorem qf (rk b:List UInt8):(gv rk b).length=16:=ib _ _
theorem uK (rk:List UInt8):(gT rk).length=16:=kQ (ib _ _)
theorem Mq (rk:List UInt8):(jD rk).length=16:=kQ (uK _)
theorem tA {b:List UInt8} (h:b.length<16):(gS (b++[128])).length=16:=by
  simp[gS]; omega
theorem Mr {rk e:List UInt8} (h:e.length≤16):(jE rk e).length=16:=by
  unfold jE;split
  ·rw[gE]; assumption
  ·rw[gE,tA (by omega)]
def gw (rk:List UInt8) (l:List (List UInt8)):Nat→List UInt8
  | 0=>gv rk eZ
  | n+1=>bZ (eb (gw rk l n)) (gv rk (l.getD n []))
def ix (rk:List UInt8) (l:List (List UInt8)):List UInt8 :=
  if l.length=0 then gv rk (List.replicate 15 0++[1])
  else
    let d:=gw rk l (l.length-1)
    let s:=l.getD (l.length-1) []
    if 16≤s.length then gv rk (s.take (s.length-16)++bZ (s.drop (s.length-16)) d)
    else gv rk (bZ (eb d) (gS (s++[128])))
theorem Cj (rk:List UInt8) (l:List (List UInt8)):∀ n,(gw rk l n).length=16
  | 0=>qf _ _
  | n+1=>by rw[gw,gE,kQ (Cj rk l n)]
theorem Ms (rk:List UInt8) (l:List (List UInt8)):(ix rk l).length=16:=by
  unfold ix;split
  ·exact qf _ _
  ·dsimp only;split <;> exact qf _ _
end Go.Proofs.Ytofonnokanoflaa
