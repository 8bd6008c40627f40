/- Texts of one's own, merged: from: The plain logic (20): words of 32 bits. Own work. -/
import Derived.Laws.BitsLemmas
import Derived.Laws.Bits64
import Derived.Laws.BitsAllLaws
import Derived.Test.YtbkhllchjbjhgaaDoorMg16
set_option linter.unusedVariables false
set_option linter.unusedSimpArgs false
namespace Go.Proofs.YtbkhllchjbjhgaaDoor
open Go.RowKit IntWalk
def en (x y:UInt32):UInt32:=x ^^^ y
def gX (x y:UInt32):UInt32:=x &&& y
def fV (x y:UInt32):UInt32:=x ||| y
def aY (x y:UInt32):UInt32:=x+y
def ni (x:UInt32):UInt32:=UInt32.ofNat (4294967295-x.toNat)
def jq (x:UInt32) (n:Nat):UInt32:=UInt32.ofNat (x.toNat / 2^n)
def gE (x:UInt32) (n:Nat):UInt32:=UInt32.ofNat (x.toNat*2^n)
def eE (x:UInt32) (n:Nat):UInt32:=fV (jq x n) (gE x (32-n))
def gr (b:UInt8):UInt32:=UInt32.ofNat b.toNat
theorem word_lt (x:UInt32):x.toNat<4294967296:=x.toNat_lt
theorem D9 (x y:UInt32):bits .xor .u32 (x.toNat:Int) (y.toNat:Int)=((en x y).toNat:Int):=by
  rw[u32_xor_nat _ _ (word_lt x) (word_lt y)]; simp[en]
theorem Ea (x y:UInt32):bits .and .u32 (x.toNat:Int) (y.toNat:Int)=((gX x y).toNat:Int):=by
  rw[u32_and_nat _ _ (word_lt x) (word_lt y)]; simp[gX]
theorem Fq (x y:UInt32):bits .or .u32 (x.toNat:Int) (y.toNat:Int)=((fV x y).toNat:Int):=by
  rw[u32_or_nat _ _ (word_lt x) (word_lt y)]; simp[fV]
theorem Eb (x y:UInt32):IntKind.u32.wrap ((x.toNat:Int)+(y.toNat:Int))=((aY x y).toNat:Int):=by
  rw[IntKind.wrap_u32]; simp[aY]
theorem Fs (x:UInt32) (n:Nat):(x.toNat:Int) / 2^n=((jq x n).toNat:Int):=by
  have h:x.toNat / 2^n<4294967296:=Nat.lt_of_le_of_lt (Nat.div_le_self _ _) (word_lt x);unfold jq;rw[UInt32.toNat_ofNat_of_lt' (by simpa [UInt32.size] using h)];simp
theorem Ft (x:UInt32) (n:Nat):(x.toNat:Int)*2^n%4294967296=((gE x n).toNat:Int):=by
  unfold gE;simp
theorem Fu (x:UInt32):(4294967295:Int)-(x.toNat:Int)=((ni x).toNat:Int):=by
  have h:=word_lt x;unfold ni;rw[UInt32.toNat_ofNat_of_lt' (by simp[UInt32.size]; omega)];omega
theorem tM (b:UInt8):(b.toNat:Int)=((gr b).toNat:Int):=by
  have h:=b.toNat_lt;unfold gr;rw[UInt32.toNat_ofNat_of_lt' (by simp[UInt32.size]; omega)]
theorem tN (x y:UInt32):aX .xor (.w (.c (.d (wD x)))) (.w (.c (.d (wD y))))=some (wD (en x y)):=by
  show aR .xor .u32 (x.toNat:Int) .u32 (y.toNat:Int)=_
  rw[lE,D9]; rfl
theorem tO (x y:UInt32):aX .and (.w (.c (.d (wD x)))) (.w (.c (.d (wD y))))=some (wD (gX x y)):=by
  show aR .and .u32 (x.toNat:Int) .u32 (y.toNat:Int)=_
  rw[lD,Ea]; rfl
theorem wg (x y:UInt32):aX .or (.w (.c (.d (wD x)))) (.w (.c (.d (wD y))))=some (wD (fV x y)):=by
  show aR .or .u32 (x.toNat:Int) .u32 (y.toNat:Int)=_
  rw[lX,Fq]; rfl
theorem tP (x y:UInt32):aX .add (.w (.c (.d (wD x)))) (.w (.c (.d (wD y))))=some (wD (aY x y)):=by
  show aR .add .u32 (x.toNat:Int) .u32 (y.toNat:Int)=_
  rw[lA,Eb]; rfl
theorem tQ (x:UInt32) (k:IntKind) (n:Int) (h:0≤n):aX .shl (.w (.c (.d (wD x)))) (.w (.c (.d (.int k n))))=some (wD (gE x (min n.toNat 32))):=by
  show aR .shl .u32 (x.toNat:Int) k n=_
  rw[lF _ _ _ _ h,IntKind.wrap_u32]
  show some (D.int .u32 ((x.toNat:Int)*2^min n.toNat 32%4294967296))=_
  rw[Ft]; rfl
theorem tR (x:UInt32) (k:IntKind) (n:Int) (h:0≤n):aX .shr (.w (.c (.d (wD x)))) (.w (.c (.d (.int k n))))=some (wD (jq x (min n.toNat 32))):=by
  show aR .shr .u32 (x.toNat:Int) k n=_
  rw[lG _ _ _ _ h]
  show some (D.int .u32 ((x.toNat:Int) / 2^min n.toNat 32))=_
  rw[Fs]; rfl
theorem wh (x:UInt32):fT .xor (.w (.c (.d (wD x))))=some (wD (ni x)):=by
  have:bits .xor .u32 4294967295 (x.toNat:Int)=(4294967295:Int)-(x.toNat:Int):=by
    have h:=x.toNat_lt;have h2:4294967295 ^^^ x.toNat=4294967295-x.toNat:=by
      have e:=congrArg BitVec.toNat (BitVec.allOnes_xor (x:=BitVec.ofNat 32 x.toNat));rw[BitVec.toNat_xor,BitVec.toNat_not,BitVec.toNat_allOnes,BitVec.toNat_ofNat,Nat.mod_eq_of_lt (by omega)] at e;omega
    have h3:=u32_xor_nat 4294967295 x.toNat (by decide) h;rw[h2] at h3;have h4:((4294967295:Nat):Int)=4294967295:=rfl;rw[h4] at h3;omega
  show some (D.int .u32 (bits .xor .u32 4294967295 (x.toNat:Int)))=_
  rw[this,Fu]; rfl
theorem tS (x y:UInt32):aX .eql (.w (.c (.d (wD x)))) (.w (.c (.d (wD y))))=some (.bool (x==y)):=by
  show aR .eql .u32 (x.toNat:Int) .u32 (y.toNat:Int)=_
  rw[lB];by_cases h:x=y
  ·subst h; simp
  ·have:¬ ((x.toNat:Int)=(y.toNat:Int)):=fun e=>h (UInt32.toNat_inj.1 (by omega))
   simp[this,h]
theorem tT (x y:UInt32):aX .neq (.w (.c (.d (wD x)))) (.w (.c (.d (wD y))))=some (.bool (x != y)):=by
  show aR .neq .u32 (x.toNat:Int) .u32 (y.toNat:Int)=_
  rw[lC];by_cases h:x=y
  ·subst h; simp
  ·have:¬ ((x.toNat:Int)=(y.toNat:Int)):=fun e=>h (UInt32.toNat_inj.1 (by omega))
   simp[this,h]
theorem wi (b:UInt8):D.int .u32 (IntKind.u32.wrap (b.toNat:Int))=wD (gr b):=by
  have h:=b.toNat_lt;rw[IntWalk.u32_in _ (by omega),tM]; rfl
def aj (x y:UInt8):UInt8:=x ^^^ y
def gY (x y:UInt8):UInt8:=x &&& y
def fW (x y:UInt8):UInt8:=x ||| y
def cE (x:UInt8) (n:Nat):UInt8:=UInt8.ofNat (x.toNat*2^n)
def cF (x:UInt8) (n:Nat):UInt8:=UInt8.ofNat (x.toNat / 2^n)
theorem gM (x:UInt8):x.toNat<256:=x.toNat_lt
theorem ea (x y:UInt8):aX .xor (.w (.c (.d (bD x)))) (.w (.c (.d (bD y))))=some (bD (aj x y)):=by
  show aR .xor .u8 (x.toNat:Int) .u8 (y.toNat:Int)=_
  rw[lE,u8_xor_nat _ _ (gM x) (gM y)]; simp[aj,bD]
theorem oo (x y:UInt8):aX .and (.w (.c (.d (bD x)))) (.w (.c (.d (bD y))))=some (bD (gY x y)):=by
  show aR .and .u8 (x.toNat:Int) .u8 (y.toNat:Int)=_
  rw[lD,u8_and_nat _ _ (gM x) (gM y)]; simp[gY,bD]
theorem o0 (x y:UInt8):aX .or (.w (.c (.d (bD x)))) (.w (.c (.d (bD y))))=some (bD (fW x y)):=by
  show aR .or .u8 (x.toNat:Int) .u8 (y.toNat:Int)=_
  rw[lX,u8_or_nat _ _ (gM x) (gM y)]; simp[fW,bD]
theorem Ec (x:UInt8) (k:IntKind) (n:Int) (h:0≤n):aX .shl (.w (.c (.d (bD x)))) (.w (.c (.d (.int k n))))=some (bD (cE x (min n.toNat 8))):=by
  show aR .shl .u8 (x.toNat:Int) k n=_
  rw[lF _ _ _ _ h,IntKind.wrap_u8]
  show some (D.int .u8 ((x.toNat:Int)*2^min n.toNat 8%256))=_
  have:(x.toNat:Int)*2^min n.toNat 8%256=((cE x (min n.toNat 8)).toNat:Int):=by unfold cE; simp
  rw[this]; rfl
theorem Ed (x:UInt8) (k:IntKind) (n:Int) (h:0≤n):aX .shr (.w (.c (.d (bD x)))) (.w (.c (.d (.int k n))))=some (bD (cF x (min n.toNat 8))):=by
  show aR .shr .u8 (x.toNat:Int) k n=_
  rw[lG _ _ _ _ h]
  show some (D.int .u8 ((x.toNat:Int) / 2^min n.toNat 8))=_
  have:(x.toNat:Int) / 2^min n.toNat 8=((cF x (min n.toNat 8)).toNat:Int):=by
    have h:x.toNat / 2^min n.toNat 8<256:=Nat.lt_of_le_of_lt (Nat.div_le_self _ _) (gM x);unfold cF;rw[UInt8.toNat_ofNat_of_lt' (by simpa [UInt8.size] using h)];simp
  rw[this]; rfl
theorem Ee (x y:UInt8):aX .eql (.w (.c (.d (bD x)))) (.w (.c (.d (bD y))))=some (.bool (x==y)):=by
  show aR .eql .u8 (x.toNat:Int) .u8 (y.toNat:Int)=_
  rw[lB];by_cases h:x=y
  ·subst h; simp
  ·have:¬ ((x.toNat:Int)=(y.toNat:Int)):=fun e=>h (UInt8.toNat_inj.1 (by omega))
   simp[this,h]
theorem Ef (x y:UInt8):aX .neq (.w (.c (.d (bD x)))) (.w (.c (.d (bD y))))=some (.bool (x != y)):=by
  show aR .neq .u8 (x.toNat:Int) .u8 (y.toNat:Int)=_
  rw[lC];by_cases h:x=y
  ·subst h; simp
  ·have:¬ ((x.toNat:Int)=(y.toNat:Int)):=fun e=>h (UInt8.toNat_inj.1 (by omega))
   simp[this,h]
theorem Cc (G:ak) (f:Nat→V):ev G f .u=.undef:=rfl
def BE (P:Program) (G:ak) (d:Option Nat) (r:List aE) (K:St→Prop) (f:Nat→V) (h:al) (u:Nat→Bool) (F:Nat) (ds:List D):Prop:=ar P G r K ⟨aP f d (.w (.c (.d (.fn F ds)))),h,u⟩
theorem yy (P:Program) (G:ak) (d:Option Nat) (r:List aE) (K:St→Prop) (f:Nat→V) (h:al) (u:Nat→Bool) (F:Nat) (xs:List SX):ar P G (⟨d,.clos F xs,none⟩::r) K ⟨f,h,u⟩=aF (cD (xs.map (ev G f))) (BE P G d r K f h u F):=by
  show (match (cD (xs.map (ev G f))).map fun ds=>((.w (.c (.d (.fn F ds))),h,u):R) with | some r=>_ | none=>False)=_
  cases cD (xs.map (ev G f)) <;> rfl
theorem wj (P:Program) (G:ak) (d:Option Nat) (r:List aE) (K:St→Prop) (f:Nat→V) (h:al) (u:Nat→Bool) (F:Nat) (ds:List D):BE P G d r K f h u F ds=ar P G r K ⟨aP f d (.w (.c (.d (.fn F ds)))),h,u⟩:=rfl
theorem tU:cD []=some []:=rfl
theorem wk (cs:List D) (r:List V):cD (.w (.c (.rp cs))::r)=(cD r).map fun l=>.ref cs::l:=by
  simp only[cD,iE]; cases cD r <;> rfl
theorem tV (k:IntKind) (n:Int) (r:List V):cD (.w (.c (.d (.int k n)))::r)=(cD r).map fun l=>.int k n::l:=by
  simp only[cD,iE]; cases cD r <;> rfl
theorem wm (es:List D) (r:List V):cD (.w (.c (.d (.sl es)))::r)=(cD r).map fun l=>.sl es::l:=by
  simp only[cD,iE]; cases cD r <;> rfl
def re (P:Program) (G:ak) (body:aH) (K:AX→St→Prop) (e:AX) (s:St):Prop:=match e with | .nrm=>a9 P G body K s | _=>False
def rh (f0:Nat→V) (I:Nat→al→(Nat→Bool)→Prop) (Q:AX→St→Prop) (k:Nat) (e:AX) (s:St):Prop:=match e with
  | .nrm=>∃ h' u',dd s ⟨f0,h',u'⟩∧I (k+1) h' u'
  | e=>∃ h' u',dd s ⟨f0,h',u'⟩∧Q e ⟨f0,h',u'⟩
theorem wn (P:Program) (G:ak) (body:aH) (K:AX→St→Prop) (s:St):re P G body K .nrm s=a9 P G body K s:=rfl
def rj (st:Nat→al×(Nat→Bool)) (k:Nat) (h:al) (u:Nat→Bool):Prop:=(h,u)=st k
theorem Fv {P:Program} {G:ak} {Q:AX→St→Prop} {σ:St} {x:SX} {ps:List Nat} {asg body:aH} {g:Nat} {caps:List D} {xs:List (List D)} (f0:Nat→V) {f1:Nat→V} (hf:f0=f1) (st:Nat→al×(Nat→Bool))
    (hev:ev G σ.f x=.w (.c (.d (.fn g caps)))) (hseq:q7 P G g caps xs) (hlen:∀ r∈xs,r.length=ps.length) (hent:dd σ ⟨f1,(st 0).1,(st 0).2⟩) (hun:∀ t∈ps++asg.writes++body.writes,f1 t=.undef)
    (round:∀ k r,xs[k]?=some r→a9 P G asg (re P G body (rh f0 (rj st) Q k)) ⟨jf f1 ps r,(st k).1,(st k).2⟩)
    (done:Q .nrm ⟨f1,(st xs.length).1,(st xs.length).2⟩):a9 P G (.rangeF x ps asg body) Q σ:=by
  subst hf;refine⟨g,caps,xs,f0,(st 0).1,(st 0).2,fun k h u=>(h,u)=st k,hev,hseq,hlen,hent,hun,rfl,fun k r h u hr e=>?_,fun h u e=>?_⟩
  ·have:=round k r hr;rw[← e] at this
   have e1:(fun (e:AX) (s:St)=>match e with
       | .nrm=>a9 P G body (fun e s'=>match e with
         | .nrm=>∃ h' u',dd s' ⟨f0,h',u'⟩∧(h',u')=st (k+1)
         | e=>∃ h' u',dd s' ⟨f0,h',u'⟩∧Q e ⟨f0,h',u'⟩) s
       | _=>False)=re P G body (rh f0 (rj st) Q k):=by
     funext e s
     cases e with
     | nrm =>
       show a9 P G body _ s=a9 P G body _ s
       congr 1
     | _=>rfl
   rw[← e1] at this;exact this
  ·rw[← e] at done; exact done
theorem Fw {f0:Nat→V} {f1:Nat→V} (hf:f0=f1) {st:Nat→al×(Nat→Bool)} {Q:AX→St→Prop} {k:Nat} {s:St} (h:dd s ⟨f1,(st (k+1)).1,(st (k+1)).2⟩):rh f0 (rj st) Q k .nrm s:=⟨_,_,hf ▸ h,rfl⟩
def bC (x:UInt8):C:=.d (bD x)
theorem kn (l:List UInt8):(l.map bD).map C.d=l.map bC:=by rw[List.map_map]; rfl
theorem j4:∀ l:List UInt8,cY (l.map bC)=some (l.map bD)
  | []=>rfl
  | x::l=>by
    have h:=j4 l
    show cY (C.d (bD x)::l.map bC)=_
    simp only[cY,h,KR,LS]
theorem Fx {α β:Type} (f:α→β) (l cs:List α) (off:Nat):bu (l.map f) off (cs.map f)=(bu l off cs).map f:=by
  unfold bu; simp
theorem eb (l:List UInt8):(l.map bC).flatMap C.ids=[]:=by
  induction l with
  | nil=>rfl
  | cons x l ih=>rw[KR,KV,ih]; rfl
theorem i7 (g:Nat→Nat) (l:List UInt8):(l.map bC).map (C.ren g)=l.map bC:=by rw[List.map_map]; rfl
theorem IB (x c:UInt8) (n:Int) (h:n=(c.toNat:Int)):aX .eql (.w (.c (.d (bD x)))) (.w (.c (.d (.int .u8 n))))=some (.bool (x==c)):=by subst h; exact Ee x c
theorem IC (x c:UInt8) (n:Int) (h:n=(c.toNat:Int)):aX .neq (.w (.c (.d (bD x)))) (.w (.c (.d (.int .u8 n))))=some (.bool (x != c)):=by subst h; exact Ef x c
theorem ID (x c:UInt8) (n:Int) (h:n=(c.toNat:Int)):aX .xor (.w (.c (.d (bD x)))) (.w (.c (.d (.int .u8 n))))=some (bD (aj x c)):=by subst h; exact ea x c
theorem Ai (x c:UInt8) (n:Int) (h:n=(c.toNat:Int)):aX .and (.w (.c (.d (bD x)))) (.w (.c (.d (.int .u8 n))))=some (bD (gY x c)):=by subst h; exact oo x c
theorem Aj (x:UInt8) (k:IntKind) (j:Nat) (n:Int) (h:n=(j:Int)) (hj:j≤8):aX .shr (.w (.c (.d (bD x)))) (.w (.c (.d (.int k n))))=some (bD (cF x j)):=by
  subst h;rw[Ed _ _ _ (Int.natCast_nonneg j),Ma,Nat.min_eq_left hj]
theorem Ak (x:UInt8) (k:IntKind) (j:Nat) (n:Int) (h:n=(j:Int)) (hj:j≤8):aX .shl (.w (.c (.d (bD x)))) (.w (.c (.d (.int k n))))=some (bD (cE x j)):=by
  subst h;rw[Ec _ _ _ (Int.natCast_nonneg j),Ma,Nat.min_eq_left hj]
def aU {α:Type} (n:Nat) (x:α):List α:=List.replicate n x
theorem bB {α:Type} (n:Nat) (x:α):(aU n x).length=n:=KZ
theorem yz (n:Nat):aU n (C.d (D.int .u8 0))=(aU n (0:UInt8)).map bC:=by unfold aU; rw[List.map_replicate]; rfl
set_option maxRecDepth 100000
theorem jW {a b : Prop} (l : a) (r : b) : a ∧ b := And.intro l r
theorem wx:ie (jW @mE (jW @mF (jW @mG (jW @mH (jW @mI (jW @sx (jW @pY (jW @pp (jW @zb (jW @zc (jW @za (jW @pX (jW @xj (jW @Bg (jW @Bh (jW @Bi (jW @bG.eq_1 (jW @bG.eq_2 (jW @bG.eq_3 (jW @bG.eq_4 (jW @dX.eq_1 (jW @dX.eq_2 (jW @killAll.eq_1 (jW @killAll.eq_2 (jW @killAll.eq_3 (jW @Cc (jW @yy (jW @wj (jW @tU (jW @wk (jW @tV (jW @wm (jW @wn (jW @ef.eq_1 (jW @ef.eq_2 (jW @ef.eq_3 (jW @ef.eq_4 (jW @ef.eq_5 (jW @ef.eq_6 (jW @ef.eq_7 (jW @ef.eq_8 (jW @ef.eq_9 (jW @ef.eq_10 (jW @ef.eq_11 (jW @ef.eq_12 (jW @ef.eq_13 (jW @ef.eq_14 (jW @ef.eq_15 (jW @ef.eq_16 (jW @ef.eq_17 (jW @ef.eq_18 (jW @ef.eq_19 (jW @ef.eq_20 (jW @ef.eq_21 (jW @ef.eq_22 (jW @ef.eq_23 (jW @ef.eq_24 (jW @ef.eq_25 (jW @ef.eq_26 (jW @ef.eq_27 (jW @ef.eq_28 (jW @ef.eq_29 (jW @ef.eq_30 (jW @ef.eq_31 (jW @ef.eq_32 (jW @ef.eq_33 (jW @ef.eq_34 (jW @ef.eq_35 (jW @ef.eq_36 (jW @ef.eq_37 (jW @ef.eq_38 (jW @ef.eq_39 (jW @ef.eq_40 (jW @ef.eq_41 (jW @ef.eq_42 (jW @ef.eq_43 (jW @ef.eq_44 (jW @ef.eq_45 (jW @ef.eq_46 (jW @ef.eq_47 (jW @ef.eq_48 (jW @ef.eq_49 (jW @ef.eq_50 (jW @ef.eq_51 (jW @bound.eq_1 (jW @bound.eq_2 (jW @fU.eq_1 (jW @fU.eq_2 (jW @fU.eq_3 (jW @fU.eq_4 (jW @dS.eq_1 (jW @bq.eq_1 (jW @bq.eq_2 (jW @bq.eq_3 (jW @bq.eq_4 (jW @bq.eq_5 (jW @bq.eq_6 (jW @bq.eq_7 (jW @bq.eq_8 (jW @cg.eq_1 (jW @cg.eq_2 (jW @cg.eq_3 (jW @cg.eq_4 (jW @cg.eq_5 (jW @cg.eq_6 (jW @cg.eq_7 (jW @yi (jW @d8.eq_1 (jW @d8.eq_2 (jW @parts.eq_1 (jW @parts.eq_2 (jW @elems.eq_1 (jW @elems.eq_2 (jW @dl.eq_1 (jW @Ca (jW @Cb (jW @Aa (jW @yx (jW @Ab (jW @BC (jW @Ac (jW @Ad (jW @Ae (jW @Af (jW @BD (jW @Ag (jW @dB.eq_1 (jW @dB.eq_2 (jW @dB.eq_3 (jW @dB.eq_4 (jW @je.eq_1 (jW @je.eq_2 (jW @cY.eq_1 (jW @cY.eq_2 (jW @cY.eq_3 (jW @cb.eq_1 (jW @cb.eq_2 (jW @cb.eq_3 (jW @cb.eq_4 (jW @cw.eq_1 (jW @cw.eq_2 (jW @cw.eq_3 (jW @bJ.eq_1 (jW @bJ.eq_2 (jW @bJ.eq_3 (jW @bJ.eq_4 (jW @bJ.eq_5 (jW @bJ.eq_6 (jW @bJ.eq_7 (jW @bJ.eq_8 (jW @bJ.eq_9 (jW @bJ.eq_10 (jW @gz.eq_1 (jW @dD.eq_1 (jW @dD.eq_2 (jW @dD.eq_3 (jW @toW.eq_1 (jW @toW.eq_2 (jW @cv.eq_1 (jW @cv.eq_2 (jW @cv.eq_3 (jW @cv.eq_4 (jW @dQ.eq_1 (jW @dQ.eq_2 (jW @bO.eq_1 (jW @bO.eq_2 (jW @bV.eq_1 (jW @bV.eq_2 (jW @bV.eq_3 (jW @ints.eq_1 (jW @ints.eq_2 (jW @ints.eq_3 (jW @bX.eq_1 (jW @bX.eq_2 (jW @bX.eq_3 (jW @fN.eq_1 (jW @fN.eq_2 (jW @fN.eq_3 (jW @W.ro.eq_1 (jW @W.ro.eq_2 (jW @C.ro.eq_1 (jW @C.ro.eq_2 (jW @V.ro.eq_1 (jW @V.ro.eq_2 (jW @V.ro.eq_3 (jW @gS.eq_1 (jW @gS.eq_2 (jW @gS.eq_3 (jW @Kd.size.eq_1 (jW @Kd.size.eq_2 (jW @tH (jW @sO (jW @tI (jW @v4 (jW @tJ (jW @bu.eq_1 (jW @bc.eq_1 (jW @bc.eq_2 (jW @Nat.min_def (jW @LS.{0,0} (jW @Option.map_none.{0,0} (jW @Bool.not_true (jW @Bool.not_false (jW @decide_true (jW @decide_false (jW @Bool.and_self (jW @KR.{0,0} (jW @Ls.{0,0} (jW @List.any_cons.{0} (jW @List.any_nil.{0} (jW @List.length_cons.{0} (jW @LW.{0} (jW @Lw.{0} (jW @L0.{0} (jW @Lx.{0} (jW @if_true.{1} (jW @if_false.{1} (jW @true_and (jW @and_true (jW @vd.eq_1 (jW @Int.natCast_nonneg (jW @Md.{0} (jW @List.take_length.{0} (jW @dv (jW @fC (jW @fi (jW @gj (jW @v9 (jW @wa (jW @Bv (jW @Bw (jW @yp (jW @yq (jW @Bz (jW @tN (jW @tO (jW @wg (jW @tP (jW @tQ (jW @tR (jW @tS (jW @tT (jW @ea (jW @oo (jW @o0 (jW @vT (jW @vU (jW @vV (jW @vW (jW @vX (jW @vY (jW @vZ (jW @v3 (jW @wd (jW @we (jW @wh (jW @wi (jW @v8 (jW @v5 (jW @v6 (jW @v7 (jW @List.set_cons_zero.{0} (jW @List.set_cons_succ.{0} (jW @yr (jW @eN (jW @Kd.ag.injEq (jW @KJ.{0} (jW @KZ.{0} (jW @lH (jW @yj (jW @pz (jW @z1 (jW @pA (jW @z3 (jW @yo (jW @vS (jW @LV.{0} (jW @LP.{0} (jW @List.take_succ_cons.{0} (jW @List.take_zero.{0} (jW @List.drop_succ_cons.{0} (jW @List.take_nil.{0} (jW @List.drop_nil.{0} (jW @K5.{0} (jW @KV.{0,0} (jW @List.flatMap_nil.{0,0} (jW @Option.bind_some.{0,0} (jW @ne_eq.{1} (jW @not_false_eq_true (@not_true_eq_false)))))))))))))))))))))))))))))))))))))))))))))))))))))))))))))))))))))))))))))))))))))))))))))))))))))))))))))))))))))))))))))))))))))))))))))))))))))))))))))))))))))))))))))))))))))))))))))))))))))))))))))))))))))))))))))))))))))))))))))))))))))))))))))))))))))))))))))))))))))))))))))))))):=jW @mE (jW @mF (jW @mG (jW @mH (jW @mI (jW @sx (jW @pY (jW @pp (jW @zb (jW @zc (jW @za (jW @pX (jW @xj (jW @Bg (jW @Bh (jW @Bi (jW @bG.eq_1 (jW @bG.eq_2 (jW @bG.eq_3 (jW @bG.eq_4 (jW @dX.eq_1 (jW @dX.eq_2 (jW @killAll.eq_1 (jW @killAll.eq_2 (jW @killAll.eq_3 (jW @Cc (jW @yy (jW @wj (jW @tU (jW @wk (jW @tV (jW @wm (jW @wn (jW @ef.eq_1 (jW @ef.eq_2 (jW @ef.eq_3 (jW @ef.eq_4 (jW @ef.eq_5 (jW @ef.eq_6 (jW @ef.eq_7 (jW @ef.eq_8 (jW @ef.eq_9 (jW @ef.eq_10 (jW @ef.eq_11 (jW @ef.eq_12 (jW @ef.eq_13 (jW @ef.eq_14 (jW @ef.eq_15 (jW @ef.eq_16 (jW @ef.eq_17 (jW @ef.eq_18 (jW @ef.eq_19 (jW @ef.eq_20 (jW @ef.eq_21 (jW @ef.eq_22 (jW @ef.eq_23 (jW @ef.eq_24 (jW @ef.eq_25 (jW @ef.eq_26 (jW @ef.eq_27 (jW @ef.eq_28 (jW @ef.eq_29 (jW @ef.eq_30 (jW @ef.eq_31 (jW @ef.eq_32 (jW @ef.eq_33 (jW @ef.eq_34 (jW @ef.eq_35 (jW @ef.eq_36 (jW @ef.eq_37 (jW @ef.eq_38 (jW @ef.eq_39 (jW @ef.eq_40 (jW @ef.eq_41 (jW @ef.eq_42 (jW @ef.eq_43 (jW @ef.eq_44 (jW @ef.eq_45 (jW @ef.eq_46 (jW @ef.eq_47 (jW @ef.eq_48 (jW @ef.eq_49 (jW @ef.eq_50 (jW @ef.eq_51 (jW @bound.eq_1 (jW @bound.eq_2 (jW @fU.eq_1 (jW @fU.eq_2 (jW @fU.eq_3 (jW @fU.eq_4 (jW @dS.eq_1 (jW @bq.eq_1 (jW @bq.eq_2 (jW @bq.eq_3 (jW @bq.eq_4 (jW @bq.eq_5 (jW @bq.eq_6 (jW @bq.eq_7 (jW @bq.eq_8 (jW @cg.eq_1 (jW @cg.eq_2 (jW @cg.eq_3 (jW @cg.eq_4 (jW @cg.eq_5 (jW @cg.eq_6 (jW @cg.eq_7 (jW @yi (jW @d8.eq_1 (jW @d8.eq_2 (jW @parts.eq_1 (jW @parts.eq_2 (jW @elems.eq_1 (jW @elems.eq_2 (jW @dl.eq_1 (jW @Ca (jW @Cb (jW @Aa (jW @yx (jW @Ab (jW @BC (jW @Ac (jW @Ad (jW @Ae (jW @Af (jW @BD (jW @Ag (jW @dB.eq_1 (jW @dB.eq_2 (jW @dB.eq_3 (jW @dB.eq_4 (jW @je.eq_1 (jW @je.eq_2 (jW @cY.eq_1 (jW @cY.eq_2 (jW @cY.eq_3 (jW @cb.eq_1 (jW @cb.eq_2 (jW @cb.eq_3 (jW @cb.eq_4 (jW @cw.eq_1 (jW @cw.eq_2 (jW @cw.eq_3 (jW @bJ.eq_1 (jW @bJ.eq_2 (jW @bJ.eq_3 (jW @bJ.eq_4 (jW @bJ.eq_5 (jW @bJ.eq_6 (jW @bJ.eq_7 (jW @bJ.eq_8 (jW @bJ.eq_9 (jW @bJ.eq_10 (jW @gz.eq_1 (jW @dD.eq_1 (jW @dD.eq_2 (jW @dD.eq_3 (jW @toW.eq_1 (jW @toW.eq_2 (jW @cv.eq_1 (jW @cv.eq_2 (jW @cv.eq_3 (jW @cv.eq_4 (jW @dQ.eq_1 (jW @dQ.eq_2 (jW @bO.eq_1 (jW @bO.eq_2 (jW @bV.eq_1 (jW @bV.eq_2 (jW @bV.eq_3 (jW @ints.eq_1 (jW @ints.eq_2 (jW @ints.eq_3 (jW @bX.eq_1 (jW @bX.eq_2 (jW @bX.eq_3 (jW @fN.eq_1 (jW @fN.eq_2 (jW @fN.eq_3 (jW @W.ro.eq_1 (jW @W.ro.eq_2 (jW @C.ro.eq_1 (jW @C.ro.eq_2 (jW @V.ro.eq_1 (jW @V.ro.eq_2 (jW @V.ro.eq_3 (jW @gS.eq_1 (jW @gS.eq_2 (jW @gS.eq_3 (jW @Kd.size.eq_1 (jW @Kd.size.eq_2 (jW @tH (jW @sO (jW @tI (jW @v4 (jW @tJ (jW @bu.eq_1 (jW @bc.eq_1 (jW @bc.eq_2 (jW @Nat.min_def (jW @LS.{0,0} (jW @Option.map_none.{0,0} (jW @Bool.not_true (jW @Bool.not_false (jW @decide_true (jW @decide_false (jW @Bool.and_self (jW @KR.{0,0} (jW @Ls.{0,0} (jW @List.any_cons.{0} (jW @List.any_nil.{0} (jW @List.length_cons.{0} (jW @LW.{0} (jW @Lw.{0} (jW @L0.{0} (jW @Lx.{0} (jW @if_true.{1} (jW @if_false.{1} (jW @true_and (jW @and_true (jW @vd.eq_1 (jW @Int.natCast_nonneg (jW @Md.{0} (jW @List.take_length.{0} (jW @dv (jW @fC (jW @fi (jW @gj (jW @v9 (jW @wa (jW @Bv (jW @Bw (jW @yp (jW @yq (jW @Bz (jW @tN (jW @tO (jW @wg (jW @tP (jW @tQ (jW @tR (jW @tS (jW @tT (jW @ea (jW @oo (jW @o0 (jW @vT (jW @vU (jW @vV (jW @vW (jW @vX (jW @vY (jW @vZ (jW @v3 (jW @wd (jW @we (jW @wh (jW @wi (jW @v8 (jW @v5 (jW @v6 (jW @v7 (jW @List.set_cons_zero.{0} (jW @List.set_cons_succ.{0} (jW @yr (jW @eN (jW @Kd.ag.injEq (jW @KJ.{0} (jW @KZ.{0} (jW @lH (jW @yj (jW @pz (jW @z1 (jW @pA (jW @z3 (jW @yo (jW @vS (jW @LV.{0} (jW @LP.{0} (jW @List.take_succ_cons.{0} (jW @List.take_zero.{0} (jW @List.drop_succ_cons.{0} (jW @List.take_nil.{0} (jW @List.drop_nil.{0} (jW @K5.{0} (jW @KV.{0,0} (jW @List.flatMap_nil.{0,0} (jW @Option.bind_some.{0,0} (jW @ne_eq.{1} (jW @not_false_eq_true (@not_true_eq_false)))))))))))))))))))))))))))))))))))))))))))))))))))))))))))))))))))))))))))))))))))))))))))))))))))))))))))))))))))))))))))))))))))))))))))))))))))))))))))))))))))))))))))))))))))))))))))))))))))))))))))))))))))))))))))))))))))))))))))))))))))))))))))))))))))))))))))))))))))))))))))))))))
theorem wy:ie (jW @BB (jW @sn (jW @yt (jW @wb (jW @yu (jW @z9 (jW @dm (jW @jj (@cond_true.{1}))))))))):=jW @BB (jW @sn (jW @yt (jW @wb (jW @yu (jW @z9 (jW @dm (jW @jj (@cond_true.{1}))))))))
theorem wz:ie (jW @Bool.false_and (jW @Bool.and_false (jW @tL (jW @Nat.sub_zero (jW @tK (jW @sP (jW @beq_self_eq_true.{0} (jW @Bool.and_true (jW @Bool.true_and (jW @B4 (jW @B5 (jW @B6 (jW @B7 (jW @B8 (jW @B9 (jW @LF.{0} (jW @LO (jW @Nat.one_mul (jW @LH (jW @Lv (jW @z6 (jW @z7 (jW @z8 (jW @BA (jW @L5 (jW @Int.natCast_mul (jW @L6 (jW @LI (@LQ))))))))))))))))))))))))))))):=jW @Bool.false_and (jW @Bool.and_false (jW @tL (jW @Nat.sub_zero (jW @tK (jW @sP (jW @beq_self_eq_true.{0} (jW @Bool.and_true (jW @Bool.true_and (jW @B4 (jW @B5 (jW @B6 (jW @B7 (jW @B8 (jW @B9 (jW @LF.{0} (jW @LO (jW @Nat.one_mul (jW @LH (jW @Lv (jW @z6 (jW @z7 (jW @z8 (jW @BA (jW @L5 (jW @Int.natCast_mul (jW @L6 (jW @LI (@LQ))))))))))))))))))))))))))))
theorem aw:ie (jW @V.ren.eq_1 (jW @V.ren.eq_2 (jW @V.ren.eq_3 (jW @W.ren.eq_1 (jW @W.ren.eq_2 (jW @C.ren.eq_1 (jW @C.ren.eq_2 (jW @C.ren.eq_3 (jW @C.ren.eq_4 (jW @C.ren.eq_5 (jW @C.ren.eq_6 (jW @V.ids.eq_1 (jW @V.ids.eq_2 (jW @V.ids.eq_3 (jW @W.ids.eq_1 (jW @W.ids.eq_2 (jW @C.ids.eq_1 (jW @C.ids.eq_2 (jW @C.ids.eq_3 (jW @C.ids.eq_4 (jW @C.ids.eq_5 (jW @C.ids.eq_6 (jW @Ob.ren.eq_1 (jW @Ob.ren.eq_2 (jW @Ob.ren.eq_3 (jW @Ob.ids.eq_1 (jW @Ob.ids.eq_2 (jW @Ob.ids.eq_3 (jW @LQ (jW @LF.{0} (jW @yk (jW @vP (jW @yl (jW @vQ (jW @id_eq.{1} (jW @LO (jW @Nat.mul_zero (jW @Me (@List.flatten_nil.{0}))))))))))))))))))))))))))))))))))))))):=jW @V.ren.eq_1 (jW @V.ren.eq_2 (jW @V.ren.eq_3 (jW @W.ren.eq_1 (jW @W.ren.eq_2 (jW @C.ren.eq_1 (jW @C.ren.eq_2 (jW @C.ren.eq_3 (jW @C.ren.eq_4 (jW @C.ren.eq_5 (jW @C.ren.eq_6 (jW @V.ids.eq_1 (jW @V.ids.eq_2 (jW @V.ids.eq_3 (jW @W.ids.eq_1 (jW @W.ids.eq_2 (jW @C.ids.eq_1 (jW @C.ids.eq_2 (jW @C.ids.eq_3 (jW @C.ids.eq_4 (jW @C.ids.eq_5 (jW @C.ids.eq_6 (jW @Ob.ren.eq_1 (jW @Ob.ren.eq_2 (jW @Ob.ren.eq_3 (jW @Ob.ids.eq_1 (jW @Ob.ids.eq_2 (jW @Ob.ids.eq_3 (jW @LQ (jW @LF.{0} (jW @yk (jW @vP (jW @yl (jW @vQ (jW @id_eq.{1} (jW @LO (jW @Nat.mul_zero (jW @Me (@List.flatten_nil.{0}))))))))))))))))))))))))))))))))))))))
theorem aO:ie (jW @L5 (jW @Int.natCast_mul (jW @L6 (@LI)))):=jW @L5 (jW @Int.natCast_mul (jW @L6 (@LI)))
theorem ae:ie (jW @wx (jW @wy @wz)):=jW @wx (jW @wy @wz)
theorem a7 {σ:St} {p:Nat×Option Kd} {x:D} (h1:(bc σ p).bind (toW σ.h)=some x:=by simp only[ae,aa,seval,iteOmega,toNatUp]):cc σ [p] (.w (.c (.d x))):=ip h1
theorem cP {σ:St} {p q:Nat×Option Kd} {x y:D} (h1:(bc σ p).bind (toW σ.h)=some x:=by simp only[ae,aa,seval,iteOmega,toNatUp]) (h2:(bc σ q).bind (toW σ.h)=some y:=by simp only[ae,aa,seval,iteOmega,toNatUp]):cc σ [p,q] (.tup [.c (.d x),.c (.d y)]):=mg h1 h2
theorem eZ {σ:St} {p q r:Nat×Option Kd} {x y z:D} (h1:(bc σ p).bind (toW σ.h)=some x:=by simp only[ae,aa,seval,iteOmega,toNatUp]) (h2:(bc σ q).bind (toW σ.h)=some y:=by simp only[ae,aa,seval,iteOmega,toNatUp]) (h3:(bc σ r).bind (toW σ.h)=some z:=by simp only[ae,aa,seval,iteOmega,toNatUp]):cc σ [p,q,r] (.tup [.c (.d x),.c (.d y),.c (.d z)]):=qa h1 h2 h3
theorem cQ {σ:St} {p:Nat×Option Kd} {sz:Nat} {es:List D} (h1:(bc σ p).bind (fO σ.h sz)=some es:=by simp only[ae,aa,seval,iteOmega,toNatUp]):cc σ [p] (.w (.c (.fr sz es))):=Ah h1
theorem dH {σ:St} {p q:Nat×Option Kd} {sz:Nat} {es:List D} {y:D} (h1:(bc σ p).bind (fO σ.h sz)=some es:=by simp only[ae,aa,seval,iteOmega,toNatUp]) (h2:bc σ q=some (.c (.d y)):=by simp only[ae,aa,seval,iteOmega,toNatUp]):cc σ [p,q] (.tup [.c (.fr sz es),.c (.d y)]):=qb h1 h2
theorem sD {P:Program} {G:ak} {K:St→Prop} {r:List aE} {f:Nat→V} {h:al} {u:Nat→Bool} {d:Option Nat} {fn:FuncId} {xs:List SX} {own:Option (Nat×Nat)} {ds:List D} {res:V} {q:Prop} (h2:ap P G fn ds res) (e:q)
    (hq:aF (bX h u (d.getD 0) own res) (bE P G d r K f)=q:=by simp only[ae,aa,seval,iteOmega,toNatUp]; rfl) (h1:bO h (xs.map (ev G f))=some ds:=by exact rfl)
    (h3:((xs.map (ev G f)).any V.hasOwn=false∨res.flat=true):=by exact .inl rfl) (hne:fn≠dR:=by decide) (hp:eO own (xs.map (ev G f)):=by first | exact jN _ | exact jY _ _ _ | exact jO _ _ rfl):ar P G (⟨d,.call fn xs own,none⟩::r) K ⟨f,h,u⟩ :=
  sC h2 (hq ▸ e) h1 h3 hne hp
def ez (x:UInt8):UInt8:=aj (cE x 1) (if x<128 then 0 else 27)
def fP (c:Bool) (v:UInt8):UInt8:=if c then v else 0
def fQ (y:UInt8) (i:Nat):Bool:=y.toNat.testBit i
def rE (x:UInt8):Nat→UInt8
  | 0=>x
  | n+1=>ez (rE x n)
def Cw (x y:UInt8):Nat→UInt8
  | 0=>0
  | n+1=>aj (Cw x y n) (fP (fQ y n) (rE x n))
def ee (x y:UInt8):UInt8:=Cw x y 8
theorem t8 (x y:UInt8):aj x y=aj y x:=UInt8.xor_comm x y
theorem iP (x y z:UInt8):aj (aj x y) z=aj x (aj y z):=UInt8.xor_assoc x y z
theorem ox (x:UInt8):aj x 0=x:=UInt8.xor_zero
theorem t9 (x:UInt8):aj x x=0:=UInt8.xor_self
theorem Eq (a b c d:UInt8):aj (aj a b) (aj c d)=aj (aj a c) (aj b d):=by
  rw[iP,← iP b,t8 b c,iP c,← iP]
def rm (f:UInt8→UInt8):Prop:=∀ a b,f (aj a b)=aj (f a) (f b)
theorem FF (x y:UInt8) (i:Nat):fQ (aj x y) i=(fQ x i ^^ fQ y i):=by
  unfold fQ aj;rw[UInt8.toNat_xor,Nat.testBit_xor]
theorem FG (c d:Bool) (v:UInt8):fP (c ^^ d) v=aj (fP c v) (fP d v):=by
  cases c <;> cases d <;> simp[fP,aj]
def g8 (f:UInt8→UInt8) (x:UInt8):Nat→UInt8
  | 0=>0
  | n+1=>aj (g8 f x n) (fP (fQ x n) (f (UInt8.ofNat (2^n))))
theorem wK (f:UInt8→UInt8):∀ n,rm fun x=>g8 f x n
  | 0=>fun a b=>(t9 0).symm
  | n+1=>fun a b=>by
    show aj (g8 f (aj a b) n) (fP (fQ (aj a b) n) _)=_
    rw[show g8 f (aj a b) n=aj (g8 f a n) (g8 f b n) from wK f n a b,FF,FG,Eq];rfl
theorem IP {f:UInt8→UInt8} (h:∀ x,f x=g8 f x 8):rm f:=by
  intro a b;rw[h,h a,h b];exact wK f 8 a b
theorem gR {p:UInt8→Bool} (h:((List.range 256).all fun i=>p (UInt8.ofNat i))=true) (x:UInt8):p x=true:=by
  have:=KX.1 h x.toNat (List.mem_range.2 x.toNat_lt)
  simpa using this
theorem Hh:rm ez:=IP fun x=>by
  have:=gR (p:=fun x=>ez x==g8 ez x 8) (by decide +kernel) x
  simpa using this
def mP (x:UInt8) (n:Nat):UInt8:=fW (cE x n) (cF x (8-n))
def Cd (y:UInt8):UInt8:=aj (aj (aj (aj (aj y (mP y 1)) (mP y 2)) (mP y 3)) (mP y 4)) 99
def Ce (x:UInt8):UInt8 :=
  let x2:=ee x x
  let x3:=ee x2 x
  let x6:=ee x3 x3
  let x12:=ee x6 x6
  let x15:=ee x12 x3
  let x30:=ee x15 x15
  let x60:=ee x30 x30
  let x120:=ee x60 x60
  let x240:=ee x120 x120
  ee (ee x240 x12) x2
def rn:List UInt8:=(List.range 256).map fun i=>Cd (Ce (UInt8.ofNat i))
def cq (x:UInt8):UInt8:=Cd (Ce x)
theorem FH (x:UInt8):rn[x.toNat]?=some (cq x):=by
  unfold rn cq;rw[LD,List.getElem?_range x.toNat_lt];simp
instance:Std.Associative aj:=⟨iP⟩
instance:Std.Commutative aj:=⟨t8⟩
def rF (x:UInt8):UInt8:=ee x 2
def nk (a b c d:UInt8):UInt8:=aj (aj (aj (aj (rF a) (rF b)) b) c) d
abbrev ca:=Nat→UInt8
def eo (s k:ca):ca:=fun j=>aj (s j) (k j)
def eP (s:ca):ca:=fun j=>cq (s (j%4+4*((j / 4+j%4)%4)))
def ep (t:ca):ca:=fun j=>nk (t (4*(j / 4)+j%4)) (t (4*(j / 4)+(j%4+1)%4)) (t (4*(j / 4)+(j%4+2)%4)) (t (4*(j / 4)+(j%4+3)%4))
def BH (s t:ca):Prop:=∀ j,j<16→s j=t j
def qf (k:Nat→ca) (s:ca) (n:Nat):ca:=if n<10 then eo (ep (eP s)) (k n) else eo (eP s) (k n)
def eU (k:Nat→ca) (s:ca):Nat→ca
  | 0=>eo s (k 0)
  | n+1=>qf k (eU k s n) (n+1)
def eG (n:Nat):UInt8:=rE 1 n
def jm (t:List UInt8) (n:Nat):List UInt8 :=
  if n%4=0 then [aj (cq (t.getD 1 0)) (eG (n / 4)),cq (t.getD 2 0),cq (t.getD 3 0),cq (t.getD 0 0)]
  else [t.getD 0 0,t.getD 1 0,t.getD 2 0,t.getD 3 0]
def gw (l:List UInt8) (n:Nat):List UInt8 :=
  (List.range 4).map fun k=>aj (l.getD (4*n+k) 0) ((jm (l.drop (12+4*n)) n).getD k 0)
def ch (key:List UInt8):Nat→List UInt8
  | 0=>key
  | n+1=>ch key n++gw (ch key n) n
def au (key:List UInt8):List UInt8:=ch key 40
theorem Er (l:List UInt8) (n:Nat):(gw l n).length=4:=by simp[gw]
theorem ii {key:List UInt8} (h:key.length=16):∀ n,(ch key n).length=16+4*n
  | 0=>h
  | n+1=>by rw[ch,KJ,ii h n,Er]; omega
theorem pK {key:List UInt8} (h:key.length=16):(au key).length=176:=ii h 40
def be (f:ca):List UInt8:=(List.range 16).map f
theorem dM (f:ca):(be f).length=16:=by simp[be]
theorem l5 (f:ca) {j:Nat} (h:j<16):(be f)[j]?=some (f j):=by simp[be,h]
def aK (l:List UInt8):ca:=fun j=>l.getD j 0
theorem IQ {l:List UInt8} (h:l.length=16):be (aK l)=l:=by
  apply LC;intro i;by_cases hi:i<16
  ·rw[l5 _ hi,aK,KS,KH (by omega)]; rfl
  ·rw[Lg (by rw[dM]; omega),Lg (by omega)]
theorem oz {f g:ca} (h:BH f g):be f=be g:=Ll fun j hj=>h j (List.mem_range.1 hj)
def cr (rk:List UInt8) (n:Nat):ca:=fun j=>rk.getD (16*n+j) 0
def cG (rk b:List UInt8):List UInt8:=be (eU (cr rk) (aK b) 10)
theorem fe (rk b:List UInt8):(cG rk b).length=16:=dM _
def mo (key b:List UInt8):List UInt8:=cG (au key) b
def bP:List UInt8→List UInt8×Bool
  | []=>([],true)
  | x::r=>let (s,c):=bP r; if c then ((x+1)::s,x+1==0) else (x::s,false)
def gy (c:List UInt8):List UInt8:=(bP c).1
theorem o4:∀ c,(bP c).1.length=c.length
  | []=>rfl
  | x::r=>by
    have:=o4 r;simp only[bP];split <;> simp[this]
theorem ub (c:List UInt8):(gy c).length=c.length:=o4 c
def di (c:List UInt8):Nat→List UInt8
  | 0=>c
  | n+1=>gy (di c n)
theorem wM (c:List UInt8):∀ n,(di c n).length=c.length
  | 0=>rfl
  | n+1=>by rw[di,ub,wM c n]
def iG (rk c:List UInt8):Nat→List UInt8
  | 0=>[]
  | n+1=>iG rk c n++cG rk (di c n)
theorem iV (rk c:List UInt8):∀ n,(iG rk c n).length=16*n
  | 0=>rfl
  | n+1=>by rw[iG,KJ,iV rk c n,fe]; omega
def g9 (a b:List UInt8):List UInt8:=List.zipWith aj a b
def dC (rk c b:List UInt8):List UInt8:=g9 b (iG rk c ((b.length+15) / 16))
theorem wN {a b:List UInt8} (h:a.length≤b.length):(g9 a b).length=a.length:=by
  simp[g9]; omega
theorem lq (rk c b:List UInt8):(dC rk c b).length=b.length:=wN (by rw[iV]; omega)
theorem sQ:∀ {a b:List UInt8},a.length≤b.length→g9 (g9 a b) b=a
  | [],_,_=>by simp[g9]
  | x::a,[],h=>by simp at h
  | x::a,y::b,h=>by
    have h1:=sQ (a:=a) (b:=b) (by simpa using h);simp only[g9,List.zipWith_cons_cons,List.cons.injEq] at h1 ⊢;exact⟨by rw[iP,t9,ox],h1⟩
theorem CX (rk c b:List UInt8):dC rk c (dC rk c b)=b:=by
  unfold dC;have h:b.length≤(iG rk c ((b.length+15) / 16)).length:=by rw[iV]; omega
  rw[wN h,sQ h]
def rq (b:ca):ca:=fun j=>aj (aj (cE (b j) 1) (if j<15 then cF (b (j+1)) 7 else 0)) (if j=15 then fP (fQ (b 0) 7) 135 else 0)
theorem I4 (x y:UInt8):fW (cE x 1) (cF y 7)=aj (cE x 1) (cF y 7):=by
  have h:cF y 7=0∨cF y 7=1:=by
    have:=gR (p:=fun y=>cF y 7==0 || cF y 7==1) (by decide +kernel) y
    simpa using this
  rcases h with h | h <;> rw[h]
  ·have:=gR (p:=fun x=>fW (cE x 1) 0==aj (cE x 1) 0) (by decide +kernel) x;rw[beq_iff_eq] at this; exact this
  ·have:=gR (p:=fun x=>fW (cE x 1) 1==aj (cE x 1) 1) (by decide +kernel) x;rw[beq_iff_eq] at this; exact this
def dk (b:List UInt8):List UInt8:=if b.length=16 then be (rq (aK b)) else []
theorem ib {b:List UInt8} (h:b.length=16):(dk b).length=16:=by rw[dk,if_pos h,dM]
def bz:List UInt8→List UInt8→List UInt8
  | x::a,y::b=>aj x y::bz a b
  | a,_=>a
theorem eM:∀ a b:List UInt8,(bz a b).length=a.length
  | [],_=>by simp[bz]
  | x::a,[]=>rfl
  | x::a,y::b=>by simp[bz,eM a b]
theorem wT:∀ (a b:List UInt8) (i:Nat),i<a.length→i<b.length→(bz a b).getD i 0=aj (a.getD i 0) (b.getD i 0)
  | [],_,_,h,_=>by simp at h
  | x::a,[],_,_,h=>by simp at h
  | x::a,y::b,0,_,_=>rfl
  | x::a,y::b,i+1,h,g=>by
    show (bz a b).getD i 0=_
    rw[wT a b i (by simpa using h) (by simpa using g)]; rfl
def dO:List UInt8:=List.replicate 16 0
def eV (b:List UInt8):List UInt8:=b++List.replicate ((16-b.length%16)%16) 0
def eW (rk:List UInt8):List UInt8:=dk (cG rk dO)
def gF (rk:List UInt8):List UInt8:=dk (eW rk)
def eu (rk b:List UInt8):Nat→List UInt8
  | 0=>dO
  | n+1=>cG rk (bz (eu rk b n) ((b.drop (16*n)).take 16))
def iu (b:List UInt8):Nat:=(b.length+15) / 16-1
def gG (rk e:List UInt8):List UInt8:=if e.length=16 then bz e (eW rk) else bz (eV (e++[128])) (gF rk)
def eH (rk b:List UInt8):List UInt8:=cG rk (bz (eu rk b (iu b)) (gG rk (b.drop (16*iu b))))
theorem lN (rk b:List UInt8):∀ n,(eu rk b n).length=16
  | 0=>by simp[eu,dO]
  | n+1=>fe _ _
theorem lO (rk b:List UInt8):(eH rk b).length=16:=fe _ _
theorem o9 (rk:List UInt8):(eW rk).length=16:=ib (fe _ _)
theorem FW (rk:List UInt8):(gF rk).length=16:=ib (o9 _)
theorem nY {b:List UInt8} (h:b.length<16):(eV (b++[128])).length=16:=by
  simp[eV]; omega
theorem FX {rk e:List UInt8} (h:e.length≤16):(gG rk e).length=16:=by
  unfold gG;split
  ·rw[eM]; assumption
  ·rw[eM,nY (by omega)]
def eI (rk:List UInt8) (l:List (List UInt8)):Nat→List UInt8
  | 0=>eH rk dO
  | n+1=>bz (dk (eI rk l n)) (eH rk (l.getD n []))
def ft (rk:List UInt8) (l:List (List UInt8)):List UInt8 :=
  if l.length=0 then eH rk (List.replicate 15 0++[1])
  else
    let d:=eI rk l (l.length-1)
    let s:=l.getD (l.length-1) []
    if 16≤s.length then eH rk (s.take (s.length-16)++bz (s.drop (s.length-16)) d)
    else eH rk (bz (dk d) (eV (s++[128])))
theorem wU (rk:List UInt8) (l:List (List UInt8)):∀ n,(eI rk l n).length=16
  | 0=>lO _ _
  | n+1=>by rw[eI,eM,ib (wU rk l n)]
theorem FY (rk:List UInt8) (l:List (List UInt8)):(ft rk l).length=16:=by
  unfold ft;split
  ·exact lO _ _
  ·dsimp only;split <;> exact lO _ _
theorem Kl {σ:St} {p q r s:Nat×Option Kd} {x y z t:D} (h1:(bc σ p).bind (toW σ.h)=some x) (h2:(bc σ q).bind (toW σ.h)=some y) (h3:(bc σ r).bind (toW σ.h)=some z) (h4:(bc σ s).bind (toW σ.h)=some t):cc σ [p,q,r,s] (.tup [.c (.d x),.c (.d y),.c (.d z),.c (.d t)]):=by
  obtain⟨w1,e1,f1⟩:=K4.1 h1;obtain⟨w2,e2,f2⟩:=K4.1 h2;obtain⟨w3,e3,f3⟩:=K4.1 h3;obtain⟨w4,e4,f4⟩:=K4.1 h4;exact⟨[w1,w2,w3,w4],by simp[aD,e1,e2,e3,e4],.inr (.cons ⟨_,rfl,f1⟩ (.cons ⟨_,rfl,f2⟩ (.cons ⟨_,rfl,f3⟩ (.cons ⟨_,rfl,f4⟩ .nil))))⟩
theorem kX {σ:St} {p q r s:Nat×Option Kd} {x y z t:D} (h1:(bc σ p).bind (toW σ.h)=some x:=by simp only[ae,aa,seval,iteOmega,toNatUp] <;> rfl) (h2:(bc σ q).bind (toW σ.h)=some y:=by simp only[ae,aa,seval,iteOmega,toNatUp] <;> rfl) (h3:(bc σ r).bind (toW σ.h)=some z:=by simp only[ae,aa,seval,iteOmega,toNatUp] <;> rfl) (h4:(bc σ s).bind (toW σ.h)=some t:=by simp only[ae,aa,seval,iteOmega,toNatUp] <;> rfl):cc σ [p,q,r,s] (.tup [.c (.d x),.c (.d y),.c (.d z),.c (.d t)]):=Kl h1 h2 h3 h4
end Go.Proofs.YtbkhllchjbjhgaaDoor
