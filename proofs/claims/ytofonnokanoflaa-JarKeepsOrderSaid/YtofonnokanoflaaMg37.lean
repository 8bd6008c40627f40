/- Texts of one's own, merged: from: The plain logic (20): words of 32 bits. Own work. -/
import Derived.Laws.BitsLemmas
import Derived.Laws.Bits64
import Derived.Laws.BitsAllLaws
import Derived.Test.YtofonnokanoflaaMg36
set_option linter.unusedVariables false
set_option linter.unusedSimpArgs false
namespace Go.Proofs.Ytofonnokanoflaa
open Go.RowKit IntWalk
def cU (x y:UInt32):UInt32:=x ^^^ y
def gS (x y:UInt32):UInt32:=x &&& y
def iV (x y:UInt32):UInt32:=x ||| y
def aQ (x y:UInt32):UInt32:=x+y
def lB (x:UInt32):UInt32:=UInt32.ofNat (4294967295-x.toNat)
def iF (x:UInt32) (n:Nat):UInt32:=UInt32.ofNat (x.toNat / 2^n)
def gT (x:UInt32) (n:Nat):UInt32:=UInt32.ofNat (x.toNat*2^n)
def fg (x:UInt32) (n:Nat):UInt32:=iV (iF x n) (gT x (32-n))
def iv (b:UInt8):UInt32:=UInt32.ofNat b.toNat
theorem word_lt (x:UInt32):x.toNat<4294967296:=x.toNat_lt
theorem H7 (x y:UInt32):bits .xor .u32 (x.toNat:Int) (y.toNat:Int)=((cU x y).toNat:Int):=by
  rw[u32_xor_nat _ _ (word_lt x) (word_lt y)]; simp[cU]
theorem H8 (x y:UInt32):bits .and .u32 (x.toNat:Int) (y.toNat:Int)=((gS x y).toNat:Int):=by
  rw[u32_and_nat _ _ (word_lt x) (word_lt y)]; simp[gS]
theorem Jl (x y:UInt32):bits .or .u32 (x.toNat:Int) (y.toNat:Int)=((iV x y).toNat:Int):=by
  rw[u32_or_nat _ _ (word_lt x) (word_lt y)]; simp[iV]
theorem H9 (x y:UInt32):IntKind.u32.wrap ((x.toNat:Int)+(y.toNat:Int))=((aQ x y).toNat:Int):=by
  rw[IntKind.wrap_u32]; simp[aQ]
theorem Jm (x:UInt32) (n:Nat):(x.toNat:Int) / 2^n=((iF x n).toNat:Int):=by
  have h:x.toNat / 2^n<4294967296:=Sc (Nat.div_le_self _ _) (word_lt x);unfold iF;rw[UInt32.toNat_ofNat_of_lt' (by simpa [UInt32.size] using h)];simp
theorem Jn (x:UInt32) (n:Nat):(x.toNat:Int)*2^n%4294967296=((gT x n).toNat:Int):=by
  unfold gT;simp
theorem Jo (x:UInt32):(4294967295:Int)-(x.toNat:Int)=((lB x).toNat:Int):=by
  have h:=word_lt x;unfold lB;rw[UInt32.toNat_ofNat_of_lt' (by simp[UInt32.size]; omega)];omega
theorem xQ (b:UInt8):(b.toNat:Int)=((iv b).toNat:Int):=by
  have h:=b.toNat_lt;unfold iv;rw[UInt32.toNat_ofNat_of_lt' (by simp[UInt32.size]; omega)]
theorem xR (x y:UInt32):aX .xor (.w (.c (.d (wD x)))) (.w (.c (.d (wD y))))=some (wD (cU x y)):=by
  show aT .xor .u32 (x.toNat:Int) .u32 (y.toNat:Int)=_
  rw[nN,H7]; rfl
theorem xS (x y:UInt32):aX .and (.w (.c (.d (wD x)))) (.w (.c (.d (wD y))))=some (wD (gS x y)):=by
  show aT .and .u32 (x.toNat:Int) .u32 (y.toNat:Int)=_
  rw[nM,H8]; rfl
theorem zT (x y:UInt32):aX .or (.w (.c (.d (wD x)))) (.w (.c (.d (wD y))))=some (wD (iV x y)):=by
  show aT .or .u32 (x.toNat:Int) .u32 (y.toNat:Int)=_
  rw[oo,Jl]; rfl
theorem xT (x y:UInt32):aX .add (.w (.c (.d (wD x)))) (.w (.c (.d (wD y))))=some (wD (aQ x y)):=by
  show aT .add .u32 (x.toNat:Int) .u32 (y.toNat:Int)=_
  rw[nJ,H9]; rfl
theorem xU (x:UInt32) (k:IntKind) (n:Int) (h:0≤n):aX .shl (.w (.c (.d (wD x)))) (.w (.c (.d (.int k n))))=some (wD (gT x (min n.toNat 32))):=by
  show aT .shl .u32 (x.toNat:Int) k n=_
  rw[nO _ _ _ _ h,IntKind.wrap_u32]
  show some (D.int .u32 ((x.toNat:Int)*2^min n.toNat 32%4294967296))=_
  rw[Jn]; rfl
theorem xV (x:UInt32) (k:IntKind) (n:Int) (h:0≤n):aX .shr (.w (.c (.d (wD x)))) (.w (.c (.d (.int k n))))=some (wD (iF x (min n.toNat 32))):=by
  show aT .shr .u32 (x.toNat:Int) k n=_
  rw[nP _ _ _ _ h]
  show some (D.int .u32 ((x.toNat:Int) / 2^min n.toNat 32))=_
  rw[Jm]; rfl
theorem zU (x:UInt32):gZ .xor (.w (.c (.d (wD x))))=some (wD (lB x)):=by
  have:bits .xor .u32 4294967295 (x.toNat:Int)=(4294967295:Int)-(x.toNat:Int):=by
    have h:=x.toNat_lt;have h2:4294967295 ^^^ x.toNat=4294967295-x.toNat:=by
      have e:=congrArg BitVec.toNat (BitVec.allOnes_xor (x:=BitVec.ofNat 32 x.toNat));rw[BitVec.toNat_xor,BitVec.toNat_not,BitVec.toNat_allOnes,BitVec.toNat_ofNat,Nat.mod_eq_of_lt (by omega)] at e;omega
    have h3:=u32_xor_nat 4294967295 x.toNat (by decide) h;rw[h2] at h3;have h4:((4294967295:Nat):Int)=4294967295:=rfl;rw[h4] at h3;omega
  show some (D.int .u32 (bits .xor .u32 4294967295 (x.toNat:Int)))=_
  rw[this,Jo]; rfl
theorem xW (x y:UInt32):aX .eql (.w (.c (.d (wD x)))) (.w (.c (.d (wD y))))=some (.bool (x==y)):=by
  show aT .eql .u32 (x.toNat:Int) .u32 (y.toNat:Int)=_
  rw[nK];by_cases h:x=y
  ·subst h; simp
  ·have:¬ ((x.toNat:Int)=(y.toNat:Int)):=fun e=>h (UInt32.toNat_inj.1 (by omega))
   simp[this,h]
theorem xX (x y:UInt32):aX .neq (.w (.c (.d (wD x)))) (.w (.c (.d (wD y))))=some (.bool (x != y)):=by
  show aT .neq .u32 (x.toNat:Int) .u32 (y.toNat:Int)=_
  rw[nL];by_cases h:x=y
  ·subst h; simp
  ·have:¬ ((x.toNat:Int)=(y.toNat:Int)):=fun e=>h (UInt32.toNat_inj.1 (by omega))
   simp[this,h]
theorem zV (b:UInt8):D.int .u32 (IntKind.u32.wrap (b.toNat:Int))=wD (iv b):=by
  have h:=b.toNat_lt;rw[IntWalk.u32_in _ (by omega),xQ]; rfl
def al (x y:UInt8):UInt8:=x ^^^ y
def jm (x y:UInt8):UInt8:=x &&& y
def hC (x y:UInt8):UInt8:=x ||| y
def cV (x:UInt8) (n:Nat):UInt8:=UInt8.ofNat (x.toNat*2^n)
def cW (x:UInt8) (n:Nat):UInt8:=UInt8.ofNat (x.toNat / 2^n)
theorem i4 (x:UInt8):x.toNat<256:=x.toNat_lt
theorem eX (x y:UInt8):aX .xor (.w (.c (.d (bD x)))) (.w (.c (.d (bD y))))=some (bD (al x y)):=by
  show aT .xor .u8 (x.toNat:Int) .u8 (y.toNat:Int)=_
  rw[nN,u8_xor_nat _ _ (i4 x) (i4 y)]; simp[al,bD]
theorem rm (x y:UInt8):aX .and (.w (.c (.d (bD x)))) (.w (.c (.d (bD y))))=some (bD (jm x y)):=by
  show aT .and .u8 (x.toNat:Int) .u8 (y.toNat:Int)=_
  rw[nM,u8_and_nat _ _ (i4 x) (i4 y)]; simp[jm,bD]
theorem r7 (x y:UInt8):aX .or (.w (.c (.d (bD x)))) (.w (.c (.d (bD y))))=some (bD (hC x y)):=by
  show aT .or .u8 (x.toNat:Int) .u8 (y.toNat:Int)=_
  rw[oo,u8_or_nat _ _ (i4 x) (i4 y)]; simp[hC,bD]
theorem Ia (x:UInt8) (k:IntKind) (n:Int) (h:0≤n):aX .shl (.w (.c (.d (bD x)))) (.w (.c (.d (.int k n))))=some (bD (cV x (min n.toNat 8))):=by
  show aT .shl .u8 (x.toNat:Int) k n=_
  rw[nO _ _ _ _ h,IntKind.wrap_u8]
  show some (D.int .u8 ((x.toNat:Int)*2^min n.toNat 8%256))=_
  have:(x.toNat:Int)*2^min n.toNat 8%256=((cV x (min n.toNat 8)).toNat:Int):=by unfold cV; simp
  rw[this]; rfl
theorem Ib (x:UInt8) (k:IntKind) (n:Int) (h:0≤n):aX .shr (.w (.c (.d (bD x)))) (.w (.c (.d (.int k n))))=some (bD (cW x (min n.toNat 8))):=by
  show aT .shr .u8 (x.toNat:Int) k n=_
  rw[nP _ _ _ _ h]
  show some (D.int .u8 ((x.toNat:Int) / 2^min n.toNat 8))=_
  have:(x.toNat:Int) / 2^min n.toNat 8=((cW x (min n.toNat 8)).toNat:Int):=by
    have h:x.toNat / 2^min n.toNat 8<256:=Sc (Nat.div_le_self _ _) (i4 x);unfold cW;rw[UInt8.toNat_ofNat_of_lt' (by simpa [UInt8.size] using h)];simp
  rw[this]; rfl
theorem Ic (x y:UInt8):aX .eql (.w (.c (.d (bD x)))) (.w (.c (.d (bD y))))=some (.bool (x==y)):=by
  show aT .eql .u8 (x.toNat:Int) .u8 (y.toNat:Int)=_
  rw[nK];by_cases h:x=y
  ·subst h; simp
  ·have:¬ ((x.toNat:Int)=(y.toNat:Int)):=fun e=>h (UInt8.toNat_inj.1 (by omega))
   simp[this,h]
theorem Ie (x y:UInt8):aX .neq (.w (.c (.d (bD x)))) (.w (.c (.d (bD y))))=some (.bool (x != y)):=by
  show aT .neq .u8 (x.toNat:Int) .u8 (y.toNat:Int)=_
  rw[nL];by_cases h:x=y
  ·subst h; simp
  ·have:¬ ((x.toNat:Int)=(y.toNat:Int)):=fun e=>h (UInt8.toNat_inj.1 (by omega))
   simp[this,h]
theorem Gb (G:ak) (f:Nat→V):ev G f .u=.undef:=rfl
def Fq (P:Program) (G:ak) (d:Option Nat) (r:List aG) (K:St→Prop) (f:Nat→V) (h:ai) (u:Nat→Bool) (F:Nat) (ds:List D):Prop:=ap P G r K ⟨aP f d (.w (.c (.d (.fn F ds)))),h,u⟩
theorem BD (P:Program) (G:ak) (d:Option Nat) (r:List aG) (K:St→Prop) (f:Nat→V) (h:ai) (u:Nat→Bool) (F:Nat) (xs:List SX):ap P G (⟨d,.clos F xs,none⟩::r) K ⟨f,h,u⟩=aK (cT (xs.map (ev G f))) (Fq P G d r K f h u F):=by
  show (match (cT (xs.map (ev G f))).map fun ds=>((.w (.c (.d (.fn F ds))),h,u):R) with | some r=>_ | none=>False)=_
  cases cT (xs.map (ev G f)) <;> rfl
theorem zW (P:Program) (G:ak) (d:Option Nat) (r:List aG) (K:St→Prop) (f:Nat→V) (h:ai) (u:Nat→Bool) (F:Nat) (ds:List D):Fq P G d r K f h u F ds=ap P G r K ⟨aP f d (.w (.c (.d (.fn F ds)))),h,u⟩:=rfl
theorem xY:cT []=some []:=rfl
theorem zX (cs:List D) (r:List V):cT (.w (.c (.rp cs))::r)=(cT r).map fun l=>.ref cs::l:=by
  simp only[cT,jV]; cases cT r <;> rfl
theorem xZ (k:IntKind) (n:Int) (r:List V):cT (.w (.c (.d (.int k n)))::r)=(cT r).map fun l=>.int k n::l:=by
  simp only[cT,jV]; cases cT r <;> rfl
theorem zY (es:List D) (r:List V):cT (.w (.c (.d (.sl es)))::r)=(cT r).map fun l=>.sl es::l:=by
  simp only[cT,jV]; cases cT r <;> rfl
def vg (P:Program) (G:ak) (body:aI) (K:AX→St→Prop) (e:AX) (s:St):Prop:=match e with | .nrm=>aW P G body K s | _=>False
def vh (f0:Nat→V) (I:Nat→ai→(Nat→Bool)→Prop) (Q:AX→St→Prop) (k:Nat) (e:AX) (s:St):Prop:=match e with
  | .nrm=>∃ h' u',dz s ⟨f0,h',u'⟩∧I (k+1) h' u'
  | e=>∃ h' u',dz s ⟨f0,h',u'⟩∧Q e ⟨f0,h',u'⟩
theorem zZ (P:Program) (G:ak) (body:aI) (K:AX→St→Prop) (s:St):vg P G body K .nrm s=aW P G body K s:=rfl
def vj (st:Nat→ai×(Nat→Bool)) (k:Nat) (h:ai) (u:Nat→Bool):Prop:=(h,u)=st k
theorem Jp {P:Program} {G:ak} {Q:AX→St→Prop} {σ:St} {x:SX} {ps:List Nat} {asg body:aI} {g:Nat} {caps:List D} {xs:List (List D)} (f0:Nat→V) {f1:Nat→V} (hf:f0=f1) (st:Nat→ai×(Nat→Bool))
    (hev:ev G σ.f x=.w (.c (.d (.fn g caps)))) (hseq:u6 P G g caps xs) (hlen:∀ r∈xs,r.length=ps.length) (hent:dz σ ⟨f1,(st 0).1,(st 0).2⟩) (hun:∀ t∈ps++asg.writes++body.writes,f1 t=.undef)
    (round:∀ k r,xs[k]?=some r→aW P G asg (vg P G body (vh f0 (vj st) Q k)) ⟨lg f1 ps r,(st k).1,(st k).2⟩)
    (done:Q .nrm ⟨f1,(st xs.length).1,(st xs.length).2⟩):aW P G (.rangeF x ps asg body) Q σ:=by
  subst hf;refine⟨g,caps,xs,f0,(st 0).1,(st 0).2,fun k h u=>(h,u)=st k,hev,hseq,hlen,hent,hun,rfl,fun k r h u hr e=>?_,fun h u e=>?_⟩
  ·have:=round k r hr;rw[← e] at this
   have e1:(fun (e:AX) (s:St)=>match e with
       | .nrm=>aW P G body (fun e s'=>match e with
         | .nrm=>∃ h' u',dz s' ⟨f0,h',u'⟩∧(h',u')=st (k+1)
         | e=>∃ h' u',dz s' ⟨f0,h',u'⟩∧Q e ⟨f0,h',u'⟩) s
       | _=>False)=vg P G body (vh f0 (vj st) Q k):=by
     funext e s
     cases e with
     | nrm =>
       show aW P G body _ s=aW P G body _ s
       congr 1
     | _=>rfl
   rw[← e1] at this;exact this
  ·rw[← e] at done; exact done
theorem Jq {f0:Nat→V} {f1:Nat→V} (hf:f0=f1) {st:Nat→ai×(Nat→Bool)} {Q:AX→St→Prop} {k:Nat} {s:St} (h:dz s ⟨f1,(st (k+1)).1,(st (k+1)).2⟩):vh f0 (vj st) Q k .nrm s:=⟨_,_,hf ▸ h,rfl⟩
def bC (x:UInt8):C:=.d (bD x)
theorem mr (l:List UInt8):(l.map bD).map C.d=l.map bC:=by rw[SL]; rfl
theorem l8:∀ l:List UInt8,dc (l.map bC)=some (l.map bD)
  | []=>rfl
  | x::l=>by
    have h:=l8 l
    show dc (C.d (bD x)::l.map bC)=_
    simp only[dc,h,QX,Sq]
theorem Js {α β:Type} (f:α→β) (l cs:List α) (off:Nat):bG (l.map f) off (cs.map f)=(bG l off cs).map f:=by
  unfold bG; simp
theorem eu (l:List UInt8):(l.map bC).flatMap C.ids=[]:=by
  induction l with
  | nil=>rfl
  | cons x l ih=>rw[QX,Q6,ih]; rfl
theorem kV (g:Nat→Nat) (l:List UInt8):(l.map bC).map (C.ren g)=l.map bC:=by rw[SL]; rfl
theorem M0 (x c:UInt8) (n:Int) (h:n=(c.toNat:Int)):aX .eql (.w (.c (.d (bD x)))) (.w (.c (.d (.int .u8 n))))=some (.bool (x==c)):=by subst h; exact Ic x c
theorem M1 (x c:UInt8) (n:Int) (h:n=(c.toNat:Int)):aX .neq (.w (.c (.d (bD x)))) (.w (.c (.d (.int .u8 n))))=some (.bool (x != c)):=by subst h; exact Ie x c
theorem M2 (x c:UInt8) (n:Int) (h:n=(c.toNat:Int)):aX .xor (.w (.c (.d (bD x)))) (.w (.c (.d (.int .u8 n))))=some (bD (al x c)):=by subst h; exact eX x c
theorem D1 (x c:UInt8) (n:Int) (h:n=(c.toNat:Int)):aX .and (.w (.c (.d (bD x)))) (.w (.c (.d (.int .u8 n))))=some (bD (jm x c)):=by subst h; exact rm x c
theorem D2 (x:UInt8) (k:IntKind) (j:Nat) (n:Int) (h:n=(j:Int)) (hj:j≤8):aX .shr (.w (.c (.d (bD x)))) (.w (.c (.d (.int k n))))=some (bD (cW x j)):=by
  subst h;rw[Ib _ _ _ (Int.natCast_nonneg j),Int.toNat_natCast,Sl hj]
theorem D3 (x:UInt8) (k:IntKind) (j:Nat) (n:Int) (h:n=(j:Int)) (hj:j≤8):aX .shl (.w (.c (.d (bD x)))) (.w (.c (.d (.int k n))))=some (bD (cV x j)):=by
  subst h;rw[Ia _ _ _ (Int.natCast_nonneg j),Int.toNat_natCast,Sl hj]
def aV {α:Type} (n:Nat) (x:α):List α:=List.replicate n x
theorem bP {α:Type} (n:Nat) (x:α):(aV n x).length=n:=Rc
theorem BE (n:Nat):aV n (C.d (D.int .u8 0))=(aV n (0:UInt8)).map bC:=by unfold aV; rw[List.map_replicate]; rfl
set_option maxRecDepth 100000
theorem jW {a b : Prop} (l : a) (r : b) : a ∧ b := And.intro l r
theorem wx:i3 (jW @pm (jW @pn (jW @po (jW @pp (jW @pq (jW @sx (jW @tI (jW @sN (jW @CM (jW @CN (jW @CL (jW @tH (jW @As (jW @E0 (jW @E1 (jW @E2 (jW @bY.eq_1 (jW @bY.eq_2 (jW @bY.eq_3 (jW @bY.eq_4 (jW @d7.eq_1 (jW @d7.eq_2 (jW @killAll.eq_1 (jW @killAll.eq_2 (jW @killAll.eq_3 (jW @Gb (jW @BD (jW @zW (jW @xY (jW @zX (jW @xZ (jW @zY (jW @zZ (jW @ef.eq_1 (jW @ef.eq_2 (jW @ef.eq_3 (jW @ef.eq_4 (jW @ef.eq_5 (jW @ef.eq_6 (jW @ef.eq_7 (jW @ef.eq_8 (jW @ef.eq_9 (jW @ef.eq_10 (jW @ef.eq_11 (jW @ef.eq_12 (jW @ef.eq_13 (jW @ef.eq_14 (jW @ef.eq_15 (jW @ef.eq_16 (jW @ef.eq_17 (jW @ef.eq_18 (jW @ef.eq_19 (jW @ef.eq_20 (jW @ef.eq_21 (jW @ef.eq_22 (jW @ef.eq_23 (jW @ef.eq_24 (jW @ef.eq_25 (jW @ef.eq_26 (jW @ef.eq_27 (jW @ef.eq_28 (jW @ef.eq_29 (jW @ef.eq_30 (jW @ef.eq_31 (jW @ef.eq_32 (jW @ef.eq_33 (jW @ef.eq_34 (jW @ef.eq_35 (jW @ef.eq_36 (jW @ef.eq_37 (jW @ef.eq_38 (jW @ef.eq_39 (jW @ef.eq_40 (jW @ef.eq_41 (jW @ef.eq_42 (jW @ef.eq_43 (jW @ef.eq_44 (jW @ef.eq_45 (jW @ef.eq_46 (jW @ef.eq_47 (jW @ef.eq_48 (jW @ef.eq_49 (jW @ef.eq_50 (jW @ef.eq_51 (jW @ef.eq_52 (jW @ef.eq_53 (jW @bound.eq_1 (jW @bound.eq_2 (jW @g9.eq_1 (jW @g9.eq_2 (jW @g9.eq_3 (jW @g9.eq_4 (jW @dS.eq_1 (jW @bA.eq_1 (jW @bA.eq_2 (jW @bA.eq_3 (jW @bA.eq_4 (jW @bA.eq_5 (jW @bA.eq_6 (jW @bA.eq_7 (jW @bA.eq_8 (jW @cE.eq_1 (jW @cE.eq_2 (jW @cE.eq_3 (jW @cE.eq_4 (jW @cE.eq_5 (jW @cE.eq_6 (jW @cE.eq_7 (jW @Bn (jW @ei.eq_1 (jW @ei.eq_2 (jW @parts.eq_1 (jW @parts.eq_2 (jW @elems.eq_1 (jW @elems.eq_2 (jW @dk.eq_1 (jW @F9 (jW @Ga (jW @DR (jW @BC (jW @DT (jW @Fo (jW @DU (jW @DV (jW @DW (jW @DX (jW @Fp (jW @DY (jW @dH.eq_1 (jW @dH.eq_2 (jW @dH.eq_3 (jW @dH.eq_4 (jW @k9.eq_1 (jW @k9.eq_2 (jW @dc.eq_1 (jW @dc.eq_2 (jW @dc.eq_3 (jW @cA.eq_1 (jW @cA.eq_2 (jW @cA.eq_3 (jW @cA.eq_4 (jW @cN.eq_1 (jW @cN.eq_2 (jW @cN.eq_3 (jW @bZ.eq_1 (jW @bZ.eq_2 (jW @bZ.eq_3 (jW @bZ.eq_4 (jW @bZ.eq_5 (jW @bZ.eq_6 (jW @bZ.eq_7 (jW @bZ.eq_8 (jW @bZ.eq_9 (jW @bZ.eq_10 (jW @iA.eq_1 (jW @dI.eq_1 (jW @dI.eq_2 (jW @dI.eq_3 (jW @toW.eq_1 (jW @toW.eq_2 (jW @cD.eq_1 (jW @cD.eq_2 (jW @cD.eq_3 (jW @cD.eq_4 (jW @dQ.eq_1 (jW @dQ.eq_2 (jW @cb.eq_1 (jW @cb.eq_2 (jW @cv.eq_1 (jW @cv.eq_2 (jW @cv.eq_3 (jW @ints.eq_1 (jW @ints.eq_2 (jW @ints.eq_3 (jW @cn.eq_1 (jW @cn.eq_2 (jW @cn.eq_3 (jW @gQ.eq_1 (jW @gQ.eq_2 (jW @gQ.eq_3 (jW @W.ro.eq_1 (jW @W.ro.eq_2 (jW @C.ro.eq_1 (jW @C.ro.eq_2 (jW @V.ro.eq_1 (jW @V.ro.eq_2 (jW @V.ro.eq_3 (jW @jh.eq_1 (jW @jh.eq_2 (jW @jh.eq_3 (jW @Kd.size.eq_1 (jW @Kd.size.eq_2 (jW @xL (jW @wU (jW @xM (jW @zI (jW @xN (jW @bG.eq_1 (jW @bw.eq_1 (jW @bw.eq_2 (jW @Nat.min_def (jW @Sq.{0,0} (jW @Option.map_none.{0,0} (jW @Bool.not_true (jW @Bool.not_false (jW @decide_true (jW @decide_false (jW @Bool.and_self (jW @QX.{0,0} (jW @Ro.{0,0} (jW @List.any_cons.{0} (jW @List.any_nil.{0} (jW @SJ.{0} (jW @Su.{0} (jW @R9.{0} (jW @RQ.{0} (jW @Ru.{0} (jW @if_true.{1} (jW @if_false.{1} (jW @true_and (jW @and_true (jW @vd.eq_1 (jW @Int.natCast_nonneg (jW @SI.{0} (jW @RS.{0} (jW @dC (jW @gE (jW @ga (jW @ie (jW @zN (jW @zO (jW @Fg (jW @Fh (jW @Bt (jW @Bu (jW @Fi (jW @xR (jW @xS (jW @zT (jW @xT (jW @xU (jW @xV (jW @xW (jW @xX (jW @eX (jW @rm (jW @r7 (jW @zy (jW @zz (jW @zA (jW @zB (jW @zE (jW @zF (jW @zG (jW @zH (jW @zR (jW @zS (jW @zU (jW @zV (jW @zM (jW @zJ (jW @zK (jW @zL (jW @List.set_cons_zero.{0} (jW @List.set_cons_succ.{0} (jW @Bv (jW @fD (jW @Kd.ag.injEq (jW @QV.{0} (jW @Rc.{0} (jW @nQ (jW @Bo (jW @kP (jW @DG (jW @oq (jW @DI (jW @Bs (jW @zx (jW @R0.{0} (jW @RN.{0} (jW @List.take_succ_cons.{0} (jW @List.take_zero.{0} (jW @List.drop_succ_cons.{0} (jW @List.take_nil.{0} (jW @List.drop_nil.{0} (jW @Rh.{0} (jW @Q6.{0,0} (jW @List.flatMap_nil.{0,0} (jW @Option.bind_some.{0,0} (jW @ne_eq.{1} (jW @not_false_eq_true (@not_true_eq_false)))))))))))))))))))))))))))))))))))))))))))))))))))))))))))))))))))))))))))))))))))))))))))))))))))))))))))))))))))))))))))))))))))))))))))))))))))))))))))))))))))))))))))))))))))))))))))))))))))))))))))))))))))))))))))))))))))))))))))))))))))))))))))))))))))))))))))))))))))))))))))))))))))):=jW @pm (jW @pn (jW @po (jW @pp (jW @pq (jW @sx (jW @tI (jW @sN (jW @CM (jW @CN (jW @CL (jW @tH (jW @As (jW @E0 (jW @E1 (jW @E2 (jW @bY.eq_1 (jW @bY.eq_2 (jW @bY.eq_3 (jW @bY.eq_4 (jW @d7.eq_1 (jW @d7.eq_2 (jW @killAll.eq_1 (jW @killAll.eq_2 (jW @killAll.eq_3 (jW @Gb (jW @BD (jW @zW (jW @xY (jW @zX (jW @xZ (jW @zY (jW @zZ (jW @ef.eq_1 (jW @ef.eq_2 (jW @ef.eq_3 (jW @ef.eq_4 (jW @ef.eq_5 (jW @ef.eq_6 (jW @ef.eq_7 (jW @ef.eq_8 (jW @ef.eq_9 (jW @ef.eq_10 (jW @ef.eq_11 (jW @ef.eq_12 (jW @ef.eq_13 (jW @ef.eq_14 (jW @ef.eq_15 (jW @ef.eq_16 (jW @ef.eq_17 (jW @ef.eq_18 (jW @ef.eq_19 (jW @ef.eq_20 (jW @ef.eq_21 (jW @ef.eq_22 (jW @ef.eq_23 (jW @ef.eq_24 (jW @ef.eq_25 (jW @ef.eq_26 (jW @ef.eq_27 (jW @ef.eq_28 (jW @ef.eq_29 (jW @ef.eq_30 (jW @ef.eq_31 (jW @ef.eq_32 (jW @ef.eq_33 (jW @ef.eq_34 (jW @ef.eq_35 (jW @ef.eq_36 (jW @ef.eq_37 (jW @ef.eq_38 (jW @ef.eq_39 (jW @ef.eq_40 (jW @ef.eq_41 (jW @ef.eq_42 (jW @ef.eq_43 (jW @ef.eq_44 (jW @ef.eq_45 (jW @ef.eq_46 (jW @ef.eq_47 (jW @ef.eq_48 (jW @ef.eq_49 (jW @ef.eq_50 (jW @ef.eq_51 (jW @ef.eq_52 (jW @ef.eq_53 (jW @bound.eq_1 (jW @bound.eq_2 (jW @g9.eq_1 (jW @g9.eq_2 (jW @g9.eq_3 (jW @g9.eq_4 (jW @dS.eq_1 (jW @bA.eq_1 (jW @bA.eq_2 (jW @bA.eq_3 (jW @bA.eq_4 (jW @bA.eq_5 (jW @bA.eq_6 (jW @bA.eq_7 (jW @bA.eq_8 (jW @cE.eq_1 (jW @cE.eq_2 (jW @cE.eq_3 (jW @cE.eq_4 (jW @cE.eq_5 (jW @cE.eq_6 (jW @cE.eq_7 (jW @Bn (jW @ei.eq_1 (jW @ei.eq_2 (jW @parts.eq_1 (jW @parts.eq_2 (jW @elems.eq_1 (jW @elems.eq_2 (jW @dk.eq_1 (jW @F9 (jW @Ga (jW @DR (jW @BC (jW @DT (jW @Fo (jW @DU (jW @DV (jW @DW (jW @DX (jW @Fp (jW @DY (jW @dH.eq_1 (jW @dH.eq_2 (jW @dH.eq_3 (jW @dH.eq_4 (jW @k9.eq_1 (jW @k9.eq_2 (jW @dc.eq_1 (jW @dc.eq_2 (jW @dc.eq_3 (jW @cA.eq_1 (jW @cA.eq_2 (jW @cA.eq_3 (jW @cA.eq_4 (jW @cN.eq_1 (jW @cN.eq_2 (jW @cN.eq_3 (jW @bZ.eq_1 (jW @bZ.eq_2 (jW @bZ.eq_3 (jW @bZ.eq_4 (jW @bZ.eq_5 (jW @bZ.eq_6 (jW @bZ.eq_7 (jW @bZ.eq_8 (jW @bZ.eq_9 (jW @bZ.eq_10 (jW @iA.eq_1 (jW @dI.eq_1 (jW @dI.eq_2 (jW @dI.eq_3 (jW @toW.eq_1 (jW @toW.eq_2 (jW @cD.eq_1 (jW @cD.eq_2 (jW @cD.eq_3 (jW @cD.eq_4 (jW @dQ.eq_1 (jW @dQ.eq_2 (jW @cb.eq_1 (jW @cb.eq_2 (jW @cv.eq_1 (jW @cv.eq_2 (jW @cv.eq_3 (jW @ints.eq_1 (jW @ints.eq_2 (jW @ints.eq_3 (jW @cn.eq_1 (jW @cn.eq_2 (jW @cn.eq_3 (jW @gQ.eq_1 (jW @gQ.eq_2 (jW @gQ.eq_3 (jW @W.ro.eq_1 (jW @W.ro.eq_2 (jW @C.ro.eq_1 (jW @C.ro.eq_2 (jW @V.ro.eq_1 (jW @V.ro.eq_2 (jW @V.ro.eq_3 (jW @jh.eq_1 (jW @jh.eq_2 (jW @jh.eq_3 (jW @Kd.size.eq_1 (jW @Kd.size.eq_2 (jW @xL (jW @wU (jW @xM (jW @zI (jW @xN (jW @bG.eq_1 (jW @bw.eq_1 (jW @bw.eq_2 (jW @Nat.min_def (jW @Sq.{0,0} (jW @Option.map_none.{0,0} (jW @Bool.not_true (jW @Bool.not_false (jW @decide_true (jW @decide_false (jW @Bool.and_self (jW @QX.{0,0} (jW @Ro.{0,0} (jW @List.any_cons.{0} (jW @List.any_nil.{0} (jW @SJ.{0} (jW @Su.{0} (jW @R9.{0} (jW @RQ.{0} (jW @Ru.{0} (jW @if_true.{1} (jW @if_false.{1} (jW @true_and (jW @and_true (jW @vd.eq_1 (jW @Int.natCast_nonneg (jW @SI.{0} (jW @RS.{0} (jW @dC (jW @gE (jW @ga (jW @ie (jW @zN (jW @zO (jW @Fg (jW @Fh (jW @Bt (jW @Bu (jW @Fi (jW @xR (jW @xS (jW @zT (jW @xT (jW @xU (jW @xV (jW @xW (jW @xX (jW @eX (jW @rm (jW @r7 (jW @zy (jW @zz (jW @zA (jW @zB (jW @zE (jW @zF (jW @zG (jW @zH (jW @zR (jW @zS (jW @zU (jW @zV (jW @zM (jW @zJ (jW @zK (jW @zL (jW @List.set_cons_zero.{0} (jW @List.set_cons_succ.{0} (jW @Bv (jW @fD (jW @Kd.ag.injEq (jW @QV.{0} (jW @Rc.{0} (jW @nQ (jW @Bo (jW @kP (jW @DG (jW @oq (jW @DI (jW @Bs (jW @zx (jW @R0.{0} (jW @RN.{0} (jW @List.take_succ_cons.{0} (jW @List.take_zero.{0} (jW @List.drop_succ_cons.{0} (jW @List.take_nil.{0} (jW @List.drop_nil.{0} (jW @Rh.{0} (jW @Q6.{0,0} (jW @List.flatMap_nil.{0,0} (jW @Option.bind_some.{0,0} (jW @ne_eq.{1} (jW @not_false_eq_true (@not_true_eq_false)))))))))))))))))))))))))))))))))))))))))))))))))))))))))))))))))))))))))))))))))))))))))))))))))))))))))))))))))))))))))))))))))))))))))))))))))))))))))))))))))))))))))))))))))))))))))))))))))))))))))))))))))))))))))))))))))))))))))))))))))))))))))))))))))))))))))))))))))))))))))))))))))))
theorem wy:i3 (jW @Fl (jW @wn (jW @Bw (jW @zP (jW @Bz (jW @DO (jW @eG (jW @pu (@cond_true.{1}))))))))):=jW @Fl (jW @wn (jW @Bw (jW @zP (jW @Bz (jW @DO (jW @eG (jW @pu (@cond_true.{1}))))))))
theorem wz:i3 (jW @Bool.false_and (jW @Bool.and_false (jW @xP (jW @Nat.sub_zero (jW @xO (jW @wW (jW @beq_self_eq_true.{0} (jW @Sf (jW @SG (jW @F3 (jW @F4 (jW @F5 (jW @F6 (jW @F7 (jW @F8 (jW @Sz.{0} (jW @Se (jW @Nat.one_mul (jW @Sb (jW @Sa (jW @DL (jW @tQ (jW @DN (jW @Fj (jW @Int.natCast_add (jW @Int.natCast_mul (jW @Int.natCast_one (jW @SN (@Int.cast_ofNat_Int))))))))))))))))))))))))))))):=jW @Bool.false_and (jW @Bool.and_false (jW @xP (jW @Nat.sub_zero (jW @xO (jW @wW (jW @beq_self_eq_true.{0} (jW @Sf (jW @SG (jW @F3 (jW @F4 (jW @F5 (jW @F6 (jW @F7 (jW @F8 (jW @Sz.{0} (jW @Se (jW @Nat.one_mul (jW @Sb (jW @Sa (jW @DL (jW @tQ (jW @DN (jW @Fj (jW @Int.natCast_add (jW @Int.natCast_mul (jW @Int.natCast_one (jW @SN (@Int.cast_ofNat_Int))))))))))))))))))))))))))))
theorem aA:i3 (jW @V.ren.eq_1 (jW @V.ren.eq_2 (jW @V.ren.eq_3 (jW @W.ren.eq_1 (jW @W.ren.eq_2 (jW @C.ren.eq_1 (jW @C.ren.eq_2 (jW @C.ren.eq_3 (jW @C.ren.eq_4 (jW @C.ren.eq_5 (jW @C.ren.eq_6 (jW @V.ids.eq_1 (jW @V.ids.eq_2 (jW @V.ids.eq_3 (jW @W.ids.eq_1 (jW @W.ids.eq_2 (jW @C.ids.eq_1 (jW @C.ids.eq_2 (jW @C.ids.eq_3 (jW @C.ids.eq_4 (jW @C.ids.eq_5 (jW @C.ids.eq_6 (jW @Ob.ren.eq_1 (jW @Ob.ren.eq_2 (jW @Ob.ren.eq_3 (jW @Ob.ren.eq_4 (jW @Ob.ids.eq_1 (jW @Ob.ids.eq_2 (jW @Ob.ids.eq_3 (jW @Ob.ids.eq_4 (jW @Int.cast_ofNat_Int (jW @Sz.{0} (jW @Bp (jW @zu (jW @Bq (jW @zw (jW @id_eq.{1} (jW @Se (jW @Nat.mul_zero (jW @Ss (@Sd.{0}))))))))))))))))))))))))))))))))))))))))):=jW @V.ren.eq_1 (jW @V.ren.eq_2 (jW @V.ren.eq_3 (jW @W.ren.eq_1 (jW @W.ren.eq_2 (jW @C.ren.eq_1 (jW @C.ren.eq_2 (jW @C.ren.eq_3 (jW @C.ren.eq_4 (jW @C.ren.eq_5 (jW @C.ren.eq_6 (jW @V.ids.eq_1 (jW @V.ids.eq_2 (jW @V.ids.eq_3 (jW @W.ids.eq_1 (jW @W.ids.eq_2 (jW @C.ids.eq_1 (jW @C.ids.eq_2 (jW @C.ids.eq_3 (jW @C.ids.eq_4 (jW @C.ids.eq_5 (jW @C.ids.eq_6 (jW @Ob.ren.eq_1 (jW @Ob.ren.eq_2 (jW @Ob.ren.eq_3 (jW @Ob.ren.eq_4 (jW @Ob.ids.eq_1 (jW @Ob.ids.eq_2 (jW @Ob.ids.eq_3 (jW @Ob.ids.eq_4 (jW @Int.cast_ofNat_Int (jW @Sz.{0} (jW @Bp (jW @zu (jW @Bq (jW @zw (jW @id_eq.{1} (jW @Se (jW @Nat.mul_zero (jW @Ss (@Sd.{0}))))))))))))))))))))))))))))))))))))))))
theorem aJ:i3 (jW @Int.natCast_add (jW @Int.natCast_mul (jW @Int.natCast_one (@SN)))):=jW @Int.natCast_add (jW @Int.natCast_mul (jW @Int.natCast_one (@SN)))
theorem ae:i3 (jW @wx (jW @wy @wz)):=jW @wx (jW @wy @wz)
theorem aM {σ:St} {p:Nat×Option Kd} {x:D} (h1:(bw σ p).bind (toW σ.h)=some x:=by simp only[ae,aa,seval,iteOmega,toNatUp]):cg σ [p] (.w (.c (.d x))):=mg h1
theorem fQ {σ:St} {p q:Nat×Option Kd} {x y:D} (h1:(bw σ p).bind (toW σ.h)=some x:=by simp only[ae,aa,seval,iteOmega,toNatUp]) (h2:(bw σ q).bind (toW σ.h)=some y:=by simp only[ae,aa,seval,iteOmega,toNatUp]):cg σ [p,q] (.tup [.c (.d x),.c (.d y)]):=tS h1 h2
theorem iX {σ:St} {p q r:Nat×Option Kd} {x y z:D} (h1:(bw σ p).bind (toW σ.h)=some x:=by simp only[ae,aa,seval,iteOmega,toNatUp]) (h2:(bw σ q).bind (toW σ.h)=some y:=by simp only[ae,aa,seval,iteOmega,toNatUp]) (h3:(bw σ r).bind (toW σ.h)=some z:=by simp only[ae,aa,seval,iteOmega,toNatUp]):cg σ [p,q,r] (.tup [.c (.d x),.c (.d y),.c (.d z)]):=MZ h1 h2 h3
theorem fq {σ:St} {p:Nat×Option Kd} {sz:Nat} {es:List D} (h1:(bw σ p).bind (gR σ.h sz)=some es:=by simp only[ae,aa,seval,iteOmega,toNatUp]):cg σ [p] (.w (.c (.fr sz es))):=DZ h1
theorem cx {σ:St} {p q:Nat×Option Kd} {sz:Nat} {es:List D} {y:D} (h1:(bw σ p).bind (gR σ.h sz)=some es:=by simp only[ae,aa,seval,iteOmega,toNatUp]) (h2:bw σ q=some (.c (.d y)):=by simp only[ae,aa,seval,iteOmega,toNatUp]):cg σ [p,q] (.tup [.c (.fr sz es),.c (.d y)]):=tT h1 h2
theorem sD {P:Program} {G:ak} {K:St→Prop} {r:List aG} {f:Nat→V} {h:ai} {u:Nat→Bool} {d:Option Nat} {fn:FuncId} {xs:List SX} {own:Option (Nat×Nat)} {ds:List D} {res:V} {q:Prop} (h2:ar P G fn ds res) (e:q)
    (hq:aK (cn h u (d.getD 0) own res) (bN P G d r K f)=q:=by simp only[ae,aa,seval,iteOmega,toNatUp]; rfl) (h1:cb h (xs.map (ev G f))=some ds:=by exact rfl)
    (h3:((xs.map (ev G f)).any V.hasOwn=false∨res.flat=true):=by exact .inl rfl) (hne:fn≠dv:=by decide) (hp:eY own (xs.map (ev G f)):=by first | exact kB _ | exact kL _ _ _ | exact kC _ _ rfl):ap P G (⟨d,.call fn xs own,none⟩::r) K ⟨f,h,u⟩ :=
  sC h2 (hq ▸ e) h1 h3 hne hp
def eS (x:UInt8):UInt8:=al (cV x 1) (if x<128 then 0 else 27)
def gU (c:Bool) (v:UInt8):UInt8:=if c then v else 0
def gV (y:UInt8) (i:Nat):Bool:=y.toNat.testBit i
def vJ (x:UInt8):Nat→UInt8
  | 0=>x
  | n+1=>eS (vJ x n)
def GA (x y:UInt8):Nat→UInt8
  | 0=>0
  | n+1=>al (GA x y n) (gU (gV y n) (vJ x n))
def ew (x y:UInt8):UInt8:=GA x y 8
theorem yb (x y:UInt8):al x y=al y x:=UInt8.xor_comm x y
theorem lP (x y z:UInt8):al (al x y) z=al x (al y z):=UInt8.xor_assoc x y z
theorem yc (x:UInt8):al x 0=x:=UInt8.xor_zero
theorem Il (x:UInt8):al x x=0:=UInt8.xor_self
theorem Im (a b c d:UInt8):al (al a b) (al c d)=al (al a c) (al b d):=by
  rw[lP,← lP b,yb b c,lP c,← lP]
def vk (f:UInt8→UInt8):Prop:=∀ a b,f (al a b)=al (f a) (f b)
theorem JA (x y:UInt8) (i:Nat):gV (al x y) i=(gV x i ^^ gV y i):=by
  unfold gV al;rw[UInt8.toNat_xor,RH]
theorem JB (c d:Bool) (v:UInt8):gU (c ^^ d) v=al (gU c v) (gU d v):=by
  cases c <;> cases d <;> simp[gU,al]
def jo (f:UInt8→UInt8) (x:UInt8):Nat→UInt8
  | 0=>0
  | n+1=>al (jo f x n) (gU (gV x n) (f (UInt8.ofNat (2^n))))
theorem z3 (f:UInt8→UInt8):∀ n,vk fun x=>jo f x n
  | 0=>fun a b=>(Il 0).symm
  | n+1=>fun a b=>by
    show al (jo f (al a b) n) (gU (gV (al a b) n) _)=_
    rw[show jo f (al a b) n=al (jo f a n) (jo f b n) from z3 f n a b,JA,JB,Im];rfl
theorem Na {f:UInt8→UInt8} (h:∀ x,f x=jo f x 8):vk f:=by
  intro a b;rw[h,h a,h b];exact z3 f 8 a b
theorem je {p:UInt8→Bool} (h:((List.range 256).all fun i=>p (UInt8.ofNat i))=true) (x:UInt8):p x=true:=by
  have:=Q2.1 h x.toNat (List.mem_range.2 x.toNat_lt)
  simpa using this
theorem Lc:vk eS:=Na fun x=>by
  have:=je (p:=fun x=>eS x==jo eS x 8) (by decide +kernel) x
  simpa using this
def pz (x:UInt8) (n:Nat):UInt8:=hC (cV x n) (cW x (8-n))
def Gd (y:UInt8):UInt8:=al (al (al (al (al y (pz y 1)) (pz y 2)) (pz y 3)) (pz y 4)) 99
def Ge (x:UInt8):UInt8 :=
  let x2:=ew x x
  let x3:=ew x2 x
  let x6:=ew x3 x3
  let x12:=ew x6 x6
  let x15:=ew x12 x3
  let x30:=ew x15 x15
  let x60:=ew x30 x30
  let x120:=ew x60 x60
  let x240:=ew x120 x120
  ew (ew x240 x12) x2
def vl:List UInt8:=(List.range 256).map fun i=>Gd (Ge (UInt8.ofNat i))
def cL (x:UInt8):UInt8:=Gd (Ge x)
theorem JC (x:UInt8):vl[x.toNat]?=some (cL x):=by
  unfold vl cL;rw[Si,List.getElem?_range x.toNat_lt];simp
instance:Std.Associative al:=⟨lP⟩
instance:Std.Commutative al:=⟨yb⟩
def vK (x:UInt8):UInt8:=ew x 2
def qc (a b c d:UInt8):UInt8:=al (al (al (al (vK a) (vK b)) b) c) d
abbrev cy:=Nat→UInt8
def eM (s k:cy):cy:=fun j=>al (s j) (k j)
def fG (s:cy):cy:=fun j=>cL (s (j%4+4*((j / 4+j%4)%4)))
def eO (t:cy):cy:=fun j=>qc (t (4*(j / 4)+j%4)) (t (4*(j / 4)+(j%4+1)%4)) (t (4*(j / 4)+(j%4+2)%4)) (t (4*(j / 4)+(j%4+3)%4))
def Fv (s t:cy):Prop:=∀ j,j<16→s j=t j
def tY (k:Nat→cy) (s:cy) (n:Nat):cy:=if n<10 then eM (eO (fG s)) (k n) else eM (fG s) (k n)
def fJ (k:Nat→cy) (s:cy):Nat→cy
  | 0=>eM s (k 0)
  | n+1=>tY k (fJ k s n) (n+1)
def fj (n:Nat):UInt8:=vJ 1 n
def lq (t:List UInt8) (n:Nat):List UInt8 :=
  if n%4=0 then [al (cL (t.getD 1 0)) (fj (n / 4)),cL (t.getD 2 0),cL (t.getD 3 0),cL (t.getD 0 0)]
  else [t.getD 0 0,t.getD 1 0,t.getD 2 0,t.getD 3 0]
def ix (l:List UInt8) (n:Nat):List UInt8 :=
  (List.range 4).map fun k=>al (l.getD (4*n+k) 0) ((lq (l.drop (12+4*n)) n).getD k 0)
def cF (key:List UInt8):Nat→List UInt8
  | 0=>key
  | n+1=>cF key n++ix (cF key n) n
def aw (key:List UInt8):List UInt8:=cF key 40
theorem Io (l:List UInt8) (n:Nat):(ix l n).length=4:=by simp[ix]
theorem jE {key:List UInt8} (h:key.length=16):∀ n,(cF key n).length=16+4*n
  | 0=>h
  | n+1=>by rw[cF,QV,jE h n,Io]; omega
theorem tc {key:List UInt8} (h:key.length=16):(aw key).length=176:=jE h 40
def bo (f:cy):List UInt8:=(List.range 16).map f
theorem dO (f:cy):(bo f).length=16:=by simp[bo]
theorem ov (f:cy) {j:Nat} (h:j<16):(bo f)[j]?=some (f j):=by simp[bo,h]
def aO (l:List UInt8):cy:=fun j=>l.getD j 0
theorem Nb {l:List UInt8} (h:l.length=16):bo (aO l)=l:=by
  apply Sw;intro i;by_cases hi:i<16
  ·rw[ov _ hi,aO,QW,QT (by omega)]; rfl
  ·rw[Ry (by rw[dO]; omega),Ry (by omega)]
theorem rx {f g:cy} (h:Fv f g):bo f=bo g:=RE fun j hj=>h j (List.mem_range.1 hj)
def cM (rk:List UInt8) (n:Nat):cy:=fun j=>rk.getD (16*n+j) 0
def cX (rk b:List UInt8):List UInt8:=bo (fJ (cM rk) (aO b) 10)
theorem fX (rk b:List UInt8):(cX rk b).length=16:=dO _
def oS (key b:List UInt8):List UInt8:=cX (aw key) b
def ci:List UInt8→List UInt8×Bool
  | []=>([],true)
  | x::r=>let (s,c):=ci r; if c then ((x+1)::s,x+1==0) else (x::s,false)
def iy (c:List UInt8):List UInt8:=(ci c).1
theorem r9:∀ c,(ci c).1.length=c.length
  | []=>rfl
  | x::r=>by
    have:=r9 r;simp only[ci];split <;> simp[this]
theorem yd (c:List UInt8):(iy c).length=c.length:=r9 c
def dl (c:List UInt8):Nat→List UInt8
  | 0=>c
  | n+1=>iy (dl c n)
theorem z4 (c:List UInt8):∀ n,(dl c n).length=c.length
  | 0=>rfl
  | n+1=>by rw[dl,yd,z4 c n]
def lC (rk c:List UInt8):Nat→List UInt8
  | 0=>[]
  | n+1=>lC rk c n++cX rk (dl c n)
theorem l3 (rk c:List UInt8):∀ n,(lC rk c n).length=16*n
  | 0=>rfl
  | n+1=>by rw[lC,QV,l3 rk c n,fX]; omega
def qd (a b:List UInt8):List UInt8:=List.zipWith al a b
def eH (rk c b:List UInt8):List UInt8:=qd b (lC rk c ((b.length+15) / 16))
theorem JD {a b:List UInt8} (h:a.length≤b.length):(qd a b).length=a.length:=by
  simp[qd]; omega
theorem nB (rk c b:List UInt8):(eH rk c b).length=b.length:=JD (by rw[l3]; omega)
def vm (b:cy):cy:=fun j=>al (al (cV (b j) 1) (if j<15 then cW (b (j+1)) 7 else 0)) (if j=15 then gU (gV (b 0) 7) 135 else 0)
theorem Nq (x y:UInt8):hC (cV x 1) (cW y 7)=al (cV x 1) (cW y 7):=by
  have h:cW y 7=0∨cW y 7=1:=by
    have:=je (p:=fun y=>cW y 7==0 || cW y 7==1) (by decide +kernel) y
    simpa using this
  rcases h with h | h <;> rw[h]
  ·have:=je (p:=fun x=>hC (cV x 1) 0==al (cV x 1) 0) (by decide +kernel) x;rw[beq_iff_eq] at this; exact this
  ·have:=je (p:=fun x=>hC (cV x 1) 1==al (cV x 1) 1) (by decide +kernel) x;rw[beq_iff_eq] at this; exact this
def dp (b:List UInt8):List UInt8:=if b.length=16 then bo (vm (aO b)) else []
theorem jB {b:List UInt8} (h:b.length=16):(dp b).length=16:=by rw[dp,if_pos h,dO]
def bL:List UInt8→List UInt8→List UInt8
  | x::a,y::b=>al x y::bL a b
  | a,_=>a
theorem fB:∀ a b:List UInt8,(bL a b).length=a.length
  | [],_=>by simp[bL]
  | x::a,[]=>rfl
  | x::a,y::b=>by simp[bL,fB a b]
theorem Aa:∀ (a b:List UInt8) (i:Nat),i<a.length→i<b.length→(bL a b).getD i 0=al (a.getD i 0) (b.getD i 0)
  | [],_,_,h,_=>by simp at h
  | x::a,[],_,_,h=>by simp at h
  | x::a,y::b,0,_,_=>rfl
  | x::a,y::b,i+1,h,g=>by
    show (bL a b).getD i 0=_
    rw[Aa a b i (by simpa using h) (by simpa using g)]; rfl
def dP:List UInt8:=List.replicate 16 0
def fK (b:List UInt8):List UInt8:=b++List.replicate ((16-b.length%16)%16) 0
def fL (rk:List UInt8):List UInt8:=dp (cX rk dP)
def iG (rk:List UInt8):List UInt8:=dp (fL rk)
def eP (rk b:List UInt8):Nat→List UInt8
  | 0=>dP
  | n+1=>cX rk (bL (eP rk b n) ((b.drop (16*n)).take 16))
def jI (b:List UInt8):Nat:=(b.length+15) / 16-1
def iH (rk e:List UInt8):List UInt8:=if e.length=16 then bL e (fL rk) else bL (fK (e++[128])) (iG rk)
def fk (rk b:List UInt8):List UInt8:=cX rk (bL (eP rk b (jI b)) (iH rk (b.drop (16*jI b))))
theorem nU (rk b:List UInt8):∀ n,(eP rk b n).length=16
  | 0=>by simp[eP,dP]
  | n+1=>fX _ _
theorem nV (rk b:List UInt8):(fk rk b).length=16:=fX _ _
theorem sq (rk:List UInt8):(fL rk).length=16:=jB (fX _ _)
theorem JS (rk:List UInt8):(iG rk).length=16:=jB (sq _)
theorem qZ {b:List UInt8} (h:b.length<16):(fK (b++[128])).length=16:=by
  simp[fK]; omega
theorem JU {rk e:List UInt8} (h:e.length≤16):(iH rk e).length=16:=by
  unfold iH;split
  ·rw[fB]; assumption
  ·rw[fB,qZ (by omega)]
def fm (rk:List UInt8) (l:List (List UInt8)):Nat→List UInt8
  | 0=>fk rk dP
  | n+1=>bL (dp (fm rk l n)) (fk rk (l.getD n []))
def gx (rk:List UInt8) (l:List (List UInt8)):List UInt8 :=
  if l.length=0 then fk rk (List.replicate 15 0++[1])
  else
    let d:=fm rk l (l.length-1)
    let s:=l.getD (l.length-1) []
    if 16≤s.length then fk rk (s.take (s.length-16)++bL (s.drop (s.length-16)) d)
    else fk rk (bL (dp d) (fK (s++[128])))
theorem Ab (rk:List UInt8) (l:List (List UInt8)):∀ n,(fm rk l n).length=16
  | 0=>nV _ _
  | n+1=>by rw[fm,fB,jB (Ab rk l n)]
theorem JV (rk:List UInt8) (l:List (List UInt8)):(gx rk l).length=16:=by
  unfold gx;split
  ·exact nV _ _
  ·dsimp only;split <;> exact nV _ _
end Go.Proofs.Ytofonnokanoflaa
