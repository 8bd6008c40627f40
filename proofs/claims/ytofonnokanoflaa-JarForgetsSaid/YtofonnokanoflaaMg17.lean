/- Texts of one's own, merged: from: The plain logic (20): words of 32 bits. Own work. -/
import Derived.Laws.BitsLemmas
import Derived.Laws.Bits64
import Derived.Laws.BitsAllLaws
import Derived.Test.YtofonnokanoflaaMg16
set_option linter.unusedVariables false
set_option linter.unusedSimpArgs false
namespace Go.Proofs.Ytofonnokanoflaa
open Go.RowKit IntWalk
def cO (x y:UInt32):UInt32:=x ^^^ y
def gF (x y:UInt32):UInt32:=x &&& y
def iz (x y:UInt32):UInt32:=x ||| y
def aR (x y:UInt32):UInt32:=x+y
def kJ (x:UInt32):UInt32:=UInt32.ofNat (4294967295-x.toNat)
def ik (x:UInt32) (n:Nat):UInt32:=UInt32.ofNat (x.toNat / 2^n)
def gG (x:UInt32) (n:Nat):UInt32:=UInt32.ofNat (x.toNat*2^n)
def eW (x:UInt32) (n:Nat):UInt32:=iz (ik x n) (gG x (32-n))
def hU (b:UInt8):UInt32:=UInt32.ofNat b.toNat
theorem word_lt (x:UInt32):x.toNat<4294967296:=x.toNat_lt
theorem GA (x y:UInt32):bits .xor .u32 (x.toNat:Int) (y.toNat:Int)=((cO x y).toNat:Int):=by
  rw[u32_xor_nat _ _ (word_lt x) (word_lt y)]; simp[cO]
theorem GC (x y:UInt32):bits .and .u32 (x.toNat:Int) (y.toNat:Int)=((gF x y).toNat:Int):=by
  rw[u32_and_nat _ _ (word_lt x) (word_lt y)]; simp[gF]
theorem HO (x y:UInt32):bits .or .u32 (x.toNat:Int) (y.toNat:Int)=((iz x y).toNat:Int):=by
  rw[u32_or_nat _ _ (word_lt x) (word_lt y)]; simp[iz]
theorem GD (x y:UInt32):IntKind.u32.wrap ((x.toNat:Int)+(y.toNat:Int))=((aR x y).toNat:Int):=by
  rw[IntKind.wrap_u32]; simp[aR]
theorem HP (x:UInt32) (n:Nat):(x.toNat:Int) / 2^n=((ik x n).toNat:Int):=by
  have h:x.toNat / 2^n<4294967296:=Ql (Nat.div_le_self _ _) (word_lt x);unfold ik;rw[UInt32.toNat_ofNat_of_lt' (by simpa [UInt32.size] using h)];simp
theorem HQ (x:UInt32) (n:Nat):(x.toNat:Int)*2^n%4294967296=((gG x n).toNat:Int):=by
  unfold gG;simp
theorem HR (x:UInt32):(4294967295:Int)-(x.toNat:Int)=((kJ x).toNat:Int):=by
  have h:=word_lt x;unfold kJ;rw[UInt32.toNat_ofNat_of_lt' (by simp[UInt32.size]; omega)];omega
theorem wJ (b:UInt8):(b.toNat:Int)=((hU b).toNat:Int):=by
  have h:=b.toNat_lt;unfold hU;rw[UInt32.toNat_ofNat_of_lt' (by simp[UInt32.size]; omega)]
theorem wK (x y:UInt32):aW .xor (.w (.c (.d (wD x)))) (.w (.c (.d (wD y))))=some (wD (cO x y)):=by
  show aT .xor .u32 (x.toNat:Int) .u32 (y.toNat:Int)=_
  rw[na,GA]; rfl
theorem wM (x y:UInt32):aW .and (.w (.c (.d (wD x)))) (.w (.c (.d (wD y))))=some (wD (gF x y)):=by
  show aT .and .u32 (x.toNat:Int) .u32 (y.toNat:Int)=_
  rw[m9,GC]; rfl
theorem yU (x y:UInt32):aW .or (.w (.c (.d (wD x)))) (.w (.c (.d (wD y))))=some (wD (iz x y)):=by
  show aT .or .u32 (x.toNat:Int) .u32 (y.toNat:Int)=_
  rw[nB,HO]; rfl
theorem wN (x y:UInt32):aW .add (.w (.c (.d (wD x)))) (.w (.c (.d (wD y))))=some (wD (aR x y)):=by
  show aT .add .u32 (x.toNat:Int) .u32 (y.toNat:Int)=_
  rw[m5,GD]; rfl
theorem wO (x:UInt32) (k:IntKind) (n:Int) (h:0≤n):aW .shl (.w (.c (.d (wD x)))) (.w (.c (.d (.int k n))))=some (wD (gG x (min n.toNat 32))):=by
  show aT .shl .u32 (x.toNat:Int) k n=_
  rw[nb _ _ _ _ h,IntKind.wrap_u32]
  show some (D.int .u32 ((x.toNat:Int)*2^min n.toNat 32%4294967296))=_
  rw[HQ]; rfl
theorem wP (x:UInt32) (k:IntKind) (n:Int) (h:0≤n):aW .shr (.w (.c (.d (wD x)))) (.w (.c (.d (.int k n))))=some (wD (ik x (min n.toNat 32))):=by
  show aT .shr .u32 (x.toNat:Int) k n=_
  rw[nc _ _ _ _ h]
  show some (D.int .u32 ((x.toNat:Int) / 2^min n.toNat 32))=_
  rw[HP]; rfl
theorem yV (x:UInt32):gM .xor (.w (.c (.d (wD x))))=some (wD (kJ x)):=by
  have:bits .xor .u32 4294967295 (x.toNat:Int)=(4294967295:Int)-(x.toNat:Int):=by
    have h:=x.toNat_lt;have h2:4294967295 ^^^ x.toNat=4294967295-x.toNat:=by
      have e:=congrArg BitVec.toNat (BitVec.allOnes_xor (x:=BitVec.ofNat 32 x.toNat));rw[BitVec.toNat_xor,BitVec.toNat_not,BitVec.toNat_allOnes,BitVec.toNat_ofNat,Nat.mod_eq_of_lt (by omega)] at e;omega
    have h3:=u32_xor_nat 4294967295 x.toNat (by decide) h;rw[h2] at h3;have h4:((4294967295:Nat):Int)=4294967295:=rfl;rw[h4] at h3;omega
  show some (D.int .u32 (bits .xor .u32 4294967295 (x.toNat:Int)))=_
  rw[this,HR]; rfl
theorem wQ (x y:UInt32):aW .eql (.w (.c (.d (wD x)))) (.w (.c (.d (wD y))))=some (.bool (x==y)):=by
  show aT .eql .u32 (x.toNat:Int) .u32 (y.toNat:Int)=_
  rw[m6];by_cases h:x=y
  ·subst h; simp
  ·have:¬ ((x.toNat:Int)=(y.toNat:Int)):=fun e=>h (UInt32.toNat_inj.1 (by omega))
   simp[this,h]
theorem wR (x y:UInt32):aW .neq (.w (.c (.d (wD x)))) (.w (.c (.d (wD y))))=some (.bool (x != y)):=by
  show aT .neq .u32 (x.toNat:Int) .u32 (y.toNat:Int)=_
  rw[m7];by_cases h:x=y
  ·subst h; simp
  ·have:¬ ((x.toNat:Int)=(y.toNat:Int)):=fun e=>h (UInt32.toNat_inj.1 (by omega))
   simp[this,h]
theorem yW (b:UInt8):D.int .u32 (IntKind.u32.wrap (b.toNat:Int))=wD (hU b):=by
  have h:=b.toNat_lt;rw[IntWalk.u32_in _ (by omega),wJ]; rfl
def ak (x y:UInt8):UInt8:=x ^^^ y
def iY (x y:UInt8):UInt8:=x &&& y
def gO (x y:UInt8):UInt8:=x ||| y
def cP (x:UInt8) (n:Nat):UInt8:=UInt8.ofNat (x.toNat*2^n)
def cQ (x:UInt8) (n:Nat):UInt8:=UInt8.ofNat (x.toNat / 2^n)
theorem iH (x:UInt8):x.toNat<256:=x.toNat_lt
theorem eP (x y:UInt8):aW .xor (.w (.c (.d (bD x)))) (.w (.c (.d (bD y))))=some (bD (ak x y)):=by
  show aT .xor .u8 (x.toNat:Int) .u8 (y.toNat:Int)=_
  rw[na,u8_xor_nat _ _ (iH x) (iH y)]; simp[ak,bD]
theorem qz (x y:UInt8):aW .and (.w (.c (.d (bD x)))) (.w (.c (.d (bD y))))=some (bD (iY x y)):=by
  show aT .and .u8 (x.toNat:Int) .u8 (y.toNat:Int)=_
  rw[m9,u8_and_nat _ _ (iH x) (iH y)]; simp[iY,bD]
theorem rl (x y:UInt8):aW .or (.w (.c (.d (bD x)))) (.w (.c (.d (bD y))))=some (bD (gO x y)):=by
  show aT .or .u8 (x.toNat:Int) .u8 (y.toNat:Int)=_
  rw[nB,u8_or_nat _ _ (iH x) (iH y)]; simp[gO,bD]
theorem GE (x:UInt8) (k:IntKind) (n:Int) (h:0≤n):aW .shl (.w (.c (.d (bD x)))) (.w (.c (.d (.int k n))))=some (bD (cP x (min n.toNat 8))):=by
  show aT .shl .u8 (x.toNat:Int) k n=_
  rw[nb _ _ _ _ h,IntKind.wrap_u8]
  show some (D.int .u8 ((x.toNat:Int)*2^min n.toNat 8%256))=_
  have:(x.toNat:Int)*2^min n.toNat 8%256=((cP x (min n.toNat 8)).toNat:Int):=by unfold cP; simp
  rw[this]; rfl
theorem GF (x:UInt8) (k:IntKind) (n:Int) (h:0≤n):aW .shr (.w (.c (.d (bD x)))) (.w (.c (.d (.int k n))))=some (bD (cQ x (min n.toNat 8))):=by
  show aT .shr .u8 (x.toNat:Int) k n=_
  rw[nc _ _ _ _ h]
  show some (D.int .u8 ((x.toNat:Int) / 2^min n.toNat 8))=_
  have:(x.toNat:Int) / 2^min n.toNat 8=((cQ x (min n.toNat 8)).toNat:Int):=by
    have h:x.toNat / 2^min n.toNat 8<256:=Ql (Nat.div_le_self _ _) (iH x);unfold cQ;rw[UInt8.toNat_ofNat_of_lt' (by simpa [UInt8.size] using h)];simp
  rw[this]; rfl
theorem GG (x y:UInt8):aW .eql (.w (.c (.d (bD x)))) (.w (.c (.d (bD y))))=some (.bool (x==y)):=by
  show aT .eql .u8 (x.toNat:Int) .u8 (y.toNat:Int)=_
  rw[m6];by_cases h:x=y
  ·subst h; simp
  ·have:¬ ((x.toNat:Int)=(y.toNat:Int)):=fun e=>h (UInt8.toNat_inj.1 (by omega))
   simp[this,h]
theorem GH (x y:UInt8):aW .neq (.w (.c (.d (bD x)))) (.w (.c (.d (bD y))))=some (.bool (x != y)):=by
  show aT .neq .u8 (x.toNat:Int) .u8 (y.toNat:Int)=_
  rw[m7];by_cases h:x=y
  ·subst h; simp
  ·have:¬ ((x.toNat:Int)=(y.toNat:Int)):=fun e=>h (UInt8.toNat_inj.1 (by omega))
   simp[this,h]
theorem EE (G:aj) (f:Nat→V):ev G f .u=.undef:=rfl
def D3 (P:Program) (G:aj) (d:Option Nat) (r:List aH) (K:St→Prop) (f:Nat→V) (h:al) (u:Nat→Bool) (F:Nat) (ds:List D):Prop:=ar P G r K ⟨aQ f d (.w (.c (.d (.fn F ds)))),h,u⟩
theorem Ax (P:Program) (G:aj) (d:Option Nat) (r:List aH) (K:St→Prop) (f:Nat→V) (h:al) (u:Nat→Bool) (F:Nat) (xs:List SX):ar P G (⟨d,.clos F xs,none⟩::r) K ⟨f,h,u⟩=aL (cN (xs.map (ev G f))) (D3 P G d r K f h u F):=by
  show (match (cN (xs.map (ev G f))).map fun ds=>((.w (.c (.d (.fn F ds))),h,u):R) with | some r=>_ | none=>False)=_
  cases cN (xs.map (ev G f)) <;> rfl
theorem yX (P:Program) (G:aj) (d:Option Nat) (r:List aH) (K:St→Prop) (f:Nat→V) (h:al) (u:Nat→Bool) (F:Nat) (ds:List D):D3 P G d r K f h u F ds=ar P G r K ⟨aQ f d (.w (.c (.d (.fn F ds)))),h,u⟩:=rfl
theorem wT:cN []=some []:=rfl
theorem yY (cs:List D) (r:List V):cN (.w (.c (.rp cs))::r)=(cN r).map fun l=>.ref cs::l:=by
  simp only[cN,jx]; cases cN r <;> rfl
theorem wU (k:IntKind) (n:Int) (r:List V):cN (.w (.c (.d (.int k n)))::r)=(cN r).map fun l=>.int k n::l:=by
  simp only[cN,jx]; cases cN r <;> rfl
theorem yZ (es:List D) (r:List V):cN (.w (.c (.d (.sl es)))::r)=(cN r).map fun l=>.sl es::l:=by
  simp only[cN,jx]; cases cN r <;> rfl
def ud (P:Program) (G:aj) (body:aK) (K:AX→St→Prop) (e:AX) (s:St):Prop:=match e with | .nrm=>aX P G body K s | _=>False
def ue (f0:Nat→V) (I:Nat→al→(Nat→Bool)→Prop) (Q:AX→St→Prop) (k:Nat) (e:AX) (s:St):Prop:=match e with
  | .nrm=>∃ h' u',du s ⟨f0,h',u'⟩∧I (k+1) h' u'
  | e=>∃ h' u',du s ⟨f0,h',u'⟩∧Q e ⟨f0,h',u'⟩
theorem y0 (P:Program) (G:aj) (body:aK) (K:AX→St→Prop) (s:St):ud P G body K .nrm s=aX P G body K s:=rfl
def ug (st:Nat→al×(Nat→Bool)) (k:Nat) (h:al) (u:Nat→Bool):Prop:=(h,u)=st k
theorem HS {P:Program} {G:aj} {Q:AX→St→Prop} {σ:St} {x:SX} {ps:List Nat} {asg body:aK} {g:Nat} {caps:List D} {xs:List (List D)} (f0:Nat→V) {f1:Nat→V} (hf:f0=f1) (st:Nat→al×(Nat→Bool))
    (hev:ev G σ.f x=.w (.c (.d (.fn g caps)))) (hseq:t7 P G g caps xs) (hlen:∀ r∈xs,r.length=ps.length) (hent:du σ ⟨f1,(st 0).1,(st 0).2⟩) (hun:∀ t∈ps++asg.writes++body.writes,f1 t=.undef)
    (round:∀ k r,xs[k]?=some r→aX P G asg (ud P G body (ue f0 (ug st) Q k)) ⟨kn f1 ps r,(st k).1,(st k).2⟩)
    (done:Q .nrm ⟨f1,(st xs.length).1,(st xs.length).2⟩):aX P G (.rangeF x ps asg body) Q σ:=by
  subst hf;refine⟨g,caps,xs,f0,(st 0).1,(st 0).2,fun k h u=>(h,u)=st k,hev,hseq,hlen,hent,hun,rfl,fun k r h u hr e=>?_,fun h u e=>?_⟩
  ·have:=round k r hr;rw[← e] at this
   have e1:(fun (e:AX) (s:St)=>match e with
       | .nrm=>aX P G body (fun e s'=>match e with
         | .nrm=>∃ h' u',du s' ⟨f0,h',u'⟩∧(h',u')=st (k+1)
         | e=>∃ h' u',du s' ⟨f0,h',u'⟩∧Q e ⟨f0,h',u'⟩) s
       | _=>False)=ud P G body (ue f0 (ug st) Q k):=by
     funext e s
     cases e with
     | nrm =>
       show aX P G body _ s=aX P G body _ s
       congr 1
     | _=>rfl
   rw[← e1] at this;exact this
  ·rw[← e] at done; exact done
theorem HT {f0:Nat→V} {f1:Nat→V} (hf:f0=f1) {st:Nat→al×(Nat→Bool)} {Q:AX→St→Prop} {k:Nat} {s:St} (h:du s ⟨f1,(st (k+1)).1,(st (k+1)).2⟩):ue f0 (ug st) Q k .nrm s:=⟨_,_,hf ▸ h,rfl⟩
def bC (x:UInt8):C:=.d (bD x)
theorem lQ (l:List UInt8):(l.map bD).map C.d=l.map bC:=by rw[List.map_map]; rfl
theorem lA:∀ l:List UInt8,c8 (l.map bC)=some (l.map bD)
  | []=>rfl
  | x::l=>by
    have h:=lA l
    show c8 (C.d (bD x)::l.map bC)=_
    simp only[c8,h,Pi,QA]
theorem HU {α β:Type} (f:α→β) (l cs:List α) (off:Nat):bB (l.map f) off (cs.map f)=(bB l off cs).map f:=by
  unfold bB; simp
theorem en (l:List UInt8):(l.map bC).flatMap C.ids=[]:=by
  induction l with
  | nil=>rfl
  | cons x l ih=>rw[Pi,Pq,ih]; rfl
theorem ka (g:Nat→Nat) (l:List UInt8):(l.map bC).map (C.ren g)=l.map bC:=by rw[List.map_map]; rfl
theorem Lo (x c:UInt8) (n:Int) (h:n=(c.toNat:Int)):aW .eql (.w (.c (.d (bD x)))) (.w (.c (.d (.int .u8 n))))=some (.bool (x==c)):=by subst h; exact GG x c
theorem Lp (x c:UInt8) (n:Int) (h:n=(c.toNat:Int)):aW .neq (.w (.c (.d (bD x)))) (.w (.c (.d (.int .u8 n))))=some (.bool (x != c)):=by subst h; exact GH x c
theorem Lq (x c:UInt8) (n:Int) (h:n=(c.toNat:Int)):aW .xor (.w (.c (.d (bD x)))) (.w (.c (.d (.int .u8 n))))=some (bD (ak x c)):=by subst h; exact eP x c
theorem CI (x c:UInt8) (n:Int) (h:n=(c.toNat:Int)):aW .and (.w (.c (.d (bD x)))) (.w (.c (.d (.int .u8 n))))=some (bD (iY x c)):=by subst h; exact qz x c
theorem CJ (x:UInt8) (k:IntKind) (j:Nat) (n:Int) (h:n=(j:Int)) (hj:j≤8):aW .shr (.w (.c (.d (bD x)))) (.w (.c (.d (.int k n))))=some (bD (cQ x j)):=by
  subst h;rw[GF _ _ _ (Int.natCast_nonneg j),Int.toNat_natCast,QE hj]
theorem CK (x:UInt8) (k:IntKind) (j:Nat) (n:Int) (h:n=(j:Int)) (hj:j≤8):aW .shl (.w (.c (.d (bD x)))) (.w (.c (.d (.int k n))))=some (bD (cP x j)):=by
  subst h;rw[GE _ _ _ (Int.natCast_nonneg j),Int.toNat_natCast,QE hj]
def aV {α:Type} (n:Nat) (x:α):List α:=List.replicate n x
theorem bL {α:Type} (n:Nat) (x:α):(aV n x).length=n:=Ps
theorem Ay (n:Nat):aV n (C.d (D.int .u8 0))=(aV n (0:UInt8)).map bC:=by unfold aV; rw[List.map_replicate]; rfl
set_option maxRecDepth 100000
theorem jW {a b : Prop} (l : a) (r : b) : a ∧ b := And.intro l r
theorem wx:jg (jW @ot (jW @ou (jW @ov (jW @ow (jW @ox (jW @sx (jW @sN (jW @rK (jW @Bn (jW @Bo (jW @Bm (jW @sM (jW @zs (jW @Dz (jW @DC (jW @DD (jW @bU.eq_1 (jW @bU.eq_2 (jW @bU.eq_3 (jW @bU.eq_4 (jW @dZ.eq_1 (jW @dZ.eq_2 (jW @killAll.eq_1 (jW @killAll.eq_2 (jW @killAll.eq_3 (jW @EE (jW @Ax (jW @yX (jW @wT (jW @yY (jW @wU (jW @yZ (jW @y0 (jW @ef.eq_1 (jW @ef.eq_2 (jW @ef.eq_3 (jW @ef.eq_4 (jW @ef.eq_5 (jW @ef.eq_6 (jW @ef.eq_7 (jW @ef.eq_8 (jW @ef.eq_9 (jW @ef.eq_10 (jW @ef.eq_11 (jW @ef.eq_12 (jW @ef.eq_13 (jW @ef.eq_14 (jW @ef.eq_15 (jW @ef.eq_16 (jW @ef.eq_17 (jW @ef.eq_18 (jW @ef.eq_19 (jW @ef.eq_20 (jW @ef.eq_21 (jW @ef.eq_22 (jW @ef.eq_23 (jW @ef.eq_24 (jW @ef.eq_25 (jW @ef.eq_26 (jW @ef.eq_27 (jW @ef.eq_28 (jW @ef.eq_29 (jW @ef.eq_30 (jW @ef.eq_31 (jW @ef.eq_32 (jW @ef.eq_33 (jW @ef.eq_34 (jW @ef.eq_35 (jW @ef.eq_36 (jW @ef.eq_37 (jW @ef.eq_38 (jW @ef.eq_39 (jW @ef.eq_40 (jW @ef.eq_41 (jW @ef.eq_42 (jW @ef.eq_43 (jW @ef.eq_44 (jW @ef.eq_45 (jW @ef.eq_46 (jW @ef.eq_47 (jW @ef.eq_48 (jW @ef.eq_49 (jW @ef.eq_50 (jW @ef.eq_51 (jW @ef.eq_52 (jW @ef.eq_53 (jW @bound.eq_1 (jW @bound.eq_2 (jW @gN.eq_1 (jW @gN.eq_2 (jW @gN.eq_3 (jW @gN.eq_4 (jW @dP.eq_1 (jW @bu.eq_1 (jW @bu.eq_2 (jW @bu.eq_3 (jW @bu.eq_4 (jW @bu.eq_5 (jW @bu.eq_6 (jW @bu.eq_7 (jW @bu.eq_8 (jW @cz.eq_1 (jW @cz.eq_2 (jW @cz.eq_3 (jW @cz.eq_4 (jW @cz.eq_5 (jW @cz.eq_6 (jW @cz.eq_7 (jW @Aj (jW @ee.eq_1 (jW @ee.eq_2 (jW @parts.eq_1 (jW @parts.eq_2 (jW @elems.eq_1 (jW @elems.eq_2 (jW @dh.eq_1 (jW @EC (jW @ED (jW @Cy (jW @Aw (jW @Cz (jW @D1 (jW @CB (jW @CC (jW @CE (jW @CF (jW @D2 (jW @CG (jW @dC.eq_1 (jW @dC.eq_2 (jW @dC.eq_3 (jW @dC.eq_4 (jW @km.eq_1 (jW @km.eq_2 (jW @c8.eq_1 (jW @c8.eq_2 (jW @c8.eq_3 (jW @cu.eq_1 (jW @cu.eq_2 (jW @cu.eq_3 (jW @cu.eq_4 (jW @cI.eq_1 (jW @cI.eq_2 (jW @cI.eq_3 (jW @bV.eq_1 (jW @bV.eq_2 (jW @bV.eq_3 (jW @bV.eq_4 (jW @bV.eq_5 (jW @bV.eq_6 (jW @bV.eq_7 (jW @bV.eq_8 (jW @bV.eq_9 (jW @bV.eq_10 (jW @ic.eq_1 (jW @dD.eq_1 (jW @dD.eq_2 (jW @dD.eq_3 (jW @toW.eq_1 (jW @toW.eq_2 (jW @cy.eq_1 (jW @cy.eq_2 (jW @cy.eq_3 (jW @cy.eq_4 (jW @dM.eq_1 (jW @dM.eq_2 (jW @ca.eq_1 (jW @ca.eq_2 (jW @cn.eq_1 (jW @cn.eq_2 (jW @cn.eq_3 (jW @ints.eq_1 (jW @ints.eq_2 (jW @ints.eq_3 (jW @cq.eq_1 (jW @cq.eq_2 (jW @cq.eq_3 (jW @gD.eq_1 (jW @gD.eq_2 (jW @gD.eq_3 (jW @W.ro.eq_1 (jW @W.ro.eq_2 (jW @C.ro.eq_1 (jW @C.ro.eq_2 (jW @V.ro.eq_1 (jW @V.ro.eq_2 (jW @V.ro.eq_3 (jW @iT.eq_1 (jW @iT.eq_2 (jW @iT.eq_3 (jW @Kd.size.eq_1 (jW @Kd.size.eq_2 (jW @wE (jW @vG (jW @wF (jW @yJ (jW @wG (jW @bB.eq_1 (jW @bI.eq_1 (jW @bI.eq_2 (jW @Nat.min_def (jW @QA.{0,0} (jW @Option.map_none.{0,0} (jW @Bool.not_true (jW @Bool.not_false (jW @decide_true (jW @decide_false (jW @Bool.and_self (jW @Pi.{0,0} (jW @PH.{0,0} (jW @List.any_cons.{0} (jW @List.any_nil.{0} (jW @QR.{0} (jW @QD.{0} (jW @Qi.{0} (jW @P7.{0} (jW @PN.{0} (jW @if_true.{1} (jW @if_false.{1} (jW @true_and (jW @and_true (jW @vd.eq_1 (jW @Int.natCast_nonneg (jW @QQ.{0} (jW @List.take_length.{0} (jW @dw (jW @gp (jW @fO (jW @gW (jW @yO (jW @yP (jW @DV (jW @DW (jW @Aq (jW @Ar (jW @DX (jW @wK (jW @wM (jW @yU (jW @wN (jW @wO (jW @wP (jW @wQ (jW @wR (jW @eP (jW @qz (jW @rl (jW @yB (jW @yC (jW @yD (jW @yE (jW @yF (jW @yG (jW @yH (jW @yI (jW @yS (jW @yT (jW @yV (jW @yW (jW @yN (jW @yK (jW @yL (jW @yM (jW @List.set_cons_zero.{0} (jW @List.set_cons_succ.{0} (jW @As (jW @fp (jW @Kd.ag.injEq (jW @Ph.{0} (jW @Ps.{0} (jW @nf (jW @Ak (jW @rU (jW @Cr (jW @rV (jW @Cs (jW @Ap (jW @yA (jW @Qa.{0} (jW @P5.{0} (jW @List.take_succ_cons.{0} (jW @List.take_zero.{0} (jW @List.drop_succ_cons.{0} (jW @List.take_nil.{0} (jW @List.drop_nil.{0} (jW @PF.{0} (jW @Pq.{0,0} (jW @List.flatMap_nil.{0,0} (jW @Option.bind_some.{0,0} (jW @ne_eq.{1} (jW @not_false_eq_true (@not_true_eq_false)))))))))))))))))))))))))))))))))))))))))))))))))))))))))))))))))))))))))))))))))))))))))))))))))))))))))))))))))))))))))))))))))))))))))))))))))))))))))))))))))))))))))))))))))))))))))))))))))))))))))))))))))))))))))))))))))))))))))))))))))))))))))))))))))))))))))))))))))))))))))))))))))))):=jW @ot (jW @ou (jW @ov (jW @ow (jW @ox (jW @sx (jW @sN (jW @rK (jW @Bn (jW @Bo (jW @Bm (jW @sM (jW @zs (jW @Dz (jW @DC (jW @DD (jW @bU.eq_1 (jW @bU.eq_2 (jW @bU.eq_3 (jW @bU.eq_4 (jW @dZ.eq_1 (jW @dZ.eq_2 (jW @killAll.eq_1 (jW @killAll.eq_2 (jW @killAll.eq_3 (jW @EE (jW @Ax (jW @yX (jW @wT (jW @yY (jW @wU (jW @yZ (jW @y0 (jW @ef.eq_1 (jW @ef.eq_2 (jW @ef.eq_3 (jW @ef.eq_4 (jW @ef.eq_5 (jW @ef.eq_6 (jW @ef.eq_7 (jW @ef.eq_8 (jW @ef.eq_9 (jW @ef.eq_10 (jW @ef.eq_11 (jW @ef.eq_12 (jW @ef.eq_13 (jW @ef.eq_14 (jW @ef.eq_15 (jW @ef.eq_16 (jW @ef.eq_17 (jW @ef.eq_18 (jW @ef.eq_19 (jW @ef.eq_20 (jW @ef.eq_21 (jW @ef.eq_22 (jW @ef.eq_23 (jW @ef.eq_24 (jW @ef.eq_25 (jW @ef.eq_26 (jW @ef.eq_27 (jW @ef.eq_28 (jW @ef.eq_29 (jW @ef.eq_30 (jW @ef.eq_31 (jW @ef.eq_32 (jW @ef.eq_33 (jW @ef.eq_34 (jW @ef.eq_35 (jW @ef.eq_36 (jW @ef.eq_37 (jW @ef.eq_38 (jW @ef.eq_39 (jW @ef.eq_40 (jW @ef.eq_41 (jW @ef.eq_42 (jW @ef.eq_43 (jW @ef.eq_44 (jW @ef.eq_45 (jW @ef.eq_46 (jW @ef.eq_47 (jW @ef.eq_48 (jW @ef.eq_49 (jW @ef.eq_50 (jW @ef.eq_51 (jW @ef.eq_52 (jW @ef.eq_53 (jW @bound.eq_1 (jW @bound.eq_2 (jW @gN.eq_1 (jW @gN.eq_2 (jW @gN.eq_3 (jW @gN.eq_4 (jW @dP.eq_1 (jW @bu.eq_1 (jW @bu.eq_2 (jW @bu.eq_3 (jW @bu.eq_4 (jW @bu.eq_5 (jW @bu.eq_6 (jW @bu.eq_7 (jW @bu.eq_8 (jW @cz.eq_1 (jW @cz.eq_2 (jW @cz.eq_3 (jW @cz.eq_4 (jW @cz.eq_5 (jW @cz.eq_6 (jW @cz.eq_7 (jW @Aj (jW @ee.eq_1 (jW @ee.eq_2 (jW @parts.eq_1 (jW @parts.eq_2 (jW @elems.eq_1 (jW @elems.eq_2 (jW @dh.eq_1 (jW @EC (jW @ED (jW @Cy (jW @Aw (jW @Cz (jW @D1 (jW @CB (jW @CC (jW @CE (jW @CF (jW @D2 (jW @CG (jW @dC.eq_1 (jW @dC.eq_2 (jW @dC.eq_3 (jW @dC.eq_4 (jW @km.eq_1 (jW @km.eq_2 (jW @c8.eq_1 (jW @c8.eq_2 (jW @c8.eq_3 (jW @cu.eq_1 (jW @cu.eq_2 (jW @cu.eq_3 (jW @cu.eq_4 (jW @cI.eq_1 (jW @cI.eq_2 (jW @cI.eq_3 (jW @bV.eq_1 (jW @bV.eq_2 (jW @bV.eq_3 (jW @bV.eq_4 (jW @bV.eq_5 (jW @bV.eq_6 (jW @bV.eq_7 (jW @bV.eq_8 (jW @bV.eq_9 (jW @bV.eq_10 (jW @ic.eq_1 (jW @dD.eq_1 (jW @dD.eq_2 (jW @dD.eq_3 (jW @toW.eq_1 (jW @toW.eq_2 (jW @cy.eq_1 (jW @cy.eq_2 (jW @cy.eq_3 (jW @cy.eq_4 (jW @dM.eq_1 (jW @dM.eq_2 (jW @ca.eq_1 (jW @ca.eq_2 (jW @cn.eq_1 (jW @cn.eq_2 (jW @cn.eq_3 (jW @ints.eq_1 (jW @ints.eq_2 (jW @ints.eq_3 (jW @cq.eq_1 (jW @cq.eq_2 (jW @cq.eq_3 (jW @gD.eq_1 (jW @gD.eq_2 (jW @gD.eq_3 (jW @W.ro.eq_1 (jW @W.ro.eq_2 (jW @C.ro.eq_1 (jW @C.ro.eq_2 (jW @V.ro.eq_1 (jW @V.ro.eq_2 (jW @V.ro.eq_3 (jW @iT.eq_1 (jW @iT.eq_2 (jW @iT.eq_3 (jW @Kd.size.eq_1 (jW @Kd.size.eq_2 (jW @wE (jW @vG (jW @wF (jW @yJ (jW @wG (jW @bB.eq_1 (jW @bI.eq_1 (jW @bI.eq_2 (jW @Nat.min_def (jW @QA.{0,0} (jW @Option.map_none.{0,0} (jW @Bool.not_true (jW @Bool.not_false (jW @decide_true (jW @decide_false (jW @Bool.and_self (jW @Pi.{0,0} (jW @PH.{0,0} (jW @List.any_cons.{0} (jW @List.any_nil.{0} (jW @QR.{0} (jW @QD.{0} (jW @Qi.{0} (jW @P7.{0} (jW @PN.{0} (jW @if_true.{1} (jW @if_false.{1} (jW @true_and (jW @and_true (jW @vd.eq_1 (jW @Int.natCast_nonneg (jW @QQ.{0} (jW @List.take_length.{0} (jW @dw (jW @gp (jW @fO (jW @gW (jW @yO (jW @yP (jW @DV (jW @DW (jW @Aq (jW @Ar (jW @DX (jW @wK (jW @wM (jW @yU (jW @wN (jW @wO (jW @wP (jW @wQ (jW @wR (jW @eP (jW @qz (jW @rl (jW @yB (jW @yC (jW @yD (jW @yE (jW @yF (jW @yG (jW @yH (jW @yI (jW @yS (jW @yT (jW @yV (jW @yW (jW @yN (jW @yK (jW @yL (jW @yM (jW @List.set_cons_zero.{0} (jW @List.set_cons_succ.{0} (jW @As (jW @fp (jW @Kd.ag.injEq (jW @Ph.{0} (jW @Ps.{0} (jW @nf (jW @Ak (jW @rU (jW @Cr (jW @rV (jW @Cs (jW @Ap (jW @yA (jW @Qa.{0} (jW @P5.{0} (jW @List.take_succ_cons.{0} (jW @List.take_zero.{0} (jW @List.drop_succ_cons.{0} (jW @List.take_nil.{0} (jW @List.drop_nil.{0} (jW @PF.{0} (jW @Pq.{0,0} (jW @List.flatMap_nil.{0,0} (jW @Option.bind_some.{0,0} (jW @ne_eq.{1} (jW @not_false_eq_true (@not_true_eq_false)))))))))))))))))))))))))))))))))))))))))))))))))))))))))))))))))))))))))))))))))))))))))))))))))))))))))))))))))))))))))))))))))))))))))))))))))))))))))))))))))))))))))))))))))))))))))))))))))))))))))))))))))))))))))))))))))))))))))))))))))))))))))))))))))))))))))))))))))))))))))))))))))))
theorem wy:jg (jW @DZ (jW @vk (jW @Au (jW @yQ (jW @Av (jW @Cx (jW @eC (jW @oC (@cond_true.{1}))))))))):=jW @DZ (jW @vk (jW @Au (jW @yQ (jW @Av (jW @Cx (jW @eC (jW @oC (@cond_true.{1}))))))))
theorem wz:jg (jW @Bool.false_and (jW @Bool.and_false (jW @wI (jW @Nat.sub_zero (jW @wH (jW @vH (jW @beq_self_eq_true.{0} (jW @QN (jW @QO (jW @Ew (jW @Ex (jW @Ey (jW @Ez (jW @EA (jW @EB (jW @QI.{0} (jW @Qn (jW @Nat.one_mul (jW @Qk (jW @Qj (jW @Cv (jW @sV (jW @Cw (jW @DY (jW @Int.natCast_add (jW @Int.natCast_mul (jW @Int.natCast_one (jW @QT (@Int.cast_ofNat_Int))))))))))))))))))))))))))))):=jW @Bool.false_and (jW @Bool.and_false (jW @wI (jW @Nat.sub_zero (jW @wH (jW @vH (jW @beq_self_eq_true.{0} (jW @QN (jW @QO (jW @Ew (jW @Ex (jW @Ey (jW @Ez (jW @EA (jW @EB (jW @QI.{0} (jW @Qn (jW @Nat.one_mul (jW @Qk (jW @Qj (jW @Cv (jW @sV (jW @Cw (jW @DY (jW @Int.natCast_add (jW @Int.natCast_mul (jW @Int.natCast_one (jW @QT (@Int.cast_ofNat_Int))))))))))))))))))))))))))))
theorem aG:jg (jW @V.ren.eq_1 (jW @V.ren.eq_2 (jW @V.ren.eq_3 (jW @W.ren.eq_1 (jW @W.ren.eq_2 (jW @C.ren.eq_1 (jW @C.ren.eq_2 (jW @C.ren.eq_3 (jW @C.ren.eq_4 (jW @C.ren.eq_5 (jW @C.ren.eq_6 (jW @V.ids.eq_1 (jW @V.ids.eq_2 (jW @V.ids.eq_3 (jW @W.ids.eq_1 (jW @W.ids.eq_2 (jW @C.ids.eq_1 (jW @C.ids.eq_2 (jW @C.ids.eq_3 (jW @C.ids.eq_4 (jW @C.ids.eq_5 (jW @C.ids.eq_6 (jW @Ob.ren.eq_1 (jW @Ob.ren.eq_2 (jW @Ob.ren.eq_3 (jW @Ob.ren.eq_4 (jW @Ob.ids.eq_1 (jW @Ob.ids.eq_2 (jW @Ob.ids.eq_3 (jW @Ob.ids.eq_4 (jW @Int.cast_ofNat_Int (jW @QI.{0} (jW @Al (jW @yx (jW @Am (jW @yy (jW @id_eq.{1} (jW @Qn (jW @Nat.mul_zero (jW @QC (@Qm.{0}))))))))))))))))))))))))))))))))))))))))):=jW @V.ren.eq_1 (jW @V.ren.eq_2 (jW @V.ren.eq_3 (jW @W.ren.eq_1 (jW @W.ren.eq_2 (jW @C.ren.eq_1 (jW @C.ren.eq_2 (jW @C.ren.eq_3 (jW @C.ren.eq_4 (jW @C.ren.eq_5 (jW @C.ren.eq_6 (jW @V.ids.eq_1 (jW @V.ids.eq_2 (jW @V.ids.eq_3 (jW @W.ids.eq_1 (jW @W.ids.eq_2 (jW @C.ids.eq_1 (jW @C.ids.eq_2 (jW @C.ids.eq_3 (jW @C.ids.eq_4 (jW @C.ids.eq_5 (jW @C.ids.eq_6 (jW @Ob.ren.eq_1 (jW @Ob.ren.eq_2 (jW @Ob.ren.eq_3 (jW @Ob.ren.eq_4 (jW @Ob.ids.eq_1 (jW @Ob.ids.eq_2 (jW @Ob.ids.eq_3 (jW @Ob.ids.eq_4 (jW @Int.cast_ofNat_Int (jW @QI.{0} (jW @Al (jW @yx (jW @Am (jW @yy (jW @id_eq.{1} (jW @Qn (jW @Nat.mul_zero (jW @QC (@Qm.{0}))))))))))))))))))))))))))))))))))))))))
theorem aP:jg (jW @Int.natCast_add (jW @Int.natCast_mul (jW @Int.natCast_one (@QT)))):=jW @Int.natCast_add (jW @Int.natCast_mul (jW @Int.natCast_one (@QT)))
theorem ae:jg (jW @wx (jW @wy @wz)):=jW @wx (jW @wy @wz)
theorem aI {σ:St} {p:Nat×Option Kd} {x:D} (h1:(bI σ p).bind (toW σ.h)=some x:=by simp only[ae,aa,seval,iteOmega,toNatUp]):ce σ [p] (.w (.c (.d x))):=lH h1
theorem dp {σ:St} {p q:Nat×Option Kd} {x y:D} (h1:(bI σ p).bind (toW σ.h)=some x:=by simp only[ae,aa,seval,iteOmega,toNatUp]) (h2:(bI σ q).bind (toW σ.h)=some y:=by simp only[ae,aa,seval,iteOmega,toNatUp]):ce σ [p,q] (.tup [.c (.d x),.c (.d y)]):=sX h1 h2
theorem iB {σ:St} {p q r:Nat×Option Kd} {x y z:D} (h1:(bI σ p).bind (toW σ.h)=some x:=by simp only[ae,aa,seval,iteOmega,toNatUp]) (h2:(bI σ q).bind (toW σ.h)=some y:=by simp only[ae,aa,seval,iteOmega,toNatUp]) (h3:(bI σ r).bind (toW σ.h)=some z:=by simp only[ae,aa,seval,iteOmega,toNatUp]):ce σ [p,q,r] (.tup [.c (.d x),.c (.d y),.c (.d z)]):=Ln h1 h2 h3
theorem fe {σ:St} {p:Nat×Option Kd} {sz:Nat} {es:List D} (h1:(bI σ p).bind (gE σ.h sz)=some es:=by simp only[ae,aa,seval,iteOmega,toNatUp]):ce σ [p] (.w (.c (.fr sz es))):=CH h1
theorem cr {σ:St} {p q:Nat×Option Kd} {sz:Nat} {es:List D} {y:D} (h1:(bI σ p).bind (gE σ.h sz)=some es:=by simp only[ae,aa,seval,iteOmega,toNatUp]) (h2:bI σ q=some (.c (.d y)):=by simp only[ae,aa,seval,iteOmega,toNatUp]):ce σ [p,q] (.tup [.c (.fr sz es),.c (.d y)]):=sY h1 h2
theorem sD {P:Program} {G:aj} {K:St→Prop} {r:List aH} {f:Nat→V} {h:al} {u:Nat→Bool} {d:Option Nat} {fn:FuncId} {xs:List SX} {own:Option (Nat×Nat)} {ds:List D} {res:V} {q:Prop} (h2:ap P G fn ds res) (e:q)
    (hq:aL (cq h u (d.getD 0) own res) (bM P G d r K f)=q:=by simp only[ae,aa,seval,iteOmega,toNatUp]; rfl) (h1:ca h (xs.map (ev G f))=some ds:=by exact rfl)
    (h3:((xs.map (ev G f)).any V.hasOwn=false∨res.flat=true):=by exact .inl rfl) (hne:fn≠dN:=by decide) (hp:fu own (xs.map (ev G f)):=by first | exact lk _ | exact ly _ _ _ | exact ll _ _ rfl):ar P G (⟨d,.call fn xs own,none⟩::r) K ⟨f,h,u⟩ :=
  sC h2 (hq ▸ e) h1 h3 hne hp
def eL (x:UInt8):UInt8:=ak (cP x 1) (if x<128 then 0 else 27)
def gH (c:Bool) (v:UInt8):UInt8:=if c then v else 0
def gI (y:UInt8) (i:Nat):Bool:=y.toNat.testBit i
def uG (x:UInt8):Nat→UInt8
  | 0=>x
  | n+1=>eL (uG x n)
def EX (x y:UInt8):Nat→UInt8
  | 0=>0
  | n+1=>ak (EX x y n) (gH (gI y n) (uG x n))
def eo (x y:UInt8):UInt8:=EX x y 8
theorem xb (x y:UInt8):ak x y=ak y x:=UInt8.xor_comm x y
theorem lg (x y z:UInt8):ak (ak x y) z=ak x (ak y z):=UInt8.xor_assoc x y z
theorem xc (x:UInt8):ak x 0=x:=UInt8.xor_zero
theorem GN (x:UInt8):ak x x=0:=UInt8.xor_self
theorem GO (a b c d:UInt8):ak (ak a b) (ak c d)=ak (ak a c) (ak b d):=by
  rw[lg,← lg b,xb b c,lg c,← lg]
def uh (f:UInt8→UInt8):Prop:=∀ a b,f (ak a b)=ak (f a) (f b)
theorem H1 (x y:UInt8) (i:Nat):gI (ak x y) i=(gI x i ^^ gI y i):=by
  unfold gI ak;rw[UInt8.toNat_xor,P2]
theorem H2 (c d:Bool) (v:UInt8):gH (c ^^ d) v=ak (gH c v) (gH d v):=by
  cases c <;> cases d <;> simp[gH,ak]
def i3 (f:UInt8→UInt8) (x:UInt8):Nat→UInt8
  | 0=>0
  | n+1=>ak (i3 f x n) (gH (gI x n) (f (UInt8.ofNat (2^n))))
theorem y5 (f:UInt8→UInt8):∀ n,uh fun x=>i3 f x n
  | 0=>fun a b=>(GN 0).symm
  | n+1=>fun a b=>by
    show ak (i3 f (ak a b) n) (gH (gI (ak a b) n) _)=_
    rw[show i3 f (ak a b) n=ak (i3 f a n) (i3 f b n) from y5 f n a b,H1,H2,GO];rfl
theorem Ly {f:UInt8→UInt8} (h:∀ x,f x=i3 f x 8):uh f:=by
  intro a b;rw[h,h a,h b];exact y5 f 8 a b
theorem iR {p:UInt8→Bool} (h:((List.range 256).all fun i=>p (UInt8.ofNat i))=true) (x:UInt8):p x=true:=by
  have:=Pw.1 h x.toNat (List.mem_range.2 x.toNat_lt)
  simpa using this
theorem JE:uh eL:=Ly fun x=>by
  have:=iR (p:=fun x=>eL x==i3 eL x 8) (by decide +kernel) x
  simpa using this
def oF (x:UInt8) (n:Nat):UInt8:=gO (cP x n) (cQ x (8-n))
def EF (y:UInt8):UInt8:=ak (ak (ak (ak (ak y (oF y 1)) (oF y 2)) (oF y 3)) (oF y 4)) 99
def EG (x:UInt8):UInt8 :=
  let x2:=eo x x
  let x3:=eo x2 x
  let x6:=eo x3 x3
  let x12:=eo x6 x6
  let x15:=eo x12 x3
  let x30:=eo x15 x15
  let x60:=eo x30 x30
  let x120:=eo x60 x60
  let x240:=eo x120 x120
  eo (eo x240 x12) x2
def ui:List UInt8:=(List.range 256).map fun i=>EF (EG (UInt8.ofNat i))
def cF (x:UInt8):UInt8:=EF (EG x)
theorem H3 (x:UInt8):ui[x.toNat]?=some (cF x):=by
  unfold ui cF;rw[Qq,List.getElem?_range x.toNat_lt];simp
instance:Std.Associative ak:=⟨lg⟩
instance:Std.Commutative ak:=⟨xb⟩
def uH (x:UInt8):UInt8:=eo x 2
def pp (a b c d:UInt8):UInt8:=ak (ak (ak (ak (uH a) (uH b)) b) c) d
abbrev ct:=Nat→UInt8
def eG (s k:ct):ct:=fun j=>ak (s j) (k j)
def fw (s:ct):ct:=fun j=>cF (s (j%4+4*((j / 4+j%4)%4)))
def eH (t:ct):ct:=fun j=>pp (t (4*(j / 4)+j%4)) (t (4*(j / 4)+(j%4+1)%4)) (t (4*(j / 4)+(j%4+2)%4)) (t (4*(j / 4)+(j%4+3)%4))
def D7 (s t:ct):Prop:=∀ j,j<16→s j=t j
def s9 (k:Nat→ct) (s:ct) (n:Nat):ct:=if n<10 then eG (eH (fw s)) (k n) else eG (fw s) (k n)
def fA (k:Nat→ct) (s:ct):Nat→ct
  | 0=>eG s (k 0)
  | n+1=>s9 k (fA k s n) (n+1)
def eZ (n:Nat):UInt8:=uG 1 n
def kz (t:List UInt8) (n:Nat):List UInt8 :=
  if n%4=0 then [ak (cF (t.getD 1 0)) (eZ (n / 4)),cF (t.getD 2 0),cF (t.getD 3 0),cF (t.getD 0 0)]
  else [t.getD 0 0,t.getD 1 0,t.getD 2 0,t.getD 3 0]
def hZ (l:List UInt8) (n:Nat):List UInt8 :=
  (List.range 4).map fun k=>ak (l.getD (4*n+k) 0) ((kz (l.drop (12+4*n)) n).getD k 0)
def cA (key:List UInt8):Nat→List UInt8
  | 0=>key
  | n+1=>cA key n++hZ (cA key n) n
def aw (key:List UInt8):List UInt8:=cA key 40
theorem GQ (l:List UInt8) (n:Nat):(hZ l n).length=4:=by simp[hZ]
theorem jh {key:List UInt8} (h:key.length=16):∀ n,(cA key n).length=16+4*n
  | 0=>h
  | n+1=>by rw[cA,Ph,jh h n,GQ]; omega
theorem sg {key:List UInt8} (h:key.length=16):(aw key).length=176:=jh h 40
def bh (f:ct):List UInt8:=(List.range 16).map f
theorem dK (f:ct):(bh f).length=16:=by simp[bh]
theorem nE (f:ct) {j:Nat} (h:j<16):(bh f)[j]?=some (f j):=by simp[bh,h]
def aO (l:List UInt8):ct:=fun j=>l.getD j 0
theorem Lz {l:List UInt8} (h:l.length=16):bh (aO l)=l:=by
  apply QG;intro i;by_cases hi:i<16
  ·rw[nE _ hi,aO,Pg,Pb (by omega)]; rfl
  ·rw[PS (by rw[dK]; omega),PS (by omega)]
theorem qG {f g:ct} (h:D7 f g):bh f=bh g:=PW fun j hj=>h j (List.mem_range.1 hj)
def cG (rk:List UInt8) (n:Nat):ct:=fun j=>rk.getD (16*n+j) 0
def cR (rk b:List UInt8):List UInt8:=bh (fA (cG rk) (aO b) 10)
theorem fM (rk b:List UInt8):(cR rk b).length=16:=dK _
def nV (key b:List UInt8):List UInt8:=cR (aw key) b
def cc:List UInt8→List UInt8×Bool
  | []=>([],true)
  | x::r=>let (s,c):=cc r; if c then ((x+1)::s,x+1==0) else (x::s,false)
def ia (c:List UInt8):List UInt8:=(cc c).1
theorem rn:∀ c,(cc c).1.length=c.length
  | []=>rfl
  | x::r=>by
    have:=rn r;simp only[cc];split <;> simp[this]
theorem xe (c:List UInt8):(ia c).length=c.length:=rn c
def di (c:List UInt8):Nat→List UInt8
  | 0=>c
  | n+1=>ia (di c n)
theorem y6 (c:List UInt8):∀ n,(di c n).length=c.length
  | 0=>rfl
  | n+1=>by rw[di,xe,y6 c n]
def kK (rk c:List UInt8):Nat→List UInt8
  | 0=>[]
  | n+1=>kK rk c n++cR rk (di c n)
theorem lr (rk c:List UInt8):∀ n,(kK rk c n).length=16*n
  | 0=>rfl
  | n+1=>by rw[kK,Ph,lr rk c n,fM]; omega
def pq (a b:List UInt8):List UInt8:=List.zipWith ak a b
def eD (rk c b:List UInt8):List UInt8:=pq b (kK rk c ((b.length+15) / 16))
theorem H4 {a b:List UInt8} (h:a.length≤b.length):(pq a b).length=a.length:=by
  simp[pq]; omega
theorem mT (rk c b:List UInt8):(eD rk c b).length=b.length:=H4 (by rw[lr]; omega)
def uj (b:ct):ct:=fun j=>ak (ak (cP (b j) 1) (if j<15 then cQ (b (j+1)) 7 else 0)) (if j=15 then gH (gI (b 0) 7) 135 else 0)
theorem LL (x y:UInt8):gO (cP x 1) (cQ y 7)=ak (cP x 1) (cQ y 7):=by
  have h:cQ y 7=0∨cQ y 7=1:=by
    have:=iR (p:=fun y=>cQ y 7==0 || cQ y 7==1) (by decide +kernel) y
    simpa using this
  rcases h with h | h <;> rw[h]
  ·have:=iR (p:=fun x=>gO (cP x 1) 0==ak (cP x 1) 0) (by decide +kernel) x;rw[beq_iff_eq] at this; exact this
  ·have:=iR (p:=fun x=>gO (cP x 1) 1==ak (cP x 1) 1) (by decide +kernel) x;rw[beq_iff_eq] at this; exact this
def dk (b:List UInt8):List UInt8:=if b.length=16 then bh (uj (aO b)) else []
theorem jd {b:List UInt8} (h:b.length=16):(dk b).length=16:=by rw[dk,if_pos h,dK]
def bJ:List UInt8→List UInt8→List UInt8
  | x::a,y::b=>ak x y::bJ a b
  | a,_=>a
theorem fm:∀ a b:List UInt8,(bJ a b).length=a.length
  | [],_=>by simp[bJ]
  | x::a,[]=>rfl
  | x::a,y::b=>by simp[bJ,fm a b]
theorem zd:∀ (a b:List UInt8) (i:Nat),i<a.length→i<b.length→(bJ a b).getD i 0=ak (a.getD i 0) (b.getD i 0)
  | [],_,_,h,_=>by simp at h
  | x::a,[],_,_,h=>by simp at h
  | x::a,y::b,0,_,_=>rfl
  | x::a,y::b,i+1,h,g=>by
    show (bJ a b).getD i 0=_
    rw[zd a b i (by simpa using h) (by simpa using g)]; rfl
def dL:List UInt8:=List.replicate 16 0
def fB (b:List UInt8):List UInt8:=b++List.replicate ((16-b.length%16)%16) 0
def fC (rk:List UInt8):List UInt8:=dk (cR rk dL)
def il (rk:List UInt8):List UInt8:=dk (fC rk)
def eI (rk b:List UInt8):Nat→List UInt8
  | 0=>dL
  | n+1=>cR rk (bJ (eI rk b n) ((b.drop (16*n)).take 16))
def jl (b:List UInt8):Nat:=(b.length+15) / 16-1
def im (rk e:List UInt8):List UInt8:=if e.length=16 then bJ e (fC rk) else bJ (fB (e++[128])) (il rk)
def e9 (rk b:List UInt8):List UInt8:=cR rk (bJ (eI rk b (jl b)) (im rk (b.drop (16*jl b))))
theorem nj (rk b:List UInt8):∀ n,(eI rk b n).length=16
  | 0=>by simp[eI,dL]
  | n+1=>fM _ _
theorem nk (rk b:List UInt8):(e9 rk b).length=16:=fM _ _
theorem rv (rk:List UInt8):(fC rk).length=16:=jd (fM _ _)
theorem Il (rk:List UInt8):(il rk).length=16:=jd (rv _)
theorem qn {b:List UInt8} (h:b.length<16):(fB (b++[128])).length=16:=by
  simp[fB]; omega
theorem Im {rk e:List UInt8} (h:e.length≤16):(im rk e).length=16:=by
  unfold im;split
  ·rw[fm]; assumption
  ·rw[fm,qn (by omega)]
def fa (rk:List UInt8) (l:List (List UInt8)):Nat→List UInt8
  | 0=>e9 rk dL
  | n+1=>bJ (dk (fa rk l n)) (e9 rk (l.getD n []))
def fY (rk:List UInt8) (l:List (List UInt8)):List UInt8 :=
  if l.length=0 then e9 rk (List.replicate 15 0++[1])
  else
    let d:=fa rk l (l.length-1)
    let s:=l.getD (l.length-1) []
    if 16≤s.length then e9 rk (s.take (s.length-16)++bJ (s.drop (s.length-16)) d)
    else e9 rk (bJ (dk d) (fB (s++[128])))
theorem ze (rk:List UInt8) (l:List (List UInt8)):∀ n,(fa rk l n).length=16
  | 0=>nk _ _
  | n+1=>by rw[fa,fm,jd (ze rk l n)]
theorem Io (rk:List UInt8) (l:List (List UInt8)):(fY rk l).length=16:=by
  unfold fY;split
  ·exact nk _ _
  ·dsimp only;split <;> exact nk _ _
end Go.Proofs.Ytofonnokanoflaa
