/- Texts of one's own, merged: from: The plain logic (20): words of 32 bits. Own work. -/
import Derived.Laws.BitsLemmas
import Derived.Laws.Bits64
import Derived.Laws.BitsAllLaws
import Derived.Test.YtofonnokanoflaaGreatMz26
set_option linter.unusedVariables false
set_option linter.unusedSimpArgs false
namespace Go.Proofs.YtofonnokanoflaaGreat
open Go.RowKit IntWalk
def fA (x y:UInt32):UInt32:=x ^^^ y
def li (x y:UInt32):UInt32:=x &&& y
def my (x y:UInt32):UInt32:=x ||| y
def bE (x y:UInt32):UInt32:=x+y
def qx (x:UInt32):UInt32:=UInt32.ofNat (4294967295-x.toNat)
def mj (x:UInt32) (n:Nat):UInt32:=UInt32.ofNat (x.toNat / 2^n)
def lj (x:UInt32) (n:Nat):UInt32:=UInt32.ofNat (x.toNat*2^n)
def jh (x:UInt32) (n:Nat):UInt32:=my (mj x n) (lj x (32-n))
def l9 (b:UInt8):UInt32:=UInt32.ofNat b.toNat
theorem word_lt (x:UInt32):x.toNat<4294967296:=x.toNat_lt
theorem Ry (x y:UInt32):bits .xor .u32 (x.toNat:Int) (y.toNat:Int)=((fA x y).toNat:Int):=by
  rw[u32_xor_nat _ _ (word_lt x) (word_lt y)]; simp[fA]
theorem Rz (x y:UInt32):bits .and .u32 (x.toNat:Int) (y.toNat:Int)=((li x y).toNat:Int):=by
  rw[u32_and_nat _ _ (word_lt x) (word_lt y)]; simp[li]
theorem SJ (x y:UInt32):bits .or .u32 (x.toNat:Int) (y.toNat:Int)=((my x y).toNat:Int):=by
  rw[u32_or_nat _ _ (word_lt x) (word_lt y)]; simp[my]
theorem RA (x y:UInt32):IntKind.u32.wrap ((x.toNat:Int)+(y.toNat:Int))=((bE x y).toNat:Int):=by
  rw[IntKind.wrap_u32]; simp[bE]
theorem SK (x:UInt32) (n:Nat):(x.toNat:Int) / 2^n=((mj x n).toNat:Int):=by
  have h:x.toNat / 2^n<4294967296:=acT (Nat.div_le_self _ _) (word_lt x);unfold mj;rw[UInt32.toNat_ofNat_of_lt' (by simpa [UInt32.size] using h)];simp
theorem SL (x:UInt32) (n:Nat):(x.toNat:Int)*2^n%4294967296=((lj x n).toNat:Int):=by
  unfold lj;simp
theorem SN (x:UInt32):(4294967295:Int)-(x.toNat:Int)=((qx x).toNat:Int):=by
  have h:=word_lt x;unfold qx;rw[UInt32.toNat_ofNat_of_lt' (by simp[UInt32.size]; omega)];omega
theorem E7 (b:UInt8):(b.toNat:Int)=((l9 b).toNat:Int):=by
  have h:=b.toNat_lt;unfold l9;rw[UInt32.toNat_ofNat_of_lt' (by simp[UInt32.size]; omega)]
theorem E9 (x y:UInt32):bW .xor (.w (.c (.d (wD x)))) (.w (.c (.d (wD y))))=some (wD (fA x y)):=by
  show bI .xor .u32 (x.toNat:Int) .u32 (y.toNat:Int)=_
  rw[uV,Ry]; rfl
theorem Fa (x y:UInt32):bW .and (.w (.c (.d (wD x)))) (.w (.c (.d (wD y))))=some (wD (li x y)):=by
  show bI .and .u32 (x.toNat:Int) .u32 (y.toNat:Int)=_
  rw[uU,Rz]; rfl
theorem Hs (x y:UInt32):bW .or (.w (.c (.d (wD x)))) (.w (.c (.d (wD y))))=some (wD (my x y)):=by
  show bI .or .u32 (x.toNat:Int) .u32 (y.toNat:Int)=_
  rw[vw,SJ]; rfl
theorem Fb (x y:UInt32):bW .add (.w (.c (.d (wD x)))) (.w (.c (.d (wD y))))=some (wD (bE x y)):=by
  show bI .add .u32 (x.toNat:Int) .u32 (y.toNat:Int)=_
  rw[uR,RA]; rfl
theorem Fc (x:UInt32) (k:IntKind) (n:Int) (h:0≤n):bW .shl (.w (.c (.d (wD x)))) (.w (.c (.d (.int k n))))=some (wD (lj x (min n.toNat 32))):=by
  show bI .shl .u32 (x.toNat:Int) k n=_
  rw[uW _ _ _ _ h,IntKind.wrap_u32]
  show some (D.int .u32 ((x.toNat:Int)*2^min n.toNat 32%4294967296))=_
  rw[SL]; rfl
theorem Fe (x:UInt32) (k:IntKind) (n:Int) (h:0≤n):bW .shr (.w (.c (.d (wD x)))) (.w (.c (.d (.int k n))))=some (wD (mj x (min n.toNat 32))):=by
  show bI .shr .u32 (x.toNat:Int) k n=_
  rw[uX _ _ _ _ h]
  show some (D.int .u32 ((x.toNat:Int) / 2^min n.toNat 32))=_
  rw[SK]; rfl
theorem Ht (x:UInt32):lv .xor (.w (.c (.d (wD x))))=some (wD (qx x)):=by
  have:bits .xor .u32 4294967295 (x.toNat:Int)=(4294967295:Int)-(x.toNat:Int):=by
    have h:=x.toNat_lt;have h2:4294967295 ^^^ x.toNat=4294967295-x.toNat:=by
      have e:=congrArg BitVec.toNat (BitVec.allOnes_xor (x:=BitVec.ofNat 32 x.toNat));rw[BitVec.toNat_xor,BitVec.toNat_not,BitVec.toNat_allOnes,BitVec.toNat_ofNat,ac9 (by omega)] at e;omega
    have h3:=u32_xor_nat 4294967295 x.toNat (by decide) h;rw[h2] at h3;have h4:((4294967295:Nat):Int)=4294967295:=rfl;rw[h4] at h3;omega
  show some (D.int .u32 (bits .xor .u32 4294967295 (x.toNat:Int)))=_
  rw[this,SN]; rfl
theorem Ff (x y:UInt32):bW .eql (.w (.c (.d (wD x)))) (.w (.c (.d (wD y))))=some (.bool (x==y)):=by
  show bI .eql .u32 (x.toNat:Int) .u32 (y.toNat:Int)=_
  rw[uS];by_cases h:x=y
  ·subst h; simp
  ·have:¬ ((x.toNat:Int)=(y.toNat:Int)):=fun e=>h (UInt32.toNat_inj.1 (by omega))
   simp[this,h]
theorem Fg (x y:UInt32):bW .neq (.w (.c (.d (wD x)))) (.w (.c (.d (wD y))))=some (.bool (x != y)):=by
  show bI .neq .u32 (x.toNat:Int) .u32 (y.toNat:Int)=_
  rw[uT];by_cases h:x=y
  ·subst h; simp
  ·have:¬ ((x.toNat:Int)=(y.toNat:Int)):=fun e=>h (UInt32.toNat_inj.1 (by omega))
   simp[this,h]
theorem Hu (b:UInt8):D.int .u32 (IntKind.u32.wrap (b.toNat:Int))=wD (l9 b):=by
  have h:=b.toNat_lt;rw[IntWalk.u32_in _ (by omega),E7]; rfl
def ak (x y:UInt8):UInt8:=x ^^^ y
def gB (x y:UInt8):UInt8:=x &&& y
def jK (x y:UInt8):UInt8:=x ||| y
def cT (x:UInt8) (n:Nat):UInt8:=UInt8.ofNat (x.toNat*2^n)
def cv (x:UInt8) (n:Nat):UInt8:=UInt8.ofNat (x.toNat / 2^n)
theorem fH (x:UInt8):x.toNat<256:=x.toNat_lt
theorem dv (x y:UInt8):bW .xor (.w (.c (.d (bD x)))) (.w (.c (.d (bD y))))=some (bD (ak x y)):=by
  show bI .xor .u8 (x.toNat:Int) .u8 (y.toNat:Int)=_
  rw[uV,u8_xor_nat _ _ (fH x) (fH y)]; simp[ak,bD]
theorem yF (x y:UInt8):bW .and (.w (.c (.d (bD x)))) (.w (.c (.d (bD y))))=some (bD (gB x y)):=by
  show bI .and .u8 (x.toNat:Int) .u8 (y.toNat:Int)=_
  rw[uU,u8_and_nat _ _ (fH x) (fH y)]; simp[gB,bD]
theorem rA (x y:UInt8):bW .or (.w (.c (.d (bD x)))) (.w (.c (.d (bD y))))=some (bD (jK x y)):=by
  show bI .or .u8 (x.toNat:Int) .u8 (y.toNat:Int)=_
  rw[vw,u8_or_nat _ _ (fH x) (fH y)]; simp[jK,bD]
theorem RB (x:UInt8) (k:IntKind) (n:Int) (h:0≤n):bW .shl (.w (.c (.d (bD x)))) (.w (.c (.d (.int k n))))=some (bD (cT x (min n.toNat 8))):=by
  show bI .shl .u8 (x.toNat:Int) k n=_
  rw[uW _ _ _ _ h,IntKind.wrap_u8]
  show some (D.int .u8 ((x.toNat:Int)*2^min n.toNat 8%256))=_
  have:(x.toNat:Int)*2^min n.toNat 8%256=((cT x (min n.toNat 8)).toNat:Int):=by unfold cT; simp
  rw[this]; rfl
theorem RD (x:UInt8) (k:IntKind) (n:Int) (h:0≤n):bW .shr (.w (.c (.d (bD x)))) (.w (.c (.d (.int k n))))=some (bD (cv x (min n.toNat 8))):=by
  show bI .shr .u8 (x.toNat:Int) k n=_
  rw[uX _ _ _ _ h]
  show some (D.int .u8 ((x.toNat:Int) / 2^min n.toNat 8))=_
  have:(x.toNat:Int) / 2^min n.toNat 8=((cv x (min n.toNat 8)).toNat:Int):=by
    have h:x.toNat / 2^min n.toNat 8<256:=acT (Nat.div_le_self _ _) (fH x);unfold cv;rw[UInt8.toNat_ofNat_of_lt' (by simpa [UInt8.size] using h)];simp
  rw[this]; rfl
theorem RE (x y:UInt8):bW .eql (.w (.c (.d (bD x)))) (.w (.c (.d (bD y))))=some (.bool (x==y)):=by
  show bI .eql .u8 (x.toNat:Int) .u8 (y.toNat:Int)=_
  rw[uS];by_cases h:x=y
  ·subst h; simp
  ·have:¬ ((x.toNat:Int)=(y.toNat:Int)):=fun e=>h (UInt8.toNat_inj.1 (by omega))
   simp[this,h]
theorem RF (x y:UInt8):bW .neq (.w (.c (.d (bD x)))) (.w (.c (.d (bD y))))=some (.bool (x != y)):=by
  show bI .neq .u8 (x.toNat:Int) .u8 (y.toNat:Int)=_
  rw[uT];by_cases h:x=y
  ·subst h; simp
  ·have:¬ ((x.toNat:Int)=(y.toNat:Int)):=fun e=>h (UInt8.toNat_inj.1 (by omega))
   simp[this,h]
theorem PP (G:ah) (f:Nat→V):ev G f .u=.undef:=rfl
def OK (P:Program) (G:ah) (d:Option Nat) (r:List a9) (K:St→Prop) (f:Nat→V) (h:aA) (u:Nat→Bool) (F:Nat) (ds:List D):Prop:=aR P G r K ⟨bp f d (.w (.c (.d (.fn F ds)))),h,u⟩
theorem JA (P:Program) (G:ah) (d:Option Nat) (r:List a9) (K:St→Prop) (f:Nat→V) (h:aA) (u:Nat→Bool) (F:Nat) (xs:List SX):aR P G (⟨d,.clos F xs,none⟩::r) K ⟨f,h,u⟩=bh (fw (xs.map (ev G f))) (OK P G d r K f h u F):=by
  show (match (fw (xs.map (ev G f))).map fun ds=>((.w (.c (.d (.fn F ds))),h,u):R) with | some r=>_ | none=>False)=_
  cases fw (xs.map (ev G f)) <;> rfl
theorem Hv (P:Program) (G:ah) (d:Option Nat) (r:List a9) (K:St→Prop) (f:Nat→V) (h:aA) (u:Nat→Bool) (F:Nat) (ds:List D):OK P G d r K f h u F ds=aR P G r K ⟨bp f d (.w (.c (.d (.fn F ds)))),h,u⟩:=rfl
theorem Fh:fw []=some []:=rfl
theorem Hw (cs:List D) (r:List V):fw (.w (.c (.rp cs))::r)=(fw r).map fun l=>.ref cs::l:=by
  simp only[fw,lg]; cases fw r <;> rfl
theorem Fi (k:IntKind) (n:Int) (r:List V):fw (.w (.c (.d (.int k n)))::r)=(fw r).map fun l=>.int k n::l:=by
  simp only[fw,lg]; cases fw r <;> rfl
theorem Hy (es:List D) (r:List V):fw (.w (.c (.d (.sl es)))::r)=(fw r).map fun l=>.sl es::l:=by
  simp only[fw,lg]; cases fw r <;> rfl
def CU (P:Program) (G:ah) (body:aS) (K:AX→St→Prop) (e:AX) (s:St):Prop:=match e with | .nrm=>bL P G body K s | _=>False
def CV (f0:Nat→V) (I:Nat→aA→(Nat→Bool)→Prop) (Q:AX→St→Prop) (k:Nat) (e:AX) (s:St):Prop:=match e with
  | .nrm=>∃ h' u',fi s ⟨f0,h',u'⟩∧I (k+1) h' u'
  | e=>∃ h' u',fi s ⟨f0,h',u'⟩∧Q e ⟨f0,h',u'⟩
theorem Hz (P:Program) (G:ah) (body:aS) (K:AX→St→Prop) (s:St):CU P G body K .nrm s=bL P G body K s:=rfl
def CW (st:Nat→aA×(Nat→Bool)) (k:Nat) (h:aA) (u:Nat→Bool):Prop:=(h,u)=st k
theorem SO {P:Program} {G:ah} {Q:AX→St→Prop} {σ:St} {x:SX} {ps:List Nat} {asg body:aS} {g:Nat} {caps:List D} {xs:List (List D)} (f0:Nat→V) {f1:Nat→V} (hf:f0=f1) (st:Nat→aA×(Nat→Bool))
    (hev:ev G σ.f x=.w (.c (.d (.fn g caps)))) (hseq:CQ P G g caps xs) (hlen:∀ r∈xs,r.length=ps.length) (hent:fi σ ⟨f1,(st 0).1,(st 0).2⟩) (hun:∀ t∈ps++asg.writes++body.writes,f1 t=.undef)
    (round:∀ k r,xs[k]?=some r→bL P G asg (CU P G body (CV f0 (CW st) Q k)) ⟨pV f1 ps r,(st k).1,(st k).2⟩)
    (done:Q .nrm ⟨f1,(st xs.length).1,(st xs.length).2⟩):bL P G (.rangeF x ps asg body) Q σ:=by
  subst hf;refine⟨g,caps,xs,f0,(st 0).1,(st 0).2,fun k h u=>(h,u)=st k,hev,hseq,hlen,hent,hun,rfl,fun k r h u hr e=>?_,fun h u e=>?_⟩
  ·have:=round k r hr;rw[← e] at this
   have e1:(fun (e:AX) (s:St)=>match e with
       | .nrm=>bL P G body (fun e s'=>match e with
         | .nrm=>∃ h' u',fi s' ⟨f0,h',u'⟩∧(h',u')=st (k+1)
         | e=>∃ h' u',fi s' ⟨f0,h',u'⟩∧Q e ⟨f0,h',u'⟩) s
       | _=>False)=CU P G body (CV f0 (CW st) Q k):=by
     funext e s
     cases e with
     | nrm =>
       show bL P G body _ s=bL P G body _ s
       congr 1
     | _=>rfl
   rw[← e1] at this;exact this
  ·rw[← e] at done; exact done
theorem SP {f0:Nat→V} {f1:Nat→V} (hf:f0=f1) {st:Nat→aA×(Nat→Bool)} {Q:AX→St→Prop} {k:Nat} {s:St} (h:fi s ⟨f1,(st (k+1)).1,(st (k+1)).2⟩):CV f0 (CW st) Q k .nrm s:=⟨_,_,hf ▸ h,rfl⟩
def bC (x:UInt8):C:=.d (bD x)
theorem jC (l:List UInt8):(l.map bD).map C.d=l.map bC:=by rw[adw]; rfl
theorem iy:∀ l:List UInt8,fW (l.map bC)=some (l.map bD)
  | []=>rfl
  | x::l=>by
    have h:=iy l
    show fW (C.d (bD x)::l.map bC)=_
    simp only[fW,h,abK,ac7]
theorem SQ {α β:Type} (f:α→β) (l cs:List α) (off:Nat):cW (l.map f) off (cs.map f)=(cW l off cs).map f:=by
  unfold cW; simp
theorem cb (l:List UInt8):(l.map bC).flatMap C.ids=[]:=by
  induction l with
  | nil=>rfl
  | cons x l ih=>rw[abK,ab0,ih]; rfl
theorem fq (g:Nat→Nat) (l:List UInt8):(l.map bC).map (C.ren g)=l.map bC:=by rw[adw]; rfl
theorem Bc (x c:UInt8) (n:Int) (h:n=(c.toNat:Int)):bW .eql (.w (.c (.d (bD x)))) (.w (.c (.d (.int .u8 n))))=some (.bool (x==c)):=by subst h; exact RE x c
theorem Be (x c:UInt8) (n:Int) (h:n=(c.toNat:Int)):bW .neq (.w (.c (.d (bD x)))) (.w (.c (.d (.int .u8 n))))=some (.bool (x != c)):=by subst h; exact RF x c
theorem v8 (x c:UInt8) (n:Int) (h:n=(c.toNat:Int)):bW .xor (.w (.c (.d (bD x)))) (.w (.c (.d (.int .u8 n))))=some (bD (ak x c)):=by subst h; exact dv x c
theorem pJ (x c:UInt8) (n:Int) (h:n=(c.toNat:Int)):bW .and (.w (.c (.d (bD x)))) (.w (.c (.d (.int .u8 n))))=some (bD (gB x c)):=by subst h; exact yF x c
theorem pK (x:UInt8) (k:IntKind) (j:Nat) (n:Int) (h:n=(j:Int)) (hj:j≤8):bW .shr (.w (.c (.d (bD x)))) (.w (.c (.d (.int k n))))=some (bD (cv x j)):=by
  subst h;rw[RD _ _ _ (Int.natCast_nonneg j),Int.toNat_natCast,acS hj]
theorem sw (x:UInt8) (k:IntKind) (j:Nat) (n:Int) (h:n=(j:Int)) (hj:j≤8):bW .shl (.w (.c (.d (bD x)))) (.w (.c (.d (.int k n))))=some (bD (cT x j)):=by
  subst h;rw[RB _ _ _ (Int.natCast_nonneg j),Int.toNat_natCast,acS hj]
def aQ {α:Type} (n:Nat) (x:α):List α:=List.replicate n x
theorem bf {α:Type} (n:Nat) (x:α):(aQ n x).length=n:=ab3
theorem SR {α:Type} {n i:Nat} (x:α) (h:i<n):(aQ n x)[i]?=some x:=by unfold aQ; rw[List.getElem?_replicate,if_pos h]
theorem Uw (n:Nat):aQ n (D.int .u8 0)=(aQ n (0:UInt8)).map bD:=by unfold aQ; rw[List.map_replicate]; rfl
theorem rN (n:Nat):aQ n (C.d (D.int .u8 0))=(aQ n (0:UInt8)).map bC:=by unfold aQ; rw[List.map_replicate]; rfl
set_option maxRecDepth 100000
theorem jW {a b : Prop} (l : a) (r : b) : a ∧ b := And.intro l r
theorem wx:kO (jW @wN (jW @wO (jW @wP (jW @wQ (jW @wR (jW @sx (jW @A2 (jW @Ab (jW @Lj (jW @Lk (jW @Li (jW @A1 (jW @Iv (jW @Ol (jW @Om (jW @On (jW @dH.eq_1 (jW @dH.eq_2 (jW @dH.eq_3 (jW @dH.eq_4 (jW @iz.eq_1 (jW @iz.eq_2 (jW @killAll.eq_1 (jW @killAll.eq_2 (jW @killAll.eq_3 (jW @PP (jW @JA (jW @Hv (jW @Fh (jW @Hw (jW @Fi (jW @Hy (jW @Hz (jW @ef.eq_1 (jW @ef.eq_2 (jW @ef.eq_3 (jW @ef.eq_4 (jW @ef.eq_5 (jW @ef.eq_6 (jW @ef.eq_7 (jW @ef.eq_8 (jW @ef.eq_9 (jW @ef.eq_10 (jW @ef.eq_11 (jW @ef.eq_12 (jW @ef.eq_13 (jW @ef.eq_14 (jW @ef.eq_15 (jW @ef.eq_16 (jW @ef.eq_17 (jW @ef.eq_18 (jW @ef.eq_19 (jW @ef.eq_20 (jW @ef.eq_21 (jW @ef.eq_22 (jW @ef.eq_23 (jW @ef.eq_24 (jW @ef.eq_25 (jW @ef.eq_26 (jW @ef.eq_27 (jW @ef.eq_28 (jW @ef.eq_29 (jW @ef.eq_30 (jW @ef.eq_31 (jW @ef.eq_32 (jW @ef.eq_33 (jW @ef.eq_34 (jW @ef.eq_35 (jW @ef.eq_36 (jW @ef.eq_37 (jW @ef.eq_38 (jW @ef.eq_39 (jW @ef.eq_40 (jW @ef.eq_41 (jW @ef.eq_42 (jW @ef.eq_43 (jW @ef.eq_44 (jW @ef.eq_45 (jW @ef.eq_46 (jW @ef.eq_47 (jW @ef.eq_48 (jW @ef.eq_49 (jW @ef.eq_50 (jW @ef.eq_51 (jW @ef.eq_52 (jW @ef.eq_53 (jW @bound.eq_1 (jW @bound.eq_2 (jW @lw.eq_1 (jW @lw.eq_2 (jW @lw.eq_3 (jW @lw.eq_4 (jW @ik.eq_1 (jW @cQ.eq_1 (jW @cQ.eq_2 (jW @cQ.eq_3 (jW @cQ.eq_4 (jW @cQ.eq_5 (jW @cQ.eq_6 (jW @cQ.eq_7 (jW @cQ.eq_8 (jW @eO.eq_1 (jW @eO.eq_2 (jW @eO.eq_3 (jW @eO.eq_4 (jW @eO.eq_5 (jW @eO.eq_6 (jW @eO.eq_7 (jW @Jn (jW @iI.eq_1 (jW @iI.eq_2 (jW @parts.eq_1 (jW @parts.eq_2 (jW @elems.eq_1 (jW @elems.eq_2 (jW @gA.eq_1 (jW @PN (jW @PO (jW @Mu (jW @Jz (jW @Mv (jW @OI (jW @Mw (jW @Mx (jW @My (jW @Mz (jW @OJ (jW @MA (jW @gU.eq_1 (jW @gU.eq_2 (jW @gU.eq_3 (jW @gU.eq_4 (jW @pU.eq_1 (jW @pU.eq_2 (jW @fW.eq_1 (jW @fW.eq_2 (jW @fW.eq_3 (jW @d6.eq_1 (jW @d6.eq_2 (jW @d6.eq_3 (jW @d6.eq_4 (jW @fh.eq_1 (jW @fh.eq_2 (jW @fh.eq_3 (jW @dK.eq_1 (jW @dK.eq_2 (jW @dK.eq_3 (jW @dK.eq_4 (jW @dK.eq_5 (jW @dK.eq_6 (jW @dK.eq_7 (jW @dK.eq_8 (jW @dK.eq_9 (jW @dK.eq_10 (jW @kj.eq_1 (jW @gV.eq_1 (jW @gV.eq_2 (jW @gV.eq_3 (jW @toW.eq_1 (jW @toW.eq_2 (jW @eM.eq_1 (jW @eM.eq_2 (jW @eM.eq_3 (jW @eM.eq_4 (jW @ie.eq_1 (jW @ie.eq_2 (jW @dU.eq_1 (jW @dU.eq_2 (jW @eA.eq_1 (jW @eA.eq_2 (jW @eA.eq_3 (jW @ints.eq_1 (jW @ints.eq_2 (jW @ints.eq_3 (jW @eC.eq_1 (jW @eC.eq_2 (jW @eC.eq_3 (jW @lh.eq_1 (jW @lh.eq_2 (jW @lh.eq_3 (jW @W.ro.eq_1 (jW @W.ro.eq_2 (jW @C.ro.eq_1 (jW @C.ro.eq_2 (jW @V.ro.eq_1 (jW @V.ro.eq_2 (jW @V.ro.eq_3 (jW @m6.eq_1 (jW @m6.eq_2 (jW @m6.eq_3 (jW @Kd.size.eq_1 (jW @Kd.size.eq_2 (jW @E1 (jW @Eh (jW @E2 (jW @Hh (jW @E4 (jW @cW.eq_1 (jW @cL.eq_1 (jW @cL.eq_2 (jW @Nat.min_def (jW @ac7.{0,0} (jW @Option.map_none.{0,0} (jW @Bool.not_true (jW @Bool.not_false (jW @decide_true (jW @decide_false (jW @Bool.and_self (jW @abK.{0,0} (jW @abS.{0,0} (jW @List.any_cons.{0} (jW @List.any_nil.{0} (jW @ada.{0} (jW @adh.{0} (jW @acJ.{0} (jW @acQ.{0} (jW @acq.{0} (jW @if_true.{1} (jW @if_false.{1} (jW @true_and (jW @and_true (jW @vd.eq_1 (jW @Int.natCast_nonneg (jW @acW.{0} (jW @ab8.{0} (jW @bw (jW @eS (jW @cy (jW @ic (jW @Hm (jW @Hn (jW @OC (jW @OD (jW @Ju (jW @Jv (jW @OE (jW @E9 (jW @Fa (jW @Hs (jW @Fb (jW @Fc (jW @Fe (jW @Ff (jW @Fg (jW @dv (jW @yF (jW @rA (jW @G8 (jW @G9 (jW @Ha (jW @Hb (jW @Hc (jW @He (jW @Hf (jW @Hg (jW @Hq (jW @Hr (jW @Ht (jW @Hu (jW @Hl (jW @Hi (jW @Hj (jW @Hk (jW @List.set_cons_zero.{0} (jW @List.set_cons_succ.{0} (jW @Jw (jW @iO (jW @Kd.ag.injEq (jW @abJ.{0} (jW @ab3.{0} (jW @uY (jW @Jo (jW @nH (jW @Ml (jW @vx (jW @Mn (jW @Jt (jW @G7 (jW @acE.{0} (jW @acF.{0} (jW @List.take_succ_cons.{0} (jW @ac1.{0} (jW @List.drop_succ_cons.{0} (jW @List.take_nil.{0} (jW @List.drop_nil.{0} (jW @abP.{0} (jW @ab0.{0,0} (jW @List.flatMap_nil.{0,0} (jW @Option.bind_some.{0,0} (jW @ne_eq.{1} (jW @not_false_eq_true (@not_true_eq_false)))))))))))))))))))))))))))))))))))))))))))))))))))))))))))))))))))))))))))))))))))))))))))))))))))))))))))))))))))))))))))))))))))))))))))))))))))))))))))))))))))))))))))))))))))))))))))))))))))))))))))))))))))))))))))))))))))))))))))))))))))))))))))))))))))))))))))))))))))))))))))))))))))):=jW @wN (jW @wO (jW @wP (jW @wQ (jW @wR (jW @sx (jW @A2 (jW @Ab (jW @Lj (jW @Lk (jW @Li (jW @A1 (jW @Iv (jW @Ol (jW @Om (jW @On (jW @dH.eq_1 (jW @dH.eq_2 (jW @dH.eq_3 (jW @dH.eq_4 (jW @iz.eq_1 (jW @iz.eq_2 (jW @killAll.eq_1 (jW @killAll.eq_2 (jW @killAll.eq_3 (jW @PP (jW @JA (jW @Hv (jW @Fh (jW @Hw (jW @Fi (jW @Hy (jW @Hz (jW @ef.eq_1 (jW @ef.eq_2 (jW @ef.eq_3 (jW @ef.eq_4 (jW @ef.eq_5 (jW @ef.eq_6 (jW @ef.eq_7 (jW @ef.eq_8 (jW @ef.eq_9 (jW @ef.eq_10 (jW @ef.eq_11 (jW @ef.eq_12 (jW @ef.eq_13 (jW @ef.eq_14 (jW @ef.eq_15 (jW @ef.eq_16 (jW @ef.eq_17 (jW @ef.eq_18 (jW @ef.eq_19 (jW @ef.eq_20 (jW @ef.eq_21 (jW @ef.eq_22 (jW @ef.eq_23 (jW @ef.eq_24 (jW @ef.eq_25 (jW @ef.eq_26 (jW @ef.eq_27 (jW @ef.eq_28 (jW @ef.eq_29 (jW @ef.eq_30 (jW @ef.eq_31 (jW @ef.eq_32 (jW @ef.eq_33 (jW @ef.eq_34 (jW @ef.eq_35 (jW @ef.eq_36 (jW @ef.eq_37 (jW @ef.eq_38 (jW @ef.eq_39 (jW @ef.eq_40 (jW @ef.eq_41 (jW @ef.eq_42 (jW @ef.eq_43 (jW @ef.eq_44 (jW @ef.eq_45 (jW @ef.eq_46 (jW @ef.eq_47 (jW @ef.eq_48 (jW @ef.eq_49 (jW @ef.eq_50 (jW @ef.eq_51 (jW @ef.eq_52 (jW @ef.eq_53 (jW @bound.eq_1 (jW @bound.eq_2 (jW @lw.eq_1 (jW @lw.eq_2 (jW @lw.eq_3 (jW @lw.eq_4 (jW @ik.eq_1 (jW @cQ.eq_1 (jW @cQ.eq_2 (jW @cQ.eq_3 (jW @cQ.eq_4 (jW @cQ.eq_5 (jW @cQ.eq_6 (jW @cQ.eq_7 (jW @cQ.eq_8 (jW @eO.eq_1 (jW @eO.eq_2 (jW @eO.eq_3 (jW @eO.eq_4 (jW @eO.eq_5 (jW @eO.eq_6 (jW @eO.eq_7 (jW @Jn (jW @iI.eq_1 (jW @iI.eq_2 (jW @parts.eq_1 (jW @parts.eq_2 (jW @elems.eq_1 (jW @elems.eq_2 (jW @gA.eq_1 (jW @PN (jW @PO (jW @Mu (jW @Jz (jW @Mv (jW @OI (jW @Mw (jW @Mx (jW @My (jW @Mz (jW @OJ (jW @MA (jW @gU.eq_1 (jW @gU.eq_2 (jW @gU.eq_3 (jW @gU.eq_4 (jW @pU.eq_1 (jW @pU.eq_2 (jW @fW.eq_1 (jW @fW.eq_2 (jW @fW.eq_3 (jW @d6.eq_1 (jW @d6.eq_2 (jW @d6.eq_3 (jW @d6.eq_4 (jW @fh.eq_1 (jW @fh.eq_2 (jW @fh.eq_3 (jW @dK.eq_1 (jW @dK.eq_2 (jW @dK.eq_3 (jW @dK.eq_4 (jW @dK.eq_5 (jW @dK.eq_6 (jW @dK.eq_7 (jW @dK.eq_8 (jW @dK.eq_9 (jW @dK.eq_10 (jW @kj.eq_1 (jW @gV.eq_1 (jW @gV.eq_2 (jW @gV.eq_3 (jW @toW.eq_1 (jW @toW.eq_2 (jW @eM.eq_1 (jW @eM.eq_2 (jW @eM.eq_3 (jW @eM.eq_4 (jW @ie.eq_1 (jW @ie.eq_2 (jW @dU.eq_1 (jW @dU.eq_2 (jW @eA.eq_1 (jW @eA.eq_2 (jW @eA.eq_3 (jW @ints.eq_1 (jW @ints.eq_2 (jW @ints.eq_3 (jW @eC.eq_1 (jW @eC.eq_2 (jW @eC.eq_3 (jW @lh.eq_1 (jW @lh.eq_2 (jW @lh.eq_3 (jW @W.ro.eq_1 (jW @W.ro.eq_2 (jW @C.ro.eq_1 (jW @C.ro.eq_2 (jW @V.ro.eq_1 (jW @V.ro.eq_2 (jW @V.ro.eq_3 (jW @m6.eq_1 (jW @m6.eq_2 (jW @m6.eq_3 (jW @Kd.size.eq_1 (jW @Kd.size.eq_2 (jW @E1 (jW @Eh (jW @E2 (jW @Hh (jW @E4 (jW @cW.eq_1 (jW @cL.eq_1 (jW @cL.eq_2 (jW @Nat.min_def (jW @ac7.{0,0} (jW @Option.map_none.{0,0} (jW @Bool.not_true (jW @Bool.not_false (jW @decide_true (jW @decide_false (jW @Bool.and_self (jW @abK.{0,0} (jW @abS.{0,0} (jW @List.any_cons.{0} (jW @List.any_nil.{0} (jW @ada.{0} (jW @adh.{0} (jW @acJ.{0} (jW @acQ.{0} (jW @acq.{0} (jW @if_true.{1} (jW @if_false.{1} (jW @true_and (jW @and_true (jW @vd.eq_1 (jW @Int.natCast_nonneg (jW @acW.{0} (jW @ab8.{0} (jW @bw (jW @eS (jW @cy (jW @ic (jW @Hm (jW @Hn (jW @OC (jW @OD (jW @Ju (jW @Jv (jW @OE (jW @E9 (jW @Fa (jW @Hs (jW @Fb (jW @Fc (jW @Fe (jW @Ff (jW @Fg (jW @dv (jW @yF (jW @rA (jW @G8 (jW @G9 (jW @Ha (jW @Hb (jW @Hc (jW @He (jW @Hf (jW @Hg (jW @Hq (jW @Hr (jW @Ht (jW @Hu (jW @Hl (jW @Hi (jW @Hj (jW @Hk (jW @List.set_cons_zero.{0} (jW @List.set_cons_succ.{0} (jW @Jw (jW @iO (jW @Kd.ag.injEq (jW @abJ.{0} (jW @ab3.{0} (jW @uY (jW @Jo (jW @nH (jW @Ml (jW @vx (jW @Mn (jW @Jt (jW @G7 (jW @acE.{0} (jW @acF.{0} (jW @List.take_succ_cons.{0} (jW @ac1.{0} (jW @List.drop_succ_cons.{0} (jW @List.take_nil.{0} (jW @List.drop_nil.{0} (jW @abP.{0} (jW @ab0.{0,0} (jW @List.flatMap_nil.{0,0} (jW @Option.bind_some.{0,0} (jW @ne_eq.{1} (jW @not_false_eq_true (@not_true_eq_false)))))))))))))))))))))))))))))))))))))))))))))))))))))))))))))))))))))))))))))))))))))))))))))))))))))))))))))))))))))))))))))))))))))))))))))))))))))))))))))))))))))))))))))))))))))))))))))))))))))))))))))))))))))))))))))))))))))))))))))))))))))))))))))))))))))))))))))))))))))))))))))))))))
theorem wy:kO (jW @OH (jW @DW (jW @Al (jW @Ho (jW @Jy (jW @Mt (jW @d8 (jW @wU (@cond_true.{1}))))))))):=jW @OH (jW @DW (jW @Al (jW @Ho (jW @Jy (jW @Mt (jW @d8 (jW @wU (@cond_true.{1}))))))))
theorem wz:kO (jW @Bool.false_and (jW @Bool.and_false (jW @E6 (jW @Nat.sub_zero (jW @E5 (jW @Ei (jW @beq_self_eq_true.{0} (jW @adC (jW @adD (jW @PF (jW @PG (jW @PH (jW @PI (jW @PK (jW @PM (jW @acO.{0} (jW @adc (jW @Nat.one_mul (jW @acD (jW @acR (jW @Mr (jW @Ba (jW @Ms (jW @OG (jW @Int.natCast_add (jW @Int.natCast_mul (jW @Int.natCast_one (jW @adj (@adx))))))))))))))))))))))))))))):=jW @Bool.false_and (jW @Bool.and_false (jW @E6 (jW @Nat.sub_zero (jW @E5 (jW @Ei (jW @beq_self_eq_true.{0} (jW @adC (jW @adD (jW @PF (jW @PG (jW @PH (jW @PI (jW @PK (jW @PM (jW @acO.{0} (jW @adc (jW @Nat.one_mul (jW @acD (jW @acR (jW @Mr (jW @Ba (jW @Ms (jW @OG (jW @Int.natCast_add (jW @Int.natCast_mul (jW @Int.natCast_one (jW @adj (@adx))))))))))))))))))))))))))))
theorem aj:kO (jW @V.ren.eq_1 (jW @V.ren.eq_2 (jW @V.ren.eq_3 (jW @W.ren.eq_1 (jW @W.ren.eq_2 (jW @C.ren.eq_1 (jW @C.ren.eq_2 (jW @C.ren.eq_3 (jW @C.ren.eq_4 (jW @C.ren.eq_5 (jW @C.ren.eq_6 (jW @V.ids.eq_1 (jW @V.ids.eq_2 (jW @V.ids.eq_3 (jW @W.ids.eq_1 (jW @W.ids.eq_2 (jW @C.ids.eq_1 (jW @C.ids.eq_2 (jW @C.ids.eq_3 (jW @C.ids.eq_4 (jW @C.ids.eq_5 (jW @C.ids.eq_6 (jW @Ob.ren.eq_1 (jW @Ob.ren.eq_2 (jW @Ob.ren.eq_3 (jW @Ob.ren.eq_4 (jW @Ob.ids.eq_1 (jW @Ob.ids.eq_2 (jW @Ob.ids.eq_3 (jW @Ob.ids.eq_4 (jW @adx (jW @acO.{0} (jW @Jp (jW @G5 (jW @Jq (jW @G6 (jW @id_eq.{1} (jW @adc (jW @ady (jW @adn (@acp.{0}))))))))))))))))))))))))))))))))))))))))):=jW @V.ren.eq_1 (jW @V.ren.eq_2 (jW @V.ren.eq_3 (jW @W.ren.eq_1 (jW @W.ren.eq_2 (jW @C.ren.eq_1 (jW @C.ren.eq_2 (jW @C.ren.eq_3 (jW @C.ren.eq_4 (jW @C.ren.eq_5 (jW @C.ren.eq_6 (jW @V.ids.eq_1 (jW @V.ids.eq_2 (jW @V.ids.eq_3 (jW @W.ids.eq_1 (jW @W.ids.eq_2 (jW @C.ids.eq_1 (jW @C.ids.eq_2 (jW @C.ids.eq_3 (jW @C.ids.eq_4 (jW @C.ids.eq_5 (jW @C.ids.eq_6 (jW @Ob.ren.eq_1 (jW @Ob.ren.eq_2 (jW @Ob.ren.eq_3 (jW @Ob.ren.eq_4 (jW @Ob.ids.eq_1 (jW @Ob.ids.eq_2 (jW @Ob.ids.eq_3 (jW @Ob.ids.eq_4 (jW @adx (jW @acO.{0} (jW @Jp (jW @G5 (jW @Jq (jW @G6 (jW @id_eq.{1} (jW @adc (jW @ady (jW @adn (@acp.{0}))))))))))))))))))))))))))))))))))))))))
theorem ar:kO (jW @Int.natCast_add (jW @Int.natCast_mul (jW @Int.natCast_one (@adj)))):=jW @Int.natCast_add (jW @Int.natCast_mul (jW @Int.natCast_one (@adj)))
theorem ae:kO (jW @wx (jW @wy @wz)):=jW @wx (jW @wy @wz)
theorem aM {σ:St} {p:Nat×Option Kd} {x:D} (h1:(cL σ p).bind (toW σ.h)=some x:=by simp only[ae,aa,seval,iteOmega,toNatUp]):d7 σ [p] (.w (.c (.d x))):=pI h1
theorem cI {σ:St} {p q:Nat×Option Kd} {x y:D} (h1:(cL σ p).bind (toW σ.h)=some x:=by simp only[ae,aa,seval,iteOmega,toNatUp]) (h2:(cL σ q).bind (toW σ.h)=some y:=by simp only[ae,aa,seval,iteOmega,toNatUp]):d7 σ [p,q] (.tup [.c (.d x),.c (.d y)]):=dk h1 h2
theorem cN {σ:St} {p q r:Nat×Option Kd} {x y z:D} (h1:(cL σ p).bind (toW σ.h)=some x:=by simp only[ae,aa,seval,iteOmega,toNatUp]) (h2:(cL σ q).bind (toW σ.h)=some y:=by simp only[ae,aa,seval,iteOmega,toNatUp]) (h3:(cL σ r).bind (toW σ.h)=some z:=by simp only[ae,aa,seval,iteOmega,toNatUp]):d7 σ [p,q,r] (.tup [.c (.d x),.c (.d y),.c (.d z)]):=fT h1 h2 h3
theorem fM {σ:St} {p:Nat×Option Kd} {sz:Nat} {es:List D} (h1:(cL σ p).bind (km σ.h sz)=some es:=by simp only[ae,aa,seval,iteOmega,toNatUp]):d7 σ [p] (.w (.c (.fr sz es))):=v6 h1
theorem cm {σ:St} {p q:Nat×Option Kd} {sz:Nat} {es:List D} {y:D} (h1:(cL σ p).bind (km σ.h sz)=some es:=by simp only[ae,aa,seval,iteOmega,toNatUp]) (h2:cL σ q=some (.c (.d y)):=by simp only[ae,aa,seval,iteOmega,toNatUp]):d7 σ [p,q] (.tup [.c (.fr sz es),.c (.d y)]):=v7 h1 h2
theorem sD {P:Program} {G:ah} {K:St→Prop} {r:List a9} {f:Nat→V} {h:aA} {u:Nat→Bool} {d:Option Nat} {fn:FuncId} {xs:List SX} {own:Option (Nat×Nat)} {ds:List D} {res:V} {q:Prop} (h2:aB P G fn ds res) (e:q)
    (hq:bh (eC h u (d.getD 0) own res) (dm P G d r K f)=q:=by simp only[ae,aa,seval,iteOmega,toNatUp]; rfl) (h1:dU h (xs.map (ev G f))=some ds:=by exact rfl)
    (h3:((xs.map (ev G f)).any V.hasOwn=false∨res.flat=true):=by exact .inl rfl) (hne:fn≠gX:=by decide) (hp:jy own (xs.map (ev G f)):=by first | exact ru _ | exact rJ _ _ _ | exact rv _ _ rfl):aR P G (⟨d,.call fn xs own,none⟩::r) K ⟨f,h,u⟩ :=
  sC h2 (hq ▸ e) h1 h3 hne hp
def gM (x:UInt8):UInt8:=ak (cT x 1) (if x<128 then 0 else 27)
def iW (c:Bool) (v:UInt8):UInt8:=if c then v else 0
def gG (y:UInt8) (i:Nat):Bool:=y.toNat.testBit i
def im (x:UInt8):Nat→UInt8
  | 0=>x
  | n+1=>gM (im x n)
def ip (x y:UInt8):Nat→UInt8
  | 0=>0
  | n+1=>ak (ip x y n) (iW (gG y n) (im x n))
def fu (x y:UInt8):UInt8:=ip x y 8
theorem Ft (x y:UInt8):ak x y=ak y x:=UInt8.xor_comm x y
theorem oL (x y z:UInt8):ak (ak x y) z=ak x (ak y z):=UInt8.xor_assoc x y z
theorem oR (x:UInt8):ak x 0=x:=UInt8.xor_zero
theorem Fu (x:UInt8):ak x x=0:=UInt8.xor_self
theorem RO (a b c d:UInt8):ak (ak a b) (ak c d)=ak (ak a c) (ak b d):=by
  rw[oL,← oL b,Ft b c,oL c,← oL]
def CX (f:UInt8→UInt8):Prop:=∀ a b,f (ak a b)=ak (f a) (f b)
theorem S5 (x y:UInt8) (i:Nat):gG (ak x y) i=(gG x i ^^ gG y i):=by
  unfold gG ak;rw[UInt8.toNat_xor,acL]
theorem S6 (c d:Bool) (v:UInt8):iW (c ^^ d) v=ak (iW c v) (iW d v):=by
  cases c <;> cases d <;> simp[iW,ak]
def ng (f:UInt8→UInt8) (x:UInt8):Nat→UInt8
  | 0=>0
  | n+1=>ak (ng f x n) (iW (gG x n) (f (UInt8.ofNat (2^n))))
theorem HD (f:UInt8→UInt8):∀ n,CX fun x=>ng f x n
  | 0=>fun a b=>(Fu 0).symm
  | n+1=>fun a b=>by
    show ak (ng f (ak a b) n) (iW (gG (ak a b) n) _)=_
    rw[show ng f (ak a b) n=ak (ng f a n) (ng f b n) from HD f n a b,S5,S6,RO];rfl
theorem Xs {f:UInt8→UInt8} (h:∀ x,f x=ng f x 8):CX f:=by
  intro a b;rw[h,h a,h b];exact HD f 8 a b
theorem kf {p:UInt8→Bool} (h:((List.range 256).all fun i=>p (UInt8.ofNat i))=true) (x:UInt8):p x=true:=by
  have:=abZ.1 h x.toNat (ads.2 x.toNat_lt)
  simpa using this
theorem UF:CX gM:=Xs fun x=>by
  have:=kf (p:=fun x=>gM x==ng gM x 8) (by decide +kernel) x
  simpa using this
def gH (x:UInt8):Nat→UInt8
  | 0=>1
  | n+1=>fu (gH x n) x
def eV (x:UInt8) (n:Nat):UInt8:=jK (cT x n) (cv x (8-n))
def qy (y:UInt8):UInt8:=ak (ak (ak (ak (ak y (eV y 1)) (eV y 2)) (eV y 3)) (eV y 4)) 99
def PQ (x:UInt8):UInt8 :=
  let x2:=fu x x
  let x3:=fu x2 x
  let x6:=fu x3 x3
  let x12:=fu x6 x6
  let x15:=fu x12 x3
  let x30:=fu x15 x15
  let x60:=fu x30 x30
  let x120:=fu x60 x60
  let x240:=fu x120 x120
  fu (fu x240 x12) x2
def kq:List UInt8:=(List.range 256).map fun i=>qy (PQ (UInt8.ofNat i))
def dA (x:UInt8):UInt8:=qy (PQ x)
theorem iM:kq.length=256:=by simp[kq]
theorem zI (x:UInt8):kq[x.toNat]?=some (dA x):=by
  unfold kq dA;rw[acG,adr x.toNat_lt];simp
instance:Std.Associative ak:=⟨oL⟩
instance:Std.Commutative ak:=⟨Ft⟩
def hO (x:UInt8):UInt8:=fu x 2
def qz (a b c d:UInt8):UInt8:=ak (ak (ak (ak (hO a) (hO b)) b) c) d
abbrev dQ:=Nat→UInt8
def eD (s k:dQ):dQ:=fun j=>ak (s j) (k j)
def cc (s:dQ):dQ:=fun j=>dA (s (j%4+4*((j / 4+j%4)%4)))
def ig (t:dQ):dQ:=fun j=>qz (t (4*(j / 4)+j%4)) (t (4*(j / 4)+(j%4+1)%4)) (t (4*(j / 4)+(j%4+2)%4)) (t (4*(j / 4)+(j%4+3)%4))
def OQ (s t:dQ):Prop:=∀ j,j<16→s j=t j
def lY (k:Nat→dQ) (s:dQ) (n:Nat):dQ:=if n<10 then eD (ig (cc s)) (k n) else eD (cc s) (k n)
def gC (k:Nat→dQ) (s:dQ):Nat→dQ
  | 0=>eD s (k 0)
  | n+1=>lY k (gC k s n) (n+1)
def fJ (n:Nat):UInt8:=im 1 n
theorem RP (n:Nat):fu (fJ n) 2=fJ (n+1):=by
  have:=kf (p:=fun c=>fu c 2==gM c) (by decide +kernel) (fJ n);rw[beq_iff_eq] at this;exact this
def jD (t:List UInt8) (n:Nat):List UInt8 :=
  if n%4=0 then [ak (dA (t.getD 1 0)) (fJ (n / 4)),dA (t.getD 2 0),dA (t.getD 3 0),dA (t.getD 0 0)]
  else [t.getD 0 0,t.getD 1 0,t.getD 2 0,t.getD 3 0]
def jd (l:List UInt8) (n:Nat):List UInt8 :=
  (List.range 4).map fun k=>ak (l.getD (4*n+k) 0) ((jD (l.drop (12+4*n)) n).getD k 0)
def br (key:List UInt8):Nat→List UInt8
  | 0=>key
  | n+1=>br key n++jd (br key n) n
def am (key:List UInt8):List UInt8:=br key 40
theorem uu (l:List UInt8) (n:Nat):(jd l n).length=4:=by simp[jd]
theorem jX {key:List UInt8} (h:key.length=16):∀ n,(br key n).length=16+4*n
  | 0=>h
  | n+1=>by rw[br,abJ,jX h n,uu]; omega
theorem rQ {key:List UInt8} (h:key.length=16):(am key).length=176:=jX h 40
def bM (f:dQ):List UInt8:=(List.range 16).map f
theorem gR (f:dQ):(bM f).length=16:=by simp[bM]
theorem rR (f:dQ) {j:Nat} (h:j<16):(bM f)[j]?=some (f j):=by simp[bM,h]
def aO (l:List UInt8):dQ:=fun j=>l.getD j 0
theorem Xt {l:List UInt8} (h:l.length=16):bM (aO l)=l:=by
  apply ac3;intro i;by_cases hi:i<16
  ·rw[rR _ hi,aO,abI,abF (by omega)]; rfl
  ·rw[acr (by rw[gR]; omega),acr (by omega)]
theorem uv {f g:dQ} (h:OQ f g):bM f=bM g:=aco fun j hj=>h j (ads.1 hj)
def cz (rk:List UInt8) (n:Nat):dQ:=fun j=>rk.getD (16*n+j) 0
def dt (rk b:List UInt8):List UInt8:=bM (gC (cz rk) (aO b) 10)
theorem iN (rk b:List UInt8):(dt rk b).length=16:=gR _
def j8 (key b:List UInt8):List UInt8:=dt (am key) b
def dW:List UInt8→List UInt8×Bool
  | []=>([],true)
  | x::r=>let (s,c):=dW r; if c then ((x+1)::s,x+1==0) else (x::s,false)
def kg (c:List UInt8):List UInt8:=(dW c).1
theorem zJ:∀ c,(dW c).1.length=c.length
  | []=>rfl
  | x::r=>by
    have:=zJ r;simp only[dW];split <;> simp[this]
theorem yN (c:List UInt8):(kg c).length=c.length:=zJ c
def dI (c:List UInt8):Nat→List UInt8
  | 0=>c
  | n+1=>kg (dI c n)
theorem HE (c:List UInt8):∀ n,(dI c n).length=c.length
  | 0=>rfl
  | n+1=>by rw[dI,yN,HE c n]
def om (rk c:List UInt8):Nat→List UInt8
  | 0=>[]
  | n+1=>om rk c n++dt rk (dI c n)
theorem pd (rk c:List UInt8):∀ n,(om rk c n).length=16*n
  | 0=>rfl
  | n+1=>by rw[om,abJ,pd rk c n,iN]; omega
def nh (a b:List UInt8):List UInt8:=List.zipWith ak a b
def fU (rk c b:List UInt8):List UInt8:=nh b (om rk c ((b.length+15) / 16))
theorem HF {a b:List UInt8} (h:a.length≤b.length):(nh a b).length=a.length:=by
  simp[nh]; omega
theorem rb (rk c b:List UInt8):(fU rk c b).length=b.length:=HF (by rw[pd]; omega)
theorem Ej:∀ {a b:List UInt8},a.length≤b.length→nh (nh a b) b=a
  | [],_,_=>by simp[nh]
  | x::a,[],h=>by simp at h
  | x::a,y::b,h=>by
    have h1:=Ej (a:=a) (b:=b) (by simpa using h);simp only[nh,List.zipWith_cons_cons,List.cons.injEq] at h1 ⊢;exact⟨by rw[oL,Fu,oR],h1⟩
theorem Qs (rk c b:List UInt8):fU rk c (fU rk c b)=b:=by
  unfold fU;have h:b.length≤(om rk c ((b.length+15) / 16)).length:=by rw[pd]; omega
  rw[HF h,Ej h]
def CZ (b:dQ):dQ:=fun j=>ak (ak (cT (b j) 1) (if j<15 then cv (b (j+1)) 7 else 0)) (if j=15 then iW (gG (b 0) 7) 135 else 0)
theorem XI (x y:UInt8):jK (cT x 1) (cv y 7)=ak (cT x 1) (cv y 7):=by
  have h:cv y 7=0∨cv y 7=1:=by
    have:=kf (p:=fun y=>cv y 7==0 || cv y 7==1) (by decide +kernel) y
    simpa using this
  rcases h with h | h <;> rw[h]
  ·have:=kf (p:=fun x=>jK (cT x 1) 0==ak (cT x 1) 0) (by decide +kernel) x;rw[beq_iff_eq] at this; exact this
  ·have:=kf (p:=fun x=>jK (cT x 1) 1==ak (cT x 1) 1) (by decide +kernel) x;rw[beq_iff_eq] at this; exact this
def dN (b:List UInt8):List UInt8:=if b.length=16 then bM (CZ (aO b)) else []
theorem jU {b:List UInt8} (h:b.length=16):(dN b).length=16:=by rw[dN,if_pos h,gR]
def bJ:List UInt8→List UInt8→List UInt8
  | x::a,y::b=>ak x y::bJ a b
  | a,_=>a
theorem zP (a:List UInt8):bJ a []=a:=by cases a <;> rfl
theorem gw:∀ a b:List UInt8,(bJ a b).length=a.length
  | [],_=>by simp[bJ]
  | x::a,[]=>rfl
  | x::a,y::b=>by simp[bJ,gw a b]
theorem HN:∀ (a b:List UInt8) (i:Nat),i<a.length→i<b.length→(bJ a b).getD i 0=ak (a.getD i 0) (b.getD i 0)
  | [],_,_,h,_=>by simp at h
  | x::a,[],_,_,h=>by simp at h
  | x::a,y::b,0,_,_=>rfl
  | x::a,y::b,i+1,h,g=>by
    show (bJ a b).getD i 0=_
    rw[HN a b i (by simpa using h) (by simpa using g)]; rfl
def dZ:List UInt8:=List.replicate 16 0
def gY (b:List UInt8):List UInt8:=b++List.replicate ((16-b.length%16)%16) 0
def f8 (rk:List UInt8):List UInt8:=dN (dt rk dZ)
def jk (rk:List UInt8):List UInt8:=dN (f8 rk)
def dO (rk b:List UInt8):Nat→List UInt8
  | 0=>dZ
  | n+1=>dt rk (bJ (dO rk b n) ((b.drop (16*n)).take 16))
def gz (b:List UInt8):Nat:=(b.length+15) / 16-1
def iX (rk e:List UInt8):List UInt8:=if e.length=16 then bJ e (f8 rk) else bJ (gY (e++[128])) (jk rk)
def gg (rk b:List UInt8):List UInt8:=dt rk (bJ (dO rk b (gz b)) (iX rk (b.drop (16*gz b))))
theorem kK (rk b:List UInt8):∀ n,(dO rk b n).length=16
  | 0=>by simp[dO,dZ]
  | n+1=>iN _ _
theorem rB (rk b:List UInt8):(gg rk b).length=16:=iN _ _
theorem nC (rk:List UInt8):(f8 rk).length=16:=jU (iN _ _)
theorem zQ (rk:List UInt8):(jk rk).length=16:=jU (nC _)
theorem oP {b:List UInt8} (h:b.length<16):(gY (b++[128])).length=16:=by
  simp[gY]; omega
theorem zR {rk e:List UInt8} (h:e.length≤16):(iX rk e).length=16:=by
  unfold iX;split
  ·rw[gw]; assumption
  ·rw[gw,oP (by omega)]
def fB (rk:List UInt8) (l:List (List UInt8)):Nat→List UInt8
  | 0=>gg rk dZ
  | n+1=>bJ (dN (fB rk l n)) (gg rk (l.getD n []))
def iY (rk:List UInt8) (l:List (List UInt8)):List UInt8 :=
  if l.length=0 then gg rk (List.replicate 15 0++[1])
  else
    let d:=fB rk l (l.length-1)
    let s:=l.getD (l.length-1) []
    if 16≤s.length then gg rk (s.take (s.length-16)++bJ (s.drop (s.length-16)) d)
    else gg rk (bJ (dN d) (gY (s++[128])))
theorem zS (rk:List UInt8) (l:List (List UInt8)):∀ n,(fB rk l n).length=16
  | 0=>rB _ _
  | n+1=>by rw[fB,gw,jU (zS rk l n)]
theorem Tp (rk:List UInt8) (l:List (List UInt8)):(iY rk l).length=16:=by
  unfold iY;split
  ·exact rB _ _
  ·dsimp only;split <;> exact rB _ _
end Go.Proofs.YtofonnokanoflaaGreat
