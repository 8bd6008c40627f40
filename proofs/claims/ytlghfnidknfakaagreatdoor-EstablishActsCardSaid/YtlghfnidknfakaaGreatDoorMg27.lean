/- Texts of one's own, merged: from: The plain logic (20): words of 32 bits. Own work. -/
import Derived.Laws.BitsLemmas
import Derived.Laws.Bits64
import Derived.Laws.BitsAllLaws
import Derived.Test.YtlghfnidknfakaaGreatDoorMg26
set_option linter.unusedVariables false
set_option linter.unusedSimpArgs false
namespace Go.Proofs.YtlghfnidknfakaaGreatDoor
open Go.RowKit IntWalk
def i5 (x y:UInt32):UInt32:=x ^^^ y
def ny (x y:UInt32):UInt32:=x &&& y
def lG (x y:UInt32):UInt32:=x ||| y
def bP (x y:UInt32):UInt32:=x+y
def xD (x:UInt32):UInt32:=UInt32.ofNat (4294967295-x.toNat)
def qu (x:UInt32) (n:Nat):UInt32:=UInt32.ofNat (x.toNat / 2^n)
def mq (x:UInt32) (n:Nat):UInt32:=UInt32.ofNat (x.toNat*2^n)
def jr (x:UInt32) (n:Nat):UInt32:=lG (qu x n) (mq x (32-n))
def mf (b:UInt8):UInt32:=UInt32.ofNat b.toNat
theorem word_lt (x:UInt32):x.toNat<4294967296:=x.toNat_lt
theorem RR (x y:UInt32):bits .xor .u32 (x.toNat:Int) (y.toNat:Int)=((i5 x y).toNat:Int):=by
  rw[u32_xor_nat _ _ (word_lt x) (word_lt y)]; simp[i5]
theorem RS (x y:UInt32):bits .and .u32 (x.toNat:Int) (y.toNat:Int)=((ny x y).toNat:Int):=by
  rw[u32_and_nat _ _ (word_lt x) (word_lt y)]; simp[ny]
theorem Tc (x y:UInt32):bits .or .u32 (x.toNat:Int) (y.toNat:Int)=((lG x y).toNat:Int):=by
  rw[u32_or_nat _ _ (word_lt x) (word_lt y)]; simp[lG]
theorem RU (x y:UInt32):IntKind.u32.wrap ((x.toNat:Int)+(y.toNat:Int))=((bP x y).toNat:Int):=by
  rw[IntKind.wrap_u32]; simp[bP]
theorem Td (x:UInt32) (n:Nat):(x.toNat:Int) / 2^n=((qu x n).toNat:Int):=by
  have h:x.toNat / 2^n<4294967296:=Nat.lt_of_le_of_lt (Nat.div_le_self _ _) (word_lt x);unfold qu;rw[UInt32.toNat_ofNat_of_lt' (by simpa [UInt32.size] using h)];simp
theorem Te (x:UInt32) (n:Nat):(x.toNat:Int)*2^n%4294967296=((mq x n).toNat:Int):=by
  unfold mq;simp
theorem Tf (x:UInt32):(4294967295:Int)-(x.toNat:Int)=((xD x).toNat:Int):=by
  have h:=word_lt x;unfold xD;rw[UInt32.toNat_ofNat_of_lt' (by simp[UInt32.size]; omega)];omega
theorem FC (b:UInt8):(b.toNat:Int)=((mf b).toNat:Int):=by
  have h:=b.toNat_lt;unfold mf;rw[UInt32.toNat_ofNat_of_lt' (by simp[UInt32.size]; omega)]
theorem FD (x y:UInt32):bO .xor (.w (.c (.d (wD x)))) (.w (.c (.d (wD y))))=some (wD (i5 x y)):=by
  show bF .xor .u32 (x.toNat:Int) .u32 (y.toNat:Int)=_
  rw[uB,RR]; rfl
theorem FE (x y:UInt32):bO .and (.w (.c (.d (wD x)))) (.w (.c (.d (wD y))))=some (wD (ny x y)):=by
  show bF .and .u32 (x.toNat:Int) .u32 (y.toNat:Int)=_
  rw[uA,RS]; rfl
theorem HW (x y:UInt32):bO .or (.w (.c (.d (wD x)))) (.w (.c (.d (wD y))))=some (wD (lG x y)):=by
  show bF .or .u32 (x.toNat:Int) .u32 (y.toNat:Int)=_
  rw[vm,Tc]; rfl
theorem FF (x y:UInt32):bO .add (.w (.c (.d (wD x)))) (.w (.c (.d (wD y))))=some (wD (bP x y)):=by
  show bF .add .u32 (x.toNat:Int) .u32 (y.toNat:Int)=_
  rw[uw,RU]; rfl
theorem FG (x:UInt32) (k:IntKind) (n:Int) (h:0≤n):bO .shl (.w (.c (.d (wD x)))) (.w (.c (.d (.int k n))))=some (wD (mq x (min n.toNat 32))):=by
  show bF .shl .u32 (x.toNat:Int) k n=_
  rw[uC _ _ _ _ h,IntKind.wrap_u32]
  show some (D.int .u32 ((x.toNat:Int)*2^min n.toNat 32%4294967296))=_
  rw[Te]; rfl
theorem FH (x:UInt32) (k:IntKind) (n:Int) (h:0≤n):bO .shr (.w (.c (.d (wD x)))) (.w (.c (.d (.int k n))))=some (wD (qu x (min n.toNat 32))):=by
  show bF .shr .u32 (x.toNat:Int) k n=_
  rw[uD _ _ _ _ h]
  show some (D.int .u32 ((x.toNat:Int) / 2^min n.toNat 32))=_
  rw[Td]; rfl
theorem HX (x:UInt32):lE .xor (.w (.c (.d (wD x))))=some (wD (xD x)):=by
  have:bits .xor .u32 4294967295 (x.toNat:Int)=(4294967295:Int)-(x.toNat:Int):=by
    have h:=x.toNat_lt;have h2:4294967295 ^^^ x.toNat=4294967295-x.toNat:=by
      have e:=congrArg BitVec.toNat (BitVec.allOnes_xor (x:=BitVec.ofNat 32 x.toNat));rw[BitVec.toNat_xor,BitVec.toNat_not,BitVec.toNat_allOnes,BitVec.toNat_ofNat,acZ (by omega)] at e;omega
    have h3:=u32_xor_nat 4294967295 x.toNat (by decide) h;rw[h2] at h3;have h4:((4294967295:Nat):Int)=4294967295:=rfl;rw[h4] at h3;omega
  show some (D.int .u32 (bits .xor .u32 4294967295 (x.toNat:Int)))=_
  rw[this,Tf]; rfl
theorem FI (x y:UInt32):bO .eql (.w (.c (.d (wD x)))) (.w (.c (.d (wD y))))=some (.bool (x==y)):=by
  show bF .eql .u32 (x.toNat:Int) .u32 (y.toNat:Int)=_
  rw[ux];by_cases h:x=y
  ·subst h; simp
  ·have:¬ ((x.toNat:Int)=(y.toNat:Int)):=fun e=>h (UInt32.toNat_inj.1 (by omega))
   simp[this,h]
theorem FJ (x y:UInt32):bO .neq (.w (.c (.d (wD x)))) (.w (.c (.d (wD y))))=some (.bool (x != y)):=by
  show bF .neq .u32 (x.toNat:Int) .u32 (y.toNat:Int)=_
  rw[uz];by_cases h:x=y
  ·subst h; simp
  ·have:¬ ((x.toNat:Int)=(y.toNat:Int)):=fun e=>h (UInt32.toNat_inj.1 (by omega))
   simp[this,h]
theorem HY (b:UInt8):D.int .u32 (IntKind.u32.wrap (b.toNat:Int))=wD (mf b):=by
  have h:=b.toNat_lt;rw[IntWalk.u32_in _ (by omega),FC]; rfl
def au (x y:UInt8):UInt8:=x ^^^ y
def gw (x y:UInt8):UInt8:=x &&& y
def jY (x y:UInt8):UInt8:=x ||| y
def cQ (x:UInt8) (n:Nat):UInt8:=UInt8.ofNat (x.toNat*2^n)
def bX (x:UInt8) (n:Nat):UInt8:=UInt8.ofNat (x.toNat / 2^n)
theorem fF (x:UInt8):x.toNat<256:=x.toNat_lt
theorem dp (x y:UInt8):bO .xor (.w (.c (.d (bD x)))) (.w (.c (.d (bD y))))=some (bD (au x y)):=by
  show bF .xor .u8 (x.toNat:Int) .u8 (y.toNat:Int)=_
  rw[uB,u8_xor_nat _ _ (fF x) (fF y)]; simp[au,bD]
theorem yJ (x y:UInt8):bO .and (.w (.c (.d (bD x)))) (.w (.c (.d (bD y))))=some (bD (gw x y)):=by
  show bF .and .u8 (x.toNat:Int) .u8 (y.toNat:Int)=_
  rw[uA,u8_and_nat _ _ (fF x) (fF y)]; simp[gw,bD]
theorem ry (x y:UInt8):bO .or (.w (.c (.d (bD x)))) (.w (.c (.d (bD y))))=some (bD (jY x y)):=by
  show bF .or .u8 (x.toNat:Int) .u8 (y.toNat:Int)=_
  rw[vm,u8_or_nat _ _ (fF x) (fF y)]; simp[jY,bD]
theorem RX (x:UInt8) (k:IntKind) (n:Int) (h:0≤n):bO .shl (.w (.c (.d (bD x)))) (.w (.c (.d (.int k n))))=some (bD (cQ x (min n.toNat 8))):=by
  show bF .shl .u8 (x.toNat:Int) k n=_
  rw[uC _ _ _ _ h,IntKind.wrap_u8]
  show some (D.int .u8 ((x.toNat:Int)*2^min n.toNat 8%256))=_
  have:(x.toNat:Int)*2^min n.toNat 8%256=((cQ x (min n.toNat 8)).toNat:Int):=by unfold cQ; simp
  rw[this]; rfl
theorem RY (x:UInt8) (k:IntKind) (n:Int) (h:0≤n):bO .shr (.w (.c (.d (bD x)))) (.w (.c (.d (.int k n))))=some (bD (bX x (min n.toNat 8))):=by
  show bF .shr .u8 (x.toNat:Int) k n=_
  rw[uD _ _ _ _ h]
  show some (D.int .u8 ((x.toNat:Int) / 2^min n.toNat 8))=_
  have:(x.toNat:Int) / 2^min n.toNat 8=((bX x (min n.toNat 8)).toNat:Int):=by
    have h:x.toNat / 2^min n.toNat 8<256:=Nat.lt_of_le_of_lt (Nat.div_le_self _ _) (fF x);unfold bX;rw[UInt8.toNat_ofNat_of_lt' (by simpa [UInt8.size] using h)];simp
  rw[this]; rfl
theorem RZ (x y:UInt8):bO .eql (.w (.c (.d (bD x)))) (.w (.c (.d (bD y))))=some (.bool (x==y)):=by
  show bF .eql .u8 (x.toNat:Int) .u8 (y.toNat:Int)=_
  rw[ux];by_cases h:x=y
  ·subst h; simp
  ·have:¬ ((x.toNat:Int)=(y.toNat:Int)):=fun e=>h (UInt8.toNat_inj.1 (by omega))
   simp[this,h]
theorem R0 (x y:UInt8):bO .neq (.w (.c (.d (bD x)))) (.w (.c (.d (bD y))))=some (.bool (x != y)):=by
  show bF .neq .u8 (x.toNat:Int) .u8 (y.toNat:Int)=_
  rw[uz];by_cases h:x=y
  ·subst h; simp
  ·have:¬ ((x.toNat:Int)=(y.toNat:Int)):=fun e=>h (UInt8.toNat_inj.1 (by omega))
   simp[this,h]
theorem PP (G:ah) (f:Nat→V):ev G f .u=.undef:=rfl
def OO (P:Program) (G:ah) (d:Option Nat) (r:List bd) (K:St→Prop) (f:Nat→V) (h:aK) (u:Nat→Bool) (F:Nat) (ds:List D):Prop:=aS P G r K ⟨bw f d (.w (.c (.d (.fn F ds)))),h,u⟩
theorem Ki (P:Program) (G:ah) (d:Option Nat) (r:List bd) (K:St→Prop) (f:Nat→V) (h:aK) (u:Nat→Bool) (F:Nat) (xs:List SX):aS P G (⟨d,.clos F xs,none⟩::r) K ⟨f,h,u⟩=aZ (fv (xs.map (ev G f))) (OO P G d r K f h u F):=by
  show (match (fv (xs.map (ev G f))).map fun ds=>((.w (.c (.d (.fn F ds))),h,u):R) with | some r=>_ | none=>False)=_
  cases fv (xs.map (ev G f)) <;> rfl
theorem HZ (P:Program) (G:ah) (d:Option Nat) (r:List bd) (K:St→Prop) (f:Nat→V) (h:aK) (u:Nat→Bool) (F:Nat) (ds:List D):OO P G d r K f h u F ds=aS P G r K ⟨bw f d (.w (.c (.d (.fn F ds)))),h,u⟩:=rfl
theorem FK:fv []=some []:=rfl
theorem H0 (cs:List D) (r:List V):fv (.w (.c (.rp cs))::r)=(fv r).map fun l=>.ref cs::l:=by
  simp only[fv,oE]; cases fv r <;> rfl
theorem FL (k:IntKind) (n:Int) (r:List V):fv (.w (.c (.d (.int k n)))::r)=(fv r).map fun l=>.int k n::l:=by
  simp only[fv,oE]; cases fv r <;> rfl
theorem H1 (es:List D) (r:List V):fv (.w (.c (.d (.sl es)))::r)=(fv r).map fun l=>.sl es::l:=by
  simp only[fv,oE]; cases fv r <;> rfl
def Dm (P:Program) (G:ah) (body:aN) (K:AX→St→Prop) (e:AX) (s:St):Prop:=match e with | .nrm=>bI P G body K s | _=>False
def Dn (f0:Nat→V) (I:Nat→aK→(Nat→Bool)→Prop) (Q:AX→St→Prop) (k:Nat) (e:AX) (s:St):Prop:=match e with
  | .nrm=>∃ h' u',eP s ⟨f0,h',u'⟩∧I (k+1) h' u'
  | e=>∃ h' u',eP s ⟨f0,h',u'⟩∧Q e ⟨f0,h',u'⟩
theorem H2 (P:Program) (G:ah) (body:aN) (K:AX→St→Prop) (s:St):Dm P G body K .nrm s=bI P G body K s:=rfl
def Do (st:Nat→aK×(Nat→Bool)) (k:Nat) (h:aK) (u:Nat→Bool):Prop:=(h,u)=st k
theorem Tg {P:Program} {G:ah} {Q:AX→St→Prop} {σ:St} {x:SX} {ps:List Nat} {asg body:aN} {g:Nat} {caps:List D} {xs:List (List D)} (f0:Nat→V) {f1:Nat→V} (hf:f0=f1) (st:Nat→aK×(Nat→Bool))
    (hev:ev G σ.f x=.w (.c (.d (.fn g caps)))) (hseq:Di P G g caps xs) (hlen:∀ r∈xs,r.length=ps.length) (hent:eP σ ⟨f1,(st 0).1,(st 0).2⟩) (hun:∀ t∈ps++asg.writes++body.writes,f1 t=.undef)
    (round:∀ k r,xs[k]?=some r→bI P G asg (Dm P G body (Dn f0 (Do st) Q k)) ⟨pZ f1 ps r,(st k).1,(st k).2⟩)
    (done:Q .nrm ⟨f1,(st xs.length).1,(st xs.length).2⟩):bI P G (.rangeF x ps asg body) Q σ:=by
  subst hf;refine⟨g,caps,xs,f0,(st 0).1,(st 0).2,fun k h u=>(h,u)=st k,hev,hseq,hlen,hent,hun,rfl,fun k r h u hr e=>?_,fun h u e=>?_⟩
  ·have:=round k r hr;rw[← e] at this
   have e1:(fun (e:AX) (s:St)=>match e with
       | .nrm=>bI P G body (fun e s'=>match e with
         | .nrm=>∃ h' u',eP s' ⟨f0,h',u'⟩∧(h',u')=st (k+1)
         | e=>∃ h' u',eP s' ⟨f0,h',u'⟩∧Q e ⟨f0,h',u'⟩) s
       | _=>False)=Dm P G body (Dn f0 (Do st) Q k):=by
     funext e s
     cases e with
     | nrm =>
       show bI P G body _ s=bI P G body _ s
       congr 1
     | _=>rfl
   rw[← e1] at this;exact this
  ·rw[← e] at done; exact done
theorem Ti {f0:Nat→V} {f1:Nat→V} (hf:f0=f1) {st:Nat→aK×(Nat→Bool)} {Q:AX→St→Prop} {k:Nat} {s:St} (h:eP s ⟨f1,(st (k+1)).1,(st (k+1)).2⟩):Dn f0 (Do st) Q k .nrm s:=⟨_,_,hf ▸ h,rfl⟩
def bC (x:UInt8):C:=.d (bD x)
theorem jH (l:List UInt8):(l.map bD).map C.d=l.map bC:=by rw[acS]; rfl
theorem iD:∀ l:List UInt8,fW (l.map bC)=some (l.map bD)
  | []=>rfl
  | x::l=>by
    have h:=iD l
    show fW (C.d (bD x)::l.map bC)=_
    simp only[fW,h,abd,acl]
theorem Tj {α β:Type} (f:α→β) (l cs:List α) (off:Nat):cV (l.map f) off (cs.map f)=(cV l off cs).map f:=by
  unfold cV; simp
theorem bR (l:List UInt8):(l.map bC).flatMap C.ids=[]:=by
  induction l with
  | nil=>rfl
  | cons x l ih=>rw[abd,abu,ih]; rfl
theorem ft (g:Nat→Nat) (l:List UInt8):(l.map bC).map (C.ren g)=l.map bC:=by rw[acS]; rfl
theorem Bh (x c:UInt8) (n:Int) (h:n=(c.toNat:Int)):bO .eql (.w (.c (.d (bD x)))) (.w (.c (.d (.int .u8 n))))=some (.bool (x==c)):=by subst h; exact RZ x c
theorem Bi (x c:UInt8) (n:Int) (h:n=(c.toNat:Int)):bO .neq (.w (.c (.d (bD x)))) (.w (.c (.d (.int .u8 n))))=some (.bool (x != c)):=by subst h; exact R0 x c
theorem vS (x c:UInt8) (n:Int) (h:n=(c.toNat:Int)):bO .xor (.w (.c (.d (bD x)))) (.w (.c (.d (.int .u8 n))))=some (bD (au x c)):=by subst h; exact dp x c
theorem pK (x c:UInt8) (n:Int) (h:n=(c.toNat:Int)):bO .and (.w (.c (.d (bD x)))) (.w (.c (.d (.int .u8 n))))=some (bD (gw x c)):=by subst h; exact yJ x c
theorem pL (x:UInt8) (k:IntKind) (j:Nat) (n:Int) (h:n=(j:Int)) (hj:j≤8):bO .shr (.w (.c (.d (bD x)))) (.w (.c (.d (.int k n))))=some (bD (bX x j)):=by
  subst h;rw[RY _ _ _ (ac3 j),adb,Nat.min_eq_left hj]
theorem si (x:UInt8) (k:IntKind) (j:Nat) (n:Int) (h:n=(j:Int)) (hj:j≤8):bO .shl (.w (.c (.d (bD x)))) (.w (.c (.d (.int k n))))=some (bD (cQ x j)):=by
  subst h;rw[RX _ _ _ (ac3 j),adb,Nat.min_eq_left hj]
def aR {α:Type} (n:Nat) (x:α):List α:=List.replicate n x
theorem be {α:Type} (n:Nat) (x:α):(aR n x).length=n:=abC
theorem Tk {α:Type} {n i:Nat} (x:α) (h:i<n):(aR n x)[i]?=some x:=by unfold aR; rw[acX,if_pos h]
theorem UW (n:Nat):aR n (D.int .u8 0)=(aR n (0:UInt8)).map bD:=by unfold aR; rw[List.map_replicate]; rfl
theorem rN (n:Nat):aR n (C.d (D.int .u8 0))=(aR n (0:UInt8)).map bC:=by unfold aR; rw[List.map_replicate]; rfl
set_option maxRecDepth 100000
theorem jW {a b : Prop} (l : a) (r : b) : a ∧ b := And.intro l r
theorem wx:mO (jW @wC (jW @wE (jW @wF (jW @wG (jW @wH (jW @sx (jW @A7 (jW @Ak (jW @LK (jW @LL (jW @LJ (jW @A6 (jW @Jd (jW @Or (jW @Ot (jW @Ou (jW @dv.eq_1 (jW @dv.eq_2 (jW @dv.eq_3 (jW @dv.eq_4 (jW @iE.eq_1 (jW @iE.eq_2 (jW @killAll.eq_1 (jW @killAll.eq_2 (jW @killAll.eq_3 (jW @PP (jW @Ki (jW @HZ (jW @FK (jW @H0 (jW @FL (jW @H1 (jW @H2 (jW @ef.eq_1 (jW @ef.eq_2 (jW @ef.eq_3 (jW @ef.eq_4 (jW @ef.eq_5 (jW @ef.eq_6 (jW @ef.eq_7 (jW @ef.eq_8 (jW @ef.eq_9 (jW @ef.eq_10 (jW @ef.eq_11 (jW @ef.eq_12 (jW @ef.eq_13 (jW @ef.eq_14 (jW @ef.eq_15 (jW @ef.eq_16 (jW @ef.eq_17 (jW @ef.eq_18 (jW @ef.eq_19 (jW @ef.eq_20 (jW @ef.eq_21 (jW @ef.eq_22 (jW @ef.eq_23 (jW @ef.eq_24 (jW @ef.eq_25 (jW @ef.eq_26 (jW @ef.eq_27 (jW @ef.eq_28 (jW @ef.eq_29 (jW @ef.eq_30 (jW @ef.eq_31 (jW @ef.eq_32 (jW @ef.eq_33 (jW @ef.eq_34 (jW @ef.eq_35 (jW @ef.eq_36 (jW @ef.eq_37 (jW @ef.eq_38 (jW @ef.eq_39 (jW @ef.eq_40 (jW @ef.eq_41 (jW @ef.eq_42 (jW @ef.eq_43 (jW @ef.eq_44 (jW @ef.eq_45 (jW @ef.eq_46 (jW @ef.eq_47 (jW @ef.eq_48 (jW @ef.eq_49 (jW @ef.eq_50 (jW @ef.eq_51 (jW @ef.eq_52 (jW @ef.eq_53 (jW @bound.eq_1 (jW @bound.eq_2 (jW @lF.eq_1 (jW @lF.eq_2 (jW @lF.eq_3 (jW @lF.eq_4 (jW @iu.eq_1 (jW @cO.eq_1 (jW @cO.eq_2 (jW @cO.eq_3 (jW @cO.eq_4 (jW @cO.eq_5 (jW @cO.eq_6 (jW @cO.eq_7 (jW @cO.eq_8 (jW @eN.eq_1 (jW @eN.eq_2 (jW @eN.eq_3 (jW @eN.eq_4 (jW @eN.eq_5 (jW @eN.eq_6 (jW @eN.eq_7 (jW @J5 (jW @iQ.eq_1 (jW @iQ.eq_2 (jW @parts.eq_1 (jW @parts.eq_2 (jW @elems.eq_1 (jW @elems.eq_2 (jW @gF.eq_1 (jW @PN (jW @PO (jW @MI (jW @Kh (jW @MJ (jW @OM (jW @MK (jW @ML (jW @MM (jW @MN (jW @ON (jW @MO (jW @gX.eq_1 (jW @gX.eq_2 (jW @gX.eq_3 (jW @gX.eq_4 (jW @pY.eq_1 (jW @pY.eq_2 (jW @fW.eq_1 (jW @fW.eq_2 (jW @fW.eq_3 (jW @eG.eq_1 (jW @eG.eq_2 (jW @eG.eq_3 (jW @eG.eq_4 (jW @fk.eq_1 (jW @fk.eq_2 (jW @fk.eq_3 (jW @dz.eq_1 (jW @dz.eq_2 (jW @dz.eq_3 (jW @dz.eq_4 (jW @dz.eq_5 (jW @dz.eq_6 (jW @dz.eq_7 (jW @dz.eq_8 (jW @dz.eq_9 (jW @dz.eq_10 (jW @mj.eq_1 (jW @gY.eq_1 (jW @gY.eq_2 (jW @gY.eq_3 (jW @toW.eq_1 (jW @toW.eq_2 (jW @eu.eq_1 (jW @eu.eq_2 (jW @eu.eq_3 (jW @eu.eq_4 (jW @il.eq_1 (jW @il.eq_2 (jW @dV.eq_1 (jW @dV.eq_2 (jW @dU.eq_1 (jW @dU.eq_2 (jW @dU.eq_3 (jW @ints.eq_1 (jW @ints.eq_2 (jW @ints.eq_3 (jW @eD.eq_1 (jW @eD.eq_2 (jW @eD.eq_3 (jW @lA.eq_1 (jW @lA.eq_2 (jW @lA.eq_3 (jW @W.ro.eq_1 (jW @W.ro.eq_2 (jW @C.ro.eq_1 (jW @C.ro.eq_2 (jW @V.ro.eq_1 (jW @V.ro.eq_2 (jW @V.ro.eq_3 (jW @nq.eq_1 (jW @nq.eq_2 (jW @nq.eq_3 (jW @Kd.size.eq_1 (jW @Kd.size.eq_2 (jW @Fx (jW @EH (jW @Fy (jW @HL (jW @Fz (jW @cV.eq_1 (jW @dJ.eq_1 (jW @dJ.eq_2 (jW @Nat.min_def (jW @acl.{0,0} (jW @Option.map_none.{0,0} (jW @Bool.not_true (jW @Bool.not_false (jW @decide_true (jW @decide_false (jW @Bool.and_self (jW @abd.{0,0} (jW @abo.{0,0} (jW @List.any_cons.{0} (jW @List.any_nil.{0} (jW @acj.{0} (jW @acs.{0} (jW @aci.{0} (jW @acy.{0} (jW @ab1.{0} (jW @if_true.{1} (jW @if_false.{1} (jW @true_and (jW @and_true (jW @vd.eq_1 (jW @ac3 (jW @acH.{0} (jW @abv.{0} (jW @bu (jW @eS (jW @ct (jW @ig (jW @HQ (jW @HR (jW @OH (jW @OI (jW @Kc (jW @Ke (jW @OJ (jW @FD (jW @FE (jW @HW (jW @FF (jW @FG (jW @FH (jW @FI (jW @FJ (jW @dp (jW @yJ (jW @ry (jW @HD (jW @HE (jW @HF (jW @HG (jW @HH (jW @HI (jW @HJ (jW @HK (jW @HU (jW @HV (jW @HX (jW @HY (jW @HP (jW @HM (jW @HN (jW @HO (jW @ac4.{0} (jW @List.set_cons_succ.{0} (jW @Kf (jW @iV (jW @Kd.ag.injEq (jW @aba.{0} (jW @abC.{0} (jW @uE (jW @J6 (jW @As (jW @MB (jW @Au (jW @MC (jW @Kb (jW @HC (jW @abF.{0} (jW @abz.{0} (jW @List.take_succ_cons.{0} (jW @abS.{0} (jW @List.drop_succ_cons.{0} (jW @List.take_nil.{0} (jW @List.drop_nil.{0} (jW @abm.{0} (jW @abu.{0,0} (jW @adh.{0,0} (jW @Option.bind_some.{0,0} (jW @ne_eq.{1} (jW @not_false_eq_true (@not_true_eq_false)))))))))))))))))))))))))))))))))))))))))))))))))))))))))))))))))))))))))))))))))))))))))))))))))))))))))))))))))))))))))))))))))))))))))))))))))))))))))))))))))))))))))))))))))))))))))))))))))))))))))))))))))))))))))))))))))))))))))))))))))))))))))))))))))))))))))))))))))))))))))))))))))))):=jW @wC (jW @wE (jW @wF (jW @wG (jW @wH (jW @sx (jW @A7 (jW @Ak (jW @LK (jW @LL (jW @LJ (jW @A6 (jW @Jd (jW @Or (jW @Ot (jW @Ou (jW @dv.eq_1 (jW @dv.eq_2 (jW @dv.eq_3 (jW @dv.eq_4 (jW @iE.eq_1 (jW @iE.eq_2 (jW @killAll.eq_1 (jW @killAll.eq_2 (jW @killAll.eq_3 (jW @PP (jW @Ki (jW @HZ (jW @FK (jW @H0 (jW @FL (jW @H1 (jW @H2 (jW @ef.eq_1 (jW @ef.eq_2 (jW @ef.eq_3 (jW @ef.eq_4 (jW @ef.eq_5 (jW @ef.eq_6 (jW @ef.eq_7 (jW @ef.eq_8 (jW @ef.eq_9 (jW @ef.eq_10 (jW @ef.eq_11 (jW @ef.eq_12 (jW @ef.eq_13 (jW @ef.eq_14 (jW @ef.eq_15 (jW @ef.eq_16 (jW @ef.eq_17 (jW @ef.eq_18 (jW @ef.eq_19 (jW @ef.eq_20 (jW @ef.eq_21 (jW @ef.eq_22 (jW @ef.eq_23 (jW @ef.eq_24 (jW @ef.eq_25 (jW @ef.eq_26 (jW @ef.eq_27 (jW @ef.eq_28 (jW @ef.eq_29 (jW @ef.eq_30 (jW @ef.eq_31 (jW @ef.eq_32 (jW @ef.eq_33 (jW @ef.eq_34 (jW @ef.eq_35 (jW @ef.eq_36 (jW @ef.eq_37 (jW @ef.eq_38 (jW @ef.eq_39 (jW @ef.eq_40 (jW @ef.eq_41 (jW @ef.eq_42 (jW @ef.eq_43 (jW @ef.eq_44 (jW @ef.eq_45 (jW @ef.eq_46 (jW @ef.eq_47 (jW @ef.eq_48 (jW @ef.eq_49 (jW @ef.eq_50 (jW @ef.eq_51 (jW @ef.eq_52 (jW @ef.eq_53 (jW @bound.eq_1 (jW @bound.eq_2 (jW @lF.eq_1 (jW @lF.eq_2 (jW @lF.eq_3 (jW @lF.eq_4 (jW @iu.eq_1 (jW @cO.eq_1 (jW @cO.eq_2 (jW @cO.eq_3 (jW @cO.eq_4 (jW @cO.eq_5 (jW @cO.eq_6 (jW @cO.eq_7 (jW @cO.eq_8 (jW @eN.eq_1 (jW @eN.eq_2 (jW @eN.eq_3 (jW @eN.eq_4 (jW @eN.eq_5 (jW @eN.eq_6 (jW @eN.eq_7 (jW @J5 (jW @iQ.eq_1 (jW @iQ.eq_2 (jW @parts.eq_1 (jW @parts.eq_2 (jW @elems.eq_1 (jW @elems.eq_2 (jW @gF.eq_1 (jW @PN (jW @PO (jW @MI (jW @Kh (jW @MJ (jW @OM (jW @MK (jW @ML (jW @MM (jW @MN (jW @ON (jW @MO (jW @gX.eq_1 (jW @gX.eq_2 (jW @gX.eq_3 (jW @gX.eq_4 (jW @pY.eq_1 (jW @pY.eq_2 (jW @fW.eq_1 (jW @fW.eq_2 (jW @fW.eq_3 (jW @eG.eq_1 (jW @eG.eq_2 (jW @eG.eq_3 (jW @eG.eq_4 (jW @fk.eq_1 (jW @fk.eq_2 (jW @fk.eq_3 (jW @dz.eq_1 (jW @dz.eq_2 (jW @dz.eq_3 (jW @dz.eq_4 (jW @dz.eq_5 (jW @dz.eq_6 (jW @dz.eq_7 (jW @dz.eq_8 (jW @dz.eq_9 (jW @dz.eq_10 (jW @mj.eq_1 (jW @gY.eq_1 (jW @gY.eq_2 (jW @gY.eq_3 (jW @toW.eq_1 (jW @toW.eq_2 (jW @eu.eq_1 (jW @eu.eq_2 (jW @eu.eq_3 (jW @eu.eq_4 (jW @il.eq_1 (jW @il.eq_2 (jW @dV.eq_1 (jW @dV.eq_2 (jW @dU.eq_1 (jW @dU.eq_2 (jW @dU.eq_3 (jW @ints.eq_1 (jW @ints.eq_2 (jW @ints.eq_3 (jW @eD.eq_1 (jW @eD.eq_2 (jW @eD.eq_3 (jW @lA.eq_1 (jW @lA.eq_2 (jW @lA.eq_3 (jW @W.ro.eq_1 (jW @W.ro.eq_2 (jW @C.ro.eq_1 (jW @C.ro.eq_2 (jW @V.ro.eq_1 (jW @V.ro.eq_2 (jW @V.ro.eq_3 (jW @nq.eq_1 (jW @nq.eq_2 (jW @nq.eq_3 (jW @Kd.size.eq_1 (jW @Kd.size.eq_2 (jW @Fx (jW @EH (jW @Fy (jW @HL (jW @Fz (jW @cV.eq_1 (jW @dJ.eq_1 (jW @dJ.eq_2 (jW @Nat.min_def (jW @acl.{0,0} (jW @Option.map_none.{0,0} (jW @Bool.not_true (jW @Bool.not_false (jW @decide_true (jW @decide_false (jW @Bool.and_self (jW @abd.{0,0} (jW @abo.{0,0} (jW @List.any_cons.{0} (jW @List.any_nil.{0} (jW @acj.{0} (jW @acs.{0} (jW @aci.{0} (jW @acy.{0} (jW @ab1.{0} (jW @if_true.{1} (jW @if_false.{1} (jW @true_and (jW @and_true (jW @vd.eq_1 (jW @ac3 (jW @acH.{0} (jW @abv.{0} (jW @bu (jW @eS (jW @ct (jW @ig (jW @HQ (jW @HR (jW @OH (jW @OI (jW @Kc (jW @Ke (jW @OJ (jW @FD (jW @FE (jW @HW (jW @FF (jW @FG (jW @FH (jW @FI (jW @FJ (jW @dp (jW @yJ (jW @ry (jW @HD (jW @HE (jW @HF (jW @HG (jW @HH (jW @HI (jW @HJ (jW @HK (jW @HU (jW @HV (jW @HX (jW @HY (jW @HP (jW @HM (jW @HN (jW @HO (jW @ac4.{0} (jW @List.set_cons_succ.{0} (jW @Kf (jW @iV (jW @Kd.ag.injEq (jW @aba.{0} (jW @abC.{0} (jW @uE (jW @J6 (jW @As (jW @MB (jW @Au (jW @MC (jW @Kb (jW @HC (jW @abF.{0} (jW @abz.{0} (jW @List.take_succ_cons.{0} (jW @abS.{0} (jW @List.drop_succ_cons.{0} (jW @List.take_nil.{0} (jW @List.drop_nil.{0} (jW @abm.{0} (jW @abu.{0,0} (jW @adh.{0,0} (jW @Option.bind_some.{0,0} (jW @ne_eq.{1} (jW @not_false_eq_true (@not_true_eq_false)))))))))))))))))))))))))))))))))))))))))))))))))))))))))))))))))))))))))))))))))))))))))))))))))))))))))))))))))))))))))))))))))))))))))))))))))))))))))))))))))))))))))))))))))))))))))))))))))))))))))))))))))))))))))))))))))))))))))))))))))))))))))))))))))))))))))))))))))))))))))))))))))))
theorem wy:mO (jW @OL (jW @Em (jW @Aw (jW @HS (jW @Kg (jW @MH (jW @du (jW @qa (@cond_true.{1}))))))))):=jW @OL (jW @Em (jW @Aw (jW @HS (jW @Kg (jW @MH (jW @du (jW @qa (@cond_true.{1}))))))))
theorem wz:mO (jW @Bool.false_and (jW @Bool.and_false (jW @FB (jW @Nat.sub_zero (jW @FA (jW @EI (jW @beq_self_eq_true.{0} (jW @Bool.and_true (jW @Bool.true_and (jW @PG (jW @PH (jW @PI (jW @PK (jW @PL (jW @PM (jW @acv.{0} (jW @acL (jW @Nat.one_mul (jW @ab8 (jW @ab5 (jW @ME (jW @MF (jW @MG (jW @OK (jW @acT (jW @Int.natCast_mul (jW @ac8 (jW @acu (@acx))))))))))))))))))))))))))))):=jW @Bool.false_and (jW @Bool.and_false (jW @FB (jW @Nat.sub_zero (jW @FA (jW @EI (jW @beq_self_eq_true.{0} (jW @Bool.and_true (jW @Bool.true_and (jW @PG (jW @PH (jW @PI (jW @PK (jW @PL (jW @PM (jW @acv.{0} (jW @acL (jW @Nat.one_mul (jW @ab8 (jW @ab5 (jW @ME (jW @MF (jW @MG (jW @OK (jW @acT (jW @Int.natCast_mul (jW @ac8 (jW @acu (@acx))))))))))))))))))))))))))))
theorem ai:mO (jW @V.ren.eq_1 (jW @V.ren.eq_2 (jW @V.ren.eq_3 (jW @W.ren.eq_1 (jW @W.ren.eq_2 (jW @C.ren.eq_1 (jW @C.ren.eq_2 (jW @C.ren.eq_3 (jW @C.ren.eq_4 (jW @C.ren.eq_5 (jW @C.ren.eq_6 (jW @V.ids.eq_1 (jW @V.ids.eq_2 (jW @V.ids.eq_3 (jW @W.ids.eq_1 (jW @W.ids.eq_2 (jW @C.ids.eq_1 (jW @C.ids.eq_2 (jW @C.ids.eq_3 (jW @C.ids.eq_4 (jW @C.ids.eq_5 (jW @C.ids.eq_6 (jW @Ob.ren.eq_1 (jW @Ob.ren.eq_2 (jW @Ob.ren.eq_3 (jW @Ob.ren.eq_4 (jW @Ob.ids.eq_1 (jW @Ob.ids.eq_2 (jW @Ob.ids.eq_3 (jW @Ob.ids.eq_4 (jW @acx (jW @acv.{0} (jW @J8 (jW @Hz (jW @J9 (jW @HA (jW @id_eq.{1} (jW @acL (jW @acM (jW @adg (@acG.{0}))))))))))))))))))))))))))))))))))))))))):=jW @V.ren.eq_1 (jW @V.ren.eq_2 (jW @V.ren.eq_3 (jW @W.ren.eq_1 (jW @W.ren.eq_2 (jW @C.ren.eq_1 (jW @C.ren.eq_2 (jW @C.ren.eq_3 (jW @C.ren.eq_4 (jW @C.ren.eq_5 (jW @C.ren.eq_6 (jW @V.ids.eq_1 (jW @V.ids.eq_2 (jW @V.ids.eq_3 (jW @W.ids.eq_1 (jW @W.ids.eq_2 (jW @C.ids.eq_1 (jW @C.ids.eq_2 (jW @C.ids.eq_3 (jW @C.ids.eq_4 (jW @C.ids.eq_5 (jW @C.ids.eq_6 (jW @Ob.ren.eq_1 (jW @Ob.ren.eq_2 (jW @Ob.ren.eq_3 (jW @Ob.ren.eq_4 (jW @Ob.ids.eq_1 (jW @Ob.ids.eq_2 (jW @Ob.ids.eq_3 (jW @Ob.ids.eq_4 (jW @acx (jW @acv.{0} (jW @J8 (jW @Hz (jW @J9 (jW @HA (jW @id_eq.{1} (jW @acL (jW @acM (jW @adg (@acG.{0}))))))))))))))))))))))))))))))))))))))))
theorem am:mO (jW @acT (jW @Int.natCast_mul (jW @ac8 (@acu)))):=jW @acT (jW @Int.natCast_mul (jW @ac8 (@acu)))
theorem ae:mO (jW @wx (jW @wy @wz)):=jW @wx (jW @wy @wz)
theorem aL {σ:St} {p:Nat×Option Kd} {x:D} (h1:(dJ σ p).bind (toW σ.h)=some x:=by simp only[ae,aa,seval,iteOmega,toNatUp]):fw σ [p] (.w (.c (.d x))):=mX h1
theorem aE {σ:St} {p q:Nat×Option Kd} {x y:D} (h1:(dJ σ p).bind (toW σ.h)=some x:=by simp only[ae,aa,seval,iteOmega,toNatUp]) (h2:(dJ σ q).bind (toW σ.h)=some y:=by simp only[ae,aa,seval,iteOmega,toNatUp]):fw σ [p,q] (.tup [.c (.d x),.c (.d y)]):=kA h1 h2
theorem dA {σ:St} {p:Nat×Option Kd} {sz:Nat} {es:List D} (h1:(dJ σ p).bind (kM σ.h sz)=some es:=by simp only[ae,aa,seval,iteOmega,toNatUp]):fw σ [p] (.w (.c (.fr sz es))):=vO h1
theorem bY {σ:St} {p q:Nat×Option Kd} {sz:Nat} {es:List D} {y:D} (h1:(dJ σ p).bind (kM σ.h sz)=some es:=by simp only[ae,aa,seval,iteOmega,toNatUp]) (h2:dJ σ q=some (.c (.d y)):=by simp only[ae,aa,seval,iteOmega,toNatUp]):fw σ [p,q] (.tup [.c (.fr sz es),.c (.d y)]):=vP h1 h2
theorem sD {P:Program} {G:ah} {K:St→Prop} {r:List bd} {f:Nat→V} {h:aK} {u:Nat→Bool} {d:Option Nat} {fn:FuncId} {xs:List SX} {own:Option (Nat×Nat)} {ds:List D} {res:V} {q:Prop} (h2:aw P G fn ds res) (e:q)
    (hq:aZ (eD h u (d.getD 0) own res) (cK P G d r K f)=q:=by simp only[ae,aa,seval,iteOmega,toNatUp]; rfl) (h1:dV h (xs.map (ev G f))=some ds:=by exact rfl)
    (h3:((xs.map (ev G f)).any V.hasOwn=false∨res.flat=true):=by exact .inl rfl) (hne:fn≠im:=by decide) (hp:jC own (xs.map (ev G f)):=by first | exact rq _ | exact rK _ _ _ | exact rr _ _ rfl):aS P G (⟨d,.call fn xs own,none⟩::r) K ⟨f,h,u⟩ :=
  sC h2 (hq ▸ e) h1 h3 hne hp
def gO (x:UInt8):UInt8:=au (cQ x 1) (if x<128 then 0 else 27)
def i9 (c:Bool) (v:UInt8):UInt8:=if c then v else 0
def gI (y:UInt8) (i:Nat):Bool:=y.toNat.testBit i
def iy (x:UInt8):Nat→UInt8
  | 0=>x
  | n+1=>gO (iy x n)
def iz (x y:UInt8):Nat→UInt8
  | 0=>0
  | n+1=>au (iz x y n) (i9 (gI y n) (iy x n))
def fu (x y:UInt8):UInt8:=iz x y 8
theorem FW (x y:UInt8):au x y=au y x:=UInt8.xor_comm x y
theorem o5 (x y z:UInt8):au (au x y) z=au x (au y z):=UInt8.xor_assoc x y z
theorem pb (x:UInt8):au x 0=x:=UInt8.xor_zero
theorem FX (x:UInt8):au x x=0:=UInt8.xor_self
theorem Sa (a b c d:UInt8):au (au a b) (au c d)=au (au a c) (au b d):=by
  rw[o5,← o5 b,FW b c,o5 c,← o5]
def Dp (f:UInt8→UInt8):Prop:=∀ a b,f (au a b)=au (f a) (f b)
theorem Tt (x y:UInt8) (i:Nat):gI (au x y) i=(gI x i ^^ gI y i):=by
  unfold gI au;rw[UInt8.toNat_xor,Nat.testBit_xor]
theorem Tu (c d:Bool) (v:UInt8):i9 (c ^^ d) v=au (i9 c v) (i9 d v):=by
  cases c <;> cases d <;> simp[i9,au]
def nA (f:UInt8→UInt8) (x:UInt8):Nat→UInt8
  | 0=>0
  | n+1=>au (nA f x n) (i9 (gI x n) (f (UInt8.ofNat (2^n))))
theorem Ii (f:UInt8→UInt8):∀ n,Dp fun x=>nA f x n
  | 0=>fun a b=>(FX 0).symm
  | n+1=>fun a b=>by
    show au (nA f (au a b) n) (i9 (gI (au a b) n) _)=_
    rw[show nA f (au a b) n=au (nA f a n) (nA f b n) from Ii f n a b,Tt,Tu,Sa];rfl
theorem Xx {f:UInt8→UInt8} (h:∀ x,f x=nA f x 8):Dp f:=by
  intro a b;rw[h,h a,h b];exact Ii f 8 a b
theorem kF {p:UInt8→Bool} (h:((List.range 256).all fun i=>p (UInt8.ofNat i))=true) (x:UInt8):p x=true:=by
  have:=aby.1 h x.toNat (acO.2 x.toNat_lt)
  simpa using this
theorem Vb:Dp gO:=Xx fun x=>by
  have:=kF (p:=fun x=>gO x==nA gO x 8) (by decide +kernel) x
  simpa using this
def gJ (x:UInt8):Nat→UInt8
  | 0=>1
  | n+1=>fu (gJ x n) x
def eX (x:UInt8) (n:Nat):UInt8:=jY (cQ x n) (bX x (8-n))
def qw (y:UInt8):UInt8:=au (au (au (au (au y (eX y 1)) (eX y 2)) (eX y 3)) (eX y 4)) 99
def PQ (x:UInt8):UInt8 :=
  let x2:=fu x x
  let x3:=fu x2 x
  let x6:=fu x3 x3
  let x12:=fu x6 x6
  let x15:=fu x12 x3
  let x30:=fu x15 x15
  let x60:=fu x30 x30
  let x120:=fu x60 x60
  let x240:=fu x120 x120
  fu (fu x240 x12) x2
def kN:List UInt8:=(List.range 256).map fun i=>qw (PQ (UInt8.ofNat i))
def dr (x:UInt8):UInt8:=qw (PQ x)
theorem iT:kN.length=256:=by simp[kN]
theorem zI (x:UInt8):kN[x.toNat]?=some (dr x):=by
  unfold kN dr;rw[abX,acC x.toNat_lt];simp
instance:Std.Associative au:=⟨o5⟩
instance:Std.Commutative au:=⟨FW⟩
def g9 (x:UInt8):UInt8:=fu x 2
def qx (a b c d:UInt8):UInt8:=au (au (au (au (g9 a) (g9 b)) b) c) d
abbrev dN:=Nat→UInt8
def eE (s k:dN):dN:=fun j=>au (s j) (k j)
def bS (s:dN):dN:=fun j=>dr (s (j%4+4*((j / 4+j%4)%4)))
def io (t:dN):dN:=fun j=>qx (t (4*(j / 4)+j%4)) (t (4*(j / 4)+(j%4+1)%4)) (t (4*(j / 4)+(j%4+2)%4)) (t (4*(j / 4)+(j%4+3)%4))
def OU (s t:dN):Prop:=∀ j,j<16→s j=t j
def lW (k:Nat→dN) (s:dN) (n:Nat):dN:=if n<10 then eE (io (bS s)) (k n) else eE (bS s) (k n)
def gy (k:Nat→dN) (s:dN):Nat→dN
  | 0=>eE s (k 0)
  | n+1=>lW k (gy k s n) (n+1)
def fI (n:Nat):UInt8:=iy 1 n
theorem Sb (n:Nat):fu (fI n) 2=fI (n+1):=by
  have:=kF (p:=fun c=>fu c 2==gO c) (by decide +kernel) (fI n);rw[beq_iff_eq] at this;exact this
def jI (t:List UInt8) (n:Nat):List UInt8 :=
  if n%4=0 then [au (dr (t.getD 1 0)) (fI (n / 4)),dr (t.getD 2 0),dr (t.getD 3 0),dr (t.getD 0 0)]
  else [t.getD 0 0,t.getD 1 0,t.getD 2 0,t.getD 3 0]
def jn (l:List UInt8) (n:Nat):List UInt8 :=
  (List.range 4).map fun k=>au (l.getD (4*n+k) 0) ((jI (l.drop (12+4*n)) n).getD k 0)
def br (key:List UInt8):Nat→List UInt8
  | 0=>key
  | n+1=>br key n++jn (br key n) n
def aA (key:List UInt8):List UInt8:=br key 40
theorem tY (l:List UInt8) (n:Nat):(jn l n).length=4:=by simp[jn]
theorem kr {key:List UInt8} (h:key.length=16):∀ n,(br key n).length=16+4*n
  | 0=>h
  | n+1=>by rw[br,aba,kr h n,tY]; omega
theorem rQ {key:List UInt8} (h:key.length=16):(aA key).length=176:=kr h 40
def bH (f:dN):List UInt8:=(List.range 16).map f
theorem gR (f:dN):(bH f).length=16:=by simp[bH]
theorem rR (f:dN) {j:Nat} (h:j<16):(bH f)[j]?=some (f j):=by simp[bH,h]
def aP (l:List UInt8):dN:=fun j=>l.getD j 0
theorem Xy {l:List UInt8} (h:l.length=16):bH (aP l)=l:=by
  apply acf;intro i;by_cases hi:i<16
  ·rw[rR _ hi,aP,abb,aa7 (by omega)]; rfl
  ·rw[abV (by rw[gR]; omega),abV (by omega)]
theorem tZ {f g:dN} (h:OU f g):bH f=bH g:=ab0 fun j hj=>h j (acO.1 hj)
def cw (rk:List UInt8) (n:Nat):dN:=fun j=>rk.getD (16*n+j) 0
def dh (rk b:List UInt8):List UInt8:=bH (gy (cw rk) (aP b) 10)
theorem iU (rk b:List UInt8):(dh rk b).length=16:=gR _
def kB (key b:List UInt8):List UInt8:=dh (aA key) b
def dW:List UInt8→List UInt8×Bool
  | []=>([],true)
  | x::r=>let (s,c):=dW r; if c then ((x+1)::s,x+1==0) else (x::s,false)
def kG (c:List UInt8):List UInt8:=(dW c).1
theorem zJ:∀ c,(dW c).1.length=c.length
  | []=>rfl
  | x::r=>by
    have:=zJ r;simp only[dW];split <;> simp[this]
theorem yR (c:List UInt8):(kG c).length=c.length:=zJ c
def dw (c:List UInt8):Nat→List UInt8
  | 0=>c
  | n+1=>kG (dw c n)
theorem Ij (c:List UInt8):∀ n,(dw c n).length=c.length
  | 0=>rfl
  | n+1=>by rw[dw,yR,Ij c n]
def oJ (rk c:List UInt8):Nat→List UInt8
  | 0=>[]
  | n+1=>oJ rk c n++dh rk (dw c n)
theorem pm (rk c:List UInt8):∀ n,(oJ rk c n).length=16*n
  | 0=>rfl
  | n+1=>by rw[oJ,aba,pm rk c n,iU]; omega
def nB (a b:List UInt8):List UInt8:=List.zipWith au a b
def fS (rk c b:List UInt8):List UInt8:=nB b (oJ rk c ((b.length+15) / 16))
theorem Ik {a b:List UInt8} (h:a.length≤b.length):(nB a b).length=a.length:=by
  simp[nB]; omega
theorem q8 (rk c b:List UInt8):(fS rk c b).length=b.length:=Ik (by rw[pm]; omega)
theorem EJ:∀ {a b:List UInt8},a.length≤b.length→nB (nB a b) b=a
  | [],_,_=>by simp[nB]
  | x::a,[],h=>by simp at h
  | x::a,y::b,h=>by
    have h1:=EJ (a:=a) (b:=b) (by simpa using h);simp only[nB,List.zipWith_cons_cons,List.cons.injEq] at h1 ⊢;exact⟨by rw[o5,FX,pb],h1⟩
theorem QD (rk c b:List UInt8):fS rk c (fS rk c b)=b:=by
  unfold fS;have h:b.length≤(oJ rk c ((b.length+15) / 16)).length:=by rw[pm]; omega
  rw[Ik h,EJ h]
def Dr (b:dN):dN:=fun j=>au (au (cQ (b j) 1) (if j<15 then bX (b (j+1)) 7 else 0)) (if j=15 then i9 (gI (b 0) 7) 135 else 0)
theorem XM (x y:UInt8):jY (cQ x 1) (bX y 7)=au (cQ x 1) (bX y 7):=by
  have h:bX y 7=0∨bX y 7=1:=by
    have:=kF (p:=fun y=>bX y 7==0 || bX y 7==1) (by decide +kernel) y
    simpa using this
  rcases h with h | h <;> rw[h]
  ·have:=kF (p:=fun x=>jY (cQ x 1) 0==au (cQ x 1) 0) (by decide +kernel) x;rw[beq_iff_eq] at this; exact this
  ·have:=kF (p:=fun x=>jY (cQ x 1) 1==au (cQ x 1) 1) (by decide +kernel) x;rw[beq_iff_eq] at this; exact this
def dK (b:List UInt8):List UInt8:=if b.length=16 then bH (Dr (aP b)) else []
theorem ki {b:List UInt8} (h:b.length=16):(dK b).length=16:=by rw[dK,if_pos h,gR]
def bG:List UInt8→List UInt8→List UInt8
  | x::a,y::b=>au x y::bG a b
  | a,_=>a
theorem zP (a:List UInt8):bG a []=a:=by cases a <;> rfl
theorem gm:∀ a b:List UInt8,(bG a b).length=a.length
  | [],_=>by simp[bG]
  | x::a,[]=>rfl
  | x::a,y::b=>by simp[bG,gm a b]
theorem It:∀ (a b:List UInt8) (i:Nat),i<a.length→i<b.length→(bG a b).getD i 0=au (a.getD i 0) (b.getD i 0)
  | [],_,_,h,_=>by simp at h
  | x::a,[],_,_,h=>by simp at h
  | x::a,y::b,0,_,_=>rfl
  | x::a,y::b,i+1,h,g=>by
    show (bG a b).getD i 0=_
    rw[It a b i (by simpa using h) (by simpa using g)]; rfl
def ee:List UInt8:=List.replicate 16 0
def gZ (b:List UInt8):List UInt8:=b++List.replicate ((16-b.length%16)%16) 0
def fZ (rk:List UInt8):List UInt8:=dK (dh rk ee)
def jt (rk:List UInt8):List UInt8:=dK (fZ rk)
def dL (rk b:List UInt8):Nat→List UInt8
  | 0=>ee
  | n+1=>dh rk (bG (dL rk b n) ((b.drop (16*n)).take 16))
def gq (b:List UInt8):Nat:=(b.length+15) / 16-1
def ja (rk e:List UInt8):List UInt8:=if e.length=16 then bG e (fZ rk) else bG (gZ (e++[128])) (jt rk)
def f8 (rk b:List UInt8):List UInt8:=dh rk (bG (dL rk b (gq b)) (ja rk (b.drop (16*gq b))))
theorem k9 (rk b:List UInt8):∀ n,(dL rk b n).length=16
  | 0=>by simp[dL,ee]
  | n+1=>iU _ _
theorem rB (rk b:List UInt8):(f8 rk b).length=16:=iU _ _
theorem nV (rk:List UInt8):(fZ rk).length=16:=ki (iU _ _)
theorem zQ (rk:List UInt8):(jt rk).length=16:=ki (nV _)
theorem o6 {b:List UInt8} (h:b.length<16):(gZ (b++[128])).length=16:=by
  simp[gZ]; omega
theorem zR {rk e:List UInt8} (h:e.length≤16):(ja rk e).length=16:=by
  unfold ja;split
  ·rw[gm]; assumption
  ·rw[gm,o6 (by omega)]
def fB (rk:List UInt8) (l:List (List UInt8)):Nat→List UInt8
  | 0=>f8 rk ee
  | n+1=>bG (dK (fB rk l n)) (f8 rk (l.getD n []))
def jb (rk:List UInt8) (l:List (List UInt8)):List UInt8 :=
  if l.length=0 then f8 rk (List.replicate 15 0++[1])
  else
    let d:=fB rk l (l.length-1)
    let s:=l.getD (l.length-1) []
    if 16≤s.length then f8 rk (s.take (s.length-16)++bG (s.drop (s.length-16)) d)
    else f8 rk (bG (dK d) (gZ (s++[128])))
theorem zS (rk:List UInt8) (l:List (List UInt8)):∀ n,(fB rk l n).length=16
  | 0=>rB _ _
  | n+1=>by rw[fB,gm,ki (zS rk l n)]
theorem TM (rk:List UInt8) (l:List (List UInt8)):(jb rk l).length=16:=by
  unfold jb;split
  ·exact rB _ _
  ·dsimp only;split <;> exact rB _ _
theorem Q9 {σ:St} {p q:Nat×Option Kd} {id sz n s:Nat} {full:List D} {y:D} (h1:dJ σ p=some (.c (.own id sz 0 n))) (e:σ.h id=some (.row s full)) (hn:n≤full.length) (h2:dJ σ q=some (.c (.d y))):fw σ [p,q] (.tup [.c (.fr sz (full.take n)),.c (.d y)]):=by
  refine⟨[.c (.own id sz 0 n),.c (.d y)],by simp[a6,h1,h2],.inl ⟨by simp[W.ids,C.ids],.cons ⟨rfl,rfl,?_⟩ (.cons ?_ .nil)⟩⟩
  ·rw[e];exact⟨by simp[dU,hn],trivial⟩
  ·cases y <;> rfl

theorem jM {a b : Prop} (l : a) (r : b) : a ∧ b := And.intro l r
section
variable {P:Program} {G:ah} {K:St→Prop} {r:List bd} {f:Nat→V} {h:aK} {u:Nat→Bool} {d:Option Nat} {x y t:SX}
def Qj (P:Program) (G:ah) (d:Option Nat) (r:List bd) (K:St→Prop) (f:Nat→V) (h:aK) (u:Nat→Bool) (q:IntKind) (_:IntKind×Int):Prop:=aZ (dc h u (d.getD 0) (.mp q []) (.mp (8*d.getD 0))) (cK P G d r K f)
theorem Ln (q:IntKind):aS P G (⟨d,.mkMp q none,none⟩::r) K ⟨f,h,u⟩=aZ (dc h u (d.getD 0) (.mp q []) (.mp (8*d.getD 0))) (cK P G d r K f):=by rw[bM _ rfl]; rfl
theorem I0 (q:IntKind):aS P G (⟨d,.mkMp q (some x),none⟩::r) K ⟨f,h,u⟩=aZ (eF (ev G f x)) (Qj P G d r K f h u q):=by
  rw[bM _ rfl]
  show aZ (if (eF (ev G f x)).isSome=true then _ else none) _=_
  cases eF (ev G f x) <;> rfl
theorem NY (q:IntKind) (p:IntKind×Int):Qj P G d r K f h u q p=aZ (dc h u (d.getD 0) (.mp q []) (.mp (8*d.getD 0))) (cK P G d r K f):=rfl
theorem I1 (q:IntKind) (z:D) (co:Bool):aS P G (⟨d,.mpGet q z co x y,none⟩::r) K ⟨f,h,u⟩=aZ (ik h q z co (ev G f x) (eF (ev G f y))) (DJ P G d r K f h u):=by
  rw[bM _ rfl]; exact fO _ _ _
theorem I2 (q:IntKind):aS P G (⟨d,.mpSet q x y t,none⟩::r) K ⟨f,h,u⟩=aZ (qo h q (qm (ev G f x)) (eF (ev G f y)) (qn (ev G f t))) (xO P G d r K f u):=by
  rw[bM _ rfl]; exact fO _ _ _
def goT (P:Program) (G:ah) (d:Option Nat) (r:List bd) (K:St→Prop) (f:Nat→V) (h:aK) (u:Nat→Bool) (p:IntKind×List (Int×D)):Prop:=aZ (dc h u (d.getD 0) (.it p.1 p.2 none) (.ptr (8*d.getD 0) 1 0 0)) (cK P G d r K f)
theorem Gn:aS P G (⟨d,.mpIter x,none⟩::r) K ⟨f,h,u⟩=aZ (pX (ev G f x)) (goT P G d r K f h u):=by
  rw[bM _ rfl]
  show aZ (match pX (ev G f x) with | some p=>_ | none=>none) _=_
  cases pX (ev G f x) <;> rfl
theorem NZ (q:IntKind) (es:List (Int×D)):goT P G d r K f h u (q,es)=aZ (dc h u (d.getD 0) (.it q es none) (.ptr (8*d.getD 0) 1 0 0)) (cK P G d r K f):=rfl
theorem I3:aS P G (⟨d,.mpEnt x,none⟩::r) K ⟨f,h,u⟩=aZ (nm h (ev G f x)) (DJ P G d r K f h u):=by
  rw[bM _ rfl]; exact fO _ _ _
theorem Lo (id s:Nat):nm h (.w (.c (.ptr id s 0 0)))=xu (h id):=rfl
theorem Lp (q:IntKind) (l:List (Int×D)) (p:Int×D):xu (some (.it q l (some p)))=some (.tup [.c (.d (.int q p.1)),.c (.d p.2)]):=rfl
theorem Lr (q:IntKind) (es:List (Int×D)):pX (.w (.c (.d (.mp q es))))=some (q,es):=rfl
theorem Ls (id:Nat):qm (.w (.c (.mp id)))=some id:=rfl
theorem N0 (x:C):qn (.w (.c x))=some x:=rfl
def xk (q:IntKind) (z:D) (co:Bool) (n:Int):Option Ob→Option V
  | some (.mp q' es)=>if q'=q then some (jP co (ba es n) (zC z)) else none
  | _=>none
theorem Lt (q:IntKind) (z:D) (co:Bool) (id:Nat) (n:Int):ik h q z co (.w (.c (.mp id))) (some (q,n))=xk q z co n (h id):=by
  unfold ik xk;simp only[true_and];rfl
theorem I4 (q:IntKind) (z:D) (co:Bool) (n:Int) (es:List (Int×C)):xk q z co n (some (.mp q es))=some (jP co (ba es n) (zC z)):=by simp[xk]
theorem Lu (q:IntKind) (z:D) (es:List (Int×D)) (n:Int):ik h q z false (.w (.c (.d (.mp q es)))) (some (q,n))=some (.w (.c (.d ((ba es n).getD z)))):=by
  unfold ik jP;rcases hl:ba es n with _ | v <;> simp[hl]
theorem Lv (q:IntKind) (z:D) (es:List (Int×D)) (n:Int):ik h q z true (.w (.c (.d (.mp q es)))) (some (q,n))=some (.tup [.c (.d ((ba es n).getD z)),.c (.d (.bool (ba es n).isSome))]):=by
  unfold ik jP;rcases hl:ba es n with _ | v <;> simp[hl]
theorem N2 (o:Option C) (z:C):jP false o z=.w (.c (o.getD z)):=rfl
theorem N3 (o:Option C) (z:C):jP true o z=.tup [.c (o.getD z),.c (.d (.bool o.isSome))]:=rfl
theorem N5:zC (.sl [])=.nil:=rfl
theorem Lw (b:Bool):zC (.bool b)=.d (.bool b):=rfl
theorem N6 (k:IntKind) (n:Int):zC (.int k n)=.d (.int k n):=rfl
def xm (h:aK) (q:IntKind) (id:Nat) (n:Int) (d:C):Option Ob→Option aK
  | some (.mp q' es)=>if q'=q then some (upd h id (some (.mp q (cu es n d)))) else none
  | _=>none
theorem Lx (q:IntKind) (id:Nat) (n:Int) (d:C):qo h q (some id) (some (q,n)) (some d)=xm h q id n d (h id):=by
  unfold qo xm;simp only[true_and];rfl
theorem I5 (q:IntKind) (id:Nat) (n:Int) (d:C) (es:List (Int×C)):xm h q id n d (some (.mp q es))=some (upd h id (some (.mp q (cu es n d)))):=by simp[xm]
theorem N7 (id:Nat):(C.mp id).ids=[id]:=rfl
theorem N8 (g:Nat→Nat) (id:Nat):(C.mp id).ren g=.mp (g id):=rfl
def iR (es:List (Int×D)):List (Int×C):=es.map fun p=>(p.1,.d p.2)
theorem Ly:iR []=[]:=rfl
theorem Lz (es:List (Int×D)) (n:Int):ba (iR es) n=(ba es n).map C.d:=by
  induction es with
  | nil=>rfl
  | cons p r ih =>
    obtain⟨y,x⟩:=p;by_cases e:y=n
    ·subst e; simp[ba,iR]
    ·have k1:ba ((y,x)::r) n=ba r n:=by unfold ba; rw[ab6 (by simpa using e)]
     have k2:ba (iR ((y,x)::r)) n=ba (iR r) n:=by unfold ba iR; rw[abd,ab6 (by simpa using e)]
     rw[k1,k2,ih]
theorem I6 (es:List (Int×D)) (n:Int) (d:D):cu (iR es) n (.d d)=iR (cu es n d):=by
  induction es with
  | nil=>rfl
  | cons p r ih =>
    obtain⟨y,x⟩:=p;simp only[iR,abd,cu] at *
    split
    ·rfl
    ·rw[ih]; rfl
theorem A0 (es:List (Int×D)):(iR es).flatMap (fun p=>p.2.ids)=[]:=by
  induction es with
  | nil=>rfl
  | cons p r ih=>simp only[iR,abd,abu] at *; rw[ih]; rfl
theorem LA (g:Nat→Nat) (es:List (Int×D)):(iR es).map (fun p=>(p.1,p.2.ren g))=iR es:=by
  induction es with
  | nil=>rfl
  | cons p r ih=>simp only[iR,abd] at *; rw[ih]; rfl
theorem dD:mO (jM @Ln (jM @I0 (jM @NY (jM @I1 (jM @I2 (jM @Gn (jM @NZ (jM @I3 (jM @Lo (jM @Lp (jM @Lr (jM @Ls (jM @N0 (jM @Lt (jM @I4 (jM @Lu (jM @Lv (jM @N2 (jM @N3 (jM @N5 (jM @Lw (jM @N6 (jM @Lx (jM @I5 (jM @N7 (jM @N8 (jM @Ly (jM @Lz (jM @I6 (jM @A0 (jM @LA (jM @abQ.{0} (@abY.{0}))))))))))))))))))))))))))))))))) :=
  jM @Ln (jM @I0 (jM @NY (jM @I1 (jM @I2 (jM @Gn (jM @NZ (jM @I3 (jM @Lo (jM @Lp (jM @Lr (jM @Ls (jM @N0 (jM @Lt (jM @I4 (jM @Lu (jM @Lv (jM @N2 (jM @N3 (jM @N5 (jM @Lw (jM @N6 (jM @Lx (jM @I5 (jM @N7 (jM @N8 (jM @Ly (jM @Lz (jM @I6 (jM @A0 (jM @LA (jM @abQ.{0} (@abY.{0}))))))))))))))))))))))))))))))))
end
theorem N9 {P:Program} {G:ah} {Q:AX→St→Prop} {f:Nat→V} {h:aK} {u:Nat→Bool} {dn:Nat} {x:SX} {rest:List bd} {id s:Nat} {q:IntKind} {left:List (Int×D)} {last:Option (Int×D)} (hx:ev G f x=.w (.c (.ptr id s 0 0))) (hi:h id=some (.it q left last))
    (k1:left=[]→aS P G rest (Q .nrm) ⟨upd f dn (.tup [.c (.d (.bool false))]),h,u⟩)
    (k2:∀ j p,left[j]?=some p→aS P G rest (Q .nrm) ⟨upd f dn (.tup [.c (.d (.bool true)),.c (.d (.int q p.1)),.c (.d p.2)]),upd h id (some (.it q (left.eraseIdx j) (some p))),u⟩):bI P G (.nextM dn x rest) Q ⟨f,h,u⟩:=by
  show vK _ dn _ (ev G f x)
  rw[hx]
  show (match h id with | some (.it q left _)=>_ | _=>False)
  rw[hi];exact⟨k1,k2⟩
theorem Zo {P:Program} {G:ah} {Q:AX→St→Prop} {f:Nat→V} {h:aK} {u:Nat→Bool} {t id:Nat} {c:aN} {q:IntKind} {es:List (Int×C)} {ds:List (Int×D)} (hx:f t=.w (.c (.mp id))) (hi:h id=some (.mp q es)) (hd:me h es=some ds)
    (k:bI P G c Q ⟨upd f t (vd (.mp q ds)),upd (killAll h (es.map (·.2))) id none,u⟩):bI P G (.ghost t c) Q ⟨f,h,u⟩:=by
  show (match qt ⟨f,h,u⟩ t with | some τ=>bI P G c Q τ | none=>False)
  have:qt ⟨f,h,u⟩ t=some ⟨upd f t (vd (.mp q ds)),upd (killAll h (es.map (·.2))) id none,u⟩:=by
    unfold qt;simp only[hx,hi,hd,acl]
  rw[this];exact k
theorem WF {α:Type} (x:Int):ba ([]:List (Int×α)) x=none:=rfl
theorem LB {α:Type} (es:List (Int×α)) (x y:Int) (v:α):ba (cu es x v) y=if y=x then some v else ba es y:=by
  induction es with
  | nil =>
    by_cases h:y=x
    ·subst h; simp[cu,ba]
    ·rw[if_neg h];unfold ba cu;rw[ab6 (by simpa using fun e=>h e.symm)]
  | cons p r ih =>
    obtain⟨k,w⟩:=p;simp only[cu];by_cases hk:k=x
    ·subst hk;rw[if_pos rfl];by_cases h:y=k
     ·subst h; simp[ba]
     ·rw[if_neg h];unfold ba;rw[ab6 (by simpa using fun e=>h e.symm),ab6 (by simpa using fun e=>h e.symm)]
    ·rw[if_neg hk];by_cases h:y=k
     ·subst h;rw[if_neg hk];simp[ba]
     ·have e1:ba ((k,w)::cu r x v) y=ba (cu r x v) y:=by
        unfold ba; rw[ab6 (by simpa using fun e=>h e.symm)]
      have e2:ba ((k,w)::r) y=ba r y:=by
        unfold ba; rw[ab6 (by simpa using fun e=>h e.symm)]
      rw[e1,e2,ih]
end Go.Proofs.YtlghfnidknfakaaGreatDoor
