/- Texts of one's own, merged: from: The plain logic (20): words of 32 bits. Own work. -/
import Derived.Laws.BitsLemmas
import Derived.Laws.Bits64
import Derived.Laws.BitsAllLaws
import Derived.Test.YtlghfnidknfakaaGreatDoorMg46
set_option linter.unusedVariables false
set_option linter.unusedSimpArgs false
namespace Go.Proofs.YtlghfnidknfakaaGreatDoor
open Go.RowKit IntWalk
def cY (x y:UInt32):UInt32:=x ^^^ y
def kf (x y:UInt32):UInt32:=x &&& y
def iC (x y:UInt32):UInt32:=x ||| y
def bg (x y:UInt32):UInt32:=x+y
def pY (x:UInt32):UInt32:=UInt32.ofNat (4294967295-x.toNat)
def lk (x:UInt32) (n:Nat):UInt32:=UInt32.ofNat (x.toNat / 2^n)
def kg (x:UInt32) (n:Nat):UInt32:=UInt32.ofNat (x.toNat*2^n)
def gE (x:UInt32) (n:Nat):UInt32:=iC (lk x n) (kg x (32-n))
def kW (b:UInt8):UInt32:=UInt32.ofNat b.toNat
theorem word_lt (x:UInt32):x.toNat<4294967296:=x.toNat_lt
theorem Qg (x y:UInt32):bits .xor .u32 (x.toNat:Int) (y.toNat:Int)=((cY x y).toNat:Int):=by
  rw[u32_xor_nat _ _ (word_lt x) (word_lt y)]; simp[cY]
theorem Qh (x y:UInt32):bits .and .u32 (x.toNat:Int) (y.toNat:Int)=((kf x y).toNat:Int):=by
  rw[u32_and_nat _ _ (word_lt x) (word_lt y)]; simp[kf]
theorem RQ (x y:UInt32):bits .or .u32 (x.toNat:Int) (y.toNat:Int)=((iC x y).toNat:Int):=by
  rw[u32_or_nat _ _ (word_lt x) (word_lt y)]; simp[iC]
theorem Qi (x y:UInt32):IntKind.u32.wrap ((x.toNat:Int)+(y.toNat:Int))=((bg x y).toNat:Int):=by
  rw[IntKind.wrap_u32]; simp[bg]
theorem RR (x:UInt32) (n:Nat):(x.toNat:Int) / 2^n=((lk x n).toNat:Int):=by
  have h:x.toNat / 2^n<4294967296:=acy (Nat.div_le_self _ _) (word_lt x);unfold lk;rw[UInt32.toNat_ofNat_of_lt' (by simpa [UInt32.size] using h)];simp
theorem RS (x:UInt32) (n:Nat):(x.toNat:Int)*2^n%4294967296=((kg x n).toNat:Int):=by
  unfold kg;simp
theorem RU (x:UInt32):(4294967295:Int)-(x.toNat:Int)=((pY x).toNat:Int):=by
  have h:=word_lt x;unfold pY;rw[UInt32.toNat_ofNat_of_lt' (by simp[UInt32.size]; omega)];omega
theorem Eo (b:UInt8):(b.toNat:Int)=((kW b).toNat:Int):=by
  have h:=b.toNat_lt;unfold kW;rw[UInt32.toNat_ofNat_of_lt' (by simp[UInt32.size]; omega)]
theorem Ep (x y:UInt32):bN .xor (.w (.c (.d (wD x)))) (.w (.c (.d (wD y))))=some (wD (cY x y)):=by
  show bB .xor .u32 (x.toNat:Int) .u32 (y.toNat:Int)=_
  rw[tv,Qg]; rfl
theorem Eq (x y:UInt32):bN .and (.w (.c (.d (wD x)))) (.w (.c (.d (wD y))))=some (wD (kf x y)):=by
  show bB .and .u32 (x.toNat:Int) .u32 (y.toNat:Int)=_
  rw[tu,Qh]; rfl
theorem GI (x y:UInt32):bN .or (.w (.c (.d (wD x)))) (.w (.c (.d (wD y))))=some (wD (iC x y)):=by
  show bB .or .u32 (x.toNat:Int) .u32 (y.toNat:Int)=_
  rw[ug,RQ]; rfl
theorem Er (x y:UInt32):bN .add (.w (.c (.d (wD x)))) (.w (.c (.d (wD y))))=some (wD (bg x y)):=by
  show bB .add .u32 (x.toNat:Int) .u32 (y.toNat:Int)=_
  rw[tm,Qi]; rfl
theorem Es (x:UInt32) (k:IntKind) (n:Int) (h:0≤n):bN .shl (.w (.c (.d (wD x)))) (.w (.c (.d (.int k n))))=some (wD (kg x (min n.toNat 32))):=by
  show bB .shl .u32 (x.toNat:Int) k n=_
  rw[tw _ _ _ _ h,IntKind.wrap_u32]
  show some (D.int .u32 ((x.toNat:Int)*2^min n.toNat 32%4294967296))=_
  rw[RS]; rfl
theorem Et (x:UInt32) (k:IntKind) (n:Int) (h:0≤n):bN .shr (.w (.c (.d (wD x)))) (.w (.c (.d (.int k n))))=some (wD (lk x (min n.toNat 32))):=by
  show bB .shr .u32 (x.toNat:Int) k n=_
  rw[tx _ _ _ _ h]
  show some (D.int .u32 ((x.toNat:Int) / 2^min n.toNat 32))=_
  rw[RR]; rfl
theorem GJ (x:UInt32):kq .xor (.w (.c (.d (wD x))))=some (wD (pY x)):=by
  have:bits .xor .u32 4294967295 (x.toNat:Int)=(4294967295:Int)-(x.toNat:Int):=by
    have h:=x.toNat_lt;have h2:4294967295 ^^^ x.toNat=4294967295-x.toNat:=by
      have e:=congrArg BitVec.toNat (BitVec.allOnes_xor (x:=BitVec.ofNat 32 x.toNat));rw[BitVec.toNat_xor,BitVec.toNat_not,BitVec.toNat_allOnes,BitVec.toNat_ofNat,Nat.mod_eq_of_lt (by omega)] at e;omega
    have h3:=u32_xor_nat 4294967295 x.toNat (by decide) h;rw[h2] at h3;have h4:((4294967295:Nat):Int)=4294967295:=rfl;rw[h4] at h3;omega
  show some (D.int .u32 (bits .xor .u32 4294967295 (x.toNat:Int)))=_
  rw[this,RU]; rfl
theorem Eu (x y:UInt32):bN .eql (.w (.c (.d (wD x)))) (.w (.c (.d (wD y))))=some (.bool (x==y)):=by
  show bB .eql .u32 (x.toNat:Int) .u32 (y.toNat:Int)=_
  rw[tp];by_cases h:x=y
  ·subst h; simp
  ·have:¬ ((x.toNat:Int)=(y.toNat:Int)):=fun e=>h (UInt32.toNat_inj.1 (by omega))
   simp[this,h]
theorem Ev (x y:UInt32):bN .neq (.w (.c (.d (wD x)))) (.w (.c (.d (wD y))))=some (.bool (x != y)):=by
  show bB .neq .u32 (x.toNat:Int) .u32 (y.toNat:Int)=_
  rw[tq];by_cases h:x=y
  ·subst h; simp
  ·have:¬ ((x.toNat:Int)=(y.toNat:Int)):=fun e=>h (UInt32.toNat_inj.1 (by omega))
   simp[this,h]
theorem GK (b:UInt8):D.int .u32 (IntKind.u32.wrap (b.toNat:Int))=wD (kW b):=by
  have h:=b.toNat_lt;rw[IntWalk.u32_in _ (by omega),Eo]; rfl
def ak (x y:UInt8):UInt8:=x ^^^ y
def mz (x y:UInt8):UInt8:=x &&& y
def kv (x y:UInt8):UInt8:=x ||| y
def ew (x:UInt8) (n:Nat):UInt8:=UInt8.ofNat (x.toNat*2^n)
def ez (x:UInt8) (n:Nat):UInt8:=UInt8.ofNat (x.toNat / 2^n)
theorem lW (x:UInt8):x.toNat<256:=x.toNat_lt
theorem gR (x y:UInt8):bN .xor (.w (.c (.d (bD x)))) (.w (.c (.d (bD y))))=some (bD (ak x y)):=by
  show bB .xor .u8 (x.toNat:Int) .u8 (y.toNat:Int)=_
  rw[tv,u8_xor_nat _ _ (lW x) (lW y)]; simp[ak,bD]
theorem xZ (x y:UInt8):bN .and (.w (.c (.d (bD x)))) (.w (.c (.d (bD y))))=some (bD (mz x y)):=by
  show bB .and .u8 (x.toNat:Int) .u8 (y.toNat:Int)=_
  rw[tu,u8_and_nat _ _ (lW x) (lW y)]; simp[mz,bD]
theorem yK (x y:UInt8):bN .or (.w (.c (.d (bD x)))) (.w (.c (.d (bD y))))=some (bD (kv x y)):=by
  show bB .or .u8 (x.toNat:Int) .u8 (y.toNat:Int)=_
  rw[ug,u8_or_nat _ _ (lW x) (lW y)]; simp[kv,bD]
theorem Qj (x:UInt8) (k:IntKind) (n:Int) (h:0≤n):bN .shl (.w (.c (.d (bD x)))) (.w (.c (.d (.int k n))))=some (bD (ew x (min n.toNat 8))):=by
  show bB .shl .u8 (x.toNat:Int) k n=_
  rw[tw _ _ _ _ h,IntKind.wrap_u8]
  show some (D.int .u8 ((x.toNat:Int)*2^min n.toNat 8%256))=_
  have:(x.toNat:Int)*2^min n.toNat 8%256=((ew x (min n.toNat 8)).toNat:Int):=by unfold ew; simp
  rw[this]; rfl
theorem Qk (x:UInt8) (k:IntKind) (n:Int) (h:0≤n):bN .shr (.w (.c (.d (bD x)))) (.w (.c (.d (.int k n))))=some (bD (ez x (min n.toNat 8))):=by
  show bB .shr .u8 (x.toNat:Int) k n=_
  rw[tx _ _ _ _ h]
  show some (D.int .u8 ((x.toNat:Int) / 2^min n.toNat 8))=_
  have:(x.toNat:Int) / 2^min n.toNat 8=((ez x (min n.toNat 8)).toNat:Int):=by
    have h:x.toNat / 2^min n.toNat 8<256:=acy (Nat.div_le_self _ _) (lW x);unfold ez;rw[UInt8.toNat_ofNat_of_lt' (by simpa [UInt8.size] using h)];simp
  rw[this]; rfl
theorem Ql (x y:UInt8):bN .eql (.w (.c (.d (bD x)))) (.w (.c (.d (bD y))))=some (.bool (x==y)):=by
  show bB .eql .u8 (x.toNat:Int) .u8 (y.toNat:Int)=_
  rw[tp];by_cases h:x=y
  ·subst h; simp
  ·have:¬ ((x.toNat:Int)=(y.toNat:Int)):=fun e=>h (UInt8.toNat_inj.1 (by omega))
   simp[this,h]
theorem Qm (x y:UInt8):bN .neq (.w (.c (.d (bD x)))) (.w (.c (.d (bD y))))=some (.bool (x != y)):=by
  show bB .neq .u8 (x.toNat:Int) .u8 (y.toNat:Int)=_
  rw[tq];by_cases h:x=y
  ·subst h; simp
  ·have:¬ ((x.toNat:Int)=(y.toNat:Int)):=fun e=>h (UInt8.toNat_inj.1 (by omega))
   simp[this,h]
theorem N8 (G:ah) (f:Nat→V):ev G f .u=.undef:=rfl
def Ni (P:Program) (G:ah) (d:Option Nat) (r:List aX) (K:St→Prop) (f:Nat→V) (h:au) (u:Nat→Bool) (F:Nat) (ds:List D):Prop:=aH P G r K ⟨bi f d (.w (.c (.d (.fn F ds)))),h,u⟩
theorem I1 (P:Program) (G:ah) (d:Option Nat) (r:List aX) (K:St→Prop) (f:Nat→V) (h:au) (u:Nat→Bool) (F:Nat) (xs:List SX):aH P G (⟨d,.clos F xs,none⟩::r) K ⟨f,h,u⟩=aS (ek (xs.map (ev G f))) (Ni P G d r K f h u F):=by
  show (match (ek (xs.map (ev G f))).map fun ds=>((.w (.c (.d (.fn F ds))),h,u):R) with | some r=>_ | none=>False)=_
  cases ek (xs.map (ev G f)) <;> rfl
theorem GL (P:Program) (G:ah) (d:Option Nat) (r:List aX) (K:St→Prop) (f:Nat→V) (h:au) (u:Nat→Bool) (F:Nat) (ds:List D):Ni P G d r K f h u F ds=aH P G r K ⟨bi f d (.w (.c (.d (.fn F ds)))),h,u⟩:=rfl
theorem Ew:ek []=some []:=rfl
theorem GM (cs:List D) (r:List V):ek (.w (.c (.rp cs))::r)=(ek r).map fun l=>.ref cs::l:=by
  simp only[ek,j9]; cases ek r <;> rfl
theorem Ex (k:IntKind) (n:Int) (r:List V):ek (.w (.c (.d (.int k n)))::r)=(ek r).map fun l=>.int k n::l:=by
  simp only[ek,j9]; cases ek r <;> rfl
theorem GN (es:List D) (r:List V):ek (.w (.c (.d (.sl es)))::r)=(ek r).map fun l=>.sl es::l:=by
  simp only[ek,j9]; cases ek r <;> rfl
def BX (P:Program) (G:ah) (body:aL) (K:AX→St→Prop) (e:AX) (s:St):Prop:=match e with | .nrm=>bE P G body K s | _=>False
def BZ (f0:Nat→V) (I:Nat→au→(Nat→Bool)→Prop) (Q:AX→St→Prop) (k:Nat) (e:AX) (s:St):Prop:=match e with
  | .nrm=>∃ h' u',dP s ⟨f0,h',u'⟩∧I (k+1) h' u'
  | e=>∃ h' u',dP s ⟨f0,h',u'⟩∧Q e ⟨f0,h',u'⟩
theorem GO (P:Program) (G:ah) (body:aL) (K:AX→St→Prop) (s:St):BX P G body K .nrm s=bE P G body K s:=rfl
def B3 (st:Nat→au×(Nat→Bool)) (k:Nat) (h:au) (u:Nat→Bool):Prop:=(h,u)=st k
theorem RX {P:Program} {G:ah} {Q:AX→St→Prop} {σ:St} {x:SX} {ps:List Nat} {asg body:aL} {g:Nat} {caps:List D} {xs:List (List D)} (f0:Nat→V) {f1:Nat→V} (hf:f0=f1) (st:Nat→au×(Nat→Bool))
    (hev:ev G σ.f x=.w (.c (.d (.fn g caps)))) (hseq:BU P G g caps xs) (hlen:∀ r∈xs,r.length=ps.length) (hent:dP σ ⟨f1,(st 0).1,(st 0).2⟩) (hun:∀ t∈ps++asg.writes++body.writes,f1 t=.undef)
    (round:∀ k r,xs[k]?=some r→bE P G asg (BX P G body (BZ f0 (B3 st) Q k)) ⟨px f1 ps r,(st k).1,(st k).2⟩)
    (done:Q .nrm ⟨f1,(st xs.length).1,(st xs.length).2⟩):bE P G (.rangeF x ps asg body) Q σ:=by
  subst hf;refine⟨g,caps,xs,f0,(st 0).1,(st 0).2,fun k h u=>(h,u)=st k,hev,hseq,hlen,hent,hun,rfl,fun k r h u hr e=>?_,fun h u e=>?_⟩
  ·have:=round k r hr;rw[← e] at this
   have e1:(fun (e:AX) (s:St)=>match e with
       | .nrm=>bE P G body (fun e s'=>match e with
         | .nrm=>∃ h' u',dP s' ⟨f0,h',u'⟩∧(h',u')=st (k+1)
         | e=>∃ h' u',dP s' ⟨f0,h',u'⟩∧Q e ⟨f0,h',u'⟩) s
       | _=>False)=BX P G body (BZ f0 (B3 st) Q k):=by
     funext e s
     cases e with
     | nrm =>
       show bE P G body _ s=bE P G body _ s
       congr 1
     | _=>rfl
   rw[← e1] at this;exact this
  ·rw[← e] at done; exact done
theorem RY {f0:Nat→V} {f1:Nat→V} (hf:f0=f1) {st:Nat→au×(Nat→Bool)} {Q:AX→St→Prop} {k:Nat} {s:St} (h:dP s ⟨f1,(st (k+1)).1,(st (k+1)).2⟩):BZ f0 (B3 st) Q k .nrm s:=⟨_,_,hf ▸ h,rfl⟩
def bC (x:UInt8):C:=.d (bD x)
theorem rH (l:List UInt8):(l.map bD).map C.d=l.map bC:=by rw[ac6]; rfl
theorem qX:∀ l:List UInt8,eY (l.map bC)=some (l.map bD)
  | []=>rfl
  | x::l=>by
    have h:=qX l
    show eY (C.d (bD x)::l.map bC)=_
    simp only[eY,h,aa5,aca]
theorem RZ {α β:Type} (f:α→β) (l cs:List α) (off:Nat):cP (l.map f) off (cs.map f)=(cP l off cs).map f:=by
  unfold cP; simp
theorem gS (l:List UInt8):(l.map bC).flatMap C.ids=[]:=by
  induction l with
  | nil=>rfl
  | cons x l ih=>rw[aa5,abg,ih]; rfl
theorem o8 (g:Nat→Nat) (l:List UInt8):(l.map bC).map (C.ren g)=l.map bC:=by rw[ac6]; rfl
theorem Wq (x c:UInt8) (n:Int) (h:n=(c.toNat:Int)):bN .eql (.w (.c (.d (bD x)))) (.w (.c (.d (.int .u8 n))))=some (.bool (x==c)):=by subst h; exact Ql x c
theorem Wr (x c:UInt8) (n:Int) (h:n=(c.toNat:Int)):bN .neq (.w (.c (.d (bD x)))) (.w (.c (.d (.int .u8 n))))=some (.bool (x != c)):=by subst h; exact Qm x c
theorem Ws (x c:UInt8) (n:Int) (h:n=(c.toNat:Int)):bN .xor (.w (.c (.d (bD x)))) (.w (.c (.d (.int .u8 n))))=some (bD (ak x c)):=by subst h; exact gR x c
theorem Lj (x c:UInt8) (n:Int) (h:n=(c.toNat:Int)):bN .and (.w (.c (.d (bD x)))) (.w (.c (.d (.int .u8 n))))=some (bD (mz x c)):=by subst h; exact xZ x c
theorem Lk (x:UInt8) (k:IntKind) (j:Nat) (n:Int) (h:n=(j:Int)) (hj:j≤8):bN .shr (.w (.c (.d (bD x)))) (.w (.c (.d (.int k n))))=some (bD (ez x j)):=by
  subst h;rw[Qk _ _ _ (acU j),ac1,acV hj]
theorem Ll (x:UInt8) (k:IntKind) (j:Nat) (n:Int) (h:n=(j:Int)) (hj:j≤8):bN .shl (.w (.c (.d (bD x)))) (.w (.c (.d (.int k n))))=some (bD (ew x j)):=by
  subst h;rw[Qj _ _ _ (acU j),ac1,acV hj]
def bI {α:Type} (n:Nat) (x:α):List α:=List.replicate n x
theorem cW {α:Type} (n:Nat) (x:α):(bI n x).length=n:=abp
theorem I2 (n:Nat):bI n (C.d (D.int .u8 0))=(bI n (0:UInt8)).map bC:=by unfold bI; rw[List.map_replicate]; rfl
set_option maxRecDepth 100000
theorem jW {a b : Prop} (l : a) (r : b) : a ∧ b := And.intro l r
theorem wx:kL (jW @vx (jW @vy (jW @vz (jW @vA (jW @vB (jW @sx (jW @z7 (jW @zh (jW @Kf (jW @Kg (jW @Ke (jW @z6 (jW @HS (jW @MV (jW @MW (jW @MX (jW @dh.eq_1 (jW @dh.eq_2 (jW @dh.eq_3 (jW @dh.eq_4 (jW @gB.eq_1 (jW @gB.eq_2 (jW @killAll.eq_1 (jW @killAll.eq_2 (jW @killAll.eq_3 (jW @N8 (jW @I1 (jW @GL (jW @Ew (jW @GM (jW @Ex (jW @GN (jW @GO (jW @ef.eq_1 (jW @ef.eq_2 (jW @ef.eq_3 (jW @ef.eq_4 (jW @ef.eq_5 (jW @ef.eq_6 (jW @ef.eq_7 (jW @ef.eq_8 (jW @ef.eq_9 (jW @ef.eq_10 (jW @ef.eq_11 (jW @ef.eq_12 (jW @ef.eq_13 (jW @ef.eq_14 (jW @ef.eq_15 (jW @ef.eq_16 (jW @ef.eq_17 (jW @ef.eq_18 (jW @ef.eq_19 (jW @ef.eq_20 (jW @ef.eq_21 (jW @ef.eq_22 (jW @ef.eq_23 (jW @ef.eq_24 (jW @ef.eq_25 (jW @ef.eq_26 (jW @ef.eq_27 (jW @ef.eq_28 (jW @ef.eq_29 (jW @ef.eq_30 (jW @ef.eq_31 (jW @ef.eq_32 (jW @ef.eq_33 (jW @ef.eq_34 (jW @ef.eq_35 (jW @ef.eq_36 (jW @ef.eq_37 (jW @ef.eq_38 (jW @ef.eq_39 (jW @ef.eq_40 (jW @ef.eq_41 (jW @ef.eq_42 (jW @ef.eq_43 (jW @ef.eq_44 (jW @ef.eq_45 (jW @ef.eq_46 (jW @ef.eq_47 (jW @ef.eq_48 (jW @ef.eq_49 (jW @ef.eq_50 (jW @ef.eq_51 (jW @ef.eq_52 (jW @ef.eq_53 (jW @bound.eq_1 (jW @bound.eq_2 (jW @ku.eq_1 (jW @ku.eq_2 (jW @ku.eq_3 (jW @ku.eq_4 (jW @gp.eq_1 (jW @cK.eq_1 (jW @cK.eq_2 (jW @cK.eq_3 (jW @cK.eq_4 (jW @cK.eq_5 (jW @cK.eq_6 (jW @cK.eq_7 (jW @cK.eq_8 (jW @dO.eq_1 (jW @dO.eq_2 (jW @dO.eq_3 (jW @dO.eq_4 (jW @dO.eq_5 (jW @dO.eq_6 (jW @dO.eq_7 (jW @IK (jW @gM.eq_1 (jW @gM.eq_2 (jW @parts.eq_1 (jW @parts.eq_2 (jW @elems.eq_1 (jW @elems.eq_2 (jW @fB.eq_1 (jW @N6 (jW @N7 (jW @Lb (jW @I0 (jW @Lc (jW @Ng (jW @Ld (jW @Le (jW @Lf (jW @Lg (jW @Nh (jW @Lh (jW @fN.eq_1 (jW @fN.eq_2 (jW @fN.eq_3 (jW @fN.eq_4 (jW @pv.eq_1 (jW @pv.eq_2 (jW @eY.eq_1 (jW @eY.eq_2 (jW @eY.eq_3 (jW @dL.eq_1 (jW @dL.eq_2 (jW @dL.eq_3 (jW @dL.eq_4 (jW @ee.eq_1 (jW @ee.eq_2 (jW @ee.eq_3 (jW @di.eq_1 (jW @di.eq_2 (jW @di.eq_3 (jW @di.eq_4 (jW @di.eq_5 (jW @di.eq_6 (jW @di.eq_7 (jW @di.eq_8 (jW @di.eq_9 (jW @di.eq_10 (jW @lc.eq_1 (jW @fP.eq_1 (jW @fP.eq_2 (jW @fP.eq_3 (jW @toW.eq_1 (jW @toW.eq_2 (jW @dC.eq_1 (jW @dC.eq_2 (jW @dC.eq_3 (jW @dC.eq_4 (jW @gi.eq_1 (jW @gi.eq_2 (jW @dm.eq_1 (jW @dm.eq_2 (jW @df.eq_1 (jW @df.eq_2 (jW @df.eq_3 (jW @ints.eq_1 (jW @ints.eq_2 (jW @ints.eq_3 (jW @dB.eq_1 (jW @dB.eq_2 (jW @dB.eq_3 (jW @ke.eq_1 (jW @ke.eq_2 (jW @ke.eq_3 (jW @W.ro.eq_1 (jW @W.ro.eq_2 (jW @C.ro.eq_1 (jW @C.ro.eq_2 (jW @V.ro.eq_1 (jW @V.ro.eq_2 (jW @V.ro.eq_3 (jW @mr.eq_1 (jW @mr.eq_2 (jW @mr.eq_3 (jW @Kd.size.eq_1 (jW @Kd.size.eq_2 (jW @Ei (jW @Dr (jW @Ej (jW @Gw (jW @El (jW @cP.eq_1 (jW @cA.eq_1 (jW @cA.eq_2 (jW @Nat.min_def (jW @aca.{0,0} (jW @Option.map_none.{0,0} (jW @ac0 (jW @acQ (jW @decide_true (jW @decide_false (jW @Bool.and_self (jW @aa5.{0,0} (jW @abr.{0,0} (jW @List.any_cons.{0} (jW @List.any_nil.{0} (jW @abR.{0} (jW @acu.{0} (jW @ach.{0} (jW @ack.{0} (jW @abI.{0} (jW @if_true.{1} (jW @if_false.{1} (jW @true_and (jW @and_true (jW @vd.eq_1 (jW @acU (jW @acC.{0} (jW @acm.{0} (jW @fI (jW @jO (jW @jm (jW @kM (jW @GC (jW @GD (jW @M9 (jW @Na (jW @IV (jW @IW (jW @Nb (jW @Ep (jW @Eq (jW @GI (jW @Er (jW @Es (jW @Et (jW @Eu (jW @Ev (jW @gR (jW @xZ (jW @yK (jW @Gn (jW @Gp (jW @Gq (jW @Gr (jW @Gs (jW @Gt (jW @Gu (jW @Gv (jW @GG (jW @GH (jW @GJ (jW @GK (jW @GA (jW @Gx (jW @Gy (jW @Gz (jW @List.set_cons_zero.{0} (jW @List.set_cons_succ.{0} (jW @IX (jW @iP (jW @Kd.ag.injEq (jW @aa1.{0} (jW @abp.{0} (jW @tz (jW @IL (jW @zr (jW @K4 (jW @zs (jW @K5 (jW @IU (jW @Gm (jW @abS.{0} (jW @abT.{0} (jW @List.take_succ_cons.{0} (jW @ab9.{0} (jW @List.drop_succ_cons.{0} (jW @List.take_nil.{0} (jW @List.drop_nil.{0} (jW @abj.{0} (jW @abg.{0,0} (jW @ac5.{0,0} (jW @Option.bind_some.{0,0} (jW @ne_eq.{1} (jW @not_false_eq_true (@not_true_eq_false)))))))))))))))))))))))))))))))))))))))))))))))))))))))))))))))))))))))))))))))))))))))))))))))))))))))))))))))))))))))))))))))))))))))))))))))))))))))))))))))))))))))))))))))))))))))))))))))))))))))))))))))))))))))))))))))))))))))))))))))))))))))))))))))))))))))))))))))))))))))))))))))))))):=jW @vx (jW @vy (jW @vz (jW @vA (jW @vB (jW @sx (jW @z7 (jW @zh (jW @Kf (jW @Kg (jW @Ke (jW @z6 (jW @HS (jW @MV (jW @MW (jW @MX (jW @dh.eq_1 (jW @dh.eq_2 (jW @dh.eq_3 (jW @dh.eq_4 (jW @gB.eq_1 (jW @gB.eq_2 (jW @killAll.eq_1 (jW @killAll.eq_2 (jW @killAll.eq_3 (jW @N8 (jW @I1 (jW @GL (jW @Ew (jW @GM (jW @Ex (jW @GN (jW @GO (jW @ef.eq_1 (jW @ef.eq_2 (jW @ef.eq_3 (jW @ef.eq_4 (jW @ef.eq_5 (jW @ef.eq_6 (jW @ef.eq_7 (jW @ef.eq_8 (jW @ef.eq_9 (jW @ef.eq_10 (jW @ef.eq_11 (jW @ef.eq_12 (jW @ef.eq_13 (jW @ef.eq_14 (jW @ef.eq_15 (jW @ef.eq_16 (jW @ef.eq_17 (jW @ef.eq_18 (jW @ef.eq_19 (jW @ef.eq_20 (jW @ef.eq_21 (jW @ef.eq_22 (jW @ef.eq_23 (jW @ef.eq_24 (jW @ef.eq_25 (jW @ef.eq_26 (jW @ef.eq_27 (jW @ef.eq_28 (jW @ef.eq_29 (jW @ef.eq_30 (jW @ef.eq_31 (jW @ef.eq_32 (jW @ef.eq_33 (jW @ef.eq_34 (jW @ef.eq_35 (jW @ef.eq_36 (jW @ef.eq_37 (jW @ef.eq_38 (jW @ef.eq_39 (jW @ef.eq_40 (jW @ef.eq_41 (jW @ef.eq_42 (jW @ef.eq_43 (jW @ef.eq_44 (jW @ef.eq_45 (jW @ef.eq_46 (jW @ef.eq_47 (jW @ef.eq_48 (jW @ef.eq_49 (jW @ef.eq_50 (jW @ef.eq_51 (jW @ef.eq_52 (jW @ef.eq_53 (jW @bound.eq_1 (jW @bound.eq_2 (jW @ku.eq_1 (jW @ku.eq_2 (jW @ku.eq_3 (jW @ku.eq_4 (jW @gp.eq_1 (jW @cK.eq_1 (jW @cK.eq_2 (jW @cK.eq_3 (jW @cK.eq_4 (jW @cK.eq_5 (jW @cK.eq_6 (jW @cK.eq_7 (jW @cK.eq_8 (jW @dO.eq_1 (jW @dO.eq_2 (jW @dO.eq_3 (jW @dO.eq_4 (jW @dO.eq_5 (jW @dO.eq_6 (jW @dO.eq_7 (jW @IK (jW @gM.eq_1 (jW @gM.eq_2 (jW @parts.eq_1 (jW @parts.eq_2 (jW @elems.eq_1 (jW @elems.eq_2 (jW @fB.eq_1 (jW @N6 (jW @N7 (jW @Lb (jW @I0 (jW @Lc (jW @Ng (jW @Ld (jW @Le (jW @Lf (jW @Lg (jW @Nh (jW @Lh (jW @fN.eq_1 (jW @fN.eq_2 (jW @fN.eq_3 (jW @fN.eq_4 (jW @pv.eq_1 (jW @pv.eq_2 (jW @eY.eq_1 (jW @eY.eq_2 (jW @eY.eq_3 (jW @dL.eq_1 (jW @dL.eq_2 (jW @dL.eq_3 (jW @dL.eq_4 (jW @ee.eq_1 (jW @ee.eq_2 (jW @ee.eq_3 (jW @di.eq_1 (jW @di.eq_2 (jW @di.eq_3 (jW @di.eq_4 (jW @di.eq_5 (jW @di.eq_6 (jW @di.eq_7 (jW @di.eq_8 (jW @di.eq_9 (jW @di.eq_10 (jW @lc.eq_1 (jW @fP.eq_1 (jW @fP.eq_2 (jW @fP.eq_3 (jW @toW.eq_1 (jW @toW.eq_2 (jW @dC.eq_1 (jW @dC.eq_2 (jW @dC.eq_3 (jW @dC.eq_4 (jW @gi.eq_1 (jW @gi.eq_2 (jW @dm.eq_1 (jW @dm.eq_2 (jW @df.eq_1 (jW @df.eq_2 (jW @df.eq_3 (jW @ints.eq_1 (jW @ints.eq_2 (jW @ints.eq_3 (jW @dB.eq_1 (jW @dB.eq_2 (jW @dB.eq_3 (jW @ke.eq_1 (jW @ke.eq_2 (jW @ke.eq_3 (jW @W.ro.eq_1 (jW @W.ro.eq_2 (jW @C.ro.eq_1 (jW @C.ro.eq_2 (jW @V.ro.eq_1 (jW @V.ro.eq_2 (jW @V.ro.eq_3 (jW @mr.eq_1 (jW @mr.eq_2 (jW @mr.eq_3 (jW @Kd.size.eq_1 (jW @Kd.size.eq_2 (jW @Ei (jW @Dr (jW @Ej (jW @Gw (jW @El (jW @cP.eq_1 (jW @cA.eq_1 (jW @cA.eq_2 (jW @Nat.min_def (jW @aca.{0,0} (jW @Option.map_none.{0,0} (jW @ac0 (jW @acQ (jW @decide_true (jW @decide_false (jW @Bool.and_self (jW @aa5.{0,0} (jW @abr.{0,0} (jW @List.any_cons.{0} (jW @List.any_nil.{0} (jW @abR.{0} (jW @acu.{0} (jW @ach.{0} (jW @ack.{0} (jW @abI.{0} (jW @if_true.{1} (jW @if_false.{1} (jW @true_and (jW @and_true (jW @vd.eq_1 (jW @acU (jW @acC.{0} (jW @acm.{0} (jW @fI (jW @jO (jW @jm (jW @kM (jW @GC (jW @GD (jW @M9 (jW @Na (jW @IV (jW @IW (jW @Nb (jW @Ep (jW @Eq (jW @GI (jW @Er (jW @Es (jW @Et (jW @Eu (jW @Ev (jW @gR (jW @xZ (jW @yK (jW @Gn (jW @Gp (jW @Gq (jW @Gr (jW @Gs (jW @Gt (jW @Gu (jW @Gv (jW @GG (jW @GH (jW @GJ (jW @GK (jW @GA (jW @Gx (jW @Gy (jW @Gz (jW @List.set_cons_zero.{0} (jW @List.set_cons_succ.{0} (jW @IX (jW @iP (jW @Kd.ag.injEq (jW @aa1.{0} (jW @abp.{0} (jW @tz (jW @IL (jW @zr (jW @K4 (jW @zs (jW @K5 (jW @IU (jW @Gm (jW @abS.{0} (jW @abT.{0} (jW @List.take_succ_cons.{0} (jW @ab9.{0} (jW @List.drop_succ_cons.{0} (jW @List.take_nil.{0} (jW @List.drop_nil.{0} (jW @abj.{0} (jW @abg.{0,0} (jW @ac5.{0,0} (jW @Option.bind_some.{0,0} (jW @ne_eq.{1} (jW @not_false_eq_true (@not_true_eq_false)))))))))))))))))))))))))))))))))))))))))))))))))))))))))))))))))))))))))))))))))))))))))))))))))))))))))))))))))))))))))))))))))))))))))))))))))))))))))))))))))))))))))))))))))))))))))))))))))))))))))))))))))))))))))))))))))))))))))))))))))))))))))))))))))))))))))))))))))))))))))))))))))))
theorem wy:kL (jW @Nf (jW @C5 (jW @IY (jW @GE (jW @IZ (jW @La (jW @fC (jW @pD (@cond_true.{1}))))))))):=jW @Nf (jW @C5 (jW @IY (jW @GE (jW @IZ (jW @La (jW @fC (jW @pD (@cond_true.{1}))))))))
theorem wz:kL (jW @Bool.false_and (jW @Bool.and_false (jW @En (jW @Nat.sub_zero (jW @Em (jW @Ds (jW @beq_self_eq_true.{0} (jW @Bool.and_true (jW @acN (jW @NY (jW @NZ (jW @N0 (jW @N2 (jW @N3 (jW @N5 (jW @acq.{0} (jW @aco (jW @Nat.one_mul (jW @acg (jW @abQ (jW @K7 (jW @K8 (jW @K9 (jW @Nc (jW @acv (jW @Int.natCast_mul (jW @acW (jW @acz (@acA))))))))))))))))))))))))))))):=jW @Bool.false_and (jW @Bool.and_false (jW @En (jW @Nat.sub_zero (jW @Em (jW @Ds (jW @beq_self_eq_true.{0} (jW @Bool.and_true (jW @acN (jW @NY (jW @NZ (jW @N0 (jW @N2 (jW @N3 (jW @N5 (jW @acq.{0} (jW @aco (jW @Nat.one_mul (jW @acg (jW @abQ (jW @K7 (jW @K8 (jW @K9 (jW @Nc (jW @acv (jW @Int.natCast_mul (jW @acW (jW @acz (@acA))))))))))))))))))))))))))))
theorem aw:kL (jW @V.ren.eq_1 (jW @V.ren.eq_2 (jW @V.ren.eq_3 (jW @W.ren.eq_1 (jW @W.ren.eq_2 (jW @C.ren.eq_1 (jW @C.ren.eq_2 (jW @C.ren.eq_3 (jW @C.ren.eq_4 (jW @C.ren.eq_5 (jW @C.ren.eq_6 (jW @V.ids.eq_1 (jW @V.ids.eq_2 (jW @V.ids.eq_3 (jW @W.ids.eq_1 (jW @W.ids.eq_2 (jW @C.ids.eq_1 (jW @C.ids.eq_2 (jW @C.ids.eq_3 (jW @C.ids.eq_4 (jW @C.ids.eq_5 (jW @C.ids.eq_6 (jW @Ob.ren.eq_1 (jW @Ob.ren.eq_2 (jW @Ob.ren.eq_3 (jW @Ob.ren.eq_4 (jW @Ob.ids.eq_1 (jW @Ob.ids.eq_2 (jW @Ob.ids.eq_3 (jW @Ob.ids.eq_4 (jW @acA (jW @acq.{0} (jW @IP (jW @Gj (jW @IQ (jW @Gk (jW @id_eq.{1} (jW @aco (jW @Nat.mul_zero (jW @acx (@acn.{0}))))))))))))))))))))))))))))))))))))))))):=jW @V.ren.eq_1 (jW @V.ren.eq_2 (jW @V.ren.eq_3 (jW @W.ren.eq_1 (jW @W.ren.eq_2 (jW @C.ren.eq_1 (jW @C.ren.eq_2 (jW @C.ren.eq_3 (jW @C.ren.eq_4 (jW @C.ren.eq_5 (jW @C.ren.eq_6 (jW @V.ids.eq_1 (jW @V.ids.eq_2 (jW @V.ids.eq_3 (jW @W.ids.eq_1 (jW @W.ids.eq_2 (jW @C.ids.eq_1 (jW @C.ids.eq_2 (jW @C.ids.eq_3 (jW @C.ids.eq_4 (jW @C.ids.eq_5 (jW @C.ids.eq_6 (jW @Ob.ren.eq_1 (jW @Ob.ren.eq_2 (jW @Ob.ren.eq_3 (jW @Ob.ren.eq_4 (jW @Ob.ids.eq_1 (jW @Ob.ids.eq_2 (jW @Ob.ids.eq_3 (jW @Ob.ids.eq_4 (jW @acA (jW @acq.{0} (jW @IP (jW @Gj (jW @IQ (jW @Gk (jW @id_eq.{1} (jW @aco (jW @Nat.mul_zero (jW @acx (@acn.{0}))))))))))))))))))))))))))))))))))))))))
theorem aG:kL (jW @acv (jW @Int.natCast_mul (jW @acW (@acz)))):=jW @acv (jW @Int.natCast_mul (jW @acW (@acz)))
theorem ae:kL (jW @wx (jW @wy @wz)):=jW @wx (jW @wy @wz)
theorem aF {σ:St} {p:Nat×Option Kd} {x:D} (h1:(cA σ p).bind (toW σ.h)=some x:=by simp only[ae,aa,seval,iteOmega,toNatUp]):dq σ [p] (.w (.c (.d x))):=nj h1
theorem aY {σ:St} {p q:Nat×Option Kd} {x y:D} (h1:(cA σ p).bind (toW σ.h)=some x:=by simp only[ae,aa,seval,iteOmega,toNatUp]) (h2:(cA σ q).bind (toW σ.h)=some y:=by simp only[ae,aa,seval,iteOmega,toNatUp]):dq σ [p,q] (.tup [.c (.d x),.c (.d y)]):=jr h1 h2
theorem qd3 {σ:St} {p q r:Nat×Option Kd} {x y z:D} (h1:(cA σ p).bind (toW σ.h)=some x:=by simp only[ae,aa,seval,iteOmega,toNatUp]) (h2:(cA σ q).bind (toW σ.h)=some y:=by simp only[ae,aa,seval,iteOmega,toNatUp]) (h3:(cA σ r).bind (toW σ.h)=some z:=by simp only[ae,aa,seval,iteOmega,toNatUp]):dq σ [p,q,r] (.tup [.c (.d x),.c (.d y),.c (.d z)]):=Ag h1 h2 h3
theorem eH {σ:St} {p:Nat×Option Kd} {sz:Nat} {es:List D} (h1:(cA σ p).bind (iY σ.h sz)=some es:=by simp only[ae,aa,seval,iteOmega,toNatUp]):dq σ [p] (.w (.c (.fr sz es))):=Li h1
theorem dQ {σ:St} {p q:Nat×Option Kd} {sz:Nat} {es:List D} {y:D} (h1:(cA σ p).bind (iY σ.h sz)=some es:=by simp only[ae,aa,seval,iteOmega,toNatUp]) (h2:cA σ q=some (.c (.d y)):=by simp only[ae,aa,seval,iteOmega,toNatUp]):dq σ [p,q] (.tup [.c (.fr sz es),.c (.d y)]):=Ah h1 h2
theorem sD {P:Program} {G:ah} {K:St→Prop} {r:List aX} {f:Nat→V} {h:au} {u:Nat→Bool} {d:Option Nat} {fn:FuncId} {xs:List SX} {own:Option (Nat×Nat)} {ds:List D} {res:V} {q:Prop} (h2:am P G fn ds res) (e:q)
    (hq:aS (dB h u (d.getD 0) own res) (cC P G d r K f)=q:=by simp only[ae,aa,seval,iteOmega,toNatUp]; rfl) (h1:dm h (xs.map (ev G f))=some ds:=by exact rfl)
    (h3:((xs.map (ev G f)).any V.hasOwn=false∨res.flat=true):=by exact .inl rfl) (hne:fn≠fQ:=by decide) (hp:ii own (xs.map (ev G f)):=by first | exact oq _ | exact oK _ _ _ | exact ot _ _ rfl):aH P G (⟨d,.call fn xs own,none⟩::r) K ⟨f,h,u⟩ :=
  sC h2 (hq ▸ e) h1 h3 hne hp
def ib (x:UInt8):UInt8:=ak (ew x 1) (if x<128 then 0 else 27)
def kh (c:Bool) (v:UInt8):UInt8:=if c then v else 0
def ki (y:UInt8) (i:Nat):Bool:=y.toNat.testBit i
def Cu (x:UInt8):Nat→UInt8
  | 0=>x
  | n+1=>ib (Cu x n)
def Ox (x y:UInt8):Nat→UInt8
  | 0=>0
  | n+1=>ak (Ox x y n) (kh (ki y n) (Cu x n))
def gU (x y:UInt8):UInt8:=Ox x y 8
theorem EH (x y:UInt8):ak x y=ak y x:=UInt8.xor_comm x y
theorem nZ (x y z:UInt8):ak (ak x y) z=ak x (ak y z):=UInt8.xor_assoc x y z
theorem yd (x:UInt8):ak x 0=x:=UInt8.xor_zero
theorem EI (x:UInt8):ak x x=0:=UInt8.xor_self
theorem Qz (a b c d:UInt8):ak (ak a b) (ak c d)=ak (ak a c) (ak b d):=by
  rw[nZ,← nZ b,EH b c,nZ c,← nZ]
def B5 (f:UInt8→UInt8):Prop:=∀ a b,f (ak a b)=ak (f a) (f b)
theorem R8 (x y:UInt8) (i:Nat):ki (ak x y) i=(ki x i ^^ ki y i):=by
  unfold ki ak;rw[UInt8.toNat_xor,ab0]
theorem R9 (c d:Bool) (v:UInt8):kh (c ^^ d) v=ak (kh c v) (kh d v):=by
  cases c <;> cases d <;> simp[kh,ak]
def mD (f:UInt8→UInt8) (x:UInt8):Nat→UInt8
  | 0=>0
  | n+1=>ak (mD f x n) (kh (ki x n) (f (UInt8.ofNat (2^n))))
theorem G6 (f:UInt8→UInt8):∀ n,B5 fun x=>mD f x n
  | 0=>fun a b=>(EI 0).symm
  | n+1=>fun a b=>by
    show ak (mD f (ak a b) n) (kh (ki (ak a b) n) _)=_
    rw[show mD f (ak a b) n=ak (mD f a n) (mD f b n) from G6 f n a b,R8,R9,Qz];rfl
theorem WH {f:UInt8→UInt8} (h:∀ x,f x=mD f x 8):B5 f:=by
  intro a b;rw[h,h a,h b];exact G6 f 8 a b
theorem mn {p:UInt8→Bool} (h:((List.range 256).all fun i=>p (UInt8.ofNat i))=true) (x:UInt8):p x=true:=by
  have:=abi.1 h x.toNat (acD.2 x.toNat_lt)
  simpa using this
theorem T9:B5 ib:=WH fun x=>by
  have:=mn (p:=fun x=>ib x==mD ib x 8) (by decide +kernel) x
  simpa using this
def vK (x:UInt8) (n:Nat):UInt8:=kv (ew x n) (ez x (8-n))
def N9 (y:UInt8):UInt8:=ak (ak (ak (ak (ak y (vK y 1)) (vK y 2)) (vK y 3)) (vK y 4)) 99
def Oa (x:UInt8):UInt8 :=
  let x2:=gU x x
  let x3:=gU x2 x
  let x6:=gU x3 x3
  let x12:=gU x6 x6
  let x15:=gU x12 x3
  let x30:=gU x15 x15
  let x60:=gU x30 x30
  let x120:=gU x60 x60
  let x240:=gU x120 x120
  gU (gU x240 x12) x2
def B8:List UInt8:=(List.range 256).map fun i=>N9 (Oa (UInt8.ofNat i))
def ea (x:UInt8):UInt8:=N9 (Oa x)
theorem Sa (x:UInt8):B8[x.toNat]?=some (ea x):=by
  unfold B8 ea;rw[abK,acr x.toNat_lt];simp
instance:Std.Associative ak:=⟨nZ⟩
instance:Std.Commutative ak:=⟨EH⟩
def Cv (x:UInt8):UInt8:=gU x 2
def wE (a b c d:UInt8):UInt8:=ak (ak (ak (ak (Cv a) (Cv b)) b) c) d
abbrev dJ:=Nat→UInt8
def gZ (s k:dJ):dJ:=fun j=>ak (s j) (k j)
def iQ (s:dJ):dJ:=fun j=>ea (s (j%4+4*((j / 4+j%4)%4)))
def g8 (t:dJ):dJ:=fun j=>wE (t (4*(j / 4)+j%4)) (t (4*(j / 4)+(j%4+1)%4)) (t (4*(j / 4)+(j%4+2)%4)) (t (4*(j / 4)+(j%4+3)%4))
def Nn (s t:dJ):Prop:=∀ j,j<16→s j=t j
def Ap (k:Nat→dJ) (s:dJ) (n:Nat):dJ:=if n<10 then gZ (g8 (iQ s)) (k n) else gZ (iQ s) (k n)
def iZ (k:Nat→dJ) (s:dJ):Nat→dJ
  | 0=>gZ s (k 0)
  | n+1=>Ap k (iZ k s n) (n+1)
def iv (n:Nat):UInt8:=Cu 1 n
def pF (t:List UInt8) (n:Nat):List UInt8 :=
  if n%4=0 then [ak (ea (t.getD 1 0)) (iv (n / 4)),ea (t.getD 2 0),ea (t.getD 3 0),ea (t.getD 0 0)]
  else [t.getD 0 0,t.getD 1 0,t.getD 2 0,t.getD 3 0]
def kZ (l:List UInt8) (n:Nat):List UInt8 :=
  (List.range 4).map fun k=>ak (l.getD (4*n+k) 0) ((pF (l.drop (12+4*n)) n).getD k 0)
def dS (key:List UInt8):Nat→List UInt8
  | 0=>key
  | n+1=>dS key n++kZ (dS key n) n
def aP (key:List UInt8):List UInt8:=dS key 40
theorem QA (l:List UInt8) (n:Nat):(kZ l n).length=4:=by simp[kZ]
theorem nb {key:List UInt8} (h:key.length=16):∀ n,(dS key n).length=16+4*n
  | 0=>h
  | n+1=>by rw[dS,aa1,nb h n,QA]; omega
theorem zF {key:List UInt8} (h:key.length=16):(aP key).length=176:=nb h 40
def ct (f:dJ):List UInt8:=(List.range 16).map f
theorem fZ (f:dJ):(ct f).length=16:=by simp[ct]
theorem uo (f:dJ) {j:Nat} (h:j<16):(ct f)[j]?=some (f j):=by simp[ct,h]
def bf (l:List UInt8):dJ:=fun j=>l.getD j 0
theorem WI {l:List UInt8} (h:l.length=16):ct (bf l)=l:=by
  apply ab6;intro i;by_cases hi:i<16
  ·rw[uo _ hi,bf,aa0,aaY (by omega)]; rfl
  ·rw[abM (by rw[fZ]; omega),abM (by omega)]
theorem yf {f g:dJ} (h:Nn f g):ct f=ct g:=abL fun j hj=>h j (acD.1 hj)
def eb (rk:List UInt8) (n:Nat):dJ:=fun j=>rk.getD (16*n+j) 0
def eD (rk b:List UInt8):List UInt8:=ct (iZ (eb rk) (bf b) 10)
theorem jj (rk b:List UInt8):(eD rk b).length=16:=fZ _
def uV (key b:List UInt8):List UInt8:=eD (aP key) b
def dr:List UInt8→List UInt8×Bool
  | []=>([],true)
  | x::r=>let (s,c):=dr r; if c then ((x+1)::s,x+1==0) else (x::s,false)
def k8 (c:List UInt8):List UInt8:=(dr c).1
theorem yM:∀ c,(dr c).1.length=c.length
  | []=>rfl
  | x::r=>by
    have:=yM r;simp only[dr];split <;> simp[this]
theorem EJ (c:List UInt8):(k8 c).length=c.length:=yM c
def fo (c:List UInt8):Nat→List UInt8
  | 0=>c
  | n+1=>k8 (fo c n)
theorem G7 (c:List UInt8):∀ n,(fo c n).length=c.length
  | 0=>rfl
  | n+1=>by rw[fo,EJ,G7 c n]
def nH (rk c:List UInt8):Nat→List UInt8
  | 0=>[]
  | n+1=>nH rk c n++eD rk (fo c n)
theorem oD (rk c:List UInt8):∀ n,(nH rk c n).length=16*n
  | 0=>rfl
  | n+1=>by rw[nH,aa1,oD rk c n,jj]; omega
def mE (a b:List UInt8):List UInt8:=List.zipWith ak a b
def fO (rk c b:List UInt8):List UInt8:=mE b (nH rk c ((b.length+15) / 16))
theorem G8 {a b:List UInt8} (h:a.length≤b.length):(mE a b).length=a.length:=by
  simp[mE]; omega
theorem s7 (rk c b:List UInt8):(fO rk c b).length=b.length:=G8 (by rw[oD]; omega)
theorem Dt:∀ {a b:List UInt8},a.length≤b.length→mE (mE a b) b=a
  | [],_,_=>by simp[mE]
  | x::a,[],h=>by simp at h
  | x::a,y::b,h=>by
    have h1:=Dt (a:=a) (b:=b) (by simpa using h);simp only[mE,List.zipWith_cons_cons,List.cons.injEq] at h1 ⊢;exact⟨by rw[nZ,EI,yd],h1⟩
theorem OV (rk c b:List UInt8):fO rk c (fO rk c b)=b:=by
  unfold fO;have h:b.length≤(nH rk c ((b.length+15) / 16)).length:=by rw[oD]; omega
  rw[G8 h,Dt h]
def B9 (b:dJ):dJ:=fun j=>ak (ak (ew (b j) 1) (if j<15 then ez (b (j+1)) 7 else 0)) (if j=15 then kh (ki (b 0) 7) 135 else 0)
theorem WU (x y:UInt8):kv (ew x 1) (ez y 7)=ak (ew x 1) (ez y 7):=by
  have h:ez y 7=0∨ez y 7=1:=by
    have:=mn (p:=fun y=>ez y 7==0 || ez y 7==1) (by decide +kernel) y
    simpa using this
  rcases h with h | h <;> rw[h]
  ·have:=mn (p:=fun x=>kv (ew x 1) 0==ak (ew x 1) 0) (by decide +kernel) x;rw[beq_iff_eq] at this; exact this
  ·have:=mn (p:=fun x=>kv (ew x 1) 1==ak (ew x 1) 1) (by decide +kernel) x;rw[beq_iff_eq] at this; exact this
def fq (b:List UInt8):List UInt8:=if b.length=16 then ct (B9 (bf b)) else []
theorem mZ {b:List UInt8} (h:b.length=16):(fq b).length=16:=by rw[fq,if_pos h,fZ]
def cT:List UInt8→List UInt8→List UInt8
  | x::a,y::b=>ak x y::cT a b
  | a,_=>a
theorem iN:∀ a b:List UInt8,(cT a b).length=a.length
  | [],_=>by simp[cT]
  | x::a,[]=>rfl
  | x::a,y::b=>by simp[cT,iN a b]
theorem Hf:∀ (a b:List UInt8) (i:Nat),i<a.length→i<b.length→(cT a b).getD i 0=ak (a.getD i 0) (b.getD i 0)
  | [],_,_,h,_=>by simp at h
  | x::a,[],_,_,h=>by simp at h
  | x::a,y::b,0,_,_=>rfl
  | x::a,y::b,i+1,h,g=>by
    show (cT a b).getD i 0=_
    rw[Hf a b i (by simpa using h) (by simpa using g)]; rfl
def f8:List UInt8:=List.replicate 16 0
def i3 (b:List UInt8):List UInt8:=b++List.replicate ((16-b.length%16)%16) 0
def i5 (rk:List UInt8):List UInt8:=fq (eD rk f8)
def ln (rk:List UInt8):List UInt8:=fq (i5 rk)
def g9 (rk b:List UInt8):Nat→List UInt8
  | 0=>f8
  | n+1=>eD rk (cT (g9 rk b n) ((b.drop (16*n)).take 16))
def nq (b:List UInt8):Nat:=(b.length+15) / 16-1
def lq (rk e:List UInt8):List UInt8:=if e.length=16 then cT e (i5 rk) else cT (i3 (e++[128])) (ln rk)
def iw (rk b:List UInt8):List UInt8:=eD rk (cT (g9 rk b (nq b)) (lq rk (b.drop (16*nq b))))
theorem tH (rk b:List UInt8):∀ n,(g9 rk b n).length=16
  | 0=>by simp[g9,f8]
  | n+1=>jj _ _
theorem tI (rk b:List UInt8):(iw rk b).length=16:=jj _ _
theorem yR (rk:List UInt8):(i5 rk).length=16:=mZ (jj _ _)
theorem Sr (rk:List UInt8):(ln rk).length=16:=mZ (yR _)
theorem xP {b:List UInt8} (h:b.length<16):(i3 (b++[128])).length=16:=by
  simp[i3]; omega
theorem Ss {rk e:List UInt8} (h:e.length≤16):(lq rk e).length=16:=by
  unfold lq;split
  ·rw[iN]; assumption
  ·rw[iN,xP (by omega)]
def ix (rk:List UInt8) (l:List (List UInt8)):Nat→List UInt8
  | 0=>iw rk f8
  | n+1=>cT (fq (ix rk l n)) (iw rk (l.getD n []))
def jy (rk:List UInt8) (l:List (List UInt8)):List UInt8 :=
  if l.length=0 then iw rk (List.replicate 15 0++[1])
  else
    let d:=ix rk l (l.length-1)
    let s:=l.getD (l.length-1) []
    if 16≤s.length then iw rk (s.take (s.length-16)++cT (s.drop (s.length-16)) d)
    else iw rk (cT (fq d) (i3 (s++[128])))
theorem Hg (rk:List UInt8) (l:List (List UInt8)):∀ n,(ix rk l n).length=16
  | 0=>tI _ _
  | n+1=>by rw[ix,iN,mZ (Hg rk l n)]
theorem Su (rk:List UInt8) (l:List (List UInt8)):(jy rk l).length=16:=by
  unfold jy;split
  ·exact tI _ _
  ·dsimp only;split <;> exact tI _ _
theorem pG {σ:St} {p q r s:Nat×Option Kd} {x y z t:D} (h1:(cA σ p).bind (toW σ.h)=some x) (h2:(cA σ q).bind (toW σ.h)=some y) (h3:(cA σ r).bind (toW σ.h)=some z) (h4:(cA σ s).bind (toW σ.h)=some t):dq σ [p,q,r,s] (.tup [.c (.d x),.c (.d y),.c (.d z),.c (.d t)]):=by
  obtain⟨w1,e1,f1⟩:=abA.1 h1;obtain⟨w2,e2,f2⟩:=abA.1 h2;obtain⟨w3,e3,f3⟩:=abA.1 h3;obtain⟨w4,e4,f4⟩:=abA.1 h4;exact⟨[w1,w2,w3,w4],by simp[aR,e1,e2,e3,e4],.inr (.cons ⟨_,rfl,f1⟩ (.cons ⟨_,rfl,f2⟩ (.cons ⟨_,rfl,f3⟩ (.cons ⟨_,rfl,f4⟩ .nil))))⟩
theorem Px {σ:St} {p q:Nat×Option Kd} {id sz n s:Nat} {full:List D} {y:D} (h1:cA σ p=some (.c (.own id sz 0 n))) (e:σ.h id=some (.row s full)) (hn:n≤full.length) (h2:cA σ q=some (.c (.d y))):dq σ [p,q] (.tup [.c (.fr sz (full.take n)),.c (.d y)]):=by
  refine⟨[.c (.own id sz 0 n),.c (.d y)],by simp[aR,h1,h2],.inl ⟨by simp[W.ids,C.ids],.cons ⟨rfl,rfl,?_⟩ (.cons ?_ .nil)⟩⟩
  ·rw[e];exact⟨by simp[df,hn],trivial⟩
  ·cases y <;> rfl

theorem jM {a b : Prop} (l : a) (r : b) : a ∧ b := And.intro l r
section
variable {P:Program} {G:ah} {K:St→Prop} {r:List aX} {f:Nat→V} {h:au} {u:Nat→Bool} {d:Option Nat} {x y t:SX}
def OA (P:Program) (G:ah) (d:Option Nat) (r:List aX) (K:St→Prop) (f:Nat→V) (h:au) (u:Nat→Bool) (q:IntKind) (_:IntKind×Int):Prop:=aS (cX h u (d.getD 0) (.mp q []) (.mp (8*d.getD 0))) (cC P G d r K f)
theorem JK (q:IntKind):aH P G (⟨d,.mkMp q none,none⟩::r) K ⟨f,h,u⟩=aS (cX h u (d.getD 0) (.mp q []) (.mp (8*d.getD 0))) (cC P G d r K f):=by rw[bM _ rfl]; rfl
theorem HF (q:IntKind):aH P G (⟨d,.mkMp q (some x),none⟩::r) K ⟨f,h,u⟩=aS (dI (ev G f x)) (OA P G d r K f h u q):=by
  rw[bM _ rfl]
  show aS (if (dI (ev G f x)).isSome=true then _ else none) _=_
  cases dI (ev G f x) <;> rfl
theorem Mq (q:IntKind) (p:IntKind×Int):OA P G d r K f h u q p=aS (cX h u (d.getD 0) (.mp q []) (.mp (8*d.getD 0))) (cC P G d r K f):=rfl
theorem HG (q:IntKind) (z:D) (co:Bool):aH P G (⟨d,.mpGet q z co x y,none⟩::r) K ⟨f,h,u⟩=aS (gg h q z co (ev G f x) (dI (ev G f y))) (Cs P G d r K f h u):=by
  rw[bM _ rfl]; exact eU _ _ _
theorem HH (q:IntKind):aH P G (⟨d,.mpSet q x y t,none⟩::r) K ⟨f,h,u⟩=aS (pS h q (pQ (ev G f x)) (dI (ev G f y)) (pR (ev G f t))) (wZ P G d r K f u):=by
  rw[bM _ rfl]; exact eU _ _ _
def goT (P:Program) (G:ah) (d:Option Nat) (r:List aX) (K:St→Prop) (f:Nat→V) (h:au) (u:Nat→Bool) (p:IntKind×List (Int×D)):Prop:=aS (cX h u (d.getD 0) (.it p.1 p.2 none) (.ptr (8*d.getD 0) 1 0 0)) (cC P G d r K f)
theorem E5:aH P G (⟨d,.mpIter x,none⟩::r) K ⟨f,h,u⟩=aS (pu (ev G f x)) (goT P G d r K f h u):=by
  rw[bM _ rfl]
  show aS (match pu (ev G f x) with | some p=>_ | none=>none) _=_
  cases pu (ev G f x) <;> rfl
theorem Mr (q:IntKind) (es:List (Int×D)):goT P G d r K f h u (q,es)=aS (cX h u (d.getD 0) (.it q es none) (.ptr (8*d.getD 0) 1 0 0)) (cC P G d r K f):=rfl
theorem HI:aH P G (⟨d,.mpEnt x,none⟩::r) K ⟨f,h,u⟩=aS (mq h (ev G f x)) (Cs P G d r K f h u):=by
  rw[bM _ rfl]; exact eU _ _ _
theorem JL (id s:Nat):mq h (.w (.c (.ptr id s 0 0)))=wh (h id):=rfl
theorem JM (q:IntKind) (l:List (Int×D)) (p:Int×D):wh (some (.it q l (some p)))=some (.tup [.c (.d (.int q p.1)),.c (.d p.2)]):=rfl
theorem JN (q:IntKind) (es:List (Int×D)):pu (.w (.c (.d (.mp q es))))=some (q,es):=rfl
theorem JO (id:Nat):pQ (.w (.c (.mp id)))=some id:=rfl
theorem Ms (x:C):pR (.w (.c x))=some x:=rfl
def v8 (q:IntKind) (z:D) (co:Bool) (n:Int):Option Ob→Option V
  | some (.mp q' es)=>if q'=q then some (iW co (aU es n) (zC z)) else none
  | _=>none
theorem JP (q:IntKind) (z:D) (co:Bool) (id:Nat) (n:Int):gg h q z co (.w (.c (.mp id))) (some (q,n))=v8 q z co n (h id):=by
  unfold gg v8;simp only[true_and];rfl
theorem HJ (q:IntKind) (z:D) (co:Bool) (n:Int) (es:List (Int×C)):v8 q z co n (some (.mp q es))=some (iW co (aU es n) (zC z)):=by simp[v8]
theorem JQ (q:IntKind) (z:D) (es:List (Int×D)) (n:Int):gg h q z false (.w (.c (.d (.mp q es)))) (some (q,n))=some (.w (.c (.d ((aU es n).getD z)))):=by
  unfold gg iW;rcases hl:aU es n with _ | v <;> simp[hl]
theorem JR (q:IntKind) (z:D) (es:List (Int×D)) (n:Int):gg h q z true (.w (.c (.d (.mp q es)))) (some (q,n))=some (.tup [.c (.d ((aU es n).getD z)),.c (.d (.bool (aU es n).isSome))]):=by
  unfold gg iW;rcases hl:aU es n with _ | v <;> simp[hl]
theorem Mt (o:Option C) (z:C):iW false o z=.w (.c (o.getD z)):=rfl
theorem Mu (o:Option C) (z:C):iW true o z=.tup [.c (o.getD z),.c (.d (.bool o.isSome))]:=rfl
theorem Mv:zC (.sl [])=.nil:=rfl
theorem JS (b:Bool):zC (.bool b)=.d (.bool b):=rfl
theorem Mw (k:IntKind) (n:Int):zC (.int k n)=.d (.int k n):=rfl
def v9 (h:au) (q:IntKind) (id:Nat) (n:Int) (d:C):Option Ob→Option au
  | some (.mp q' es)=>if q'=q then some (upd h id (some (.mp q (cg es n d)))) else none
  | _=>none
theorem JU (q:IntKind) (id:Nat) (n:Int) (d:C):pS h q (some id) (some (q,n)) (some d)=v9 h q id n d (h id):=by
  unfold pS v9;simp only[true_and];rfl
theorem HK (q:IntKind) (id:Nat) (n:Int) (d:C) (es:List (Int×C)):v9 h q id n d (some (.mp q es))=some (upd h id (some (.mp q (cg es n d)))):=by simp[v9]
theorem Mx (id:Nat):(C.mp id).ids=[id]:=rfl
theorem My (g:Nat→Nat) (id:Nat):(C.mp id).ren g=.mp (g id):=rfl
def gQ (es:List (Int×D)):List (Int×C):=es.map fun p=>(p.1,.d p.2)
theorem JV:gQ []=[]:=rfl
theorem JW (es:List (Int×D)) (n:Int):aU (gQ es) n=(aU es n).map C.d:=by
  induction es with
  | nil=>rfl
  | cons p r ih =>
    obtain⟨y,x⟩:=p;by_cases e:y=n
    ·subst e; simp[aU,gQ]
    ·have k1:aU ((y,x)::r) n=aU r n:=by unfold aU; rw[abN (by simpa using e)]
     have k2:aU (gQ ((y,x)::r)) n=aU (gQ r) n:=by unfold aU gQ; rw[aa5,abN (by simpa using e)]
     rw[k1,k2,ih]
theorem HL (es:List (Int×D)) (n:Int) (d:D):cg (gQ es) n (.d d)=gQ (cg es n d):=by
  induction es with
  | nil=>rfl
  | cons p r ih =>
    obtain⟨y,x⟩:=p;simp only[gQ,aa5,cg] at *
    split
    ·rfl
    ·rw[ih]; rfl
theorem zU (es:List (Int×D)):(gQ es).flatMap (fun p=>p.2.ids)=[]:=by
  induction es with
  | nil=>rfl
  | cons p r ih=>simp only[gQ,aa5,abg] at *; rw[ih]; rfl
theorem JX (g:Nat→Nat) (es:List (Int×D)):(gQ es).map (fun p=>(p.1,p.2.ren g))=gQ es:=by
  induction es with
  | nil=>rfl
  | cons p r ih=>simp only[gQ,aa5] at *; rw[ih]; rfl
theorem dk:kL (jM @JK (jM @HF (jM @Mq (jM @HG (jM @HH (jM @E5 (jM @Mr (jM @HI (jM @JL (jM @JM (jM @JN (jM @JO (jM @Ms (jM @JP (jM @HJ (jM @JQ (jM @JR (jM @Mt (jM @Mu (jM @Mv (jM @JS (jM @Mw (jM @JU (jM @HK (jM @Mx (jM @My (jM @JV (jM @JW (jM @HL (jM @zU (jM @JX (jM @abO.{0} (@abX.{0}))))))))))))))))))))))))))))))))) :=
  jM @JK (jM @HF (jM @Mq (jM @HG (jM @HH (jM @E5 (jM @Mr (jM @HI (jM @JL (jM @JM (jM @JN (jM @JO (jM @Ms (jM @JP (jM @HJ (jM @JQ (jM @JR (jM @Mt (jM @Mu (jM @Mv (jM @JS (jM @Mw (jM @JU (jM @HK (jM @Mx (jM @My (jM @JV (jM @JW (jM @HL (jM @zU (jM @JX (jM @abO.{0} (@abX.{0}))))))))))))))))))))))))))))))))
end
theorem Mz {P:Program} {G:ah} {Q:AX→St→Prop} {f:Nat→V} {h:au} {u:Nat→Bool} {dn:Nat} {x:SX} {rest:List aX} {id s:Nat} {q:IntKind} {left:List (Int×D)} {last:Option (Int×D)} (hx:ev G f x=.w (.c (.ptr id s 0 0))) (hi:h id=some (.it q left last))
    (k1:left=[]→aH P G rest (Q .nrm) ⟨upd f dn (.tup [.c (.d (.bool false))]),h,u⟩)
    (k2:∀ j p,left[j]?=some p→aH P G rest (Q .nrm) ⟨upd f dn (.tup [.c (.d (.bool true)),.c (.d (.int q p.1)),.c (.d p.2)]),upd h id (some (.it q (left.eraseIdx j) (some p))),u⟩):bE P G (.nextM dn x rest) Q ⟨f,h,u⟩:=by
  show uK _ dn _ (ev G f x)
  rw[hx]
  show (match h id with | some (.it q left _)=>_ | _=>False)
  rw[hi];exact⟨k1,k2⟩
theorem Yb {P:Program} {G:ah} {Q:AX→St→Prop} {f:Nat→V} {h:au} {u:Nat→Bool} {t id:Nat} {c:aL} {q:IntKind} {es:List (Int×C)} {ds:List (Int×D)} (hx:f t=.w (.c (.mp id))) (hi:h id=some (.mp q es)) (hd:kU h es=some ds)
    (k:bE P G c Q ⟨upd f t (vd (.mp q ds)),upd (killAll h (es.map (·.2))) id none,u⟩):bE P G (.ghost t c) Q ⟨f,h,u⟩:=by
  show (match pW ⟨f,h,u⟩ t with | some τ=>bE P G c Q τ | none=>False)
  have:pW ⟨f,h,u⟩ t=some ⟨upd f t (vd (.mp q ds)),upd (killAll h (es.map (·.2))) id none,u⟩:=by
    unfold pW;simp only[hx,hi,hd,aca]
  rw[this];exact k
theorem Vk {α:Type} (x:Int):aU ([]:List (Int×α)) x=none:=rfl
theorem JY {α:Type} (es:List (Int×α)) (x y:Int) (v:α):aU (cg es x v) y=if y=x then some v else aU es y:=by
  induction es with
  | nil =>
    by_cases h:y=x
    ·subst h; simp[cg,aU]
    ·rw[if_neg h];unfold aU cg;rw[abN (by simpa using fun e=>h e.symm)]
  | cons p r ih =>
    obtain⟨k,w⟩:=p;simp only[cg];by_cases hk:k=x
    ·subst hk;rw[if_pos rfl];by_cases h:y=k
     ·subst h; simp[aU]
     ·rw[if_neg h];unfold aU;rw[abN (by simpa using fun e=>h e.symm),abN (by simpa using fun e=>h e.symm)]
    ·rw[if_neg hk];by_cases h:y=k
     ·subst h;rw[if_neg hk];simp[aU]
     ·have e1:aU ((k,w)::cg r x v) y=aU (cg r x v) y:=by
        unfold aU; rw[abN (by simpa using fun e=>h e.symm)]
      have e2:aU ((k,w)::r) y=aU r y:=by
        unfold aU; rw[abN (by simpa using fun e=>h e.symm)]
      rw[e1,e2,ih]
end Go.Proofs.YtlghfnidknfakaaGreatDoor
