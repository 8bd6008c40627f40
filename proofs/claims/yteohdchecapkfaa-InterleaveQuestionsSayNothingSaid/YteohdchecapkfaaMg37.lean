/- Texts of one's own, merged: from: The plain logic (20): words of 32 bits. Own work. -/
import Derived.Laws.BitsLemmas
import Derived.Laws.Bits64
import Derived.Laws.BitsAllLaws
import Derived.Test.YteohdchecapkfaaMg36
set_option linter.unusedVariables false
set_option linter.unusedSimpArgs false
namespace Go.Proofs.Yteohdchecapkfaa
open Go.RowKit IntWalk
def kA (x y:UInt32):UInt32:=x ^^^ y
def kB (x y:UInt32):UInt32:=x &&& y
def kP (x y:UInt32):UInt32:=x ||| y
def kC (x y:UInt32):UInt32:=x+y
def kD (x:UInt32):UInt32:=UInt32.ofNat (4294967295-x.toNat)
def kF (x:UInt32) (n:Nat):UInt32:=UInt32.ofNat (x.toNat / 2^n)
def kG (x:UInt32) (n:Nat):UInt32:=UInt32.ofNat (x.toNat*2^n)
def kk (b:UInt8):UInt32:=UInt32.ofNat b.toNat
theorem word_lt (x:UInt32):x.toNat<4294967296:=x.toNat_lt
theorem wW (x y:UInt32):bits .xor .u32 (x.toNat:Int) (y.toNat:Int)=((kA x y).toNat:Int):=by
  rw[u32_xor_nat _ _ (word_lt x) (word_lt y)]; simp[kA]
theorem wX (x y:UInt32):bits .and .u32 (x.toNat:Int) (y.toNat:Int)=((kB x y).toNat:Int):=by
  rw[u32_and_nat _ _ (word_lt x) (word_lt y)]; simp[kB]
theorem xJ (x y:UInt32):bits .or .u32 (x.toNat:Int) (y.toNat:Int)=((kP x y).toNat:Int):=by
  rw[u32_or_nat _ _ (word_lt x) (word_lt y)]; simp[kP]
theorem wY (x y:UInt32):IntKind.u32.wrap ((x.toNat:Int)+(y.toNat:Int))=((kC x y).toNat:Int):=by
  rw[IntKind.wrap_u32]; simp[kC]
theorem xK (x:UInt32) (n:Nat):(x.toNat:Int) / 2^n=((kF x n).toNat:Int):=by
  have h:x.toNat / 2^n<4294967296:=Nat.lt_of_le_of_lt (Nat.div_le_self _ _) (word_lt x);unfold kF;rw[UInt32.toNat_ofNat_of_lt' (by simpa [UInt32.size] using h)];simp
theorem xL (x:UInt32) (n:Nat):(x.toNat:Int)*2^n%4294967296=((kG x n).toNat:Int):=by
  unfold kG;simp
theorem xM (x:UInt32):(4294967295:Int)-(x.toNat:Int)=((kD x).toNat:Int):=by
  have h:=word_lt x;unfold kD;rw[UInt32.toNat_ofNat_of_lt' (by simp[UInt32.size]; omega)];omega
theorem wZ (b:UInt8):(b.toNat:Int)=((kk b).toNat:Int):=by
  have h:=b.toNat_lt;unfold kk;rw[UInt32.toNat_ofNat_of_lt' (by simp[UInt32.size]; omega)]
theorem mP (x y:UInt32):aS .xor (.w (.c (.d (wD x)))) (.w (.c (.d (wD y))))=some (wD (kA x y)):=by
  show aG .xor .u32 (x.toNat:Int) .u32 (y.toNat:Int)=_
  rw[gT,wW]; rfl
theorem mQ (x y:UInt32):aS .and (.w (.c (.d (wD x)))) (.w (.c (.d (wD y))))=some (wD (kB x y)):=by
  show aG .and .u32 (x.toNat:Int) .u32 (y.toNat:Int)=_
  rw[gS,wX]; rfl
theorem pk (x y:UInt32):aS .or (.w (.c (.d (wD x)))) (.w (.c (.d (wD y))))=some (wD (kP x y)):=by
  show aG .or .u32 (x.toNat:Int) .u32 (y.toNat:Int)=_
  rw[hO,xJ]; rfl
theorem mR (x y:UInt32):aS .add (.w (.c (.d (wD x)))) (.w (.c (.d (wD y))))=some (wD (kC x y)):=by
  show aG .add .u32 (x.toNat:Int) .u32 (y.toNat:Int)=_
  rw[jz,wY]; rfl
theorem mS (x:UInt32) (k:IntKind) (n:Int) (h:0≤n):aS .shl (.w (.c (.d (wD x)))) (.w (.c (.d (.int k n))))=some (wD (kG x (min n.toNat 32))):=by
  show aG .shl .u32 (x.toNat:Int) k n=_
  rw[jC _ _ _ _ h,IntKind.wrap_u32]
  show some (D.int .u32 ((x.toNat:Int)*2^min n.toNat 32%4294967296))=_
  rw[xL]; rfl
theorem mT (x:UInt32) (k:IntKind) (n:Int) (h:0≤n):aS .shr (.w (.c (.d (wD x)))) (.w (.c (.d (.int k n))))=some (wD (kF x (min n.toNat 32))):=by
  show aG .shr .u32 (x.toNat:Int) k n=_
  rw[jD _ _ _ _ h]
  show some (D.int .u32 ((x.toNat:Int) / 2^min n.toNat 32))=_
  rw[xK]; rfl
theorem pm (x:UInt32):dC .xor (.w (.c (.d (wD x))))=some (wD (kD x)):=by
  have:bits .xor .u32 4294967295 (x.toNat:Int)=(4294967295:Int)-(x.toNat:Int):=by
    have h:=x.toNat_lt;have h2:4294967295 ^^^ x.toNat=4294967295-x.toNat:=by
      have e:=congrArg BitVec.toNat (BitVec.allOnes_xor (x:=BitVec.ofNat 32 x.toNat));rw[BitVec.toNat_xor,BitVec.toNat_not,BitVec.toNat_allOnes,BitVec.toNat_ofNat,Nat.mod_eq_of_lt (by omega)] at e;omega
    have h3:=u32_xor_nat 4294967295 x.toNat (by decide) h;rw[h2] at h3;have h4:((4294967295:Nat):Int)=4294967295:=rfl;rw[h4] at h3;omega
  show some (D.int .u32 (bits .xor .u32 4294967295 (x.toNat:Int)))=_
  rw[this,xM]; rfl
theorem mU (x y:UInt32):aS .eql (.w (.c (.d (wD x)))) (.w (.c (.d (wD y))))=some (.bool (x==y)):=by
  show aG .eql .u32 (x.toNat:Int) .u32 (y.toNat:Int)=_
  rw[jA];by_cases h:x=y
  ·subst h; simp
  ·have:¬ ((x.toNat:Int)=(y.toNat:Int)):=fun e=>h (UInt32.toNat_inj.1 (by omega))
   simp[this,h]
theorem mV (x y:UInt32):aS .neq (.w (.c (.d (wD x)))) (.w (.c (.d (wD y))))=some (.bool (x != y)):=by
  show aG .neq .u32 (x.toNat:Int) .u32 (y.toNat:Int)=_
  rw[jB];by_cases h:x=y
  ·subst h; simp
  ·have:¬ ((x.toNat:Int)=(y.toNat:Int)):=fun e=>h (UInt32.toNat_inj.1 (by omega))
   simp[this,h]
theorem pn (b:UInt8):D.int .u32 (IntKind.u32.wrap (b.toNat:Int))=wD (kk b):=by
  have h:=b.toNat_lt;rw[IntWalk.u32_in _ (by omega),wZ]; rfl
def uX (x y:UInt8):UInt8:=x ^^^ y
def uY (x y:UInt8):UInt8:=x &&& y
def vi (x y:UInt8):UInt8:=x ||| y
theorem fe (x:UInt8):x.toNat<256:=x.toNat_lt
theorem mW (x y:UInt8):aS .xor (.w (.c (.d (bD x)))) (.w (.c (.d (bD y))))=some (bD (uX x y)):=by
  show aG .xor .u8 (x.toNat:Int) .u8 (y.toNat:Int)=_
  rw[gT,u8_xor_nat _ _ (fe x) (fe y)]; simp[uX,bD]
theorem mX (x y:UInt8):aS .and (.w (.c (.d (bD x)))) (.w (.c (.d (bD y))))=some (bD (uY x y)):=by
  show aG .and .u8 (x.toNat:Int) .u8 (y.toNat:Int)=_
  rw[gS,u8_and_nat _ _ (fe x) (fe y)]; simp[uY,bD]
theorem po (x y:UInt8):aS .or (.w (.c (.d (bD x)))) (.w (.c (.d (bD y))))=some (bD (vi x y)):=by
  show aG .or .u8 (x.toNat:Int) .u8 (y.toNat:Int)=_
  rw[hO,u8_or_nat _ _ (fe x) (fe y)]; simp[vi,bD]
theorem uZ (G:ap) (f:Nat→V):ev G f .u=.undef:=rfl
def uA (P:Program) (G:ap) (d:Option Nat) (r:List al) (K:St→Prop) (f:Nat→V) (h:af) (u:Nat→Bool) (F:Nat) (ds:List D):Prop:=ao P G r K ⟨aB f d (.w (.c (.d (.fn F ds)))),h,u⟩
theorem qY (P:Program) (G:ap) (d:Option Nat) (r:List al) (K:St→Prop) (f:Nat→V) (h:af) (u:Nat→Bool) (F:Nat) (xs:List SX):ao P G (⟨d,.clos F xs,none⟩::r) K ⟨f,h,u⟩=aw (bO (xs.map (ev G f))) (uA P G d r K f h u F):=by
  show (match (bO (xs.map (ev G f))).map fun ds=>((.w (.c (.d (.fn F ds))),h,u):R) with | some r=>_ | none=>False)=_
  cases bO (xs.map (ev G f)) <;> rfl
theorem pp (P:Program) (G:ap) (d:Option Nat) (r:List al) (K:St→Prop) (f:Nat→V) (h:af) (u:Nat→Bool) (F:Nat) (ds:List D):uA P G d r K f h u F ds=ao P G r K ⟨aB f d (.w (.c (.d (.fn F ds)))),h,u⟩:=rfl
theorem mY:bO []=some []:=rfl
theorem pq (cs:List D) (r:List V):bO (.w (.c (.rp cs))::r)=(bO r).map fun l=>.ref cs::l:=by
  simp only[bO,eW]; cases bO r <;> rfl
theorem mZ (k:IntKind) (n:Int) (r:List V):bO (.w (.c (.d (.int k n)))::r)=(bO r).map fun l=>.int k n::l:=by
  simp only[bO,eW]; cases bO r <;> rfl
theorem pt (es:List D) (r:List V):bO (.w (.c (.d (.sl es)))::r)=(bO r).map fun l=>.sl es::l:=by
  simp only[bO,eW]; cases bO r <;> rfl
def zY (P:Program) (G:ap) (body:aL) (K:AX→St→Prop) (e:AX) (s:St):Prop:=match e with | .nrm=>aJ P G body K s | _=>False
theorem pu (P:Program) (G:ap) (body:aL) (K:AX→St→Prop) (s:St):zY P G body K .nrm s=aJ P G body K s:=rfl
theorem m5 {P:Program} {G:ap} {d:Option Nat} {r:List al} {K:St→Prop} {f:Nat→V} {h:af} {u:Nat→Bool} {x y b:SX} (k:Kd):ao P G (⟨d,.storeX k x y b,none⟩::r) K ⟨f,h,u⟩=(fD (ev G f b) (ev G f x)=true∧ao P G (⟨d,.store k x y,none⟩::r) K ⟨f,h,u⟩):=by
  rw[aH _ rfl,aH _ rfl];simp only[ef];cases cN (ev G f y) with
  | none=>simp[aw]
  | some w =>
    cases hb:fD (ev G f b) (ev G f x) <;> simp[hb,aw]
theorem qZ (i a b c d e g:Nat):fD (.w (.c (.ptr i a b c))) (.w (.c (.ptr i d e g)))=true:=by simp[fD,V.ids,W.ids,C.ids]
def dF (i:Nat) (v:V):Bool:=!v.ids.contains i
def d6 (G:ap) (f:Nat→V) (i:Nat):List SX→Bool
  | []=>true
  | z::r=>dF i (ev G f z)&&d6 G f i r
def kQ (G:ap) (f:Nat→V) (h:af) (k:Kd) (l:List SX) (v:V):Option W:=bP h k (.undef::l.map (ev G f)) v
theorem m6 {P:Program} {G:ap} {d:Option Nat} {r:List al} {K:St→Prop} {f:Nat→V} {h:af} {u:Nat→Bool} {x:SX} (k:Kd) (l:List SX):ao P G (⟨d,.loadX k x (.u::l),none⟩::r) K ⟨f,h,u⟩=aw (kQ G f h k l (ev G f x)) (cU P G d r K f h u):=by
  rw[aH _ rfl];exact cb _ _ _
theorem q7 {G:ap} {f:Nat→V} {i:Nat}:∀ l:List SX,d6 G f i l=(l.map (ev G f)).all fun y=>!y.ids.contains i
  | []=>rfl
  | z::r=>by
    show (dF i (ev G f z)&&d6 G f i r)=_
    rw[q7 r]; rfl
theorem q8 (G:ap) (f:Nat→V) (h:af) (k:Kd) (l:List SX) (i a b c:Nat):kQ G f h k l (.w (.c (.ptr i a b c)))=cond (d6 G f i l) (cond (bi (h i)) (aO h k (.w (.c (.ptr i a b c)))) none) none:=by
  have e1:dR (.undef::l.map (ev G f)) (.w (.c (.ptr i a b c)))=d6 G f i l:=by
    rw[q7];simp[dR,V.ids,W.ids,C.ids]
  have e2:(!(V.undef::l.map (ev G f)).any cR || eV h (.w (.c (.ptr i a b c))))=bi (h i):=by
    simp[cR,eV]
  unfold kQ bP;rw[e1,e2];cases d6 G f i l <;> cases bi (h i) <;> rfl
theorem q9 (G:ap) (f:Nat→V) (i:Nat):d6 G f i []=true:=rfl
theorem pv (G:ap) (f:Nat→V) (i:Nat) (z:SX) (r:List SX):d6 G f i (z::r)=(dF i (ev G f z)&&d6 G f i r):=rfl
theorem rb (i j a b c:Nat):dF i (.w (.c (.ptr j a b c)))=!(i==j):=by
  by_cases h:i=j <;> simp[dF,V.ids,W.ids,C.ids,h]
theorem re (i j a b c:Nat):dF i (.w (.c (.own j a b c)))=!(i==j):=by
  by_cases h:i=j <;> simp[dF,V.ids,W.ids,C.ids,h]
theorem uB (i:Nat) (x:D):dF i (.w (.c (.d x)))=true:=rfl
theorem rh (i:Nat):dF i (.w (.c .nil))=true:=rfl
theorem tN (i:Nat) (cs:List D):dF i (.w (.c (.rp cs)))=true:=rfl
theorem rj (cs:List C):bi (some (.box cs))=true:=rfl
set_option maxRecDepth 100000
theorem jW {a b : Prop} (l : a) (r : b) : a ∧ b := And.intro l r
theorem wx:eL (jW @t5 (jW @t6 (jW @t7 (jW @t8 (jW @t9 (jW @rz (jW @rA (jW @rB (jW @rC (jW @rD (jW @rE (jW @rF (jW @rG (jW @rH (jW @rI (jW @rJ (jW @rK (jW @rL (jW @rM (jW @rN (jW @rO (jW @rP (jW @rQ (jW @rR (jW @rS (jW @rT (jW @rU (jW @rV (jW @rW (jW @rX (jW @rY (jW @rZ (jW @r6 (jW @r7 (jW @r8 (jW @r9 (jW @sd (jW @se (jW @sg (jW @si (jW @sq (jW @sr (jW @m6 (jW @m5 (jW @qZ (jW @q8 (jW @q9 (jW @pv (jW @rb (jW @re (jW @uB (jW @rh (jW @tN (jW @rj (jW @pD (jW @pE (jW @pF (jW @lW (jW @sx (jW @j4 (jW @jF (jW @rx (jW @ry (jW @rv (jW @j0 (jW @pz (jW @tY (jW @tZ (jW @t0 (jW @a8.eq_1 (jW @a8.eq_2 (jW @a8.eq_3 (jW @a8.eq_4 (jW @cE.eq_1 (jW @cE.eq_2 (jW @killAll.eq_1 (jW @killAll.eq_2 (jW @killAll.eq_3 (jW @uZ (jW @qY (jW @pp (jW @mY (jW @pq (jW @mZ (jW @pt (jW @pu (jW @ef.eq_1 (jW @ef.eq_2 (jW @ef.eq_3 (jW @ef.eq_4 (jW @ef.eq_5 (jW @ef.eq_6 (jW @ef.eq_7 (jW @ef.eq_8 (jW @ef.eq_9 (jW @ef.eq_10 (jW @ef.eq_11 (jW @ef.eq_12 (jW @ef.eq_13 (jW @ef.eq_14 (jW @ef.eq_15 (jW @ef.eq_16 (jW @ef.eq_17 (jW @ef.eq_18 (jW @ef.eq_19 (jW @ef.eq_20 (jW @ef.eq_21 (jW @ef.eq_22 (jW @ef.eq_23 (jW @ef.eq_24 (jW @ef.eq_25 (jW @ef.eq_26 (jW @ef.eq_27 (jW @ef.eq_28 (jW @ef.eq_29 (jW @ef.eq_30 (jW @ef.eq_31 (jW @ef.eq_32 (jW @ef.eq_33 (jW @ef.eq_34 (jW @ef.eq_35 (jW @ef.eq_36 (jW @ef.eq_37 (jW @ef.eq_38 (jW @ef.eq_39 (jW @ef.eq_40 (jW @ef.eq_41 (jW @ef.eq_42 (jW @ef.eq_43 (jW @ef.eq_44 (jW @ef.eq_45 (jW @ef.eq_46 (jW @ef.eq_47 (jW @ef.eq_48 (jW @ef.eq_49 (jW @ef.eq_50 (jW @ef.eq_51 (jW @ef.eq_52 (jW @ef.eq_53 (jW @ef.eq_54 (jW @bound.eq_1 (jW @bound.eq_2 (jW @dD.eq_1 (jW @dD.eq_2 (jW @dD.eq_3 (jW @dD.eq_4 (jW @cx.eq_1 (jW @aO.eq_1 (jW @aO.eq_2 (jW @aO.eq_3 (jW @aO.eq_4 (jW @aO.eq_5 (jW @aO.eq_6 (jW @aO.eq_7 (jW @aO.eq_8 (jW @bz.eq_1 (jW @bz.eq_2 (jW @bz.eq_3 (jW @bz.eq_4 (jW @bz.eq_5 (jW @bz.eq_6 (jW @bz.eq_7 (jW @qH (jW @cI.eq_1 (jW @cI.eq_2 (jW @parts.eq_1 (jW @parts.eq_2 (jW @elems.eq_1 (jW @elems.eq_2 (jW @cc.eq_1 (jW @uU (jW @uV (jW @tF (jW @qW (jW @tG (jW @ux (jW @tH (jW @tI (jW @tJ (jW @tK (jW @uz (jW @tL (jW @cu.eq_1 (jW @cu.eq_2 (jW @cu.eq_3 (jW @cu.eq_4 (jW @fo.eq_1 (jW @fo.eq_2 (jW @cm.eq_1 (jW @cm.eq_2 (jW @cm.eq_3 (jW @bF.eq_1 (jW @bF.eq_2 (jW @bF.eq_3 (jW @bF.eq_4 (jW @bK.eq_1 (jW @bK.eq_2 (jW @bK.eq_3 (jW @ba.eq_1 (jW @ba.eq_2 (jW @ba.eq_3 (jW @ba.eq_4 (jW @ba.eq_5 (jW @ba.eq_6 (jW @ba.eq_7 (jW @ba.eq_8 (jW @ba.eq_9 (jW @ba.eq_10 (jW @dl.eq_1 (jW @cn.eq_1 (jW @cn.eq_2 (jW @cn.eq_3 (jW @toW.eq_1 (jW @toW.eq_2 (jW @bh.eq_1 (jW @bh.eq_2 (jW @bh.eq_3 (jW @bh.eq_4 (jW @cv.eq_1 (jW @cv.eq_2 (jW @be.eq_1 (jW @be.eq_2 (jW @bH.eq_1 (jW @bH.eq_2 (jW @bH.eq_3 (jW @ints.eq_1 (jW @ints.eq_2 (jW @ints.eq_3 (jW @br.eq_1 (jW @br.eq_2 (jW @br.eq_3 (jW @cZ.eq_1 (jW @cZ.eq_2 (jW @cZ.eq_3 (jW @cZ.eq_4 (jW @W.ro.eq_1 (jW @W.ro.eq_2 (jW @C.ro.eq_1 (jW @C.ro.eq_2 (jW @V.ro.eq_1 (jW @V.ro.eq_2 (jW @V.ro.eq_3 (jW @ek.eq_1 (jW @ek.eq_2 (jW @ek.eq_3 (jW @Kd.size.eq_1 (jW @Kd.size.eq_2 (jW @mJ (jW @lR (jW @mK (jW @oU (jW @mL (jW @bq.eq_1 (jW @a9.eq_1 (jW @a9.eq_2 (jW @Nat.min_def (jW @Option.map_some.{0,0} (jW @Option.map_none.{0,0} (jW @Bool.not_true (jW @Bool.not_false (jW @decide_true (jW @decide_false (jW @Bool.and_self (jW @z9.{0,0} (jW @A2.{0,0} (jW @List.any_cons.{0} (jW @List.any_nil.{0} (jW @List.length_cons.{0} (jW @List.length_nil.{0} (jW @A7.{0} (jW @AF.{0} (jW @Aq.{0} (jW @if_true.{1} (jW @if_false.{1} (jW @true_and (jW @and_true (jW @vd.eq_1 (jW @Int.natCast_nonneg (jW @List.drop_zero.{0} (jW @List.take_length.{0} (jW @pd (jW @pf (jW @qQ (jW @qR (jW @o0 (jW @pb (jW @uq (jW @ut (jW @qO (jW @qP (jW @uu (jW @mP (jW @mQ (jW @pk (jW @mR (jW @mS (jW @mT (jW @mU (jW @mV (jW @mW (jW @mX (jW @po (jW @oJ (jW @oK (jW @oL (jW @oP (jW @oQ (jW @oR (jW @oS (jW @oT (jW @pi (jW @pj (jW @pm (jW @pn (jW @oZ (jW @oV (jW @oW (jW @oY (jW @List.set_cons_zero.{0} (jW @List.set_cons_succ.{0} (jW @qS (jW @qT (jW @Kd.ag.injEq (jW @Av.{0} (jW @AC.{0} (jW @gU (jW @qI (jW @jS (jW @tw (jW @jT (jW @tx (jW @qN (jW @oI (jW @List.nil_append.{0} (jW @AZ.{0} (jW @List.take_succ_cons.{0} (jW @List.take_zero.{0} (jW @List.drop_succ_cons.{0} (jW @List.take_nil.{0} (jW @List.drop_nil.{0} (jW @A8.{0} (jW @z8.{0,0} (jW @List.flatMap_nil.{0,0} (jW @Option.bind_some.{0,0} (jW @ne_eq.{1} (jW @not_false_eq_true (@not_true_eq_false))))))))))))))))))))))))))))))))))))))))))))))))))))))))))))))))))))))))))))))))))))))))))))))))))))))))))))))))))))))))))))))))))))))))))))))))))))))))))))))))))))))))))))))))))))))))))))))))))))))))))))))))))))))))))))))))))))))))))))))))))))))))))))))))))))))))))))))))))))))))))))))))))))))))))))))))))))))))))))))))))))))))))))))))))))))))))):=jW @t5 (jW @t6 (jW @t7 (jW @t8 (jW @t9 (jW @rz (jW @rA (jW @rB (jW @rC (jW @rD (jW @rE (jW @rF (jW @rG (jW @rH (jW @rI (jW @rJ (jW @rK (jW @rL (jW @rM (jW @rN (jW @rO (jW @rP (jW @rQ (jW @rR (jW @rS (jW @rT (jW @rU (jW @rV (jW @rW (jW @rX (jW @rY (jW @rZ (jW @r6 (jW @r7 (jW @r8 (jW @r9 (jW @sd (jW @se (jW @sg (jW @si (jW @sq (jW @sr (jW @m6 (jW @m5 (jW @qZ (jW @q8 (jW @q9 (jW @pv (jW @rb (jW @re (jW @uB (jW @rh (jW @tN (jW @rj (jW @pD (jW @pE (jW @pF (jW @lW (jW @sx (jW @j4 (jW @jF (jW @rx (jW @ry (jW @rv (jW @j0 (jW @pz (jW @tY (jW @tZ (jW @t0 (jW @a8.eq_1 (jW @a8.eq_2 (jW @a8.eq_3 (jW @a8.eq_4 (jW @cE.eq_1 (jW @cE.eq_2 (jW @killAll.eq_1 (jW @killAll.eq_2 (jW @killAll.eq_3 (jW @uZ (jW @qY (jW @pp (jW @mY (jW @pq (jW @mZ (jW @pt (jW @pu (jW @ef.eq_1 (jW @ef.eq_2 (jW @ef.eq_3 (jW @ef.eq_4 (jW @ef.eq_5 (jW @ef.eq_6 (jW @ef.eq_7 (jW @ef.eq_8 (jW @ef.eq_9 (jW @ef.eq_10 (jW @ef.eq_11 (jW @ef.eq_12 (jW @ef.eq_13 (jW @ef.eq_14 (jW @ef.eq_15 (jW @ef.eq_16 (jW @ef.eq_17 (jW @ef.eq_18 (jW @ef.eq_19 (jW @ef.eq_20 (jW @ef.eq_21 (jW @ef.eq_22 (jW @ef.eq_23 (jW @ef.eq_24 (jW @ef.eq_25 (jW @ef.eq_26 (jW @ef.eq_27 (jW @ef.eq_28 (jW @ef.eq_29 (jW @ef.eq_30 (jW @ef.eq_31 (jW @ef.eq_32 (jW @ef.eq_33 (jW @ef.eq_34 (jW @ef.eq_35 (jW @ef.eq_36 (jW @ef.eq_37 (jW @ef.eq_38 (jW @ef.eq_39 (jW @ef.eq_40 (jW @ef.eq_41 (jW @ef.eq_42 (jW @ef.eq_43 (jW @ef.eq_44 (jW @ef.eq_45 (jW @ef.eq_46 (jW @ef.eq_47 (jW @ef.eq_48 (jW @ef.eq_49 (jW @ef.eq_50 (jW @ef.eq_51 (jW @ef.eq_52 (jW @ef.eq_53 (jW @ef.eq_54 (jW @bound.eq_1 (jW @bound.eq_2 (jW @dD.eq_1 (jW @dD.eq_2 (jW @dD.eq_3 (jW @dD.eq_4 (jW @cx.eq_1 (jW @aO.eq_1 (jW @aO.eq_2 (jW @aO.eq_3 (jW @aO.eq_4 (jW @aO.eq_5 (jW @aO.eq_6 (jW @aO.eq_7 (jW @aO.eq_8 (jW @bz.eq_1 (jW @bz.eq_2 (jW @bz.eq_3 (jW @bz.eq_4 (jW @bz.eq_5 (jW @bz.eq_6 (jW @bz.eq_7 (jW @qH (jW @cI.eq_1 (jW @cI.eq_2 (jW @parts.eq_1 (jW @parts.eq_2 (jW @elems.eq_1 (jW @elems.eq_2 (jW @cc.eq_1 (jW @uU (jW @uV (jW @tF (jW @qW (jW @tG (jW @ux (jW @tH (jW @tI (jW @tJ (jW @tK (jW @uz (jW @tL (jW @cu.eq_1 (jW @cu.eq_2 (jW @cu.eq_3 (jW @cu.eq_4 (jW @fo.eq_1 (jW @fo.eq_2 (jW @cm.eq_1 (jW @cm.eq_2 (jW @cm.eq_3 (jW @bF.eq_1 (jW @bF.eq_2 (jW @bF.eq_3 (jW @bF.eq_4 (jW @bK.eq_1 (jW @bK.eq_2 (jW @bK.eq_3 (jW @ba.eq_1 (jW @ba.eq_2 (jW @ba.eq_3 (jW @ba.eq_4 (jW @ba.eq_5 (jW @ba.eq_6 (jW @ba.eq_7 (jW @ba.eq_8 (jW @ba.eq_9 (jW @ba.eq_10 (jW @dl.eq_1 (jW @cn.eq_1 (jW @cn.eq_2 (jW @cn.eq_3 (jW @toW.eq_1 (jW @toW.eq_2 (jW @bh.eq_1 (jW @bh.eq_2 (jW @bh.eq_3 (jW @bh.eq_4 (jW @cv.eq_1 (jW @cv.eq_2 (jW @be.eq_1 (jW @be.eq_2 (jW @bH.eq_1 (jW @bH.eq_2 (jW @bH.eq_3 (jW @ints.eq_1 (jW @ints.eq_2 (jW @ints.eq_3 (jW @br.eq_1 (jW @br.eq_2 (jW @br.eq_3 (jW @cZ.eq_1 (jW @cZ.eq_2 (jW @cZ.eq_3 (jW @cZ.eq_4 (jW @W.ro.eq_1 (jW @W.ro.eq_2 (jW @C.ro.eq_1 (jW @C.ro.eq_2 (jW @V.ro.eq_1 (jW @V.ro.eq_2 (jW @V.ro.eq_3 (jW @ek.eq_1 (jW @ek.eq_2 (jW @ek.eq_3 (jW @Kd.size.eq_1 (jW @Kd.size.eq_2 (jW @mJ (jW @lR (jW @mK (jW @oU (jW @mL (jW @bq.eq_1 (jW @a9.eq_1 (jW @a9.eq_2 (jW @Nat.min_def (jW @Option.map_some.{0,0} (jW @Option.map_none.{0,0} (jW @Bool.not_true (jW @Bool.not_false (jW @decide_true (jW @decide_false (jW @Bool.and_self (jW @z9.{0,0} (jW @A2.{0,0} (jW @List.any_cons.{0} (jW @List.any_nil.{0} (jW @List.length_cons.{0} (jW @List.length_nil.{0} (jW @A7.{0} (jW @AF.{0} (jW @Aq.{0} (jW @if_true.{1} (jW @if_false.{1} (jW @true_and (jW @and_true (jW @vd.eq_1 (jW @Int.natCast_nonneg (jW @List.drop_zero.{0} (jW @List.take_length.{0} (jW @pd (jW @pf (jW @qQ (jW @qR (jW @o0 (jW @pb (jW @uq (jW @ut (jW @qO (jW @qP (jW @uu (jW @mP (jW @mQ (jW @pk (jW @mR (jW @mS (jW @mT (jW @mU (jW @mV (jW @mW (jW @mX (jW @po (jW @oJ (jW @oK (jW @oL (jW @oP (jW @oQ (jW @oR (jW @oS (jW @oT (jW @pi (jW @pj (jW @pm (jW @pn (jW @oZ (jW @oV (jW @oW (jW @oY (jW @List.set_cons_zero.{0} (jW @List.set_cons_succ.{0} (jW @qS (jW @qT (jW @Kd.ag.injEq (jW @Av.{0} (jW @AC.{0} (jW @gU (jW @qI (jW @jS (jW @tw (jW @jT (jW @tx (jW @qN (jW @oI (jW @List.nil_append.{0} (jW @AZ.{0} (jW @List.take_succ_cons.{0} (jW @List.take_zero.{0} (jW @List.drop_succ_cons.{0} (jW @List.take_nil.{0} (jW @List.drop_nil.{0} (jW @A8.{0} (jW @z8.{0,0} (jW @List.flatMap_nil.{0,0} (jW @Option.bind_some.{0,0} (jW @ne_eq.{1} (jW @not_false_eq_true (@not_true_eq_false))))))))))))))))))))))))))))))))))))))))))))))))))))))))))))))))))))))))))))))))))))))))))))))))))))))))))))))))))))))))))))))))))))))))))))))))))))))))))))))))))))))))))))))))))))))))))))))))))))))))))))))))))))))))))))))))))))))))))))))))))))))))))))))))))))))))))))))))))))))))))))))))))))))))))))))))))))))))))))))))))))))))))))))))))))))))))
theorem wy:eL (jW @uv (jW @lA (jW @qU (jW @pg (jW @qV (jW @tE (jW @kj (jW @uw (@cond_true.{1}))))))))):=jW @uv (jW @lA (jW @qU (jW @pg (jW @qV (jW @tE (jW @kj (jW @uw (@cond_true.{1}))))))))
theorem wz:eL (jW @Bool.false_and (jW @Bool.and_false (jW @mO (jW @Nat.sub_zero (jW @mN (jW @lS (jW @beq_self_eq_true.{0} (jW @Bool.and_true (jW @Bool.true_and (jW @uO (jW @uP (jW @uQ (jW @uR (jW @uS (jW @uT (jW @List.replicate_zero.{0} (jW @Nat.mul_one (jW @Nat.one_mul (jW @A5 (jW @Nat.zero_add (jW @tB (jW @tC (jW @tD (jW @iq (jW @Int.natCast_add (jW @Int.natCast_mul (jW @Int.natCast_one (jW @Int.natCast_zero (@Int.cast_ofNat_Int))))))))))))))))))))))))))))):=jW @Bool.false_and (jW @Bool.and_false (jW @mO (jW @Nat.sub_zero (jW @mN (jW @lS (jW @beq_self_eq_true.{0} (jW @Bool.and_true (jW @Bool.true_and (jW @uO (jW @uP (jW @uQ (jW @uR (jW @uS (jW @uT (jW @List.replicate_zero.{0} (jW @Nat.mul_one (jW @Nat.one_mul (jW @A5 (jW @Nat.zero_add (jW @tB (jW @tC (jW @tD (jW @iq (jW @Int.natCast_add (jW @Int.natCast_mul (jW @Int.natCast_one (jW @Int.natCast_zero (@Int.cast_ofNat_Int))))))))))))))))))))))))))))
theorem fJ:eL (jW @V.ren.eq_1 (jW @V.ren.eq_2 (jW @V.ren.eq_3 (jW @W.ren.eq_1 (jW @W.ren.eq_2 (jW @C.ren.eq_1 (jW @C.ren.eq_2 (jW @C.ren.eq_3 (jW @C.ren.eq_4 (jW @C.ren.eq_5 (jW @C.ren.eq_6 (jW @V.ids.eq_1 (jW @V.ids.eq_2 (jW @V.ids.eq_3 (jW @W.ids.eq_1 (jW @W.ids.eq_2 (jW @C.ids.eq_1 (jW @C.ids.eq_2 (jW @C.ids.eq_3 (jW @C.ids.eq_4 (jW @C.ids.eq_5 (jW @C.ids.eq_6 (jW @Ob.ren.eq_1 (jW @Ob.ren.eq_2 (jW @Ob.ren.eq_3 (jW @Ob.ren.eq_4 (jW @Ob.ids.eq_1 (jW @Ob.ids.eq_2 (jW @Ob.ids.eq_3 (jW @Ob.ids.eq_4 (jW @Int.cast_ofNat_Int (jW @List.replicate_zero.{0} (jW @qJ (jW @oE (jW @qK (jW @oF (jW @id_eq.{1} (jW @Nat.mul_one (jW @Nat.mul_zero (jW @Nat.zero_mul (@List.flatten_nil.{0}))))))))))))))))))))))))))))))))))))))))):=jW @V.ren.eq_1 (jW @V.ren.eq_2 (jW @V.ren.eq_3 (jW @W.ren.eq_1 (jW @W.ren.eq_2 (jW @C.ren.eq_1 (jW @C.ren.eq_2 (jW @C.ren.eq_3 (jW @C.ren.eq_4 (jW @C.ren.eq_5 (jW @C.ren.eq_6 (jW @V.ids.eq_1 (jW @V.ids.eq_2 (jW @V.ids.eq_3 (jW @W.ids.eq_1 (jW @W.ids.eq_2 (jW @C.ids.eq_1 (jW @C.ids.eq_2 (jW @C.ids.eq_3 (jW @C.ids.eq_4 (jW @C.ids.eq_5 (jW @C.ids.eq_6 (jW @Ob.ren.eq_1 (jW @Ob.ren.eq_2 (jW @Ob.ren.eq_3 (jW @Ob.ren.eq_4 (jW @Ob.ids.eq_1 (jW @Ob.ids.eq_2 (jW @Ob.ids.eq_3 (jW @Ob.ids.eq_4 (jW @Int.cast_ofNat_Int (jW @List.replicate_zero.{0} (jW @qJ (jW @oE (jW @qK (jW @oF (jW @id_eq.{1} (jW @Nat.mul_one (jW @Nat.mul_zero (jW @Nat.zero_mul (@List.flatten_nil.{0}))))))))))))))))))))))))))))))))))))))))
theorem vj:eL (jW @Int.natCast_add (jW @Int.natCast_mul (jW @Int.natCast_one (@Int.natCast_zero)))):=jW @Int.natCast_add (jW @Int.natCast_mul (jW @Int.natCast_one (@Int.natCast_zero)))
theorem am:eL (jW @wx (jW @wy @wz)):=jW @wx (jW @wy @wz)
theorem aF {σ:St} {p:Nat×Option Kd} {x:D} (h1:(a9 σ p).bind (toW σ.h)=some x:=by simp only[am,ai,seval,iteOmega,toNatUp]):bR σ [p] (.w (.c (.d x))):=za h1
theorem d8 {σ:St} {p q:Nat×Option Kd} {x y:D} (h1:(a9 σ p).bind (toW σ.h)=some x:=by simp only[am,ai,seval,iteOmega,toNatUp]) (h2:(a9 σ q).bind (toW σ.h)=some y:=by simp only[am,ai,seval,iteOmega,toNatUp]):bR σ [p,q] (.tup [.c (.d x),.c (.d y)]):=tM h1 h2
theorem eC {σ:St} {p q r:Nat×Option Kd} {x y z:D} (h1:(a9 σ p).bind (toW σ.h)=some x:=by simp only[am,ai,seval,iteOmega,toNatUp]) (h2:(a9 σ q).bind (toW σ.h)=some y:=by simp only[am,ai,seval,iteOmega,toNatUp]) (h3:(a9 σ r).bind (toW σ.h)=some z:=by simp only[am,ai,seval,iteOmega,toNatUp]):bR σ [p,q,r] (.tup [.c (.d x),.c (.d y),.c (.d z)]):=zb h1 h2 h3
theorem sD {P:Program} {G:ap} {K:St→Prop} {r:List al} {f:Nat→V} {h:af} {u:Nat→Bool} {d:Option Nat} {fn:FuncId} {xs:List SX} {own:Option (Nat×Nat)} {ds:List D} {res:V} {q:Prop} (h2:aW P G fn ds res) (e:q)
    (hq:aw (br h u (d.getD 0) own res) (a5 P G d r K f)=q:=by simp only[am,ai,seval,iteOmega,toNatUp]; rfl) (h1:be h (xs.map (ev G f))=some ds:=by exact rfl)
    (h3:((xs.map (ev G f)).any V.hasOwn=false∨res.flat=true):=by exact .inl rfl) (hne:fn≠cH:=by decide) (hp:de own (xs.map (ev G f)):=by first | exact gP _ | exact gX _ _ _ | exact gQ _ _ rfl):ao P G (⟨d,.call fn xs own,none⟩::r) K ⟨f,h,u⟩ :=
  sC h2 (hq ▸ e) h1 h3 hne hp

theorem zM {σ:St} {p q r s:Nat×Option Kd} {x y z t:D} (h1:(a9 σ p).bind (toW σ.h)=some x) (h2:(a9 σ q).bind (toW σ.h)=some y) (h3:(a9 σ r).bind (toW σ.h)=some z) (h4:(a9 σ s).bind (toW σ.h)=some t):bR σ [p,q,r,s] (.tup [.c (.d x),.c (.d y),.c (.d z),.c (.d t)]):=by
  obtain⟨w1,e1,f1⟩:=Ao.1 h1;obtain⟨w2,e2,f2⟩:=Ao.1 h2;obtain⟨w3,e3,f3⟩:=Ao.1 h3;obtain⟨w4,e4,f4⟩:=Ao.1 h4;exact⟨[w1,w2,w3,w4],by simp[av,e1,e2,e3,e4],.inr (.cons ⟨_,rfl,f1⟩ (.cons ⟨_,rfl,f2⟩ (.cons ⟨_,rfl,f3⟩ (.cons ⟨_,rfl,f4⟩ .nil))))⟩
theorem fK {σ:St} {p q r s:Nat×Option Kd} {x y z t:D} (h1:(a9 σ p).bind (toW σ.h)=some x:=by simp only[am,ai,seval,iteOmega,toNatUp] <;> rfl) (h2:(a9 σ q).bind (toW σ.h)=some y:=by simp only[am,ai,seval,iteOmega,toNatUp] <;> rfl) (h3:(a9 σ r).bind (toW σ.h)=some z:=by simp only[am,ai,seval,iteOmega,toNatUp] <;> rfl) (h4:(a9 σ s).bind (toW σ.h)=some t:=by simp only[am,ai,seval,iteOmega,toNatUp] <;> rfl):bR σ [p,q,r,s] (.tup [.c (.d x),.c (.d y),.c (.d z),.c (.d t)]):=zM h1 h2 h3 h4
end Go.Proofs.Yteohdchecapkfaa
