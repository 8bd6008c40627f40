/- Texts of one's own, merged: from: The plain logic (20): words of 32 bits. Own work. -/
import Derived.Laws.BitsLemmas
import Derived.Laws.Bits64
import Derived.Laws.BitsAllLaws
import Derived.Test.YteohdchecapkfaaMg16
set_option linter.unusedVariables false
set_option linter.unusedSimpArgs false
namespace Go.Proofs.Yteohdchecapkfaa
open Go.RowKit IntWalk
def lA (x y:UInt32):UInt32:=x ^^^ y
def lB (x y:UInt32):UInt32:=x &&& y
def lQ (x y:UInt32):UInt32:=x ||| y
def lC (x y:UInt32):UInt32:=x+y
def lD (x:UInt32):UInt32:=UInt32.ofNat (4294967295-x.toNat)
def lE (x:UInt32) (n:Nat):UInt32:=UInt32.ofNat (x.toNat / 2^n)
def lF (x:UInt32) (n:Nat):UInt32:=UInt32.ofNat (x.toNat*2^n)
def lm (b:UInt8):UInt32:=UInt32.ofNat b.toNat
theorem word_lt (x:UInt32):x.toNat<4294967296:=x.toNat_lt
theorem yu (x y:UInt32):bits .xor .u32 (x.toNat:Int) (y.toNat:Int)=((lA x y).toNat:Int):=by
  rw[u32_xor_nat _ _ (word_lt x) (word_lt y)]; simp[lA]
theorem yx (x y:UInt32):bits .and .u32 (x.toNat:Int) (y.toNat:Int)=((lB x y).toNat:Int):=by
  rw[u32_and_nat _ _ (word_lt x) (word_lt y)]; simp[lB]
theorem zd (x y:UInt32):bits .or .u32 (x.toNat:Int) (y.toNat:Int)=((lQ x y).toNat:Int):=by
  rw[u32_or_nat _ _ (word_lt x) (word_lt y)]; simp[lQ]
theorem yy (x y:UInt32):IntKind.u32.wrap ((x.toNat:Int)+(y.toNat:Int))=((lC x y).toNat:Int):=by
  rw[IntKind.wrap_u32]; simp[lC]
theorem ze (x:UInt32) (n:Nat):(x.toNat:Int) / 2^n=((lE x n).toNat:Int):=by
  have h:x.toNat / 2^n<4294967296:=Nat.lt_of_le_of_lt (Nat.div_le_self _ _) (word_lt x);unfold lE;rw[UInt32.toNat_ofNat_of_lt' (by simpa [UInt32.size] using h)];simp
theorem zf (x:UInt32) (n:Nat):(x.toNat:Int)*2^n%4294967296=((lF x n).toNat:Int):=by
  unfold lF;simp
theorem zg (x:UInt32):(4294967295:Int)-(x.toNat:Int)=((lD x).toNat:Int):=by
  have h:=word_lt x;unfold lD;rw[UInt32.toNat_ofNat_of_lt' (by simp[UInt32.size]; omega)];omega
theorem yz (b:UInt8):(b.toNat:Int)=((lm b).toNat:Int):=by
  have h:=b.toNat_lt;unfold lm;rw[UInt32.toNat_ofNat_of_lt' (by simp[UInt32.size]; omega)]
theorem nG (x y:UInt32):aS .xor (.w (.c (.d (wD x)))) (.w (.c (.d (wD y))))=some (wD (lA x y)):=by
  show aG .xor .u32 (x.toNat:Int) .u32 (y.toNat:Int)=_
  rw[iH,yu]; rfl
theorem nH (x y:UInt32):aS .and (.w (.c (.d (wD x)))) (.w (.c (.d (wD y))))=some (wD (lB x y)):=by
  show aG .and .u32 (x.toNat:Int) .u32 (y.toNat:Int)=_
  rw[iG,yx]; rfl
theorem p6 (x y:UInt32):aS .or (.w (.c (.d (wD x)))) (.w (.c (.d (wD y))))=some (wD (lQ x y)):=by
  show aG .or .u32 (x.toNat:Int) .u32 (y.toNat:Int)=_
  rw[iU,zd]; rfl
theorem nI (x y:UInt32):aS .add (.w (.c (.d (wD x)))) (.w (.c (.d (wD y))))=some (wD (lC x y)):=by
  show aG .add .u32 (x.toNat:Int) .u32 (y.toNat:Int)=_
  rw[kr,yy]; rfl
theorem nJ (x:UInt32) (k:IntKind) (n:Int) (h:0≤n):aS .shl (.w (.c (.d (wD x)))) (.w (.c (.d (.int k n))))=some (wD (lF x (min n.toNat 32))):=by
  show aG .shl .u32 (x.toNat:Int) k n=_
  rw[kw _ _ _ _ h,IntKind.wrap_u32]
  show some (D.int .u32 ((x.toNat:Int)*2^min n.toNat 32%4294967296))=_
  rw[zf]; rfl
theorem nK (x:UInt32) (k:IntKind) (n:Int) (h:0≤n):aS .shr (.w (.c (.d (wD x)))) (.w (.c (.d (.int k n))))=some (wD (lE x (min n.toNat 32))):=by
  show aG .shr .u32 (x.toNat:Int) k n=_
  rw[kz _ _ _ _ h]
  show some (D.int .u32 ((x.toNat:Int) / 2^min n.toNat 32))=_
  rw[ze]; rfl
theorem p7 (x:UInt32):dY .xor (.w (.c (.d (wD x))))=some (wD (lD x)):=by
  have:bits .xor .u32 4294967295 (x.toNat:Int)=(4294967295:Int)-(x.toNat:Int):=by
    have h:=x.toNat_lt;have h2:4294967295 ^^^ x.toNat=4294967295-x.toNat:=by
      have e:=congrArg BitVec.toNat (BitVec.allOnes_xor (x:=BitVec.ofNat 32 x.toNat));rw[BitVec.toNat_xor,BitVec.toNat_not,BitVec.toNat_allOnes,BitVec.toNat_ofNat,Nat.mod_eq_of_lt (by omega)] at e;omega
    have h3:=u32_xor_nat 4294967295 x.toNat (by decide) h;rw[h2] at h3;have h4:((4294967295:Nat):Int)=4294967295:=rfl;rw[h4] at h3;omega
  show some (D.int .u32 (bits .xor .u32 4294967295 (x.toNat:Int)))=_
  rw[this,zg]; rfl
theorem nL (x y:UInt32):aS .eql (.w (.c (.d (wD x)))) (.w (.c (.d (wD y))))=some (.bool (x==y)):=by
  show aG .eql .u32 (x.toNat:Int) .u32 (y.toNat:Int)=_
  rw[ku];by_cases h:x=y
  ·subst h; simp
  ·have:¬ ((x.toNat:Int)=(y.toNat:Int)):=fun e=>h (UInt32.toNat_inj.1 (by omega))
   simp[this,h]
theorem nM (x y:UInt32):aS .neq (.w (.c (.d (wD x)))) (.w (.c (.d (wD y))))=some (.bool (x != y)):=by
  show aG .neq .u32 (x.toNat:Int) .u32 (y.toNat:Int)=_
  rw[kv];by_cases h:x=y
  ·subst h; simp
  ·have:¬ ((x.toNat:Int)=(y.toNat:Int)):=fun e=>h (UInt32.toNat_inj.1 (by omega))
   simp[this,h]
theorem p8 (b:UInt8):D.int .u32 (IntKind.u32.wrap (b.toNat:Int))=wD (lm b):=by
  have h:=b.toNat_lt;rw[IntWalk.u32_in _ (by omega),yz]; rfl
def wF (x y:UInt8):UInt8:=x ^^^ y
def wG (x y:UInt8):UInt8:=x &&& y
def wX (x y:UInt8):UInt8:=x ||| y
theorem fU (x:UInt8):x.toNat<256:=x.toNat_lt
theorem nN (x y:UInt8):aS .xor (.w (.c (.d (bD x)))) (.w (.c (.d (bD y))))=some (bD (wF x y)):=by
  show aG .xor .u8 (x.toNat:Int) .u8 (y.toNat:Int)=_
  rw[iH,u8_xor_nat _ _ (fU x) (fU y)]; simp[wF,bD]
theorem nO (x y:UInt8):aS .and (.w (.c (.d (bD x)))) (.w (.c (.d (bD y))))=some (bD (wG x y)):=by
  show aG .and .u8 (x.toNat:Int) .u8 (y.toNat:Int)=_
  rw[iG,u8_and_nat _ _ (fU x) (fU y)]; simp[wG,bD]
theorem p9 (x y:UInt8):aS .or (.w (.c (.d (bD x)))) (.w (.c (.d (bD y))))=some (bD (wX x y)):=by
  show aG .or .u8 (x.toNat:Int) .u8 (y.toNat:Int)=_
  rw[iU,u8_or_nat _ _ (fU x) (fU y)]; simp[wX,bD]
theorem wH (G:ap) (f:Nat→V):ev G f .u=.undef:=rfl
def vT (P:Program) (G:ap) (d:Option Nat) (r:List am) (K:St→Prop) (f:Nat→V) (h:ah) (u:Nat→Bool) (F:Nat) (ds:List D):Prop:=ao P G r K ⟨aB f d (.w (.c (.d (.fn F ds)))),h,u⟩
theorem r7 (P:Program) (G:ap) (d:Option Nat) (r:List am) (K:St→Prop) (f:Nat→V) (h:ah) (u:Nat→Bool) (F:Nat) (xs:List SX):ao P G (⟨d,.clos F xs,none⟩::r) K ⟨f,h,u⟩=aw (bU (xs.map (ev G f))) (vT P G d r K f h u F):=by
  show (match (bU (xs.map (ev G f))).map fun ds=>((.w (.c (.d (.fn F ds))),h,u):R) with | some r=>_ | none=>False)=_
  cases bU (xs.map (ev G f)) <;> rfl
theorem qa (P:Program) (G:ap) (d:Option Nat) (r:List am) (K:St→Prop) (f:Nat→V) (h:ah) (u:Nat→Bool) (F:Nat) (ds:List D):vT P G d r K f h u F ds=ao P G r K ⟨aB f d (.w (.c (.d (.fn F ds)))),h,u⟩:=rfl
theorem nP:bU []=some []:=rfl
theorem qc (cs:List D) (r:List V):bU (.w (.c (.rp cs))::r)=(bU r).map fun l=>.ref cs::l:=by
  simp only[bU,dW]; cases bU r <;> rfl
theorem nQ (k:IntKind) (n:Int) (r:List V):bU (.w (.c (.d (.int k n)))::r)=(bU r).map fun l=>.int k n::l:=by
  simp only[bU,dW]; cases bU r <;> rfl
theorem qd (es:List D) (r:List V):bU (.w (.c (.d (.sl es)))::r)=(bU r).map fun l=>.sl es::l:=by
  simp only[bU,dW]; cases bU r <;> rfl
def BG (P:Program) (G:ap) (body:aO) (K:AX→St→Prop) (e:AX) (s:St):Prop:=match e with | .nrm=>aI P G body K s | _=>False
theorem qe (P:Program) (G:ap) (body:aO) (K:AX→St→Prop) (s:St):BG P G body K .nrm s=aI P G body K s:=rfl
theorem nR {P:Program} {G:ap} {d:Option Nat} {r:List am} {K:St→Prop} {f:Nat→V} {h:ah} {u:Nat→Bool} {x y b:SX} (k:Kd):ao P G (⟨d,.storeX k x y b,none⟩::r) K ⟨f,h,u⟩=(gv (ev G f b) (ev G f x)=true∧ao P G (⟨d,.store k x y,none⟩::r) K ⟨f,h,u⟩):=by
  rw[aH _ rfl,aH _ rfl];simp only[ef];cases cQ (ev G f y) with
  | none=>simp[aw]
  | some w =>
    cases hb:gv (ev G f b) (ev G f x) <;> simp[hb,aw]
theorem r8 (i a b c d e g:Nat):gv (.w (.c (.ptr i a b c))) (.w (.c (.ptr i d e g)))=true:=by simp[gv,V.ids,W.ids,C.ids]
def d8 (i:Nat) (v:V):Bool:=!v.ids.contains i
def eO (G:ap) (f:Nat→V) (i:Nat):List SX→Bool
  | []=>true
  | z::r=>d8 i (ev G f z)&&eO G f i r
def lR (G:ap) (f:Nat→V) (h:ah) (k:Kd) (l:List SX) (v:V):Option W:=bV h k (.undef::l.map (ev G f)) v
theorem nS {P:Program} {G:ap} {d:Option Nat} {r:List am} {K:St→Prop} {f:Nat→V} {h:ah} {u:Nat→Bool} {x:SX} (k:Kd) (l:List SX):ao P G (⟨d,.loadX k x (.u::l),none⟩::r) K ⟨f,h,u⟩=aw (lR G f h k l (ev G f x)) (dj P G d r K f h u):=by
  rw[aH _ rfl];exact cp _ _ _
theorem r9 {G:ap} {f:Nat→V} {i:Nat}:∀ l:List SX,eO G f i l=(l.map (ev G f)).all fun y=>!y.ids.contains i
  | []=>rfl
  | z::r=>by
    show (d8 i (ev G f z)&&eO G f i r)=_
    rw[r9 r]; rfl
theorem sd (G:ap) (f:Nat→V) (h:ah) (k:Kd) (l:List SX) (i a b c:Nat):lR G f h k l (.w (.c (.ptr i a b c)))=cond (eO G f i l) (cond (be (h i)) (aQ h k (.w (.c (.ptr i a b c)))) none) none:=by
  have e1:eC (.undef::l.map (ev G f)) (.w (.c (.ptr i a b c)))=eO G f i l:=by
    rw[r9];simp[eC,V.ids,W.ids,C.ids]
  have e2:(!(V.undef::l.map (ev G f)).any de || fD h (.w (.c (.ptr i a b c))))=be (h i):=by
    simp[de,fD]
  unfold lR bV;rw[e1,e2];cases eO G f i l <;> cases be (h i) <;> rfl
theorem se (G:ap) (f:Nat→V) (i:Nat):eO G f i []=true:=rfl
theorem qf (G:ap) (f:Nat→V) (i:Nat) (z:SX) (r:List SX):eO G f i (z::r)=(d8 i (ev G f z)&&eO G f i r):=rfl
theorem sg (i j a b c:Nat):d8 i (.w (.c (.ptr j a b c)))=!(i==j):=by
  by_cases h:i=j <;> simp[d8,V.ids,W.ids,C.ids,h]
theorem si (i j a b c:Nat):d8 i (.w (.c (.own j a b c)))=!(i==j):=by
  by_cases h:i=j <;> simp[d8,V.ids,W.ids,C.ids,h]
theorem vU (i:Nat) (x:D):d8 i (.w (.c (.d x)))=true:=rfl
theorem sq (i:Nat):d8 i (.w (.c .nil))=true:=rfl
theorem uV (i:Nat) (cs:List D):d8 i (.w (.c (.rp cs)))=true:=rfl
theorem sr (cs:List C):be (some (.box cs))=true:=rfl
set_option maxRecDepth 100000
theorem jW {a b : Prop} (l : a) (r : b) : a ∧ b := And.intro l r
theorem wx:dR (jW @vt (jW @vu (jW @vw (jW @vx (jW @vy (jW @sR (jW @sS (jW @sT (jW @sU (jW @sV (jW @sW (jW @sX (jW @sY (jW @sZ (jW @s4 (jW @s5 (jW @s6 (jW @s7 (jW @s8 (jW @s9 (jW @ta (jW @tc (jW @td (jW @te (jW @tg (jW @ti (jW @tj (jW @tk (jW @tl (jW @tm (jW @tn (jW @tp (jW @tq (jW @tu (jW @tv (jW @tw (jW @tx (jW @tz (jW @tA (jW @tB (jW @tC (jW @tD (jW @nS (jW @nR (jW @r8 (jW @sd (jW @se (jW @qf (jW @sg (jW @si (jW @vU (jW @sq (jW @uV (jW @sr (jW @qx (jW @qy (jW @qz (jW @mN (jW @sx (jW @kS (jW @kC (jW @sP (jW @sQ (jW @sO (jW @kR (jW @qv (jW @vo (jW @vp (jW @vq (jW @bn.eq_1 (jW @bn.eq_2 (jW @bn.eq_3 (jW @bn.eq_4 (jW @cM.eq_1 (jW @cM.eq_2 (jW @killAll.eq_1 (jW @killAll.eq_2 (jW @killAll.eq_3 (jW @wH (jW @r7 (jW @qa (jW @nP (jW @qc (jW @nQ (jW @qd (jW @qe (jW @ef.eq_1 (jW @ef.eq_2 (jW @ef.eq_3 (jW @ef.eq_4 (jW @ef.eq_5 (jW @ef.eq_6 (jW @ef.eq_7 (jW @ef.eq_8 (jW @ef.eq_9 (jW @ef.eq_10 (jW @ef.eq_11 (jW @ef.eq_12 (jW @ef.eq_13 (jW @ef.eq_14 (jW @ef.eq_15 (jW @ef.eq_16 (jW @ef.eq_17 (jW @ef.eq_18 (jW @ef.eq_19 (jW @ef.eq_20 (jW @ef.eq_21 (jW @ef.eq_22 (jW @ef.eq_23 (jW @ef.eq_24 (jW @ef.eq_25 (jW @ef.eq_26 (jW @ef.eq_27 (jW @ef.eq_28 (jW @ef.eq_29 (jW @ef.eq_30 (jW @ef.eq_31 (jW @ef.eq_32 (jW @ef.eq_33 (jW @ef.eq_34 (jW @ef.eq_35 (jW @ef.eq_36 (jW @ef.eq_37 (jW @ef.eq_38 (jW @ef.eq_39 (jW @ef.eq_40 (jW @ef.eq_41 (jW @ef.eq_42 (jW @ef.eq_43 (jW @ef.eq_44 (jW @ef.eq_45 (jW @ef.eq_46 (jW @ef.eq_47 (jW @ef.eq_48 (jW @ef.eq_49 (jW @ef.eq_50 (jW @ef.eq_51 (jW @ef.eq_52 (jW @ef.eq_53 (jW @ef.eq_54 (jW @bound.eq_1 (jW @bound.eq_2 (jW @dZ.eq_1 (jW @dZ.eq_2 (jW @dZ.eq_3 (jW @dZ.eq_4 (jW @cG.eq_1 (jW @aQ.eq_1 (jW @aQ.eq_2 (jW @aQ.eq_3 (jW @aQ.eq_4 (jW @aQ.eq_5 (jW @aQ.eq_6 (jW @aQ.eq_7 (jW @aQ.eq_8 (jW @bL.eq_1 (jW @bL.eq_2 (jW @bL.eq_3 (jW @bL.eq_4 (jW @bL.eq_5 (jW @bL.eq_6 (jW @bL.eq_7 (jW @rL (jW @cR.eq_1 (jW @cR.eq_2 (jW @parts.eq_1 (jW @parts.eq_2 (jW @elems.eq_1 (jW @elems.eq_2 (jW @cr.eq_1 (jW @ww (jW @wC (jW @uO (jW @r6 (jW @uP (jW @vR (jW @uQ (jW @uR (jW @uS (jW @uT (jW @vS (jW @uU (jW @cN.eq_1 (jW @cN.eq_2 (jW @cN.eq_3 (jW @cN.eq_4 (jW @gb.eq_1 (jW @gb.eq_2 (jW @cx.eq_1 (jW @cx.eq_2 (jW @cx.eq_3 (jW @bQ.eq_1 (jW @bQ.eq_2 (jW @bQ.eq_3 (jW @bQ.eq_4 (jW @bS.eq_1 (jW @bS.eq_2 (jW @bS.eq_3 (jW @bp.eq_1 (jW @bp.eq_2 (jW @bp.eq_3 (jW @bp.eq_4 (jW @bp.eq_5 (jW @bp.eq_6 (jW @bp.eq_7 (jW @bp.eq_8 (jW @bp.eq_9 (jW @bp.eq_10 (jW @dI.eq_1 (jW @cy.eq_1 (jW @cy.eq_2 (jW @cy.eq_3 (jW @toW.eq_1 (jW @toW.eq_2 (jW @bA.eq_1 (jW @bA.eq_2 (jW @bA.eq_3 (jW @bA.eq_4 (jW @cE.eq_1 (jW @cE.eq_2 (jW @bu.eq_1 (jW @bu.eq_2 (jW @bR.eq_1 (jW @bR.eq_2 (jW @bR.eq_3 (jW @ints.eq_1 (jW @ints.eq_2 (jW @ints.eq_3 (jW @bI.eq_1 (jW @bI.eq_2 (jW @bI.eq_3 (jW @dp.eq_1 (jW @dp.eq_2 (jW @dp.eq_3 (jW @dp.eq_4 (jW @W.ro.eq_1 (jW @W.ro.eq_2 (jW @C.ro.eq_1 (jW @C.ro.eq_2 (jW @V.ro.eq_1 (jW @V.ro.eq_2 (jW @V.ro.eq_3 (jW @eZ.eq_1 (jW @eZ.eq_2 (jW @eZ.eq_3 (jW @Kd.size.eq_1 (jW @Kd.size.eq_2 (jW @nA (jW @mI (jW @nB (jW @pP (jW @nC (jW @bF.eq_1 (jW @ba.eq_1 (jW @ba.eq_2 (jW @Nat.min_def (jW @CU.{0,0} (jW @Option.map_none.{0,0} (jW @Bool.not_true (jW @Bool.not_false (jW @decide_true (jW @decide_false (jW @Bool.and_self (jW @BO.{0,0} (jW @B0.{0,0} (jW @List.any_cons.{0} (jW @List.any_nil.{0} (jW @List.length_cons.{0} (jW @List.length_nil.{0} (jW @CV.{0} (jW @Cu.{0} (jW @Cf.{0} (jW @if_true.{1} (jW @if_false.{1} (jW @true_and (jW @and_true (jW @vd.eq_1 (jW @Int.natCast_nonneg (jW @List.drop_zero.{0} (jW @List.take_length.{0} (jW @pW (jW @pX (jW @rU (jW @rV (jW @pU (jW @pV (jW @vK (jW @vL (jW @rS (jW @rT (jW @vM (jW @nG (jW @nH (jW @p6 (jW @nI (jW @nJ (jW @nK (jW @nL (jW @nM (jW @nN (jW @nO (jW @p9 (jW @pH (jW @pI (jW @pJ (jW @pK (jW @pL (jW @pM (jW @pN (jW @pO (jW @pZ (jW @p0 (jW @p7 (jW @p8 (jW @pT (jW @pQ (jW @pR (jW @pS (jW @List.set_cons_zero.{0} (jW @List.set_cons_succ.{0} (jW @rW (jW @rX (jW @Kd.ag.injEq (jW @Ck.{0} (jW @Cw.{0} (jW @iI (jW @rM (jW @fv (jW @uE (jW @iV (jW @uF (jW @rQ (jW @pG (jW @List.nil_append.{0} (jW @CL.{0} (jW @List.take_succ_cons.{0} (jW @List.take_zero.{0} (jW @List.drop_succ_cons.{0} (jW @List.take_nil.{0} (jW @List.drop_nil.{0} (jW @List.append_nil.{0} (jW @BU.{0,0} (jW @List.flatMap_nil.{0,0} (jW @Option.bind_some.{0,0} (jW @ne_eq.{1} (jW @not_false_eq_true (@not_true_eq_false))))))))))))))))))))))))))))))))))))))))))))))))))))))))))))))))))))))))))))))))))))))))))))))))))))))))))))))))))))))))))))))))))))))))))))))))))))))))))))))))))))))))))))))))))))))))))))))))))))))))))))))))))))))))))))))))))))))))))))))))))))))))))))))))))))))))))))))))))))))))))))))))))))))))))))))))))))))))))))))))))))))))))))))))))))))))))):=jW @vt (jW @vu (jW @vw (jW @vx (jW @vy (jW @sR (jW @sS (jW @sT (jW @sU (jW @sV (jW @sW (jW @sX (jW @sY (jW @sZ (jW @s4 (jW @s5 (jW @s6 (jW @s7 (jW @s8 (jW @s9 (jW @ta (jW @tc (jW @td (jW @te (jW @tg (jW @ti (jW @tj (jW @tk (jW @tl (jW @tm (jW @tn (jW @tp (jW @tq (jW @tu (jW @tv (jW @tw (jW @tx (jW @tz (jW @tA (jW @tB (jW @tC (jW @tD (jW @nS (jW @nR (jW @r8 (jW @sd (jW @se (jW @qf (jW @sg (jW @si (jW @vU (jW @sq (jW @uV (jW @sr (jW @qx (jW @qy (jW @qz (jW @mN (jW @sx (jW @kS (jW @kC (jW @sP (jW @sQ (jW @sO (jW @kR (jW @qv (jW @vo (jW @vp (jW @vq (jW @bn.eq_1 (jW @bn.eq_2 (jW @bn.eq_3 (jW @bn.eq_4 (jW @cM.eq_1 (jW @cM.eq_2 (jW @killAll.eq_1 (jW @killAll.eq_2 (jW @killAll.eq_3 (jW @wH (jW @r7 (jW @qa (jW @nP (jW @qc (jW @nQ (jW @qd (jW @qe (jW @ef.eq_1 (jW @ef.eq_2 (jW @ef.eq_3 (jW @ef.eq_4 (jW @ef.eq_5 (jW @ef.eq_6 (jW @ef.eq_7 (jW @ef.eq_8 (jW @ef.eq_9 (jW @ef.eq_10 (jW @ef.eq_11 (jW @ef.eq_12 (jW @ef.eq_13 (jW @ef.eq_14 (jW @ef.eq_15 (jW @ef.eq_16 (jW @ef.eq_17 (jW @ef.eq_18 (jW @ef.eq_19 (jW @ef.eq_20 (jW @ef.eq_21 (jW @ef.eq_22 (jW @ef.eq_23 (jW @ef.eq_24 (jW @ef.eq_25 (jW @ef.eq_26 (jW @ef.eq_27 (jW @ef.eq_28 (jW @ef.eq_29 (jW @ef.eq_30 (jW @ef.eq_31 (jW @ef.eq_32 (jW @ef.eq_33 (jW @ef.eq_34 (jW @ef.eq_35 (jW @ef.eq_36 (jW @ef.eq_37 (jW @ef.eq_38 (jW @ef.eq_39 (jW @ef.eq_40 (jW @ef.eq_41 (jW @ef.eq_42 (jW @ef.eq_43 (jW @ef.eq_44 (jW @ef.eq_45 (jW @ef.eq_46 (jW @ef.eq_47 (jW @ef.eq_48 (jW @ef.eq_49 (jW @ef.eq_50 (jW @ef.eq_51 (jW @ef.eq_52 (jW @ef.eq_53 (jW @ef.eq_54 (jW @bound.eq_1 (jW @bound.eq_2 (jW @dZ.eq_1 (jW @dZ.eq_2 (jW @dZ.eq_3 (jW @dZ.eq_4 (jW @cG.eq_1 (jW @aQ.eq_1 (jW @aQ.eq_2 (jW @aQ.eq_3 (jW @aQ.eq_4 (jW @aQ.eq_5 (jW @aQ.eq_6 (jW @aQ.eq_7 (jW @aQ.eq_8 (jW @bL.eq_1 (jW @bL.eq_2 (jW @bL.eq_3 (jW @bL.eq_4 (jW @bL.eq_5 (jW @bL.eq_6 (jW @bL.eq_7 (jW @rL (jW @cR.eq_1 (jW @cR.eq_2 (jW @parts.eq_1 (jW @parts.eq_2 (jW @elems.eq_1 (jW @elems.eq_2 (jW @cr.eq_1 (jW @ww (jW @wC (jW @uO (jW @r6 (jW @uP (jW @vR (jW @uQ (jW @uR (jW @uS (jW @uT (jW @vS (jW @uU (jW @cN.eq_1 (jW @cN.eq_2 (jW @cN.eq_3 (jW @cN.eq_4 (jW @gb.eq_1 (jW @gb.eq_2 (jW @cx.eq_1 (jW @cx.eq_2 (jW @cx.eq_3 (jW @bQ.eq_1 (jW @bQ.eq_2 (jW @bQ.eq_3 (jW @bQ.eq_4 (jW @bS.eq_1 (jW @bS.eq_2 (jW @bS.eq_3 (jW @bp.eq_1 (jW @bp.eq_2 (jW @bp.eq_3 (jW @bp.eq_4 (jW @bp.eq_5 (jW @bp.eq_6 (jW @bp.eq_7 (jW @bp.eq_8 (jW @bp.eq_9 (jW @bp.eq_10 (jW @dI.eq_1 (jW @cy.eq_1 (jW @cy.eq_2 (jW @cy.eq_3 (jW @toW.eq_1 (jW @toW.eq_2 (jW @bA.eq_1 (jW @bA.eq_2 (jW @bA.eq_3 (jW @bA.eq_4 (jW @cE.eq_1 (jW @cE.eq_2 (jW @bu.eq_1 (jW @bu.eq_2 (jW @bR.eq_1 (jW @bR.eq_2 (jW @bR.eq_3 (jW @ints.eq_1 (jW @ints.eq_2 (jW @ints.eq_3 (jW @bI.eq_1 (jW @bI.eq_2 (jW @bI.eq_3 (jW @dp.eq_1 (jW @dp.eq_2 (jW @dp.eq_3 (jW @dp.eq_4 (jW @W.ro.eq_1 (jW @W.ro.eq_2 (jW @C.ro.eq_1 (jW @C.ro.eq_2 (jW @V.ro.eq_1 (jW @V.ro.eq_2 (jW @V.ro.eq_3 (jW @eZ.eq_1 (jW @eZ.eq_2 (jW @eZ.eq_3 (jW @Kd.size.eq_1 (jW @Kd.size.eq_2 (jW @nA (jW @mI (jW @nB (jW @pP (jW @nC (jW @bF.eq_1 (jW @ba.eq_1 (jW @ba.eq_2 (jW @Nat.min_def (jW @CU.{0,0} (jW @Option.map_none.{0,0} (jW @Bool.not_true (jW @Bool.not_false (jW @decide_true (jW @decide_false (jW @Bool.and_self (jW @BO.{0,0} (jW @B0.{0,0} (jW @List.any_cons.{0} (jW @List.any_nil.{0} (jW @List.length_cons.{0} (jW @List.length_nil.{0} (jW @CV.{0} (jW @Cu.{0} (jW @Cf.{0} (jW @if_true.{1} (jW @if_false.{1} (jW @true_and (jW @and_true (jW @vd.eq_1 (jW @Int.natCast_nonneg (jW @List.drop_zero.{0} (jW @List.take_length.{0} (jW @pW (jW @pX (jW @rU (jW @rV (jW @pU (jW @pV (jW @vK (jW @vL (jW @rS (jW @rT (jW @vM (jW @nG (jW @nH (jW @p6 (jW @nI (jW @nJ (jW @nK (jW @nL (jW @nM (jW @nN (jW @nO (jW @p9 (jW @pH (jW @pI (jW @pJ (jW @pK (jW @pL (jW @pM (jW @pN (jW @pO (jW @pZ (jW @p0 (jW @p7 (jW @p8 (jW @pT (jW @pQ (jW @pR (jW @pS (jW @List.set_cons_zero.{0} (jW @List.set_cons_succ.{0} (jW @rW (jW @rX (jW @Kd.ag.injEq (jW @Ck.{0} (jW @Cw.{0} (jW @iI (jW @rM (jW @fv (jW @uE (jW @iV (jW @uF (jW @rQ (jW @pG (jW @List.nil_append.{0} (jW @CL.{0} (jW @List.take_succ_cons.{0} (jW @List.take_zero.{0} (jW @List.drop_succ_cons.{0} (jW @List.take_nil.{0} (jW @List.drop_nil.{0} (jW @List.append_nil.{0} (jW @BU.{0,0} (jW @List.flatMap_nil.{0,0} (jW @Option.bind_some.{0,0} (jW @ne_eq.{1} (jW @not_false_eq_true (@not_true_eq_false))))))))))))))))))))))))))))))))))))))))))))))))))))))))))))))))))))))))))))))))))))))))))))))))))))))))))))))))))))))))))))))))))))))))))))))))))))))))))))))))))))))))))))))))))))))))))))))))))))))))))))))))))))))))))))))))))))))))))))))))))))))))))))))))))))))))))))))))))))))))))))))))))))))))))))))))))))))))))))))))))))))))))))))))))))))))))
theorem wy:dR (jW @vO (jW @ml (jW @rY (jW @pY (jW @rZ (jW @uM (jW @vP (jW @vQ (@cond_true.{1}))))))))):=jW @vO (jW @ml (jW @rY (jW @pY (jW @rZ (jW @uM (jW @vP (jW @vQ (@cond_true.{1}))))))))
theorem wz:dR (jW @Bool.false_and (jW @Bool.and_false (jW @nF (jW @Nat.sub_zero (jW @nE (jW @mJ (jW @beq_self_eq_true.{0} (jW @Bool.and_true (jW @Bool.true_and (jW @wk (jW @wl (jW @wm (jW @wn (jW @wq (jW @wu (jW @List.replicate_zero.{0} (jW @Nat.mul_one (jW @Nat.one_mul (jW @Nat.add_zero (jW @Nat.zero_add (jW @uI (jW @uJ (jW @uK (jW @vN (jW @Int.natCast_add (jW @Int.natCast_mul (jW @Int.natCast_one (jW @Int.natCast_zero (@Int.cast_ofNat_Int))))))))))))))))))))))))))))):=jW @Bool.false_and (jW @Bool.and_false (jW @nF (jW @Nat.sub_zero (jW @nE (jW @mJ (jW @beq_self_eq_true.{0} (jW @Bool.and_true (jW @Bool.true_and (jW @wk (jW @wl (jW @wm (jW @wn (jW @wq (jW @wu (jW @List.replicate_zero.{0} (jW @Nat.mul_one (jW @Nat.one_mul (jW @Nat.add_zero (jW @Nat.zero_add (jW @uI (jW @uJ (jW @uK (jW @vN (jW @Int.natCast_add (jW @Int.natCast_mul (jW @Int.natCast_one (jW @Int.natCast_zero (@Int.cast_ofNat_Int))))))))))))))))))))))))))))
theorem d9:dR (jW @V.ren.eq_1 (jW @V.ren.eq_2 (jW @V.ren.eq_3 (jW @W.ren.eq_1 (jW @W.ren.eq_2 (jW @C.ren.eq_1 (jW @C.ren.eq_2 (jW @C.ren.eq_3 (jW @C.ren.eq_4 (jW @C.ren.eq_5 (jW @C.ren.eq_6 (jW @V.ids.eq_1 (jW @V.ids.eq_2 (jW @V.ids.eq_3 (jW @W.ids.eq_1 (jW @W.ids.eq_2 (jW @C.ids.eq_1 (jW @C.ids.eq_2 (jW @C.ids.eq_3 (jW @C.ids.eq_4 (jW @C.ids.eq_5 (jW @C.ids.eq_6 (jW @Ob.ren.eq_1 (jW @Ob.ren.eq_2 (jW @Ob.ren.eq_3 (jW @Ob.ren.eq_4 (jW @Ob.ids.eq_1 (jW @Ob.ids.eq_2 (jW @Ob.ids.eq_3 (jW @Ob.ids.eq_4 (jW @Int.cast_ofNat_Int (jW @List.replicate_zero.{0} (jW @rN (jW @pE (jW @rO (jW @pF (jW @id_eq.{1} (jW @Nat.mul_one (jW @Nat.mul_zero (jW @Nat.zero_mul (@List.flatten_nil.{0}))))))))))))))))))))))))))))))))))))))))):=jW @V.ren.eq_1 (jW @V.ren.eq_2 (jW @V.ren.eq_3 (jW @W.ren.eq_1 (jW @W.ren.eq_2 (jW @C.ren.eq_1 (jW @C.ren.eq_2 (jW @C.ren.eq_3 (jW @C.ren.eq_4 (jW @C.ren.eq_5 (jW @C.ren.eq_6 (jW @V.ids.eq_1 (jW @V.ids.eq_2 (jW @V.ids.eq_3 (jW @W.ids.eq_1 (jW @W.ids.eq_2 (jW @C.ids.eq_1 (jW @C.ids.eq_2 (jW @C.ids.eq_3 (jW @C.ids.eq_4 (jW @C.ids.eq_5 (jW @C.ids.eq_6 (jW @Ob.ren.eq_1 (jW @Ob.ren.eq_2 (jW @Ob.ren.eq_3 (jW @Ob.ren.eq_4 (jW @Ob.ids.eq_1 (jW @Ob.ids.eq_2 (jW @Ob.ids.eq_3 (jW @Ob.ids.eq_4 (jW @Int.cast_ofNat_Int (jW @List.replicate_zero.{0} (jW @rN (jW @pE (jW @rO (jW @pF (jW @id_eq.{1} (jW @Nat.mul_one (jW @Nat.mul_zero (jW @Nat.zero_mul (@List.flatten_nil.{0}))))))))))))))))))))))))))))))))))))))))
theorem ea:dR (jW @Int.natCast_add (jW @Int.natCast_mul (jW @Int.natCast_one (@Int.natCast_zero)))):=jW @Int.natCast_add (jW @Int.natCast_mul (jW @Int.natCast_one (@Int.natCast_zero)))
theorem ae:dR (jW @wx (jW @wy @wz)):=jW @wx (jW @wy @wz)
theorem bz {σ:St} {p:Nat×Option Kd} {x:D} (h1:(ba σ p).bind (toW σ.h)=some x:=by simp only[ae,aa,seval,iteOmega,toNatUp]):ci σ [p] (.w (.c (.d x))):=k9 h1
theorem fg {σ:St} {p q:Nat×Option Kd} {x y:D} (h1:(ba σ p).bind (toW σ.h)=some x:=by simp only[ae,aa,seval,iteOmega,toNatUp]) (h2:(ba σ q).bind (toW σ.h)=some y:=by simp only[ae,aa,seval,iteOmega,toNatUp]):ci σ [p,q] (.tup [.c (.d x),.c (.d y)]):=AJ h1 h2
theorem fh {σ:St} {p q r:Nat×Option Kd} {x y z:D} (h1:(ba σ p).bind (toW σ.h)=some x:=by simp only[ae,aa,seval,iteOmega,toNatUp]) (h2:(ba σ q).bind (toW σ.h)=some y:=by simp only[ae,aa,seval,iteOmega,toNatUp]) (h3:(ba σ r).bind (toW σ.h)=some z:=by simp only[ae,aa,seval,iteOmega,toNatUp]):ci σ [p,q,r] (.tup [.c (.d x),.c (.d y),.c (.d z)]):=AK h1 h2 h3
theorem sD {P:Program} {G:ap} {K:St→Prop} {r:List am} {f:Nat→V} {h:ah} {u:Nat→Bool} {d:Option Nat} {fn:FuncId} {xs:List SX} {own:Option (Nat×Nat)} {ds:List D} {res:V} {q:Prop} (h2:br P G fn ds res) (e:q)
    (hq:aw (bI h u (d.getD 0) own res) (bc P G d r K f)=q:=by simp only[ae,aa,seval,iteOmega,toNatUp]; rfl) (h1:bu h (xs.map (ev G f))=some ds:=by exact rfl)
    (h3:((xs.map (ev G f)).any V.hasOwn=false∨res.flat=true):=by exact .inl rfl) (hne:fn≠cz:=by decide) (hp:dC own (xs.map (ev G f)):=by first | exact iD _ | exact iL _ _ _ | exact iE _ _ rfl):ao P G (⟨d,.call fn xs own,none⟩::r) K ⟨f,h,u⟩ :=
  sC h2 (hq ▸ e) h1 h3 hne hp

theorem Bp {σ:St} {p q r s:Nat×Option Kd} {x y z t:D} (h1:(ba σ p).bind (toW σ.h)=some x) (h2:(ba σ q).bind (toW σ.h)=some y) (h3:(ba σ r).bind (toW σ.h)=some z) (h4:(ba σ s).bind (toW σ.h)=some t):ci σ [p,q,r,s] (.tup [.c (.d x),.c (.d y),.c (.d z),.c (.d t)]):=by
  obtain⟨w1,e1,f1⟩:=Cc.1 h1;obtain⟨w2,e2,f2⟩:=Cc.1 h2;obtain⟨w3,e3,f3⟩:=Cc.1 h3;obtain⟨w4,e4,f4⟩:=Cc.1 h4;exact⟨[w1,w2,w3,w4],by simp[ar,e1,e2,e3,e4],.inr (.cons ⟨_,rfl,f1⟩ (.cons ⟨_,rfl,f2⟩ (.cons ⟨_,rfl,f3⟩ (.cons ⟨_,rfl,f4⟩ .nil))))⟩
theorem gB {σ:St} {p q r s:Nat×Option Kd} {x y z t:D} (h1:(ba σ p).bind (toW σ.h)=some x:=by simp only[ae,aa,seval,iteOmega,toNatUp] <;> rfl) (h2:(ba σ q).bind (toW σ.h)=some y:=by simp only[ae,aa,seval,iteOmega,toNatUp] <;> rfl) (h3:(ba σ r).bind (toW σ.h)=some z:=by simp only[ae,aa,seval,iteOmega,toNatUp] <;> rfl) (h4:(ba σ s).bind (toW σ.h)=some t:=by simp only[ae,aa,seval,iteOmega,toNatUp] <;> rfl):ci σ [p,q,r,s] (.tup [.c (.d x),.c (.d y),.c (.d z),.c (.d t)]):=Bp h1 h2 h3 h4
end Go.Proofs.Yteohdchecapkfaa
