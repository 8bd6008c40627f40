/- Texts of one's own, merged: from: The plain logic (20): words of 32 bits. Own work. -/
import Derived.Laws.BitsLemmas
import Derived.Laws.Bits64
import Derived.Laws.BitsAllLaws
import Derived.Test.YteohdchecapkfaaMg46
set_option linter.unusedVariables false
set_option linter.unusedSimpArgs false
namespace Go.Proofs.Yteohdchecapkfaa
open Go.RowKit IntWalk
def j5 (x y:UInt32):UInt32:=x ^^^ y
def j6 (x y:UInt32):UInt32:=x &&& y
def km (x y:UInt32):UInt32:=x ||| y
def j7 (x y:UInt32):UInt32:=x+y
def j8 (x:UInt32):UInt32:=UInt32.ofNat (4294967295-x.toNat)
def j9 (x:UInt32) (n:Nat):UInt32:=UInt32.ofNat (x.toNat / 2^n)
def ka (x:UInt32) (n:Nat):UInt32:=UInt32.ofNat (x.toNat*2^n)
def jS (b:UInt8):UInt32:=UInt32.ofNat b.toNat
theorem word_lt (x:UInt32):x.toNat<4294967296:=x.toNat_lt
theorem v4 (x y:UInt32):bits .xor .u32 (x.toNat:Int) (y.toNat:Int)=((j5 x y).toNat:Int):=by
  rw[u32_xor_nat _ _ (word_lt x) (word_lt y)]; simp[j5]
theorem v5 (x y:UInt32):bits .and .u32 (x.toNat:Int) (y.toNat:Int)=((j6 x y).toNat:Int):=by
  rw[u32_and_nat _ _ (word_lt x) (word_lt y)]; simp[j6]
theorem wT (x y:UInt32):bits .or .u32 (x.toNat:Int) (y.toNat:Int)=((km x y).toNat:Int):=by
  rw[u32_or_nat _ _ (word_lt x) (word_lt y)]; simp[km]
theorem v6 (x y:UInt32):IntKind.u32.wrap ((x.toNat:Int)+(y.toNat:Int))=((j7 x y).toNat:Int):=by
  rw[IntKind.wrap_u32]; simp[j7]
theorem wU (x:UInt32) (n:Nat):(x.toNat:Int) / 2^n=((j9 x n).toNat:Int):=by
  have h:x.toNat / 2^n<4294967296:=Nat.lt_of_le_of_lt (Nat.div_le_self _ _) (word_lt x);unfold j9;rw[UInt32.toNat_ofNat_of_lt' (by simpa [UInt32.size] using h)];simp
theorem wV (x:UInt32) (n:Nat):(x.toNat:Int)*2^n%4294967296=((ka x n).toNat:Int):=by
  unfold ka;simp
theorem wW (x:UInt32):(4294967295:Int)-(x.toNat:Int)=((j8 x).toNat:Int):=by
  have h:=word_lt x;unfold j8;rw[UInt32.toNat_ofNat_of_lt' (by simp[UInt32.size]; omega)];omega
theorem v7 (b:UInt8):(b.toNat:Int)=((jS b).toNat:Int):=by
  have h:=b.toNat_lt;unfold jS;rw[UInt32.toNat_ofNat_of_lt' (by simp[UInt32.size]; omega)]
theorem mh (x y:UInt32):aQ .xor (.w (.c (.d (wD x)))) (.w (.c (.d (wD y))))=some (wD (j5 x y)):=by
  show aE .xor .u32 (x.toNat:Int) .u32 (y.toNat:Int)=_
  rw[gM,v4]; rfl
theorem mi (x y:UInt32):aQ .and (.w (.c (.d (wD x)))) (.w (.c (.d (wD y))))=some (wD (j6 x y)):=by
  show aE .and .u32 (x.toNat:Int) .u32 (y.toNat:Int)=_
  rw[gL,v5]; rfl
theorem oD (x y:UInt32):aQ .or (.w (.c (.d (wD x)))) (.w (.c (.d (wD y))))=some (wD (km x y)):=by
  show aE .or .u32 (x.toNat:Int) .u32 (y.toNat:Int)=_
  rw[gY,wT]; rfl
theorem mj (x y:UInt32):aQ .add (.w (.c (.d (wD x)))) (.w (.c (.d (wD y))))=some (wD (j7 x y)):=by
  show aE .add .u32 (x.toNat:Int) .u32 (y.toNat:Int)=_
  rw[ji,v6]; rfl
theorem ml (x:UInt32) (k:IntKind) (n:Int) (h:0≤n):aQ .shl (.w (.c (.d (wD x)))) (.w (.c (.d (.int k n))))=some (wD (ka x (min n.toNat 32))):=by
  show aE .shl .u32 (x.toNat:Int) k n=_
  rw[jl _ _ _ _ h,IntKind.wrap_u32]
  show some (D.int .u32 ((x.toNat:Int)*2^min n.toNat 32%4294967296))=_
  rw[wV]; rfl
theorem mm (x:UInt32) (k:IntKind) (n:Int) (h:0≤n):aQ .shr (.w (.c (.d (wD x)))) (.w (.c (.d (.int k n))))=some (wD (j9 x (min n.toNat 32))):=by
  show aE .shr .u32 (x.toNat:Int) k n=_
  rw[jm _ _ _ _ h]
  show some (D.int .u32 ((x.toNat:Int) / 2^min n.toNat 32))=_
  rw[wU]; rfl
theorem oE (x:UInt32):du .xor (.w (.c (.d (wD x))))=some (wD (j8 x)):=by
  have:bits .xor .u32 4294967295 (x.toNat:Int)=(4294967295:Int)-(x.toNat:Int):=by
    have h:=x.toNat_lt;have h2:4294967295 ^^^ x.toNat=4294967295-x.toNat:=by
      have e:=congrArg BitVec.toNat (BitVec.allOnes_xor (x:=BitVec.ofNat 32 x.toNat));rw[BitVec.toNat_xor,BitVec.toNat_not,BitVec.toNat_allOnes,BitVec.toNat_ofNat,Nat.mod_eq_of_lt (by omega)] at e;omega
    have h3:=u32_xor_nat 4294967295 x.toNat (by decide) h;rw[h2] at h3;have h4:((4294967295:Nat):Int)=4294967295:=rfl;rw[h4] at h3;omega
  show some (D.int .u32 (bits .xor .u32 4294967295 (x.toNat:Int)))=_
  rw[this,wW]; rfl
theorem mn (x y:UInt32):aQ .eql (.w (.c (.d (wD x)))) (.w (.c (.d (wD y))))=some (.bool (x==y)):=by
  show aE .eql .u32 (x.toNat:Int) .u32 (y.toNat:Int)=_
  rw[jj];by_cases h:x=y
  ·subst h; simp
  ·have:¬ ((x.toNat:Int)=(y.toNat:Int)):=fun e=>h (UInt32.toNat_inj.1 (by omega))
   simp[this,h]
theorem mo (x y:UInt32):aQ .neq (.w (.c (.d (wD x)))) (.w (.c (.d (wD y))))=some (.bool (x != y)):=by
  show aE .neq .u32 (x.toNat:Int) .u32 (y.toNat:Int)=_
  rw[jk];by_cases h:x=y
  ·subst h; simp
  ·have:¬ ((x.toNat:Int)=(y.toNat:Int)):=fun e=>h (UInt32.toNat_inj.1 (by omega))
   simp[this,h]
theorem oF (b:UInt8):D.int .u32 (IntKind.u32.wrap (b.toNat:Int))=wD (jS b):=by
  have h:=b.toNat_lt;rw[IntWalk.u32_in _ (by omega),v7]; rfl
def t9 (x y:UInt8):UInt8:=x ^^^ y
def ub (x y:UInt8):UInt8:=x &&& y
def uv (x y:UInt8):UInt8:=x ||| y
theorem e8 (x:UInt8):x.toNat<256:=x.toNat_lt
theorem mq (x y:UInt8):aQ .xor (.w (.c (.d (bD x)))) (.w (.c (.d (bD y))))=some (bD (t9 x y)):=by
  show aE .xor .u8 (x.toNat:Int) .u8 (y.toNat:Int)=_
  rw[gM,u8_xor_nat _ _ (e8 x) (e8 y)]; simp[t9,bD]
theorem mu (x y:UInt8):aQ .and (.w (.c (.d (bD x)))) (.w (.c (.d (bD y))))=some (bD (ub x y)):=by
  show aE .and .u8 (x.toNat:Int) .u8 (y.toNat:Int)=_
  rw[gL,u8_and_nat _ _ (e8 x) (e8 y)]; simp[ub,bD]
theorem oH (x y:UInt8):aQ .or (.w (.c (.d (bD x)))) (.w (.c (.d (bD y))))=some (bD (uv x y)):=by
  show aE .or .u8 (x.toNat:Int) .u8 (y.toNat:Int)=_
  rw[gY,u8_or_nat _ _ (e8 x) (e8 y)]; simp[uv,bD]
theorem uc (G:au) (f:Nat→V):ev G f .u=.undef:=rfl
def tK (P:Program) (G:au) (d:Option Nat) (r:List aj) (K:St→Prop) (f:Nat→V) (h:ah) (u:Nat→Bool) (F:Nat) (ds:List D):Prop:=al P G r K ⟨aB f d (.w (.c (.d (.fn F ds)))),h,u⟩
theorem qh (P:Program) (G:au) (d:Option Nat) (r:List aj) (K:St→Prop) (f:Nat→V) (h:ah) (u:Nat→Bool) (F:Nat) (xs:List SX):al P G (⟨d,.clos F xs,none⟩::r) K ⟨f,h,u⟩=av (bN (xs.map (ev G f))) (tK P G d r K f h u F):=by
  show (match (bN (xs.map (ev G f))).map fun ds=>((.w (.c (.d (.fn F ds))),h,u):R) with | some r=>_ | none=>False)=_
  cases bN (xs.map (ev G f)) <;> rfl
theorem oI (P:Program) (G:au) (d:Option Nat) (r:List aj) (K:St→Prop) (f:Nat→V) (h:ah) (u:Nat→Bool) (F:Nat) (ds:List D):tK P G d r K f h u F ds=al P G r K ⟨aB f d (.w (.c (.d (.fn F ds)))),h,u⟩:=rfl
theorem mw:bN []=some []:=rfl
theorem oJ (cs:List D) (r:List V):bN (.w (.c (.rp cs))::r)=(bN r).map fun l=>.ref cs::l:=by
  simp only[bN,eK]; cases bN r <;> rfl
theorem my (k:IntKind) (n:Int) (r:List V):bN (.w (.c (.d (.int k n)))::r)=(bN r).map fun l=>.int k n::l:=by
  simp only[bN,eK]; cases bN r <;> rfl
theorem oK (es:List D) (r:List V):bN (.w (.c (.d (.sl es)))::r)=(bN r).map fun l=>.sl es::l:=by
  simp only[bN,eK]; cases bN r <;> rfl
def yS (P:Program) (G:au) (body:aK) (K:AX→St→Prop) (e:AX) (s:St):Prop:=match e with | .nrm=>aI P G body K s | _=>False
theorem oL (P:Program) (G:au) (body:aK) (K:AX→St→Prop) (s:St):yS P G body K .nrm s=aI P G body K s:=rfl
theorem mz {P:Program} {G:au} {d:Option Nat} {r:List aj} {K:St→Prop} {f:Nat→V} {h:ah} {u:Nat→Bool} {x y b:SX} (k:Kd):al P G (⟨d,.storeX k x y b,none⟩::r) K ⟨f,h,u⟩=(fA (ev G f b) (ev G f x)=true∧al P G (⟨d,.store k x y,none⟩::r) K ⟨f,h,u⟩):=by
  rw[aF _ rfl,aF _ rfl];simp only[ef];cases cI (ev G f y) with
  | none=>simp[av]
  | some w =>
    cases hb:fA (ev G f b) (ev G f x) <;> simp[hb,av]
theorem qi (i a b c d e g:Nat):fA (.w (.c (.ptr i a b c))) (.w (.c (.ptr i d e g)))=true:=by simp[fA,V.ids,W.ids,C.ids]
def dz (i:Nat) (v:V):Bool:=!v.ids.contains i
def dX (G:au) (f:Nat→V) (i:Nat):List SX→Bool
  | []=>true
  | z::r=>dz i (ev G f z)&&dX G f i r
def kq (G:au) (f:Nat→V) (h:ah) (k:Kd) (l:List SX) (v:V):Option W:=bO h k (.undef::l.map (ev G f)) v
theorem mA {P:Program} {G:au} {d:Option Nat} {r:List aj} {K:St→Prop} {f:Nat→V} {h:ah} {u:Nat→Bool} {x:SX} (k:Kd) (l:List SX):al P G (⟨d,.loadX k x (.u::l),none⟩::r) K ⟨f,h,u⟩=av (kq G f h k l (ev G f x)) (cR P G d r K f h u):=by
  rw[aF _ rfl];exact b7 _ _ _
theorem qj {G:au} {f:Nat→V} {i:Nat}:∀ l:List SX,dX G f i l=(l.map (ev G f)).all fun y=>!y.ids.contains i
  | []=>rfl
  | z::r=>by
    show (dz i (ev G f z)&&dX G f i r)=_
    rw[qj r]; rfl
theorem qk (G:au) (f:Nat→V) (h:ah) (k:Kd) (l:List SX) (i a b c:Nat):kq G f h k l (.w (.c (.ptr i a b c)))=cond (dX G f i l) (cond (bh (h i)) (aM h k (.w (.c (.ptr i a b c)))) none) none:=by
  have e1:dM (.undef::l.map (ev G f)) (.w (.c (.ptr i a b c)))=dX G f i l:=by
    rw[qj];simp[dM,V.ids,W.ids,C.ids]
  have e2:(!(V.undef::l.map (ev G f)).any cO || eJ h (.w (.c (.ptr i a b c))))=bh (h i):=by
    simp[cO,eJ]
  unfold kq bO;rw[e1,e2];cases dX G f i l <;> cases bh (h i) <;> rfl
theorem ql (G:au) (f:Nat→V) (i:Nat):dX G f i []=true:=rfl
theorem oP (G:au) (f:Nat→V) (i:Nat) (z:SX) (r:List SX):dX G f i (z::r)=(dz i (ev G f z)&&dX G f i r):=rfl
theorem qm (i j a b c:Nat):dz i (.w (.c (.ptr j a b c)))=!(i==j):=by
  by_cases h:i=j <;> simp[dz,V.ids,W.ids,C.ids,h]
theorem qn (i j a b c:Nat):dz i (.w (.c (.own j a b c)))=!(i==j):=by
  by_cases h:i=j <;> simp[dz,V.ids,W.ids,C.ids,h]
theorem tL (i:Nat) (x:D):dz i (.w (.c (.d x)))=true:=rfl
theorem qo (i:Nat):dz i (.w (.c .nil))=true:=rfl
theorem sU (i:Nat) (cs:List D):dz i (.w (.c (.rp cs)))=true:=rfl
theorem qp (cs:List C):bh (some (.box cs))=true:=rfl
set_option maxRecDepth 100000
theorem jW {a b : Prop} (l : a) (r : b) : a ∧ b := And.intro l r
theorem wx:eC (jW @te (jW @tg (jW @ti (jW @tj (jW @tk (jW @qB (jW @qC (jW @qD (jW @qE (jW @qF (jW @qG (jW @qH (jW @qI (jW @qJ (jW @qK (jW @qL (jW @qM (jW @qN (jW @qO (jW @qP (jW @qQ (jW @qR (jW @qS (jW @qT (jW @qU (jW @qV (jW @qW (jW @qX (jW @qY (jW @qZ (jW @q7 (jW @q8 (jW @q9 (jW @rb (jW @re (jW @rh (jW @rj (jW @rk (jW @rl (jW @rm (jW @rn (jW @rq (jW @mA (jW @mz (jW @qi (jW @qk (jW @ql (jW @oP (jW @qm (jW @qn (jW @tL (jW @qo (jW @sU (jW @qp (jW @oT (jW @oU (jW @oV (jW @lu (jW @sx (jW @jE (jW @jn (jW @qz (jW @qA (jW @qy (jW @jD (jW @oR (jW @ta (jW @tc (jW @td (jW @aZ.eq_1 (jW @aZ.eq_2 (jW @aZ.eq_3 (jW @aZ.eq_4 (jW @cy.eq_1 (jW @cy.eq_2 (jW @killAll.eq_1 (jW @killAll.eq_2 (jW @killAll.eq_3 (jW @uc (jW @qh (jW @oI (jW @mw (jW @oJ (jW @my (jW @oK (jW @oL (jW @ef.eq_1 (jW @ef.eq_2 (jW @ef.eq_3 (jW @ef.eq_4 (jW @ef.eq_5 (jW @ef.eq_6 (jW @ef.eq_7 (jW @ef.eq_8 (jW @ef.eq_9 (jW @ef.eq_10 (jW @ef.eq_11 (jW @ef.eq_12 (jW @ef.eq_13 (jW @ef.eq_14 (jW @ef.eq_15 (jW @ef.eq_16 (jW @ef.eq_17 (jW @ef.eq_18 (jW @ef.eq_19 (jW @ef.eq_20 (jW @ef.eq_21 (jW @ef.eq_22 (jW @ef.eq_23 (jW @ef.eq_24 (jW @ef.eq_25 (jW @ef.eq_26 (jW @ef.eq_27 (jW @ef.eq_28 (jW @ef.eq_29 (jW @ef.eq_30 (jW @ef.eq_31 (jW @ef.eq_32 (jW @ef.eq_33 (jW @ef.eq_34 (jW @ef.eq_35 (jW @ef.eq_36 (jW @ef.eq_37 (jW @ef.eq_38 (jW @ef.eq_39 (jW @ef.eq_40 (jW @ef.eq_41 (jW @ef.eq_42 (jW @ef.eq_43 (jW @ef.eq_44 (jW @ef.eq_45 (jW @ef.eq_46 (jW @ef.eq_47 (jW @ef.eq_48 (jW @ef.eq_49 (jW @ef.eq_50 (jW @ef.eq_51 (jW @ef.eq_52 (jW @ef.eq_53 (jW @ef.eq_54 (jW @bound.eq_1 (jW @bound.eq_2 (jW @dv.eq_1 (jW @dv.eq_2 (jW @dv.eq_3 (jW @dv.eq_4 (jW @cr.eq_1 (jW @aM.eq_1 (jW @aM.eq_2 (jW @aM.eq_3 (jW @aM.eq_4 (jW @aM.eq_5 (jW @aM.eq_6 (jW @aM.eq_7 (jW @aM.eq_8 (jW @bz.eq_1 (jW @bz.eq_2 (jW @bz.eq_3 (jW @bz.eq_4 (jW @bz.eq_5 (jW @bz.eq_6 (jW @bz.eq_7 (jW @pU (jW @cC.eq_1 (jW @cC.eq_2 (jW @parts.eq_1 (jW @parts.eq_2 (jW @elems.eq_1 (jW @elems.eq_2 (jW @b9.eq_1 (jW @t6 (jW @t7 (jW @sN (jW @qg (jW @sO (jW @tI (jW @sP (jW @sQ (jW @sR (jW @sS (jW @tJ (jW @sT (jW @cz.eq_1 (jW @cz.eq_2 (jW @cz.eq_3 (jW @cz.eq_4 (jW @fj.eq_1 (jW @fj.eq_2 (jW @cg.eq_1 (jW @cg.eq_2 (jW @cg.eq_3 (jW @bG.eq_1 (jW @bG.eq_2 (jW @bG.eq_3 (jW @bG.eq_4 (jW @bK.eq_1 (jW @bK.eq_2 (jW @bK.eq_3 (jW @a4.eq_1 (jW @a4.eq_2 (jW @a4.eq_3 (jW @a4.eq_4 (jW @a4.eq_5 (jW @a4.eq_6 (jW @a4.eq_7 (jW @a4.eq_8 (jW @a4.eq_9 (jW @a4.eq_10 (jW @df.eq_1 (jW @ci.eq_1 (jW @ci.eq_2 (jW @ci.eq_3 (jW @toW.eq_1 (jW @toW.eq_2 (jW @bg.eq_1 (jW @bg.eq_2 (jW @bg.eq_3 (jW @bg.eq_4 (jW @cn.eq_1 (jW @cn.eq_2 (jW @a8.eq_1 (jW @a8.eq_2 (jW @bI.eq_1 (jW @bI.eq_2 (jW @bI.eq_3 (jW @ints.eq_1 (jW @ints.eq_2 (jW @ints.eq_3 (jW @br.eq_1 (jW @br.eq_2 (jW @br.eq_3 (jW @cV.eq_1 (jW @cV.eq_2 (jW @cV.eq_3 (jW @cV.eq_4 (jW @W.ro.eq_1 (jW @W.ro.eq_2 (jW @C.ro.eq_1 (jW @C.ro.eq_2 (jW @V.ro.eq_1 (jW @V.ro.eq_2 (jW @V.ro.eq_3 (jW @d9.eq_1 (jW @d9.eq_2 (jW @d9.eq_3 (jW @Kd.size.eq_1 (jW @Kd.size.eq_2 (jW @ma (jW @lm (jW @mb (jW @om (jW @mc (jW @bo.eq_1 (jW @ba.eq_1 (jW @ba.eq_2 (jW @Nat.min_def (jW @Option.map_some.{0,0} (jW @Option.map_none.{0,0} (jW @Bool.not_true (jW @Bool.not_false (jW @decide_true (jW @decide_false (jW @Bool.and_self (jW @y5.{0,0} (jW @zX.{0,0} (jW @List.any_cons.{0} (jW @List.any_nil.{0} (jW @List.length_cons.{0} (jW @List.length_nil.{0} (jW @zZ.{0} (jW @zB.{0} (jW @zn.{0} (jW @if_true.{1} (jW @if_false.{1} (jW @true_and (jW @and_true (jW @vd.eq_1 (jW @Int.natCast_nonneg (jW @List.drop_zero.{0} (jW @List.take_length.{0} (jW @ox (jW @oz (jW @p9 (jW @qa (jW @ov (jW @ow (jW @tB (jW @tC (jW @p7 (jW @p8 (jW @tD (jW @mh (jW @mi (jW @oD (jW @mj (jW @ml (jW @mm (jW @mn (jW @mo (jW @mq (jW @mu (jW @oH (jW @nY (jW @nZ (jW @oa (jW @oc (jW @od (jW @oe (jW @oh (jW @ol (jW @oB (jW @oC (jW @oE (jW @oF (jW @ou (jW @oo (jW @oq (jW @ot (jW @List.set_cons_zero.{0} (jW @List.set_cons_succ.{0} (jW @qc (jW @qd (jW @Kd.ag.injEq (jW @zt.{0} (jW @zG.{0} (jW @gN (jW @pV (jW @jz (jW @sF (jW @jA (jW @sG (jW @p0 (jW @nW (jW @List.nil_append.{0} (jW @zS.{0} (jW @List.take_succ_cons.{0} (jW @List.take_zero.{0} (jW @List.drop_succ_cons.{0} (jW @List.take_nil.{0} (jW @List.drop_nil.{0} (jW @List.append_nil.{0} (jW @y4.{0,0} (jW @List.flatMap_nil.{0,0} (jW @Option.bind_some.{0,0} (jW @ne_eq.{1} (jW @not_false_eq_true (@not_true_eq_false))))))))))))))))))))))))))))))))))))))))))))))))))))))))))))))))))))))))))))))))))))))))))))))))))))))))))))))))))))))))))))))))))))))))))))))))))))))))))))))))))))))))))))))))))))))))))))))))))))))))))))))))))))))))))))))))))))))))))))))))))))))))))))))))))))))))))))))))))))))))))))))))))))))))))))))))))))))))))))))))))))))))))))))))))))))))))):=jW @te (jW @tg (jW @ti (jW @tj (jW @tk (jW @qB (jW @qC (jW @qD (jW @qE (jW @qF (jW @qG (jW @qH (jW @qI (jW @qJ (jW @qK (jW @qL (jW @qM (jW @qN (jW @qO (jW @qP (jW @qQ (jW @qR (jW @qS (jW @qT (jW @qU (jW @qV (jW @qW (jW @qX (jW @qY (jW @qZ (jW @q7 (jW @q8 (jW @q9 (jW @rb (jW @re (jW @rh (jW @rj (jW @rk (jW @rl (jW @rm (jW @rn (jW @rq (jW @mA (jW @mz (jW @qi (jW @qk (jW @ql (jW @oP (jW @qm (jW @qn (jW @tL (jW @qo (jW @sU (jW @qp (jW @oT (jW @oU (jW @oV (jW @lu (jW @sx (jW @jE (jW @jn (jW @qz (jW @qA (jW @qy (jW @jD (jW @oR (jW @ta (jW @tc (jW @td (jW @aZ.eq_1 (jW @aZ.eq_2 (jW @aZ.eq_3 (jW @aZ.eq_4 (jW @cy.eq_1 (jW @cy.eq_2 (jW @killAll.eq_1 (jW @killAll.eq_2 (jW @killAll.eq_3 (jW @uc (jW @qh (jW @oI (jW @mw (jW @oJ (jW @my (jW @oK (jW @oL (jW @ef.eq_1 (jW @ef.eq_2 (jW @ef.eq_3 (jW @ef.eq_4 (jW @ef.eq_5 (jW @ef.eq_6 (jW @ef.eq_7 (jW @ef.eq_8 (jW @ef.eq_9 (jW @ef.eq_10 (jW @ef.eq_11 (jW @ef.eq_12 (jW @ef.eq_13 (jW @ef.eq_14 (jW @ef.eq_15 (jW @ef.eq_16 (jW @ef.eq_17 (jW @ef.eq_18 (jW @ef.eq_19 (jW @ef.eq_20 (jW @ef.eq_21 (jW @ef.eq_22 (jW @ef.eq_23 (jW @ef.eq_24 (jW @ef.eq_25 (jW @ef.eq_26 (jW @ef.eq_27 (jW @ef.eq_28 (jW @ef.eq_29 (jW @ef.eq_30 (jW @ef.eq_31 (jW @ef.eq_32 (jW @ef.eq_33 (jW @ef.eq_34 (jW @ef.eq_35 (jW @ef.eq_36 (jW @ef.eq_37 (jW @ef.eq_38 (jW @ef.eq_39 (jW @ef.eq_40 (jW @ef.eq_41 (jW @ef.eq_42 (jW @ef.eq_43 (jW @ef.eq_44 (jW @ef.eq_45 (jW @ef.eq_46 (jW @ef.eq_47 (jW @ef.eq_48 (jW @ef.eq_49 (jW @ef.eq_50 (jW @ef.eq_51 (jW @ef.eq_52 (jW @ef.eq_53 (jW @ef.eq_54 (jW @bound.eq_1 (jW @bound.eq_2 (jW @dv.eq_1 (jW @dv.eq_2 (jW @dv.eq_3 (jW @dv.eq_4 (jW @cr.eq_1 (jW @aM.eq_1 (jW @aM.eq_2 (jW @aM.eq_3 (jW @aM.eq_4 (jW @aM.eq_5 (jW @aM.eq_6 (jW @aM.eq_7 (jW @aM.eq_8 (jW @bz.eq_1 (jW @bz.eq_2 (jW @bz.eq_3 (jW @bz.eq_4 (jW @bz.eq_5 (jW @bz.eq_6 (jW @bz.eq_7 (jW @pU (jW @cC.eq_1 (jW @cC.eq_2 (jW @parts.eq_1 (jW @parts.eq_2 (jW @elems.eq_1 (jW @elems.eq_2 (jW @b9.eq_1 (jW @t6 (jW @t7 (jW @sN (jW @qg (jW @sO (jW @tI (jW @sP (jW @sQ (jW @sR (jW @sS (jW @tJ (jW @sT (jW @cz.eq_1 (jW @cz.eq_2 (jW @cz.eq_3 (jW @cz.eq_4 (jW @fj.eq_1 (jW @fj.eq_2 (jW @cg.eq_1 (jW @cg.eq_2 (jW @cg.eq_3 (jW @bG.eq_1 (jW @bG.eq_2 (jW @bG.eq_3 (jW @bG.eq_4 (jW @bK.eq_1 (jW @bK.eq_2 (jW @bK.eq_3 (jW @a4.eq_1 (jW @a4.eq_2 (jW @a4.eq_3 (jW @a4.eq_4 (jW @a4.eq_5 (jW @a4.eq_6 (jW @a4.eq_7 (jW @a4.eq_8 (jW @a4.eq_9 (jW @a4.eq_10 (jW @df.eq_1 (jW @ci.eq_1 (jW @ci.eq_2 (jW @ci.eq_3 (jW @toW.eq_1 (jW @toW.eq_2 (jW @bg.eq_1 (jW @bg.eq_2 (jW @bg.eq_3 (jW @bg.eq_4 (jW @cn.eq_1 (jW @cn.eq_2 (jW @a8.eq_1 (jW @a8.eq_2 (jW @bI.eq_1 (jW @bI.eq_2 (jW @bI.eq_3 (jW @ints.eq_1 (jW @ints.eq_2 (jW @ints.eq_3 (jW @br.eq_1 (jW @br.eq_2 (jW @br.eq_3 (jW @cV.eq_1 (jW @cV.eq_2 (jW @cV.eq_3 (jW @cV.eq_4 (jW @W.ro.eq_1 (jW @W.ro.eq_2 (jW @C.ro.eq_1 (jW @C.ro.eq_2 (jW @V.ro.eq_1 (jW @V.ro.eq_2 (jW @V.ro.eq_3 (jW @d9.eq_1 (jW @d9.eq_2 (jW @d9.eq_3 (jW @Kd.size.eq_1 (jW @Kd.size.eq_2 (jW @ma (jW @lm (jW @mb (jW @om (jW @mc (jW @bo.eq_1 (jW @ba.eq_1 (jW @ba.eq_2 (jW @Nat.min_def (jW @Option.map_some.{0,0} (jW @Option.map_none.{0,0} (jW @Bool.not_true (jW @Bool.not_false (jW @decide_true (jW @decide_false (jW @Bool.and_self (jW @y5.{0,0} (jW @zX.{0,0} (jW @List.any_cons.{0} (jW @List.any_nil.{0} (jW @List.length_cons.{0} (jW @List.length_nil.{0} (jW @zZ.{0} (jW @zB.{0} (jW @zn.{0} (jW @if_true.{1} (jW @if_false.{1} (jW @true_and (jW @and_true (jW @vd.eq_1 (jW @Int.natCast_nonneg (jW @List.drop_zero.{0} (jW @List.take_length.{0} (jW @ox (jW @oz (jW @p9 (jW @qa (jW @ov (jW @ow (jW @tB (jW @tC (jW @p7 (jW @p8 (jW @tD (jW @mh (jW @mi (jW @oD (jW @mj (jW @ml (jW @mm (jW @mn (jW @mo (jW @mq (jW @mu (jW @oH (jW @nY (jW @nZ (jW @oa (jW @oc (jW @od (jW @oe (jW @oh (jW @ol (jW @oB (jW @oC (jW @oE (jW @oF (jW @ou (jW @oo (jW @oq (jW @ot (jW @List.set_cons_zero.{0} (jW @List.set_cons_succ.{0} (jW @qc (jW @qd (jW @Kd.ag.injEq (jW @zt.{0} (jW @zG.{0} (jW @gN (jW @pV (jW @jz (jW @sF (jW @jA (jW @sG (jW @p0 (jW @nW (jW @List.nil_append.{0} (jW @zS.{0} (jW @List.take_succ_cons.{0} (jW @List.take_zero.{0} (jW @List.drop_succ_cons.{0} (jW @List.take_nil.{0} (jW @List.drop_nil.{0} (jW @List.append_nil.{0} (jW @y4.{0,0} (jW @List.flatMap_nil.{0,0} (jW @Option.bind_some.{0,0} (jW @ne_eq.{1} (jW @not_false_eq_true (@not_true_eq_false))))))))))))))))))))))))))))))))))))))))))))))))))))))))))))))))))))))))))))))))))))))))))))))))))))))))))))))))))))))))))))))))))))))))))))))))))))))))))))))))))))))))))))))))))))))))))))))))))))))))))))))))))))))))))))))))))))))))))))))))))))))))))))))))))))))))))))))))))))))))))))))))))))))))))))))))))))))))))))))))))))))))))))))))))))))))))
theorem wy:eC (jW @tF (jW @kV (jW @qe (jW @oA (jW @qf (jW @sM (jW @tG (jW @tH (@cond_true.{1}))))))))):=jW @tF (jW @kV (jW @qe (jW @oA (jW @qf (jW @sM (jW @tG (jW @tH (@cond_true.{1}))))))))
theorem wz:eC (jW @Bool.false_and (jW @Bool.and_false (jW @mg (jW @Nat.sub_zero (jW @mf (jW @ln (jW @beq_self_eq_true.{0} (jW @Bool.and_true (jW @Bool.true_and (jW @tW (jW @tX (jW @tY (jW @tZ (jW @t0 (jW @t5 (jW @List.replicate_zero.{0} (jW @Nat.mul_one (jW @Nat.one_mul (jW @Nat.add_zero (jW @Nat.zero_add (jW @sJ (jW @sK (jW @sL (jW @tE (jW @Int.natCast_add (jW @Int.natCast_mul (jW @Int.natCast_one (jW @Int.natCast_zero (@Int.cast_ofNat_Int))))))))))))))))))))))))))))):=jW @Bool.false_and (jW @Bool.and_false (jW @mg (jW @Nat.sub_zero (jW @mf (jW @ln (jW @beq_self_eq_true.{0} (jW @Bool.and_true (jW @Bool.true_and (jW @tW (jW @tX (jW @tY (jW @tZ (jW @t0 (jW @t5 (jW @List.replicate_zero.{0} (jW @Nat.mul_one (jW @Nat.one_mul (jW @Nat.add_zero (jW @Nat.zero_add (jW @sJ (jW @sK (jW @sL (jW @tE (jW @Int.natCast_add (jW @Int.natCast_mul (jW @Int.natCast_one (jW @Int.natCast_zero (@Int.cast_ofNat_Int))))))))))))))))))))))))))))
theorem iB:eC (jW @V.ren.eq_1 (jW @V.ren.eq_2 (jW @V.ren.eq_3 (jW @W.ren.eq_1 (jW @W.ren.eq_2 (jW @C.ren.eq_1 (jW @C.ren.eq_2 (jW @C.ren.eq_3 (jW @C.ren.eq_4 (jW @C.ren.eq_5 (jW @C.ren.eq_6 (jW @V.ids.eq_1 (jW @V.ids.eq_2 (jW @V.ids.eq_3 (jW @W.ids.eq_1 (jW @W.ids.eq_2 (jW @C.ids.eq_1 (jW @C.ids.eq_2 (jW @C.ids.eq_3 (jW @C.ids.eq_4 (jW @C.ids.eq_5 (jW @C.ids.eq_6 (jW @Ob.ren.eq_1 (jW @Ob.ren.eq_2 (jW @Ob.ren.eq_3 (jW @Ob.ren.eq_4 (jW @Ob.ids.eq_1 (jW @Ob.ids.eq_2 (jW @Ob.ids.eq_3 (jW @Ob.ids.eq_4 (jW @Int.cast_ofNat_Int (jW @List.replicate_zero.{0} (jW @pW (jW @nT (jW @pX (jW @nU (jW @id_eq.{1} (jW @Nat.mul_one (jW @Nat.mul_zero (jW @Nat.zero_mul (@List.flatten_nil.{0}))))))))))))))))))))))))))))))))))))))))):=jW @V.ren.eq_1 (jW @V.ren.eq_2 (jW @V.ren.eq_3 (jW @W.ren.eq_1 (jW @W.ren.eq_2 (jW @C.ren.eq_1 (jW @C.ren.eq_2 (jW @C.ren.eq_3 (jW @C.ren.eq_4 (jW @C.ren.eq_5 (jW @C.ren.eq_6 (jW @V.ids.eq_1 (jW @V.ids.eq_2 (jW @V.ids.eq_3 (jW @W.ids.eq_1 (jW @W.ids.eq_2 (jW @C.ids.eq_1 (jW @C.ids.eq_2 (jW @C.ids.eq_3 (jW @C.ids.eq_4 (jW @C.ids.eq_5 (jW @C.ids.eq_6 (jW @Ob.ren.eq_1 (jW @Ob.ren.eq_2 (jW @Ob.ren.eq_3 (jW @Ob.ren.eq_4 (jW @Ob.ids.eq_1 (jW @Ob.ids.eq_2 (jW @Ob.ids.eq_3 (jW @Ob.ids.eq_4 (jW @Int.cast_ofNat_Int (jW @List.replicate_zero.{0} (jW @pW (jW @nT (jW @pX (jW @nU (jW @id_eq.{1} (jW @Nat.mul_one (jW @Nat.mul_zero (jW @Nat.zero_mul (@List.flatten_nil.{0}))))))))))))))))))))))))))))))))))))))))
theorem iC:eC (jW @Int.natCast_add (jW @Int.natCast_mul (jW @Int.natCast_one (@Int.natCast_zero)))):=jW @Int.natCast_add (jW @Int.natCast_mul (jW @Int.natCast_one (@Int.natCast_zero)))
theorem ap:eC (jW @wx (jW @wy @wz)):=jW @wx (jW @wy @wz)
theorem a6 {σ:St} {p:Nat×Option Kd} {x:D} (h1:(ba σ p).bind (toW σ.h)=some x:=by simp only[ap,am,seval,iteOmega,toNatUp]):bY σ [p] (.w (.c (.d x))):=yc h1
theorem ej {σ:St} {p q:Nat×Option Kd} {x y:D} (h1:(ba σ p).bind (toW σ.h)=some x:=by simp only[ap,am,seval,iteOmega,toNatUp]) (h2:(ba σ q).bind (toW σ.h)=some y:=by simp only[ap,am,seval,iteOmega,toNatUp]):bY σ [p,q] (.tup [.c (.d x),.c (.d y)]):=yd h1 h2
theorem ek {σ:St} {p q r:Nat×Option Kd} {x y z:D} (h1:(ba σ p).bind (toW σ.h)=some x:=by simp only[ap,am,seval,iteOmega,toNatUp]) (h2:(ba σ q).bind (toW σ.h)=some y:=by simp only[ap,am,seval,iteOmega,toNatUp]) (h3:(ba σ r).bind (toW σ.h)=some z:=by simp only[ap,am,seval,iteOmega,toNatUp]):bY σ [p,q,r] (.tup [.c (.d x),.c (.d y),.c (.d z)]):=ye h1 h2 h3
theorem sD {P:Program} {G:au} {K:St→Prop} {r:List aj} {f:Nat→V} {h:ah} {u:Nat→Bool} {d:Option Nat} {fn:FuncId} {xs:List SX} {own:Option (Nat×Nat)} {ds:List D} {res:V} {q:Prop} (h2:a7 P G fn ds res) (e:q)
    (hq:av (br h u (d.getD 0) own res) (aX P G d r K f)=q:=by simp only[ap,am,seval,iteOmega,toNatUp]; rfl) (h1:a8 h (xs.map (ev G f))=some ds:=by exact rfl)
    (h3:((xs.map (ev G f)).any V.hasOwn=false∨res.flat=true):=by exact .inl rfl) (hne:fn≠cB:=by decide) (hp:c9 own (xs.map (ev G f)):=by first | exact gI _ | exact gQ _ _ _ | exact gJ _ _ rfl):al P G (⟨d,.call fn xs own,none⟩::r) K ⟨f,h,u⟩ :=
  sC h2 (hq ▸ e) h1 h3 hne hp

theorem yI {σ:St} {p q r s:Nat×Option Kd} {x y z t:D} (h1:(ba σ p).bind (toW σ.h)=some x) (h2:(ba σ q).bind (toW σ.h)=some y) (h3:(ba σ r).bind (toW σ.h)=some z) (h4:(ba σ s).bind (toW σ.h)=some t):bY σ [p,q,r,s] (.tup [.c (.d x),.c (.d y),.c (.d z),.c (.d t)]):=by
  obtain⟨w1,e1,f1⟩:=zl.1 h1;obtain⟨w2,e2,f2⟩:=zl.1 h2;obtain⟨w3,e3,f3⟩:=zl.1 h3;obtain⟨w4,e4,f4⟩:=zl.1 h4;exact⟨[w1,w2,w3,w4],by simp[ar,e1,e2,e3,e4],.inr (.cons ⟨_,rfl,f1⟩ (.cons ⟨_,rfl,f2⟩ (.cons ⟨_,rfl,f3⟩ (.cons ⟨_,rfl,f4⟩ .nil))))⟩
theorem fG {σ:St} {p q r s:Nat×Option Kd} {x y z t:D} (h1:(ba σ p).bind (toW σ.h)=some x:=by simp only[ap,am,seval,iteOmega,toNatUp] <;> rfl) (h2:(ba σ q).bind (toW σ.h)=some y:=by simp only[ap,am,seval,iteOmega,toNatUp] <;> rfl) (h3:(ba σ r).bind (toW σ.h)=some z:=by simp only[ap,am,seval,iteOmega,toNatUp] <;> rfl) (h4:(ba σ s).bind (toW σ.h)=some t:=by simp only[ap,am,seval,iteOmega,toNatUp] <;> rfl):bY σ [p,q,r,s] (.tup [.c (.d x),.c (.d y),.c (.d z),.c (.d t)]):=yI h1 h2 h3 h4
end Go.Proofs.Yteohdchecapkfaa
