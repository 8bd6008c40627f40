/- Texts of one's own, merged: from: The plain logic (20): words of 32 bits. Own work. -/
import Derived.Laws.BitsLemmas
import Derived.Laws.Bits64
import Derived.Laws.BitsAllLaws
import Derived.Test.YtjhaklohdflppaaMg16
set_option linter.unusedVariables false
set_option linter.unusedSimpArgs false
namespace Go.Proofs.Ytjhaklohdflppaa
open Go.RowKit IntWalk
def nj (x y:UInt32):UInt32:=x ^^^ y
def nk (x y:UInt32):UInt32:=x &&& y
def nG (x y:UInt32):UInt32:=x ||| y
def nl (x y:UInt32):UInt32:=x+y
def nm (x:UInt32):UInt32:=UInt32.ofNat (4294967295-x.toNat)
def nn (x:UInt32) (n:Nat):UInt32:=UInt32.ofNat (x.toNat / 2^n)
def nq (x:UInt32) (n:Nat):UInt32:=UInt32.ofNat (x.toNat*2^n)
def mX (b:UInt8):UInt32:=UInt32.ofNat b.toNat
theorem word_lt (x:UInt32):x.toNat<4294967296:=x.toNat_lt
theorem Ar (x y:UInt32):bits .xor .u32 (x.toNat:Int) (y.toNat:Int)=((nj x y).toNat:Int):=by
  rw[u32_xor_nat _ _ (word_lt x) (word_lt y)]; simp[nj]
theorem As (x y:UInt32):bits .and .u32 (x.toNat:Int) (y.toNat:Int)=((nk x y).toNat:Int):=by
  rw[u32_and_nat _ _ (word_lt x) (word_lt y)]; simp[nk]
theorem Bc (x y:UInt32):bits .or .u32 (x.toNat:Int) (y.toNat:Int)=((nG x y).toNat:Int):=by
  rw[u32_or_nat _ _ (word_lt x) (word_lt y)]; simp[nG]
theorem Au (x y:UInt32):IntKind.u32.wrap ((x.toNat:Int)+(y.toNat:Int))=((nl x y).toNat:Int):=by
  rw[IntKind.wrap_u32]; simp[nl]
theorem Be (x:UInt32) (n:Nat):(x.toNat:Int) / 2^n=((nn x n).toNat:Int):=by
  have h:x.toNat / 2^n<4294967296:=Nat.lt_of_le_of_lt (Nat.div_le_self _ _) (word_lt x);unfold nn;rw[UInt32.toNat_ofNat_of_lt' (by simpa [UInt32.size] using h)];simp
theorem Bf (x:UInt32) (n:Nat):(x.toNat:Int)*2^n%4294967296=((nq x n).toNat:Int):=by
  unfold nq;simp
theorem Bg (x:UInt32):(4294967295:Int)-(x.toNat:Int)=((nm x).toNat:Int):=by
  have h:=word_lt x;unfold nm;rw[UInt32.toNat_ofNat_of_lt' (by simp[UInt32.size]; omega)];omega
theorem Av (b:UInt8):(b.toNat:Int)=((mX b).toNat:Int):=by
  have h:=b.toNat_lt;unfold mX;rw[UInt32.toNat_ofNat_of_lt' (by simp[UInt32.size]; omega)]
theorem pL (x y:UInt32):bh .xor (.w (.c (.d (wD x)))) (.w (.c (.d (wD y))))=some (wD (nj x y)):=by
  show aK .xor .u32 (x.toNat:Int) .u32 (y.toNat:Int)=_
  rw[jA,Ar]; rfl
theorem pM (x y:UInt32):bh .and (.w (.c (.d (wD x)))) (.w (.c (.d (wD y))))=some (wD (nk x y)):=by
  show aK .and .u32 (x.toNat:Int) .u32 (y.toNat:Int)=_
  rw[jz,As]; rfl
theorem rW (x y:UInt32):bh .or (.w (.c (.d (wD x)))) (.w (.c (.d (wD y))))=some (wD (nG x y)):=by
  show aK .or .u32 (x.toNat:Int) .u32 (y.toNat:Int)=_
  rw[jK,Bc]; rfl
theorem pN (x y:UInt32):bh .add (.w (.c (.d (wD x)))) (.w (.c (.d (wD y))))=some (wD (nl x y)):=by
  show aK .add .u32 (x.toNat:Int) .u32 (y.toNat:Int)=_
  rw[lT,Au]; rfl
theorem pO (x:UInt32) (k:IntKind) (n:Int) (h:0≤n):bh .shl (.w (.c (.d (wD x)))) (.w (.c (.d (.int k n))))=some (wD (nq x (min n.toNat 32))):=by
  show aK .shl .u32 (x.toNat:Int) k n=_
  rw[lW _ _ _ _ h,IntKind.wrap_u32]
  show some (D.int .u32 ((x.toNat:Int)*2^min n.toNat 32%4294967296))=_
  rw[Bf]; rfl
theorem pP (x:UInt32) (k:IntKind) (n:Int) (h:0≤n):bh .shr (.w (.c (.d (wD x)))) (.w (.c (.d (.int k n))))=some (wD (nn x (min n.toNat 32))):=by
  show aK .shr .u32 (x.toNat:Int) k n=_
  rw[lX _ _ _ _ h]
  show some (D.int .u32 ((x.toNat:Int) / 2^min n.toNat 32))=_
  rw[Be]; rfl
theorem rX (x:UInt32):fj .xor (.w (.c (.d (wD x))))=some (wD (nm x)):=by
  have:bits .xor .u32 4294967295 (x.toNat:Int)=(4294967295:Int)-(x.toNat:Int):=by
    have h:=x.toNat_lt;have h2:4294967295 ^^^ x.toNat=4294967295-x.toNat:=by
      have e:=congrArg BitVec.toNat (BitVec.allOnes_xor (x:=BitVec.ofNat 32 x.toNat));rw[BitVec.toNat_xor,BitVec.toNat_not,BitVec.toNat_allOnes,BitVec.toNat_ofNat,Nat.mod_eq_of_lt (by omega)] at e;omega
    have h3:=u32_xor_nat 4294967295 x.toNat (by decide) h;rw[h2] at h3;have h4:((4294967295:Nat):Int)=4294967295:=rfl;rw[h4] at h3;omega
  show some (D.int .u32 (bits .xor .u32 4294967295 (x.toNat:Int)))=_
  rw[this,Bg]; rfl
theorem pQ (x y:UInt32):bh .eql (.w (.c (.d (wD x)))) (.w (.c (.d (wD y))))=some (.bool (x==y)):=by
  show aK .eql .u32 (x.toNat:Int) .u32 (y.toNat:Int)=_
  rw[lU];by_cases h:x=y
  ·subst h; simp
  ·have:¬ ((x.toNat:Int)=(y.toNat:Int)):=fun e=>h (UInt32.toNat_inj.1 (by omega))
   simp[this,h]
theorem pR (x y:UInt32):bh .neq (.w (.c (.d (wD x)))) (.w (.c (.d (wD y))))=some (.bool (x != y)):=by
  show aK .neq .u32 (x.toNat:Int) .u32 (y.toNat:Int)=_
  rw[lV];by_cases h:x=y
  ·subst h; simp
  ·have:¬ ((x.toNat:Int)=(y.toNat:Int)):=fun e=>h (UInt32.toNat_inj.1 (by omega))
   simp[this,h]
theorem rY (b:UInt8):D.int .u32 (IntKind.u32.wrap (b.toNat:Int))=wD (mX b):=by
  have h:=b.toNat_lt;rw[IntWalk.u32_in _ (by omega),Av]; rfl
def yF (x y:UInt8):UInt8:=x ^^^ y
def yG (x y:UInt8):UInt8:=x &&& y
def yV (x y:UInt8):UInt8:=x ||| y
theorem gS (x:UInt8):x.toNat<256:=x.toNat_lt
theorem pS (x y:UInt8):bh .xor (.w (.c (.d (bD x)))) (.w (.c (.d (bD y))))=some (bD (yF x y)):=by
  show aK .xor .u8 (x.toNat:Int) .u8 (y.toNat:Int)=_
  rw[jA,u8_xor_nat _ _ (gS x) (gS y)]; simp[yF,bD]
theorem pT (x y:UInt8):bh .and (.w (.c (.d (bD x)))) (.w (.c (.d (bD y))))=some (bD (yG x y)):=by
  show aK .and .u8 (x.toNat:Int) .u8 (y.toNat:Int)=_
  rw[jz,u8_and_nat _ _ (gS x) (gS y)]; simp[yG,bD]
theorem rZ (x y:UInt8):bh .or (.w (.c (.d (bD x)))) (.w (.c (.d (bD y))))=some (bD (yV x y)):=by
  show aK .or .u8 (x.toNat:Int) .u8 (y.toNat:Int)=_
  rw[jK,u8_or_nat _ _ (gS x) (gS y)]; simp[yV,bD]
theorem yH (G:av) (f:Nat→V):ev G f .u=.undef:=rfl
def xW (P:Program) (G:av) (d:Option Nat) (r:List ar) (K:St→Prop) (f:Nat→V) (h:ak) (u:Nat→Bool) (F:Nat) (ds:List D):Prop:=au P G r K ⟨aG f d (.w (.c (.d (.fn F ds)))),h,u⟩
theorem t8 (P:Program) (G:av) (d:Option Nat) (r:List ar) (K:St→Prop) (f:Nat→V) (h:ak) (u:Nat→Bool) (F:Nat) (xs:List SX):au P G (⟨d,.clos F xs,none⟩::r) K ⟨f,h,u⟩=aE (cp (xs.map (ev G f))) (xW P G d r K f h u F):=by
  show (match (cp (xs.map (ev G f))).map fun ds=>((.w (.c (.d (.fn F ds))),h,u):R) with | some r=>_ | none=>False)=_
  cases cp (xs.map (ev G f)) <;> rfl
theorem r6 (P:Program) (G:av) (d:Option Nat) (r:List ar) (K:St→Prop) (f:Nat→V) (h:ak) (u:Nat→Bool) (F:Nat) (ds:List D):xW P G d r K f h u F ds=au P G r K ⟨aG f d (.w (.c (.d (.fn F ds)))),h,u⟩:=rfl
theorem pU:cp []=some []:=rfl
theorem r7 (cs:List D) (r:List V):cp (.w (.c (.rp cs))::r)=(cp r).map fun l=>.ref cs::l:=by
  simp only[cp,fh]; cases cp r <;> rfl
theorem pV (k:IntKind) (n:Int) (r:List V):cp (.w (.c (.d (.int k n)))::r)=(cp r).map fun l=>.int k n::l:=by
  simp only[cp,fh]; cases cp r <;> rfl
theorem r8 (es:List D) (r:List V):cp (.w (.c (.d (.sl es)))::r)=(cp r).map fun l=>.sl es::l:=by
  simp only[cp,fh]; cases cp r <;> rfl
def DZ (P:Program) (G:av) (body:aN) (K:AX→St→Prop) (e:AX) (s:St):Prop:=match e with | .nrm=>aL P G body K s | _=>False
theorem r9 (P:Program) (G:av) (body:aN) (K:AX→St→Prop) (s:St):DZ P G body K .nrm s=aL P G body K s:=rfl
def dI (i:Nat) (v:V):Bool:=!v.ids.contains i
def fP (G:av) (f:Nat→V) (i:Nat):List SX→Bool
  | []=>true
  | z::r=>dI i (ev G f z)&&fP G f i r
def nH (G:av) (f:Nat→V) (h:ak) (k:Kd) (l:List SX) (v:V):Option W:=cj h k (.undef::l.map (ev G f)) v
theorem pW {P:Program} {G:av} {d:Option Nat} {r:List ar} {K:St→Prop} {f:Nat→V} {h:ak} {u:Nat→Bool} {x:SX} (k:Kd) (l:List SX):au P G (⟨d,.loadX k x (.u::l),none⟩::r) K ⟨f,h,u⟩=aE (nH G f h k l (ev G f x)) (dX P G d r K f h u):=by
  rw[aO _ rfl];exact cL _ _ _
theorem t9 {G:av} {f:Nat→V} {i:Nat}:∀ l:List SX,fP G f i l=(l.map (ev G f)).all fun y=>!y.ids.contains i
  | []=>rfl
  | z::r=>by
    show (dI i (ev G f z)&&fP G f i r)=_
    rw[t9 r]; rfl
theorem ub (G:av) (f:Nat→V) (h:ak) (k:Kd) (l:List SX) (i a b c:Nat):nH G f h k l (.w (.c (.ptr i a b c)))=cond (fP G f i l) (cond (br (h i)) (aW h k (.w (.c (.ptr i a b c)))) none) none:=by
  have e1:eH (.undef::l.map (ev G f)) (.w (.c (.ptr i a b c)))=fP G f i l:=by
    rw[t9];simp[eH,V.ids,W.ids,C.ids]
  have e2:(!(V.undef::l.map (ev G f)).any dz || fF h (.w (.c (.ptr i a b c))))=br (h i):=by
    simp[dz,fF]
  unfold nH cj;rw[e1,e2];cases fP G f i l <;> cases br (h i) <;> rfl
theorem uc (G:av) (f:Nat→V) (i:Nat):fP G f i []=true:=rfl
theorem sd (G:av) (f:Nat→V) (i:Nat) (z:SX) (r:List SX):fP G f i (z::r)=(dI i (ev G f z)&&fP G f i r):=rfl
theorem ud (i j a b c:Nat):dI i (.w (.c (.ptr j a b c)))=!(i==j):=by
  by_cases h:i=j <;> simp[dI,V.ids,W.ids,C.ids,h]
theorem ue (i j a b c:Nat):dI i (.w (.c (.own j a b c)))=!(i==j):=by
  by_cases h:i=j <;> simp[dI,V.ids,W.ids,C.ids,h]
theorem xX (i:Nat) (x:D):dI i (.w (.c (.d x)))=true:=rfl
theorem ug (i:Nat):dI i (.w (.c .nil))=true:=rfl
theorem wO (i:Nat) (cs:List D):dI i (.w (.c (.rp cs)))=true:=rfl
theorem uh (cs:List C):br (some (.box cs))=true:=rfl
set_option maxRecDepth 100000
theorem jW {a b : Prop} (l : a) (r : b) : a ∧ b := And.intro l r
theorem wx:eW (jW @xx (jW @xy (jW @xz (jW @xA (jW @xB (jW @uK (jW @uM (jW @uO (jW @uP (jW @uQ (jW @uR (jW @uS (jW @uT (jW @uU (jW @uV (jW @uW (jW @uX (jW @uY (jW @uZ (jW @u1 (jW @u4 (jW @u5 (jW @u6 (jW @u7 (jW @u9 (jW @va (jW @vb (jW @ve (jW @vf (jW @vg (jW @vh (jW @vi (jW @vj (jW @vk (jW @vl (jW @vm (jW @vn (jW @vo (jW @vp (jW @vq (jW @vr (jW @vt (jW @pW (jW @ub (jW @uc (jW @sd (jW @ud (jW @ue (jW @xX (jW @ug (jW @wO (jW @uh (jW @sJ (jW @sK (jW @sL (jW @oU (jW @sx (jW @mA (jW @l9 (jW @uI (jW @uJ (jW @uH (jW @mz (jW @sH (jW @xu (jW @xv (jW @xw (jW @bF.eq_1 (jW @bF.eq_2 (jW @bF.eq_3 (jW @bF.eq_4 (jW @du.eq_1 (jW @du.eq_2 (jW @killAll.eq_1 (jW @killAll.eq_2 (jW @killAll.eq_3 (jW @yH (jW @t8 (jW @r6 (jW @pU (jW @r7 (jW @pV (jW @r8 (jW @r9 (jW @ef.eq_1 (jW @ef.eq_2 (jW @ef.eq_3 (jW @ef.eq_4 (jW @ef.eq_5 (jW @ef.eq_6 (jW @ef.eq_7 (jW @ef.eq_8 (jW @ef.eq_9 (jW @ef.eq_10 (jW @ef.eq_11 (jW @ef.eq_12 (jW @ef.eq_13 (jW @ef.eq_14 (jW @ef.eq_15 (jW @ef.eq_16 (jW @ef.eq_17 (jW @ef.eq_18 (jW @ef.eq_19 (jW @ef.eq_20 (jW @ef.eq_21 (jW @ef.eq_22 (jW @ef.eq_23 (jW @ef.eq_24 (jW @ef.eq_25 (jW @ef.eq_26 (jW @ef.eq_27 (jW @ef.eq_28 (jW @ef.eq_29 (jW @ef.eq_30 (jW @ef.eq_31 (jW @ef.eq_32 (jW @ef.eq_33 (jW @ef.eq_34 (jW @ef.eq_35 (jW @ef.eq_36 (jW @ef.eq_37 (jW @ef.eq_38 (jW @ef.eq_39 (jW @ef.eq_40 (jW @ef.eq_41 (jW @ef.eq_42 (jW @ef.eq_43 (jW @ef.eq_44 (jW @ef.eq_45 (jW @ef.eq_46 (jW @ef.eq_47 (jW @ef.eq_48 (jW @ef.eq_49 (jW @ef.eq_50 (jW @ef.eq_51 (jW @ef.eq_52 (jW @ef.eq_53 (jW @bound.eq_1 (jW @bound.eq_2 (jW @fk.eq_1 (jW @fk.eq_2 (jW @fk.eq_3 (jW @fk.eq_4 (jW @dj.eq_1 (jW @aW.eq_1 (jW @aW.eq_2 (jW @aW.eq_3 (jW @aW.eq_4 (jW @aW.eq_5 (jW @aW.eq_6 (jW @aW.eq_7 (jW @aW.eq_8 (jW @b7.eq_1 (jW @b7.eq_2 (jW @b7.eq_3 (jW @b7.eq_4 (jW @b7.eq_5 (jW @b7.eq_6 (jW @b7.eq_7 (jW @tO (jW @dB.eq_1 (jW @dB.eq_2 (jW @parts.eq_1 (jW @parts.eq_2 (jW @elems.eq_1 (jW @elems.eq_2 (jW @cM.eq_1 (jW @yC (jW @yD (jW @wH (jW @t7 (jW @wI (jW @xU (jW @wJ (jW @wK (jW @wL (jW @wM (jW @xV (jW @wN (jW @dv.eq_1 (jW @dv.eq_2 (jW @dv.eq_3 (jW @dv.eq_4 (jW @gY.eq_1 (jW @gY.eq_2 (jW @cU.eq_1 (jW @cU.eq_2 (jW @cU.eq_3 (jW @cc.eq_1 (jW @cc.eq_2 (jW @cc.eq_3 (jW @cc.eq_4 (jW @cm.eq_1 (jW @cm.eq_2 (jW @cm.eq_3 (jW @bG.eq_1 (jW @bG.eq_2 (jW @bG.eq_3 (jW @bG.eq_4 (jW @bG.eq_5 (jW @bG.eq_6 (jW @bG.eq_7 (jW @bG.eq_8 (jW @bG.eq_9 (jW @bG.eq_10 (jW @eG.eq_1 (jW @cV.eq_1 (jW @cV.eq_2 (jW @cV.eq_3 (jW @toW.eq_1 (jW @toW.eq_2 (jW @bK.eq_1 (jW @bK.eq_2 (jW @bK.eq_3 (jW @bK.eq_4 (jW @dh.eq_1 (jW @dh.eq_2 (jW @bR.eq_1 (jW @bR.eq_2 (jW @ce.eq_1 (jW @ce.eq_2 (jW @ce.eq_3 (jW @ints.eq_1 (jW @ints.eq_2 (jW @ints.eq_3 (jW @ci.eq_1 (jW @ci.eq_2 (jW @ci.eq_3 (jW @ee.eq_1 (jW @ee.eq_2 (jW @ee.eq_3 (jW @ee.eq_4 (jW @W.ro.eq_1 (jW @W.ro.eq_2 (jW @C.ro.eq_1 (jW @C.ro.eq_2 (jW @V.ro.eq_1 (jW @V.ro.eq_2 (jW @V.ro.eq_3 (jW @fW.eq_1 (jW @fW.eq_2 (jW @fW.eq_3 (jW @Kd.size.eq_1 (jW @Kd.size.eq_2 (jW @pF (jW @oP (jW @pG (jW @rK (jW @pH (jW @bU.eq_1 (jW @cO.eq_1 (jW @cO.eq_2 (jW @Nat.min_def (jW @Fq.{0,0} (jW @Option.map_none.{0,0} (jW @Bool.not_true (jW @Bool.not_false (jW @decide_true (jW @decide_false (jW @Bool.and_self (jW @El.{0,0} (jW @Eu.{0,0} (jW @List.any_cons.{0} (jW @List.any_nil.{0} (jW @List.length_cons.{0} (jW @List.length_nil.{0} (jW @Fs.{0} (jW @EW.{0} (jW @EG.{0} (jW @if_true.{1} (jW @if_false.{1} (jW @true_and (jW @and_true (jW @vd.eq_1 (jW @Int.natCast_nonneg (jW @List.drop_zero.{0} (jW @List.take_length.{0} (jW @rR (jW @rS (jW @tW (jW @tX (jW @rP (jW @rQ (jW @xN (jW @xO (jW @tU (jW @tV (jW @xP (jW @pL (jW @pM (jW @rW (jW @pN (jW @pO (jW @pP (jW @pQ (jW @pR (jW @pS (jW @pT (jW @rZ (jW @rC (jW @rD (jW @rE (jW @rF (jW @rG (jW @rH (jW @rI (jW @rJ (jW @rU (jW @rV (jW @rX (jW @rY (jW @rO (jW @rL (jW @rM (jW @rN (jW @List.set_cons_zero.{0} (jW @List.set_cons_succ.{0} (jW @tY (jW @tZ (jW @Kd.ag.injEq (jW @EN.{0} (jW @EY.{0} (jW @jB (jW @tP (jW @gv (jW @wn (jW @jL (jW @wq (jW @tT (jW @rB (jW @List.nil_append.{0} (jW @Fw.{0} (jW @List.take_succ_cons.{0} (jW @List.take_zero.{0} (jW @List.drop_succ_cons.{0} (jW @List.take_nil.{0} (jW @List.drop_nil.{0} (jW @List.append_nil.{0} (jW @Eo.{0,0} (jW @List.flatMap_nil.{0,0} (jW @Option.bind_some.{0,0} (jW @ne_eq.{1} (jW @not_false_eq_true (@not_true_eq_false)))))))))))))))))))))))))))))))))))))))))))))))))))))))))))))))))))))))))))))))))))))))))))))))))))))))))))))))))))))))))))))))))))))))))))))))))))))))))))))))))))))))))))))))))))))))))))))))))))))))))))))))))))))))))))))))))))))))))))))))))))))))))))))))))))))))))))))))))))))))))))))))))))))))))))))))))))))))))))))))))))))))))))))))))))))))):=jW @xx (jW @xy (jW @xz (jW @xA (jW @xB (jW @uK (jW @uM (jW @uO (jW @uP (jW @uQ (jW @uR (jW @uS (jW @uT (jW @uU (jW @uV (jW @uW (jW @uX (jW @uY (jW @uZ (jW @u1 (jW @u4 (jW @u5 (jW @u6 (jW @u7 (jW @u9 (jW @va (jW @vb (jW @ve (jW @vf (jW @vg (jW @vh (jW @vi (jW @vj (jW @vk (jW @vl (jW @vm (jW @vn (jW @vo (jW @vp (jW @vq (jW @vr (jW @vt (jW @pW (jW @ub (jW @uc (jW @sd (jW @ud (jW @ue (jW @xX (jW @ug (jW @wO (jW @uh (jW @sJ (jW @sK (jW @sL (jW @oU (jW @sx (jW @mA (jW @l9 (jW @uI (jW @uJ (jW @uH (jW @mz (jW @sH (jW @xu (jW @xv (jW @xw (jW @bF.eq_1 (jW @bF.eq_2 (jW @bF.eq_3 (jW @bF.eq_4 (jW @du.eq_1 (jW @du.eq_2 (jW @killAll.eq_1 (jW @killAll.eq_2 (jW @killAll.eq_3 (jW @yH (jW @t8 (jW @r6 (jW @pU (jW @r7 (jW @pV (jW @r8 (jW @r9 (jW @ef.eq_1 (jW @ef.eq_2 (jW @ef.eq_3 (jW @ef.eq_4 (jW @ef.eq_5 (jW @ef.eq_6 (jW @ef.eq_7 (jW @ef.eq_8 (jW @ef.eq_9 (jW @ef.eq_10 (jW @ef.eq_11 (jW @ef.eq_12 (jW @ef.eq_13 (jW @ef.eq_14 (jW @ef.eq_15 (jW @ef.eq_16 (jW @ef.eq_17 (jW @ef.eq_18 (jW @ef.eq_19 (jW @ef.eq_20 (jW @ef.eq_21 (jW @ef.eq_22 (jW @ef.eq_23 (jW @ef.eq_24 (jW @ef.eq_25 (jW @ef.eq_26 (jW @ef.eq_27 (jW @ef.eq_28 (jW @ef.eq_29 (jW @ef.eq_30 (jW @ef.eq_31 (jW @ef.eq_32 (jW @ef.eq_33 (jW @ef.eq_34 (jW @ef.eq_35 (jW @ef.eq_36 (jW @ef.eq_37 (jW @ef.eq_38 (jW @ef.eq_39 (jW @ef.eq_40 (jW @ef.eq_41 (jW @ef.eq_42 (jW @ef.eq_43 (jW @ef.eq_44 (jW @ef.eq_45 (jW @ef.eq_46 (jW @ef.eq_47 (jW @ef.eq_48 (jW @ef.eq_49 (jW @ef.eq_50 (jW @ef.eq_51 (jW @ef.eq_52 (jW @ef.eq_53 (jW @bound.eq_1 (jW @bound.eq_2 (jW @fk.eq_1 (jW @fk.eq_2 (jW @fk.eq_3 (jW @fk.eq_4 (jW @dj.eq_1 (jW @aW.eq_1 (jW @aW.eq_2 (jW @aW.eq_3 (jW @aW.eq_4 (jW @aW.eq_5 (jW @aW.eq_6 (jW @aW.eq_7 (jW @aW.eq_8 (jW @b7.eq_1 (jW @b7.eq_2 (jW @b7.eq_3 (jW @b7.eq_4 (jW @b7.eq_5 (jW @b7.eq_6 (jW @b7.eq_7 (jW @tO (jW @dB.eq_1 (jW @dB.eq_2 (jW @parts.eq_1 (jW @parts.eq_2 (jW @elems.eq_1 (jW @elems.eq_2 (jW @cM.eq_1 (jW @yC (jW @yD (jW @wH (jW @t7 (jW @wI (jW @xU (jW @wJ (jW @wK (jW @wL (jW @wM (jW @xV (jW @wN (jW @dv.eq_1 (jW @dv.eq_2 (jW @dv.eq_3 (jW @dv.eq_4 (jW @gY.eq_1 (jW @gY.eq_2 (jW @cU.eq_1 (jW @cU.eq_2 (jW @cU.eq_3 (jW @cc.eq_1 (jW @cc.eq_2 (jW @cc.eq_3 (jW @cc.eq_4 (jW @cm.eq_1 (jW @cm.eq_2 (jW @cm.eq_3 (jW @bG.eq_1 (jW @bG.eq_2 (jW @bG.eq_3 (jW @bG.eq_4 (jW @bG.eq_5 (jW @bG.eq_6 (jW @bG.eq_7 (jW @bG.eq_8 (jW @bG.eq_9 (jW @bG.eq_10 (jW @eG.eq_1 (jW @cV.eq_1 (jW @cV.eq_2 (jW @cV.eq_3 (jW @toW.eq_1 (jW @toW.eq_2 (jW @bK.eq_1 (jW @bK.eq_2 (jW @bK.eq_3 (jW @bK.eq_4 (jW @dh.eq_1 (jW @dh.eq_2 (jW @bR.eq_1 (jW @bR.eq_2 (jW @ce.eq_1 (jW @ce.eq_2 (jW @ce.eq_3 (jW @ints.eq_1 (jW @ints.eq_2 (jW @ints.eq_3 (jW @ci.eq_1 (jW @ci.eq_2 (jW @ci.eq_3 (jW @ee.eq_1 (jW @ee.eq_2 (jW @ee.eq_3 (jW @ee.eq_4 (jW @W.ro.eq_1 (jW @W.ro.eq_2 (jW @C.ro.eq_1 (jW @C.ro.eq_2 (jW @V.ro.eq_1 (jW @V.ro.eq_2 (jW @V.ro.eq_3 (jW @fW.eq_1 (jW @fW.eq_2 (jW @fW.eq_3 (jW @Kd.size.eq_1 (jW @Kd.size.eq_2 (jW @pF (jW @oP (jW @pG (jW @rK (jW @pH (jW @bU.eq_1 (jW @cO.eq_1 (jW @cO.eq_2 (jW @Nat.min_def (jW @Fq.{0,0} (jW @Option.map_none.{0,0} (jW @Bool.not_true (jW @Bool.not_false (jW @decide_true (jW @decide_false (jW @Bool.and_self (jW @El.{0,0} (jW @Eu.{0,0} (jW @List.any_cons.{0} (jW @List.any_nil.{0} (jW @List.length_cons.{0} (jW @List.length_nil.{0} (jW @Fs.{0} (jW @EW.{0} (jW @EG.{0} (jW @if_true.{1} (jW @if_false.{1} (jW @true_and (jW @and_true (jW @vd.eq_1 (jW @Int.natCast_nonneg (jW @List.drop_zero.{0} (jW @List.take_length.{0} (jW @rR (jW @rS (jW @tW (jW @tX (jW @rP (jW @rQ (jW @xN (jW @xO (jW @tU (jW @tV (jW @xP (jW @pL (jW @pM (jW @rW (jW @pN (jW @pO (jW @pP (jW @pQ (jW @pR (jW @pS (jW @pT (jW @rZ (jW @rC (jW @rD (jW @rE (jW @rF (jW @rG (jW @rH (jW @rI (jW @rJ (jW @rU (jW @rV (jW @rX (jW @rY (jW @rO (jW @rL (jW @rM (jW @rN (jW @List.set_cons_zero.{0} (jW @List.set_cons_succ.{0} (jW @tY (jW @tZ (jW @Kd.ag.injEq (jW @EN.{0} (jW @EY.{0} (jW @jB (jW @tP (jW @gv (jW @wn (jW @jL (jW @wq (jW @tT (jW @rB (jW @List.nil_append.{0} (jW @Fw.{0} (jW @List.take_succ_cons.{0} (jW @List.take_zero.{0} (jW @List.drop_succ_cons.{0} (jW @List.take_nil.{0} (jW @List.drop_nil.{0} (jW @List.append_nil.{0} (jW @Eo.{0,0} (jW @List.flatMap_nil.{0,0} (jW @Option.bind_some.{0,0} (jW @ne_eq.{1} (jW @not_false_eq_true (@not_true_eq_false)))))))))))))))))))))))))))))))))))))))))))))))))))))))))))))))))))))))))))))))))))))))))))))))))))))))))))))))))))))))))))))))))))))))))))))))))))))))))))))))))))))))))))))))))))))))))))))))))))))))))))))))))))))))))))))))))))))))))))))))))))))))))))))))))))))))))))))))))))))))))))))))))))))))))))))))))))))))))))))))))))))))))))))))))))))))
theorem wy:eW (jW @xR (jW @ot (jW @t5 (jW @rT (jW @t6 (jW @wG (jW @xS (jW @xT (@cond_true.{1}))))))))):=jW @xR (jW @ot (jW @t5 (jW @rT (jW @t6 (jW @wG (jW @xS (jW @xT (@cond_true.{1}))))))))
theorem wz:eW (jW @Bool.false_and (jW @Bool.and_false (jW @pK (jW @Nat.sub_zero (jW @pJ (jW @oQ (jW @beq_self_eq_true.{0} (jW @Bool.and_true (jW @Bool.true_and (jW @yu (jW @yx (jW @yy (jW @yz (jW @yA (jW @yB (jW @List.replicate_zero.{0} (jW @Nat.mul_one (jW @Nat.one_mul (jW @Nat.add_zero (jW @Nat.zero_add (jW @wC (jW @wE (jW @wF (jW @xQ (jW @Int.natCast_add (jW @Int.natCast_mul (jW @Int.natCast_one (jW @Fj (@Int.cast_ofNat_Int))))))))))))))))))))))))))))):=jW @Bool.false_and (jW @Bool.and_false (jW @pK (jW @Nat.sub_zero (jW @pJ (jW @oQ (jW @beq_self_eq_true.{0} (jW @Bool.and_true (jW @Bool.true_and (jW @yu (jW @yx (jW @yy (jW @yz (jW @yA (jW @yB (jW @List.replicate_zero.{0} (jW @Nat.mul_one (jW @Nat.one_mul (jW @Nat.add_zero (jW @Nat.zero_add (jW @wC (jW @wE (jW @wF (jW @xQ (jW @Int.natCast_add (jW @Int.natCast_mul (jW @Int.natCast_one (jW @Fj (@Int.cast_ofNat_Int))))))))))))))))))))))))))))
theorem dK:eW (jW @V.ren.eq_1 (jW @V.ren.eq_2 (jW @V.ren.eq_3 (jW @W.ren.eq_1 (jW @W.ren.eq_2 (jW @C.ren.eq_1 (jW @C.ren.eq_2 (jW @C.ren.eq_3 (jW @C.ren.eq_4 (jW @C.ren.eq_5 (jW @C.ren.eq_6 (jW @V.ids.eq_1 (jW @V.ids.eq_2 (jW @V.ids.eq_3 (jW @W.ids.eq_1 (jW @W.ids.eq_2 (jW @C.ids.eq_1 (jW @C.ids.eq_2 (jW @C.ids.eq_3 (jW @C.ids.eq_4 (jW @C.ids.eq_5 (jW @C.ids.eq_6 (jW @Ob.ren.eq_1 (jW @Ob.ren.eq_2 (jW @Ob.ren.eq_3 (jW @Ob.ren.eq_4 (jW @Ob.ids.eq_1 (jW @Ob.ids.eq_2 (jW @Ob.ids.eq_3 (jW @Ob.ids.eq_4 (jW @Int.cast_ofNat_Int (jW @List.replicate_zero.{0} (jW @tQ (jW @rz (jW @tR (jW @rA (jW @id_eq.{1} (jW @Nat.mul_one (jW @Nat.mul_zero (jW @Nat.zero_mul (@List.flatten_nil.{0}))))))))))))))))))))))))))))))))))))))))):=jW @V.ren.eq_1 (jW @V.ren.eq_2 (jW @V.ren.eq_3 (jW @W.ren.eq_1 (jW @W.ren.eq_2 (jW @C.ren.eq_1 (jW @C.ren.eq_2 (jW @C.ren.eq_3 (jW @C.ren.eq_4 (jW @C.ren.eq_5 (jW @C.ren.eq_6 (jW @V.ids.eq_1 (jW @V.ids.eq_2 (jW @V.ids.eq_3 (jW @W.ids.eq_1 (jW @W.ids.eq_2 (jW @C.ids.eq_1 (jW @C.ids.eq_2 (jW @C.ids.eq_3 (jW @C.ids.eq_4 (jW @C.ids.eq_5 (jW @C.ids.eq_6 (jW @Ob.ren.eq_1 (jW @Ob.ren.eq_2 (jW @Ob.ren.eq_3 (jW @Ob.ren.eq_4 (jW @Ob.ids.eq_1 (jW @Ob.ids.eq_2 (jW @Ob.ids.eq_3 (jW @Ob.ids.eq_4 (jW @Int.cast_ofNat_Int (jW @List.replicate_zero.{0} (jW @tQ (jW @rz (jW @tR (jW @rA (jW @id_eq.{1} (jW @Nat.mul_one (jW @Nat.mul_zero (jW @Nat.zero_mul (@List.flatten_nil.{0}))))))))))))))))))))))))))))))))))))))))
theorem dL:eW (jW @Int.natCast_add (jW @Int.natCast_mul (jW @Int.natCast_one (@Fj)))):=jW @Int.natCast_add (jW @Int.natCast_mul (jW @Int.natCast_one (@Fj)))
theorem ah:eW (jW @wx (jW @wy @wz)):=jW @wx (jW @wy @wz)
theorem aF {σ:St} {p:Nat×Option Kd} {x:D} (h1:(cO σ p).bind (toW σ.h)=some x:=by simp only[ah,af,seval,iteOmega,toNatUp]):eC σ [p] (.w (.c (.d x))):=mJ h1
theorem dc {σ:St} {p q:Nat×Option Kd} {x y:D} (h1:(cO σ p).bind (toW σ.h)=some x:=by simp only[ah,af,seval,iteOmega,toNatUp]) (h2:(cO σ q).bind (toW σ.h)=some y:=by simp only[ah,af,seval,iteOmega,toNatUp]):eC σ [p,q] (.tup [.c (.d x),.c (.d y)]):=CO h1 h2
theorem sD {P:Program} {G:av} {K:St→Prop} {r:List ar} {f:Nat→V} {h:ak} {u:Nat→Bool} {d:Option Nat} {fn:FuncId} {xs:List SX} {own:Option (Nat×Nat)} {ds:List D} {res:V} {q:Prop} (h2:bd P G fn ds res) (e:q)
    (hq:aE (ci h u (d.getD 0) own res) (bE P G d r K f)=q:=by simp only[ah,af,seval,iteOmega,toNatUp]; rfl) (h1:bR h (xs.map (ev G f))=some ds:=by exact rfl)
    (h3:((xs.map (ev G f)).any V.hasOwn=false∨res.flat=true):=by exact .inl rfl) (hne:fn≠cW:=by decide) (hp:eZ own (xs.map (ev G f)):=by first | exact lF _ | exact ma _ _ _ | exact lG _ _ rfl):au P G (⟨d,.call fn xs own,none⟩::r) K ⟨f,h,u⟩ :=
  sC h2 (hq ▸ e) h1 h3 hne hp
def iM (a b:Int):Int:=if a.tmod b<0 then a.tdiv b-1 else a.tdiv b
theorem lr (a:Int) {b:Int} (h:0<b):iM a b=a / b:=by
  unfold iM;have h1:=Int.tmod_add_mul_tdiv a b;have h2:=Ft a b;have h3:=E4 a (show b≠0 by omega);have h4:=EZ a h;have h5:a.tmod b<b:=Int.tmod_lt_of_pos a h;have h6 : -b<a.tmod b:=by
    have:=Int.tmod_lt_of_pos (-a) h;rw[Int.neg_tmod] at this; omega
  split
  ·rename_i hn;have e:b*(a.tdiv b-1)=b*a.tdiv b-b:=by rw[Int.mul_sub,Int.mul_one]
   have key:b*(a.tdiv b-1)+(a.tmod b+b)=a:=by rw[e]; omega
   have:=(Int.ediv_emod_unique (a:=a) h (r:=a.tmod b+b) (q:=a.tdiv b-1)).2 ⟨by omega,by omega,by omega⟩;exact this.1.symm
  ·have:=(Int.ediv_emod_unique (a:=a) h (r:=a.tmod b) (q:=a.tdiv b)).2 ⟨by omega,by omega,by omega⟩;exact this.1.symm
def cu (a b:Int) (up:Bool):Int:=if up=true∧a.tmod b≠0 then a / b+1 else a / b

section
variable {P:Program} {G:av} {K:St→Prop} {r:List ar} {f:Nat→V} {h:ak} {u:Nat→Bool} {d:Option Nat} {x y t:SX}
end
theorem uF {P:Program} {G:av} {Q:AX→St→Prop} {f:Nat→V} {h:ak} {u:Nat→Bool} {t id sz:Nat} {c:aN} {cs cs':List C} {o:Ob} (hx:f t=.w (.c (.ptr id sz 0 0))) (hi:h id=some (.box cs)) (hn:cc cs=none) (hd:cB h cs=some cs') (hk:killAll h cs id=some o)
    (k:aL P G c Q ⟨f,upd (killAll h cs) id (some (.box cs')),u⟩):aL P G (.ghost t c) Q ⟨f,h,u⟩:=by
  show match ja ⟨f,h,u⟩ t with | some τ=>_ | none=>False
  unfold ja;simp only[hx,hi,hn,hd,hk];exact k
end Go.Proofs.Ytjhaklohdflppaa
