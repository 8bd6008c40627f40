/- Texts of one's own, merged: from: The plain logic (20): words of 32 bits. Own work. -/
import Derived.Laws.BitsLemmas
import Derived.Laws.Bits64
import Derived.Laws.BitsAllLaws
import Derived.Test.YtjhaklohdflppaaMg16
set_option linter.unusedVariables false
set_option linter.unusedSimpArgs false
namespace Go.Proofs.Ytjhaklohdflppaa
open Go.RowKit IntWalk
def kS (x y:UInt32):UInt32:=x ^^^ y
def kT (x y:UInt32):UInt32:=x &&& y
def lq (x y:UInt32):UInt32:=x ||| y
def kU (x y:UInt32):UInt32:=x+y
def kV (x:UInt32):UInt32:=UInt32.ofNat (4294967295-x.toNat)
def kW (x:UInt32) (n:Nat):UInt32:=UInt32.ofNat (x.toNat / 2^n)
def kX (x:UInt32) (n:Nat):UInt32:=UInt32.ofNat (x.toNat*2^n)
def kF (b:UInt8):UInt32:=UInt32.ofNat b.toNat
theorem word_lt (x:UInt32):x.toNat<4294967296:=x.toNat_lt
theorem xQ (x y:UInt32):bits .xor .u32 (x.toNat:Int) (y.toNat:Int)=((kS x y).toNat:Int):=by
  rw[u32_xor_nat _ _ (word_lt x) (word_lt y)]; simp[kS]
theorem xR (x y:UInt32):bits .and .u32 (x.toNat:Int) (y.toNat:Int)=((kT x y).toNat:Int):=by
  rw[u32_and_nat _ _ (word_lt x) (word_lt y)]; simp[kT]
theorem yB (x y:UInt32):bits .or .u32 (x.toNat:Int) (y.toNat:Int)=((lq x y).toNat:Int):=by
  rw[u32_or_nat _ _ (word_lt x) (word_lt y)]; simp[lq]
theorem xS (x y:UInt32):IntKind.u32.wrap ((x.toNat:Int)+(y.toNat:Int))=((kU x y).toNat:Int):=by
  rw[IntKind.wrap_u32]; simp[kU]
theorem yC (x:UInt32) (n:Nat):(x.toNat:Int) / 2^n=((kW x n).toNat:Int):=by
  have h:x.toNat / 2^n<4294967296:=Nat.lt_of_le_of_lt (Nat.div_le_self _ _) (word_lt x);unfold kW;rw[UInt32.toNat_ofNat_of_lt' (by simpa [UInt32.size] using h)];simp
theorem yD (x:UInt32) (n:Nat):(x.toNat:Int)*2^n%4294967296=((kX x n).toNat:Int):=by
  unfold kX;simp
theorem yE (x:UInt32):(4294967295:Int)-(x.toNat:Int)=((kV x).toNat:Int):=by
  have h:=word_lt x;unfold kV;rw[UInt32.toNat_ofNat_of_lt' (by simp[UInt32.size]; omega)];omega
theorem xT (b:UInt8):(b.toNat:Int)=((kF b).toNat:Int):=by
  have h:=b.toNat_lt;unfold kF;rw[UInt32.toNat_ofNat_of_lt' (by simp[UInt32.size]; omega)]
theorem nf (x y:UInt32):aO .xor (.w (.c (.d (wD x)))) (.w (.c (.d (wD y))))=some (wD (kS x y)):=by
  show aC .xor .u32 (x.toNat:Int) .u32 (y.toNat:Int)=_
  rw[gY,xQ]; rfl
theorem ng (x y:UInt32):aO .and (.w (.c (.d (wD x)))) (.w (.c (.d (wD y))))=some (wD (kT x y)):=by
  show aC .and .u32 (x.toNat:Int) .u32 (y.toNat:Int)=_
  rw[gX,xR]; rfl
theorem pB (x y:UInt32):aO .or (.w (.c (.d (wD x)))) (.w (.c (.d (wD y))))=some (wD (lq x y)):=by
  show aC .or .u32 (x.toNat:Int) .u32 (y.toNat:Int)=_
  rw[hO,yB]; rfl
theorem nh (x y:UInt32):aO .add (.w (.c (.d (wD x)))) (.w (.c (.d (wD y))))=some (wD (kU x y)):=by
  show aC .add .u32 (x.toNat:Int) .u32 (y.toNat:Int)=_
  rw[jI,xS]; rfl
theorem ni (x:UInt32) (k:IntKind) (n:Int) (h:0≤n):aO .shl (.w (.c (.d (wD x)))) (.w (.c (.d (.int k n))))=some (wD (kX x (min n.toNat 32))):=by
  show aC .shl .u32 (x.toNat:Int) k n=_
  rw[jL _ _ _ _ h,IntKind.wrap_u32]
  show some (D.int .u32 ((x.toNat:Int)*2^min n.toNat 32%4294967296))=_
  rw[yD]; rfl
theorem nj (x:UInt32) (k:IntKind) (n:Int) (h:0≤n):aO .shr (.w (.c (.d (wD x)))) (.w (.c (.d (.int k n))))=some (wD (kW x (min n.toNat 32))):=by
  show aC .shr .u32 (x.toNat:Int) k n=_
  rw[jM _ _ _ _ h]
  show some (D.int .u32 ((x.toNat:Int) / 2^min n.toNat 32))=_
  rw[yC]; rfl
theorem pC (x:UInt32):dO .xor (.w (.c (.d (wD x))))=some (wD (kV x)):=by
  have:bits .xor .u32 4294967295 (x.toNat:Int)=(4294967295:Int)-(x.toNat:Int):=by
    have h:=x.toNat_lt;have h2:4294967295 ^^^ x.toNat=4294967295-x.toNat:=by
      have e:=congrArg BitVec.toNat (BitVec.allOnes_xor (x:=BitVec.ofNat 32 x.toNat));rw[BitVec.toNat_xor,BitVec.toNat_not,BitVec.toNat_allOnes,BitVec.toNat_ofNat,Nat.mod_eq_of_lt (by omega)] at e;omega
    have h3:=u32_xor_nat 4294967295 x.toNat (by decide) h;rw[h2] at h3;have h4:((4294967295:Nat):Int)=4294967295:=rfl;rw[h4] at h3;omega
  show some (D.int .u32 (bits .xor .u32 4294967295 (x.toNat:Int)))=_
  rw[this,yE]; rfl
theorem nk (x y:UInt32):aO .eql (.w (.c (.d (wD x)))) (.w (.c (.d (wD y))))=some (.bool (x==y)):=by
  show aC .eql .u32 (x.toNat:Int) .u32 (y.toNat:Int)=_
  rw[jJ];by_cases h:x=y
  ·subst h; simp
  ·have:¬ ((x.toNat:Int)=(y.toNat:Int)):=fun e=>h (UInt32.toNat_inj.1 (by omega))
   simp[this,h]
theorem nl (x y:UInt32):aO .neq (.w (.c (.d (wD x)))) (.w (.c (.d (wD y))))=some (.bool (x != y)):=by
  show aC .neq .u32 (x.toNat:Int) .u32 (y.toNat:Int)=_
  rw[jK];by_cases h:x=y
  ·subst h; simp
  ·have:¬ ((x.toNat:Int)=(y.toNat:Int)):=fun e=>h (UInt32.toNat_inj.1 (by omega))
   simp[this,h]
theorem pD (b:UInt8):D.int .u32 (IntKind.u32.wrap (b.toNat:Int))=wD (kF b):=by
  have h:=b.toNat_lt;rw[IntWalk.u32_in _ (by omega),xT]; rfl
def vP (x y:UInt8):UInt8:=x ^^^ y
def vQ (x y:UInt8):UInt8:=x &&& y
def wa (x y:UInt8):UInt8:=x ||| y
theorem fo (x:UInt8):x.toNat<256:=x.toNat_lt
theorem nm (x y:UInt8):aO .xor (.w (.c (.d (bD x)))) (.w (.c (.d (bD y))))=some (bD (vP x y)):=by
  show aC .xor .u8 (x.toNat:Int) .u8 (y.toNat:Int)=_
  rw[gY,u8_xor_nat _ _ (fo x) (fo y)]; simp[vP,bD]
theorem nn (x y:UInt8):aO .and (.w (.c (.d (bD x)))) (.w (.c (.d (bD y))))=some (bD (vQ x y)):=by
  show aC .and .u8 (x.toNat:Int) .u8 (y.toNat:Int)=_
  rw[gX,u8_and_nat _ _ (fo x) (fo y)]; simp[vQ,bD]
theorem pE (x y:UInt8):aO .or (.w (.c (.d (bD x)))) (.w (.c (.d (bD y))))=some (bD (wa x y)):=by
  show aC .or .u8 (x.toNat:Int) .u8 (y.toNat:Int)=_
  rw[hO,u8_or_nat _ _ (fo x) (fo y)]; simp[wa,bD]
theorem vR (G:am) (f:Nat→V):ev G f .u=.undef:=rfl
def vb (P:Program) (G:am) (d:Option Nat) (r:List aj) (K:St→Prop) (f:Nat→V) (h:ab) (u:Nat→Bool) (F:Nat) (ds:List D):Prop:=ak P G r K ⟨az f d (.w (.c (.d (.fn F ds)))),h,u⟩
theorem ru (P:Program) (G:am) (d:Option Nat) (r:List aj) (K:St→Prop) (f:Nat→V) (h:ab) (u:Nat→Bool) (F:Nat) (xs:List SX):ak P G (⟨d,.clos F xs,none⟩::r) K ⟨f,h,u⟩=av (bI (xs.map (ev G f))) (vb P G d r K f h u F):=by
  show (match (bI (xs.map (ev G f))).map fun ds=>((.w (.c (.d (.fn F ds))),h,u):R) with | some r=>_ | none=>False)=_
  cases bI (xs.map (ev G f)) <;> rfl
theorem pF (P:Program) (G:am) (d:Option Nat) (r:List aj) (K:St→Prop) (f:Nat→V) (h:ab) (u:Nat→Bool) (F:Nat) (ds:List D):vb P G d r K f h u F ds=ak P G r K ⟨az f d (.w (.c (.d (.fn F ds)))),h,u⟩:=rfl
theorem nq:bI []=some []:=rfl
theorem pG (cs:List D) (r:List V):bI (.w (.c (.rp cs))::r)=(bI r).map fun l=>.ref cs::l:=by
  simp only[bI,dL]; cases bI r <;> rfl
theorem nr (k:IntKind) (n:Int) (r:List V):bI (.w (.c (.d (.int k n)))::r)=(bI r).map fun l=>.int k n::l:=by
  simp only[bI,dL]; cases bI r <;> rfl
theorem pH (es:List D) (r:List V):bI (.w (.c (.d (.sl es)))::r)=(bI r).map fun l=>.sl es::l:=by
  simp only[bI,dL]; cases bI r <;> rfl
def AW (P:Program) (G:am) (body:aK) (K:AX→St→Prop) (e:AX) (s:St):Prop:=match e with | .nrm=>aG P G body K s | _=>False
theorem pI (P:Program) (G:am) (body:aK) (K:AX→St→Prop) (s:St):AW P G body K .nrm s=aG P G body K s:=rfl
def dR (i:Nat) (v:V):Bool:=!v.ids.contains i
def ew (G:am) (f:Nat→V) (i:Nat):List SX→Bool
  | []=>true
  | z::r=>dR i (ev G f z)&&ew G f i r
def lr (G:am) (f:Nat→V) (h:ab) (k:Kd) (l:List SX) (v:V):Option W:=bK h k (.undef::l.map (ev G f)) v
theorem ns {P:Program} {G:am} {d:Option Nat} {r:List aj} {K:St→Prop} {f:Nat→V} {h:ab} {u:Nat→Bool} {x:SX} (k:Kd) (l:List SX):ak P G (⟨d,.loadX k x (.u::l),none⟩::r) K ⟨f,h,u⟩=av (lr G f h k l (ev G f x)) (cX P G d r K f h u):=by
  rw[aD _ rfl];exact b4 _ _ _
theorem rv {G:am} {f:Nat→V} {i:Nat}:∀ l:List SX,ew G f i l=(l.map (ev G f)).all fun y=>!y.ids.contains i
  | []=>rfl
  | z::r=>by
    show (dR i (ev G f z)&&ew G f i r)=_
    rw[rv r]; rfl
theorem rx (G:am) (f:Nat→V) (h:ab) (k:Kd) (l:List SX) (i a b c:Nat):lr G f h k l (.w (.c (.ptr i a b c)))=cond (ew G f i l) (cond (aZ (h i)) (aL h k (.w (.c (.ptr i a b c)))) none) none:=by
  have e1:ea (.undef::l.map (ev G f)) (.w (.c (.ptr i a b c)))=ew G f i l:=by
    rw[rv];simp[ea,V.ids,W.ids,C.ids]
  have e2:(!(V.undef::l.map (ev G f)).any cV || eZ h (.w (.c (.ptr i a b c))))=aZ (h i):=by
    simp[cV,eZ]
  unfold lr bK;rw[e1,e2];cases ew G f i l <;> cases aZ (h i) <;> rfl
theorem ry (G:am) (f:Nat→V) (i:Nat):ew G f i []=true:=rfl
theorem pJ (G:am) (f:Nat→V) (i:Nat) (z:SX) (r:List SX):ew G f i (z::r)=(dR i (ev G f z)&&ew G f i r):=rfl
theorem rz (i j a b c:Nat):dR i (.w (.c (.ptr j a b c)))=!(i==j):=by
  by_cases h:i=j <;> simp[dR,V.ids,W.ids,C.ids,h]
theorem rA (i j a b c:Nat):dR i (.w (.c (.own j a b c)))=!(i==j):=by
  by_cases h:i=j <;> simp[dR,V.ids,W.ids,C.ids,h]
theorem ve (i:Nat) (x:D):dR i (.w (.c (.d x)))=true:=rfl
theorem rB (i:Nat):dR i (.w (.c .nil))=true:=rfl
theorem t6 (i:Nat) (cs:List D):dR i (.w (.c (.rp cs)))=true:=rfl
theorem rC (cs:List C):aZ (some (.box cs))=true:=rfl
set_option maxRecDepth 100000
theorem jW {a b : Prop} (l : a) (r : b) : a ∧ b := And.intro l r
theorem wx:dE (jW @uE (jW @uF (jW @uG (jW @uH (jW @uI (jW @rS (jW @rT (jW @rU (jW @rV (jW @rW (jW @rX (jW @rY (jW @rZ (jW @r6 (jW @r7 (jW @r8 (jW @r9 (jW @sd (jW @se (jW @sg (jW @si (jW @sk (jW @sn (jW @sq (jW @sr (jW @su (jW @sv (jW @sw (jW @sy (jW @sA (jW @sB (jW @sE (jW @sF (jW @sG (jW @sH (jW @sI (jW @sJ (jW @sK (jW @sL (jW @sM (jW @sN (jW @sO (jW @ns (jW @rx (jW @ry (jW @pJ (jW @rz (jW @rA (jW @ve (jW @rB (jW @t6 (jW @rC (jW @p6 (jW @p7 (jW @p8 (jW @mo (jW @sx (jW @kg (jW @jQ (jW @rQ (jW @rR (jW @rP (jW @kf (jW @pZ (jW @uB (jW @uC (jW @uD (jW @a8.eq_1 (jW @a8.eq_2 (jW @a8.eq_3 (jW @a8.eq_4 (jW @cB.eq_1 (jW @cB.eq_2 (jW @killAll.eq_1 (jW @killAll.eq_2 (jW @killAll.eq_3 (jW @vR (jW @ru (jW @pF (jW @nq (jW @pG (jW @nr (jW @pH (jW @pI (jW @ef.eq_1 (jW @ef.eq_2 (jW @ef.eq_3 (jW @ef.eq_4 (jW @ef.eq_5 (jW @ef.eq_6 (jW @ef.eq_7 (jW @ef.eq_8 (jW @ef.eq_9 (jW @ef.eq_10 (jW @ef.eq_11 (jW @ef.eq_12 (jW @ef.eq_13 (jW @ef.eq_14 (jW @ef.eq_15 (jW @ef.eq_16 (jW @ef.eq_17 (jW @ef.eq_18 (jW @ef.eq_19 (jW @ef.eq_20 (jW @ef.eq_21 (jW @ef.eq_22 (jW @ef.eq_23 (jW @ef.eq_24 (jW @ef.eq_25 (jW @ef.eq_26 (jW @ef.eq_27 (jW @ef.eq_28 (jW @ef.eq_29 (jW @ef.eq_30 (jW @ef.eq_31 (jW @ef.eq_32 (jW @ef.eq_33 (jW @ef.eq_34 (jW @ef.eq_35 (jW @ef.eq_36 (jW @ef.eq_37 (jW @ef.eq_38 (jW @ef.eq_39 (jW @ef.eq_40 (jW @ef.eq_41 (jW @ef.eq_42 (jW @ef.eq_43 (jW @ef.eq_44 (jW @ef.eq_45 (jW @ef.eq_46 (jW @ef.eq_47 (jW @ef.eq_48 (jW @ef.eq_49 (jW @ef.eq_50 (jW @ef.eq_51 (jW @ef.eq_52 (jW @ef.eq_53 (jW @bound.eq_1 (jW @bound.eq_2 (jW @dP.eq_1 (jW @dP.eq_2 (jW @dP.eq_3 (jW @dP.eq_4 (jW @cu.eq_1 (jW @aL.eq_1 (jW @aL.eq_2 (jW @aL.eq_3 (jW @aL.eq_4 (jW @aL.eq_5 (jW @aL.eq_6 (jW @aL.eq_7 (jW @aL.eq_8 (jW @bz.eq_1 (jW @bz.eq_2 (jW @bz.eq_3 (jW @bz.eq_4 (jW @bz.eq_5 (jW @bz.eq_6 (jW @bz.eq_7 (jW @q9 (jW @cE.eq_1 (jW @cE.eq_2 (jW @parts.eq_1 (jW @parts.eq_2 (jW @elems.eq_1 (jW @elems.eq_2 (jW @b5.eq_1 (jW @vM (jW @vN (jW @tV (jW @rt (jW @tW (jW @u9 (jW @tX (jW @tY (jW @tZ (jW @t0 (jW @va (jW @t5 (jW @cC.eq_1 (jW @cC.eq_2 (jW @cC.eq_3 (jW @cC.eq_4 (jW @fv.eq_1 (jW @fv.eq_2 (jW @cb.eq_1 (jW @cb.eq_2 (jW @cb.eq_3 (jW @bF.eq_1 (jW @bF.eq_2 (jW @bF.eq_3 (jW @bF.eq_4 (jW @bG.eq_1 (jW @bG.eq_2 (jW @bG.eq_3 (jW @ba.eq_1 (jW @ba.eq_2 (jW @ba.eq_3 (jW @ba.eq_4 (jW @ba.eq_5 (jW @ba.eq_6 (jW @ba.eq_7 (jW @ba.eq_8 (jW @ba.eq_9 (jW @ba.eq_10 (jW @dr.eq_1 (jW @cc.eq_1 (jW @cc.eq_2 (jW @cc.eq_3 (jW @toW.eq_1 (jW @toW.eq_2 (jW @bw.eq_1 (jW @bw.eq_2 (jW @bw.eq_3 (jW @bw.eq_4 (jW @cr.eq_1 (jW @cr.eq_2 (jW @bg.eq_1 (jW @bg.eq_2 (jW @bJ.eq_1 (jW @bJ.eq_2 (jW @bJ.eq_3 (jW @ints.eq_1 (jW @ints.eq_2 (jW @ints.eq_3 (jW @bE.eq_1 (jW @bE.eq_2 (jW @bE.eq_3 (jW @c9.eq_1 (jW @c9.eq_2 (jW @c9.eq_3 (jW @c9.eq_4 (jW @W.ro.eq_1 (jW @W.ro.eq_2 (jW @C.ro.eq_1 (jW @C.ro.eq_2 (jW @V.ro.eq_1 (jW @V.ro.eq_2 (jW @V.ro.eq_3 (jW @eF.eq_1 (jW @eF.eq_2 (jW @eF.eq_3 (jW @Kd.size.eq_1 (jW @Kd.size.eq_2 (jW @m7 (jW @mh (jW @m8 (jW @pn (jW @m9 (jW @bp.eq_1 (jW @ce.eq_1 (jW @ce.eq_2 (jW @Nat.min_def (jW @Cm.{0,0} (jW @Option.map_none.{0,0} (jW @Bool.not_true (jW @Bool.not_false (jW @decide_true (jW @decide_false (jW @Bool.and_self (jW @Bj.{0,0} (jW @BR.{0,0} (jW @List.any_cons.{0} (jW @List.any_nil.{0} (jW @List.length_cons.{0} (jW @List.length_nil.{0} (jW @Cn.{0} (jW @BV.{0} (jW @BF.{0} (jW @if_true.{1} (jW @if_false.{1} (jW @true_and (jW @and_true (jW @vd.eq_1 (jW @Int.natCast_nonneg (jW @List.drop_zero.{0} (jW @List.take_length.{0} (jW @pw (jW @px (jW @rk (jW @rl (jW @pu (jW @pv (jW @uX (jW @uY (jW @ri (jW @rj (jW @uZ (jW @nf (jW @ng (jW @pB (jW @nh (jW @ni (jW @nj (jW @nk (jW @nl (jW @nm (jW @nn (jW @pE (jW @pc (jW @pd (jW @pf (jW @pg (jW @pi (jW @pj (jW @pk (jW @pm (jW @pz (jW @pA (jW @pC (jW @pD (jW @pt (jW @po (jW @pp (jW @pq (jW @List.set_cons_zero.{0} (jW @List.set_cons_succ.{0} (jW @rm (jW @rn (jW @Kd.ag.injEq (jW @BL.{0} (jW @BZ.{0} (jW @gZ (jW @rb (jW @eS (jW @tN (jW @hP (jW @tO (jW @rh (jW @pb (jW @List.nil_append.{0} (jW @Ct.{0} (jW @List.take_succ_cons.{0} (jW @List.take_zero.{0} (jW @List.drop_succ_cons.{0} (jW @List.take_nil.{0} (jW @List.drop_nil.{0} (jW @List.append_nil.{0} (jW @Bp.{0,0} (jW @List.flatMap_nil.{0,0} (jW @Option.bind_some.{0,0} (jW @ne_eq.{1} (jW @not_false_eq_true (@not_true_eq_false)))))))))))))))))))))))))))))))))))))))))))))))))))))))))))))))))))))))))))))))))))))))))))))))))))))))))))))))))))))))))))))))))))))))))))))))))))))))))))))))))))))))))))))))))))))))))))))))))))))))))))))))))))))))))))))))))))))))))))))))))))))))))))))))))))))))))))))))))))))))))))))))))))))))))))))))))))))))))))))))))))))))))))))))))))))))):=jW @uE (jW @uF (jW @uG (jW @uH (jW @uI (jW @rS (jW @rT (jW @rU (jW @rV (jW @rW (jW @rX (jW @rY (jW @rZ (jW @r6 (jW @r7 (jW @r8 (jW @r9 (jW @sd (jW @se (jW @sg (jW @si (jW @sk (jW @sn (jW @sq (jW @sr (jW @su (jW @sv (jW @sw (jW @sy (jW @sA (jW @sB (jW @sE (jW @sF (jW @sG (jW @sH (jW @sI (jW @sJ (jW @sK (jW @sL (jW @sM (jW @sN (jW @sO (jW @ns (jW @rx (jW @ry (jW @pJ (jW @rz (jW @rA (jW @ve (jW @rB (jW @t6 (jW @rC (jW @p6 (jW @p7 (jW @p8 (jW @mo (jW @sx (jW @kg (jW @jQ (jW @rQ (jW @rR (jW @rP (jW @kf (jW @pZ (jW @uB (jW @uC (jW @uD (jW @a8.eq_1 (jW @a8.eq_2 (jW @a8.eq_3 (jW @a8.eq_4 (jW @cB.eq_1 (jW @cB.eq_2 (jW @killAll.eq_1 (jW @killAll.eq_2 (jW @killAll.eq_3 (jW @vR (jW @ru (jW @pF (jW @nq (jW @pG (jW @nr (jW @pH (jW @pI (jW @ef.eq_1 (jW @ef.eq_2 (jW @ef.eq_3 (jW @ef.eq_4 (jW @ef.eq_5 (jW @ef.eq_6 (jW @ef.eq_7 (jW @ef.eq_8 (jW @ef.eq_9 (jW @ef.eq_10 (jW @ef.eq_11 (jW @ef.eq_12 (jW @ef.eq_13 (jW @ef.eq_14 (jW @ef.eq_15 (jW @ef.eq_16 (jW @ef.eq_17 (jW @ef.eq_18 (jW @ef.eq_19 (jW @ef.eq_20 (jW @ef.eq_21 (jW @ef.eq_22 (jW @ef.eq_23 (jW @ef.eq_24 (jW @ef.eq_25 (jW @ef.eq_26 (jW @ef.eq_27 (jW @ef.eq_28 (jW @ef.eq_29 (jW @ef.eq_30 (jW @ef.eq_31 (jW @ef.eq_32 (jW @ef.eq_33 (jW @ef.eq_34 (jW @ef.eq_35 (jW @ef.eq_36 (jW @ef.eq_37 (jW @ef.eq_38 (jW @ef.eq_39 (jW @ef.eq_40 (jW @ef.eq_41 (jW @ef.eq_42 (jW @ef.eq_43 (jW @ef.eq_44 (jW @ef.eq_45 (jW @ef.eq_46 (jW @ef.eq_47 (jW @ef.eq_48 (jW @ef.eq_49 (jW @ef.eq_50 (jW @ef.eq_51 (jW @ef.eq_52 (jW @ef.eq_53 (jW @bound.eq_1 (jW @bound.eq_2 (jW @dP.eq_1 (jW @dP.eq_2 (jW @dP.eq_3 (jW @dP.eq_4 (jW @cu.eq_1 (jW @aL.eq_1 (jW @aL.eq_2 (jW @aL.eq_3 (jW @aL.eq_4 (jW @aL.eq_5 (jW @aL.eq_6 (jW @aL.eq_7 (jW @aL.eq_8 (jW @bz.eq_1 (jW @bz.eq_2 (jW @bz.eq_3 (jW @bz.eq_4 (jW @bz.eq_5 (jW @bz.eq_6 (jW @bz.eq_7 (jW @q9 (jW @cE.eq_1 (jW @cE.eq_2 (jW @parts.eq_1 (jW @parts.eq_2 (jW @elems.eq_1 (jW @elems.eq_2 (jW @b5.eq_1 (jW @vM (jW @vN (jW @tV (jW @rt (jW @tW (jW @u9 (jW @tX (jW @tY (jW @tZ (jW @t0 (jW @va (jW @t5 (jW @cC.eq_1 (jW @cC.eq_2 (jW @cC.eq_3 (jW @cC.eq_4 (jW @fv.eq_1 (jW @fv.eq_2 (jW @cb.eq_1 (jW @cb.eq_2 (jW @cb.eq_3 (jW @bF.eq_1 (jW @bF.eq_2 (jW @bF.eq_3 (jW @bF.eq_4 (jW @bG.eq_1 (jW @bG.eq_2 (jW @bG.eq_3 (jW @ba.eq_1 (jW @ba.eq_2 (jW @ba.eq_3 (jW @ba.eq_4 (jW @ba.eq_5 (jW @ba.eq_6 (jW @ba.eq_7 (jW @ba.eq_8 (jW @ba.eq_9 (jW @ba.eq_10 (jW @dr.eq_1 (jW @cc.eq_1 (jW @cc.eq_2 (jW @cc.eq_3 (jW @toW.eq_1 (jW @toW.eq_2 (jW @bw.eq_1 (jW @bw.eq_2 (jW @bw.eq_3 (jW @bw.eq_4 (jW @cr.eq_1 (jW @cr.eq_2 (jW @bg.eq_1 (jW @bg.eq_2 (jW @bJ.eq_1 (jW @bJ.eq_2 (jW @bJ.eq_3 (jW @ints.eq_1 (jW @ints.eq_2 (jW @ints.eq_3 (jW @bE.eq_1 (jW @bE.eq_2 (jW @bE.eq_3 (jW @c9.eq_1 (jW @c9.eq_2 (jW @c9.eq_3 (jW @c9.eq_4 (jW @W.ro.eq_1 (jW @W.ro.eq_2 (jW @C.ro.eq_1 (jW @C.ro.eq_2 (jW @V.ro.eq_1 (jW @V.ro.eq_2 (jW @V.ro.eq_3 (jW @eF.eq_1 (jW @eF.eq_2 (jW @eF.eq_3 (jW @Kd.size.eq_1 (jW @Kd.size.eq_2 (jW @m7 (jW @mh (jW @m8 (jW @pn (jW @m9 (jW @bp.eq_1 (jW @ce.eq_1 (jW @ce.eq_2 (jW @Nat.min_def (jW @Cm.{0,0} (jW @Option.map_none.{0,0} (jW @Bool.not_true (jW @Bool.not_false (jW @decide_true (jW @decide_false (jW @Bool.and_self (jW @Bj.{0,0} (jW @BR.{0,0} (jW @List.any_cons.{0} (jW @List.any_nil.{0} (jW @List.length_cons.{0} (jW @List.length_nil.{0} (jW @Cn.{0} (jW @BV.{0} (jW @BF.{0} (jW @if_true.{1} (jW @if_false.{1} (jW @true_and (jW @and_true (jW @vd.eq_1 (jW @Int.natCast_nonneg (jW @List.drop_zero.{0} (jW @List.take_length.{0} (jW @pw (jW @px (jW @rk (jW @rl (jW @pu (jW @pv (jW @uX (jW @uY (jW @ri (jW @rj (jW @uZ (jW @nf (jW @ng (jW @pB (jW @nh (jW @ni (jW @nj (jW @nk (jW @nl (jW @nm (jW @nn (jW @pE (jW @pc (jW @pd (jW @pf (jW @pg (jW @pi (jW @pj (jW @pk (jW @pm (jW @pz (jW @pA (jW @pC (jW @pD (jW @pt (jW @po (jW @pp (jW @pq (jW @List.set_cons_zero.{0} (jW @List.set_cons_succ.{0} (jW @rm (jW @rn (jW @Kd.ag.injEq (jW @BL.{0} (jW @BZ.{0} (jW @gZ (jW @rb (jW @eS (jW @tN (jW @hP (jW @tO (jW @rh (jW @pb (jW @List.nil_append.{0} (jW @Ct.{0} (jW @List.take_succ_cons.{0} (jW @List.take_zero.{0} (jW @List.drop_succ_cons.{0} (jW @List.take_nil.{0} (jW @List.drop_nil.{0} (jW @List.append_nil.{0} (jW @Bp.{0,0} (jW @List.flatMap_nil.{0,0} (jW @Option.bind_some.{0,0} (jW @ne_eq.{1} (jW @not_false_eq_true (@not_true_eq_false)))))))))))))))))))))))))))))))))))))))))))))))))))))))))))))))))))))))))))))))))))))))))))))))))))))))))))))))))))))))))))))))))))))))))))))))))))))))))))))))))))))))))))))))))))))))))))))))))))))))))))))))))))))))))))))))))))))))))))))))))))))))))))))))))))))))))))))))))))))))))))))))))))))))))))))))))))))))))))))))))))))))))))))))))))))))
theorem wy:dE (jW @u5 (jW @lV (jW @rq (jW @py (jW @rr (jW @tU (jW @u6 (jW @u7 (@cond_true.{1}))))))))):=jW @u5 (jW @lV (jW @rq (jW @py (jW @rr (jW @tU (jW @u6 (jW @u7 (@cond_true.{1}))))))))
theorem wz:dE (jW @Bool.false_and (jW @Bool.and_false (jW @nc (jW @Nat.sub_zero (jW @nb (jW @mi (jW @beq_self_eq_true.{0} (jW @Bool.and_true (jW @Bool.true_and (jW @vG (jW @vH (jW @vI (jW @vJ (jW @vK (jW @vL (jW @List.replicate_zero.{0} (jW @Nat.mul_one (jW @Nat.one_mul (jW @Nat.add_zero (jW @Nat.zero_add (jW @tR (jW @tS (jW @tT (jW @u4 (jW @Int.natCast_add (jW @Int.natCast_mul (jW @Int.natCast_one (jW @Int.natCast_zero (@Int.cast_ofNat_Int))))))))))))))))))))))))))))):=jW @Bool.false_and (jW @Bool.and_false (jW @nc (jW @Nat.sub_zero (jW @nb (jW @mi (jW @beq_self_eq_true.{0} (jW @Bool.and_true (jW @Bool.true_and (jW @vG (jW @vH (jW @vI (jW @vJ (jW @vK (jW @vL (jW @List.replicate_zero.{0} (jW @Nat.mul_one (jW @Nat.one_mul (jW @Nat.add_zero (jW @Nat.zero_add (jW @tR (jW @tS (jW @tT (jW @u4 (jW @Int.natCast_add (jW @Int.natCast_mul (jW @Int.natCast_one (jW @Int.natCast_zero (@Int.cast_ofNat_Int))))))))))))))))))))))))))))
theorem ls:dE (jW @V.ren.eq_1 (jW @V.ren.eq_2 (jW @V.ren.eq_3 (jW @W.ren.eq_1 (jW @W.ren.eq_2 (jW @C.ren.eq_1 (jW @C.ren.eq_2 (jW @C.ren.eq_3 (jW @C.ren.eq_4 (jW @C.ren.eq_5 (jW @C.ren.eq_6 (jW @V.ids.eq_1 (jW @V.ids.eq_2 (jW @V.ids.eq_3 (jW @W.ids.eq_1 (jW @W.ids.eq_2 (jW @C.ids.eq_1 (jW @C.ids.eq_2 (jW @C.ids.eq_3 (jW @C.ids.eq_4 (jW @C.ids.eq_5 (jW @C.ids.eq_6 (jW @Ob.ren.eq_1 (jW @Ob.ren.eq_2 (jW @Ob.ren.eq_3 (jW @Ob.ren.eq_4 (jW @Ob.ids.eq_1 (jW @Ob.ids.eq_2 (jW @Ob.ids.eq_3 (jW @Ob.ids.eq_4 (jW @Int.cast_ofNat_Int (jW @List.replicate_zero.{0} (jW @rc (jW @o8 (jW @re (jW @o9 (jW @id_eq.{1} (jW @Nat.mul_one (jW @Nat.mul_zero (jW @Nat.zero_mul (@List.flatten_nil.{0}))))))))))))))))))))))))))))))))))))))))):=jW @V.ren.eq_1 (jW @V.ren.eq_2 (jW @V.ren.eq_3 (jW @W.ren.eq_1 (jW @W.ren.eq_2 (jW @C.ren.eq_1 (jW @C.ren.eq_2 (jW @C.ren.eq_3 (jW @C.ren.eq_4 (jW @C.ren.eq_5 (jW @C.ren.eq_6 (jW @V.ids.eq_1 (jW @V.ids.eq_2 (jW @V.ids.eq_3 (jW @W.ids.eq_1 (jW @W.ids.eq_2 (jW @C.ids.eq_1 (jW @C.ids.eq_2 (jW @C.ids.eq_3 (jW @C.ids.eq_4 (jW @C.ids.eq_5 (jW @C.ids.eq_6 (jW @Ob.ren.eq_1 (jW @Ob.ren.eq_2 (jW @Ob.ren.eq_3 (jW @Ob.ren.eq_4 (jW @Ob.ids.eq_1 (jW @Ob.ids.eq_2 (jW @Ob.ids.eq_3 (jW @Ob.ids.eq_4 (jW @Int.cast_ofNat_Int (jW @List.replicate_zero.{0} (jW @rc (jW @o8 (jW @re (jW @o9 (jW @id_eq.{1} (jW @Nat.mul_one (jW @Nat.mul_zero (jW @Nat.zero_mul (@List.flatten_nil.{0}))))))))))))))))))))))))))))))))))))))))
theorem lu:dE (jW @Int.natCast_add (jW @Int.natCast_mul (jW @Int.natCast_one (@Int.natCast_zero)))):=jW @Int.natCast_add (jW @Int.natCast_mul (jW @Int.natCast_one (@Int.natCast_zero)))
theorem ah:dE (jW @wx (jW @wy @wz)):=jW @wx (jW @wy @wz)
theorem aF {σ:St} {p:Nat×Option Kd} {x:D} (h1:(ce σ p).bind (toW σ.h)=some x:=by simp only[ah,af,seval,iteOmega,toNatUp]):dp σ [p] (.w (.c (.d x))):=ku h1
theorem cF {σ:St} {p q:Nat×Option Kd} {x y:D} (h1:(ce σ p).bind (toW σ.h)=some x:=by simp only[ah,af,seval,iteOmega,toNatUp]) (h2:(ce σ q).bind (toW σ.h)=some y:=by simp only[ah,af,seval,iteOmega,toNatUp]):dp σ [p,q] (.tup [.c (.d x),.c (.d y)]):=z3 h1 h2
theorem sD {P:Program} {G:am} {K:St→Prop} {r:List aj} {f:Nat→V} {h:ab} {u:Nat→Bool} {d:Option Nat} {fn:FuncId} {xs:List SX} {own:Option (Nat×Nat)} {ds:List D} {res:V} {q:Prop} (h2:bc P G fn ds res) (e:q)
    (hq:av (bE h u (d.getD 0) own res) (a7 P G d r K f)=q:=by simp only[ah,af,seval,iteOmega,toNatUp]; rfl) (h1:bg h (xs.map (ev G f))=some ds:=by exact rfl)
    (h3:((xs.map (ev G f)).any V.hasOwn=false∨res.flat=true):=by exact .inl rfl) (hne:fn≠cd:=by decide) (hp:dH own (xs.map (ev G f)):=by first | exact jv _ | exact jS _ _ _ | exact jw _ _ rfl):ak P G (⟨d,.call fn xs own,none⟩::r) K ⟨f,h,u⟩ :=
  sC h2 (hq ▸ e) h1 h3 hne hp
def ii (a b:Int):Int:=if a.tmod b<0 then a.tdiv b-1 else a.tdiv b
theorem mj (a:Int) {b:Int} (h:0<b):ii a b=a / b:=by
  unfold ii;have h1:=Int.tmod_add_mul_tdiv a b;have h2:=Co a b;have h3:=Cq a (show b≠0 by omega);have h4:=Cg a h;have h5:a.tmod b<b:=Int.tmod_lt_of_pos a h;have h6 : -b<a.tmod b:=by
    have:=Int.tmod_lt_of_pos (-a) h;rw[Int.neg_tmod] at this; omega
  split
  ·rename_i hn;have e:b*(a.tdiv b-1)=b*a.tdiv b-b:=by rw[Int.mul_sub,Int.mul_one]
   have key:b*(a.tdiv b-1)+(a.tmod b+b)=a:=by rw[e]; omega
   have:=(Int.ediv_emod_unique (a:=a) h (r:=a.tmod b+b) (q:=a.tdiv b-1)).2 ⟨by omega,by omega,by omega⟩;exact this.1.symm
  ·have:=(Int.ediv_emod_unique (a:=a) h (r:=a.tmod b) (q:=a.tdiv b)).2 ⟨by omega,by omega,by omega⟩;exact this.1.symm
def cp (a b:Int) (up:Bool):Int:=if up=true∧a.tmod b≠0 then a / b+1 else a / b

end Go.Proofs.Ytjhaklohdflppaa
