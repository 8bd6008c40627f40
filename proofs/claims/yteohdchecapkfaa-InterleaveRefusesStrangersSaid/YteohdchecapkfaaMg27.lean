/- Texts of one's own, merged: from: The plain logic (20): words of 32 bits. Own work. -/
import Derived.Laws.BitsLemmas
import Derived.Laws.Bits64
import Derived.Laws.BitsAllLaws
import Derived.Test.YteohdchecapkfaaMg26
set_option linter.unusedVariables false
set_option linter.unusedSimpArgs false
namespace Go.Proofs.Yteohdchecapkfaa
open Go.RowKit IntWalk
def kS (x y:UInt32):UInt32:=x ^^^ y
def kT (x y:UInt32):UInt32:=x &&& y
def lj (x y:UInt32):UInt32:=x ||| y
def kU (x y:UInt32):UInt32:=x+y
def kV (x:UInt32):UInt32:=UInt32.ofNat (4294967295-x.toNat)
def kW (x:UInt32) (n:Nat):UInt32:=UInt32.ofNat (x.toNat / 2^n)
def kX (x:UInt32) (n:Nat):UInt32:=UInt32.ofNat (x.toNat*2^n)
def kH (b:UInt8):UInt32:=UInt32.ofNat b.toNat
theorem word_lt (x:UInt32):x.toNat<4294967296:=x.toNat_lt
theorem xX (x y:UInt32):bits .xor .u32 (x.toNat:Int) (y.toNat:Int)=((kS x y).toNat:Int):=by
  rw[u32_xor_nat _ _ (word_lt x) (word_lt y)]; simp[kS]
theorem xY (x y:UInt32):bits .and .u32 (x.toNat:Int) (y.toNat:Int)=((kT x y).toNat:Int):=by
  rw[u32_and_nat _ _ (word_lt x) (word_lt y)]; simp[kT]
theorem yG (x y:UInt32):bits .or .u32 (x.toNat:Int) (y.toNat:Int)=((lj x y).toNat:Int):=by
  rw[u32_or_nat _ _ (word_lt x) (word_lt y)]; simp[lj]
theorem xZ (x y:UInt32):IntKind.u32.wrap ((x.toNat:Int)+(y.toNat:Int))=((kU x y).toNat:Int):=by
  rw[IntKind.wrap_u32]; simp[kU]
theorem yH (x:UInt32) (n:Nat):(x.toNat:Int) / 2^n=((kW x n).toNat:Int):=by
  have h:x.toNat / 2^n<4294967296:=Nat.lt_of_le_of_lt (Nat.div_le_self _ _) (word_lt x);unfold kW;rw[UInt32.toNat_ofNat_of_lt' (by simpa [UInt32.size] using h)];simp
theorem yI (x:UInt32) (n:Nat):(x.toNat:Int)*2^n%4294967296=((kX x n).toNat:Int):=by
  unfold kX;simp
theorem yJ (x:UInt32):(4294967295:Int)-(x.toNat:Int)=((kV x).toNat:Int):=by
  have h:=word_lt x;unfold kV;rw[UInt32.toNat_ofNat_of_lt' (by simp[UInt32.size]; omega)];omega
theorem x3 (b:UInt8):(b.toNat:Int)=((kH b).toNat:Int):=by
  have h:=b.toNat_lt;unfold kH;rw[UInt32.toNat_ofNat_of_lt' (by simp[UInt32.size]; omega)]
theorem nc (x y:UInt32):aQ .xor (.w (.c (.d (wD x)))) (.w (.c (.d (wD y))))=some (wD (kS x y)):=by
  show aE .xor .u32 (x.toNat:Int) .u32 (y.toNat:Int)=_
  rw[hZ,xX]; rfl
theorem nf (x y:UInt32):aQ .and (.w (.c (.d (wD x)))) (.w (.c (.d (wD y))))=some (wD (kT x y)):=by
  show aE .and .u32 (x.toNat:Int) .u32 (y.toNat:Int)=_
  rw[hY,xY]; rfl
theorem pE (x y:UInt32):aQ .or (.w (.c (.d (wD x)))) (.w (.c (.d (wD y))))=some (wD (lj x y)):=by
  show aE .or .u32 (x.toNat:Int) .u32 (y.toNat:Int)=_
  rw[ir,yG]; rfl
theorem ng (x y:UInt32):aQ .add (.w (.c (.d (wD x)))) (.w (.c (.d (wD y))))=some (wD (kU x y)):=by
  show aE .add .u32 (x.toNat:Int) .u32 (y.toNat:Int)=_
  rw[jP,xZ]; rfl
theorem nh (x:UInt32) (k:IntKind) (n:Int) (h:0≤n):aQ .shl (.w (.c (.d (wD x)))) (.w (.c (.d (.int k n))))=some (wD (kX x (min n.toNat 32))):=by
  show aE .shl .u32 (x.toNat:Int) k n=_
  rw[jT _ _ _ _ h,IntKind.wrap_u32]
  show some (D.int .u32 ((x.toNat:Int)*2^min n.toNat 32%4294967296))=_
  rw[yI]; rfl
theorem ni (x:UInt32) (k:IntKind) (n:Int) (h:0≤n):aQ .shr (.w (.c (.d (wD x)))) (.w (.c (.d (.int k n))))=some (wD (kW x (min n.toNat 32))):=by
  show aE .shr .u32 (x.toNat:Int) k n=_
  rw[jU _ _ _ _ h]
  show some (D.int .u32 ((x.toNat:Int) / 2^min n.toNat 32))=_
  rw[yH]; rfl
theorem pF (x:UInt32):dG .xor (.w (.c (.d (wD x))))=some (wD (kV x)):=by
  have:bits .xor .u32 4294967295 (x.toNat:Int)=(4294967295:Int)-(x.toNat:Int):=by
    have h:=x.toNat_lt;have h2:4294967295 ^^^ x.toNat=4294967295-x.toNat:=by
      have e:=congrArg BitVec.toNat (BitVec.allOnes_xor (x:=BitVec.ofNat 32 x.toNat));rw[BitVec.toNat_xor,BitVec.toNat_not,BitVec.toNat_allOnes,BitVec.toNat_ofNat,Nat.mod_eq_of_lt (by omega)] at e;omega
    have h3:=u32_xor_nat 4294967295 x.toNat (by decide) h;rw[h2] at h3;have h4:((4294967295:Nat):Int)=4294967295:=rfl;rw[h4] at h3;omega
  show some (D.int .u32 (bits .xor .u32 4294967295 (x.toNat:Int)))=_
  rw[this,yJ]; rfl
theorem nj (x y:UInt32):aQ .eql (.w (.c (.d (wD x)))) (.w (.c (.d (wD y))))=some (.bool (x==y)):=by
  show aE .eql .u32 (x.toNat:Int) .u32 (y.toNat:Int)=_
  rw[jQ];by_cases h:x=y
  ·subst h; simp
  ·have:¬ ((x.toNat:Int)=(y.toNat:Int)):=fun e=>h (UInt32.toNat_inj.1 (by omega))
   simp[this,h]
theorem nk (x y:UInt32):aQ .neq (.w (.c (.d (wD x)))) (.w (.c (.d (wD y))))=some (.bool (x != y)):=by
  show aE .neq .u32 (x.toNat:Int) .u32 (y.toNat:Int)=_
  rw[jS];by_cases h:x=y
  ·subst h; simp
  ·have:¬ ((x.toNat:Int)=(y.toNat:Int)):=fun e=>h (UInt32.toNat_inj.1 (by omega))
   simp[this,h]
theorem pG (b:UInt8):D.int .u32 (IntKind.u32.wrap (b.toNat:Int))=wD (kH b):=by
  have h:=b.toNat_lt;rw[IntWalk.u32_in _ (by omega),x3]; rfl
def vZ (x y:UInt8):UInt8:=x ^^^ y
def v3 (x y:UInt8):UInt8:=x &&& y
def wl (x y:UInt8):UInt8:=x ||| y
theorem fk (x:UInt8):x.toNat<256:=x.toNat_lt
theorem nl (x y:UInt8):aQ .xor (.w (.c (.d (bD x)))) (.w (.c (.d (bD y))))=some (bD (vZ x y)):=by
  show aE .xor .u8 (x.toNat:Int) .u8 (y.toNat:Int)=_
  rw[hZ,u8_xor_nat _ _ (fk x) (fk y)]; simp[vZ,bD]
theorem nm (x y:UInt8):aQ .and (.w (.c (.d (bD x)))) (.w (.c (.d (bD y))))=some (bD (v3 x y)):=by
  show aE .and .u8 (x.toNat:Int) .u8 (y.toNat:Int)=_
  rw[hY,u8_and_nat _ _ (fk x) (fk y)]; simp[v3,bD]
theorem pH (x y:UInt8):aQ .or (.w (.c (.d (bD x)))) (.w (.c (.d (bD y))))=some (bD (wl x y)):=by
  show aE .or .u8 (x.toNat:Int) .u8 (y.toNat:Int)=_
  rw[ir,u8_or_nat _ _ (fk x) (fk y)]; simp[wl,bD]
theorem v4 (G:ap) (f:Nat→V):ev G f .u=.undef:=rfl
def vn (P:Program) (G:ap) (d:Option Nat) (r:List ak) (K:St→Prop) (f:Nat→V) (h:ae) (u:Nat→Bool) (F:Nat) (ds:List D):Prop:=al P G r K ⟨aA f d (.w (.c (.d (.fn F ds)))),h,u⟩
theorem ry (P:Program) (G:ap) (d:Option Nat) (r:List ak) (K:St→Prop) (f:Nat→V) (h:ae) (u:Nat→Bool) (F:Nat) (xs:List SX):al P G (⟨d,.clos F xs,none⟩::r) K ⟨f,h,u⟩=aw (bN (xs.map (ev G f))) (vn P G d r K f h u F):=by
  show (match (bN (xs.map (ev G f))).map fun ds=>((.w (.c (.d (.fn F ds))),h,u):R) with | some r=>_ | none=>False)=_
  cases bN (xs.map (ev G f)) <;> rfl
theorem pI (P:Program) (G:ap) (d:Option Nat) (r:List ak) (K:St→Prop) (f:Nat→V) (h:ae) (u:Nat→Bool) (F:Nat) (ds:List D):vn P G d r K f h u F ds=al P G r K ⟨aA f d (.w (.c (.d (.fn F ds)))),h,u⟩:=rfl
theorem nn:bN []=some []:=rfl
theorem pJ (cs:List D) (r:List V):bN (.w (.c (.rp cs))::r)=(bN r).map fun l=>.ref cs::l:=by
  simp only[bN,dE]; cases bN r <;> rfl
theorem nq (k:IntKind) (n:Int) (r:List V):bN (.w (.c (.d (.int k n)))::r)=(bN r).map fun l=>.int k n::l:=by
  simp only[bN,dE]; cases bN r <;> rfl
theorem pK (es:List D) (r:List V):bN (.w (.c (.d (.sl es)))::r)=(bN r).map fun l=>.sl es::l:=by
  simp only[bN,dE]; cases bN r <;> rfl
def AY (P:Program) (G:ap) (body:aN) (K:AX→St→Prop) (e:AX) (s:St):Prop:=match e with | .nrm=>aG P G body K s | _=>False
theorem pL (P:Program) (G:ap) (body:aN) (K:AX→St→Prop) (s:St):AY P G body K .nrm s=aG P G body K s:=rfl
theorem nr {P:Program} {G:ap} {d:Option Nat} {r:List ak} {K:St→Prop} {f:Nat→V} {h:ae} {u:Nat→Bool} {x y b:SX} (k:Kd):al P G (⟨d,.storeX k x y b,none⟩::r) K ⟨f,h,u⟩=(fJ (ev G f b) (ev G f x)=true∧al P G (⟨d,.store k x y,none⟩::r) K ⟨f,h,u⟩):=by
  rw[aF _ rfl,aF _ rfl];simp only[ef];cases cF (ev G f y) with
  | none=>simp[aw]
  | some w =>
    cases hb:fJ (ev G f b) (ev G f x) <;> simp[hb,aw]
theorem rz (i a b c d e g:Nat):fJ (.w (.c (.ptr i a b c))) (.w (.c (.ptr i d e g)))=true:=by simp[fJ,V.ids,W.ids,C.ids]
def dK (i:Nat) (v:V):Bool:=!v.ids.contains i
def ee (G:ap) (f:Nat→V) (i:Nat):List SX→Bool
  | []=>true
  | z::r=>dK i (ev G f z)&&ee G f i r
def ll (G:ap) (f:Nat→V) (h:ae) (k:Kd) (l:List SX) (v:V):Option W:=bO h k (.undef::l.map (ev G f)) v
theorem ns {P:Program} {G:ap} {d:Option Nat} {r:List ak} {K:St→Prop} {f:Nat→V} {h:ae} {u:Nat→Bool} {x:SX} (k:Kd) (l:List SX):al P G (⟨d,.loadX k x (.u::l),none⟩::r) K ⟨f,h,u⟩=aw (ll G f h k l (ev G f x)) (cU P G d r K f h u):=by
  rw[aF _ rfl];exact b8 _ _ _
theorem rA {G:ap} {f:Nat→V} {i:Nat}:∀ l:List SX,ee G f i l=(l.map (ev G f)).all fun y=>!y.ids.contains i
  | []=>rfl
  | z::r=>by
    show (dK i (ev G f z)&&ee G f i r)=_
    rw[rA r]; rfl
theorem rB (G:ap) (f:Nat→V) (h:ae) (k:Kd) (l:List SX) (i a b c:Nat):ll G f h k l (.w (.c (.ptr i a b c)))=cond (ee G f i l) (cond (a6 (h i)) (aO h k (.w (.c (.ptr i a b c)))) none) none:=by
  have e1:dX (.undef::l.map (ev G f)) (.w (.c (.ptr i a b c)))=ee G f i l:=by
    rw[rA];simp[dX,V.ids,W.ids,C.ids]
  have e2:(!(V.undef::l.map (ev G f)).any cQ || eZ h (.w (.c (.ptr i a b c))))=a6 (h i):=by
    simp[cQ,eZ]
  unfold ll bO;rw[e1,e2];cases ee G f i l <;> cases a6 (h i) <;> rfl
theorem rC (G:ap) (f:Nat→V) (i:Nat):ee G f i []=true:=rfl
theorem pM (G:ap) (f:Nat→V) (i:Nat) (z:SX) (r:List SX):ee G f i (z::r)=(dK i (ev G f z)&&ee G f i r):=rfl
theorem rD (i j a b c:Nat):dK i (.w (.c (.ptr j a b c)))=!(i==j):=by
  by_cases h:i=j <;> simp[dK,V.ids,W.ids,C.ids,h]
theorem rF (i j a b c:Nat):dK i (.w (.c (.own j a b c)))=!(i==j):=by
  by_cases h:i=j <;> simp[dK,V.ids,W.ids,C.ids,h]
theorem vo (i:Nat) (x:D):dK i (.w (.c (.d x)))=true:=rfl
theorem rG (i:Nat):dK i (.w (.c .nil))=true:=rfl
theorem ui (i:Nat) (cs:List D):dK i (.w (.c (.rp cs)))=true:=rfl
theorem rH (cs:List C):a6 (some (.box cs))=true:=rfl
set_option maxRecDepth 100000
theorem jW {a b : Prop} (l : a) (r : b) : a ∧ b := And.intro l r
theorem wx:dz (jW @uR (jW @uS (jW @uT (jW @uU (jW @uV (jW @rY (jW @rZ (jW @r6 (jW @r7 (jW @r8 (jW @r9 (jW @sd (jW @se (jW @sg (jW @si (jW @sq (jW @sr (jW @su (jW @sv (jW @sw (jW @sy (jW @sA (jW @sB (jW @sE (jW @sF (jW @sG (jW @sH (jW @sI (jW @sJ (jW @sK (jW @sL (jW @sM (jW @sN (jW @sO (jW @sP (jW @sQ (jW @sR (jW @sS (jW @sT (jW @sU (jW @sV (jW @sW (jW @ns (jW @nr (jW @rz (jW @rB (jW @rC (jW @pM (jW @rD (jW @rF (jW @vo (jW @rG (jW @ui (jW @rH (jW @p6 (jW @p7 (jW @p8 (jW @mi (jW @sx (jW @kj (jW @jY (jW @rW (jW @rX (jW @rV (jW @ki (jW @pZ (jW @uO (jW @uP (jW @uQ (jW @a8.eq_1 (jW @a8.eq_2 (jW @a8.eq_3 (jW @a8.eq_4 (jW @cC.eq_1 (jW @cC.eq_2 (jW @killAll.eq_1 (jW @killAll.eq_2 (jW @killAll.eq_3 (jW @v4 (jW @ry (jW @pI (jW @nn (jW @pJ (jW @nq (jW @pK (jW @pL (jW @ef.eq_1 (jW @ef.eq_2 (jW @ef.eq_3 (jW @ef.eq_4 (jW @ef.eq_5 (jW @ef.eq_6 (jW @ef.eq_7 (jW @ef.eq_8 (jW @ef.eq_9 (jW @ef.eq_10 (jW @ef.eq_11 (jW @ef.eq_12 (jW @ef.eq_13 (jW @ef.eq_14 (jW @ef.eq_15 (jW @ef.eq_16 (jW @ef.eq_17 (jW @ef.eq_18 (jW @ef.eq_19 (jW @ef.eq_20 (jW @ef.eq_21 (jW @ef.eq_22 (jW @ef.eq_23 (jW @ef.eq_24 (jW @ef.eq_25 (jW @ef.eq_26 (jW @ef.eq_27 (jW @ef.eq_28 (jW @ef.eq_29 (jW @ef.eq_30 (jW @ef.eq_31 (jW @ef.eq_32 (jW @ef.eq_33 (jW @ef.eq_34 (jW @ef.eq_35 (jW @ef.eq_36 (jW @ef.eq_37 (jW @ef.eq_38 (jW @ef.eq_39 (jW @ef.eq_40 (jW @ef.eq_41 (jW @ef.eq_42 (jW @ef.eq_43 (jW @ef.eq_44 (jW @ef.eq_45 (jW @ef.eq_46 (jW @ef.eq_47 (jW @ef.eq_48 (jW @ef.eq_49 (jW @ef.eq_50 (jW @ef.eq_51 (jW @ef.eq_52 (jW @ef.eq_53 (jW @ef.eq_54 (jW @bound.eq_1 (jW @bound.eq_2 (jW @dH.eq_1 (jW @dH.eq_2 (jW @dH.eq_3 (jW @dH.eq_4 (jW @cx.eq_1 (jW @aO.eq_1 (jW @aO.eq_2 (jW @aO.eq_3 (jW @aO.eq_4 (jW @aO.eq_5 (jW @aO.eq_6 (jW @aO.eq_7 (jW @aO.eq_8 (jW @bB.eq_1 (jW @bB.eq_2 (jW @bB.eq_3 (jW @bB.eq_4 (jW @bB.eq_5 (jW @bB.eq_6 (jW @bB.eq_7 (jW @q9 (jW @cG.eq_1 (jW @cG.eq_2 (jW @parts.eq_1 (jW @parts.eq_2 (jW @elems.eq_1 (jW @elems.eq_2 (jW @ca.eq_1 (jW @vW (jW @vX (jW @t9 (jW @rx (jW @ub (jW @vl (jW @uc (jW @ud (jW @ue (jW @ug (jW @vm (jW @uh (jW @cD.eq_1 (jW @cD.eq_2 (jW @cD.eq_3 (jW @cD.eq_4 (jW @fv.eq_1 (jW @fv.eq_2 (jW @ci.eq_1 (jW @ci.eq_2 (jW @ci.eq_3 (jW @bJ.eq_1 (jW @bJ.eq_2 (jW @bJ.eq_3 (jW @bJ.eq_4 (jW @bL.eq_1 (jW @bL.eq_2 (jW @bL.eq_3 (jW @a9.eq_1 (jW @a9.eq_2 (jW @a9.eq_3 (jW @a9.eq_4 (jW @a9.eq_5 (jW @a9.eq_6 (jW @a9.eq_7 (jW @a9.eq_8 (jW @a9.eq_9 (jW @a9.eq_10 (jW @di.eq_1 (jW @cj.eq_1 (jW @cj.eq_2 (jW @cj.eq_3 (jW @toW.eq_1 (jW @toW.eq_2 (jW @bo.eq_1 (jW @bo.eq_2 (jW @bo.eq_3 (jW @bo.eq_4 (jW @cu.eq_1 (jW @cu.eq_2 (jW @bf.eq_1 (jW @bf.eq_2 (jW @bK.eq_1 (jW @bK.eq_2 (jW @bK.eq_3 (jW @ints.eq_1 (jW @ints.eq_2 (jW @ints.eq_3 (jW @bw.eq_1 (jW @bw.eq_2 (jW @bw.eq_3 (jW @cZ.eq_1 (jW @cZ.eq_2 (jW @cZ.eq_3 (jW @cZ.eq_4 (jW @W.ro.eq_1 (jW @W.ro.eq_2 (jW @C.ro.eq_1 (jW @C.ro.eq_2 (jW @V.ro.eq_1 (jW @V.ro.eq_2 (jW @V.ro.eq_3 (jW @ep.eq_1 (jW @ep.eq_2 (jW @ep.eq_3 (jW @Kd.size.eq_1 (jW @Kd.size.eq_2 (jW @m6 (jW @mc (jW @m7 (jW @pq (jW @m8 (jW @br.eq_1 (jW @aZ.eq_1 (jW @aZ.eq_2 (jW @Nat.min_def (jW @Cc.{0,0} (jW @Option.map_none.{0,0} (jW @Bool.not_true (jW @Bool.not_false (jW @decide_true (jW @decide_false (jW @Bool.and_self (jW @A8.{0,0} (jW @BO.{0,0} (jW @List.any_cons.{0} (jW @List.any_nil.{0} (jW @List.length_cons.{0} (jW @List.length_nil.{0} (jW @Cd.{0} (jW @BL.{0} (jW @Bv.{0} (jW @if_true.{1} (jW @if_false.{1} (jW @true_and (jW @and_true (jW @vd.eq_1 (jW @Int.natCast_nonneg (jW @List.drop_zero.{0} (jW @List.take_length.{0} (jW @pz (jW @pA (jW @rn (jW @rq (jW @px (jW @py (jW @ve (jW @vf (jW @rl (jW @rm (jW @vg (jW @nc (jW @nf (jW @pE (jW @ng (jW @nh (jW @ni (jW @nj (jW @nk (jW @nl (jW @nm (jW @pH (jW @pg (jW @pi (jW @pj (jW @pk (jW @pm (jW @pn (jW @po (jW @pp (jW @pC (jW @pD (jW @pF (jW @pG (jW @pw (jW @pt (jW @pu (jW @pv (jW @List.set_cons_zero.{0} (jW @List.set_cons_succ.{0} (jW @rr (jW @rt (jW @Kd.ag.injEq (jW @BD.{0} (jW @BN.{0} (jW @ia (jW @rb (jW @eT (jW @tX (jW @iu (jW @tY (jW @rk (jW @pf (jW @List.nil_append.{0} (jW @B3.{0} (jW @List.take_succ_cons.{0} (jW @List.take_zero.{0} (jW @List.drop_succ_cons.{0} (jW @List.take_nil.{0} (jW @List.drop_nil.{0} (jW @List.append_nil.{0} (jW @Bb.{0,0} (jW @List.flatMap_nil.{0,0} (jW @Option.bind_some.{0,0} (jW @ne_eq.{1} (jW @not_false_eq_true (@not_true_eq_false))))))))))))))))))))))))))))))))))))))))))))))))))))))))))))))))))))))))))))))))))))))))))))))))))))))))))))))))))))))))))))))))))))))))))))))))))))))))))))))))))))))))))))))))))))))))))))))))))))))))))))))))))))))))))))))))))))))))))))))))))))))))))))))))))))))))))))))))))))))))))))))))))))))))))))))))))))))))))))))))))))))))))))))))))))))))))):=jW @uR (jW @uS (jW @uT (jW @uU (jW @uV (jW @rY (jW @rZ (jW @r6 (jW @r7 (jW @r8 (jW @r9 (jW @sd (jW @se (jW @sg (jW @si (jW @sq (jW @sr (jW @su (jW @sv (jW @sw (jW @sy (jW @sA (jW @sB (jW @sE (jW @sF (jW @sG (jW @sH (jW @sI (jW @sJ (jW @sK (jW @sL (jW @sM (jW @sN (jW @sO (jW @sP (jW @sQ (jW @sR (jW @sS (jW @sT (jW @sU (jW @sV (jW @sW (jW @ns (jW @nr (jW @rz (jW @rB (jW @rC (jW @pM (jW @rD (jW @rF (jW @vo (jW @rG (jW @ui (jW @rH (jW @p6 (jW @p7 (jW @p8 (jW @mi (jW @sx (jW @kj (jW @jY (jW @rW (jW @rX (jW @rV (jW @ki (jW @pZ (jW @uO (jW @uP (jW @uQ (jW @a8.eq_1 (jW @a8.eq_2 (jW @a8.eq_3 (jW @a8.eq_4 (jW @cC.eq_1 (jW @cC.eq_2 (jW @killAll.eq_1 (jW @killAll.eq_2 (jW @killAll.eq_3 (jW @v4 (jW @ry (jW @pI (jW @nn (jW @pJ (jW @nq (jW @pK (jW @pL (jW @ef.eq_1 (jW @ef.eq_2 (jW @ef.eq_3 (jW @ef.eq_4 (jW @ef.eq_5 (jW @ef.eq_6 (jW @ef.eq_7 (jW @ef.eq_8 (jW @ef.eq_9 (jW @ef.eq_10 (jW @ef.eq_11 (jW @ef.eq_12 (jW @ef.eq_13 (jW @ef.eq_14 (jW @ef.eq_15 (jW @ef.eq_16 (jW @ef.eq_17 (jW @ef.eq_18 (jW @ef.eq_19 (jW @ef.eq_20 (jW @ef.eq_21 (jW @ef.eq_22 (jW @ef.eq_23 (jW @ef.eq_24 (jW @ef.eq_25 (jW @ef.eq_26 (jW @ef.eq_27 (jW @ef.eq_28 (jW @ef.eq_29 (jW @ef.eq_30 (jW @ef.eq_31 (jW @ef.eq_32 (jW @ef.eq_33 (jW @ef.eq_34 (jW @ef.eq_35 (jW @ef.eq_36 (jW @ef.eq_37 (jW @ef.eq_38 (jW @ef.eq_39 (jW @ef.eq_40 (jW @ef.eq_41 (jW @ef.eq_42 (jW @ef.eq_43 (jW @ef.eq_44 (jW @ef.eq_45 (jW @ef.eq_46 (jW @ef.eq_47 (jW @ef.eq_48 (jW @ef.eq_49 (jW @ef.eq_50 (jW @ef.eq_51 (jW @ef.eq_52 (jW @ef.eq_53 (jW @ef.eq_54 (jW @bound.eq_1 (jW @bound.eq_2 (jW @dH.eq_1 (jW @dH.eq_2 (jW @dH.eq_3 (jW @dH.eq_4 (jW @cx.eq_1 (jW @aO.eq_1 (jW @aO.eq_2 (jW @aO.eq_3 (jW @aO.eq_4 (jW @aO.eq_5 (jW @aO.eq_6 (jW @aO.eq_7 (jW @aO.eq_8 (jW @bB.eq_1 (jW @bB.eq_2 (jW @bB.eq_3 (jW @bB.eq_4 (jW @bB.eq_5 (jW @bB.eq_6 (jW @bB.eq_7 (jW @q9 (jW @cG.eq_1 (jW @cG.eq_2 (jW @parts.eq_1 (jW @parts.eq_2 (jW @elems.eq_1 (jW @elems.eq_2 (jW @ca.eq_1 (jW @vW (jW @vX (jW @t9 (jW @rx (jW @ub (jW @vl (jW @uc (jW @ud (jW @ue (jW @ug (jW @vm (jW @uh (jW @cD.eq_1 (jW @cD.eq_2 (jW @cD.eq_3 (jW @cD.eq_4 (jW @fv.eq_1 (jW @fv.eq_2 (jW @ci.eq_1 (jW @ci.eq_2 (jW @ci.eq_3 (jW @bJ.eq_1 (jW @bJ.eq_2 (jW @bJ.eq_3 (jW @bJ.eq_4 (jW @bL.eq_1 (jW @bL.eq_2 (jW @bL.eq_3 (jW @a9.eq_1 (jW @a9.eq_2 (jW @a9.eq_3 (jW @a9.eq_4 (jW @a9.eq_5 (jW @a9.eq_6 (jW @a9.eq_7 (jW @a9.eq_8 (jW @a9.eq_9 (jW @a9.eq_10 (jW @di.eq_1 (jW @cj.eq_1 (jW @cj.eq_2 (jW @cj.eq_3 (jW @toW.eq_1 (jW @toW.eq_2 (jW @bo.eq_1 (jW @bo.eq_2 (jW @bo.eq_3 (jW @bo.eq_4 (jW @cu.eq_1 (jW @cu.eq_2 (jW @bf.eq_1 (jW @bf.eq_2 (jW @bK.eq_1 (jW @bK.eq_2 (jW @bK.eq_3 (jW @ints.eq_1 (jW @ints.eq_2 (jW @ints.eq_3 (jW @bw.eq_1 (jW @bw.eq_2 (jW @bw.eq_3 (jW @cZ.eq_1 (jW @cZ.eq_2 (jW @cZ.eq_3 (jW @cZ.eq_4 (jW @W.ro.eq_1 (jW @W.ro.eq_2 (jW @C.ro.eq_1 (jW @C.ro.eq_2 (jW @V.ro.eq_1 (jW @V.ro.eq_2 (jW @V.ro.eq_3 (jW @ep.eq_1 (jW @ep.eq_2 (jW @ep.eq_3 (jW @Kd.size.eq_1 (jW @Kd.size.eq_2 (jW @m6 (jW @mc (jW @m7 (jW @pq (jW @m8 (jW @br.eq_1 (jW @aZ.eq_1 (jW @aZ.eq_2 (jW @Nat.min_def (jW @Cc.{0,0} (jW @Option.map_none.{0,0} (jW @Bool.not_true (jW @Bool.not_false (jW @decide_true (jW @decide_false (jW @Bool.and_self (jW @A8.{0,0} (jW @BO.{0,0} (jW @List.any_cons.{0} (jW @List.any_nil.{0} (jW @List.length_cons.{0} (jW @List.length_nil.{0} (jW @Cd.{0} (jW @BL.{0} (jW @Bv.{0} (jW @if_true.{1} (jW @if_false.{1} (jW @true_and (jW @and_true (jW @vd.eq_1 (jW @Int.natCast_nonneg (jW @List.drop_zero.{0} (jW @List.take_length.{0} (jW @pz (jW @pA (jW @rn (jW @rq (jW @px (jW @py (jW @ve (jW @vf (jW @rl (jW @rm (jW @vg (jW @nc (jW @nf (jW @pE (jW @ng (jW @nh (jW @ni (jW @nj (jW @nk (jW @nl (jW @nm (jW @pH (jW @pg (jW @pi (jW @pj (jW @pk (jW @pm (jW @pn (jW @po (jW @pp (jW @pC (jW @pD (jW @pF (jW @pG (jW @pw (jW @pt (jW @pu (jW @pv (jW @List.set_cons_zero.{0} (jW @List.set_cons_succ.{0} (jW @rr (jW @rt (jW @Kd.ag.injEq (jW @BD.{0} (jW @BN.{0} (jW @ia (jW @rb (jW @eT (jW @tX (jW @iu (jW @tY (jW @rk (jW @pf (jW @List.nil_append.{0} (jW @B3.{0} (jW @List.take_succ_cons.{0} (jW @List.take_zero.{0} (jW @List.drop_succ_cons.{0} (jW @List.take_nil.{0} (jW @List.drop_nil.{0} (jW @List.append_nil.{0} (jW @Bb.{0,0} (jW @List.flatMap_nil.{0,0} (jW @Option.bind_some.{0,0} (jW @ne_eq.{1} (jW @not_false_eq_true (@not_true_eq_false))))))))))))))))))))))))))))))))))))))))))))))))))))))))))))))))))))))))))))))))))))))))))))))))))))))))))))))))))))))))))))))))))))))))))))))))))))))))))))))))))))))))))))))))))))))))))))))))))))))))))))))))))))))))))))))))))))))))))))))))))))))))))))))))))))))))))))))))))))))))))))))))))))))))))))))))))))))))))))))))))))))))))))))))))))))))))
theorem wy:dz (jW @vi (jW @lT (jW @ru (jW @pB (jW @rv (jW @t8 (jW @vj (jW @vk (@cond_true.{1}))))))))):=jW @vi (jW @lT (jW @ru (jW @pB (jW @rv (jW @t8 (jW @vj (jW @vk (@cond_true.{1}))))))))
theorem wz:dz (jW @Bool.false_and (jW @Bool.and_false (jW @nb (jW @Nat.sub_zero (jW @na (jW @me (jW @beq_self_eq_true.{0} (jW @Bool.and_true (jW @Bool.true_and (jW @vQ (jW @vR (jW @vS (jW @vT (jW @vU (jW @vV (jW @List.replicate_zero.{0} (jW @Nat.mul_one (jW @Nat.one_mul (jW @Nat.add_zero (jW @Nat.zero_add (jW @t5 (jW @t6 (jW @t7 (jW @vh (jW @Int.natCast_add (jW @Int.natCast_mul (jW @Int.natCast_one (jW @Int.natCast_zero (@Int.cast_ofNat_Int))))))))))))))))))))))))))))):=jW @Bool.false_and (jW @Bool.and_false (jW @nb (jW @Nat.sub_zero (jW @na (jW @me (jW @beq_self_eq_true.{0} (jW @Bool.and_true (jW @Bool.true_and (jW @vQ (jW @vR (jW @vS (jW @vT (jW @vU (jW @vV (jW @List.replicate_zero.{0} (jW @Nat.mul_one (jW @Nat.one_mul (jW @Nat.add_zero (jW @Nat.zero_add (jW @t5 (jW @t6 (jW @t7 (jW @vh (jW @Int.natCast_add (jW @Int.natCast_mul (jW @Int.natCast_one (jW @Int.natCast_zero (@Int.cast_ofNat_Int))))))))))))))))))))))))))))
theorem lm:dz (jW @V.ren.eq_1 (jW @V.ren.eq_2 (jW @V.ren.eq_3 (jW @W.ren.eq_1 (jW @W.ren.eq_2 (jW @C.ren.eq_1 (jW @C.ren.eq_2 (jW @C.ren.eq_3 (jW @C.ren.eq_4 (jW @C.ren.eq_5 (jW @C.ren.eq_6 (jW @V.ids.eq_1 (jW @V.ids.eq_2 (jW @V.ids.eq_3 (jW @W.ids.eq_1 (jW @W.ids.eq_2 (jW @C.ids.eq_1 (jW @C.ids.eq_2 (jW @C.ids.eq_3 (jW @C.ids.eq_4 (jW @C.ids.eq_5 (jW @C.ids.eq_6 (jW @Ob.ren.eq_1 (jW @Ob.ren.eq_2 (jW @Ob.ren.eq_3 (jW @Ob.ren.eq_4 (jW @Ob.ids.eq_1 (jW @Ob.ids.eq_2 (jW @Ob.ids.eq_3 (jW @Ob.ids.eq_4 (jW @Int.cast_ofNat_Int (jW @List.replicate_zero.{0} (jW @re (jW @pc (jW @rh (jW @pd (jW @id_eq.{1} (jW @Nat.mul_one (jW @Nat.mul_zero (jW @Nat.zero_mul (@List.flatten_nil.{0}))))))))))))))))))))))))))))))))))))))))):=jW @V.ren.eq_1 (jW @V.ren.eq_2 (jW @V.ren.eq_3 (jW @W.ren.eq_1 (jW @W.ren.eq_2 (jW @C.ren.eq_1 (jW @C.ren.eq_2 (jW @C.ren.eq_3 (jW @C.ren.eq_4 (jW @C.ren.eq_5 (jW @C.ren.eq_6 (jW @V.ids.eq_1 (jW @V.ids.eq_2 (jW @V.ids.eq_3 (jW @W.ids.eq_1 (jW @W.ids.eq_2 (jW @C.ids.eq_1 (jW @C.ids.eq_2 (jW @C.ids.eq_3 (jW @C.ids.eq_4 (jW @C.ids.eq_5 (jW @C.ids.eq_6 (jW @Ob.ren.eq_1 (jW @Ob.ren.eq_2 (jW @Ob.ren.eq_3 (jW @Ob.ren.eq_4 (jW @Ob.ids.eq_1 (jW @Ob.ids.eq_2 (jW @Ob.ids.eq_3 (jW @Ob.ids.eq_4 (jW @Int.cast_ofNat_Int (jW @List.replicate_zero.{0} (jW @re (jW @pc (jW @rh (jW @pd (jW @id_eq.{1} (jW @Nat.mul_one (jW @Nat.mul_zero (jW @Nat.zero_mul (@List.flatten_nil.{0}))))))))))))))))))))))))))))))))))))))))
theorem ln:dz (jW @Int.natCast_add (jW @Int.natCast_mul (jW @Int.natCast_one (@Int.natCast_zero)))):=jW @Int.natCast_add (jW @Int.natCast_mul (jW @Int.natCast_one (@Int.natCast_zero)))
theorem ao:dz (jW @wx (jW @wy @wz)):=jW @wx (jW @wy @wz)
theorem be {σ:St} {p:Nat×Option Kd} {x:D} (h1:(aZ σ p).bind (toW σ.h)=some x:=by simp only[ao,aj,seval,iteOmega,toNatUp]):bZ σ [p] (.w (.c (.d x))):=kz h1
theorem eF {σ:St} {p q:Nat×Option Kd} {x y:D} (h1:(aZ σ p).bind (toW σ.h)=some x:=by simp only[ao,aj,seval,iteOmega,toNatUp]) (h2:(aZ σ q).bind (toW σ.h)=some y:=by simp only[ao,aj,seval,iteOmega,toNatUp]):bZ σ [p,q] (.tup [.c (.d x),.c (.d y)]):=z5 h1 h2
theorem eG {σ:St} {p q r:Nat×Option Kd} {x y z:D} (h1:(aZ σ p).bind (toW σ.h)=some x:=by simp only[ao,aj,seval,iteOmega,toNatUp]) (h2:(aZ σ q).bind (toW σ.h)=some y:=by simp only[ao,aj,seval,iteOmega,toNatUp]) (h3:(aZ σ r).bind (toW σ.h)=some z:=by simp only[ao,aj,seval,iteOmega,toNatUp]):bZ σ [p,q,r] (.tup [.c (.d x),.c (.d y),.c (.d z)]):=z6 h1 h2 h3
theorem sD {P:Program} {G:ap} {K:St→Prop} {r:List ak} {f:Nat→V} {h:ae} {u:Nat→Bool} {d:Option Nat} {fn:FuncId} {xs:List SX} {own:Option (Nat×Nat)} {ds:List D} {res:V} {q:Prop} (h2:bh P G fn ds res) (e:q)
    (hq:aw (bw h u (d.getD 0) own res) (a4 P G d r K f)=q:=by simp only[ao,aj,seval,iteOmega,toNatUp]; rfl) (h1:bf h (xs.map (ev G f))=some ds:=by exact rfl)
    (h3:((xs.map (ev G f)).any V.hasOwn=false∨res.flat=true):=by exact .inl rfl) (hne:fn≠cm:=by decide) (hp:db own (xs.map (ev G f)):=by first | exact hP _ | exact ie _ _ _ | exact hU _ _ rfl):al P G (⟨d,.call fn xs own,none⟩::r) K ⟨f,h,u⟩ :=
  sC h2 (hq ▸ e) h1 h3 hne hp

theorem AG {σ:St} {p q r s:Nat×Option Kd} {x y z t:D} (h1:(aZ σ p).bind (toW σ.h)=some x) (h2:(aZ σ q).bind (toW σ.h)=some y) (h3:(aZ σ r).bind (toW σ.h)=some z) (h4:(aZ σ s).bind (toW σ.h)=some t):bZ σ [p,q,r,s] (.tup [.c (.d x),.c (.d y),.c (.d z),.c (.d t)]):=by
  obtain⟨w1,e1,f1⟩:=Bt.1 h1;obtain⟨w2,e2,f2⟩:=Bt.1 h2;obtain⟨w3,e3,f3⟩:=Bt.1 h3;obtain⟨w4,e4,f4⟩:=Bt.1 h4;exact⟨[w1,w2,w3,w4],by simp[ar,e1,e2,e3,e4],.inr (.cons ⟨_,rfl,f1⟩ (.cons ⟨_,rfl,f2⟩ (.cons ⟨_,rfl,f3⟩ (.cons ⟨_,rfl,f4⟩ .nil))))⟩
theorem fR {σ:St} {p q r s:Nat×Option Kd} {x y z t:D} (h1:(aZ σ p).bind (toW σ.h)=some x:=by simp only[ao,aj,seval,iteOmega,toNatUp] <;> rfl) (h2:(aZ σ q).bind (toW σ.h)=some y:=by simp only[ao,aj,seval,iteOmega,toNatUp] <;> rfl) (h3:(aZ σ r).bind (toW σ.h)=some z:=by simp only[ao,aj,seval,iteOmega,toNatUp] <;> rfl) (h4:(aZ σ s).bind (toW σ.h)=some t:=by simp only[ao,aj,seval,iteOmega,toNatUp] <;> rfl):bZ σ [p,q,r,s] (.tup [.c (.d x),.c (.d y),.c (.d z),.c (.d t)]):=AG h1 h2 h3 h4
end Go.Proofs.Yteohdchecapkfaa
