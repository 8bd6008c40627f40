/- Texts of one's own, merged: from: The plain logic (20): words of 32 bits. Own work. -/
import Derived.Laws.BitsLemmas
import Derived.Laws.Bits64
import Derived.Laws.BitsAllLaws
import Derived.Test.YtofonnokanoflaaMg46
set_option linter.unusedVariables false
set_option linter.unusedSimpArgs false
namespace Go.Proofs.Ytofonnokanoflaa
open Go.RowKit IntWalk
def c7 (x y:UInt32):UInt32:=x ^^^ y
def hZ (x y:UInt32):UInt32:=x &&& y
def je (x y:UInt32):UInt32:=x ||| y
def aT (x y:UInt32):UInt32:=x+y
def lG (x:UInt32):UInt32:=UInt32.ofNat (4294967295-x.toNat)
def iY (x:UInt32) (n:Nat):UInt32:=UInt32.ofNat (x.toNat / 2^n)
def ia (x:UInt32) (n:Nat):UInt32:=UInt32.ofNat (x.toNat*2^n)
def fo (x:UInt32) (n:Nat):UInt32:=je (iY x n) (ia x (32-n))
def iL (b:UInt8):UInt32:=UInt32.ofNat b.toNat
theorem word_lt (x:UInt32):x.toNat<4294967296:=x.toNat_lt
theorem Il (x y:UInt32):bits .xor .u32 (x.toNat:Int) (y.toNat:Int)=((c7 x y).toNat:Int):=by
  rw[u32_xor_nat _ _ (word_lt x) (word_lt y)]; simp[c7]
theorem Im (x y:UInt32):bits .and .u32 (x.toNat:Int) (y.toNat:Int)=((hZ x y).toNat:Int):=by
  rw[u32_and_nat _ _ (word_lt x) (word_lt y)]; simp[hZ]
theorem Jz (x y:UInt32):bits .or .u32 (x.toNat:Int) (y.toNat:Int)=((je x y).toNat:Int):=by
  rw[u32_or_nat _ _ (word_lt x) (word_lt y)]; simp[je]
theorem Io (x y:UInt32):IntKind.u32.wrap ((x.toNat:Int)+(y.toNat:Int))=((aT x y).toNat:Int):=by
  rw[IntKind.wrap_u32]; simp[aT]
theorem JA (x:UInt32) (n:Nat):(x.toNat:Int) / 2^n=((iY x n).toNat:Int):=by
  have h:x.toNat / 2^n<4294967296:=SB (Nat.div_le_self _ _) (word_lt x);unfold iY;rw[UInt32.toNat_ofNat_of_lt' (by simpa [UInt32.size] using h)];simp
theorem JB (x:UInt32) (n:Nat):(x.toNat:Int)*2^n%4294967296=((ia x n).toNat:Int):=by
  unfold ia;simp
theorem JC (x:UInt32):(4294967295:Int)-(x.toNat:Int)=((lG x).toNat:Int):=by
  have h:=word_lt x;unfold lG;rw[UInt32.toNat_ofNat_of_lt' (by simp[UInt32.size]; omega)];omega
theorem xZ (b:UInt8):(b.toNat:Int)=((iL b).toNat:Int):=by
  have h:=b.toNat_lt;unfold iL;rw[UInt32.toNat_ofNat_of_lt' (by simp[UInt32.size]; omega)]
theorem x5 (x y:UInt32):ba .xor (.w (.c (.d (wD x)))) (.w (.c (.d (wD y))))=some (wD (c7 x y)):=by
  show aY .xor .u32 (x.toNat:Int) .u32 (y.toNat:Int)=_
  rw[ol,Il]; rfl
theorem x7 (x y:UInt32):ba .and (.w (.c (.d (wD x)))) (.w (.c (.d (wD y))))=some (wD (hZ x y)):=by
  show aY .and .u32 (x.toNat:Int) .u32 (y.toNat:Int)=_
  rw[oh,Im]; rfl
theorem z2 (x y:UInt32):ba .or (.w (.c (.d (wD x)))) (.w (.c (.d (wD y))))=some (wD (je x y)):=by
  show aY .or .u32 (x.toNat:Int) .u32 (y.toNat:Int)=_
  rw[oP,Jz]; rfl
theorem x8 (x y:UInt32):ba .add (.w (.c (.d (wD x)))) (.w (.c (.d (wD y))))=some (wD (aT x y)):=by
  show aY .add .u32 (x.toNat:Int) .u32 (y.toNat:Int)=_
  rw[oc,Io]; rfl
theorem x9 (x:UInt32) (k:IntKind) (n:Int) (h:0≤n):ba .shl (.w (.c (.d (wD x)))) (.w (.c (.d (.int k n))))=some (wD (ia x (min n.toNat 32))):=by
  show aY .shl .u32 (x.toNat:Int) k n=_
  rw[om _ _ _ _ h,IntKind.wrap_u32]
  show some (D.int .u32 ((x.toNat:Int)*2^min n.toNat 32%4294967296))=_
  rw[JB]; rfl
theorem ya (x:UInt32) (k:IntKind) (n:Int) (h:0≤n):ba .shr (.w (.c (.d (wD x)))) (.w (.c (.d (.int k n))))=some (wD (iY x (min n.toNat 32))):=by
  show aY .shr .u32 (x.toNat:Int) k n=_
  rw[oo _ _ _ _ h]
  show some (D.int .u32 ((x.toNat:Int) / 2^min n.toNat 32))=_
  rw[JA]; rfl
theorem z3 (x:UInt32):ik .xor (.w (.c (.d (wD x))))=some (wD (lG x)):=by
  have:bits .xor .u32 4294967295 (x.toNat:Int)=(4294967295:Int)-(x.toNat:Int):=by
    have h:=x.toNat_lt;have h2:4294967295 ^^^ x.toNat=4294967295-x.toNat:=by
      have e:=congrArg BitVec.toNat (BitVec.allOnes_xor (x:=BitVec.ofNat 32 x.toNat));rw[BitVec.toNat_xor,BitVec.toNat_not,BitVec.toNat_allOnes,BitVec.toNat_ofNat,Nat.mod_eq_of_lt (by omega)] at e;omega
    have h3:=u32_xor_nat 4294967295 x.toNat (by decide) h;rw[h2] at h3;have h4:((4294967295:Nat):Int)=4294967295:=rfl;rw[h4] at h3;omega
  show some (D.int .u32 (bits .xor .u32 4294967295 (x.toNat:Int)))=_
  rw[this,JC]; rfl
theorem yb (x y:UInt32):ba .eql (.w (.c (.d (wD x)))) (.w (.c (.d (wD y))))=some (.bool (x==y)):=by
  show aY .eql .u32 (x.toNat:Int) .u32 (y.toNat:Int)=_
  rw[od];by_cases h:x=y
  ·subst h; simp
  ·have:¬ ((x.toNat:Int)=(y.toNat:Int)):=fun e=>h (UInt32.toNat_inj.1 (by omega))
   simp[this,h]
theorem yc (x y:UInt32):ba .neq (.w (.c (.d (wD x)))) (.w (.c (.d (wD y))))=some (.bool (x != y)):=by
  show aY .neq .u32 (x.toNat:Int) .u32 (y.toNat:Int)=_
  rw[oe];by_cases h:x=y
  ·subst h; simp
  ·have:¬ ((x.toNat:Int)=(y.toNat:Int)):=fun e=>h (UInt32.toNat_inj.1 (by omega))
   simp[this,h]
theorem z4 (b:UInt8):D.int .u32 (IntKind.u32.wrap (b.toNat:Int))=wD (iL b):=by
  have h:=b.toNat_lt;rw[IntWalk.u32_in _ (by omega),xZ]; rfl
def al (x y:UInt8):UInt8:=x ^^^ y
def jB (x y:UInt8):UInt8:=x &&& y
def im (x y:UInt8):UInt8:=x ||| y
def c8 (x:UInt8) (n:Nat):UInt8:=UInt8.ofNat (x.toNat*2^n)
def c9 (x:UInt8) (n:Nat):UInt8:=UInt8.ofNat (x.toNat / 2^n)
theorem jl (x:UInt8):x.toNat<256:=x.toNat_lt
theorem fe (x y:UInt8):ba .xor (.w (.c (.d (bD x)))) (.w (.c (.d (bD y))))=some (bD (al x y)):=by
  show aY .xor .u8 (x.toNat:Int) .u8 (y.toNat:Int)=_
  rw[ol,u8_xor_nat _ _ (jl x) (jl y)]; simp[al,bD]
theorem rH (x y:UInt8):ba .and (.w (.c (.d (bD x)))) (.w (.c (.d (bD y))))=some (bD (jB x y)):=by
  show aY .and .u8 (x.toNat:Int) .u8 (y.toNat:Int)=_
  rw[oh,u8_and_nat _ _ (jl x) (jl y)]; simp[jB,bD]
theorem sG (x y:UInt8):ba .or (.w (.c (.d (bD x)))) (.w (.c (.d (bD y))))=some (bD (im x y)):=by
  show aY .or .u8 (x.toNat:Int) .u8 (y.toNat:Int)=_
  rw[oP,u8_or_nat _ _ (jl x) (jl y)]; simp[im,bD]
theorem Ip (x:UInt8) (k:IntKind) (n:Int) (h:0≤n):ba .shl (.w (.c (.d (bD x)))) (.w (.c (.d (.int k n))))=some (bD (c8 x (min n.toNat 8))):=by
  show aY .shl .u8 (x.toNat:Int) k n=_
  rw[om _ _ _ _ h,IntKind.wrap_u8]
  show some (D.int .u8 ((x.toNat:Int)*2^min n.toNat 8%256))=_
  have:(x.toNat:Int)*2^min n.toNat 8%256=((c8 x (min n.toNat 8)).toNat:Int):=by unfold c8; simp
  rw[this]; rfl
theorem Iq (x:UInt8) (k:IntKind) (n:Int) (h:0≤n):ba .shr (.w (.c (.d (bD x)))) (.w (.c (.d (.int k n))))=some (bD (c9 x (min n.toNat 8))):=by
  show aY .shr .u8 (x.toNat:Int) k n=_
  rw[oo _ _ _ _ h]
  show some (D.int .u8 ((x.toNat:Int) / 2^min n.toNat 8))=_
  have:(x.toNat:Int) / 2^min n.toNat 8=((c9 x (min n.toNat 8)).toNat:Int):=by
    have h:x.toNat / 2^min n.toNat 8<256:=SB (Nat.div_le_self _ _) (jl x);unfold c9;rw[UInt8.toNat_ofNat_of_lt' (by simpa [UInt8.size] using h)];simp
  rw[this]; rfl
theorem Ir (x y:UInt8):ba .eql (.w (.c (.d (bD x)))) (.w (.c (.d (bD y))))=some (.bool (x==y)):=by
  show aY .eql .u8 (x.toNat:Int) .u8 (y.toNat:Int)=_
  rw[od];by_cases h:x=y
  ·subst h; simp
  ·have:¬ ((x.toNat:Int)=(y.toNat:Int)):=fun e=>h (UInt8.toNat_inj.1 (by omega))
   simp[this,h]
theorem Is (x y:UInt8):ba .neq (.w (.c (.d (bD x)))) (.w (.c (.d (bD y))))=some (.bool (x != y)):=by
  show aY .neq .u8 (x.toNat:Int) .u8 (y.toNat:Int)=_
  rw[oe];by_cases h:x=y
  ·subst h; simp
  ·have:¬ ((x.toNat:Int)=(y.toNat:Int)):=fun e=>h (UInt8.toNat_inj.1 (by omega))
   simp[this,h]
theorem Gr (G:ak) (f:Nat→V):ev G f .u=.undef:=rfl
def FB (P:Program) (G:ak) (d:Option Nat) (r:List aJ) (K:St→Prop) (f:Nat→V) (h:aj) (u:Nat→Bool) (F:Nat) (ds:List D):Prop:=ar P G r K ⟨aS f d (.w (.c (.d (.fn F ds)))),h,u⟩
theorem BM (P:Program) (G:ak) (d:Option Nat) (r:List aJ) (K:St→Prop) (f:Nat→V) (h:aj) (u:Nat→Bool) (F:Nat) (xs:List SX):ar P G (⟨d,.clos F xs,none⟩::r) K ⟨f,h,u⟩=aM (cZ (xs.map (ev G f))) (FB P G d r K f h u F):=by
  show (match (cZ (xs.map (ev G f))).map fun ds=>((.w (.c (.d (.fn F ds))),h,u):R) with | some r=>_ | none=>False)=_
  cases cZ (xs.map (ev G f)) <;> rfl
theorem z5 (P:Program) (G:ak) (d:Option Nat) (r:List aJ) (K:St→Prop) (f:Nat→V) (h:aj) (u:Nat→Bool) (F:Nat) (ds:List D):FB P G d r K f h u F ds=ar P G r K ⟨aS f d (.w (.c (.d (.fn F ds)))),h,u⟩:=rfl
theorem yd:cZ []=some []:=rfl
theorem z6 (cs:List D) (r:List V):cZ (.w (.c (.rp cs))::r)=(cZ r).map fun l=>.ref cs::l:=by
  simp only[cZ,ki]; cases cZ r <;> rfl
theorem ye (k:IntKind) (n:Int) (r:List V):cZ (.w (.c (.d (.int k n)))::r)=(cZ r).map fun l=>.int k n::l:=by
  simp only[cZ,ki]; cases cZ r <;> rfl
theorem z7 (es:List D) (r:List V):cZ (.w (.c (.d (.sl es)))::r)=(cZ r).map fun l=>.sl es::l:=by
  simp only[cZ,ki]; cases cZ r <;> rfl
def vu (P:Program) (G:ak) (body:aK) (K:AX→St→Prop) (e:AX) (s:St):Prop:=match e with | .nrm=>a9 P G body K s | _=>False
def vw (f0:Nat→V) (I:Nat→aj→(Nat→Bool)→Prop) (Q:AX→St→Prop) (k:Nat) (e:AX) (s:St):Prop:=match e with
  | .nrm=>∃ h' u',dI s ⟨f0,h',u'⟩∧I (k+1) h' u'
  | e=>∃ h' u',dI s ⟨f0,h',u'⟩∧Q e ⟨f0,h',u'⟩
theorem z8 (P:Program) (G:ak) (body:aK) (K:AX→St→Prop) (s:St):vu P G body K .nrm s=a9 P G body K s:=rfl
def vx (st:Nat→aj×(Nat→Bool)) (k:Nat) (h:aj) (u:Nat→Bool):Prop:=(h,u)=st k
theorem JD {P:Program} {G:ak} {Q:AX→St→Prop} {σ:St} {x:SX} {ps:List Nat} {asg body:aK} {g:Nat} {caps:List D} {xs:List (List D)} (f0:Nat→V) {f1:Nat→V} (hf:f0=f1) (st:Nat→aj×(Nat→Bool))
    (hev:ev G σ.f x=.w (.c (.d (.fn g caps)))) (hseq:vm P G g caps xs) (hlen:∀ r∈xs,r.length=ps.length) (hent:dI σ ⟨f1,(st 0).1,(st 0).2⟩) (hun:∀ t∈ps++asg.writes++body.writes,f1 t=.undef)
    (round:∀ k r,xs[k]?=some r→a9 P G asg (vu P G body (vw f0 (vx st) Q k)) ⟨lm f1 ps r,(st k).1,(st k).2⟩)
    (done:Q .nrm ⟨f1,(st xs.length).1,(st xs.length).2⟩):a9 P G (.rangeF x ps asg body) Q σ:=by
  subst hf;refine⟨g,caps,xs,f0,(st 0).1,(st 0).2,fun k h u=>(h,u)=st k,hev,hseq,hlen,hent,hun,rfl,fun k r h u hr e=>?_,fun h u e=>?_⟩
  ·have:=round k r hr;rw[← e] at this
   have e1:(fun (e:AX) (s:St)=>match e with
       | .nrm=>a9 P G body (fun e s'=>match e with
         | .nrm=>∃ h' u',dI s' ⟨f0,h',u'⟩∧(h',u')=st (k+1)
         | e=>∃ h' u',dI s' ⟨f0,h',u'⟩∧Q e ⟨f0,h',u'⟩) s
       | _=>False)=vu P G body (vw f0 (vx st) Q k):=by
     funext e s
     cases e with
     | nrm =>
       show a9 P G body _ s=a9 P G body _ s
       congr 1
     | _=>rfl
   rw[← e1] at this;exact this
  ·rw[← e] at done; exact done
theorem JE {f0:Nat→V} {f1:Nat→V} (hf:f0=f1) {st:Nat→aj×(Nat→Bool)} {Q:AX→St→Prop} {k:Nat} {s:St} (h:dI s ⟨f1,(st (k+1)).1,(st (k+1)).2⟩):vw f0 (vx st) Q k .nrm s:=⟨_,_,hf ▸ h,rfl⟩
def bC (x:UInt8):C:=.d (bD x)
theorem mJ (l:List UInt8):(l.map bD).map C.d=l.map bC:=by rw[S4]; rfl
theorem mm:∀ l:List UInt8,dl (l.map bC)=some (l.map bD)
  | []=>rfl
  | x::l=>by
    have h:=mm l
    show dl (C.d (bD x)::l.map bC)=_
    simp only[dl,h,Rl,SL]
theorem JF {α β:Type} (f:α→β) (l cs:List α) (off:Nat):bM (l.map f) off (cs.map f)=(bM l off cs).map f:=by
  unfold bM; simp
theorem eK (l:List UInt8):(l.map bC).flatMap C.ids=[]:=by
  induction l with
  | nil=>rfl
  | cons x l ih=>rw[Rl,Ry,ih]; rfl
theorem k7 (g:Nat→Nat) (l:List UInt8):(l.map bC).map (C.ren g)=l.map bC:=by rw[S4]; rfl
theorem Ni (x c:UInt8) (n:Int) (h:n=(c.toNat:Int)):ba .eql (.w (.c (.d (bD x)))) (.w (.c (.d (.int .u8 n))))=some (.bool (x==c)):=by subst h; exact Ir x c
theorem Nj (x c:UInt8) (n:Int) (h:n=(c.toNat:Int)):ba .neq (.w (.c (.d (bD x)))) (.w (.c (.d (.int .u8 n))))=some (.bool (x != c)):=by subst h; exact Is x c
theorem Nk (x c:UInt8) (n:Int) (h:n=(c.toNat:Int)):ba .xor (.w (.c (.d (bD x)))) (.w (.c (.d (.int .u8 n))))=some (bD (al x c)):=by subst h; exact fe x c
theorem D8 (x c:UInt8) (n:Int) (h:n=(c.toNat:Int)):ba .and (.w (.c (.d (bD x)))) (.w (.c (.d (.int .u8 n))))=some (bD (jB x c)):=by subst h; exact rH x c
theorem D9 (x:UInt8) (k:IntKind) (j:Nat) (n:Int) (h:n=(j:Int)) (hj:j≤8):ba .shr (.w (.c (.d (bD x)))) (.w (.c (.d (.int k n))))=some (bD (c9 x j)):=by
  subst h;rw[Iq _ _ _ (Int.natCast_nonneg j),Int.toNat_natCast,SH hj]
theorem Ea (x:UInt8) (k:IntKind) (j:Nat) (n:Int) (h:n=(j:Int)) (hj:j≤8):ba .shl (.w (.c (.d (bD x)))) (.w (.c (.d (.int k n))))=some (bD (c8 x j)):=by
  subst h;rw[Ip _ _ _ (Int.natCast_nonneg j),Int.toNat_natCast,SH hj]
def aZ {α:Type} (n:Nat) (x:α):List α:=List.replicate n x
theorem bV {α:Type} (n:Nat) (x:α):(aZ n x).length=n:=RF
theorem BN (n:Nat):aZ n (C.d (D.int .u8 0))=(aZ n (0:UInt8)).map bC:=by unfold aZ; rw[List.map_replicate]; rfl
set_option maxRecDepth 100000
theorem jW {a b : Prop} (l : a) (r : b) : a ∧ b := And.intro l r
theorem wx:jk (jW @pM (jW @pN (jW @pO (jW @pP (jW @pQ (jW @sx (jW @tW (jW @s6 (jW @CU (jW @CV (jW @CS (jW @tV (jW @AC (jW @Fb (jW @Fc (jW @Fe (jW @cg.eq_1 (jW @cg.eq_2 (jW @cg.eq_3 (jW @cg.eq_4 (jW @eo.eq_1 (jW @eo.eq_2 (jW @killAll.eq_1 (jW @killAll.eq_2 (jW @killAll.eq_3 (jW @Gr (jW @BM (jW @z5 (jW @yd (jW @z6 (jW @ye (jW @z7 (jW @z8 (jW @ef.eq_1 (jW @ef.eq_2 (jW @ef.eq_3 (jW @ef.eq_4 (jW @ef.eq_5 (jW @ef.eq_6 (jW @ef.eq_7 (jW @ef.eq_8 (jW @ef.eq_9 (jW @ef.eq_10 (jW @ef.eq_11 (jW @ef.eq_12 (jW @ef.eq_13 (jW @ef.eq_14 (jW @ef.eq_15 (jW @ef.eq_16 (jW @ef.eq_17 (jW @ef.eq_18 (jW @ef.eq_19 (jW @ef.eq_20 (jW @ef.eq_21 (jW @ef.eq_22 (jW @ef.eq_23 (jW @ef.eq_24 (jW @ef.eq_25 (jW @ef.eq_26 (jW @ef.eq_27 (jW @ef.eq_28 (jW @ef.eq_29 (jW @ef.eq_30 (jW @ef.eq_31 (jW @ef.eq_32 (jW @ef.eq_33 (jW @ef.eq_34 (jW @ef.eq_35 (jW @ef.eq_36 (jW @ef.eq_37 (jW @ef.eq_38 (jW @ef.eq_39 (jW @ef.eq_40 (jW @ef.eq_41 (jW @ef.eq_42 (jW @ef.eq_43 (jW @ef.eq_44 (jW @ef.eq_45 (jW @ef.eq_46 (jW @ef.eq_47 (jW @ef.eq_48 (jW @ef.eq_49 (jW @ef.eq_50 (jW @ef.eq_51 (jW @ef.eq_52 (jW @ef.eq_53 (jW @bound.eq_1 (jW @bound.eq_2 (jW @il.eq_1 (jW @il.eq_2 (jW @il.eq_3 (jW @il.eq_4 (jW @d8.eq_1 (jW @bE.eq_1 (jW @bE.eq_2 (jW @bE.eq_3 (jW @bE.eq_4 (jW @bE.eq_5 (jW @bE.eq_6 (jW @bE.eq_7 (jW @bE.eq_8 (jW @cL.eq_1 (jW @cL.eq_2 (jW @cL.eq_3 (jW @cL.eq_4 (jW @cL.eq_5 (jW @cL.eq_6 (jW @cL.eq_7 (jW @Bw (jW @eC.eq_1 (jW @eC.eq_2 (jW @parts.eq_1 (jW @parts.eq_2 (jW @elems.eq_1 (jW @elems.eq_2 (jW @dz.eq_1 (jW @Gp (jW @Gq (jW @DZ (jW @BL (jW @D1 (jW @Fz (jW @D2 (jW @D3 (jW @D4 (jW @D5 (jW @FA (jW @D6 (jW @dO.eq_1 (jW @dO.eq_2 (jW @dO.eq_3 (jW @dO.eq_4 (jW @lj.eq_1 (jW @lj.eq_2 (jW @dl.eq_1 (jW @dl.eq_2 (jW @dl.eq_3 (jW @cG.eq_1 (jW @cG.eq_2 (jW @cG.eq_3 (jW @cG.eq_4 (jW @cS.eq_1 (jW @cS.eq_2 (jW @cS.eq_3 (jW @ch.eq_1 (jW @ch.eq_2 (jW @ch.eq_3 (jW @ch.eq_4 (jW @ch.eq_5 (jW @ch.eq_6 (jW @ch.eq_7 (jW @ch.eq_8 (jW @ch.eq_9 (jW @ch.eq_10 (jW @iT.eq_1 (jW @dP.eq_1 (jW @dP.eq_2 (jW @dP.eq_3 (jW @toW.eq_1 (jW @toW.eq_2 (jW @cK.eq_1 (jW @cK.eq_2 (jW @cK.eq_3 (jW @cK.eq_4 (jW @d6.eq_1 (jW @d6.eq_2 (jW @cq.eq_1 (jW @cq.eq_2 (jW @cC.eq_1 (jW @cC.eq_2 (jW @cC.eq_3 (jW @ints.eq_1 (jW @ints.eq_2 (jW @ints.eq_3 (jW @cD.eq_1 (jW @cD.eq_2 (jW @cD.eq_3 (jW @hU.eq_1 (jW @hU.eq_2 (jW @hU.eq_3 (jW @W.ro.eq_1 (jW @W.ro.eq_2 (jW @C.ro.eq_1 (jW @C.ro.eq_2 (jW @V.ro.eq_1 (jW @V.ro.eq_2 (jW @V.ro.eq_3 (jW @jw.eq_1 (jW @jw.eq_2 (jW @jw.eq_3 (jW @Kd.size.eq_1 (jW @Kd.size.eq_2 (jW @xU (jW @xf (jW @xV (jW @zR (jW @xW (jW @bM.eq_1 (jW @bJ.eq_1 (jW @bJ.eq_2 (jW @Nat.min_def (jW @SL.{0,0} (jW @Option.map_none.{0,0} (jW @Bool.not_true (jW @Bool.not_false (jW @decide_true (jW @decide_false (jW @Bool.and_self (jW @Rl.{0,0} (jW @RP.{0,0} (jW @List.any_cons.{0} (jW @List.any_nil.{0} (jW @Tb.{0} (jW @SP.{0} (jW @Sy.{0} (jW @Si.{0} (jW @RZ.{0} (jW @if_true.{1} (jW @if_false.{1} (jW @true_and (jW @and_true (jW @vd.eq_1 (jW @Int.natCast_nonneg (jW @SY.{0} (jW @SA.{0} (jW @dK (jW @gS (jW @gv (jW @iC (jW @zW (jW @zX (jW @Fu (jW @Fv (jW @BG (jW @BH (jW @Fw (jW @x5 (jW @x7 (jW @z2 (jW @x8 (jW @x9 (jW @ya (jW @yb (jW @yc (jW @fe (jW @rH (jW @sG (jW @zJ (jW @zK (jW @zL (jW @zM (jW @zN (jW @zO (jW @zP (jW @zQ (jW @z0 (jW @z1 (jW @z3 (jW @z4 (jW @zV (jW @zS (jW @zT (jW @zU (jW @List.set_cons_zero.{0} (jW @List.set_cons_succ.{0} (jW @BI (jW @fM (jW @Kd.ag.injEq (jW @Rk.{0} (jW @RF.{0} (jW @oq (jW @Bz (jW @kU (jW @DR (jW @oQ (jW @DT (jW @BF (jW @zI (jW @Rq.{0} (jW @Rn.{0} (jW @List.take_succ_cons.{0} (jW @List.take_zero.{0} (jW @List.drop_succ_cons.{0} (jW @List.take_nil.{0} (jW @List.drop_nil.{0} (jW @RG.{0} (jW @Ry.{0,0} (jW @List.flatMap_nil.{0,0} (jW @Option.bind_some.{0,0} (jW @ne_eq.{1} (jW @not_false_eq_true (@not_true_eq_false)))))))))))))))))))))))))))))))))))))))))))))))))))))))))))))))))))))))))))))))))))))))))))))))))))))))))))))))))))))))))))))))))))))))))))))))))))))))))))))))))))))))))))))))))))))))))))))))))))))))))))))))))))))))))))))))))))))))))))))))))))))))))))))))))))))))))))))))))))))))))))))))))))):=jW @pM (jW @pN (jW @pO (jW @pP (jW @pQ (jW @sx (jW @tW (jW @s6 (jW @CU (jW @CV (jW @CS (jW @tV (jW @AC (jW @Fb (jW @Fc (jW @Fe (jW @cg.eq_1 (jW @cg.eq_2 (jW @cg.eq_3 (jW @cg.eq_4 (jW @eo.eq_1 (jW @eo.eq_2 (jW @killAll.eq_1 (jW @killAll.eq_2 (jW @killAll.eq_3 (jW @Gr (jW @BM (jW @z5 (jW @yd (jW @z6 (jW @ye (jW @z7 (jW @z8 (jW @ef.eq_1 (jW @ef.eq_2 (jW @ef.eq_3 (jW @ef.eq_4 (jW @ef.eq_5 (jW @ef.eq_6 (jW @ef.eq_7 (jW @ef.eq_8 (jW @ef.eq_9 (jW @ef.eq_10 (jW @ef.eq_11 (jW @ef.eq_12 (jW @ef.eq_13 (jW @ef.eq_14 (jW @ef.eq_15 (jW @ef.eq_16 (jW @ef.eq_17 (jW @ef.eq_18 (jW @ef.eq_19 (jW @ef.eq_20 (jW @ef.eq_21 (jW @ef.eq_22 (jW @ef.eq_23 (jW @ef.eq_24 (jW @ef.eq_25 (jW @ef.eq_26 (jW @ef.eq_27 (jW @ef.eq_28 (jW @ef.eq_29 (jW @ef.eq_30 (jW @ef.eq_31 (jW @ef.eq_32 (jW @ef.eq_33 (jW @ef.eq_34 (jW @ef.eq_35 (jW @ef.eq_36 (jW @ef.eq_37 (jW @ef.eq_38 (jW @ef.eq_39 (jW @ef.eq_40 (jW @ef.eq_41 (jW @ef.eq_42 (jW @ef.eq_43 (jW @ef.eq_44 (jW @ef.eq_45 (jW @ef.eq_46 (jW @ef.eq_47 (jW @ef.eq_48 (jW @ef.eq_49 (jW @ef.eq_50 (jW @ef.eq_51 (jW @ef.eq_52 (jW @ef.eq_53 (jW @bound.eq_1 (jW @bound.eq_2 (jW @il.eq_1 (jW @il.eq_2 (jW @il.eq_3 (jW @il.eq_4 (jW @d8.eq_1 (jW @bE.eq_1 (jW @bE.eq_2 (jW @bE.eq_3 (jW @bE.eq_4 (jW @bE.eq_5 (jW @bE.eq_6 (jW @bE.eq_7 (jW @bE.eq_8 (jW @cL.eq_1 (jW @cL.eq_2 (jW @cL.eq_3 (jW @cL.eq_4 (jW @cL.eq_5 (jW @cL.eq_6 (jW @cL.eq_7 (jW @Bw (jW @eC.eq_1 (jW @eC.eq_2 (jW @parts.eq_1 (jW @parts.eq_2 (jW @elems.eq_1 (jW @elems.eq_2 (jW @dz.eq_1 (jW @Gp (jW @Gq (jW @DZ (jW @BL (jW @D1 (jW @Fz (jW @D2 (jW @D3 (jW @D4 (jW @D5 (jW @FA (jW @D6 (jW @dO.eq_1 (jW @dO.eq_2 (jW @dO.eq_3 (jW @dO.eq_4 (jW @lj.eq_1 (jW @lj.eq_2 (jW @dl.eq_1 (jW @dl.eq_2 (jW @dl.eq_3 (jW @cG.eq_1 (jW @cG.eq_2 (jW @cG.eq_3 (jW @cG.eq_4 (jW @cS.eq_1 (jW @cS.eq_2 (jW @cS.eq_3 (jW @ch.eq_1 (jW @ch.eq_2 (jW @ch.eq_3 (jW @ch.eq_4 (jW @ch.eq_5 (jW @ch.eq_6 (jW @ch.eq_7 (jW @ch.eq_8 (jW @ch.eq_9 (jW @ch.eq_10 (jW @iT.eq_1 (jW @dP.eq_1 (jW @dP.eq_2 (jW @dP.eq_3 (jW @toW.eq_1 (jW @toW.eq_2 (jW @cK.eq_1 (jW @cK.eq_2 (jW @cK.eq_3 (jW @cK.eq_4 (jW @d6.eq_1 (jW @d6.eq_2 (jW @cq.eq_1 (jW @cq.eq_2 (jW @cC.eq_1 (jW @cC.eq_2 (jW @cC.eq_3 (jW @ints.eq_1 (jW @ints.eq_2 (jW @ints.eq_3 (jW @cD.eq_1 (jW @cD.eq_2 (jW @cD.eq_3 (jW @hU.eq_1 (jW @hU.eq_2 (jW @hU.eq_3 (jW @W.ro.eq_1 (jW @W.ro.eq_2 (jW @C.ro.eq_1 (jW @C.ro.eq_2 (jW @V.ro.eq_1 (jW @V.ro.eq_2 (jW @V.ro.eq_3 (jW @jw.eq_1 (jW @jw.eq_2 (jW @jw.eq_3 (jW @Kd.size.eq_1 (jW @Kd.size.eq_2 (jW @xU (jW @xf (jW @xV (jW @zR (jW @xW (jW @bM.eq_1 (jW @bJ.eq_1 (jW @bJ.eq_2 (jW @Nat.min_def (jW @SL.{0,0} (jW @Option.map_none.{0,0} (jW @Bool.not_true (jW @Bool.not_false (jW @decide_true (jW @decide_false (jW @Bool.and_self (jW @Rl.{0,0} (jW @RP.{0,0} (jW @List.any_cons.{0} (jW @List.any_nil.{0} (jW @Tb.{0} (jW @SP.{0} (jW @Sy.{0} (jW @Si.{0} (jW @RZ.{0} (jW @if_true.{1} (jW @if_false.{1} (jW @true_and (jW @and_true (jW @vd.eq_1 (jW @Int.natCast_nonneg (jW @SY.{0} (jW @SA.{0} (jW @dK (jW @gS (jW @gv (jW @iC (jW @zW (jW @zX (jW @Fu (jW @Fv (jW @BG (jW @BH (jW @Fw (jW @x5 (jW @x7 (jW @z2 (jW @x8 (jW @x9 (jW @ya (jW @yb (jW @yc (jW @fe (jW @rH (jW @sG (jW @zJ (jW @zK (jW @zL (jW @zM (jW @zN (jW @zO (jW @zP (jW @zQ (jW @z0 (jW @z1 (jW @z3 (jW @z4 (jW @zV (jW @zS (jW @zT (jW @zU (jW @List.set_cons_zero.{0} (jW @List.set_cons_succ.{0} (jW @BI (jW @fM (jW @Kd.ag.injEq (jW @Rk.{0} (jW @RF.{0} (jW @oq (jW @Bz (jW @kU (jW @DR (jW @oQ (jW @DT (jW @BF (jW @zI (jW @Rq.{0} (jW @Rn.{0} (jW @List.take_succ_cons.{0} (jW @List.take_zero.{0} (jW @List.drop_succ_cons.{0} (jW @List.take_nil.{0} (jW @List.drop_nil.{0} (jW @RG.{0} (jW @Ry.{0,0} (jW @List.flatMap_nil.{0,0} (jW @Option.bind_some.{0,0} (jW @ne_eq.{1} (jW @not_false_eq_true (@not_true_eq_false)))))))))))))))))))))))))))))))))))))))))))))))))))))))))))))))))))))))))))))))))))))))))))))))))))))))))))))))))))))))))))))))))))))))))))))))))))))))))))))))))))))))))))))))))))))))))))))))))))))))))))))))))))))))))))))))))))))))))))))))))))))))))))))))))))))))))))))))))))))))))))))))))))
theorem wy:jk (jW @Fy (jW @wJ (jW @BJ (jW @zY (jW @BK (jW @DY (jW @eS (jW @pS (@cond_true.{1}))))))))):=jW @Fy (jW @wJ (jW @BJ (jW @zY (jW @BK (jW @DY (jW @eS (jW @pS (@cond_true.{1}))))))))
theorem wz:jk (jW @Bool.false_and (jW @Bool.and_false (jW @xY (jW @Nat.sub_zero (jW @xX (jW @xg (jW @beq_self_eq_true.{0} (jW @S8 (jW @S9 (jW @Gi (jW @Gj (jW @Gk (jW @Gl (jW @Gm (jW @Gn (jW @SV.{0} (jW @SC (jW @Nat.one_mul (jW @Sj (jW @Sz (jW @DW (jW @t9 (jW @DX (jW @Fx (jW @Int.natCast_add (jW @Int.natCast_mul (jW @Int.natCast_one (jW @Td (@Int.cast_ofNat_Int))))))))))))))))))))))))))))):=jW @Bool.false_and (jW @Bool.and_false (jW @xY (jW @Nat.sub_zero (jW @xX (jW @xg (jW @beq_self_eq_true.{0} (jW @S8 (jW @S9 (jW @Gi (jW @Gj (jW @Gk (jW @Gl (jW @Gm (jW @Gn (jW @SV.{0} (jW @SC (jW @Nat.one_mul (jW @Sj (jW @Sz (jW @DW (jW @t9 (jW @DX (jW @Fx (jW @Int.natCast_add (jW @Int.natCast_mul (jW @Int.natCast_one (jW @Td (@Int.cast_ofNat_Int))))))))))))))))))))))))))))
theorem au:jk (jW @V.ren.eq_1 (jW @V.ren.eq_2 (jW @V.ren.eq_3 (jW @W.ren.eq_1 (jW @W.ren.eq_2 (jW @C.ren.eq_1 (jW @C.ren.eq_2 (jW @C.ren.eq_3 (jW @C.ren.eq_4 (jW @C.ren.eq_5 (jW @C.ren.eq_6 (jW @V.ids.eq_1 (jW @V.ids.eq_2 (jW @V.ids.eq_3 (jW @W.ids.eq_1 (jW @W.ids.eq_2 (jW @C.ids.eq_1 (jW @C.ids.eq_2 (jW @C.ids.eq_3 (jW @C.ids.eq_4 (jW @C.ids.eq_5 (jW @C.ids.eq_6 (jW @Ob.ren.eq_1 (jW @Ob.ren.eq_2 (jW @Ob.ren.eq_3 (jW @Ob.ren.eq_4 (jW @Ob.ids.eq_1 (jW @Ob.ids.eq_2 (jW @Ob.ids.eq_3 (jW @Ob.ids.eq_4 (jW @Int.cast_ofNat_Int (jW @SV.{0} (jW @BC (jW @zG (jW @BD (jW @zH (jW @id_eq.{1} (jW @SC (jW @Nat.mul_zero (jW @SO (@Sr.{0}))))))))))))))))))))))))))))))))))))))))):=jW @V.ren.eq_1 (jW @V.ren.eq_2 (jW @V.ren.eq_3 (jW @W.ren.eq_1 (jW @W.ren.eq_2 (jW @C.ren.eq_1 (jW @C.ren.eq_2 (jW @C.ren.eq_3 (jW @C.ren.eq_4 (jW @C.ren.eq_5 (jW @C.ren.eq_6 (jW @V.ids.eq_1 (jW @V.ids.eq_2 (jW @V.ids.eq_3 (jW @W.ids.eq_1 (jW @W.ids.eq_2 (jW @C.ids.eq_1 (jW @C.ids.eq_2 (jW @C.ids.eq_3 (jW @C.ids.eq_4 (jW @C.ids.eq_5 (jW @C.ids.eq_6 (jW @Ob.ren.eq_1 (jW @Ob.ren.eq_2 (jW @Ob.ren.eq_3 (jW @Ob.ren.eq_4 (jW @Ob.ids.eq_1 (jW @Ob.ids.eq_2 (jW @Ob.ids.eq_3 (jW @Ob.ids.eq_4 (jW @Int.cast_ofNat_Int (jW @SV.{0} (jW @BC (jW @zG (jW @BD (jW @zH (jW @id_eq.{1} (jW @SC (jW @Nat.mul_zero (jW @SO (@Sr.{0}))))))))))))))))))))))))))))))))))))))))
theorem aH:jk (jW @Int.natCast_add (jW @Int.natCast_mul (jW @Int.natCast_one (@Td)))):=jW @Int.natCast_add (jW @Int.natCast_mul (jW @Int.natCast_one (@Td)))
theorem ae:jk (jW @wx (jW @wy @wz)):=jW @wx (jW @wy @wz)
theorem aO {σ:St} {p:Nat×Option Kd} {x:D} (h1:(bJ σ p).bind (toW σ.h)=some x:=by simp only[ae,aa,seval,iteOmega,toNatUp]):cv σ [p] (.w (.c (.d x))):=my h1
theorem dc {σ:St} {p q:Nat×Option Kd} {x y:D} (h1:(bJ σ p).bind (toW σ.h)=some x:=by simp only[ae,aa,seval,iteOmega,toNatUp]) (h2:(bJ σ q).bind (toW σ.h)=some y:=by simp only[ae,aa,seval,iteOmega,toNatUp]):cv σ [p,q] (.tup [.c (.d x),.c (.d y)]):=uc h1 h2
theorem jg {σ:St} {p q r:Nat×Option Kd} {x y z:D} (h1:(bJ σ p).bind (toW σ.h)=some x:=by simp only[ae,aa,seval,iteOmega,toNatUp]) (h2:(bJ σ q).bind (toW σ.h)=some y:=by simp only[ae,aa,seval,iteOmega,toNatUp]) (h3:(bJ σ r).bind (toW σ.h)=some z:=by simp only[ae,aa,seval,iteOmega,toNatUp]):cv σ [p,q,r] (.tup [.c (.d x),.c (.d y),.c (.d z)]):=Nh h1 h2 h3
theorem fy {σ:St} {p:Nat×Option Kd} {sz:Nat} {es:List D} (h1:(bJ σ p).bind (hY σ.h sz)=some es:=by simp only[ae,aa,seval,iteOmega,toNatUp]):cv σ [p] (.w (.c (.fr sz es))):=D7 h1
theorem cE {σ:St} {p q:Nat×Option Kd} {sz:Nat} {es:List D} {y:D} (h1:(bJ σ p).bind (hY σ.h sz)=some es:=by simp only[ae,aa,seval,iteOmega,toNatUp]) (h2:bJ σ q=some (.c (.d y)):=by simp only[ae,aa,seval,iteOmega,toNatUp]):cv σ [p,q] (.tup [.c (.fr sz es),.c (.d y)]):=ud h1 h2
theorem sD {P:Program} {G:ak} {K:St→Prop} {r:List aJ} {f:Nat→V} {h:aj} {u:Nat→Bool} {d:Option Nat} {fn:FuncId} {xs:List SX} {own:Option (Nat×Nat)} {ds:List D} {res:V} {q:Prop} (h2:ap P G fn ds res) (e:q)
    (hq:aM (cD h u (d.getD 0) own res) (bX P G d r K f)=q:=by simp only[ae,aa,seval,iteOmega,toNatUp]; rfl) (h1:cq h (xs.map (ev G f))=some ds:=by exact rfl)
    (h3:((xs.map (ev G f)).any V.hasOwn=false∨res.flat=true):=by exact .inl rfl) (hne:fn≠dR:=by decide) (hp:fO own (xs.map (ev G f)):=by first | exact l7 _ | exact mj _ _ _ | exact l8 _ _ rfl):ar P G (⟨d,.call fn xs own,none⟩::r) K ⟨f,h,u⟩ :=
  sC h2 (hq ▸ e) h1 h3 hne hp
def fa (x:UInt8):UInt8:=al (c8 x 1) (if x<128 then 0 else 27)
def ib (c:Bool) (v:UInt8):UInt8:=if c then v else 0
def ic (y:UInt8) (i:Nat):Bool:=y.toNat.testBit i
def vT (x:UInt8):Nat→UInt8
  | 0=>x
  | n+1=>fa (vT x n)
def GM (x y:UInt8):Nat→UInt8
  | 0=>0
  | n+1=>al (GM x y n) (ib (ic y n) (vT x n))
def eL (x y:UInt8):UInt8:=GM x y 8
theorem yl (x y:UInt8):al x y=al y x:=UInt8.xor_comm x y
theorem lY (x y z:UInt8):al (al x y) z=al x (al y z):=UInt8.xor_assoc x y z
theorem ym (x:UInt8):al x 0=x:=UInt8.xor_zero
theorem Iy (x:UInt8):al x x=0:=UInt8.xor_self
theorem Iz (a b c d:UInt8):al (al a b) (al c d)=al (al a c) (al b d):=by
  rw[lY,← lY b,yl b c,lY c,← lY]
def vy (f:UInt8→UInt8):Prop:=∀ a b,f (al a b)=al (f a) (f b)
theorem JM (x y:UInt8) (i:Nat):ic (al x y) i=(ic x i ^^ ic y i):=by
  unfold ic al;rw[UInt8.toNat_xor,Sc]
theorem JN (c d:Bool) (v:UInt8):ib (c ^^ d) v=al (ib c v) (ib d v):=by
  cases c <;> cases d <;> simp[ib,al]
def jD (f:UInt8→UInt8) (x:UInt8):Nat→UInt8
  | 0=>0
  | n+1=>al (jD f x n) (ib (ic x n) (f (UInt8.ofNat (2^n))))
theorem Ac (f:UInt8→UInt8):∀ n,vy fun x=>jD f x n
  | 0=>fun a b=>(Iy 0).symm
  | n+1=>fun a b=>by
    show al (jD f (al a b) n) (ib (ic (al a b) n) _)=_
    rw[show jD f (al a b) n=al (jD f a n) (jD f b n) from Ac f n a b,JM,JN,Iz];rfl
theorem Nu {f:UInt8→UInt8} (h:∀ x,f x=jD f x 8):vy f:=by
  intro a b;rw[h,h a,h b];exact Ac f 8 a b
theorem ju {p:UInt8→Bool} (h:((List.range 256).all fun i=>p (UInt8.ofNat i))=true) (x:UInt8):p x=true:=by
  have:=Ru.1 h x.toNat (List.mem_range.2 x.toNat_lt)
  simpa using this
theorem Lp:vy fa:=Nu fun x=>by
  have:=ju (p:=fun x=>fa x==jD fa x 8) (by decide +kernel) x
  simpa using this
def pV (x:UInt8) (n:Nat):UInt8:=im (c8 x n) (c9 x (8-n))
def Gs (y:UInt8):UInt8:=al (al (al (al (al y (pV y 1)) (pV y 2)) (pV y 3)) (pV y 4)) 99
def Gt (x:UInt8):UInt8 :=
  let x2:=eL x x
  let x3:=eL x2 x
  let x6:=eL x3 x3
  let x12:=eL x6 x6
  let x15:=eL x12 x3
  let x30:=eL x15 x15
  let x60:=eL x30 x30
  let x120:=eL x60 x60
  let x240:=eL x120 x120
  eL (eL x240 x12) x2
def vz:List UInt8:=(List.range 256).map fun i=>Gs (Gt (UInt8.ofNat i))
def cQ (x:UInt8):UInt8:=Gs (Gt x)
theorem JO (x:UInt8):vz[x.toNat]?=some (cQ x):=by
  unfold vz cQ;rw[Su,List.getElem?_range x.toNat_lt];simp
instance:Std.Associative al:=⟨lY⟩
instance:Std.Commutative al:=⟨yl⟩
def vU (x:UInt8):UInt8:=eL x 2
def qw (a b c d:UInt8):UInt8:=al (al (al (al (vU a) (vU b)) b) c) d
abbrev cF:=Nat→UInt8
def eW (s k:cF):cF:=fun j=>al (s j) (k j)
def fQ (s:cF):cF:=fun j=>cQ (s (j%4+4*((j / 4+j%4)%4)))
def eX (t:cF):cF:=fun j=>qw (t (4*(j / 4)+j%4)) (t (4*(j / 4)+(j%4+1)%4)) (t (4*(j / 4)+(j%4+2)%4)) (t (4*(j / 4)+(j%4+3)%4))
def FF (s t:cF):Prop:=∀ j,j<16→s j=t j
def ui (k:Nat→cF) (s:cF) (n:Nat):cF:=if n<10 then eW (eX (fQ s)) (k n) else eW (fQ s) (k n)
def fU (k:Nat→cF) (s:cF):Nat→cF
  | 0=>eW s (k 0)
  | n+1=>ui k (fU k s n) (n+1)
def fq (n:Nat):UInt8:=vT 1 n
def ly (t:List UInt8) (n:Nat):List UInt8 :=
  if n%4=0 then [al (cQ (t.getD 1 0)) (fq (n / 4)),cQ (t.getD 2 0),cQ (t.getD 3 0),cQ (t.getD 0 0)]
  else [t.getD 0 0,t.getD 1 0,t.getD 2 0,t.getD 3 0]
def iO (l:List UInt8) (n:Nat):List UInt8 :=
  (List.range 4).map fun k=>al (l.getD (4*n+k) 0) ((ly (l.drop (12+4*n)) n).getD k 0)
def cM (key:List UInt8):Nat→List UInt8
  | 0=>key
  | n+1=>cM key n++iO (cM key n) n
def aB (key:List UInt8):List UInt8:=cM key 40
theorem IA (l:List UInt8) (n:Nat):(iO l n).length=4:=by simp[iO]
theorem jX {key:List UInt8} (h:key.length=16):∀ n,(cM key n).length=16+4*n
  | 0=>h
  | n+1=>by rw[cM,Rk,jX h n,IA]; omega
theorem tB {key:List UInt8} (h:key.length=16):(aB key).length=176:=jX h 40
def bp (f:cF):List UInt8:=(List.range 16).map f
theorem dY (f:cF):(bp f).length=16:=by simp[bp]
theorem oU (f:cF) {j:Nat} (h:j<16):(bp f)[j]?=some (f j):=by simp[bp,h]
def aQ (l:List UInt8):cF:=fun j=>l.getD j 0
theorem Nv {l:List UInt8} (h:l.length=16):bp (aQ l)=l:=by
  apply SR;intro i;by_cases hi:i<16
  ·rw[oU _ hi,aQ,Rj,Rh (by omega)]; rfl
  ·rw[R2 (by rw[dY]; omega),R2 (by omega)]
theorem rN {f g:cF} (h:FF f g):bp f=bp g:=R8 fun j hj=>h j (List.mem_range.1 hj)
def cR (rk:List UInt8) (n:Nat):cF:=fun j=>rk.getD (16*n+j) 0
def db (rk b:List UInt8):List UInt8:=bp (fU (cR rk) (aQ b) 10)
theorem gn (rk b:List UInt8):(db rk b).length=16:=dY _
def pt (key b:List UInt8):List UInt8:=db (aB key) b
def ct:List UInt8→List UInt8×Bool
  | []=>([],true)
  | x::r=>let (s,c):=ct r; if c then ((x+1)::s,x+1==0) else (x::s,false)
def iP (c:List UInt8):List UInt8:=(ct c).1
theorem sI:∀ c,(ct c).1.length=c.length
  | []=>rfl
  | x::r=>by
    have:=sI r;simp only[ct];split <;> simp[this]
theorem yn (c:List UInt8):(iP c).length=c.length:=sI c
def dA (c:List UInt8):Nat→List UInt8
  | 0=>c
  | n+1=>iP (dA c n)
theorem Ad (c:List UInt8):∀ n,(dA c n).length=c.length
  | 0=>rfl
  | n+1=>by rw[dA,yn,Ad c n]
def lH (rk c:List UInt8):Nat→List UInt8
  | 0=>[]
  | n+1=>lH rk c n++db rk (dA c n)
theorem mc (rk c:List UInt8):∀ n,(lH rk c n).length=16*n
  | 0=>rfl
  | n+1=>by rw[lH,Rk,mc rk c n,gn]; omega
def qx (a b:List UInt8):List UInt8:=List.zipWith al a b
def eT (rk c b:List UInt8):List UInt8:=qx b (lH rk c ((b.length+15) / 16))
theorem JP {a b:List UInt8} (h:a.length≤b.length):(qx a b).length=a.length:=by
  simp[qx]; omega
theorem nS (rk c b:List UInt8):(eT rk c b).length=b.length:=JP (by rw[mc]; omega)
def vA (b:cF):cF:=fun j=>al (al (c8 (b j) 1) (if j<15 then c9 (b (j+1)) 7 else 0)) (if j=15 then ib (ic (b 0) 7) 135 else 0)
theorem NI (x y:UInt8):im (c8 x 1) (c9 y 7)=al (c8 x 1) (c9 y 7):=by
  have h:c9 y 7=0∨c9 y 7=1:=by
    have:=ju (p:=fun y=>c9 y 7==0 || c9 y 7==1) (by decide +kernel) y
    simpa using this
  rcases h with h | h <;> rw[h]
  ·have:=ju (p:=fun x=>im (c8 x 1) 0==al (c8 x 1) 0) (by decide +kernel) x;rw[beq_iff_eq] at this; exact this
  ·have:=ju (p:=fun x=>im (c8 x 1) 1==al (c8 x 1) 1) (by decide +kernel) x;rw[beq_iff_eq] at this; exact this
def dC (b:List UInt8):List UInt8:=if b.length=16 then bp (vA (aQ b)) else []
theorem jT {b:List UInt8} (h:b.length=16):(dC b).length=16:=by rw[dC,if_pos h,dY]
def bS:List UInt8→List UInt8→List UInt8
  | x::a,y::b=>al x y::bS a b
  | a,_=>a
theorem fK:∀ a b:List UInt8,(bS a b).length=a.length
  | [],_=>by simp[bS]
  | x::a,[]=>rfl
  | x::a,y::b=>by simp[bS,fK a b]
theorem Aj:∀ (a b:List UInt8) (i:Nat),i<a.length→i<b.length→(bS a b).getD i 0=al (a.getD i 0) (b.getD i 0)
  | [],_,_,h,_=>by simp at h
  | x::a,[],_,_,h=>by simp at h
  | x::a,y::b,0,_,_=>rfl
  | x::a,y::b,i+1,h,g=>by
    show (bS a b).getD i 0=_
    rw[Aj a b i (by simpa using h) (by simpa using g)]; rfl
def dZ:List UInt8:=List.replicate 16 0
def fV (b:List UInt8):List UInt8:=b++List.replicate ((16-b.length%16)%16) 0
def fW (rk:List UInt8):List UInt8:=dC (db rk dZ)
def iZ (rk:List UInt8):List UInt8:=dC (fW rk)
def eY (rk b:List UInt8):Nat→List UInt8
  | 0=>dZ
  | n+1=>db rk (bS (eY rk b n) ((b.drop (16*n)).take 16))
def j5 (b:List UInt8):Nat:=(b.length+15) / 16-1
def i3 (rk e:List UInt8):List UInt8:=if e.length=16 then bS e (fW rk) else bS (fV (e++[128])) (iZ rk)
def ft (rk b:List UInt8):List UInt8:=db rk (bS (eY rk b (j5 b)) (i3 rk (b.drop (16*j5 b))))
theorem ow (rk b:List UInt8):∀ n,(eY rk b n).length=16
  | 0=>by simp[eY,dZ]
  | n+1=>gn _ _
theorem ox (rk b:List UInt8):(ft rk b).length=16:=gn _ _
theorem sN (rk:List UInt8):(fW rk).length=16:=jT (gn _ _)
theorem J5 (rk:List UInt8):(iZ rk).length=16:=jT (sN _)
theorem rx {b:List UInt8} (h:b.length<16):(fV (b++[128])).length=16:=by
  simp[fV]; omega
theorem J6 {rk e:List UInt8} (h:e.length≤16):(i3 rk e).length=16:=by
  unfold i3;split
  ·rw[fK]; assumption
  ·rw[fK,rx (by omega)]
def fu (rk:List UInt8) (l:List (List UInt8)):Nat→List UInt8
  | 0=>ft rk dZ
  | n+1=>bS (dC (fu rk l n)) (ft rk (l.getD n []))
def gF (rk:List UInt8) (l:List (List UInt8)):List UInt8 :=
  if l.length=0 then ft rk (List.replicate 15 0++[1])
  else
    let d:=fu rk l (l.length-1)
    let s:=l.getD (l.length-1) []
    if 16≤s.length then ft rk (s.take (s.length-16)++bS (s.drop (s.length-16)) d)
    else ft rk (bS (dC d) (fV (s++[128])))
theorem Ak (rk:List UInt8) (l:List (List UInt8)):∀ n,(fu rk l n).length=16
  | 0=>ox _ _
  | n+1=>by rw[fu,fK,jT (Ak rk l n)]
theorem J7 (rk:List UInt8) (l:List (List UInt8)):(gF rk l).length=16:=by
  unfold gF;split
  ·exact ox _ _
  ·dsimp only;split <;> exact ox _ _
end Go.Proofs.Ytofonnokanoflaa
