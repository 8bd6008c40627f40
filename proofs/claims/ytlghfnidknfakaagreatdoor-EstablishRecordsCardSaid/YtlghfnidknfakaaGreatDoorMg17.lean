/- Texts of one's own, merged: from: The plain logic (20): words of 32 bits. Own work. -/
import Derived.Laws.BitsLemmas
import Derived.Laws.Bits64
import Derived.Laws.BitsAllLaws
import Derived.Test.YtlghfnidknfakaaGreatDoorMg16
set_option linter.unusedVariables false
set_option linter.unusedSimpArgs false
namespace Go.Proofs.YtlghfnidknfakaaGreatDoor
open Go.RowKit IntWalk
def gv (x y:UInt32):UInt32:=x ^^^ y
def kW (x y:UInt32):UInt32:=x &&& y
def js (x y:UInt32):UInt32:=x ||| y
def bJ (x y:UInt32):UInt32:=x+y
def tO (x:UInt32):UInt32:=UInt32.ofNat (4294967295-x.toNat)
def nR (x:UInt32) (n:Nat):UInt32:=UInt32.ofNat (x.toNat / 2^n)
def j5 (x:UInt32) (n:Nat):UInt32:=UInt32.ofNat (x.toNat*2^n)
def gP (x:UInt32) (n:Nat):UInt32:=js (nR x n) (j5 x (32-n))
def jN (b:UInt8):UInt32:=UInt32.ofNat b.toNat
theorem word_lt (x:UInt32):x.toNat<4294967296:=x.toNat_lt
theorem M7 (x y:UInt32):bits .xor .u32 (x.toNat:Int) (y.toNat:Int)=((gv x y).toNat:Int):=by
  rw[u32_xor_nat _ _ (word_lt x) (word_lt y)]; simp[gv]
theorem M8 (x y:UInt32):bits .and .u32 (x.toNat:Int) (y.toNat:Int)=((kW x y).toNat:Int):=by
  rw[u32_and_nat _ _ (word_lt x) (word_lt y)]; simp[kW]
theorem Ov (x y:UInt32):bits .or .u32 (x.toNat:Int) (y.toNat:Int)=((js x y).toNat:Int):=by
  rw[u32_or_nat _ _ (word_lt x) (word_lt y)]; simp[js]
theorem M9 (x y:UInt32):IntKind.u32.wrap ((x.toNat:Int)+(y.toNat:Int))=((bJ x y).toNat:Int):=by
  rw[IntKind.wrap_u32]; simp[bJ]
theorem Ow (x:UInt32) (n:Nat):(x.toNat:Int) / 2^n=((nR x n).toNat:Int):=by
  have h:x.toNat / 2^n<4294967296:=Nat.lt_of_le_of_lt (Nat.div_le_self _ _) (word_lt x);unfold nR;rw[UInt32.toNat_ofNat_of_lt' (by simpa [UInt32.size] using h)];simp
theorem Ox (x:UInt32) (n:Nat):(x.toNat:Int)*2^n%4294967296=((j5 x n).toNat:Int):=by
  unfold j5;simp
theorem Oy (x:UInt32):(4294967295:Int)-(x.toNat:Int)=((tO x).toNat:Int):=by
  have h:=word_lt x;unfold tO;rw[UInt32.toNat_ofNat_of_lt' (by simp[UInt32.size]; omega)];omega
theorem BA (b:UInt8):(b.toNat:Int)=((jN b).toNat:Int):=by
  have h:=b.toNat_lt;unfold jN;rw[UInt32.toNat_ofNat_of_lt' (by simp[UInt32.size]; omega)]
theorem BB (x y:UInt32):bH .xor (.w (.c (.d (wD x)))) (.w (.c (.d (wD y))))=some (wD (gv x y)):=by
  show bp .xor .u32 (x.toNat:Int) .u32 (y.toNat:Int)=_
  rw[qP,M7]; rfl
theorem BC (x y:UInt32):bH .and (.w (.c (.d (wD x)))) (.w (.c (.d (wD y))))=some (wD (kW x y)):=by
  show bp .and .u32 (x.toNat:Int) .u32 (y.toNat:Int)=_
  rw[qO,M8]; rfl
theorem DY (x y:UInt32):bH .or (.w (.c (.d (wD x)))) (.w (.c (.d (wD y))))=some (wD (js x y)):=by
  show bp .or .u32 (x.toNat:Int) .u32 (y.toNat:Int)=_
  rw[rE,Ov]; rfl
theorem BD (x y:UInt32):bH .add (.w (.c (.d (wD x)))) (.w (.c (.d (wD y))))=some (wD (bJ x y)):=by
  show bp .add .u32 (x.toNat:Int) .u32 (y.toNat:Int)=_
  rw[qL,M9]; rfl
theorem BE (x:UInt32) (k:IntKind) (n:Int) (h:0≤n):bH .shl (.w (.c (.d (wD x)))) (.w (.c (.d (.int k n))))=some (wD (j5 x (min n.toNat 32))):=by
  show bp .shl .u32 (x.toNat:Int) k n=_
  rw[qQ _ _ _ _ h,IntKind.wrap_u32]
  show some (D.int .u32 ((x.toNat:Int)*2^min n.toNat 32%4294967296))=_
  rw[Ox]; rfl
theorem BF (x:UInt32) (k:IntKind) (n:Int) (h:0≤n):bH .shr (.w (.c (.d (wD x)))) (.w (.c (.d (.int k n))))=some (wD (nR x (min n.toNat 32))):=by
  show bp .shr .u32 (x.toNat:Int) k n=_
  rw[qR _ _ _ _ h]
  show some (D.int .u32 ((x.toNat:Int) / 2^min n.toNat 32))=_
  rw[Ow]; rfl
theorem DZ (x:UInt32):jq .xor (.w (.c (.d (wD x))))=some (wD (tO x)):=by
  have:bits .xor .u32 4294967295 (x.toNat:Int)=(4294967295:Int)-(x.toNat:Int):=by
    have h:=x.toNat_lt;have h2:4294967295 ^^^ x.toNat=4294967295-x.toNat:=by
      have e:=congrArg BitVec.toNat (BitVec.allOnes_xor (x:=BitVec.ofNat 32 x.toNat));rw[BitVec.toNat_xor,BitVec.toNat_not,BitVec.toNat_allOnes,BitVec.toNat_ofNat,Nat.mod_eq_of_lt (by omega)] at e;omega
    have h3:=u32_xor_nat 4294967295 x.toNat (by decide) h;rw[h2] at h3;have h4:((4294967295:Nat):Int)=4294967295:=rfl;rw[h4] at h3;omega
  show some (D.int .u32 (bits .xor .u32 4294967295 (x.toNat:Int)))=_
  rw[this,Oy]; rfl
theorem BG (x y:UInt32):bH .eql (.w (.c (.d (wD x)))) (.w (.c (.d (wD y))))=some (.bool (x==y)):=by
  show bp .eql .u32 (x.toNat:Int) .u32 (y.toNat:Int)=_
  rw[qM];by_cases h:x=y
  ·subst h; simp
  ·have:¬ ((x.toNat:Int)=(y.toNat:Int)):=fun e=>h (UInt32.toNat_inj.1 (by omega))
   simp[this,h]
theorem BH (x y:UInt32):bH .neq (.w (.c (.d (wD x)))) (.w (.c (.d (wD y))))=some (.bool (x != y)):=by
  show bp .neq .u32 (x.toNat:Int) .u32 (y.toNat:Int)=_
  rw[qN];by_cases h:x=y
  ·subst h; simp
  ·have:¬ ((x.toNat:Int)=(y.toNat:Int)):=fun e=>h (UInt32.toNat_inj.1 (by omega))
   simp[this,h]
theorem D1 (b:UInt8):D.int .u32 (IntKind.u32.wrap (b.toNat:Int))=wD (jN b):=by
  have h:=b.toNat_lt;rw[IntWalk.u32_in _ (by omega),BA]; rfl
def ar (x y:UInt8):UInt8:=x ^^^ y
def kX (x y:UInt8):UInt8:=x &&& y
def jt (x y:UInt8):UInt8:=x ||| y
def d9 (x:UInt8) (n:Nat):UInt8:=UInt8.ofNat (x.toNat*2^n)
def ea (x:UInt8) (n:Nat):UInt8:=UInt8.ofNat (x.toNat / 2^n)
theorem ky (x:UInt8):x.toNat<256:=x.toNat_lt
theorem gj (x y:UInt8):bH .xor (.w (.c (.d (bD x)))) (.w (.c (.d (bD y))))=some (bD (ar x y)):=by
  show bp .xor .u8 (x.toNat:Int) .u8 (y.toNat:Int)=_
  rw[qP,u8_xor_nat _ _ (ky x) (ky y)]; simp[ar,bD]
theorem u1 (x y:UInt8):bH .and (.w (.c (.d (bD x)))) (.w (.c (.d (bD y))))=some (bD (kX x y)):=by
  show bp .and .u8 (x.toNat:Int) .u8 (y.toNat:Int)=_
  rw[qO,u8_and_nat _ _ (ky x) (ky y)]; simp[kX,bD]
theorem vK (x y:UInt8):bH .or (.w (.c (.d (bD x)))) (.w (.c (.d (bD y))))=some (bD (jt x y)):=by
  show bp .or .u8 (x.toNat:Int) .u8 (y.toNat:Int)=_
  rw[rE,u8_or_nat _ _ (ky x) (ky y)]; simp[jt,bD]
theorem Na (x:UInt8) (k:IntKind) (n:Int) (h:0≤n):bH .shl (.w (.c (.d (bD x)))) (.w (.c (.d (.int k n))))=some (bD (d9 x (min n.toNat 8))):=by
  show bp .shl .u8 (x.toNat:Int) k n=_
  rw[qQ _ _ _ _ h,IntKind.wrap_u8]
  show some (D.int .u8 ((x.toNat:Int)*2^min n.toNat 8%256))=_
  have:(x.toNat:Int)*2^min n.toNat 8%256=((d9 x (min n.toNat 8)).toNat:Int):=by unfold d9; simp
  rw[this]; rfl
theorem Nb (x:UInt8) (k:IntKind) (n:Int) (h:0≤n):bH .shr (.w (.c (.d (bD x)))) (.w (.c (.d (.int k n))))=some (bD (ea x (min n.toNat 8))):=by
  show bp .shr .u8 (x.toNat:Int) k n=_
  rw[qR _ _ _ _ h]
  show some (D.int .u8 ((x.toNat:Int) / 2^min n.toNat 8))=_
  have:(x.toNat:Int) / 2^min n.toNat 8=((ea x (min n.toNat 8)).toNat:Int):=by
    have h:x.toNat / 2^min n.toNat 8<256:=Nat.lt_of_le_of_lt (Nat.div_le_self _ _) (ky x);unfold ea;rw[UInt8.toNat_ofNat_of_lt' (by simpa [UInt8.size] using h)];simp
  rw[this]; rfl
theorem Nc (x y:UInt8):bH .eql (.w (.c (.d (bD x)))) (.w (.c (.d (bD y))))=some (.bool (x==y)):=by
  show bp .eql .u8 (x.toNat:Int) .u8 (y.toNat:Int)=_
  rw[qM];by_cases h:x=y
  ·subst h; simp
  ·have:¬ ((x.toNat:Int)=(y.toNat:Int)):=fun e=>h (UInt8.toNat_inj.1 (by omega))
   simp[this,h]
theorem Nf (x y:UInt8):bH .neq (.w (.c (.d (bD x)))) (.w (.c (.d (bD y))))=some (.bool (x != y)):=by
  show bp .neq .u8 (x.toNat:Int) .u8 (y.toNat:Int)=_
  rw[qN];by_cases h:x=y
  ·subst h; simp
  ·have:¬ ((x.toNat:Int)=(y.toNat:Int)):=fun e=>h (UInt8.toNat_inj.1 (by omega))
   simp[this,h]
theorem La (G:ah) (f:Nat→V):ev G f .u=.undef:=rfl
def Kx (P:Program) (G:ah) (d:Option Nat) (r:List aZ) (K:St→Prop) (f:Nat→V) (h:aB) (u:Nat→Bool) (F:Nat) (ds:List D):Prop:=aL P G r K ⟨bg f d (.w (.c (.d (.fn F ds)))),h,u⟩
theorem Gi (P:Program) (G:ah) (d:Option Nat) (r:List aZ) (K:St→Prop) (f:Nat→V) (h:aB) (u:Nat→Bool) (F:Nat) (xs:List SX):aL P G (⟨d,.clos F xs,none⟩::r) K ⟨f,h,u⟩=aT (dZ (xs.map (ev G f))) (Kx P G d r K f h u F):=by
  show (match (dZ (xs.map (ev G f))).map fun ds=>((.w (.c (.d (.fn F ds))),h,u):R) with | some r=>_ | none=>False)=_
  cases dZ (xs.map (ev G f)) <;> rfl
theorem D2 (P:Program) (G:ah) (d:Option Nat) (r:List aZ) (K:St→Prop) (f:Nat→V) (h:aB) (u:Nat→Bool) (F:Nat) (ds:List D):Kx P G d r K f h u F ds=aL P G r K ⟨bg f d (.w (.c (.d (.fn F ds)))),h,u⟩:=rfl
theorem BI:dZ []=some []:=rfl
theorem D3 (cs:List D) (r:List V):dZ (.w (.c (.rp cs))::r)=(dZ r).map fun l=>.ref cs::l:=by
  simp only[dZ,lW]; cases dZ r <;> rfl
theorem BJ (k:IntKind) (n:Int) (r:List V):dZ (.w (.c (.d (.int k n)))::r)=(dZ r).map fun l=>.int k n::l:=by
  simp only[dZ,lW]; cases dZ r <;> rfl
theorem D4 (es:List D) (r:List V):dZ (.w (.c (.d (.sl es)))::r)=(dZ r).map fun l=>.sl es::l:=by
  simp only[dZ,lW]; cases dZ r <;> rfl
def zp (P:Program) (G:ah) (body:aM) (K:AX→St→Prop) (e:AX) (s:St):Prop:=match e with | .nrm=>bA P G body K s | _=>False
def zq (f0:Nat→V) (I:Nat→aB→(Nat→Bool)→Prop) (Q:AX→St→Prop) (k:Nat) (e:AX) (s:St):Prop:=match e with
  | .nrm=>∃ h' u',dI s ⟨f0,h',u'⟩∧I (k+1) h' u'
  | e=>∃ h' u',dI s ⟨f0,h',u'⟩∧Q e ⟨f0,h',u'⟩
theorem D5 (P:Program) (G:ah) (body:aM) (K:AX→St→Prop) (s:St):zp P G body K .nrm s=bA P G body K s:=rfl
def zr (st:Nat→aB×(Nat→Bool)) (k:Nat) (h:aB) (u:Nat→Bool):Prop:=(h,u)=st k
theorem Oz {P:Program} {G:ah} {Q:AX→St→Prop} {σ:St} {x:SX} {ps:List Nat} {asg body:aM} {g:Nat} {caps:List D} {xs:List (List D)} (f0:Nat→V) {f1:Nat→V} (hf:f0=f1) (st:Nat→aB×(Nat→Bool))
    (hev:ev G σ.f x=.w (.c (.d (.fn g caps)))) (hseq:zk P G g caps xs) (hlen:∀ r∈xs,r.length=ps.length) (hent:dI σ ⟨f1,(st 0).1,(st 0).2⟩) (hun:∀ t∈ps++asg.writes++body.writes,f1 t=.undef)
    (round:∀ k r,xs[k]?=some r→bA P G asg (zp P G body (zq f0 (zr st) Q k)) ⟨ny f1 ps r,(st k).1,(st k).2⟩)
    (done:Q .nrm ⟨f1,(st xs.length).1,(st xs.length).2⟩):bA P G (.rangeF x ps asg body) Q σ:=by
  subst hf;refine⟨g,caps,xs,f0,(st 0).1,(st 0).2,fun k h u=>(h,u)=st k,hev,hseq,hlen,hent,hun,rfl,fun k r h u hr e=>?_,fun h u e=>?_⟩
  ·have:=round k r hr;rw[← e] at this
   have e1:(fun (e:AX) (s:St)=>match e with
       | .nrm=>bA P G body (fun e s'=>match e with
         | .nrm=>∃ h' u',dI s' ⟨f0,h',u'⟩∧(h',u')=st (k+1)
         | e=>∃ h' u',dI s' ⟨f0,h',u'⟩∧Q e ⟨f0,h',u'⟩) s
       | _=>False)=zp P G body (zq f0 (zr st) Q k):=by
     funext e s
     cases e with
     | nrm =>
       show bA P G body _ s=bA P G body _ s
       congr 1
     | _=>rfl
   rw[← e1] at this;exact this
  ·rw[← e] at done; exact done
theorem OA {f0:Nat→V} {f1:Nat→V} (hf:f0=f1) {st:Nat→aB×(Nat→Bool)} {Q:AX→St→Prop} {k:Nat} {s:St} (h:dI s ⟨f1,(st (k+1)).1,(st (k+1)).2⟩):zq f0 (zr st) Q k .nrm s:=⟨_,_,hf ▸ h,rfl⟩
def bC (x:UInt8):C:=.d (bD x)
theorem pG (l:List UInt8):(l.map bD).map C.d=l.map bC:=by rw[Yy]; rfl
theorem pd:∀ l:List UInt8,eH (l.map bC)=some (l.map bD)
  | []=>rfl
  | x::l=>by
    have h:=pd l
    show eH (C.d (bD x)::l.map bC)=_
    simp only[eH,h,WH,XD]
theorem OB {α β:Type} (f:α→β) (l cs:List α) (off:Nat):cB (l.map f) off (cs.map f)=(cB l off cs).map f:=by
  unfold cB; simp
theorem gm (l:List UInt8):(l.map bC).flatMap C.ids=[]:=by
  induction l with
  | nil=>rfl
  | cons x l ih=>rw[WH,WQ,ih]; rfl
theorem mZ (g:Nat→Nat) (l:List UInt8):(l.map bC).map (C.ren g)=l.map bC:=by rw[Yy]; rfl
theorem SF (x c:UInt8) (n:Int) (h:n=(c.toNat:Int)):bH .eql (.w (.c (.d (bD x)))) (.w (.c (.d (.int .u8 n))))=some (.bool (x==c)):=by subst h; exact Nc x c
theorem SG (x c:UInt8) (n:Int) (h:n=(c.toNat:Int)):bH .neq (.w (.c (.d (bD x)))) (.w (.c (.d (.int .u8 n))))=some (.bool (x != c)):=by subst h; exact Nf x c
theorem SH (x c:UInt8) (n:Int) (h:n=(c.toNat:Int)):bH .xor (.w (.c (.d (bD x)))) (.w (.c (.d (.int .u8 n))))=some (bD (ar x c)):=by subst h; exact gj x c
theorem IB (x c:UInt8) (n:Int) (h:n=(c.toNat:Int)):bH .and (.w (.c (.d (bD x)))) (.w (.c (.d (.int .u8 n))))=some (bD (kX x c)):=by subst h; exact u1 x c
theorem IC (x:UInt8) (k:IntKind) (j:Nat) (n:Int) (h:n=(j:Int)) (hj:j≤8):bH .shr (.w (.c (.d (bD x)))) (.w (.c (.d (.int k n))))=some (bD (ea x j)):=by
  subst h;rw[Nb _ _ _ (Yl j),Yq,Nat.min_eq_left hj]
theorem ID (x:UInt8) (k:IntKind) (j:Nat) (n:Int) (h:n=(j:Int)) (hj:j≤8):bH .shl (.w (.c (.d (bD x)))) (.w (.c (.d (.int k n))))=some (bD (d9 x j)):=by
  subst h;rw[Na _ _ _ (Yl j),Yq,Nat.min_eq_left hj]
def bz {α:Type} (n:Nat) (x:α):List α:=List.replicate n x
theorem cE {α:Type} (n:Nat) (x:α):(bz n x).length=n:=WY
theorem Gj (n:Nat):bz n (C.d (D.int .u8 0))=(bz n (0:UInt8)).map bC:=by unfold bz; rw[List.map_replicate]; rfl
set_option maxRecDepth 100000
theorem jW {a b : Prop} (l : a) (r : b) : a ∧ b := And.intro l r
theorem wx:kx (jW @sM (jW @sN (jW @sO (jW @sP (jW @sQ (jW @sx (jW @xo (jW @wn (jW @Hv (jW @Hw (jW @Hu (jW @xn (jW @E7 (jW @Kb (jW @Kc (jW @Ke (jW @cK.eq_1 (jW @cK.eq_2 (jW @cK.eq_3 (jW @cK.eq_4 (jW @fU.eq_1 (jW @fU.eq_2 (jW @killAll.eq_1 (jW @killAll.eq_2 (jW @killAll.eq_3 (jW @La (jW @Gi (jW @D2 (jW @BI (jW @D3 (jW @BJ (jW @D4 (jW @D5 (jW @ef.eq_1 (jW @ef.eq_2 (jW @ef.eq_3 (jW @ef.eq_4 (jW @ef.eq_5 (jW @ef.eq_6 (jW @ef.eq_7 (jW @ef.eq_8 (jW @ef.eq_9 (jW @ef.eq_10 (jW @ef.eq_11 (jW @ef.eq_12 (jW @ef.eq_13 (jW @ef.eq_14 (jW @ef.eq_15 (jW @ef.eq_16 (jW @ef.eq_17 (jW @ef.eq_18 (jW @ef.eq_19 (jW @ef.eq_20 (jW @ef.eq_21 (jW @ef.eq_22 (jW @ef.eq_23 (jW @ef.eq_24 (jW @ef.eq_25 (jW @ef.eq_26 (jW @ef.eq_27 (jW @ef.eq_28 (jW @ef.eq_29 (jW @ef.eq_30 (jW @ef.eq_31 (jW @ef.eq_32 (jW @ef.eq_33 (jW @ef.eq_34 (jW @ef.eq_35 (jW @ef.eq_36 (jW @ef.eq_37 (jW @ef.eq_38 (jW @ef.eq_39 (jW @ef.eq_40 (jW @ef.eq_41 (jW @ef.eq_42 (jW @ef.eq_43 (jW @ef.eq_44 (jW @ef.eq_45 (jW @ef.eq_46 (jW @ef.eq_47 (jW @ef.eq_48 (jW @ef.eq_49 (jW @ef.eq_50 (jW @ef.eq_51 (jW @ef.eq_52 (jW @ef.eq_53 (jW @bound.eq_1 (jW @bound.eq_2 (jW @jr.eq_1 (jW @jr.eq_2 (jW @jr.eq_3 (jW @jr.eq_4 (jW @fM.eq_1 (jW @cw.eq_1 (jW @cw.eq_2 (jW @cw.eq_3 (jW @cw.eq_4 (jW @cw.eq_5 (jW @cw.eq_6 (jW @cw.eq_7 (jW @cw.eq_8 (jW @dH.eq_1 (jW @dH.eq_2 (jW @dH.eq_3 (jW @dH.eq_4 (jW @dH.eq_5 (jW @dH.eq_6 (jW @dH.eq_7 (jW @F3 (jW @gd.eq_1 (jW @gd.eq_2 (jW @parts.eq_1 (jW @parts.eq_2 (jW @elems.eq_1 (jW @elems.eq_2 (jW @eY.eq_1 (jW @K8 (jW @K9 (jW @It (jW @Gg (jW @Iu (jW @Kv (jW @Iv (jW @Iw (jW @Ix (jW @Iy (jW @Kw (jW @Iz (jW @fq.eq_1 (jW @fq.eq_2 (jW @fq.eq_3 (jW @fq.eq_4 (jW @nx.eq_1 (jW @nx.eq_2 (jW @eH.eq_1 (jW @eH.eq_2 (jW @eH.eq_3 (jW @dC.eq_1 (jW @dC.eq_2 (jW @dC.eq_3 (jW @dC.eq_4 (jW @dV.eq_1 (jW @dV.eq_2 (jW @dV.eq_3 (jW @cM.eq_1 (jW @cM.eq_2 (jW @cM.eq_3 (jW @cM.eq_4 (jW @cM.eq_5 (jW @cM.eq_6 (jW @cM.eq_7 (jW @cM.eq_8 (jW @cM.eq_9 (jW @cM.eq_10 (jW @jU.eq_1 (jW @fu.eq_1 (jW @fu.eq_2 (jW @fu.eq_3 (jW @toW.eq_1 (jW @toW.eq_2 (jW @dq.eq_1 (jW @dq.eq_2 (jW @dq.eq_3 (jW @dq.eq_4 (jW @fH.eq_1 (jW @fH.eq_2 (jW @cX.eq_1 (jW @cX.eq_2 (jW @cW.eq_1 (jW @cW.eq_2 (jW @cW.eq_3 (jW @ints.eq_1 (jW @ints.eq_2 (jW @ints.eq_3 (jW @dv.eq_1 (jW @dv.eq_2 (jW @dv.eq_3 (jW @jl.eq_1 (jW @jl.eq_2 (jW @jl.eq_3 (jW @W.ro.eq_1 (jW @W.ro.eq_2 (jW @C.ro.eq_1 (jW @C.ro.eq_2 (jW @V.ro.eq_1 (jW @V.ro.eq_2 (jW @V.ro.eq_3 (jW @kR.eq_1 (jW @kR.eq_2 (jW @kR.eq_3 (jW @Kd.size.eq_1 (jW @Kd.size.eq_2 (jW @Bt (jW @AE (jW @Bu (jW @DJ (jW @Bv (jW @cB.eq_1 (jW @cS.eq_1 (jW @cS.eq_2 (jW @Nat.min_def (jW @XD.{0,0} (jW @Option.map_none.{0,0} (jW @Bool.not_true (jW @Bool.not_false (jW @decide_true (jW @decide_false (jW @Bool.and_self (jW @WH.{0,0} (jW @W8.{0,0} (jW @List.any_cons.{0} (jW @List.any_nil.{0} (jW @Xx.{0} (jW @XY.{0} (jW @XQ.{0} (jW @XT.{0} (jW @Xk.{0} (jW @if_true.{1} (jW @if_false.{1} (jW @true_and (jW @and_true (jW @vd.eq_1 (jW @Yl (jW @X8.{0} (jW @XE.{0} (jW @fg (jW @i9 (jW @iJ (jW @jD (jW @DR (jW @DT (jW @Kq (jW @Kr (jW @Ga (jW @Gb (jW @Ks (jW @BB (jW @BC (jW @DY (jW @BD (jW @BE (jW @BF (jW @BG (jW @BH (jW @gj (jW @u1 (jW @vK (jW @Dx (jW @Dy (jW @Dz (jW @DC (jW @DD (jW @DF (jW @DG (jW @DI (jW @DW (jW @DX (jW @DZ (jW @D1 (jW @DO (jW @DK (jW @DL (jW @DN (jW @List.set_cons_zero.{0} (jW @List.set_cons_succ.{0} (jW @Gd (jW @ia (jW @Kd.ag.injEq (jW @WA.{0} (jW @WY.{0} (jW @qS (jW @F4 (jW @wH (jW @Il (jW @wI (jW @Im (jW @F9 (jW @Dv (jW @XP.{0} (jW @XF.{0} (jW @List.take_succ_cons.{0} (jW @Xq.{0} (jW @List.drop_succ_cons.{0} (jW @List.take_nil.{0} (jW @List.drop_nil.{0} (jW @WS.{0} (jW @WQ.{0,0} (jW @Yx.{0,0} (jW @Option.bind_some.{0,0} (jW @ne_eq.{1} (jW @not_false_eq_true (@not_true_eq_false)))))))))))))))))))))))))))))))))))))))))))))))))))))))))))))))))))))))))))))))))))))))))))))))))))))))))))))))))))))))))))))))))))))))))))))))))))))))))))))))))))))))))))))))))))))))))))))))))))))))))))))))))))))))))))))))))))))))))))))))))))))))))))))))))))))))))))))))))))))))))))))))))))):=jW @sM (jW @sN (jW @sO (jW @sP (jW @sQ (jW @sx (jW @xo (jW @wn (jW @Hv (jW @Hw (jW @Hu (jW @xn (jW @E7 (jW @Kb (jW @Kc (jW @Ke (jW @cK.eq_1 (jW @cK.eq_2 (jW @cK.eq_3 (jW @cK.eq_4 (jW @fU.eq_1 (jW @fU.eq_2 (jW @killAll.eq_1 (jW @killAll.eq_2 (jW @killAll.eq_3 (jW @La (jW @Gi (jW @D2 (jW @BI (jW @D3 (jW @BJ (jW @D4 (jW @D5 (jW @ef.eq_1 (jW @ef.eq_2 (jW @ef.eq_3 (jW @ef.eq_4 (jW @ef.eq_5 (jW @ef.eq_6 (jW @ef.eq_7 (jW @ef.eq_8 (jW @ef.eq_9 (jW @ef.eq_10 (jW @ef.eq_11 (jW @ef.eq_12 (jW @ef.eq_13 (jW @ef.eq_14 (jW @ef.eq_15 (jW @ef.eq_16 (jW @ef.eq_17 (jW @ef.eq_18 (jW @ef.eq_19 (jW @ef.eq_20 (jW @ef.eq_21 (jW @ef.eq_22 (jW @ef.eq_23 (jW @ef.eq_24 (jW @ef.eq_25 (jW @ef.eq_26 (jW @ef.eq_27 (jW @ef.eq_28 (jW @ef.eq_29 (jW @ef.eq_30 (jW @ef.eq_31 (jW @ef.eq_32 (jW @ef.eq_33 (jW @ef.eq_34 (jW @ef.eq_35 (jW @ef.eq_36 (jW @ef.eq_37 (jW @ef.eq_38 (jW @ef.eq_39 (jW @ef.eq_40 (jW @ef.eq_41 (jW @ef.eq_42 (jW @ef.eq_43 (jW @ef.eq_44 (jW @ef.eq_45 (jW @ef.eq_46 (jW @ef.eq_47 (jW @ef.eq_48 (jW @ef.eq_49 (jW @ef.eq_50 (jW @ef.eq_51 (jW @ef.eq_52 (jW @ef.eq_53 (jW @bound.eq_1 (jW @bound.eq_2 (jW @jr.eq_1 (jW @jr.eq_2 (jW @jr.eq_3 (jW @jr.eq_4 (jW @fM.eq_1 (jW @cw.eq_1 (jW @cw.eq_2 (jW @cw.eq_3 (jW @cw.eq_4 (jW @cw.eq_5 (jW @cw.eq_6 (jW @cw.eq_7 (jW @cw.eq_8 (jW @dH.eq_1 (jW @dH.eq_2 (jW @dH.eq_3 (jW @dH.eq_4 (jW @dH.eq_5 (jW @dH.eq_6 (jW @dH.eq_7 (jW @F3 (jW @gd.eq_1 (jW @gd.eq_2 (jW @parts.eq_1 (jW @parts.eq_2 (jW @elems.eq_1 (jW @elems.eq_2 (jW @eY.eq_1 (jW @K8 (jW @K9 (jW @It (jW @Gg (jW @Iu (jW @Kv (jW @Iv (jW @Iw (jW @Ix (jW @Iy (jW @Kw (jW @Iz (jW @fq.eq_1 (jW @fq.eq_2 (jW @fq.eq_3 (jW @fq.eq_4 (jW @nx.eq_1 (jW @nx.eq_2 (jW @eH.eq_1 (jW @eH.eq_2 (jW @eH.eq_3 (jW @dC.eq_1 (jW @dC.eq_2 (jW @dC.eq_3 (jW @dC.eq_4 (jW @dV.eq_1 (jW @dV.eq_2 (jW @dV.eq_3 (jW @cM.eq_1 (jW @cM.eq_2 (jW @cM.eq_3 (jW @cM.eq_4 (jW @cM.eq_5 (jW @cM.eq_6 (jW @cM.eq_7 (jW @cM.eq_8 (jW @cM.eq_9 (jW @cM.eq_10 (jW @jU.eq_1 (jW @fu.eq_1 (jW @fu.eq_2 (jW @fu.eq_3 (jW @toW.eq_1 (jW @toW.eq_2 (jW @dq.eq_1 (jW @dq.eq_2 (jW @dq.eq_3 (jW @dq.eq_4 (jW @fH.eq_1 (jW @fH.eq_2 (jW @cX.eq_1 (jW @cX.eq_2 (jW @cW.eq_1 (jW @cW.eq_2 (jW @cW.eq_3 (jW @ints.eq_1 (jW @ints.eq_2 (jW @ints.eq_3 (jW @dv.eq_1 (jW @dv.eq_2 (jW @dv.eq_3 (jW @jl.eq_1 (jW @jl.eq_2 (jW @jl.eq_3 (jW @W.ro.eq_1 (jW @W.ro.eq_2 (jW @C.ro.eq_1 (jW @C.ro.eq_2 (jW @V.ro.eq_1 (jW @V.ro.eq_2 (jW @V.ro.eq_3 (jW @kR.eq_1 (jW @kR.eq_2 (jW @kR.eq_3 (jW @Kd.size.eq_1 (jW @Kd.size.eq_2 (jW @Bt (jW @AE (jW @Bu (jW @DJ (jW @Bv (jW @cB.eq_1 (jW @cS.eq_1 (jW @cS.eq_2 (jW @Nat.min_def (jW @XD.{0,0} (jW @Option.map_none.{0,0} (jW @Bool.not_true (jW @Bool.not_false (jW @decide_true (jW @decide_false (jW @Bool.and_self (jW @WH.{0,0} (jW @W8.{0,0} (jW @List.any_cons.{0} (jW @List.any_nil.{0} (jW @Xx.{0} (jW @XY.{0} (jW @XQ.{0} (jW @XT.{0} (jW @Xk.{0} (jW @if_true.{1} (jW @if_false.{1} (jW @true_and (jW @and_true (jW @vd.eq_1 (jW @Yl (jW @X8.{0} (jW @XE.{0} (jW @fg (jW @i9 (jW @iJ (jW @jD (jW @DR (jW @DT (jW @Kq (jW @Kr (jW @Ga (jW @Gb (jW @Ks (jW @BB (jW @BC (jW @DY (jW @BD (jW @BE (jW @BF (jW @BG (jW @BH (jW @gj (jW @u1 (jW @vK (jW @Dx (jW @Dy (jW @Dz (jW @DC (jW @DD (jW @DF (jW @DG (jW @DI (jW @DW (jW @DX (jW @DZ (jW @D1 (jW @DO (jW @DK (jW @DL (jW @DN (jW @List.set_cons_zero.{0} (jW @List.set_cons_succ.{0} (jW @Gd (jW @ia (jW @Kd.ag.injEq (jW @WA.{0} (jW @WY.{0} (jW @qS (jW @F4 (jW @wH (jW @Il (jW @wI (jW @Im (jW @F9 (jW @Dv (jW @XP.{0} (jW @XF.{0} (jW @List.take_succ_cons.{0} (jW @Xq.{0} (jW @List.drop_succ_cons.{0} (jW @List.take_nil.{0} (jW @List.drop_nil.{0} (jW @WS.{0} (jW @WQ.{0,0} (jW @Yx.{0,0} (jW @Option.bind_some.{0,0} (jW @ne_eq.{1} (jW @not_false_eq_true (@not_true_eq_false)))))))))))))))))))))))))))))))))))))))))))))))))))))))))))))))))))))))))))))))))))))))))))))))))))))))))))))))))))))))))))))))))))))))))))))))))))))))))))))))))))))))))))))))))))))))))))))))))))))))))))))))))))))))))))))))))))))))))))))))))))))))))))))))))))))))))))))))))))))))))))))))))))
theorem wy:kx (jW @Ku (jW @Ak (jW @Ge (jW @DU (jW @Gf (jW @Is (jW @eZ (jW @nD (@cond_true.{1}))))))))):=jW @Ku (jW @Ak (jW @Ge (jW @DU (jW @Gf (jW @Is (jW @eZ (jW @nD (@cond_true.{1}))))))))
theorem wz:kx (jW @Bool.false_and (jW @Bool.and_false (jW @Bz (jW @Nat.sub_zero (jW @Bw (jW @AF (jW @beq_self_eq_true.{0} (jW @Bool.and_true (jW @Bool.true_and (jW @K2 (jW @K3 (jW @K4 (jW @K5 (jW @K6 (jW @K7 (jW @XW.{0} (jW @X6 (jW @Nat.one_mul (jW @XN (jW @Xr (jW @Ip (jW @Iq (jW @Ir (jW @Kt (jW @Yd (jW @Int.natCast_mul (jW @Yn (jW @X0 (@X1))))))))))))))))))))))))))))):=jW @Bool.false_and (jW @Bool.and_false (jW @Bz (jW @Nat.sub_zero (jW @Bw (jW @AF (jW @beq_self_eq_true.{0} (jW @Bool.and_true (jW @Bool.true_and (jW @K2 (jW @K3 (jW @K4 (jW @K5 (jW @K6 (jW @K7 (jW @XW.{0} (jW @X6 (jW @Nat.one_mul (jW @XN (jW @Xr (jW @Ip (jW @Iq (jW @Ir (jW @Kt (jW @Yd (jW @Int.natCast_mul (jW @Yn (jW @X0 (@X1))))))))))))))))))))))))))))
theorem am:kx (jW @V.ren.eq_1 (jW @V.ren.eq_2 (jW @V.ren.eq_3 (jW @W.ren.eq_1 (jW @W.ren.eq_2 (jW @C.ren.eq_1 (jW @C.ren.eq_2 (jW @C.ren.eq_3 (jW @C.ren.eq_4 (jW @C.ren.eq_5 (jW @C.ren.eq_6 (jW @V.ids.eq_1 (jW @V.ids.eq_2 (jW @V.ids.eq_3 (jW @W.ids.eq_1 (jW @W.ids.eq_2 (jW @C.ids.eq_1 (jW @C.ids.eq_2 (jW @C.ids.eq_3 (jW @C.ids.eq_4 (jW @C.ids.eq_5 (jW @C.ids.eq_6 (jW @Ob.ren.eq_1 (jW @Ob.ren.eq_2 (jW @Ob.ren.eq_3 (jW @Ob.ren.eq_4 (jW @Ob.ids.eq_1 (jW @Ob.ids.eq_2 (jW @Ob.ids.eq_3 (jW @Ob.ids.eq_4 (jW @X1 (jW @XW.{0} (jW @F6 (jW @Ds (jW @F7 (jW @Dt (jW @id_eq.{1} (jW @X6 (jW @Nat.mul_zero (jW @Yw (@X7.{0}))))))))))))))))))))))))))))))))))))))))):=jW @V.ren.eq_1 (jW @V.ren.eq_2 (jW @V.ren.eq_3 (jW @W.ren.eq_1 (jW @W.ren.eq_2 (jW @C.ren.eq_1 (jW @C.ren.eq_2 (jW @C.ren.eq_3 (jW @C.ren.eq_4 (jW @C.ren.eq_5 (jW @C.ren.eq_6 (jW @V.ids.eq_1 (jW @V.ids.eq_2 (jW @V.ids.eq_3 (jW @W.ids.eq_1 (jW @W.ids.eq_2 (jW @C.ids.eq_1 (jW @C.ids.eq_2 (jW @C.ids.eq_3 (jW @C.ids.eq_4 (jW @C.ids.eq_5 (jW @C.ids.eq_6 (jW @Ob.ren.eq_1 (jW @Ob.ren.eq_2 (jW @Ob.ren.eq_3 (jW @Ob.ren.eq_4 (jW @Ob.ids.eq_1 (jW @Ob.ids.eq_2 (jW @Ob.ids.eq_3 (jW @Ob.ids.eq_4 (jW @X1 (jW @XW.{0} (jW @F6 (jW @Ds (jW @F7 (jW @Dt (jW @id_eq.{1} (jW @X6 (jW @Nat.mul_zero (jW @Yw (@X7.{0}))))))))))))))))))))))))))))))))))))))))
theorem aH:kx (jW @Yd (jW @Int.natCast_mul (jW @Yn (@X0)))):=jW @Yd (jW @Int.natCast_mul (jW @Yn (@X0)))
theorem ae:kx (jW @wx (jW @wy @wz)):=jW @wx (jW @wy @wz)
theorem aI {σ:St} {p:Nat×Option Kd} {x:D} (h1:(cS σ p).bind (toW σ.h)=some x:=by simp only[ae,aa,seval,iteOmega,toNatUp]):d8 σ [p] (.w (.c (.d x))):=lH h1
theorem aO {σ:St} {p q:Nat×Option Kd} {x y:D} (h1:(cS σ p).bind (toW σ.h)=some x:=by simp only[ae,aa,seval,iteOmega,toNatUp]) (h2:(cS σ q).bind (toW σ.h)=some y:=by simp only[ae,aa,seval,iteOmega,toNatUp]):d8 σ [p,q] (.tup [.c (.d x),.c (.d y)]):=iO h1 h2
theorem ew {σ:St} {p:Nat×Option Kd} {sz:Nat} {es:List D} (h1:(cS σ p).bind (jm σ.h sz)=some es:=by simp only[ae,aa,seval,iteOmega,toNatUp]):d8 σ [p] (.w (.c (.fr sz es))):=IA h1
theorem dr {σ:St} {p q:Nat×Option Kd} {sz:Nat} {es:List D} {y:D} (h1:(cS σ p).bind (jm σ.h sz)=some es:=by simp only[ae,aa,seval,iteOmega,toNatUp]) (h2:cS σ q=some (.c (.d y)):=by simp only[ae,aa,seval,iteOmega,toNatUp]):d8 σ [p,q] (.tup [.c (.fr sz es),.c (.d y)]):=xz h1 h2
theorem sD {P:Program} {G:ah} {K:St→Prop} {r:List aZ} {f:Nat→V} {h:aB} {u:Nat→Bool} {d:Option Nat} {fn:FuncId} {xs:List SX} {own:Option (Nat×Nat)} {ds:List D} {res:V} {q:Prop} (h2:ak P G fn ds res) (e:q)
    (hq:aT (dv h u (d.getD 0) own res) (ch P G d r K f)=q:=by simp only[ae,aa,seval,iteOmega,toNatUp]; rfl) (h1:cX h (xs.map (ev G f))=some ds:=by exact rfl)
    (h3:((xs.map (ev G f)).any V.hasOwn=false∨res.flat=true):=by exact .inl rfl) (hne:fn≠fI:=by decide) (hp:ib own (xs.map (ev G f)):=by first | exact oL _ | exact o8 _ _ _ | exact oP _ _ rfl):aL P G (⟨d,.call fn xs own,none⟩::r) K ⟨f,h,u⟩ :=
  sC h2 (hq ▸ e) h1 h3 hne hp
def gC (x:UInt8):UInt8:=ar (d9 x 1) (if x<128 then 0 else 27)
def jn (c:Bool) (v:UInt8):UInt8:=if c then v else 0
def jo (y:UInt8) (i:Nat):Bool:=y.toNat.testBit i
def zN (x:UInt8):Nat→UInt8
  | 0=>x
  | n+1=>gC (zN x n)
def Lv (x y:UInt8):Nat→UInt8
  | 0=>0
  | n+1=>ar (Lv x y n) (jn (jo y n) (zN x n))
def gp (x y:UInt8):UInt8:=Lv x y 8
theorem BV (x y:UInt8):ar x y=ar y x:=UInt8.xor_comm x y
theorem my (x y z:UInt8):ar (ar x y) z=ar x (ar y z):=UInt8.xor_assoc x y z
theorem ve (x:UInt8):ar x 0=x:=UInt8.xor_zero
theorem BW (x:UInt8):ar x x=0:=UInt8.xor_self
theorem Nr (a b c d:UInt8):ar (ar a b) (ar c d)=ar (ar a c) (ar b d):=by
  rw[my,← my b,BV b c,my c,← my]
def zs (f:UInt8→UInt8):Prop:=∀ a b,f (ar a b)=ar (f a) (f b)
theorem OK (x y:UInt8) (i:Nat):jo (ar x y) i=(jo x i ^^ jo y i):=by
  unfold jo ar;rw[UInt8.toNat_xor,Nat.testBit_xor]
theorem OL (c d:Bool) (v:UInt8):jn (c ^^ d) v=ar (jn c v) (jn d v):=by
  cases c <;> cases d <;> simp[jn,ar]
def kZ (f:UInt8→UInt8) (x:UInt8):Nat→UInt8
  | 0=>0
  | n+1=>ar (kZ f x n) (jn (jo x n) (f (UInt8.ofNat (2^n))))
theorem Em (f:UInt8→UInt8):∀ n,zs fun x=>kZ f x n
  | 0=>fun a b=>(BW 0).symm
  | n+1=>fun a b=>by
    show ar (kZ f (ar a b) n) (jn (jo (ar a b) n) _)=_
    rw[show kZ f (ar a b) n=ar (kZ f a n) (kZ f b n) from Em f n a b,OK,OL,Nr];rfl
theorem SY {f:UInt8→UInt8} (h:∀ x,f x=kZ f x 8):zs f:=by
  intro a b;rw[h,h a,h b];exact Em f 8 a b
theorem kO {p:UInt8→Bool} (h:((List.range 256).all fun i=>p (UInt8.ofNat i))=true) (x:UInt8):p x=true:=by
  have:=WU.1 h x.toNat (X9.2 x.toNat_lt)
  simpa using this
theorem QG:zs gC:=SY fun x=>by
  have:=kO (p:=fun x=>gC x==kZ gC x 8) (by decide +kernel) x
  simpa using this
def sX (x:UInt8) (n:Nat):UInt8:=jt (d9 x n) (ea x (8-n))
def Lb (y:UInt8):UInt8:=ar (ar (ar (ar (ar y (sX y 1)) (sX y 2)) (sX y 3)) (sX y 4)) 99
def Lc (x:UInt8):UInt8 :=
  let x2:=gp x x
  let x3:=gp x2 x
  let x6:=gp x3 x3
  let x12:=gp x6 x6
  let x15:=gp x12 x3
  let x30:=gp x15 x15
  let x60:=gp x30 x30
  let x120:=gp x60 x60
  let x240:=gp x120 x120
  gp (gp x240 x12) x2
def zt:List UInt8:=(List.range 256).map fun i=>Lb (Lc (UInt8.ofNat i))
def dS (x:UInt8):UInt8:=Lb (Lc x)
theorem OM (x:UInt8):zt[x.toNat]?=some (dS x):=by
  unfold zt dS;rw[Xv,Yi x.toNat_lt];simp
instance:Std.Associative ar:=⟨my⟩
instance:Std.Commutative ar:=⟨BV⟩
def zO (x:UInt8):UInt8:=gp x 2
def tQ (a b c d:UInt8):UInt8:=ar (ar (ar (ar (zO a) (zO b)) b) c) d
abbrev dz:=Nat→UInt8
def gw (s k:dz):dz:=fun j=>ar (s j) (k j)
def ic (s:dz):dz:=fun j=>dS (s (j%4+4*((j / 4+j%4)%4)))
def gx (t:dz):dz:=fun j=>tQ (t (4*(j / 4)+j%4)) (t (4*(j / 4)+(j%4+1)%4)) (t (4*(j / 4)+(j%4+2)%4)) (t (4*(j / 4)+(j%4+3)%4))
def KA (s t:dz):Prop:=∀ j,j<16→s j=t j
def xF (k:Nat→dz) (s:dz) (n:Nat):dz:=if n<10 then gw (gx (ic s)) (k n) else gw (ic s) (k n)
def ip (k:Nat→dz) (s:dz):Nat→dz
  | 0=>gw s (k 0)
  | n+1=>xF k (ip k s n) (n+1)
def gR (n:Nat):UInt8:=zN 1 n
def nF (t:List UInt8) (n:Nat):List UInt8 :=
  if n%4=0 then [ar (dS (t.getD 1 0)) (gR (n / 4)),dS (t.getD 2 0),dS (t.getD 3 0),dS (t.getD 0 0)]
  else [t.getD 0 0,t.getD 1 0,t.getD 2 0,t.getD 3 0]
def jQ (l:List UInt8) (n:Nat):List UInt8 :=
  (List.range 4).map fun k=>ar (l.getD (4*n+k) 0) ((nF (l.drop (12+4*n)) n).getD k 0)
def dK (key:List UInt8):Nat→List UInt8
  | 0=>key
  | n+1=>dK key n++jQ (dK key n) n
def aP (key:List UInt8):List UInt8:=dK key 40
theorem Ns (l:List UInt8) (n:Nat):(jQ l n).length=4:=by simp[jQ]
theorem lE {key:List UInt8} (h:key.length=16):∀ n,(dK key n).length=16+4*n
  | 0=>h
  | n+1=>by rw[dK,WA,lE h n,Ns]; omega
theorem wW {key:List UInt8} (h:key.length=16):(aP key).length=176:=lE h 40
def bQ (f:dz):List UInt8:=(List.range 16).map f
theorem fB (f:dz):(bQ f).length=16:=by simp[bQ]
theorem rI (f:dz) {j:Nat} (h:j<16):(bQ f)[j]?=some (f j):=by simp[bQ,h]
def bf (l:List UInt8):dz:=fun j=>l.getD j 0
theorem SZ {l:List UInt8} (h:l.length=16):bQ (bf l)=l:=by
  apply XJ;intro i;by_cases hi:i<16
  ·rw[rI _ hi,bf,WB,Wz (by omega)]; rfl
  ·rw[Xm (by rw[fB]; omega),Xm (by omega)]
theorem vf {f g:dz} (h:KA f g):bQ f=bQ g:=Xj fun j hj=>h j (X9.1 hj)
def dT (rk:List UInt8) (n:Nat):dz:=fun j=>rk.getD (16*n+j) 0
def eb (rk b:List UInt8):List UInt8:=bQ (ip (dT rk) (bf b) 10)
theorem iF (rk b:List UInt8):(eb rk b).length=16:=fB _
def r9 (key b:List UInt8):List UInt8:=eb (aP key) b
def cY:List UInt8→List UInt8×Bool
  | []=>([],true)
  | x::r=>let (s,c):=cY r; if c then ((x+1)::s,x+1==0) else (x::s,false)
def jS (c:List UInt8):List UInt8:=(cY c).1
theorem vP:∀ c,(cY c).1.length=c.length
  | []=>rfl
  | x::r=>by
    have:=vP r;simp only[cY];split <;> simp[this]
theorem BX (c:List UInt8):(jS c).length=c.length:=vP c
def eS (c:List UInt8):Nat→List UInt8
  | 0=>c
  | n+1=>jS (eS c n)
theorem En (c:List UInt8):∀ n,(eS c n).length=c.length
  | 0=>rfl
  | n+1=>by rw[eS,BX,En c n]
def l9 (rk c:List UInt8):Nat→List UInt8
  | 0=>[]
  | n+1=>l9 rk c n++eb rk (eS c n)
theorem mI (rk c:List UInt8):∀ n,(l9 rk c n).length=16*n
  | 0=>rfl
  | n+1=>by rw[l9,WA,mI rk c n,iF]; omega
def k8 (a b:List UInt8):List UInt8:=List.zipWith ar a b
def ft (rk c b:List UInt8):List UInt8:=k8 b (l9 rk c ((b.length+15) / 16))
theorem Eo {a b:List UInt8} (h:a.length≤b.length):(k8 a b).length=a.length:=by
  simp[k8]; omega
theorem qC (rk c b:List UInt8):(ft rk c b).length=b.length:=Eo (by rw[mI]; omega)
theorem AG:∀ {a b:List UInt8},a.length≤b.length→k8 (k8 a b) b=a
  | [],_,_=>by simp[k8]
  | x::a,[],h=>by simp at h
  | x::a,y::b,h=>by
    have h1:=AG (a:=a) (b:=b) (by simpa using h);simp only[k8,List.zipWith_cons_cons,List.cons.injEq] at h1 ⊢;exact⟨by rw[my,BW,ve],h1⟩
theorem LV (rk c b:List UInt8):ft rk c (ft rk c b)=b:=by
  unfold ft;have h:b.length≤(l9 rk c ((b.length+15) / 16)).length:=by rw[mI]; omega
  rw[Eo h,AG h]
def zu (b:dz):dz:=fun j=>ar (ar (d9 (b j) 1) (if j<15 then ea (b (j+1)) 7 else 0)) (if j=15 then jn (jo (b 0) 7) 135 else 0)
theorem Te (x y:UInt8):jt (d9 x 1) (ea y 7)=ar (d9 x 1) (ea y 7):=by
  have h:ea y 7=0∨ea y 7=1:=by
    have:=kO (p:=fun y=>ea y 7==0 || ea y 7==1) (by decide +kernel) y
    simpa using this
  rcases h with h | h <;> rw[h]
  ·have:=kO (p:=fun x=>jt (d9 x 1) 0==ar (d9 x 1) 0) (by decide +kernel) x;rw[beq_iff_eq] at this; exact this
  ·have:=kO (p:=fun x=>jt (d9 x 1) 1==ar (d9 x 1) 1) (by decide +kernel) x;rw[beq_iff_eq] at this; exact this
def eU (b:List UInt8):List UInt8:=if b.length=16 then bQ (zu (bf b)) else []
theorem lC {b:List UInt8} (h:b.length=16):(eU b).length=16:=by rw[eU,if_pos h,fB]
def cC:List UInt8→List UInt8→List UInt8
  | x::a,y::b=>ar x y::cC a b
  | a,_=>a
theorem hY:∀ a b:List UInt8,(cC a b).length=a.length
  | [],_=>by simp[cC]
  | x::a,[]=>rfl
  | x::a,y::b=>by simp[cC,hY a b]
theorem Eu:∀ (a b:List UInt8) (i:Nat),i<a.length→i<b.length→(cC a b).getD i 0=ar (a.getD i 0) (b.getD i 0)
  | [],_,_,h,_=>by simp at h
  | x::a,[],_,_,h=>by simp at h
  | x::a,y::b,0,_,_=>rfl
  | x::a,y::b,i+1,h,g=>by
    show (cC a b).getD i 0=_
    rw[Eu a b i (by simpa using h) (by simpa using g)]; rfl
def fD:List UInt8:=List.replicate 16 0
def iq (b:List UInt8):List UInt8:=b++List.replicate ((16-b.length%16)%16) 0
def ir (rk:List UInt8):List UInt8:=eU (eb rk fD)
def j6 (rk:List UInt8):List UInt8:=eU (ir rk)
def gy (rk b:List UInt8):Nat→List UInt8
  | 0=>fD
  | n+1=>eb rk (cC (gy rk b n) ((b.drop (16*n)).take 16))
def lK (b:List UInt8):Nat:=(b.length+15) / 16-1
def j7 (rk e:List UInt8):List UInt8:=if e.length=16 then cC e (ir rk) else cC (iq (e++[128])) (j6 rk)
def gS (rk b:List UInt8):List UInt8:=eb rk (cC (gy rk b (lK b)) (j7 rk (b.drop (16*lK b))))
theorem qY (rk b:List UInt8):∀ n,(gy rk b n).length=16
  | 0=>by simp[gy,fD]
  | n+1=>iF _ _
theorem qZ (rk b:List UInt8):(gS rk b).length=16:=iF _ _
theorem vV (rk:List UInt8):(ir rk).length=16:=lC (iF _ _)
theorem O1 (rk:List UInt8):(j6 rk).length=16:=lC (vV _)
theorem uP {b:List UInt8} (h:b.length<16):(iq (b++[128])).length=16:=by
  simp[iq]; omega
theorem O2 {rk e:List UInt8} (h:e.length≤16):(j7 rk e).length=16:=by
  unfold j7;split
  ·rw[hY]; assumption
  ·rw[hY,uP (by omega)]
def gT (rk:List UInt8) (l:List (List UInt8)):Nat→List UInt8
  | 0=>gS rk fD
  | n+1=>cC (eU (gT rk l n)) (gS rk (l.getD n []))
def iT (rk:List UInt8) (l:List (List UInt8)):List UInt8 :=
  if l.length=0 then gS rk (List.replicate 15 0++[1])
  else
    let d:=gT rk l (l.length-1)
    let s:=l.getD (l.length-1) []
    if 16≤s.length then gS rk (s.take (s.length-16)++cC (s.drop (s.length-16)) d)
    else gS rk (cC (eU d) (iq (s++[128])))
theorem Ev (rk:List UInt8) (l:List (List UInt8)):∀ n,(gT rk l n).length=16
  | 0=>qZ _ _
  | n+1=>by rw[gT,hY,lC (Ev rk l n)]
theorem O3 (rk:List UInt8) (l:List (List UInt8)):(iT rk l).length=16:=by
  unfold iT;split
  ·exact qZ _ _
  ·dsimp only;split <;> exact qZ _ _
theorem Mx {σ:St} {p q:Nat×Option Kd} {id sz n s:Nat} {full:List D} {y:D} (h1:cS σ p=some (.c (.own id sz 0 n))) (e:σ.h id=some (.row s full)) (hn:n≤full.length) (h2:cS σ q=some (.c (.d y))):d8 σ [p,q] (.tup [.c (.fr sz (full.take n)),.c (.d y)]):=by
  refine⟨[.c (.own id sz 0 n),.c (.d y)],by simp[aU,h1,h2],.inl ⟨by simp[W.ids,C.ids],.cons ⟨rfl,rfl,?_⟩ (.cons ?_ .nil)⟩⟩
  ·rw[e];exact⟨by simp[cW,hn],trivial⟩
  ·cases y <;> rfl

theorem jM {a b : Prop} (l : a) (r : b) : a ∧ b := And.intro l r
section
variable {P:Program} {G:ah} {K:St→Prop} {r:List aZ} {f:Nat→V} {h:aB} {u:Nat→Bool} {d:Option Nat} {x y t:SX}
def Lz (P:Program) (G:ah) (d:Option Nat) (r:List aZ) (K:St→Prop) (f:Nat→V) (h:aB) (u:Nat→Bool) (q:IntKind) (_:IntKind×Int):Prop:=aT (cF h u (d.getD 0) (.mp q []) (.mp (8*d.getD 0))) (ch P G d r K f)
theorem G7 (q:IntKind):aL P G (⟨d,.mkMp q none,none⟩::r) K ⟨f,h,u⟩=aT (cF h u (d.getD 0) (.mp q []) (.mp (8*d.getD 0))) (ch P G d r K f):=by rw[bG _ rfl]; rfl
theorem ES (q:IntKind):aL P G (⟨d,.mkMp q (some x),none⟩::r) K ⟨f,h,u⟩=aT (dw (ev G f x)) (Lz P G d r K f h u q):=by
  rw[bG _ rfl]
  show aT (if (dw (ev G f x)).isSome=true then _ else none) _=_
  cases dw (ev G f x) <;> rfl
theorem JM (q:IntKind) (p:IntKind×Int):Lz P G d r K f h u q p=aT (cF h u (d.getD 0) (.mp q []) (.mp (8*d.getD 0))) (ch P G d r K f):=rfl
theorem ET (q:IntKind) (z:D) (co:Bool):aL P G (⟨d,.mpGet q z co x y,none⟩::r) K ⟨f,h,u⟩=aT (fG h q z co (ev G f x) (dw (ev G f y))) (zK P G d r K f h u):=by
  rw[bG _ rfl]; exact eD _ _ _
theorem EU (q:IntKind):aL P G (⟨d,.mpSet q x y t,none⟩::r) K ⟨f,h,u⟩=aT (nN h q (nL (ev G f x)) (dw (ev G f y)) (nM (ev G f t))) (ub P G d r K f u):=by
  rw[bG _ rfl]; exact eD _ _ _
def goT (P:Program) (G:ah) (d:Option Nat) (r:List aZ) (K:St→Prop) (f:Nat→V) (h:aB) (u:Nat→Bool) (p:IntKind×List (Int×D)):Prop:=aT (cF h u (d.getD 0) (.it p.1 p.2 none) (.ptr (8*d.getD 0) 1 0 0)) (ch P G d r K f)
theorem Cj:aL P G (⟨d,.mpIter x,none⟩::r) K ⟨f,h,u⟩=aT (nv (ev G f x)) (goT P G d r K f h u):=by
  rw[bG _ rfl]
  show aT (match nv (ev G f x) with | some p=>_ | none=>none) _=_
  cases nv (ev G f x) <;> rfl
theorem JN (q:IntKind) (es:List (Int×D)):goT P G d r K f h u (q,es)=aT (cF h u (d.getD 0) (.it q es none) (.ptr (8*d.getD 0) 1 0 0)) (ch P G d r K f):=rfl
theorem EV:aL P G (⟨d,.mpEnt x,none⟩::r) K ⟨f,h,u⟩=aT (kQ h (ev G f x)) (zK P G d r K f h u):=by
  rw[bG _ rfl]; exact eD _ _ _
theorem G8 (id s:Nat):kQ h (.w (.c (.ptr id s 0 0)))=tE (h id):=rfl
theorem G9 (q:IntKind) (l:List (Int×D)) (p:Int×D):tE (some (.it q l (some p)))=some (.tup [.c (.d (.int q p.1)),.c (.d p.2)]):=rfl
theorem Ha (q:IntKind) (es:List (Int×D)):nv (.w (.c (.d (.mp q es))))=some (q,es):=rfl
theorem Hb (id:Nat):nL (.w (.c (.mp id)))=some id:=rfl
theorem JO (x:C):nM (.w (.c x))=some x:=rfl
def tw (q:IntKind) (z:D) (co:Bool) (n:Int):Option Ob→Option V
  | some (.mp q' es)=>if q'=q then some (il co (aW es n) (zC z)) else none
  | _=>none
theorem Hc (q:IntKind) (z:D) (co:Bool) (id:Nat) (n:Int):fG h q z co (.w (.c (.mp id))) (some (q,n))=tw q z co n (h id):=by
  unfold fG tw;simp only[true_and];rfl
theorem EW (q:IntKind) (z:D) (co:Bool) (n:Int) (es:List (Int×C)):tw q z co n (some (.mp q es))=some (il co (aW es n) (zC z)):=by simp[tw]
theorem He (q:IntKind) (z:D) (es:List (Int×D)) (n:Int):fG h q z false (.w (.c (.d (.mp q es)))) (some (q,n))=some (.w (.c (.d ((aW es n).getD z)))):=by
  unfold fG il;rcases hl:aW es n with _ | v <;> simp[hl]
theorem Hf (q:IntKind) (z:D) (es:List (Int×D)) (n:Int):fG h q z true (.w (.c (.d (.mp q es)))) (some (q,n))=some (.tup [.c (.d ((aW es n).getD z)),.c (.d (.bool (aW es n).isSome))]):=by
  unfold fG il;rcases hl:aW es n with _ | v <;> simp[hl]
theorem JP (o:Option C) (z:C):il false o z=.w (.c (o.getD z)):=rfl
theorem JQ (o:Option C) (z:C):il true o z=.tup [.c (o.getD z),.c (.d (.bool o.isSome))]:=rfl
theorem JR:zC (.sl [])=.nil:=rfl
theorem Hg (b:Bool):zC (.bool b)=.d (.bool b):=rfl
theorem JS (k:IntKind) (n:Int):zC (.int k n)=.d (.int k n):=rfl
def tx (h:aB) (q:IntKind) (id:Nat) (n:Int) (d:C):Option Ob→Option aB
  | some (.mp q' es)=>if q'=q then some (upd h id (some (.mp q (bO es n d)))) else none
  | _=>none
theorem Hh (q:IntKind) (id:Nat) (n:Int) (d:C):nN h q (some id) (some (q,n)) (some d)=tx h q id n d (h id):=by
  unfold nN tx;simp only[true_and];rfl
theorem EX (q:IntKind) (id:Nat) (n:Int) (d:C) (es:List (Int×C)):tx h q id n d (some (.mp q es))=some (upd h id (some (.mp q (bO es n d)))):=by simp[tx]
theorem JU (id:Nat):(C.mp id).ids=[id]:=rfl
theorem JV (g:Nat→Nat) (id:Nat):(C.mp id).ren g=.mp (g id):=rfl
def gi (es:List (Int×D)):List (Int×C):=es.map fun p=>(p.1,.d p.2)
theorem Hi:gi []=[]:=rfl
theorem Hj (es:List (Int×D)) (n:Int):aW (gi es) n=(aW es n).map C.d:=by
  induction es with
  | nil=>rfl
  | cons p r ih =>
    obtain⟨y,x⟩:=p;by_cases e:y=n
    ·subst e; simp[aW,gi]
    ·have k1:aW ((y,x)::r) n=aW r n:=by unfold aW; rw[Xo (by simpa using e)]
     have k2:aW (gi ((y,x)::r)) n=aW (gi r) n:=by unfold aW gi; rw[WH,Xo (by simpa using e)]
     rw[k1,k2,ih]
theorem EY (es:List (Int×D)) (n:Int) (d:D):bO (gi es) n (.d d)=gi (bO es n d):=by
  induction es with
  | nil=>rfl
  | cons p r ih =>
    obtain⟨y,x⟩:=p;simp only[gi,WH,bO] at *
    split
    ·rfl
    ·rw[ih]; rfl
theorem xi (es:List (Int×D)):(gi es).flatMap (fun p=>p.2.ids)=[]:=by
  induction es with
  | nil=>rfl
  | cons p r ih=>simp only[gi,WH,WQ] at *; rw[ih]; rfl
theorem Hk (g:Nat→Nat) (es:List (Int×D)):(gi es).map (fun p=>(p.1,p.2.ren g))=gi es:=by
  induction es with
  | nil=>rfl
  | cons p r ih=>simp only[gi,WH] at *; rw[ih]; rfl
theorem cP:kx (jM @G7 (jM @ES (jM @JM (jM @ET (jM @EU (jM @Cj (jM @JN (jM @EV (jM @G8 (jM @G9 (jM @Ha (jM @Hb (jM @JO (jM @Hc (jM @EW (jM @He (jM @Hf (jM @JP (jM @JQ (jM @JR (jM @Hg (jM @JS (jM @Hh (jM @EX (jM @JU (jM @JV (jM @Hi (jM @Hj (jM @EY (jM @xi (jM @Hk (jM @Xu.{0} (@XG.{0}))))))))))))))))))))))))))))))))) :=
  jM @G7 (jM @ES (jM @JM (jM @ET (jM @EU (jM @Cj (jM @JN (jM @EV (jM @G8 (jM @G9 (jM @Ha (jM @Hb (jM @JO (jM @Hc (jM @EW (jM @He (jM @Hf (jM @JP (jM @JQ (jM @JR (jM @Hg (jM @JS (jM @Hh (jM @EX (jM @JU (jM @JV (jM @Hi (jM @Hj (jM @EY (jM @xi (jM @Hk (jM @Xu.{0} (@XG.{0}))))))))))))))))))))))))))))))))
end
theorem JW {P:Program} {G:ah} {Q:AX→St→Prop} {f:Nat→V} {h:aB} {u:Nat→Bool} {dn:Nat} {x:SX} {rest:List aZ} {id s:Nat} {q:IntKind} {left:List (Int×D)} {last:Option (Int×D)} (hx:ev G f x=.w (.c (.ptr id s 0 0))) (hi:h id=some (.it q left last))
    (k1:left=[]→aL P G rest (Q .nrm) ⟨upd f dn (.tup [.c (.d (.bool false))]),h,u⟩)
    (k2:∀ j p,left[j]?=some p→aL P G rest (Q .nrm) ⟨upd f dn (.tup [.c (.d (.bool true)),.c (.d (.int q p.1)),.c (.d p.2)]),upd h id (some (.it q (left.eraseIdx j) (some p))),u⟩):bA P G (.nextM dn x rest) Q ⟨f,h,u⟩:=by
  show rT _ dn _ (ev G f x)
  rw[hx]
  show (match h id with | some (.it q left _)=>_ | _=>False)
  rw[hi];exact⟨k1,k2⟩
theorem UA {P:Program} {G:ah} {Q:AX→St→Prop} {f:Nat→V} {h:aB} {u:Nat→Bool} {t id:Nat} {c:aM} {q:IntKind} {es:List (Int×C)} {ds:List (Int×D)} (hx:f t=.w (.c (.mp id))) (hi:h id=some (.mp q es)) (hd:jL h es=some ds)
    (k:bA P G c Q ⟨upd f t (vd (.mp q ds)),upd (killAll h (es.map (·.2))) id none,u⟩):bA P G (.ghost t c) Q ⟨f,h,u⟩:=by
  show (match nQ ⟨f,h,u⟩ t with | some τ=>bA P G c Q τ | none=>False)
  have:nQ ⟨f,h,u⟩ t=some ⟨upd f t (vd (.mp q ds)),upd (killAll h (es.map (·.2))) id none,u⟩:=by
    unfold nQ;simp only[hx,hi,hd,XD]
  rw[this];exact k
theorem RX {α:Type} (x:Int):aW ([]:List (Int×α)) x=none:=rfl
theorem Hl {α:Type} (es:List (Int×α)) (x y:Int) (v:α):aW (bO es x v) y=if y=x then some v else aW es y:=by
  induction es with
  | nil =>
    by_cases h:y=x
    ·subst h; simp[bO,aW]
    ·rw[if_neg h];unfold aW bO;rw[Xo (by simpa using fun e=>h e.symm)]
  | cons p r ih =>
    obtain⟨k,w⟩:=p;simp only[bO];by_cases hk:k=x
    ·subst hk;rw[if_pos rfl];by_cases h:y=k
     ·subst h; simp[aW]
     ·rw[if_neg h];unfold aW;rw[Xo (by simpa using fun e=>h e.symm),Xo (by simpa using fun e=>h e.symm)]
    ·rw[if_neg hk];by_cases h:y=k
     ·subst h;rw[if_neg hk];simp[aW]
     ·have e1:aW ((k,w)::bO r x v) y=aW (bO r x v) y:=by
        unfold aW; rw[Xo (by simpa using fun e=>h e.symm)]
      have e2:aW ((k,w)::r) y=aW r y:=by
        unfold aW; rw[Xo (by simpa using fun e=>h e.symm)]
      rw[e1,e2,ih]
end Go.Proofs.YtlghfnidknfakaaGreatDoor
