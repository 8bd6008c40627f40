/- Texts of one's own, merged: from: The plain logic (20): words of 32 bits. Own work. -/
import Derived.Laws.BitsLemmas
import Derived.Laws.Bits64
import Derived.Laws.BitsAllLaws
import Derived.Test.YtlghfnidknfakaaGreatDoorMg36
set_option linter.unusedVariables false
set_option linter.unusedSimpArgs false
namespace Go.Proofs.YtlghfnidknfakaaGreatDoor
open Go.RowKit IntWalk
def gC (x y:UInt32):UInt32:=x ^^^ y
def kW (x y:UInt32):UInt32:=x &&& y
def jw (x y:UInt32):UInt32:=x ||| y
def bG (x y:UInt32):UInt32:=x+y
def tJ (x:UInt32):UInt32:=UInt32.ofNat (4294967295-x.toNat)
def nS (x:UInt32) (n:Nat):UInt32:=UInt32.ofNat (x.toNat / 2^n)
def j9 (x:UInt32) (n:Nat):UInt32:=UInt32.ofNat (x.toNat*2^n)
def gR (x:UInt32) (n:Nat):UInt32:=jw (nS x n) (j9 x (32-n))
def jS (b:UInt8):UInt32:=UInt32.ofNat b.toNat
theorem word_lt (x:UInt32):x.toNat<4294967296:=x.toNat_lt
theorem MJ (x y:UInt32):bits .xor .u32 (x.toNat:Int) (y.toNat:Int)=((gC x y).toNat:Int):=by
  rw[u32_xor_nat _ _ (word_lt x) (word_lt y)]; simp[gC]
theorem MK (x y:UInt32):bits .and .u32 (x.toNat:Int) (y.toNat:Int)=((kW x y).toNat:Int):=by
  rw[u32_and_nat _ _ (word_lt x) (word_lt y)]; simp[kW]
theorem N3 (x y:UInt32):bits .or .u32 (x.toNat:Int) (y.toNat:Int)=((jw x y).toNat:Int):=by
  rw[u32_or_nat _ _ (word_lt x) (word_lt y)]; simp[jw]
theorem ML (x y:UInt32):IntKind.u32.wrap ((x.toNat:Int)+(y.toNat:Int))=((bG x y).toNat:Int):=by
  rw[IntKind.wrap_u32]; simp[bG]
theorem N5 (x:UInt32) (n:Nat):(x.toNat:Int) / 2^n=((nS x n).toNat:Int):=by
  have h:x.toNat / 2^n<4294967296:=Nat.lt_of_le_of_lt (Nat.div_le_self _ _) (word_lt x);unfold nS;rw[UInt32.toNat_ofNat_of_lt' (by simpa [UInt32.size] using h)];simp
theorem N6 (x:UInt32) (n:Nat):(x.toNat:Int)*2^n%4294967296=((j9 x n).toNat:Int):=by
  unfold j9;simp
theorem N7 (x:UInt32):(4294967295:Int)-(x.toNat:Int)=((tJ x).toNat:Int):=by
  have h:=word_lt x;unfold tJ;rw[UInt32.toNat_ofNat_of_lt' (by simp[UInt32.size]; omega)];omega
theorem Bi (b:UInt8):(b.toNat:Int)=((jS b).toNat:Int):=by
  have h:=b.toNat_lt;unfold jS;rw[UInt32.toNat_ofNat_of_lt' (by simp[UInt32.size]; omega)]
theorem Bj (x y:UInt32):bF .xor (.w (.c (.d (wD x)))) (.w (.c (.d (wD y))))=some (wD (gC x y)):=by
  show br .xor .u32 (x.toNat:Int) .u32 (y.toNat:Int)=_
  rw[qQ,MJ]; rfl
theorem Bl (x y:UInt32):bF .and (.w (.c (.d (wD x)))) (.w (.c (.d (wD y))))=some (wD (kW x y)):=by
  show br .and .u32 (x.toNat:Int) .u32 (y.toNat:Int)=_
  rw[qP,MK]; rfl
theorem DD (x y:UInt32):bF .or (.w (.c (.d (wD x)))) (.w (.c (.d (wD y))))=some (wD (jw x y)):=by
  show br .or .u32 (x.toNat:Int) .u32 (y.toNat:Int)=_
  rw[rB,N3]; rfl
theorem Bm (x y:UInt32):bF .add (.w (.c (.d (wD x)))) (.w (.c (.d (wD y))))=some (wD (bG x y)):=by
  show br .add .u32 (x.toNat:Int) .u32 (y.toNat:Int)=_
  rw[qM,ML]; rfl
theorem Bn (x:UInt32) (k:IntKind) (n:Int) (h:0≤n):bF .shl (.w (.c (.d (wD x)))) (.w (.c (.d (.int k n))))=some (wD (j9 x (min n.toNat 32))):=by
  show br .shl .u32 (x.toNat:Int) k n=_
  rw[qR _ _ _ _ h,IntKind.wrap_u32]
  show some (D.int .u32 ((x.toNat:Int)*2^min n.toNat 32%4294967296))=_
  rw[N6]; rfl
theorem Bo (x:UInt32) (k:IntKind) (n:Int) (h:0≤n):bF .shr (.w (.c (.d (wD x)))) (.w (.c (.d (.int k n))))=some (wD (nS x (min n.toNat 32))):=by
  show br .shr .u32 (x.toNat:Int) k n=_
  rw[qS _ _ _ _ h]
  show some (D.int .u32 ((x.toNat:Int) / 2^min n.toNat 32))=_
  rw[N5]; rfl
theorem DF (x:UInt32):ju .xor (.w (.c (.d (wD x))))=some (wD (tJ x)):=by
  have:bits .xor .u32 4294967295 (x.toNat:Int)=(4294967295:Int)-(x.toNat:Int):=by
    have h:=x.toNat_lt;have h2:4294967295 ^^^ x.toNat=4294967295-x.toNat:=by
      have e:=congrArg BitVec.toNat (BitVec.allOnes_xor (x:=BitVec.ofNat 32 x.toNat));rw[BitVec.toNat_xor,BitVec.toNat_not,BitVec.toNat_allOnes,BitVec.toNat_ofNat,Nat.mod_eq_of_lt (by omega)] at e;omega
    have h3:=u32_xor_nat 4294967295 x.toNat (by decide) h;rw[h2] at h3;have h4:((4294967295:Nat):Int)=4294967295:=rfl;rw[h4] at h3;omega
  show some (D.int .u32 (bits .xor .u32 4294967295 (x.toNat:Int)))=_
  rw[this,N7]; rfl
theorem Bp (x y:UInt32):bF .eql (.w (.c (.d (wD x)))) (.w (.c (.d (wD y))))=some (.bool (x==y)):=by
  show br .eql .u32 (x.toNat:Int) .u32 (y.toNat:Int)=_
  rw[qN];by_cases h:x=y
  ·subst h; simp
  ·have:¬ ((x.toNat:Int)=(y.toNat:Int)):=fun e=>h (UInt32.toNat_inj.1 (by omega))
   simp[this,h]
theorem Bq (x y:UInt32):bF .neq (.w (.c (.d (wD x)))) (.w (.c (.d (wD y))))=some (.bool (x != y)):=by
  show br .neq .u32 (x.toNat:Int) .u32 (y.toNat:Int)=_
  rw[qO];by_cases h:x=y
  ·subst h; simp
  ·have:¬ ((x.toNat:Int)=(y.toNat:Int)):=fun e=>h (UInt32.toNat_inj.1 (by omega))
   simp[this,h]
theorem DG (b:UInt8):D.int .u32 (IntKind.u32.wrap (b.toNat:Int))=wD (jS b):=by
  have h:=b.toNat_lt;rw[IntWalk.u32_in _ (by omega),Bi]; rfl
def ar (x y:UInt8):UInt8:=x ^^^ y
def kX (x y:UInt8):UInt8:=x &&& y
def jx (x y:UInt8):UInt8:=x ||| y
def ej (x:UInt8) (n:Nat):UInt8:=UInt8.ofNat (x.toNat*2^n)
def ek (x:UInt8) (n:Nat):UInt8:=UInt8.ofNat (x.toNat / 2^n)
theorem kC (x:UInt8):x.toNat<256:=x.toNat_lt
theorem gu (x y:UInt8):bF .xor (.w (.c (.d (bD x)))) (.w (.c (.d (bD y))))=some (bD (ar x y)):=by
  show br .xor .u8 (x.toNat:Int) .u8 (y.toNat:Int)=_
  rw[qQ,u8_xor_nat _ _ (kC x) (kC y)]; simp[ar,bD]
theorem uU (x y:UInt8):bF .and (.w (.c (.d (bD x)))) (.w (.c (.d (bD y))))=some (bD (kX x y)):=by
  show br .and .u8 (x.toNat:Int) .u8 (y.toNat:Int)=_
  rw[qP,u8_and_nat _ _ (kC x) (kC y)]; simp[kX,bD]
theorem vE (x y:UInt8):bF .or (.w (.c (.d (bD x)))) (.w (.c (.d (bD y))))=some (bD (jx x y)):=by
  show br .or .u8 (x.toNat:Int) .u8 (y.toNat:Int)=_
  rw[rB,u8_or_nat _ _ (kC x) (kC y)]; simp[jx,bD]
theorem MM (x:UInt8) (k:IntKind) (n:Int) (h:0≤n):bF .shl (.w (.c (.d (bD x)))) (.w (.c (.d (.int k n))))=some (bD (ej x (min n.toNat 8))):=by
  show br .shl .u8 (x.toNat:Int) k n=_
  rw[qR _ _ _ _ h,IntKind.wrap_u8]
  show some (D.int .u8 ((x.toNat:Int)*2^min n.toNat 8%256))=_
  have:(x.toNat:Int)*2^min n.toNat 8%256=((ej x (min n.toNat 8)).toNat:Int):=by unfold ej; simp
  rw[this]; rfl
theorem MN (x:UInt8) (k:IntKind) (n:Int) (h:0≤n):bF .shr (.w (.c (.d (bD x)))) (.w (.c (.d (.int k n))))=some (bD (ek x (min n.toNat 8))):=by
  show br .shr .u8 (x.toNat:Int) k n=_
  rw[qS _ _ _ _ h]
  show some (D.int .u8 ((x.toNat:Int) / 2^min n.toNat 8))=_
  have:(x.toNat:Int) / 2^min n.toNat 8=((ek x (min n.toNat 8)).toNat:Int):=by
    have h:x.toNat / 2^min n.toNat 8<256:=Nat.lt_of_le_of_lt (Nat.div_le_self _ _) (kC x);unfold ek;rw[UInt8.toNat_ofNat_of_lt' (by simpa [UInt8.size] using h)];simp
  rw[this]; rfl
theorem MO (x y:UInt8):bF .eql (.w (.c (.d (bD x)))) (.w (.c (.d (bD y))))=some (.bool (x==y)):=by
  show br .eql .u8 (x.toNat:Int) .u8 (y.toNat:Int)=_
  rw[qN];by_cases h:x=y
  ·subst h; simp
  ·have:¬ ((x.toNat:Int)=(y.toNat:Int)):=fun e=>h (UInt8.toNat_inj.1 (by omega))
   simp[this,h]
theorem MP (x y:UInt8):bF .neq (.w (.c (.d (bD x)))) (.w (.c (.d (bD y))))=some (.bool (x != y)):=by
  show br .neq .u8 (x.toNat:Int) .u8 (y.toNat:Int)=_
  rw[qO];by_cases h:x=y
  ·subst h; simp
  ·have:¬ ((x.toNat:Int)=(y.toNat:Int)):=fun e=>h (UInt8.toNat_inj.1 (by omega))
   simp[this,h]
theorem KO (G:ai) (f:Nat→V):ev G f .u=.undef:=rfl
def J5 (P:Program) (G:ai) (d:Option Nat) (r:List aZ) (K:St→Prop) (f:Nat→V) (h:aw) (u:Nat→Bool) (F:Nat) (ds:List D):Prop:=aL P G r K ⟨be f d (.w (.c (.d (.fn F ds)))),h,u⟩
theorem FW (P:Program) (G:ai) (d:Option Nat) (r:List aZ) (K:St→Prop) (f:Nat→V) (h:aw) (u:Nat→Bool) (F:Nat) (xs:List SX):aL P G (⟨d,.clos F xs,none⟩::r) K ⟨f,h,u⟩=aS (ee (xs.map (ev G f))) (J5 P G d r K f h u F):=by
  show (match (ee (xs.map (ev G f))).map fun ds=>((.w (.c (.d (.fn F ds))),h,u):R) with | some r=>_ | none=>False)=_
  cases ee (xs.map (ev G f)) <;> rfl
theorem DI (P:Program) (G:ai) (d:Option Nat) (r:List aZ) (K:St→Prop) (f:Nat→V) (h:aw) (u:Nat→Bool) (F:Nat) (ds:List D):J5 P G d r K f h u F ds=aL P G r K ⟨be f d (.w (.c (.d (.fn F ds)))),h,u⟩:=rfl
theorem Br:ee []=some []:=rfl
theorem DJ (cs:List D) (r:List V):ee (.w (.c (.rp cs))::r)=(ee r).map fun l=>.ref cs::l:=by
  simp only[ee,lW]; cases ee r <;> rfl
theorem Bs (k:IntKind) (n:Int) (r:List V):ee (.w (.c (.d (.int k n)))::r)=(ee r).map fun l=>.int k n::l:=by
  simp only[ee,lW]; cases ee r <;> rfl
theorem DK (es:List D) (r:List V):ee (.w (.c (.d (.sl es)))::r)=(ee r).map fun l=>.sl es::l:=by
  simp only[ee,lW]; cases ee r <;> rfl
def y7 (P:Program) (G:ai) (body:aN) (K:AX→St→Prop) (e:AX) (s:St):Prop:=match e with | .nrm=>bz P G body K s | _=>False
def y8 (f0:Nat→V) (I:Nat→aw→(Nat→Bool)→Prop) (Q:AX→St→Prop) (k:Nat) (e:AX) (s:St):Prop:=match e with
  | .nrm=>∃ h' u',dK s ⟨f0,h',u'⟩∧I (k+1) h' u'
  | e=>∃ h' u',dK s ⟨f0,h',u'⟩∧Q e ⟨f0,h',u'⟩
theorem DL (P:Program) (G:ai) (body:aN) (K:AX→St→Prop) (s:St):y7 P G body K .nrm s=bz P G body K s:=rfl
def y9 (st:Nat→aw×(Nat→Bool)) (k:Nat) (h:aw) (u:Nat→Bool):Prop:=(h,u)=st k
theorem N8 {P:Program} {G:ai} {Q:AX→St→Prop} {σ:St} {x:SX} {ps:List Nat} {asg body:aN} {g:Nat} {caps:List D} {xs:List (List D)} (f0:Nat→V) {f1:Nat→V} (hf:f0=f1) (st:Nat→aw×(Nat→Bool))
    (hev:ev G σ.f x=.w (.c (.d (.fn g caps)))) (hseq:y3 P G g caps xs) (hlen:∀ r∈xs,r.length=ps.length) (hent:dK σ ⟨f1,(st 0).1,(st 0).2⟩) (hun:∀ t∈ps++asg.writes++body.writes,f1 t=.undef)
    (round:∀ k r,xs[k]?=some r→bz P G asg (y7 P G body (y8 f0 (y9 st) Q k)) ⟨nx f1 ps r,(st k).1,(st k).2⟩)
    (done:Q .nrm ⟨f1,(st xs.length).1,(st xs.length).2⟩):bz P G (.rangeF x ps asg body) Q σ:=by
  subst hf;refine⟨g,caps,xs,f0,(st 0).1,(st 0).2,fun k h u=>(h,u)=st k,hev,hseq,hlen,hent,hun,rfl,fun k r h u hr e=>?_,fun h u e=>?_⟩
  ·have:=round k r hr;rw[← e] at this
   have e1:(fun (e:AX) (s:St)=>match e with
       | .nrm=>bz P G body (fun e s'=>match e with
         | .nrm=>∃ h' u',dK s' ⟨f0,h',u'⟩∧(h',u')=st (k+1)
         | e=>∃ h' u',dK s' ⟨f0,h',u'⟩∧Q e ⟨f0,h',u'⟩) s
       | _=>False)=y7 P G body (y8 f0 (y9 st) Q k):=by
     funext e s
     cases e with
     | nrm =>
       show bz P G body _ s=bz P G body _ s
       congr 1
     | _=>rfl
   rw[← e1] at this;exact this
  ·rw[← e] at done; exact done
theorem N9 {f0:Nat→V} {f1:Nat→V} (hf:f0=f1) {st:Nat→aw×(Nat→Bool)} {Q:AX→St→Prop} {k:Nat} {s:St} (h:dK s ⟨f1,(st (k+1)).1,(st (k+1)).2⟩):y8 f0 (y9 st) Q k .nrm s:=⟨_,_,hf ▸ h,rfl⟩
def bC (x:UInt8):C:=.d (bD x)
theorem pL (l:List UInt8):(l.map bD).map C.d=l.map bC:=by rw[List.map_map]; rfl
theorem pi:∀ l:List UInt8,eN (l.map bC)=some (l.map bD)
  | []=>rfl
  | x::l=>by
    have h:=pi l
    show eN (C.d (bD x)::l.map bC)=_
    simp only[eN,h,VX,WV]
theorem Oa {α β:Type} (f:α→β) (l cs:List α) (off:Nat):cD (l.map f) off (cs.map f)=(cD l off cs).map f:=by
  unfold cD; simp
theorem gv (l:List UInt8):(l.map bC).flatMap C.ids=[]:=by
  induction l with
  | nil=>rfl
  | cons x l ih=>rw[VX,Wa,ih]; rfl
theorem mZ (g:Nat→Nat) (l:List UInt8):(l.map bC).map (C.ren g)=l.map bC:=by rw[List.map_map]; rfl
theorem Sd (x c:UInt8) (n:Int) (h:n=(c.toNat:Int)):bF .eql (.w (.c (.d (bD x)))) (.w (.c (.d (.int .u8 n))))=some (.bool (x==c)):=by subst h; exact MO x c
theorem Se (x c:UInt8) (n:Int) (h:n=(c.toNat:Int)):bF .neq (.w (.c (.d (bD x)))) (.w (.c (.d (.int .u8 n))))=some (.bool (x != c)):=by subst h; exact MP x c
theorem Sf (x c:UInt8) (n:Int) (h:n=(c.toNat:Int)):bF .xor (.w (.c (.d (bD x)))) (.w (.c (.d (.int .u8 n))))=some (bD (ar x c)):=by subst h; exact gu x c
theorem Ih (x c:UInt8) (n:Int) (h:n=(c.toNat:Int)):bF .and (.w (.c (.d (bD x)))) (.w (.c (.d (.int .u8 n))))=some (bD (kX x c)):=by subst h; exact uU x c
theorem Ii (x:UInt8) (k:IntKind) (j:Nat) (n:Int) (h:n=(j:Int)) (hj:j≤8):bF .shr (.w (.c (.d (bD x)))) (.w (.c (.d (.int k n))))=some (bD (ek x j)):=by
  subst h;rw[MN _ _ _ (XG j),XL,Nat.min_eq_left hj]
theorem Ij (x:UInt8) (k:IntKind) (j:Nat) (n:Int) (h:n=(j:Int)) (hj:j≤8):bF .shl (.w (.c (.d (bD x)))) (.w (.c (.d (.int k n))))=some (bD (ej x j)):=by
  subst h;rw[MM _ _ _ (XG j),XL,Nat.min_eq_left hj]
def bw {α:Type} (n:Nat) (x:α):List α:=List.replicate n x
theorem cH {α:Type} (n:Nat) (x:α):(bw n x).length=n:=Wi
theorem FX (n:Nat):bw n (C.d (D.int .u8 0))=(bw n (0:UInt8)).map bC:=by unfold bw; rw[List.map_replicate]; rfl
set_option maxRecDepth 100000
theorem jW {a b : Prop} (l : a) (r : b) : a ∧ b := And.intro l r
theorem wx:kB (jW @sM (jW @sN (jW @sO (jW @sP (jW @sQ (jW @sx (jW @xg (jW @wd (jW @Hb (jW @Hc (jW @Ha (jW @xf (jW @EL (jW @JJ (jW @JK (jW @JL (jW @cO.eq_1 (jW @cO.eq_2 (jW @cO.eq_3 (jW @cO.eq_4 (jW @f8.eq_1 (jW @f8.eq_2 (jW @killAll.eq_1 (jW @killAll.eq_2 (jW @killAll.eq_3 (jW @KO (jW @FW (jW @DI (jW @Br (jW @DJ (jW @Bs (jW @DK (jW @DL (jW @ef.eq_1 (jW @ef.eq_2 (jW @ef.eq_3 (jW @ef.eq_4 (jW @ef.eq_5 (jW @ef.eq_6 (jW @ef.eq_7 (jW @ef.eq_8 (jW @ef.eq_9 (jW @ef.eq_10 (jW @ef.eq_11 (jW @ef.eq_12 (jW @ef.eq_13 (jW @ef.eq_14 (jW @ef.eq_15 (jW @ef.eq_16 (jW @ef.eq_17 (jW @ef.eq_18 (jW @ef.eq_19 (jW @ef.eq_20 (jW @ef.eq_21 (jW @ef.eq_22 (jW @ef.eq_23 (jW @ef.eq_24 (jW @ef.eq_25 (jW @ef.eq_26 (jW @ef.eq_27 (jW @ef.eq_28 (jW @ef.eq_29 (jW @ef.eq_30 (jW @ef.eq_31 (jW @ef.eq_32 (jW @ef.eq_33 (jW @ef.eq_34 (jW @ef.eq_35 (jW @ef.eq_36 (jW @ef.eq_37 (jW @ef.eq_38 (jW @ef.eq_39 (jW @ef.eq_40 (jW @ef.eq_41 (jW @ef.eq_42 (jW @ef.eq_43 (jW @ef.eq_44 (jW @ef.eq_45 (jW @ef.eq_46 (jW @ef.eq_47 (jW @ef.eq_48 (jW @ef.eq_49 (jW @ef.eq_50 (jW @ef.eq_51 (jW @ef.eq_52 (jW @ef.eq_53 (jW @bound.eq_1 (jW @bound.eq_2 (jW @jv.eq_1 (jW @jv.eq_2 (jW @jv.eq_3 (jW @jv.eq_4 (jW @fT.eq_1 (jW @cA.eq_1 (jW @cA.eq_2 (jW @cA.eq_3 (jW @cA.eq_4 (jW @cA.eq_5 (jW @cA.eq_6 (jW @cA.eq_7 (jW @cA.eq_8 (jW @dJ.eq_1 (jW @dJ.eq_2 (jW @dJ.eq_3 (jW @dJ.eq_4 (jW @dJ.eq_5 (jW @dJ.eq_6 (jW @dJ.eq_7 (jW @FJ (jW @gn.eq_1 (jW @gn.eq_2 (jW @parts.eq_1 (jW @parts.eq_2 (jW @elems.eq_1 (jW @elems.eq_2 (jW @fe.eq_1 (jW @KM (jW @KN (jW @H7 (jW @FV (jW @H8 (jW @J3 (jW @H9 (jW @Ia (jW @Ib (jW @Ic (jW @J4 (jW @Ie (jW @fE.eq_1 (jW @fE.eq_2 (jW @fE.eq_3 (jW @fE.eq_4 (jW @nv.eq_1 (jW @nv.eq_2 (jW @eN.eq_1 (jW @eN.eq_2 (jW @eN.eq_3 (jW @dE.eq_1 (jW @dE.eq_2 (jW @dE.eq_3 (jW @dE.eq_4 (jW @d9.eq_1 (jW @d9.eq_2 (jW @d9.eq_3 (jW @cP.eq_1 (jW @cP.eq_2 (jW @cP.eq_3 (jW @cP.eq_4 (jW @cP.eq_5 (jW @cP.eq_6 (jW @cP.eq_7 (jW @cP.eq_8 (jW @cP.eq_9 (jW @cP.eq_10 (jW @jZ.eq_1 (jW @fG.eq_1 (jW @fG.eq_2 (jW @fG.eq_3 (jW @toW.eq_1 (jW @toW.eq_2 (jW @dt.eq_1 (jW @dt.eq_2 (jW @dt.eq_3 (jW @dt.eq_4 (jW @fP.eq_1 (jW @fP.eq_2 (jW @db.eq_1 (jW @db.eq_2 (jW @cZ.eq_1 (jW @cZ.eq_2 (jW @cZ.eq_3 (jW @ints.eq_1 (jW @ints.eq_2 (jW @ints.eq_3 (jW @dz.eq_1 (jW @dz.eq_2 (jW @dz.eq_3 (jW @jo.eq_1 (jW @jo.eq_2 (jW @jo.eq_3 (jW @W.ro.eq_1 (jW @W.ro.eq_2 (jW @C.ro.eq_1 (jW @C.ro.eq_2 (jW @V.ro.eq_1 (jW @V.ro.eq_2 (jW @V.ro.eq_3 (jW @kR.eq_1 (jW @kR.eq_2 (jW @kR.eq_3 (jW @Kd.size.eq_1 (jW @Kd.size.eq_2 (jW @Bc (jW @Ao (jW @Be (jW @Dp (jW @Bf (jW @cD.eq_1 (jW @cV.eq_1 (jW @cV.eq_2 (jW @Nat.min_def (jW @WV.{0,0} (jW @Option.map_none.{0,0} (jW @Bool.not_true (jW @Bool.not_false (jW @decide_true (jW @decide_false (jW @Bool.and_self (jW @VX.{0,0} (jW @Wl.{0,0} (jW @List.any_cons.{0} (jW @List.any_nil.{0} (jW @WO.{0} (jW @Xj.{0} (jW @Xc.{0} (jW @Xe.{0} (jW @WC.{0} (jW @if_true.{1} (jW @if_false.{1} (jW @true_and (jW @and_true (jW @vd.eq_1 (jW @XG (jW @Xt.{0} (jW @WP.{0} (jW @fu (jW @jd (jW @iM (jW @jI (jW @Du (jW @Dv (jW @JY (jW @JZ (jW @FQ (jW @FR (jW @J0 (jW @Bj (jW @Bl (jW @DD (jW @Bm (jW @Bn (jW @Bo (jW @Bp (jW @Bq (jW @gu (jW @uU (jW @vE (jW @Dh (jW @Di (jW @Dj (jW @Dk (jW @Dl (jW @Dm (jW @Dn (jW @Do (jW @Dz (jW @DC (jW @DF (jW @DG (jW @Dt (jW @Dq (jW @Dr (jW @Ds (jW @List.set_cons_zero.{0} (jW @List.set_cons_succ.{0} (jW @FS (jW @ib (jW @Kd.ag.injEq (jW @VR.{0} (jW @Wi.{0} (jW @qT (jW @FK (jW @wn (jW @H0 (jW @wq (jW @H1 (jW @FP (jW @Df (jW @Xb.{0} (jW @WW.{0} (jW @List.take_succ_cons.{0} (jW @WU.{0} (jW @List.drop_succ_cons.{0} (jW @List.take_nil.{0} (jW @List.drop_nil.{0} (jW @Wc.{0} (jW @Wa.{0,0} (jW @XS.{0,0} (jW @Option.bind_some.{0,0} (jW @ne_eq.{1} (jW @not_false_eq_true (@not_true_eq_false)))))))))))))))))))))))))))))))))))))))))))))))))))))))))))))))))))))))))))))))))))))))))))))))))))))))))))))))))))))))))))))))))))))))))))))))))))))))))))))))))))))))))))))))))))))))))))))))))))))))))))))))))))))))))))))))))))))))))))))))))))))))))))))))))))))))))))))))))))))))))))))))))))):=jW @sM (jW @sN (jW @sO (jW @sP (jW @sQ (jW @sx (jW @xg (jW @wd (jW @Hb (jW @Hc (jW @Ha (jW @xf (jW @EL (jW @JJ (jW @JK (jW @JL (jW @cO.eq_1 (jW @cO.eq_2 (jW @cO.eq_3 (jW @cO.eq_4 (jW @f8.eq_1 (jW @f8.eq_2 (jW @killAll.eq_1 (jW @killAll.eq_2 (jW @killAll.eq_3 (jW @KO (jW @FW (jW @DI (jW @Br (jW @DJ (jW @Bs (jW @DK (jW @DL (jW @ef.eq_1 (jW @ef.eq_2 (jW @ef.eq_3 (jW @ef.eq_4 (jW @ef.eq_5 (jW @ef.eq_6 (jW @ef.eq_7 (jW @ef.eq_8 (jW @ef.eq_9 (jW @ef.eq_10 (jW @ef.eq_11 (jW @ef.eq_12 (jW @ef.eq_13 (jW @ef.eq_14 (jW @ef.eq_15 (jW @ef.eq_16 (jW @ef.eq_17 (jW @ef.eq_18 (jW @ef.eq_19 (jW @ef.eq_20 (jW @ef.eq_21 (jW @ef.eq_22 (jW @ef.eq_23 (jW @ef.eq_24 (jW @ef.eq_25 (jW @ef.eq_26 (jW @ef.eq_27 (jW @ef.eq_28 (jW @ef.eq_29 (jW @ef.eq_30 (jW @ef.eq_31 (jW @ef.eq_32 (jW @ef.eq_33 (jW @ef.eq_34 (jW @ef.eq_35 (jW @ef.eq_36 (jW @ef.eq_37 (jW @ef.eq_38 (jW @ef.eq_39 (jW @ef.eq_40 (jW @ef.eq_41 (jW @ef.eq_42 (jW @ef.eq_43 (jW @ef.eq_44 (jW @ef.eq_45 (jW @ef.eq_46 (jW @ef.eq_47 (jW @ef.eq_48 (jW @ef.eq_49 (jW @ef.eq_50 (jW @ef.eq_51 (jW @ef.eq_52 (jW @ef.eq_53 (jW @bound.eq_1 (jW @bound.eq_2 (jW @jv.eq_1 (jW @jv.eq_2 (jW @jv.eq_3 (jW @jv.eq_4 (jW @fT.eq_1 (jW @cA.eq_1 (jW @cA.eq_2 (jW @cA.eq_3 (jW @cA.eq_4 (jW @cA.eq_5 (jW @cA.eq_6 (jW @cA.eq_7 (jW @cA.eq_8 (jW @dJ.eq_1 (jW @dJ.eq_2 (jW @dJ.eq_3 (jW @dJ.eq_4 (jW @dJ.eq_5 (jW @dJ.eq_6 (jW @dJ.eq_7 (jW @FJ (jW @gn.eq_1 (jW @gn.eq_2 (jW @parts.eq_1 (jW @parts.eq_2 (jW @elems.eq_1 (jW @elems.eq_2 (jW @fe.eq_1 (jW @KM (jW @KN (jW @H7 (jW @FV (jW @H8 (jW @J3 (jW @H9 (jW @Ia (jW @Ib (jW @Ic (jW @J4 (jW @Ie (jW @fE.eq_1 (jW @fE.eq_2 (jW @fE.eq_3 (jW @fE.eq_4 (jW @nv.eq_1 (jW @nv.eq_2 (jW @eN.eq_1 (jW @eN.eq_2 (jW @eN.eq_3 (jW @dE.eq_1 (jW @dE.eq_2 (jW @dE.eq_3 (jW @dE.eq_4 (jW @d9.eq_1 (jW @d9.eq_2 (jW @d9.eq_3 (jW @cP.eq_1 (jW @cP.eq_2 (jW @cP.eq_3 (jW @cP.eq_4 (jW @cP.eq_5 (jW @cP.eq_6 (jW @cP.eq_7 (jW @cP.eq_8 (jW @cP.eq_9 (jW @cP.eq_10 (jW @jZ.eq_1 (jW @fG.eq_1 (jW @fG.eq_2 (jW @fG.eq_3 (jW @toW.eq_1 (jW @toW.eq_2 (jW @dt.eq_1 (jW @dt.eq_2 (jW @dt.eq_3 (jW @dt.eq_4 (jW @fP.eq_1 (jW @fP.eq_2 (jW @db.eq_1 (jW @db.eq_2 (jW @cZ.eq_1 (jW @cZ.eq_2 (jW @cZ.eq_3 (jW @ints.eq_1 (jW @ints.eq_2 (jW @ints.eq_3 (jW @dz.eq_1 (jW @dz.eq_2 (jW @dz.eq_3 (jW @jo.eq_1 (jW @jo.eq_2 (jW @jo.eq_3 (jW @W.ro.eq_1 (jW @W.ro.eq_2 (jW @C.ro.eq_1 (jW @C.ro.eq_2 (jW @V.ro.eq_1 (jW @V.ro.eq_2 (jW @V.ro.eq_3 (jW @kR.eq_1 (jW @kR.eq_2 (jW @kR.eq_3 (jW @Kd.size.eq_1 (jW @Kd.size.eq_2 (jW @Bc (jW @Ao (jW @Be (jW @Dp (jW @Bf (jW @cD.eq_1 (jW @cV.eq_1 (jW @cV.eq_2 (jW @Nat.min_def (jW @WV.{0,0} (jW @Option.map_none.{0,0} (jW @Bool.not_true (jW @Bool.not_false (jW @decide_true (jW @decide_false (jW @Bool.and_self (jW @VX.{0,0} (jW @Wl.{0,0} (jW @List.any_cons.{0} (jW @List.any_nil.{0} (jW @WO.{0} (jW @Xj.{0} (jW @Xc.{0} (jW @Xe.{0} (jW @WC.{0} (jW @if_true.{1} (jW @if_false.{1} (jW @true_and (jW @and_true (jW @vd.eq_1 (jW @XG (jW @Xt.{0} (jW @WP.{0} (jW @fu (jW @jd (jW @iM (jW @jI (jW @Du (jW @Dv (jW @JY (jW @JZ (jW @FQ (jW @FR (jW @J0 (jW @Bj (jW @Bl (jW @DD (jW @Bm (jW @Bn (jW @Bo (jW @Bp (jW @Bq (jW @gu (jW @uU (jW @vE (jW @Dh (jW @Di (jW @Dj (jW @Dk (jW @Dl (jW @Dm (jW @Dn (jW @Do (jW @Dz (jW @DC (jW @DF (jW @DG (jW @Dt (jW @Dq (jW @Dr (jW @Ds (jW @List.set_cons_zero.{0} (jW @List.set_cons_succ.{0} (jW @FS (jW @ib (jW @Kd.ag.injEq (jW @VR.{0} (jW @Wi.{0} (jW @qT (jW @FK (jW @wn (jW @H0 (jW @wq (jW @H1 (jW @FP (jW @Df (jW @Xb.{0} (jW @WW.{0} (jW @List.take_succ_cons.{0} (jW @WU.{0} (jW @List.drop_succ_cons.{0} (jW @List.take_nil.{0} (jW @List.drop_nil.{0} (jW @Wc.{0} (jW @Wa.{0,0} (jW @XS.{0,0} (jW @Option.bind_some.{0,0} (jW @ne_eq.{1} (jW @not_false_eq_true (@not_true_eq_false)))))))))))))))))))))))))))))))))))))))))))))))))))))))))))))))))))))))))))))))))))))))))))))))))))))))))))))))))))))))))))))))))))))))))))))))))))))))))))))))))))))))))))))))))))))))))))))))))))))))))))))))))))))))))))))))))))))))))))))))))))))))))))))))))))))))))))))))))))))))))))))))))))
theorem wy:kB (jW @J2 (jW @z5 (jW @FT (jW @Dx (jW @FU (jW @H6 (jW @fg (jW @nC (@cond_true.{1}))))))))):=jW @J2 (jW @z5 (jW @FT (jW @Dx (jW @FU (jW @H6 (jW @fg (jW @nC (@cond_true.{1}))))))))
theorem wz:kB (jW @Bool.false_and (jW @Bool.and_false (jW @Bh (jW @Nat.sub_zero (jW @Bg (jW @Ap (jW @beq_self_eq_true.{0} (jW @Bool.and_true (jW @Bool.true_and (jW @KF (jW @KG (jW @KH (jW @KI (jW @KJ (jW @KL (jW @Xh.{0} (jW @Xr (jW @Nat.one_mul (jW @W8 (jW @WJ (jW @H3 (jW @H4 (jW @H5 (jW @J1 (jW @Xz (jW @Int.natCast_mul (jW @XI (jW @Xm (@Xn))))))))))))))))))))))))))))):=jW @Bool.false_and (jW @Bool.and_false (jW @Bh (jW @Nat.sub_zero (jW @Bg (jW @Ap (jW @beq_self_eq_true.{0} (jW @Bool.and_true (jW @Bool.true_and (jW @KF (jW @KG (jW @KH (jW @KI (jW @KJ (jW @KL (jW @Xh.{0} (jW @Xr (jW @Nat.one_mul (jW @W8 (jW @WJ (jW @H3 (jW @H4 (jW @H5 (jW @J1 (jW @Xz (jW @Int.natCast_mul (jW @XI (jW @Xm (@Xn))))))))))))))))))))))))))))
theorem aA:kB (jW @V.ren.eq_1 (jW @V.ren.eq_2 (jW @V.ren.eq_3 (jW @W.ren.eq_1 (jW @W.ren.eq_2 (jW @C.ren.eq_1 (jW @C.ren.eq_2 (jW @C.ren.eq_3 (jW @C.ren.eq_4 (jW @C.ren.eq_5 (jW @C.ren.eq_6 (jW @V.ids.eq_1 (jW @V.ids.eq_2 (jW @V.ids.eq_3 (jW @W.ids.eq_1 (jW @W.ids.eq_2 (jW @C.ids.eq_1 (jW @C.ids.eq_2 (jW @C.ids.eq_3 (jW @C.ids.eq_4 (jW @C.ids.eq_5 (jW @C.ids.eq_6 (jW @Ob.ren.eq_1 (jW @Ob.ren.eq_2 (jW @Ob.ren.eq_3 (jW @Ob.ren.eq_4 (jW @Ob.ids.eq_1 (jW @Ob.ids.eq_2 (jW @Ob.ids.eq_3 (jW @Ob.ids.eq_4 (jW @Xn (jW @Xh.{0} (jW @FM (jW @Dc (jW @FN (jW @Dd (jW @id_eq.{1} (jW @Xr (jW @Nat.mul_zero (jW @XR (@Xs.{0}))))))))))))))))))))))))))))))))))))))))):=jW @V.ren.eq_1 (jW @V.ren.eq_2 (jW @V.ren.eq_3 (jW @W.ren.eq_1 (jW @W.ren.eq_2 (jW @C.ren.eq_1 (jW @C.ren.eq_2 (jW @C.ren.eq_3 (jW @C.ren.eq_4 (jW @C.ren.eq_5 (jW @C.ren.eq_6 (jW @V.ids.eq_1 (jW @V.ids.eq_2 (jW @V.ids.eq_3 (jW @W.ids.eq_1 (jW @W.ids.eq_2 (jW @C.ids.eq_1 (jW @C.ids.eq_2 (jW @C.ids.eq_3 (jW @C.ids.eq_4 (jW @C.ids.eq_5 (jW @C.ids.eq_6 (jW @Ob.ren.eq_1 (jW @Ob.ren.eq_2 (jW @Ob.ren.eq_3 (jW @Ob.ren.eq_4 (jW @Ob.ids.eq_1 (jW @Ob.ids.eq_2 (jW @Ob.ids.eq_3 (jW @Ob.ids.eq_4 (jW @Xn (jW @Xh.{0} (jW @FM (jW @Dc (jW @FN (jW @Dd (jW @id_eq.{1} (jW @Xr (jW @Nat.mul_zero (jW @XR (@Xs.{0}))))))))))))))))))))))))))))))))))))))))
theorem aK:kB (jW @Xz (jW @Int.natCast_mul (jW @XI (@Xm)))):=jW @Xz (jW @Int.natCast_mul (jW @XI (@Xm)))
theorem af:kB (jW @wx (jW @wy @wz)):=jW @wx (jW @wy @wz)
theorem aJ {σ:St} {p:Nat×Option Kd} {x:D} (h1:(cV σ p).bind (toW σ.h)=some x:=by simp only[af,aa,seval,iteOmega,toNatUp]):ei σ [p] (.w (.c (.d x))):=lG h1
theorem aW {σ:St} {p q:Nat×Option Kd} {x y:D} (h1:(cV σ p).bind (toW σ.h)=some x:=by simp only[af,aa,seval,iteOmega,toNatUp]) (h2:(cV σ q).bind (toW σ.h)=some y:=by simp only[af,aa,seval,iteOmega,toNatUp]):ei σ [p,q] (.tup [.c (.d x),.c (.d y)]):=iR h1 h2
theorem eT {σ:St} {p:Nat×Option Kd} {sz:Nat} {es:List D} (h1:(cV σ p).bind (jp σ.h sz)=some es:=by simp only[af,aa,seval,iteOmega,toNatUp]):ei σ [p] (.w (.c (.fr sz es))):=Ig h1
theorem du {σ:St} {p q:Nat×Option Kd} {sz:Nat} {es:List D} {y:D} (h1:(cV σ p).bind (jp σ.h sz)=some es:=by simp only[af,aa,seval,iteOmega,toNatUp]) (h2:cV σ q=some (.c (.d y)):=by simp only[af,aa,seval,iteOmega,toNatUp]):ei σ [p,q] (.tup [.c (.fr sz es),.c (.d y)]):=xq h1 h2
theorem sD {P:Program} {G:ai} {K:St→Prop} {r:List aZ} {f:Nat→V} {h:aw} {u:Nat→Bool} {d:Option Nat} {fn:FuncId} {xs:List SX} {own:Option (Nat×Nat)} {ds:List D} {res:V} {q:Prop} (h2:au P G fn ds res) (e:q)
    (hq:aS (dz h u (d.getD 0) own res) (cv P G d r K f)=q:=by simp only[af,aa,seval,iteOmega,toNatUp]; rfl) (h1:db h (xs.map (ev G f))=some ds:=by exact rfl)
    (h3:((xs.map (ev G f)).any V.hasOwn=false∨res.flat=true):=by exact .inl rfl) (hne:fn≠fR:=by decide) (hp:ic own (xs.map (ev G f)):=by first | exact oQ _ | exact pc _ _ _ | exact oR _ _ rfl):aL P G (⟨d,.call fn xs own,none⟩::r) K ⟨f,h,u⟩ :=
  sC h2 (hq ▸ e) h1 h3 hne hp
def gK (x:UInt8):UInt8:=ar (ej x 1) (if x<128 then 0 else 27)
def jr (c:Bool) (v:UInt8):UInt8:=if c then v else 0
def js (y:UInt8) (i:Nat):Bool:=y.toNat.testBit i
def zw (x:UInt8):Nat→UInt8
  | 0=>x
  | n+1=>gK (zw x n)
def K9 (x y:UInt8):Nat→UInt8
  | 0=>0
  | n+1=>ar (K9 x y n) (jr (js y n) (zw x n))
def gx (x y:UInt8):UInt8:=K9 x y 8
theorem BF (x y:UInt8):ar x y=ar y x:=UInt8.xor_comm x y
theorem mz (x y z:UInt8):ar (ar x y) z=ar x (ar y z):=UInt8.xor_assoc x y z
theorem u4 (x:UInt8):ar x 0=x:=UInt8.xor_zero
theorem BG (x:UInt8):ar x x=0:=UInt8.xor_self
theorem M1 (a b c d:UInt8):ar (ar a b) (ar c d)=ar (ar a c) (ar b d):=by
  rw[mz,← mz b,BF b c,mz c,← mz]
def za (f:UInt8→UInt8):Prop:=∀ a b,f (ar a b)=ar (f a) (f b)
theorem Om (x y:UInt8) (i:Nat):js (ar x y) i=(js x i ^^ js y i):=by
  unfold js ar;rw[UInt8.toNat_xor,Nat.testBit_xor]
theorem On (c d:Bool) (v:UInt8):jr (c ^^ d) v=ar (jr c v) (jr d v):=by
  cases c <;> cases d <;> simp[jr,ar]
def kZ (f:UInt8→UInt8) (x:UInt8):Nat→UInt8
  | 0=>0
  | n+1=>ar (kZ f x n) (jr (js x n) (f (UInt8.ofNat (2^n))))
theorem D4 (f:UInt8→UInt8):∀ n,za fun x=>kZ f x n
  | 0=>fun a b=>(BG 0).symm
  | n+1=>fun a b=>by
    show ar (kZ f (ar a b) n) (jr (js (ar a b) n) _)=_
    rw[show kZ f (ar a b) n=ar (kZ f a n) (kZ f b n) from D4 f n a b,Om,On,M1];rfl
theorem Sw {f:UInt8→UInt8} (h:∀ x,f x=kZ f x 8):za f:=by
  intro a b;rw[h,h a,h b];exact D4 f 8 a b
theorem kO {p:UInt8→Bool} (h:((List.range 256).all fun i=>p (UInt8.ofNat i))=true) (x:UInt8):p x=true:=by
  have:=Wd.1 h x.toNat (Xu.2 x.toNat_lt)
  simpa using this
theorem Qi:za gK:=Sw fun x=>by
  have:=kO (p:=fun x=>gK x==kZ gK x 8) (by decide +kernel) x
  simpa using this
def sY (x:UInt8) (n:Nat):UInt8:=jx (ej x n) (ek x (8-n))
def KP (y:UInt8):UInt8:=ar (ar (ar (ar (ar y (sY y 1)) (sY y 2)) (sY y 3)) (sY y 4)) 99
def KQ (x:UInt8):UInt8 :=
  let x2:=gx x x
  let x3:=gx x2 x
  let x6:=gx x3 x3
  let x12:=gx x6 x6
  let x15:=gx x12 x3
  let x30:=gx x15 x15
  let x60:=gx x30 x30
  let x120:=gx x60 x60
  let x240:=gx x120 x120
  gx (gx x240 x12) x2
def zb:List UInt8:=(List.range 256).map fun i=>KP (KQ (UInt8.ofNat i))
def dX (x:UInt8):UInt8:=KP (KQ x)
theorem Oo (x:UInt8):zb[x.toNat]?=some (dX x):=by
  unfold zb dX;rw[WM,XE x.toNat_lt];simp
instance:Std.Associative ar:=⟨mz⟩
instance:Std.Commutative ar:=⟨BF⟩
def zx (x:UInt8):UInt8:=gx x 2
def tL (a b c d:UInt8):UInt8:=ar (ar (ar (ar (zx a) (zx b)) b) c) d
abbrev dB:=Nat→UInt8
def gD (s k:dB):dB:=fun j=>ar (s j) (k j)
def ie (s:dB):dB:=fun j=>dX (s (j%4+4*((j / 4+j%4)%4)))
def gE (t:dB):dB:=fun j=>tL (t (4*(j / 4)+j%4)) (t (4*(j / 4)+(j%4+1)%4)) (t (4*(j / 4)+(j%4+2)%4)) (t (4*(j / 4)+(j%4+3)%4))
def J9 (s t:dB):Prop:=∀ j,j<16→s j=t j
def xx (k:Nat→dB) (s:dB) (n:Nat):dB:=if n<10 then gD (gE (ie s)) (k n) else gD (ie s) (k n)
def iq (k:Nat→dB) (s:dB):Nat→dB
  | 0=>gD s (k 0)
  | n+1=>xx k (iq k s n) (n+1)
def gT (n:Nat):UInt8:=zw 1 n
def nE (t:List UInt8) (n:Nat):List UInt8 :=
  if n%4=0 then [ar (dX (t.getD 1 0)) (gT (n / 4)),dX (t.getD 2 0),dX (t.getD 3 0),dX (t.getD 0 0)]
  else [t.getD 0 0,t.getD 1 0,t.getD 2 0,t.getD 3 0]
def jV (l:List UInt8) (n:Nat):List UInt8 :=
  (List.range 4).map fun k=>ar (l.getD (4*n+k) 0) ((nE (l.drop (12+4*n)) n).getD k 0)
def dM (key:List UInt8):Nat→List UInt8
  | 0=>key
  | n+1=>dM key n++jV (dM key n) n
def aP (key:List UInt8):List UInt8:=dM key 40
theorem M2 (l:List UInt8) (n:Nat):(jV l n).length=4:=by simp[jV]
theorem lB {key:List UInt8} (h:key.length=16):∀ n,(dM key n).length=16+4*n
  | 0=>h
  | n+1=>by rw[dM,VR,lB h n,M2]; omega
theorem wN {key:List UInt8} (h:key.length=16):(aP key).length=176:=lB h 40
def bU (f:dB):List UInt8:=(List.range 16).map f
theorem fK (f:dB):(bU f).length=16:=by simp[bU]
theorem rE (f:dB) {j:Nat} (h:j<16):(bU f)[j]?=some (f j):=by simp[bU,h]
def ba (l:List UInt8):dB:=fun j=>l.getD j 0
theorem Sx {l:List UInt8} (h:l.length=16):bU (ba l)=l:=by
  apply WZ;intro i;by_cases hi:i<16
  ·rw[rE _ hi,ba,VS,VQ (by omega)]; rfl
  ·rw[WF (by rw[fK]; omega),WF (by omega)]
theorem u5 {f g:dB} (h:J9 f g):bU f=bU g:=WB fun j hj=>h j (Xu.1 hj)
def dY (rk:List UInt8) (n:Nat):dB:=fun j=>rk.getD (16*n+j) 0
def eu (rk b:List UInt8):List UInt8:=bU (iq (dY rk) (ba b) 10)
theorem iI (rk b:List UInt8):(eu rk b).length=16:=fK _
def r7 (key b:List UInt8):List UInt8:=eu (aP key) b
def dc:List UInt8→List UInt8×Bool
  | []=>([],true)
  | x::r=>let (s,c):=dc r; if c then ((x+1)::s,x+1==0) else (x::s,false)
def jX (c:List UInt8):List UInt8:=(dc c).1
theorem vI:∀ c,(dc c).1.length=c.length
  | []=>rfl
  | x::r=>by
    have:=vI r;simp only[dc];split <;> simp[this]
theorem BH (c:List UInt8):(jX c).length=c.length:=vI c
def eY (c:List UInt8):Nat→List UInt8
  | 0=>c
  | n+1=>jX (eY c n)
theorem D5 (c:List UInt8):∀ n,(eY c n).length=c.length
  | 0=>rfl
  | n+1=>by rw[eY,BH,D5 c n]
def l9 (rk c:List UInt8):Nat→List UInt8
  | 0=>[]
  | n+1=>l9 rk c n++eu rk (eY c n)
theorem mK (rk c:List UInt8):∀ n,(l9 rk c n).length=16*n
  | 0=>rfl
  | n+1=>by rw[l9,VR,mK rk c n,iI]; omega
def k8 (a b:List UInt8):List UInt8:=List.zipWith ar a b
def fF (rk c b:List UInt8):List UInt8:=k8 b (l9 rk c ((b.length+15) / 16))
theorem D6 {a b:List UInt8} (h:a.length≤b.length):(k8 a b).length=a.length:=by
  simp[k8]; omega
theorem qD (rk c b:List UInt8):(fF rk c b).length=b.length:=D6 (by rw[mK]; omega)
theorem Aq:∀ {a b:List UInt8},a.length≤b.length→k8 (k8 a b) b=a
  | [],_,_=>by simp[k8]
  | x::a,[],h=>by simp at h
  | x::a,y::b,h=>by
    have h1:=Aq (a:=a) (b:=b) (by simpa using h);simp only[k8,List.zipWith_cons_cons,List.cons.injEq] at h1 ⊢;exact⟨by rw[mz,BG,u4],h1⟩
theorem Lx (rk c b:List UInt8):fF rk c (fF rk c b)=b:=by
  unfold fF;have h:b.length≤(l9 rk c ((b.length+15) / 16)).length:=by rw[mK]; omega
  rw[D6 h,Aq h]
def zd (b:dB):dB:=fun j=>ar (ar (ej (b j) 1) (if j<15 then ek (b (j+1)) 7 else 0)) (if j=15 then jr (js (b 0) 7) 135 else 0)
theorem SJ (x y:UInt8):jx (ej x 1) (ek y 7)=ar (ej x 1) (ek y 7):=by
  have h:ek y 7=0∨ek y 7=1:=by
    have:=kO (p:=fun y=>ek y 7==0 || ek y 7==1) (by decide +kernel) y
    simpa using this
  rcases h with h | h <;> rw[h]
  ·have:=kO (p:=fun x=>jx (ej x 1) 0==ar (ej x 1) 0) (by decide +kernel) x;rw[beq_iff_eq] at this; exact this
  ·have:=kO (p:=fun x=>jx (ej x 1) 1==ar (ej x 1) 1) (by decide +kernel) x;rw[beq_iff_eq] at this; exact this
def e9 (b:List UInt8):List UInt8:=if b.length=16 then bU (zd (ba b)) else []
theorem lz {b:List UInt8} (h:b.length=16):(e9 b).length=16:=by rw[e9,if_pos h,fK]
def cF:List UInt8→List UInt8→List UInt8
  | x::a,y::b=>ar x y::cF a b
  | a,_=>a
theorem hZ:∀ a b:List UInt8,(cF a b).length=a.length
  | [],_=>by simp[cF]
  | x::a,[]=>rfl
  | x::a,y::b=>by simp[cF,hZ a b]
theorem Ec:∀ (a b:List UInt8) (i:Nat),i<a.length→i<b.length→(cF a b).getD i 0=ar (a.getD i 0) (b.getD i 0)
  | [],_,_,h,_=>by simp at h
  | x::a,[],_,_,h=>by simp at h
  | x::a,y::b,0,_,_=>rfl
  | x::a,y::b,i+1,h,g=>by
    show (cF a b).getD i 0=_
    rw[Ec a b i (by simpa using h) (by simpa using g)]; rfl
def fM:List UInt8:=List.replicate 16 0
def ir (b:List UInt8):List UInt8:=b++List.replicate ((16-b.length%16)%16) 0
def iu (rk:List UInt8):List UInt8:=e9 (eu rk fM)
def ka (rk:List UInt8):List UInt8:=e9 (iu rk)
def gF (rk b:List UInt8):Nat→List UInt8
  | 0=>fM
  | n+1=>eu rk (cF (gF rk b n) ((b.drop (16*n)).take 16))
def lJ (b:List UInt8):Nat:=(b.length+15) / 16-1
def ke (rk e:List UInt8):List UInt8:=if e.length=16 then cF e (iu rk) else cF (ir (e++[128])) (ka rk)
def gU (rk b:List UInt8):List UInt8:=eu rk (cF (gF rk b (lJ b)) (ke rk (b.drop (16*lJ b))))
theorem qZ (rk b:List UInt8):∀ n,(gF rk b n).length=16
  | 0=>by simp[gF,fM]
  | n+1=>iI _ _
theorem q7 (rk b:List UInt8):(gU rk b).length=16:=iI _ _
theorem vN (rk:List UInt8):(iu rk).length=16:=lz (iI _ _)
theorem OG (rk:List UInt8):(ka rk).length=16:=lz (vN _)
theorem uI {b:List UInt8} (h:b.length<16):(ir (b++[128])).length=16:=by
  simp[ir]; omega
theorem OH {rk e:List UInt8} (h:e.length≤16):(ke rk e).length=16:=by
  unfold ke;split
  ·rw[hZ]; assumption
  ·rw[hZ,uI (by omega)]
def gV (rk:List UInt8) (l:List (List UInt8)):Nat→List UInt8
  | 0=>gU rk fM
  | n+1=>cF (e9 (gV rk l n)) (gU rk (l.getD n []))
def iX (rk:List UInt8) (l:List (List UInt8)):List UInt8 :=
  if l.length=0 then gU rk (List.replicate 15 0++[1])
  else
    let d:=gV rk l (l.length-1)
    let s:=l.getD (l.length-1) []
    if 16≤s.length then gU rk (s.take (s.length-16)++cF (s.drop (s.length-16)) d)
    else gU rk (cF (e9 d) (ir (s++[128])))
theorem Ed (rk:List UInt8) (l:List (List UInt8)):∀ n,(gV rk l n).length=16
  | 0=>q7 _ _
  | n+1=>by rw[gV,hZ,lz (Ed rk l n)]
theorem OI (rk:List UInt8) (l:List (List UInt8)):(iX rk l).length=16:=by
  unfold iX;split
  ·exact q7 _ _
  ·dsimp only;split <;> exact q7 _ _
theorem L9 {σ:St} {p q:Nat×Option Kd} {id sz n s:Nat} {full:List D} {y:D} (h1:cV σ p=some (.c (.own id sz 0 n))) (e:σ.h id=some (.row s full)) (hn:n≤full.length) (h2:cV σ q=some (.c (.d y))):ei σ [p,q] (.tup [.c (.fr sz (full.take n)),.c (.d y)]):=by
  refine⟨[.c (.own id sz 0 n),.c (.d y)],by simp[aT,h1,h2],.inl ⟨by simp[W.ids,C.ids],.cons ⟨rfl,rfl,?_⟩ (.cons ?_ .nil)⟩⟩
  ·rw[e];exact⟨by simp[cZ,hn],trivial⟩
  ·cases y <;> rfl

theorem jM {a b : Prop} (l : a) (r : b) : a ∧ b := And.intro l r
section
variable {P:Program} {G:ai} {K:St→Prop} {r:List aZ} {f:Nat→V} {h:aw} {u:Nat→Bool} {d:Option Nat} {x y t:SX}
def Ld (P:Program) (G:ai) (d:Option Nat) (r:List aZ) (K:St→Prop) (f:Nat→V) (h:aw) (u:Nat→Bool) (q:IntKind) (_:IntKind×Int):Prop:=aS (cI h u (d.getD 0) (.mp q []) (.mp (8*d.getD 0))) (cv P G d r K f)
theorem GK (q:IntKind):aL P G (⟨d,.mkMp q none,none⟩::r) K ⟨f,h,u⟩=aS (cI h u (d.getD 0) (.mp q []) (.mp (8*d.getD 0))) (cv P G d r K f):=by rw[bE _ rfl]; rfl
theorem Ez (q:IntKind):aL P G (⟨d,.mkMp q (some x),none⟩::r) K ⟨f,h,u⟩=aS (dA (ev G f x)) (Ld P G d r K f h u q):=by
  rw[bE _ rfl]
  show aS (if (dA (ev G f x)).isSome=true then _ else none) _=_
  cases dA (ev G f x) <;> rfl
theorem Jk (q:IntKind) (p:IntKind×Int):Ld P G d r K f h u q p=aS (cI h u (d.getD 0) (.mp q []) (.mp (8*d.getD 0))) (cv P G d r K f):=rfl
theorem EA (q:IntKind) (z:D) (co:Bool):aL P G (⟨d,.mpGet q z co x y,none⟩::r) K ⟨f,h,u⟩=aS (fO h q z co (ev G f x) (dA (ev G f y))) (zt P G d r K f h u):=by
  rw[bE _ rfl]; exact eJ _ _ _
theorem EB (q:IntKind):aL P G (⟨d,.mpSet q x y t,none⟩::r) K ⟨f,h,u⟩=aS (nO h q (nM (ev G f x)) (dA (ev G f y)) (nN (ev G f t))) (tX P G d r K f u):=by
  rw[bE _ rfl]; exact eJ _ _ _
def goT (P:Program) (G:ai) (d:Option Nat) (r:List aZ) (K:St→Prop) (f:Nat→V) (h:aw) (u:Nat→Bool) (p:IntKind×List (Int×D)):Prop:=aS (cI h u (d.getD 0) (.it p.1 p.2 none) (.ptr (8*d.getD 0) 1 0 0)) (cv P G d r K f)
theorem BX:aL P G (⟨d,.mpIter x,none⟩::r) K ⟨f,h,u⟩=aS (nu (ev G f x)) (goT P G d r K f h u):=by
  rw[bE _ rfl]
  show aS (match nu (ev G f x) with | some p=>_ | none=>none) _=_
  cases nu (ev G f x) <;> rfl
theorem Jl (q:IntKind) (es:List (Int×D)):goT P G d r K f h u (q,es)=aS (cI h u (d.getD 0) (.it q es none) (.ptr (8*d.getD 0) 1 0 0)) (cv P G d r K f):=rfl
theorem EC:aL P G (⟨d,.mpEnt x,none⟩::r) K ⟨f,h,u⟩=aS (kQ h (ev G f x)) (zt P G d r K f h u):=by
  rw[bE _ rfl]; exact eJ _ _ _
theorem GL (id s:Nat):kQ h (.w (.c (.ptr id s 0 0)))=tz (h id):=rfl
theorem GM (q:IntKind) (l:List (Int×D)) (p:Int×D):tz (some (.it q l (some p)))=some (.tup [.c (.d (.int q p.1)),.c (.d p.2)]):=rfl
theorem GN (q:IntKind) (es:List (Int×D)):nu (.w (.c (.d (.mp q es))))=some (q,es):=rfl
theorem GO (id:Nat):nM (.w (.c (.mp id)))=some id:=rfl
theorem Jm (x:C):nN (.w (.c x))=some x:=rfl
def tp (q:IntKind) (z:D) (co:Bool) (n:Int):Option Ob→Option V
  | some (.mp q' es)=>if q'=q then some (io co (aU es n) (zC z)) else none
  | _=>none
theorem GQ (q:IntKind) (z:D) (co:Bool) (id:Nat) (n:Int):fO h q z co (.w (.c (.mp id))) (some (q,n))=tp q z co n (h id):=by
  unfold fO tp;simp only[true_and];rfl
theorem ED (q:IntKind) (z:D) (co:Bool) (n:Int) (es:List (Int×C)):tp q z co n (some (.mp q es))=some (io co (aU es n) (zC z)):=by simp[tp]
theorem GR (q:IntKind) (z:D) (es:List (Int×D)) (n:Int):fO h q z false (.w (.c (.d (.mp q es)))) (some (q,n))=some (.w (.c (.d ((aU es n).getD z)))):=by
  unfold fO io;rcases hl:aU es n with _ | v <;> simp[hl]
theorem GT (q:IntKind) (z:D) (es:List (Int×D)) (n:Int):fO h q z true (.w (.c (.d (.mp q es)))) (some (q,n))=some (.tup [.c (.d ((aU es n).getD z)),.c (.d (.bool (aU es n).isSome))]):=by
  unfold fO io;rcases hl:aU es n with _ | v <;> simp[hl]
theorem Jn (o:Option C) (z:C):io false o z=.w (.c (o.getD z)):=rfl
theorem Jo (o:Option C) (z:C):io true o z=.tup [.c (o.getD z),.c (.d (.bool o.isSome))]:=rfl
theorem Jp:zC (.sl [])=.nil:=rfl
theorem GU (b:Bool):zC (.bool b)=.d (.bool b):=rfl
theorem Jq (k:IntKind) (n:Int):zC (.int k n)=.d (.int k n):=rfl
def tq (h:aw) (q:IntKind) (id:Nat) (n:Int) (d:C):Option Ob→Option aw
  | some (.mp q' es)=>if q'=q then some (upd h id (some (.mp q (bR es n d)))) else none
  | _=>none
theorem GV (q:IntKind) (id:Nat) (n:Int) (d:C):nO h q (some id) (some (q,n)) (some d)=tq h q id n d (h id):=by
  unfold nO tq;simp only[true_and];rfl
theorem EE (q:IntKind) (id:Nat) (n:Int) (d:C) (es:List (Int×C)):tq h q id n d (some (.mp q es))=some (upd h id (some (.mp q (bR es n d)))):=by simp[tq]
theorem Jr (id:Nat):(C.mp id).ids=[id]:=rfl
theorem Js (g:Nat→Nat) (id:Nat):(C.mp id).ren g=.mp (g id):=rfl
def gr (es:List (Int×D)):List (Int×C):=es.map fun p=>(p.1,.d p.2)
theorem GX:gr []=[]:=rfl
theorem GY (es:List (Int×D)) (n:Int):aU (gr es) n=(aU es n).map C.d:=by
  induction es with
  | nil=>rfl
  | cons p r ih =>
    obtain⟨y,x⟩:=p;by_cases e:y=n
    ·subst e; simp[aU,gr]
    ·have k1:aU ((y,x)::r) n=aU r n:=by unfold aU; rw[WH (by simpa using e)]
     have k2:aU (gr ((y,x)::r)) n=aU (gr r) n:=by unfold aU gr; rw[VX,WH (by simpa using e)]
     rw[k1,k2,ih]
theorem EF (es:List (Int×D)) (n:Int) (d:D):bR (gr es) n (.d d)=gr (bR es n d):=by
  induction es with
  | nil=>rfl
  | cons p r ih =>
    obtain⟨y,x⟩:=p;simp only[gr,VX,bR] at *
    split
    ·rfl
    ·rw[ih]; rfl
theorem w6 (es:List (Int×D)):(gr es).flatMap (fun p=>p.2.ids)=[]:=by
  induction es with
  | nil=>rfl
  | cons p r ih=>simp only[gr,VX,Wa] at *; rw[ih]; rfl
theorem GZ (g:Nat→Nat) (es:List (Int×D)):(gr es).map (fun p=>(p.1,p.2.ren g))=gr es:=by
  induction es with
  | nil=>rfl
  | cons p r ih=>simp only[gr,VX] at *; rw[ih]; rfl
theorem cS:kB (jM @GK (jM @Ez (jM @Jk (jM @EA (jM @EB (jM @BX (jM @Jl (jM @EC (jM @GL (jM @GM (jM @GN (jM @GO (jM @Jm (jM @GQ (jM @ED (jM @GR (jM @GT (jM @Jn (jM @Jo (jM @Jp (jM @GU (jM @Jq (jM @GV (jM @EE (jM @Jr (jM @Js (jM @GX (jM @GY (jM @EF (jM @w6 (jM @GZ (jM @WQ.{0} (@Xa.{0}))))))))))))))))))))))))))))))))) :=
  jM @GK (jM @Ez (jM @Jk (jM @EA (jM @EB (jM @BX (jM @Jl (jM @EC (jM @GL (jM @GM (jM @GN (jM @GO (jM @Jm (jM @GQ (jM @ED (jM @GR (jM @GT (jM @Jn (jM @Jo (jM @Jp (jM @GU (jM @Jq (jM @GV (jM @EE (jM @Jr (jM @Js (jM @GX (jM @GY (jM @EF (jM @w6 (jM @GZ (jM @WQ.{0} (@Xa.{0}))))))))))))))))))))))))))))))))
end
theorem Jt {P:Program} {G:ai} {Q:AX→St→Prop} {f:Nat→V} {h:aw} {u:Nat→Bool} {dn:Nat} {x:SX} {rest:List aZ} {id s:Nat} {q:IntKind} {left:List (Int×D)} {last:Option (Int×D)} (hx:ev G f x=.w (.c (.ptr id s 0 0))) (hi:h id=some (.it q left last))
    (k1:left=[]→aL P G rest (Q .nrm) ⟨upd f dn (.tup [.c (.d (.bool false))]),h,u⟩)
    (k2:∀ j p,left[j]?=some p→aL P G rest (Q .nrm) ⟨upd f dn (.tup [.c (.d (.bool true)),.c (.d (.int q p.1)),.c (.d p.2)]),upd h id (some (.it q (left.eraseIdx j) (some p))),u⟩):bz P G (.nextM dn x rest) Q ⟨f,h,u⟩:=by
  show rP _ dn _ (ev G f x)
  rw[hx]
  show (match h id with | some (.it q left _)=>_ | _=>False)
  rw[hi];exact⟨k1,k2⟩
theorem T7 {P:Program} {G:ai} {Q:AX→St→Prop} {f:Nat→V} {h:aw} {u:Nat→Bool} {t id:Nat} {c:aN} {q:IntKind} {es:List (Int×C)} {ds:List (Int×D)} (hx:f t=.w (.c (.mp id))) (hi:h id=some (.mp q es)) (hd:jQ h es=some ds)
    (k:bz P G c Q ⟨upd f t (vd (.mp q ds)),upd (killAll h (es.map (·.2))) id none,u⟩):bz P G (.ghost t c) Q ⟨f,h,u⟩:=by
  show (match nR ⟨f,h,u⟩ t with | some τ=>bz P G c Q τ | none=>False)
  have:nR ⟨f,h,u⟩ t=some ⟨upd f t (vd (.mp q ds)),upd (killAll h (es.map (·.2))) id none,u⟩:=by
    unfold nR;simp only[hx,hi,hd,WV]
  rw[this];exact k
theorem Rr {α:Type} (x:Int):aU ([]:List (Int×α)) x=none:=rfl
theorem G1 {α:Type} (es:List (Int×α)) (x y:Int) (v:α):aU (bR es x v) y=if y=x then some v else aU es y:=by
  induction es with
  | nil =>
    by_cases h:y=x
    ·subst h; simp[bR,aU]
    ·rw[if_neg h];unfold aU bR;rw[WH (by simpa using fun e=>h e.symm)]
  | cons p r ih =>
    obtain⟨k,w⟩:=p;simp only[bR];by_cases hk:k=x
    ·subst hk;rw[if_pos rfl];by_cases h:y=k
     ·subst h; simp[aU]
     ·rw[if_neg h];unfold aU;rw[WH (by simpa using fun e=>h e.symm),WH (by simpa using fun e=>h e.symm)]
    ·rw[if_neg hk];by_cases h:y=k
     ·subst h;rw[if_neg hk];simp[aU]
     ·have e1:aU ((k,w)::bR r x v) y=aU (bR r x v) y:=by
        unfold aU; rw[WH (by simpa using fun e=>h e.symm)]
      have e2:aU ((k,w)::r) y=aU r y:=by
        unfold aU; rw[WH (by simpa using fun e=>h e.symm)]
      rw[e1,e2,ih]
end Go.Proofs.YtlghfnidknfakaaGreatDoor
