/- Texts of one's own, merged: from: The plain logic (20): words of 32 bits. Own work. -/
import Derived.Laws.BitsLemmas
import Derived.Laws.Bits64
import Derived.Laws.BitsAllLaws
import Derived.Test.YtofonnokanoflaaGreatDoorMt16
set_option linter.unusedVariables false
set_option linter.unusedSimpArgs false
namespace Go.Proofs.YtofonnokanoflaaGreatDoor
open Go.RowKit IntWalk
def ij (x y:UInt32):UInt32:=x ^^^ y
def pq (x y:UInt32):UInt32:=x &&& y
def ov (x y:UInt32):UInt32:=x ||| y
def bZ (x y:UInt32):UInt32:=x+y
def wn (x:UInt32):UInt32:=UInt32.ofNat (4294967295-x.toNat)
def qA (x:UInt32) (n:Nat):UInt32:=UInt32.ofNat (x.toNat / 2^n)
def pu (x:UInt32) (n:Nat):UInt32:=UInt32.ofNat (x.toNat*2^n)
def kX (x:UInt32) (n:Nat):UInt32:=ov (qA x n) (pu x (32-n))
def qp (b:UInt8):UInt32:=UInt32.ofNat b.toNat
theorem word_lt (x:UInt32):x.toNat<4294967296:=x.toNat_lt
theorem aaT (x y:UInt32):bits .xor .u32 (x.toNat:Int) (y.toNat:Int)=((ij x y).toNat:Int):=by
  rw[u32_xor_nat _ _ (word_lt x) (word_lt y)]; simp[ij]
theorem aaU (x y:UInt32):bits .and .u32 (x.toNat:Int) (y.toNat:Int)=((pq x y).toNat:Int):=by
  rw[u32_and_nat _ _ (word_lt x) (word_lt y)]; simp[pq]
theorem acg (x y:UInt32):bits .or .u32 (x.toNat:Int) (y.toNat:Int)=((ov x y).toNat:Int):=by
  rw[u32_or_nat _ _ (word_lt x) (word_lt y)]; simp[ov]
theorem aaV (x y:UInt32):IntKind.u32.wrap ((x.toNat:Int)+(y.toNat:Int))=((bZ x y).toNat:Int):=by
  rw[IntKind.wrap_u32]; simp[bZ]
theorem ach (x:UInt32) (n:Nat):(x.toNat:Int) / 2^n=((qA x n).toNat:Int):=by
  have h:x.toNat / 2^n<4294967296:=ap4 (Nat.div_le_self _ _) (word_lt x);unfold qA;rw[UInt32.toNat_ofNat_of_lt' (by simpa [UInt32.size] using h)];simp
theorem aci (x:UInt32) (n:Nat):(x.toNat:Int)*2^n%4294967296=((pu x n).toNat:Int):=by
  unfold pu;simp
theorem acj (x:UInt32):(4294967295:Int)-(x.toNat:Int)=((wn x).toNat:Int):=by
  have h:=word_lt x;unfold wn;rw[UInt32.toNat_ofNat_of_lt' (by simp[UInt32.size]; omega)];omega
theorem Mr (b:UInt8):(b.toNat:Int)=((qp b).toNat:Int):=by
  have h:=b.toNat_lt;unfold qp;rw[UInt32.toNat_ofNat_of_lt' (by simp[UInt32.size]; omega)]
theorem Ms (x y:UInt32):dc .xor (.w (.c (.d (wD x)))) (.w (.c (.d (wD y))))=some (wD (ij x y)):=by
  show cO .xor .u32 (x.toNat:Int) .u32 (y.toNat:Int)=_
  rw[Am,aaT]; rfl
theorem Mt (x y:UInt32):dc .and (.w (.c (.d (wD x)))) (.w (.c (.d (wD y))))=some (wD (pq x y)):=by
  show cO .and .u32 (x.toNat:Int) .u32 (y.toNat:Int)=_
  rw[Al,aaU]; rfl
theorem OY (x y:UInt32):dc .or (.w (.c (.d (wD x)))) (.w (.c (.d (wD y))))=some (wD (ov x y)):=by
  show cO .or .u32 (x.toNat:Int) .u32 (y.toNat:Int)=_
  rw[A0,acg]; rfl
theorem Mu (x y:UInt32):dc .add (.w (.c (.d (wD x)))) (.w (.c (.d (wD y))))=some (wD (bZ x y)):=by
  show cO .add .u32 (x.toNat:Int) .u32 (y.toNat:Int)=_
  rw[Ai,aaV]; rfl
theorem Mv (x:UInt32) (k:IntKind) (n:Int) (h:0≤n):dc .shl (.w (.c (.d (wD x)))) (.w (.c (.d (.int k n))))=some (wD (pu x (min n.toNat 32))):=by
  show cO .shl .u32 (x.toNat:Int) k n=_
  rw[An _ _ _ _ h,IntKind.wrap_u32]
  show some (D.int .u32 ((x.toNat:Int)*2^min n.toNat 32%4294967296))=_
  rw[aci]; rfl
theorem Mw (x:UInt32) (k:IntKind) (n:Int) (h:0≤n):dc .shr (.w (.c (.d (wD x)))) (.w (.c (.d (.int k n))))=some (wD (qA x (min n.toNat 32))):=by
  show cO .shr .u32 (x.toNat:Int) k n=_
  rw[Ao _ _ _ _ h]
  show some (D.int .u32 ((x.toNat:Int) / 2^min n.toNat 32))=_
  rw[ach]; rfl
theorem OZ (x:UInt32):pI .xor (.w (.c (.d (wD x))))=some (wD (wn x)):=by
  have:bits .xor .u32 4294967295 (x.toNat:Int)=(4294967295:Int)-(x.toNat:Int):=by
    have h:=x.toNat_lt;have h2:4294967295 ^^^ x.toNat=4294967295-x.toNat:=by
      have e:=congrArg BitVec.toNat (BitVec.allOnes_xor (x:=BitVec.ofNat 32 x.toNat));rw[BitVec.toNat_xor,BitVec.toNat_not,BitVec.toNat_allOnes,BitVec.toNat_ofNat,aqH (by omega)] at e;omega
    have h3:=u32_xor_nat 4294967295 x.toNat (by decide) h;rw[h2] at h3;have h4:((4294967295:Nat):Int)=4294967295:=rfl;rw[h4] at h3;omega
  show some (D.int .u32 (bits .xor .u32 4294967295 (x.toNat:Int)))=_
  rw[this,acj]; rfl
theorem Mx (x y:UInt32):dc .eql (.w (.c (.d (wD x)))) (.w (.c (.d (wD y))))=some (.bool (x==y)):=by
  show cO .eql .u32 (x.toNat:Int) .u32 (y.toNat:Int)=_
  rw[Aj];by_cases h:x=y
  ·subst h; simp
  ·have:¬ ((x.toNat:Int)=(y.toNat:Int)):=fun e=>h (UInt32.toNat_inj.1 (by omega))
   simp[this,h]
theorem My (x y:UInt32):dc .neq (.w (.c (.d (wD x)))) (.w (.c (.d (wD y))))=some (.bool (x != y)):=by
  show cO .neq .u32 (x.toNat:Int) .u32 (y.toNat:Int)=_
  rw[Ak];by_cases h:x=y
  ·subst h; simp
  ·have:¬ ((x.toNat:Int)=(y.toNat:Int)):=fun e=>h (UInt32.toNat_inj.1 (by omega))
   simp[this,h]
theorem O0 (b:UInt8):D.int .u32 (IntKind.u32.wrap (b.toNat:Int))=wD (qp b):=by
  have h:=b.toNat_lt;rw[IntWalk.u32_in _ (by omega),Mr]; rfl
def aX (x y:UInt8):UInt8:=x ^^^ y
def rZ (x y:UInt8):UInt8:=x &&& y
def pK (x y:UInt8):UInt8:=x ||| y
def ik (x:UInt8) (n:Nat):UInt8:=UInt8.ofNat (x.toNat*2^n)
def il (x:UInt8) (n:Nat):UInt8:=UInt8.ofNat (x.toNat / 2^n)
theorem rj (x:UInt8):x.toNat<256:=x.toNat_lt
theorem lD (x y:UInt8):dc .xor (.w (.c (.d (bD x)))) (.w (.c (.d (bD y))))=some (bD (aX x y)):=by
  show cO .xor .u8 (x.toNat:Int) .u8 (y.toNat:Int)=_
  rw[Am,u8_xor_nat _ _ (rj x) (rj y)]; simp[aX,bD]
theorem Ff (x y:UInt8):dc .and (.w (.c (.d (bD x)))) (.w (.c (.d (bD y))))=some (bD (rZ x y)):=by
  show cO .and .u8 (x.toNat:Int) .u8 (y.toNat:Int)=_
  rw[Al,u8_and_nat _ _ (rj x) (rj y)]; simp[rZ,bD]
theorem FY (x y:UInt8):dc .or (.w (.c (.d (bD x)))) (.w (.c (.d (bD y))))=some (bD (pK x y)):=by
  show cO .or .u8 (x.toNat:Int) .u8 (y.toNat:Int)=_
  rw[A0,u8_or_nat _ _ (rj x) (rj y)]; simp[pK,bD]
theorem aaW (x:UInt8) (k:IntKind) (n:Int) (h:0≤n):dc .shl (.w (.c (.d (bD x)))) (.w (.c (.d (.int k n))))=some (bD (ik x (min n.toNat 8))):=by
  show cO .shl .u8 (x.toNat:Int) k n=_
  rw[An _ _ _ _ h,IntKind.wrap_u8]
  show some (D.int .u8 ((x.toNat:Int)*2^min n.toNat 8%256))=_
  have:(x.toNat:Int)*2^min n.toNat 8%256=((ik x (min n.toNat 8)).toNat:Int):=by unfold ik; simp
  rw[this]; rfl
theorem aaX (x:UInt8) (k:IntKind) (n:Int) (h:0≤n):dc .shr (.w (.c (.d (bD x)))) (.w (.c (.d (.int k n))))=some (bD (il x (min n.toNat 8))):=by
  show cO .shr .u8 (x.toNat:Int) k n=_
  rw[Ao _ _ _ _ h]
  show some (D.int .u8 ((x.toNat:Int) / 2^min n.toNat 8))=_
  have:(x.toNat:Int) / 2^min n.toNat 8=((il x (min n.toNat 8)).toNat:Int):=by
    have h:x.toNat / 2^min n.toNat 8<256:=ap4 (Nat.div_le_self _ _) (rj x);unfold il;rw[UInt8.toNat_ofNat_of_lt' (by simpa [UInt8.size] using h)];simp
  rw[this]; rfl
theorem aaY (x y:UInt8):dc .eql (.w (.c (.d (bD x)))) (.w (.c (.d (bD y))))=some (.bool (x==y)):=by
  show cO .eql .u8 (x.toNat:Int) .u8 (y.toNat:Int)=_
  rw[Aj];by_cases h:x=y
  ·subst h; simp
  ·have:¬ ((x.toNat:Int)=(y.toNat:Int)):=fun e=>h (UInt8.toNat_inj.1 (by omega))
   simp[this,h]
theorem aaZ (x y:UInt8):dc .neq (.w (.c (.d (bD x)))) (.w (.c (.d (bD y))))=some (.bool (x != y)):=by
  show cO .neq .u8 (x.toNat:Int) .u8 (y.toNat:Int)=_
  rw[Ak];by_cases h:x=y
  ·subst h; simp
  ·have:¬ ((x.toNat:Int)=(y.toNat:Int)):=fun e=>h (UInt8.toNat_inj.1 (by omega))
   simp[this,h]
theorem Y1 (G:au) (f:Nat→V):ev G f .u=.undef:=rfl
def XN (P:Program) (G:au) (d:Option Nat) (r:List br) (K:St→Prop) (f:Nat→V) (h:aL) (u:Nat→Bool) (F:Nat) (ds:List D):Prop:=bh P G r K ⟨bY f d (.w (.c (.d (.fn F ds)))),h,u⟩
theorem Rx (P:Program) (G:au) (d:Option Nat) (r:List br) (K:St→Prop) (f:Nat→V) (h:aL) (u:Nat→Bool) (F:Nat) (xs:List SX):bh P G (⟨d,.clos F xs,none⟩::r) K ⟨f,h,u⟩=bI (ii (xs.map (ev G f))) (XN P G d r K f h u F):=by
  show (match (ii (xs.map (ev G f))).map fun ds=>((.w (.c (.d (.fn F ds))),h,u):R) with | some r=>_ | none=>False)=_
  cases ii (xs.map (ev G f)) <;> rfl
theorem O1 (P:Program) (G:au) (d:Option Nat) (r:List br) (K:St→Prop) (f:Nat→V) (h:aL) (u:Nat→Bool) (F:Nat) (ds:List D):XN P G d r K f h u F ds=bh P G r K ⟨bY f d (.w (.c (.d (.fn F ds)))),h,u⟩:=rfl
theorem Mz:ii []=some []:=rfl
theorem O2 (cs:List D) (r:List V):ii (.w (.c (.rp cs))::r)=(ii r).map fun l=>.ref cs::l:=by
  simp only[ii,pm]; cases ii r <;> rfl
theorem MA (k:IntKind) (n:Int) (r:List V):ii (.w (.c (.d (.int k n)))::r)=(ii r).map fun l=>.int k n::l:=by
  simp only[ii,pm]; cases ii r <;> rfl
theorem O3 (es:List D) (r:List V):ii (.w (.c (.d (.sl es)))::r)=(ii r).map fun l=>.sl es::l:=by
  simp only[ii,pm]; cases ii r <;> rfl
def J9 (P:Program) (G:au) (body:bq) (K:AX→St→Prop) (e:AX) (s:St):Prop:=match e with | .nrm=>cD P G body K s | _=>False
def Ka (f0:Nat→V) (I:Nat→aL→(Nat→Bool)→Prop) (Q:AX→St→Prop) (k:Nat) (e:AX) (s:St):Prop:=match e with
  | .nrm=>∃ h' u',ft s ⟨f0,h',u'⟩∧I (k+1) h' u'
  | e=>∃ h' u',ft s ⟨f0,h',u'⟩∧Q e ⟨f0,h',u'⟩
theorem O4 (P:Program) (G:au) (body:bq) (K:AX→St→Prop) (s:St):J9 P G body K .nrm s=cD P G body K s:=rfl
def Kb (st:Nat→aL×(Nat→Bool)) (k:Nat) (h:aL) (u:Nat→Bool):Prop:=(h,u)=st k
theorem ack {P:Program} {G:au} {Q:AX→St→Prop} {σ:St} {x:SX} {ps:List Nat} {asg body:bq} {g:Nat} {caps:List D} {xs:List (List D)} (f0:Nat→V) {f1:Nat→V} (hf:f0=f1) (st:Nat→aL×(Nat→Bool))
    (hev:ev G σ.f x=.w (.c (.d (.fn g caps)))) (hseq:J6 P G g caps xs) (hlen:∀ r∈xs,r.length=ps.length) (hent:ft σ ⟨f1,(st 0).1,(st 0).2⟩) (hun:∀ t∈ps++asg.writes++body.writes,f1 t=.undef)
    (round:∀ k r,xs[k]?=some r→cD P G asg (J9 P G body (Ka f0 (Kb st) Q k)) ⟨vK f1 ps r,(st k).1,(st k).2⟩)
    (done:Q .nrm ⟨f1,(st xs.length).1,(st xs.length).2⟩):cD P G (.rangeF x ps asg body) Q σ:=by
  subst hf;refine⟨g,caps,xs,f0,(st 0).1,(st 0).2,fun k h u=>(h,u)=st k,hev,hseq,hlen,hent,hun,rfl,fun k r h u hr e=>?_,fun h u e=>?_⟩
  ·have:=round k r hr;rw[← e] at this
   have e1:(fun (e:AX) (s:St)=>match e with
       | .nrm=>cD P G body (fun e s'=>match e with
         | .nrm=>∃ h' u',ft s' ⟨f0,h',u'⟩∧(h',u')=st (k+1)
         | e=>∃ h' u',ft s' ⟨f0,h',u'⟩∧Q e ⟨f0,h',u'⟩) s
       | _=>False)=J9 P G body (Ka f0 (Kb st) Q k):=by
     funext e s
     cases e with
     | nrm =>
       show cD P G body _ s=cD P G body _ s
       congr 1
     | _=>rfl
   rw[← e1] at this;exact this
  ·rw[← e] at done; exact done
theorem acl {f0:Nat→V} {f1:Nat→V} (hf:f0=f1) {st:Nat→aL×(Nat→Bool)} {Q:AX→St→Prop} {k:Nat} {s:St} (h:ft s ⟨f1,(st (k+1)).1,(st (k+1)).2⟩):Ka f0 (Kb st) Q k .nrm s:=⟨_,_,hf ▸ h,rfl⟩
def bC (x:UInt8):C:=.d (bD x)
theorem yF (l:List UInt8):(l.map bD).map C.d=l.map bC:=by rw[apO]; rfl
theorem xP:∀ l:List UInt8,iT (l.map bC)=some (l.map bD)
  | []=>rfl
  | x::l=>by
    have h:=xP l
    show iT (C.d (bD x)::l.map bC)=_
    simp only[iT,h,aos,apu]
theorem acm {α β:Type} (f:α→β) (l cs:List α) (off:Nat):eH (l.map f) off (cs.map f)=(eH l off cs).map f:=by
  unfold eH; simp
theorem lH (l:List UInt8):(l.map bC).flatMap C.ids=[]:=by
  induction l with
  | nil=>rfl
  | cons x l ih=>rw[aos,aoL,ih]; rfl
theorem vm (g:Nat→Nat) (l:List UInt8):(l.map bC).map (C.ren g)=l.map bC:=by rw[apO]; rfl
theorem ah5 (x c:UInt8) (n:Int) (h:n=(c.toNat:Int)):dc .eql (.w (.c (.d (bD x)))) (.w (.c (.d (.int .u8 n))))=some (.bool (x==c)):=by subst h; exact aaY x c
theorem ah6 (x c:UInt8) (n:Int) (h:n=(c.toNat:Int)):dc .neq (.w (.c (.d (bD x)))) (.w (.c (.d (.int .u8 n))))=some (.bool (x != c)):=by subst h; exact aaZ x c
theorem ah7 (x c:UInt8) (n:Int) (h:n=(c.toNat:Int)):dc .xor (.w (.c (.d (bD x)))) (.w (.c (.d (.int .u8 n))))=some (bD (aX x c)):=by subst h; exact lD x c
theorem U0 (x c:UInt8) (n:Int) (h:n=(c.toNat:Int)):dc .and (.w (.c (.d (bD x)))) (.w (.c (.d (.int .u8 n))))=some (bD (rZ x c)):=by subst h; exact Ff x c
theorem U3 (x:UInt8) (k:IntKind) (j:Nat) (n:Int) (h:n=(j:Int)) (hj:j≤8):dc .shr (.w (.c (.d (bD x)))) (.w (.c (.d (.int k n))))=some (bD (il x j)):=by
  subst h;rw[aaX _ _ _ (aqu j),aqD,apM hj]
theorem U4 (x:UInt8) (k:IntKind) (j:Nat) (n:Int) (h:n=(j:Int)) (hj:j≤8):dc .shl (.w (.c (.d (bD x)))) (.w (.c (.d (.int k n))))=some (bD (ik x j)):=by
  subst h;rw[aaW _ _ _ (aqu j),aqD,apM hj]
def cT {α:Type} (n:Nat) (x:α):List α:=List.replicate n x
theorem eR {α:Type} (n:Nat) (x:α):(cT n x).length=n:=aoR
theorem Ry (n:Nat):cT n (C.d (D.int .u8 0))=(cT n (0:UInt8)).map bC:=by unfold cT; rw[List.map_replicate]; rfl
set_option maxRecDepth 100000
theorem jW {a b : Prop} (l : a) (r : b) : a ∧ b := And.intro l r
theorem wx:nN (jW @CL (jW @CM (jW @CN (jW @CO (jW @CP (jW @Bv (jW @Bw (jW @Bz (jW @BC (jW @BD (jW @BE (jW @BF (jW @TC (jW @TD (jW @TE (jW @TF (jW @TG (jW @TH (jW @TI (jW @TJ (jW @TK (jW @TL (jW @TM (jW @TO (jW @TP (jW @TQ (jW @TR (jW @TS (jW @TT (jW @TU (jW @TV (jW @TW (jW @TX (jW @BG (jW @BH (jW @BI (jW @BJ (jW @BK (jW @BL (jW @BM (jW @BN (jW @BO (jW @sx (jW @HH (jW @Gx (jW @TA (jW @TB (jW @Tz (jW @HG (jW @Qr (jW @Xs (jW @Xt (jW @Xu (jW @fc.eq_1 (jW @fc.eq_2 (jW @fc.eq_3 (jW @fc.eq_4 (jW @kT.eq_1 (jW @kT.eq_2 (jW @killAll.eq_1 (jW @killAll.eq_2 (jW @killAll.eq_3 (jW @Y1 (jW @Rx (jW @O1 (jW @Mz (jW @O2 (jW @MA (jW @O3 (jW @O4 (jW @ef.eq_1 (jW @ef.eq_2 (jW @ef.eq_3 (jW @ef.eq_4 (jW @ef.eq_5 (jW @ef.eq_6 (jW @ef.eq_7 (jW @ef.eq_8 (jW @ef.eq_9 (jW @ef.eq_10 (jW @ef.eq_11 (jW @ef.eq_12 (jW @ef.eq_13 (jW @ef.eq_14 (jW @ef.eq_15 (jW @ef.eq_16 (jW @ef.eq_17 (jW @ef.eq_18 (jW @ef.eq_19 (jW @ef.eq_20 (jW @ef.eq_21 (jW @ef.eq_22 (jW @ef.eq_23 (jW @ef.eq_24 (jW @ef.eq_25 (jW @ef.eq_26 (jW @ef.eq_27 (jW @ef.eq_28 (jW @ef.eq_29 (jW @ef.eq_30 (jW @ef.eq_31 (jW @ef.eq_32 (jW @ef.eq_33 (jW @ef.eq_34 (jW @ef.eq_35 (jW @ef.eq_36 (jW @ef.eq_37 (jW @ef.eq_38 (jW @ef.eq_39 (jW @ef.eq_40 (jW @ef.eq_41 (jW @ef.eq_42 (jW @ef.eq_43 (jW @ef.eq_44 (jW @ef.eq_45 (jW @ef.eq_46 (jW @ef.eq_47 (jW @ef.eq_48 (jW @ef.eq_49 (jW @ef.eq_50 (jW @ef.eq_51 (jW @ef.eq_52 (jW @ef.eq_53 (jW @bound.eq_1 (jW @bound.eq_2 (jW @pJ.eq_1 (jW @pJ.eq_2 (jW @pJ.eq_3 (jW @pJ.eq_4 (jW @kB.eq_1 (jW @ee.eq_1 (jW @ee.eq_2 (jW @ee.eq_3 (jW @ee.eq_4 (jW @ee.eq_5 (jW @ee.eq_6 (jW @ee.eq_7 (jW @ee.eq_8 (jW @gv.eq_1 (jW @gv.eq_2 (jW @gv.eq_3 (jW @gv.eq_4 (jW @gv.eq_5 (jW @gv.eq_6 (jW @gv.eq_7 (jW @Rj (jW @lq.eq_1 (jW @lq.eq_2 (jW @parts.eq_1 (jW @parts.eq_2 (jW @elems.eq_1 (jW @elems.eq_2 (jW @je.eq_1 (jW @YZ (jW @Y0 (jW @US (jW @Rv (jW @UT (jW @XL (jW @UU (jW @UV (jW @UW (jW @UX (jW @XM (jW @UY (jW @jJ.eq_1 (jW @jJ.eq_2 (jW @jJ.eq_3 (jW @jJ.eq_4 (jW @vI.eq_1 (jW @vI.eq_2 (jW @iT.eq_1 (jW @iT.eq_2 (jW @iT.eq_3 (jW @fK.eq_1 (jW @fK.eq_2 (jW @fK.eq_3 (jW @fK.eq_4 (jW @gY.eq_1 (jW @gY.eq_2 (jW @gY.eq_3 (jW @fe.eq_1 (jW @fe.eq_2 (jW @fe.eq_3 (jW @fe.eq_4 (jW @fe.eq_5 (jW @fe.eq_6 (jW @fe.eq_7 (jW @fe.eq_8 (jW @fe.eq_9 (jW @fe.eq_10 (jW @oa.eq_1 (jW @jL.eq_1 (jW @jL.eq_2 (jW @jL.eq_3 (jW @toW.eq_1 (jW @toW.eq_2 (jW @fO.eq_1 (jW @fO.eq_2 (jW @fO.eq_3 (jW @fO.eq_4 (jW @kw.eq_1 (jW @kw.eq_2 (jW @fo.eq_1 (jW @fo.eq_2 (jW @fv.eq_1 (jW @fv.eq_2 (jW @fv.eq_3 (jW @ints.eq_1 (jW @ints.eq_2 (jW @ints.eq_3 (jW @fM.eq_1 (jW @fM.eq_2 (jW @fM.eq_3 (jW @nc.eq_1 (jW @nc.eq_2 (jW @nc.eq_3 (jW @nc.eq_4 (jW @W.ro.eq_1 (jW @W.ro.eq_2 (jW @C.ro.eq_1 (jW @C.ro.eq_2 (jW @V.ro.eq_1 (jW @V.ro.eq_2 (jW @V.ro.eq_3 (jW @rT.eq_1 (jW @rT.eq_2 (jW @rT.eq_3 (jW @Kd.size.eq_1 (jW @Kd.size.eq_2 (jW @Ml (jW @Lu (jW @Mm (jW @ON (jW @Mn (jW @eH.eq_1 (jW @cV.eq_1 (jW @cV.eq_2 (jW @Nat.min_def (jW @apu.{0,0} (jW @Option.map_none.{0,0} (jW @Bool.not_true (jW @Bool.not_false (jW @decide_true (jW @decide_false (jW @Bool.and_self (jW @aos.{0,0} (jW @aoA.{0,0} (jW @List.any_cons.{0} (jW @List.any_nil.{0} (jW @apj.{0} (jW @ap1.{0} (jW @apT.{0} (jW @apy.{0} (jW @ao2.{0} (jW @if_true.{1} (jW @if_false.{1} (jW @true_and (jW @and_true (jW @vd.eq_1 (jW @aqu (jW @apS.{0} (jW @ao7.{0} (jW @jF (jW @oH (jW @nO (jW @pZ (jW @OS (jW @OT (jW @XG (jW @XH (jW @Rp (jW @Rq (jW @XI (jW @Ms (jW @Mt (jW @OY (jW @Mu (jW @Mv (jW @Mw (jW @Mx (jW @My (jW @lD (jW @Ff (jW @FY (jW @OE (jW @OG (jW @OH (jW @OI (jW @OJ (jW @OK (jW @OL (jW @OM (jW @OW (jW @OX (jW @OZ (jW @O0 (jW @OR (jW @OO (jW @OP (jW @OQ (jW @List.set_cons_zero.{0} (jW @List.set_cons_succ.{0} (jW @Rr (jW @mT (jW @Kd.ag.injEq (jW @aoq.{0} (jW @aoR.{0} (jW @Ap (jW @Rk (jW @sY (jW @UM (jW @A3 (jW @UN (jW @Ro (jW @OD (jW @apa.{0} (jW @ape.{0} (jW @List.take_succ_cons.{0} (jW @apJ.{0} (jW @List.drop_succ_cons.{0} (jW @List.take_nil.{0} (jW @List.drop_nil.{0} (jW @aoF.{0} (jW @aoL.{0,0} (jW @aqI.{0,0} (jW @Option.bind_some.{0,0} (jW @ne_eq.{1} (jW @not_false_eq_true (@not_true_eq_false)))))))))))))))))))))))))))))))))))))))))))))))))))))))))))))))))))))))))))))))))))))))))))))))))))))))))))))))))))))))))))))))))))))))))))))))))))))))))))))))))))))))))))))))))))))))))))))))))))))))))))))))))))))))))))))))))))))))))))))))))))))))))))))))))))))))))))))))))))))))))))))))))))))))))))))))))))))))))))))))))))))))))):=jW @CL (jW @CM (jW @CN (jW @CO (jW @CP (jW @Bv (jW @Bw (jW @Bz (jW @BC (jW @BD (jW @BE (jW @BF (jW @TC (jW @TD (jW @TE (jW @TF (jW @TG (jW @TH (jW @TI (jW @TJ (jW @TK (jW @TL (jW @TM (jW @TO (jW @TP (jW @TQ (jW @TR (jW @TS (jW @TT (jW @TU (jW @TV (jW @TW (jW @TX (jW @BG (jW @BH (jW @BI (jW @BJ (jW @BK (jW @BL (jW @BM (jW @BN (jW @BO (jW @sx (jW @HH (jW @Gx (jW @TA (jW @TB (jW @Tz (jW @HG (jW @Qr (jW @Xs (jW @Xt (jW @Xu (jW @fc.eq_1 (jW @fc.eq_2 (jW @fc.eq_3 (jW @fc.eq_4 (jW @kT.eq_1 (jW @kT.eq_2 (jW @killAll.eq_1 (jW @killAll.eq_2 (jW @killAll.eq_3 (jW @Y1 (jW @Rx (jW @O1 (jW @Mz (jW @O2 (jW @MA (jW @O3 (jW @O4 (jW @ef.eq_1 (jW @ef.eq_2 (jW @ef.eq_3 (jW @ef.eq_4 (jW @ef.eq_5 (jW @ef.eq_6 (jW @ef.eq_7 (jW @ef.eq_8 (jW @ef.eq_9 (jW @ef.eq_10 (jW @ef.eq_11 (jW @ef.eq_12 (jW @ef.eq_13 (jW @ef.eq_14 (jW @ef.eq_15 (jW @ef.eq_16 (jW @ef.eq_17 (jW @ef.eq_18 (jW @ef.eq_19 (jW @ef.eq_20 (jW @ef.eq_21 (jW @ef.eq_22 (jW @ef.eq_23 (jW @ef.eq_24 (jW @ef.eq_25 (jW @ef.eq_26 (jW @ef.eq_27 (jW @ef.eq_28 (jW @ef.eq_29 (jW @ef.eq_30 (jW @ef.eq_31 (jW @ef.eq_32 (jW @ef.eq_33 (jW @ef.eq_34 (jW @ef.eq_35 (jW @ef.eq_36 (jW @ef.eq_37 (jW @ef.eq_38 (jW @ef.eq_39 (jW @ef.eq_40 (jW @ef.eq_41 (jW @ef.eq_42 (jW @ef.eq_43 (jW @ef.eq_44 (jW @ef.eq_45 (jW @ef.eq_46 (jW @ef.eq_47 (jW @ef.eq_48 (jW @ef.eq_49 (jW @ef.eq_50 (jW @ef.eq_51 (jW @ef.eq_52 (jW @ef.eq_53 (jW @bound.eq_1 (jW @bound.eq_2 (jW @pJ.eq_1 (jW @pJ.eq_2 (jW @pJ.eq_3 (jW @pJ.eq_4 (jW @kB.eq_1 (jW @ee.eq_1 (jW @ee.eq_2 (jW @ee.eq_3 (jW @ee.eq_4 (jW @ee.eq_5 (jW @ee.eq_6 (jW @ee.eq_7 (jW @ee.eq_8 (jW @gv.eq_1 (jW @gv.eq_2 (jW @gv.eq_3 (jW @gv.eq_4 (jW @gv.eq_5 (jW @gv.eq_6 (jW @gv.eq_7 (jW @Rj (jW @lq.eq_1 (jW @lq.eq_2 (jW @parts.eq_1 (jW @parts.eq_2 (jW @elems.eq_1 (jW @elems.eq_2 (jW @je.eq_1 (jW @YZ (jW @Y0 (jW @US (jW @Rv (jW @UT (jW @XL (jW @UU (jW @UV (jW @UW (jW @UX (jW @XM (jW @UY (jW @jJ.eq_1 (jW @jJ.eq_2 (jW @jJ.eq_3 (jW @jJ.eq_4 (jW @vI.eq_1 (jW @vI.eq_2 (jW @iT.eq_1 (jW @iT.eq_2 (jW @iT.eq_3 (jW @fK.eq_1 (jW @fK.eq_2 (jW @fK.eq_3 (jW @fK.eq_4 (jW @gY.eq_1 (jW @gY.eq_2 (jW @gY.eq_3 (jW @fe.eq_1 (jW @fe.eq_2 (jW @fe.eq_3 (jW @fe.eq_4 (jW @fe.eq_5 (jW @fe.eq_6 (jW @fe.eq_7 (jW @fe.eq_8 (jW @fe.eq_9 (jW @fe.eq_10 (jW @oa.eq_1 (jW @jL.eq_1 (jW @jL.eq_2 (jW @jL.eq_3 (jW @toW.eq_1 (jW @toW.eq_2 (jW @fO.eq_1 (jW @fO.eq_2 (jW @fO.eq_3 (jW @fO.eq_4 (jW @kw.eq_1 (jW @kw.eq_2 (jW @fo.eq_1 (jW @fo.eq_2 (jW @fv.eq_1 (jW @fv.eq_2 (jW @fv.eq_3 (jW @ints.eq_1 (jW @ints.eq_2 (jW @ints.eq_3 (jW @fM.eq_1 (jW @fM.eq_2 (jW @fM.eq_3 (jW @nc.eq_1 (jW @nc.eq_2 (jW @nc.eq_3 (jW @nc.eq_4 (jW @W.ro.eq_1 (jW @W.ro.eq_2 (jW @C.ro.eq_1 (jW @C.ro.eq_2 (jW @V.ro.eq_1 (jW @V.ro.eq_2 (jW @V.ro.eq_3 (jW @rT.eq_1 (jW @rT.eq_2 (jW @rT.eq_3 (jW @Kd.size.eq_1 (jW @Kd.size.eq_2 (jW @Ml (jW @Lu (jW @Mm (jW @ON (jW @Mn (jW @eH.eq_1 (jW @cV.eq_1 (jW @cV.eq_2 (jW @Nat.min_def (jW @apu.{0,0} (jW @Option.map_none.{0,0} (jW @Bool.not_true (jW @Bool.not_false (jW @decide_true (jW @decide_false (jW @Bool.and_self (jW @aos.{0,0} (jW @aoA.{0,0} (jW @List.any_cons.{0} (jW @List.any_nil.{0} (jW @apj.{0} (jW @ap1.{0} (jW @apT.{0} (jW @apy.{0} (jW @ao2.{0} (jW @if_true.{1} (jW @if_false.{1} (jW @true_and (jW @and_true (jW @vd.eq_1 (jW @aqu (jW @apS.{0} (jW @ao7.{0} (jW @jF (jW @oH (jW @nO (jW @pZ (jW @OS (jW @OT (jW @XG (jW @XH (jW @Rp (jW @Rq (jW @XI (jW @Ms (jW @Mt (jW @OY (jW @Mu (jW @Mv (jW @Mw (jW @Mx (jW @My (jW @lD (jW @Ff (jW @FY (jW @OE (jW @OG (jW @OH (jW @OI (jW @OJ (jW @OK (jW @OL (jW @OM (jW @OW (jW @OX (jW @OZ (jW @O0 (jW @OR (jW @OO (jW @OP (jW @OQ (jW @List.set_cons_zero.{0} (jW @List.set_cons_succ.{0} (jW @Rr (jW @mT (jW @Kd.ag.injEq (jW @aoq.{0} (jW @aoR.{0} (jW @Ap (jW @Rk (jW @sY (jW @UM (jW @A3 (jW @UN (jW @Ro (jW @OD (jW @apa.{0} (jW @ape.{0} (jW @List.take_succ_cons.{0} (jW @apJ.{0} (jW @List.drop_succ_cons.{0} (jW @List.take_nil.{0} (jW @List.drop_nil.{0} (jW @aoF.{0} (jW @aoL.{0,0} (jW @aqI.{0,0} (jW @Option.bind_some.{0,0} (jW @ne_eq.{1} (jW @not_false_eq_true (@not_true_eq_false)))))))))))))))))))))))))))))))))))))))))))))))))))))))))))))))))))))))))))))))))))))))))))))))))))))))))))))))))))))))))))))))))))))))))))))))))))))))))))))))))))))))))))))))))))))))))))))))))))))))))))))))))))))))))))))))))))))))))))))))))))))))))))))))))))))))))))))))))))))))))))))))))))))))))))))))))))))))))))))))))))))))))
theorem wy:nN (jW @XK (jW @K9 (jW @Rs (jW @OU (jW @Ru (jW @UR (jW @js (jW @vQ (@cond_true.{1}))))))))):=jW @XK (jW @K9 (jW @Rs (jW @OU (jW @Ru (jW @UR (jW @js (jW @vQ (@cond_true.{1}))))))))
theorem wz:nN (jW @Bool.false_and (jW @Bool.and_false (jW @Mq (jW @Nat.sub_zero (jW @Mo (jW @Lv (jW @beq_self_eq_true.{0} (jW @aqC (jW @aqp (jW @YT (jW @YU (jW @YV (jW @YW (jW @YX (jW @YY (jW @apD.{0} (jW @apX (jW @Nat.one_mul (jW @apL (jW @aph (jW @UP (jW @HP (jW @UQ (jW @XJ (jW @aql (jW @Int.natCast_mul (jW @aqw (jW @ap5 (@ap6))))))))))))))))))))))))))))):=jW @Bool.false_and (jW @Bool.and_false (jW @Mq (jW @Nat.sub_zero (jW @Mo (jW @Lv (jW @beq_self_eq_true.{0} (jW @aqC (jW @aqp (jW @YT (jW @YU (jW @YV (jW @YW (jW @YX (jW @YY (jW @apD.{0} (jW @apX (jW @Nat.one_mul (jW @apL (jW @aph (jW @UP (jW @HP (jW @UQ (jW @XJ (jW @aql (jW @Int.natCast_mul (jW @aqw (jW @ap5 (@ap6))))))))))))))))))))))))))))
theorem aH:nN (jW @V.ren.eq_1 (jW @V.ren.eq_2 (jW @V.ren.eq_3 (jW @W.ren.eq_1 (jW @W.ren.eq_2 (jW @C.ren.eq_1 (jW @C.ren.eq_2 (jW @C.ren.eq_3 (jW @C.ren.eq_4 (jW @C.ren.eq_5 (jW @C.ren.eq_6 (jW @V.ids.eq_1 (jW @V.ids.eq_2 (jW @V.ids.eq_3 (jW @W.ids.eq_1 (jW @W.ids.eq_2 (jW @C.ids.eq_1 (jW @C.ids.eq_2 (jW @C.ids.eq_3 (jW @C.ids.eq_4 (jW @C.ids.eq_5 (jW @C.ids.eq_6 (jW @Ob.ren.eq_1 (jW @Ob.ren.eq_2 (jW @Ob.ren.eq_3 (jW @Ob.ren.eq_4 (jW @Ob.ids.eq_1 (jW @Ob.ids.eq_2 (jW @Ob.ids.eq_3 (jW @Ob.ids.eq_4 (jW @ap6 (jW @apD.{0} (jW @Rm (jW @OB (jW @Rn (jW @OC (jW @id_eq.{1} (jW @apX (jW @aqL (jW @aqc (@apf.{0}))))))))))))))))))))))))))))))))))))))))):=jW @V.ren.eq_1 (jW @V.ren.eq_2 (jW @V.ren.eq_3 (jW @W.ren.eq_1 (jW @W.ren.eq_2 (jW @C.ren.eq_1 (jW @C.ren.eq_2 (jW @C.ren.eq_3 (jW @C.ren.eq_4 (jW @C.ren.eq_5 (jW @C.ren.eq_6 (jW @V.ids.eq_1 (jW @V.ids.eq_2 (jW @V.ids.eq_3 (jW @W.ids.eq_1 (jW @W.ids.eq_2 (jW @C.ids.eq_1 (jW @C.ids.eq_2 (jW @C.ids.eq_3 (jW @C.ids.eq_4 (jW @C.ids.eq_5 (jW @C.ids.eq_6 (jW @Ob.ren.eq_1 (jW @Ob.ren.eq_2 (jW @Ob.ren.eq_3 (jW @Ob.ren.eq_4 (jW @Ob.ids.eq_1 (jW @Ob.ids.eq_2 (jW @Ob.ids.eq_3 (jW @Ob.ids.eq_4 (jW @ap6 (jW @apD.{0} (jW @Rm (jW @OB (jW @Rn (jW @OC (jW @id_eq.{1} (jW @apX (jW @aqL (jW @aqc (@apf.{0}))))))))))))))))))))))))))))))))))))))))
theorem aY:nN (jW @aql (jW @Int.natCast_mul (jW @aqw (@ap5)))):=jW @aql (jW @Int.natCast_mul (jW @aqw (@ap5)))
theorem af:nN (jW @wx (jW @wy @wz)):=jW @wx (jW @wy @wz)
theorem aZ {σ:St} {p:Nat×Option Kd} {x:D} (h1:(cV σ p).bind (toW σ.h)=some x:=by simp only[af,aa,seval,iteOmega,toNatUp]):fb σ [p] (.w (.c (.d x))):=td h1
theorem bu {σ:St} {p q:Nat×Option Kd} {x y:D} (h1:(cV σ p).bind (toW σ.h)=some x:=by simp only[af,aa,seval,iteOmega,toNatUp]) (h2:(cV σ q).bind (toW σ.h)=some y:=by simp only[af,aa,seval,iteOmega,toNatUp]):fb σ [p,q] (.tup [.c (.d x),.c (.d y)]):=eW h1 h2
theorem fg {σ:St} {p q r:Nat×Option Kd} {x y z:D} (h1:(cV σ p).bind (toW σ.h)=some x:=by simp only[af,aa,seval,iteOmega,toNatUp]) (h2:(cV σ q).bind (toW σ.h)=some y:=by simp only[af,aa,seval,iteOmega,toNatUp]) (h3:(cV σ r).bind (toW σ.h)=some z:=by simp only[af,aa,seval,iteOmega,toNatUp]):fb σ [p,q,r] (.tup [.c (.d x),.c (.d y),.c (.d z)]):=lG h1 h2 h3
theorem iJ {σ:St} {p:Nat×Option Kd} {sz:Nat} {es:List D} (h1:(cV σ p).bind (po σ.h sz)=some es:=by simp only[af,aa,seval,iteOmega,toNatUp]):fb σ [p] (.w (.c (.fr sz es))):=UZ h1
theorem dZ {σ:St} {p q:Nat×Option Kd} {sz:Nat} {es:List D} {y:D} (h1:(cV σ p).bind (po σ.h sz)=some es:=by simp only[af,aa,seval,iteOmega,toNatUp]) (h2:cV σ q=some (.c (.d y)):=by simp only[af,aa,seval,iteOmega,toNatUp]):fb σ [p,q] (.tup [.c (.fr sz es),.c (.d y)]):=HR h1 h2
theorem sD {P:Program} {G:au} {K:St→Prop} {r:List br} {f:Nat→V} {h:aL} {u:Nat→Bool} {d:Option Nat} {fn:FuncId} {xs:List SX} {own:Option (Nat×Nat)} {ds:List D} {res:V} {q:Prop} (h2:aF P G fn ds res) (e:q)
    (hq:bI (fM h u (d.getD 0) own res) (dS P G d r K f)=q:=by simp only[af,aa,seval,iteOmega,toNatUp]; rfl) (h1:fo h (xs.map (ev G f))=some ds:=by exact rfl)
    (h3:((xs.map (ev G f)).any V.hasOwn=false∨res.flat=true):=by exact .inl rfl) (hne:fn≠jt:=by decide) (hp:mb own (xs.map (ev G f)):=by first | exact uC _ | exact uS _ _ _ | exact uD _ _ rfl):bh P G (⟨d,.call fn xs own,none⟩::r) K ⟨f,h,u⟩ :=
  sC h2 (hq ▸ e) h1 h3 hne hp
def lW (x:UInt8):UInt8:=aX (ik x 1) (if x<128 then 0 else 27)
def px (c:Bool) (v:UInt8):UInt8:=if c then v else 0
def pz (y:UInt8) (i:Nat):Bool:=y.toNat.testBit i
def Kz (x:UInt8):Nat→UInt8
  | 0=>x
  | n+1=>lW (Kz x n)
def Zn (x y:UInt8):Nat→UInt8
  | 0=>0
  | n+1=>aX (Zn x y n) (px (pz y n) (Kz x n))
def lJ (x y:UInt8):UInt8:=Zn x y 8
theorem ML (x y:UInt8):aX x y=aX y x:=UInt8.xor_comm x y
theorem uq (x y z:UInt8):aX (aX x y) z=aX x (aX y z):=UInt8.xor_assoc x y z
theorem Fq (x:UInt8):aX x 0=x:=UInt8.xor_zero
theorem MM (x:UInt8):aX x x=0:=UInt8.xor_self
theorem abc (a b c d:UInt8):aX (aX a b) (aX c d)=aX (aX a c) (aX b d):=by
  rw[uq,← uq b,ML b c,uq c,← uq]
def Kc (f:UInt8→UInt8):Prop:=∀ a b,f (aX a b)=aX (f a) (f b)
theorem acB (x y:UInt8) (i:Nat):pz (aX x y) i=(pz x i ^^ pz y i):=by
  unfold pz aX;rw[UInt8.toNat_xor,apw]
theorem acC (c d:Bool) (v:UInt8):px (c ^^ d) v=aX (px c v) (px d v):=by
  cases c <;> cases d <;> simp[px,aX]
def r7 (f:UInt8→UInt8) (x:UInt8):Nat→UInt8
  | 0=>0
  | n+1=>aX (r7 f x n) (px (pz x n) (f (UInt8.ofNat (2^n))))
theorem Po (f:UInt8→UInt8):∀ n,Kc fun x=>r7 f x n
  | 0=>fun a b=>(MM 0).symm
  | n+1=>fun a b=>by
    show aX (r7 f (aX a b) n) (px (pz (aX a b) n) _)=_
    rw[show r7 f (aX a b) n=aX (r7 f a n) (r7 f b n) from Po f n a b,acB,acC,abc];rfl
theorem ais {f:UInt8→UInt8} (h:∀ x,f x=r7 f x 8):Kc f:=by
  intro a b;rw[h,h a,h b];exact Po f 8 a b
theorem rO {p:UInt8→Bool} (h:((List.range 256).all fun i=>p (UInt8.ofNat i))=true) (x:UInt8):p x=true:=by
  have:=aoE.1 h x.toNat (apI.2 x.toNat_lt)
  simpa using this
theorem aeP:Kc lW:=ais fun x=>by
  have:=rO (p:=fun x=>lW x==r7 lW x 8) (by decide +kernel) x
  simpa using this
def CW (x:UInt8) (n:Nat):UInt8:=pK (ik x n) (il x (8-n))
def Y2 (y:UInt8):UInt8:=aX (aX (aX (aX (aX y (CW y 1)) (CW y 2)) (CW y 3)) (CW y 4)) 99
def Y3 (x:UInt8):UInt8 :=
  let x2:=lJ x x
  let x3:=lJ x2 x
  let x6:=lJ x3 x3
  let x12:=lJ x6 x6
  let x15:=lJ x12 x3
  let x30:=lJ x15 x15
  let x60:=lJ x30 x30
  let x120:=lJ x60 x60
  let x240:=lJ x120 x120
  lJ (lJ x240 x12) x2
def Ke:List UInt8:=(List.range 256).map fun i=>Y2 (Y3 (UInt8.ofNat i))
def gV (x:UInt8):UInt8:=Y2 (Y3 x)
theorem acD (x:UInt8):Ke[x.toNat]?=some (gV x):=by
  unfold Ke gV;rw[apk,apZ x.toNat_lt];simp
instance:Std.Associative aX:=⟨uq⟩
instance:Std.Commutative aX:=⟨ML⟩
def KA (x:UInt8):UInt8:=lJ x 2
def DO (a b c d:UInt8):UInt8:=aX (aX (aX (aX (KA a) (KA b)) b) c) d
abbrev ga:=Nat→UInt8
def lP (s k:ga):ga:=fun j=>aX (s j) (k j)
def mU (s:ga):ga:=fun j=>gV (s (j%4+4*((j / 4+j%4)%4)))
def lQ (t:ga):ga:=fun j=>DO (t (4*(j / 4)+j%4)) (t (4*(j / 4)+(j%4+1)%4)) (t (4*(j / 4)+(j%4+2)%4)) (t (4*(j / 4)+(j%4+3)%4))
def XT (s t:ga):Prop:=∀ j,j<16→s j=t j
def H1 (k:Nat→ga) (s:ga) (n:Nat):ga:=if n<10 then lP (lQ (mU s)) (k n) else lP (mU s) (k n)
def ng (k:Nat→ga) (s:ga):Nat→ga
  | 0=>lP s (k 0)
  | n+1=>H1 k (ng k s n) (n+1)
def mn (n:Nat):UInt8:=Kz 1 n
def vV (t:List UInt8) (n:Nat):List UInt8 :=
  if n%4=0 then [aX (gV (t.getD 1 0)) (mn (n / 4)),gV (t.getD 2 0),gV (t.getD 3 0),gV (t.getD 0 0)]
  else [t.getD 0 0,t.getD 1 0,t.getD 2 0,t.getD 3 0]
def qt (l:List UInt8) (n:Nat):List UInt8 :=
  (List.range 4).map fun k=>aX (l.getD (4*n+k) 0) ((vV (l.drop (12+4*n)) n).getD k 0)
def gz (key:List UInt8):Nat→List UInt8
  | 0=>key
  | n+1=>gz key n++qt (gz key n) n
def bF (key:List UInt8):List UInt8:=gz key 40
theorem abd (l:List UInt8) (n:Nat):(qt l n).length=4:=by simp[qt]
theorem sZ {key:List UInt8} (h:key.length=16):∀ n,(gz key n).length=16+4*n
  | 0=>h
  | n+1=>by rw[gz,aoq,sZ h n,abd]; omega
theorem GY {key:List UInt8} (h:key.length=16):(bF key).length=176:=sZ h 40
def dI (f:ga):List UInt8:=(List.range 16).map f
theorem kg (f:ga):(dI f).length=16:=by simp[dI]
theorem A9 (f:ga) {j:Nat} (h:j<16):(dI f)[j]?=some (f j):=by simp[dI,h]
def bX (l:List UInt8):ga:=fun j=>l.getD j 0
theorem ait {l:List UInt8} (h:l.length=16):dI (bX l)=l:=by
  apply apF;intro i;by_cases hi:i<16
  ·rw[A9 _ hi,bX,aor,aon (by omega)]; rfl
  ·rw[api (by rw[kg]; omega),api (by omega)]
theorem Fs {f g:ga} (h:XT f g):dI f=dI g:=ao1 fun j hj=>h j (apI.1 hj)
def gW (rk:List UInt8) (n:Nat):ga:=fun j=>rk.getD (16*n+j) 0
def ip (rk b:List UInt8):List UInt8:=dI (ng (gW rk) (bX b) 10)
theorem nJ (rk b:List UInt8):(ip rk b).length=16:=kg _
def Ca (key b:List UInt8):List UInt8:=ip (bF key) b
def fw:List UInt8→List UInt8×Bool
  | []=>([],true)
  | x::r=>let (s,c):=fw r; if c then ((x+1)::s,x+1==0) else (x::s,false)
def qu (c:List UInt8):List UInt8:=(fw c).1
theorem F0:∀ c,(fw c).1.length=c.length
  | []=>rfl
  | x::r=>by
    have:=F0 r;simp only[fw];split <;> simp[this]
theorem MN (c:List UInt8):(qu c).length=c.length:=F0 c
def jf (c:List UInt8):Nat→List UInt8
  | 0=>c
  | n+1=>qu (jf c n)
theorem Pp (c:List UInt8):∀ n,(jf c n).length=c.length
  | 0=>rfl
  | n+1=>by rw[jf,MN,Pp c n]
def tO (rk c:List UInt8):Nat→List UInt8
  | 0=>[]
  | n+1=>tO rk c n++ip rk (jf c n)
theorem uJ (rk c:List UInt8):∀ n,(tO rk c n).length=16*n
  | 0=>rfl
  | n+1=>by rw[tO,aoq,uJ rk c n,nJ]; omega
def r8 (a b:List UInt8):List UInt8:=List.zipWith aX a b
def jK (rk c b:List UInt8):List UInt8:=r8 b (tO rk c ((b.length+15) / 16))
theorem Pq {a b:List UInt8} (h:a.length≤b.length):(r8 a b).length=a.length:=by
  simp[r8]; omega
theorem z6 (rk c b:List UInt8):(jK rk c b).length=b.length:=Pq (by rw[uJ]; omega)
theorem Lw:∀ {a b:List UInt8},a.length≤b.length→r8 (r8 a b) b=a
  | [],_,_=>by simp[r8]
  | x::a,[],h=>by simp at h
  | x::a,y::b,h=>by
    have h1:=Lw (a:=a) (b:=b) (by simpa using h);simp only[r8,List.zipWith_cons_cons,List.cons.injEq] at h1 ⊢;exact⟨by rw[uq,MM,Fq],h1⟩
theorem ZK (rk c b:List UInt8):jK rk c (jK rk c b)=b:=by
  unfold jK;have h:b.length≤(tO rk c ((b.length+15) / 16)).length:=by rw[uJ]; omega
  rw[Pq h,Lw h]
def Kf (b:ga):ga:=fun j=>aX (aX (ik (b j) 1) (if j<15 then il (b (j+1)) 7 else 0)) (if j=15 then px (pz (b 0) 7) 135 else 0)
theorem aiF (x y:UInt8):pK (ik x 1) (il y 7)=aX (ik x 1) (il y 7):=by
  have h:il y 7=0∨il y 7=1:=by
    have:=rO (p:=fun y=>il y 7==0 || il y 7==1) (by decide +kernel) y
    simpa using this
  rcases h with h | h <;> rw[h]
  ·have:=rO (p:=fun x=>pK (ik x 1) 0==aX (ik x 1) 0) (by decide +kernel) x;rw[beq_iff_eq] at this; exact this
  ·have:=rO (p:=fun x=>pK (ik x 1) 1==aX (ik x 1) 1) (by decide +kernel) x;rw[beq_iff_eq] at this; exact this
def jh (b:List UInt8):List UInt8:=if b.length=16 then dI (Kf (bX b)) else []
theorem sV {b:List UInt8} (h:b.length=16):(jh b).length=16:=by rw[jh,if_pos h,kg]
def eL:List UInt8→List UInt8→List UInt8
  | x::a,y::b=>aX x y::eL a b
  | a,_=>a
theorem mP:∀ a b:List UInt8,(eL a b).length=a.length
  | [],_=>by simp[eL]
  | x::a,[]=>rfl
  | x::a,y::b=>by simp[eL,mP a b]
theorem Pw:∀ (a b:List UInt8) (i:Nat),i<a.length→i<b.length→(eL a b).getD i 0=aX (a.getD i 0) (b.getD i 0)
  | [],_,_,h,_=>by simp at h
  | x::a,[],_,_,h=>by simp at h
  | x::a,y::b,0,_,_=>rfl
  | x::a,y::b,i+1,h,g=>by
    show (eL a b).getD i 0=_
    rw[Pw a b i (by simpa using h) (by simpa using g)]; rfl
def km:List UInt8:=List.replicate 16 0
def nh (b:List UInt8):List UInt8:=b++List.replicate ((16-b.length%16)%16) 0
def nj (rk:List UInt8):List UInt8:=jh (ip rk km)
def qD (rk:List UInt8):List UInt8:=jh (nj rk)
def lR (rk b:List UInt8):Nat→List UInt8
  | 0=>km
  | n+1=>ip rk (eL (lR rk b n) ((b.drop (16*n)).take 16))
def ti (b:List UInt8):Nat:=(b.length+15) / 16-1
def qF (rk e:List UInt8):List UInt8:=if e.length=16 then eL e (nj rk) else eL (nh (e++[128])) (qD rk)
def mo (rk b:List UInt8):List UInt8:=ip rk (eL (lR rk b (ti b)) (qF rk (b.drop (16*ti b))))
theorem Ax (rk b:List UInt8):∀ n,(lR rk b n).length=16
  | 0=>by simp[lR,km]
  | n+1=>nJ _ _
theorem Ay (rk b:List UInt8):(mo rk b).length=16:=nJ _ _
theorem F5 (rk:List UInt8):(nj rk).length=16:=sV (nJ _ _)
theorem acS (rk:List UInt8):(qD rk).length=16:=sV (F5 _)
theorem E3 {b:List UInt8} (h:b.length<16):(nh (b++[128])).length=16:=by
  simp[nh]; omega
theorem acT {rk e:List UInt8} (h:e.length≤16):(qF rk e).length=16:=by
  unfold qF;split
  ·rw[mP]; assumption
  ·rw[mP,E3 (by omega)]
def mq (rk:List UInt8) (l:List (List UInt8)):Nat→List UInt8
  | 0=>mo rk km
  | n+1=>eL (jh (mq rk l n)) (mo rk (l.getD n []))
def od (rk:List UInt8) (l:List (List UInt8)):List UInt8 :=
  if l.length=0 then mo rk (List.replicate 15 0++[1])
  else
    let d:=mq rk l (l.length-1)
    let s:=l.getD (l.length-1) []
    if 16≤s.length then mo rk (s.take (s.length-16)++eL (s.drop (s.length-16)) d)
    else mo rk (eL (jh d) (nh (s++[128])))
theorem Px (rk:List UInt8) (l:List (List UInt8)):∀ n,(mq rk l n).length=16
  | 0=>Ay _ _
  | n+1=>by rw[mq,mP,sV (Px rk l n)]
theorem acU (rk:List UInt8) (l:List (List UInt8)):(od rk l).length=16:=by
  unfold od;split
  ·exact Ay _ _
  ·dsimp only;split <;> exact Ay _ _
theorem tF {σ:St} {p q r s:Nat×Option Kd} {x y z t:D} (h1:(cV σ p).bind (toW σ.h)=some x) (h2:(cV σ q).bind (toW σ.h)=some y) (h3:(cV σ r).bind (toW σ.h)=some z) (h4:(cV σ s).bind (toW σ.h)=some t):fb σ [p,q,r,s] (.tup [.c (.d x),.c (.d y),.c (.d z),.c (.d t)]):=by
  obtain⟨w1,e1,f1⟩:=ao4.1 h1;obtain⟨w2,e2,f2⟩:=ao4.1 h2;obtain⟨w3,e3,f3⟩:=ao4.1 h3;obtain⟨w4,e4,f4⟩:=ao4.1 h4;exact⟨[w1,w2,w3,w4],by simp[bB,e1,e2,e3,e4],.inr (.cons ⟨_,rfl,f1⟩ (.cons ⟨_,rfl,f2⟩ (.cons ⟨_,rfl,f3⟩ (.cons ⟨_,rfl,f4⟩ .nil))))⟩
theorem zs {σ:St} {p q r s:Nat×Option Kd} {x y z t:D} (h1:(cV σ p).bind (toW σ.h)=some x:=by simp only[af,aa,seval,iteOmega,toNatUp] <;> rfl) (h2:(cV σ q).bind (toW σ.h)=some y:=by simp only[af,aa,seval,iteOmega,toNatUp] <;> rfl) (h3:(cV σ r).bind (toW σ.h)=some z:=by simp only[af,aa,seval,iteOmega,toNatUp] <;> rfl) (h4:(cV σ s).bind (toW σ.h)=some t:=by simp only[af,aa,seval,iteOmega,toNatUp] <;> rfl):fb σ [p,q,r,s] (.tup [.c (.d x),.c (.d y),.c (.d z),.c (.d t)]):=tF h1 h2 h3 h4
theorem aaj {σ:St} {p q:Nat×Option Kd} {id sz n s:Nat} {full:List D} {y:D} (h1:cV σ p=some (.c (.own id sz 0 n))) (e:σ.h id=some (.row s full)) (hn:n≤full.length) (h2:cV σ q=some (.c (.d y))):fb σ [p,q] (.tup [.c (.fr sz (full.take n)),.c (.d y)]):=by
  refine⟨[.c (.own id sz 0 n),.c (.d y)],by simp[bB,h1,h2],.inl ⟨by simp[W.ids,C.ids],.cons ⟨rfl,rfl,?_⟩ (.cons ?_ .nil)⟩⟩
  ·rw[e];exact⟨by simp[fv,hn],trivial⟩
  ·cases y <;> rfl

theorem jM {a b : Prop} (l : a) (r : b) : a ∧ b := And.intro l r
section
variable {P:Program} {G:au} {K:St→Prop} {r:List br} {f:Nat→V} {h:aL} {u:Nat→Bool} {d:Option Nat} {x y t:SX}
def Zq (P:Program) (G:au) (d:Option Nat) (r:List br) (K:St→Prop) (f:Nat→V) (h:aL) (u:Nat→Bool) (q:IntKind) (_:IntKind×Int):Prop:=bI (eS h u (d.getD 0) (.mp q []) (.mp (8*d.getD 0))) (dS P G d r K f)
theorem S8 (q:IntKind):bh P G (⟨d,.mkMp q none,none⟩::r) K ⟨f,h,u⟩=bI (eS h u (d.getD 0) (.mp q []) (.mp (8*d.getD 0))) (dS P G d r K f):=by rw[db _ rfl]; rfl
theorem Qd (q:IntKind):bh P G (⟨d,.mkMp q (some x),none⟩::r) K ⟨f,h,u⟩=bI (fX (ev G f x)) (Zq P G d r K f h u q):=by
  rw[db _ rfl]
  show bI (if (fX (ev G f x)).isSome=true then _ else none) _=_
  cases fX (ev G f x) <;> rfl
theorem WL (q:IntKind) (p:IntKind×Int):Zq P G d r K f h u q p=bI (eS h u (d.getD 0) (.mp q []) (.mp (8*d.getD 0))) (dS P G d r K f):=rfl
theorem Qe (q:IntKind) (z:D) (co:Bool):bh P G (⟨d,.mpGet q z co x y,none⟩::r) K ⟨f,h,u⟩=bI (kv h q z co (ev G f x) (fX (ev G f y))) (Kx P G d r K f h u):=by
  rw[db _ rfl]; exact iO _ _ _
theorem Qf (q:IntKind):bh P G (⟨d,.mpSet q x y t,none⟩::r) K ⟨f,h,u⟩=bI (wi h q (wg (ev G f x)) (fX (ev G f y)) (wh (ev G f t))) (Ef P G d r K f u):=by
  rw[db _ rfl]; exact iO _ _ _
def goT (P:Program) (G:au) (d:Option Nat) (r:List br) (K:St→Prop) (f:Nat→V) (h:aL) (u:Nat→Bool) (p:IntKind×List (Int×D)):Prop:=bI (eS h u (d.getD 0) (.it p.1 p.2 none) (.ptr (8*d.getD 0) 1 0 0)) (dS P G d r K f)
theorem Nb:bh P G (⟨d,.mpIter x,none⟩::r) K ⟨f,h,u⟩=bI (vH (ev G f x)) (goT P G d r K f h u):=by
  rw[db _ rfl]
  show bI (match vH (ev G f x) with | some p=>_ | none=>none) _=_
  cases vH (ev G f x) <;> rfl
theorem WM (q:IntKind) (es:List (Int×D)):goT P G d r K f h u (q,es)=bI (eS h u (d.getD 0) (.it q es none) (.ptr (8*d.getD 0) 1 0 0)) (dS P G d r K f):=rfl
theorem Qg:bh P G (⟨d,.mpEnt x,none⟩::r) K ⟨f,h,u⟩=bI (rS h (ev G f x)) (Kx P G d r K f h u):=by
  rw[db _ rfl]; exact iO _ _ _
theorem S9 (id s:Nat):rS h (.w (.c (.ptr id s 0 0)))=Dx (h id):=rfl
theorem Ta (q:IntKind) (l:List (Int×D)) (p:Int×D):Dx (some (.it q l (some p)))=some (.tup [.c (.d (.int q p.1)),.c (.d p.2)]):=rfl
theorem Tb (q:IntKind) (es:List (Int×D)):vH (.w (.c (.d (.mp q es))))=some (q,es):=rfl
theorem Tc (id:Nat):wg (.w (.c (.mp id)))=some id:=rfl
theorem WN (x:C):wh (.w (.c x))=some x:=rfl
def Do (q:IntKind) (z:D) (co:Bool) (n:Int):Option Ob→Option V
  | some (.mp q' es)=>if q'=q then some (nb co (bJ es n) (zC z)) else none
  | _=>none
theorem Td (q:IntKind) (z:D) (co:Bool) (id:Nat) (n:Int):kv h q z co (.w (.c (.mp id))) (some (q,n))=Do q z co n (h id):=by
  unfold kv Do;simp only[true_and];rfl
theorem Qh (q:IntKind) (z:D) (co:Bool) (n:Int) (es:List (Int×C)):Do q z co n (some (.mp q es))=some (nb co (bJ es n) (zC z)):=by simp[Do]
theorem Te (q:IntKind) (z:D) (es:List (Int×D)) (n:Int):kv h q z false (.w (.c (.d (.mp q es)))) (some (q,n))=some (.w (.c (.d ((bJ es n).getD z)))):=by
  unfold kv nb;rcases hl:bJ es n with _ | v <;> simp[hl]
theorem Tf (q:IntKind) (z:D) (es:List (Int×D)) (n:Int):kv h q z true (.w (.c (.d (.mp q es)))) (some (q,n))=some (.tup [.c (.d ((bJ es n).getD z)),.c (.d (.bool (bJ es n).isSome))]):=by
  unfold kv nb;rcases hl:bJ es n with _ | v <;> simp[hl]
theorem WO (o:Option C) (z:C):nb false o z=.w (.c (o.getD z)):=rfl
theorem WP (o:Option C) (z:C):nb true o z=.tup [.c (o.getD z),.c (.d (.bool o.isSome))]:=rfl
theorem WQ:zC (.sl [])=.nil:=rfl
theorem Tg (b:Bool):zC (.bool b)=.d (.bool b):=rfl
theorem WR (k:IntKind) (n:Int):zC (.int k n)=.d (.int k n):=rfl
def Dp (h:aL) (q:IntKind) (id:Nat) (n:Int) (d:C):Option Ob→Option aL
  | some (.mp q' es)=>if q'=q then some (upd h id (some (.mp q (dE es n d)))) else none
  | _=>none
theorem Ti (q:IntKind) (id:Nat) (n:Int) (d:C):wi h q (some id) (some (q,n)) (some d)=Dp h q id n d (h id):=by
  unfold wi Dp;simp only[true_and];rfl
theorem Qi (q:IntKind) (id:Nat) (n:Int) (d:C) (es:List (Int×C)):Dp h q id n d (some (.mp q es))=some (upd h id (some (.mp q (dE es n d)))):=by simp[Dp]
theorem WS (id:Nat):(C.mp id).ids=[id]:=rfl
theorem WT (g:Nat→Nat) (id:Nat):(C.mp id).ren g=.mp (g id):=rfl
def lC (es:List (Int×D)):List (Int×C):=es.map fun p=>(p.1,.d p.2)
theorem Tj:lC []=[]:=rfl
theorem Tk (es:List (Int×D)) (n:Int):bJ (lC es) n=(bJ es n).map C.d:=by
  induction es with
  | nil=>rfl
  | cons p r ih =>
    obtain⟨y,x⟩:=p;by_cases e:y=n
    ·subst e; simp[bJ,lC]
    ·have k1:bJ ((y,x)::r) n=bJ r n:=by unfold bJ; rw[apl (by simpa using e)]
     have k2:bJ (lC ((y,x)::r)) n=bJ (lC r) n:=by unfold bJ lC; rw[aos,apl (by simpa using e)]
     rw[k1,k2,ih]
theorem Qj (es:List (Int×D)) (n:Int) (d:D):dE (lC es) n (.d d)=lC (dE es n d):=by
  induction es with
  | nil=>rfl
  | cons p r ih =>
    obtain⟨y,x⟩:=p;simp only[lC,aos,dE] at *
    split
    ·rfl
    ·rw[ih]; rfl
theorem Hw (es:List (Int×D)):(lC es).flatMap (fun p=>p.2.ids)=[]:=by
  induction es with
  | nil=>rfl
  | cons p r ih=>simp only[lC,aos,aoL] at *; rw[ih]; rfl
theorem Tl (g:Nat→Nat) (es:List (Int×D)):(lC es).map (fun p=>(p.1,p.2.ren g))=lC es:=by
  induction es with
  | nil=>rfl
  | cons p r ih=>simp only[lC,aos] at *; rw[ih]; rfl
theorem fi:nN (jM @S8 (jM @Qd (jM @WL (jM @Qe (jM @Qf (jM @Nb (jM @WM (jM @Qg (jM @S9 (jM @Ta (jM @Tb (jM @Tc (jM @WN (jM @Td (jM @Qh (jM @Te (jM @Tf (jM @WO (jM @WP (jM @WQ (jM @Tg (jM @WR (jM @Ti (jM @Qi (jM @WS (jM @WT (jM @Tj (jM @Tk (jM @Qj (jM @Hw (jM @Tl (jM @apx.{0} (@apP.{0}))))))))))))))))))))))))))))))))) :=
  jM @S8 (jM @Qd (jM @WL (jM @Qe (jM @Qf (jM @Nb (jM @WM (jM @Qg (jM @S9 (jM @Ta (jM @Tb (jM @Tc (jM @WN (jM @Td (jM @Qh (jM @Te (jM @Tf (jM @WO (jM @WP (jM @WQ (jM @Tg (jM @WR (jM @Ti (jM @Qi (jM @WS (jM @WT (jM @Tj (jM @Tk (jM @Qj (jM @Hw (jM @Tl (jM @apx.{0} (@apP.{0}))))))))))))))))))))))))))))))))
end
theorem WU {P:Program} {G:au} {Q:AX→St→Prop} {f:Nat→V} {h:aL} {u:Nat→Bool} {dn:Nat} {x:SX} {rest:List br} {id s:Nat} {q:IntKind} {left:List (Int×D)} {last:Option (Int×D)} (hx:ev G f x=.w (.c (.ptr id s 0 0))) (hi:h id=some (.it q left last))
    (k1:left=[]→bh P G rest (Q .nrm) ⟨upd f dn (.tup [.c (.d (.bool false))]),h,u⟩)
    (k2:∀ j p,left[j]?=some p→bh P G rest (Q .nrm) ⟨upd f dn (.tup [.c (.d (.bool true)),.c (.d (.int q p.1)),.c (.d p.2)]),upd h id (some (.it q (left.eraseIdx j) (some p))),u⟩):cD P G (.nextM dn x rest) Q ⟨f,h,u⟩:=by
  show BP _ dn _ (ev G f x)
  rw[hx]
  show (match h id with | some (.it q left _)=>_ | _=>False)
  rw[hi];exact⟨k1,k2⟩
theorem akW {P:Program} {G:au} {Q:AX→St→Prop} {f:Nat→V} {h:aL} {u:Nat→Bool} {t id:Nat} {c:bq} {q:IntKind} {es:List (Int×C)} {ds:List (Int×D)} (hx:f t=.w (.c (.mp id))) (hi:h id=some (.mp q es)) (hd:qn h es=some ds)
    (k:cD P G c Q ⟨upd f t (vd (.mp q ds)),upd (killAll h (es.map (·.2))) id none,u⟩):cD P G (.ghost t c) Q ⟨f,h,u⟩:=by
  show (match rW ⟨f,h,u⟩ t with | some τ=>cD P G c Q τ | none=>False)
  have:rW ⟨f,h,u⟩ t=some ⟨upd f t (vd (.mp q ds)),upd (killAll h (es.map (·.2))) id none,u⟩:=by
    unfold rW;simp only[hx,hi,hd,apu]
  rw[this];exact k
theorem agQ {α:Type} (x:Int):bJ ([]:List (Int×α)) x=none:=rfl
theorem Tm {α:Type} (es:List (Int×α)) (x y:Int) (v:α):bJ (dE es x v) y=if y=x then some v else bJ es y:=by
  induction es with
  | nil =>
    by_cases h:y=x
    ·subst h; simp[dE,bJ]
    ·rw[if_neg h];unfold bJ dE;rw[apl (by simpa using fun e=>h e.symm)]
  | cons p r ih =>
    obtain⟨k,w⟩:=p;simp only[dE];by_cases hk:k=x
    ·subst hk;rw[if_pos rfl];by_cases h:y=k
     ·subst h; simp[bJ]
     ·rw[if_neg h];unfold bJ;rw[apl (by simpa using fun e=>h e.symm),apl (by simpa using fun e=>h e.symm)]
    ·rw[if_neg hk];by_cases h:y=k
     ·subst h;rw[if_neg hk];simp[bJ]
     ·have e1:bJ ((k,w)::dE r x v) y=bJ (dE r x v) y:=by
        unfold bJ; rw[apl (by simpa using fun e=>h e.symm)]
      have e2:bJ ((k,w)::r) y=bJ r y:=by
        unfold bJ; rw[apl (by simpa using fun e=>h e.symm)]
      rw[e1,e2,ih]
end Go.Proofs.YtofonnokanoflaaGreatDoor
