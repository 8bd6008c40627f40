/- Texts of one's own, merged: from: The plain logic (20): words of 32 bits. Own work. -/
import Derived.Laws.BitsLemmas
import Derived.Laws.Bits64
import Derived.Laws.BitsAllLaws
import Derived.Test.YtnjhelpgohdajaaGreatDoorMg16
set_option linter.unusedVariables false
set_option linter.unusedSimpArgs false
namespace Go.Proofs.YtnjhelpgohdajaaGreatDoor
open Go.RowKit IntWalk
def ip (x y:UInt32):UInt32:=x ^^^ y
def pJ (x y:UInt32):UInt32:=x &&& y
def oD (x y:UInt32):UInt32:=x ||| y
def cb (x y:UInt32):UInt32:=x+y
def wP (x:UInt32):UInt32:=UInt32.ofNat (4294967295-x.toNat)
def qR (x:UInt32) (n:Nat):UInt32:=UInt32.ofNat (x.toNat / 2^n)
def pK (x:UInt32) (n:Nat):UInt32:=UInt32.ofNat (x.toNat*2^n)
def lq (x:UInt32) (n:Nat):UInt32:=oD (qR x n) (pK x (32-n))
def qF (b:UInt8):UInt32:=UInt32.ofNat b.toNat
theorem word_lt (x:UInt32):x.toNat<4294967296:=x.toNat_lt
theorem X5 (x y:UInt32):bits .xor .u32 (x.toNat:Int) (y.toNat:Int)=((ip x y).toNat:Int):=by
  rw[u32_xor_nat _ _ (word_lt x) (word_lt y)]; simp[ip]
theorem X6 (x y:UInt32):bits .and .u32 (x.toNat:Int) (y.toNat:Int)=((pJ x y).toNat:Int):=by
  rw[u32_and_nat _ _ (word_lt x) (word_lt y)]; simp[pJ]
theorem aaA (x y:UInt32):bits .or .u32 (x.toNat:Int) (y.toNat:Int)=((oD x y).toNat:Int):=by
  rw[u32_or_nat _ _ (word_lt x) (word_lt y)]; simp[oD]
theorem X7 (x y:UInt32):IntKind.u32.wrap ((x.toNat:Int)+(y.toNat:Int))=((cb x y).toNat:Int):=by
  rw[IntKind.wrap_u32]; simp[cb]
theorem aaB (x:UInt32) (n:Nat):(x.toNat:Int) / 2^n=((qR x n).toNat:Int):=by
  have h:x.toNat / 2^n<4294967296:=arG (Nat.div_le_self _ _) (word_lt x);unfold qR;rw[UInt32.toNat_ofNat_of_lt' (by simpa [UInt32.size] using h)];simp
theorem aaC (x:UInt32) (n:Nat):(x.toNat:Int)*2^n%4294967296=((pK x n).toNat:Int):=by
  unfold pK;simp
theorem aaD (x:UInt32):(4294967295:Int)-(x.toNat:Int)=((wP x).toNat:Int):=by
  have h:=word_lt x;unfold wP;rw[UInt32.toNat_ofNat_of_lt' (by simp[UInt32.size]; omega)];omega
theorem Mz (b:UInt8):(b.toNat:Int)=((qF b).toNat:Int):=by
  have h:=b.toNat_lt;unfold qF;rw[UInt32.toNat_ofNat_of_lt' (by simp[UInt32.size]; omega)]
theorem X8 (x y:UInt32):db .xor (.w (.c (.d (wD x)))) (.w (.c (.d (wD y))))=some (wD (ip x y)):=by
  show cS .xor .u32 (x.toNat:Int) .u32 (y.toNat:Int)=_
  rw[Ga,X5]; rfl
theorem X9 (x y:UInt32):db .and (.w (.c (.d (wD x)))) (.w (.c (.d (wD y))))=some (wD (pJ x y)):=by
  show cS .and .u32 (x.toNat:Int) .u32 (y.toNat:Int)=_
  rw[F9,X6]; rfl
theorem aaE (x y:UInt32):db .or (.w (.c (.d (wD x)))) (.w (.c (.d (wD y))))=some (wD (oD x y)):=by
  show cS .or .u32 (x.toNat:Int) .u32 (y.toNat:Int)=_
  rw[G7,aaA]; rfl
theorem Ya (x y:UInt32):db .add (.w (.c (.d (wD x)))) (.w (.c (.d (wD y))))=some (wD (cb x y)):=by
  show cS .add .u32 (x.toNat:Int) .u32 (y.toNat:Int)=_
  rw[F6,X7]; rfl
theorem Yb (x:UInt32) (k:IntKind) (n:Int) (h:0≤n):db .shl (.w (.c (.d (wD x)))) (.w (.c (.d (.int k n))))=some (wD (pK x (min n.toNat 32))):=by
  show cS .shl .u32 (x.toNat:Int) k n=_
  rw[Gb _ _ _ _ h,IntKind.wrap_u32]
  show some (D.int .u32 ((x.toNat:Int)*2^min n.toNat 32%4294967296))=_
  rw[aaC]; rfl
theorem Yc (x:UInt32) (k:IntKind) (n:Int) (h:0≤n):db .shr (.w (.c (.d (wD x)))) (.w (.c (.d (.int k n))))=some (wD (qR x (min n.toNat 32))):=by
  show cS .shr .u32 (x.toNat:Int) k n=_
  rw[Gd _ _ _ _ h]
  show some (D.int .u32 ((x.toNat:Int) / 2^min n.toNat 32))=_
  rw[aaB]; rfl
theorem aaF (x:UInt32):pS .xor (.w (.c (.d (wD x))))=some (wD (wP x)):=by
  have:bits .xor .u32 4294967295 (x.toNat:Int)=(4294967295:Int)-(x.toNat:Int):=by
    have h:=x.toNat_lt;have h2:4294967295 ^^^ x.toNat=4294967295-x.toNat:=by
      have e:=congrArg BitVec.toNat (BitVec.allOnes_xor (x:=BitVec.ofNat 32 x.toNat));rw[BitVec.toNat_xor,BitVec.toNat_not,BitVec.toNat_allOnes,BitVec.toNat_ofNat,ar3 (by omega)] at e;omega
    have h3:=u32_xor_nat 4294967295 x.toNat (by decide) h;rw[h2] at h3;have h4:((4294967295:Nat):Int)=4294967295:=rfl;rw[h4] at h3;omega
  show some (D.int .u32 (bits .xor .u32 4294967295 (x.toNat:Int)))=_
  rw[this,aaD]; rfl
theorem Yd (x y:UInt32):db .eql (.w (.c (.d (wD x)))) (.w (.c (.d (wD y))))=some (.bool (x==y)):=by
  show cS .eql .u32 (x.toNat:Int) .u32 (y.toNat:Int)=_
  rw[F7];by_cases h:x=y
  ·subst h; simp
  ·have:¬ ((x.toNat:Int)=(y.toNat:Int)):=fun e=>h (UInt32.toNat_inj.1 (by omega))
   simp[this,h]
theorem Ye (x y:UInt32):db .neq (.w (.c (.d (wD x)))) (.w (.c (.d (wD y))))=some (.bool (x != y)):=by
  show cS .neq .u32 (x.toNat:Int) .u32 (y.toNat:Int)=_
  rw[F8];by_cases h:x=y
  ·subst h; simp
  ·have:¬ ((x.toNat:Int)=(y.toNat:Int)):=fun e=>h (UInt32.toNat_inj.1 (by omega))
   simp[this,h]
theorem aaG (b:UInt8):D.int .u32 (IntKind.u32.wrap (b.toNat:Int))=wD (qF b):=by
  have h:=b.toNat_lt;rw[IntWalk.u32_in _ (by omega),Mz]; rfl
def a9 (x y:UInt8):UInt8:=x ^^^ y
def sI (x y:UInt8):UInt8:=x &&& y
def pT (x y:UInt8):UInt8:=x ||| y
def iq (x:UInt8) (n:Nat):UInt8:=UInt8.ofNat (x.toNat*2^n)
def ir (x:UInt8) (n:Nat):UInt8:=UInt8.ofNat (x.toNat / 2^n)
theorem rI (x:UInt8):x.toNat<256:=x.toNat_lt
theorem mo (x y:UInt8):db .xor (.w (.c (.d (bD x)))) (.w (.c (.d (bD y))))=some (bD (a9 x y)):=by
  show cS .xor .u8 (x.toNat:Int) .u8 (y.toNat:Int)=_
  rw[Ga,u8_xor_nat _ _ (rI x) (rI y)]; simp[a9,bD]
theorem MA (x y:UInt8):db .and (.w (.c (.d (bD x)))) (.w (.c (.d (bD y))))=some (bD (sI x y)):=by
  show cS .and .u8 (x.toNat:Int) .u8 (y.toNat:Int)=_
  rw[F9,u8_and_nat _ _ (rI x) (rI y)]; simp[sI,bD]
theorem NQ (x y:UInt8):db .or (.w (.c (.d (bD x)))) (.w (.c (.d (bD y))))=some (bD (pT x y)):=by
  show cS .or .u8 (x.toNat:Int) .u8 (y.toNat:Int)=_
  rw[G7,u8_or_nat _ _ (rI x) (rI y)]; simp[pT,bD]
theorem Yf (x:UInt8) (k:IntKind) (n:Int) (h:0≤n):db .shl (.w (.c (.d (bD x)))) (.w (.c (.d (.int k n))))=some (bD (iq x (min n.toNat 8))):=by
  show cS .shl .u8 (x.toNat:Int) k n=_
  rw[Gb _ _ _ _ h,IntKind.wrap_u8]
  show some (D.int .u8 ((x.toNat:Int)*2^min n.toNat 8%256))=_
  have:(x.toNat:Int)*2^min n.toNat 8%256=((iq x (min n.toNat 8)).toNat:Int):=by unfold iq; simp
  rw[this]; rfl
theorem Yg (x:UInt8) (k:IntKind) (n:Int) (h:0≤n):db .shr (.w (.c (.d (bD x)))) (.w (.c (.d (.int k n))))=some (bD (ir x (min n.toNat 8))):=by
  show cS .shr .u8 (x.toNat:Int) k n=_
  rw[Gd _ _ _ _ h]
  show some (D.int .u8 ((x.toNat:Int) / 2^min n.toNat 8))=_
  have:(x.toNat:Int) / 2^min n.toNat 8=((ir x (min n.toNat 8)).toNat:Int):=by
    have h:x.toNat / 2^min n.toNat 8<256:=arG (Nat.div_le_self _ _) (rI x);unfold ir;rw[UInt8.toNat_ofNat_of_lt' (by simpa [UInt8.size] using h)];simp
  rw[this]; rfl
theorem Yh (x y:UInt8):db .eql (.w (.c (.d (bD x)))) (.w (.c (.d (bD y))))=some (.bool (x==y)):=by
  show cS .eql .u8 (x.toNat:Int) .u8 (y.toNat:Int)=_
  rw[F7];by_cases h:x=y
  ·subst h; simp
  ·have:¬ ((x.toNat:Int)=(y.toNat:Int)):=fun e=>h (UInt8.toNat_inj.1 (by omega))
   simp[this,h]
theorem Yi (x y:UInt8):db .neq (.w (.c (.d (bD x)))) (.w (.c (.d (bD y))))=some (.bool (x != y)):=by
  show cS .neq .u8 (x.toNat:Int) .u8 (y.toNat:Int)=_
  rw[F8];by_cases h:x=y
  ·subst h; simp
  ·have:¬ ((x.toNat:Int)=(y.toNat:Int)):=fun e=>h (UInt8.toNat_inj.1 (by omega))
   simp[this,h]
theorem apA (G:au) (f:Nat→V):ev G f .u=.undef:=rfl
def Ub (P:Program) (G:au) (d:Option Nat) (r:List bi) (K:St→Prop) (f:Nat→V) (h:aI) (u:Nat→Bool) (F:Nat) (ds:List D):Prop:=bg P G r K ⟨bY f d (.w (.c (.d (.fn F ds)))),h,u⟩
theorem adB (P:Program) (G:au) (d:Option Nat) (r:List bi) (K:St→Prop) (f:Nat→V) (h:aI) (u:Nat→Bool) (F:Nat) (xs:List SX):bg P G (⟨d,.clos F xs,none⟩::r) K ⟨f,h,u⟩=bI (im (xs.map (ev G f))) (Ub P G d r K f h u F):=by
  show (match (im (xs.map (ev G f))).map fun ds=>((.w (.c (.d (.fn F ds))),h,u):R) with | some r=>_ | none=>False)=_
  cases im (xs.map (ev G f)) <;> rfl
theorem aaH (P:Program) (G:au) (d:Option Nat) (r:List bi) (K:St→Prop) (f:Nat→V) (h:aI) (u:Nat→Bool) (F:Nat) (ds:List D):Ub P G d r K f h u F ds=bg P G r K ⟨bY f d (.w (.c (.d (.fn F ds)))),h,u⟩:=rfl
theorem Yj:im []=some []:=rfl
theorem aaI (cs:List D) (r:List V):im (.w (.c (.rp cs))::r)=(im r).map fun l=>.ref cs::l:=by
  simp only[im,pG]; cases im r <;> rfl
theorem Yk (k:IntKind) (n:Int) (r:List V):im (.w (.c (.d (.int k n)))::r)=(im r).map fun l=>.int k n::l:=by
  simp only[im,pG]; cases im r <;> rfl
theorem aaJ (es:List D) (r:List V):im (.w (.c (.d (.sl es)))::r)=(im r).map fun l=>.sl es::l:=by
  simp only[im,pG]; cases im r <;> rfl
def KH (P:Program) (G:au) (body:bp) (K:AX→St→Prop) (e:AX) (s:St):Prop:=match e with | .nrm=>cE P G body K s | _=>False
def KI (f0:Nat→V) (I:Nat→aI→(Nat→Bool)→Prop) (Q:AX→St→Prop) (k:Nat) (e:AX) (s:St):Prop:=match e with
  | .nrm=>∃ h' u',fv s ⟨f0,h',u'⟩∧I (k+1) h' u'
  | e=>∃ h' u',fv s ⟨f0,h',u'⟩∧Q e ⟨f0,h',u'⟩
theorem aaK (P:Program) (G:au) (body:bp) (K:AX→St→Prop) (s:St):KH P G body K .nrm s=cE P G body K s:=rfl
def KJ (st:Nat→aI×(Nat→Bool)) (k:Nat) (h:aI) (u:Nat→Bool):Prop:=(h,u)=st k
theorem aaL {P:Program} {G:au} {Q:AX→St→Prop} {σ:St} {x:SX} {ps:List Nat} {asg body:bp} {g:Nat} {caps:List D} {xs:List (List D)} (f0:Nat→V) {f1:Nat→V} (hf:f0=f1) (st:Nat→aI×(Nat→Bool))
    (hev:ev G σ.f x=.w (.c (.d (.fn g caps)))) (hseq:KD P G g caps xs) (hlen:∀ r∈xs,r.length=ps.length) (hent:fv σ ⟨f1,(st 0).1,(st 0).2⟩) (hun:∀ t∈ps++asg.writes++body.writes,f1 t=.undef)
    (round:∀ k r,xs[k]?=some r→cE P G asg (KH P G body (KI f0 (KJ st) Q k)) ⟨v8 f1 ps r,(st k).1,(st k).2⟩)
    (done:Q .nrm ⟨f1,(st xs.length).1,(st xs.length).2⟩):cE P G (.rangeF x ps asg body) Q σ:=by
  subst hf;refine⟨g,caps,xs,f0,(st 0).1,(st 0).2,fun k h u=>(h,u)=st k,hev,hseq,hlen,hent,hun,rfl,fun k r h u hr e=>?_,fun h u e=>?_⟩
  ·have:=round k r hr;rw[← e] at this
   have e1:(fun (e:AX) (s:St)=>match e with
       | .nrm=>cE P G body (fun e s'=>match e with
         | .nrm=>∃ h' u',fv s' ⟨f0,h',u'⟩∧(h',u')=st (k+1)
         | e=>∃ h' u',fv s' ⟨f0,h',u'⟩∧Q e ⟨f0,h',u'⟩) s
       | _=>False)=KH P G body (KI f0 (KJ st) Q k):=by
     funext e s
     cases e with
     | nrm =>
       show cE P G body _ s=cE P G body _ s
       congr 1
     | _=>rfl
   rw[← e1] at this;exact this
  ·rw[← e] at done; exact done
theorem aaM {f0:Nat→V} {f1:Nat→V} (hf:f0=f1) {st:Nat→aI×(Nat→Bool)} {Q:AX→St→Prop} {k:Nat} {s:St} (h:fv s ⟨f1,(st (k+1)).1,(st (k+1)).2⟩):KI f0 (KJ st) Q k .nrm s:=⟨_,_,hf ▸ h,rfl⟩
def bC (x:UInt8):C:=.d (bD x)
theorem zf (l:List UInt8):(l.map bD).map C.d=l.map bC:=by rw[aqQ]; rfl
theorem yn:∀ l:List UInt8,jX (l.map bC)=some (l.map bD)
  | []=>rfl
  | x::l=>by
    have h:=yn l
    show jX (C.d (bD x)::l.map bC)=_
    simp only[jX,h,apW,aq4]
theorem aaN {α β:Type} (f:α→β) (l cs:List α) (off:Nat):eO (l.map f) off (cs.map f)=(eO l off cs).map f:=by
  unfold eO; simp
theorem lT (l:List UInt8):(l.map bC).flatMap C.ids=[]:=by
  induction l with
  | nil=>rfl
  | cons x l ih=>rw[apW,aqb,ih]; rfl
theorem vK (g:Nat→Nat) (l:List UInt8):(l.map bC).map (C.ren g)=l.map bC:=by rw[aqQ]; rfl
theorem aiL (x c:UInt8) (n:Int) (h:n=(c.toNat:Int)):db .eql (.w (.c (.d (bD x)))) (.w (.c (.d (.int .u8 n))))=some (.bool (x==c)):=by subst h; exact Yh x c
theorem aiM (x c:UInt8) (n:Int) (h:n=(c.toNat:Int)):db .neq (.w (.c (.d (bD x)))) (.w (.c (.d (.int .u8 n))))=some (.bool (x != c)):=by subst h; exact Yi x c
theorem aiN (x c:UInt8) (n:Int) (h:n=(c.toNat:Int)):db .xor (.w (.c (.d (bD x)))) (.w (.c (.d (.int .u8 n))))=some (bD (a9 x c)):=by subst h; exact mo x c
theorem RH (x c:UInt8) (n:Int) (h:n=(c.toNat:Int)):db .and (.w (.c (.d (bD x)))) (.w (.c (.d (.int .u8 n))))=some (bD (sI x c)):=by subst h; exact MA x c
theorem RI (x:UInt8) (k:IntKind) (j:Nat) (n:Int) (h:n=(j:Int)) (hj:j≤8):db .shr (.w (.c (.d (bD x)))) (.w (.c (.d (.int k n))))=some (bD (ir x j)):=by
  subst h;rw[Yg _ _ _ (Int.natCast_nonneg j),ar0,aq0 hj]
theorem RJ (x:UInt8) (k:IntKind) (j:Nat) (n:Int) (h:n=(j:Int)) (hj:j≤8):db .shl (.w (.c (.d (bD x)))) (.w (.c (.d (.int k n))))=some (bD (iq x j)):=by
  subst h;rw[Yf _ _ _ (Int.natCast_nonneg j),ar0,aq0 hj]
def cG {α:Type} (n:Nat) (x:α):List α:=List.replicate n x
theorem eL {α:Type} (n:Nat) (x:α):(cG n x).length=n:=aqo
theorem PM (n:Nat):cG n (C.d (D.int .u8 0))=(cG n (0:UInt8)).map bC:=by unfold cG; rw[List.map_replicate]; rfl
theorem aaO {P:Program} {G:au} {Q:AX→St→Prop} {f:Nat→V} {h:aI} {u:Nat→Bool} (pre:List bi) (d s b:Nat) (x y:SX) (rest:List bi):cE P G (.appD pre d s b x y rest) Q ⟨f,h,u⟩=bg P G pre (fun τ=>tR G τ d s b x y (bg P G rest (Q .nrm))) ⟨f,h,u⟩:=rfl
theorem aaP {G:au} {K:St→Prop} {f:Nat→V} {h:aI} {u:Nat→Bool} {d s b id sz off n:Nat} {x y:SX} {es ys:List D} (hy:cg h false (ev G f y)=some ys) (hz:eZ s ys=true) (hx:ev G f x=.w (.c (.own id sz off n))) (hh:h id=some (.row s es)) (hn:off+n=es.length)
    (hb:(n+ys.length)*b≤140737488355328) (h47:n+ys.length≤140737488355328) (hu:u (8*d)=false) (k:∀ pre:List D,(pre=es.take off∨pre=[])→K ⟨upd f d (.w (.c (.own (8*d) s pre.length (n+ys.length)))),upd (upd h id none) (8*d) (some (.row s (pre++es.drop off++ys))),upd u (8*d) true⟩):tR G ⟨f,h,u⟩ d s b x y K:=by
  unfold tR zb;simp only[hy,hx,hh,hz];exact⟨trivial,⟨hn,trivial,hb,h47,hu⟩,k⟩
theorem Yl {P:Program} {G:au} {d:Option Nat} {r:List bi} {K:St→Prop} {f:Nat→V} {h:aI} {u:Nat→Bool} {x y b:SX} (k:Kd):bg P G (⟨d,.storeX k x y b,none⟩::r) K ⟨f,h,u⟩=(xg (ev G f b) (ev G f x)=true∧bg P G (⟨d,.store k x y,none⟩::r) K ⟨f,h,u⟩):=by
  rw[cV _ rfl,cV _ rfl];simp only[ef];cases j9 (ev G f y) with
  | none=>simp[bI]
  | some w =>
    cases hb:xg (ev G f b) (ev G f x) <;> simp[bI]
theorem adC (i a b c d e g:Nat):xg (.w (.c (.ptr i a b c))) (.w (.c (.ptr i d e g)))=true:=by simp[xg,V.ids,W.ids,C.ids]
def pU (i:Nat) (v:V):Bool:=!v.ids.contains i
def rn (G:au) (f:Nat→V) (i:Nat):List SX→Bool
  | []=>true
  | z::r=>pU i (ev G f z)&&rn G f i r
def Ld (G:au) (f:Nat→V) (h:aI) (k:Kd) (l:List SX) (v:V):Option W:=iy h k (.undef::l.map (ev G f)) v
theorem Ym {P:Program} {G:au} {d:Option Nat} {r:List bi} {K:St→Prop} {f:Nat→V} {h:aI} {u:Nat→Bool} {x:SX} (k:Kd) (l:List SX):bg P G (⟨d,.loadX k x (.u::l),none⟩::r) K ⟨f,h,u⟩=bI (Ld G f h k l (ev G f x)) (mQ P G d r K f h u):=by
  rw[cV _ rfl];exact iH _ _ _
theorem PN {G:au} {f:Nat→V} {i:Nat}:∀ l:List SX,rn G f i l=(l.map (ev G f)).all fun y=>!y.ids.contains i
  | []=>rfl
  | z::r=>by
    show (pU i (ev G f z)&&rn G f i r)=_
    rw[PN r]; rfl
theorem adD (G:au) (f:Nat→V) (h:aI) (k:Kd) (l:List SX) (i a b c:Nat):Ld G f h k l (.w (.c (.ptr i a b c)))=cond (rn G f i l) (cond (fe (h i)) (fc h k (.w (.c (.ptr i a b c)))) none) none:=by
  have e1:qM (.undef::l.map (ev G f)) (.w (.c (.ptr i a b c)))=rn G f i l:=by
    rw[PN];simp[qM,V.ids,W.ids,C.ids]
  have e2:(!(V.undef::l.map (ev G f)).any mG || t7 h (.w (.c (.ptr i a b c))))=fe (h i):=by
    simp[mG,t7]
  unfold Ld iy;rw[e1,e2];cases rn G f i l <;> cases fe (h i) <;> rfl
theorem adE (G:au) (f:Nat→V) (i:Nat):rn G f i []=true:=rfl
theorem aaQ (G:au) (f:Nat→V) (i:Nat) (z:SX) (r:List SX):rn G f i (z::r)=(pU i (ev G f z)&&rn G f i r):=rfl
theorem adF (i j a b c:Nat):pU i (.w (.c (.ptr j a b c)))=!(i==j):=by
  by_cases h:i=j <;> simp[pU,V.ids,W.ids,C.ids,h]
theorem adG (i j a b c:Nat):pU i (.w (.c (.own j a b c)))=!(i==j):=by
  by_cases h:i=j <;> simp[pU,V.ids,W.ids,C.ids,h]
theorem ann (i:Nat) (x:D):pU i (.w (.c (.d x)))=true:=rfl
theorem adH (i:Nat):pU i (.w (.c .nil))=true:=rfl
theorem aiO (i:Nat) (cs:List D):pU i (.w (.c (.rp cs)))=true:=rfl
theorem adI (cs:List C):fe (some (.box cs))=true:=rfl
set_option maxRecDepth 100000
theorem jW {a b : Prop} (l : a) (r : b) : a ∧ b := And.intro l r
theorem wx:nm (jW @Jz (jW @JA (jW @JB (jW @JC (jW @JD (jW @H3 (jW @H4 (jW @H5 (jW @H6 (jW @H7 (jW @H8 (jW @H9 (jW @ahi (jW @ahj (jW @ahk (jW @ahl (jW @ahm (jW @ahn (jW @aho (jW @ahp (jW @ahq (jW @ahr (jW @ahs (jW @aht (jW @ahu (jW @ahv (jW @ahw (jW @ahx (jW @ahy (jW @ahz (jW @ahA (jW @ahB (jW @ahC (jW @Ia (jW @Ib (jW @Ic (jW @Ie (jW @Ig (jW @Ih (jW @Ii (jW @Ij (jW @Ik (jW @Ym (jW @aaO (jW @Yl (jW @adC (jW @adD (jW @adE (jW @aaQ (jW @adF (jW @adG (jW @ann (jW @adH (jW @aiO (jW @adI (jW @acy (jW @acz (jW @acA (jW @W7 (jW @sx (jW @Rr (jW @O7 (jW @ahc (jW @ahd (jW @ahb (jW @Rq (jW @acx (jW @am3 (jW @am4 (jW @am5 (jW @kK.eq_1 (jW @kK.eq_2 (jW @kK.eq_3 (jW @kK.eq_4 (jW @qu.eq_1 (jW @qu.eq_2 (jW @killAll.eq_1 (jW @killAll.eq_2 (jW @killAll.eq_3 (jW @apA (jW @adB (jW @aaH (jW @Yj (jW @aaI (jW @Yk (jW @aaJ (jW @aaK (jW @ef.eq_1 (jW @ef.eq_2 (jW @ef.eq_3 (jW @ef.eq_4 (jW @ef.eq_5 (jW @ef.eq_6 (jW @ef.eq_7 (jW @ef.eq_8 (jW @ef.eq_9 (jW @ef.eq_10 (jW @ef.eq_11 (jW @ef.eq_12 (jW @ef.eq_13 (jW @ef.eq_14 (jW @ef.eq_15 (jW @ef.eq_16 (jW @ef.eq_17 (jW @ef.eq_18 (jW @ef.eq_19 (jW @ef.eq_20 (jW @ef.eq_21 (jW @ef.eq_22 (jW @ef.eq_23 (jW @ef.eq_24 (jW @ef.eq_25 (jW @ef.eq_26 (jW @ef.eq_27 (jW @ef.eq_28 (jW @ef.eq_29 (jW @ef.eq_30 (jW @ef.eq_31 (jW @ef.eq_32 (jW @ef.eq_33 (jW @ef.eq_34 (jW @ef.eq_35 (jW @ef.eq_36 (jW @ef.eq_37 (jW @ef.eq_38 (jW @ef.eq_39 (jW @ef.eq_40 (jW @ef.eq_41 (jW @ef.eq_42 (jW @ef.eq_43 (jW @ef.eq_44 (jW @ef.eq_45 (jW @ef.eq_46 (jW @ef.eq_47 (jW @ef.eq_48 (jW @ef.eq_49 (jW @ef.eq_50 (jW @ef.eq_51 (jW @ef.eq_52 (jW @ef.eq_53 (jW @ef.eq_54 (jW @bound.eq_1 (jW @bound.eq_2 (jW @xh.eq_1 (jW @xh.eq_2 (jW @xh.eq_3 (jW @xh.eq_4 (jW @lC.eq_1 (jW @fc.eq_1 (jW @fc.eq_2 (jW @fc.eq_3 (jW @fc.eq_4 (jW @fc.eq_5 (jW @fc.eq_6 (jW @fc.eq_7 (jW @fc.eq_8 (jW @jF.eq_1 (jW @jF.eq_2 (jW @jF.eq_3 (jW @jF.eq_4 (jW @jF.eq_5 (jW @jF.eq_6 (jW @jF.eq_7 (jW @adq (jW @mP.eq_1 (jW @mP.eq_2 (jW @parts.eq_1 (jW @parts.eq_2 (jW @elems.eq_1 (jW @elems.eq_2 (jW @jC.eq_1 (jW @apy (jW @apz (jW @aiE (jW @adA (jW @aiF (jW @anl (jW @aiG (jW @aiH (jW @aiI (jW @aiJ (jW @anm (jW @aiK (jW @my.eq_1 (jW @my.eq_2 (jW @my.eq_3 (jW @my.eq_4 (jW @CW.eq_1 (jW @CW.eq_2 (jW @jX.eq_1 (jW @jX.eq_2 (jW @jX.eq_3 (jW @gY.eq_1 (jW @gY.eq_2 (jW @gY.eq_3 (jW @gY.eq_4 (jW @js.eq_1 (jW @js.eq_2 (jW @js.eq_3 (jW @jc.eq_1 (jW @jc.eq_2 (jW @jc.eq_3 (jW @jc.eq_4 (jW @jc.eq_5 (jW @jc.eq_6 (jW @jc.eq_7 (jW @jc.eq_8 (jW @jc.eq_9 (jW @jc.eq_10 (jW @pF.eq_1 (jW @mb.eq_1 (jW @mb.eq_2 (jW @mb.eq_3 (jW @toW.eq_1 (jW @toW.eq_2 (jW @gm.eq_1 (jW @gm.eq_2 (jW @gm.eq_3 (jW @gm.eq_4 (jW @ma.eq_1 (jW @ma.eq_2 (jW @fK.eq_1 (jW @fK.eq_2 (jW @fZ.eq_1 (jW @fZ.eq_2 (jW @fZ.eq_3 (jW @ints.eq_1 (jW @ints.eq_2 (jW @ints.eq_3 (jW @gM.eq_1 (jW @gM.eq_2 (jW @gM.eq_3 (jW @sE.eq_1 (jW @sE.eq_2 (jW @sE.eq_3 (jW @sE.eq_4 (jW @W.ro.eq_1 (jW @W.ro.eq_2 (jW @C.ro.eq_1 (jW @C.ro.eq_2 (jW @V.ro.eq_1 (jW @V.ro.eq_2 (jW @V.ro.eq_3 (jW @zr.eq_1 (jW @zr.eq_2 (jW @zr.eq_3 (jW @Kd.size.eq_1 (jW @Kd.size.eq_2 (jW @XY (jW @WP (jW @XZ (jW @aaq (jW @X0 (jW @eO.eq_1 (jW @dd.eq_1 (jW @dd.eq_2 (jW @Nat.min_def (jW @aq4.{0,0} (jW @Option.map_none.{0,0} (jW @Bool.not_true (jW @Bool.not_false (jW @decide_true (jW @decide_false (jW @Bool.and_self (jW @apW.{0,0} (jW @ap4.{0,0} (jW @List.any_cons.{0} (jW @List.any_nil.{0} (jW @aqx.{0} (jW @aqZ.{0} (jW @arq.{0} (jW @List.getElem?_cons_zero.{0} (jW @aqR.{0} (jW @if_true.{1} (jW @if_false.{1} (jW @true_and (jW @and_true (jW @vd.eq_1 (jW @Int.natCast_nonneg (jW @arm.{0} (jW @aqy.{0} (jW @kA (jW @qi (jW @oY (jW @rH (jW @aav (jW @aaw (jW @ang (jW @anh (jW @adv (jW @adw (jW @ani (jW @X8 (jW @X9 (jW @aaE (jW @Ya (jW @Yb (jW @Yc (jW @Yd (jW @Ye (jW @mo (jW @MA (jW @NQ (jW @aai (jW @aaj (jW @aak (jW @aal (jW @aam (jW @aan (jW @aao (jW @aap (jW @aay (jW @aaz (jW @aaF (jW @aaG (jW @aau (jW @aar (jW @aas (jW @aat (jW @List.set_cons_zero.{0} (jW @List.set_cons_succ.{0} (jW @adx (jW @nV (jW @Kd.ag.injEq (jW @apS.{0} (jW @aqo.{0} (jW @Ge (jW @adr (jW @vm (jW @aiy (jW @G8 (jW @aiz (jW @adu (jW @aah (jW @aqz.{0} (jW @aqE.{0} (jW @List.take_succ_cons.{0} (jW @arb.{0} (jW @List.drop_succ_cons.{0} (jW @List.take_nil.{0} (jW @List.drop_nil.{0} (jW @ap7.{0} (jW @aqb.{0,0} (jW @ar5.{0,0} (jW @Option.bind_some.{0,0} (jW @ne_eq.{1} (jW @not_false_eq_true (@not_true_eq_false)))))))))))))))))))))))))))))))))))))))))))))))))))))))))))))))))))))))))))))))))))))))))))))))))))))))))))))))))))))))))))))))))))))))))))))))))))))))))))))))))))))))))))))))))))))))))))))))))))))))))))))))))))))))))))))))))))))))))))))))))))))))))))))))))))))))))))))))))))))))))))))))))))))))))))))))))))))))))))))))))))))))))))))))))))))))))))):=uq _
theorem wy:nm (jW @ank (jW @Wc (jW @ady (jW @aax (jW @adz (jW @aiD (jW @jU (jW @ze (@cond_true.{1}))))))))):=uq _
theorem wz:nm (jW @Bool.false_and (jW @Bool.and_false (jW @X2 (jW @Nat.sub_zero (jW @X1 (jW @WQ (jW @beq_self_eq_true.{0} (jW @Bool.and_true (jW @arZ (jW @apr (jW @aps (jW @apt (jW @apu (jW @apv (jW @apw (jW @aro.{0} (jW @arD (jW @Nat.one_mul (jW @ark (jW @aqO (jW @aiB (jW @RF (jW @aiC (jW @anj (jW @Int.natCast_add (jW @Int.natCast_mul (jW @Int.natCast_one (jW @arT (@arW))))))))))))))))))))))))))))):=uq _
theorem aH:nm (jW @V.ren.eq_1 (jW @V.ren.eq_2 (jW @V.ren.eq_3 (jW @W.ren.eq_1 (jW @W.ren.eq_2 (jW @C.ren.eq_1 (jW @C.ren.eq_2 (jW @C.ren.eq_3 (jW @C.ren.eq_4 (jW @C.ren.eq_5 (jW @C.ren.eq_6 (jW @V.ids.eq_1 (jW @V.ids.eq_2 (jW @V.ids.eq_3 (jW @W.ids.eq_1 (jW @W.ids.eq_2 (jW @C.ids.eq_1 (jW @C.ids.eq_2 (jW @C.ids.eq_3 (jW @C.ids.eq_4 (jW @C.ids.eq_5 (jW @C.ids.eq_6 (jW @Ob.ren.eq_1 (jW @Ob.ren.eq_2 (jW @Ob.ren.eq_3 (jW @Ob.ren.eq_4 (jW @Ob.ids.eq_1 (jW @Ob.ids.eq_2 (jW @Ob.ids.eq_3 (jW @Ob.ids.eq_4 (jW @arW (jW @aro.{0} (jW @ads (jW @aaf (jW @adt (jW @aag (jW @id_eq.{1} (jW @arD (jW @Nat.mul_zero (jW @ar4 (@aqF.{0}))))))))))))))))))))))))))))))))))))))))):=uq _
theorem aV:nm (jW @Int.natCast_add (jW @Int.natCast_mul (jW @Int.natCast_one (@arT)))):=uq _
theorem af:nm (jW @wx (jW @wy @wz)):=jW @wx (jW @wy @wz)
theorem aZ {σ:St} {p:Nat×Option Kd} {x:D} (h1:(dd σ p).bind (toW σ.h)=some x:=by simp only[af,aa,seval,iteOmega,toNatUp]):fi σ [p] (.w (.c (.d x))):=tD h1
theorem bz {σ:St} {p q:Nat×Option Kd} {x y:D} (h1:(dd σ p).bind (toW σ.h)=some x:=by simp only[af,aa,seval,iteOmega,toNatUp]) (h2:(dd σ q).bind (toW σ.h)=some y:=by simp only[af,aa,seval,iteOmega,toNatUp]):fi σ [p,q] (.tup [.c (.d x),.c (.d y)]):=eM h1 h2
theorem fj {σ:St} {p q r:Nat×Option Kd} {x y z:D} (h1:(dd σ p).bind (toW σ.h)=some x:=by simp only[af,aa,seval,iteOmega,toNatUp]) (h2:(dd σ q).bind (toW σ.h)=some y:=by simp only[af,aa,seval,iteOmega,toNatUp]) (h3:(dd σ r).bind (toW σ.h)=some z:=by simp only[af,aa,seval,iteOmega,toNatUp]):fi σ [p,q,r] (.tup [.c (.d x),.c (.d y),.c (.d z)]):=lS h1 h2 h3
theorem iP {σ:St} {p:Nat×Option Kd} {sz:Nat} {es:List D} (h1:(dd σ p).bind (pI σ.h sz)=some es:=by simp only[af,aa,seval,iteOmega,toNatUp]):fi σ [p] (.w (.c (.fr sz es))):=RG h1
theorem d7 {σ:St} {p q:Nat×Option Kd} {sz:Nat} {es:List D} {y:D} (h1:(dd σ p).bind (pI σ.h sz)=some es:=by simp only[af,aa,seval,iteOmega,toNatUp]) (h2:dd σ q=some (.c (.d y)):=by simp only[af,aa,seval,iteOmega,toNatUp]):fi σ [p,q] (.tup [.c (.fr sz es),.c (.d y)]):=Ir h1 h2
theorem sD {P:Program} {G:au} {K:St→Prop} {r:List bi} {f:Nat→V} {h:aI} {u:Nat→Bool} {d:Option Nat} {fn:FuncId} {xs:List SX} {own:Option (Nat×Nat)} {ds:List D} {res:V} {q:Prop} (h2:aF P G fn ds res) (e:q)
    (hq:bI (gM h u (d.getD 0) own res) (dV P G d r K f)=q:=by simp only[af,aa,seval,iteOmega,toNatUp]; rfl) (h1:fK h (xs.map (ev G f))=some ds:=by exact rfl)
    (h3:((xs.map (ev G f)).any V.hasOwn=false∨res.flat=true):=by exact .inl rfl) (hne:fn≠jD:=by decide) (hp:mu own (xs.map (ev G f)):=by first | exact uW _ | exact vk _ _ _ | exact uX _ _ rfl):bg P G (⟨d,.call fn xs own,none⟩::r) K ⟨f,h,u⟩ :=
  sC h2 (hq ▸ e) h1 h3 hne hp
def mi (x:UInt8):UInt8:=a9 (iq x 1) (if x<128 then 0 else 27)
def pM (c:Bool) (v:UInt8):UInt8:=if c then v else 0
def pN (y:UInt8) (i:Nat):Bool:=y.toNat.testBit i
def Le (x:UInt8):Nat→UInt8
  | 0=>x
  | n+1=>mi (Le x n)
def VH (x y:UInt8):Nat→UInt8
  | 0=>0
  | n+1=>a9 (VH x y n) (pM (pN y n) (Le x n))
def lV (x y:UInt8):UInt8:=VH x y 8
theorem ML (x y:UInt8):a9 x y=a9 y x:=UInt8.xor_comm x y
theorem uO (x y z:UInt8):a9 (a9 x y) z=a9 x (a9 y z):=UInt8.xor_assoc x y z
theorem FB (x:UInt8):a9 x 0=x:=UInt8.xor_zero
theorem MM (x:UInt8):a9 x x=0:=UInt8.xor_self
theorem Yz (a b c d:UInt8):a9 (a9 a b) (a9 c d)=a9 (a9 a c) (a9 b d):=by
  rw[uO,← uO b,ML b c,uO c,← uO]
def KM (f:UInt8→UInt8):Prop:=∀ a b,f (a9 a b)=a9 (f a) (f b)
theorem aa3 (x y:UInt8) (i:Nat):pN (a9 x y) i=(pN x i ^^ pN y i):=by
  unfold pN a9;rw[UInt8.toNat_xor,aqW]
theorem aa4 (c d:Bool) (v:UInt8):pM (c ^^ d) v=a9 (pM c v) (pM d v):=by
  cases c <;> cases d <;> simp[pM,a9]
def sK (f:UInt8→UInt8) (x:UInt8):Nat→UInt8
  | 0=>0
  | n+1=>a9 (sK f x n) (pM (pN x n) (f (UInt8.ofNat (2^n))))
theorem Oh (f:UInt8→UInt8):∀ n,KM fun x=>sK f x n
  | 0=>fun a b=>(MM 0).symm
  | n+1=>fun a b=>by
    show a9 (sK f (a9 a b) n) (pM (pN (a9 a b) n) _)=_
    rw[show sK f (a9 a b) n=a9 (sK f a n) (sK f b n) from Oh f n a b,aa3,aa4,Yz];rfl
theorem aja {f:UInt8→UInt8} (h:∀ x,f x=sK f x 8):KM f:=by
  intro a b;rw[h,h a,h b];exact Oh f 8 a b
theorem sg {p:UInt8→Bool} (h:((List.range 256).all fun i=>p (UInt8.ofNat i))=true) (x:UInt8):p x=true:=by
  have:=ap9.1 h x.toNat (arH.2 x.toNat_lt)
  simpa using this
theorem ad9:KM mi:=aja fun x=>by
  have:=sg (p:=fun x=>mi x==sK mi x 8) (by decide +kernel) x
  simpa using this
def C3 (x:UInt8) (n:Nat):UInt8:=pT (iq x n) (ir x (8-n))
def Vn (y:UInt8):UInt8:=a9 (a9 (a9 (a9 (a9 y (C3 y 1)) (C3 y 2)) (C3 y 3)) (C3 y 4)) 99
def Vo (x:UInt8):UInt8 :=
  let x2:=lV x x
  let x3:=lV x2 x
  let x6:=lV x3 x3
  let x12:=lV x6 x6
  let x15:=lV x12 x3
  let x30:=lV x15 x15
  let x60:=lV x30 x30
  let x120:=lV x60 x60
  let x240:=lV x120 x120
  lV (lV x240 x12) x2
def KN:List UInt8:=(List.range 256).map fun i=>Vn (Vo (UInt8.ofNat i))
def g9 (x:UInt8):UInt8:=Vn (Vo x)
theorem aa5 (x:UInt8):KN[x.toNat]?=some (g9 x):=by
  unfold KN g9;rw[aqH,arp x.toNat_lt];simp
instance:Std.Associative a9:=⟨uO⟩
instance:Std.Commutative a9:=⟨ML⟩
def Lf (x:UInt8):UInt8:=lV x 2
def DZ (a b c d:UInt8):UInt8:=a9 (a9 (a9 (a9 (Lf a) (Lf b)) b) c) d
abbrev fW:=Nat→UInt8
def mc (s k:fW):fW:=fun j=>a9 (s j) (k j)
def nr (s:fW):fW:=fun j=>g9 (s (j%4+4*((j / 4+j%4)%4)))
def me (t:fW):fW:=fun j=>DZ (t (4*(j / 4)+j%4)) (t (4*(j / 4)+(j%4+1)%4)) (t (4*(j / 4)+(j%4+2)%4)) (t (4*(j / 4)+(j%4+3)%4))
def Uh (s t:fW):Prop:=∀ j,j<16→s j=t j
def IB (k:Nat→fW) (s:fW) (n:Nat):fW:=if n<10 then mc (me (nr s)) (k n) else mc (nr s) (k n)
def nB (k:Nat→fW) (s:fW):Nat→fW
  | 0=>mc s (k 0)
  | n+1=>IB k (nB k s n) (n+1)
def mL (n:Nat):UInt8:=Le 1 n
def wh (t:List UInt8) (n:Nat):List UInt8 :=
  if n%4=0 then [a9 (g9 (t.getD 1 0)) (mL (n / 4)),g9 (t.getD 2 0),g9 (t.getD 3 0),g9 (t.getD 0 0)]
  else [t.getD 0 0,t.getD 1 0,t.getD 2 0,t.getD 3 0]
def qI (l:List UInt8) (n:Nat):List UInt8 :=
  (List.range 4).map fun k=>a9 (l.getD (4*n+k) 0) ((wh (l.drop (12+4*n)) n).getD k 0)
def gy (key:List UInt8):Nat→List UInt8
  | 0=>key
  | n+1=>gy key n++qI (gy key n) n
def bF (key:List UInt8):List UInt8:=gy key 40
theorem YA (l:List UInt8) (n:Nat):(qI l n).length=4:=by simp[qI]
theorem tq {key:List UInt8} (h:key.length=16):∀ n,(gy key n).length=16+4*n
  | 0=>h
  | n+1=>by rw[gy,apS,tq h n,YA]; omega
theorem Hm {key:List UInt8} (h:key.length=16):(bF key).length=176:=tq h 40
def dJ (f:fW):List UInt8:=(List.range 16).map f
theorem kB (f:fW):(dJ f).length=16:=by simp[dJ]
theorem BC (f:fW) {j:Nat} (h:j<16):(dJ f)[j]?=some (f j):=by simp[dJ,h]
def bZ (l:List UInt8):fW:=fun j=>l.getD j 0
theorem ajb {l:List UInt8} (h:l.length=16):dJ (bZ l)=l:=by
  apply aq2;intro i;by_cases hi:i<16
  ·rw[BC _ hi,bZ,apT,apR (by omega)]; rfl
  ·rw[aqI (by rw[kB]; omega),aqI (by omega)]
theorem FC {f g:fW} (h:Uh f g):dJ f=dJ g:=aqu fun j hj=>h j (arH.1 hj)
def hY (rk:List UInt8) (n:Nat):fW:=fun j=>rk.getD (16*n+j) 0
def iv (rk b:List UInt8):List UInt8:=dJ (nB (hY rk) (bZ b) 10)
theorem nR (rk b:List UInt8):(iv rk b).length=16:=kB _
def Ci (key b:List UInt8):List UInt8:=iv (bF key) b
def fA:List UInt8→List UInt8×Bool
  | []=>([],true)
  | x::r=>let (s,c):=fA r; if c then ((x+1)::s,x+1==0) else (x::s,false)
def qK (c:List UInt8):List UInt8:=(fA c).1
theorem Gj:∀ c,(fA c).1.length=c.length
  | []=>rfl
  | x::r=>by
    have:=Gj r;simp only[fA];split <;> simp[this]
theorem MN (c:List UInt8):(qK c).length=c.length:=Gj c
def jn (c:List UInt8):Nat→List UInt8
  | 0=>c
  | n+1=>qK (jn c n)
theorem Oi (c:List UInt8):∀ n,(jn c n).length=c.length
  | 0=>rfl
  | n+1=>by rw[jn,MN,Oi c n]
def ud (rk c:List UInt8):Nat→List UInt8
  | 0=>[]
  | n+1=>ud rk c n++iv rk (jn c n)
theorem u6 (rk c:List UInt8):∀ n,(ud rk c n).length=16*n
  | 0=>rfl
  | n+1=>by rw[ud,apS,u6 rk c n,nR]; omega
def sL (a b:List UInt8):List UInt8:=List.zipWith a9 a b
def jV (rk c b:List UInt8):List UInt8:=sL b (ud rk c ((b.length+15) / 16))
theorem Oj {a b:List UInt8} (h:a.length≤b.length):(sL a b).length=a.length:=by
  simp[sL]; omega
theorem AA (rk c b:List UInt8):(jV rk c b).length=b.length:=Oj (by rw[u6]; omega)
theorem LZ:∀ {a b:List UInt8},a.length≤b.length→sL (sL a b) b=a
  | [],_,_=>by simp[sL]
  | x::a,[],h=>by simp at h
  | x::a,y::b,h=>by
    have h1:=LZ (a:=a) (b:=b) (by simpa using h);simp only[sL,List.zipWith_cons_cons,List.cons.injEq] at h1 ⊢;exact⟨by rw[uO,MM,FB],h1⟩
theorem We (rk c b:List UInt8):jV rk c (jV rk c b)=b:=by
  unfold jV;have h:b.length≤(ud rk c ((b.length+15) / 16)).length:=by rw[u6]; omega
  rw[Oj h,LZ h]
def KO (b:fW):fW:=fun j=>a9 (a9 (iq (b j) 1) (if j<15 then ir (b (j+1)) 7 else 0)) (if j=15 then pM (pN (b 0) 7) 135 else 0)
theorem ajn (x y:UInt8):pT (iq x 1) (ir y 7)=a9 (iq x 1) (ir y 7):=by
  have h:ir y 7=0∨ir y 7=1:=by
    have:=sg (p:=fun y=>ir y 7==0 || ir y 7==1) (by decide +kernel) y
    simpa using this
  rcases h with h | h <;> rw[h]
  ·have:=sg (p:=fun x=>pT (iq x 1) 0==a9 (iq x 1) 0) (by decide +kernel) x;rw[beq_iff_eq] at this; exact this
  ·have:=sg (p:=fun x=>pT (iq x 1) 1==a9 (iq x 1) 1) (by decide +kernel) x;rw[beq_iff_eq] at this; exact this
def jp (b:List UInt8):List UInt8:=if b.length=16 then dJ (KO (bZ b)) else []
theorem ti {b:List UInt8} (h:b.length=16):(jp b).length=16:=by rw[jp,if_pos h,kB]
def eQ:List UInt8→List UInt8→List UInt8
  | x::a,y::b=>a9 x y::eQ a b
  | a,_=>a
theorem nh:∀ a b:List UInt8,(eQ a b).length=a.length
  | [],_=>by simp[eQ]
  | x::a,[]=>rfl
  | x::a,y::b=>by simp[eQ,nh a b]
theorem Or:∀ (a b:List UInt8) (i:Nat),i<a.length→i<b.length→(eQ a b).getD i 0=a9 (a.getD i 0) (b.getD i 0)
  | [],_,_,h,_=>by simp at h
  | x::a,[],_,_,h=>by simp at h
  | x::a,y::b,0,_,_=>rfl
  | x::a,y::b,i+1,h,g=>by
    show (eQ a b).getD i 0=_
    rw[Or a b i (by simpa using h) (by simpa using g)]; rfl
def kD:List UInt8:=List.replicate 16 0
def nC (b:List UInt8):List UInt8:=b++List.replicate ((16-b.length%16)%16) 0
def nD (rk:List UInt8):List UInt8:=jp (iv rk kD)
def qT (rk:List UInt8):List UInt8:=jp (nD rk)
def mf (rk b:List UInt8):Nat→List UInt8
  | 0=>kD
  | n+1=>iv rk (eQ (mf rk b n) ((b.drop (16*n)).take 16))
def tH (b:List UInt8):Nat:=(b.length+15) / 16-1
def qU (rk e:List UInt8):List UInt8:=if e.length=16 then eQ e (nD rk) else eQ (nC (e++[128])) (qT rk)
def mM (rk b:List UInt8):List UInt8:=iv rk (eQ (mf rk b (tH b)) (qU rk (b.drop (16*tH b))))
theorem AZ (rk b:List UInt8):∀ n,(mf rk b n).length=16
  | 0=>by simp[mf,kD]
  | n+1=>nR _ _
theorem A0 (rk b:List UInt8):(mM rk b).length=16:=nR _ _
theorem Gp (rk:List UInt8):(nD rk).length=16:=ti (nR _ _)
theorem abk (rk:List UInt8):(qT rk).length=16:=ti (Gp _)
theorem Fe {b:List UInt8} (h:b.length<16):(nC (b++[128])).length=16:=by
  simp[nC]; omega
theorem abl {rk e:List UInt8} (h:e.length≤16):(qU rk e).length=16:=by
  unfold qU;split
  ·rw[nh]; assumption
  ·rw[nh,Fe (by omega)]
def mN (rk:List UInt8) (l:List (List UInt8)):Nat→List UInt8
  | 0=>mM rk kD
  | n+1=>eQ (jp (mN rk l n)) (mM rk (l.getD n []))
def ot (rk:List UInt8) (l:List (List UInt8)):List UInt8 :=
  if l.length=0 then mM rk (List.replicate 15 0++[1])
  else
    let d:=mN rk l (l.length-1)
    let s:=l.getD (l.length-1) []
    if 16≤s.length then mM rk (s.take (s.length-16)++eQ (s.drop (s.length-16)) d)
    else mM rk (eQ (jp d) (nC (s++[128])))
theorem Ot (rk:List UInt8) (l:List (List UInt8)):∀ n,(mN rk l n).length=16
  | 0=>A0 _ _
  | n+1=>by rw[mN,nh,ti (Ot rk l n)]
theorem abm (rk:List UInt8) (l:List (List UInt8)):(ot rk l).length=16:=by
  unfold ot;split
  ·exact A0 _ _
  ·dsimp only;split <;> exact A0 _ _
theorem tV {σ:St} {p q r s:Nat×Option Kd} {x y z t:D} (h1:(dd σ p).bind (toW σ.h)=some x) (h2:(dd σ q).bind (toW σ.h)=some y) (h3:(dd σ r).bind (toW σ.h)=some z) (h4:(dd σ s).bind (toW σ.h)=some t):fi σ [p,q,r,s] (.tup [.c (.d x),.c (.d y),.c (.d z),.c (.d t)]):=by
  obtain⟨w1,e1,f1⟩:=aqv.1 h1;obtain⟨w2,e2,f2⟩:=aqv.1 h2;obtain⟨w3,e3,f3⟩:=aqv.1 h3;obtain⟨w4,e4,f4⟩:=aqv.1 h4;exact⟨[w1,w2,w3,w4],by simp[bE,e1,e2,e3,e4],.inr (.cons ⟨_,rfl,f1⟩ (.cons ⟨_,rfl,f2⟩ (.cons ⟨_,rfl,f3⟩ (.cons ⟨_,rfl,f4⟩ .nil))))⟩
theorem zW {σ:St} {p q r s:Nat×Option Kd} {x y z t:D} (h1:(dd σ p).bind (toW σ.h)=some x:=by simp only[af,aa,seval,iteOmega,toNatUp] <;> rfl) (h2:(dd σ q).bind (toW σ.h)=some y:=by simp only[af,aa,seval,iteOmega,toNatUp] <;> rfl) (h3:(dd σ r).bind (toW σ.h)=some z:=by simp only[af,aa,seval,iteOmega,toNatUp] <;> rfl) (h4:(dd σ s).bind (toW σ.h)=some t:=by simp only[af,aa,seval,iteOmega,toNatUp] <;> rfl):fi σ [p,q,r,s] (.tup [.c (.d x),.c (.d y),.c (.d z),.c (.d t)]):=tV h1 h2 h3 h4
theorem W4 {σ:St} {p q:Nat×Option Kd} {id sz n s:Nat} {full:List D} {y:D} (h1:dd σ p=some (.c (.own id sz 0 n))) (e:σ.h id=some (.row s full)) (hn:n≤full.length) (h2:dd σ q=some (.c (.d y))):fi σ [p,q] (.tup [.c (.fr sz (full.take n)),.c (.d y)]):=by
  refine⟨[.c (.own id sz 0 n),.c (.d y)],by simp[bE,h1,h2],.inl ⟨by simp[W.ids,C.ids],.cons ⟨rfl,rfl,?_⟩ (.cons ?_ .nil)⟩⟩
  ·rw[e];exact⟨by simp[fZ,hn],trivial⟩
  ·cases y <;> rfl

section
variable {P:Program} {G:au} {K:St→Prop} {r:List bi} {f:Nat→V} {h:aI} {u:Nat→Bool} {d:Option Nat} {x y t:SX}
def VK (P:Program) (G:au) (d:Option Nat) (r:List bi) (K:St→Prop) (f:Nat→V) (h:aI) (u:Nat→Bool) (q:IntKind) (_:IntKind×Int):Prop:=bI (eU h u (d.getD 0) (.mp q []) (.mp (8*d.getD 0))) (dV P G d r K f)
theorem af8 (q:IntKind):bg P G (⟨d,.mkMp q none,none⟩::r) K ⟨f,h,u⟩=bI (eU h u (d.getD 0) (.mp q []) (.mp (8*d.getD 0))) (dV P G d r K f):=by rw[cV _ rfl]; rfl
theorem aci (q:IntKind):bg P G (⟨d,.mkMp q (some x),none⟩::r) K ⟨f,h,u⟩=bI (fV (ev G f x)) (VK P G d r K f h u q):=by
  rw[cV _ rfl]
  show bI (if (fV (ev G f x)).isSome=true then _ else none) _=_
  cases fV (ev G f x) <;> rfl
theorem alC (q:IntKind) (p:IntKind×Int):VK P G d r K f h u q p=bI (eU h u (d.getD 0) (.mp q []) (.mp (8*d.getD 0))) (dV P G d r K f):=rfl
theorem acj (q:IntKind) (z:D) (co:Bool):bg P G (⟨d,.mpGet q z co x y,none⟩::r) K ⟨f,h,u⟩=bI (kJ h q z co (ev G f x) (fV (ev G f y))) (Lb P G d r K f h u):=by
  rw[cV _ rfl]; exact iH _ _ _
theorem ack (q:IntKind):bg P G (⟨d,.mpSet q x y t,none⟩::r) K ⟨f,h,u⟩=bI (wM h q (wJ (ev G f x)) (fV (ev G f y)) (wK (ev G f t))) (Ep P G d r K f u):=by
  rw[cV _ rfl]; exact iH _ _ _
def goT (P:Program) (G:au) (d:Option Nat) (r:List bi) (K:St→Prop) (f:Nat→V) (h:aI) (u:Nat→Bool) (p:IntKind×List (Int×D)):Prop:=bI (eU h u (d.getD 0) (.it p.1 p.2 none) (.ptr (8*d.getD 0) 1 0 0)) (dV P G d r K f)
theorem Y3:bg P G (⟨d,.mpIter x,none⟩::r) K ⟨f,h,u⟩=bI (v6 (ev G f x)) (goT P G d r K f h u):=by
  rw[cV _ rfl]
  show bI (match v6 (ev G f x) with | some p=>_ | none=>none) _=_
  cases v6 (ev G f x) <;> rfl
theorem alD (q:IntKind) (es:List (Int×D)):goT P G d r K f h u (q,es)=bI (eU h u (d.getD 0) (.it q es none) (.ptr (8*d.getD 0) 1 0 0)) (dV P G d r K f):=rfl
theorem acl:bg P G (⟨d,.mpEnt x,none⟩::r) K ⟨f,h,u⟩=bI (sw h (ev G f x)) (Lb P G d r K f h u):=by
  rw[cV _ rfl]; exact iH _ _ _
theorem af9 (id s:Nat):sw h (.w (.c (.ptr id s 0 0)))=DK (h id):=rfl
theorem aga (q:IntKind) (l:List (Int×D)) (p:Int×D):DK (some (.it q l (some p)))=some (.tup [.c (.d (.int q p.1)),.c (.d p.2)]):=rfl
theorem agb (q:IntKind) (es:List (Int×D)):v6 (.w (.c (.d (.mp q es))))=some (q,es):=rfl
theorem agc (id:Nat):wJ (.w (.c (.mp id)))=some id:=rfl
theorem alE (x:C):wK (.w (.c x))=some x:=rfl
def Dx (q:IntKind) (z:D) (co:Bool) (n:Int):Option Ob→Option V
  | some (.mp q' es)=>if q'=q then some (nA co (bL es n) (zC z)) else none
  | _=>none
theorem agd (q:IntKind) (z:D) (co:Bool) (id:Nat) (n:Int):kJ h q z co (.w (.c (.mp id))) (some (q,n))=Dx q z co n (h id):=by
  unfold kJ Dx;simp only[true_and];rfl
theorem acm (q:IntKind) (z:D) (co:Bool) (n:Int) (es:List (Int×C)):Dx q z co n (some (.mp q es))=some (nA co (bL es n) (zC z)):=by simp[Dx]
theorem age (q:IntKind) (z:D) (es:List (Int×D)) (n:Int):kJ h q z false (.w (.c (.d (.mp q es)))) (some (q,n))=some (.w (.c (.d ((bL es n).getD z)))):=by
  unfold kJ nA;rcases hl:bL es n with _ | v <;> simp[hl]
theorem agf (q:IntKind) (z:D) (es:List (Int×D)) (n:Int):kJ h q z true (.w (.c (.d (.mp q es)))) (some (q,n))=some (.tup [.c (.d ((bL es n).getD z)),.c (.d (.bool (bL es n).isSome))]):=by
  unfold kJ nA;rcases hl:bL es n with _ | v <;> simp[hl]
theorem alG (o:Option C) (z:C):nA false o z=.w (.c (o.getD z)):=rfl
theorem alH (o:Option C) (z:C):nA true o z=.tup [.c (o.getD z),.c (.d (.bool o.isSome))]:=rfl
theorem alI:zC (.sl [])=.nil:=rfl
theorem agh (b:Bool):zC (.bool b)=.d (.bool b):=rfl
theorem alJ (k:IntKind) (n:Int):zC (.int k n)=.d (.int k n):=rfl
def Dy (h:aI) (q:IntKind) (id:Nat) (n:Int) (d:C):Option Ob→Option aI
  | some (.mp q' es)=>if q'=q then some (upd h id (some (.mp q (dD es n d)))) else none
  | _=>none
theorem agi (q:IntKind) (id:Nat) (n:Int) (d:C):wM h q (some id) (some (q,n)) (some d)=Dy h q id n d (h id):=by
  unfold wM Dy;simp only[true_and];rfl
theorem acn (q:IntKind) (id:Nat) (n:Int) (d:C) (es:List (Int×C)):Dy h q id n d (some (.mp q es))=some (upd h id (some (.mp q (dD es n d)))):=by simp[Dy]
theorem alK (id:Nat):(C.mp id).ids=[id]:=rfl
theorem alL (g:Nat→Nat) (id:Nat):(C.mp id).ren g=.mp (g id):=rfl
def lO (es:List (Int×D)):List (Int×C):=es.map fun p=>(p.1,.d p.2)
theorem agj:lO []=[]:=rfl
theorem agk (es:List (Int×D)) (n:Int):bL (lO es) n=(bL es n).map C.d:=by
  induction es with
  | nil=>rfl
  | cons p r ih =>
    obtain⟨y,x⟩:=p;by_cases e:y=n
    ·subst e; simp[bL,lO]
    ·have k1:bL ((y,x)::r) n=bL r n:=by unfold bL; rw[aqN (by simpa using e)]
     have k2:bL (lO ((y,x)::r)) n=bL (lO r) n:=by unfold bL lO; rw[apW,aqN (by simpa using e)]
     rw[k1,k2,ih]
theorem aco (es:List (Int×D)) (n:Int) (d:D):dD (lO es) n (.d d)=lO (dD es n d):=by
  induction es with
  | nil=>rfl
  | cons p r ih =>
    obtain⟨y,x⟩:=p;simp only[lO,apW,dD] at *
    split
    ·rfl
    ·rw[ih]; rfl
theorem Q8 (es:List (Int×D)):(lO es).flatMap (fun p=>p.2.ids)=[]:=by
  induction es with
  | nil=>rfl
  | cons p r ih=>simp only[lO,apW,aqb] at *; rw[ih]; rfl
theorem agl (g:Nat→Nat) (es:List (Int×D)):(lO es).map (fun p=>(p.1,p.2.ren g))=lO es:=by
  induction es with
  | nil=>rfl
  | cons p r ih=>simp only[lO,apW] at *; rw[ih]; rfl
theorem fo:nm (And.intro @af8 (And.intro @aci (And.intro @alC (And.intro @acj (And.intro @ack (And.intro @Y3 (And.intro @alD (And.intro @acl (And.intro @af9 (And.intro @aga (And.intro @agb (And.intro @agc (And.intro @alE (And.intro @agd (And.intro @acm (And.intro @age (And.intro @agf (And.intro @alG (And.intro @alH (And.intro @alI (And.intro @agh (And.intro @alJ (And.intro @agi (And.intro @acn (And.intro @alK (And.intro @alL (And.intro @agj (And.intro @agk (And.intro @aco (And.intro @Q8 (And.intro @agl (And.intro @aq9.{0} (@arv.{0}))))))))))))))))))))))))))))))))):=uq _
end
theorem TF {P:Program} {G:au} {Q:AX→St→Prop} {f:Nat→V} {h:aI} {u:Nat→Bool} {dn:Nat} {x:SX} {rest:List bi} {id s:Nat} {q:IntKind} {left:List (Int×D)} {last:Option (Int×D)} (hx:ev G f x=.w (.c (.ptr id s 0 0))) (hi:h id=some (.it q left last))
    (k1:left=[]→bg P G rest (Q .nrm) ⟨upd f dn (.tup [.c (.d (.bool false))]),h,u⟩)
    (k2:∀ j p,left[j]?=some p→bg P G rest (Q .nrm) ⟨upd f dn (.tup [.c (.d (.bool true)),.c (.d (.int q p.1)),.c (.d p.2)]),upd h id (some (.it q (left.eraseIdx j) (some p))),u⟩):cE P G (.nextM dn x rest) Q ⟨f,h,u⟩:=by
  show BV _ dn _ (ev G f x)
  rw[hx]
  show (match h id with | some (.it q left _)=>_ | _=>False)
  rw[hi];exact⟨k1,k2⟩
theorem alM {P:Program} {G:au} {Q:AX→St→Prop} {f:Nat→V} {h:aI} {u:Nat→Bool} {t id:Nat} {c:bp} {q:IntKind} {es:List (Int×C)} {ds:List (Int×D)} (hx:f t=.w (.c (.mp id))) (hi:h id=some (.mp q es)) (hd:qC h es=some ds)
    (k:cE P G c Q ⟨upd f t (vd (.mp q ds)),upd (killAll h (es.map (·.2))) id none,u⟩):cE P G (.ghost t c) Q ⟨f,h,u⟩:=by
  show (match sF ⟨f,h,u⟩ t with | some τ=>cE P G c Q τ | none=>False)
  have:sF ⟨f,h,u⟩ t=some ⟨upd f t (vd (.mp q ds)),upd (killAll h (es.map (·.2))) id none,u⟩:=by
    unfold sF;simp only[hx,hi,hd,aq4]
  rw[this];exact k
theorem agm {α:Type} (x:Int):bL ([]:List (Int×α)) x=none:=rfl
theorem Q9 {α:Type} (es:List (Int×α)) (x y:Int) (v:α):bL (dD es x v) y=if y=x then some v else bL es y:=by
  induction es with
  | nil =>
    by_cases h:y=x
    ·subst h; simp[dD,bL]
    ·rw[if_neg h];unfold bL dD;rw[aqN (by simpa using fun e=>h e.symm)]
  | cons p r ih =>
    obtain⟨k,w⟩:=p;simp only[dD];by_cases hk:k=x
    ·subst hk;rw[if_pos rfl];by_cases h:y=k
     ·subst h; simp[bL]
     ·rw[if_neg h];unfold bL;rw[aqN (by simpa using fun e=>h e.symm),aqN (by simpa using fun e=>h e.symm)]
    ·rw[if_neg hk];by_cases h:y=k
     ·subst h;rw[if_neg hk];simp[bL]
     ·have e1:bL ((k,w)::dD r x v) y=bL (dD r x v) y:=by
        unfold bL; rw[aqN (by simpa using fun e=>h e.symm)]
      have e2:bL ((k,w)::r) y=bL r y:=by
        unfold bL; rw[aqN (by simpa using fun e=>h e.symm)]
      rw[e1,e2,ih]
end Go.Proofs.YtnjhelpgohdajaaGreatDoor
