/- Texts of one's own, merged: from: The plain logic (19): loops; states by lists; bytes and words as data. Own work. -/
import Derived.IntWalk
import Derived.Test.YteohdchecapkfaaMg15
set_option linter.unusedVariables false
set_option linter.unusedSimpArgs false
namespace Go.Proofs.Yteohdchecapkfaa
open Go.RowKit IntWalk
def d6:List (Nat×V)→Nat→V
  | []=>uf
  | (i,v)::r=>upd (d6 r) i v
def hL:List (Nat×Ob)→ah
  | []=>hN
  | (i,o)::r=>upd (hL r) i (some o)
def uL:List Nat→Nat→Bool
  | []=>uN
  | i::r=>upd (uL r) i true
theorem rM:d6 []=uf:=rfl
theorem iI (i:Nat) (v:V) (r:List (Nat×V)):d6 ((i,v)::r)=upd (d6 r) i v:=rfl
theorem uE:hL []=hN:=rfl
theorem fv (i:Nat) (o:Ob) (r:List (Nat×Ob)):hL ((i,o)::r)=upd (hL r) i (some o):=rfl
theorem uF:uL []=uN:=rfl
theorem iV (i:Nat) (r:List Nat):uL (i::r)=upd (uL r) i true:=rfl
theorem uG {i:Nat}:∀ {l:List Nat},i∈l→uL l i=true
  | j::r,h=>by
    rw[iV];by_cases e:i=j
    ·rw[e]; exact upd_same _ _ _
    ·rw[upd_ne _ _ e];exact uG (by simpa [e] using h)
theorem uH {f:Nat→V} {g:Nat→Nat}:∀ {l:List (Nat×V)},(∀ p∈l,f p.1=p.2.ren g)→∀ t,d6 l t=.undef∨f t=(d6 l t).ren g
  | [],_,_=>.inl rfl
  | (i,v)::r,h,t=>by
    rw[iI];by_cases e:t=i
    ·rw[e,upd_same]; exact .inr (h (i,v) (by simp))
    ·rw[upd_ne _ _ e];exact uH (fun p hp=>h p (by simp[hp])) t
theorem cL {i:Nat} {o:Ob}:∀ {l:List (Nat×Ob)},hL l i=some o→(i,o)∈l
  | [],h=>by cases h
  | (j,q)::r,h=>by
    rw[fv] at h;by_cases e:i=j
    ·rw[e,upd_same] at h;cases h;rw[e]; simp
    ·rw[upd_ne _ _ e] at h;exact B2 _ (cL h)
theorem zU {l:List (Nat×V)} {i t:Nat} (h:i∈(d6 l t).ids):i∈l.flatMap fun p=>p.2.ids:=by
  induction l with
  | nil=>cases h
  | cons p r ih =>
    obtain⟨j,v⟩:=p;rw[iI] at h;rw[BU,B3];by_cases e:t=j
    ·rw[e,upd_same] at h; exact .inl h
    ·rw[upd_ne _ _ e] at h; exact .inr (ih h)
def gA (f:Nat→V) (g:Nat→Nat):List (Nat×V)→Prop
  | []=>True
  | (i,v)::r=>f i=v.ren g∧gA f g r
def d7 (h:ah) (g:Nat→Nat):List (Nat×Ob)→Prop
  | []=>True
  | (i,o)::r=>h (g i)=some (o.ren g)∧d7 h g r
def g0:List Nat→Bool
  | []=>true
  | i::r=>!r.contains i&&g0 r
theorem rN (f:Nat→V) (g:Nat→Nat):gA f g []=True:=rfl
theorem pE (f:Nat→V) (g:Nat→Nat) (i:Nat) (v:V) (r:List (Nat×V)):gA f g ((i,v)::r)=(f i=v.ren g∧gA f g r):=rfl
theorem rO (h:ah) (g:Nat→Nat):d7 h g []=True:=rfl
theorem pF (h:ah) (g:Nat→Nat) (i:Nat) (o:Ob) (r:List (Nat×Ob)):d7 h g ((i,o)::r)=(h (g i)=some (o.ren g)∧d7 h g r):=rfl
theorem rP {f:Nat→V} {g:Nat→Nat}:∀ {l:List (Nat×V)},gA f g l→∀ p∈l,f p.1=p.2.ren g
  | (i,v)::r,h,p,hp=>by
    rcases Ce.1 hp with rfl | hp
    ·exact h.1
    ·exact rP h.2 p hp
theorem iW {f:ah} {g:Nat→Nat}:∀ {l:List (Nat×Ob)},d7 f g l→∀ p∈l,f (g p.1)=some (p.2.ren g)
  | (i,v)::r,h,p,hp=>by
    rcases Ce.1 hp with rfl | hp
    ·exact h.1
    ·exact iW h.2 p hp
theorem kA:∀ {l:List Nat},g0 l=true→l.Nodup
  | [],_=>.nil
  | i::r,h=>by
    simp only[g0,B5,Bool.not_eq_true'] at h;refine List.nodup_cons.2 ⟨fun hi=>?_,kA h.2⟩;have:=List.contains_iff_mem.2 hi;rw[h.1] at this;cases this
theorem eu {σ:St} (g:Nat→Nat) {fl:List (Nat×V)} {hl:List (Nat×Ob)} {ul:List Nat} (h1':gA σ.f g fl) (h2':d7 σ.h g hl)
    (h3':g0 (hl.map fun p=>g p.1)=true) (h4:((fl.flatMap fun p=>p.2.ids)++(hl.flatMap fun p=>p.1::p.2.ids)).all (fun i=>ul.contains i)=true):dv σ ⟨d6 fl,hL hl,uL ul⟩:=by
  have h1:=rP h1';have h2:=iW h2';have h3:=kA h3';have used:∀ i,i∈(fl.flatMap fun p=>p.2.ids)++(hl.flatMap fun p=>p.1::p.2.ids)→uL ul i=true:=by
    intro i hi;rw[BS] at h4;exact uG (by simpa using h4 i hi)
  refine⟨⟨g,uH h1,fun i o ho=>h2 (i,o) (cL ho),fun i j hi hj e=>?_⟩,fun t i hi=>used i (B4 _ (zU hi)),fun i o ho=>⟨used i ?_,fun j hj=>used j ?_⟩⟩
  ·obtain⟨o,ho⟩:=BV.1 hi;obtain⟨q,hq⟩:=BV.1 hj;have m1:=cL ho;have m2:=cL hq;have key:∀ {l:List (Nat×Ob)},(l.map fun p=>g p.1).Nodup→∀ {x y:Nat×Ob},x∈l→y∈l→g x.1=g y.1→x=y:=by
     intro l
     induction l with
     | nil=>intro _ x y hx; cases hx
     | cons p r ih =>
       intro hn x y hx hy e;rw[BO,List.nodup_cons] at hn;rcases Ce.1 hx with rfl | hx' <;> rcases Ce.1 hy with rfl | hy'
       ·rfl
       ·exact (hn.1 (BZ.2 ⟨y,hy',e.symm⟩)).elim
       ·exact (hn.1 (BZ.2 ⟨x,hx',e⟩)).elim
       ·exact ih hn.2 hx' hy' e
   exact congrArg Prod.fst (key h3 m1 m2 e)
  ·exact BR _ (BQ.2 ⟨_,cL ho,by simp⟩)
  ·exact BR _ (BQ.2 ⟨_,cL ho,by simp[hj]⟩)
section
variable {P:Program} {G:ap}
def hP {α:Type} (st:α→St) (μ:α→Nat) (ok:α→Prop) (a:α) (Q:AX→St→Prop) (e:AX) (s:St):Prop :=
  match e with | .nrm=>∃ b,μ b<μ a∧ok b∧dv s (st b) | e=>Q e s
theorem rQ {α:Type} (st:α→St) (μ:α→Nat) (ok:α→Prop) (a:α) (Q:AX→St→Prop) (i:Nat) (s:St):hP st μ ok a Q (.ex i) s=Q (.ex i) s:=rfl
theorem pG {α:Type} (st:α→St) (μ:α→Nat) (ok:α→Prop) (a:α) (Q:AX→St→Prop) (s:St):hP st μ ok a Q .ret s=Q .ret s:=rfl
theorem ft {α:Type} {st:α→St} {μ:α→Nat} {ok:α→Prop} {a:α} {Q:AX→St→Prop} {s:St} (b:α) (h1:μ b<μ a) (h2:ok b) (h3:dv s (st b)):hP st μ ok a Q .nrm s:=⟨b,h1,h2,h3⟩
theorem rR {α:Type} {c:aO} {Q:AX→St→Prop} {σ:St} (st:α→St) (μ:α→Nat) (ok:α→Prop) (a0:α) (h0:ok a0) (he:dv σ (st a0)) (round:∀ a,ok a→aI P G c (hP st μ ok a Q) (st a)):aI P G (.loop c) Q σ:=by
  refine⟨fun n s=>∃ a,μ a=n∧ok a∧s=st a,⟨μ a0,st a0,he,a0,rfl,h0,rfl⟩,?_⟩;rintro n s ⟨a,rfl,ha,rfl⟩;have key:(hP st μ ok a Q)=(fun e s'=>match e with | .nrm=>∃ n' τ,n'<μ a∧dv s' τ∧∃ a,μ a=n'∧ok a∧τ=st a | e=>Q e s'):=by
    funext e s'
    cases e with
    | nrm =>
      refine propext ⟨?_,?_⟩
      ·rintro⟨b,h1,h2,h3⟩;exact⟨μ b,st b,h1,h3,b,rfl,h2,rfl⟩
      ·rintro⟨n',τ,h1,h2,b,rfl,h3,rfl⟩;exact⟨b,h1,h3,h2⟩
    | ex i=>rfl
    | ret=>rfl
  have:=round a ha;rw[key] at this;exact this
end
abbrev bs (l:List UInt8):D:=.sl (l.map bD)
def wD (x:UInt32):D:=.int .u32 (x.toNat:Int)
theorem vK (x:UInt8):bY (.w (.c (.d (bD x))))=some (.u8,(x.toNat:Int)):=rfl
theorem vL (x:UInt32):bY (.w (.c (.d (wD x))))=some (.u32,(x.toNat:Int)):=rfl
theorem rS (op:BinOp) (x:UInt8) (k:IntKind) (n:Int):aS op (.w (.c (.d (bD x)))) (.w (.c (.d (.int k n))))=aS op (.w (.c (.d (.int .u8 (x.toNat:Int))))) (.w (.c (.d (.int k n)))):=rfl
theorem rT (op:BinOp) (x:UInt8) (k:IntKind) (n:Int):aS op (.w (.c (.d (.int k n)))) (.w (.c (.d (bD x))))=aS op (.w (.c (.d (.int k n)))) (.w (.c (.d (.int .u8 (x.toNat:Int))))):=rfl
theorem pH (x y:UInt8):aS .lss (.w (.c (.d (bD x)))) (.w (.c (.d (bD y))))=aS .lss (.w (.c (.d (.int .u8 (x.toNat:Int))))) (.w (.c (.d (.int .u8 (y.toNat:Int))))):=rfl
theorem pI (x y:UInt8):aS .leq (.w (.c (.d (bD x)))) (.w (.c (.d (bD y))))=aS .leq (.w (.c (.d (.int .u8 (x.toNat:Int))))) (.w (.c (.d (.int .u8 (y.toNat:Int))))):=rfl
theorem pJ (x y:UInt8):aS .gtr (.w (.c (.d (bD x)))) (.w (.c (.d (bD y))))=aS .gtr (.w (.c (.d (.int .u8 (x.toNat:Int))))) (.w (.c (.d (.int .u8 (y.toNat:Int))))):=rfl
theorem pK (x y:UInt8):aS .geq (.w (.c (.d (bD x)))) (.w (.c (.d (bD y))))=aS .geq (.w (.c (.d (.int .u8 (x.toNat:Int))))) (.w (.c (.d (.int .u8 (y.toNat:Int))))):=rfl
theorem pL (x y:UInt8):aS .eql (.w (.c (.d (bD x)))) (.w (.c (.d (bD y))))=aS .eql (.w (.c (.d (.int .u8 (x.toNat:Int))))) (.w (.c (.d (.int .u8 (y.toNat:Int))))):=rfl
theorem pM (x y:UInt8):aS .neq (.w (.c (.d (bD x)))) (.w (.c (.d (bD y))))=aS .neq (.w (.c (.d (.int .u8 (x.toNat:Int))))) (.w (.c (.d (.int .u8 (y.toNat:Int))))):=rfl
theorem pN (x y:UInt8):aS .add (.w (.c (.d (bD x)))) (.w (.c (.d (bD y))))=aS .add (.w (.c (.d (.int .u8 (x.toNat:Int))))) (.w (.c (.d (.int .u8 (y.toNat:Int))))):=rfl
theorem pO (x y:UInt8):aS .sub (.w (.c (.d (bD x)))) (.w (.c (.d (bD y))))=aS .sub (.w (.c (.d (.int .u8 (x.toNat:Int))))) (.w (.c (.d (.int .u8 (y.toNat:Int))))):=rfl
theorem vM (op:UnOp) (x:UInt8):dY op (.w (.c (.d (bD x))))=dY op (.w (.c (.d (.int .u8 (x.toNat:Int))))):=rfl
theorem nA (k:IntKind) (n:Int):D.cells (.int k n)=[.int k n]:=rfl
theorem mI (b:Bool):D.cells (.bool b)=[.bool b]:=rfl
theorem nB (b:ByteArray):D.cells (.str b)=[.str b]:=rfl
theorem pP (es:List D):D.cells (.sl es)=[.sl es]:=rfl
theorem nC (cs:List D):D.cells (.agg cs)=cs:=rfl
theorem pQ (x:UInt32):(wD x).cells=[wD x]:=rfl
theorem pR (a:UInt8):bT 1 [bD a]=true:=rfl
theorem pS (a b:UInt8):bT 1 [bD a,bD b]=true:=rfl
theorem pT (x:UInt8):(bD x).cells=[bD x]:=rfl
theorem nD {α:Type} (f:α→D) (hf:∀ x,(f x).cells.length=1) (l:List α):bT 1 (l.map f)=true:=by
  unfold bT;rw[BS];intro d hd;obtain⟨x,_,rfl⟩:=BZ.1 hd;simp[hf x]
theorem pU (l:List UInt8):bT 1 (l.map bD)=true:=nD bD (fun _=>rfl) l
theorem pV (l:List UInt32):bT 1 (l.map wD)=true:=nD wD (fun _=>rfl) l
theorem pW {α β:Type} (f:α→β) (l:List α) (n:Nat):(l.map f).take n=(l.take n).map f:=List.map_take.symm
theorem pX {α β:Type} (f:α→β) (l:List α) (n:Nat):(l.map f).drop n=(l.drop n).map f:=List.map_drop.symm
theorem rU {α β:Type} (f:α→β) (l:List α):(l.map f).length=l.length:=Ch _
theorem rV {α β:Type} (f:α→β) (l m:List α):l.map f++m.map f=(l++m).map f:=List.map_append.symm
theorem iX {α β:Type} (f:α→β) (l:List α) (i:Nat):(l.map f)[i]?=(l[i]?).map f:=List.getElem?_map
theorem j5 {α:Type} (f:α→D) (hf:∀ x,(f x).cells=[f x]):∀ l:List α,(l.map f).flatMap D.cells=l.map f
  | []=>rfl
  | x::l=>by rw[BO,BU,hf x,j5 f hf l]; rfl
theorem rW (l:List UInt32):(l.map wD).flatMap D.cells=l.map wD:=j5 wD (fun _=>rfl) l
theorem rX (l:List UInt8):(l.map bD).flatMap D.cells=l.map bD:=j5 bD (fun _=>rfl) l
def jd (k:IntKind) (n:Int):Int:=k.wrap n
theorem uI (n:Int):IntKind.i64.wrap n=if -9223372036854775808≤n∧n≤9223372036854775807 then n else jd .i64 n:=by
  split
  ·exact IntWalk.i64_in _ ‹_›
  ·rfl
theorem uJ (n:Int):IntKind.u64.wrap n=if 0≤n∧n≤18446744073709551615 then n else jd .u64 n:=by
  split
  ·exact IntWalk.u64_in _ (by omega)
  ·rfl
theorem uK (n:Int):IntKind.u32.wrap n=if 0≤n∧n≤4294967295 then n else jd .u32 n:=by
  split
  ·exact IntWalk.u32_in _ (by omega)
  ·rfl
theorem vN (n:Int):IntKind.u8.wrap n=if 0≤n∧n≤255 then n else jd .u8 n:=by
  split
  ·exact IntWalk.u8_in _ (by omega)
  ·rfl
theorem nE (sz:Nat):bT sz []=true:=rfl
theorem mJ (sz:Nat) (e:D) (es:List D):bT sz (e::es)=(e.cells.length==sz&&bT sz es):=rfl
theorem nF (a:ByteArray):gp .eql a a=some (.bool true):=by simp[gp]
theorem wk {α:Type} (a:α):List.replicate 1 a=[a]:=rfl
theorem wl {α:Type} (a:α):List.replicate 2 a=[a,a]:=rfl
theorem wm {α:Type} (a:α):List.replicate 3 a=[a,a,a]:=rfl
theorem wn {α:Type} (a:α):List.replicate 4 a=[a,a,a,a]:=rfl
theorem wq {α:Type} (a:α):List.replicate 5 a=[a,a,a,a,a]:=rfl
theorem wu {α:Type} (a:α):List.replicate 6 a=[a,a,a,a,a,a]:=rfl
def BF:=@fH
def k7:Option D→Bool | some e=>e.one | none=>false
theorem ml (e:D):k7 (some e)=e.one:=rfl
theorem vO (es:List D) (i s:Nat) (x:D):fH .sc (.c (.d x)) i 0 (.row s es)=bif k7 es[i]?&&x.one then some (.row s (es.set i x)) else BF .sc (.c (.d x)) i 0 (.row s es):=by
  cases hc:(k7 es[i]?&&x.one) with
  | false=>rfl
  | true =>
    rw[B5] at hc;obtain⟨h1,h2⟩:=hc;cases he:es[i]? with
    | none=>rw[he] at h1; cases h1
    | some e =>
      rw[he] at h1;simp only[fH,he,cN,cond_true];cases e <;> first | (cases h1; done) | simp[h2]
theorem rY (k:IntKind) (n:Int):D.one (.int k n)=true:=rfl
theorem pY (b:Bool):D.one (.bool b)=true:=rfl
theorem rZ (b:ByteArray):D.one (.str b)=true:=rfl
theorem uM (es:List D):D.one (.sl es)=true:=rfl
theorem vP (x:UInt8):D.one (bD x)=true:=rfl
theorem vQ (x:UInt32):D.one (wD x)=true:=rfl
theorem ww (x:UInt32):aR (.c (.d (wD x)))=[.d (wD x)]:=rfl
theorem wC (x:UInt8):aR (.c (.d (bD x)))=[.d (bD x)]:=rfl
theorem uO (k:IntKind) (n:Int):aR (.c (.d (.int k n)))=[.d (.int k n)]:=rfl
theorem r6 (b:Bool):aR (.c (.d (.bool b)))=[.d (.bool b)]:=rfl
theorem uP (b:ByteArray):aR (.c (.d (.str b)))=[.d (.str b)]:=rfl
theorem vR (es:List D):aR (.c (.d (.sl es)))=[.d (.sl es)]:=rfl
theorem uQ (cs:List D):aR (.c (.d (.agg cs)))=cs.map C.d:=rfl
theorem uR:aR (.c .nil)=[.nil]:=rfl
theorem uS (id sz off n:Nat):aR (.c (.own id sz off n))=[.own id sz off n]:=rfl
theorem uT (id sz i o:Nat):aR (.c (.ptr id sz i o))=[.ptr id sz i o]:=rfl
theorem vS (id sz:Nat):aR (.c (.pa id sz))=[.pa id sz]:=rfl
theorem uU (cs:List C):aR (.mix cs)=cs:=rfl
theorem zV {σ:St} {p:Nat×Option Kd} {id sz n s:Nat} {es:List D} (h:ba σ p=some (.c (.own id sz 0 n))) (e:σ.h id=some (.row s es)) (hn:n=es.length):ci σ [p] (.w (.c (.fr sz es))):=by
  refine⟨[.c (.own id sz 0 n)],by simp[ar,h],.inl ⟨by simp[W.ids,C.ids],rfl,rfl,?_⟩⟩;subst hn;rw[e];exact⟨by simp[bR],trivial⟩
theorem k9 {σ:St} {p:Nat×Option Kd} {x:D} (h1:(ba σ p).bind (toW σ.h)=some x):ci σ [p] (.w (.c (.d x))):=by
  obtain⟨w1,a1,b1⟩:=Cc.1 h1;exact⟨[w1],by simp[ar,a1],.inr b1⟩
theorem AJ {σ:St} {p q:Nat×Option Kd} {x y:D} (h1:(ba σ p).bind (toW σ.h)=some x) (h2:(ba σ q).bind (toW σ.h)=some y):ci σ [p,q] (.tup [.c (.d x),.c (.d y)]):=by
  obtain⟨w1,a1,b1⟩:=Cc.1 h1;obtain⟨w2,a2,b2⟩:=Cc.1 h2;exact⟨[w1,w2],by simp[ar,a1,a2],.inr (.cons ⟨x,rfl,b1⟩ (.cons ⟨y,rfl,b2⟩ .nil))⟩
theorem AK {σ:St} {p q r:Nat×Option Kd} {x y z:D} (h1:(ba σ p).bind (toW σ.h)=some x) (h2:(ba σ q).bind (toW σ.h)=some y) (h3:(ba σ r).bind (toW σ.h)=some z):ci σ [p,q,r] (.tup [.c (.d x),.c (.d y),.c (.d z)]):=by
  obtain⟨w1,a1,b1⟩:=Cc.1 h1;obtain⟨w2,a2,b2⟩:=Cc.1 h2;obtain⟨w3,a3,b3⟩:=Cc.1 h3;exact⟨[w1,w2,w3],by simp[ar,a1,a2,a3],.inr (.cons ⟨x,rfl,b1⟩ (.cons ⟨y,rfl,b2⟩ (.cons ⟨z,rfl,b3⟩ .nil)))⟩
def wE (h:ah) (sz:Nat):W→Option (List D)
  | .c (.own id sz' off n)=>match h id with
    | some (.row _ es)=>if off=0∧n=es.length∧sz'=sz then some es else none
    | _=>none
  | .c .nil=>some []
  | _=>none
theorem pZ (h:ah) (sz id sz' off n:Nat):wE h sz (.c (.own id sz' off n))=(match h id with
    | some (.row _ es)=>if off=0∧n=es.length∧sz'=sz then some es else none
    | _=>none):=rfl
theorem p0 (h:ah) (sz:Nat):wE h sz (.c .nil)=some []:=rfl
end Go.Proofs.Yteohdchecapkfaa
