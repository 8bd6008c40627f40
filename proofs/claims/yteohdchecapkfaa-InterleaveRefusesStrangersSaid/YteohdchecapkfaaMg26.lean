/- Texts of one's own, merged: from: The plain logic (19): loops; states by lists; bytes and words as data. Own work. -/
import Derived.IntWalk
import Derived.Test.YteohdchecapkfaaMg25
set_option linter.unusedVariables false
set_option linter.unusedSimpArgs false
namespace Go.Proofs.Yteohdchecapkfaa
open Go.RowKit IntWalk
def ec:List (Nat×V)→Nat→V
  | []=>uf
  | (i,v)::r=>upd (ec r) i v
def hL:List (Nat×Ob)→ae
  | []=>hN
  | (i,o)::r=>upd (hL r) i (some o)
def uL:List Nat→Nat→Bool
  | []=>uN
  | i::r=>upd (uL r) i true
theorem rb:ec []=uf:=rfl
theorem ia (i:Nat) (v:V) (r:List (Nat×V)):ec ((i,v)::r)=upd (ec r) i v:=rfl
theorem tX:hL []=hN:=rfl
theorem eT (i:Nat) (o:Ob) (r:List (Nat×Ob)):hL ((i,o)::r)=upd (hL r) i (some o):=rfl
theorem tY:uL []=uN:=rfl
theorem iu (i:Nat) (r:List Nat):uL (i::r)=upd (uL r) i true:=rfl
theorem tZ {i:Nat}:∀ {l:List Nat},i∈l→uL l i=true
  | j::r,h=>by
    rw[iu];by_cases e:i=j
    ·rw[e]; exact upd_same _ _ _
    ·rw[upd_ne _ _ e];exact tZ (by simpa [e] using h)
theorem t0 {f:Nat→V} {g:Nat→Nat}:∀ {l:List (Nat×V)},(∀ p∈l,f p.1=p.2.ren g)→∀ t,ec l t=.undef∨f t=(ec l t).ren g
  | [],_,_=>.inl rfl
  | (i,v)::r,h,t=>by
    rw[ia];by_cases e:t=i
    ·rw[e,upd_same]; exact .inr (h (i,v) (by simp))
    ·rw[upd_ne _ _ e];exact t0 (fun p hp=>h p (by simp[hp])) t
theorem cB {i:Nat} {o:Ob}:∀ {l:List (Nat×Ob)},hL l i=some o→(i,o)∈l
  | [],h=>by cases h
  | (j,q)::r,h=>by
    rw[eT] at h;by_cases e:i=j
    ·rw[e,upd_same] at h;cases h;rw[e]; simp
    ·rw[upd_ne _ _ e] at h;exact Bi _ (cB h)
theorem zo {l:List (Nat×V)} {i t:Nat} (h:i∈(ec l t).ids):i∈l.flatMap fun p=>p.2.ids:=by
  induction l with
  | nil=>cases h
  | cons p r ih =>
    obtain⟨j,v⟩:=p;rw[ia] at h;rw[Bb,Bj];by_cases e:t=j
    ·rw[e,upd_same] at h; exact .inl h
    ·rw[upd_ne _ _ e] at h; exact .inr (ih h)
def fP (f:Nat→V) (g:Nat→Nat):List (Nat×V)→Prop
  | []=>True
  | (i,v)::r=>f i=v.ren g∧fP f g r
def dJ (h:ae) (g:Nat→Nat):List (Nat×Ob)→Prop
  | []=>True
  | (i,o)::r=>h (g i)=some (o.ren g)∧dJ h g r
def gy:List Nat→Bool
  | []=>true
  | i::r=>!r.contains i&&gy r
theorem re (f:Nat→V) (g:Nat→Nat):fP f g []=True:=rfl
theorem pc (f:Nat→V) (g:Nat→Nat) (i:Nat) (v:V) (r:List (Nat×V)):fP f g ((i,v)::r)=(f i=v.ren g∧fP f g r):=rfl
theorem rh (h:ae) (g:Nat→Nat):dJ h g []=True:=rfl
theorem pd (h:ae) (g:Nat→Nat) (i:Nat) (o:Ob) (r:List (Nat×Ob)):dJ h g ((i,o)::r)=(h (g i)=some (o.ren g)∧dJ h g r):=rfl
theorem rj {f:Nat→V} {g:Nat→Nat}:∀ {l:List (Nat×V)},fP f g l→∀ p∈l,f p.1=p.2.ren g
  | (i,v)::r,h,p,hp=>by
    rcases Bz.1 hp with rfl | hp
    ·exact h.1
    ·exact rj h.2 p hp
theorem iv {f:ae} {g:Nat→Nat}:∀ {l:List (Nat×Ob)},dJ f g l→∀ p∈l,f (g p.1)=some (p.2.ren g)
  | (i,v)::r,h,p,hp=>by
    rcases Bz.1 hp with rfl | hp
    ·exact h.1
    ·exact iv h.2 p hp
theorem jV:∀ {l:List Nat},gy l=true→l.Nodup
  | [],_=>.nil
  | i::r,h=>by
    simp only[gy,Bm,Bool.not_eq_true'] at h;refine List.nodup_cons.2 ⟨fun hi=>?_,jV h.2⟩;have:=List.contains_iff_mem.2 hi;rw[h.1] at this;cases this
theorem vb {σ:St} (g:Nat→Nat) {fl:List (Nat×V)} {hl:List (Nat×Ob)} {ul:List Nat} (h1':fP σ.f g fl) (h2':dJ σ.h g hl)
    (h3':gy (hl.map fun p=>g p.1)=true) (h4:((fl.flatMap fun p=>p.2.ids)++(hl.flatMap fun p=>p.1::p.2.ids)).all (fun i=>ul.contains i)=true):c8 σ ⟨ec fl,hL hl,uL ul⟩:=by
  have h1:=rj h1';have h2:=iv h2';have h3:=jV h3';have used:∀ i,i∈(fl.flatMap fun p=>p.2.ids)++(hl.flatMap fun p=>p.1::p.2.ids)→uL ul i=true:=by
    intro i hi;rw[Ba] at h4;exact tZ (by simpa using h4 i hi)
  refine⟨⟨g,t0 h1,fun i o ho=>h2 (i,o) (cB ho),fun i j hi hj e=>?_⟩,fun t i hi=>used i (Bl _ (zo hi)),fun i o ho=>⟨used i ?_,fun j hj=>used j ?_⟩⟩
  ·obtain⟨o,ho⟩:=Bc.1 hi;obtain⟨q,hq⟩:=Bc.1 hj;have m1:=cB ho;have m2:=cB hq;have key:∀ {l:List (Nat×Ob)},(l.map fun p=>g p.1).Nodup→∀ {x y:Nat×Ob},x∈l→y∈l→g x.1=g y.1→x=y:=by
     intro l
     induction l with
     | nil=>intro _ x y hx; cases hx
     | cons p r ih =>
       intro hn x y hx hy e;rw[A8,List.nodup_cons] at hn;rcases Bz.1 hx with rfl | hx' <;> rcases Bz.1 hy with rfl | hy'
       ·rfl
       ·exact (hn.1 (Bg.2 ⟨y,hy',e.symm⟩)).elim
       ·exact (hn.1 (Bg.2 ⟨x,hx',e⟩)).elim
       ·exact ih hn.2 hx' hy' e
   exact congrArg Prod.fst (key h3 m1 m2 e)
  ·exact A9 _ (A7.2 ⟨_,cB ho,by simp⟩)
  ·exact A9 _ (A7.2 ⟨_,cB ho,by simp[hj]⟩)
section
variable {P:Program} {G:ap}
def gE {α:Type} (st:α→St) (μ:α→Nat) (ok:α→Prop) (a:α) (Q:AX→St→Prop) (e:AX) (s:St):Prop :=
  match e with | .nrm=>∃ b,μ b<μ a∧ok b∧c8 s (st b) | e=>Q e s
theorem rk {α:Type} (st:α→St) (μ:α→Nat) (ok:α→Prop) (a:α) (Q:AX→St→Prop) (i:Nat) (s:St):gE st μ ok a Q (.ex i) s=Q (.ex i) s:=rfl
theorem pf {α:Type} (st:α→St) (μ:α→Nat) (ok:α→Prop) (a:α) (Q:AX→St→Prop) (s:St):gE st μ ok a Q .ret s=Q .ret s:=rfl
theorem yF {α:Type} {st:α→St} {μ:α→Nat} {ok:α→Prop} {a:α} {Q:AX→St→Prop} {s:St} (b:α) (h1:μ b<μ a) (h2:ok b) (h3:c8 s (st b)):gE st μ ok a Q .nrm s:=⟨b,h1,h2,h3⟩
theorem zp {α:Type} {c:aN} {Q:AX→St→Prop} {σ:St} (st:α→St) (μ:α→Nat) (ok:α→Prop) (a0:α) (h0:ok a0) (he:c8 σ (st a0)) (round:∀ a,ok a→aG P G c (gE st μ ok a Q) (st a)):aG P G (.loop c) Q σ:=by
  refine⟨fun n s=>∃ a,μ a=n∧ok a∧s=st a,⟨μ a0,st a0,he,a0,rfl,h0,rfl⟩,?_⟩;rintro n s ⟨a,rfl,ha,rfl⟩;have key:(gE st μ ok a Q)=(fun e s'=>match e with | .nrm=>∃ n' τ,n'<μ a∧c8 s' τ∧∃ a,μ a=n'∧ok a∧τ=st a | e=>Q e s'):=by
    funext e s'
    cases e with
    | nrm =>
      refine propext ⟨?_,?_⟩
      ·rintro⟨b,h1,h2,h3⟩;exact⟨μ b,st b,h1,h3,b,rfl,h2,rfl⟩
      ·rintro⟨n',τ,h1,h2,b,rfl,h3,rfl⟩;exact⟨b,h1,h3,h2⟩
    | ex i=>rfl
    | ret=>rfl
  have:=round a ha;rw[key] at this;exact this
end
abbrev bs (l:List UInt8):D:=.sl (l.map bD)
def wD (x:UInt32):D:=.int .u32 (x.toNat:Int)
theorem ve (x:UInt8):bQ (.w (.c (.d (bD x))))=some (.u8,(x.toNat:Int)):=rfl
theorem vf (x:UInt32):bQ (.w (.c (.d (wD x))))=some (.u32,(x.toNat:Int)):=rfl
theorem rl (op:BinOp) (x:UInt8) (k:IntKind) (n:Int):aQ op (.w (.c (.d (bD x)))) (.w (.c (.d (.int k n))))=aQ op (.w (.c (.d (.int .u8 (x.toNat:Int))))) (.w (.c (.d (.int k n)))):=rfl
theorem rm (op:BinOp) (x:UInt8) (k:IntKind) (n:Int):aQ op (.w (.c (.d (.int k n)))) (.w (.c (.d (bD x))))=aQ op (.w (.c (.d (.int k n)))) (.w (.c (.d (.int .u8 (x.toNat:Int))))):=rfl
theorem pg (x y:UInt8):aQ .lss (.w (.c (.d (bD x)))) (.w (.c (.d (bD y))))=aQ .lss (.w (.c (.d (.int .u8 (x.toNat:Int))))) (.w (.c (.d (.int .u8 (y.toNat:Int))))):=rfl
theorem pi (x y:UInt8):aQ .leq (.w (.c (.d (bD x)))) (.w (.c (.d (bD y))))=aQ .leq (.w (.c (.d (.int .u8 (x.toNat:Int))))) (.w (.c (.d (.int .u8 (y.toNat:Int))))):=rfl
theorem pj (x y:UInt8):aQ .gtr (.w (.c (.d (bD x)))) (.w (.c (.d (bD y))))=aQ .gtr (.w (.c (.d (.int .u8 (x.toNat:Int))))) (.w (.c (.d (.int .u8 (y.toNat:Int))))):=rfl
theorem pk (x y:UInt8):aQ .geq (.w (.c (.d (bD x)))) (.w (.c (.d (bD y))))=aQ .geq (.w (.c (.d (.int .u8 (x.toNat:Int))))) (.w (.c (.d (.int .u8 (y.toNat:Int))))):=rfl
theorem pm (x y:UInt8):aQ .eql (.w (.c (.d (bD x)))) (.w (.c (.d (bD y))))=aQ .eql (.w (.c (.d (.int .u8 (x.toNat:Int))))) (.w (.c (.d (.int .u8 (y.toNat:Int))))):=rfl
theorem pn (x y:UInt8):aQ .neq (.w (.c (.d (bD x)))) (.w (.c (.d (bD y))))=aQ .neq (.w (.c (.d (.int .u8 (x.toNat:Int))))) (.w (.c (.d (.int .u8 (y.toNat:Int))))):=rfl
theorem po (x y:UInt8):aQ .add (.w (.c (.d (bD x)))) (.w (.c (.d (bD y))))=aQ .add (.w (.c (.d (.int .u8 (x.toNat:Int))))) (.w (.c (.d (.int .u8 (y.toNat:Int))))):=rfl
theorem pp (x y:UInt8):aQ .sub (.w (.c (.d (bD x)))) (.w (.c (.d (bD y))))=aQ .sub (.w (.c (.d (.int .u8 (x.toNat:Int))))) (.w (.c (.d (.int .u8 (y.toNat:Int))))):=rfl
theorem vg (op:UnOp) (x:UInt8):dG op (.w (.c (.d (bD x))))=dG op (.w (.c (.d (.int .u8 (x.toNat:Int))))):=rfl
theorem m6 (k:IntKind) (n:Int):D.cells (.int k n)=[.int k n]:=rfl
theorem mc (b:Bool):D.cells (.bool b)=[.bool b]:=rfl
theorem m7 (b:ByteArray):D.cells (.str b)=[.str b]:=rfl
theorem pq (es:List D):D.cells (.sl es)=[.sl es]:=rfl
theorem m8 (cs:List D):D.cells (.agg cs)=cs:=rfl
theorem pt (x:UInt32):(wD x).cells=[wD x]:=rfl
theorem pu (a:UInt8):bM 1 [bD a]=true:=rfl
theorem pv (a b:UInt8):bM 1 [bD a,bD b]=true:=rfl
theorem pw (x:UInt8):(bD x).cells=[bD x]:=rfl
theorem m9 {α:Type} (f:α→D) (hf:∀ x,(f x).cells.length=1) (l:List α):bM 1 (l.map f)=true:=by
  unfold bM;rw[Ba];intro d hd;obtain⟨x,_,rfl⟩:=Bg.1 hd;simp[hf x]
theorem px (l:List UInt8):bM 1 (l.map bD)=true:=m9 bD (fun _=>rfl) l
theorem py (l:List UInt32):bM 1 (l.map wD)=true:=m9 wD (fun _=>rfl) l
theorem pz {α β:Type} (f:α→β) (l:List α) (n:Nat):(l.map f).take n=(l.take n).map f:=List.map_take.symm
theorem pA {α β:Type} (f:α→β) (l:List α) (n:Nat):(l.map f).drop n=(l.drop n).map f:=List.map_drop.symm
theorem rn {α β:Type} (f:α→β) (l:List α):(l.map f).length=l.length:=BA _
theorem rq {α β:Type} (f:α→β) (l m:List α):l.map f++m.map f=(l++m).map f:=List.map_append.symm
theorem iw {α β:Type} (f:α→β) (l:List α) (i:Nat):(l.map f)[i]?=(l[i]?).map f:=List.getElem?_map
theorem jz {α:Type} (f:α→D) (hf:∀ x,(f x).cells=[f x]):∀ l:List α,(l.map f).flatMap D.cells=l.map f
  | []=>rfl
  | x::l=>by rw[A8,Bb,hf x,jz f hf l]; rfl
theorem rr (l:List UInt32):(l.map wD).flatMap D.cells=l.map wD:=jz wD (fun _=>rfl) l
theorem rt (l:List UInt8):(l.map bD).flatMap D.cells=l.map bD:=jz bD (fun _=>rfl) l
def iI (k:IntKind) (n:Int):Int:=k.wrap n
theorem t5 (n:Int):IntKind.i64.wrap n=if -9223372036854775808≤n∧n≤9223372036854775807 then n else iI .i64 n:=by
  split
  ·exact IntWalk.i64_in _ ‹_›
  ·rfl
theorem t6 (n:Int):IntKind.u64.wrap n=if 0≤n∧n≤18446744073709551615 then n else iI .u64 n:=by
  split
  ·exact IntWalk.u64_in _ (by omega)
  ·rfl
theorem t7 (n:Int):IntKind.u32.wrap n=if 0≤n∧n≤4294967295 then n else iI .u32 n:=by
  split
  ·exact IntWalk.u32_in _ (by omega)
  ·rfl
theorem vh (n:Int):IntKind.u8.wrap n=if 0≤n∧n≤255 then n else iI .u8 n:=by
  split
  ·exact IntWalk.u8_in _ (by omega)
  ·rfl
theorem na (sz:Nat):bM sz []=true:=rfl
theorem me (sz:Nat) (e:D) (es:List D):bM sz (e::es)=(e.cells.length==sz&&bM sz es):=rfl
theorem nb (a:ByteArray):fF .eql a a=some (.bool true):=by simp[fF]
theorem vQ {α:Type} (a:α):List.replicate 1 a=[a]:=rfl
theorem vR {α:Type} (a:α):List.replicate 2 a=[a,a]:=rfl
theorem vS {α:Type} (a:α):List.replicate 3 a=[a,a,a]:=rfl
theorem vT {α:Type} (a:α):List.replicate 4 a=[a,a,a,a]:=rfl
theorem vU {α:Type} (a:α):List.replicate 5 a=[a,a,a,a,a]:=rfl
theorem vV {α:Type} (a:α):List.replicate 6 a=[a,a,a,a,a,a]:=rfl
def AW:=@e9
def kw:Option D→Bool | some e=>e.one | none=>false
theorem lT (e:D):kw (some e)=e.one:=rfl
theorem vi (es:List D) (i s:Nat) (x:D):e9 .sc (.c (.d x)) i 0 (.row s es)=bif kw es[i]?&&x.one then some (.row s (es.set i x)) else AW .sc (.c (.d x)) i 0 (.row s es):=by
  cases hc:(kw es[i]?&&x.one) with
  | false=>rfl
  | true =>
    rw[Bm] at hc;obtain⟨h1,h2⟩:=hc;cases he:es[i]? with
    | none=>rw[he] at h1; cases h1
    | some e =>
      rw[he] at h1;simp only[e9,he,cD,cond_true];cases e <;> first | (cases h1; done) | simp[h2]
theorem ru (k:IntKind) (n:Int):D.one (.int k n)=true:=rfl
theorem pB (b:Bool):D.one (.bool b)=true:=rfl
theorem rv (b:ByteArray):D.one (.str b)=true:=rfl
theorem t8 (es:List D):D.one (.sl es)=true:=rfl
theorem vj (x:UInt8):D.one (bD x)=true:=rfl
theorem vk (x:UInt32):D.one (wD x)=true:=rfl
theorem vW (x:UInt32):aP (.c (.d (wD x)))=[.d (wD x)]:=rfl
theorem vX (x:UInt8):aP (.c (.d (bD x)))=[.d (bD x)]:=rfl
theorem t9 (k:IntKind) (n:Int):aP (.c (.d (.int k n)))=[.d (.int k n)]:=rfl
theorem rx (b:Bool):aP (.c (.d (.bool b)))=[.d (.bool b)]:=rfl
theorem ub (b:ByteArray):aP (.c (.d (.str b)))=[.d (.str b)]:=rfl
theorem vl (es:List D):aP (.c (.d (.sl es)))=[.d (.sl es)]:=rfl
theorem uc (cs:List D):aP (.c (.d (.agg cs)))=cs.map C.d:=rfl
theorem ud:aP (.c .nil)=[.nil]:=rfl
theorem ue (id sz off n:Nat):aP (.c (.own id sz off n))=[.own id sz off n]:=rfl
theorem ug (id sz i o:Nat):aP (.c (.ptr id sz i o))=[.ptr id sz i o]:=rfl
theorem vm (id sz:Nat):aP (.c (.pa id sz))=[.pa id sz]:=rfl
theorem uh (cs:List C):aP (.mix cs)=cs:=rfl
theorem zq {σ:St} {p:Nat×Option Kd} {id sz n s:Nat} {es:List D} (h:aZ σ p=some (.c (.own id sz 0 n))) (e:σ.h id=some (.row s es)) (hn:n=es.length):bZ σ [p] (.w (.c (.fr sz es))):=by
  refine⟨[.c (.own id sz 0 n)],by simp[ar,h],.inl ⟨by simp[W.ids,C.ids],rfl,rfl,?_⟩⟩;subst hn;rw[e];exact⟨by simp[bK],trivial⟩
theorem kz {σ:St} {p:Nat×Option Kd} {x:D} (h1:(aZ σ p).bind (toW σ.h)=some x):bZ σ [p] (.w (.c (.d x))):=by
  obtain⟨w1,a1,b1⟩:=Bt.1 h1;exact⟨[w1],by simp[ar,a1],.inr b1⟩
theorem z5 {σ:St} {p q:Nat×Option Kd} {x y:D} (h1:(aZ σ p).bind (toW σ.h)=some x) (h2:(aZ σ q).bind (toW σ.h)=some y):bZ σ [p,q] (.tup [.c (.d x),.c (.d y)]):=by
  obtain⟨w1,a1,b1⟩:=Bt.1 h1;obtain⟨w2,a2,b2⟩:=Bt.1 h2;exact⟨[w1,w2],by simp[ar,a1,a2],.inr (.cons ⟨x,rfl,b1⟩ (.cons ⟨y,rfl,b2⟩ .nil))⟩
theorem z6 {σ:St} {p q r:Nat×Option Kd} {x y z:D} (h1:(aZ σ p).bind (toW σ.h)=some x) (h2:(aZ σ q).bind (toW σ.h)=some y) (h3:(aZ σ r).bind (toW σ.h)=some z):bZ σ [p,q,r] (.tup [.c (.d x),.c (.d y),.c (.d z)]):=by
  obtain⟨w1,a1,b1⟩:=Bt.1 h1;obtain⟨w2,a2,b2⟩:=Bt.1 h2;obtain⟨w3,a3,b3⟩:=Bt.1 h3;exact⟨[w1,w2,w3],by simp[ar,a1,a2,a3],.inr (.cons ⟨x,rfl,b1⟩ (.cons ⟨y,rfl,b2⟩ (.cons ⟨z,rfl,b3⟩ .nil)))⟩
def vY (h:ae) (sz:Nat):W→Option (List D)
  | .c (.own id sz' off n)=>match h id with
    | some (.row _ es)=>if off=0∧n=es.length∧sz'=sz then some es else none
    | _=>none
  | .c .nil=>some []
  | _=>none
theorem pC (h:ae) (sz id sz' off n:Nat):vY h sz (.c (.own id sz' off n))=(match h id with
    | some (.row _ es)=>if off=0∧n=es.length∧sz'=sz then some es else none
    | _=>none):=rfl
theorem pD (h:ae) (sz:Nat):vY h sz (.c .nil)=some []:=rfl
end Go.Proofs.Yteohdchecapkfaa
