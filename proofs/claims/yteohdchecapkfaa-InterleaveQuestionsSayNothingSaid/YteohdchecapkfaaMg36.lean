/- Texts of one's own, merged: from: The plain logic (19): loops; states by lists; bytes and words as data. Own work. -/
import Derived.IntWalk
import Derived.Test.YteohdchecapkfaaMg35
set_option linter.unusedVariables false
set_option linter.unusedSimpArgs false
namespace Go.Proofs.Yteohdchecapkfaa
open Go.RowKit IntWalk
def dq:List (Nat×V)→Nat→V
  | []=>uf
  | (i,v)::r=>upd (dq r) i v
def hL:List (Nat×Ob)→af
  | []=>hN
  | (i,o)::r=>upd (hL r) i (some o)
def uL:List Nat→Nat→Bool
  | []=>uN
  | i::r=>upd (uL r) i true
theorem qI:dq []=uf:=rfl
theorem gU (i:Nat) (v:V) (r:List (Nat×V)):dq ((i,v)::r)=upd (dq r) i v:=rfl
theorem tw:hL []=hN:=rfl
theorem jS (i:Nat) (o:Ob) (r:List (Nat×Ob)):hL ((i,o)::r)=upd (hL r) i (some o):=rfl
theorem tx:uL []=uN:=rfl
theorem jT (i:Nat) (r:List Nat):uL (i::r)=upd (uL r) i true:=rfl
theorem tz {i:Nat}:∀ {l:List Nat},i∈l→uL l i=true
  | j::r,h=>by
    rw[jT];by_cases e:i=j
    ·rw[e]; exact upd_same _ _ _
    ·rw[upd_ne _ _ e];exact tz (by simpa [e] using h)
theorem tA {f:Nat→V} {g:Nat→Nat}:∀ {l:List (Nat×V)},(∀ p∈l,f p.1=p.2.ren g)→∀ t,dq l t=.undef∨f t=(dq l t).ren g
  | [],_,_=>.inl rfl
  | (i,v)::r,h,t=>by
    rw[gU];by_cases e:t=i
    ·rw[e,upd_same]; exact .inr (h (i,v) (by simp))
    ·rw[upd_ne _ _ e];exact tA (fun p hp=>h p (by simp[hp])) t
theorem fc {i:Nat} {o:Ob}:∀ {l:List (Nat×Ob)},hL l i=some o→(i,o)∈l
  | [],h=>by cases h
  | (j,q)::r,h=>by
    rw[jS] at h;by_cases e:i=j
    ·rw[e,upd_same] at h;cases h;rw[e]; simp
    ·rw[upd_ne _ _ e] at h;exact Ad _ (fc h)
theorem yn {l:List (Nat×V)} {i t:Nat} (h:i∈(dq l t).ids):i∈l.flatMap fun p=>p.2.ids:=by
  induction l with
  | nil=>cases h
  | cons p r ih =>
    obtain⟨j,v⟩:=p;rw[gU] at h;rw[z8,Ah];by_cases e:t=j
    ·rw[e,upd_same] at h; exact .inl h
    ·rw[upd_ne _ _ e] at h; exact .inr (ih h)
def fH (f:Nat→V) (g:Nat→Nat):List (Nat×V)→Prop
  | []=>True
  | (i,v)::r=>f i=v.ren g∧fH f g r
def fI (h:af) (g:Nat→Nat):List (Nat×Ob)→Prop
  | []=>True
  | (i,o)::r=>h (g i)=some (o.ren g)∧fI h g r
def io:List Nat→Bool
  | []=>true
  | i::r=>!r.contains i&&io r
theorem qJ (f:Nat→V) (g:Nat→Nat):fH f g []=True:=rfl
theorem oE (f:Nat→V) (g:Nat→Nat) (i:Nat) (v:V) (r:List (Nat×V)):fH f g ((i,v)::r)=(f i=v.ren g∧fH f g r):=rfl
theorem qK (h:af) (g:Nat→Nat):fI h g []=True:=rfl
theorem oF (h:af) (g:Nat→Nat) (i:Nat) (o:Ob) (r:List (Nat×Ob)):fI h g ((i,o)::r)=(h (g i)=some (o.ren g)∧fI h g r):=rfl
theorem qL {f:Nat→V} {g:Nat→Nat}:∀ {l:List (Nat×V)},fH f g l→∀ p∈l,f p.1=p.2.ren g
  | (i,v)::r,h,p,hp=>by
    rcases Ax.1 hp with rfl | hp
    ·exact h.1
    ·exact qL h.2 p hp
theorem qM {f:af} {g:Nat→Nat}:∀ {l:List (Nat×Ob)},fI f g l→∀ p∈l,f (g p.1)=some (p.2.ren g)
  | (i,v)::r,h,p,hp=>by
    rcases Ax.1 hp with rfl | hp
    ·exact h.1
    ·exact qM h.2 p hp
theorem oH:∀ {l:List Nat},io l=true→l.Nodup
  | [],_=>.nil
  | i::r,h=>by
    simp only[io,Al,Bool.not_eq_true'] at h;refine List.nodup_cons.2 ⟨fun hi=>?_,oH h.2⟩;have:=List.contains_iff_mem.2 hi;rw[h.1] at this;cases this
theorem fv {σ:St} (g:Nat→Nat) {fl:List (Nat×V)} {hl:List (Nat×Ob)} {ul:List Nat} (h1':fH σ.f g fl) (h2':fI σ.h g hl)
    (h3':io (hl.map fun p=>g p.1)=true) (h4:((fl.flatMap fun p=>p.2.ids)++(hl.flatMap fun p=>p.1::p.2.ids)).all (fun i=>ul.contains i)=true):da σ ⟨dq fl,hL hl,uL ul⟩:=by
  have h1:=qL h1';have h2:=qM h2';have h3:=oH h3';have used:∀ i,i∈(fl.flatMap fun p=>p.2.ids)++(hl.flatMap fun p=>p.1::p.2.ids)→uL ul i=true:=by
    intro i hi;rw[Ai] at h4;exact tz (by simpa using h4 i hi)
  refine⟨⟨g,tA h1,fun i o ho=>h2 (i,o) (fc ho),fun i j hi hj e=>?_⟩,fun t i hi=>used i (Af _ (yn hi)),fun i o ho=>⟨used i ?_,fun j hj=>used j ?_⟩⟩
  ·obtain⟨o,ho⟩:=Ab.1 hi;obtain⟨q,hq⟩:=Ab.1 hj;have m1:=fc ho;have m2:=fc hq;have key:∀ {l:List (Nat×Ob)},(l.map fun p=>g p.1).Nodup→∀ {x y:Nat×Ob},x∈l→y∈l→g x.1=g y.1→x=y:=by
     intro l
     induction l with
     | nil=>intro _ x y hx; cases hx
     | cons p r ih =>
       intro hn x y hx hy e;rw[z9,List.nodup_cons] at hn;rcases Ax.1 hx with rfl | hx' <;> rcases Ax.1 hy with rfl | hy'
       ·rfl
       ·exact (hn.1 (Ae.2 ⟨y,hy',e.symm⟩)).elim
       ·exact (hn.1 (Ae.2 ⟨x,hx',e⟩)).elim
       ·exact ih hn.2 hx' hy' e
   exact congrArg Prod.fst (key h3 m1 m2 e)
  ·exact z6 _ (z5.2 ⟨_,fc ho,by simp⟩)
  ·exact z6 _ (z5.2 ⟨_,fc ho,by simp[hj]⟩)
section
variable {P:Program} {G:ap}
def gv {α:Type} (st:α→St) (μ:α→Nat) (ok:α→Prop) (a:α) (Q:AX→St→Prop) (e:AX) (s:St):Prop :=
  match e with | .nrm=>∃ b,μ b<μ a∧ok b∧da s (st b) | e=>Q e s
theorem qN {α:Type} (st:α→St) (μ:α→Nat) (ok:α→Prop) (a:α) (Q:AX→St→Prop) (i:Nat) (s:St):gv st μ ok a Q (.ex i) s=Q (.ex i) s:=rfl
theorem oI {α:Type} (st:α→St) (μ:α→Nat) (ok:α→Prop) (a:α) (Q:AX→St→Prop) (s:St):gv st μ ok a Q .ret s=Q .ret s:=rfl
theorem jE {α:Type} {st:α→St} {μ:α→Nat} {ok:α→Prop} {a:α} {Q:AX→St→Prop} {s:St} (b:α) (h1:μ b<μ a) (h2:ok b) (h3:da s (st b)):gv st μ ok a Q .nrm s:=⟨b,h1,h2,h3⟩
theorem jU {α:Type} {c:aL} {Q:AX→St→Prop} {σ:St} (st:α→St) (μ:α→Nat) (ok:α→Prop) (a0:α) (h0:ok a0) (he:da σ (st a0)) (round:∀ a,ok a→aJ P G c (gv st μ ok a Q) (st a)):aJ P G (.loop c) Q σ:=by
  refine⟨fun n s=>∃ a,μ a=n∧ok a∧s=st a,⟨μ a0,st a0,he,a0,rfl,h0,rfl⟩,?_⟩;rintro n s ⟨a,rfl,ha,rfl⟩;have key:(gv st μ ok a Q)=(fun e s'=>match e with | .nrm=>∃ n' τ,n'<μ a∧da s' τ∧∃ a,μ a=n'∧ok a∧τ=st a | e=>Q e s'):=by
    funext e s'
    cases e with
    | nrm =>
      refine propext ⟨?_,?_⟩
      ·rintro⟨b,h1,h2,h3⟩;exact⟨μ b,st b,h1,h3,b,rfl,h2,rfl⟩
      ·rintro⟨n',τ,h1,h2,b,rfl,h3,rfl⟩;exact⟨b,h1,h3,h2⟩
    | ex i=>rfl
    | ret=>rfl
  have:=round a ha;rw[key] at this;exact this
end
abbrev bs (l:List UInt8):D:=.sl (l.map bD)
def wD (x:UInt32):D:=.int .u32 (x.toNat:Int)
theorem uq (x:UInt8):bT (.w (.c (.d (bD x))))=some (.u8,(x.toNat:Int)):=rfl
theorem ut (x:UInt32):bT (.w (.c (.d (wD x))))=some (.u32,(x.toNat:Int)):=rfl
theorem qO (op:BinOp) (x:UInt8) (k:IntKind) (n:Int):aS op (.w (.c (.d (bD x)))) (.w (.c (.d (.int k n))))=aS op (.w (.c (.d (.int .u8 (x.toNat:Int))))) (.w (.c (.d (.int k n)))):=rfl
theorem qP (op:BinOp) (x:UInt8) (k:IntKind) (n:Int):aS op (.w (.c (.d (.int k n)))) (.w (.c (.d (bD x))))=aS op (.w (.c (.d (.int k n)))) (.w (.c (.d (.int .u8 (x.toNat:Int))))):=rfl
theorem oJ (x y:UInt8):aS .lss (.w (.c (.d (bD x)))) (.w (.c (.d (bD y))))=aS .lss (.w (.c (.d (.int .u8 (x.toNat:Int))))) (.w (.c (.d (.int .u8 (y.toNat:Int))))):=rfl
theorem oK (x y:UInt8):aS .leq (.w (.c (.d (bD x)))) (.w (.c (.d (bD y))))=aS .leq (.w (.c (.d (.int .u8 (x.toNat:Int))))) (.w (.c (.d (.int .u8 (y.toNat:Int))))):=rfl
theorem oL (x y:UInt8):aS .gtr (.w (.c (.d (bD x)))) (.w (.c (.d (bD y))))=aS .gtr (.w (.c (.d (.int .u8 (x.toNat:Int))))) (.w (.c (.d (.int .u8 (y.toNat:Int))))):=rfl
theorem oP (x y:UInt8):aS .geq (.w (.c (.d (bD x)))) (.w (.c (.d (bD y))))=aS .geq (.w (.c (.d (.int .u8 (x.toNat:Int))))) (.w (.c (.d (.int .u8 (y.toNat:Int))))):=rfl
theorem oQ (x y:UInt8):aS .eql (.w (.c (.d (bD x)))) (.w (.c (.d (bD y))))=aS .eql (.w (.c (.d (.int .u8 (x.toNat:Int))))) (.w (.c (.d (.int .u8 (y.toNat:Int))))):=rfl
theorem oR (x y:UInt8):aS .neq (.w (.c (.d (bD x)))) (.w (.c (.d (bD y))))=aS .neq (.w (.c (.d (.int .u8 (x.toNat:Int))))) (.w (.c (.d (.int .u8 (y.toNat:Int))))):=rfl
theorem oS (x y:UInt8):aS .add (.w (.c (.d (bD x)))) (.w (.c (.d (bD y))))=aS .add (.w (.c (.d (.int .u8 (x.toNat:Int))))) (.w (.c (.d (.int .u8 (y.toNat:Int))))):=rfl
theorem oT (x y:UInt8):aS .sub (.w (.c (.d (bD x)))) (.w (.c (.d (bD y))))=aS .sub (.w (.c (.d (.int .u8 (x.toNat:Int))))) (.w (.c (.d (.int .u8 (y.toNat:Int))))):=rfl
theorem uu (op:UnOp) (x:UInt8):dC op (.w (.c (.d (bD x))))=dC op (.w (.c (.d (.int .u8 (x.toNat:Int))))):=rfl
theorem mJ (k:IntKind) (n:Int):D.cells (.int k n)=[.int k n]:=rfl
theorem lR (b:Bool):D.cells (.bool b)=[.bool b]:=rfl
theorem mK (b:ByteArray):D.cells (.str b)=[.str b]:=rfl
theorem oU (es:List D):D.cells (.sl es)=[.sl es]:=rfl
theorem mL (cs:List D):D.cells (.agg cs)=cs:=rfl
theorem oV (x:UInt32):(wD x).cells=[wD x]:=rfl
theorem oW (a:UInt8):bN 1 [bD a]=true:=rfl
theorem oY (a b:UInt8):bN 1 [bD a,bD b]=true:=rfl
theorem oZ (x:UInt8):(bD x).cells=[bD x]:=rfl
theorem mM {α:Type} (f:α→D) (hf:∀ x,(f x).cells.length=1) (l:List α):bN 1 (l.map f)=true:=by
  unfold bN;rw[Ai];intro d hd;obtain⟨x,_,rfl⟩:=Ae.1 hd;simp[hf x]
theorem o0 (l:List UInt8):bN 1 (l.map bD)=true:=mM bD (fun _=>rfl) l
theorem pb (l:List UInt32):bN 1 (l.map wD)=true:=mM wD (fun _=>rfl) l
theorem pc:∀ l:List UInt8,en (l.map bD)=some l
  | []=>rfl
  | x::l=>by
    have h:=x.toNat_lt;simp only[z9,en,pc l,bD,kJ];rw[if_pos (by omega)];simp
theorem pd {α β:Type} (f:α→β) (l:List α) (n:Nat):(l.map f).take n=(l.take n).map f:=List.map_take.symm
theorem pf {α β:Type} (f:α→β) (l:List α) (n:Nat):(l.map f).drop n=(l.drop n).map f:=List.map_drop.symm
theorem qQ {α β:Type} (f:α→β) (l:List α):(l.map f).length=l.length:=Au _
theorem qR {α β:Type} (f:α→β) (l m:List α):l.map f++m.map f=(l++m).map f:=List.map_append.symm
theorem gd {α β:Type} (f:α→β) (l:List α) (i:Nat):(l.map f)[i]?=(l[i]?).map f:=List.getElem?_map
theorem yo {α β:Type} (f:α→β) (l:List α) (i:Nat) (x:α):(l.map f).set i (f x)=(l.set i x).map f:=List.map_set.symm
theorem jk {α:Type} (f:α→D) (hf:∀ x,(f x).cells=[f x]):∀ l:List α,(l.map f).flatMap D.cells=l.map f
  | []=>rfl
  | x::l=>by rw[z9,z8,hf x,jk f hf l]; rfl
theorem qS (l:List UInt32):(l.map wD).flatMap D.cells=l.map wD:=jk wD (fun _=>rfl) l
theorem qT (l:List UInt8):(l.map bD).flatMap D.cells=l.map bD:=jk bD (fun _=>rfl) l
def ip (k:IntKind) (n:Int):Int:=k.wrap n
theorem tB (n:Int):IntKind.i64.wrap n=if -9223372036854775808≤n∧n≤9223372036854775807 then n else ip .i64 n:=by
  split
  ·exact IntWalk.i64_in _ ‹_›
  ·rfl
theorem tC (n:Int):IntKind.u64.wrap n=if 0≤n∧n≤18446744073709551615 then n else ip .u64 n:=by
  split
  ·exact IntWalk.u64_in _ (by omega)
  ·rfl
theorem tD (n:Int):IntKind.u32.wrap n=if 0≤n∧n≤4294967295 then n else ip .u32 n:=by
  split
  ·exact IntWalk.u32_in _ (by omega)
  ·rfl
theorem iq (n:Int):IntKind.u8.wrap n=if 0≤n∧n≤255 then n else ip .u8 n:=by
  split
  ·exact IntWalk.u8_in _ (by omega)
  ·rfl
theorem mN (sz:Nat):bN sz []=true:=rfl
theorem lS (sz:Nat) (e:D) (es:List D):bN sz (e::es)=(e.cells.length==sz&&bN sz es):=rfl
theorem mO (a:ByteArray):em .eql a a=some (.bool true):=by simp[em]
theorem uO {α:Type} (a:α):List.replicate 1 a=[a]:=rfl
theorem uP {α:Type} (a:α):List.replicate 2 a=[a,a]:=rfl
theorem uQ {α:Type} (a:α):List.replicate 3 a=[a,a,a]:=rfl
theorem uR {α:Type} (a:α):List.replicate 4 a=[a,a,a,a]:=rfl
theorem uS {α:Type} (a:α):List.replicate 5 a=[a,a,a,a,a]:=rfl
theorem uT {α:Type} (a:α):List.replicate 6 a=[a,a,a,a,a,a]:=rfl
def zX:=@dZ
def ke:Option D→Bool | some e=>e.one | none=>false
theorem lA (e:D):ke (some e)=e.one:=rfl
theorem uv (es:List D) (i s:Nat) (x:D):dZ .sc (.c (.d x)) i 0 (.row s es)=bif ke es[i]?&&x.one then some (.row s (es.set i x)) else zX .sc (.c (.d x)) i 0 (.row s es):=by
  cases hc:(ke es[i]?&&x.one) with
  | false=>rfl
  | true =>
    rw[Al] at hc;obtain⟨h1,h2⟩:=hc;cases he:es[i]? with
    | none=>rw[he] at h1; cases h1
    | some e =>
      rw[he] at h1;simp only[dZ,he,cu,cond_true];cases e <;> first | (cases h1; done) | simp[h2]
theorem qU (k:IntKind) (n:Int):D.one (.int k n)=true:=rfl
theorem pg (b:Bool):D.one (.bool b)=true:=rfl
theorem qV (b:ByteArray):D.one (.str b)=true:=rfl
theorem tE (es:List D):D.one (.sl es)=true:=rfl
theorem kj (x:UInt8):D.one (bD x)=true:=rfl
theorem uw (x:UInt32):D.one (wD x)=true:=rfl
theorem uU (x:UInt32):aQ (.c (.d (wD x)))=[.d (wD x)]:=rfl
theorem uV (x:UInt8):aQ (.c (.d (bD x)))=[.d (bD x)]:=rfl
theorem tF (k:IntKind) (n:Int):aQ (.c (.d (.int k n)))=[.d (.int k n)]:=rfl
theorem qW (b:Bool):aQ (.c (.d (.bool b)))=[.d (.bool b)]:=rfl
theorem tG (b:ByteArray):aQ (.c (.d (.str b)))=[.d (.str b)]:=rfl
theorem ux (es:List D):aQ (.c (.d (.sl es)))=[.d (.sl es)]:=rfl
theorem tH (cs:List D):aQ (.c (.d (.agg cs)))=cs.map C.d:=rfl
theorem tI:aQ (.c .nil)=[.nil]:=rfl
theorem tJ (id sz off n:Nat):aQ (.c (.own id sz off n))=[.own id sz off n]:=rfl
theorem tK (id sz i o:Nat):aQ (.c (.ptr id sz i o))=[.ptr id sz i o]:=rfl
theorem uz (id sz:Nat):aQ (.c (.pa id sz))=[.pa id sz]:=rfl
theorem tL (cs:List C):aQ (.mix cs)=cs:=rfl
theorem zI {σ:St} {p:Nat×Option Kd} {x:D} (h:a9 σ p=some (.c (.d x))):bR σ [p] (.w (.c (.d x))) :=
  ⟨[.c (.d x)],by simp[av,h],.inl ⟨by simp[W.ids,C.ids],rfl⟩⟩
theorem jV {σ:St} {p:Nat×Option Kd} {id sz n s:Nat} {es:List D} (h:a9 σ p=some (.c (.own id sz 0 n))) (e:σ.h id=some (.row s es)) (hn:n=es.length):bR σ [p] (.w (.c (.fr sz es))):=by
  refine⟨[.c (.own id sz 0 n)],by simp[av,h],.inl ⟨by simp[W.ids,C.ids],rfl,rfl,?_⟩⟩;subst hn;rw[e];exact⟨by simp[bH],trivial⟩
theorem qX {σ:St} {p:Nat×Option Kd} {sz:Nat} (h:a9 σ p=some (.c .nil)):bR σ [p] (.w (.c (.fr sz []))) :=
  ⟨[.c .nil],by simp[av,h],.inl ⟨by simp[W.ids,C.ids],rfl⟩⟩
theorem za {σ:St} {p:Nat×Option Kd} {x:D} (h1:(a9 σ p).bind (toW σ.h)=some x):bR σ [p] (.w (.c (.d x))):=by
  obtain⟨w1,a1,b1⟩:=Ao.1 h1;exact⟨[w1],by simp[av,a1],.inr b1⟩
theorem tM {σ:St} {p q:Nat×Option Kd} {x y:D} (h1:(a9 σ p).bind (toW σ.h)=some x) (h2:(a9 σ q).bind (toW σ.h)=some y):bR σ [p,q] (.tup [.c (.d x),.c (.d y)]):=by
  obtain⟨w1,a1,b1⟩:=Ao.1 h1;obtain⟨w2,a2,b2⟩:=Ao.1 h2;exact⟨[w1,w2],by simp[av,a1,a2],.inr (.cons ⟨x,rfl,b1⟩ (.cons ⟨y,rfl,b2⟩ .nil))⟩
theorem zb {σ:St} {p q r:Nat×Option Kd} {x y z:D} (h1:(a9 σ p).bind (toW σ.h)=some x) (h2:(a9 σ q).bind (toW σ.h)=some y) (h3:(a9 σ r).bind (toW σ.h)=some z):bR σ [p,q,r] (.tup [.c (.d x),.c (.d y),.c (.d z)]):=by
  obtain⟨w1,a1,b1⟩:=Ao.1 h1;obtain⟨w2,a2,b2⟩:=Ao.1 h2;obtain⟨w3,a3,b3⟩:=Ao.1 h3;exact⟨[w1,w2,w3],by simp[av,a1,a2,a3],.inr (.cons ⟨x,rfl,b1⟩ (.cons ⟨y,rfl,b2⟩ (.cons ⟨z,rfl,b3⟩ .nil)))⟩
def uW (h:af) (sz:Nat):W→Option (List D)
  | .c (.own id sz' off n)=>match h id with
    | some (.row _ es)=>if off=0∧n=es.length∧sz'=sz then some es else none
    | _=>none
  | .c .nil=>some []
  | _=>none
theorem pi (h:af) (sz id sz' off n:Nat):uW h sz (.c (.own id sz' off n))=(match h id with
    | some (.row _ es)=>if off=0∧n=es.length∧sz'=sz then some es else none
    | _=>none):=rfl
theorem pj (h:af) (sz:Nat):uW h sz (.c .nil)=some []:=rfl
end Go.Proofs.Yteohdchecapkfaa
