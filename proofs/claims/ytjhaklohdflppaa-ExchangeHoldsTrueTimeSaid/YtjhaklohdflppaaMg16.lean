/- Texts of one's own, merged: from: The plain logic (19): loops; states by lists; bytes and words as data. Own work. -/
import Derived.IntWalk
import Derived.Test.YtjhaklohdflppaaMg15
set_option linter.unusedVariables false
set_option linter.unusedSimpArgs false
namespace Go.Proofs.Ytjhaklohdflppaa
open Go.RowKit IntWalk
def em:List (Nat×V)→Nat→V
  | []=>uf
  | (i,v)::r=>upd (em r) i v
def hL:List (Nat×Ob)→ak
  | []=>hN
  | (i,o)::r=>upd (hL r) i (some o)
def uL:List Nat→Nat→Bool
  | []=>uN
  | i::r=>upd (uL r) i true
theorem tP:em []=uf:=rfl
theorem jB (i:Nat) (v:V) (r:List (Nat×V)):em ((i,v)::r)=upd (em r) i v:=rfl
theorem wn:hL []=hN:=rfl
theorem gv (i:Nat) (o:Ob) (r:List (Nat×Ob)):hL ((i,o)::r)=upd (hL r) i (some o):=rfl
theorem wq:uL []=uN:=rfl
theorem jL (i:Nat) (r:List Nat):uL (i::r)=upd (uL r) i true:=rfl
theorem wu {i:Nat}:∀ {l:List Nat},i∈l→uL l i=true
  | j::r,h=>by
    rw[jL];by_cases e:i=j
    ·rw[e]; exact upd_same _ _ _
    ·rw[upd_ne _ _ e];exact wu (by simpa [e] using h)
theorem ww {f:Nat→V} {g:Nat→Nat}:∀ {l:List (Nat×V)},(∀ p∈l,f p.1=p.2.ren g)→∀ t,em l t=.undef∨f t=(em l t).ren g
  | [],_,_=>.inl rfl
  | (i,v)::r,h,t=>by
    rw[jB];by_cases e:t=i
    ·rw[e,upd_same]; exact .inr (h (i,v) (by simp))
    ·rw[upd_ne _ _ e];exact ww (fun p hp=>h p (by simp[hp])) t
theorem dt {i:Nat} {o:Ob}:∀ {l:List (Nat×Ob)},hL l i=some o→(i,o)∈l
  | [],h=>by cases h
  | (j,q)::r,h=>by
    rw[gv] at h;by_cases e:i=j
    ·rw[e,upd_same] at h;cases h;rw[e]; simp
    ·rw[upd_ne _ _ e] at h;exact Ev _ (dt h)
theorem B1 {l:List (Nat×V)} {i t:Nat} (h:i∈(em l t).ids):i∈l.flatMap fun p=>p.2.ids:=by
  induction l with
  | nil=>cases h
  | cons p r ih =>
    obtain⟨j,v⟩:=p;rw[jB] at h;rw[Eo,Ex];by_cases e:t=j
    ·rw[e,upd_same] at h; exact .inl h
    ·rw[upd_ne _ _ e] at h; exact .inr (ih h)
def ik (f:Nat→V) (g:Nat→Nat):List (Nat×V)→Prop
  | []=>True
  | (i,v)::r=>f i=v.ren g∧ik f g r
def fo (h:ak) (g:Nat→Nat):List (Nat×Ob)→Prop
  | []=>True
  | (i,o)::r=>h (g i)=some (o.ren g)∧fo h g r
def iU:List Nat→Bool
  | []=>true
  | i::r=>!r.contains i&&iU r
theorem tQ (f:Nat→V) (g:Nat→Nat):ik f g []=True:=rfl
theorem rz (f:Nat→V) (g:Nat→Nat) (i:Nat) (v:V) (r:List (Nat×V)):ik f g ((i,v)::r)=(f i=v.ren g∧ik f g r):=rfl
theorem tR (h:ak) (g:Nat→Nat):fo h g []=True:=rfl
theorem rA (h:ak) (g:Nat→Nat) (i:Nat) (o:Ob) (r:List (Nat×Ob)):fo h g ((i,o)::r)=(h (g i)=some (o.ren g)∧fo h g r):=rfl
theorem tS {f:Nat→V} {g:Nat→Nat}:∀ {l:List (Nat×V)},ik f g l→∀ p∈l,f p.1=p.2.ren g
  | (i,v)::r,h,p,hp=>by
    rcases EJ.1 hp with rfl | hp
    ·exact h.1
    ·exact tS h.2 p hp
theorem jM {f:ak} {g:Nat→Nat}:∀ {l:List (Nat×Ob)},fo f g l→∀ p∈l,f (g p.1)=some (p.2.ren g)
  | (i,v)::r,h,p,hp=>by
    rcases EJ.1 hp with rfl | hp
    ·exact h.1
    ·exact jM h.2 p hp
theorem lY:∀ {l:List Nat},iU l=true→l.Nodup
  | [],_=>.nil
  | i::r,h=>by
    simp only[iU,Ey,Bool.not_eq_true'] at h;refine List.nodup_cons.2 ⟨fun hi=>?_,lY h.2⟩;have:=List.contains_iff_mem.2 hi;rw[h.1] at this;cases this
theorem dQ {σ:St} (g:Nat→Nat) {fl:List (Nat×V)} {hl:List (Nat×Ob)} {ul:List Nat} (h1':ik σ.f g fl) (h2':fo σ.h g hl)
    (h3':iU (hl.map fun p=>g p.1)=true) (h4:((fl.flatMap fun p=>p.2.ids)++(hl.flatMap fun p=>p.1::p.2.ids)).all (fun i=>ul.contains i)=true):ek σ ⟨em fl,hL hl,uL ul⟩:=by
  have h1:=tS h1';have h2:=jM h2';have h3:=lY h3';have used:∀ i,i∈(fl.flatMap fun p=>p.2.ids)++(hl.flatMap fun p=>p.1::p.2.ids)→uL ul i=true:=by
    intro i hi;rw[Ep] at h4;exact wu (by simpa using h4 i hi)
  refine⟨⟨g,ww h1,fun i o ho=>h2 (i,o) (dt ho),fun i j hi hj e=>?_⟩,fun t i hi=>used i (Ez _ (B1 hi)),fun i o ho=>⟨used i ?_,fun j hj=>used j ?_⟩⟩
  ·obtain⟨o,ho⟩:=Eq.1 hi;obtain⟨q,hq⟩:=Eq.1 hj;have m1:=dt ho;have m2:=dt hq;have key:∀ {l:List (Nat×Ob)},(l.map fun p=>g p.1).Nodup→∀ {x y:Nat×Ob},x∈l→y∈l→g x.1=g y.1→x=y:=by
     intro l
     induction l with
     | nil=>intro _ x y hx; cases hx
     | cons p r ih =>
       intro hn x y hx hy e;rw[El,List.nodup_cons] at hn;rcases EJ.1 hx with rfl | hx' <;> rcases EJ.1 hy with rfl | hy'
       ·rfl
       ·exact (hn.1 (Es.2 ⟨y,hy',e.symm⟩)).elim
       ·exact (hn.1 (Es.2 ⟨x,hx',e⟩)).elim
       ·exact ih hn.2 hx' hy' e
   exact congrArg Prod.fst (key h3 m1 m2 e)
  ·exact En _ (Em.2 ⟨_,dt ho,by simp⟩)
  ·exact En _ (Em.2 ⟨_,dt ho,by simp[hj]⟩)
section
variable {P:Program} {G:av}
def jd {α:Type} (st:α→St) (μ:α→Nat) (ok:α→Prop) (a:α) (Q:AX→St→Prop) (e:AX) (s:St):Prop :=
  match e with | .nrm=>∃ b,μ b<μ a∧ok b∧ek s (st b) | e=>Q e s
theorem tT {α:Type} (st:α→St) (μ:α→Nat) (ok:α→Prop) (a:α) (Q:AX→St→Prop) (i:Nat) (s:St):jd st μ ok a Q (.ex i) s=Q (.ex i) s:=rfl
theorem rB {α:Type} (st:α→St) (μ:α→Nat) (ok:α→Prop) (a:α) (Q:AX→St→Prop) (s:St):jd st μ ok a Q .ret s=Q .ret s:=rfl
theorem gq {α:Type} {st:α→St} {μ:α→Nat} {ok:α→Prop} {a:α} {Q:AX→St→Prop} {s:St} (b:α) (h1:μ b<μ a) (h2:ok b) (h3:ek s (st b)):jd st μ ok a Q .nrm s:=⟨b,h1,h2,h3⟩
theorem gR {α:Type} {c:aN} {Q:AX→St→Prop} {σ:St} (st:α→St) (μ:α→Nat) (ok:α→Prop) (a0:α) (h0:ok a0) (he:ek σ (st a0)) (round:∀ a,ok a→aL P G c (jd st μ ok a Q) (st a)):aL P G (.loop c) Q σ:=by
  refine⟨fun n s=>∃ a,μ a=n∧ok a∧s=st a,⟨μ a0,st a0,he,a0,rfl,h0,rfl⟩,?_⟩;rintro n s ⟨a,rfl,ha,rfl⟩;have key:(jd st μ ok a Q)=(fun e s'=>match e with | .nrm=>∃ n' τ,n'<μ a∧ek s' τ∧∃ a,μ a=n'∧ok a∧τ=st a | e=>Q e s'):=by
    funext e s'
    cases e with
    | nrm =>
      refine propext ⟨?_,?_⟩
      ·rintro⟨b,h1,h2,h3⟩;exact⟨μ b,st b,h1,h3,b,rfl,h2,rfl⟩
      ·rintro⟨n',τ,h1,h2,b,rfl,h3,rfl⟩;exact⟨b,h1,h3,h2⟩
    | ex i=>rfl
    | ret=>rfl
  have:=round a ha;rw[key] at this;exact this
end
abbrev bs (l:List UInt8):D:=.sl (l.map bD)
def wD (x:UInt32):D:=.int .u32 (x.toNat:Int)
theorem xN (x:UInt8):cx (.w (.c (.d (bD x))))=some (.u8,(x.toNat:Int)):=rfl
theorem xO (x:UInt32):cx (.w (.c (.d (wD x))))=some (.u32,(x.toNat:Int)):=rfl
theorem tU (op:BinOp) (x:UInt8) (k:IntKind) (n:Int):bh op (.w (.c (.d (bD x)))) (.w (.c (.d (.int k n))))=bh op (.w (.c (.d (.int .u8 (x.toNat:Int))))) (.w (.c (.d (.int k n)))):=rfl
theorem tV (op:BinOp) (x:UInt8) (k:IntKind) (n:Int):bh op (.w (.c (.d (.int k n)))) (.w (.c (.d (bD x))))=bh op (.w (.c (.d (.int k n)))) (.w (.c (.d (.int .u8 (x.toNat:Int))))):=rfl
theorem rC (x y:UInt8):bh .lss (.w (.c (.d (bD x)))) (.w (.c (.d (bD y))))=bh .lss (.w (.c (.d (.int .u8 (x.toNat:Int))))) (.w (.c (.d (.int .u8 (y.toNat:Int))))):=rfl
theorem rD (x y:UInt8):bh .leq (.w (.c (.d (bD x)))) (.w (.c (.d (bD y))))=bh .leq (.w (.c (.d (.int .u8 (x.toNat:Int))))) (.w (.c (.d (.int .u8 (y.toNat:Int))))):=rfl
theorem rE (x y:UInt8):bh .gtr (.w (.c (.d (bD x)))) (.w (.c (.d (bD y))))=bh .gtr (.w (.c (.d (.int .u8 (x.toNat:Int))))) (.w (.c (.d (.int .u8 (y.toNat:Int))))):=rfl
theorem rF (x y:UInt8):bh .geq (.w (.c (.d (bD x)))) (.w (.c (.d (bD y))))=bh .geq (.w (.c (.d (.int .u8 (x.toNat:Int))))) (.w (.c (.d (.int .u8 (y.toNat:Int))))):=rfl
theorem rG (x y:UInt8):bh .eql (.w (.c (.d (bD x)))) (.w (.c (.d (bD y))))=bh .eql (.w (.c (.d (.int .u8 (x.toNat:Int))))) (.w (.c (.d (.int .u8 (y.toNat:Int))))):=rfl
theorem rH (x y:UInt8):bh .neq (.w (.c (.d (bD x)))) (.w (.c (.d (bD y))))=bh .neq (.w (.c (.d (.int .u8 (x.toNat:Int))))) (.w (.c (.d (.int .u8 (y.toNat:Int))))):=rfl
theorem rI (x y:UInt8):bh .add (.w (.c (.d (bD x)))) (.w (.c (.d (bD y))))=bh .add (.w (.c (.d (.int .u8 (x.toNat:Int))))) (.w (.c (.d (.int .u8 (y.toNat:Int))))):=rfl
theorem rJ (x y:UInt8):bh .sub (.w (.c (.d (bD x)))) (.w (.c (.d (bD y))))=bh .sub (.w (.c (.d (.int .u8 (x.toNat:Int))))) (.w (.c (.d (.int .u8 (y.toNat:Int))))):=rfl
theorem xP (op:UnOp) (x:UInt8):fj op (.w (.c (.d (bD x))))=fj op (.w (.c (.d (.int .u8 (x.toNat:Int))))):=rfl
theorem pF (k:IntKind) (n:Int):D.cells (.int k n)=[.int k n]:=rfl
theorem oP (b:Bool):D.cells (.bool b)=[.bool b]:=rfl
theorem pG (b:ByteArray):D.cells (.str b)=[.str b]:=rfl
theorem rK (es:List D):D.cells (.sl es)=[.sl es]:=rfl
theorem pH (cs:List D):D.cells (.agg cs)=cs:=rfl
theorem rL (x:UInt32):(wD x).cells=[wD x]:=rfl
theorem rM (a:UInt8):cA 1 [bD a]=true:=rfl
theorem rN (a b:UInt8):cA 1 [bD a,bD b]=true:=rfl
theorem rO (x:UInt8):(bD x).cells=[bD x]:=rfl
theorem pI {α:Type} (f:α→D) (hf:∀ x,(f x).cells.length=1) (l:List α):cA 1 (l.map f)=true:=by
  unfold cA;rw[Ep];intro d hd;obtain⟨x,_,rfl⟩:=Es.1 hd;simp[hf x]
theorem rP (l:List UInt8):cA 1 (l.map bD)=true:=pI bD (fun _=>rfl) l
theorem rQ (l:List UInt32):cA 1 (l.map wD)=true:=pI wD (fun _=>rfl) l
theorem rR {α β:Type} (f:α→β) (l:List α) (n:Nat):(l.map f).take n=(l.take n).map f:=List.map_take.symm
theorem rS {α β:Type} (f:α→β) (l:List α) (n:Nat):(l.map f).drop n=(l.drop n).map f:=List.map_drop.symm
theorem tW {α β:Type} (f:α→β) (l:List α):(l.map f).length=l.length:=EK _
theorem tX {α β:Type} (f:α→β) (l m:List α):l.map f++m.map f=(l++m).map f:=List.map_append.symm
theorem mo {α β:Type} (f:α→β) (l:List α) (i:Nat):(l.map f)[i]?=(l[i]?).map f:=List.getElem?_map
theorem lz {α:Type} (f:α→D) (hf:∀ x,(f x).cells=[f x]):∀ l:List α,(l.map f).flatMap D.cells=l.map f
  | []=>rfl
  | x::l=>by rw[El,Eo,hf x,lz f hf l]; rfl
theorem tY (l:List UInt32):(l.map wD).flatMap D.cells=l.map wD:=lz wD (fun _=>rfl) l
theorem tZ (l:List UInt8):(l.map bD).flatMap D.cells=l.map bD:=lz bD (fun _=>rfl) l
def kh (k:IntKind) (n:Int):Int:=k.wrap n
theorem wC (n:Int):IntKind.i64.wrap n=if -9223372036854775808≤n∧n≤9223372036854775807 then n else kh .i64 n:=by
  split
  ·exact IntWalk.i64_in _ ‹_›
  ·rfl
theorem wE (n:Int):IntKind.u64.wrap n=if 0≤n∧n≤18446744073709551615 then n else kh .u64 n:=by
  split
  ·exact IntWalk.u64_in _ (by omega)
  ·rfl
theorem wF (n:Int):IntKind.u32.wrap n=if 0≤n∧n≤4294967295 then n else kh .u32 n:=by
  split
  ·exact IntWalk.u32_in _ (by omega)
  ·rfl
theorem xQ (n:Int):IntKind.u8.wrap n=if 0≤n∧n≤255 then n else kh .u8 n:=by
  split
  ·exact IntWalk.u8_in _ (by omega)
  ·rfl
theorem pJ (sz:Nat):cA sz []=true:=rfl
theorem oQ (sz:Nat) (e:D) (es:List D):cA sz (e::es)=(e.cells.length==sz&&cA sz es):=rfl
theorem pK (a:ByteArray):hU .eql a a=some (.bool true):=by simp[hU]
theorem yu {α:Type} (a:α):List.replicate 1 a=[a]:=rfl
theorem yx {α:Type} (a:α):List.replicate 2 a=[a,a]:=rfl
theorem yy {α:Type} (a:α):List.replicate 3 a=[a,a,a]:=rfl
theorem yz {α:Type} (a:α):List.replicate 4 a=[a,a,a,a]:=rfl
theorem yA {α:Type} (a:α):List.replicate 5 a=[a,a,a,a,a]:=rfl
theorem yB {α:Type} (a:α):List.replicate 6 a=[a,a,a,a,a,a]:=rfl
def DY:=@gI
def mI:Option D→Bool | some e=>e.one | none=>false
theorem ot (e:D):mI (some e)=e.one:=rfl
theorem xR (es:List D) (i s:Nat) (x:D):gI .sc (.c (.d x)) i 0 (.row s es)=bif mI es[i]?&&x.one then some (.row s (es.set i x)) else DY .sc (.c (.d x)) i 0 (.row s es):=by
  cases hc:(mI es[i]?&&x.one) with
  | false=>rfl
  | true =>
    rw[Ey] at hc;obtain⟨h1,h2⟩:=hc;cases he:es[i]? with
    | none=>rw[he] at h1; cases h1
    | some e =>
      rw[he] at h1;simp only[gI,he,dv,cond_true];cases e <;> first | (cases h1; done) | simp[h2]
theorem t5 (k:IntKind) (n:Int):D.one (.int k n)=true:=rfl
theorem rT (b:Bool):D.one (.bool b)=true:=rfl
theorem t6 (b:ByteArray):D.one (.str b)=true:=rfl
theorem wG (es:List D):D.one (.sl es)=true:=rfl
theorem xS (x:UInt8):D.one (bD x)=true:=rfl
theorem xT (x:UInt32):D.one (wD x)=true:=rfl
theorem yC (x:UInt32):bc (.c (.d (wD x)))=[.d (wD x)]:=rfl
theorem yD (x:UInt8):bc (.c (.d (bD x)))=[.d (bD x)]:=rfl
theorem wH (k:IntKind) (n:Int):bc (.c (.d (.int k n)))=[.d (.int k n)]:=rfl
theorem t7 (b:Bool):bc (.c (.d (.bool b)))=[.d (.bool b)]:=rfl
theorem wI (b:ByteArray):bc (.c (.d (.str b)))=[.d (.str b)]:=rfl
theorem xU (es:List D):bc (.c (.d (.sl es)))=[.d (.sl es)]:=rfl
theorem wJ (cs:List D):bc (.c (.d (.agg cs)))=cs.map C.d:=rfl
theorem wK:bc (.c .nil)=[.nil]:=rfl
theorem wL (id sz off n:Nat):bc (.c (.own id sz off n))=[.own id sz off n]:=rfl
theorem wM (id sz i o:Nat):bc (.c (.ptr id sz i o))=[.ptr id sz i o]:=rfl
theorem xV (id sz:Nat):bc (.c (.pa id sz))=[.pa id sz]:=rfl
theorem wN (cs:List C):bc (.mix cs)=cs:=rfl
theorem mJ {σ:St} {p:Nat×Option Kd} {x:D} (h1:(cO σ p).bind (toW σ.h)=some x):eC σ [p] (.w (.c (.d x))):=by
  obtain⟨w1,a1,b1⟩:=E0.1 h1;exact⟨[w1],by simp[az,a1],.inr b1⟩
theorem CO {σ:St} {p q:Nat×Option Kd} {x y:D} (h1:(cO σ p).bind (toW σ.h)=some x) (h2:(cO σ q).bind (toW σ.h)=some y):eC σ [p,q] (.tup [.c (.d x),.c (.d y)]):=by
  obtain⟨w1,a1,b1⟩:=E0.1 h1;obtain⟨w2,a2,b2⟩:=E0.1 h2;exact⟨[w1,w2],by simp[az,a1,a2],.inr (.cons ⟨x,rfl,b1⟩ (.cons ⟨y,rfl,b2⟩ .nil))⟩
def yE (h:ak) (sz:Nat):W→Option (List D)
  | .c (.own id sz' off n)=>match h id with
    | some (.row _ es)=>if off=0∧n=es.length∧sz'=sz then some es else none
    | _=>none
  | .c .nil=>some []
  | _=>none
theorem rU (h:ak) (sz id sz' off n:Nat):yE h sz (.c (.own id sz' off n))=(match h id with
    | some (.row _ es)=>if off=0∧n=es.length∧sz'=sz then some es else none
    | _=>none):=rfl
theorem rV (h:ak) (sz:Nat):yE h sz (.c .nil)=some []:=rfl
end Go.Proofs.Ytjhaklohdflppaa
