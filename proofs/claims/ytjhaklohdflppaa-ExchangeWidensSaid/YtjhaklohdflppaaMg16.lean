/- Texts of one's own, merged: from: The plain logic (19): loops; states by lists; bytes and words as data. Own work. -/
import Derived.IntWalk
import Derived.Test.YtjhaklohdflppaaMg15
set_option linter.unusedVariables false
set_option linter.unusedSimpArgs false
namespace Go.Proofs.Ytjhaklohdflppaa
open Go.RowKit IntWalk
def eu:List (Nat×V)→Nat→V
  | []=>uf
  | (i,v)::r=>upd (eu r) i v
def hL:List (Nat×Ob)→ab
  | []=>hN
  | (i,o)::r=>upd (hL r) i (some o)
def uL:List Nat→Nat→Bool
  | []=>uN
  | i::r=>upd (uL r) i true
theorem rb:eu []=uf:=rfl
theorem gZ (i:Nat) (v:V) (r:List (Nat×V)):eu ((i,v)::r)=upd (eu r) i v:=rfl
theorem tN:hL []=hN:=rfl
theorem eS (i:Nat) (o:Ob) (r:List (Nat×Ob)):hL ((i,o)::r)=upd (hL r) i (some o):=rfl
theorem tO:uL []=uN:=rfl
theorem hP (i:Nat) (r:List Nat):uL (i::r)=upd (uL r) i true:=rfl
theorem tP {i:Nat}:∀ {l:List Nat},i∈l→uL l i=true
  | j::r,h=>by
    rw[hP];by_cases e:i=j
    ·rw[e]; exact upd_same _ _ _
    ·rw[upd_ne _ _ e];exact tP (by simpa [e] using h)
theorem tQ {f:Nat→V} {g:Nat→Nat}:∀ {l:List (Nat×V)},(∀ p∈l,f p.1=p.2.ren g)→∀ t,eu l t=.undef∨f t=(eu l t).ren g
  | [],_,_=>.inl rfl
  | (i,v)::r,h,t=>by
    rw[gZ];by_cases e:t=i
    ·rw[e,upd_same]; exact .inr (h (i,v) (by simp))
    ·rw[upd_ne _ _ e];exact tQ (fun p hp=>h p (by simp[hp])) t
theorem cA {i:Nat} {o:Ob}:∀ {l:List (Nat×Ob)},hL l i=some o→(i,o)∈l
  | [],h=>by cases h
  | (j,q)::r,h=>by
    rw[eS] at h;by_cases e:i=j
    ·rw[e,upd_same] at h;cases h;rw[e]; simp
    ·rw[upd_ne _ _ e] at h;exact Bt _ (cA h)
theorem zp {l:List (Nat×V)} {i t:Nat} (h:i∈(eu l t).ids):i∈l.flatMap fun p=>p.2.ids:=by
  induction l with
  | nil=>cases h
  | cons p r ih =>
    obtain⟨j,v⟩:=p;rw[gZ] at h;rw[Bp,Bu];by_cases e:t=j
    ·rw[e,upd_same] at h; exact .inl h
    ·rw[upd_ne _ _ e] at h; exact .inr (ih h)
def fM (f:Nat→V) (g:Nat→Nat):List (Nat×V)→Prop
  | []=>True
  | (i,v)::r=>f i=v.ren g∧fM f g r
def dQ (h:ab) (g:Nat→Nat):List (Nat×Ob)→Prop
  | []=>True
  | (i,o)::r=>h (g i)=some (o.ren g)∧dQ h g r
def gv:List Nat→Bool
  | []=>true
  | i::r=>!r.contains i&&gv r
theorem rc (f:Nat→V) (g:Nat→Nat):fM f g []=True:=rfl
theorem o8 (f:Nat→V) (g:Nat→Nat) (i:Nat) (v:V) (r:List (Nat×V)):fM f g ((i,v)::r)=(f i=v.ren g∧fM f g r):=rfl
theorem re (h:ab) (g:Nat→Nat):dQ h g []=True:=rfl
theorem o9 (h:ab) (g:Nat→Nat) (i:Nat) (o:Ob) (r:List (Nat×Ob)):dQ h g ((i,o)::r)=(h (g i)=some (o.ren g)∧dQ h g r):=rfl
theorem rf {f:Nat→V} {g:Nat→Nat}:∀ {l:List (Nat×V)},fM f g l→∀ p∈l,f p.1=p.2.ren g
  | (i,v)::r,h,p,hp=>by
    rcases BI.1 hp with rfl | hp
    ·exact h.1
    ·exact rf h.2 p hp
theorem hU {f:ab} {g:Nat→Nat}:∀ {l:List (Nat×Ob)},dQ f g l→∀ p∈l,f (g p.1)=some (p.2.ren g)
  | (i,v)::r,h,p,hp=>by
    rcases BI.1 hp with rfl | hp
    ·exact h.1
    ·exact hU h.2 p hp
theorem jN:∀ {l:List Nat},gv l=true→l.Nodup
  | [],_=>.nil
  | i::r,h=>by
    simp only[gv,Bw,Bool.not_eq_true'] at h;refine List.nodup_cons.2 ⟨fun hi=>?_,jN h.2⟩;have:=List.contains_iff_mem.2 hi;rw[h.1] at this;cases this
theorem uW {σ:St} (g:Nat→Nat) {fl:List (Nat×V)} {hl:List (Nat×Ob)} {ul:List Nat} (h1':fM σ.f g fl) (h2':dQ σ.h g hl)
    (h3':gv (hl.map fun p=>g p.1)=true) (h4:((fl.flatMap fun p=>p.2.ids)++(hl.flatMap fun p=>p.1::p.2.ids)).all (fun i=>ul.contains i)=true):dd σ ⟨eu fl,hL hl,uL ul⟩:=by
  have h1:=rf h1';have h2:=hU h2';have h3:=jN h3';have used:∀ i,i∈(fl.flatMap fun p=>p.2.ids)++(hl.flatMap fun p=>p.1::p.2.ids)→uL ul i=true:=by
    intro i hi;rw[Bm] at h4;exact tP (by simpa using h4 i hi)
  refine⟨⟨g,tQ h1,fun i o ho=>h2 (i,o) (cA ho),fun i j hi hj e=>?_⟩,fun t i hi=>used i (Bv _ (zp hi)),fun i o ho=>⟨used i ?_,fun j hj=>used j ?_⟩⟩
  ·obtain⟨o,ho⟩:=Bn.1 hi;obtain⟨q,hq⟩:=Bn.1 hj;have m1:=cA ho;have m2:=cA hq;have key:∀ {l:List (Nat×Ob)},(l.map fun p=>g p.1).Nodup→∀ {x y:Nat×Ob},x∈l→y∈l→g x.1=g y.1→x=y:=by
     intro l
     induction l with
     | nil=>intro _ x y hx; cases hx
     | cons p r ih =>
       intro hn x y hx hy e;rw[Bj,List.nodup_cons] at hn;rcases BI.1 hx with rfl | hx' <;> rcases BI.1 hy with rfl | hy'
       ·rfl
       ·exact (hn.1 (Br.2 ⟨y,hy',e.symm⟩)).elim
       ·exact (hn.1 (Br.2 ⟨x,hx',e⟩)).elim
       ·exact ih hn.2 hx' hy' e
   exact congrArg Prod.fst (key h3 m1 m2 e)
  ·exact Bl _ (Bi.2 ⟨_,cA ho,by simp⟩)
  ·exact Bl _ (Bi.2 ⟨_,cA ho,by simp[hj]⟩)
section
variable {P:Program} {G:am}
def gC {α:Type} (st:α→St) (μ:α→Nat) (ok:α→Prop) (a:α) (Q:AX→St→Prop) (e:AX) (s:St):Prop :=
  match e with | .nrm=>∃ b,μ b<μ a∧ok b∧dd s (st b) | e=>Q e s
theorem rh {α:Type} (st:α→St) (μ:α→Nat) (ok:α→Prop) (a:α) (Q:AX→St→Prop) (i:Nat) (s:St):gC st μ ok a Q (.ex i) s=Q (.ex i) s:=rfl
theorem pb {α:Type} (st:α→St) (μ:α→Nat) (ok:α→Prop) (a:α) (Q:AX→St→Prop) (s:St):gC st μ ok a Q .ret s=Q .ret s:=rfl
theorem yA {α:Type} {st:α→St} {μ:α→Nat} {ok:α→Prop} {a:α} {Q:AX→St→Prop} {s:St} (b:α) (h1:μ b<μ a) (h2:ok b) (h3:dd s (st b)):gC st μ ok a Q .nrm s:=⟨b,h1,h2,h3⟩
theorem zq {α:Type} {c:aK} {Q:AX→St→Prop} {σ:St} (st:α→St) (μ:α→Nat) (ok:α→Prop) (a0:α) (h0:ok a0) (he:dd σ (st a0)) (round:∀ a,ok a→aG P G c (gC st μ ok a Q) (st a)):aG P G (.loop c) Q σ:=by
  refine⟨fun n s=>∃ a,μ a=n∧ok a∧s=st a,⟨μ a0,st a0,he,a0,rfl,h0,rfl⟩,?_⟩;rintro n s ⟨a,rfl,ha,rfl⟩;have key:(gC st μ ok a Q)=(fun e s'=>match e with | .nrm=>∃ n' τ,n'<μ a∧dd s' τ∧∃ a,μ a=n'∧ok a∧τ=st a | e=>Q e s'):=by
    funext e s'
    cases e with
    | nrm =>
      refine propext ⟨?_,?_⟩
      ·rintro⟨b,h1,h2,h3⟩;exact⟨μ b,st b,h1,h3,b,rfl,h2,rfl⟩
      ·rintro⟨n',τ,h1,h2,b,rfl,h3,rfl⟩;exact⟨b,h1,h3,h2⟩
    | ex i=>rfl
    | ret=>rfl
  have:=round a ha;rw[key] at this;exact this
end
abbrev bs (l:List UInt8):D:=.sl (l.map bD)
def wD (x:UInt32):D:=.int .u32 (x.toNat:Int)
theorem uX (x:UInt8):bN (.w (.c (.d (bD x))))=some (.u8,(x.toNat:Int)):=rfl
theorem uY (x:UInt32):bN (.w (.c (.d (wD x))))=some (.u32,(x.toNat:Int)):=rfl
theorem ri (op:BinOp) (x:UInt8) (k:IntKind) (n:Int):aO op (.w (.c (.d (bD x)))) (.w (.c (.d (.int k n))))=aO op (.w (.c (.d (.int .u8 (x.toNat:Int))))) (.w (.c (.d (.int k n)))):=rfl
theorem rj (op:BinOp) (x:UInt8) (k:IntKind) (n:Int):aO op (.w (.c (.d (.int k n)))) (.w (.c (.d (bD x))))=aO op (.w (.c (.d (.int k n)))) (.w (.c (.d (.int .u8 (x.toNat:Int))))):=rfl
theorem pc (x y:UInt8):aO .lss (.w (.c (.d (bD x)))) (.w (.c (.d (bD y))))=aO .lss (.w (.c (.d (.int .u8 (x.toNat:Int))))) (.w (.c (.d (.int .u8 (y.toNat:Int))))):=rfl
theorem pd (x y:UInt8):aO .leq (.w (.c (.d (bD x)))) (.w (.c (.d (bD y))))=aO .leq (.w (.c (.d (.int .u8 (x.toNat:Int))))) (.w (.c (.d (.int .u8 (y.toNat:Int))))):=rfl
theorem pf (x y:UInt8):aO .gtr (.w (.c (.d (bD x)))) (.w (.c (.d (bD y))))=aO .gtr (.w (.c (.d (.int .u8 (x.toNat:Int))))) (.w (.c (.d (.int .u8 (y.toNat:Int))))):=rfl
theorem pg (x y:UInt8):aO .geq (.w (.c (.d (bD x)))) (.w (.c (.d (bD y))))=aO .geq (.w (.c (.d (.int .u8 (x.toNat:Int))))) (.w (.c (.d (.int .u8 (y.toNat:Int))))):=rfl
theorem pi (x y:UInt8):aO .eql (.w (.c (.d (bD x)))) (.w (.c (.d (bD y))))=aO .eql (.w (.c (.d (.int .u8 (x.toNat:Int))))) (.w (.c (.d (.int .u8 (y.toNat:Int))))):=rfl
theorem pj (x y:UInt8):aO .neq (.w (.c (.d (bD x)))) (.w (.c (.d (bD y))))=aO .neq (.w (.c (.d (.int .u8 (x.toNat:Int))))) (.w (.c (.d (.int .u8 (y.toNat:Int))))):=rfl
theorem pk (x y:UInt8):aO .add (.w (.c (.d (bD x)))) (.w (.c (.d (bD y))))=aO .add (.w (.c (.d (.int .u8 (x.toNat:Int))))) (.w (.c (.d (.int .u8 (y.toNat:Int))))):=rfl
theorem pm (x y:UInt8):aO .sub (.w (.c (.d (bD x)))) (.w (.c (.d (bD y))))=aO .sub (.w (.c (.d (.int .u8 (x.toNat:Int))))) (.w (.c (.d (.int .u8 (y.toNat:Int))))):=rfl
theorem uZ (op:UnOp) (x:UInt8):dO op (.w (.c (.d (bD x))))=dO op (.w (.c (.d (.int .u8 (x.toNat:Int))))):=rfl
theorem m7 (k:IntKind) (n:Int):D.cells (.int k n)=[.int k n]:=rfl
theorem mh (b:Bool):D.cells (.bool b)=[.bool b]:=rfl
theorem m8 (b:ByteArray):D.cells (.str b)=[.str b]:=rfl
theorem pn (es:List D):D.cells (.sl es)=[.sl es]:=rfl
theorem m9 (cs:List D):D.cells (.agg cs)=cs:=rfl
theorem po (x:UInt32):(wD x).cells=[wD x]:=rfl
theorem pp (a:UInt8):bR 1 [bD a]=true:=rfl
theorem pq (a b:UInt8):bR 1 [bD a,bD b]=true:=rfl
theorem pt (x:UInt8):(bD x).cells=[bD x]:=rfl
theorem na {α:Type} (f:α→D) (hf:∀ x,(f x).cells.length=1) (l:List α):bR 1 (l.map f)=true:=by
  unfold bR;rw[Bm];intro d hd;obtain⟨x,_,rfl⟩:=Br.1 hd;simp[hf x]
theorem pu (l:List UInt8):bR 1 (l.map bD)=true:=na bD (fun _=>rfl) l
theorem pv (l:List UInt32):bR 1 (l.map wD)=true:=na wD (fun _=>rfl) l
theorem pw {α β:Type} (f:α→β) (l:List α) (n:Nat):(l.map f).take n=(l.take n).map f:=List.map_take.symm
theorem px {α β:Type} (f:α→β) (l:List α) (n:Nat):(l.map f).drop n=(l.drop n).map f:=List.map_drop.symm
theorem rk {α β:Type} (f:α→β) (l:List α):(l.map f).length=l.length:=BJ _
theorem rl {α β:Type} (f:α→β) (l m:List α):l.map f++m.map f=(l++m).map f:=List.map_append.symm
theorem zr {α β:Type} (f:α→β) (l:List α) (i:Nat):(l.map f)[i]?=(l[i]?).map f:=List.getElem?_map
theorem jp {α:Type} (f:α→D) (hf:∀ x,(f x).cells=[f x]):∀ l:List α,(l.map f).flatMap D.cells=l.map f
  | []=>rfl
  | x::l=>by rw[Bj,Bp,hf x,jp f hf l]; rfl
theorem rm (l:List UInt32):(l.map wD).flatMap D.cells=l.map wD:=jp wD (fun _=>rfl) l
theorem rn (l:List UInt8):(l.map bD).flatMap D.cells=l.map bD:=jp bD (fun _=>rfl) l
def iv (k:IntKind) (n:Int):Int:=k.wrap n
theorem tR (n:Int):IntKind.i64.wrap n=if -9223372036854775808≤n∧n≤9223372036854775807 then n else iv .i64 n:=by
  split
  ·exact IntWalk.i64_in _ ‹_›
  ·rfl
theorem tS (n:Int):IntKind.u64.wrap n=if 0≤n∧n≤18446744073709551615 then n else iv .u64 n:=by
  split
  ·exact IntWalk.u64_in _ (by omega)
  ·rfl
theorem tT (n:Int):IntKind.u32.wrap n=if 0≤n∧n≤4294967295 then n else iv .u32 n:=by
  split
  ·exact IntWalk.u32_in _ (by omega)
  ·rfl
theorem u4 (n:Int):IntKind.u8.wrap n=if 0≤n∧n≤255 then n else iv .u8 n:=by
  split
  ·exact IntWalk.u8_in _ (by omega)
  ·rfl
theorem nb (sz:Nat):bR sz []=true:=rfl
theorem mi (sz:Nat) (e:D) (es:List D):bR sz (e::es)=(e.cells.length==sz&&bR sz es):=rfl
theorem nc (a:ByteArray):fF .eql a a=some (.bool true):=by simp[fF]
theorem vG {α:Type} (a:α):List.replicate 1 a=[a]:=rfl
theorem vH {α:Type} (a:α):List.replicate 2 a=[a,a]:=rfl
theorem vI {α:Type} (a:α):List.replicate 3 a=[a,a,a]:=rfl
theorem vJ {α:Type} (a:α):List.replicate 4 a=[a,a,a,a]:=rfl
theorem vK {α:Type} (a:α):List.replicate 5 a=[a,a,a,a,a]:=rfl
theorem vL {α:Type} (a:α):List.replicate 6 a=[a,a,a,a,a,a]:=rfl
def AV:=@e8
def kr:Option D→Bool | some e=>e.one | none=>false
theorem lV (e:D):kr (some e)=e.one:=rfl
theorem u5 (es:List D) (i s:Nat) (x:D):e8 .sc (.c (.d x)) i 0 (.row s es)=bif kr es[i]?&&x.one then some (.row s (es.set i x)) else AV .sc (.c (.d x)) i 0 (.row s es):=by
  cases hc:(kr es[i]?&&x.one) with
  | false=>rfl
  | true =>
    rw[Bw] at hc;obtain⟨h1,h2⟩:=hc;cases he:es[i]? with
    | none=>rw[he] at h1; cases h1
    | some e =>
      rw[he] at h1;simp only[e8,he,cC,cond_true];cases e <;> first | (cases h1; done) | simp[h2]
theorem rq (k:IntKind) (n:Int):D.one (.int k n)=true:=rfl
theorem py (b:Bool):D.one (.bool b)=true:=rfl
theorem rr (b:ByteArray):D.one (.str b)=true:=rfl
theorem tU (es:List D):D.one (.sl es)=true:=rfl
theorem u6 (x:UInt8):D.one (bD x)=true:=rfl
theorem u7 (x:UInt32):D.one (wD x)=true:=rfl
theorem vM (x:UInt32):aM (.c (.d (wD x)))=[.d (wD x)]:=rfl
theorem vN (x:UInt8):aM (.c (.d (bD x)))=[.d (bD x)]:=rfl
theorem tV (k:IntKind) (n:Int):aM (.c (.d (.int k n)))=[.d (.int k n)]:=rfl
theorem rt (b:Bool):aM (.c (.d (.bool b)))=[.d (.bool b)]:=rfl
theorem tW (b:ByteArray):aM (.c (.d (.str b)))=[.d (.str b)]:=rfl
theorem u9 (es:List D):aM (.c (.d (.sl es)))=[.d (.sl es)]:=rfl
theorem tX (cs:List D):aM (.c (.d (.agg cs)))=cs.map C.d:=rfl
theorem tY:aM (.c .nil)=[.nil]:=rfl
theorem tZ (id sz off n:Nat):aM (.c (.own id sz off n))=[.own id sz off n]:=rfl
theorem t0 (id sz i o:Nat):aM (.c (.ptr id sz i o))=[.ptr id sz i o]:=rfl
theorem va (id sz:Nat):aM (.c (.pa id sz))=[.pa id sz]:=rfl
theorem t5 (cs:List C):aM (.mix cs)=cs:=rfl
theorem ku {σ:St} {p:Nat×Option Kd} {x:D} (h1:(ce σ p).bind (toW σ.h)=some x):dp σ [p] (.w (.c (.d x))):=by
  obtain⟨w1,a1,b1⟩:=B0.1 h1;exact⟨[w1],by simp[ao,a1],.inr b1⟩
theorem z3 {σ:St} {p q:Nat×Option Kd} {x y:D} (h1:(ce σ p).bind (toW σ.h)=some x) (h2:(ce σ q).bind (toW σ.h)=some y):dp σ [p,q] (.tup [.c (.d x),.c (.d y)]):=by
  obtain⟨w1,a1,b1⟩:=B0.1 h1;obtain⟨w2,a2,b2⟩:=B0.1 h2;exact⟨[w1,w2],by simp[ao,a1,a2],.inr (.cons ⟨x,rfl,b1⟩ (.cons ⟨y,rfl,b2⟩ .nil))⟩
def vO (h:ab) (sz:Nat):W→Option (List D)
  | .c (.own id sz' off n)=>match h id with
    | some (.row _ es)=>if off=0∧n=es.length∧sz'=sz then some es else none
    | _=>none
  | .c .nil=>some []
  | _=>none
theorem pz (h:ab) (sz id sz' off n:Nat):vO h sz (.c (.own id sz' off n))=(match h id with
    | some (.row _ es)=>if off=0∧n=es.length∧sz'=sz then some es else none
    | _=>none):=rfl
theorem pA (h:ab) (sz:Nat):vO h sz (.c .nil)=some []:=rfl
end Go.Proofs.Ytjhaklohdflppaa
