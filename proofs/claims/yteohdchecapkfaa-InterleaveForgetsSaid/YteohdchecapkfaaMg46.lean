/- Texts of one's own, merged: from: The plain logic (19): loops; states by lists; bytes and words as data. Own work. -/
import Derived.IntWalk
import Derived.Test.YteohdchecapkfaaMg45
set_option linter.unusedVariables false
set_option linter.unusedSimpArgs false
namespace Go.Proofs.Yteohdchecapkfaa
open Go.RowKit IntWalk
def dw:List (Nat×V)→Nat→V
  | []=>uf
  | (i,v)::r=>upd (dw r) i v
def hL:List (Nat×Ob)→ah
  | []=>hN
  | (i,o)::r=>upd (hL r) i (some o)
def uL:List Nat→Nat→Bool
  | []=>uN
  | i::r=>upd (uL r) i true
theorem pV:dw []=uf:=rfl
theorem gN (i:Nat) (v:V) (r:List (Nat×V)):dw ((i,v)::r)=upd (dw r) i v:=rfl
theorem sF:hL []=hN:=rfl
theorem jz (i:Nat) (o:Ob) (r:List (Nat×Ob)):hL ((i,o)::r)=upd (hL r) i (some o):=rfl
theorem sG:uL []=uN:=rfl
theorem jA (i:Nat) (r:List Nat):uL (i::r)=upd (uL r) i true:=rfl
theorem sH {i:Nat}:∀ {l:List Nat},i∈l→uL l i=true
  | j::r,h=>by
    rw[jA];by_cases e:i=j
    ·rw[e]; exact upd_same _ _ _
    ·rw[upd_ne _ _ e];exact sH (by simpa [e] using h)
theorem sI {f:Nat→V} {g:Nat→Nat}:∀ {l:List (Nat×V)},(∀ p∈l,f p.1=p.2.ren g)→∀ t,dw l t=.undef∨f t=(dw l t).ren g
  | [],_,_=>.inl rfl
  | (i,v)::r,h,t=>by
    rw[gN];by_cases e:t=i
    ·rw[e,upd_same]; exact .inr (h (i,v) (by simp))
    ·rw[upd_ne _ _ e];exact sI (fun p hp=>h p (by simp[hp])) t
theorem e7 {i:Nat} {o:Ob}:∀ {l:List (Nat×Ob)},hL l i=some o→(i,o)∈l
  | [],h=>by cases h
  | (j,q)::r,h=>by
    rw[jz] at h;by_cases e:i=j
    ·rw[e,upd_same] at h;cases h;rw[e]; simp
    ·rw[upd_ne _ _ e] at h;exact y9 _ (e7 h)
theorem xz {l:List (Nat×V)} {i t:Nat} (h:i∈(dw l t).ids):i∈l.flatMap fun p=>p.2.ids:=by
  induction l with
  | nil=>cases h
  | cons p r ih =>
    obtain⟨j,v⟩:=p;rw[gN] at h;rw[y4,ze];by_cases e:t=j
    ·rw[e,upd_same] at h; exact .inl h
    ·rw[upd_ne _ _ e] at h; exact .inr (ih h)
def fE (f:Nat→V) (g:Nat→Nat):List (Nat×V)→Prop
  | []=>True
  | (i,v)::r=>f i=v.ren g∧fE f g r
def fF (h:ah) (g:Nat→Nat):List (Nat×Ob)→Prop
  | []=>True
  | (i,o)::r=>h (g i)=some (o.ren g)∧fF h g r
def hU:List Nat→Bool
  | []=>true
  | i::r=>!r.contains i&&hU r
theorem pW (f:Nat→V) (g:Nat→Nat):fE f g []=True:=rfl
theorem nT (f:Nat→V) (g:Nat→Nat) (i:Nat) (v:V) (r:List (Nat×V)):fE f g ((i,v)::r)=(f i=v.ren g∧fE f g r):=rfl
theorem pX (h:ah) (g:Nat→Nat):fF h g []=True:=rfl
theorem nU (h:ah) (g:Nat→Nat) (i:Nat) (o:Ob) (r:List (Nat×Ob)):fF h g ((i,o)::r)=(h (g i)=some (o.ren g)∧fF h g r):=rfl
theorem pY {f:Nat→V} {g:Nat→Nat}:∀ {l:List (Nat×V)},fE f g l→∀ p∈l,f p.1=p.2.ren g
  | (i,v)::r,h,p,hp=>by
    rcases zs.1 hp with rfl | hp
    ·exact h.1
    ·exact pY h.2 p hp
theorem pZ {f:ah} {g:Nat→Nat}:∀ {l:List (Nat×Ob)},fF f g l→∀ p∈l,f (g p.1)=some (p.2.ren g)
  | (i,v)::r,h,p,hp=>by
    rcases zs.1 hp with rfl | hp
    ·exact h.1
    ·exact pZ h.2 p hp
theorem nV:∀ {l:List Nat},hU l=true→l.Nodup
  | [],_=>.nil
  | i::r,h=>by
    simp only[hU,zi,Bool.not_eq_true'] at h;refine List.nodup_cons.2 ⟨fun hi=>?_,nV h.2⟩;have:=List.contains_iff_mem.2 hi;rw[h.1] at this;cases this
theorem hX {σ:St} (g:Nat→Nat) {fl:List (Nat×V)} {hl:List (Nat×Ob)} {ul:List Nat} (h1':fE σ.f g fl) (h2':fF σ.h g hl)
    (h3':hU (hl.map fun p=>g p.1)=true) (h4:((fl.flatMap fun p=>p.2.ids)++(hl.flatMap fun p=>p.1::p.2.ids)).all (fun i=>ul.contains i)=true):cX σ ⟨dw fl,hL hl,uL ul⟩:=by
  have h1:=pY h1';have h2:=pZ h2';have h3:=nV h3';have used:∀ i,i∈(fl.flatMap fun p=>p.2.ids)++(hl.flatMap fun p=>p.1::p.2.ids)→uL ul i=true:=by
    intro i hi;rw[zf] at h4;exact sH (by simpa using h4 i hi)
  refine⟨⟨g,sI h1,fun i o ho=>h2 (i,o) (e7 ho),fun i j hi hj e=>?_⟩,fun t i hi=>used i (zb _ (xz hi)),fun i o ho=>⟨used i ?_,fun j hj=>used j ?_⟩⟩
  ·obtain⟨o,ho⟩:=y7.1 hi;obtain⟨q,hq⟩:=y7.1 hj;have m1:=e7 ho;have m2:=e7 hq;have key:∀ {l:List (Nat×Ob)},(l.map fun p=>g p.1).Nodup→∀ {x y:Nat×Ob},x∈l→y∈l→g x.1=g y.1→x=y:=by
     intro l
     induction l with
     | nil=>intro _ x y hx; cases hx
     | cons p r ih =>
       intro hn x y hx hy e;rw[y5,List.nodup_cons] at hn;rcases zs.1 hx with rfl | hx' <;> rcases zs.1 hy with rfl | hy'
       ·rfl
       ·exact (hn.1 (za.2 ⟨y,hy',e.symm⟩)).elim
       ·exact (hn.1 (za.2 ⟨x,hx',e⟩)).elim
       ·exact ih hn.2 hx' hy' e
   exact congrArg Prod.fst (key h3 m1 m2 e)
  ·exact y1 _ (y0.2 ⟨_,e7 ho,by simp⟩)
  ·exact y1 _ (y0.2 ⟨_,e7 ho,by simp[hj]⟩)
section
variable {P:Program} {G:au}
def gk {α:Type} (st:α→St) (μ:α→Nat) (ok:α→Prop) (a:α) (Q:AX→St→Prop) (e:AX) (s:St):Prop :=
  match e with | .nrm=>∃ b,μ b<μ a∧ok b∧cX s (st b) | e=>Q e s
theorem p0 {α:Type} (st:α→St) (μ:α→Nat) (ok:α→Prop) (a:α) (Q:AX→St→Prop) (i:Nat) (s:St):gk st μ ok a Q (.ex i) s=Q (.ex i) s:=rfl
theorem nW {α:Type} (st:α→St) (μ:α→Nat) (ok:α→Prop) (a:α) (Q:AX→St→Prop) (s:St):gk st μ ok a Q .ret s=Q .ret s:=rfl
theorem nX {α:Type} {st:α→St} {μ:α→Nat} {ok:α→Prop} {a:α} {Q:AX→St→Prop} {s:St} (b:α) (h1:μ b<μ a) (h2:ok b) (h3:cX s (st b)):gk st μ ok a Q .nrm s:=⟨b,h1,h2,h3⟩
theorem p6 {α:Type} {c:aK} {Q:AX→St→Prop} {σ:St} (st:α→St) (μ:α→Nat) (ok:α→Prop) (a0:α) (h0:ok a0) (he:cX σ (st a0)) (round:∀ a,ok a→aI P G c (gk st μ ok a Q) (st a)):aI P G (.loop c) Q σ:=by
  refine⟨fun n s=>∃ a,μ a=n∧ok a∧s=st a,⟨μ a0,st a0,he,a0,rfl,h0,rfl⟩,?_⟩;rintro n s ⟨a,rfl,ha,rfl⟩;have key:(gk st μ ok a Q)=(fun e s'=>match e with | .nrm=>∃ n' τ,n'<μ a∧cX s' τ∧∃ a,μ a=n'∧ok a∧τ=st a | e=>Q e s'):=by
    funext e s'
    cases e with
    | nrm =>
      refine propext ⟨?_,?_⟩
      ·rintro⟨b,h1,h2,h3⟩;exact⟨μ b,st b,h1,h3,b,rfl,h2,rfl⟩
      ·rintro⟨n',τ,h1,h2,b,rfl,h3,rfl⟩;exact⟨b,h1,h3,h2⟩
    | ex i=>rfl
    | ret=>rfl
  have:=round a ha;rw[key] at this;exact this
end
abbrev bs (l:List UInt8):D:=.sl (l.map bD)
def wD (x:UInt32):D:=.int .u32 (x.toNat:Int)
theorem tB (x:UInt8):bQ (.w (.c (.d (bD x))))=some (.u8,(x.toNat:Int)):=rfl
theorem tC (x:UInt32):bQ (.w (.c (.d (wD x))))=some (.u32,(x.toNat:Int)):=rfl
theorem p7 (op:BinOp) (x:UInt8) (k:IntKind) (n:Int):aQ op (.w (.c (.d (bD x)))) (.w (.c (.d (.int k n))))=aQ op (.w (.c (.d (.int .u8 (x.toNat:Int))))) (.w (.c (.d (.int k n)))):=rfl
theorem p8 (op:BinOp) (x:UInt8) (k:IntKind) (n:Int):aQ op (.w (.c (.d (.int k n)))) (.w (.c (.d (bD x))))=aQ op (.w (.c (.d (.int k n)))) (.w (.c (.d (.int .u8 (x.toNat:Int))))):=rfl
theorem nY (x y:UInt8):aQ .lss (.w (.c (.d (bD x)))) (.w (.c (.d (bD y))))=aQ .lss (.w (.c (.d (.int .u8 (x.toNat:Int))))) (.w (.c (.d (.int .u8 (y.toNat:Int))))):=rfl
theorem nZ (x y:UInt8):aQ .leq (.w (.c (.d (bD x)))) (.w (.c (.d (bD y))))=aQ .leq (.w (.c (.d (.int .u8 (x.toNat:Int))))) (.w (.c (.d (.int .u8 (y.toNat:Int))))):=rfl
theorem oa (x y:UInt8):aQ .gtr (.w (.c (.d (bD x)))) (.w (.c (.d (bD y))))=aQ .gtr (.w (.c (.d (.int .u8 (x.toNat:Int))))) (.w (.c (.d (.int .u8 (y.toNat:Int))))):=rfl
theorem oc (x y:UInt8):aQ .geq (.w (.c (.d (bD x)))) (.w (.c (.d (bD y))))=aQ .geq (.w (.c (.d (.int .u8 (x.toNat:Int))))) (.w (.c (.d (.int .u8 (y.toNat:Int))))):=rfl
theorem od (x y:UInt8):aQ .eql (.w (.c (.d (bD x)))) (.w (.c (.d (bD y))))=aQ .eql (.w (.c (.d (.int .u8 (x.toNat:Int))))) (.w (.c (.d (.int .u8 (y.toNat:Int))))):=rfl
theorem oe (x y:UInt8):aQ .neq (.w (.c (.d (bD x)))) (.w (.c (.d (bD y))))=aQ .neq (.w (.c (.d (.int .u8 (x.toNat:Int))))) (.w (.c (.d (.int .u8 (y.toNat:Int))))):=rfl
theorem oh (x y:UInt8):aQ .add (.w (.c (.d (bD x)))) (.w (.c (.d (bD y))))=aQ .add (.w (.c (.d (.int .u8 (x.toNat:Int))))) (.w (.c (.d (.int .u8 (y.toNat:Int))))):=rfl
theorem ol (x y:UInt8):aQ .sub (.w (.c (.d (bD x)))) (.w (.c (.d (bD y))))=aQ .sub (.w (.c (.d (.int .u8 (x.toNat:Int))))) (.w (.c (.d (.int .u8 (y.toNat:Int))))):=rfl
theorem tD (op:UnOp) (x:UInt8):du op (.w (.c (.d (bD x))))=du op (.w (.c (.d (.int .u8 (x.toNat:Int))))):=rfl
theorem ma (k:IntKind) (n:Int):D.cells (.int k n)=[.int k n]:=rfl
theorem lm (b:Bool):D.cells (.bool b)=[.bool b]:=rfl
theorem mb (b:ByteArray):D.cells (.str b)=[.str b]:=rfl
theorem om (es:List D):D.cells (.sl es)=[.sl es]:=rfl
theorem mc (cs:List D):D.cells (.agg cs)=cs:=rfl
theorem oo (x:UInt32):(wD x).cells=[wD x]:=rfl
theorem oq (a:UInt8):bM 1 [bD a]=true:=rfl
theorem ot (a b:UInt8):bM 1 [bD a,bD b]=true:=rfl
theorem ou (x:UInt8):(bD x).cells=[bD x]:=rfl
theorem me {α:Type} (f:α→D) (hf:∀ x,(f x).cells.length=1) (l:List α):bM 1 (l.map f)=true:=by
  unfold bM;rw[zf];intro d hd;obtain⟨x,_,rfl⟩:=za.1 hd;simp[hf x]
theorem ov (l:List UInt8):bM 1 (l.map bD)=true:=me bD (fun _=>rfl) l
theorem ow (l:List UInt32):bM 1 (l.map wD)=true:=me wD (fun _=>rfl) l
theorem ox {α β:Type} (f:α→β) (l:List α) (n:Nat):(l.map f).take n=(l.take n).map f:=List.map_take.symm
theorem oz {α β:Type} (f:α→β) (l:List α) (n:Nat):(l.map f).drop n=(l.drop n).map f:=List.map_drop.symm
theorem p9 {α β:Type} (f:α→β) (l:List α):(l.map f).length=l.length:=zq _
theorem qa {α β:Type} (f:α→β) (l m:List α):l.map f++m.map f=(l++m).map f:=List.map_append.symm
theorem jB {α β:Type} (f:α→β) (l:List α) (i:Nat):(l.map f)[i]?=(l[i]?).map f:=List.getElem?_map
theorem i5 {α:Type} (f:α→D) (hf:∀ x,(f x).cells=[f x]):∀ l:List α,(l.map f).flatMap D.cells=l.map f
  | []=>rfl
  | x::l=>by rw[y5,y4,hf x,i5 f hf l]; rfl
theorem qc (l:List UInt32):(l.map wD).flatMap D.cells=l.map wD:=i5 wD (fun _=>rfl) l
theorem qd (l:List UInt8):(l.map bD).flatMap D.cells=l.map bD:=i5 bD (fun _=>rfl) l
def hY (k:IntKind) (n:Int):Int:=k.wrap n
theorem sJ (n:Int):IntKind.i64.wrap n=if -9223372036854775808≤n∧n≤9223372036854775807 then n else hY .i64 n:=by
  split
  ·exact IntWalk.i64_in _ ‹_›
  ·rfl
theorem sK (n:Int):IntKind.u64.wrap n=if 0≤n∧n≤18446744073709551615 then n else hY .u64 n:=by
  split
  ·exact IntWalk.u64_in _ (by omega)
  ·rfl
theorem sL (n:Int):IntKind.u32.wrap n=if 0≤n∧n≤4294967295 then n else hY .u32 n:=by
  split
  ·exact IntWalk.u32_in _ (by omega)
  ·rfl
theorem tE (n:Int):IntKind.u8.wrap n=if 0≤n∧n≤255 then n else hY .u8 n:=by
  split
  ·exact IntWalk.u8_in _ (by omega)
  ·rfl
theorem mf (sz:Nat):bM sz []=true:=rfl
theorem ln (sz:Nat) (e:D) (es:List D):bM sz (e::es)=(e.cells.length==sz&&bM sz es):=rfl
theorem mg (a:ByteArray):fu .eql a a=some (.bool true):=by simp[fu]
theorem tW {α:Type} (a:α):List.replicate 1 a=[a]:=rfl
theorem tX {α:Type} (a:α):List.replicate 2 a=[a,a]:=rfl
theorem tY {α:Type} (a:α):List.replicate 3 a=[a,a,a]:=rfl
theorem tZ {α:Type} (a:α):List.replicate 4 a=[a,a,a,a]:=rfl
theorem t0 {α:Type} (a:α):List.replicate 5 a=[a,a,a,a,a]:=rfl
theorem t5 {α:Type} (a:α):List.replicate 6 a=[a,a,a,a,a,a]:=rfl
def yR:=@eP
def jM:Option D→Bool | some e=>e.one | none=>false
theorem kV (e:D):jM (some e)=e.one:=rfl
theorem tF (es:List D) (i s:Nat) (x:D):eP .sc (.c (.d x)) i 0 (.row s es)=bif jM es[i]?&&x.one then some (.row s (es.set i x)) else yR .sc (.c (.d x)) i 0 (.row s es):=by
  cases hc:(jM es[i]?&&x.one) with
  | false=>rfl
  | true =>
    rw[zi] at hc;obtain⟨h1,h2⟩:=hc;cases he:es[i]? with
    | none=>rw[he] at h1; cases h1
    | some e =>
      rw[he] at h1;simp only[eP,he,cz,cond_true];cases e <;> first | (cases h1; done) | simp[h2]
theorem qe (k:IntKind) (n:Int):D.one (.int k n)=true:=rfl
theorem oA (b:Bool):D.one (.bool b)=true:=rfl
theorem qf (b:ByteArray):D.one (.str b)=true:=rfl
theorem sM (es:List D):D.one (.sl es)=true:=rfl
theorem tG (x:UInt8):D.one (bD x)=true:=rfl
theorem tH (x:UInt32):D.one (wD x)=true:=rfl
theorem t6 (x:UInt32):aO (.c (.d (wD x)))=[.d (wD x)]:=rfl
theorem t7 (x:UInt8):aO (.c (.d (bD x)))=[.d (bD x)]:=rfl
theorem sN (k:IntKind) (n:Int):aO (.c (.d (.int k n)))=[.d (.int k n)]:=rfl
theorem qg (b:Bool):aO (.c (.d (.bool b)))=[.d (.bool b)]:=rfl
theorem sO (b:ByteArray):aO (.c (.d (.str b)))=[.d (.str b)]:=rfl
theorem tI (es:List D):aO (.c (.d (.sl es)))=[.d (.sl es)]:=rfl
theorem sP (cs:List D):aO (.c (.d (.agg cs)))=cs.map C.d:=rfl
theorem sQ:aO (.c .nil)=[.nil]:=rfl
theorem sR (id sz off n:Nat):aO (.c (.own id sz off n))=[.own id sz off n]:=rfl
theorem sS (id sz i o:Nat):aO (.c (.ptr id sz i o))=[.ptr id sz i o]:=rfl
theorem tJ (id sz:Nat):aO (.c (.pa id sz))=[.pa id sz]:=rfl
theorem sT (cs:List C):aO (.mix cs)=cs:=rfl
theorem xA {σ:St} {p:Nat×Option Kd} {id sz n s:Nat} {es:List D} (h:ba σ p=some (.c (.own id sz 0 n))) (e:σ.h id=some (.row s es)) (hn:n=es.length):bY σ [p] (.w (.c (.fr sz es))):=by
  refine⟨[.c (.own id sz 0 n)],by simp[ar,h],.inl ⟨by simp[W.ids,C.ids],rfl,rfl,?_⟩⟩;subst hn;rw[e];exact⟨by simp[bI],trivial⟩
theorem yc {σ:St} {p:Nat×Option Kd} {x:D} (h1:(ba σ p).bind (toW σ.h)=some x):bY σ [p] (.w (.c (.d x))):=by
  obtain⟨w1,a1,b1⟩:=zl.1 h1;exact⟨[w1],by simp[ar,a1],.inr b1⟩
theorem yd {σ:St} {p q:Nat×Option Kd} {x y:D} (h1:(ba σ p).bind (toW σ.h)=some x) (h2:(ba σ q).bind (toW σ.h)=some y):bY σ [p,q] (.tup [.c (.d x),.c (.d y)]):=by
  obtain⟨w1,a1,b1⟩:=zl.1 h1;obtain⟨w2,a2,b2⟩:=zl.1 h2;exact⟨[w1,w2],by simp[ar,a1,a2],.inr (.cons ⟨x,rfl,b1⟩ (.cons ⟨y,rfl,b2⟩ .nil))⟩
theorem ye {σ:St} {p q r:Nat×Option Kd} {x y z:D} (h1:(ba σ p).bind (toW σ.h)=some x) (h2:(ba σ q).bind (toW σ.h)=some y) (h3:(ba σ r).bind (toW σ.h)=some z):bY σ [p,q,r] (.tup [.c (.d x),.c (.d y),.c (.d z)]):=by
  obtain⟨w1,a1,b1⟩:=zl.1 h1;obtain⟨w2,a2,b2⟩:=zl.1 h2;obtain⟨w3,a3,b3⟩:=zl.1 h3;exact⟨[w1,w2,w3],by simp[ar,a1,a2,a3],.inr (.cons ⟨x,rfl,b1⟩ (.cons ⟨y,rfl,b2⟩ (.cons ⟨z,rfl,b3⟩ .nil)))⟩
def t8 (h:ah) (sz:Nat):W→Option (List D)
  | .c (.own id sz' off n)=>match h id with
    | some (.row _ es)=>if off=0∧n=es.length∧sz'=sz then some es else none
    | _=>none
  | .c .nil=>some []
  | _=>none
theorem oB (h:ah) (sz id sz' off n:Nat):t8 h sz (.c (.own id sz' off n))=(match h id with
    | some (.row _ es)=>if off=0∧n=es.length∧sz'=sz then some es else none
    | _=>none):=rfl
theorem oC (h:ah) (sz:Nat):t8 h sz (.c .nil)=some []:=rfl
end Go.Proofs.Yteohdchecapkfaa
