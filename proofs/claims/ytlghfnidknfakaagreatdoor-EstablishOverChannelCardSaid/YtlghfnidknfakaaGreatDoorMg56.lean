/- Texts of one's own, merged: from: The plain logic (19): loops; states by lists; bytes and words as data. Own work. -/
import Derived.IntWalk
import Derived.Test.YtlghfnidknfakaaGreatDoorMg55
set_option linter.unusedVariables false
set_option linter.unusedSimpArgs false
namespace Go.Proofs.YtlghfnidknfakaaGreatDoor
open Go.RowKit IntWalk
def aY:List (Nat×V)→Nat→V
  | []=>uf
  | (i,v)::r=>upd (aY r) i v
def hL:List (Nat×Ob)→au
  | []=>hN
  | (i,o)::r=>upd (hL r) i (some o)
def uL:List Nat→Nat→Bool
  | []=>uN
  | i::r=>upd (uL r) i true
theorem GQ:aY []=uf:=rfl
theorem rY (i:Nat) (v:V) (r:List (Nat×V)):aY ((i,v)::r)=upd (aY r) i v:=rfl
theorem Jd:hL []=hN:=rfl
theorem xz (i:Nat) (o:Ob) (r:List (Nat×Ob)):hL ((i,o)::r)=upd (hL r) i (some o):=rfl
theorem Je:uL []=uN:=rfl
theorem xA (i:Nat) (r:List Nat):uL (i::r)=upd (uL r) i true:=rfl
theorem Jf {i:Nat}:∀ {l:List Nat},i∈l→uL l i=true
  | j::r,h=>by
    rw[xA];by_cases e:i=j
    ·rw[e]; exact upd_same _ _ _
    ·rw[upd_ne _ _ e];exact Jf (by simpa [e] using h)
theorem yn {f:Nat→V} {g:Nat→Nat}:∀ {l:List (Nat×V)},(∀ p∈l,f p.1=p.2.ren g)→∀ t,aY l t=.undef∨f t=(aY l t).ren g
  | [],_,_=>.inl rfl
  | (i,v)::r,h,t=>by
    rw[rY];by_cases e:t=i
    ·rw[e,upd_same]; exact .inr (h (i,v) (by simp))
    ·rw[upd_ne _ _ e];exact yn (fun p hp=>h p (by simp[hp])) t
theorem nM {i:Nat} {o:Ob}:∀ {l:List (Nat×Ob)},hL l i=some o→(i,o)∈l
  | [],h=>by cases h
  | (j,q)::r,h=>by
    rw[xz] at h;by_cases e:i=j
    ·rw[e,upd_same] at h;cases h;rw[e]; simp
    ·rw[upd_ne _ _ e] at h;exact Yr _ (nM h)
theorem GR {l:List (Nat×V)} {i t:Nat} (h:i∈(aY l t).ids):i∈l.flatMap fun p=>p.2.ids:=by
  induction l with
  | nil=>cases h
  | cons p r ih =>
    obtain⟨j,v⟩:=p;rw[rY] at h;rw[Yl,Yj];by_cases e:t=j
    ·rw[e,upd_same] at h; exact .inl h
    ·rw[upd_ne _ _ e] at h; exact .inr (ih h)
def kO (f:Nat→V) (g:Nat→Nat):List (Nat×V)→Prop
  | []=>True
  | (i,v)::r=>f i=v.ren g∧kO f g r
def o7 (h:au) (g:Nat→Nat):List (Nat×Ob)→Prop
  | []=>True
  | (i,o)::r=>h (g i)=some (o.ren g)∧o7 h g r
def tR:List Nat→Bool
  | []=>true
  | i::r=>!r.contains i&&tR r
theorem GT (f:Nat→V) (g:Nat→Nat):kO f g []=True:=rfl
theorem Em (f:Nat→V) (g:Nat→Nat) (i:Nat) (v:V) (r:List (Nat×V)):kO f g ((i,v)::r)=(f i=v.ren g∧kO f g r):=rfl
theorem GU (h:au) (g:Nat→Nat):o7 h g []=True:=rfl
theorem En (h:au) (g:Nat→Nat) (i:Nat) (o:Ob) (r:List (Nat×Ob)):o7 h g ((i,o)::r)=(h (g i)=some (o.ren g)∧o7 h g r):=rfl
theorem xB {f:Nat→V} {g:Nat→Nat}:∀ {l:List (Nat×V)},kO f g l→∀ p∈l,f p.1=p.2.ren g
  | (i,v)::r,h,p,hp=>by
    rcases Yi.1 hp with rfl | hp
    ·exact h.1
    ·exact xB h.2 p hp
theorem GV {f:au} {g:Nat→Nat}:∀ {l:List (Nat×Ob)},o7 f g l→∀ p∈l,f (g p.1)=some (p.2.ren g)
  | (i,v)::r,h,p,hp=>by
    rcases Yi.1 hp with rfl | hp
    ·exact h.1
    ·exact GV h.2 p hp
theorem Eo:∀ {l:List Nat},tR l=true→l.Nodup
  | [],_=>.nil
  | i::r,h=>by
    simp only[tR,Ys,ZU] at h;refine List.nodup_cons.2 ⟨fun hi=>?_,Eo h.2⟩;have:=List.contains_iff_mem.2 hi;rw[h.1] at this;cases this
theorem aD {σ:St} (g:Nat→Nat) {fl:List (Nat×V)} {hl:List (Nat×Ob)} {ul:List Nat} (h1':kO σ.f g fl) (h2':o7 σ.h g hl)
    (h3':tR (hl.map fun p=>g p.1)=true) (h4:((fl.flatMap fun p=>p.2.ids)++(hl.flatMap fun p=>p.1::p.2.ids)).all (fun i=>ul.contains i)=true):dN σ ⟨aY fl,hL hl,uL ul⟩:=by
  have h1:=xB h1';have h2:=GV h2';have h3:=Eo h3';have used:∀ i,i∈(fl.flatMap fun p=>p.2.ids)++(hl.flatMap fun p=>p.1::p.2.ids)→uL ul i=true:=by
    intro i hi;rw[Yp] at h4;exact Jf (by simpa using h4 i hi)
  refine⟨⟨g,yn h1,fun i o ho=>h2 (i,o) (nM ho),fun i j hi hj e=>?_⟩,fun t i hi=>used i (YK _ (GR hi)),fun i o ho=>⟨used i ?_,fun j hj=>used j ?_⟩⟩
  ·obtain⟨o,ho⟩:=Yq.1 hi;obtain⟨q,hq⟩:=Yq.1 hj;have m1:=nM ho;have m2:=nM hq;have key:∀ {l:List (Nat×Ob)},(l.map fun p=>g p.1).Nodup→∀ {x y:Nat×Ob},x∈l→y∈l→g x.1=g y.1→x=y:=by
     intro l
     induction l with
     | nil=>intro _ x y hx; cases hx
     | cons p r ih =>
       intro hn x y hx hy e;rw[Ya,List.nodup_cons] at hn;rcases Yi.1 hx with rfl | hx' <;> rcases Yi.1 hy with rfl | hy'
       ·rfl
       ·exact (hn.1 (Yu.2 ⟨y,hy',e.symm⟩)).elim
       ·exact (hn.1 (Yu.2 ⟨x,hx',e⟩)).elim
       ·exact ih hn.2 hx' hy' e
   exact congrArg Prod.fst (key h3 m1 m2 e)
  ·exact Yn _ (Yf.2 ⟨_,nM ho,by simp⟩)
  ·exact Yn _ (Yf.2 ⟨_,nM ho,by simp[hj]⟩)
section
variable {P:Program} {G:ah}
def qO {α:Type} (st:α→St) (μ:α→Nat) (ok:α→Prop) (a:α) (Q:AX→St→Prop) (e:AX) (s:St):Prop :=
  match e with | .nrm=>∃ b,μ b<μ a∧ok b∧dN s (st b) | e=>Q e s
theorem GX {α:Type} (st:α→St) (μ:α→Nat) (ok:α→Prop) (a:α) (Q:AX→St→Prop) (i:Nat) (s:St):qO st μ ok a Q (.ex i) s=Q (.ex i) s:=rfl
theorem Ep {α:Type} (st:α→St) (μ:α→Nat) (ok:α→Prop) (a:α) (Q:AX→St→Prop) (s:St):qO st μ ok a Q .ret s=Q .ret s:=rfl
theorem a6 {α:Type} {st:α→St} {μ:α→Nat} {ok:α→Prop} {a:α} {Q:AX→St→Prop} {s:St} (b:α) (h1:μ b<μ a) (h2:ok b) (h3:dN s (st b)):qO st μ ok a Q .nrm s:=⟨b,h1,h2,h3⟩
theorem bf {α:Type} {c:aO} {Q:AX→St→Prop} {σ:St} (st:α→St) (μ:α→Nat) (ok:α→Prop) (a0:α) (h0:ok a0) (he:dN σ (st a0)) (round:∀ a,ok a→bu P G c (qO st μ ok a Q) (st a)):bu P G (.loop c) Q σ:=by
  refine⟨fun n s=>∃ a,μ a=n∧ok a∧s=st a,⟨μ a0,st a0,he,a0,rfl,h0,rfl⟩,?_⟩;rintro n s ⟨a,rfl,ha,rfl⟩;have key:(qO st μ ok a Q)=(fun e s'=>match e with | .nrm=>∃ n' τ,n'<μ a∧dN s' τ∧∃ a,μ a=n'∧ok a∧τ=st a | e=>Q e s'):=by
    funext e s'
    cases e with
    | nrm =>
      refine propext ⟨?_,?_⟩
      ·rintro⟨b,h1,h2,h3⟩;exact⟨μ b,st b,h1,h3,b,rfl,h2,rfl⟩
      ·rintro⟨n',τ,h1,h2,b,rfl,h3,rfl⟩;exact⟨b,h1,h3,h2⟩
    | ex i=>rfl
    | ret=>rfl
  have:=round a ha;rw[key] at this;exact this
end
theorem mn {P:Program} {G:ah} {F:FuncId} {args:List D} {sz:Nat} {es:List D} (h:aj P G F args (.w (.c (.fr sz es)))):aj P G F args (.w (.c (.d (.sl es)))):=by
  intro w S vs h1 h2 h3;refine (h w S vs h1 h2 h3).mono ?_;rintro e w' ⟨v,S',bl,rfl,k1,k2,k3,k4⟩;have hfresh:∀ b∈bl,w.heap.size≤b∧b<w'.heap.size:=by
    intro b hb;rcases k4 with ⟨_,_,rfl⟩ | ⟨b',cap,ty,N,rfl,_,_,_,q1,_,q2⟩
    ·cases hb
    ·simp only[X9] at hb;subst hb;obtain⟨f1,_,cur,ty',fz,f3,_⟩:=q2;exact⟨f1,(Yh.1 f3).1⟩
  refine⟨v,fun b i=>S' b i∨b∈bl,[],rfl,k1,fun b i hs=>?_,.nil,?_⟩
  ·rcases hs with hs | hs
   ·exact k2 b i hs
   ·exact⟨.inr (hfresh b hs).1,(hfresh b hs).2⟩
  ·have:=qy (m:=fun _=>none) (x:=.c (.fr sz es)) k4 (T:=fun b i=>S' b i∨b∈bl) (fun _ _ h=>.inl h) (fun b hb _=>.inr hb);exact⟨this.1,rfl⟩
theorem T7 {S S':ak} {w:World} {B:Nat} {v:Value} {y:D} {bl:List Nat} (h:fh S w B v (.c (.d y)) bl) (hS:∀ b i,S b i→S' b i):fh S' w B v (.c (.d y)) []∧bl=[]:=by
  cases y with
  | agg cs =>
    obtain⟨⟨us,h1,h2⟩,h3⟩:=h;exact⟨⟨⟨us,h1,h2.weak fun _ _ _ _ h=>h.mono hS⟩,rfl⟩,h3⟩
  | _ =>
    obtain⟨h1,h2⟩:=h;exact⟨⟨h1.mono hS,rfl⟩,h2⟩
theorem pZ {P:Program} {G:ah} {F:FuncId} {args:List D} {sz:Nat} {es:List D} {y:D} (h:aj P G F args (.tup [.c (.fr sz es),.c (.d y)])):aj P G F args (.tup [.c (.d (.sl es)),.c (.d y)]):=by
  intro w S vs h1 h2 h3;refine (h w S vs h1 h2 h3).mono ?_;rintro e w' ⟨v,S',bl,rfl,k1,k2,k3,us,rfl,k4⟩;cases k4 with
  | @cons v1 c1 b1 vs1 cs1 b2 q1 q2 =>
  cases q2 with
  | @cons v2 c2 b3 vs2 cs2 b4 q3 q4 =>
  cases q4;have hfresh:∀ b∈b1,w.heap.size≤b∧b<w'.heap.size:=by
    intro b hb;rcases q1 with ⟨_,_,rfl⟩ | ⟨b',cap,ty,N,rfl,_,_,_,q1,_,q2⟩
    ·cases hb
    ·simp only[X9] at hb;subst hb;obtain⟨f1,_,cur,ty',fz,f3,_⟩:=q2;exact⟨f1,(Yh.1 f3).1⟩
  refine⟨_,fun b i=>S' b i∨b∈b1,[],rfl,k1,fun b i hs=>?_,.nil,_,rfl,?_⟩
  ·rcases hs with hs | hs
   ·exact k2 b i hs
   ·exact⟨.inr (hfresh b hs).1,(hfresh b hs).2⟩
  ·have hx:=qy (m:=fun _=>none) (x:=.c (.fr sz es)) q1 (T:=fun b i=>S' b i∨b∈b1) (fun _ _ h=>.inl h) (fun b hb _=>.inr hb);exact .cons (b1:=[]) (b2:=[]) ⟨hx.1,rfl⟩ (.cons (b1:=[]) (b2:=[]) (T7 q3 fun _ _ h=>.inl h).1 .nil)
abbrev bs (l:List UInt8):D:=.sl (l.map bD)
def wD (x:UInt32):D:=.int .u32 (x.toNat:Int)
theorem Lf (x:UInt8):dF (.w (.c (.d (bD x))))=some (.u8,(x.toNat:Int)):=rfl
theorem Lg (x:UInt32):dF (.w (.c (.d (wD x))))=some (.u32,(x.toNat:Int)):=rfl
theorem GY (op:BinOp) (x:UInt8) (k:IntKind) (n:Int):bF op (.w (.c (.d (bD x)))) (.w (.c (.d (.int k n))))=bF op (.w (.c (.d (.int .u8 (x.toNat:Int))))) (.w (.c (.d (.int k n)))):=rfl
theorem GZ (op:BinOp) (x:UInt8) (k:IntKind) (n:Int):bF op (.w (.c (.d (.int k n)))) (.w (.c (.d (bD x))))=bF op (.w (.c (.d (.int k n)))) (.w (.c (.d (.int .u8 (x.toNat:Int))))):=rfl
theorem Eq (x y:UInt8):bF .lss (.w (.c (.d (bD x)))) (.w (.c (.d (bD y))))=bF .lss (.w (.c (.d (.int .u8 (x.toNat:Int))))) (.w (.c (.d (.int .u8 (y.toNat:Int))))):=rfl
theorem Er (x y:UInt8):bF .leq (.w (.c (.d (bD x)))) (.w (.c (.d (bD y))))=bF .leq (.w (.c (.d (.int .u8 (x.toNat:Int))))) (.w (.c (.d (.int .u8 (y.toNat:Int))))):=rfl
theorem Es (x y:UInt8):bF .gtr (.w (.c (.d (bD x)))) (.w (.c (.d (bD y))))=bF .gtr (.w (.c (.d (.int .u8 (x.toNat:Int))))) (.w (.c (.d (.int .u8 (y.toNat:Int))))):=rfl
theorem Et (x y:UInt8):bF .geq (.w (.c (.d (bD x)))) (.w (.c (.d (bD y))))=bF .geq (.w (.c (.d (.int .u8 (x.toNat:Int))))) (.w (.c (.d (.int .u8 (y.toNat:Int))))):=rfl
theorem Eu (x y:UInt8):bF .eql (.w (.c (.d (bD x)))) (.w (.c (.d (bD y))))=bF .eql (.w (.c (.d (.int .u8 (x.toNat:Int))))) (.w (.c (.d (.int .u8 (y.toNat:Int))))):=rfl
theorem Ev (x y:UInt8):bF .neq (.w (.c (.d (bD x)))) (.w (.c (.d (bD y))))=bF .neq (.w (.c (.d (.int .u8 (x.toNat:Int))))) (.w (.c (.d (.int .u8 (y.toNat:Int))))):=rfl
theorem Ew (x y:UInt8):bF .add (.w (.c (.d (bD x)))) (.w (.c (.d (bD y))))=bF .add (.w (.c (.d (.int .u8 (x.toNat:Int))))) (.w (.c (.d (.int .u8 (y.toNat:Int))))):=rfl
theorem Ex (x y:UInt8):bF .sub (.w (.c (.d (bD x)))) (.w (.c (.d (bD y))))=bF .sub (.w (.c (.d (.int .u8 (x.toNat:Int))))) (.w (.c (.d (.int .u8 (y.toNat:Int))))):=rfl
theorem Lh (op:UnOp) (x:UInt8):jJ op (.w (.c (.d (bD x))))=jJ op (.w (.c (.d (.int .u8 (x.toNat:Int))))):=rfl
theorem Ci (k:IntKind) (n:Int):D.cells (.int k n)=[.int k n]:=rfl
theorem Bs (b:Bool):D.cells (.bool b)=[.bool b]:=rfl
theorem Cj (b:ByteArray):D.cells (.str b)=[.str b]:=rfl
theorem Ey (es:List D):D.cells (.sl es)=[.sl es]:=rfl
theorem Ck (cs:List D):D.cells (.agg cs)=cs:=rfl
theorem Ez (x:UInt32):(wD x).cells=[wD x]:=rfl
theorem EA (a:UInt8):dq 1 [bD a]=true:=rfl
theorem EB (a b:UInt8):dq 1 [bD a,bD b]=true:=rfl
theorem EC (x:UInt8):(bD x).cells=[bD x]:=rfl
theorem pF {α:Type} (f:α→D) (hf:∀ x,(f x).cells.length=1) (l:List α):dq 1 (l.map f)=true:=by
  unfold dq;rw[Yp];intro d hd;obtain⟨x,_,rfl⟩:=Yu.1 hd;simp[hf x]
theorem ED (l:List UInt8):dq 1 (l.map bD)=true:=pF bD (fun _=>rfl) l
theorem EE (l:List UInt32):dq 1 (l.map wD)=true:=pF wD (fun _=>rfl) l
theorem rZ:∀ l:List UInt8,lI (l.map bD)=some l
  | []=>rfl
  | x::l=>by
    have h:=x.toNat_lt;simp only[Ya,lI,rZ l,bD,Ao];rw[if_pos (by omega)];simp
theorem fK {α β:Type} (f:α→β) (l:List α) (n:Nat):(l.map f).take n=(l.take n).map f:=List.map_take.symm
theorem jq {α β:Type} (f:α→β) (l:List α) (n:Nat):(l.map f).drop n=(l.drop n).map f:=List.map_drop.symm
theorem i5 {α β:Type} (f:α→β) (l:List α):(l.map f).length=l.length:=Yc _
theorem j6 {α β:Type} (f:α→β) (l m:List α):l.map f++m.map f=(l++m).map f:=YD.symm
theorem aL {α β:Type} (f:α→β) (l:List α) (i:Nat):(l.map f)[i]?=(l[i]?).map f:=YX
theorem xC {α β:Type} (f:α→β) (l:List α) (i:Nat) (x:α):(l.map f).set i (f x)=(l.set i x).map f:=List.map_set.symm
theorem vV {α:Type} (f:α→D) (hf:∀ x,(f x).cells=[f x]):∀ l:List α,(l.map f).flatMap D.cells=l.map f
  | []=>rfl
  | x::l=>by rw[Ya,Yl,hf x,vV f hf l]; rfl
theorem G1 (l:List UInt32):(l.map wD).flatMap D.cells=l.map wD:=vV wD (fun _=>rfl) l
theorem iz (l:List UInt8):(l.map bD).flatMap D.cells=l.map bD:=vV bD (fun _=>rfl) l
def tS (k:IntKind) (n:Int):Int:=k.wrap n
theorem Jg (n:Int):IntKind.i64.wrap n=if -9223372036854775808≤n∧n≤9223372036854775807 then n else tS .i64 n:=by
  split
  ·exact IntWalk.i64_in _ ‹_›
  ·rfl
theorem Jh (n:Int):IntKind.u64.wrap n=if 0≤n∧n≤18446744073709551615 then n else tS .u64 n:=by
  split
  ·exact IntWalk.u64_in _ (by omega)
  ·rfl
theorem Ji (n:Int):IntKind.u32.wrap n=if 0≤n∧n≤4294967295 then n else tS .u32 n:=by
  split
  ·exact IntWalk.u32_in _ (by omega)
  ·rfl
theorem Li (n:Int):IntKind.u8.wrap n=if 0≤n∧n≤255 then n else tS .u8 n:=by
  split
  ·exact IntWalk.u8_in _ (by omega)
  ·rfl
theorem XQ (s:Nat) (l:List UInt32):V.flat (.w (.c (.fr s (l.map wD))))=true:=by
  simp only[V.flat,W.flat,C.flat,List.all_map,Yp]; intro x _; rfl
theorem oS (s:Nat) (l:List UInt8):V.flat (.w (.c (.fr s (l.map bD))))=true:=by
  simp only[V.flat,W.flat,C.flat,List.all_map,Yp]; intro x _; rfl
theorem Cl (sz:Nat):dq sz []=true:=rfl
theorem Bt (sz:Nat) (e:D) (es:List D):dq sz (e::es)=(e.cells.length==sz&&dq sz es):=rfl
theorem Cm (a:ByteArray):jC .eql a a=some (.bool true):=by simp[jC]
theorem L8 {α:Type} (a:α):List.replicate 1 a=[a]:=rfl
theorem L9 {α:Type} (a:α):List.replicate 2 a=[a,a]:=rfl
theorem Ma {α:Type} (a:α):List.replicate 3 a=[a,a,a]:=rfl
theorem Mb {α:Type} (a:α):List.replicate 4 a=[a,a,a,a]:=rfl
theorem Mc {α:Type} (a:α):List.replicate 5 a=[a,a,a,a,a]:=rfl
theorem Md {α:Type} (a:α):List.replicate 6 a=[a,a,a,a,a,a]:=rfl
def XR:=@jj
def yo:Option D→Bool | some e=>e.one | none=>false
theorem A7 (e:D):yo (some e)=e.one:=rfl
theorem Lj (es:List D) (i s:Nat) (x:D):jj .sc (.c (.d x)) i 0 (.row s es)=bif yo es[i]?&&x.one then some (.row s (es.set i x)) else XR .sc (.c (.d x)) i 0 (.row s es):=by
  cases hc:(yo es[i]?&&x.one) with
  | false=>rfl
  | true =>
    rw[Ys] at hc;obtain⟨h1,h2⟩:=hc;cases he:es[i]? with
    | none=>rw[he] at h1; cases h1
    | some e =>
      rw[he] at h1;simp only[jj,he,fP,cond_true];cases e <;> first | (cases h1; done) | simp[h2]
theorem G2 (k:IntKind) (n:Int):D.one (.int k n)=true:=rfl
theorem EF (b:Bool):D.one (.bool b)=true:=rfl
theorem G3 (b:ByteArray):D.one (.str b)=true:=rfl
theorem Jj (es:List D):D.one (.sl es)=true:=rfl
theorem fB (x:UInt8):D.one (bD x)=true:=rfl
theorem oz (x:UInt32):D.one (wD x)=true:=rfl
theorem Me (x:UInt32):cg (.c (.d (wD x)))=[.d (wD x)]:=rfl
theorem Mf (x:UInt8):cg (.c (.d (bD x)))=[.d (bD x)]:=rfl
theorem Jk (k:IntKind) (n:Int):cg (.c (.d (.int k n)))=[.d (.int k n)]:=rfl
theorem G4 (b:Bool):cg (.c (.d (.bool b)))=[.d (.bool b)]:=rfl
theorem Jl (b:ByteArray):cg (.c (.d (.str b)))=[.d (.str b)]:=rfl
theorem Lk (es:List D):cg (.c (.d (.sl es)))=[.d (.sl es)]:=rfl
theorem Jm (cs:List D):cg (.c (.d (.agg cs)))=cs.map C.d:=rfl
theorem Jn:cg (.c .nil)=[.nil]:=rfl
theorem Jo (id sz off n:Nat):cg (.c (.own id sz off n))=[.own id sz off n]:=rfl
theorem Jp (id sz i o:Nat):cg (.c (.ptr id sz i o))=[.ptr id sz i o]:=rfl
theorem Ll (id sz:Nat):cg (.c (.pa id sz))=[.pa id sz]:=rfl
theorem Jq (cs:List C):cg (.mix cs)=cs:=rfl
theorem km {σ:St} {p:Nat×Option Kd} {x:D} (h:bL σ p=some (.c (.d x))):db σ [p] (.w (.c (.d x))) :=
  ⟨[.c (.d x)],by simp[aU,h],.inl ⟨by simp[W.ids,C.ids],rfl⟩⟩
theorem eV {σ:St} {p:Nat×Option Kd} {id sz n s:Nat} {es:List D} (h:bL σ p=some (.c (.own id sz 0 n))) (e:σ.h id=some (.row s es)) (hn:n=es.length):db σ [p] (.w (.c (.fr sz es))):=by
  refine⟨[.c (.own id sz 0 n)],by simp[aU,h],.inl ⟨by simp[W.ids,C.ids],rfl,rfl,?_⟩⟩;subst hn;rw[e];exact⟨by simp[dd],trivial⟩
theorem EG {σ:St} {p:Nat×Option Kd} {id sz n s:Nat} {full:List D} (h:bL σ p=some (.c (.own id sz 0 n))) (e:σ.h id=some (.row s full)) (hn:n≤full.length):db σ [p] (.w (.c (.fr sz (full.take n)))):=by
  refine⟨[.c (.own id sz 0 n)],by simp[aU,h],.inl ⟨by simp[W.ids,C.ids],rfl,rfl,?_⟩⟩;rw[e];exact⟨by simp[dd,hn],trivial⟩
theorem p0 {σ:St} {p:Nat×Option Kd} {sz:Nat} (h:bL σ p=some (.c .nil)):db σ [p] (.w (.c (.fr sz []))) :=
  ⟨[.c .nil],by simp[aU,h],.inl ⟨by simp[W.ids,C.ids],rfl⟩⟩
theorem mo {σ:St} {p:Nat×Option Kd} {x:D} (h1:(bL σ p).bind (toW σ.h)=some x):db σ [p] (.w (.c (.d x))):=by
  obtain⟨w1,a1,b1⟩:=YB.1 h1;exact⟨[w1],by simp[aU,a1],.inr b1⟩
theorem ja {σ:St} {p q:Nat×Option Kd} {x y:D} (h1:(bL σ p).bind (toW σ.h)=some x) (h2:(bL σ q).bind (toW σ.h)=some y):db σ [p,q] (.tup [.c (.d x),.c (.d y)]):=by
  obtain⟨w1,a1,b1⟩:=YB.1 h1;obtain⟨w2,a2,b2⟩:=YB.1 h2;exact⟨[w1,w2],by simp[aU,a1,a2],.inr (.cons ⟨x,rfl,b1⟩ (.cons ⟨y,rfl,b2⟩ .nil))⟩
theorem qg {σ:St} {p q r:Nat×Option Kd} {x y z:D} (h1:(bL σ p).bind (toW σ.h)=some x) (h2:(bL σ q).bind (toW σ.h)=some y) (h3:(bL σ r).bind (toW σ.h)=some z):db σ [p,q,r] (.tup [.c (.d x),.c (.d y),.c (.d z)]):=by
  obtain⟨w1,a1,b1⟩:=YB.1 h1;obtain⟨w2,a2,b2⟩:=YB.1 h2;obtain⟨w3,a3,b3⟩:=YB.1 h3;exact⟨[w1,w2,w3],by simp[aU,a1,a2,a3],.inr (.cons ⟨x,rfl,b1⟩ (.cons ⟨y,rfl,b2⟩ (.cons ⟨z,rfl,b3⟩ .nil)))⟩
theorem Oj {σ:St} {p q:Nat×Option Kd} {id sz n s:Nat} {es:List D} {y:D} (h1:bL σ p=some (.c (.own id sz 0 n))) (e:σ.h id=some (.row s es)) (hn:n=es.length) (h2:bL σ q=some (.c (.d y))):db σ [p,q] (.tup [.c (.fr sz es),.c (.d y)]):=by
  refine⟨[.c (.own id sz 0 n),.c (.d y)],by simp[aU,h1,h2],.inl ⟨by simp[W.ids,C.ids],.cons ⟨rfl,rfl,?_⟩ (.cons ?_ .nil)⟩⟩
  ·subst hn;rw[e];exact⟨by simp[dd],trivial⟩
  ·cases y <;> rfl
theorem Ol {σ:St} {p q:Nat×Option Kd} {sz:Nat} {y:D} (h1:bL σ p=some (.c .nil)) (h2:bL σ q=some (.c (.d y))):db σ [p,q] (.tup [.c (.fr sz []),.c (.d y)]):=by
  refine⟨[.c .nil,.c (.d y)],by simp[aU,h1,h2],.inl ⟨by simp[W.ids,C.ids],.cons rfl (.cons ?_ .nil)⟩⟩;cases y <;> rfl
def jF (h:au) (sz:Nat):W→Option (List D)
  | .c (.own id sz' off n)=>match h id with
    | some (.row _ es)=>if off=0∧n=es.length∧sz'=sz then some es else none
    | _=>none
  | .c .nil=>some []
  | _=>none
theorem EH (h:au) (sz id sz' off n:Nat):jF h sz (.c (.own id sz' off n))=(match h id with
    | some (.row _ es)=>if off=0∧n=es.length∧sz'=sz then some es else none
    | _=>none):=rfl
theorem EI (h:au) (sz:Nat):jF h sz (.c .nil)=some []:=rfl
theorem Jr {σ:St} {p:Nat×Option Kd} {sz:Nat} {es:List D} (h1:(bL σ p).bind (jF σ.h sz)=some es):db σ [p] (.w (.c (.fr sz es))):=by
  obtain⟨w,a,b⟩:=YB.1 h1;unfold jF at b;split at b
  ·split at b
   ·rename_i e;split at b
    ·rename_i hc;obtain⟨rfl,rfl,rfl⟩:=hc;obtain rfl:=Option.some.inj b;exact eV a e rfl
    ·cases b
   ·cases b
  ·obtain rfl:=Option.some.inj b;exact p0 a
  ·cases b
theorem yp {σ:St} {p q:Nat×Option Kd} {sz:Nat} {es:List D} {y:D} (h1:(bL σ p).bind (jF σ.h sz)=some es) (h2:bL σ q=some (.c (.d y))):db σ [p,q] (.tup [.c (.fr sz es),.c (.d y)]):=by
  obtain⟨w,a,b⟩:=YB.1 h1;unfold jF at b;split at b
  ·split at b
   ·rename_i e;split at b
    ·rename_i hc;obtain⟨rfl,rfl,rfl⟩:=hc;obtain rfl:=Option.some.inj b;exact Oj a e rfl h2
    ·cases b
   ·cases b
  ·obtain rfl:=Option.some.inj b;exact Ol a h2
  ·cases b
end Go.Proofs.YtlghfnidknfakaaGreatDoor
