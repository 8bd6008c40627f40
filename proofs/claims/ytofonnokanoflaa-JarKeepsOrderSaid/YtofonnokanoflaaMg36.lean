/- Texts of one's own, merged: from: The plain logic (19): loops; states by lists; bytes and words as data. Own work. -/
import Derived.IntWalk
import Derived.Test.YtofonnokanoflaaMg35
set_option linter.unusedVariables false
set_option linter.unusedSimpArgs false
namespace Go.Proofs.Ytofonnokanoflaa
open Go.RowKit IntWalk
def aR:List (Nat×V)→Nat→V
  | []=>uf
  | (i,v)::r=>upd (aR r) i v
def hL:List (Nat×Ob)→ai
  | []=>hN
  | (i,o)::r=>upd (hL r) i (some o)
def uL:List Nat→Nat→Bool
  | []=>uN
  | i::r=>upd (uL r) i true
theorem Bo:aR []=uf:=rfl
theorem nQ (i:Nat) (v:V) (r:List (Nat×V)):aR ((i,v)::r)=upd (aR r) i v:=rfl
theorem DG:hL []=hN:=rfl
theorem kP (i:Nat) (o:Ob) (r:List (Nat×Ob)):hL ((i,o)::r)=upd (hL r) i (some o):=rfl
theorem DI:uL []=uN:=rfl
theorem oq (i:Nat) (r:List Nat):uL (i::r)=upd (uL r) i true:=rfl
theorem DJ {i:Nat}:∀ {l:List Nat},i∈l→uL l i=true
  | j::r,h=>by
    rw[oq];by_cases e:i=j
    ·rw[e]; exact upd_same _ _ _
    ·rw[upd_ne _ _ e];exact DJ (by simpa [e] using h)
theorem DK {f:Nat→V} {g:Nat→Nat}:∀ {l:List (Nat×V)},(∀ p∈l,f p.1=p.2.ren g)→∀ t,aR l t=.undef∨f t=(aR l t).ren g
  | [],_,_=>.inl rfl
  | (i,v)::r,h,t=>by
    rw[nQ];by_cases e:t=i
    ·rw[e,upd_same]; exact .inr (h (i,v) (by simp))
    ·rw[upd_ne _ _ e];exact DK (fun p hp=>h p (by simp[hp])) t
theorem fZ {i:Nat} {o:Ob}:∀ {l:List (Nat×Ob)},hL l i=some o→(i,o)∈l
  | [],h=>by cases h
  | (j,q)::r,h=>by
    rw[kP] at h;by_cases e:i=j
    ·rw[e,upd_same] at h;cases h;rw[e]; simp
    ·rw[upd_ne _ _ e] at h;exact Rm _ (fZ h)
theorem K2 {l:List (Nat×V)} {i t:Nat} (h:i∈(aR l t).ids):i∈l.flatMap fun p=>p.2.ids:=by
  induction l with
  | nil=>cases h
  | cons p r ih =>
    obtain⟨j,v⟩:=p;rw[nQ] at h;rw[Q6,Re];by_cases e:t=j
    ·rw[e,upd_same] at h; exact .inl h
    ·rw[upd_ne _ _ e] at h; exact .inr (ih h)
def lI (f:Nat→V) (g:Nat→Nat):List (Nat×V)→Prop
  | []=>True
  | (i,v)::r=>f i=v.ren g∧lI f g r
def fP (h:ai) (g:Nat→Nat):List (Nat×Ob)→Prop
  | []=>True
  | (i,o)::r=>h (g i)=some (o.ren g)∧fP h g r
def mq:List Nat→Bool
  | []=>true
  | i::r=>!r.contains i&&mq r
theorem Bp (f:Nat→V) (g:Nat→Nat):lI f g []=True:=rfl
theorem zu (f:Nat→V) (g:Nat→Nat) (i:Nat) (v:V) (r:List (Nat×V)):lI f g ((i,v)::r)=(f i=v.ren g∧lI f g r):=rfl
theorem Bq (h:ai) (g:Nat→Nat):fP h g []=True:=rfl
theorem zw (h:ai) (g:Nat→Nat) (i:Nat) (o:Ob) (r:List (Nat×Ob)):fP h g ((i,o)::r)=(h (g i)=some (o.ren g)∧fP h g r):=rfl
theorem Br {f:Nat→V} {g:Nat→Nat}:∀ {l:List (Nat×V)},lI f g l→∀ p∈l,f p.1=p.2.ren g
  | (i,v)::r,h,p,hp=>by
    rcases Rr.1 hp with rfl | hp
    ·exact h.1
    ·exact Br h.2 p hp
theorem ot {f:ai} {g:Nat→Nat}:∀ {l:List (Nat×Ob)},fP f g l→∀ p∈l,f (g p.1)=some (p.2.ren g)
  | (i,v)::r,h,p,hp=>by
    rcases Rr.1 hp with rfl | hp
    ·exact h.1
    ·exact ot h.2 p hp
theorem rZ:∀ {l:List Nat},mq l=true→l.Nodup
  | [],_=>.nil
  | i::r,h=>by
    simp only[mq,Rl,SH] at h;refine List.nodup_cons.2 ⟨fun hi=>?_,rZ h.2⟩;have:=List.contains_iff_mem.2 hi;rw[h.1] at this;cases this
theorem aC {σ:St} (g:Nat→Nat) {fl:List (Nat×V)} {hl:List (Nat×Ob)} {ul:List Nat} (h1':lI σ.f g fl) (h2':fP σ.h g hl)
    (h3':mq (hl.map fun p=>g p.1)=true) (h4:((fl.flatMap fun p=>p.2.ids)++(hl.flatMap fun p=>p.1::p.2.ids)).all (fun i=>ul.contains i)=true):dz σ ⟨aR fl,hL hl,uL ul⟩:=by
  have h1:=Br h1';have h2:=ot h2';have h3:=rZ h3';have used:∀ i,i∈(fl.flatMap fun p=>p.2.ids)++(hl.flatMap fun p=>p.1::p.2.ids)→uL ul i=true:=by
    intro i hi;rw[Q2] at h4;exact DJ (by simpa using h4 i hi)
  refine⟨⟨g,DK h1,fun i o ho=>h2 (i,o) (fZ ho),fun i j hi hj e=>?_⟩,fun t i hi=>used i (Rf _ (K2 hi)),fun i o ho=>⟨used i ?_,fun j hj=>used j ?_⟩⟩
  ·obtain⟨o,ho⟩:=Rb.1 hi;obtain⟨q,hq⟩:=Rb.1 hj;have m1:=fZ ho;have m2:=fZ hq;have key:∀ {l:List (Nat×Ob)},(l.map fun p=>g p.1).Nodup→∀ {x y:Nat×Ob},x∈l→y∈l→g x.1=g y.1→x=y:=by
     intro l
     induction l with
     | nil=>intro _ x y hx; cases hx
     | cons p r ih =>
       intro hn x y hx hy e;rw[QX,List.nodup_cons] at hn;rcases Rr.1 hx with rfl | hx' <;> rcases Rr.1 hy with rfl | hy'
       ·rfl
       ·exact (hn.1 (Rn.2 ⟨y,hy',e.symm⟩)).elim
       ·exact (hn.1 (Rn.2 ⟨x,hx',e⟩)).elim
       ·exact ih hn.2 hx' hy' e
   exact congrArg Prod.fst (key h3 m1 m2 e)
  ·exact Q1 _ (Q0.2 ⟨_,fZ ho,by simp⟩)
  ·exact Q1 _ (Q0.2 ⟨_,fZ ho,by simp[hj]⟩)
section
variable {P:Program} {G:ak}
def mE {α:Type} (st:α→St) (μ:α→Nat) (ok:α→Prop) (a:α) (Q:AX→St→Prop) (e:AX) (s:St):Prop :=
  match e with | .nrm=>∃ b,μ b<μ a∧ok b∧dz s (st b) | e=>Q e s
theorem Bs {α:Type} (st:α→St) (μ:α→Nat) (ok:α→Prop) (a:α) (Q:AX→St→Prop) (i:Nat) (s:St):mE st μ ok a Q (.ex i) s=Q (.ex i) s:=rfl
theorem zx {α:Type} (st:α→St) (μ:α→Nat) (ok:α→Prop) (a:α) (Q:AX→St→Prop) (s:St):mE st μ ok a Q .ret s=Q .ret s:=rfl
theorem aZ {α:Type} {st:α→St} {μ:α→Nat} {ok:α→Prop} {a:α} {Q:AX→St→Prop} {s:St} (b:α) (h1:μ b<μ a) (h2:ok b) (h3:dz s (st b)):mE st μ ok a Q .nrm s:=⟨b,h1,h2,h3⟩
theorem bi {α:Type} {c:aI} {Q:AX→St→Prop} {σ:St} (st:α→St) (μ:α→Nat) (ok:α→Prop) (a0:α) (h0:ok a0) (he:dz σ (st a0)) (round:∀ a,ok a→aW P G c (mE st μ ok a Q) (st a)):aW P G (.loop c) Q σ:=by
  refine⟨fun n s=>∃ a,μ a=n∧ok a∧s=st a,⟨μ a0,st a0,he,a0,rfl,h0,rfl⟩,?_⟩;rintro n s ⟨a,rfl,ha,rfl⟩;have key:(mE st μ ok a Q)=(fun e s'=>match e with | .nrm=>∃ n' τ,n'<μ a∧dz s' τ∧∃ a,μ a=n'∧ok a∧τ=st a | e=>Q e s'):=by
    funext e s'
    cases e with
    | nrm =>
      refine propext ⟨?_,?_⟩
      ·rintro⟨b,h1,h2,h3⟩;exact⟨μ b,st b,h1,h3,b,rfl,h2,rfl⟩
      ·rintro⟨n',τ,h1,h2,b,rfl,h3,rfl⟩;exact⟨b,h1,h3,h2⟩
    | ex i=>rfl
    | ret=>rfl
  have:=round a ha;rw[key] at this;exact this
end
theorem jG {P:Program} {G:ak} {F:FuncId} {args:List D} {sz:Nat} {es:List D} (h:ar P G F args (.w (.c (.fr sz es)))):ar P G F args (.w (.c (.d (.sl es)))):=by
  intro w S vs h1 h2 h3;refine (h w S vs h1 h2 h3).mono ?_;rintro e w' ⟨v,S',bl,rfl,k1,k2,k3,k4⟩;have hfresh:∀ b∈bl,w.heap.size≤b∧b<w'.heap.size:=by
    intro b hb;rcases k4 with ⟨_,_,rfl⟩ | ⟨b',cap,ty,N,rfl,_,_,_,q1,_,q2⟩
    ·cases hb
    ·simp only[Q9] at hb;subst hb;obtain⟨f1,_,cur,ty',fz,f3,_⟩:=q2;exact⟨f1,(Q3.1 f3).1⟩
  refine⟨v,fun b i=>S' b i∨b∈bl,[],rfl,k1,fun b i hs=>?_,.nil,?_⟩
  ·rcases hs with hs | hs
   ·exact k2 b i hs
   ·exact⟨.inr (hfresh b hs).1,(hfresh b hs).2⟩
  ·have:=lj (m:=fun _=>none) (x:=.c (.fr sz es)) k4 (T:=fun b i=>S' b i∨b∈bl) (fun _ _ h=>.inl h) (fun b hb _=>.inr hb);exact⟨this.1,rfl⟩
theorem MY {S S':ah} {w:World} {B:Nat} {v:Value} {y:D} {bl:List Nat} (h:dd S w B v (.c (.d y)) bl) (hS:∀ b i,S b i→S' b i):dd S' w B v (.c (.d y)) []∧bl=[]:=by
  cases y with
  | agg cs =>
    obtain⟨⟨us,h1,h2⟩,h3⟩:=h;exact⟨⟨⟨us,h1,h2.weak fun _ _ _ _ h=>h.mono hS⟩,rfl⟩,h3⟩
  | _ =>
    obtain⟨h1,h2⟩:=h;exact⟨⟨h1.mono hS,rfl⟩,h2⟩
theorem sW {P:Program} {G:ak} {F:FuncId} {args:List D} {sz:Nat} {es:List D} {y:D} (h:ar P G F args (.tup [.c (.fr sz es),.c (.d y)])):ar P G F args (.tup [.c (.d (.sl es)),.c (.d y)]):=by
  intro w S vs h1 h2 h3;refine (h w S vs h1 h2 h3).mono ?_;rintro e w' ⟨v,S',bl,rfl,k1,k2,k3,us,rfl,k4⟩;cases k4 with
  | @cons v1 c1 b1 vs1 cs1 b2 q1 q2 =>
  cases q2 with
  | @cons v2 c2 b3 vs2 cs2 b4 q3 q4 =>
  cases q4;have hfresh:∀ b∈b1,w.heap.size≤b∧b<w'.heap.size:=by
    intro b hb;rcases q1 with ⟨_,_,rfl⟩ | ⟨b',cap,ty,N,rfl,_,_,_,q1,_,q2⟩
    ·cases hb
    ·simp only[Q9] at hb;subst hb;obtain⟨f1,_,cur,ty',fz,f3,_⟩:=q2;exact⟨f1,(Q3.1 f3).1⟩
  refine⟨_,fun b i=>S' b i∨b∈b1,[],rfl,k1,fun b i hs=>?_,.nil,_,rfl,?_⟩
  ·rcases hs with hs | hs
   ·exact k2 b i hs
   ·exact⟨.inr (hfresh b hs).1,(hfresh b hs).2⟩
  ·have hx:=lj (m:=fun _=>none) (x:=.c (.fr sz es)) q1 (T:=fun b i=>S' b i∨b∈b1) (fun _ _ h=>.inl h) (fun b hb _=>.inr hb);exact .cons (b1:=[]) (b2:=[]) ⟨hx.1,rfl⟩ (.cons (b1:=[]) (b2:=[]) (MY q3 fun _ _ h=>.inl h).1 .nil)
abbrev bs (l:List UInt8):D:=.sl (l.map bD)
def wD (x:UInt32):D:=.int .u32 (x.toNat:Int)
theorem Fg (x:UInt8):c7 (.w (.c (.d (bD x))))=some (.u8,(x.toNat:Int)):=rfl
theorem Fh (x:UInt32):c7 (.w (.c (.d (wD x))))=some (.u32,(x.toNat:Int)):=rfl
theorem Bt (op:BinOp) (x:UInt8) (k:IntKind) (n:Int):aX op (.w (.c (.d (bD x)))) (.w (.c (.d (.int k n))))=aX op (.w (.c (.d (.int .u8 (x.toNat:Int))))) (.w (.c (.d (.int k n)))):=rfl
theorem Bu (op:BinOp) (x:UInt8) (k:IntKind) (n:Int):aX op (.w (.c (.d (.int k n)))) (.w (.c (.d (bD x))))=aX op (.w (.c (.d (.int k n)))) (.w (.c (.d (.int .u8 (x.toNat:Int))))):=rfl
theorem zy (x y:UInt8):aX .lss (.w (.c (.d (bD x)))) (.w (.c (.d (bD y))))=aX .lss (.w (.c (.d (.int .u8 (x.toNat:Int))))) (.w (.c (.d (.int .u8 (y.toNat:Int))))):=rfl
theorem zz (x y:UInt8):aX .leq (.w (.c (.d (bD x)))) (.w (.c (.d (bD y))))=aX .leq (.w (.c (.d (.int .u8 (x.toNat:Int))))) (.w (.c (.d (.int .u8 (y.toNat:Int))))):=rfl
theorem zA (x y:UInt8):aX .gtr (.w (.c (.d (bD x)))) (.w (.c (.d (bD y))))=aX .gtr (.w (.c (.d (.int .u8 (x.toNat:Int))))) (.w (.c (.d (.int .u8 (y.toNat:Int))))):=rfl
theorem zB (x y:UInt8):aX .geq (.w (.c (.d (bD x)))) (.w (.c (.d (bD y))))=aX .geq (.w (.c (.d (.int .u8 (x.toNat:Int))))) (.w (.c (.d (.int .u8 (y.toNat:Int))))):=rfl
theorem zE (x y:UInt8):aX .eql (.w (.c (.d (bD x)))) (.w (.c (.d (bD y))))=aX .eql (.w (.c (.d (.int .u8 (x.toNat:Int))))) (.w (.c (.d (.int .u8 (y.toNat:Int))))):=rfl
theorem zF (x y:UInt8):aX .neq (.w (.c (.d (bD x)))) (.w (.c (.d (bD y))))=aX .neq (.w (.c (.d (.int .u8 (x.toNat:Int))))) (.w (.c (.d (.int .u8 (y.toNat:Int))))):=rfl
theorem zG (x y:UInt8):aX .add (.w (.c (.d (bD x)))) (.w (.c (.d (bD y))))=aX .add (.w (.c (.d (.int .u8 (x.toNat:Int))))) (.w (.c (.d (.int .u8 (y.toNat:Int))))):=rfl
theorem zH (x y:UInt8):aX .sub (.w (.c (.d (bD x)))) (.w (.c (.d (bD y))))=aX .sub (.w (.c (.d (.int .u8 (x.toNat:Int))))) (.w (.c (.d (.int .u8 (y.toNat:Int))))):=rfl
theorem Fi (op:UnOp) (x:UInt8):gZ op (.w (.c (.d (bD x))))=gZ op (.w (.c (.d (.int .u8 (x.toNat:Int))))):=rfl
theorem xL (k:IntKind) (n:Int):D.cells (.int k n)=[.int k n]:=rfl
theorem wU (b:Bool):D.cells (.bool b)=[.bool b]:=rfl
theorem xM (b:ByteArray):D.cells (.str b)=[.str b]:=rfl
theorem zI (es:List D):D.cells (.sl es)=[.sl es]:=rfl
theorem xN (cs:List D):D.cells (.agg cs)=cs:=rfl
theorem zJ (x:UInt32):(wD x).cells=[wD x]:=rfl
theorem zK (a:UInt8):cH 1 [bD a]=true:=rfl
theorem zL (a b:UInt8):cH 1 [bD a,bD b]=true:=rfl
theorem zM (x:UInt8):(bD x).cells=[bD x]:=rfl
theorem nx {α:Type} (f:α→D) (hf:∀ x,(f x).cells.length=1) (l:List α):cH 1 (l.map f)=true:=by
  unfold cH;rw[Q2];intro d hd;obtain⟨x,_,rfl⟩:=Rn.1 hd;simp[hf x]
theorem zN (l:List UInt8):cH 1 (l.map bD)=true:=nx bD (fun _=>rfl) l
theorem zO (l:List UInt32):cH 1 (l.map wD)=true:=nx wD (fun _=>rfl) l
theorem r6:∀ l:List UInt8,jj (l.map bD)=some l
  | []=>rfl
  | x::l=>by
    have h:=x.toNat_lt;simp only[QX,jj,r6 l,bD,vC];rw[if_pos (by omega)];simp
theorem dC {α β:Type} (f:α→β) (l:List α) (n:Nat):(l.map f).take n=(l.take n).map f:=List.map_take.symm
theorem gE {α β:Type} (f:α→β) (l:List α) (n:Nat):(l.map f).drop n=(l.drop n).map f:=List.map_drop.symm
theorem ga {α β:Type} (f:α→β) (l:List α):(l.map f).length=l.length:=Q7 _
theorem ie {α β:Type} (f:α→β) (l m:List α):l.map f++m.map f=(l++m).map f:=Rx.symm
theorem aU {α β:Type} (f:α→β) (l:List α) (i:Nat):(l.map f)[i]?=(l[i]?).map f:=Si
theorem sX {α β:Type} (f:α→β) (l:List α) (i:Nat) (x:α):(l.map f).set i (f x)=(l.set i x).map f:=List.map_set.symm
theorem rl {α:Type} (f:α→D) (hf:∀ x,(f x).cells=[f x]):∀ l:List α,(l.map f).flatMap D.cells=l.map f
  | []=>rfl
  | x::l=>by rw[QX,Q6,hf x,rl f hf l]; rfl
theorem Bv (l:List UInt32):(l.map wD).flatMap D.cells=l.map wD:=rl wD (fun _=>rfl) l
theorem fD (l:List UInt8):(l.map bD).flatMap D.cells=l.map bD:=rl bD (fun _=>rfl) l
def pt (k:IntKind) (n:Int):Int:=k.wrap n
theorem DL (n:Int):IntKind.i64.wrap n=if -9223372036854775808≤n∧n≤9223372036854775807 then n else pt .i64 n:=by
  split
  ·exact IntWalk.i64_in _ ‹_›
  ·rfl
theorem tQ (n:Int):IntKind.u64.wrap n=if 0≤n∧n≤18446744073709551615 then n else pt .u64 n:=by
  split
  ·exact IntWalk.u64_in _ (by omega)
  ·rfl
theorem DN (n:Int):IntKind.u32.wrap n=if 0≤n∧n≤4294967295 then n else pt .u32 n:=by
  split
  ·exact IntWalk.u32_in _ (by omega)
  ·rfl
theorem Fj (n:Int):IntKind.u8.wrap n=if 0≤n∧n≤255 then n else pt .u8 n:=by
  split
  ·exact IntWalk.u8_in _ (by omega)
  ·rfl
theorem Qu (s:Nat) (l:List UInt32):V.flat (.w (.c (.fr s (l.map wD))))=true:=by
  simp only[V.flat,W.flat,C.flat,List.all_map,Q2]; intro x _; rfl
theorem mF (s:Nat) (l:List UInt8):V.flat (.w (.c (.fr s (l.map bD))))=true:=by
  simp only[V.flat,W.flat,C.flat,List.all_map,Q2]; intro x _; rfl
theorem xO (sz:Nat):cH sz []=true:=rfl
theorem wW (sz:Nat) (e:D) (es:List D):cH sz (e::es)=(e.cells.length==sz&&cH sz es):=rfl
theorem xP (a:ByteArray):ji .eql a a=some (.bool true):=by simp[ji]
theorem F3 {α:Type} (a:α):List.replicate 1 a=[a]:=rfl
theorem F4 {α:Type} (a:α):List.replicate 2 a=[a,a]:=rfl
theorem F5 {α:Type} (a:α):List.replicate 3 a=[a,a,a]:=rfl
theorem F6 {α:Type} (a:α):List.replicate 4 a=[a,a,a,a]:=rfl
theorem F7 {α:Type} (a:α):List.replicate 5 a=[a,a,a,a,a]:=rfl
theorem F8 {α:Type} (a:α):List.replicate 6 a=[a,a,a,a,a,a]:=rfl
def Qv:=@gy
def tR:Option D→Bool | some e=>e.one | none=>false
theorem wn (e:D):tR (some e)=e.one:=rfl
theorem Fl (es:List D) (i s:Nat) (x:D):gy .sc (.c (.d x)) i 0 (.row s es)=bif tR es[i]?&&x.one then some (.row s (es.set i x)) else Qv .sc (.c (.d x)) i 0 (.row s es):=by
  cases hc:(tR es[i]?&&x.one) with
  | false=>rfl
  | true =>
    rw[Rl] at hc;obtain⟨h1,h2⟩:=hc;cases he:es[i]? with
    | none=>rw[he] at h1; cases h1
    | some e =>
      rw[he] at h1;simp only[gy,he,dH,cond_true];cases e <;> first | (cases h1; done) | simp[h2]
theorem Bw (k:IntKind) (n:Int):D.one (.int k n)=true:=rfl
theorem zP (b:Bool):D.one (.bool b)=true:=rfl
theorem Bz (b:ByteArray):D.one (.str b)=true:=rfl
theorem DO (es:List D):D.one (.sl es)=true:=rfl
theorem eG (x:UInt8):D.one (bD x)=true:=rfl
theorem pu (x:UInt32):D.one (wD x)=true:=rfl
theorem F9 (x:UInt32):bu (.c (.d (wD x)))=[.d (wD x)]:=rfl
theorem Ga (x:UInt8):bu (.c (.d (bD x)))=[.d (bD x)]:=rfl
theorem DR (k:IntKind) (n:Int):bu (.c (.d (.int k n)))=[.d (.int k n)]:=rfl
theorem BC (b:Bool):bu (.c (.d (.bool b)))=[.d (.bool b)]:=rfl
theorem DT (b:ByteArray):bu (.c (.d (.str b)))=[.d (.str b)]:=rfl
theorem Fo (es:List D):bu (.c (.d (.sl es)))=[.d (.sl es)]:=rfl
theorem DU (cs:List D):bu (.c (.d (.agg cs)))=cs.map C.d:=rfl
theorem DV:bu (.c .nil)=[.nil]:=rfl
theorem DW (id sz off n:Nat):bu (.c (.own id sz off n))=[.own id sz off n]:=rfl
theorem DX (id sz i o:Nat):bu (.c (.ptr id sz i o))=[.ptr id sz i o]:=rfl
theorem Fp (id sz:Nat):bu (.c (.pa id sz))=[.pa id sz]:=rfl
theorem DY (cs:List C):bu (.mix cs)=cs:=rfl
theorem uw {σ:St} {p:Nat×Option Kd} {x:D} (h:bw σ p=some (.c (.d x))):cg σ [p] (.w (.c (.d x))) :=
  ⟨[.c (.d x)],by simp[aB,h],.inl ⟨by simp[W.ids,C.ids],rfl⟩⟩
theorem d6 {σ:St} {p:Nat×Option Kd} {id sz n s:Nat} {es:List D} (h:bw σ p=some (.c (.own id sz 0 n))) (e:σ.h id=some (.row s es)) (hn:n=es.length):cg σ [p] (.w (.c (.fr sz es))):=by
  refine⟨[.c (.own id sz 0 n)],by simp[aB,h],.inl ⟨by simp[W.ids,C.ids],rfl,rfl,?_⟩⟩;subst hn;rw[e];exact⟨by simp[cv],trivial⟩
theorem zQ {σ:St} {p:Nat×Option Kd} {id sz n s:Nat} {full:List D} (h:bw σ p=some (.c (.own id sz 0 n))) (e:σ.h id=some (.row s full)) (hn:n≤full.length):cg σ [p] (.w (.c (.fr sz (full.take n)))):=by
  refine⟨[.c (.own id sz 0 n)],by simp[aB,h],.inl ⟨by simp[W.ids,C.ids],rfl,rfl,?_⟩⟩;rw[e];exact⟨by simp[cv,hn],trivial⟩
theorem sY {σ:St} {p:Nat×Option Kd} {sz:Nat} (h:bw σ p=some (.c .nil)):cg σ [p] (.w (.c (.fr sz []))) :=
  ⟨[.c .nil],by simp[aB,h],.inl ⟨by simp[W.ids,C.ids],rfl⟩⟩
theorem mg {σ:St} {p:Nat×Option Kd} {x:D} (h1:(bw σ p).bind (toW σ.h)=some x):cg σ [p] (.w (.c (.d x))):=by
  obtain⟨w1,a1,b1⟩:=Rw.1 h1;exact⟨[w1],by simp[aB,a1],.inr b1⟩
theorem tS {σ:St} {p q:Nat×Option Kd} {x y:D} (h1:(bw σ p).bind (toW σ.h)=some x) (h2:(bw σ q).bind (toW σ.h)=some y):cg σ [p,q] (.tup [.c (.d x),.c (.d y)]):=by
  obtain⟨w1,a1,b1⟩:=Rw.1 h1;obtain⟨w2,a2,b2⟩:=Rw.1 h2;exact⟨[w1,w2],by simp[aB,a1,a2],.inr (.cons ⟨x,rfl,b1⟩ (.cons ⟨y,rfl,b2⟩ .nil))⟩
theorem MZ {σ:St} {p q r:Nat×Option Kd} {x y z:D} (h1:(bw σ p).bind (toW σ.h)=some x) (h2:(bw σ q).bind (toW σ.h)=some y) (h3:(bw σ r).bind (toW σ.h)=some z):cg σ [p,q,r] (.tup [.c (.d x),.c (.d y),.c (.d z)]):=by
  obtain⟨w1,a1,b1⟩:=Rw.1 h1;obtain⟨w2,a2,b2⟩:=Rw.1 h2;obtain⟨w3,a3,b3⟩:=Rw.1 h3;exact⟨[w1,w2,w3],by simp[aB,a1,a2,a3],.inr (.cons ⟨x,rfl,b1⟩ (.cons ⟨y,rfl,b2⟩ (.cons ⟨z,rfl,b3⟩ .nil)))⟩
theorem H5 {σ:St} {p q:Nat×Option Kd} {id sz n s:Nat} {es:List D} {y:D} (h1:bw σ p=some (.c (.own id sz 0 n))) (e:σ.h id=some (.row s es)) (hn:n=es.length) (h2:bw σ q=some (.c (.d y))):cg σ [p,q] (.tup [.c (.fr sz es),.c (.d y)]):=by
  refine⟨[.c (.own id sz 0 n),.c (.d y)],by simp[aB,h1,h2],.inl ⟨by simp[W.ids,C.ids],.cons ⟨rfl,rfl,?_⟩ (.cons ?_ .nil)⟩⟩
  ·subst hn;rw[e];exact⟨by simp[cv],trivial⟩
  ·cases y <;> rfl
theorem H6 {σ:St} {p q:Nat×Option Kd} {sz:Nat} {y:D} (h1:bw σ p=some (.c .nil)) (h2:bw σ q=some (.c (.d y))):cg σ [p,q] (.tup [.c (.fr sz []),.c (.d y)]):=by
  refine⟨[.c .nil,.c (.d y)],by simp[aB,h1,h2],.inl ⟨by simp[W.ids,C.ids],.cons rfl (.cons ?_ .nil)⟩⟩;cases y <;> rfl
def gR (h:ai) (sz:Nat):W→Option (List D)
  | .c (.own id sz' off n)=>match h id with
    | some (.row _ es)=>if off=0∧n=es.length∧sz'=sz then some es else none
    | _=>none
  | .c .nil=>some []
  | _=>none
theorem zR (h:ai) (sz id sz' off n:Nat):gR h sz (.c (.own id sz' off n))=(match h id with
    | some (.row _ es)=>if off=0∧n=es.length∧sz'=sz then some es else none
    | _=>none):=rfl
theorem zS (h:ai) (sz:Nat):gR h sz (.c .nil)=some []:=rfl
theorem DZ {σ:St} {p:Nat×Option Kd} {sz:Nat} {es:List D} (h1:(bw σ p).bind (gR σ.h sz)=some es):cg σ [p] (.w (.c (.fr sz es))):=by
  obtain⟨w,a,b⟩:=Rw.1 h1;unfold gR at b;split at b
  ·split at b
   ·rename_i e;split at b
    ·rename_i hc;obtain⟨rfl,rfl,rfl⟩:=hc;obtain rfl:=Option.some.inj b;exact d6 a e rfl
    ·cases b
   ·cases b
  ·obtain rfl:=Option.some.inj b;exact sY a
  ·cases b
theorem tT {σ:St} {p q:Nat×Option Kd} {sz:Nat} {es:List D} {y:D} (h1:(bw σ p).bind (gR σ.h sz)=some es) (h2:bw σ q=some (.c (.d y))):cg σ [p,q] (.tup [.c (.fr sz es),.c (.d y)]):=by
  obtain⟨w,a,b⟩:=Rw.1 h1;unfold gR at b;split at b
  ·split at b
   ·rename_i e;split at b
    ·rename_i hc;obtain⟨rfl,rfl,rfl⟩:=hc;obtain rfl:=Option.some.inj b;exact H5 a e rfl h2
    ·cases b
   ·cases b
  ·obtain rfl:=Option.some.inj b;exact H6 a h2
  ·cases b
end Go.Proofs.Ytofonnokanoflaa
