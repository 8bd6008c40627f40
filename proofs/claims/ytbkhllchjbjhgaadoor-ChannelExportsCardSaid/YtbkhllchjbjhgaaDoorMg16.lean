/- Texts of one's own, merged: from: The plain logic (19): loops; states by lists; bytes and words as data. Own work. -/
import Derived.IntWalk
import Derived.Test.YtbkhllchjbjhgaaDoorMg15
set_option linter.unusedVariables false
set_option linter.unusedSimpArgs false
namespace Go.Proofs.YtbkhllchjbjhgaaDoor
open Go.RowKit IntWalk
def aT:List (Nat×V)→Nat→V
  | []=>uf
  | (i,v)::r=>upd (aT r) i v
def hL:List (Nat×Ob)→al
  | []=>hN
  | (i,o)::r=>upd (hL r) i (some o)
def uL:List Nat→Nat→Bool
  | []=>uN
  | i::r=>upd (uL r) i true
theorem yj:aT []=uf:=rfl
theorem lH (i:Nat) (v:V) (r:List (Nat×V)):aT ((i,v)::r)=upd (aT r) i v:=rfl
theorem z1:hL []=hN:=rfl
theorem pz (i:Nat) (o:Ob) (r:List (Nat×Ob)):hL ((i,o)::r)=upd (hL r) i (some o):=rfl
theorem z3:uL []=uN:=rfl
theorem pA (i:Nat) (r:List Nat):uL (i::r)=upd (uL r) i true:=rfl
theorem z4 {i:Nat}:∀ {l:List Nat},i∈l→uL l i=true
  | j::r,h=>by
    rw[pA];by_cases e:i=j
    ·rw[e]; exact upd_same _ _ _
    ·rw[upd_ne _ _ e];exact z4 (by simpa [e] using h)
theorem z5 {f:Nat→V} {g:Nat→Nat}:∀ {l:List (Nat×V)},(∀ p∈l,f p.1=p.2.ren g)→∀ t,aT l t=.undef∨f t=(aT l t).ren g
  | [],_,_=>.inl rfl
  | (i,v)::r,h,t=>by
    rw[lH];by_cases e:t=i
    ·rw[e,upd_same]; exact .inr (h (i,v) (by simp))
    ·rw[upd_ne _ _ e];exact z5 (fun p hp=>h p (by simp[hp])) t
theorem iZ {i:Nat} {o:Ob}:∀ {l:List (Nat×Ob)},hL l i=some o→(i,o)∈l
  | [],h=>by cases h
  | (j,q)::r,h=>by
    rw[pz] at h;by_cases e:i=j
    ·rw[e,upd_same] at h;cases h;rw[e]; simp
    ·rw[upd_ne _ _ e] at h;exact LA _ (iZ h)
theorem G7 {l:List (Nat×V)} {i t:Nat} (h:i∈(aT l t).ids):i∈l.flatMap fun p=>p.2.ids:=by
  induction l with
  | nil=>cases h
  | cons p r ih =>
    obtain⟨j,v⟩:=p;rw[lH] at h;rw[KV,La];by_cases e:t=j
    ·rw[e,upd_same] at h; exact .inl h
    ·rw[upd_ne _ _ e] at h; exact .inr (ih h)
def jv (f:Nat→V) (g:Nat→Nat):List (Nat×V)→Prop
  | []=>True
  | (i,v)::r=>f i=v.ren g∧jv f g r
def jw (h:al) (g:Nat→Nat):List (Nat×Ob)→Prop
  | []=>True
  | (i,o)::r=>h (g i)=some (o.ren g)∧jw h g r
def mK:List Nat→Bool
  | []=>true
  | i::r=>!r.contains i&&mK r
theorem yk (f:Nat→V) (g:Nat→Nat):jv f g []=True:=rfl
theorem vP (f:Nat→V) (g:Nat→Nat) (i:Nat) (v:V) (r:List (Nat×V)):jv f g ((i,v)::r)=(f i=v.ren g∧jv f g r):=rfl
theorem yl (h:al) (g:Nat→Nat):jw h g []=True:=rfl
theorem vQ (h:al) (g:Nat→Nat) (i:Nat) (o:Ob) (r:List (Nat×Ob)):jw h g ((i,o)::r)=(h (g i)=some (o.ren g)∧jw h g r):=rfl
theorem ym {f:Nat→V} {g:Nat→Nat}:∀ {l:List (Nat×V)},jv f g l→∀ p∈l,f p.1=p.2.ren g
  | (i,v)::r,h,p,hp=>by
    rcases K9.1 hp with rfl | hp
    ·exact h.1
    ·exact ym h.2 p hp
theorem yn {f:al} {g:Nat→Nat}:∀ {l:List (Nat×Ob)},jw f g l→∀ p∈l,f (g p.1)=some (p.2.ren g)
  | (i,v)::r,h,p,hp=>by
    rcases K9.1 hp with rfl | hp
    ·exact h.1
    ·exact yn h.2 p hp
theorem vR:∀ {l:List Nat},mK l=true→l.Nodup
  | [],_=>.nil
  | i::r,h=>by
    simp only[mK,K7,Bool.not_eq_true'] at h;refine List.nodup_cons.2 ⟨fun hi=>?_,vR h.2⟩;have:=List.contains_iff_mem.2 hi;rw[h.1] at this;cases this
theorem az {σ:St} (g:Nat→Nat) {fl:List (Nat×V)} {hl:List (Nat×Ob)} {ul:List Nat} (h1':jv σ.f g fl) (h2':jw σ.h g hl)
    (h3':mK (hl.map fun p=>g p.1)=true) (h4:((fl.flatMap fun p=>p.2.ids)++(hl.flatMap fun p=>p.1::p.2.ids)).all (fun i=>ul.contains i)=true):dd σ ⟨aT fl,hL hl,uL ul⟩:=by
  have h1:=ym h1';have h2:=yn h2';have h3:=vR h3';have used:∀ i,i∈(fl.flatMap fun p=>p.2.ids)++(hl.flatMap fun p=>p.1::p.2.ids)→uL ul i=true:=by
    intro i hi;rw[KX] at h4;exact z4 (by simpa using h4 i hi)
  refine⟨⟨g,z5 h1,fun i o ho=>h2 (i,o) (iZ ho),fun i j hi hj e=>?_⟩,fun t i hi=>used i (Lb _ (G7 hi)),fun i o ho=>⟨used i ?_,fun j hj=>used j ?_⟩⟩
  ·obtain⟨o,ho⟩:=K2.1 hi;obtain⟨q,hq⟩:=K2.1 hj;have m1:=iZ ho;have m2:=iZ hq;have key:∀ {l:List (Nat×Ob)},(l.map fun p=>g p.1).Nodup→∀ {x y:Nat×Ob},x∈l→y∈l→g x.1=g y.1→x=y:=by
     intro l
     induction l with
     | nil=>intro _ x y hx; cases hx
     | cons p r ih =>
       intro hn x y hx hy e;rw[KR,List.nodup_cons] at hn;rcases K9.1 hx with rfl | hx' <;> rcases K9.1 hy with rfl | hy'
       ·rfl
       ·exact (hn.1 (LB.2 ⟨y,hy',e.symm⟩)).elim
       ·exact (hn.1 (LB.2 ⟨x,hx',e⟩)).elim
       ·exact ih hn.2 hx' hy' e
   exact congrArg Prod.fst (key h3 m1 m2 e)
  ·exact KW _ (KO.2 ⟨_,iZ ho,by simp⟩)
  ·exact KW _ (KO.2 ⟨_,iZ ho,by simp[hj]⟩)
section
variable {P:Program} {G:ak}
def kF {α:Type} (st:α→St) (μ:α→Nat) (ok:α→Prop) (a:α) (Q:AX→St→Prop) (e:AX) (s:St):Prop :=
  match e with | .nrm=>∃ b,μ b<μ a∧ok b∧dd s (st b) | e=>Q e s
theorem yo {α:Type} (st:α→St) (μ:α→Nat) (ok:α→Prop) (a:α) (Q:AX→St→Prop) (i:Nat) (s:St):kF st μ ok a Q (.ex i) s=Q (.ex i) s:=rfl
theorem vS {α:Type} (st:α→St) (μ:α→Nat) (ok:α→Prop) (a:α) (Q:AX→St→Prop) (s:St):kF st μ ok a Q .ret s=Q .ret s:=rfl
theorem aS {α:Type} {st:α→St} {μ:α→Nat} {ok:α→Prop} {a:α} {Q:AX→St→Prop} {s:St} (b:α) (h1:μ b<μ a) (h2:ok b) (h3:dd s (st b)):kF st μ ok a Q .nrm s:=⟨b,h1,h2,h3⟩
theorem ba {α:Type} {c:aH} {Q:AX→St→Prop} {σ:St} (st:α→St) (μ:α→Nat) (ok:α→Prop) (a0:α) (h0:ok a0) (he:dd σ (st a0)) (round:∀ a,ok a→a9 P G c (kF st μ ok a Q) (st a)):a9 P G (.loop c) Q σ:=by
  refine⟨fun n s=>∃ a,μ a=n∧ok a∧s=st a,⟨μ a0,st a0,he,a0,rfl,h0,rfl⟩,?_⟩;rintro n s ⟨a,rfl,ha,rfl⟩;have key:(kF st μ ok a Q)=(fun e s'=>match e with | .nrm=>∃ n' τ,n'<μ a∧dd s' τ∧∃ a,μ a=n'∧ok a∧τ=st a | e=>Q e s'):=by
    funext e s'
    cases e with
    | nrm =>
      refine propext ⟨?_,?_⟩
      ·rintro⟨b,h1,h2,h3⟩;exact⟨μ b,st b,h1,h3,b,rfl,h2,rfl⟩
      ·rintro⟨n',τ,h1,h2,b,rfl,h3,rfl⟩;exact⟨b,h1,h3,h2⟩
    | ex i=>rfl
    | ret=>rfl
  have:=round a ha;rw[key] at this;exact this
end
theorem io {P:Program} {G:ak} {F:FuncId} {args:List D} {sz:Nat} {es:List D} (h:ap P G F args (.w (.c (.fr sz es)))):ap P G F args (.w (.c (.d (.sl es)))):=by
  intro w S vs h1 h2 h3;refine (h w S vs h1 h2 h3).mono ?_;rintro e w' ⟨v,S',bl,rfl,k1,k2,k3,k4⟩;have hfresh:∀ b∈bl,w.heap.size≤b∧b<w'.heap.size:=by
    intro b hb;rcases k4 with ⟨_,_,rfl⟩ | ⟨b',cap,ty,N,rfl,_,_,_,q1,_,q2⟩
    ·cases hb
    ·simp only[K1] at hb;subst hb;obtain⟨f1,_,cur,ty',fz,f3,_⟩:=q2;exact⟨f1,(KQ.1 f3).1⟩
  refine⟨v,fun b i=>S' b i∨b∈bl,[],rfl,k1,fun b i hs=>?_,.nil,?_⟩
  ·rcases hs with hs | hs
   ·exact k2 b i hs
   ·exact⟨.inr (hfresh b hs).1,(hfresh b hs).2⟩
  ·have:=kj (m:=fun _=>none) (x:=.c (.fr sz es)) k4 (T:=fun b i=>S' b i∨b∈bl) (fun _ _ h=>.inl h) (fun b hb _=>.inr hb);exact⟨this.1,rfl⟩
theorem IA {S S':ai} {w:World} {B:Nat} {v:Value} {y:D} {bl:List Nat} (h:dh S w B v (.c (.d y)) bl) (hS:∀ b i,S b i→S' b i):dh S' w B v (.c (.d y)) []∧bl=[]:=by
  cases y with
  | agg cs =>
    obtain⟨⟨us,h1,h2⟩,h3⟩:=h;exact⟨⟨⟨us,h1,h2.weak fun _ _ _ _ h=>h.mono hS⟩,rfl⟩,h3⟩
  | _ =>
    obtain⟨h1,h2⟩:=h;exact⟨⟨h1.mono hS,rfl⟩,h2⟩
theorem pB {P:Program} {G:ak} {F:FuncId} {args:List D} {sz:Nat} {es:List D} {y:D} (h:ap P G F args (.tup [.c (.fr sz es),.c (.d y)])):ap P G F args (.tup [.c (.d (.sl es)),.c (.d y)]):=by
  intro w S vs h1 h2 h3;refine (h w S vs h1 h2 h3).mono ?_;rintro e w' ⟨v,S',bl,rfl,k1,k2,k3,us,rfl,k4⟩;cases k4 with
  | @cons v1 c1 b1 vs1 cs1 b2 q1 q2 =>
  cases q2 with
  | @cons v2 c2 b3 vs2 cs2 b4 q3 q4 =>
  cases q4;have hfresh:∀ b∈b1,w.heap.size≤b∧b<w'.heap.size:=by
    intro b hb;rcases q1 with ⟨_,_,rfl⟩ | ⟨b',cap,ty,N,rfl,_,_,_,q1,_,q2⟩
    ·cases hb
    ·simp only[K1] at hb;subst hb;obtain⟨f1,_,cur,ty',fz,f3,_⟩:=q2;exact⟨f1,(KQ.1 f3).1⟩
  refine⟨_,fun b i=>S' b i∨b∈b1,[],rfl,k1,fun b i hs=>?_,.nil,_,rfl,?_⟩
  ·rcases hs with hs | hs
   ·exact k2 b i hs
   ·exact⟨.inr (hfresh b hs).1,(hfresh b hs).2⟩
  ·have hx:=kj (m:=fun _=>none) (x:=.c (.fr sz es)) q1 (T:=fun b i=>S' b i∨b∈b1) (fun _ _ h=>.inl h) (fun b hb _=>.inr hb);exact .cons (b1:=[]) (b2:=[]) ⟨hx.1,rfl⟩ (.cons (b1:=[]) (b2:=[]) (IA q3 fun _ _ h=>.inl h).1 .nil)
abbrev bs (l:List UInt8):D:=.sl (l.map bD)
def wD (x:UInt32):D:=.int .u32 (x.toNat:Int)
theorem Bv (x:UInt8):cN (.w (.c (.d (bD x))))=some (.u8,(x.toNat:Int)):=rfl
theorem Bw (x:UInt32):cN (.w (.c (.d (wD x))))=some (.u32,(x.toNat:Int)):=rfl
theorem yp (op:BinOp) (x:UInt8) (k:IntKind) (n:Int):aX op (.w (.c (.d (bD x)))) (.w (.c (.d (.int k n))))=aX op (.w (.c (.d (.int .u8 (x.toNat:Int))))) (.w (.c (.d (.int k n)))):=rfl
theorem yq (op:BinOp) (x:UInt8) (k:IntKind) (n:Int):aX op (.w (.c (.d (.int k n)))) (.w (.c (.d (bD x))))=aX op (.w (.c (.d (.int k n)))) (.w (.c (.d (.int .u8 (x.toNat:Int))))):=rfl
theorem vT (x y:UInt8):aX .lss (.w (.c (.d (bD x)))) (.w (.c (.d (bD y))))=aX .lss (.w (.c (.d (.int .u8 (x.toNat:Int))))) (.w (.c (.d (.int .u8 (y.toNat:Int))))):=rfl
theorem vU (x y:UInt8):aX .leq (.w (.c (.d (bD x)))) (.w (.c (.d (bD y))))=aX .leq (.w (.c (.d (.int .u8 (x.toNat:Int))))) (.w (.c (.d (.int .u8 (y.toNat:Int))))):=rfl
theorem vV (x y:UInt8):aX .gtr (.w (.c (.d (bD x)))) (.w (.c (.d (bD y))))=aX .gtr (.w (.c (.d (.int .u8 (x.toNat:Int))))) (.w (.c (.d (.int .u8 (y.toNat:Int))))):=rfl
theorem vW (x y:UInt8):aX .geq (.w (.c (.d (bD x)))) (.w (.c (.d (bD y))))=aX .geq (.w (.c (.d (.int .u8 (x.toNat:Int))))) (.w (.c (.d (.int .u8 (y.toNat:Int))))):=rfl
theorem vX (x y:UInt8):aX .eql (.w (.c (.d (bD x)))) (.w (.c (.d (bD y))))=aX .eql (.w (.c (.d (.int .u8 (x.toNat:Int))))) (.w (.c (.d (.int .u8 (y.toNat:Int))))):=rfl
theorem vY (x y:UInt8):aX .neq (.w (.c (.d (bD x)))) (.w (.c (.d (bD y))))=aX .neq (.w (.c (.d (.int .u8 (x.toNat:Int))))) (.w (.c (.d (.int .u8 (y.toNat:Int))))):=rfl
theorem vZ (x y:UInt8):aX .add (.w (.c (.d (bD x)))) (.w (.c (.d (bD y))))=aX .add (.w (.c (.d (.int .u8 (x.toNat:Int))))) (.w (.c (.d (.int .u8 (y.toNat:Int))))):=rfl
theorem v3 (x y:UInt8):aX .sub (.w (.c (.d (bD x)))) (.w (.c (.d (bD y))))=aX .sub (.w (.c (.d (.int .u8 (x.toNat:Int))))) (.w (.c (.d (.int .u8 (y.toNat:Int))))):=rfl
theorem Bz (op:UnOp) (x:UInt8):fT op (.w (.c (.d (bD x))))=fT op (.w (.c (.d (.int .u8 (x.toNat:Int))))):=rfl
theorem tH (k:IntKind) (n:Int):D.cells (.int k n)=[.int k n]:=rfl
theorem sO (b:Bool):D.cells (.bool b)=[.bool b]:=rfl
theorem tI (b:ByteArray):D.cells (.str b)=[.str b]:=rfl
theorem v4 (es:List D):D.cells (.sl es)=[.sl es]:=rfl
theorem tJ (cs:List D):D.cells (.agg cs)=cs:=rfl
theorem v5 (x:UInt32):(wD x).cells=[wD x]:=rfl
theorem v6 (a:UInt8):cK 1 [bD a]=true:=rfl
theorem v7 (a b:UInt8):cK 1 [bD a,bD b]=true:=rfl
theorem v8 (x:UInt8):(bD x).cells=[bD x]:=rfl
theorem ol {α:Type} (f:α→D) (hf:∀ x,(f x).cells.length=1) (l:List α):cK 1 (l.map f)=true:=by
  unfold cK;rw[KX];intro d hd;obtain⟨x,_,rfl⟩:=LB.1 hd;simp[hf x]
theorem v9 (l:List UInt8):cK 1 (l.map bD)=true:=ol bD (fun _=>rfl) l
theorem wa (l:List UInt32):cK 1 (l.map wD)=true:=ol wD (fun _=>rfl) l
theorem lI:∀ l:List UInt8,gU (l.map bD)=some l
  | []=>rfl
  | x::l=>by
    have h:=x.toNat_lt;simp only[KR,gU,lI l,bD,ry];rw[if_pos (by omega)];simp
theorem dv {α β:Type} (f:α→β) (l:List α) (n:Nat):(l.map f).take n=(l.take n).map f:=List.map_take.symm
theorem fC {α β:Type} (f:α→β) (l:List α) (n:Nat):(l.map f).drop n=(l.drop n).map f:=List.map_drop.symm
theorem fi {α β:Type} (f:α→β) (l:List α):(l.map f).length=l.length:=KN _
theorem gj {α β:Type} (f:α→β) (l m:List α):l.map f++m.map f=(l++m).map f:=LG.symm
theorem bm {α β:Type} (f:α→β) (l:List α) (i:Nat):(l.map f)[i]?=(l[i]?).map f:=LD
theorem pC {α β:Type} (f:α→β) (l:List α) (i:Nat) (x:α):(l.map f).set i (f x)=(l.set i x).map f:=List.map_set.symm
theorem om {α:Type} (f:α→D) (hf:∀ x,(f x).cells=[f x]):∀ l:List α,(l.map f).flatMap D.cells=l.map f
  | []=>rfl
  | x::l=>by rw[KR,KV,hf x,om f hf l]; rfl
theorem yr (l:List UInt32):(l.map wD).flatMap D.cells=l.map wD:=om wD (fun _=>rfl) l
theorem eN (l:List UInt8):(l.map bD).flatMap D.cells=l.map bD:=om bD (fun _=>rfl) l
def mL (k:IntKind) (n:Int):Int:=k.wrap n
theorem z6 (n:Int):IntKind.i64.wrap n=if -9223372036854775808≤n∧n≤9223372036854775807 then n else mL .i64 n:=by
  split
  ·exact IntWalk.i64_in _ ‹_›
  ·rfl
theorem z7 (n:Int):IntKind.u64.wrap n=if 0≤n∧n≤18446744073709551615 then n else mL .u64 n:=by
  split
  ·exact IntWalk.u64_in _ (by omega)
  ·rfl
theorem z8 (n:Int):IntKind.u32.wrap n=if 0≤n∧n≤4294967295 then n else mL .u32 n:=by
  split
  ·exact IntWalk.u32_in _ (by omega)
  ·rfl
theorem BA (n:Int):IntKind.u8.wrap n=if 0≤n∧n≤255 then n else mL .u8 n:=by
  split
  ·exact IntWalk.u8_in _ (by omega)
  ·rfl
theorem Kv (s:Nat) (l:List UInt32):V.flat (.w (.c (.fr s (l.map wD))))=true:=by
  simp only[V.flat,W.flat,C.flat,List.all_map,KX]; intro x _; rfl
theorem jp (s:Nat) (l:List UInt8):V.flat (.w (.c (.fr s (l.map bD))))=true:=by
  simp only[V.flat,W.flat,C.flat,List.all_map,KX]; intro x _; rfl
theorem tK (sz:Nat):cK sz []=true:=rfl
theorem sP (sz:Nat) (e:D) (es:List D):cK sz (e::es)=(e.cells.length==sz&&cK sz es):=rfl
theorem tL (a:ByteArray):gT .eql a a=some (.bool true):=by simp[gT]
theorem B4 {α:Type} (a:α):List.replicate 1 a=[a]:=rfl
theorem B5 {α:Type} (a:α):List.replicate 2 a=[a,a]:=rfl
theorem B6 {α:Type} (a:α):List.replicate 3 a=[a,a,a]:=rfl
theorem B7 {α:Type} (a:α):List.replicate 4 a=[a,a,a,a]:=rfl
theorem B8 {α:Type} (a:α):List.replicate 5 a=[a,a,a,a,a]:=rfl
theorem B9 {α:Type} (a:α):List.replicate 6 a=[a,a,a,a,a,a]:=rfl
def Kw:=@fv
def p9:Option D→Bool | some e=>e.one | none=>false
theorem sn (e:D):p9 (some e)=e.one:=rfl
theorem BB (es:List D) (i s:Nat) (x:D):fv .sc (.c (.d x)) i 0 (.row s es)=bif p9 es[i]?&&x.one then some (.row s (es.set i x)) else Kw .sc (.c (.d x)) i 0 (.row s es):=by
  cases hc:(p9 es[i]?&&x.one) with
  | false=>rfl
  | true =>
    rw[K7] at hc;obtain⟨h1,h2⟩:=hc;cases he:es[i]? with
    | none=>rw[he] at h1; cases h1
    | some e =>
      rw[he] at h1;simp only[fv,he,dB,cond_true];cases e <;> first | (cases h1; done) | simp[h2]
theorem yt (k:IntKind) (n:Int):D.one (.int k n)=true:=rfl
theorem wb (b:Bool):D.one (.bool b)=true:=rfl
theorem yu (b:ByteArray):D.one (.str b)=true:=rfl
theorem z9 (es:List D):D.one (.sl es)=true:=rfl
theorem dm (x:UInt8):D.one (bD x)=true:=rfl
theorem jj (x:UInt32):D.one (wD x)=true:=rfl
theorem Ca (x:UInt32):bo (.c (.d (wD x)))=[.d (wD x)]:=rfl
theorem Cb (x:UInt8):bo (.c (.d (bD x)))=[.d (bD x)]:=rfl
theorem Aa (k:IntKind) (n:Int):bo (.c (.d (.int k n)))=[.d (.int k n)]:=rfl
theorem yx (b:Bool):bo (.c (.d (.bool b)))=[.d (.bool b)]:=rfl
theorem Ab (b:ByteArray):bo (.c (.d (.str b)))=[.d (.str b)]:=rfl
theorem BC (es:List D):bo (.c (.d (.sl es)))=[.d (.sl es)]:=rfl
theorem Ac (cs:List D):bo (.c (.d (.agg cs)))=cs.map C.d:=rfl
theorem Ad:bo (.c .nil)=[.nil]:=rfl
theorem Ae (id sz off n:Nat):bo (.c (.own id sz off n))=[.own id sz off n]:=rfl
theorem Af (id sz i o:Nat):bo (.c (.ptr id sz i o))=[.ptr id sz i o]:=rfl
theorem BD (id sz:Nat):bo (.c (.pa id sz))=[.pa id sz]:=rfl
theorem Ag (cs:List C):bo (.mix cs)=cs:=rfl
theorem gq {σ:St} {p:Nat×Option Kd} {x:D} (h:bc σ p=some (.c (.d x))):cc σ [p] (.w (.c (.d x))) :=
  ⟨[.c (.d x)],by simp[aD,h],.inl ⟨by simp[W.ids,C.ids],rfl⟩⟩
theorem cV {σ:St} {p:Nat×Option Kd} {id sz n s:Nat} {es:List D} (h:bc σ p=some (.c (.own id sz 0 n))) (e:σ.h id=some (.row s es)) (hn:n=es.length):cc σ [p] (.w (.c (.fr sz es))):=by
  refine⟨[.c (.own id sz 0 n)],by simp[aD,h],.inl ⟨by simp[W.ids,C.ids],rfl,rfl,?_⟩⟩;subst hn;rw[e];exact⟨by simp[bV],trivial⟩
theorem wc {σ:St} {p:Nat×Option Kd} {id sz n s:Nat} {full:List D} (h:bc σ p=some (.c (.own id sz 0 n))) (e:σ.h id=some (.row s full)) (hn:n≤full.length):cc σ [p] (.w (.c (.fr sz (full.take n)))):=by
  refine⟨[.c (.own id sz 0 n)],by simp[aD,h],.inl ⟨by simp[W.ids,C.ids],rfl,rfl,?_⟩⟩;rw[e];exact⟨by simp[bV,hn],trivial⟩
theorem pD {σ:St} {p:Nat×Option Kd} {sz:Nat} (h:bc σ p=some (.c .nil)):cc σ [p] (.w (.c (.fr sz []))) :=
  ⟨[.c .nil],by simp[aD,h],.inl ⟨by simp[W.ids,C.ids],rfl⟩⟩
theorem ip {σ:St} {p:Nat×Option Kd} {x:D} (h1:(bc σ p).bind (toW σ.h)=some x):cc σ [p] (.w (.c (.d x))):=by
  obtain⟨w1,a1,b1⟩:=K4.1 h1;exact⟨[w1],by simp[aD,a1],.inr b1⟩
theorem mg {σ:St} {p q:Nat×Option Kd} {x y:D} (h1:(bc σ p).bind (toW σ.h)=some x) (h2:(bc σ q).bind (toW σ.h)=some y):cc σ [p,q] (.tup [.c (.d x),.c (.d y)]):=by
  obtain⟨w1,a1,b1⟩:=K4.1 h1;obtain⟨w2,a2,b2⟩:=K4.1 h2;exact⟨[w1,w2],by simp[aD,a1,a2],.inr (.cons ⟨x,rfl,b1⟩ (.cons ⟨y,rfl,b2⟩ .nil))⟩
theorem qa {σ:St} {p q r:Nat×Option Kd} {x y z:D} (h1:(bc σ p).bind (toW σ.h)=some x) (h2:(bc σ q).bind (toW σ.h)=some y) (h3:(bc σ r).bind (toW σ.h)=some z):cc σ [p,q,r] (.tup [.c (.d x),.c (.d y),.c (.d z)]):=by
  obtain⟨w1,a1,b1⟩:=K4.1 h1;obtain⟨w2,a2,b2⟩:=K4.1 h2;obtain⟨w3,a3,b3⟩:=K4.1 h3;exact⟨[w1,w2,w3],by simp[aD,a1,a2,a3],.inr (.cons ⟨x,rfl,b1⟩ (.cons ⟨y,rfl,b2⟩ (.cons ⟨z,rfl,b3⟩ .nil)))⟩
theorem D7 {σ:St} {p q:Nat×Option Kd} {id sz n s:Nat} {es:List D} {y:D} (h1:bc σ p=some (.c (.own id sz 0 n))) (e:σ.h id=some (.row s es)) (hn:n=es.length) (h2:bc σ q=some (.c (.d y))):cc σ [p,q] (.tup [.c (.fr sz es),.c (.d y)]):=by
  refine⟨[.c (.own id sz 0 n),.c (.d y)],by simp[aD,h1,h2],.inl ⟨by simp[W.ids,C.ids],.cons ⟨rfl,rfl,?_⟩ (.cons ?_ .nil)⟩⟩
  ·subst hn;rw[e];exact⟨by simp[bV],trivial⟩
  ·cases y <;> rfl
theorem D8 {σ:St} {p q:Nat×Option Kd} {sz:Nat} {y:D} (h1:bc σ p=some (.c .nil)) (h2:bc σ q=some (.c (.d y))):cc σ [p,q] (.tup [.c (.fr sz []),.c (.d y)]):=by
  refine⟨[.c .nil,.c (.d y)],by simp[aD,h1,h2],.inl ⟨by simp[W.ids,C.ids],.cons rfl (.cons ?_ .nil)⟩⟩;cases y <;> rfl
def fO (h:al) (sz:Nat):W→Option (List D)
  | .c (.own id sz' off n)=>match h id with
    | some (.row _ es)=>if off=0∧n=es.length∧sz'=sz then some es else none
    | _=>none
  | .c .nil=>some []
  | _=>none
theorem wd (h:al) (sz id sz' off n:Nat):fO h sz (.c (.own id sz' off n))=(match h id with
    | some (.row _ es)=>if off=0∧n=es.length∧sz'=sz then some es else none
    | _=>none):=rfl
theorem we (h:al) (sz:Nat):fO h sz (.c .nil)=some []:=rfl
theorem Ah {σ:St} {p:Nat×Option Kd} {sz:Nat} {es:List D} (h1:(bc σ p).bind (fO σ.h sz)=some es):cc σ [p] (.w (.c (.fr sz es))):=by
  obtain⟨w,a,b⟩:=K4.1 h1;unfold fO at b;split at b
  ·split at b
   ·rename_i e;split at b
    ·rename_i hc;obtain⟨rfl,rfl,rfl⟩:=hc;obtain rfl:=Option.some.inj b;exact cV a e rfl
    ·cases b
   ·cases b
  ·obtain rfl:=Option.some.inj b;exact pD a
  ·cases b
theorem qb {σ:St} {p q:Nat×Option Kd} {sz:Nat} {es:List D} {y:D} (h1:(bc σ p).bind (fO σ.h sz)=some es) (h2:bc σ q=some (.c (.d y))):cc σ [p,q] (.tup [.c (.fr sz es),.c (.d y)]):=by
  obtain⟨w,a,b⟩:=K4.1 h1;unfold fO at b;split at b
  ·split at b
   ·rename_i e;split at b
    ·rename_i hc;obtain⟨rfl,rfl,rfl⟩:=hc;obtain rfl:=Option.some.inj b;exact D7 a e rfl h2
    ·cases b
   ·cases b
  ·obtain rfl:=Option.some.inj b;exact D8 a h2
  ·cases b
end Go.Proofs.YtbkhllchjbjhgaaDoor
