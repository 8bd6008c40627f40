/- Texts of one's own, merged: from: The plain logic (19): loops; states by lists; bytes and words as data. Own work. -/
import Derived.IntWalk
import Derived.Test.YtofonnokanoflaaGreatMz15
set_option linter.unusedVariables false
set_option linter.unusedSimpArgs false
namespace Go.Proofs.YtofonnokanoflaaGreat
open Go.RowKit IntWalk
def aP:List (Nat×V)→Nat→V
  | []=>uf
  | (i,v)::r=>upd (aP r) i v
def hL:List (Nat×Ob)→aA
  | []=>hN
  | (i,o)::r=>upd (hL r) i (some o)
def uL:List Nat→Nat→Bool
  | []=>uN
  | i::r=>upd (uL r) i true
theorem Hf:aP []=uf:=rfl
theorem sU (i:Nat) (v:V) (r:List (Nat×V)):aP ((i,v)::r)=upd (aP r) i v:=rfl
theorem JU:hL []=hN:=rfl
theorem mE (i:Nat) (o:Ob) (r:List (Nat×Ob)):hL ((i,o)::r)=upd (hL r) i (some o):=rfl
theorem JV:uL []=uN:=rfl
theorem tw (i:Nat) (r:List Nat):uL (i::r)=upd (uL r) i true:=rfl
theorem JW {i:Nat}:∀ {l:List Nat},i∈l→uL l i=true
  | j::r,h=>by
    rw[tw];by_cases e:i=j
    ·rw[e]; exact upd_same _ _ _
    ·rw[upd_ne _ _ e];exact JW (by simpa [e] using h)
theorem JX {f:Nat→V} {g:Nat→Nat}:∀ {l:List (Nat×V)},(∀ p∈l,f p.1=p.2.ren g)→∀ t,aP l t=.undef∨f t=(aP l t).ren g
  | [],_,_=>.inl rfl
  | (i,v)::r,h,t=>by
    rw[sU];by_cases e:t=i
    ·rw[e,upd_same]; exact .inr (h (i,v) (by simp))
    ·rw[upd_ne _ _ e];exact JX (fun p hp=>h p (by simp[hp])) t
theorem iU {i:Nat} {o:Ob}:∀ {l:List (Nat×Ob)},hL l i=some o→(i,o)∈l
  | [],h=>by cases h
  | (j,q)::r,h=>by
    rw[mE] at h;by_cases e:i=j
    ·rw[e,upd_same] at h;cases h;rw[e]; simp
    ·rw[upd_ne _ _ e] at h;exact Y4 _ (iU h)
theorem R5 {l:List (Nat×V)} {i t:Nat} (h:i∈(aP l t).ids):i∈l.flatMap fun p=>p.2.ids:=by
  induction l with
  | nil=>cases h
  | cons p r ih =>
    obtain⟨j,v⟩:=p;rw[sU] at h;rw[YG,YM];by_cases e:t=j
    ·rw[e,upd_same] at h; exact .inl h
    ·rw[upd_ne _ _ e] at h; exact .inr (ih h)
def pt (f:Nat→V) (g:Nat→Nat):List (Nat×V)→Prop
  | []=>True
  | (i,v)::r=>f i=v.ren g∧pt f g r
def ib (h:aA) (g:Nat→Nat):List (Nat×Ob)→Prop
  | []=>True
  | (i,o)::r=>h (g i)=some (o.ren g)∧ib h g r
def qR:List Nat→Bool
  | []=>true
  | i::r=>!r.contains i&&qR r
theorem Hg (f:Nat→V) (g:Nat→Nat):pt f g []=True:=rfl
theorem EQ (f:Nat→V) (g:Nat→Nat) (i:Nat) (v:V) (r:List (Nat×V)):pt f g ((i,v)::r)=(f i=v.ren g∧pt f g r):=rfl
theorem Hh (h:aA) (g:Nat→Nat):ib h g []=True:=rfl
theorem ER (h:aA) (g:Nat→Nat) (i:Nat) (o:Ob) (r:List (Nat×Ob)):ib h g ((i,o)::r)=(h (g i)=some (o.ren g)∧ib h g r):=rfl
theorem Hi {f:Nat→V} {g:Nat→Nat}:∀ {l:List (Nat×V)},pt f g l→∀ p∈l,f p.1=p.2.ren g
  | (i,v)::r,h,p,hp=>by
    rcases Y1.1 hp with rfl | hp
    ·exact h.1
    ·exact Hi h.2 p hp
theorem tx {f:aA} {g:Nat→Nat}:∀ {l:List (Nat×Ob)},ib f g l→∀ p∈l,f (g p.1)=some (p.2.ren g)
  | (i,v)::r,h,p,hp=>by
    rcases Y1.1 hp with rfl | hp
    ·exact h.1
    ·exact tx h.2 p hp
theorem xz:∀ {l:List Nat},qR l=true→l.Nodup
  | [],_=>.nil
  | i::r,h=>by
    simp only[qR,YS,Bool.not_eq_true'] at h;refine List.nodup_cons.2 ⟨fun hi=>?_,xz h.2⟩;have:=List.contains_iff_mem.2 hi;rw[h.1] at this;cases this
theorem ap {σ:St} (g:Nat→Nat) {fl:List (Nat×V)} {hl:List (Nat×Ob)} {ul:List Nat} (h1':pt σ.f g fl) (h2':ib σ.h g hl)
    (h3':qR (hl.map fun p=>g p.1)=true) (h4:((fl.flatMap fun p=>p.2.ids)++(hl.flatMap fun p=>p.1::p.2.ids)).all (fun i=>ul.contains i)=true):eM σ ⟨aP fl,hL hl,uL ul⟩:=by
  have h1:=Hi h1';have h2:=tx h2';have h3:=xz h3';have used:∀ i,i∈(fl.flatMap fun p=>p.2.ids)++(hl.flatMap fun p=>p.1::p.2.ids)→uL ul i=true:=by
    intro i hi;rw[YB] at h4;exact JW (by simpa using h4 i hi)
  refine⟨⟨g,JX h1,fun i o ho=>h2 (i,o) (iU ho),fun i j hi hj e=>?_⟩,fun t i hi=>used i (YT _ (R5 hi)),fun i o ho=>⟨used i ?_,fun j hj=>used j ?_⟩⟩
  ·obtain⟨o,ho⟩:=YJ.1 hi;obtain⟨q,hq⟩:=YJ.1 hj;have m1:=iU ho;have m2:=iU hq;have key:∀ {l:List (Nat×Ob)},(l.map fun p=>g p.1).Nodup→∀ {x y:Nat×Ob},x∈l→y∈l→g x.1=g y.1→x=y:=by
     intro l
     induction l with
     | nil=>intro _ x y hx; cases hx
     | cons p r ih =>
       intro hn x y hx hy e;rw[Yp,List.nodup_cons] at hn;rcases Y1.1 hx with rfl | hx' <;> rcases Y1.1 hy with rfl | hy'
       ·rfl
       ·exact (hn.1 (YN.2 ⟨y,hy',e.symm⟩)).elim
       ·exact (hn.1 (YN.2 ⟨x,hx',e⟩)).elim
       ·exact ih hn.2 hx' hy' e
   exact congrArg Prod.fst (key h3 m1 m2 e)
  ·exact YF _ (Yx.2 ⟨_,iU ho,by simp⟩)
  ·exact YF _ (Yx.2 ⟨_,iU ho,by simp[hj]⟩)
section
variable {P:Program} {G:ah}
def rm {α:Type} (st:α→St) (μ:α→Nat) (ok:α→Prop) (a:α) (Q:AX→St→Prop) (e:AX) (s:St):Prop :=
  match e with | .nrm=>∃ b,μ b<μ a∧ok b∧eM s (st b) | e=>Q e s
theorem Hj {α:Type} (st:α→St) (μ:α→Nat) (ok:α→Prop) (a:α) (Q:AX→St→Prop) (i:Nat) (s:St):rm st μ ok a Q (.ex i) s=Q (.ex i) s:=rfl
theorem ES {α:Type} (st:α→St) (μ:α→Nat) (ok:α→Prop) (a:α) (Q:AX→St→Prop) (s:St):rm st μ ok a Q .ret s=Q .ret s:=rfl
theorem aQ {α:Type} {st:α→St} {μ:α→Nat} {ok:α→Prop} {a:α} {Q:AX→St→Prop} {s:St} (b:α) (h1:μ b<μ a) (h2:ok b) (h3:eM s (st b)):rm st μ ok a Q .nrm s:=⟨b,h1,h2,h3⟩
theorem aV {α:Type} {c:aN} {Q:AX→St→Prop} {σ:St} (st:α→St) (μ:α→Nat) (ok:α→Prop) (a0:α) (h0:ok a0) (he:eM σ (st a0)) (round:∀ a,ok a→bE P G c (rm st μ ok a Q) (st a)):bE P G (.loop c) Q σ:=by
  refine⟨fun n s=>∃ a,μ a=n∧ok a∧s=st a,⟨μ a0,st a0,he,a0,rfl,h0,rfl⟩,?_⟩;rintro n s ⟨a,rfl,ha,rfl⟩;have key:(rm st μ ok a Q)=(fun e s'=>match e with | .nrm=>∃ n' τ,n'<μ a∧eM s' τ∧∃ a,μ a=n'∧ok a∧τ=st a | e=>Q e s'):=by
    funext e s'
    cases e with
    | nrm =>
      refine propext ⟨?_,?_⟩
      ·rintro⟨b,h1,h2,h3⟩;exact⟨μ b,st b,h1,h3,b,rfl,h2,rfl⟩
      ·rintro⟨n',τ,h1,h2,b,rfl,h3,rfl⟩;exact⟨b,h1,h3,h2⟩
    | ex i=>rfl
    | ret=>rfl
  have:=round a ha;rw[key] at this;exact this
end
theorem kj {P:Program} {G:ah} {F:FuncId} {args:List D} {sz:Nat} {es:List D} (h:au P G F args (.w (.c (.fr sz es)))):au P G F args (.w (.c (.d (.sl es)))):=by
  intro w S vs h1 h2 h3;refine (h w S vs h1 h2 h3).mono ?_;rintro e w' ⟨v,S',bl,rfl,k1,k2,k3,k4⟩;have hfresh:∀ b∈bl,w.heap.size≤b∧b<w'.heap.size:=by
    intro b hb;rcases k4 with ⟨_,_,rfl⟩ | ⟨b',cap,ty,N,rfl,_,_,_,q1,_,q2⟩
    ·cases hb
    ·simp only[YA] at hb;subst hb;obtain⟨f1,_,cur,ty',fz,f3,_⟩:=q2;exact⟨f1,(YC.1 f3).1⟩
  refine⟨v,fun b i=>S' b i∨b∈bl,[],rfl,k1,fun b i hs=>?_,.nil,?_⟩
  ·rcases hs with hs | hs
   ·exact k2 b i hs
   ·exact⟨.inr (hfresh b hs).1,(hfresh b hs).2⟩
  ·have:=oz (m:=fun _=>none) (x:=.c (.fr sz es)) k4 (T:=fun b i=>S' b i∨b∈bl) (fun _ _ h=>.inl h) (fun b hb _=>.inr hb);exact⟨this.1,rfl⟩
theorem UD {S S':aw} {w:World} {B:Nat} {v:Value} {y:D} {bl:List Nat} (h:fv S w B v (.c (.d y)) bl) (hS:∀ b i,S b i→S' b i):fv S' w B v (.c (.d y)) []∧bl=[]:=by
  cases y with
  | agg cs =>
    obtain⟨⟨us,h1,h2⟩,h3⟩:=h;exact⟨⟨⟨us,h1,h2.weak fun _ _ _ _ h=>h.mono hS⟩,rfl⟩,h3⟩
  | _ =>
    obtain⟨h1,h2⟩:=h;exact⟨⟨h1.mono hS,rfl⟩,h2⟩
theorem lN {P:Program} {G:ah} {F:FuncId} {args:List D} {sz:Nat} {es:List D} {y:D} (h:au P G F args (.tup [.c (.fr sz es),.c (.d y)])):au P G F args (.tup [.c (.d (.sl es)),.c (.d y)]):=by
  intro w S vs h1 h2 h3;refine (h w S vs h1 h2 h3).mono ?_;rintro e w' ⟨v,S',bl,rfl,k1,k2,k3,us,rfl,k4⟩;cases k4 with
  | @cons v1 c1 b1 vs1 cs1 b2 q1 q2 =>
  cases q2 with
  | @cons v2 c2 b3 vs2 cs2 b4 q3 q4 =>
  cases q4;have hfresh:∀ b∈b1,w.heap.size≤b∧b<w'.heap.size:=by
    intro b hb;rcases q1 with ⟨_,_,rfl⟩ | ⟨b',cap,ty,N,rfl,_,_,_,q1,_,q2⟩
    ·cases hb
    ·simp only[YA] at hb;subst hb;obtain⟨f1,_,cur,ty',fz,f3,_⟩:=q2;exact⟨f1,(YC.1 f3).1⟩
  refine⟨_,fun b i=>S' b i∨b∈b1,[],rfl,k1,fun b i hs=>?_,.nil,_,rfl,?_⟩
  ·rcases hs with hs | hs
   ·exact k2 b i hs
   ·exact⟨.inr (hfresh b hs).1,(hfresh b hs).2⟩
  ·have hx:=oz (m:=fun _=>none) (x:=.c (.fr sz es)) q1 (T:=fun b i=>S' b i∨b∈b1) (fun _ _ h=>.inl h) (fun b hb _=>.inr hb);exact .cons (b1:=[]) (b2:=[]) ⟨hx.1,rfl⟩ (.cons (b1:=[]) (b2:=[]) (UD q3 fun _ _ h=>.inl h).1 .nil)
abbrev bs (l:List UInt8):D:=.sl (l.map bD)
def wD (x:UInt32):D:=.int .u32 (x.toNat:Int)
theorem LP (x:UInt8):fj (.w (.c (.d (bD x))))=some (.u8,(x.toNat:Int)):=rfl
theorem LQ (x:UInt32):fj (.w (.c (.d (wD x))))=some (.u32,(x.toNat:Int)):=rfl
theorem Hk (op:BinOp) (x:UInt8) (k:IntKind) (n:Int):bM op (.w (.c (.d (bD x)))) (.w (.c (.d (.int k n))))=bM op (.w (.c (.d (.int .u8 (x.toNat:Int))))) (.w (.c (.d (.int k n)))):=rfl
theorem Hl (op:BinOp) (x:UInt8) (k:IntKind) (n:Int):bM op (.w (.c (.d (.int k n)))) (.w (.c (.d (bD x))))=bM op (.w (.c (.d (.int k n)))) (.w (.c (.d (.int .u8 (x.toNat:Int))))):=rfl
theorem ET (x y:UInt8):bM .lss (.w (.c (.d (bD x)))) (.w (.c (.d (bD y))))=bM .lss (.w (.c (.d (.int .u8 (x.toNat:Int))))) (.w (.c (.d (.int .u8 (y.toNat:Int))))):=rfl
theorem EU (x y:UInt8):bM .leq (.w (.c (.d (bD x)))) (.w (.c (.d (bD y))))=bM .leq (.w (.c (.d (.int .u8 (x.toNat:Int))))) (.w (.c (.d (.int .u8 (y.toNat:Int))))):=rfl
theorem EV (x y:UInt8):bM .gtr (.w (.c (.d (bD x)))) (.w (.c (.d (bD y))))=bM .gtr (.w (.c (.d (.int .u8 (x.toNat:Int))))) (.w (.c (.d (.int .u8 (y.toNat:Int))))):=rfl
theorem EW (x y:UInt8):bM .geq (.w (.c (.d (bD x)))) (.w (.c (.d (bD y))))=bM .geq (.w (.c (.d (.int .u8 (x.toNat:Int))))) (.w (.c (.d (.int .u8 (y.toNat:Int))))):=rfl
theorem EX (x y:UInt8):bM .eql (.w (.c (.d (bD x)))) (.w (.c (.d (bD y))))=bM .eql (.w (.c (.d (.int .u8 (x.toNat:Int))))) (.w (.c (.d (.int .u8 (y.toNat:Int))))):=rfl
theorem EY (x y:UInt8):bM .neq (.w (.c (.d (bD x)))) (.w (.c (.d (bD y))))=bM .neq (.w (.c (.d (.int .u8 (x.toNat:Int))))) (.w (.c (.d (.int .u8 (y.toNat:Int))))):=rfl
theorem EZ (x y:UInt8):bM .add (.w (.c (.d (bD x)))) (.w (.c (.d (bD y))))=bM .add (.w (.c (.d (.int .u8 (x.toNat:Int))))) (.w (.c (.d (.int .u8 (y.toNat:Int))))):=rfl
theorem E0 (x y:UInt8):bM .sub (.w (.c (.d (bD x)))) (.w (.c (.d (bD y))))=bM .sub (.w (.c (.d (.int .u8 (x.toNat:Int))))) (.w (.c (.d (.int .u8 (y.toNat:Int))))):=rfl
theorem LR (op:UnOp) (x:UInt8):kC op (.w (.c (.d (bD x))))=kC op (.w (.c (.d (.int .u8 (x.toNat:Int))))):=rfl
theorem CW (k:IntKind) (n:Int):D.cells (.int k n)=[.int k n]:=rfl
theorem Ce (b:Bool):D.cells (.bool b)=[.bool b]:=rfl
theorem CX (b:ByteArray):D.cells (.str b)=[.str b]:=rfl
theorem E1 (es:List D):D.cells (.sl es)=[.sl es]:=rfl
theorem CY (cs:List D):D.cells (.agg cs)=cs:=rfl
theorem E2 (x:UInt32):(wD x).cells=[wD x]:=rfl
theorem E3 (a:UInt8):ep 1 [bD a]=true:=rfl
theorem E4 (a b:UInt8):ep 1 [bD a,bD b]=true:=rfl
theorem E5 (x:UInt8):(bD x).cells=[bD x]:=rfl
theorem r7 {α:Type} (f:α→D) (hf:∀ x,(f x).cells.length=1) (l:List α):ep 1 (l.map f)=true:=by
  unfold ep;rw[YB];intro d hd;obtain⟨x,_,rfl⟩:=YN.1 hd;simp[hf x]
theorem E6 (l:List UInt8):ep 1 (l.map bD)=true:=r7 bD (fun _=>rfl) l
theorem E7 (l:List UInt32):ep 1 (l.map wD)=true:=r7 wD (fun _=>rfl) l
theorem xA:∀ l:List UInt8,l8 (l.map bD)=some l
  | []=>rfl
  | x::l=>by
    have h:=x.toNat_lt;simp only[Yp,l8,xA l,bD,A8];rw[if_pos (by omega)];simp
theorem bo {α β:Type} (f:α→β) (l:List α) (n:Nat):(l.map f).take n=(l.take n).map f:=List.map_take.symm
theorem ek {α β:Type} (f:α→β) (l:List α) (n:Nat):(l.map f).drop n=(l.drop n).map f:=List.map_drop.symm
theorem cq {α β:Type} (f:α→β) (l:List α):(l.map f).length=l.length:=YI _
theorem gD {α β:Type} (f:α→β) (l m:List α):l.map f++m.map f=(l++m).map f:=YD.symm
theorem aC {α β:Type} (f:α→β) (l:List α) (i:Nat):(l.map f)[i]?=(l[i]?).map f:=Zn
theorem mF {α β:Type} (f:α→β) (l:List α) (i:Nat) (x:α):(l.map f).set i (f x)=(l.set i x).map f:=List.map_set.symm
theorem ww {α:Type} (f:α→D) (hf:∀ x,(f x).cells=[f x]):∀ l:List α,(l.map f).flatMap D.cells=l.map f
  | []=>rfl
  | x::l=>by rw[Yp,YG,hf x,ww f hf l]; rfl
theorem Hm (l:List UInt32):(l.map wD).flatMap D.cells=l.map wD:=ww wD (fun _=>rfl) l
theorem ij (l:List UInt8):(l.map bD).flatMap D.cells=l.map bD:=ww bD (fun _=>rfl) l
def uH (k:IntKind) (n:Int):Int:=k.wrap n
theorem JY (n:Int):IntKind.i64.wrap n=if -9223372036854775808≤n∧n≤9223372036854775807 then n else uH .i64 n:=by
  split
  ·exact IntWalk.i64_in _ ‹_›
  ·rfl
theorem zb (n:Int):IntKind.u64.wrap n=if 0≤n∧n≤18446744073709551615 then n else uH .u64 n:=by
  split
  ·exact IntWalk.u64_in _ (by omega)
  ·rfl
theorem JZ (n:Int):IntKind.u32.wrap n=if 0≤n∧n≤4294967295 then n else uH .u32 n:=by
  split
  ·exact IntWalk.u32_in _ (by omega)
  ·rfl
theorem uI (n:Int):IntKind.u8.wrap n=if 0≤n∧n≤255 then n else uH .u8 n:=by
  split
  ·exact IntWalk.u8_in _ (by omega)
  ·rfl
theorem Yb (s:Nat) (l:List UInt32):V.flat (.w (.c (.fr s (l.map wD))))=true:=by
  simp only[V.flat,W.flat,C.flat,List.all_map,YB]; intro x _; rfl
theorem eU (s:Nat) (l:List UInt8):V.flat (.w (.c (.fr s (l.map bD))))=true:=by
  simp only[V.flat,W.flat,C.flat,List.all_map,YB]; intro x _; rfl
theorem CZ (sz:Nat):ep sz []=true:=rfl
theorem Cf (sz:Nat) (e:D) (es:List D):ep sz (e::es)=(e.cells.length==sz&&ep sz es):=rfl
theorem C0 (a:ByteArray):l7 .eql a a=some (.bool true):=by simp[l7]
theorem M2 {α:Type} (a:α):List.replicate 1 a=[a]:=rfl
theorem M3 {α:Type} (a:α):List.replicate 2 a=[a,a]:=rfl
theorem M4 {α:Type} (a:α):List.replicate 3 a=[a,a,a]:=rfl
theorem M5 {α:Type} (a:α):List.replicate 4 a=[a,a,a,a]:=rfl
theorem M6 {α:Type} (a:α):List.replicate 5 a=[a,a,a,a,a]:=rfl
theorem M7 {α:Type} (a:α):List.replicate 6 a=[a,a,a,a,a,a]:=rfl
def Yc:=@jP
def zd:Option D→Bool | some e=>e.one | none=>false
theorem BK (e:D):zd (some e)=e.one:=rfl
theorem LS (es:List D) (i s:Nat) (x:D):jP .sc (.c (.d x)) i 0 (.row s es)=bif zd es[i]?&&x.one then some (.row s (es.set i x)) else Yc .sc (.c (.d x)) i 0 (.row s es):=by
  cases hc:(zd es[i]?&&x.one) with
  | false=>rfl
  | true =>
    rw[YS] at hc;obtain⟨h1,h2⟩:=hc;cases he:es[i]? with
    | none=>rw[he] at h1; cases h1
    | some e =>
      rw[he] at h1;simp only[jP,he,gm,cond_true];cases e <;> first | (cases h1; done) | simp[h2]
theorem yk (k:IntKind) (n:Int):D.one (.int k n)=true:=rfl
theorem E8 (b:Bool):D.one (.bool b)=true:=rfl
theorem Hn (b:ByteArray):D.one (.str b)=true:=rfl
theorem J0 (es:List D):D.one (.sl es)=true:=rfl
theorem dP (x:UInt8):D.one (bD x)=true:=rfl
theorem uJ (x:UInt32):D.one (wD x)=true:=rfl
theorem M8 (x:UInt32):cz (.c (.d (wD x)))=[.d (wD x)]:=rfl
theorem M9 (x:UInt8):cz (.c (.d (bD x)))=[.d (bD x)]:=rfl
theorem J1 (k:IntKind) (n:Int):cz (.c (.d (.int k n)))=[.d (.int k n)]:=rfl
theorem Ho (b:Bool):cz (.c (.d (.bool b)))=[.d (.bool b)]:=rfl
theorem J2 (b:ByteArray):cz (.c (.d (.str b)))=[.d (.str b)]:=rfl
theorem LU (es:List D):cz (.c (.d (.sl es)))=[.d (.sl es)]:=rfl
theorem J3 (cs:List D):cz (.c (.d (.agg cs)))=cs.map C.d:=rfl
theorem J4:cz (.c .nil)=[.nil]:=rfl
theorem J5 (id sz off n:Nat):cz (.c (.own id sz off n))=[.own id sz off n]:=rfl
theorem J6 (id sz i o:Nat):cz (.c (.ptr id sz i o))=[.ptr id sz i o]:=rfl
theorem LW (id sz:Nat):cz (.c (.pa id sz))=[.pa id sz]:=rfl
theorem J7 (cs:List C):cz (.mix cs)=cs:=rfl
theorem oC {σ:St} {p:Nat×Option Kd} {x:D} (h:cv σ p=some (.c (.d x))):dH σ [p] (.w (.c (.d x))) :=
  ⟨[.c (.d x)],by simp[aT,h],.inl ⟨by simp[W.ids,C.ids],rfl⟩⟩
theorem en {σ:St} {p:Nat×Option Kd} {id sz n s:Nat} {es:List D} (h:cv σ p=some (.c (.own id sz 0 n))) (e:σ.h id=some (.row s es)) (hn:n=es.length):dH σ [p] (.w (.c (.fr sz es))):=by
  refine⟨[.c (.own id sz 0 n)],by simp[aT,h],.inl ⟨by simp[W.ids,C.ids],rfl,rfl,?_⟩⟩;subst hn;rw[e];exact⟨by simp[dQ],trivial⟩
theorem E9 {σ:St} {p:Nat×Option Kd} {id sz n s:Nat} {full:List D} (h:cv σ p=some (.c (.own id sz 0 n))) (e:σ.h id=some (.row s full)) (hn:n≤full.length):dH σ [p] (.w (.c (.fr sz (full.take n)))):=by
  refine⟨[.c (.own id sz 0 n)],by simp[aT,h],.inl ⟨by simp[W.ids,C.ids],rfl,rfl,?_⟩⟩;rw[e];exact⟨by simp[dQ,hn],trivial⟩
theorem qh {σ:St} {p:Nat×Option Kd} {sz:Nat} (h:cv σ p=some (.c .nil)):dH σ [p] (.w (.c (.fr sz []))) :=
  ⟨[.c .nil],by simp[aT,h],.inl ⟨by simp[W.ids,C.ids],rfl⟩⟩
theorem oc {σ:St} {p:Nat×Option Kd} {x:D} (h1:(cv σ p).bind (toW σ.h)=some x):dH σ [p] (.w (.c (.d x))):=by
  obtain⟨w1,a1,b1⟩:=Y5.1 h1;exact⟨[w1],by simp[aT,a1],.inr b1⟩
theorem cM {σ:St} {p q:Nat×Option Kd} {x y:D} (h1:(cv σ p).bind (toW σ.h)=some x) (h2:(cv σ q).bind (toW σ.h)=some y):dH σ [p,q] (.tup [.c (.d x),.c (.d y)]):=by
  obtain⟨w1,a1,b1⟩:=Y5.1 h1;obtain⟨w2,a2,b2⟩:=Y5.1 h2;exact⟨[w1,w2],by simp[aT,a1,a2],.inr (.cons ⟨x,rfl,b1⟩ (.cons ⟨y,rfl,b2⟩ .nil))⟩
theorem fq {σ:St} {p q r:Nat×Option Kd} {x y z:D} (h1:(cv σ p).bind (toW σ.h)=some x) (h2:(cv σ q).bind (toW σ.h)=some y) (h3:(cv σ r).bind (toW σ.h)=some z):dH σ [p,q,r] (.tup [.c (.d x),.c (.d y),.c (.d z)]):=by
  obtain⟨w1,a1,b1⟩:=Y5.1 h1;obtain⟨w2,a2,b2⟩:=Y5.1 h2;obtain⟨w3,a3,b3⟩:=Y5.1 h3;exact⟨[w1,w2,w3],by simp[aT,a1,a2,a3],.inr (.cons ⟨x,rfl,b1⟩ (.cons ⟨y,rfl,b2⟩ (.cons ⟨z,rfl,b3⟩ .nil)))⟩
theorem O7 {σ:St} {p q:Nat×Option Kd} {id sz n s:Nat} {es:List D} {y:D} (h1:cv σ p=some (.c (.own id sz 0 n))) (e:σ.h id=some (.row s es)) (hn:n=es.length) (h2:cv σ q=some (.c (.d y))):dH σ [p,q] (.tup [.c (.fr sz es),.c (.d y)]):=by
  refine⟨[.c (.own id sz 0 n),.c (.d y)],by simp[aT,h1,h2],.inl ⟨by simp[W.ids,C.ids],.cons ⟨rfl,rfl,?_⟩ (.cons ?_ .nil)⟩⟩
  ·subst hn;rw[e];exact⟨by simp[dQ],trivial⟩
  ·cases y <;> rfl
theorem O8 {σ:St} {p q:Nat×Option Kd} {sz:Nat} {y:D} (h1:cv σ p=some (.c .nil)) (h2:cv σ q=some (.c (.d y))):dH σ [p,q] (.tup [.c (.fr sz []),.c (.d y)]):=by
  refine⟨[.c .nil,.c (.d y)],by simp[aT,h1,h2],.inl ⟨by simp[W.ids,C.ids],.cons rfl (.cons ?_ .nil)⟩⟩;cases y <;> rfl
def jH (h:aA) (sz:Nat):W→Option (List D)
  | .c (.own id sz' off n)=>match h id with
    | some (.row _ es)=>if off=0∧n=es.length∧sz'=sz then some es else none
    | _=>none
  | .c .nil=>some []
  | _=>none
theorem Fa (h:aA) (sz id sz' off n:Nat):jH h sz (.c (.own id sz' off n))=(match h id with
    | some (.row _ es)=>if off=0∧n=es.length∧sz'=sz then some es else none
    | _=>none):=rfl
theorem Fb (h:aA) (sz:Nat):jH h sz (.c .nil)=some []:=rfl
theorem tX {σ:St} {p:Nat×Option Kd} {sz:Nat} {es:List D} (h1:(cv σ p).bind (jH σ.h sz)=some es):dH σ [p] (.w (.c (.fr sz es))):=by
  obtain⟨w,a,b⟩:=Y5.1 h1;unfold jH at b;split at b
  ·split at b
   ·rename_i e;split at b
    ·rename_i hc;obtain⟨rfl,rfl,rfl⟩:=hc;obtain rfl:=Option.some.inj b;exact en a e rfl
    ·cases b
   ·cases b
  ·obtain rfl:=Option.some.inj b;exact qh a
  ·cases b
theorem tY {σ:St} {p q:Nat×Option Kd} {sz:Nat} {es:List D} {y:D} (h1:(cv σ p).bind (jH σ.h sz)=some es) (h2:cv σ q=some (.c (.d y))):dH σ [p,q] (.tup [.c (.fr sz es),.c (.d y)]):=by
  obtain⟨w,a,b⟩:=Y5.1 h1;unfold jH at b;split at b
  ·split at b
   ·rename_i e;split at b
    ·rename_i hc;obtain⟨rfl,rfl,rfl⟩:=hc;obtain rfl:=Option.some.inj b;exact O7 a e rfl h2
    ·cases b
   ·cases b
  ·obtain rfl:=Option.some.inj b;exact O8 a h2
  ·cases b
end Go.Proofs.YtofonnokanoflaaGreat
