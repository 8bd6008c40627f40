/- Texts of one's own, merged: from: The plain logic (19): loops; states by lists; bytes and words as data. Own work. -/
import Derived.IntWalk
import Derived.Test.YtlghfnidknfakaaGreatDoorMg35
set_option linter.unusedVariables false
set_option linter.unusedSimpArgs false
namespace Go.Proofs.YtlghfnidknfakaaGreatDoor
open Go.RowKit IntWalk
def aV:List (Nat×V)→Nat→V
  | []=>uf
  | (i,v)::r=>upd (aV r) i v
def hL:List (Nat×Ob)→aw
  | []=>hN
  | (i,o)::r=>upd (hL r) i (some o)
def uL:List Nat→Nat→Bool
  | []=>uN
  | i::r=>upd (uL r) i true
theorem FK:aV []=uf:=rfl
theorem qT (i:Nat) (v:V) (r:List (Nat×V)):aV ((i,v)::r)=upd (aV r) i v:=rfl
theorem H0:hL []=hN:=rfl
theorem wn (i:Nat) (o:Ob) (r:List (Nat×Ob)):hL ((i,o)::r)=upd (hL r) i (some o):=rfl
theorem H1:uL []=uN:=rfl
theorem wq (i:Nat) (r:List Nat):uL (i::r)=upd (uL r) i true:=rfl
theorem H2 {i:Nat}:∀ {l:List Nat},i∈l→uL l i=true
  | j::r,h=>by
    rw[wq];by_cases e:i=j
    ·rw[e]; exact upd_same _ _ _
    ·rw[upd_ne _ _ e];exact H2 (by simpa [e] using h)
theorem xo {f:Nat→V} {g:Nat→Nat}:∀ {l:List (Nat×V)},(∀ p∈l,f p.1=p.2.ren g)→∀ t,aV l t=.undef∨f t=(aV l t).ren g
  | [],_,_=>.inl rfl
  | (i,v)::r,h,t=>by
    rw[qT];by_cases e:t=i
    ·rw[e,upd_same]; exact .inr (h (i,v) (by simp))
    ·rw[upd_ne _ _ e];exact xo (fun p hp=>h p (by simp[hp])) t
theorem mR {i:Nat} {o:Ob}:∀ {l:List (Nat×Ob)},hL l i=some o→(i,o)∈l
  | [],h=>by cases h
  | (j,q)::r,h=>by
    rw[wn] at h;by_cases e:i=j
    ·rw[e,upd_same] at h;cases h;rw[e]; simp
    ·rw[upd_ne _ _ e] at h;exact Wg _ (mR h)
theorem FL {l:List (Nat×V)} {i t:Nat} (h:i∈(aV l t).ids):i∈l.flatMap fun p=>p.2.ids:=by
  induction l with
  | nil=>cases h
  | cons p r ih =>
    obtain⟨j,v⟩:=p;rw[qT] at h;rw[Wa,V8];by_cases e:t=j
    ·rw[e,upd_same] at h; exact .inl h
    ·rw[upd_ne _ _ e] at h; exact .inr (ih h)
def kj (f:Nat→V) (g:Nat→Nat):List (Nat×V)→Prop
  | []=>True
  | (i,v)::r=>f i=v.ren g∧kj f g r
def od (h:aw) (g:Nat→Nat):List (Nat×Ob)→Prop
  | []=>True
  | (i,o)::r=>h (g i)=some (o.ren g)∧od h g r
def sS:List Nat→Bool
  | []=>true
  | i::r=>!r.contains i&&sS r
theorem FM (f:Nat→V) (g:Nat→Nat):kj f g []=True:=rfl
theorem Dc (f:Nat→V) (g:Nat→Nat) (i:Nat) (v:V) (r:List (Nat×V)):kj f g ((i,v)::r)=(f i=v.ren g∧kj f g r):=rfl
theorem FN (h:aw) (g:Nat→Nat):od h g []=True:=rfl
theorem Dd (h:aw) (g:Nat→Nat) (i:Nat) (o:Ob) (r:List (Nat×Ob)):od h g ((i,o)::r)=(h (g i)=some (o.ren g)∧od h g r):=rfl
theorem wu {f:Nat→V} {g:Nat→Nat}:∀ {l:List (Nat×V)},kj f g l→∀ p∈l,f p.1=p.2.ren g
  | (i,v)::r,h,p,hp=>by
    rcases V6.1 hp with rfl | hp
    ·exact h.1
    ·exact wu h.2 p hp
theorem FO {f:aw} {g:Nat→Nat}:∀ {l:List (Nat×Ob)},od f g l→∀ p∈l,f (g p.1)=some (p.2.ren g)
  | (i,v)::r,h,p,hp=>by
    rcases V6.1 hp with rfl | hp
    ·exact h.1
    ·exact FO h.2 p hp
theorem De:∀ {l:List Nat},sS l=true→l.Nodup
  | [],_=>.nil
  | i::r,h=>by
    simp only[sS,Wh,XN] at h;refine List.nodup_cons.2 ⟨fun hi=>?_,De h.2⟩;have:=List.contains_iff_mem.2 hi;rw[h.1] at this;cases this
theorem aB {σ:St} (g:Nat→Nat) {fl:List (Nat×V)} {hl:List (Nat×Ob)} {ul:List Nat} (h1':kj σ.f g fl) (h2':od σ.h g hl)
    (h3':sS (hl.map fun p=>g p.1)=true) (h4:((fl.flatMap fun p=>p.2.ids)++(hl.flatMap fun p=>p.1::p.2.ids)).all (fun i=>ul.contains i)=true):dK σ ⟨aV fl,hL hl,uL ul⟩:=by
  have h1:=wu h1';have h2:=FO h2';have h3:=De h3';have used:∀ i,i∈(fl.flatMap fun p=>p.2.ids)++(hl.flatMap fun p=>p.1::p.2.ids)→uL ul i=true:=by
    intro i hi;rw[Wd] at h4;exact H2 (by simpa using h4 i hi)
  refine⟨⟨g,xo h1,fun i o ho=>h2 (i,o) (mR ho),fun i j hi hj e=>?_⟩,fun t i hi=>used i (Ww _ (FL hi)),fun i o ho=>⟨used i ?_,fun j hj=>used j ?_⟩⟩
  ·obtain⟨o,ho⟩:=We.1 hi;obtain⟨q,hq⟩:=We.1 hj;have m1:=mR ho;have m2:=mR hq;have key:∀ {l:List (Nat×Ob)},(l.map fun p=>g p.1).Nodup→∀ {x y:Nat×Ob},x∈l→y∈l→g x.1=g y.1→x=y:=by
     intro l
     induction l with
     | nil=>intro _ x y hx; cases hx
     | cons p r ih =>
       intro hn x y hx hy e;rw[VX,List.nodup_cons] at hn;rcases V6.1 hx with rfl | hx' <;> rcases V6.1 hy with rfl | hy'
       ·rfl
       ·exact (hn.1 (Wm.2 ⟨y,hy',e.symm⟩)).elim
       ·exact (hn.1 (Wm.2 ⟨x,hx',e⟩)).elim
       ·exact ih hn.2 hx' hy' e
   exact congrArg Prod.fst (key h3 m1 m2 e)
  ·exact Wb _ (V4.2 ⟨_,mR ho,by simp⟩)
  ·exact Wb _ (V4.2 ⟨_,mR ho,by simp[hj]⟩)
section
variable {P:Program} {G:ai}
def pY {α:Type} (st:α→St) (μ:α→Nat) (ok:α→Prop) (a:α) (Q:AX→St→Prop) (e:AX) (s:St):Prop :=
  match e with | .nrm=>∃ b,μ b<μ a∧ok b∧dK s (st b) | e=>Q e s
theorem FP {α:Type} (st:α→St) (μ:α→Nat) (ok:α→Prop) (a:α) (Q:AX→St→Prop) (i:Nat) (s:St):pY st μ ok a Q (.ex i) s=Q (.ex i) s:=rfl
theorem Df {α:Type} (st:α→St) (μ:α→Nat) (ok:α→Prop) (a:α) (Q:AX→St→Prop) (s:St):pY st μ ok a Q .ret s=Q .ret s:=rfl
theorem aX {α:Type} {st:α→St} {μ:α→Nat} {ok:α→Prop} {a:α} {Q:AX→St→Prop} {s:St} (b:α) (h1:μ b<μ a) (h2:ok b) (h3:dK s (st b)):pY st μ ok a Q .nrm s:=⟨b,h1,h2,h3⟩
theorem bd {α:Type} {c:aN} {Q:AX→St→Prop} {σ:St} (st:α→St) (μ:α→Nat) (ok:α→Prop) (a0:α) (h0:ok a0) (he:dK σ (st a0)) (round:∀ a,ok a→bz P G c (pY st μ ok a Q) (st a)):bz P G (.loop c) Q σ:=by
  refine⟨fun n s=>∃ a,μ a=n∧ok a∧s=st a,⟨μ a0,st a0,he,a0,rfl,h0,rfl⟩,?_⟩;rintro n s ⟨a,rfl,ha,rfl⟩;have key:(pY st μ ok a Q)=(fun e s'=>match e with | .nrm=>∃ n' τ,n'<μ a∧dK s' τ∧∃ a,μ a=n'∧ok a∧τ=st a | e=>Q e s'):=by
    funext e s'
    cases e with
    | nrm =>
      refine propext ⟨?_,?_⟩
      ·rintro⟨b,h1,h2,h3⟩;exact⟨μ b,st b,h1,h3,b,rfl,h2,rfl⟩
      ·rintro⟨n',τ,h1,h2,b,rfl,h3,rfl⟩;exact⟨b,h1,h3,h2⟩
    | ex i=>rfl
    | ret=>rfl
  have:=round a ha;rw[key] at this;exact this
end
theorem lF {P:Program} {G:ai} {F:FuncId} {args:List D} {sz:Nat} {es:List D} (h:au P G F args (.w (.c (.fr sz es)))):au P G F args (.w (.c (.d (.sl es)))):=by
  intro w S vs h1 h2 h3;refine (h w S vs h1 h2 h3).mono ?_;rintro e w' ⟨v,S',bl,rfl,k1,k2,k3,k4⟩;have hfresh:∀ b∈bl,w.heap.size≤b∧b<w'.heap.size:=by
    intro b hb;rcases k4 with ⟨_,_,rfl⟩ | ⟨b',cap,ty,N,rfl,_,_,_,q1,_,q2⟩
    ·cases hb
    ·simp only[VU] at hb;subst hb;obtain⟨f1,_,cur,ty',fz,f3,_⟩:=q2;exact⟨f1,(V7.1 f3).1⟩
  refine⟨v,fun b i=>S' b i∨b∈bl,[],rfl,k1,fun b i hs=>?_,.nil,?_⟩
  ·rcases hs with hs | hs
   ·exact k2 b i hs
   ·exact⟨.inr (hfresh b hs).1,(hfresh b hs).2⟩
  ·have:=pJ (m:=fun _=>none) (x:=.c (.fr sz es)) k4 (T:=fun b i=>S' b i∨b∈bl) (fun _ _ h=>.inl h) (fun b hb _=>.inr hb);exact⟨this.1,rfl⟩
theorem Sc {S S':ak} {w:World} {B:Nat} {v:Value} {y:D} {bl:List Nat} (h:eX S w B v (.c (.d y)) bl) (hS:∀ b i,S b i→S' b i):eX S' w B v (.c (.d y)) []∧bl=[]:=by
  cases y with
  | agg cs =>
    obtain⟨⟨us,h1,h2⟩,h3⟩:=h;exact⟨⟨⟨us,h1,h2.weak fun _ _ _ _ h=>h.mono hS⟩,rfl⟩,h3⟩
  | _ =>
    obtain⟨h1,h2⟩:=h;exact⟨⟨h1.mono hS,rfl⟩,h2⟩
theorem pf {P:Program} {G:ai} {F:FuncId} {args:List D} {sz:Nat} {es:List D} {y:D} (h:au P G F args (.tup [.c (.fr sz es),.c (.d y)])):au P G F args (.tup [.c (.d (.sl es)),.c (.d y)]):=by
  intro w S vs h1 h2 h3;refine (h w S vs h1 h2 h3).mono ?_;rintro e w' ⟨v,S',bl,rfl,k1,k2,k3,us,rfl,k4⟩;cases k4 with
  | @cons v1 c1 b1 vs1 cs1 b2 q1 q2 =>
  cases q2 with
  | @cons v2 c2 b3 vs2 cs2 b4 q3 q4 =>
  cases q4;have hfresh:∀ b∈b1,w.heap.size≤b∧b<w'.heap.size:=by
    intro b hb;rcases q1 with ⟨_,_,rfl⟩ | ⟨b',cap,ty,N,rfl,_,_,_,q1,_,q2⟩
    ·cases hb
    ·simp only[VU] at hb;subst hb;obtain⟨f1,_,cur,ty',fz,f3,_⟩:=q2;exact⟨f1,(V7.1 f3).1⟩
  refine⟨_,fun b i=>S' b i∨b∈b1,[],rfl,k1,fun b i hs=>?_,.nil,_,rfl,?_⟩
  ·rcases hs with hs | hs
   ·exact k2 b i hs
   ·exact⟨.inr (hfresh b hs).1,(hfresh b hs).2⟩
  ·have hx:=pJ (m:=fun _=>none) (x:=.c (.fr sz es)) q1 (T:=fun b i=>S' b i∨b∈b1) (fun _ _ h=>.inl h) (fun b hb _=>.inr hb);exact .cons (b1:=[]) (b2:=[]) ⟨hx.1,rfl⟩ (.cons (b1:=[]) (b2:=[]) (Sc q3 fun _ _ h=>.inl h).1 .nil)
abbrev bs (l:List UInt8):D:=.sl (l.map bD)
def wD (x:UInt32):D:=.int .u32 (x.toNat:Int)
theorem JY (x:UInt8):dA (.w (.c (.d (bD x))))=some (.u8,(x.toNat:Int)):=rfl
theorem JZ (x:UInt32):dA (.w (.c (.d (wD x))))=some (.u32,(x.toNat:Int)):=rfl
theorem FQ (op:BinOp) (x:UInt8) (k:IntKind) (n:Int):bF op (.w (.c (.d (bD x)))) (.w (.c (.d (.int k n))))=bF op (.w (.c (.d (.int .u8 (x.toNat:Int))))) (.w (.c (.d (.int k n)))):=rfl
theorem FR (op:BinOp) (x:UInt8) (k:IntKind) (n:Int):bF op (.w (.c (.d (.int k n)))) (.w (.c (.d (bD x))))=bF op (.w (.c (.d (.int k n)))) (.w (.c (.d (.int .u8 (x.toNat:Int))))):=rfl
theorem Dh (x y:UInt8):bF .lss (.w (.c (.d (bD x)))) (.w (.c (.d (bD y))))=bF .lss (.w (.c (.d (.int .u8 (x.toNat:Int))))) (.w (.c (.d (.int .u8 (y.toNat:Int))))):=rfl
theorem Di (x y:UInt8):bF .leq (.w (.c (.d (bD x)))) (.w (.c (.d (bD y))))=bF .leq (.w (.c (.d (.int .u8 (x.toNat:Int))))) (.w (.c (.d (.int .u8 (y.toNat:Int))))):=rfl
theorem Dj (x y:UInt8):bF .gtr (.w (.c (.d (bD x)))) (.w (.c (.d (bD y))))=bF .gtr (.w (.c (.d (.int .u8 (x.toNat:Int))))) (.w (.c (.d (.int .u8 (y.toNat:Int))))):=rfl
theorem Dk (x y:UInt8):bF .geq (.w (.c (.d (bD x)))) (.w (.c (.d (bD y))))=bF .geq (.w (.c (.d (.int .u8 (x.toNat:Int))))) (.w (.c (.d (.int .u8 (y.toNat:Int))))):=rfl
theorem Dl (x y:UInt8):bF .eql (.w (.c (.d (bD x)))) (.w (.c (.d (bD y))))=bF .eql (.w (.c (.d (.int .u8 (x.toNat:Int))))) (.w (.c (.d (.int .u8 (y.toNat:Int))))):=rfl
theorem Dm (x y:UInt8):bF .neq (.w (.c (.d (bD x)))) (.w (.c (.d (bD y))))=bF .neq (.w (.c (.d (.int .u8 (x.toNat:Int))))) (.w (.c (.d (.int .u8 (y.toNat:Int))))):=rfl
theorem Dn (x y:UInt8):bF .add (.w (.c (.d (bD x)))) (.w (.c (.d (bD y))))=bF .add (.w (.c (.d (.int .u8 (x.toNat:Int))))) (.w (.c (.d (.int .u8 (y.toNat:Int))))):=rfl
theorem Do (x y:UInt8):bF .sub (.w (.c (.d (bD x)))) (.w (.c (.d (bD y))))=bF .sub (.w (.c (.d (.int .u8 (x.toNat:Int))))) (.w (.c (.d (.int .u8 (y.toNat:Int))))):=rfl
theorem J0 (op:UnOp) (x:UInt8):ju op (.w (.c (.d (bD x))))=ju op (.w (.c (.d (.int .u8 (x.toNat:Int))))):=rfl
theorem Bc (k:IntKind) (n:Int):D.cells (.int k n)=[.int k n]:=rfl
theorem Ao (b:Bool):D.cells (.bool b)=[.bool b]:=rfl
theorem Be (b:ByteArray):D.cells (.str b)=[.str b]:=rfl
theorem Dp (es:List D):D.cells (.sl es)=[.sl es]:=rfl
theorem Bf (cs:List D):D.cells (.agg cs)=cs:=rfl
theorem Dq (x:UInt32):(wD x).cells=[wD x]:=rfl
theorem Dr (a:UInt8):dp 1 [bD a]=true:=rfl
theorem Ds (a b:UInt8):dp 1 [bD a,bD b]=true:=rfl
theorem Dt (x:UInt8):(bD x).cells=[bD x]:=rfl
theorem oK {α:Type} (f:α→D) (hf:∀ x,(f x).cells.length=1) (l:List α):dp 1 (l.map f)=true:=by
  unfold dp;rw[Wd];intro d hd;obtain⟨x,_,rfl⟩:=Wm.1 hd;simp[hf x]
theorem Du (l:List UInt8):dp 1 (l.map bD)=true:=oK bD (fun _=>rfl) l
theorem Dv (l:List UInt32):dp 1 (l.map wD)=true:=oK wD (fun _=>rfl) l
theorem qU:∀ l:List UInt8,kS (l.map bD)=some l
  | []=>rfl
  | x::l=>by
    have h:=x.toNat_lt;simp only[VX,kS,qU l,bD,zp];rw[if_pos (by omega)];simp
theorem fu {α β:Type} (f:α→β) (l:List α) (n:Nat):(l.map f).take n=(l.take n).map f:=List.map_take.symm
theorem jd {α β:Type} (f:α→β) (l:List α) (n:Nat):(l.map f).drop n=(l.drop n).map f:=List.map_drop.symm
theorem iM {α β:Type} (f:α→β) (l:List α):(l.map f).length=l.length:=VZ _
theorem jI {α β:Type} (f:α→β) (l m:List α):l.map f++m.map f=(l++m).map f:=Wu.symm
theorem aM {α β:Type} (f:α→β) (l:List α) (i:Nat):(l.map f)[i]?=(l[i]?).map f:=WM
theorem ww {α β:Type} (f:α→β) (l:List α) (i:Nat) (x:α):(l.map f).set i (f x)=(l.set i x).map f:=List.map_set.symm
theorem uT {α:Type} (f:α→D) (hf:∀ x,(f x).cells=[f x]):∀ l:List α,(l.map f).flatMap D.cells=l.map f
  | []=>rfl
  | x::l=>by rw[VX,Wa,hf x,uT f hf l]; rfl
theorem FS (l:List UInt32):(l.map wD).flatMap D.cells=l.map wD:=uT wD (fun _=>rfl) l
theorem ib (l:List UInt8):(l.map bD).flatMap D.cells=l.map bD:=uT bD (fun _=>rfl) l
def sT (k:IntKind) (n:Int):Int:=k.wrap n
theorem H3 (n:Int):IntKind.i64.wrap n=if -9223372036854775808≤n∧n≤9223372036854775807 then n else sT .i64 n:=by
  split
  ·exact IntWalk.i64_in _ ‹_›
  ·rfl
theorem H4 (n:Int):IntKind.u64.wrap n=if 0≤n∧n≤18446744073709551615 then n else sT .u64 n:=by
  split
  ·exact IntWalk.u64_in _ (by omega)
  ·rfl
theorem H5 (n:Int):IntKind.u32.wrap n=if 0≤n∧n≤4294967295 then n else sT .u32 n:=by
  split
  ·exact IntWalk.u32_in _ (by omega)
  ·rfl
theorem J1 (n:Int):IntKind.u8.wrap n=if 0≤n∧n≤255 then n else sT .u8 n:=by
  split
  ·exact IntWalk.u8_in _ (by omega)
  ·rfl
theorem VA (s:Nat) (l:List UInt32):V.flat (.w (.c (.fr s (l.map wD))))=true:=by
  simp only[V.flat,W.flat,C.flat,List.all_map,Wd]; intro x _; rfl
theorem tI (s:Nat) (l:List UInt8):V.flat (.w (.c (.fr s (l.map bD))))=true:=by
  simp only[V.flat,W.flat,C.flat,List.all_map,Wd]; intro x _; rfl
theorem Bg (sz:Nat):dp sz []=true:=rfl
theorem Ap (sz:Nat) (e:D) (es:List D):dp sz (e::es)=(e.cells.length==sz&&dp sz es):=rfl
theorem Bh (a:ByteArray):jn .eql a a=some (.bool true):=by simp[jn]
theorem KF {α:Type} (a:α):List.replicate 1 a=[a]:=rfl
theorem KG {α:Type} (a:α):List.replicate 2 a=[a,a]:=rfl
theorem KH {α:Type} (a:α):List.replicate 3 a=[a,a,a]:=rfl
theorem KI {α:Type} (a:α):List.replicate 4 a=[a,a,a,a]:=rfl
theorem KJ {α:Type} (a:α):List.replicate 5 a=[a,a,a,a,a]:=rfl
theorem KL {α:Type} (a:α):List.replicate 6 a=[a,a,a,a,a,a]:=rfl
def VB:=@i6
def xp:Option D→Bool | some e=>e.one | none=>false
theorem z5 (e:D):xp (some e)=e.one:=rfl
theorem J2 (es:List D) (i s:Nat) (x:D):i6 .sc (.c (.d x)) i 0 (.row s es)=bif xp es[i]?&&x.one then some (.row s (es.set i x)) else VB .sc (.c (.d x)) i 0 (.row s es):=by
  cases hc:(xp es[i]?&&x.one) with
  | false=>rfl
  | true =>
    rw[Wh] at hc;obtain⟨h1,h2⟩:=hc;cases he:es[i]? with
    | none=>rw[he] at h1; cases h1
    | some e =>
      rw[he] at h1;simp only[i6,he,fE,cond_true];cases e <;> first | (cases h1; done) | simp[h2]
theorem FT (k:IntKind) (n:Int):D.one (.int k n)=true:=rfl
theorem Dx (b:Bool):D.one (.bool b)=true:=rfl
theorem FU (b:ByteArray):D.one (.str b)=true:=rfl
theorem H6 (es:List D):D.one (.sl es)=true:=rfl
theorem fg (x:UInt8):D.one (bD x)=true:=rfl
theorem nC (x:UInt32):D.one (wD x)=true:=rfl
theorem KM (x:UInt32):ct (.c (.d (wD x)))=[.d (wD x)]:=rfl
theorem KN (x:UInt8):ct (.c (.d (bD x)))=[.d (bD x)]:=rfl
theorem H7 (k:IntKind) (n:Int):ct (.c (.d (.int k n)))=[.d (.int k n)]:=rfl
theorem FV (b:Bool):ct (.c (.d (.bool b)))=[.d (.bool b)]:=rfl
theorem H8 (b:ByteArray):ct (.c (.d (.str b)))=[.d (.str b)]:=rfl
theorem J3 (es:List D):ct (.c (.d (.sl es)))=[.d (.sl es)]:=rfl
theorem H9 (cs:List D):ct (.c (.d (.agg cs)))=cs.map C.d:=rfl
theorem Ia:ct (.c .nil)=[.nil]:=rfl
theorem Ib (id sz off n:Nat):ct (.c (.own id sz off n))=[.own id sz off n]:=rfl
theorem Ic (id sz i o:Nat):ct (.c (.ptr id sz i o))=[.ptr id sz i o]:=rfl
theorem J4 (id sz:Nat):ct (.c (.pa id sz))=[.pa id sz]:=rfl
theorem Ie (cs:List C):ct (.mix cs)=cs:=rfl
theorem jj {σ:St} {p:Nat×Option Kd} {x:D} (h:cV σ p=some (.c (.d x))):ei σ [p] (.w (.c (.d x))) :=
  ⟨[.c (.d x)],by simp[aT,h],.inl ⟨by simp[W.ids,C.ids],rfl⟩⟩
theorem eK {σ:St} {p:Nat×Option Kd} {id sz n s:Nat} {es:List D} (h:cV σ p=some (.c (.own id sz 0 n))) (e:σ.h id=some (.row s es)) (hn:n=es.length):ei σ [p] (.w (.c (.fr sz es))):=by
  refine⟨[.c (.own id sz 0 n)],by simp[aT,h],.inl ⟨by simp[W.ids,C.ids],rfl,rfl,?_⟩⟩;subst hn;rw[e];exact⟨by simp[cZ],trivial⟩
theorem Dy {σ:St} {p:Nat×Option Kd} {id sz n s:Nat} {full:List D} (h:cV σ p=some (.c (.own id sz 0 n))) (e:σ.h id=some (.row s full)) (hn:n≤full.length):ei σ [p] (.w (.c (.fr sz (full.take n)))):=by
  refine⟨[.c (.own id sz 0 n)],by simp[aT,h],.inl ⟨by simp[W.ids,C.ids],rfl,rfl,?_⟩⟩;rw[e];exact⟨by simp[cZ,hn],trivial⟩
theorem pg {σ:St} {p:Nat×Option Kd} {sz:Nat} (h:cV σ p=some (.c .nil)):ei σ [p] (.w (.c (.fr sz []))) :=
  ⟨[.c .nil],by simp[aT,h],.inl ⟨by simp[W.ids,C.ids],rfl⟩⟩
theorem lG {σ:St} {p:Nat×Option Kd} {x:D} (h1:(cV σ p).bind (toW σ.h)=some x):ei σ [p] (.w (.c (.d x))):=by
  obtain⟨w1,a1,b1⟩:=WR.1 h1;exact⟨[w1],by simp[aT,a1],.inr b1⟩
theorem iR {σ:St} {p q:Nat×Option Kd} {x y:D} (h1:(cV σ p).bind (toW σ.h)=some x) (h2:(cV σ q).bind (toW σ.h)=some y):ei σ [p,q] (.tup [.c (.d x),.c (.d y)]):=by
  obtain⟨w1,a1,b1⟩:=WR.1 h1;obtain⟨w2,a2,b2⟩:=WR.1 h2;exact⟨[w1,w2],by simp[aT,a1,a2],.inr (.cons ⟨x,rfl,b1⟩ (.cons ⟨y,rfl,b2⟩ .nil))⟩
theorem MH {σ:St} {p q:Nat×Option Kd} {id sz n s:Nat} {es:List D} {y:D} (h1:cV σ p=some (.c (.own id sz 0 n))) (e:σ.h id=some (.row s es)) (hn:n=es.length) (h2:cV σ q=some (.c (.d y))):ei σ [p,q] (.tup [.c (.fr sz es),.c (.d y)]):=by
  refine⟨[.c (.own id sz 0 n),.c (.d y)],by simp[aT,h1,h2],.inl ⟨by simp[W.ids,C.ids],.cons ⟨rfl,rfl,?_⟩ (.cons ?_ .nil)⟩⟩
  ·subst hn;rw[e];exact⟨by simp[cZ],trivial⟩
  ·cases y <;> rfl
theorem MI {σ:St} {p q:Nat×Option Kd} {sz:Nat} {y:D} (h1:cV σ p=some (.c .nil)) (h2:cV σ q=some (.c (.d y))):ei σ [p,q] (.tup [.c (.fr sz []),.c (.d y)]):=by
  refine⟨[.c .nil,.c (.d y)],by simp[aT,h1,h2],.inl ⟨by simp[W.ids,C.ids],.cons rfl (.cons ?_ .nil)⟩⟩;cases y <;> rfl
def jp (h:aw) (sz:Nat):W→Option (List D)
  | .c (.own id sz' off n)=>match h id with
    | some (.row _ es)=>if off=0∧n=es.length∧sz'=sz then some es else none
    | _=>none
  | .c .nil=>some []
  | _=>none
theorem Dz (h:aw) (sz id sz' off n:Nat):jp h sz (.c (.own id sz' off n))=(match h id with
    | some (.row _ es)=>if off=0∧n=es.length∧sz'=sz then some es else none
    | _=>none):=rfl
theorem DC (h:aw) (sz:Nat):jp h sz (.c .nil)=some []:=rfl
theorem Ig {σ:St} {p:Nat×Option Kd} {sz:Nat} {es:List D} (h1:(cV σ p).bind (jp σ.h sz)=some es):ei σ [p] (.w (.c (.fr sz es))):=by
  obtain⟨w,a,b⟩:=WR.1 h1;unfold jp at b;split at b
  ·split at b
   ·rename_i e;split at b
    ·rename_i hc;obtain⟨rfl,rfl,rfl⟩:=hc;obtain rfl:=Option.some.inj b;exact eK a e rfl
    ·cases b
   ·cases b
  ·obtain rfl:=Option.some.inj b;exact pg a
  ·cases b
theorem xq {σ:St} {p q:Nat×Option Kd} {sz:Nat} {es:List D} {y:D} (h1:(cV σ p).bind (jp σ.h sz)=some es) (h2:cV σ q=some (.c (.d y))):ei σ [p,q] (.tup [.c (.fr sz es),.c (.d y)]):=by
  obtain⟨w,a,b⟩:=WR.1 h1;unfold jp at b;split at b
  ·split at b
   ·rename_i e;split at b
    ·rename_i hc;obtain⟨rfl,rfl,rfl⟩:=hc;obtain rfl:=Option.some.inj b;exact MH a e rfl h2
    ·cases b
   ·cases b
  ·obtain rfl:=Option.some.inj b;exact MI a h2
  ·cases b
end Go.Proofs.YtlghfnidknfakaaGreatDoor
