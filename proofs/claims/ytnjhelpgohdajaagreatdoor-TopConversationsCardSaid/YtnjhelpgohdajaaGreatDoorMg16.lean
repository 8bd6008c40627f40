/- Texts of one's own, merged: from: The plain logic (19): loops; states by lists; bytes and words as data. Own work. -/
import Derived.IntWalk
import Derived.Test.YtnjhelpgohdajaaGreatDoorMg15
set_option linter.unusedVariables false
set_option linter.unusedSimpArgs false
namespace Go.Proofs.YtnjhelpgohdajaaGreatDoor
open Go.RowKit IntWalk
def bw:List (Nat×V)→Nat→V
  | []=>uf
  | (i,v)::r=>upd (bw r) i v
def hL:List (Nat×Ob)→aI
  | []=>hN
  | (i,o)::r=>upd (hL r) i (some o)
def uL:List Nat→Nat→Bool
  | []=>uN
  | i::r=>upd (uL r) i true
theorem adr:bw []=uf:=rfl
theorem Ge (i:Nat) (v:V) (r:List (Nat×V)):bw ((i,v)::r)=upd (bw r) i v:=rfl
theorem aiy:hL []=hN:=rfl
theorem vm (i:Nat) (o:Ob) (r:List (Nat×Ob)):hL ((i,o)::r)=upd (hL r) i (some o):=rfl
theorem aiz:uL []=uN:=rfl
theorem G8 (i:Nat) (r:List Nat):uL (i::r)=upd (uL r) i true:=rfl
theorem RE {i:Nat}:∀ {l:List Nat},i∈l→uL l i=true
  | j::r,h=>by
    rw[G8];by_cases e:i=j
    ·rw[e]; exact upd_same _ _ _
    ·rw[upd_ne _ _ e];exact RE (by simpa [e] using h)
theorem Ip {f:Nat→V} {g:Nat→Nat}:∀ {l:List (Nat×V)},(∀ p∈l,f p.1=p.2.ren g)→∀ t,bw l t=.undef∨f t=(bw l t).ren g
  | [],_,_=>.inl rfl
  | (i,v)::r,h,t=>by
    rw[Ge];by_cases e:t=i
    ·rw[e,upd_same]; exact .inr (h (i,v) (by simp))
    ·rw[upd_ne _ _ e];exact Ip (fun p hp=>h p (by simp[hp])) t
theorem lh {i:Nat} {o:Ob}:∀ {l:List (Nat×Ob)},hL l i=some o→(i,o)∈l
  | [],h=>by cases h
  | (j,q)::r,h=>by
    rw[vm] at h;by_cases e:i=j
    ·rw[e,upd_same] at h;cases h;rw[e]; simp
    ·rw[upd_ne _ _ e] at h;exact aqf _ (lh h)
theorem PK {l:List (Nat×V)} {i t:Nat} (h:i∈(bw l t).ids):i∈l.flatMap fun p=>p.2.ids:=by
  induction l with
  | nil=>cases h
  | cons p r ih =>
    obtain⟨j,v⟩:=p;rw[Ge] at h;rw[aqb,aqg];by_cases e:t=j
    ·rw[e,upd_same] at h; exact .inl h
    ·rw[upd_ne _ _ e] at h; exact .inr (ih h)
def rm (f:Nat→V) (g:Nat→Nat):List (Nat×V)→Prop
  | []=>True
  | (i,v)::r=>f i=v.ren g∧rm f g r
def kQ (h:aI) (g:Nat→Nat):List (Nat×Ob)→Prop
  | []=>True
  | (i,o)::r=>h (g i)=some (o.ren g)∧kQ h g r
def zd:List Nat→Bool
  | []=>true
  | i::r=>!r.contains i&&zd r
theorem ads (f:Nat→V) (g:Nat→Nat):rm f g []=True:=rfl
theorem aaf (f:Nat→V) (g:Nat→Nat) (i:Nat) (v:V) (r:List (Nat×V)):rm f g ((i,v)::r)=(f i=v.ren g∧rm f g r):=rfl
theorem adt (h:aI) (g:Nat→Nat):kQ h g []=True:=rfl
theorem aag (h:aI) (g:Nat→Nat) (i:Nat) (o:Ob) (r:List (Nat×Ob)):kQ h g ((i,o)::r)=(h (g i)=some (o.ren g)∧kQ h g r):=rfl
theorem G9 {f:Nat→V} {g:Nat→Nat}:∀ {l:List (Nat×V)},rm f g l→∀ p∈l,f p.1=p.2.ren g
  | (i,v)::r,h,p,hp=>by
    rcases aqh.1 hp with rfl | hp
    ·exact h.1
    ·exact G9 h.2 p hp
theorem Bt {f:aI} {g:Nat→Nat}:∀ {l:List (Nat×Ob)},kQ f g l→∀ p∈l,f (g p.1)=some (p.2.ren g)
  | (i,v)::r,h,p,hp=>by
    rcases aqh.1 hp with rfl | hp
    ·exact h.1
    ·exact Bt h.2 p hp
theorem Gf:∀ {l:List Nat},zd l=true→l.Nodup
  | [],_=>.nil
  | i::r,h=>by
    simp only[zd,aqm,Bool.not_eq_true'] at h;refine arB.2 ⟨fun hi=>?_,Gf h.2⟩;have:=List.contains_iff_mem.2 hi;rw[h.1] at this;cases this
theorem aR {σ:St} (g:Nat→Nat) {fl:List (Nat×V)} {hl:List (Nat×Ob)} {ul:List Nat} (h1':rm σ.f g fl) (h2':kQ σ.h g hl)
    (h3':zd (hl.map fun p=>g p.1)=true) (h4:((fl.flatMap fun p=>p.2.ids)++(hl.flatMap fun p=>p.1::p.2.ids)).all (fun i=>ul.contains i)=true):fv σ ⟨bw fl,hL hl,uL ul⟩:=by
  have h1:=G9 h1';have h2:=Bt h2';have h3:=Gf h3';have used:∀ i,i∈(fl.flatMap fun p=>p.2.ids)++(hl.flatMap fun p=>p.1::p.2.ids)→uL ul i=true:=by
    intro i hi;rw[ap9] at h4;exact RE (by simpa using h4 i hi)
  refine⟨⟨g,Ip h1,fun i o ho=>h2 (i,o) (lh ho),fun i j hi hj e=>?_⟩,fun t i hi=>used i (aqL _ (PK hi)),fun i o ho=>⟨used i ?_,fun j hj=>used j ?_⟩⟩
  ·obtain⟨o,ho⟩:=aqe.1 hi;obtain⟨q,hq⟩:=aqe.1 hj;have m1:=lh ho;have m2:=lh hq;have key:∀ {l:List (Nat×Ob)},(l.map fun p=>g p.1).Nodup→∀ {x y:Nat×Ob},x∈l→y∈l→g x.1=g y.1→x=y:=by
     intro l
     induction l with
     | nil=>intro _ x y hx; cases hx
     | cons p r ih =>
       intro hn x y hx hy e;rw[apW,arB] at hn;rcases aqh.1 hx with rfl | hx' <;> rcases aqh.1 hy with rfl | hy'
       ·rfl
       ·exact (hn.1 (aqa.2 ⟨y,hy',e.symm⟩)).elim
       ·exact (hn.1 (aqa.2 ⟨x,hx',e⟩)).elim
       ·exact ih hn.2 hx' hy' e
   exact congrArg Prod.fst (key h3 m1 m2 e)
  ·exact aqi _ (aqc.2 ⟨_,lh ho,by simp⟩)
  ·exact aqi _ (aqc.2 ⟨_,lh ho,by simp[hj]⟩)
section
variable {P:Program} {G:au}
def zx {α:Type} (st:α→St) (μ:α→Nat) (ok:α→Prop) (a:α) (Q:AX→St→Prop) (e:AX) (s:St):Prop :=
  match e with | .nrm=>∃ b,μ b<μ a∧ok b∧fv s (st b) | e=>Q e s
theorem adu {α:Type} (st:α→St) (μ:α→Nat) (ok:α→Prop) (a:α) (Q:AX→St→Prop) (i:Nat) (s:St):zx st μ ok a Q (.ex i) s=Q (.ex i) s:=rfl
theorem aah {α:Type} (st:α→St) (μ:α→Nat) (ok:α→Prop) (a:α) (Q:AX→St→Prop) (s:St):zx st μ ok a Q .ret s=Q .ret s:=rfl
theorem bA {α:Type} {st:α→St} {μ:α→Nat} {ok:α→Prop} {a:α} {Q:AX→St→Prop} {s:St} (b:α) (h1:μ b<μ a) (h2:ok b) (h3:fv s (st b)):zx st μ ok a Q .nrm s:=⟨b,h1,h2,h3⟩
theorem bO {α:Type} {c:bp} {Q:AX→St→Prop} {σ:St} (st:α→St) (μ:α→Nat) (ok:α→Prop) (a0:α) (h0:ok a0) (he:fv σ (st a0)) (round:∀ a,ok a→cE P G c (zx st μ ok a Q) (st a)):cE P G (.loop c) Q σ:=by
  refine⟨fun n s=>∃ a,μ a=n∧ok a∧s=st a,⟨μ a0,st a0,he,a0,rfl,h0,rfl⟩,?_⟩;rintro n s ⟨a,rfl,ha,rfl⟩;have key:(zx st μ ok a Q)=(fun e s'=>match e with | .nrm=>∃ n' τ,n'<μ a∧fv s' τ∧∃ a,μ a=n'∧ok a∧τ=st a | e=>Q e s'):=by
    funext e s'
    cases e with
    | nrm =>
      refine propext ⟨?_,?_⟩
      ·rintro⟨b,h1,h2,h3⟩;exact⟨μ b,st b,h1,h3,b,rfl,h2,rfl⟩
      ·rintro⟨n',τ,h1,h2,b,rfl,h3,rfl⟩;exact⟨b,h1,h3,h2⟩
    | ex i=>rfl
    | ret=>rfl
  have:=round a ha;rw[key] at this;exact this
end
theorem qw {P:Program} {G:au} {F:FuncId} {args:List D} {sz:Nat} {es:List D} (h:aF P G F args (.w (.c (.fr sz es)))):aF P G F args (.w (.c (.d (.sl es)))):=by
  intro w S vs h1 h2 h3;refine (h w S vs h1 h2 h3).mono ?_;rintro e w' ⟨v,S',bl,rfl,k1,k2,k3,k4⟩;have hfresh:∀ b∈bl,w.heap.size≤b∧b<w'.heap.size:=by
    intro b hb;rcases k4 with ⟨_,_,rfl⟩ | ⟨b',cap,ty,N,rfl,_,_,_,q1,_,q2⟩
    ·cases hb
    ·simp only[apY] at hb;subst hb;obtain⟨f1,_,cur,ty',fz,f3,_⟩:=q2;exact⟨f1,(aqp.1 f3).1⟩
  refine⟨v,fun b i=>S' b i∨b∈bl,[],rfl,k1,fun b i hs=>?_,.nil,?_⟩
  ·rcases hs with hs | hs
   ·exact k2 b i hs
   ·exact⟨.inr (hfresh b hs).1,(hfresh b hs).2⟩
  ·have:=wb (m:=fun _=>none) (x:=.c (.fr sz es)) k4 (T:=fun b i=>S' b i∨b∈bl) (fun _ _ h=>.inl h) (fun b hb _=>.inr hb);exact⟨this.1,rfl⟩
theorem aiA {S S':aT} {w:World} {B:Nat} {v:Value} {y:D} {bl:List Nat} (h:i5 S w B v (.c (.d y)) bl) (hS:∀ b i,S b i→S' b i):i5 S' w B v (.c (.d y)) []∧bl=[]:=by
  cases y with
  | agg cs =>
    obtain⟨⟨us,h1,h2⟩,h3⟩:=h;exact⟨⟨⟨us,h1,h2.weak fun _ _ _ _ h=>h.mono hS⟩,rfl⟩,h3⟩
  | _ =>
    obtain⟨h1,h2⟩:=h;exact⟨⟨h1.mono hS,rfl⟩,h2⟩
theorem vn {P:Program} {G:au} {F:FuncId} {args:List D} {sz:Nat} {es:List D} {y:D} (h:aF P G F args (.tup [.c (.fr sz es),.c (.d y)])):aF P G F args (.tup [.c (.d (.sl es)),.c (.d y)]):=by
  intro w S vs h1 h2 h3;refine (h w S vs h1 h2 h3).mono ?_;rintro e w' ⟨v,S',bl,rfl,k1,k2,k3,us,rfl,k4⟩;cases k4 with
  | @cons v1 c1 b1 vs1 cs1 b2 q1 q2 =>
  cases q2 with
  | @cons v2 c2 b3 vs2 cs2 b4 q3 q4 =>
  cases q4;have hfresh:∀ b∈b1,w.heap.size≤b∧b<w'.heap.size:=by
    intro b hb;rcases q1 with ⟨_,_,rfl⟩ | ⟨b',cap,ty,N,rfl,_,_,_,q1,_,q2⟩
    ·cases hb
    ·simp only[apY] at hb;subst hb;obtain⟨f1,_,cur,ty',fz,f3,_⟩:=q2;exact⟨f1,(aqp.1 f3).1⟩
  refine⟨_,fun b i=>S' b i∨b∈b1,[],rfl,k1,fun b i hs=>?_,.nil,_,rfl,?_⟩
  ·rcases hs with hs | hs
   ·exact k2 b i hs
   ·exact⟨.inr (hfresh b hs).1,(hfresh b hs).2⟩
  ·have hx:=wb (m:=fun _=>none) (x:=.c (.fr sz es)) q1 (T:=fun b i=>S' b i∨b∈b1) (fun _ _ h=>.inl h) (fun b hb _=>.inr hb);exact .cons (b1:=[]) (b2:=[]) ⟨hx.1,rfl⟩ (.cons (b1:=[]) (b2:=[]) (aiA q3 fun _ _ h=>.inl h).1 .nil)
abbrev bs (l:List UInt8):D:=.sl (l.map bD)
def wD (x:UInt32):D:=.int .u32 (x.toNat:Int)
theorem ang (x:UInt8):fV (.w (.c (.d (bD x))))=some (.u8,(x.toNat:Int)):=rfl
theorem anh (x:UInt32):fV (.w (.c (.d (wD x))))=some (.u32,(x.toNat:Int)):=rfl
theorem adv (op:BinOp) (x:UInt8) (k:IntKind) (n:Int):db op (.w (.c (.d (bD x)))) (.w (.c (.d (.int k n))))=db op (.w (.c (.d (.int .u8 (x.toNat:Int))))) (.w (.c (.d (.int k n)))):=rfl
theorem adw (op:BinOp) (x:UInt8) (k:IntKind) (n:Int):db op (.w (.c (.d (.int k n)))) (.w (.c (.d (bD x))))=db op (.w (.c (.d (.int k n)))) (.w (.c (.d (.int .u8 (x.toNat:Int))))):=rfl
theorem aai (x y:UInt8):db .lss (.w (.c (.d (bD x)))) (.w (.c (.d (bD y))))=db .lss (.w (.c (.d (.int .u8 (x.toNat:Int))))) (.w (.c (.d (.int .u8 (y.toNat:Int))))):=rfl
theorem aaj (x y:UInt8):db .leq (.w (.c (.d (bD x)))) (.w (.c (.d (bD y))))=db .leq (.w (.c (.d (.int .u8 (x.toNat:Int))))) (.w (.c (.d (.int .u8 (y.toNat:Int))))):=rfl
theorem aak (x y:UInt8):db .gtr (.w (.c (.d (bD x)))) (.w (.c (.d (bD y))))=db .gtr (.w (.c (.d (.int .u8 (x.toNat:Int))))) (.w (.c (.d (.int .u8 (y.toNat:Int))))):=rfl
theorem aal (x y:UInt8):db .geq (.w (.c (.d (bD x)))) (.w (.c (.d (bD y))))=db .geq (.w (.c (.d (.int .u8 (x.toNat:Int))))) (.w (.c (.d (.int .u8 (y.toNat:Int))))):=rfl
theorem aam (x y:UInt8):db .eql (.w (.c (.d (bD x)))) (.w (.c (.d (bD y))))=db .eql (.w (.c (.d (.int .u8 (x.toNat:Int))))) (.w (.c (.d (.int .u8 (y.toNat:Int))))):=rfl
theorem aan (x y:UInt8):db .neq (.w (.c (.d (bD x)))) (.w (.c (.d (bD y))))=db .neq (.w (.c (.d (.int .u8 (x.toNat:Int))))) (.w (.c (.d (.int .u8 (y.toNat:Int))))):=rfl
theorem aao (x y:UInt8):db .add (.w (.c (.d (bD x)))) (.w (.c (.d (bD y))))=db .add (.w (.c (.d (.int .u8 (x.toNat:Int))))) (.w (.c (.d (.int .u8 (y.toNat:Int))))):=rfl
theorem aap (x y:UInt8):db .sub (.w (.c (.d (bD x)))) (.w (.c (.d (bD y))))=db .sub (.w (.c (.d (.int .u8 (x.toNat:Int))))) (.w (.c (.d (.int .u8 (y.toNat:Int))))):=rfl
theorem ani (op:UnOp) (x:UInt8):pS op (.w (.c (.d (bD x))))=pS op (.w (.c (.d (.int .u8 (x.toNat:Int))))):=rfl
theorem XY (k:IntKind) (n:Int):D.cells (.int k n)=[.int k n]:=rfl
theorem WP (b:Bool):D.cells (.bool b)=[.bool b]:=rfl
theorem XZ (b:ByteArray):D.cells (.str b)=[.str b]:=rfl
theorem aaq (es:List D):D.cells (.sl es)=[.sl es]:=rfl
theorem X0 (cs:List D):D.cells (.agg cs)=cs:=rfl
theorem aar (x:UInt32):(wD x).cells=[wD x]:=rfl
theorem aas (a:UInt8):eZ 1 [bD a]=true:=rfl
theorem aat (a b:UInt8):eZ 1 [bD a,bD b]=true:=rfl
theorem aau (x:UInt8):(bD x).cells=[bD x]:=rfl
theorem xW {α:Type} (f:α→D) (hf:∀ x,(f x).cells.length=1) (l:List α):eZ 1 (l.map f)=true:=by
  unfold eZ;rw[ap9];intro d hd;obtain⟨x,_,rfl⟩:=aqa.1 hd;simp[hf x]
theorem aav (l:List UInt8):eZ 1 (l.map bD)=true:=xW bD (fun _=>rfl) l
theorem aaw (l:List UInt32):eZ 1 (l.map wD)=true:=xW wD (fun _=>rfl) l
theorem Gg:∀ l:List UInt8,sA (l.map bD)=some l
  | []=>rfl
  | x::l=>by
    have h:=x.toNat_lt;simp only[apW,sA,Gg l,bD,K7];rw[if_pos (by omega)];simp
theorem kA {α β:Type} (f:α→β) (l:List α) (n:Nat):(l.map f).take n=(l.take n).map f:=List.map_take.symm
theorem qi {α β:Type} (f:α→β) (l:List α) (n:Nat):(l.map f).drop n=(l.drop n).map f:=List.map_drop.symm
theorem oY {α β:Type} (f:α→β) (l:List α):(l.map f).length=l.length:=ap1 _
theorem rH {α β:Type} (f:α→β) (l m:List α):l.map f++m.map f=(l++m).map f:=ap8.symm
theorem bc {α β:Type} (f:α→β) (l:List α) (i:Nat):(l.map f)[i]?=(l[i]?).map f:=aqH
theorem Ha {α β:Type} (f:α→β) (l:List α) (i:Nat) (x:α):(l.map f).set i (f x)=(l.set i x).map f:=List.map_set.symm
theorem Fs {α:Type} (f:α→D) (hf:∀ x,(f x).cells=[f x]):∀ l:List α,(l.map f).flatMap D.cells=l.map f
  | []=>rfl
  | x::l=>by rw[apW,aqb,hf x,Fs f hf l]; rfl
theorem adx (l:List UInt32):(l.map wD).flatMap D.cells=l.map wD:=Fs wD (fun _=>rfl) l
theorem nV (l:List UInt8):(l.map bD).flatMap D.cells=l.map bD:=Fs bD (fun _=>rfl) l
def CY (k:IntKind) (n:Int):Int:=k.wrap n
theorem aiB (n:Int):IntKind.i64.wrap n=if -9223372036854775808≤n∧n≤9223372036854775807 then n else CY .i64 n:=by
  split
  ·exact IntWalk.i64_in _ ‹_›
  ·rfl
theorem RF (n:Int):IntKind.u64.wrap n=if 0≤n∧n≤18446744073709551615 then n else CY .u64 n:=by
  split
  ·exact IntWalk.u64_in _ (by omega)
  ·rfl
theorem aiC (n:Int):IntKind.u32.wrap n=if 0≤n∧n≤4294967295 then n else CY .u32 n:=by
  split
  ·exact IntWalk.u32_in _ (by omega)
  ·rfl
theorem anj (n:Int):IntKind.u8.wrap n=if 0≤n∧n≤255 then n else CY .u8 n:=by
  split
  ·exact IntWalk.u8_in _ (by omega)
  ·rfl
theorem apq (s:Nat) (l:List UInt32):V.flat (.w (.c (.fr s (l.map wD))))=true:=by
  simp only[V.flat,W.flat,C.flat,List.all_map,ap9]; intro x _; rfl
theorem ub (s:Nat) (l:List UInt8):V.flat (.w (.c (.fr s (l.map bD))))=true:=by
  simp only[V.flat,W.flat,C.flat,List.all_map,ap9]; intro x _; rfl
theorem X1 (sz:Nat):eZ sz []=true:=rfl
theorem WQ (sz:Nat) (e:D) (es:List D):eZ sz (e::es)=(e.cells.length==sz&&eZ sz es):=rfl
theorem X2 (a:ByteArray):pH .eql a a=some (.bool true):=by simp[pH]
theorem apr {α:Type} (a:α):List.replicate 1 a=[a]:=rfl
theorem aps {α:Type} (a:α):List.replicate 2 a=[a,a]:=rfl
theorem apt {α:Type} (a:α):List.replicate 3 a=[a,a,a]:=rfl
theorem apu {α:Type} (a:α):List.replicate 4 a=[a,a,a,a]:=rfl
theorem apv {α:Type} (a:α):List.replicate 5 a=[a,a,a,a,a]:=rfl
theorem apw {α:Type} (a:α):List.replicate 6 a=[a,a,a,a,a,a]:=rfl
def apx:=@oA
def Iq:Option D→Bool | some e=>e.one | none=>false
theorem Wc (e:D):Iq (some e)=e.one:=rfl
theorem ank (es:List D) (i s:Nat) (x:D):oA .sc (.c (.d x)) i 0 (.row s es)=bif Iq es[i]?&&x.one then some (.row s (es.set i x)) else apx .sc (.c (.d x)) i 0 (.row s es):=by
  cases hc:(Iq es[i]?&&x.one) with
  | false=>rfl
  | true =>
    rw[aqm] at hc;obtain⟨h1,h2⟩:=hc;cases he:es[i]? with
    | none=>rw[he] at h1; cases h1
    | some e =>
      rw[he] at h1;simp only[oA,he,my,cond_true];cases e <;> first | (cases h1; done) | simp[h2]
theorem ady (k:IntKind) (n:Int):D.one (.int k n)=true:=rfl
theorem aax (b:Bool):D.one (.bool b)=true:=rfl
theorem adz (b:ByteArray):D.one (.str b)=true:=rfl
theorem aiD (es:List D):D.one (.sl es)=true:=rfl
theorem jU (x:UInt8):D.one (bD x)=true:=rfl
theorem ze (x:UInt32):D.one (wD x)=true:=rfl
theorem apy (x:UInt32):dX (.c (.d (wD x)))=[.d (wD x)]:=rfl
theorem apz (x:UInt8):dX (.c (.d (bD x)))=[.d (bD x)]:=rfl
theorem aiE (k:IntKind) (n:Int):dX (.c (.d (.int k n)))=[.d (.int k n)]:=rfl
theorem adA (b:Bool):dX (.c (.d (.bool b)))=[.d (.bool b)]:=rfl
theorem aiF (b:ByteArray):dX (.c (.d (.str b)))=[.d (.str b)]:=rfl
theorem anl (es:List D):dX (.c (.d (.sl es)))=[.d (.sl es)]:=rfl
theorem aiG (cs:List D):dX (.c (.d (.agg cs)))=cs.map C.d:=rfl
theorem aiH:dX (.c .nil)=[.nil]:=rfl
theorem aiI (id sz off n:Nat):dX (.c (.own id sz off n))=[.own id sz off n]:=rfl
theorem aiJ (id sz i o:Nat):dX (.c (.ptr id sz i o))=[.ptr id sz i o]:=rfl
theorem anm (id sz:Nat):dX (.c (.pa id sz))=[.pa id sz]:=rfl
theorem aiK (cs:List C):dX (.mix cs)=cs:=rfl
theorem r8 {σ:St} {p:Nat×Option Kd} {x:D} (h:dd σ p=some (.c (.d x))):fi σ [p] (.w (.c (.d x))) :=
  ⟨[.c (.d x)],by simp[bE,h],.inl ⟨by simp[W.ids,C.ids],rfl⟩⟩
theorem iV {σ:St} {p:Nat×Option Kd} {id sz n s:Nat} {es:List D} (h:dd σ p=some (.c (.own id sz 0 n))) (e:σ.h id=some (.row s es)) (hn:n=es.length):fi σ [p] (.w (.c (.fr sz es))):=by
  refine⟨[.c (.own id sz 0 n)],by simp[bE,h],.inl ⟨by simp[W.ids,C.ids],rfl,rfl,?_⟩⟩;subst hn;rw[e];exact⟨by simp[fZ],trivial⟩
theorem NP {σ:St} {p:Nat×Option Kd} {id sz n s:Nat} {full:List D} (h:dd σ p=some (.c (.own id sz 0 n))) (e:σ.h id=some (.row s full)) (hn:n≤full.length):fi σ [p] (.w (.c (.fr sz (full.take n)))):=by
  refine⟨[.c (.own id sz 0 n)],by simp[bE,h],.inl ⟨by simp[W.ids,C.ids],rfl,rfl,?_⟩⟩;rw[e];exact⟨by simp[fZ,hn],trivial⟩
theorem Hb {σ:St} {p:Nat×Option Kd} {sz:Nat} (h:dd σ p=some (.c .nil)):fi σ [p] (.w (.c (.fr sz []))) :=
  ⟨[.c .nil],by simp[bE,h],.inl ⟨by simp[W.ids,C.ids],rfl⟩⟩
theorem tD {σ:St} {p:Nat×Option Kd} {x:D} (h1:(dd σ p).bind (toW σ.h)=some x):fi σ [p] (.w (.c (.d x))):=by
  obtain⟨w1,a1,b1⟩:=aqv.1 h1;exact⟨[w1],by simp[bE,a1],.inr b1⟩
theorem eM {σ:St} {p q:Nat×Option Kd} {x y:D} (h1:(dd σ p).bind (toW σ.h)=some x) (h2:(dd σ q).bind (toW σ.h)=some y):fi σ [p,q] (.tup [.c (.d x),.c (.d y)]):=by
  obtain⟨w1,a1,b1⟩:=aqv.1 h1;obtain⟨w2,a2,b2⟩:=aqv.1 h2;exact⟨[w1,w2],by simp[bE,a1,a2],.inr (.cons ⟨x,rfl,b1⟩ (.cons ⟨y,rfl,b2⟩ .nil))⟩
theorem lS {σ:St} {p q r:Nat×Option Kd} {x y z:D} (h1:(dd σ p).bind (toW σ.h)=some x) (h2:(dd σ q).bind (toW σ.h)=some y) (h3:(dd σ r).bind (toW σ.h)=some z):fi σ [p,q,r] (.tup [.c (.d x),.c (.d y),.c (.d z)]):=by
  obtain⟨w1,a1,b1⟩:=aqv.1 h1;obtain⟨w2,a2,b2⟩:=aqv.1 h2;obtain⟨w3,a3,b3⟩:=aqv.1 h3;exact⟨[w1,w2,w3],by simp[bE,a1,a2,a3],.inr (.cons ⟨x,rfl,b1⟩ (.cons ⟨y,rfl,b2⟩ (.cons ⟨z,rfl,b3⟩ .nil)))⟩
theorem X3 {σ:St} {p q:Nat×Option Kd} {id sz n s:Nat} {es:List D} {y:D} (h1:dd σ p=some (.c (.own id sz 0 n))) (e:σ.h id=some (.row s es)) (hn:n=es.length) (h2:dd σ q=some (.c (.d y))):fi σ [p,q] (.tup [.c (.fr sz es),.c (.d y)]):=by
  refine⟨[.c (.own id sz 0 n),.c (.d y)],by simp[bE,h1,h2],.inl ⟨by simp[W.ids,C.ids],.cons ⟨rfl,rfl,?_⟩ (.cons ?_ .nil)⟩⟩
  ·subst hn;rw[e];exact⟨by simp[fZ],trivial⟩
  ·cases y <;> rfl
theorem X4 {σ:St} {p q:Nat×Option Kd} {sz:Nat} {y:D} (h1:dd σ p=some (.c .nil)) (h2:dd σ q=some (.c (.d y))):fi σ [p,q] (.tup [.c (.fr sz []),.c (.d y)]):=by
  refine⟨[.c .nil,.c (.d y)],by simp[bE,h1,h2],.inl ⟨by simp[W.ids,C.ids],.cons rfl (.cons ?_ .nil)⟩⟩;cases y <;> rfl
def pI (h:aI) (sz:Nat):W→Option (List D)
  | .c (.own id sz' off n)=>match h id with
    | some (.row _ es)=>if off=0∧n=es.length∧sz'=sz then some es else none
    | _=>none
  | .c .nil=>some []
  | _=>none
theorem aay (h:aI) (sz id sz' off n:Nat):pI h sz (.c (.own id sz' off n))=(match h id with
    | some (.row _ es)=>if off=0∧n=es.length∧sz'=sz then some es else none
    | _=>none):=rfl
theorem aaz (h:aI) (sz:Nat):pI h sz (.c .nil)=some []:=rfl
theorem RG {σ:St} {p:Nat×Option Kd} {sz:Nat} {es:List D} (h1:(dd σ p).bind (pI σ.h sz)=some es):fi σ [p] (.w (.c (.fr sz es))):=by
  obtain⟨w,a,b⟩:=aqv.1 h1;unfold pI at b;split at b
  ·split at b
   ·rename_i e;split at b
    ·rename_i hc;obtain⟨rfl,rfl,rfl⟩:=hc;obtain rfl:=Option.some.inj b;exact iV a e rfl
    ·cases b
   ·cases b
  ·obtain rfl:=Option.some.inj b;exact Hb a
  ·cases b
theorem Ir {σ:St} {p q:Nat×Option Kd} {sz:Nat} {es:List D} {y:D} (h1:(dd σ p).bind (pI σ.h sz)=some es) (h2:dd σ q=some (.c (.d y))):fi σ [p,q] (.tup [.c (.fr sz es),.c (.d y)]):=by
  obtain⟨w,a,b⟩:=aqv.1 h1;unfold pI at b;split at b
  ·split at b
   ·rename_i e;split at b
    ·rename_i hc;obtain⟨rfl,rfl,rfl⟩:=hc;obtain rfl:=Option.some.inj b;exact X3 a e rfl h2
    ·cases b
   ·cases b
  ·obtain rfl:=Option.some.inj b;exact X4 a h2
  ·cases b
end Go.Proofs.YtnjhelpgohdajaaGreatDoor
