/- Texts of one's own, merged: from: The plain logic (19): loops; states by lists; bytes and words as data. Own work. -/
import Derived.IntWalk
import Derived.Test.YtlghfnidknfakaaGreatDoorMg45
set_option linter.unusedVariables false
set_option linter.unusedSimpArgs false
namespace Go.Proofs.YtlghfnidknfakaaGreatDoor
open Go.RowKit IntWalk
def aT:List (Nat×V)→Nat→V
  | []=>uf
  | (i,v)::r=>upd (aT r) i v
def hL:List (Nat×Ob)→au
  | []=>hN
  | (i,o)::r=>upd (hL r) i (some o)
def uL:List Nat→Nat→Bool
  | []=>uN
  | i::r=>upd (uL r) i true
theorem IL:aT []=uf:=rfl
theorem tz (i:Nat) (v:V) (r:List (Nat×V)):aT ((i,v)::r)=upd (aT r) i v:=rfl
theorem K4:hL []=hN:=rfl
theorem zr (i:Nat) (o:Ob) (r:List (Nat×Ob)):hL ((i,o)::r)=upd (hL r) i (some o):=rfl
theorem K5:uL []=uN:=rfl
theorem zs (i:Nat) (r:List Nat):uL (i::r)=upd (uL r) i true:=rfl
theorem K6 {i:Nat}:∀ {l:List Nat},i∈l→uL l i=true
  | j::r,h=>by
    rw[zs];by_cases e:i=j
    ·rw[e]; exact upd_same _ _ _
    ·rw[upd_ne _ _ e];exact K6 (by simpa [e] using h)
theorem Ae {f:Nat→V} {g:Nat→Nat}:∀ {l:List (Nat×V)},(∀ p∈l,f p.1=p.2.ren g)→∀ t,aT l t=.undef∨f t=(aT l t).ren g
  | [],_,_=>.inl rfl
  | (i,v)::r,h,t=>by
    rw[tz];by_cases e:t=i
    ·rw[e,upd_same]; exact .inr (h (i,v) (by simp))
    ·rw[upd_ne _ _ e];exact Ae (fun p hp=>h p (by simp[hp])) t
theorem oQ {i:Nat} {o:Ob}:∀ {l:List (Nat×Ob)},hL l i=some o→(i,o)∈l
  | [],h=>by cases h
  | (j,q)::r,h=>by
    rw[zr] at h;by_cases e:i=j
    ·rw[e,upd_same] at h;cases h;rw[e]; simp
    ·rw[upd_ne _ _ e] at h;exact abq _ (oQ h)
theorem IM {l:List (Nat×V)} {i t:Nat} (h:i∈(aT l t).ids):i∈l.flatMap fun p=>p.2.ids:=by
  induction l with
  | nil=>cases h
  | cons p r ih =>
    obtain⟨j,v⟩:=p;rw[tz] at h;rw[abg,abd];by_cases e:t=j
    ·rw[e,upd_same] at h; exact .inl h
    ·rw[upd_ne _ _ e] at h; exact .inr (ih h)
def lD (f:Nat→V) (g:Nat→Nat):List (Nat×V)→Prop
  | []=>True
  | (i,v)::r=>f i=v.ren g∧lD f g r
def qf (h:au) (g:Nat→Nat):List (Nat×Ob)→Prop
  | []=>True
  | (i,o)::r=>h (g i)=some (o.ren g)∧qf h g r
def vE:List Nat→Bool
  | []=>true
  | i::r=>!r.contains i&&vE r
theorem IP (f:Nat→V) (g:Nat→Nat):lD f g []=True:=rfl
theorem Gj (f:Nat→V) (g:Nat→Nat) (i:Nat) (v:V) (r:List (Nat×V)):lD f g ((i,v)::r)=(f i=v.ren g∧lD f g r):=rfl
theorem IQ (h:au) (g:Nat→Nat):qf h g []=True:=rfl
theorem Gk (h:au) (g:Nat→Nat) (i:Nat) (o:Ob) (r:List (Nat×Ob)):qf h g ((i,o)::r)=(h (g i)=some (o.ren g)∧qf h g r):=rfl
theorem zt {f:Nat→V} {g:Nat→Nat}:∀ {l:List (Nat×V)},lD f g l→∀ p∈l,f p.1=p.2.ren g
  | (i,v)::r,h,p,hp=>by
    rcases abk.1 hp with rfl | hp
    ·exact h.1
    ·exact zt h.2 p hp
theorem IR {f:au} {g:Nat→Nat}:∀ {l:List (Nat×Ob)},qf f g l→∀ p∈l,f (g p.1)=some (p.2.ren g)
  | (i,v)::r,h,p,hp=>by
    rcases abk.1 hp with rfl | hp
    ·exact h.1
    ·exact IR h.2 p hp
theorem Gl:∀ {l:List Nat},vE l=true→l.Nodup
  | [],_=>.nil
  | i::r,h=>by
    simp only[vE,abu,ac3] at h;refine List.nodup_cons.2 ⟨fun hi=>?_,Gl h.2⟩;have:=List.contains_iff_mem.2 hi;rw[h.1] at this;cases this
theorem aA {σ:St} (g:Nat→Nat) {fl:List (Nat×V)} {hl:List (Nat×Ob)} {ul:List Nat} (h1':lD σ.f g fl) (h2':qf σ.h g hl)
    (h3':vE (hl.map fun p=>g p.1)=true) (h4:((fl.flatMap fun p=>p.2.ids)++(hl.flatMap fun p=>p.1::p.2.ids)).all (fun i=>ul.contains i)=true):dP σ ⟨aT fl,hL hl,uL ul⟩:=by
  have h1:=zt h1';have h2:=IR h2';have h3:=Gl h3';have used:∀ i,i∈(fl.flatMap fun p=>p.2.ids)++(hl.flatMap fun p=>p.1::p.2.ids)→uL ul i=true:=by
    intro i hi;rw[abi] at h4;exact K6 (by simpa using h4 i hi)
  refine⟨⟨g,Ae h1,fun i o ho=>h2 (i,o) (oQ ho),fun i j hi hj e=>?_⟩,fun t i hi=>used i (abH _ (IM hi)),fun i o ho=>⟨used i ?_,fun j hj=>used j ?_⟩⟩
  ·obtain⟨o,ho⟩:=abm.1 hi;obtain⟨q,hq⟩:=abm.1 hj;have m1:=oQ ho;have m2:=oQ hq;have key:∀ {l:List (Nat×Ob)},(l.map fun p=>g p.1).Nodup→∀ {x y:Nat×Ob},x∈l→y∈l→g x.1=g y.1→x=y:=by
     intro l
     induction l with
     | nil=>intro _ x y hx; cases hx
     | cons p r ih =>
       intro hn x y hx hy e;rw[aa5,List.nodup_cons] at hn;rcases abk.1 hx with rfl | hx' <;> rcases abk.1 hy with rfl | hy'
       ·rfl
       ·exact (hn.1 (abo.2 ⟨y,hy',e.symm⟩)).elim
       ·exact (hn.1 (abo.2 ⟨x,hx',e⟩)).elim
       ·exact ih hn.2 hx' hy' e
   exact congrArg Prod.fst (key h3 m1 m2 e)
  ·exact abl _ (abb.2 ⟨_,oQ ho,by simp⟩)
  ·exact abl _ (abb.2 ⟨_,oQ ho,by simp[hj]⟩)
section
variable {P:Program} {G:ah}
def rU {α:Type} (st:α→St) (μ:α→Nat) (ok:α→Prop) (a:α) (Q:AX→St→Prop) (e:AX) (s:St):Prop :=
  match e with | .nrm=>∃ b,μ b<μ a∧ok b∧dP s (st b) | e=>Q e s
theorem IU {α:Type} (st:α→St) (μ:α→Nat) (ok:α→Prop) (a:α) (Q:AX→St→Prop) (i:Nat) (s:St):rU st μ ok a Q (.ex i) s=Q (.ex i) s:=rfl
theorem Gm {α:Type} (st:α→St) (μ:α→Nat) (ok:α→Prop) (a:α) (Q:AX→St→Prop) (s:St):rU st μ ok a Q .ret s=Q .ret s:=rfl
theorem aV {α:Type} {st:α→St} {μ:α→Nat} {ok:α→Prop} {a:α} {Q:AX→St→Prop} {s:St} (b:α) (h1:μ b<μ a) (h2:ok b) (h3:dP s (st b)):rU st μ ok a Q .nrm s:=⟨b,h1,h2,h3⟩
theorem be {α:Type} {c:aL} {Q:AX→St→Prop} {σ:St} (st:α→St) (μ:α→Nat) (ok:α→Prop) (a0:α) (h0:ok a0) (he:dP σ (st a0)) (round:∀ a,ok a→bE P G c (rU st μ ok a Q) (st a)):bE P G (.loop c) Q σ:=by
  refine⟨fun n s=>∃ a,μ a=n∧ok a∧s=st a,⟨μ a0,st a0,he,a0,rfl,h0,rfl⟩,?_⟩;rintro n s ⟨a,rfl,ha,rfl⟩;have key:(rU st μ ok a Q)=(fun e s'=>match e with | .nrm=>∃ n' τ,n'<μ a∧dP s' τ∧∃ a,μ a=n'∧ok a∧τ=st a | e=>Q e s'):=by
    funext e s'
    cases e with
    | nrm =>
      refine propext ⟨?_,?_⟩
      ·rintro⟨b,h1,h2,h3⟩;exact⟨μ b,st b,h1,h3,b,rfl,h2,rfl⟩
      ·rintro⟨n',τ,h1,h2,b,rfl,h3,rfl⟩;exact⟨b,h1,h3,h2⟩
    | ex i=>rfl
    | ret=>rfl
  have:=round a ha;rw[key] at this;exact this
end
theorem mb {P:Program} {G:ah} {F:FuncId} {args:List D} {sz:Nat} {es:List D} (h:am P G F args (.w (.c (.fr sz es)))):am P G F args (.w (.c (.d (.sl es)))):=by
  intro w S vs h1 h2 h3;refine (h w S vs h1 h2 h3).mono ?_;rintro e w' ⟨v,S',bl,rfl,k1,k2,k3,k4⟩;have hfresh:∀ b∈bl,w.heap.size≤b∧b<w'.heap.size:=by
    intro b hb;rcases k4 with ⟨_,_,rfl⟩ | ⟨b',cap,ty,N,rfl,_,_,_,q1,_,q2⟩
    ·cases hb
    ·simp only[aa6] at hb;subst hb;obtain⟨f1,_,cur,ty',fz,f3,_⟩:=q2;exact⟨f1,(abc.1 f3).1⟩
  refine⟨v,fun b i=>S' b i∨b∈bl,[],rfl,k1,fun b i hs=>?_,.nil,?_⟩
  ·rcases hs with hs | hs
   ·exact k2 b i hs
   ·exact⟨.inr (hfresh b hs).1,(hfresh b hs).2⟩
  ·have:=rG (m:=fun _=>none) (x:=.c (.fr sz es)) k4 (T:=fun b i=>S' b i∨b∈bl) (fun _ _ h=>.inl h) (fun b hb _=>.inr hb);exact⟨this.1,rfl⟩
theorem Wp {S S':aj} {w:World} {B:Nat} {v:Value} {y:D} {bl:List Nat} (h:fk S w B v (.c (.d y)) bl) (hS:∀ b i,S b i→S' b i):fk S' w B v (.c (.d y)) []∧bl=[]:=by
  cases y with
  | agg cs =>
    obtain⟨⟨us,h1,h2⟩,h3⟩:=h;exact⟨⟨⟨us,h1,h2.weak fun _ _ _ _ h=>h.mono hS⟩,rfl⟩,h3⟩
  | _ =>
    obtain⟨h1,h2⟩:=h;exact⟨⟨h1.mono hS,rfl⟩,h2⟩
theorem qW {P:Program} {G:ah} {F:FuncId} {args:List D} {sz:Nat} {es:List D} {y:D} (h:am P G F args (.tup [.c (.fr sz es),.c (.d y)])):am P G F args (.tup [.c (.d (.sl es)),.c (.d y)]):=by
  intro w S vs h1 h2 h3;refine (h w S vs h1 h2 h3).mono ?_;rintro e w' ⟨v,S',bl,rfl,k1,k2,k3,us,rfl,k4⟩;cases k4 with
  | @cons v1 c1 b1 vs1 cs1 b2 q1 q2 =>
  cases q2 with
  | @cons v2 c2 b3 vs2 cs2 b4 q3 q4 =>
  cases q4;have hfresh:∀ b∈b1,w.heap.size≤b∧b<w'.heap.size:=by
    intro b hb;rcases q1 with ⟨_,_,rfl⟩ | ⟨b',cap,ty,N,rfl,_,_,_,q1,_,q2⟩
    ·cases hb
    ·simp only[aa6] at hb;subst hb;obtain⟨f1,_,cur,ty',fz,f3,_⟩:=q2;exact⟨f1,(abc.1 f3).1⟩
  refine⟨_,fun b i=>S' b i∨b∈b1,[],rfl,k1,fun b i hs=>?_,.nil,_,rfl,?_⟩
  ·rcases hs with hs | hs
   ·exact k2 b i hs
   ·exact⟨.inr (hfresh b hs).1,(hfresh b hs).2⟩
  ·have hx:=rG (m:=fun _=>none) (x:=.c (.fr sz es)) q1 (T:=fun b i=>S' b i∨b∈b1) (fun _ _ h=>.inl h) (fun b hb _=>.inr hb);exact .cons (b1:=[]) (b2:=[]) ⟨hx.1,rfl⟩ (.cons (b1:=[]) (b2:=[]) (Wp q3 fun _ _ h=>.inl h).1 .nil)
abbrev bs (l:List UInt8):D:=.sl (l.map bD)
def wD (x:UInt32):D:=.int .u32 (x.toNat:Int)
theorem M9 (x:UInt8):dI (.w (.c (.d (bD x))))=some (.u8,(x.toNat:Int)):=rfl
theorem Na (x:UInt32):dI (.w (.c (.d (wD x))))=some (.u32,(x.toNat:Int)):=rfl
theorem IV (op:BinOp) (x:UInt8) (k:IntKind) (n:Int):bN op (.w (.c (.d (bD x)))) (.w (.c (.d (.int k n))))=bN op (.w (.c (.d (.int .u8 (x.toNat:Int))))) (.w (.c (.d (.int k n)))):=rfl
theorem IW (op:BinOp) (x:UInt8) (k:IntKind) (n:Int):bN op (.w (.c (.d (.int k n)))) (.w (.c (.d (bD x))))=bN op (.w (.c (.d (.int k n)))) (.w (.c (.d (.int .u8 (x.toNat:Int))))):=rfl
theorem Gn (x y:UInt8):bN .lss (.w (.c (.d (bD x)))) (.w (.c (.d (bD y))))=bN .lss (.w (.c (.d (.int .u8 (x.toNat:Int))))) (.w (.c (.d (.int .u8 (y.toNat:Int))))):=rfl
theorem Gp (x y:UInt8):bN .leq (.w (.c (.d (bD x)))) (.w (.c (.d (bD y))))=bN .leq (.w (.c (.d (.int .u8 (x.toNat:Int))))) (.w (.c (.d (.int .u8 (y.toNat:Int))))):=rfl
theorem Gq (x y:UInt8):bN .gtr (.w (.c (.d (bD x)))) (.w (.c (.d (bD y))))=bN .gtr (.w (.c (.d (.int .u8 (x.toNat:Int))))) (.w (.c (.d (.int .u8 (y.toNat:Int))))):=rfl
theorem Gr (x y:UInt8):bN .geq (.w (.c (.d (bD x)))) (.w (.c (.d (bD y))))=bN .geq (.w (.c (.d (.int .u8 (x.toNat:Int))))) (.w (.c (.d (.int .u8 (y.toNat:Int))))):=rfl
theorem Gs (x y:UInt8):bN .eql (.w (.c (.d (bD x)))) (.w (.c (.d (bD y))))=bN .eql (.w (.c (.d (.int .u8 (x.toNat:Int))))) (.w (.c (.d (.int .u8 (y.toNat:Int))))):=rfl
theorem Gt (x y:UInt8):bN .neq (.w (.c (.d (bD x)))) (.w (.c (.d (bD y))))=bN .neq (.w (.c (.d (.int .u8 (x.toNat:Int))))) (.w (.c (.d (.int .u8 (y.toNat:Int))))):=rfl
theorem Gu (x y:UInt8):bN .add (.w (.c (.d (bD x)))) (.w (.c (.d (bD y))))=bN .add (.w (.c (.d (.int .u8 (x.toNat:Int))))) (.w (.c (.d (.int .u8 (y.toNat:Int))))):=rfl
theorem Gv (x y:UInt8):bN .sub (.w (.c (.d (bD x)))) (.w (.c (.d (bD y))))=bN .sub (.w (.c (.d (.int .u8 (x.toNat:Int))))) (.w (.c (.d (.int .u8 (y.toNat:Int))))):=rfl
theorem Nb (op:UnOp) (x:UInt8):kq op (.w (.c (.d (bD x))))=kq op (.w (.c (.d (.int .u8 (x.toNat:Int))))):=rfl
theorem Ei (k:IntKind) (n:Int):D.cells (.int k n)=[.int k n]:=rfl
theorem Dr (b:Bool):D.cells (.bool b)=[.bool b]:=rfl
theorem Ej (b:ByteArray):D.cells (.str b)=[.str b]:=rfl
theorem Gw (es:List D):D.cells (.sl es)=[.sl es]:=rfl
theorem El (cs:List D):D.cells (.agg cs)=cs:=rfl
theorem Gx (x:UInt32):(wD x).cells=[wD x]:=rfl
theorem Gy (a:UInt8):dA 1 [bD a]=true:=rfl
theorem Gz (a b:UInt8):dA 1 [bD a,bD b]=true:=rfl
theorem GA (x:UInt8):(bD x).cells=[bD x]:=rfl
theorem qF {α:Type} (f:α→D) (hf:∀ x,(f x).cells.length=1) (l:List α):dA 1 (l.map f)=true:=by
  unfold dA;rw[abi];intro d hd;obtain⟨x,_,rfl⟩:=abo.1 hd;simp[hf x]
theorem GC (l:List UInt8):dA 1 (l.map bD)=true:=qF bD (fun _=>rfl) l
theorem GD (l:List UInt32):dA 1 (l.map wD)=true:=qF wD (fun _=>rfl) l
theorem tA:∀ l:List UInt8,mu (l.map bD)=some l
  | []=>rfl
  | x::l=>by
    have h:=x.toNat_lt;simp only[aa5,mu,tA l,bD,Cn];rw[if_pos (by omega)];simp
theorem fI {α β:Type} (f:α→β) (l:List α) (n:Nat):(l.map f).take n=(l.take n).map f:=List.map_take.symm
theorem jO {α β:Type} (f:α→β) (l:List α) (n:Nat):(l.map f).drop n=(l.drop n).map f:=List.map_drop.symm
theorem jm {α β:Type} (f:α→β) (l:List α):(l.map f).length=l.length:=aa7 _
theorem kM {α β:Type} (f:α→β) (l m:List α):l.map f++m.map f=(l++m).map f:=abn.symm
theorem aJ {α β:Type} (f:α→β) (l:List α) (i:Nat):(l.map f)[i]?=(l[i]?).map f:=abK
theorem zu {α β:Type} (f:α→β) (l:List α) (i:Nat) (x:α):(l.map f).set i (f x)=(l.set i x).map f:=List.map_set.symm
theorem xY {α:Type} (f:α→D) (hf:∀ x,(f x).cells=[f x]):∀ l:List α,(l.map f).flatMap D.cells=l.map f
  | []=>rfl
  | x::l=>by rw[aa5,abg,hf x,xY f hf l]; rfl
theorem IX (l:List UInt32):(l.map wD).flatMap D.cells=l.map wD:=xY wD (fun _=>rfl) l
theorem iP (l:List UInt8):(l.map bD).flatMap D.cells=l.map bD:=xY bD (fun _=>rfl) l
def vF (k:IntKind) (n:Int):Int:=k.wrap n
theorem K7 (n:Int):IntKind.i64.wrap n=if -9223372036854775808≤n∧n≤9223372036854775807 then n else vF .i64 n:=by
  split
  ·exact IntWalk.i64_in _ ‹_›
  ·rfl
theorem K8 (n:Int):IntKind.u64.wrap n=if 0≤n∧n≤18446744073709551615 then n else vF .u64 n:=by
  split
  ·exact IntWalk.u64_in _ (by omega)
  ·rfl
theorem K9 (n:Int):IntKind.u32.wrap n=if 0≤n∧n≤4294967295 then n else vF .u32 n:=by
  split
  ·exact IntWalk.u32_in _ (by omega)
  ·rfl
theorem Nc (n:Int):IntKind.u8.wrap n=if 0≤n∧n≤255 then n else vF .u8 n:=by
  split
  ·exact IntWalk.u8_in _ (by omega)
  ·rfl
theorem aaF (s:Nat) (l:List UInt32):V.flat (.w (.c (.fr s (l.map wD))))=true:=by
  simp only[V.flat,W.flat,C.flat,List.all_map,abi]; intro x _; rfl
theorem pX (s:Nat) (l:List UInt8):V.flat (.w (.c (.fr s (l.map bD))))=true:=by
  simp only[V.flat,W.flat,C.flat,List.all_map,abi]; intro x _; rfl
theorem Em (sz:Nat):dA sz []=true:=rfl
theorem Ds (sz:Nat) (e:D) (es:List D):dA sz (e::es)=(e.cells.length==sz&&dA sz es):=rfl
theorem En (a:ByteArray):iX .eql a a=some (.bool true):=by simp[iX]
theorem NY {α:Type} (a:α):List.replicate 1 a=[a]:=rfl
theorem NZ {α:Type} (a:α):List.replicate 2 a=[a,a]:=rfl
theorem N0 {α:Type} (a:α):List.replicate 3 a=[a,a,a]:=rfl
theorem N2 {α:Type} (a:α):List.replicate 4 a=[a,a,a,a]:=rfl
theorem N3 {α:Type} (a:α):List.replicate 5 a=[a,a,a,a,a]:=rfl
theorem N5 {α:Type} (a:α):List.replicate 6 a=[a,a,a,a,a,a]:=rfl
def aaG:=@jD
def Af:Option D→Bool | some e=>e.one | none=>false
theorem C5 (e:D):Af (some e)=e.one:=rfl
theorem Nf (es:List D) (i s:Nat) (x:D):jD .sc (.c (.d x)) i 0 (.row s es)=bif Af es[i]?&&x.one then some (.row s (es.set i x)) else aaG .sc (.c (.d x)) i 0 (.row s es):=by
  cases hc:(Af es[i]?&&x.one) with
  | false=>rfl
  | true =>
    rw[abu] at hc;obtain⟨h1,h2⟩:=hc;cases he:es[i]? with
    | none=>rw[he] at h1; cases h1
    | some e =>
      rw[he] at h1;simp only[jD,he,fN,cond_true];cases e <;> first | (cases h1; done) | simp[h2]
theorem IY (k:IntKind) (n:Int):D.one (.int k n)=true:=rfl
theorem GE (b:Bool):D.one (.bool b)=true:=rfl
theorem IZ (b:ByteArray):D.one (.str b)=true:=rfl
theorem La (es:List D):D.one (.sl es)=true:=rfl
theorem fC (x:UInt8):D.one (bD x)=true:=rfl
theorem pD (x:UInt32):D.one (wD x)=true:=rfl
theorem N6 (x:UInt32):cG (.c (.d (wD x)))=[.d (wD x)]:=rfl
theorem N7 (x:UInt8):cG (.c (.d (bD x)))=[.d (bD x)]:=rfl
theorem Lb (k:IntKind) (n:Int):cG (.c (.d (.int k n)))=[.d (.int k n)]:=rfl
theorem I0 (b:Bool):cG (.c (.d (.bool b)))=[.d (.bool b)]:=rfl
theorem Lc (b:ByteArray):cG (.c (.d (.str b)))=[.d (.str b)]:=rfl
theorem Ng (es:List D):cG (.c (.d (.sl es)))=[.d (.sl es)]:=rfl
theorem Ld (cs:List D):cG (.c (.d (.agg cs)))=cs.map C.d:=rfl
theorem Le:cG (.c .nil)=[.nil]:=rfl
theorem Lf (id sz off n:Nat):cG (.c (.own id sz off n))=[.own id sz off n]:=rfl
theorem Lg (id sz i o:Nat):cG (.c (.ptr id sz i o))=[.ptr id sz i o]:=rfl
theorem Nh (id sz:Nat):cG (.c (.pa id sz))=[.pa id sz]:=rfl
theorem Lh (cs:List C):cG (.mix cs)=cs:=rfl
theorem kV {σ:St} {p:Nat×Option Kd} {x:D} (h:cA σ p=some (.c (.d x))):dq σ [p] (.w (.c (.d x))) :=
  ⟨[.c (.d x)],by simp[aR,h],.inl ⟨by simp[W.ids,C.ids],rfl⟩⟩
theorem eV {σ:St} {p:Nat×Option Kd} {id sz n s:Nat} {es:List D} (h:cA σ p=some (.c (.own id sz 0 n))) (e:σ.h id=some (.row s es)) (hn:n=es.length):dq σ [p] (.w (.c (.fr sz es))):=by
  refine⟨[.c (.own id sz 0 n)],by simp[aR,h],.inl ⟨by simp[W.ids,C.ids],rfl,rfl,?_⟩⟩;subst hn;rw[e];exact⟨by simp[df],trivial⟩
theorem GF {σ:St} {p:Nat×Option Kd} {id sz n s:Nat} {full:List D} (h:cA σ p=some (.c (.own id sz 0 n))) (e:σ.h id=some (.row s full)) (hn:n≤full.length):dq σ [p] (.w (.c (.fr sz (full.take n)))):=by
  refine⟨[.c (.own id sz 0 n)],by simp[aR,h],.inl ⟨by simp[W.ids,C.ids],rfl,rfl,?_⟩⟩;rw[e];exact⟨by simp[df,hn],trivial⟩
theorem uh {σ:St} {p:Nat×Option Kd} {sz:Nat} (h:cA σ p=some (.c .nil)):dq σ [p] (.w (.c (.fr sz []))) :=
  ⟨[.c .nil],by simp[aR,h],.inl ⟨by simp[W.ids,C.ids],rfl⟩⟩
theorem nj {σ:St} {p:Nat×Option Kd} {x:D} (h1:(cA σ p).bind (toW σ.h)=some x):dq σ [p] (.w (.c (.d x))):=by
  obtain⟨w1,a1,b1⟩:=abA.1 h1;exact⟨[w1],by simp[aR,a1],.inr b1⟩
theorem jr {σ:St} {p q:Nat×Option Kd} {x y:D} (h1:(cA σ p).bind (toW σ.h)=some x) (h2:(cA σ q).bind (toW σ.h)=some y):dq σ [p,q] (.tup [.c (.d x),.c (.d y)]):=by
  obtain⟨w1,a1,b1⟩:=abA.1 h1;obtain⟨w2,a2,b2⟩:=abA.1 h2;exact⟨[w1,w2],by simp[aR,a1,a2],.inr (.cons ⟨x,rfl,b1⟩ (.cons ⟨y,rfl,b2⟩ .nil))⟩
theorem Ag {σ:St} {p q r:Nat×Option Kd} {x y z:D} (h1:(cA σ p).bind (toW σ.h)=some x) (h2:(cA σ q).bind (toW σ.h)=some y) (h3:(cA σ r).bind (toW σ.h)=some z):dq σ [p,q,r] (.tup [.c (.d x),.c (.d y),.c (.d z)]):=by
  obtain⟨w1,a1,b1⟩:=abA.1 h1;obtain⟨w2,a2,b2⟩:=abA.1 h2;obtain⟨w3,a3,b3⟩:=abA.1 h3;exact⟨[w1,w2,w3],by simp[aR,a1,a2,a3],.inr (.cons ⟨x,rfl,b1⟩ (.cons ⟨y,rfl,b2⟩ (.cons ⟨z,rfl,b3⟩ .nil)))⟩
theorem Qe {σ:St} {p q:Nat×Option Kd} {id sz n s:Nat} {es:List D} {y:D} (h1:cA σ p=some (.c (.own id sz 0 n))) (e:σ.h id=some (.row s es)) (hn:n=es.length) (h2:cA σ q=some (.c (.d y))):dq σ [p,q] (.tup [.c (.fr sz es),.c (.d y)]):=by
  refine⟨[.c (.own id sz 0 n),.c (.d y)],by simp[aR,h1,h2],.inl ⟨by simp[W.ids,C.ids],.cons ⟨rfl,rfl,?_⟩ (.cons ?_ .nil)⟩⟩
  ·subst hn;rw[e];exact⟨by simp[df],trivial⟩
  ·cases y <;> rfl
theorem Qf {σ:St} {p q:Nat×Option Kd} {sz:Nat} {y:D} (h1:cA σ p=some (.c .nil)) (h2:cA σ q=some (.c (.d y))):dq σ [p,q] (.tup [.c (.fr sz []),.c (.d y)]):=by
  refine⟨[.c .nil,.c (.d y)],by simp[aR,h1,h2],.inl ⟨by simp[W.ids,C.ids],.cons rfl (.cons ?_ .nil)⟩⟩;cases y <;> rfl
def iY (h:au) (sz:Nat):W→Option (List D)
  | .c (.own id sz' off n)=>match h id with
    | some (.row _ es)=>if off=0∧n=es.length∧sz'=sz then some es else none
    | _=>none
  | .c .nil=>some []
  | _=>none
theorem GG (h:au) (sz id sz' off n:Nat):iY h sz (.c (.own id sz' off n))=(match h id with
    | some (.row _ es)=>if off=0∧n=es.length∧sz'=sz then some es else none
    | _=>none):=rfl
theorem GH (h:au) (sz:Nat):iY h sz (.c .nil)=some []:=rfl
theorem Li {σ:St} {p:Nat×Option Kd} {sz:Nat} {es:List D} (h1:(cA σ p).bind (iY σ.h sz)=some es):dq σ [p] (.w (.c (.fr sz es))):=by
  obtain⟨w,a,b⟩:=abA.1 h1;unfold iY at b;split at b
  ·split at b
   ·rename_i e;split at b
    ·rename_i hc;obtain⟨rfl,rfl,rfl⟩:=hc;obtain rfl:=Option.some.inj b;exact eV a e rfl
    ·cases b
   ·cases b
  ·obtain rfl:=Option.some.inj b;exact uh a
  ·cases b
theorem Ah {σ:St} {p q:Nat×Option Kd} {sz:Nat} {es:List D} {y:D} (h1:(cA σ p).bind (iY σ.h sz)=some es) (h2:cA σ q=some (.c (.d y))):dq σ [p,q] (.tup [.c (.fr sz es),.c (.d y)]):=by
  obtain⟨w,a,b⟩:=abA.1 h1;unfold iY at b;split at b
  ·split at b
   ·rename_i e;split at b
    ·rename_i hc;obtain⟨rfl,rfl,rfl⟩:=hc;obtain rfl:=Option.some.inj b;exact Qe a e rfl h2
    ·cases b
   ·cases b
  ·obtain rfl:=Option.some.inj b;exact Qf a h2
  ·cases b
end Go.Proofs.YtlghfnidknfakaaGreatDoor
