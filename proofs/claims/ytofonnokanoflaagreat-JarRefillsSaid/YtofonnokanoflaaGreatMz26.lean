/- Texts of one's own, merged: from: The plain logic (19): loops; states by lists; bytes and words as data. Own work. -/
import Derived.IntWalk
import Derived.Test.YtofonnokanoflaaGreatMz25
set_option linter.unusedVariables false
set_option linter.unusedSimpArgs false
namespace Go.Proofs.YtofonnokanoflaaGreat
open Go.RowKit IntWalk
def aT:List (Nat×V)→Nat→V
  | []=>uf
  | (i,v)::r=>upd (aT r) i v
def hL:List (Nat×Ob)→aA
  | []=>hN
  | (i,o)::r=>upd (hL r) i (some o)
def uL:List Nat→Nat→Bool
  | []=>uN
  | i::r=>upd (uL r) i true
theorem Jo:aT []=uf:=rfl
theorem uY (i:Nat) (v:V) (r:List (Nat×V)):aT ((i,v)::r)=upd (aT r) i v:=rfl
theorem Ml:hL []=hN:=rfl
theorem nH (i:Nat) (o:Ob) (r:List (Nat×Ob)):hL ((i,o)::r)=upd (hL r) i (some o):=rfl
theorem Mn:uL []=uN:=rfl
theorem vx (i:Nat) (r:List Nat):uL (i::r)=upd (uL r) i true:=rfl
theorem Mo {i:Nat}:∀ {l:List Nat},i∈l→uL l i=true
  | j::r,h=>by
    rw[vx];by_cases e:i=j
    ·rw[e]; exact upd_same _ _ _
    ·rw[upd_ne _ _ e];exact Mo (by simpa [e] using h)
theorem Mq {f:Nat→V} {g:Nat→Nat}:∀ {l:List (Nat×V)},(∀ p∈l,f p.1=p.2.ren g)→∀ t,aT l t=.undef∨f t=(aT l t).ren g
  | [],_,_=>.inl rfl
  | (i,v)::r,h,t=>by
    rw[uY];by_cases e:t=i
    ·rw[e,upd_same]; exact .inr (h (i,v) (by simp))
    ·rw[upd_ne _ _ e];exact Mq (fun p hp=>h p (by simp[hp])) t
theorem jw {i:Nat} {o:Ob}:∀ {l:List (Nat×Ob)},hL l i=some o→(i,o)∈l
  | [],h=>by cases h
  | (j,q)::r,h=>by
    rw[nH] at h;by_cases e:i=j
    ·rw[e,upd_same] at h;cases h;rw[e]; simp
    ·rw[upd_ne _ _ e] at h;exact ace _ (jw h)
theorem Uv {l:List (Nat×V)} {i t:Nat} (h:i∈(aT l t).ids):i∈l.flatMap fun p=>p.2.ids:=by
  induction l with
  | nil=>cases h
  | cons p r ih =>
    obtain⟨j,v⟩:=p;rw[uY] at h;rw[ab0,ab5];by_cases e:t=j
    ·rw[e,upd_same] at h; exact .inl h
    ·rw[upd_ne _ _ e] at h; exact .inr (ih h)
def qM (f:Nat→V) (g:Nat→Nat):List (Nat×V)→Prop
  | []=>True
  | (i,v)::r=>f i=v.ren g∧qM f g r
def iJ (h:aA) (g:Nat→Nat):List (Nat×Ob)→Prop
  | []=>True
  | (i,o)::r=>h (g i)=some (o.ren g)∧iJ h g r
def sT:List Nat→Bool
  | []=>true
  | i::r=>!r.contains i&&sT r
theorem Jp (f:Nat→V) (g:Nat→Nat):qM f g []=True:=rfl
theorem G5 (f:Nat→V) (g:Nat→Nat) (i:Nat) (v:V) (r:List (Nat×V)):qM f g ((i,v)::r)=(f i=v.ren g∧qM f g r):=rfl
theorem Jq (h:aA) (g:Nat→Nat):iJ h g []=True:=rfl
theorem G6 (h:aA) (g:Nat→Nat) (i:Nat) (o:Ob) (r:List (Nat×Ob)):iJ h g ((i,o)::r)=(h (g i)=some (o.ren g)∧iJ h g r):=rfl
theorem Js {f:Nat→V} {g:Nat→Nat}:∀ {l:List (Nat×V)},qM f g l→∀ p∈l,f p.1=p.2.ren g
  | (i,v)::r,h,p,hp=>by
    rcases acm.1 hp with rfl | hp
    ·exact h.1
    ·exact Js h.2 p hp
theorem vy {f:aA} {g:Nat→Nat}:∀ {l:List (Nat×Ob)},iJ f g l→∀ p∈l,f (g p.1)=some (p.2.ren g)
  | (i,v)::r,h,p,hp=>by
    rcases acm.1 hp with rfl | hp
    ·exact h.1
    ·exact vy h.2 p hp
theorem zF:∀ {l:List Nat},sT l=true→l.Nodup
  | [],_=>.nil
  | i::r,h=>by
    simp only[sT,acf,Bool.not_eq_true'] at h;refine adA.2 ⟨fun hi=>?_,zF h.2⟩;have:=List.contains_iff_mem.2 hi;rw[h.1] at this;cases this
theorem ap {σ:St} (g:Nat→Nat) {fl:List (Nat×V)} {hl:List (Nat×Ob)} {ul:List Nat} (h1':qM σ.f g fl) (h2':iJ σ.h g hl)
    (h3':sT (hl.map fun p=>g p.1)=true) (h4:((fl.flatMap fun p=>p.2.ids)++(hl.flatMap fun p=>p.1::p.2.ids)).all (fun i=>ul.contains i)=true):fi σ ⟨aT fl,hL hl,uL ul⟩:=by
  have h1:=Js h1';have h2:=vy h2';have h3:=zF h3';have used:∀ i,i∈(fl.flatMap fun p=>p.2.ids)++(hl.flatMap fun p=>p.1::p.2.ids)→uL ul i=true:=by
    intro i hi;rw[abZ] at h4;exact Mo (by simpa using h4 i hi)
  refine⟨⟨g,Mq h1,fun i o ho=>h2 (i,o) (jw ho),fun i j hi hj e=>?_⟩,fun t i hi=>used i (acb _ (Uv hi)),fun i o ho=>⟨used i ?_,fun j hj=>used j ?_⟩⟩
  ·obtain⟨o,ho⟩:=ab4.1 hi;obtain⟨q,hq⟩:=ab4.1 hj;have m1:=jw ho;have m2:=jw hq;have key:∀ {l:List (Nat×Ob)},(l.map fun p=>g p.1).Nodup→∀ {x y:Nat×Ob},x∈l→y∈l→g x.1=g y.1→x=y:=by
     intro l
     induction l with
     | nil=>intro _ x y hx; cases hx
     | cons p r ih =>
       intro hn x y hx hy e;rw[abK,adA] at hn;rcases acm.1 hx with rfl | hx' <;> rcases acm.1 hy with rfl | hy'
       ·rfl
       ·exact (hn.1 (ab9.2 ⟨y,hy',e.symm⟩)).elim
       ·exact (hn.1 (ab9.2 ⟨x,hx',e⟩)).elim
       ·exact ih hn.2 hx' hy' e
   exact congrArg Prod.fst (key h3 m1 m2 e)
  ·exact abW _ (abQ.2 ⟨_,jw ho,by simp⟩)
  ·exact abW _ (abQ.2 ⟨_,jw ho,by simp[hj]⟩)
section
variable {P:Program} {G:ah}
def tk {α:Type} (st:α→St) (μ:α→Nat) (ok:α→Prop) (a:α) (Q:AX→St→Prop) (e:AX) (s:St):Prop :=
  match e with | .nrm=>∃ b,μ b<μ a∧ok b∧fi s (st b) | e=>Q e s
theorem Jt {α:Type} (st:α→St) (μ:α→Nat) (ok:α→Prop) (a:α) (Q:AX→St→Prop) (i:Nat) (s:St):tk st μ ok a Q (.ex i) s=Q (.ex i) s:=rfl
theorem G7 {α:Type} (st:α→St) (μ:α→Nat) (ok:α→Prop) (a:α) (Q:AX→St→Prop) (s:St):tk st μ ok a Q .ret s=Q .ret s:=rfl
theorem aU {α:Type} {st:α→St} {μ:α→Nat} {ok:α→Prop} {a:α} {Q:AX→St→Prop} {s:St} (b:α) (h1:μ b<μ a) (h2:ok b) (h3:fi s (st b)):tk st μ ok a Q .nrm s:=⟨b,h1,h2,h3⟩
theorem ba {α:Type} {c:aS} {Q:AX→St→Prop} {σ:St} (st:α→St) (μ:α→Nat) (ok:α→Prop) (a0:α) (h0:ok a0) (he:fi σ (st a0)) (round:∀ a,ok a→bL P G c (tk st μ ok a Q) (st a)):bL P G (.loop c) Q σ:=by
  refine⟨fun n s=>∃ a,μ a=n∧ok a∧s=st a,⟨μ a0,st a0,he,a0,rfl,h0,rfl⟩,?_⟩;rintro n s ⟨a,rfl,ha,rfl⟩;have key:(tk st μ ok a Q)=(fun e s'=>match e with | .nrm=>∃ n' τ,n'<μ a∧fi s' τ∧∃ a,μ a=n'∧ok a∧τ=st a | e=>Q e s'):=by
    funext e s'
    cases e with
    | nrm =>
      refine propext ⟨?_,?_⟩
      ·rintro⟨b,h1,h2,h3⟩;exact⟨μ b,st b,h1,h3,b,rfl,h2,rfl⟩
      ·rintro⟨n',τ,h1,h2,b,rfl,h3,rfl⟩;exact⟨b,h1,h3,h2⟩
    | ex i=>rfl
    | ret=>rfl
  have:=round a ha;rw[key] at this;exact this
end
theorem kW {P:Program} {G:ah} {F:FuncId} {args:List D} {sz:Nat} {es:List D} (h:aB P G F args (.w (.c (.fr sz es)))):aB P G F args (.w (.c (.d (.sl es)))):=by
  intro w S vs h1 h2 h3;refine (h w S vs h1 h2 h3).mono ?_;rintro e w' ⟨v,S',bl,rfl,k1,k2,k3,k4⟩;have hfresh:∀ b∈bl,w.heap.size≤b∧b<w'.heap.size:=by
    intro b hb;rcases k4 with ⟨_,_,rfl⟩ | ⟨b',cap,ty,N,rfl,_,_,_,q1,_,q2⟩
    ·cases hb
    ·simp only[abU] at hb;subst hb;obtain⟨f1,_,cur,ty',fz,f3,_⟩:=q2;exact⟨f1,(abX.1 f3).1⟩
  refine⟨v,fun b i=>S' b i∨b∈bl,[],rfl,k1,fun b i hs=>?_,.nil,?_⟩
  ·rcases hs with hs | hs
   ·exact k2 b i hs
   ·exact⟨.inr (hfresh b hs).1,(hfresh b hs).2⟩
  ·have:=pY (m:=fun _=>none) (x:=.c (.fr sz es)) k4 (T:=fun b i=>S' b i∨b∈bl) (fun _ _ h=>.inl h) (fun b hb _=>.inr hb);exact⟨this.1,rfl⟩
theorem Xi {S S':aw} {w:World} {B:Nat} {v:Value} {y:D} {bl:List Nat} (h:fX S w B v (.c (.d y)) bl) (hS:∀ b i,S b i→S' b i):fX S' w B v (.c (.d y)) []∧bl=[]:=by
  cases y with
  | agg cs =>
    obtain⟨⟨us,h1,h2⟩,h3⟩:=h;exact⟨⟨⟨us,h1,h2.weak fun _ _ _ _ h=>h.mono hS⟩,rfl⟩,h3⟩
  | _ =>
    obtain⟨h1,h2⟩:=h;exact⟨⟨h1.mono hS,rfl⟩,h2⟩
theorem rL {P:Program} {G:ah} {F:FuncId} {args:List D} {sz:Nat} {es:List D} {y:D} (h:aB P G F args (.tup [.c (.fr sz es),.c (.d y)])):aB P G F args (.tup [.c (.d (.sl es)),.c (.d y)]):=by
  intro w S vs h1 h2 h3;refine (h w S vs h1 h2 h3).mono ?_;rintro e w' ⟨v,S',bl,rfl,k1,k2,k3,us,rfl,k4⟩;cases k4 with
  | @cons v1 c1 b1 vs1 cs1 b2 q1 q2 =>
  cases q2 with
  | @cons v2 c2 b3 vs2 cs2 b4 q3 q4 =>
  cases q4;have hfresh:∀ b∈b1,w.heap.size≤b∧b<w'.heap.size:=by
    intro b hb;rcases q1 with ⟨_,_,rfl⟩ | ⟨b',cap,ty,N,rfl,_,_,_,q1,_,q2⟩
    ·cases hb
    ·simp only[abU] at hb;subst hb;obtain⟨f1,_,cur,ty',fz,f3,_⟩:=q2;exact⟨f1,(abX.1 f3).1⟩
  refine⟨_,fun b i=>S' b i∨b∈b1,[],rfl,k1,fun b i hs=>?_,.nil,_,rfl,?_⟩
  ·rcases hs with hs | hs
   ·exact k2 b i hs
   ·exact⟨.inr (hfresh b hs).1,(hfresh b hs).2⟩
  ·have hx:=pY (m:=fun _=>none) (x:=.c (.fr sz es)) q1 (T:=fun b i=>S' b i∨b∈b1) (fun _ _ h=>.inl h) (fun b hb _=>.inr hb);exact .cons (b1:=[]) (b2:=[]) ⟨hx.1,rfl⟩ (.cons (b1:=[]) (b2:=[]) (Xi q3 fun _ _ h=>.inl h).1 .nil)
abbrev bs (l:List UInt8):D:=.sl (l.map bD)
def wD (x:UInt32):D:=.int .u32 (x.toNat:Int)
theorem OC (x:UInt8):fK (.w (.c (.d (bD x))))=some (.u8,(x.toNat:Int)):=rfl
theorem OD (x:UInt32):fK (.w (.c (.d (wD x))))=some (.u32,(x.toNat:Int)):=rfl
theorem Ju (op:BinOp) (x:UInt8) (k:IntKind) (n:Int):bW op (.w (.c (.d (bD x)))) (.w (.c (.d (.int k n))))=bW op (.w (.c (.d (.int .u8 (x.toNat:Int))))) (.w (.c (.d (.int k n)))):=rfl
theorem Jv (op:BinOp) (x:UInt8) (k:IntKind) (n:Int):bW op (.w (.c (.d (.int k n)))) (.w (.c (.d (bD x))))=bW op (.w (.c (.d (.int k n)))) (.w (.c (.d (.int .u8 (x.toNat:Int))))):=rfl
theorem G8 (x y:UInt8):bW .lss (.w (.c (.d (bD x)))) (.w (.c (.d (bD y))))=bW .lss (.w (.c (.d (.int .u8 (x.toNat:Int))))) (.w (.c (.d (.int .u8 (y.toNat:Int))))):=rfl
theorem G9 (x y:UInt8):bW .leq (.w (.c (.d (bD x)))) (.w (.c (.d (bD y))))=bW .leq (.w (.c (.d (.int .u8 (x.toNat:Int))))) (.w (.c (.d (.int .u8 (y.toNat:Int))))):=rfl
theorem Ha (x y:UInt8):bW .gtr (.w (.c (.d (bD x)))) (.w (.c (.d (bD y))))=bW .gtr (.w (.c (.d (.int .u8 (x.toNat:Int))))) (.w (.c (.d (.int .u8 (y.toNat:Int))))):=rfl
theorem Hb (x y:UInt8):bW .geq (.w (.c (.d (bD x)))) (.w (.c (.d (bD y))))=bW .geq (.w (.c (.d (.int .u8 (x.toNat:Int))))) (.w (.c (.d (.int .u8 (y.toNat:Int))))):=rfl
theorem Hc (x y:UInt8):bW .eql (.w (.c (.d (bD x)))) (.w (.c (.d (bD y))))=bW .eql (.w (.c (.d (.int .u8 (x.toNat:Int))))) (.w (.c (.d (.int .u8 (y.toNat:Int))))):=rfl
theorem He (x y:UInt8):bW .neq (.w (.c (.d (bD x)))) (.w (.c (.d (bD y))))=bW .neq (.w (.c (.d (.int .u8 (x.toNat:Int))))) (.w (.c (.d (.int .u8 (y.toNat:Int))))):=rfl
theorem Hf (x y:UInt8):bW .add (.w (.c (.d (bD x)))) (.w (.c (.d (bD y))))=bW .add (.w (.c (.d (.int .u8 (x.toNat:Int))))) (.w (.c (.d (.int .u8 (y.toNat:Int))))):=rfl
theorem Hg (x y:UInt8):bW .sub (.w (.c (.d (bD x)))) (.w (.c (.d (bD y))))=bW .sub (.w (.c (.d (.int .u8 (x.toNat:Int))))) (.w (.c (.d (.int .u8 (y.toNat:Int))))):=rfl
theorem OE (op:UnOp) (x:UInt8):lv op (.w (.c (.d (bD x))))=lv op (.w (.c (.d (.int .u8 (x.toNat:Int))))):=rfl
theorem E1 (k:IntKind) (n:Int):D.cells (.int k n)=[.int k n]:=rfl
theorem Eh (b:Bool):D.cells (.bool b)=[.bool b]:=rfl
theorem E2 (b:ByteArray):D.cells (.str b)=[.str b]:=rfl
theorem Hh (es:List D):D.cells (.sl es)=[.sl es]:=rfl
theorem E4 (cs:List D):D.cells (.agg cs)=cs:=rfl
theorem Hi (x:UInt32):(wD x).cells=[wD x]:=rfl
theorem Hj (a:UInt8):eT 1 [bD a]=true:=rfl
theorem Hk (a b:UInt8):eT 1 [bD a,bD b]=true:=rfl
theorem Hl (x:UInt8):(bD x).cells=[bD x]:=rfl
theorem uk {α:Type} (f:α→D) (hf:∀ x,(f x).cells.length=1) (l:List α):eT 1 (l.map f)=true:=by
  unfold eT;rw[abZ];intro d hd;obtain⟨x,_,rfl⟩:=ab9.1 hd;simp[hf x]
theorem Hm (l:List UInt8):eT 1 (l.map bD)=true:=uk bD (fun _=>rfl) l
theorem Hn (l:List UInt32):eT 1 (l.map wD)=true:=uk wD (fun _=>rfl) l
theorem zG:∀ l:List UInt8,m9 (l.map bD)=some l
  | []=>rfl
  | x::l=>by
    have h:=x.toNat_lt;simp only[abK,m9,zG l,bD,Dc];rw[if_pos (by omega)];simp
theorem bw {α β:Type} (f:α→β) (l:List α) (n:Nat):(l.map f).take n=(l.take n).map f:=List.map_take.symm
theorem eS {α β:Type} (f:α→β) (l:List α) (n:Nat):(l.map f).drop n=(l.drop n).map f:=List.map_drop.symm
theorem cy {α β:Type} (f:α→β) (l:List α):(l.map f).length=l.length:=abY _
theorem ic {α β:Type} (f:α→β) (l m:List α):l.map f++m.map f=(l++m).map f:=abT.symm
theorem aD {α β:Type} (f:α→β) (l:List α) (i:Nat):(l.map f)[i]?=(l[i]?).map f:=acG
theorem nI {α β:Type} (f:α→β) (l:List α) (i:Nat) (x:α):(l.map f).set i (f x)=(l.set i x).map f:=List.map_set.symm
theorem yE {α:Type} (f:α→D) (hf:∀ x,(f x).cells=[f x]):∀ l:List α,(l.map f).flatMap D.cells=l.map f
  | []=>rfl
  | x::l=>by rw[abK,ab0,hf x,yE f hf l]; rfl
theorem Jw (l:List UInt32):(l.map wD).flatMap D.cells=l.map wD:=yE wD (fun _=>rfl) l
theorem iO (l:List UInt8):(l.map bD).flatMap D.cells=l.map bD:=yE bD (fun _=>rfl) l
def wT (k:IntKind) (n:Int):Int:=k.wrap n
theorem Mr (n:Int):IntKind.i64.wrap n=if -9223372036854775808≤n∧n≤9223372036854775807 then n else wT .i64 n:=by
  split
  ·exact IntWalk.i64_in _ ‹_›
  ·rfl
theorem Ba (n:Int):IntKind.u64.wrap n=if 0≤n∧n≤18446744073709551615 then n else wT .u64 n:=by
  split
  ·exact IntWalk.u64_in _ (by omega)
  ·rfl
theorem Ms (n:Int):IntKind.u32.wrap n=if 0≤n∧n≤4294967295 then n else wT .u32 n:=by
  split
  ·exact IntWalk.u32_in _ (by omega)
  ·rfl
theorem OG (n:Int):IntKind.u8.wrap n=if 0≤n∧n≤255 then n else wT .u8 n:=by
  split
  ·exact IntWalk.u8_in _ (by omega)
  ·rfl
theorem abt (s:Nat) (l:List UInt32):V.flat (.w (.c (.fr s (l.map wD))))=true:=by
  simp only[V.flat,W.flat,C.flat,List.all_map,abZ]; intro x _; rfl
theorem fy (s:Nat) (l:List UInt8):V.flat (.w (.c (.fr s (l.map bD))))=true:=by
  simp only[V.flat,W.flat,C.flat,List.all_map,abZ]; intro x _; rfl
theorem E5 (sz:Nat):eT sz []=true:=rfl
theorem Ei (sz:Nat) (e:D) (es:List D):eT sz (e::es)=(e.cells.length==sz&&eT sz es):=rfl
theorem E6 (a:ByteArray):m7 .eql a a=some (.bool true):=by simp[m7]
theorem PF {α:Type} (a:α):List.replicate 1 a=[a]:=rfl
theorem PG {α:Type} (a:α):List.replicate 2 a=[a,a]:=rfl
theorem PH {α:Type} (a:α):List.replicate 3 a=[a,a,a]:=rfl
theorem PI {α:Type} (a:α):List.replicate 4 a=[a,a,a,a]:=rfl
theorem PK {α:Type} (a:α):List.replicate 5 a=[a,a,a,a,a]:=rfl
theorem PM {α:Type} (a:α):List.replicate 6 a=[a,a,a,a,a,a]:=rfl
def abu:=@kv
def Bb:Option D→Bool | some e=>e.one | none=>false
theorem DW (e:D):Bb (some e)=e.one:=rfl
theorem OH (es:List D) (i s:Nat) (x:D):kv .sc (.c (.d x)) i 0 (.row s es)=bif Bb es[i]?&&x.one then some (.row s (es.set i x)) else abu .sc (.c (.d x)) i 0 (.row s es):=by
  cases hc:(Bb es[i]?&&x.one) with
  | false=>rfl
  | true =>
    rw[acf] at hc;obtain⟨h1,h2⟩:=hc;cases he:es[i]? with
    | none=>rw[he] at h1; cases h1
    | some e =>
      rw[he] at h1;simp only[kv,he,gU,cond_true];cases e <;> first | (cases h1; done) | simp[h2]
theorem Al (k:IntKind) (n:Int):D.one (.int k n)=true:=rfl
theorem Ho (b:Bool):D.one (.bool b)=true:=rfl
theorem Jy (b:ByteArray):D.one (.str b)=true:=rfl
theorem Mt (es:List D):D.one (.sl es)=true:=rfl
theorem d8 (x:UInt8):D.one (bD x)=true:=rfl
theorem wU (x:UInt32):D.one (wD x)=true:=rfl
theorem PN (x:UInt32):cO (.c (.d (wD x)))=[.d (wD x)]:=rfl
theorem PO (x:UInt8):cO (.c (.d (bD x)))=[.d (bD x)]:=rfl
theorem Mu (k:IntKind) (n:Int):cO (.c (.d (.int k n)))=[.d (.int k n)]:=rfl
theorem Jz (b:Bool):cO (.c (.d (.bool b)))=[.d (.bool b)]:=rfl
theorem Mv (b:ByteArray):cO (.c (.d (.str b)))=[.d (.str b)]:=rfl
theorem OI (es:List D):cO (.c (.d (.sl es)))=[.d (.sl es)]:=rfl
theorem Mw (cs:List D):cO (.c (.d (.agg cs)))=cs.map C.d:=rfl
theorem Mx:cO (.c .nil)=[.nil]:=rfl
theorem My (id sz off n:Nat):cO (.c (.own id sz off n))=[.own id sz off n]:=rfl
theorem Mz (id sz i o:Nat):cO (.c (.ptr id sz i o))=[.ptr id sz i o]:=rfl
theorem OJ (id sz:Nat):cO (.c (.pa id sz))=[.pa id sz]:=rfl
theorem MA (cs:List C):cO (.mix cs)=cs:=rfl
theorem qb {σ:St} {p:Nat×Option Kd} {x:D} (h:cL σ p=some (.c (.d x))):d7 σ [p] (.w (.c (.d x))) :=
  ⟨[.c (.d x)],by simp[aX,h],.inl ⟨by simp[W.ids,C.ids],rfl⟩⟩
theorem eI {σ:St} {p:Nat×Option Kd} {id sz n s:Nat} {es:List D} (h:cL σ p=some (.c (.own id sz 0 n))) (e:σ.h id=some (.row s es)) (hn:n=es.length):d7 σ [p] (.w (.c (.fr sz es))):=by
  refine⟨[.c (.own id sz 0 n)],by simp[aX,h],.inl ⟨by simp[W.ids,C.ids],rfl,rfl,?_⟩⟩;subst hn;rw[e];exact⟨by simp[eA],trivial⟩
theorem Hp {σ:St} {p:Nat×Option Kd} {id sz n s:Nat} {full:List D} (h:cL σ p=some (.c (.own id sz 0 n))) (e:σ.h id=some (.row s full)) (hn:n≤full.length):d7 σ [p] (.w (.c (.fr sz (full.take n)))):=by
  refine⟨[.c (.own id sz 0 n)],by simp[aX,h],.inl ⟨by simp[W.ids,C.ids],rfl,rfl,?_⟩⟩;rw[e];exact⟨by simp[eA,hn],trivial⟩
theorem rM {σ:St} {p:Nat×Option Kd} {sz:Nat} (h:cL σ p=some (.c .nil)):d7 σ [p] (.w (.c (.fr sz []))) :=
  ⟨[.c .nil],by simp[aX,h],.inl ⟨by simp[W.ids,C.ids],rfl⟩⟩
theorem pI {σ:St} {p:Nat×Option Kd} {x:D} (h1:(cL σ p).bind (toW σ.h)=some x):d7 σ [p] (.w (.c (.d x))):=by
  obtain⟨w1,a1,b1⟩:=acu.1 h1;exact⟨[w1],by simp[aX,a1],.inr b1⟩
theorem dk {σ:St} {p q:Nat×Option Kd} {x y:D} (h1:(cL σ p).bind (toW σ.h)=some x) (h2:(cL σ q).bind (toW σ.h)=some y):d7 σ [p,q] (.tup [.c (.d x),.c (.d y)]):=by
  obtain⟨w1,a1,b1⟩:=acu.1 h1;obtain⟨w2,a2,b2⟩:=acu.1 h2;exact⟨[w1,w2],by simp[aX,a1,a2],.inr (.cons ⟨x,rfl,b1⟩ (.cons ⟨y,rfl,b2⟩ .nil))⟩
theorem fT {σ:St} {p q r:Nat×Option Kd} {x y z:D} (h1:(cL σ p).bind (toW σ.h)=some x) (h2:(cL σ q).bind (toW σ.h)=some y) (h3:(cL σ r).bind (toW σ.h)=some z):d7 σ [p,q,r] (.tup [.c (.d x),.c (.d y),.c (.d z)]):=by
  obtain⟨w1,a1,b1⟩:=acu.1 h1;obtain⟨w2,a2,b2⟩:=acu.1 h2;obtain⟨w3,a3,b3⟩:=acu.1 h3;exact⟨[w1,w2,w3],by simp[aX,a1,a2,a3],.inr (.cons ⟨x,rfl,b1⟩ (.cons ⟨y,rfl,b2⟩ (.cons ⟨z,rfl,b3⟩ .nil)))⟩
theorem Rw {σ:St} {p q:Nat×Option Kd} {id sz n s:Nat} {es:List D} {y:D} (h1:cL σ p=some (.c (.own id sz 0 n))) (e:σ.h id=some (.row s es)) (hn:n=es.length) (h2:cL σ q=some (.c (.d y))):d7 σ [p,q] (.tup [.c (.fr sz es),.c (.d y)]):=by
  refine⟨[.c (.own id sz 0 n),.c (.d y)],by simp[aX,h1,h2],.inl ⟨by simp[W.ids,C.ids],.cons ⟨rfl,rfl,?_⟩ (.cons ?_ .nil)⟩⟩
  ·subst hn;rw[e];exact⟨by simp[eA],trivial⟩
  ·cases y <;> rfl
theorem Rx {σ:St} {p q:Nat×Option Kd} {sz:Nat} {y:D} (h1:cL σ p=some (.c .nil)) (h2:cL σ q=some (.c (.d y))):d7 σ [p,q] (.tup [.c (.fr sz []),.c (.d y)]):=by
  refine⟨[.c .nil,.c (.d y)],by simp[aX,h1,h2],.inl ⟨by simp[W.ids,C.ids],.cons rfl (.cons ?_ .nil)⟩⟩;cases y <;> rfl
def km (h:aA) (sz:Nat):W→Option (List D)
  | .c (.own id sz' off n)=>match h id with
    | some (.row _ es)=>if off=0∧n=es.length∧sz'=sz then some es else none
    | _=>none
  | .c .nil=>some []
  | _=>none
theorem Hq (h:aA) (sz id sz' off n:Nat):km h sz (.c (.own id sz' off n))=(match h id with
    | some (.row _ es)=>if off=0∧n=es.length∧sz'=sz then some es else none
    | _=>none):=rfl
theorem Hr (h:aA) (sz:Nat):km h sz (.c .nil)=some []:=rfl
theorem v6 {σ:St} {p:Nat×Option Kd} {sz:Nat} {es:List D} (h1:(cL σ p).bind (km σ.h sz)=some es):d7 σ [p] (.w (.c (.fr sz es))):=by
  obtain⟨w,a,b⟩:=acu.1 h1;unfold km at b;split at b
  ·split at b
   ·rename_i e;split at b
    ·rename_i hc;obtain⟨rfl,rfl,rfl⟩:=hc;obtain rfl:=Option.some.inj b;exact eI a e rfl
    ·cases b
   ·cases b
  ·obtain rfl:=Option.some.inj b;exact rM a
  ·cases b
theorem v7 {σ:St} {p q:Nat×Option Kd} {sz:Nat} {es:List D} {y:D} (h1:(cL σ p).bind (km σ.h sz)=some es) (h2:cL σ q=some (.c (.d y))):d7 σ [p,q] (.tup [.c (.fr sz es),.c (.d y)]):=by
  obtain⟨w,a,b⟩:=acu.1 h1;unfold km at b;split at b
  ·split at b
   ·rename_i e;split at b
    ·rename_i hc;obtain⟨rfl,rfl,rfl⟩:=hc;obtain rfl:=Option.some.inj b;exact Rw a e rfl h2
    ·cases b
   ·cases b
  ·obtain rfl:=Option.some.inj b;exact Rx a h2
  ·cases b
end Go.Proofs.YtofonnokanoflaaGreat
