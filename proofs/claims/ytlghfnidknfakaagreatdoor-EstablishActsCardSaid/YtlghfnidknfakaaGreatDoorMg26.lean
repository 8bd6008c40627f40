/- Texts of one's own, merged: from: The plain logic (19): loops; states by lists; bytes and words as data. Own work. -/
import Derived.IntWalk
import Derived.Test.YtlghfnidknfakaaGreatDoorMg25
set_option linter.unusedVariables false
set_option linter.unusedSimpArgs false
namespace Go.Proofs.YtlghfnidknfakaaGreatDoor
open Go.RowKit IntWalk
def aQ:List (Nat×V)→Nat→V
  | []=>uf
  | (i,v)::r=>upd (aQ r) i v
def hL:List (Nat×Ob)→aK
  | []=>hN
  | (i,o)::r=>upd (hL r) i (some o)
def uL:List Nat→Nat→Bool
  | []=>uN
  | i::r=>upd (uL r) i true
theorem J6:aQ []=uf:=rfl
theorem uE (i:Nat) (v:V) (r:List (Nat×V)):aQ ((i,v)::r)=upd (aQ r) i v:=rfl
theorem MB:hL []=hN:=rfl
theorem As (i:Nat) (o:Ob) (r:List (Nat×Ob)):hL ((i,o)::r)=upd (hL r) i (some o):=rfl
theorem MC:uL []=uN:=rfl
theorem Au (i:Nat) (r:List Nat):uL (i::r)=upd (uL r) i true:=rfl
theorem MD {i:Nat}:∀ {l:List Nat},i∈l→uL l i=true
  | j::r,h=>by
    rw[Au];by_cases e:i=j
    ·rw[e]; exact upd_same _ _ _
    ·rw[upd_ne _ _ e];exact MD (by simpa [e] using h)
theorem Bf {f:Nat→V} {g:Nat→Nat}:∀ {l:List (Nat×V)},(∀ p∈l,f p.1=p.2.ren g)→∀ t,aQ l t=.undef∨f t=(aQ l t).ren g
  | [],_,_=>.inl rfl
  | (i,v)::r,h,t=>by
    rw[uE];by_cases e:t=i
    ·rw[e,upd_same]; exact .inr (h (i,v) (by simp))
    ·rw[upd_ne _ _ e];exact Bf (fun p hp=>h p (by simp[hp])) t
theorem pC {i:Nat} {o:Ob}:∀ {l:List (Nat×Ob)},hL l i=some o→(i,o)∈l
  | [],h=>by cases h
  | (j,q)::r,h=>by
    rw[As] at h;by_cases e:i=j
    ·rw[e,upd_same] at h;cases h;rw[e]; simp
    ·rw[upd_ne _ _ e] at h;exact abD _ (pC h)
theorem J7 {l:List (Nat×V)} {i t:Nat} (h:i∈(aQ l t).ids):i∈l.flatMap fun p=>p.2.ids:=by
  induction l with
  | nil=>cases h
  | cons p r ih =>
    obtain⟨j,v⟩:=p;rw[uE] at h;rw[abu,abn];by_cases e:t=j
    ·rw[e,upd_same] at h; exact .inl h
    ·rw[upd_ne _ _ e] at h; exact .inr (ih h)
def my (f:Nat→V) (g:Nat→Nat):List (Nat×V)→Prop
  | []=>True
  | (i,v)::r=>f i=v.ren g∧my f g r
def qH (h:aK) (g:Nat→Nat):List (Nat×Ob)→Prop
  | []=>True
  | (i,o)::r=>h (g i)=some (o.ren g)∧qH h g r
def wJ:List Nat→Bool
  | []=>true
  | i::r=>!r.contains i&&wJ r
theorem J8 (f:Nat→V) (g:Nat→Nat):my f g []=True:=rfl
theorem Hz (f:Nat→V) (g:Nat→Nat) (i:Nat) (v:V) (r:List (Nat×V)):my f g ((i,v)::r)=(f i=v.ren g∧my f g r):=rfl
theorem J9 (h:aK) (g:Nat→Nat):qH h g []=True:=rfl
theorem HA (h:aK) (g:Nat→Nat) (i:Nat) (o:Ob) (r:List (Nat×Ob)):qH h g ((i,o)::r)=(h (g i)=some (o.ren g)∧qH h g r):=rfl
theorem Av {f:Nat→V} {g:Nat→Nat}:∀ {l:List (Nat×V)},my f g l→∀ p∈l,f p.1=p.2.ren g
  | (i,v)::r,h,p,hp=>by
    rcases abr.1 hp with rfl | hp
    ·exact h.1
    ·exact Av h.2 p hp
theorem Ka {f:aK} {g:Nat→Nat}:∀ {l:List (Nat×Ob)},qH f g l→∀ p∈l,f (g p.1)=some (p.2.ren g)
  | (i,v)::r,h,p,hp=>by
    rcases abr.1 hp with rfl | hp
    ·exact h.1
    ·exact Ka h.2 p hp
theorem HB:∀ {l:List Nat},wJ l=true→l.Nodup
  | [],_=>.nil
  | i::r,h=>by
    simp only[wJ,abH,ade] at h;refine List.nodup_cons.2 ⟨fun hi=>?_,HB h.2⟩;have:=List.contains_iff_mem.2 hi;rw[h.1] at this;cases this
theorem aj {σ:St} (g:Nat→Nat) {fl:List (Nat×V)} {hl:List (Nat×Ob)} {ul:List Nat} (h1':my σ.f g fl) (h2':qH σ.h g hl)
    (h3':wJ (hl.map fun p=>g p.1)=true) (h4:((fl.flatMap fun p=>p.2.ids)++(hl.flatMap fun p=>p.1::p.2.ids)).all (fun i=>ul.contains i)=true):eP σ ⟨aQ fl,hL hl,uL ul⟩:=by
  have h1:=Av h1';have h2:=Ka h2';have h3:=HB h3';have used:∀ i,i∈(fl.flatMap fun p=>p.2.ids)++(hl.flatMap fun p=>p.1::p.2.ids)→uL ul i=true:=by
    intro i hi;rw[aby] at h4;exact MD (by simpa using h4 i hi)
  refine⟨⟨g,Bf h1,fun i o ho=>h2 (i,o) (pC ho),fun i j hi hj e=>?_⟩,fun t i hi=>used i (abT _ (J7 hi)),fun i o ho=>⟨used i ?_,fun j hj=>used j ?_⟩⟩
  ·obtain⟨o,ho⟩:=abA.1 hi;obtain⟨q,hq⟩:=abA.1 hj;have m1:=pC ho;have m2:=pC hq;have key:∀ {l:List (Nat×Ob)},(l.map fun p=>g p.1).Nodup→∀ {x y:Nat×Ob},x∈l→y∈l→g x.1=g y.1→x=y:=by
     intro l
     induction l with
     | nil=>intro _ x y hx; cases hx
     | cons p r ih =>
       intro hn x y hx hy e;rw[abd,List.nodup_cons] at hn;rcases abr.1 hx with rfl | hx' <;> rcases abr.1 hy with rfl | hy'
       ·rfl
       ·exact (hn.1 (abB.2 ⟨y,hy',e.symm⟩)).elim
       ·exact (hn.1 (abB.2 ⟨x,hx',e⟩)).elim
       ·exact ih hn.2 hx' hy' e
   exact congrArg Prod.fst (key h3 m1 m2 e)
  ·exact abw _ (abj.2 ⟨_,pC ho,by simp⟩)
  ·exact abw _ (abj.2 ⟨_,pC ho,by simp[hj]⟩)
section
variable {P:Program} {G:ah}
def te {α:Type} (st:α→St) (μ:α→Nat) (ok:α→Prop) (a:α) (Q:AX→St→Prop) (e:AX) (s:St):Prop :=
  match e with | .nrm=>∃ b,μ b<μ a∧ok b∧eP s (st b) | e=>Q e s
theorem Kb {α:Type} (st:α→St) (μ:α→Nat) (ok:α→Prop) (a:α) (Q:AX→St→Prop) (i:Nat) (s:St):te st μ ok a Q (.ex i) s=Q (.ex i) s:=rfl
theorem HC {α:Type} (st:α→St) (μ:α→Nat) (ok:α→Prop) (a:α) (Q:AX→St→Prop) (s:St):te st μ ok a Q .ret s=Q .ret s:=rfl
theorem aM {α:Type} {st:α→St} {μ:α→Nat} {ok:α→Prop} {a:α} {Q:AX→St→Prop} {s:St} (b:α) (h1:μ b<μ a) (h2:ok b) (h3:eP s (st b)):te st μ ok a Q .nrm s:=⟨b,h1,h2,h3⟩
theorem aU {α:Type} {c:aN} {Q:AX→St→Prop} {σ:St} (st:α→St) (μ:α→Nat) (ok:α→Prop) (a0:α) (h0:ok a0) (he:eP σ (st a0)) (round:∀ a,ok a→bI P G c (te st μ ok a Q) (st a)):bI P G (.loop c) Q σ:=by
  refine⟨fun n s=>∃ a,μ a=n∧ok a∧s=st a,⟨μ a0,st a0,he,a0,rfl,h0,rfl⟩,?_⟩;rintro n s ⟨a,rfl,ha,rfl⟩;have key:(te st μ ok a Q)=(fun e s'=>match e with | .nrm=>∃ n' τ,n'<μ a∧eP s' τ∧∃ a,μ a=n'∧ok a∧τ=st a | e=>Q e s'):=by
    funext e s'
    cases e with
    | nrm =>
      refine propext ⟨?_,?_⟩
      ·rintro⟨b,h1,h2,h3⟩;exact⟨μ b,st b,h1,h3,b,rfl,h2,rfl⟩
      ·rintro⟨n',τ,h1,h2,b,rfl,h3,rfl⟩;exact⟨b,h1,h3,h2⟩
    | ex i=>rfl
    | ret=>rfl
  have:=round a ha;rw[key] at this;exact this
end
theorem li {P:Program} {G:ah} {F:FuncId} {args:List D} {sz:Nat} {es:List D} (h:aw P G F args (.w (.c (.fr sz es)))):aw P G F args (.w (.c (.d (.sl es)))):=by
  intro w S vs h1 h2 h3;refine (h w S vs h1 h2 h3).mono ?_;rintro e w' ⟨v,S',bl,rfl,k1,k2,k3,k4⟩;have hfresh:∀ b∈bl,w.heap.size≤b∧b<w'.heap.size:=by
    intro b hb;rcases k4 with ⟨_,_,rfl⟩ | ⟨b',cap,ty,N,rfl,_,_,_,q1,_,q2⟩
    ·cases hb
    ·simp only[abe] at hb;subst hb;obtain⟨f1,_,cur,ty',fz,f3,_⟩:=q2;exact⟨f1,(abp.1 f3).1⟩
  refine⟨v,fun b i=>S' b i∨b∈bl,[],rfl,k1,fun b i hs=>?_,.nil,?_⟩
  ·rcases hs with hs | hs
   ·exact k2 b i hs
   ·exact⟨.inr (hfresh b hs).1,(hfresh b hs).2⟩
  ·have:=sL (m:=fun _=>none) (x:=.c (.fr sz es)) k4 (T:=fun b i=>S' b i∨b∈bl) (fun _ _ h=>.inl h) (fun b hb _=>.inr hb);exact⟨this.1,rfl⟩
theorem Xj {S S':aD} {w:World} {B:Nat} {v:Value} {y:D} {bl:List Nat} (h:gr S w B v (.c (.d y)) bl) (hS:∀ b i,S b i→S' b i):gr S' w B v (.c (.d y)) []∧bl=[]:=by
  cases y with
  | agg cs =>
    obtain⟨⟨us,h1,h2⟩,h3⟩:=h;exact⟨⟨⟨us,h1,h2.weak fun _ _ _ _ h=>h.mono hS⟩,rfl⟩,h3⟩
  | _ =>
    obtain⟨h1,h2⟩:=h;exact⟨⟨h1.mono hS,rfl⟩,h2⟩
theorem mP {P:Program} {G:ah} {F:FuncId} {args:List D} {sz:Nat} {es:List D} {y:D} (h:aw P G F args (.tup [.c (.fr sz es),.c (.d y)])):aw P G F args (.tup [.c (.d (.sl es)),.c (.d y)]):=by
  intro w S vs h1 h2 h3;refine (h w S vs h1 h2 h3).mono ?_;rintro e w' ⟨v,S',bl,rfl,k1,k2,k3,us,rfl,k4⟩;cases k4 with
  | @cons v1 c1 b1 vs1 cs1 b2 q1 q2 =>
  cases q2 with
  | @cons v2 c2 b3 vs2 cs2 b4 q3 q4 =>
  cases q4;have hfresh:∀ b∈b1,w.heap.size≤b∧b<w'.heap.size:=by
    intro b hb;rcases q1 with ⟨_,_,rfl⟩ | ⟨b',cap,ty,N,rfl,_,_,_,q1,_,q2⟩
    ·cases hb
    ·simp only[abe] at hb;subst hb;obtain⟨f1,_,cur,ty',fz,f3,_⟩:=q2;exact⟨f1,(abp.1 f3).1⟩
  refine⟨_,fun b i=>S' b i∨b∈b1,[],rfl,k1,fun b i hs=>?_,.nil,_,rfl,?_⟩
  ·rcases hs with hs | hs
   ·exact k2 b i hs
   ·exact⟨.inr (hfresh b hs).1,(hfresh b hs).2⟩
  ·have hx:=sL (m:=fun _=>none) (x:=.c (.fr sz es)) q1 (T:=fun b i=>S' b i∨b∈b1) (fun _ _ h=>.inl h) (fun b hb _=>.inr hb);exact .cons (b1:=[]) (b2:=[]) ⟨hx.1,rfl⟩ (.cons (b1:=[]) (b2:=[]) (Xj q3 fun _ _ h=>.inl h).1 .nil)
abbrev bs (l:List UInt8):D:=.sl (l.map bD)
def wD (x:UInt32):D:=.int .u32 (x.toNat:Int)
theorem OH (x:UInt8):eF (.w (.c (.d (bD x))))=some (.u8,(x.toNat:Int)):=rfl
theorem OI (x:UInt32):eF (.w (.c (.d (wD x))))=some (.u32,(x.toNat:Int)):=rfl
theorem Kc (op:BinOp) (x:UInt8) (k:IntKind) (n:Int):bO op (.w (.c (.d (bD x)))) (.w (.c (.d (.int k n))))=bO op (.w (.c (.d (.int .u8 (x.toNat:Int))))) (.w (.c (.d (.int k n)))):=rfl
theorem Ke (op:BinOp) (x:UInt8) (k:IntKind) (n:Int):bO op (.w (.c (.d (.int k n)))) (.w (.c (.d (bD x))))=bO op (.w (.c (.d (.int k n)))) (.w (.c (.d (.int .u8 (x.toNat:Int))))):=rfl
theorem HD (x y:UInt8):bO .lss (.w (.c (.d (bD x)))) (.w (.c (.d (bD y))))=bO .lss (.w (.c (.d (.int .u8 (x.toNat:Int))))) (.w (.c (.d (.int .u8 (y.toNat:Int))))):=rfl
theorem HE (x y:UInt8):bO .leq (.w (.c (.d (bD x)))) (.w (.c (.d (bD y))))=bO .leq (.w (.c (.d (.int .u8 (x.toNat:Int))))) (.w (.c (.d (.int .u8 (y.toNat:Int))))):=rfl
theorem HF (x y:UInt8):bO .gtr (.w (.c (.d (bD x)))) (.w (.c (.d (bD y))))=bO .gtr (.w (.c (.d (.int .u8 (x.toNat:Int))))) (.w (.c (.d (.int .u8 (y.toNat:Int))))):=rfl
theorem HG (x y:UInt8):bO .geq (.w (.c (.d (bD x)))) (.w (.c (.d (bD y))))=bO .geq (.w (.c (.d (.int .u8 (x.toNat:Int))))) (.w (.c (.d (.int .u8 (y.toNat:Int))))):=rfl
theorem HH (x y:UInt8):bO .eql (.w (.c (.d (bD x)))) (.w (.c (.d (bD y))))=bO .eql (.w (.c (.d (.int .u8 (x.toNat:Int))))) (.w (.c (.d (.int .u8 (y.toNat:Int))))):=rfl
theorem HI (x y:UInt8):bO .neq (.w (.c (.d (bD x)))) (.w (.c (.d (bD y))))=bO .neq (.w (.c (.d (.int .u8 (x.toNat:Int))))) (.w (.c (.d (.int .u8 (y.toNat:Int))))):=rfl
theorem HJ (x y:UInt8):bO .add (.w (.c (.d (bD x)))) (.w (.c (.d (bD y))))=bO .add (.w (.c (.d (.int .u8 (x.toNat:Int))))) (.w (.c (.d (.int .u8 (y.toNat:Int))))):=rfl
theorem HK (x y:UInt8):bO .sub (.w (.c (.d (bD x)))) (.w (.c (.d (bD y))))=bO .sub (.w (.c (.d (.int .u8 (x.toNat:Int))))) (.w (.c (.d (.int .u8 (y.toNat:Int))))):=rfl
theorem OJ (op:UnOp) (x:UInt8):lE op (.w (.c (.d (bD x))))=lE op (.w (.c (.d (.int .u8 (x.toNat:Int))))):=rfl
theorem Fx (k:IntKind) (n:Int):D.cells (.int k n)=[.int k n]:=rfl
theorem EH (b:Bool):D.cells (.bool b)=[.bool b]:=rfl
theorem Fy (b:ByteArray):D.cells (.str b)=[.str b]:=rfl
theorem HL (es:List D):D.cells (.sl es)=[.sl es]:=rfl
theorem Fz (cs:List D):D.cells (.agg cs)=cs:=rfl
theorem HM (x:UInt32):(wD x).cells=[wD x]:=rfl
theorem HN (a:UInt8):dT 1 [bD a]=true:=rfl
theorem HO (a b:UInt8):dT 1 [bD a,bD b]=true:=rfl
theorem HP (x:UInt8):(bD x).cells=[bD x]:=rfl
theorem o9 {α:Type} (f:α→D) (hf:∀ x,(f x).cells.length=1) (l:List α):dT 1 (l.map f)=true:=by
  unfold dT;rw[aby];intro d hd;obtain⟨x,_,rfl⟩:=abB.1 hd;simp[hf x]
theorem HQ (l:List UInt8):dT 1 (l.map bD)=true:=o9 bD (fun _=>rfl) l
theorem HR (l:List UInt32):dT 1 (l.map wD)=true:=o9 wD (fun _=>rfl) l
theorem pj:∀ l:List UInt8,nr (l.map bD)=some l
  | []=>rfl
  | x::l=>by
    have h:=x.toNat_lt;simp only[abd,nr,pj l,bD,DD];rw[if_pos (by omega)];simp
theorem bu {α β:Type} (f:α→β) (l:List α) (n:Nat):(l.map f).take n=(l.take n).map f:=List.map_take.symm
theorem eS {α β:Type} (f:α→β) (l:List α) (n:Nat):(l.map f).drop n=(l.drop n).map f:=List.map_drop.symm
theorem ct {α β:Type} (f:α→β) (l:List α):(l.map f).length=l.length:=abh _
theorem ig {α β:Type} (f:α→β) (l m:List α):l.map f++m.map f=(l++m).map f:=abk.symm
theorem aC {α β:Type} (f:α→β) (l:List α) (i:Nat):(l.map f)[i]?=(l[i]?).map f:=abX
theorem nX {α β:Type} (f:α→β) (l:List α) (i:Nat) (x:α):(l.map f).set i (f x)=(l.set i x).map f:=List.map_set.symm
theorem yI {α:Type} (f:α→D) (hf:∀ x,(f x).cells=[f x]):∀ l:List α,(l.map f).flatMap D.cells=l.map f
  | []=>rfl
  | x::l=>by rw[abd,abu,hf x,yI f hf l]; rfl
theorem Kf (l:List UInt32):(l.map wD).flatMap D.cells=l.map wD:=yI wD (fun _=>rfl) l
theorem iV (l:List UInt8):(l.map bD).flatMap D.cells=l.map bD:=yI bD (fun _=>rfl) l
def wK (k:IntKind) (n:Int):Int:=k.wrap n
theorem ME (n:Int):IntKind.i64.wrap n=if -9223372036854775808≤n∧n≤9223372036854775807 then n else wK .i64 n:=by
  split
  ·exact IntWalk.i64_in _ ‹_›
  ·rfl
theorem MF (n:Int):IntKind.u64.wrap n=if 0≤n∧n≤18446744073709551615 then n else wK .u64 n:=by
  split
  ·exact IntWalk.u64_in _ (by omega)
  ·rfl
theorem MG (n:Int):IntKind.u32.wrap n=if 0≤n∧n≤4294967295 then n else wK .u32 n:=by
  split
  ·exact IntWalk.u32_in _ (by omega)
  ·rfl
theorem OK (n:Int):IntKind.u8.wrap n=if 0≤n∧n≤255 then n else wK .u8 n:=by
  split
  ·exact IntWalk.u8_in _ (by omega)
  ·rfl
theorem aaU (s:Nat) (l:List UInt32):V.flat (.w (.c (.fr s (l.map wD))))=true:=by
  simp only[V.flat,W.flat,C.flat,List.all_map,aby]; intro x _; rfl
theorem gu (s:Nat) (l:List UInt8):V.flat (.w (.c (.fr s (l.map bD))))=true:=by
  simp only[V.flat,W.flat,C.flat,List.all_map,aby]; intro x _; rfl
theorem FA (sz:Nat):dT sz []=true:=rfl
theorem EI (sz:Nat) (e:D) (es:List D):dT sz (e::es)=(e.cells.length==sz&&dT sz es):=rfl
theorem FB (a:ByteArray):fA .eql a a=some (.bool true):=by simp[fA]
theorem PG {α:Type} (a:α):List.replicate 1 a=[a]:=rfl
theorem PH {α:Type} (a:α):List.replicate 2 a=[a,a]:=rfl
theorem PI {α:Type} (a:α):List.replicate 3 a=[a,a,a]:=rfl
theorem PK {α:Type} (a:α):List.replicate 4 a=[a,a,a,a]:=rfl
theorem PL {α:Type} (a:α):List.replicate 5 a=[a,a,a,a,a]:=rfl
theorem PM {α:Type} (a:α):List.replicate 6 a=[a,a,a,a,a,a]:=rfl
def aaV:=@kT
def Bg:Option D→Bool | some e=>e.one | none=>false
theorem Em (e:D):Bg (some e)=e.one:=rfl
theorem OL (es:List D) (i s:Nat) (x:D):kT .sc (.c (.d x)) i 0 (.row s es)=bif Bg es[i]?&&x.one then some (.row s (es.set i x)) else aaV .sc (.c (.d x)) i 0 (.row s es):=by
  cases hc:(Bg es[i]?&&x.one) with
  | false=>rfl
  | true =>
    rw[abH] at hc;obtain⟨h1,h2⟩:=hc;cases he:es[i]? with
    | none=>rw[he] at h1; cases h1
    | some e =>
      rw[he] at h1;simp only[kT,he,gX,cond_true];cases e <;> first | (cases h1; done) | simp[h2]
theorem Aw (k:IntKind) (n:Int):D.one (.int k n)=true:=rfl
theorem HS (b:Bool):D.one (.bool b)=true:=rfl
theorem Kg (b:ByteArray):D.one (.str b)=true:=rfl
theorem MH (es:List D):D.one (.sl es)=true:=rfl
theorem du (x:UInt8):D.one (bD x)=true:=rfl
theorem qa (x:UInt32):D.one (wD x)=true:=rfl
theorem PN (x:UInt32):cJ (.c (.d (wD x)))=[.d (wD x)]:=rfl
theorem PO (x:UInt8):cJ (.c (.d (bD x)))=[.d (bD x)]:=rfl
theorem MI (k:IntKind) (n:Int):cJ (.c (.d (.int k n)))=[.d (.int k n)]:=rfl
theorem Kh (b:Bool):cJ (.c (.d (.bool b)))=[.d (.bool b)]:=rfl
theorem MJ (b:ByteArray):cJ (.c (.d (.str b)))=[.d (.str b)]:=rfl
theorem OM (es:List D):cJ (.c (.d (.sl es)))=[.d (.sl es)]:=rfl
theorem MK (cs:List D):cJ (.c (.d (.agg cs)))=cs.map C.d:=rfl
theorem ML:cJ (.c .nil)=[.nil]:=rfl
theorem MM (id sz off n:Nat):cJ (.c (.own id sz off n))=[.own id sz off n]:=rfl
theorem MN (id sz i o:Nat):cJ (.c (.ptr id sz i o))=[.ptr id sz i o]:=rfl
theorem ON (id sz:Nat):cJ (.c (.pa id sz))=[.pa id sz]:=rfl
theorem MO (cs:List C):cJ (.mix cs)=cs:=rfl
theorem lu {σ:St} {p:Nat×Option Kd} {x:D} (h:dJ σ p=some (.c (.d x))):fw σ [p] (.w (.c (.d x))) :=
  ⟨[.c (.d x)],by simp[a6,h],.inl ⟨by simp[W.ids,C.ids],rfl⟩⟩
theorem dE {σ:St} {p:Nat×Option Kd} {id sz n s:Nat} {es:List D} (h:dJ σ p=some (.c (.own id sz 0 n))) (e:σ.h id=some (.row s es)) (hn:n=es.length):fw σ [p] (.w (.c (.fr sz es))):=by
  refine⟨[.c (.own id sz 0 n)],by simp[a6,h],.inl ⟨by simp[W.ids,C.ids],rfl,rfl,?_⟩⟩;subst hn;rw[e];exact⟨by simp[dU],trivial⟩
theorem HT {σ:St} {p:Nat×Option Kd} {id sz n s:Nat} {full:List D} (h:dJ σ p=some (.c (.own id sz 0 n))) (e:σ.h id=some (.row s full)) (hn:n≤full.length):fw σ [p] (.w (.c (.fr sz (full.take n)))):=by
  refine⟨[.c (.own id sz 0 n)],by simp[a6,h],.inl ⟨by simp[W.ids,C.ids],rfl,rfl,?_⟩⟩;rw[e];exact⟨by simp[dU,hn],trivial⟩
theorem rM {σ:St} {p:Nat×Option Kd} {sz:Nat} (h:dJ σ p=some (.c .nil)):fw σ [p] (.w (.c (.fr sz []))) :=
  ⟨[.c .nil],by simp[a6,h],.inl ⟨by simp[W.ids,C.ids],rfl⟩⟩
theorem mX {σ:St} {p:Nat×Option Kd} {x:D} (h1:(dJ σ p).bind (toW σ.h)=some x):fw σ [p] (.w (.c (.d x))):=by
  obtain⟨w1,a1,b1⟩:=ack.1 h1;exact⟨[w1],by simp[a6,a1],.inr b1⟩
theorem kA {σ:St} {p q:Nat×Option Kd} {x y:D} (h1:(dJ σ p).bind (toW σ.h)=some x) (h2:(dJ σ q).bind (toW σ.h)=some y):fw σ [p,q] (.tup [.c (.d x),.c (.d y)]):=by
  obtain⟨w1,a1,b1⟩:=ack.1 h1;obtain⟨w2,a2,b2⟩:=ack.1 h2;exact⟨[w1,w2],by simp[a6,a1,a2],.inr (.cons ⟨x,rfl,b1⟩ (.cons ⟨y,rfl,b2⟩ .nil))⟩
theorem RP {σ:St} {p q:Nat×Option Kd} {id sz n s:Nat} {es:List D} {y:D} (h1:dJ σ p=some (.c (.own id sz 0 n))) (e:σ.h id=some (.row s es)) (hn:n=es.length) (h2:dJ σ q=some (.c (.d y))):fw σ [p,q] (.tup [.c (.fr sz es),.c (.d y)]):=by
  refine⟨[.c (.own id sz 0 n),.c (.d y)],by simp[a6,h1,h2],.inl ⟨by simp[W.ids,C.ids],.cons ⟨rfl,rfl,?_⟩ (.cons ?_ .nil)⟩⟩
  ·subst hn;rw[e];exact⟨by simp[dU],trivial⟩
  ·cases y <;> rfl
theorem RQ {σ:St} {p q:Nat×Option Kd} {sz:Nat} {y:D} (h1:dJ σ p=some (.c .nil)) (h2:dJ σ q=some (.c (.d y))):fw σ [p,q] (.tup [.c (.fr sz []),.c (.d y)]):=by
  refine⟨[.c .nil,.c (.d y)],by simp[a6,h1,h2],.inl ⟨by simp[W.ids,C.ids],.cons rfl (.cons ?_ .nil)⟩⟩;cases y <;> rfl
def kM (h:aK) (sz:Nat):W→Option (List D)
  | .c (.own id sz' off n)=>match h id with
    | some (.row _ es)=>if off=0∧n=es.length∧sz'=sz then some es else none
    | _=>none
  | .c .nil=>some []
  | _=>none
theorem HU (h:aK) (sz id sz' off n:Nat):kM h sz (.c (.own id sz' off n))=(match h id with
    | some (.row _ es)=>if off=0∧n=es.length∧sz'=sz then some es else none
    | _=>none):=rfl
theorem HV (h:aK) (sz:Nat):kM h sz (.c .nil)=some []:=rfl
theorem vO {σ:St} {p:Nat×Option Kd} {sz:Nat} {es:List D} (h1:(dJ σ p).bind (kM σ.h sz)=some es):fw σ [p] (.w (.c (.fr sz es))):=by
  obtain⟨w,a,b⟩:=ack.1 h1;unfold kM at b;split at b
  ·split at b
   ·rename_i e;split at b
    ·rename_i hc;obtain⟨rfl,rfl,rfl⟩:=hc;obtain rfl:=Option.some.inj b;exact dE a e rfl
    ·cases b
   ·cases b
  ·obtain rfl:=Option.some.inj b;exact rM a
  ·cases b
theorem vP {σ:St} {p q:Nat×Option Kd} {sz:Nat} {es:List D} {y:D} (h1:(dJ σ p).bind (kM σ.h sz)=some es) (h2:dJ σ q=some (.c (.d y))):fw σ [p,q] (.tup [.c (.fr sz es),.c (.d y)]):=by
  obtain⟨w,a,b⟩:=ack.1 h1;unfold kM at b;split at b
  ·split at b
   ·rename_i e;split at b
    ·rename_i hc;obtain⟨rfl,rfl,rfl⟩:=hc;obtain rfl:=Option.some.inj b;exact RP a e rfl h2
    ·cases b
   ·cases b
  ·obtain rfl:=Option.some.inj b;exact RQ a h2
  ·cases b
end Go.Proofs.YtlghfnidknfakaaGreatDoor
