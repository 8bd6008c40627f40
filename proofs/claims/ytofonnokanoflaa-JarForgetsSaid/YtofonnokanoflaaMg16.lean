/- Texts of one's own, merged: from: The plain logic (19): loops; states by lists; bytes and words as data. Own work. -/
import Derived.IntWalk
import Derived.Test.YtofonnokanoflaaMg15
set_option linter.unusedVariables false
set_option linter.unusedSimpArgs false
namespace Go.Proofs.Ytofonnokanoflaa
open Go.RowKit IntWalk
def aU:List (Nat×V)→Nat→V
  | []=>uf
  | (i,v)::r=>upd (aU r) i v
def hL:List (Nat×Ob)→al
  | []=>hN
  | (i,o)::r=>upd (hL r) i (some o)
def uL:List Nat→Nat→Bool
  | []=>uN
  | i::r=>upd (uL r) i true
theorem Ak:aU []=uf:=rfl
theorem nf (i:Nat) (v:V) (r:List (Nat×V)):aU ((i,v)::r)=upd (aU r) i v:=rfl
theorem Cr:hL []=hN:=rfl
theorem rU (i:Nat) (o:Ob) (r:List (Nat×Ob)):hL ((i,o)::r)=upd (hL r) i (some o):=rfl
theorem Cs:uL []=uN:=rfl
theorem rV (i:Nat) (r:List Nat):uL (i::r)=upd (uL r) i true:=rfl
theorem Ct {i:Nat}:∀ {l:List Nat},i∈l→uL l i=true
  | j::r,h=>by
    rw[rV];by_cases e:i=j
    ·rw[e]; exact upd_same _ _ _
    ·rw[upd_ne _ _ e];exact Ct (by simpa [e] using h)
theorem Cu {f:Nat→V} {g:Nat→Nat}:∀ {l:List (Nat×V)},(∀ p∈l,f p.1=p.2.ren g)→∀ t,aU l t=.undef∨f t=(aU l t).ren g
  | [],_,_=>.inl rfl
  | (i,v)::r,h,t=>by
    rw[nf];by_cases e:t=i
    ·rw[e,upd_same]; exact .inr (h (i,v) (by simp))
    ·rw[upd_ne _ _ e];exact Cu (fun p hp=>h p (by simp[hp])) t
theorem jZ {i:Nat} {o:Ob}:∀ {l:List (Nat×Ob)},hL l i=some o→(i,o)∈l
  | [],h=>by cases h
  | (j,q)::r,h=>by
    rw[rU] at h;by_cases e:i=j
    ·rw[e,upd_same] at h;cases h;rw[e]; simp
    ·rw[upd_ne _ _ e] at h;exact PM _ (jZ h)
theorem Jt {l:List (Nat×V)} {i t:Nat} (h:i∈(aU l t).ids):i∈l.flatMap fun p=>p.2.ids:=by
  induction l with
  | nil=>cases h
  | cons p r ih =>
    obtain⟨j,v⟩:=p;rw[nf] at h;rw[Pq,PD];by_cases e:t=j
    ·rw[e,upd_same] at h; exact .inl h
    ·rw[upd_ne _ _ e] at h; exact .inr (ih h)
def kS (f:Nat→V) (g:Nat→Nat):List (Nat×V)→Prop
  | []=>True
  | (i,v)::r=>f i=v.ren g∧kS f g r
def kT (h:al) (g:Nat→Nat):List (Nat×Ob)→Prop
  | []=>True
  | (i,o)::r=>h (g i)=some (o.ren g)∧kT h g r
def oA:List Nat→Bool
  | []=>true
  | i::r=>!r.contains i&&oA r
theorem Al (f:Nat→V) (g:Nat→Nat):kS f g []=True:=rfl
theorem yx (f:Nat→V) (g:Nat→Nat) (i:Nat) (v:V) (r:List (Nat×V)):kS f g ((i,v)::r)=(f i=v.ren g∧kS f g r):=rfl
theorem Am (h:al) (g:Nat→Nat):kT h g []=True:=rfl
theorem yy (h:al) (g:Nat→Nat) (i:Nat) (o:Ob) (r:List (Nat×Ob)):kT h g ((i,o)::r)=(h (g i)=some (o.ren g)∧kT h g r):=rfl
theorem An {f:Nat→V} {g:Nat→Nat}:∀ {l:List (Nat×V)},kS f g l→∀ p∈l,f p.1=p.2.ren g
  | (i,v)::r,h,p,hp=>by
    rcases PQ.1 hp with rfl | hp
    ·exact h.1
    ·exact An h.2 p hp
theorem Ao {f:al} {g:Nat→Nat}:∀ {l:List (Nat×Ob)},kT f g l→∀ p∈l,f (g p.1)=some (p.2.ren g)
  | (i,v)::r,h,p,hp=>by
    rcases PQ.1 hp with rfl | hp
    ·exact h.1
    ·exact Ao h.2 p hp
theorem yz:∀ {l:List Nat},oA l=true→l.Nodup
  | [],_=>.nil
  | i::r,h=>by
    simp only[oA,PL,Bool.not_eq_true'] at h;refine List.nodup_cons.2 ⟨fun hi=>?_,yz h.2⟩;have:=List.contains_iff_mem.2 hi;rw[h.1] at this;cases this
theorem aF {σ:St} (g:Nat→Nat) {fl:List (Nat×V)} {hl:List (Nat×Ob)} {ul:List Nat} (h1':kS σ.f g fl) (h2':kT σ.h g hl)
    (h3':oA (hl.map fun p=>g p.1)=true) (h4:((fl.flatMap fun p=>p.2.ids)++(hl.flatMap fun p=>p.1::p.2.ids)).all (fun i=>ul.contains i)=true):du σ ⟨aU fl,hL hl,uL ul⟩:=by
  have h1:=An h1';have h2:=Ao h2';have h3:=yz h3';have used:∀ i,i∈(fl.flatMap fun p=>p.2.ids)++(hl.flatMap fun p=>p.1::p.2.ids)→uL ul i=true:=by
    intro i hi;rw[Pw] at h4;exact Ct (by simpa using h4 i hi)
  refine⟨⟨g,Cu h1,fun i o ho=>h2 (i,o) (jZ ho),fun i j hi hj e=>?_⟩,fun t i hi=>used i (Py _ (Jt hi)),fun i o ho=>⟨used i ?_,fun j hj=>used j ?_⟩⟩
  ·obtain⟨o,ho⟩:=Px.1 hi;obtain⟨q,hq⟩:=Px.1 hj;have m1:=jZ ho;have m2:=jZ hq;have key:∀ {l:List (Nat×Ob)},(l.map fun p=>g p.1).Nodup→∀ {x y:Nat×Ob},x∈l→y∈l→g x.1=g y.1→x=y:=by
     intro l
     induction l with
     | nil=>intro _ x y hx; cases hx
     | cons p r ih =>
       intro hn x y hx hy e;rw[Pi,List.nodup_cons] at hn;rcases PQ.1 hx with rfl | hx' <;> rcases PQ.1 hy with rfl | hy'
       ·rfl
       ·exact (hn.1 (PR.2 ⟨y,hy',e.symm⟩)).elim
       ·exact (hn.1 (PR.2 ⟨x,hx',e⟩)).elim
       ·exact ih hn.2 hx' hy' e
   exact congrArg Prod.fst (key h3 m1 m2 e)
  ·exact Po _ (Pj.2 ⟨_,jZ ho,by simp⟩)
  ·exact Po _ (Pj.2 ⟨_,jZ ho,by simp[hj]⟩)
section
variable {P:Program} {G:aj}
def lZ {α:Type} (st:α→St) (μ:α→Nat) (ok:α→Prop) (a:α) (Q:AX→St→Prop) (e:AX) (s:St):Prop :=
  match e with | .nrm=>∃ b,μ b<μ a∧ok b∧du s (st b) | e=>Q e s
theorem Ap {α:Type} (st:α→St) (μ:α→Nat) (ok:α→Prop) (a:α) (Q:AX→St→Prop) (i:Nat) (s:St):lZ st μ ok a Q (.ex i) s=Q (.ex i) s:=rfl
theorem yA {α:Type} (st:α→St) (μ:α→Nat) (ok:α→Prop) (a:α) (Q:AX→St→Prop) (s:St):lZ st μ ok a Q .ret s=Q .ret s:=rfl
theorem bd {α:Type} {st:α→St} {μ:α→Nat} {ok:α→Prop} {a:α} {Q:AX→St→Prop} {s:St} (b:α) (h1:μ b<μ a) (h2:ok b) (h3:du s (st b)):lZ st μ ok a Q .nrm s:=⟨b,h1,h2,h3⟩
theorem bp {α:Type} {c:aK} {Q:AX→St→Prop} {σ:St} (st:α→St) (μ:α→Nat) (ok:α→Prop) (a0:α) (h0:ok a0) (he:du σ (st a0)) (round:∀ a,ok a→aX P G c (lZ st μ ok a Q) (st a)):aX P G (.loop c) Q σ:=by
  refine⟨fun n s=>∃ a,μ a=n∧ok a∧s=st a,⟨μ a0,st a0,he,a0,rfl,h0,rfl⟩,?_⟩;rintro n s ⟨a,rfl,ha,rfl⟩;have key:(lZ st μ ok a Q)=(fun e s'=>match e with | .nrm=>∃ n' τ,n'<μ a∧du s' τ∧∃ a,μ a=n'∧ok a∧τ=st a | e=>Q e s'):=by
    funext e s'
    cases e with
    | nrm =>
      refine propext ⟨?_,?_⟩
      ·rintro⟨b,h1,h2,h3⟩;exact⟨μ b,st b,h1,h3,b,rfl,h2,rfl⟩
      ·rintro⟨n',τ,h1,h2,b,rfl,h3,rfl⟩;exact⟨b,h1,h3,h2⟩
    | ex i=>rfl
    | ret=>rfl
  have:=round a ha;rw[key] at this;exact this
end
theorem jj {P:Program} {G:aj} {F:FuncId} {args:List D} {sz:Nat} {es:List D} (h:ap P G F args (.w (.c (.fr sz es)))):ap P G F args (.w (.c (.d (.sl es)))):=by
  intro w S vs h1 h2 h3;refine (h w S vs h1 h2 h3).mono ?_;rintro e w' ⟨v,S',bl,rfl,k1,k2,k3,k4⟩;have hfresh:∀ b∈bl,w.heap.size≤b∧b<w'.heap.size:=by
    intro b hb;rcases k4 with ⟨_,_,rfl⟩ | ⟨b',cap,ty,N,rfl,_,_,_,q1,_,q2⟩
    ·cases hb
    ·simp only[Pv] at hb;subst hb;obtain⟨f1,_,cur,ty',fz,f3,_⟩:=q2;exact⟨f1,(Pm.1 f3).1⟩
  refine⟨v,fun b i=>S' b i∨b∈bl,[],rfl,k1,fun b i hs=>?_,.nil,?_⟩
  ·rcases hs with hs | hs
   ·exact k2 b i hs
   ·exact⟨.inr (hfresh b hs).1,(hfresh b hs).2⟩
  ·have:=ku (m:=fun _=>none) (x:=.c (.fr sz es)) k4 (T:=fun b i=>S' b i∨b∈bl) (fun _ _ h=>.inl h) (fun b hb _=>.inr hb);exact⟨this.1,rfl⟩
theorem Lm {S S':ah} {w:World} {B:Nat} {v:Value} {y:D} {bl:List Nat} (h:c9 S w B v (.c (.d y)) bl) (hS:∀ b i,S b i→S' b i):c9 S' w B v (.c (.d y)) []∧bl=[]:=by
  cases y with
  | agg cs =>
    obtain⟨⟨us,h1,h2⟩,h3⟩:=h;exact⟨⟨⟨us,h1,h2.weak fun _ _ _ _ h=>h.mono hS⟩,rfl⟩,h3⟩
  | _ =>
    obtain⟨h1,h2⟩:=h;exact⟨⟨h1.mono hS,rfl⟩,h2⟩
theorem rW {P:Program} {G:aj} {F:FuncId} {args:List D} {sz:Nat} {es:List D} {y:D} (h:ap P G F args (.tup [.c (.fr sz es),.c (.d y)])):ap P G F args (.tup [.c (.d (.sl es)),.c (.d y)]):=by
  intro w S vs h1 h2 h3;refine (h w S vs h1 h2 h3).mono ?_;rintro e w' ⟨v,S',bl,rfl,k1,k2,k3,us,rfl,k4⟩;cases k4 with
  | @cons v1 c1 b1 vs1 cs1 b2 q1 q2 =>
  cases q2 with
  | @cons v2 c2 b3 vs2 cs2 b4 q3 q4 =>
  cases q4;have hfresh:∀ b∈b1,w.heap.size≤b∧b<w'.heap.size:=by
    intro b hb;rcases q1 with ⟨_,_,rfl⟩ | ⟨b',cap,ty,N,rfl,_,_,_,q1,_,q2⟩
    ·cases hb
    ·simp only[Pv] at hb;subst hb;obtain⟨f1,_,cur,ty',fz,f3,_⟩:=q2;exact⟨f1,(Pm.1 f3).1⟩
  refine⟨_,fun b i=>S' b i∨b∈b1,[],rfl,k1,fun b i hs=>?_,.nil,_,rfl,?_⟩
  ·rcases hs with hs | hs
   ·exact k2 b i hs
   ·exact⟨.inr (hfresh b hs).1,(hfresh b hs).2⟩
  ·have hx:=ku (m:=fun _=>none) (x:=.c (.fr sz es)) q1 (T:=fun b i=>S' b i∨b∈b1) (fun _ _ h=>.inl h) (fun b hb _=>.inr hb);exact .cons (b1:=[]) (b2:=[]) ⟨hx.1,rfl⟩ (.cons (b1:=[]) (b2:=[]) (Lm q3 fun _ _ h=>.inl h).1 .nil)
abbrev bs (l:List UInt8):D:=.sl (l.map bD)
def wD (x:UInt32):D:=.int .u32 (x.toNat:Int)
theorem DV (x:UInt8):cW (.w (.c (.d (bD x))))=some (.u8,(x.toNat:Int)):=rfl
theorem DW (x:UInt32):cW (.w (.c (.d (wD x))))=some (.u32,(x.toNat:Int)):=rfl
theorem Aq (op:BinOp) (x:UInt8) (k:IntKind) (n:Int):aW op (.w (.c (.d (bD x)))) (.w (.c (.d (.int k n))))=aW op (.w (.c (.d (.int .u8 (x.toNat:Int))))) (.w (.c (.d (.int k n)))):=rfl
theorem Ar (op:BinOp) (x:UInt8) (k:IntKind) (n:Int):aW op (.w (.c (.d (.int k n)))) (.w (.c (.d (bD x))))=aW op (.w (.c (.d (.int k n)))) (.w (.c (.d (.int .u8 (x.toNat:Int))))):=rfl
theorem yB (x y:UInt8):aW .lss (.w (.c (.d (bD x)))) (.w (.c (.d (bD y))))=aW .lss (.w (.c (.d (.int .u8 (x.toNat:Int))))) (.w (.c (.d (.int .u8 (y.toNat:Int))))):=rfl
theorem yC (x y:UInt8):aW .leq (.w (.c (.d (bD x)))) (.w (.c (.d (bD y))))=aW .leq (.w (.c (.d (.int .u8 (x.toNat:Int))))) (.w (.c (.d (.int .u8 (y.toNat:Int))))):=rfl
theorem yD (x y:UInt8):aW .gtr (.w (.c (.d (bD x)))) (.w (.c (.d (bD y))))=aW .gtr (.w (.c (.d (.int .u8 (x.toNat:Int))))) (.w (.c (.d (.int .u8 (y.toNat:Int))))):=rfl
theorem yE (x y:UInt8):aW .geq (.w (.c (.d (bD x)))) (.w (.c (.d (bD y))))=aW .geq (.w (.c (.d (.int .u8 (x.toNat:Int))))) (.w (.c (.d (.int .u8 (y.toNat:Int))))):=rfl
theorem yF (x y:UInt8):aW .eql (.w (.c (.d (bD x)))) (.w (.c (.d (bD y))))=aW .eql (.w (.c (.d (.int .u8 (x.toNat:Int))))) (.w (.c (.d (.int .u8 (y.toNat:Int))))):=rfl
theorem yG (x y:UInt8):aW .neq (.w (.c (.d (bD x)))) (.w (.c (.d (bD y))))=aW .neq (.w (.c (.d (.int .u8 (x.toNat:Int))))) (.w (.c (.d (.int .u8 (y.toNat:Int))))):=rfl
theorem yH (x y:UInt8):aW .add (.w (.c (.d (bD x)))) (.w (.c (.d (bD y))))=aW .add (.w (.c (.d (.int .u8 (x.toNat:Int))))) (.w (.c (.d (.int .u8 (y.toNat:Int))))):=rfl
theorem yI (x y:UInt8):aW .sub (.w (.c (.d (bD x)))) (.w (.c (.d (bD y))))=aW .sub (.w (.c (.d (.int .u8 (x.toNat:Int))))) (.w (.c (.d (.int .u8 (y.toNat:Int))))):=rfl
theorem DX (op:UnOp) (x:UInt8):gM op (.w (.c (.d (bD x))))=gM op (.w (.c (.d (.int .u8 (x.toNat:Int))))):=rfl
theorem wE (k:IntKind) (n:Int):D.cells (.int k n)=[.int k n]:=rfl
theorem vG (b:Bool):D.cells (.bool b)=[.bool b]:=rfl
theorem wF (b:ByteArray):D.cells (.str b)=[.str b]:=rfl
theorem yJ (es:List D):D.cells (.sl es)=[.sl es]:=rfl
theorem wG (cs:List D):D.cells (.agg cs)=cs:=rfl
theorem yK (x:UInt32):(wD x).cells=[wD x]:=rfl
theorem yL (a:UInt8):cB 1 [bD a]=true:=rfl
theorem yM (a b:UInt8):cB 1 [bD a,bD b]=true:=rfl
theorem yN (x:UInt8):(bD x).cells=[bD x]:=rfl
theorem mP {α:Type} (f:α→D) (hf:∀ x,(f x).cells.length=1) (l:List α):cB 1 (l.map f)=true:=by
  unfold cB;rw[Pw];intro d hd;obtain⟨x,_,rfl⟩:=PR.1 hd;simp[hf x]
theorem yO (l:List UInt8):cB 1 (l.map bD)=true:=mP bD (fun _=>rfl) l
theorem yP (l:List UInt32):cB 1 (l.map wD)=true:=mP wD (fun _=>rfl) l
theorem rj:∀ l:List UInt8,iV (l.map bD)=some l
  | []=>rfl
  | x::l=>by
    have h:=x.toNat_lt;simp only[Pi,iV,rj l,bD,uA];rw[if_pos (by omega)];simp
theorem dw {α β:Type} (f:α→β) (l:List α) (n:Nat):(l.map f).take n=(l.take n).map f:=List.map_take.symm
theorem gp {α β:Type} (f:α→β) (l:List α) (n:Nat):(l.map f).drop n=(l.drop n).map f:=List.map_drop.symm
theorem fO {α β:Type} (f:α→β) (l:List α):(l.map f).length=l.length:=Pr _
theorem gW {α β:Type} (f:α→β) (l m:List α):l.map f++m.map f=(l++m).map f:=P0.symm
theorem aY {α β:Type} (f:α→β) (l:List α) (i:Nat):(l.map f)[i]?=(l[i]?).map f:=Qq
theorem rX {α β:Type} (f:α→β) (l:List α) (i:Nat) (x:α):(l.map f).set i (f x)=(l.set i x).map f:=List.map_set.symm
theorem qy {α:Type} (f:α→D) (hf:∀ x,(f x).cells=[f x]):∀ l:List α,(l.map f).flatMap D.cells=l.map f
  | []=>rfl
  | x::l=>by rw[Pi,Pq,hf x,qy f hf l]; rfl
theorem As (l:List UInt32):(l.map wD).flatMap D.cells=l.map wD:=qy wD (fun _=>rfl) l
theorem fp (l:List UInt8):(l.map bD).flatMap D.cells=l.map bD:=qy bD (fun _=>rfl) l
def oB (k:IntKind) (n:Int):Int:=k.wrap n
theorem Cv (n:Int):IntKind.i64.wrap n=if -9223372036854775808≤n∧n≤9223372036854775807 then n else oB .i64 n:=by
  split
  ·exact IntWalk.i64_in _ ‹_›
  ·rfl
theorem sV (n:Int):IntKind.u64.wrap n=if 0≤n∧n≤18446744073709551615 then n else oB .u64 n:=by
  split
  ·exact IntWalk.u64_in _ (by omega)
  ·rfl
theorem Cw (n:Int):IntKind.u32.wrap n=if 0≤n∧n≤4294967295 then n else oB .u32 n:=by
  split
  ·exact IntWalk.u32_in _ (by omega)
  ·rfl
theorem DY (n:Int):IntKind.u8.wrap n=if 0≤n∧n≤255 then n else oB .u8 n:=by
  split
  ·exact IntWalk.u8_in _ (by omega)
  ·rfl
theorem OK (s:Nat) (l:List UInt32):V.flat (.w (.c (.fr s (l.map wD))))=true:=by
  simp only[V.flat,W.flat,C.flat,List.all_map,Pw]; intro x _; rfl
theorem l3 (s:Nat) (l:List UInt8):V.flat (.w (.c (.fr s (l.map bD))))=true:=by
  simp only[V.flat,W.flat,C.flat,List.all_map,Pw]; intro x _; rfl
theorem wH (sz:Nat):cB sz []=true:=rfl
theorem vH (sz:Nat) (e:D) (es:List D):cB sz (e::es)=(e.cells.length==sz&&cB sz es):=rfl
theorem wI (a:ByteArray):iU .eql a a=some (.bool true):=by simp[iU]
theorem Ew {α:Type} (a:α):List.replicate 1 a=[a]:=rfl
theorem Ex {α:Type} (a:α):List.replicate 2 a=[a,a]:=rfl
theorem Ey {α:Type} (a:α):List.replicate 3 a=[a,a,a]:=rfl
theorem Ez {α:Type} (a:α):List.replicate 4 a=[a,a,a,a]:=rfl
theorem EA {α:Type} (a:α):List.replicate 5 a=[a,a,a,a,a]:=rfl
theorem EB {α:Type} (a:α):List.replicate 6 a=[a,a,a,a,a,a]:=rfl
def OL:=@fZ
def sW:Option D→Bool | some e=>e.one | none=>false
theorem vk (e:D):sW (some e)=e.one:=rfl
theorem DZ (es:List D) (i s:Nat) (x:D):fZ .sc (.c (.d x)) i 0 (.row s es)=bif sW es[i]?&&x.one then some (.row s (es.set i x)) else OL .sc (.c (.d x)) i 0 (.row s es):=by
  cases hc:(sW es[i]?&&x.one) with
  | false=>rfl
  | true =>
    rw[PL] at hc;obtain⟨h1,h2⟩:=hc;cases he:es[i]? with
    | none=>rw[he] at h1; cases h1
    | some e =>
      rw[he] at h1;simp only[fZ,he,dC,cond_true];cases e <;> first | (cases h1; done) | simp[h2]
theorem Au (k:IntKind) (n:Int):D.one (.int k n)=true:=rfl
theorem yQ (b:Bool):D.one (.bool b)=true:=rfl
theorem Av (b:ByteArray):D.one (.str b)=true:=rfl
theorem Cx (es:List D):D.one (.sl es)=true:=rfl
theorem eC (x:UInt8):D.one (bD x)=true:=rfl
theorem oC (x:UInt32):D.one (wD x)=true:=rfl
theorem EC (x:UInt32):bq (.c (.d (wD x)))=[.d (wD x)]:=rfl
theorem ED (x:UInt8):bq (.c (.d (bD x)))=[.d (bD x)]:=rfl
theorem Cy (k:IntKind) (n:Int):bq (.c (.d (.int k n)))=[.d (.int k n)]:=rfl
theorem Aw (b:Bool):bq (.c (.d (.bool b)))=[.d (.bool b)]:=rfl
theorem Cz (b:ByteArray):bq (.c (.d (.str b)))=[.d (.str b)]:=rfl
theorem D1 (es:List D):bq (.c (.d (.sl es)))=[.d (.sl es)]:=rfl
theorem CB (cs:List D):bq (.c (.d (.agg cs)))=cs.map C.d:=rfl
theorem CC:bq (.c .nil)=[.nil]:=rfl
theorem CE (id sz off n:Nat):bq (.c (.own id sz off n))=[.own id sz off n]:=rfl
theorem CF (id sz i o:Nat):bq (.c (.ptr id sz i o))=[.ptr id sz i o]:=rfl
theorem D2 (id sz:Nat):bq (.c (.pa id sz))=[.pa id sz]:=rfl
theorem CG (cs:List C):bq (.mix cs)=cs:=rfl
theorem tD {σ:St} {p:Nat×Option Kd} {x:D} (h:bI σ p=some (.c (.d x))):ce σ [p] (.w (.c (.d x))) :=
  ⟨[.c (.d x)],by simp[aC,h],.inl ⟨by simp[W.ids,C.ids],rfl⟩⟩
theorem dY {σ:St} {p:Nat×Option Kd} {id sz n s:Nat} {es:List D} (h:bI σ p=some (.c (.own id sz 0 n))) (e:σ.h id=some (.row s es)) (hn:n=es.length):ce σ [p] (.w (.c (.fr sz es))):=by
  refine⟨[.c (.own id sz 0 n)],by simp[aC,h],.inl ⟨by simp[W.ids,C.ids],rfl,rfl,?_⟩⟩;subst hn;rw[e];exact⟨by simp[cn],trivial⟩
theorem yR {σ:St} {p:Nat×Option Kd} {id sz n s:Nat} {full:List D} (h:bI σ p=some (.c (.own id sz 0 n))) (e:σ.h id=some (.row s full)) (hn:n≤full.length):ce σ [p] (.w (.c (.fr sz (full.take n)))):=by
  refine⟨[.c (.own id sz 0 n)],by simp[aC,h],.inl ⟨by simp[W.ids,C.ids],rfl,rfl,?_⟩⟩;rw[e];exact⟨by simp[cn,hn],trivial⟩
theorem rY {σ:St} {p:Nat×Option Kd} {sz:Nat} (h:bI σ p=some (.c .nil)):ce σ [p] (.w (.c (.fr sz []))) :=
  ⟨[.c .nil],by simp[aC,h],.inl ⟨by simp[W.ids,C.ids],rfl⟩⟩
theorem lH {σ:St} {p:Nat×Option Kd} {x:D} (h1:(bI σ p).bind (toW σ.h)=some x):ce σ [p] (.w (.c (.d x))):=by
  obtain⟨w1,a1,b1⟩:=PP.1 h1;exact⟨[w1],by simp[aC,a1],.inr b1⟩
theorem sX {σ:St} {p q:Nat×Option Kd} {x y:D} (h1:(bI σ p).bind (toW σ.h)=some x) (h2:(bI σ q).bind (toW σ.h)=some y):ce σ [p,q] (.tup [.c (.d x),.c (.d y)]):=by
  obtain⟨w1,a1,b1⟩:=PP.1 h1;obtain⟨w2,a2,b2⟩:=PP.1 h2;exact⟨[w1,w2],by simp[aC,a1,a2],.inr (.cons ⟨x,rfl,b1⟩ (.cons ⟨y,rfl,b2⟩ .nil))⟩
theorem Ln {σ:St} {p q r:Nat×Option Kd} {x y z:D} (h1:(bI σ p).bind (toW σ.h)=some x) (h2:(bI σ q).bind (toW σ.h)=some y) (h3:(bI σ r).bind (toW σ.h)=some z):ce σ [p,q,r] (.tup [.c (.d x),.c (.d y),.c (.d z)]):=by
  obtain⟨w1,a1,b1⟩:=PP.1 h1;obtain⟨w2,a2,b2⟩:=PP.1 h2;obtain⟨w3,a3,b3⟩:=PP.1 h3;exact⟨[w1,w2,w3],by simp[aC,a1,a2,a3],.inr (.cons ⟨x,rfl,b1⟩ (.cons ⟨y,rfl,b2⟩ (.cons ⟨z,rfl,b3⟩ .nil)))⟩
theorem Gy {σ:St} {p q:Nat×Option Kd} {id sz n s:Nat} {es:List D} {y:D} (h1:bI σ p=some (.c (.own id sz 0 n))) (e:σ.h id=some (.row s es)) (hn:n=es.length) (h2:bI σ q=some (.c (.d y))):ce σ [p,q] (.tup [.c (.fr sz es),.c (.d y)]):=by
  refine⟨[.c (.own id sz 0 n),.c (.d y)],by simp[aC,h1,h2],.inl ⟨by simp[W.ids,C.ids],.cons ⟨rfl,rfl,?_⟩ (.cons ?_ .nil)⟩⟩
  ·subst hn;rw[e];exact⟨by simp[cn],trivial⟩
  ·cases y <;> rfl
theorem Gz {σ:St} {p q:Nat×Option Kd} {sz:Nat} {y:D} (h1:bI σ p=some (.c .nil)) (h2:bI σ q=some (.c (.d y))):ce σ [p,q] (.tup [.c (.fr sz []),.c (.d y)]):=by
  refine⟨[.c .nil,.c (.d y)],by simp[aC,h1,h2],.inl ⟨by simp[W.ids,C.ids],.cons rfl (.cons ?_ .nil)⟩⟩;cases y <;> rfl
def gE (h:al) (sz:Nat):W→Option (List D)
  | .c (.own id sz' off n)=>match h id with
    | some (.row _ es)=>if off=0∧n=es.length∧sz'=sz then some es else none
    | _=>none
  | .c .nil=>some []
  | _=>none
theorem yS (h:al) (sz id sz' off n:Nat):gE h sz (.c (.own id sz' off n))=(match h id with
    | some (.row _ es)=>if off=0∧n=es.length∧sz'=sz then some es else none
    | _=>none):=rfl
theorem yT (h:al) (sz:Nat):gE h sz (.c .nil)=some []:=rfl
theorem CH {σ:St} {p:Nat×Option Kd} {sz:Nat} {es:List D} (h1:(bI σ p).bind (gE σ.h sz)=some es):ce σ [p] (.w (.c (.fr sz es))):=by
  obtain⟨w,a,b⟩:=PP.1 h1;unfold gE at b;split at b
  ·split at b
   ·rename_i e;split at b
    ·rename_i hc;obtain⟨rfl,rfl,rfl⟩:=hc;obtain rfl:=Option.some.inj b;exact dY a e rfl
    ·cases b
   ·cases b
  ·obtain rfl:=Option.some.inj b;exact rY a
  ·cases b
theorem sY {σ:St} {p q:Nat×Option Kd} {sz:Nat} {es:List D} {y:D} (h1:(bI σ p).bind (gE σ.h sz)=some es) (h2:bI σ q=some (.c (.d y))):ce σ [p,q] (.tup [.c (.fr sz es),.c (.d y)]):=by
  obtain⟨w,a,b⟩:=PP.1 h1;unfold gE at b;split at b
  ·split at b
   ·rename_i e;split at b
    ·rename_i hc;obtain⟨rfl,rfl,rfl⟩:=hc;obtain rfl:=Option.some.inj b;exact Gy a e rfl h2
    ·cases b
   ·cases b
  ·obtain rfl:=Option.some.inj b;exact Gz a h2
  ·cases b
end Go.Proofs.Ytofonnokanoflaa
