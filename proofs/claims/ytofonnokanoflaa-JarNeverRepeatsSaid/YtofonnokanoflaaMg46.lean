/- Texts of one's own, merged: from: The plain logic (19): loops; states by lists; bytes and words as data. Own work. -/
import Derived.IntWalk
import Derived.Test.YtofonnokanoflaaMg45
set_option linter.unusedVariables false
set_option linter.unusedSimpArgs false
namespace Go.Proofs.Ytofonnokanoflaa
open Go.RowKit IntWalk
def aV:List (Nat×V)→Nat→V
  | []=>uf
  | (i,v)::r=>upd (aV r) i v
def hL:List (Nat×Ob)→aj
  | []=>hN
  | (i,o)::r=>upd (hL r) i (some o)
def uL:List Nat→Nat→Bool
  | []=>uN
  | i::r=>upd (uL r) i true
theorem Bz:aV []=uf:=rfl
theorem oq (i:Nat) (v:V) (r:List (Nat×V)):aV ((i,v)::r)=upd (aV r) i v:=rfl
theorem DR:hL []=hN:=rfl
theorem kU (i:Nat) (o:Ob) (r:List (Nat×Ob)):hL ((i,o)::r)=upd (hL r) i (some o):=rfl
theorem DT:uL []=uN:=rfl
theorem oQ (i:Nat) (r:List Nat):uL (i::r)=upd (uL r) i true:=rfl
theorem DU {i:Nat}:∀ {l:List Nat},i∈l→uL l i=true
  | j::r,h=>by
    rw[oQ];by_cases e:i=j
    ·rw[e]; exact upd_same _ _ _
    ·rw[upd_ne _ _ e];exact DU (by simpa [e] using h)
theorem DV {f:Nat→V} {g:Nat→Nat}:∀ {l:List (Nat×V)},(∀ p∈l,f p.1=p.2.ren g)→∀ t,aV l t=.undef∨f t=(aV l t).ren g
  | [],_,_=>.inl rfl
  | (i,v)::r,h,t=>by
    rw[oq];by_cases e:t=i
    ·rw[e,upd_same]; exact .inr (h (i,v) (by simp))
    ·rw[upd_ne _ _ e];exact DV (fun p hp=>h p (by simp[hp])) t
theorem gr {i:Nat} {o:Ob}:∀ {l:List (Nat×Ob)},hL l i=some o→(i,o)∈l
  | [],h=>by cases h
  | (j,q)::r,h=>by
    rw[kU] at h;by_cases e:i=j
    ·rw[e,upd_same] at h;cases h;rw[e]; simp
    ·rw[upd_ne _ _ e] at h;exact RI _ (gr h)
theorem Lf {l:List (Nat×V)} {i t:Nat} (h:i∈(aV l t).ids):i∈l.flatMap fun p=>p.2.ids:=by
  induction l with
  | nil=>cases h
  | cons p r ih =>
    obtain⟨j,v⟩:=p;rw[oq] at h;rw[Ry,RA];by_cases e:t=j
    ·rw[e,upd_same] at h; exact .inl h
    ·rw[upd_ne _ _ e] at h; exact .inr (ih h)
def lO (f:Nat→V) (g:Nat→Nat):List (Nat×V)→Prop
  | []=>True
  | (i,v)::r=>f i=v.ren g∧lO f g r
def ga (h:aj) (g:Nat→Nat):List (Nat×Ob)→Prop
  | []=>True
  | (i,o)::r=>h (g i)=some (o.ren g)∧ga h g r
def mI:List Nat→Bool
  | []=>true
  | i::r=>!r.contains i&&mI r
theorem BC (f:Nat→V) (g:Nat→Nat):lO f g []=True:=rfl
theorem zG (f:Nat→V) (g:Nat→Nat) (i:Nat) (v:V) (r:List (Nat×V)):lO f g ((i,v)::r)=(f i=v.ren g∧lO f g r):=rfl
theorem BD (h:aj) (g:Nat→Nat):ga h g []=True:=rfl
theorem zH (h:aj) (g:Nat→Nat) (i:Nat) (o:Ob) (r:List (Nat×Ob)):ga h g ((i,o)::r)=(h (g i)=some (o.ren g)∧ga h g r):=rfl
theorem BE {f:Nat→V} {g:Nat→Nat}:∀ {l:List (Nat×V)},lO f g l→∀ p∈l,f p.1=p.2.ren g
  | (i,v)::r,h,p,hp=>by
    rcases RX.1 hp with rfl | hp
    ·exact h.1
    ·exact BE h.2 p hp
theorem oR {f:aj} {g:Nat→Nat}:∀ {l:List (Nat×Ob)},ga f g l→∀ p∈l,f (g p.1)=some (p.2.ren g)
  | (i,v)::r,h,p,hp=>by
    rcases RX.1 hp with rfl | hp
    ·exact h.1
    ·exact oR h.2 p hp
theorem sE:∀ {l:List Nat},mI l=true→l.Nodup
  | [],_=>.nil
  | i::r,h=>by
    simp only[mI,RN,Ta] at h;refine List.nodup_cons.2 ⟨fun hi=>?_,sE h.2⟩;have:=List.contains_iff_mem.2 hi;rw[h.1] at this;cases this
theorem aA {σ:St} (g:Nat→Nat) {fl:List (Nat×V)} {hl:List (Nat×Ob)} {ul:List Nat} (h1':lO σ.f g fl) (h2':ga σ.h g hl)
    (h3':mI (hl.map fun p=>g p.1)=true) (h4:((fl.flatMap fun p=>p.2.ids)++(hl.flatMap fun p=>p.1::p.2.ids)).all (fun i=>ul.contains i)=true):dI σ ⟨aV fl,hL hl,uL ul⟩:=by
  have h1:=BE h1';have h2:=oR h2';have h3:=sE h3';have used:∀ i,i∈(fl.flatMap fun p=>p.2.ids)++(hl.flatMap fun p=>p.1::p.2.ids)→uL ul i=true:=by
    intro i hi;rw[Ru] at h4;exact DU (by simpa using h4 i hi)
  refine⟨⟨g,DV h1,fun i o ho=>h2 (i,o) (gr ho),fun i j hi hj e=>?_⟩,fun t i hi=>used i (Rz _ (Lf hi)),fun i o ho=>⟨used i ?_,fun j hj=>used j ?_⟩⟩
  ·obtain⟨o,ho⟩:=RE.1 hi;obtain⟨q,hq⟩:=RE.1 hj;have m1:=gr ho;have m2:=gr hq;have key:∀ {l:List (Nat×Ob)},(l.map fun p=>g p.1).Nodup→∀ {x y:Nat×Ob},x∈l→y∈l→g x.1=g y.1→x=y:=by
     intro l
     induction l with
     | nil=>intro _ x y hx; cases hx
     | cons p r ih =>
       intro hn x y hx hy e;rw[Rl,List.nodup_cons] at hn;rcases RX.1 hx with rfl | hx' <;> rcases RX.1 hy with rfl | hy'
       ·rfl
       ·exact (hn.1 (RO.2 ⟨y,hy',e.symm⟩)).elim
       ·exact (hn.1 (RO.2 ⟨x,hx',e⟩)).elim
       ·exact ih hn.2 hx' hy' e
   exact congrArg Prod.fst (key h3 m1 m2 e)
  ·exact Rr _ (Rm.2 ⟨_,gr ho,by simp⟩)
  ·exact Rr _ (Rm.2 ⟨_,gr ho,by simp[hj]⟩)
section
variable {P:Program} {G:ak}
def mT {α:Type} (st:α→St) (μ:α→Nat) (ok:α→Prop) (a:α) (Q:AX→St→Prop) (e:AX) (s:St):Prop :=
  match e with | .nrm=>∃ b,μ b<μ a∧ok b∧dI s (st b) | e=>Q e s
theorem BF {α:Type} (st:α→St) (μ:α→Nat) (ok:α→Prop) (a:α) (Q:AX→St→Prop) (i:Nat) (s:St):mT st μ ok a Q (.ex i) s=Q (.ex i) s:=rfl
theorem zI {α:Type} (st:α→St) (μ:α→Nat) (ok:α→Prop) (a:α) (Q:AX→St→Prop) (s:St):mT st μ ok a Q .ret s=Q .ret s:=rfl
theorem aX {α:Type} {st:α→St} {μ:α→Nat} {ok:α→Prop} {a:α} {Q:AX→St→Prop} {s:St} (b:α) (h1:μ b<μ a) (h2:ok b) (h3:dI s (st b)):mT st μ ok a Q .nrm s:=⟨b,h1,h2,h3⟩
theorem bg {α:Type} {c:aK} {Q:AX→St→Prop} {σ:St} (st:α→St) (μ:α→Nat) (ok:α→Prop) (a0:α) (h0:ok a0) (he:dI σ (st a0)) (round:∀ a,ok a→a9 P G c (mT st μ ok a Q) (st a)):a9 P G (.loop c) Q σ:=by
  refine⟨fun n s=>∃ a,μ a=n∧ok a∧s=st a,⟨μ a0,st a0,he,a0,rfl,h0,rfl⟩,?_⟩;rintro n s ⟨a,rfl,ha,rfl⟩;have key:(mT st μ ok a Q)=(fun e s'=>match e with | .nrm=>∃ n' τ,n'<μ a∧dI s' τ∧∃ a,μ a=n'∧ok a∧τ=st a | e=>Q e s'):=by
    funext e s'
    cases e with
    | nrm =>
      refine propext ⟨?_,?_⟩
      ·rintro⟨b,h1,h2,h3⟩;exact⟨μ b,st b,h1,h3,b,rfl,h2,rfl⟩
      ·rintro⟨n',τ,h1,h2,b,rfl,h3,rfl⟩;exact⟨b,h1,h3,h2⟩
    | ex i=>rfl
    | ret=>rfl
  have:=round a ha;rw[key] at this;exact this
end
theorem jZ {P:Program} {G:ak} {F:FuncId} {args:List D} {sz:Nat} {es:List D} (h:ap P G F args (.w (.c (.fr sz es)))):ap P G F args (.w (.c (.d (.sl es)))):=by
  intro w S vs h1 h2 h3;refine (h w S vs h1 h2 h3).mono ?_;rintro e w' ⟨v,S',bl,rfl,k1,k2,k3,k4⟩;have hfresh:∀ b∈bl,w.heap.size≤b∧b<w'.heap.size:=by
    intro b hb;rcases k4 with ⟨_,_,rfl⟩ | ⟨b',cap,ty,N,rfl,_,_,_,q1,_,q2⟩
    ·cases hb
    ·simp only[Rw] at hb;subst hb;obtain⟨f1,_,cur,ty',fz,f3,_⟩:=q2;exact⟨f1,(Rs.1 f3).1⟩
  refine⟨v,fun b i=>S' b i∨b∈bl,[],rfl,k1,fun b i hs=>?_,.nil,?_⟩
  ·rcases hs with hs | hs
   ·exact k2 b i hs
   ·exact⟨.inr (hfresh b hs).1,(hfresh b hs).2⟩
  ·have:=lr (m:=fun _=>none) (x:=.c (.fr sz es)) k4 (T:=fun b i=>S' b i∨b∈bl) (fun _ _ h=>.inl h) (fun b hb _=>.inr hb);exact⟨this.1,rfl⟩
theorem Ng {S S':ah} {w:World} {B:Nat} {v:Value} {y:D} {bl:List Nat} (h:dm S w B v (.c (.d y)) bl) (hS:∀ b i,S b i→S' b i):dm S' w B v (.c (.d y)) []∧bl=[]:=by
  cases y with
  | agg cs =>
    obtain⟨⟨us,h1,h2⟩,h3⟩:=h;exact⟨⟨⟨us,h1,h2.weak fun _ _ _ _ h=>h.mono hS⟩,rfl⟩,h3⟩
  | _ =>
    obtain⟨h1,h2⟩:=h;exact⟨⟨h1.mono hS,rfl⟩,h2⟩
theorem tj {P:Program} {G:ak} {F:FuncId} {args:List D} {sz:Nat} {es:List D} {y:D} (h:ap P G F args (.tup [.c (.fr sz es),.c (.d y)])):ap P G F args (.tup [.c (.d (.sl es)),.c (.d y)]):=by
  intro w S vs h1 h2 h3;refine (h w S vs h1 h2 h3).mono ?_;rintro e w' ⟨v,S',bl,rfl,k1,k2,k3,us,rfl,k4⟩;cases k4 with
  | @cons v1 c1 b1 vs1 cs1 b2 q1 q2 =>
  cases q2 with
  | @cons v2 c2 b3 vs2 cs2 b4 q3 q4 =>
  cases q4;have hfresh:∀ b∈b1,w.heap.size≤b∧b<w'.heap.size:=by
    intro b hb;rcases q1 with ⟨_,_,rfl⟩ | ⟨b',cap,ty,N,rfl,_,_,_,q1,_,q2⟩
    ·cases hb
    ·simp only[Rw] at hb;subst hb;obtain⟨f1,_,cur,ty',fz,f3,_⟩:=q2;exact⟨f1,(Rs.1 f3).1⟩
  refine⟨_,fun b i=>S' b i∨b∈b1,[],rfl,k1,fun b i hs=>?_,.nil,_,rfl,?_⟩
  ·rcases hs with hs | hs
   ·exact k2 b i hs
   ·exact⟨.inr (hfresh b hs).1,(hfresh b hs).2⟩
  ·have hx:=lr (m:=fun _=>none) (x:=.c (.fr sz es)) q1 (T:=fun b i=>S' b i∨b∈b1) (fun _ _ h=>.inl h) (fun b hb _=>.inr hb);exact .cons (b1:=[]) (b2:=[]) ⟨hx.1,rfl⟩ (.cons (b1:=[]) (b2:=[]) (Ng q3 fun _ _ h=>.inl h).1 .nil)
abbrev bs (l:List UInt8):D:=.sl (l.map bD)
def wD (x:UInt32):D:=.int .u32 (x.toNat:Int)
theorem Fu (x:UInt8):df (.w (.c (.d (bD x))))=some (.u8,(x.toNat:Int)):=rfl
theorem Fv (x:UInt32):df (.w (.c (.d (wD x))))=some (.u32,(x.toNat:Int)):=rfl
theorem BG (op:BinOp) (x:UInt8) (k:IntKind) (n:Int):ba op (.w (.c (.d (bD x)))) (.w (.c (.d (.int k n))))=ba op (.w (.c (.d (.int .u8 (x.toNat:Int))))) (.w (.c (.d (.int k n)))):=rfl
theorem BH (op:BinOp) (x:UInt8) (k:IntKind) (n:Int):ba op (.w (.c (.d (.int k n)))) (.w (.c (.d (bD x))))=ba op (.w (.c (.d (.int k n)))) (.w (.c (.d (.int .u8 (x.toNat:Int))))):=rfl
theorem zJ (x y:UInt8):ba .lss (.w (.c (.d (bD x)))) (.w (.c (.d (bD y))))=ba .lss (.w (.c (.d (.int .u8 (x.toNat:Int))))) (.w (.c (.d (.int .u8 (y.toNat:Int))))):=rfl
theorem zK (x y:UInt8):ba .leq (.w (.c (.d (bD x)))) (.w (.c (.d (bD y))))=ba .leq (.w (.c (.d (.int .u8 (x.toNat:Int))))) (.w (.c (.d (.int .u8 (y.toNat:Int))))):=rfl
theorem zL (x y:UInt8):ba .gtr (.w (.c (.d (bD x)))) (.w (.c (.d (bD y))))=ba .gtr (.w (.c (.d (.int .u8 (x.toNat:Int))))) (.w (.c (.d (.int .u8 (y.toNat:Int))))):=rfl
theorem zM (x y:UInt8):ba .geq (.w (.c (.d (bD x)))) (.w (.c (.d (bD y))))=ba .geq (.w (.c (.d (.int .u8 (x.toNat:Int))))) (.w (.c (.d (.int .u8 (y.toNat:Int))))):=rfl
theorem zN (x y:UInt8):ba .eql (.w (.c (.d (bD x)))) (.w (.c (.d (bD y))))=ba .eql (.w (.c (.d (.int .u8 (x.toNat:Int))))) (.w (.c (.d (.int .u8 (y.toNat:Int))))):=rfl
theorem zO (x y:UInt8):ba .neq (.w (.c (.d (bD x)))) (.w (.c (.d (bD y))))=ba .neq (.w (.c (.d (.int .u8 (x.toNat:Int))))) (.w (.c (.d (.int .u8 (y.toNat:Int))))):=rfl
theorem zP (x y:UInt8):ba .add (.w (.c (.d (bD x)))) (.w (.c (.d (bD y))))=ba .add (.w (.c (.d (.int .u8 (x.toNat:Int))))) (.w (.c (.d (.int .u8 (y.toNat:Int))))):=rfl
theorem zQ (x y:UInt8):ba .sub (.w (.c (.d (bD x)))) (.w (.c (.d (bD y))))=ba .sub (.w (.c (.d (.int .u8 (x.toNat:Int))))) (.w (.c (.d (.int .u8 (y.toNat:Int))))):=rfl
theorem Fw (op:UnOp) (x:UInt8):ik op (.w (.c (.d (bD x))))=ik op (.w (.c (.d (.int .u8 (x.toNat:Int))))):=rfl
theorem xU (k:IntKind) (n:Int):D.cells (.int k n)=[.int k n]:=rfl
theorem xf (b:Bool):D.cells (.bool b)=[.bool b]:=rfl
theorem xV (b:ByteArray):D.cells (.str b)=[.str b]:=rfl
theorem zR (es:List D):D.cells (.sl es)=[.sl es]:=rfl
theorem xW (cs:List D):D.cells (.agg cs)=cs:=rfl
theorem zS (x:UInt32):(wD x).cells=[wD x]:=rfl
theorem zT (a:UInt8):cH 1 [bD a]=true:=rfl
theorem zU (a b:UInt8):cH 1 [bD a,bD b]=true:=rfl
theorem zV (x:UInt8):(bD x).cells=[bD x]:=rfl
theorem nO {α:Type} (f:α→D) (hf:∀ x,(f x).cells.length=1) (l:List α):cH 1 (l.map f)=true:=by
  unfold cH;rw[Ru];intro d hd;obtain⟨x,_,rfl⟩:=RO.1 hd;simp[hf x]
theorem zW (l:List UInt8):cH 1 (l.map bD)=true:=nO bD (fun _=>rfl) l
theorem zX (l:List UInt32):cH 1 (l.map wD)=true:=nO wD (fun _=>rfl) l
theorem sF:∀ l:List UInt8,jy (l.map bD)=some l
  | []=>rfl
  | x::l=>by
    have h:=x.toNat_lt;simp only[Rl,jy,sF l,bD,vM];rw[if_pos (by omega)];simp
theorem dK {α β:Type} (f:α→β) (l:List α) (n:Nat):(l.map f).take n=(l.take n).map f:=List.map_take.symm
theorem gS {α β:Type} (f:α→β) (l:List α) (n:Nat):(l.map f).drop n=(l.drop n).map f:=List.map_drop.symm
theorem gv {α β:Type} (f:α→β) (l:List α):(l.map f).length=l.length:=RD _
theorem iC {α β:Type} (f:α→β) (l m:List α):l.map f++m.map f=(l++m).map f:=RU.symm
theorem aR {α β:Type} (f:α→β) (l:List α) (i:Nat):(l.map f)[i]?=(l[i]?).map f:=Su
theorem tm {α β:Type} (f:α→β) (l:List α) (i:Nat) (x:α):(l.map f).set i (f x)=(l.set i x).map f:=List.map_set.symm
theorem rG {α:Type} (f:α→D) (hf:∀ x,(f x).cells=[f x]):∀ l:List α,(l.map f).flatMap D.cells=l.map f
  | []=>rfl
  | x::l=>by rw[Rl,Ry,hf x,rG f hf l]; rfl
theorem BI (l:List UInt32):(l.map wD).flatMap D.cells=l.map wD:=rG wD (fun _=>rfl) l
theorem fM (l:List UInt8):(l.map bD).flatMap D.cells=l.map bD:=rG bD (fun _=>rfl) l
def pR (k:IntKind) (n:Int):Int:=k.wrap n
theorem DW (n:Int):IntKind.i64.wrap n=if -9223372036854775808≤n∧n≤9223372036854775807 then n else pR .i64 n:=by
  split
  ·exact IntWalk.i64_in _ ‹_›
  ·rfl
theorem t9 (n:Int):IntKind.u64.wrap n=if 0≤n∧n≤18446744073709551615 then n else pR .u64 n:=by
  split
  ·exact IntWalk.u64_in _ (by omega)
  ·rfl
theorem DX (n:Int):IntKind.u32.wrap n=if 0≤n∧n≤4294967295 then n else pR .u32 n:=by
  split
  ·exact IntWalk.u32_in _ (by omega)
  ·rfl
theorem Fx (n:Int):IntKind.u8.wrap n=if 0≤n∧n≤255 then n else pR .u8 n:=by
  split
  ·exact IntWalk.u8_in _ (by omega)
  ·rfl
theorem QN (s:Nat) (l:List UInt32):V.flat (.w (.c (.fr s (l.map wD))))=true:=by
  simp only[V.flat,W.flat,C.flat,List.all_map,Ru]; intro x _; rfl
theorem mU (s:Nat) (l:List UInt8):V.flat (.w (.c (.fr s (l.map bD))))=true:=by
  simp only[V.flat,W.flat,C.flat,List.all_map,Ru]; intro x _; rfl
theorem xX (sz:Nat):cH sz []=true:=rfl
theorem xg (sz:Nat) (e:D) (es:List D):cH sz (e::es)=(e.cells.length==sz&&cH sz es):=rfl
theorem xY (a:ByteArray):jx .eql a a=some (.bool true):=by simp[jx]
theorem Gi {α:Type} (a:α):List.replicate 1 a=[a]:=rfl
theorem Gj {α:Type} (a:α):List.replicate 2 a=[a,a]:=rfl
theorem Gk {α:Type} (a:α):List.replicate 3 a=[a,a,a]:=rfl
theorem Gl {α:Type} (a:α):List.replicate 4 a=[a,a,a,a]:=rfl
theorem Gm {α:Type} (a:α):List.replicate 5 a=[a,a,a,a,a]:=rfl
theorem Gn {α:Type} (a:α):List.replicate 6 a=[a,a,a,a,a,a]:=rfl
def QO:=@gG
def ub:Option D→Bool | some e=>e.one | none=>false
theorem wJ (e:D):ub (some e)=e.one:=rfl
theorem Fy (es:List D) (i s:Nat) (x:D):gG .sc (.c (.d x)) i 0 (.row s es)=bif ub es[i]?&&x.one then some (.row s (es.set i x)) else QO .sc (.c (.d x)) i 0 (.row s es):=by
  cases hc:(ub es[i]?&&x.one) with
  | false=>rfl
  | true =>
    rw[RN] at hc;obtain⟨h1,h2⟩:=hc;cases he:es[i]? with
    | none=>rw[he] at h1; cases h1
    | some e =>
      rw[he] at h1;simp only[gG,he,dO,cond_true];cases e <;> first | (cases h1; done) | simp[h2]
theorem BJ (k:IntKind) (n:Int):D.one (.int k n)=true:=rfl
theorem zY (b:Bool):D.one (.bool b)=true:=rfl
theorem BK (b:ByteArray):D.one (.str b)=true:=rfl
theorem DY (es:List D):D.one (.sl es)=true:=rfl
theorem eS (x:UInt8):D.one (bD x)=true:=rfl
theorem pS (x:UInt32):D.one (wD x)=true:=rfl
theorem Gp (x:UInt32):bw (.c (.d (wD x)))=[.d (wD x)]:=rfl
theorem Gq (x:UInt8):bw (.c (.d (bD x)))=[.d (bD x)]:=rfl
theorem DZ (k:IntKind) (n:Int):bw (.c (.d (.int k n)))=[.d (.int k n)]:=rfl
theorem BL (b:Bool):bw (.c (.d (.bool b)))=[.d (.bool b)]:=rfl
theorem D1 (b:ByteArray):bw (.c (.d (.str b)))=[.d (.str b)]:=rfl
theorem Fz (es:List D):bw (.c (.d (.sl es)))=[.d (.sl es)]:=rfl
theorem D2 (cs:List D):bw (.c (.d (.agg cs)))=cs.map C.d:=rfl
theorem D3:bw (.c .nil)=[.nil]:=rfl
theorem D4 (id sz off n:Nat):bw (.c (.own id sz off n))=[.own id sz off n]:=rfl
theorem D5 (id sz i o:Nat):bw (.c (.ptr id sz i o))=[.ptr id sz i o]:=rfl
theorem FA (id sz:Nat):bw (.c (.pa id sz))=[.pa id sz]:=rfl
theorem D6 (cs:List C):bw (.mix cs)=cs:=rfl
theorem uM {σ:St} {p:Nat×Option Kd} {x:D} (h:bJ σ p=some (.c (.d x))):cv σ [p] (.w (.c (.d x))) :=
  ⟨[.c (.d x)],by simp[aF,h],.inl ⟨by simp[W.ids,C.ids],rfl⟩⟩
theorem en {σ:St} {p:Nat×Option Kd} {id sz n s:Nat} {es:List D} (h:bJ σ p=some (.c (.own id sz 0 n))) (e:σ.h id=some (.row s es)) (hn:n=es.length):cv σ [p] (.w (.c (.fr sz es))):=by
  refine⟨[.c (.own id sz 0 n)],by simp[aF,h],.inl ⟨by simp[W.ids,C.ids],rfl,rfl,?_⟩⟩;subst hn;rw[e];exact⟨by simp[cC],trivial⟩
theorem zZ {σ:St} {p:Nat×Option Kd} {id sz n s:Nat} {full:List D} (h:bJ σ p=some (.c (.own id sz 0 n))) (e:σ.h id=some (.row s full)) (hn:n≤full.length):cv σ [p] (.w (.c (.fr sz (full.take n)))):=by
  refine⟨[.c (.own id sz 0 n)],by simp[aF,h],.inl ⟨by simp[W.ids,C.ids],rfl,rfl,?_⟩⟩;rw[e];exact⟨by simp[cC,hn],trivial⟩
theorem tp {σ:St} {p:Nat×Option Kd} {sz:Nat} (h:bJ σ p=some (.c .nil)):cv σ [p] (.w (.c (.fr sz []))) :=
  ⟨[.c .nil],by simp[aF,h],.inl ⟨by simp[W.ids,C.ids],rfl⟩⟩
theorem my {σ:St} {p:Nat×Option Kd} {x:D} (h1:(bJ σ p).bind (toW σ.h)=some x):cv σ [p] (.w (.c (.d x))):=by
  obtain⟨w1,a1,b1⟩:=R0.1 h1;exact⟨[w1],by simp[aF,a1],.inr b1⟩
theorem uc {σ:St} {p q:Nat×Option Kd} {x y:D} (h1:(bJ σ p).bind (toW σ.h)=some x) (h2:(bJ σ q).bind (toW σ.h)=some y):cv σ [p,q] (.tup [.c (.d x),.c (.d y)]):=by
  obtain⟨w1,a1,b1⟩:=R0.1 h1;obtain⟨w2,a2,b2⟩:=R0.1 h2;exact⟨[w1,w2],by simp[aF,a1,a2],.inr (.cons ⟨x,rfl,b1⟩ (.cons ⟨y,rfl,b2⟩ .nil))⟩
theorem Nh {σ:St} {p q r:Nat×Option Kd} {x y z:D} (h1:(bJ σ p).bind (toW σ.h)=some x) (h2:(bJ σ q).bind (toW σ.h)=some y) (h3:(bJ σ r).bind (toW σ.h)=some z):cv σ [p,q,r] (.tup [.c (.d x),.c (.d y),.c (.d z)]):=by
  obtain⟨w1,a1,b1⟩:=R0.1 h1;obtain⟨w2,a2,b2⟩:=R0.1 h2;obtain⟨w3,a3,b3⟩:=R0.1 h3;exact⟨[w1,w2,w3],by simp[aF,a1,a2,a3],.inr (.cons ⟨x,rfl,b1⟩ (.cons ⟨y,rfl,b2⟩ (.cons ⟨z,rfl,b3⟩ .nil)))⟩
theorem Ij {σ:St} {p q:Nat×Option Kd} {id sz n s:Nat} {es:List D} {y:D} (h1:bJ σ p=some (.c (.own id sz 0 n))) (e:σ.h id=some (.row s es)) (hn:n=es.length) (h2:bJ σ q=some (.c (.d y))):cv σ [p,q] (.tup [.c (.fr sz es),.c (.d y)]):=by
  refine⟨[.c (.own id sz 0 n),.c (.d y)],by simp[aF,h1,h2],.inl ⟨by simp[W.ids,C.ids],.cons ⟨rfl,rfl,?_⟩ (.cons ?_ .nil)⟩⟩
  ·subst hn;rw[e];exact⟨by simp[cC],trivial⟩
  ·cases y <;> rfl
theorem Ik {σ:St} {p q:Nat×Option Kd} {sz:Nat} {y:D} (h1:bJ σ p=some (.c .nil)) (h2:bJ σ q=some (.c (.d y))):cv σ [p,q] (.tup [.c (.fr sz []),.c (.d y)]):=by
  refine⟨[.c .nil,.c (.d y)],by simp[aF,h1,h2],.inl ⟨by simp[W.ids,C.ids],.cons rfl (.cons ?_ .nil)⟩⟩;cases y <;> rfl
def hY (h:aj) (sz:Nat):W→Option (List D)
  | .c (.own id sz' off n)=>match h id with
    | some (.row _ es)=>if off=0∧n=es.length∧sz'=sz then some es else none
    | _=>none
  | .c .nil=>some []
  | _=>none
theorem z0 (h:aj) (sz id sz' off n:Nat):hY h sz (.c (.own id sz' off n))=(match h id with
    | some (.row _ es)=>if off=0∧n=es.length∧sz'=sz then some es else none
    | _=>none):=rfl
theorem z1 (h:aj) (sz:Nat):hY h sz (.c .nil)=some []:=rfl
theorem D7 {σ:St} {p:Nat×Option Kd} {sz:Nat} {es:List D} (h1:(bJ σ p).bind (hY σ.h sz)=some es):cv σ [p] (.w (.c (.fr sz es))):=by
  obtain⟨w,a,b⟩:=R0.1 h1;unfold hY at b;split at b
  ·split at b
   ·rename_i e;split at b
    ·rename_i hc;obtain⟨rfl,rfl,rfl⟩:=hc;obtain rfl:=Option.some.inj b;exact en a e rfl
    ·cases b
   ·cases b
  ·obtain rfl:=Option.some.inj b;exact tp a
  ·cases b
theorem ud {σ:St} {p q:Nat×Option Kd} {sz:Nat} {es:List D} {y:D} (h1:(bJ σ p).bind (hY σ.h sz)=some es) (h2:bJ σ q=some (.c (.d y))):cv σ [p,q] (.tup [.c (.fr sz es),.c (.d y)]):=by
  obtain⟨w,a,b⟩:=R0.1 h1;unfold hY at b;split at b
  ·split at b
   ·rename_i e;split at b
    ·rename_i hc;obtain⟨rfl,rfl,rfl⟩:=hc;obtain rfl:=Option.some.inj b;exact Ij a e rfl h2
    ·cases b
   ·cases b
  ·obtain rfl:=Option.some.inj b;exact Ik a h2
  ·cases b
end Go.Proofs.Ytofonnokanoflaa
