/- Texts of one's own, merged: from: The plain logic (19): loops; states by lists; bytes and words as data. Own work. -/
import Derived.IntWalk
import Derived.Test.YtofonnokanoflaaGreatDoorMt15
set_option linter.unusedVariables false
set_option linter.unusedSimpArgs false
namespace Go.Proofs.YtofonnokanoflaaGreatDoor
open Go.RowKit IntWalk
def bz:List (Nat×V)→Nat→V
  | []=>uf
  | (i,v)::r=>upd (bz r) i v
def hL:List (Nat×Ob)→aL
  | []=>hN
  | (i,o)::r=>upd (hL r) i (some o)
def uL:List Nat→Nat→Bool
  | []=>uN
  | i::r=>upd (uL r) i true
theorem Rk:bz []=uf:=rfl
theorem Ap (i:Nat) (v:V) (r:List (Nat×V)):bz ((i,v)::r)=upd (bz r) i v:=rfl
theorem UM:hL []=hN:=rfl
theorem sY (i:Nat) (o:Ob) (r:List (Nat×Ob)):hL ((i,o)::r)=upd (hL r) i (some o):=rfl
theorem UN:uL []=uN:=rfl
theorem A3 (i:Nat) (r:List Nat):uL (i::r)=upd (uL r) i true:=rfl
theorem UO {i:Nat}:∀ {l:List Nat},i∈l→uL l i=true
  | j::r,h=>by
    rw[A3];by_cases e:i=j
    ·rw[e]; exact upd_same _ _ _
    ·rw[upd_ne _ _ e];exact UO (by simpa [e] using h)
theorem HO {f:Nat→V} {g:Nat→Nat}:∀ {l:List (Nat×V)},(∀ p∈l,f p.1=p.2.ren g)→∀ t,bz l t=.undef∨f t=(bz l t).ren g
  | [],_,_=>.inl rfl
  | (i,v)::r,h,t=>by
    rw[Ap];by_cases e:t=i
    ·rw[e,upd_same]; exact .inr (h (i,v) (by simp))
    ·rw[upd_ne _ _ e];exact HO (fun p hp=>h p (by simp[hp])) t
theorem mS {i:Nat} {o:Ob}:∀ {l:List (Nat×Ob)},hL l i=some o→(i,o)∈l
  | [],h=>by cases h
  | (j,q)::r,h=>by
    rw[sY] at h;by_cases e:i=j
    ·rw[e,upd_same] at h;cases h;rw[e]; simp
    ·rw[upd_ne _ _ e] at h;exact aoQ _ (mS h)
theorem Rl {l:List (Nat×V)} {i t:Nat} (h:i∈(bz l t).ids):i∈l.flatMap fun p=>p.2.ids:=by
  induction l with
  | nil=>cases h
  | cons p r ih =>
    obtain⟨j,v⟩:=p;rw[Ap] at h;rw[aoL,aoG];by_cases e:t=j
    ·rw[e,upd_same] at h; exact .inl h
    ·rw[upd_ne _ _ e] at h; exact .inr (ih h)
def qO (f:Nat→V) (g:Nat→Nat):List (Nat×V)→Prop
  | []=>True
  | (i,v)::r=>f i=v.ren g∧qO f g r
def kD (h:aL) (g:Nat→Nat):List (Nat×Ob)→Prop
  | []=>True
  | (i,o)::r=>h (g i)=some (o.ren g)∧kD h g r
def yE:List Nat→Bool
  | []=>true
  | i::r=>!r.contains i&&yE r
theorem Rm (f:Nat→V) (g:Nat→Nat):qO f g []=True:=rfl
theorem OB (f:Nat→V) (g:Nat→Nat) (i:Nat) (v:V) (r:List (Nat×V)):qO f g ((i,v)::r)=(f i=v.ren g∧qO f g r):=rfl
theorem Rn (h:aL) (g:Nat→Nat):kD h g []=True:=rfl
theorem OC (h:aL) (g:Nat→Nat) (i:Nat) (o:Ob) (r:List (Nat×Ob)):kD h g ((i,o)::r)=(h (g i)=some (o.ren g)∧kD h g r):=rfl
theorem GJ {f:Nat→V} {g:Nat→Nat}:∀ {l:List (Nat×V)},qO f g l→∀ p∈l,f p.1=p.2.ren g
  | (i,v)::r,h,p,hp=>by
    rcases aoK.1 hp with rfl | hp
    ·exact h.1
    ·exact GJ h.2 p hp
theorem A4 {f:aL} {g:Nat→Nat}:∀ {l:List (Nat×Ob)},kD f g l→∀ p∈l,f (g p.1)=some (p.2.ren g)
  | (i,v)::r,h,p,hp=>by
    rcases aoK.1 hp with rfl | hp
    ·exact h.1
    ·exact A4 h.2 p hp
theorem FX:∀ {l:List Nat},yE l=true→l.Nodup
  | [],_=>.nil
  | i::r,h=>by
    simp only[yE,aoU,aqF] at h;refine ap2.2 ⟨fun hi=>?_,FX h.2⟩;have:=List.contains_iff_mem.2 hi;rw[h.1] at this;cases this
theorem aV {σ:St} (g:Nat→Nat) {fl:List (Nat×V)} {hl:List (Nat×Ob)} {ul:List Nat} (h1':qO σ.f g fl) (h2':kD σ.h g hl)
    (h3':yE (hl.map fun p=>g p.1)=true) (h4:((fl.flatMap fun p=>p.2.ids)++(hl.flatMap fun p=>p.1::p.2.ids)).all (fun i=>ul.contains i)=true):ft σ ⟨bz fl,hL hl,uL ul⟩:=by
  have h1:=GJ h1';have h2:=A4 h2';have h3:=FX h3';have used:∀ i,i∈(fl.flatMap fun p=>p.2.ids)++(hl.flatMap fun p=>p.1::p.2.ids)→uL ul i=true:=by
    intro i hi;rw[aoE] at h4;exact UO (by simpa using h4 i hi)
  refine⟨⟨g,HO h1,fun i o ho=>h2 (i,o) (mS ho),fun i j hi hj e=>?_⟩,fun t i hi=>used i (ao8 _ (Rl hi)),fun i o ho=>⟨used i ?_,fun j hj=>used j ?_⟩⟩
  ·obtain⟨o,ho⟩:=aoO.1 hi;obtain⟨q,hq⟩:=aoO.1 hj;have m1:=mS ho;have m2:=mS hq;have key:∀ {l:List (Nat×Ob)},(l.map fun p=>g p.1).Nodup→∀ {x y:Nat×Ob},x∈l→y∈l→g x.1=g y.1→x=y:=by
     intro l
     induction l with
     | nil=>intro _ x y hx; cases hx
     | cons p r ih =>
       intro hn x y hx hy e;rw[aos,ap2] at hn;rcases aoK.1 hx with rfl | hx' <;> rcases aoK.1 hy with rfl | hy'
       ·rfl
       ·exact (hn.1 (aoN.2 ⟨y,hy',e.symm⟩)).elim
       ·exact (hn.1 (aoN.2 ⟨x,hx',e⟩)).elim
       ·exact ih hn.2 hx' hy' e
   exact congrArg Prod.fst (key h3 m1 m2 e)
  ·exact aoM _ (aoD.2 ⟨_,mS ho,by simp⟩)
  ·exact aoM _ (aoD.2 ⟨_,mS ho,by simp[hj]⟩)
section
variable {P:Program} {G:au}
def yX {α:Type} (st:α→St) (μ:α→Nat) (ok:α→Prop) (a:α) (Q:AX→St→Prop) (e:AX) (s:St):Prop :=
  match e with | .nrm=>∃ b,μ b<μ a∧ok b∧ft s (st b) | e=>Q e s
theorem Ro {α:Type} (st:α→St) (μ:α→Nat) (ok:α→Prop) (a:α) (Q:AX→St→Prop) (i:Nat) (s:St):yX st μ ok a Q (.ex i) s=Q (.ex i) s:=rfl
theorem OD {α:Type} (st:α→St) (μ:α→Nat) (ok:α→Prop) (a:α) (Q:AX→St→Prop) (s:St):yX st μ ok a Q .ret s=Q .ret s:=rfl
theorem bA {α:Type} {st:α→St} {μ:α→Nat} {ok:α→Prop} {a:α} {Q:AX→St→Prop} {s:St} (b:α) (h1:μ b<μ a) (h2:ok b) (h3:ft s (st b)):yX st μ ok a Q .nrm s:=⟨b,h1,h2,h3⟩
theorem bQ {α:Type} {c:bq} {Q:AX→St→Prop} {σ:St} (st:α→St) (μ:α→Nat) (ok:α→Prop) (a0:α) (h0:ok a0) (he:ft σ (st a0)) (round:∀ a,ok a→cD P G c (yX st μ ok a Q) (st a)):cD P G (.loop c) Q σ:=by
  refine⟨fun n s=>∃ a,μ a=n∧ok a∧s=st a,⟨μ a0,st a0,he,a0,rfl,h0,rfl⟩,?_⟩;rintro n s ⟨a,rfl,ha,rfl⟩;have key:(yX st μ ok a Q)=(fun e s'=>match e with | .nrm=>∃ n' τ,n'<μ a∧ft s' τ∧∃ a,μ a=n'∧ok a∧τ=st a | e=>Q e s'):=by
    funext e s'
    cases e with
    | nrm =>
      refine propext ⟨?_,?_⟩
      ·rintro⟨b,h1,h2,h3⟩;exact⟨μ b,st b,h1,h3,b,rfl,h2,rfl⟩
      ·rintro⟨n',τ,h1,h2,b,rfl,h3,rfl⟩;exact⟨b,h1,h3,h2⟩
    | ex i=>rfl
    | ret=>rfl
  have:=round a ha;rw[key] at this;exact this
end
theorem qg {P:Program} {G:au} {F:FuncId} {args:List D} {sz:Nat} {es:List D} (h:aF P G F args (.w (.c (.fr sz es)))):aF P G F args (.w (.c (.d (.sl es)))):=by
  intro w S vs h1 h2 h3;refine (h w S vs h1 h2 h3).mono ?_;rintro e w' ⟨v,S',bl,rfl,k1,k2,k3,k4⟩;have hfresh:∀ b∈bl,w.heap.size≤b∧b<w'.heap.size:=by
    intro b hb;rcases k4 with ⟨_,_,rfl⟩ | ⟨b',cap,ty,N,rfl,_,_,_,q1,_,q2⟩
    ·cases hb
    ·simp only[aou] at hb;subst hb;obtain⟨f1,_,cur,ty',fz,f3,_⟩:=q2;exact⟨f1,(aoI.1 f3).1⟩
  refine⟨v,fun b i=>S' b i∨b∈bl,[],rfl,k1,fun b i hs=>?_,.nil,?_⟩
  ·rcases hs with hs | hs
   ·exact k2 b i hs
   ·exact⟨.inr (hfresh b hs).1,(hfresh b hs).2⟩
  ·have:=vN (m:=fun _=>none) (x:=.c (.fr sz es)) k4 (T:=fun b i=>S' b i∨b∈bl) (fun _ _ h=>.inl h) (fun b hb _=>.inr hb);exact⟨this.1,rfl⟩
theorem ah4 {S S':aR} {w:World} {B:Nat} {v:Value} {y:D} {bl:List Nat} (h:iU S w B v (.c (.d y)) bl) (hS:∀ b i,S b i→S' b i):iU S' w B v (.c (.d y)) []∧bl=[]:=by
  cases y with
  | agg cs =>
    obtain⟨⟨us,h1,h2⟩,h3⟩:=h;exact⟨⟨⟨us,h1,h2.weak fun _ _ _ _ h=>h.mono hS⟩,rfl⟩,h3⟩
  | _ =>
    obtain⟨h1,h2⟩:=h;exact⟨⟨h1.mono hS,rfl⟩,h2⟩
theorem uV {P:Program} {G:au} {F:FuncId} {args:List D} {sz:Nat} {es:List D} {y:D} (h:aF P G F args (.tup [.c (.fr sz es),.c (.d y)])):aF P G F args (.tup [.c (.d (.sl es)),.c (.d y)]):=by
  intro w S vs h1 h2 h3;refine (h w S vs h1 h2 h3).mono ?_;rintro e w' ⟨v,S',bl,rfl,k1,k2,k3,us,rfl,k4⟩;cases k4 with
  | @cons v1 c1 b1 vs1 cs1 b2 q1 q2 =>
  cases q2 with
  | @cons v2 c2 b3 vs2 cs2 b4 q3 q4 =>
  cases q4;have hfresh:∀ b∈b1,w.heap.size≤b∧b<w'.heap.size:=by
    intro b hb;rcases q1 with ⟨_,_,rfl⟩ | ⟨b',cap,ty,N,rfl,_,_,_,q1,_,q2⟩
    ·cases hb
    ·simp only[aou] at hb;subst hb;obtain⟨f1,_,cur,ty',fz,f3,_⟩:=q2;exact⟨f1,(aoI.1 f3).1⟩
  refine⟨_,fun b i=>S' b i∨b∈b1,[],rfl,k1,fun b i hs=>?_,.nil,_,rfl,?_⟩
  ·rcases hs with hs | hs
   ·exact k2 b i hs
   ·exact⟨.inr (hfresh b hs).1,(hfresh b hs).2⟩
  ·have hx:=vN (m:=fun _=>none) (x:=.c (.fr sz es)) q1 (T:=fun b i=>S' b i∨b∈b1) (fun _ _ h=>.inl h) (fun b hb _=>.inr hb);exact .cons (b1:=[]) (b2:=[]) ⟨hx.1,rfl⟩ (.cons (b1:=[]) (b2:=[]) (ah4 q3 fun _ _ h=>.inl h).1 .nil)
abbrev bs (l:List UInt8):D:=.sl (l.map bD)
def wD (x:UInt32):D:=.int .u32 (x.toNat:Int)
theorem XG (x:UInt8):fX (.w (.c (.d (bD x))))=some (.u8,(x.toNat:Int)):=rfl
theorem XH (x:UInt32):fX (.w (.c (.d (wD x))))=some (.u32,(x.toNat:Int)):=rfl
theorem Rp (op:BinOp) (x:UInt8) (k:IntKind) (n:Int):dc op (.w (.c (.d (bD x)))) (.w (.c (.d (.int k n))))=dc op (.w (.c (.d (.int .u8 (x.toNat:Int))))) (.w (.c (.d (.int k n)))):=rfl
theorem Rq (op:BinOp) (x:UInt8) (k:IntKind) (n:Int):dc op (.w (.c (.d (.int k n)))) (.w (.c (.d (bD x))))=dc op (.w (.c (.d (.int k n)))) (.w (.c (.d (.int .u8 (x.toNat:Int))))):=rfl
theorem OE (x y:UInt8):dc .lss (.w (.c (.d (bD x)))) (.w (.c (.d (bD y))))=dc .lss (.w (.c (.d (.int .u8 (x.toNat:Int))))) (.w (.c (.d (.int .u8 (y.toNat:Int))))):=rfl
theorem OG (x y:UInt8):dc .leq (.w (.c (.d (bD x)))) (.w (.c (.d (bD y))))=dc .leq (.w (.c (.d (.int .u8 (x.toNat:Int))))) (.w (.c (.d (.int .u8 (y.toNat:Int))))):=rfl
theorem OH (x y:UInt8):dc .gtr (.w (.c (.d (bD x)))) (.w (.c (.d (bD y))))=dc .gtr (.w (.c (.d (.int .u8 (x.toNat:Int))))) (.w (.c (.d (.int .u8 (y.toNat:Int))))):=rfl
theorem OI (x y:UInt8):dc .geq (.w (.c (.d (bD x)))) (.w (.c (.d (bD y))))=dc .geq (.w (.c (.d (.int .u8 (x.toNat:Int))))) (.w (.c (.d (.int .u8 (y.toNat:Int))))):=rfl
theorem OJ (x y:UInt8):dc .eql (.w (.c (.d (bD x)))) (.w (.c (.d (bD y))))=dc .eql (.w (.c (.d (.int .u8 (x.toNat:Int))))) (.w (.c (.d (.int .u8 (y.toNat:Int))))):=rfl
theorem OK (x y:UInt8):dc .neq (.w (.c (.d (bD x)))) (.w (.c (.d (bD y))))=dc .neq (.w (.c (.d (.int .u8 (x.toNat:Int))))) (.w (.c (.d (.int .u8 (y.toNat:Int))))):=rfl
theorem OL (x y:UInt8):dc .add (.w (.c (.d (bD x)))) (.w (.c (.d (bD y))))=dc .add (.w (.c (.d (.int .u8 (x.toNat:Int))))) (.w (.c (.d (.int .u8 (y.toNat:Int))))):=rfl
theorem OM (x y:UInt8):dc .sub (.w (.c (.d (bD x)))) (.w (.c (.d (bD y))))=dc .sub (.w (.c (.d (.int .u8 (x.toNat:Int))))) (.w (.c (.d (.int .u8 (y.toNat:Int))))):=rfl
theorem XI (op:UnOp) (x:UInt8):pI op (.w (.c (.d (bD x))))=pI op (.w (.c (.d (.int .u8 (x.toNat:Int))))):=rfl
theorem Ml (k:IntKind) (n:Int):D.cells (.int k n)=[.int k n]:=rfl
theorem Lu (b:Bool):D.cells (.bool b)=[.bool b]:=rfl
theorem Mm (b:ByteArray):D.cells (.str b)=[.str b]:=rfl
theorem ON (es:List D):D.cells (.sl es)=[.sl es]:=rfl
theorem Mn (cs:List D):D.cells (.agg cs)=cs:=rfl
theorem OO (x:UInt32):(wD x).cells=[wD x]:=rfl
theorem OP (a:UInt8):fL 1 [bD a]=true:=rfl
theorem OQ (a b:UInt8):fL 1 [bD a,bD b]=true:=rfl
theorem OR (x:UInt8):(bD x).cells=[bD x]:=rfl
theorem xz {α:Type} (f:α→D) (hf:∀ x,(f x).cells.length=1) (l:List α):fL 1 (l.map f)=true:=by
  unfold fL;rw[aoE];intro d hd;obtain⟨x,_,rfl⟩:=aoN.1 hd;simp[hf x]
theorem OS (l:List UInt8):fL 1 (l.map bD)=true:=xz bD (fun _=>rfl) l
theorem OT (l:List UInt32):fL 1 (l.map wD)=true:=xz wD (fun _=>rfl) l
theorem Aq:∀ l:List UInt8,rU (l.map bD)=some l
  | []=>rfl
  | x::l=>by
    have h:=x.toNat_lt;simp only[aos,rU,Aq l,bD,Ks];rw[if_pos (by omega)];simp
theorem jF {α β:Type} (f:α→β) (l:List α) (n:Nat):(l.map f).take n=(l.take n).map f:=List.map_take.symm
theorem oH {α β:Type} (f:α→β) (l:List α) (n:Nat):(l.map f).drop n=(l.drop n).map f:=List.map_drop.symm
theorem nO {α β:Type} (f:α→β) (l:List α):(l.map f).length=l.length:=aox _
theorem pZ {α β:Type} (f:α→β) (l m:List α):l.map f++m.map f=(l++m).map f:=aoH.symm
theorem ba {α β:Type} (f:α→β) (l:List α) (i:Nat):(l.map f)[i]?=(l[i]?).map f:=apk
theorem GK {α β:Type} (f:α→β) (l:List α) (i:Nat) (x:α):(l.map f).set i (f x)=(l.set i x).map f:=List.map_set.symm
theorem Fe {α:Type} (f:α→D) (hf:∀ x,(f x).cells=[f x]):∀ l:List α,(l.map f).flatMap D.cells=l.map f
  | []=>rfl
  | x::l=>by rw[aos,aoL,hf x,Fe f hf l]; rfl
theorem Rr (l:List UInt32):(l.map wD).flatMap D.cells=l.map wD:=Fe wD (fun _=>rfl) l
theorem mT (l:List UInt8):(l.map bD).flatMap D.cells=l.map bD:=Fe bD (fun _=>rfl) l
def CQ (k:IntKind) (n:Int):Int:=k.wrap n
theorem UP (n:Int):IntKind.i64.wrap n=if -9223372036854775808≤n∧n≤9223372036854775807 then n else CQ .i64 n:=by
  split
  ·exact IntWalk.i64_in _ ‹_›
  ·rfl
theorem HP (n:Int):IntKind.u64.wrap n=if 0≤n∧n≤18446744073709551615 then n else CQ .u64 n:=by
  split
  ·exact IntWalk.u64_in _ (by omega)
  ·rfl
theorem UQ (n:Int):IntKind.u32.wrap n=if 0≤n∧n≤4294967295 then n else CQ .u32 n:=by
  split
  ·exact IntWalk.u32_in _ (by omega)
  ·rfl
theorem XJ (n:Int):IntKind.u8.wrap n=if 0≤n∧n≤255 then n else CQ .u8 n:=by
  split
  ·exact IntWalk.u8_in _ (by omega)
  ·rfl
theorem an7 (s:Nat) (l:List UInt32):V.flat (.w (.c (.fr s (l.map wD))))=true:=by
  simp only[V.flat,W.flat,C.flat,List.all_map,aoE]; intro x _; rfl
theorem tM (s:Nat) (l:List UInt8):V.flat (.w (.c (.fr s (l.map bD))))=true:=by
  simp only[V.flat,W.flat,C.flat,List.all_map,aoE]; intro x _; rfl
theorem Mo (sz:Nat):fL sz []=true:=rfl
theorem Lv (sz:Nat) (e:D) (es:List D):fL sz (e::es)=(e.cells.length==sz&&fL sz es):=rfl
theorem Mq (a:ByteArray):pn .eql a a=some (.bool true):=by simp[pn]
theorem YT {α:Type} (a:α):List.replicate 1 a=[a]:=rfl
theorem YU {α:Type} (a:α):List.replicate 2 a=[a,a]:=rfl
theorem YV {α:Type} (a:α):List.replicate 3 a=[a,a,a]:=rfl
theorem YW {α:Type} (a:α):List.replicate 4 a=[a,a,a,a]:=rfl
theorem YX {α:Type} (a:α):List.replicate 5 a=[a,a,a,a,a]:=rfl
theorem YY {α:Type} (a:α):List.replicate 6 a=[a,a,a,a,a,a]:=rfl
def an8:=@ot
def HQ:Option D→Bool | some e=>e.one | none=>false
theorem K9 (e:D):HQ (some e)=e.one:=rfl
theorem XK (es:List D) (i s:Nat) (x:D):ot .sc (.c (.d x)) i 0 (.row s es)=bif HQ es[i]?&&x.one then some (.row s (es.set i x)) else an8 .sc (.c (.d x)) i 0 (.row s es):=by
  cases hc:(HQ es[i]?&&x.one) with
  | false=>rfl
  | true =>
    rw[aoU] at hc;obtain⟨h1,h2⟩:=hc;cases he:es[i]? with
    | none=>rw[he] at h1; cases h1
    | some e =>
      rw[he] at h1;simp only[ot,he,jJ,cond_true];cases e <;> first | (cases h1; done) | simp[h2]
theorem Rs (k:IntKind) (n:Int):D.one (.int k n)=true:=rfl
theorem OU (b:Bool):D.one (.bool b)=true:=rfl
theorem Ru (b:ByteArray):D.one (.str b)=true:=rfl
theorem UR (es:List D):D.one (.sl es)=true:=rfl
theorem js (x:UInt8):D.one (bD x)=true:=rfl
theorem vQ (x:UInt32):D.one (wD x)=true:=rfl
theorem YZ (x:UInt32):dU (.c (.d (wD x)))=[.d (wD x)]:=rfl
theorem Y0 (x:UInt8):dU (.c (.d (bD x)))=[.d (bD x)]:=rfl
theorem US (k:IntKind) (n:Int):dU (.c (.d (.int k n)))=[.d (.int k n)]:=rfl
theorem Rv (b:Bool):dU (.c (.d (.bool b)))=[.d (.bool b)]:=rfl
theorem UT (b:ByteArray):dU (.c (.d (.str b)))=[.d (.str b)]:=rfl
theorem XL (es:List D):dU (.c (.d (.sl es)))=[.d (.sl es)]:=rfl
theorem UU (cs:List D):dU (.c (.d (.agg cs)))=cs.map C.d:=rfl
theorem UV:dU (.c .nil)=[.nil]:=rfl
theorem UW (id sz off n:Nat):dU (.c (.own id sz off n))=[.own id sz off n]:=rfl
theorem UX (id sz i o:Nat):dU (.c (.ptr id sz i o))=[.ptr id sz i o]:=rfl
theorem XM (id sz:Nat):dU (.c (.pa id sz))=[.pa id sz]:=rfl
theorem UY (cs:List C):dU (.mix cs)=cs:=rfl
theorem qo {σ:St} {p:Nat×Option Kd} {x:D} (h:cV σ p=some (.c (.d x))):fb σ [p] (.w (.c (.d x))) :=
  ⟨[.c (.d x)],by simp[bB,h],.inl ⟨by simp[W.ids,C.ids],rfl⟩⟩
theorem iP {σ:St} {p:Nat×Option Kd} {id sz n s:Nat} {es:List D} (h:cV σ p=some (.c (.own id sz 0 n))) (e:σ.h id=some (.row s es)) (hn:n=es.length):fb σ [p] (.w (.c (.fr sz es))):=by
  refine⟨[.c (.own id sz 0 n)],by simp[bB,h],.inl ⟨by simp[W.ids,C.ids],rfl,rfl,?_⟩⟩;subst hn;rw[e];exact⟨by simp[fv],trivial⟩
theorem OV {σ:St} {p:Nat×Option Kd} {id sz n s:Nat} {full:List D} (h:cV σ p=some (.c (.own id sz 0 n))) (e:σ.h id=some (.row s full)) (hn:n≤full.length):fb σ [p] (.w (.c (.fr sz (full.take n)))):=by
  refine⟨[.c (.own id sz 0 n)],by simp[bB,h],.inl ⟨by simp[W.ids,C.ids],rfl,rfl,?_⟩⟩;rw[e];exact⟨by simp[fv,hn],trivial⟩
theorem GL {σ:St} {p:Nat×Option Kd} {sz:Nat} (h:cV σ p=some (.c .nil)):fb σ [p] (.w (.c (.fr sz []))) :=
  ⟨[.c .nil],by simp[bB,h],.inl ⟨by simp[W.ids,C.ids],rfl⟩⟩
theorem td {σ:St} {p:Nat×Option Kd} {x:D} (h1:(cV σ p).bind (toW σ.h)=some x):fb σ [p] (.w (.c (.d x))):=by
  obtain⟨w1,a1,b1⟩:=ao4.1 h1;exact⟨[w1],by simp[bB,a1],.inr b1⟩
theorem eW {σ:St} {p q:Nat×Option Kd} {x y:D} (h1:(cV σ p).bind (toW σ.h)=some x) (h2:(cV σ q).bind (toW σ.h)=some y):fb σ [p,q] (.tup [.c (.d x),.c (.d y)]):=by
  obtain⟨w1,a1,b1⟩:=ao4.1 h1;obtain⟨w2,a2,b2⟩:=ao4.1 h2;exact⟨[w1,w2],by simp[bB,a1,a2],.inr (.cons ⟨x,rfl,b1⟩ (.cons ⟨y,rfl,b2⟩ .nil))⟩
theorem lG {σ:St} {p q r:Nat×Option Kd} {x y z:D} (h1:(cV σ p).bind (toW σ.h)=some x) (h2:(cV σ q).bind (toW σ.h)=some y) (h3:(cV σ r).bind (toW σ.h)=some z):fb σ [p,q,r] (.tup [.c (.d x),.c (.d y),.c (.d z)]):=by
  obtain⟨w1,a1,b1⟩:=ao4.1 h1;obtain⟨w2,a2,b2⟩:=ao4.1 h2;obtain⟨w3,a3,b3⟩:=ao4.1 h3;exact⟨[w1,w2,w3],by simp[bB,a1,a2,a3],.inr (.cons ⟨x,rfl,b1⟩ (.cons ⟨y,rfl,b2⟩ (.cons ⟨z,rfl,b3⟩ .nil)))⟩
theorem aaR {σ:St} {p q:Nat×Option Kd} {id sz n s:Nat} {es:List D} {y:D} (h1:cV σ p=some (.c (.own id sz 0 n))) (e:σ.h id=some (.row s es)) (hn:n=es.length) (h2:cV σ q=some (.c (.d y))):fb σ [p,q] (.tup [.c (.fr sz es),.c (.d y)]):=by
  refine⟨[.c (.own id sz 0 n),.c (.d y)],by simp[bB,h1,h2],.inl ⟨by simp[W.ids,C.ids],.cons ⟨rfl,rfl,?_⟩ (.cons ?_ .nil)⟩⟩
  ·subst hn;rw[e];exact⟨by simp[fv],trivial⟩
  ·cases y <;> rfl
theorem aaS {σ:St} {p q:Nat×Option Kd} {sz:Nat} {y:D} (h1:cV σ p=some (.c .nil)) (h2:cV σ q=some (.c (.d y))):fb σ [p,q] (.tup [.c (.fr sz []),.c (.d y)]):=by
  refine⟨[.c .nil,.c (.d y)],by simp[bB,h1,h2],.inl ⟨by simp[W.ids,C.ids],.cons rfl (.cons ?_ .nil)⟩⟩;cases y <;> rfl
def po (h:aL) (sz:Nat):W→Option (List D)
  | .c (.own id sz' off n)=>match h id with
    | some (.row _ es)=>if off=0∧n=es.length∧sz'=sz then some es else none
    | _=>none
  | .c .nil=>some []
  | _=>none
theorem OW (h:aL) (sz id sz' off n:Nat):po h sz (.c (.own id sz' off n))=(match h id with
    | some (.row _ es)=>if off=0∧n=es.length∧sz'=sz then some es else none
    | _=>none):=rfl
theorem OX (h:aL) (sz:Nat):po h sz (.c .nil)=some []:=rfl
theorem UZ {σ:St} {p:Nat×Option Kd} {sz:Nat} {es:List D} (h1:(cV σ p).bind (po σ.h sz)=some es):fb σ [p] (.w (.c (.fr sz es))):=by
  obtain⟨w,a,b⟩:=ao4.1 h1;unfold po at b;split at b
  ·split at b
   ·rename_i e;split at b
    ·rename_i hc;obtain⟨rfl,rfl,rfl⟩:=hc;obtain rfl:=Option.some.inj b;exact iP a e rfl
    ·cases b
   ·cases b
  ·obtain rfl:=Option.some.inj b;exact GL a
  ·cases b
theorem HR {σ:St} {p q:Nat×Option Kd} {sz:Nat} {es:List D} {y:D} (h1:(cV σ p).bind (po σ.h sz)=some es) (h2:cV σ q=some (.c (.d y))):fb σ [p,q] (.tup [.c (.fr sz es),.c (.d y)]):=by
  obtain⟨w,a,b⟩:=ao4.1 h1;unfold po at b;split at b
  ·split at b
   ·rename_i e;split at b
    ·rename_i hc;obtain⟨rfl,rfl,rfl⟩:=hc;obtain rfl:=Option.some.inj b;exact aaR a e rfl h2
    ·cases b
   ·cases b
  ·obtain rfl:=Option.some.inj b;exact aaS a h2
  ·cases b
end Go.Proofs.YtofonnokanoflaaGreatDoor
