/- Texts of one's own, merged: from: The plain logic (19): loops; states by lists; bytes and words as data. Own work. -/
import Derived.IntWalk
import Derived.Test.YtlghfnidknfakaaGreatDoorMg15
set_option linter.unusedVariables false
set_option linter.unusedSimpArgs false
namespace Go.Proofs.YtlghfnidknfakaaGreatDoor
open Go.RowKit IntWalk
def aQ:List (Nat×V)→Nat→V
  | []=>uf
  | (i,v)::r=>upd (aQ r) i v
def hL:List (Nat×Ob)→aB
  | []=>hN
  | (i,o)::r=>upd (hL r) i (some o)
def uL:List Nat→Nat→Bool
  | []=>uN
  | i::r=>upd (uL r) i true
theorem F4:aQ []=uf:=rfl
theorem qS (i:Nat) (v:V) (r:List (Nat×V)):aQ ((i,v)::r)=upd (aQ r) i v:=rfl
theorem Il:hL []=hN:=rfl
theorem wH (i:Nat) (o:Ob) (r:List (Nat×Ob)):hL ((i,o)::r)=upd (hL r) i (some o):=rfl
theorem Im:uL []=uN:=rfl
theorem wI (i:Nat) (r:List Nat):uL (i::r)=upd (uL r) i true:=rfl
theorem Io {i:Nat}:∀ {l:List Nat},i∈l→uL l i=true
  | j::r,h=>by
    rw[wI];by_cases e:i=j
    ·rw[e]; exact upd_same _ _ _
    ·rw[upd_ne _ _ e];exact Io (by simpa [e] using h)
theorem xx {f:Nat→V} {g:Nat→Nat}:∀ {l:List (Nat×V)},(∀ p∈l,f p.1=p.2.ren g)→∀ t,aQ l t=.undef∨f t=(aQ l t).ren g
  | [],_,_=>.inl rfl
  | (i,v)::r,h,t=>by
    rw[qS];by_cases e:t=i
    ·rw[e,upd_same]; exact .inr (h (i,v) (by simp))
    ·rw[upd_ne _ _ e];exact xx (fun p hp=>h p (by simp[hp])) t
theorem mQ {i:Nat} {o:Ob}:∀ {l:List (Nat×Ob)},hL l i=some o→(i,o)∈l
  | [],h=>by cases h
  | (j,q)::r,h=>by
    rw[wH] at h;by_cases e:i=j
    ·rw[e,upd_same] at h;cases h;rw[e]; simp
    ·rw[upd_ne _ _ e] at h;exact WW _ (mQ h)
theorem F5 {l:List (Nat×V)} {i t:Nat} (h:i∈(aQ l t).ids):i∈l.flatMap fun p=>p.2.ids:=by
  induction l with
  | nil=>cases h
  | cons p r ih =>
    obtain⟨j,v⟩:=p;rw[qS] at h;rw[WQ,WO];by_cases e:t=j
    ·rw[e,upd_same] at h; exact .inl h
    ·rw[upd_ne _ _ e] at h; exact .inr (ih h)
def kf (f:Nat→V) (g:Nat→Nat):List (Nat×V)→Prop
  | []=>True
  | (i,v)::r=>f i=v.ren g∧kf f g r
def oa (h:aB) (g:Nat→Nat):List (Nat×Ob)→Prop
  | []=>True
  | (i,o)::r=>h (g i)=some (o.ren g)∧oa h g r
def sS:List Nat→Bool
  | []=>true
  | i::r=>!r.contains i&&sS r
theorem F6 (f:Nat→V) (g:Nat→Nat):kf f g []=True:=rfl
theorem Ds (f:Nat→V) (g:Nat→Nat) (i:Nat) (v:V) (r:List (Nat×V)):kf f g ((i,v)::r)=(f i=v.ren g∧kf f g r):=rfl
theorem F7 (h:aB) (g:Nat→Nat):oa h g []=True:=rfl
theorem Dt (h:aB) (g:Nat→Nat) (i:Nat) (o:Ob) (r:List (Nat×Ob)):oa h g ((i,o)::r)=(h (g i)=some (o.ren g)∧oa h g r):=rfl
theorem wJ {f:Nat→V} {g:Nat→Nat}:∀ {l:List (Nat×V)},kf f g l→∀ p∈l,f p.1=p.2.ren g
  | (i,v)::r,h,p,hp=>by
    rcases WR.1 hp with rfl | hp
    ·exact h.1
    ·exact wJ h.2 p hp
theorem F8 {f:aB} {g:Nat→Nat}:∀ {l:List (Nat×Ob)},oa f g l→∀ p∈l,f (g p.1)=some (p.2.ren g)
  | (i,v)::r,h,p,hp=>by
    rcases WR.1 hp with rfl | hp
    ·exact h.1
    ·exact F8 h.2 p hp
theorem Du:∀ {l:List Nat},sS l=true→l.Nodup
  | [],_=>.nil
  | i::r,h=>by
    simp only[sS,WX,Ys] at h;refine List.nodup_cons.2 ⟨fun hi=>?_,Du h.2⟩;have:=List.contains_iff_mem.2 hi;rw[h.1] at this;cases this
theorem aw {σ:St} (g:Nat→Nat) {fl:List (Nat×V)} {hl:List (Nat×Ob)} {ul:List Nat} (h1':kf σ.f g fl) (h2':oa σ.h g hl)
    (h3':sS (hl.map fun p=>g p.1)=true) (h4:((fl.flatMap fun p=>p.2.ids)++(hl.flatMap fun p=>p.1::p.2.ids)).all (fun i=>ul.contains i)=true):dI σ ⟨aQ fl,hL hl,uL ul⟩:=by
  have h1:=wJ h1';have h2:=F8 h2';have h3:=Du h3';have used:∀ i,i∈(fl.flatMap fun p=>p.2.ids)++(hl.flatMap fun p=>p.1::p.2.ids)→uL ul i=true:=by
    intro i hi;rw[WU] at h4;exact Io (by simpa using h4 i hi)
  refine⟨⟨g,xx h1,fun i o ho=>h2 (i,o) (mQ ho),fun i j hi hj e=>?_⟩,fun t i hi=>used i (Xe _ (F5 hi)),fun i o ho=>⟨used i ?_,fun j hj=>used j ?_⟩⟩
  ·obtain⟨o,ho⟩:=WV.1 hi;obtain⟨q,hq⟩:=WV.1 hj;have m1:=mQ ho;have m2:=mQ hq;have key:∀ {l:List (Nat×Ob)},(l.map fun p=>g p.1).Nodup→∀ {x y:Nat×Ob},x∈l→y∈l→g x.1=g y.1→x=y:=by
     intro l
     induction l with
     | nil=>intro _ x y hx; cases hx
     | cons p r ih =>
       intro hn x y hx hy e;rw[WH,List.nodup_cons] at hn;rcases WR.1 hx with rfl | hx' <;> rcases WR.1 hy with rfl | hy'
       ·rfl
       ·exact (hn.1 (WZ.2 ⟨y,hy',e.symm⟩)).elim
       ·exact (hn.1 (WZ.2 ⟨x,hx',e⟩)).elim
       ·exact ih hn.2 hx' hy' e
   exact congrArg Prod.fst (key h3 m1 m2 e)
  ·exact WT _ (WK.2 ⟨_,mQ ho,by simp⟩)
  ·exact WT _ (WK.2 ⟨_,mQ ho,by simp[hj]⟩)
section
variable {P:Program} {G:ah}
def pV {α:Type} (st:α→St) (μ:α→Nat) (ok:α→Prop) (a:α) (Q:AX→St→Prop) (e:AX) (s:St):Prop :=
  match e with | .nrm=>∃ b,μ b<μ a∧ok b∧dI s (st b) | e=>Q e s
theorem F9 {α:Type} (st:α→St) (μ:α→Nat) (ok:α→Prop) (a:α) (Q:AX→St→Prop) (i:Nat) (s:St):pV st μ ok a Q (.ex i) s=Q (.ex i) s:=rfl
theorem Dv {α:Type} (st:α→St) (μ:α→Nat) (ok:α→Prop) (a:α) (Q:AX→St→Prop) (s:St):pV st μ ok a Q .ret s=Q .ret s:=rfl
theorem aS {α:Type} {st:α→St} {μ:α→Nat} {ok:α→Prop} {a:α} {Q:AX→St→Prop} {s:St} (b:α) (h1:μ b<μ a) (h2:ok b) (h3:dI s (st b)):pV st μ ok a Q .nrm s:=⟨b,h1,h2,h3⟩
theorem ba {α:Type} {c:aM} {Q:AX→St→Prop} {σ:St} (st:α→St) (μ:α→Nat) (ok:α→Prop) (a0:α) (h0:ok a0) (he:dI σ (st a0)) (round:∀ a,ok a→bA P G c (pV st μ ok a Q) (st a)):bA P G (.loop c) Q σ:=by
  refine⟨fun n s=>∃ a,μ a=n∧ok a∧s=st a,⟨μ a0,st a0,he,a0,rfl,h0,rfl⟩,?_⟩;rintro n s ⟨a,rfl,ha,rfl⟩;have key:(pV st μ ok a Q)=(fun e s'=>match e with | .nrm=>∃ n' τ,n'<μ a∧dI s' τ∧∃ a,μ a=n'∧ok a∧τ=st a | e=>Q e s'):=by
    funext e s'
    cases e with
    | nrm =>
      refine propext ⟨?_,?_⟩
      ·rintro⟨b,h1,h2,h3⟩;exact⟨μ b,st b,h1,h3,b,rfl,h2,rfl⟩
      ·rintro⟨n',τ,h1,h2,b,rfl,h3,rfl⟩;exact⟨b,h1,h3,h2⟩
    | ex i=>rfl
    | ret=>rfl
  have:=round a ha;rw[key] at this;exact this
end
theorem kH {P:Program} {G:ah} {F:FuncId} {args:List D} {sz:Nat} {es:List D} (h:ak P G F args (.w (.c (.fr sz es)))):ak P G F args (.w (.c (.d (.sl es)))):=by
  intro w S vs h1 h2 h3;refine (h w S vs h1 h2 h3).mono ?_;rintro e w' ⟨v,S',bl,rfl,k1,k2,k3,k4⟩;have hfresh:∀ b∈bl,w.heap.size≤b∧b<w'.heap.size:=by
    intro b hb;rcases k4 with ⟨_,_,rfl⟩ | ⟨b',cap,ty,N,rfl,_,_,_,q1,_,q2⟩
    ·cases hb
    ·simp only[WG] at hb;subst hb;obtain⟨f1,_,cur,ty',fz,f3,_⟩:=q2;exact⟨f1,(WN.1 f3).1⟩
  refine⟨v,fun b i=>S' b i∨b∈bl,[],rfl,k1,fun b i hs=>?_,.nil,?_⟩
  ·rcases hs with hs | hs
   ·exact k2 b i hs
   ·exact⟨.inr (hfresh b hs).1,(hfresh b hs).2⟩
  ·have:=pE (m:=fun _=>none) (x:=.c (.fr sz es)) k4 (T:=fun b i=>S' b i∨b∈bl) (fun _ _ h=>.inl h) (fun b hb _=>.inr hb);exact⟨this.1,rfl⟩
theorem SE {S S':aj} {w:World} {B:Nat} {v:Value} {y:D} {bl:List Nat} (h:eR S w B v (.c (.d y)) bl) (hS:∀ b i,S b i→S' b i):eR S' w B v (.c (.d y)) []∧bl=[]:=by
  cases y with
  | agg cs =>
    obtain⟨⟨us,h1,h2⟩,h3⟩:=h;exact⟨⟨⟨us,h1,h2.weak fun _ _ _ _ h=>h.mono hS⟩,rfl⟩,h3⟩
  | _ =>
    obtain⟨h1,h2⟩:=h;exact⟨⟨h1.mono hS,rfl⟩,h2⟩
theorem pb {P:Program} {G:ah} {F:FuncId} {args:List D} {sz:Nat} {es:List D} {y:D} (h:ak P G F args (.tup [.c (.fr sz es),.c (.d y)])):ak P G F args (.tup [.c (.d (.sl es)),.c (.d y)]):=by
  intro w S vs h1 h2 h3;refine (h w S vs h1 h2 h3).mono ?_;rintro e w' ⟨v,S',bl,rfl,k1,k2,k3,us,rfl,k4⟩;cases k4 with
  | @cons v1 c1 b1 vs1 cs1 b2 q1 q2 =>
  cases q2 with
  | @cons v2 c2 b3 vs2 cs2 b4 q3 q4 =>
  cases q4;have hfresh:∀ b∈b1,w.heap.size≤b∧b<w'.heap.size:=by
    intro b hb;rcases q1 with ⟨_,_,rfl⟩ | ⟨b',cap,ty,N,rfl,_,_,_,q1,_,q2⟩
    ·cases hb
    ·simp only[WG] at hb;subst hb;obtain⟨f1,_,cur,ty',fz,f3,_⟩:=q2;exact⟨f1,(WN.1 f3).1⟩
  refine⟨_,fun b i=>S' b i∨b∈b1,[],rfl,k1,fun b i hs=>?_,.nil,_,rfl,?_⟩
  ·rcases hs with hs | hs
   ·exact k2 b i hs
   ·exact⟨.inr (hfresh b hs).1,(hfresh b hs).2⟩
  ·have hx:=pE (m:=fun _=>none) (x:=.c (.fr sz es)) q1 (T:=fun b i=>S' b i∨b∈b1) (fun _ _ h=>.inl h) (fun b hb _=>.inr hb);exact .cons (b1:=[]) (b2:=[]) ⟨hx.1,rfl⟩ (.cons (b1:=[]) (b2:=[]) (SE q3 fun _ _ h=>.inl h).1 .nil)
abbrev bs (l:List UInt8):D:=.sl (l.map bD)
def wD (x:UInt32):D:=.int .u32 (x.toNat:Int)
theorem Kq (x:UInt8):dw (.w (.c (.d (bD x))))=some (.u8,(x.toNat:Int)):=rfl
theorem Kr (x:UInt32):dw (.w (.c (.d (wD x))))=some (.u32,(x.toNat:Int)):=rfl
theorem Ga (op:BinOp) (x:UInt8) (k:IntKind) (n:Int):bH op (.w (.c (.d (bD x)))) (.w (.c (.d (.int k n))))=bH op (.w (.c (.d (.int .u8 (x.toNat:Int))))) (.w (.c (.d (.int k n)))):=rfl
theorem Gb (op:BinOp) (x:UInt8) (k:IntKind) (n:Int):bH op (.w (.c (.d (.int k n)))) (.w (.c (.d (bD x))))=bH op (.w (.c (.d (.int k n)))) (.w (.c (.d (.int .u8 (x.toNat:Int))))):=rfl
theorem Dx (x y:UInt8):bH .lss (.w (.c (.d (bD x)))) (.w (.c (.d (bD y))))=bH .lss (.w (.c (.d (.int .u8 (x.toNat:Int))))) (.w (.c (.d (.int .u8 (y.toNat:Int))))):=rfl
theorem Dy (x y:UInt8):bH .leq (.w (.c (.d (bD x)))) (.w (.c (.d (bD y))))=bH .leq (.w (.c (.d (.int .u8 (x.toNat:Int))))) (.w (.c (.d (.int .u8 (y.toNat:Int))))):=rfl
theorem Dz (x y:UInt8):bH .gtr (.w (.c (.d (bD x)))) (.w (.c (.d (bD y))))=bH .gtr (.w (.c (.d (.int .u8 (x.toNat:Int))))) (.w (.c (.d (.int .u8 (y.toNat:Int))))):=rfl
theorem DC (x y:UInt8):bH .geq (.w (.c (.d (bD x)))) (.w (.c (.d (bD y))))=bH .geq (.w (.c (.d (.int .u8 (x.toNat:Int))))) (.w (.c (.d (.int .u8 (y.toNat:Int))))):=rfl
theorem DD (x y:UInt8):bH .eql (.w (.c (.d (bD x)))) (.w (.c (.d (bD y))))=bH .eql (.w (.c (.d (.int .u8 (x.toNat:Int))))) (.w (.c (.d (.int .u8 (y.toNat:Int))))):=rfl
theorem DF (x y:UInt8):bH .neq (.w (.c (.d (bD x)))) (.w (.c (.d (bD y))))=bH .neq (.w (.c (.d (.int .u8 (x.toNat:Int))))) (.w (.c (.d (.int .u8 (y.toNat:Int))))):=rfl
theorem DG (x y:UInt8):bH .add (.w (.c (.d (bD x)))) (.w (.c (.d (bD y))))=bH .add (.w (.c (.d (.int .u8 (x.toNat:Int))))) (.w (.c (.d (.int .u8 (y.toNat:Int))))):=rfl
theorem DI (x y:UInt8):bH .sub (.w (.c (.d (bD x)))) (.w (.c (.d (bD y))))=bH .sub (.w (.c (.d (.int .u8 (x.toNat:Int))))) (.w (.c (.d (.int .u8 (y.toNat:Int))))):=rfl
theorem Ks (op:UnOp) (x:UInt8):jq op (.w (.c (.d (bD x))))=jq op (.w (.c (.d (.int .u8 (x.toNat:Int))))):=rfl
theorem Bt (k:IntKind) (n:Int):D.cells (.int k n)=[.int k n]:=rfl
theorem AE (b:Bool):D.cells (.bool b)=[.bool b]:=rfl
theorem Bu (b:ByteArray):D.cells (.str b)=[.str b]:=rfl
theorem DJ (es:List D):D.cells (.sl es)=[.sl es]:=rfl
theorem Bv (cs:List D):D.cells (.agg cs)=cs:=rfl
theorem DK (x:UInt32):(wD x).cells=[wD x]:=rfl
theorem DL (a:UInt8):dk 1 [bD a]=true:=rfl
theorem DN (a b:UInt8):dk 1 [bD a,bD b]=true:=rfl
theorem DO (x:UInt8):(bD x).cells=[bD x]:=rfl
theorem oI {α:Type} (f:α→D) (hf:∀ x,(f x).cells.length=1) (l:List α):dk 1 (l.map f)=true:=by
  unfold dk;rw[WU];intro d hd;obtain⟨x,_,rfl⟩:=WZ.1 hd;simp[hf x]
theorem DR (l:List UInt8):dk 1 (l.map bD)=true:=oI bD (fun _=>rfl) l
theorem DT (l:List UInt32):dk 1 (l.map wD)=true:=oI wD (fun _=>rfl) l
theorem qT:∀ l:List UInt8,kS (l.map bD)=some l
  | []=>rfl
  | x::l=>by
    have h:=x.toNat_lt;simp only[WH,kS,qT l,bD,zG];rw[if_pos (by omega)];simp
theorem fg {α β:Type} (f:α→β) (l:List α) (n:Nat):(l.map f).take n=(l.take n).map f:=List.map_take.symm
theorem i9 {α β:Type} (f:α→β) (l:List α) (n:Nat):(l.map f).drop n=(l.drop n).map f:=List.map_drop.symm
theorem iJ {α β:Type} (f:α→β) (l:List α):(l.map f).length=l.length:=WJ _
theorem jD {α β:Type} (f:α→β) (l m:List α):l.map f++m.map f=(l++m).map f:=Xc.symm
theorem aJ {α β:Type} (f:α→β) (l:List α) (i:Nat):(l.map f)[i]?=(l[i]?).map f:=Xv
theorem wK {α β:Type} (f:α→β) (l:List α) (i:Nat) (x:α):(l.map f).set i (f x)=(l.set i x).map f:=List.map_set.symm
theorem uZ {α:Type} (f:α→D) (hf:∀ x,(f x).cells=[f x]):∀ l:List α,(l.map f).flatMap D.cells=l.map f
  | []=>rfl
  | x::l=>by rw[WH,WQ,hf x,uZ f hf l]; rfl
theorem Gd (l:List UInt32):(l.map wD).flatMap D.cells=l.map wD:=uZ wD (fun _=>rfl) l
theorem ia (l:List UInt8):(l.map bD).flatMap D.cells=l.map bD:=uZ bD (fun _=>rfl) l
def sT (k:IntKind) (n:Int):Int:=k.wrap n
theorem Ip (n:Int):IntKind.i64.wrap n=if -9223372036854775808≤n∧n≤9223372036854775807 then n else sT .i64 n:=by
  split
  ·exact IntWalk.i64_in _ ‹_›
  ·rfl
theorem Iq (n:Int):IntKind.u64.wrap n=if 0≤n∧n≤18446744073709551615 then n else sT .u64 n:=by
  split
  ·exact IntWalk.u64_in _ (by omega)
  ·rfl
theorem Ir (n:Int):IntKind.u32.wrap n=if 0≤n∧n≤4294967295 then n else sT .u32 n:=by
  split
  ·exact IntWalk.u32_in _ (by omega)
  ·rfl
theorem Kt (n:Int):IntKind.u8.wrap n=if 0≤n∧n≤255 then n else sT .u8 n:=by
  split
  ·exact IntWalk.u8_in _ (by omega)
  ·rfl
theorem Wg (s:Nat) (l:List UInt32):V.flat (.w (.c (.fr s (l.map wD))))=true:=by
  simp only[V.flat,W.flat,C.flat,List.all_map,WU]; intro x _; rfl
theorem tN (s:Nat) (l:List UInt8):V.flat (.w (.c (.fr s (l.map bD))))=true:=by
  simp only[V.flat,W.flat,C.flat,List.all_map,WU]; intro x _; rfl
theorem Bw (sz:Nat):dk sz []=true:=rfl
theorem AF (sz:Nat) (e:D) (es:List D):dk sz (e::es)=(e.cells.length==sz&&dk sz es):=rfl
theorem Bz (a:ByteArray):jk .eql a a=some (.bool true):=by simp[jk]
theorem K2 {α:Type} (a:α):List.replicate 1 a=[a]:=rfl
theorem K3 {α:Type} (a:α):List.replicate 2 a=[a,a]:=rfl
theorem K4 {α:Type} (a:α):List.replicate 3 a=[a,a,a]:=rfl
theorem K5 {α:Type} (a:α):List.replicate 4 a=[a,a,a,a]:=rfl
theorem K6 {α:Type} (a:α):List.replicate 5 a=[a,a,a,a,a]:=rfl
theorem K7 {α:Type} (a:α):List.replicate 6 a=[a,a,a,a,a,a]:=rfl
def Wh:=@iZ
def xy:Option D→Bool | some e=>e.one | none=>false
theorem Ak (e:D):xy (some e)=e.one:=rfl
theorem Ku (es:List D) (i s:Nat) (x:D):iZ .sc (.c (.d x)) i 0 (.row s es)=bif xy es[i]?&&x.one then some (.row s (es.set i x)) else Wh .sc (.c (.d x)) i 0 (.row s es):=by
  cases hc:(xy es[i]?&&x.one) with
  | false=>rfl
  | true =>
    rw[WX] at hc;obtain⟨h1,h2⟩:=hc;cases he:es[i]? with
    | none=>rw[he] at h1; cases h1
    | some e =>
      rw[he] at h1;simp only[iZ,he,fq,cond_true];cases e <;> first | (cases h1; done) | simp[h2]
theorem Ge (k:IntKind) (n:Int):D.one (.int k n)=true:=rfl
theorem DU (b:Bool):D.one (.bool b)=true:=rfl
theorem Gf (b:ByteArray):D.one (.str b)=true:=rfl
theorem Is (es:List D):D.one (.sl es)=true:=rfl
theorem eZ (x:UInt8):D.one (bD x)=true:=rfl
theorem nD (x:UInt32):D.one (wD x)=true:=rfl
theorem K8 (x:UInt32):cd (.c (.d (wD x)))=[.d (wD x)]:=rfl
theorem K9 (x:UInt8):cd (.c (.d (bD x)))=[.d (bD x)]:=rfl
theorem It (k:IntKind) (n:Int):cd (.c (.d (.int k n)))=[.d (.int k n)]:=rfl
theorem Gg (b:Bool):cd (.c (.d (.bool b)))=[.d (.bool b)]:=rfl
theorem Iu (b:ByteArray):cd (.c (.d (.str b)))=[.d (.str b)]:=rfl
theorem Kv (es:List D):cd (.c (.d (.sl es)))=[.d (.sl es)]:=rfl
theorem Iv (cs:List D):cd (.c (.d (.agg cs)))=cs.map C.d:=rfl
theorem Iw:cd (.c .nil)=[.nil]:=rfl
theorem Ix (id sz off n:Nat):cd (.c (.own id sz off n))=[.own id sz off n]:=rfl
theorem Iy (id sz i o:Nat):cd (.c (.ptr id sz i o))=[.ptr id sz i o]:=rfl
theorem Kw (id sz:Nat):cd (.c (.pa id sz))=[.pa id sz]:=rfl
theorem Iz (cs:List C):cd (.mix cs)=cs:=rfl
theorem jf {σ:St} {p:Nat×Option Kd} {x:D} (h:cS σ p=some (.c (.d x))):d8 σ [p] (.w (.c (.d x))) :=
  ⟨[.c (.d x)],by simp[aU,h],.inl ⟨by simp[W.ids,C.ids],rfl⟩⟩
theorem eE {σ:St} {p:Nat×Option Kd} {id sz n s:Nat} {es:List D} (h:cS σ p=some (.c (.own id sz 0 n))) (e:σ.h id=some (.row s es)) (hn:n=es.length):d8 σ [p] (.w (.c (.fr sz es))):=by
  refine⟨[.c (.own id sz 0 n)],by simp[aU,h],.inl ⟨by simp[W.ids,C.ids],rfl,rfl,?_⟩⟩;subst hn;rw[e];exact⟨by simp[cW],trivial⟩
theorem DV {σ:St} {p:Nat×Option Kd} {id sz n s:Nat} {full:List D} (h:cS σ p=some (.c (.own id sz 0 n))) (e:σ.h id=some (.row s full)) (hn:n≤full.length):d8 σ [p] (.w (.c (.fr sz (full.take n)))):=by
  refine⟨[.c (.own id sz 0 n)],by simp[aU,h],.inl ⟨by simp[W.ids,C.ids],rfl,rfl,?_⟩⟩;rw[e];exact⟨by simp[cW,hn],trivial⟩
theorem pc {σ:St} {p:Nat×Option Kd} {sz:Nat} (h:cS σ p=some (.c .nil)):d8 σ [p] (.w (.c (.fr sz []))) :=
  ⟨[.c .nil],by simp[aU,h],.inl ⟨by simp[W.ids,C.ids],rfl⟩⟩
theorem lH {σ:St} {p:Nat×Option Kd} {x:D} (h1:(cS σ p).bind (toW σ.h)=some x):d8 σ [p] (.w (.c (.d x))):=by
  obtain⟨w1,a1,b1⟩:=Xy.1 h1;exact⟨[w1],by simp[aU,a1],.inr b1⟩
theorem iO {σ:St} {p q:Nat×Option Kd} {x y:D} (h1:(cS σ p).bind (toW σ.h)=some x) (h2:(cS σ q).bind (toW σ.h)=some y):d8 σ [p,q] (.tup [.c (.d x),.c (.d y)]):=by
  obtain⟨w1,a1,b1⟩:=Xy.1 h1;obtain⟨w2,a2,b2⟩:=Xy.1 h2;exact⟨[w1,w2],by simp[aU,a1,a2],.inr (.cons ⟨x,rfl,b1⟩ (.cons ⟨y,rfl,b2⟩ .nil))⟩
theorem M5 {σ:St} {p q:Nat×Option Kd} {id sz n s:Nat} {es:List D} {y:D} (h1:cS σ p=some (.c (.own id sz 0 n))) (e:σ.h id=some (.row s es)) (hn:n=es.length) (h2:cS σ q=some (.c (.d y))):d8 σ [p,q] (.tup [.c (.fr sz es),.c (.d y)]):=by
  refine⟨[.c (.own id sz 0 n),.c (.d y)],by simp[aU,h1,h2],.inl ⟨by simp[W.ids,C.ids],.cons ⟨rfl,rfl,?_⟩ (.cons ?_ .nil)⟩⟩
  ·subst hn;rw[e];exact⟨by simp[cW],trivial⟩
  ·cases y <;> rfl
theorem M6 {σ:St} {p q:Nat×Option Kd} {sz:Nat} {y:D} (h1:cS σ p=some (.c .nil)) (h2:cS σ q=some (.c (.d y))):d8 σ [p,q] (.tup [.c (.fr sz []),.c (.d y)]):=by
  refine⟨[.c .nil,.c (.d y)],by simp[aU,h1,h2],.inl ⟨by simp[W.ids,C.ids],.cons rfl (.cons ?_ .nil)⟩⟩;cases y <;> rfl
def jm (h:aB) (sz:Nat):W→Option (List D)
  | .c (.own id sz' off n)=>match h id with
    | some (.row _ es)=>if off=0∧n=es.length∧sz'=sz then some es else none
    | _=>none
  | .c .nil=>some []
  | _=>none
theorem DW (h:aB) (sz id sz' off n:Nat):jm h sz (.c (.own id sz' off n))=(match h id with
    | some (.row _ es)=>if off=0∧n=es.length∧sz'=sz then some es else none
    | _=>none):=rfl
theorem DX (h:aB) (sz:Nat):jm h sz (.c .nil)=some []:=rfl
theorem IA {σ:St} {p:Nat×Option Kd} {sz:Nat} {es:List D} (h1:(cS σ p).bind (jm σ.h sz)=some es):d8 σ [p] (.w (.c (.fr sz es))):=by
  obtain⟨w,a,b⟩:=Xy.1 h1;unfold jm at b;split at b
  ·split at b
   ·rename_i e;split at b
    ·rename_i hc;obtain⟨rfl,rfl,rfl⟩:=hc;obtain rfl:=Option.some.inj b;exact eE a e rfl
    ·cases b
   ·cases b
  ·obtain rfl:=Option.some.inj b;exact pc a
  ·cases b
theorem xz {σ:St} {p q:Nat×Option Kd} {sz:Nat} {es:List D} {y:D} (h1:(cS σ p).bind (jm σ.h sz)=some es) (h2:cS σ q=some (.c (.d y))):d8 σ [p,q] (.tup [.c (.fr sz es),.c (.d y)]):=by
  obtain⟨w,a,b⟩:=Xy.1 h1;unfold jm at b;split at b
  ·split at b
   ·rename_i e;split at b
    ·rename_i hc;obtain⟨rfl,rfl,rfl⟩:=hc;obtain rfl:=Option.some.inj b;exact M5 a e rfl h2
    ·cases b
   ·cases b
  ·obtain rfl:=Option.some.inj b;exact M6 a h2
  ·cases b
end Go.Proofs.YtlghfnidknfakaaGreatDoor
