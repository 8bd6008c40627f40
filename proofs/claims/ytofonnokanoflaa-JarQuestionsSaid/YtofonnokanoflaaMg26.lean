/- Texts of one's own, merged: from: The plain logic (19): loops; states by lists; bytes and words as data. Own work. -/
import Derived.IntWalk
import Derived.Test.YtofonnokanoflaaMg25
set_option linter.unusedVariables false
set_option linter.unusedSimpArgs false
namespace Go.Proofs.Ytofonnokanoflaa
open Go.RowKit IntWalk
def bc:List (Nat×V)→Nat→V
  | []=>uf
  | (i,v)::r=>upd (bc r) i v
def hL:List (Nat×Ob)→ak
  | []=>hN
  | (i,o)::r=>upd (hL r) i (some o)
def uL:List Nat→Nat→Bool
  | []=>uN
  | i::r=>upd (uL r) i true
theorem DI:bc []=uf:=rfl
theorem p0 (i:Nat) (v:V) (r:List (Nat×V)):bc ((i,v)::r)=upd (bc r) i v:=rfl
theorem F1:hL []=hN:=rfl
theorem kT (i:Nat) (o:Ob) (r:List (Nat×Ob)):hL ((i,o)::r)=upd (hL r) i (some o):=rfl
theorem F2:uL []=uN:=rfl
theorem qA (i:Nat) (r:List Nat):uL (i::r)=upd (uL r) i true:=rfl
theorem F3 {i:Nat}:∀ {l:List Nat},i∈l→uL l i=true
  | j::r,h=>by
    rw[qA];by_cases e:i=j
    ·rw[e]; exact upd_same _ _ _
    ·rw[upd_ne _ _ e];exact F3 (by simpa [e] using h)
theorem F4 {f:Nat→V} {g:Nat→Nat}:∀ {l:List (Nat×V)},(∀ p∈l,f p.1=p.2.ren g)→∀ t,bc l t=.undef∨f t=(bc l t).ren g
  | [],_,_=>.inl rfl
  | (i,v)::r,h,t=>by
    rw[p0];by_cases e:t=i
    ·rw[e,upd_same]; exact .inr (h (i,v) (by simp))
    ·rw[upd_ne _ _ e];exact F4 (fun p hp=>h p (by simp[hp])) t
theorem gG {i:Nat} {o:Ob}:∀ {l:List (Nat×Ob)},hL l i=some o→(i,o)∈l
  | [],h=>by cases h
  | (j,q)::r,h=>by
    rw[kT] at h;by_cases e:i=j
    ·rw[e,upd_same] at h;cases h;rw[e]; simp
    ·rw[upd_ne _ _ e] at h;exact Ve _ (gG h)
theorem NK {l:List (Nat×V)} {i t:Nat} (h:i∈(bc l t).ids):i∈l.flatMap fun p=>p.2.ids:=by
  induction l with
  | nil=>cases h
  | cons p r ih =>
    obtain⟨j,v⟩:=p;rw[p0] at h;rw[UP,UY];by_cases e:t=j
    ·rw[e,upd_same] at h; exact .inl h
    ·rw[upd_ne _ _ e] at h; exact .inr (ih h)
def mW (f:Nat→V) (g:Nat→Nat):List (Nat×V)→Prop
  | []=>True
  | (i,v)::r=>f i=v.ren g∧mW f g r
def gW (h:ak) (g:Nat→Nat):List (Nat×Ob)→Prop
  | []=>True
  | (i,o)::r=>h (g i)=some (o.ren g)∧gW h g r
def od:List Nat→Bool
  | []=>true
  | i::r=>!r.contains i&&od r
theorem DJ (f:Nat→V) (g:Nat→Nat):mW f g []=True:=rfl
theorem Bp (f:Nat→V) (g:Nat→Nat) (i:Nat) (v:V) (r:List (Nat×V)):mW f g ((i,v)::r)=(f i=v.ren g∧mW f g r):=rfl
theorem DK (h:ak) (g:Nat→Nat):gW h g []=True:=rfl
theorem Bq (h:ak) (g:Nat→Nat) (i:Nat) (o:Ob) (r:List (Nat×Ob)):gW h g ((i,o)::r)=(h (g i)=some (o.ren g)∧gW h g r):=rfl
theorem DL {f:Nat→V} {g:Nat→Nat}:∀ {l:List (Nat×V)},mW f g l→∀ p∈l,f p.1=p.2.ren g
  | (i,v)::r,h,p,hp=>by
    rcases U9.1 hp with rfl | hp
    ·exact h.1
    ·exact DL h.2 p hp
theorem qB {f:ak} {g:Nat→Nat}:∀ {l:List (Nat×Ob)},gW f g l→∀ p∈l,f (g p.1)=some (p.2.ren g)
  | (i,v)::r,h,p,hp=>by
    rcases U9.1 hp with rfl | hp
    ·exact h.1
    ·exact qB h.2 p hp
theorem uB:∀ {l:List Nat},od l=true→l.Nodup
  | [],_=>.nil
  | i::r,h=>by
    simp only[od,Vb,Bool.not_eq_true'] at h;refine List.nodup_cons.2 ⟨fun hi=>?_,uB h.2⟩;have:=List.contains_iff_mem.2 hi;rw[h.1] at this;cases this
theorem aG {σ:St} (g:Nat→Nat) {fl:List (Nat×V)} {hl:List (Nat×Ob)} {ul:List Nat} (h1':mW σ.f g fl) (h2':gW σ.h g hl)
    (h3':od (hl.map fun p=>g p.1)=true) (h4:((fl.flatMap fun p=>p.2.ids)++(hl.flatMap fun p=>p.1::p.2.ids)).all (fun i=>ul.contains i)=true):ei σ ⟨bc fl,hL hl,uL ul⟩:=by
  have h1:=DL h1';have h2:=qB h2';have h3:=uB h3';have used:∀ i,i∈(fl.flatMap fun p=>p.2.ids)++(hl.flatMap fun p=>p.1::p.2.ids)→uL ul i=true:=by
    intro i hi;rw[UN] at h4;exact F3 (by simpa using h4 i hi)
  refine⟨⟨g,F4 h1,fun i o ho=>h2 (i,o) (gG ho),fun i j hi hj e=>?_⟩,fun t i hi=>used i (U0 _ (NK hi)),fun i o ho=>⟨used i ?_,fun j hj=>used j ?_⟩⟩
  ·obtain⟨o,ho⟩:=UU.1 hi;obtain⟨q,hq⟩:=UU.1 hj;have m1:=gG ho;have m2:=gG hq;have key:∀ {l:List (Nat×Ob)},(l.map fun p=>g p.1).Nodup→∀ {x y:Nat×Ob},x∈l→y∈l→g x.1=g y.1→x=y:=by
     intro l
     induction l with
     | nil=>intro _ x y hx; cases hx
     | cons p r ih =>
       intro hn x y hx hy e;rw[UE,List.nodup_cons] at hn;rcases U9.1 hx with rfl | hx' <;> rcases U9.1 hy with rfl | hy'
       ·rfl
       ·exact (hn.1 (U4.2 ⟨y,hy',e.symm⟩)).elim
       ·exact (hn.1 (U4.2 ⟨x,hx',e⟩)).elim
       ·exact ih hn.2 hx' hy' e
   exact congrArg Prod.fst (key h3 m1 m2 e)
  ·exact UM _ (UH.2 ⟨_,gG ho,by simp⟩)
  ·exact UM _ (UH.2 ⟨_,gG ho,by simp[hj]⟩)
section
variable {P:Program} {G:aj}
def oz {α:Type} (st:α→St) (μ:α→Nat) (ok:α→Prop) (a:α) (Q:AX→St→Prop) (e:AX) (s:St):Prop :=
  match e with | .nrm=>∃ b,μ b<μ a∧ok b∧ei s (st b) | e=>Q e s
theorem DN {α:Type} (st:α→St) (μ:α→Nat) (ok:α→Prop) (a:α) (Q:AX→St→Prop) (i:Nat) (s:St):oz st μ ok a Q (.ex i) s=Q (.ex i) s:=rfl
theorem Br {α:Type} (st:α→St) (μ:α→Nat) (ok:α→Prop) (a:α) (Q:AX→St→Prop) (s:St):oz st μ ok a Q .ret s=Q .ret s:=rfl
theorem br {α:Type} {st:α→St} {μ:α→Nat} {ok:α→Prop} {a:α} {Q:AX→St→Prop} {s:St} (b:α) (h1:μ b<μ a) (h2:ok b) (h3:ei s (st b)):oz st μ ok a Q .nrm s:=⟨b,h1,h2,h3⟩
theorem bH {α:Type} {c:aL} {Q:AX→St→Prop} {σ:St} (st:α→St) (μ:α→Nat) (ok:α→Prop) (a0:α) (h0:ok a0) (he:ei σ (st a0)) (round:∀ a,ok a→bd P G c (oz st μ ok a Q) (st a)):bd P G (.loop c) Q σ:=by
  refine⟨fun n s=>∃ a,μ a=n∧ok a∧s=st a,⟨μ a0,st a0,he,a0,rfl,h0,rfl⟩,?_⟩;rintro n s ⟨a,rfl,ha,rfl⟩;have key:(oz st μ ok a Q)=(fun e s'=>match e with | .nrm=>∃ n' τ,n'<μ a∧ei s' τ∧∃ a,μ a=n'∧ok a∧τ=st a | e=>Q e s'):=by
    funext e s'
    cases e with
    | nrm =>
      refine propext ⟨?_,?_⟩
      ·rintro⟨b,h1,h2,h3⟩;exact⟨μ b,st b,h1,h3,b,rfl,h2,rfl⟩
      ·rintro⟨n',τ,h1,h2,b,rfl,h3,rfl⟩;exact⟨b,h1,h3,h2⟩
    | ex i=>rfl
    | ret=>rfl
  have:=round a ha;rw[key] at this;exact this
end
theorem j5 {P:Program} {G:aj} {F:FuncId} {args:List D} {sz:Nat} {es:List D} (h:ar P G F args (.w (.c (.fr sz es)))):ar P G F args (.w (.c (.d (.sl es)))):=by
  intro w S vs h1 h2 h3;refine (h w S vs h1 h2 h3).mono ?_;rintro e w' ⟨v,S',bl,rfl,k1,k2,k3,k4⟩;have hfresh:∀ b∈bl,w.heap.size≤b∧b<w'.heap.size:=by
    intro b hb;rcases k4 with ⟨_,_,rfl⟩ | ⟨b',cap,ty,N,rfl,_,_,_,q1,_,q2⟩
    ·cases hb
    ·simp only[UO] at hb;subst hb;obtain⟨f1,_,cur,ty',fz,f3,_⟩:=q2;exact⟨f1,(UL.1 f3).1⟩
  refine⟨v,fun b i=>S' b i∨b∈bl,[],rfl,k1,fun b i hs=>?_,.nil,?_⟩
  ·rcases hs with hs | hs
   ·exact k2 b i hs
   ·exact⟨.inr (hfresh b hs).1,(hfresh b hs).2⟩
  ·have:=mr (m:=fun _=>none) (x:=.c (.fr sz es)) k4 (T:=fun b i=>S' b i∨b∈bl) (fun _ _ h=>.inl h) (fun b hb _=>.inr hb);exact⟨this.1,rfl⟩
theorem Qo {S S':ai} {w:World} {B:Nat} {v:Value} {y:D} {bl:List Nat} (h:dQ S w B v (.c (.d y)) bl) (hS:∀ b i,S b i→S' b i):dQ S' w B v (.c (.d y)) []∧bl=[]:=by
  cases y with
  | agg cs =>
    obtain⟨⟨us,h1,h2⟩,h3⟩:=h;exact⟨⟨⟨us,h1,h2.weak fun _ _ _ _ h=>h.mono hS⟩,rfl⟩,h3⟩
  | _ =>
    obtain⟨h1,h2⟩:=h;exact⟨⟨h1.mono hS,rfl⟩,h2⟩
theorem qC {P:Program} {G:aj} {F:FuncId} {args:List D} {sz:Nat} {es:List D} {y:D} (h:ar P G F args (.tup [.c (.fr sz es),.c (.d y)])):ar P G F args (.tup [.c (.d (.sl es)),.c (.d y)]):=by
  intro w S vs h1 h2 h3;refine (h w S vs h1 h2 h3).mono ?_;rintro e w' ⟨v,S',bl,rfl,k1,k2,k3,us,rfl,k4⟩;cases k4 with
  | @cons v1 c1 b1 vs1 cs1 b2 q1 q2 =>
  cases q2 with
  | @cons v2 c2 b3 vs2 cs2 b4 q3 q4 =>
  cases q4;have hfresh:∀ b∈b1,w.heap.size≤b∧b<w'.heap.size:=by
    intro b hb;rcases q1 with ⟨_,_,rfl⟩ | ⟨b',cap,ty,N,rfl,_,_,_,q1,_,q2⟩
    ·cases hb
    ·simp only[UO] at hb;subst hb;obtain⟨f1,_,cur,ty',fz,f3,_⟩:=q2;exact⟨f1,(UL.1 f3).1⟩
  refine⟨_,fun b i=>S' b i∨b∈b1,[],rfl,k1,fun b i hs=>?_,.nil,_,rfl,?_⟩
  ·rcases hs with hs | hs
   ·exact k2 b i hs
   ·exact⟨.inr (hfresh b hs).1,(hfresh b hs).2⟩
  ·have hx:=mr (m:=fun _=>none) (x:=.c (.fr sz es)) q1 (T:=fun b i=>S' b i∨b∈b1) (fun _ _ h=>.inl h) (fun b hb _=>.inr hb);exact .cons (b1:=[]) (b2:=[]) ⟨hx.1,rfl⟩ (.cons (b1:=[]) (b2:=[]) (Qo q3 fun _ _ h=>.inl h).1 .nil)
abbrev bs (l:List UInt8):D:=.sl (l.map bD)
def wD (x:UInt32):D:=.int .u32 (x.toNat:Int)
theorem HO (x:UInt8):dL (.w (.c (.d (bD x))))=some (.u8,(x.toNat:Int)):=rfl
theorem HP (x:UInt32):dL (.w (.c (.d (wD x))))=some (.u32,(x.toNat:Int)):=rfl
theorem DO (op:BinOp) (x:UInt8) (k:IntKind) (n:Int):bg op (.w (.c (.d (bD x)))) (.w (.c (.d (.int k n))))=bg op (.w (.c (.d (.int .u8 (x.toNat:Int))))) (.w (.c (.d (.int k n)))):=rfl
theorem DR (op:BinOp) (x:UInt8) (k:IntKind) (n:Int):bg op (.w (.c (.d (.int k n)))) (.w (.c (.d (bD x))))=bg op (.w (.c (.d (.int k n)))) (.w (.c (.d (.int .u8 (x.toNat:Int))))):=rfl
theorem Bs (x y:UInt8):bg .lss (.w (.c (.d (bD x)))) (.w (.c (.d (bD y))))=bg .lss (.w (.c (.d (.int .u8 (x.toNat:Int))))) (.w (.c (.d (.int .u8 (y.toNat:Int))))):=rfl
theorem Bt (x y:UInt8):bg .leq (.w (.c (.d (bD x)))) (.w (.c (.d (bD y))))=bg .leq (.w (.c (.d (.int .u8 (x.toNat:Int))))) (.w (.c (.d (.int .u8 (y.toNat:Int))))):=rfl
theorem Bu (x y:UInt8):bg .gtr (.w (.c (.d (bD x)))) (.w (.c (.d (bD y))))=bg .gtr (.w (.c (.d (.int .u8 (x.toNat:Int))))) (.w (.c (.d (.int .u8 (y.toNat:Int))))):=rfl
theorem Bv (x y:UInt8):bg .geq (.w (.c (.d (bD x)))) (.w (.c (.d (bD y))))=bg .geq (.w (.c (.d (.int .u8 (x.toNat:Int))))) (.w (.c (.d (.int .u8 (y.toNat:Int))))):=rfl
theorem Bw (x y:UInt8):bg .eql (.w (.c (.d (bD x)))) (.w (.c (.d (bD y))))=bg .eql (.w (.c (.d (.int .u8 (x.toNat:Int))))) (.w (.c (.d (.int .u8 (y.toNat:Int))))):=rfl
theorem Bz (x y:UInt8):bg .neq (.w (.c (.d (bD x)))) (.w (.c (.d (bD y))))=bg .neq (.w (.c (.d (.int .u8 (x.toNat:Int))))) (.w (.c (.d (.int .u8 (y.toNat:Int))))):=rfl
theorem BC (x y:UInt8):bg .add (.w (.c (.d (bD x)))) (.w (.c (.d (bD y))))=bg .add (.w (.c (.d (.int .u8 (x.toNat:Int))))) (.w (.c (.d (.int .u8 (y.toNat:Int))))):=rfl
theorem BD (x y:UInt8):bg .sub (.w (.c (.d (bD x)))) (.w (.c (.d (bD y))))=bg .sub (.w (.c (.d (.int .u8 (x.toNat:Int))))) (.w (.c (.d (.int .u8 (y.toNat:Int))))):=rfl
theorem HQ (op:UnOp) (x:UInt8):i7 op (.w (.c (.d (bD x))))=i7 op (.w (.c (.d (.int .u8 (x.toNat:Int))))):=rfl
theorem zE (k:IntKind) (n:Int):D.cells (.int k n)=[.int k n]:=rfl
theorem yS (b:Bool):D.cells (.bool b)=[.bool b]:=rfl
theorem zF (b:ByteArray):D.cells (.str b)=[.str b]:=rfl
theorem BE (es:List D):D.cells (.sl es)=[.sl es]:=rfl
theorem zG (cs:List D):D.cells (.agg cs)=cs:=rfl
theorem BF (x:UInt32):(wD x).cells=[wD x]:=rfl
theorem BG (a:UInt8):dh 1 [bD a]=true:=rfl
theorem BH (a b:UInt8):dh 1 [bD a,bD b]=true:=rfl
theorem BI (x:UInt8):(bD x).cells=[bD x]:=rfl
theorem pF {α:Type} (f:α→D) (hf:∀ x,(f x).cells.length=1) (l:List α):dh 1 (l.map f)=true:=by
  unfold dh;rw[UN];intro d hd;obtain⟨x,_,rfl⟩:=U4.1 hd;simp[hf x]
theorem BJ (l:List UInt8):dh 1 (l.map bD)=true:=pF bD (fun _=>rfl) l
theorem BK (l:List UInt32):dh 1 (l.map wD)=true:=pF wD (fun _=>rfl) l
theorem uC:∀ l:List UInt8,km (l.map bD)=some l
  | []=>rfl
  | x::l=>by
    have h:=x.toNat_lt;simp only[UE,km,uC l,bD,xT];rw[if_pos (by omega)];simp
theorem eF {α β:Type} (f:α→β) (l:List α) (n:Nat):(l.map f).take n=(l.take n).map f:=List.map_take.symm
theorem iG {α β:Type} (f:α→β) (l:List α) (n:Nat):(l.map f).drop n=(l.drop n).map f:=List.map_drop.symm
theorem ie {α β:Type} (f:α→β) (l:List α):(l.map f).length=l.length:=UQ _
theorem ji {α β:Type} (f:α→β) (l m:List α):l.map f++m.map f=(l++m).map f:=U6.symm
theorem aV {α β:Type} (f:α→β) (l:List α) (i:Nat):(l.map f)[i]?=(l[i]?).map f:=VC
theorem vg {α β:Type} (f:α→β) (l:List α) (i:Nat) (x:α):(l.map f).set i (f x)=(l.set i x).map f:=List.map_set.symm
theorem tK {α:Type} (f:α→D) (hf:∀ x,(f x).cells=[f x]):∀ l:List α,(l.map f).flatMap D.cells=l.map f
  | []=>rfl
  | x::l=>by rw[UE,UP,hf x,tK f hf l]; rfl
theorem DT (l:List UInt32):(l.map wD).flatMap D.cells=l.map wD:=tK wD (fun _=>rfl) l
theorem gH (l:List UInt8):(l.map bD).flatMap D.cells=l.map bD:=tK bD (fun _=>rfl) l
def rG (k:IntKind) (n:Int):Int:=k.wrap n
theorem F5 (n:Int):IntKind.i64.wrap n=if -9223372036854775808≤n∧n≤9223372036854775807 then n else rG .i64 n:=by
  split
  ·exact IntWalk.i64_in _ ‹_›
  ·rfl
theorem vZ (n:Int):IntKind.u64.wrap n=if 0≤n∧n≤18446744073709551615 then n else rG .u64 n:=by
  split
  ·exact IntWalk.u64_in _ (by omega)
  ·rfl
theorem F6 (n:Int):IntKind.u32.wrap n=if 0≤n∧n≤4294967295 then n else rG .u32 n:=by
  split
  ·exact IntWalk.u32_in _ (by omega)
  ·rfl
theorem HR (n:Int):IntKind.u8.wrap n=if 0≤n∧n≤255 then n else rG .u8 n:=by
  split
  ·exact IntWalk.u8_in _ (by omega)
  ·rfl
theorem Ul (s:Nat) (l:List UInt32):V.flat (.w (.c (.fr s (l.map wD))))=true:=by
  simp only[V.flat,W.flat,C.flat,List.all_map,UN]; intro x _; rfl
theorem lu (s:Nat) (l:List UInt8):V.flat (.w (.c (.fr s (l.map bD))))=true:=by
  simp only[V.flat,W.flat,C.flat,List.all_map,UN]; intro x _; rfl
theorem zH (sz:Nat):dh sz []=true:=rfl
theorem yT (sz:Nat) (e:D) (es:List D):dh sz (e::es)=(e.cells.length==sz&&dh sz es):=rfl
theorem zI (a:ByteArray):kk .eql a a=some (.bool true):=by simp[kk]
theorem ID {α:Type} (a:α):List.replicate 1 a=[a]:=rfl
theorem IE {α:Type} (a:α):List.replicate 2 a=[a,a]:=rfl
theorem IF {α:Type} (a:α):List.replicate 3 a=[a,a,a]:=rfl
theorem IG {α:Type} (a:α):List.replicate 4 a=[a,a,a,a]:=rfl
theorem IH {α:Type} (a:α):List.replicate 5 a=[a,a,a,a,a]:=rfl
theorem II {α:Type} (a:α):List.replicate 6 a=[a,a,a,a,a,a]:=rfl
def Um:=@iy
def v6:Option D→Bool | some e=>e.one | none=>false
theorem yA (e:D):v6 (some e)=e.one:=rfl
theorem HS (es:List D) (i s:Nat) (x:D):iy .sc (.c (.d x)) i 0 (.row s es)=bif v6 es[i]?&&x.one then some (.row s (es.set i x)) else Um .sc (.c (.d x)) i 0 (.row s es):=by
  cases hc:(v6 es[i]?&&x.one) with
  | false=>rfl
  | true =>
    rw[Vb] at hc;obtain⟨h1,h2⟩:=hc;cases he:es[i]? with
    | none=>rw[he] at h1; cases h1
    | some e =>
      rw[he] at h1;simp only[iy,he,eK,cond_true];cases e <;> first | (cases h1; done) | simp[h2]
theorem DU (k:IntKind) (n:Int):D.one (.int k n)=true:=rfl
theorem BL (b:Bool):D.one (.bool b)=true:=rfl
theorem DV (b:ByteArray):D.one (.str b)=true:=rfl
theorem F7 (es:List D):D.one (.sl es)=true:=rfl
theorem fO (x:UInt8):D.one (bD x)=true:=rfl
theorem rH (x:UInt32):D.one (wD x)=true:=rfl
theorem IJ (x:UInt32):bL (.c (.d (wD x)))=[.d (wD x)]:=rfl
theorem IK (x:UInt8):bL (.c (.d (bD x)))=[.d (bD x)]:=rfl
theorem F8 (k:IntKind) (n:Int):bL (.c (.d (.int k n)))=[.d (.int k n)]:=rfl
theorem DW (b:Bool):bL (.c (.d (.bool b)))=[.d (.bool b)]:=rfl
theorem F9 (b:ByteArray):bL (.c (.d (.str b)))=[.d (.str b)]:=rfl
theorem HT (es:List D):bL (.c (.d (.sl es)))=[.d (.sl es)]:=rfl
theorem Ga (cs:List D):bL (.c (.d (.agg cs)))=cs.map C.d:=rfl
theorem Gb:bL (.c .nil)=[.nil]:=rfl
theorem Gd (id sz off n:Nat):bL (.c (.own id sz off n))=[.own id sz off n]:=rfl
theorem Ge (id sz i o:Nat):bL (.c (.ptr id sz i o))=[.ptr id sz i o]:=rfl
theorem HU (id sz:Nat):bL (.c (.pa id sz))=[.pa id sz]:=rfl
theorem Gf (cs:List C):bL (.mix cs)=cs:=rfl
theorem oe {σ:St} {p:Nat×Option Kd} {x:D} (h:bJ σ p=some (.c (.d x))):cI σ [p] (.w (.c (.d x))) :=
  ⟨[.c (.d x)],by simp[aD,h],.inl ⟨by simp[W.ids,C.ids],rfl⟩⟩
theorem ft {σ:St} {p:Nat×Option Kd} {id sz n s:Nat} {es:List D} (h:bJ σ p=some (.c (.own id sz 0 n))) (e:σ.h id=some (.row s es)) (hn:n=es.length):cI σ [p] (.w (.c (.fr sz es))):=by
  refine⟨[.c (.own id sz 0 n)],by simp[aD,h],.inl ⟨by simp[W.ids,C.ids],rfl,rfl,?_⟩⟩;subst hn;rw[e];exact⟨by simp[cQ],trivial⟩
theorem BM {σ:St} {p:Nat×Option Kd} {id sz n s:Nat} {full:List D} (h:bJ σ p=some (.c (.own id sz 0 n))) (e:σ.h id=some (.row s full)) (hn:n≤full.length):cI σ [p] (.w (.c (.fr sz (full.take n)))):=by
  refine⟨[.c (.own id sz 0 n)],by simp[aD,h],.inl ⟨by simp[W.ids,C.ids],rfl,rfl,?_⟩⟩;rw[e];exact⟨by simp[cQ,hn],trivial⟩
theorem vh {σ:St} {p:Nat×Option Kd} {sz:Nat} (h:bJ σ p=some (.c .nil)):cI σ [p] (.w (.c (.fr sz []))) :=
  ⟨[.c .nil],by simp[aD,h],.inl ⟨by simp[W.ids,C.ids],rfl⟩⟩
theorem nR {σ:St} {p:Nat×Option Kd} {x:D} (h1:(bJ σ p).bind (toW σ.h)=some x):cI σ [p] (.w (.c (.d x))):=by
  obtain⟨w1,a1,b1⟩:=Vg.1 h1;exact⟨[w1],by simp[aD,a1],.inr b1⟩
theorem dv {σ:St} {p q:Nat×Option Kd} {x y:D} (h1:(bJ σ p).bind (toW σ.h)=some x) (h2:(bJ σ q).bind (toW σ.h)=some y):cI σ [p,q] (.tup [.c (.d x),.c (.d y)]):=by
  obtain⟨w1,a1,b1⟩:=Vg.1 h1;obtain⟨w2,a2,b2⟩:=Vg.1 h2;exact⟨[w1,w2],by simp[aD,a1,a2],.inr (.cons ⟨x,rfl,b1⟩ (.cons ⟨y,rfl,b2⟩ .nil))⟩
theorem gL {σ:St} {p q r:Nat×Option Kd} {x y z:D} (h1:(bJ σ p).bind (toW σ.h)=some x) (h2:(bJ σ q).bind (toW σ.h)=some y) (h3:(bJ σ r).bind (toW σ.h)=some z):cI σ [p,q,r] (.tup [.c (.d x),.c (.d y),.c (.d z)]):=by
  obtain⟨w1,a1,b1⟩:=Vg.1 h1;obtain⟨w2,a2,b2⟩:=Vg.1 h2;obtain⟨w3,a3,b3⟩:=Vg.1 h3;exact⟨[w1,w2,w3],by simp[aD,a1,a2,a3],.inr (.cons ⟨x,rfl,b1⟩ (.cons ⟨y,rfl,b2⟩ (.cons ⟨z,rfl,b3⟩ .nil)))⟩
theorem Kw {σ:St} {p q:Nat×Option Kd} {id sz n s:Nat} {es:List D} {y:D} (h1:bJ σ p=some (.c (.own id sz 0 n))) (e:σ.h id=some (.row s es)) (hn:n=es.length) (h2:bJ σ q=some (.c (.d y))):cI σ [p,q] (.tup [.c (.fr sz es),.c (.d y)]):=by
  refine⟨[.c (.own id sz 0 n),.c (.d y)],by simp[aD,h1,h2],.inl ⟨by simp[W.ids,C.ids],.cons ⟨rfl,rfl,?_⟩ (.cons ?_ .nil)⟩⟩
  ·subst hn;rw[e];exact⟨by simp[cQ],trivial⟩
  ·cases y <;> rfl
theorem Kx {σ:St} {p q:Nat×Option Kd} {sz:Nat} {y:D} (h1:bJ σ p=some (.c .nil)) (h2:bJ σ q=some (.c (.d y))):cI σ [p,q] (.tup [.c (.fr sz []),.c (.d y)]):=by
  refine⟨[.c .nil,.c (.d y)],by simp[aD,h1,h2],.inl ⟨by simp[W.ids,C.ids],.cons rfl (.cons ?_ .nil)⟩⟩;cases y <;> rfl
def iU (h:ak) (sz:Nat):W→Option (List D)
  | .c (.own id sz' off n)=>match h id with
    | some (.row _ es)=>if off=0∧n=es.length∧sz'=sz then some es else none
    | _=>none
  | .c .nil=>some []
  | _=>none
theorem BN (h:ak) (sz id sz' off n:Nat):iU h sz (.c (.own id sz' off n))=(match h id with
    | some (.row _ es)=>if off=0∧n=es.length∧sz'=sz then some es else none
    | _=>none):=rfl
theorem BO (h:ak) (sz:Nat):iU h sz (.c .nil)=some []:=rfl
theorem Gg {σ:St} {p:Nat×Option Kd} {sz:Nat} {es:List D} (h1:(bJ σ p).bind (iU σ.h sz)=some es):cI σ [p] (.w (.c (.fr sz es))):=by
  obtain⟨w,a,b⟩:=Vg.1 h1;unfold iU at b;split at b
  ·split at b
   ·rename_i e;split at b
    ·rename_i hc;obtain⟨rfl,rfl,rfl⟩:=hc;obtain rfl:=Option.some.inj b;exact ft a e rfl
    ·cases b
   ·cases b
  ·obtain rfl:=Option.some.inj b;exact vh a
  ·cases b
theorem v7 {σ:St} {p q:Nat×Option Kd} {sz:Nat} {es:List D} {y:D} (h1:(bJ σ p).bind (iU σ.h sz)=some es) (h2:bJ σ q=some (.c (.d y))):cI σ [p,q] (.tup [.c (.fr sz es),.c (.d y)]):=by
  obtain⟨w,a,b⟩:=Vg.1 h1;unfold iU at b;split at b
  ·split at b
   ·rename_i e;split at b
    ·rename_i hc;obtain⟨rfl,rfl,rfl⟩:=hc;obtain rfl:=Option.some.inj b;exact Kw a e rfl h2
    ·cases b
   ·cases b
  ·obtain rfl:=Option.some.inj b;exact Kx a h2
  ·cases b
end Go.Proofs.Ytofonnokanoflaa
