/- Texts of one's own, merged: from: The plain logic (14): every operation does in memory what it does to the data. Own work. -/
import Derived.MapKept
import Derived.Carry
import Derived.Maps.RangeRun
import Derived.Test.YtnjhelpgohdajaaGreatDoorMg13
set_option linter.unusedVariables false
set_option linter.unusedSimpArgs false
namespace Go.Proofs.YtnjhelpgohdajaaGreatDoor
open Go.RowKit
section
variable {P:Program} {G:au} {N:Nat} {Sin:aT} {w0:Gh} {σ:St} {a:Act} {w:World} {S:aT} {m:Mp} {o:Oper} {K:St→Prop} {Q:Exit→Act→World→Prop}
theorem Mm {f : FuncId} {fn : Func} (hf : P.funcs[f]? = some fn) (hb : fn.body.isSome = true) (hn : (fn.name == "runtime.NumGoroutine") = false) (c : Call) (ho : o.op = .call c) (hc : c.callee = .value (.func f)) : (execOp a.eval o).run P w = .ok (.enter f (c.args.map a.eval)) w := by
  obtain⟨dst,op,type,pos,after,guard⟩:=o;obtain⟨callee,args,argTypes⟩:=c;simp only at ho hc;subst ho hc;have hbn:fn.body.isNone=false:=by cases h:fn.body <;> simp[h] at hb ⊢
  rw[execOp_call_go];have hbn2:¬ fn.body=none:=fun e=>by simp[e] at hb
  have hn2 : ¬ fn.name = "runtime.NumGoroutine" := by simpa using hn
  simp[callFunc,go_sem,hf,hn2,hbn2]
def qn (S:aT) (w:World) (res:V) (e:Ending) (w':World):Prop:=∃ v S' bl,e=.returned v∧Below w.heap.size w w'∧(∀ b i,S' b i→(S b i∨w.heap.size≤b)∧b<w'.heap.size)∧bl.Nodup∧mH S' w' w.heap.size v res bl
theorem qn.of_flat {S T:aT} {res:V} (hf:res.flat=true) {e:Ending} {w':World} (h:qn T w res e w'):qn S w res e w':=by
  obtain⟨v,S',bl,rfl,hbel,hS',hnd,hres⟩:=h;exact⟨v,fun b i=>S' b i∧w.heap.size≤b,bl,rfl,hbel,fun b i hs=>⟨.inr hs.2,(hS' b i hs.1).2⟩,hnd,Xp (fun _ _ hs=>hs.1) hf hres⟩
theorem qn.of_byt {S T:aT} {res:V} (hf:res.byt=true) (hlt:∀ b i,T b i→b<w.heap.size) (hT:∀ b i,T b i→S b i∨∀ n,w.cell? ⟨b,i,none⟩≠some (.int .u8 n)) {e:Ending} {w':World} (h:qn T w res e w'):qn S w res e w':=by
  obtain⟨v,S',bl,rfl,hbel,hS',hnd,hres⟩:=h;refine⟨v,fun b i=>S' b i∧(S b i∨w.heap.size≤b),bl,rfl,hbel,fun b i hs=>⟨hs.2,(hS' b i hs.1).2⟩,hnd,Zo (fun _ _ hs=>hs.1) (fun b i n hs hc=>⟨hs,?_⟩) hf hres⟩;rcases (hS' b i hs).1 with ht | hge
  ·rcases hT b i ht with h1 | h1
   ·exact .inl h1
   ·exact absurd ((hbel.cell (p:=⟨b,i,none⟩) (hlt b i ht)).symm.trans hc) (h1 n)
  ·exact .inr hge
theorem Mn {f:FuncId} {args:List Value} (hrun:(execOp a.eval o).run P w=.ok (.enter f args.toArray) w) (own:Option (Nat×Nat))
    (h:Inv G N Sin w0 σ a w S m) (hd:∀ t,o.dst=some t→t<N∧w0.fx t=none) {res:V} (hc:Calls P f args.toArray w (qn S w res)) {r:R} (hr:gM σ.h σ.u (o.dst.getD 0) own res=some r) (hK:K (σ.put o.dst r)):o.wp P a w (Nx G N Sin w0 K) Q:=by
  unfold Oper.wp;rw[hrun]
  show Calls P f args.toArray w _
  refine hc.mono ?_;rintro e w' ⟨v,S',bl,rfl,hbel,hS',hnd,hres⟩;exact acR h hd hbel hS' hnd hres hr hK
theorem Po (h:Inv G N Sin w0 σ a w S m) {xs:List Operand} {ys:List SX} {ds:List D} (hxs:bE be xs=some ys) (h1:fK σ.h (ys.map (ev G σ.f))=some ds) {res:V} (h3:qz σ.h (ys.map (ev G σ.f)) res) :
    ∃ T:aT,(∀ b i,T b i→b<w.heap.size)∧nY G T w∧aD (fun v x=>RW (fun _=>none) T w v (.c (.d x))) (xs.map a.eval) ds∧∀ (f:FuncId) (vs:List Value),Calls P f vs.toArray w (qn T w res)→Calls P f vs.toArray w (qn S w res):=by
  by_cases hown:(ys.map (ev G σ.f)).any V.hasOwn=true
  ·rcases h3 hown with hf | ⟨hb,ds',h1',h4⟩
   ·refine⟨qN σ.h m S,fun b i hs=>?_,h.glob.step (bR.refl _ _) fun _ _ hs=>.inl hs,Pn h hxs h1,fun f vs hc=>hc.mono fun _ _ hp=>hp.of_flat hf⟩;rcases hs with hs | ⟨id,ob,s,ho,hm⟩
    ·exact (h.sin b i hs).1
    ·exact (h.obj id ob ho).1.lt hm
   ·rw[h1,ap2] at h1';subst h1';refine⟨sH σ.h m S w,sH.lt h,h.glob.step (bR.refl _ _) fun _ _ hs=>.inl hs,Nu h hxs h1 h4,fun f vs hc=>hc.mono fun _ _ hp=>hp.of_byt hb (sH.lt h) fun b i ht=>?_⟩;rcases ht with ht | ⟨_,ht⟩
    ·exact .inl ht
    ·exact .inr ht
  ·exact⟨S,fun b i hs=>(h.sin b i hs).1,h.glob,F1 h hxs h1 (by simpa using hown),fun f vs hc=>hc⟩
theorem Ny (h:Inv G N Sin w0 σ a w S m):∀ {xs:List Operand} {ys:List SX} {ws:List W},bE be xs=some ys→ys.map (ev G σ.f)=ws.map V.w→(∀ x∈ws,x.isPure=true)→aD (fun v x=>RW (fun _=>none) S w v x) (xs.map a.eval) ws
  | [],ys,ws,h1,h2,_=>by
    simp only[bE,ap2] at h1;subst h1;cases ws with
    | nil=>exact .nil
    | cons x r=>cases h2
  | x::xs,ys,ws,h1,h2,h3=>by
    simp only[bE] at h1;split at h1
    ·rename_i y ys' hx hxs;cases h1;cases ws with
     | nil=>cases h2
     | cons z r =>
       simp only[apW,List.cons.injEq] at h2;refine .cons ?_ (Ny h hxs h2.2 fun x hx=>h3 x (aqf _ hx));have hv:=(h.operand hx).1;rw[h2.1] at hv;have hp:=h3 z aqj;refine RW.congr (m:=m) hv fun i hi=>?_
       cases z with
       | c c=>cases c <;> first | (simp[W.isPure,C.isPure] at hp; done) | cases hi
       | mix cs=>simp[W.isPure] at hp
    ·cases h1
theorem T8 (l:Array Operand):l.map a.eval=(l.toList.map a.eval).toArray:=by apply Array.ext'; simp
theorem Zp {f : FuncId} {fn : Func} (hf : P.funcs[f]? = some fn) (hb : fn.body.isSome = true) (hn : (fn.name == "runtime.NumGoroutine") = false) (hne : f ≠ jD) (c : Call) (ho : o.op = .call c) (hc : c.callee = .value (.func f)) {xs : List SX} (hxs : bE be c.args.toList = some xs) (own : Option (Nat × Nat))
    (h:Inv G N Sin w0 σ a w S m) (hd:∀ t,o.dst=some t→t<N∧w0.fx t=none) {res:V} (h2:qv P G σ.h f (xs.map (ev G σ.f)) res) (h3:qz σ.h (xs.map (ev G σ.f)) res) {r:R} (hr:gM σ.h σ.u (o.dst.getD 0) own res=some r) (hK:K (σ.put o.dst r)):o.wp P a w (Nx G N Sin w0 K) Q:=by
  refine Mn (f:=f) (args:=c.args.toList.map a.eval) (by rw[Mm hf hb hn c ho hc,T8]) own h hd (res:=res) ?_ hr hK;rcases h2 with ⟨_,ds,h1,h2⟩ | ⟨e,_⟩ | ⟨_,ws,h1,h4,h2⟩
  ·obtain⟨T,t1,t2,t3,t4⟩:=Po (P:=P) h hxs h1 h3;exact t4 _ _ (h2 w T _ t1 t2 t3)
  ·exact absurd e hne
  ·exact h2 w S _ (fun b i hs=>(h.sin b i hs).1) h.glob (Ny h hxs h1 h4)
theorem Xs {x:Operand} {g:FuncId} {caps:List Value} (he:∀ (args:Array Value) (w:World),(callFunc g args).run P w=.ok (.enter g args) w) (c:Call) (ho:o.op=.call c) (hc:c.callee=.value x) (hx:a.eval x=.func (.func g) #[] caps.toArray):(execOp a.eval o).run P w=.ok (.enter g (c.args.toList.map a.eval++caps).toArray) w:=by
  obtain⟨dst,op,type,pos,after,guard⟩:=o;obtain⟨callee,args,argTypes⟩:=c;simp only at ho hc;subst ho hc;have e1:execOp a.eval { dst,op:=.call { callee:=.value x,args,argTypes },type,pos,after,guard }=(do let d ← Deferred.ofValue (a.eval x) (args.map a.eval); invoke d.target d.args):=rfl;have e2:args.map a.eval++caps.toArray=(args.toList.map a.eval++caps).toArray:=by apply Array.ext'; simp
  rw[e1,hx]
  show (callFunc g (#[]++args.map a.eval++caps.toArray)).run P w=_
  rw[he,Array.empty_append,e2]
theorem Xt {x:Operand} (c:Call) (ho:o.op=.call c) (hc:c.callee=.value x) {xs:List SX} (hxs:bE be (x::c.args.toList)=some xs) (own:Option (Nat×Nat))
    (h:Inv G N Sin w0 σ a w S m) (hd:∀ t,o.dst=some t→t<N∧w0.fx t=none) {res:V} (h2:qv P G σ.h jD (xs.map (ev G σ.f)) res) (h3:qz σ.h (xs.map (ev G σ.f)) res) {r:R} (hr:gM σ.h σ.u (o.dst.getD 0) own res=some r) (hK:K (σ.put o.dst r)):o.wp P a w (Nx G N Sin w0 K) Q:=by
  rcases h2 with ⟨e,_⟩ | ⟨_,g,caps,ds,h1,he,h2⟩ | ⟨e,_⟩
  ·exact absurd rfl e
  ·obtain⟨T,t1,t2,t3,t4⟩:=Po (P:=P) h hxs h1 h3;rw[apW] at t3;cases t3 with
   | cons k1 k2 =>
     have k1':Reads T w (a.eval x) (.fn g caps):=k1;obtain⟨us,hx,hu⟩:∃ us:List Value,a.eval x=.func (.func g) #[] us.toArray∧aD (fun v x=>RW (fun _=>none) T w v (.c (.d x))) us caps:=by
       generalize a.eval x=v0 at k1';cases k1' with
       | fn _ vs _ u hl hv hr =>
         refine⟨vs,rfl,.mk hl fun i i1 i2=>?_⟩;have hi:=hv i i1;rw[apR i1,ap2] at hi;have:=hr i i2;rw[← hi] at this;exact this.rw
     exact Mn (Xs he c ho hc hx) own h hd (t4 _ _ (h2 w T _ t1 t2 (k2.append hu))) hr hK
  ·exact absurd rfl e
theorem F2 (h:Inv G N Sin w0 σ a w S m):∀ {xs:List Operand} {ys:List SX} {ws:List W},bE be xs=some ys→ys.map (ev G σ.f)=ws.map V.w→aD (fun v x=>RW m S w v x) (xs.map a.eval) ws
  | [],ys,ws,h1,h2=>by
    simp only[bE,ap2] at h1;subst h1;cases ws with
    | nil=>exact .nil
    | cons x r=>cases h2
  | x::xs,ys,ws,h1,h2=>by
    simp only[bE] at h1;split at h1
    ·rename_i y ys' hx hxs;cases h1;cases ws with
     | nil=>cases h2
     | cons z r =>
       simp only[apW,List.cons.injEq] at h2;refine .cons ?_ (F2 h hxs h2.2);have hv:=(h.operand hx).1;rw[h2.1] at hv;exact hv
    ·cases h1
theorem LL {f:FuncId} {args:List Value} (hrun:(execOp a.eval o).run P w=.ok (.enter f args.toArray) w) (h:Inv G N Sin w0 σ a w S m) (hd:∀ t,o.dst=some t→t<N∧w0.fx t=none) {xs:List W} (hvs:aD (fun v x=>RW m S w v x) args xs) {r:R} (hr:oB P G σ.h σ.u f xs r) (hK:K (σ.put o.dst r)):o.wp P a w (Nx G N Sin w0 K) Q:=by
  unfold Oper.wp;rw[hrun]
  show Calls P f args.toArray w _
  refine (ahM h hd hvs hr hK).mono ?_;rintro e w' ⟨v,rfl,hn⟩;exact hn
theorem Wu {x:Operand} {g:FuncId} {fst caps:List Value} (he:∀ (args:Array Value) (w:World),(callFunc g args).run P w=.ok (.enter g args) w) (c:Call) (ho:o.op=.call c) (hc:c.callee=.value x) (hx:a.eval x=.func (.func g) fst.toArray caps.toArray):(execOp a.eval o).run P w=.ok (.enter g (fst++c.args.toList.map a.eval++caps).toArray) w:=by
  obtain⟨dst,op,type,pos,after,guard⟩:=o;obtain⟨callee,args,argTypes⟩:=c;simp only at ho hc;subst ho hc;have e1:execOp a.eval { dst,op:=.call { callee:=.value x,args,argTypes },type,pos,after,guard }=(do let d ← Deferred.ofValue (a.eval x) (args.map a.eval); invoke d.target d.args):=rfl;have e2:fst.toArray++args.map a.eval++caps.toArray=(fst++args.toList.map a.eval++caps).toArray:=by apply Array.ext'; simp
  rw[e1,hx]
  show (callFunc g (fst.toArray++args.map a.eval++caps.toArray)).run P w=_
  rw[he,e2]
theorem Xu {f : FuncId} {fn : Func} (hf : P.funcs[f]? = some fn) (hb : fn.body.isSome = true) (hn : (fn.name == "runtime.NumGoroutine") = false) (hne : f ≠ jD) (c : Call) (ho : o.op = .call c) (hc : c.callee = .value (.func f)) {xs : List SX} (hxs : bE be c.args.toList = some xs)
    (h:Inv G N Sin w0 σ a w S m) (hd:∀ t,o.dst=some t→t<N∧w0.fx t=none) {r:R} (h2:mD P G σ.h σ.u f (xs.map (ev G σ.f)) r) (hK:K (σ.put o.dst r)):o.wp P a w (Nx G N Sin w0 K) Q:=by
  rcases h2 with ⟨_,ws,h1,h2⟩ | ⟨e,_⟩
  ·exact LL (args:=c.args.toList.map a.eval) (by rw[Mm hf hb hn c ho hc,T8]) h hd (F2 h hxs h1) h2 hK
  ·exact absurd e hne
theorem Ry {vs:List Value} {cs:List Cp} (h:aD (fu m S w) vs cs):aD (fun v x=>RW m S w v x) vs (cs.map Cp.w):=by
  induction h with
  | nil=>exact .nil
  | cons h1 _ ih =>
    refine .cons ?_ ih;rename_i v c _ _ _;cases c with
    | d x=>exact RW.congr (Reads.rw (m:=m) h1) (fun i hi=>rfl)
    | p id sz i o=>exact h1
theorem Wv {x:Operand} (c:Call) (ho:o.op=.call c) (hc:c.callee=.value x) {xs:List SX} (hxs:bE be (x::c.args.toList)=some xs)
    (h:Inv G N Sin w0 σ a w S m) (hd:∀ t,o.dst=some t→t<N∧w0.fx t=none) {r:R} (h2:mD P G σ.h σ.u jD (xs.map (ev G σ.f)) r) (hK:K (σ.put o.dst r)):o.wp P a w (Nx G N Sin w0 K) Q:=by
  rcases h2 with ⟨e,_⟩ | ⟨_,g,pre,post,ws,h1,he,h2⟩
  ·exact absurd rfl e
  ·have h3:=F2 (ws:=.c (.cf g pre post)::ws) h hxs (by rw[h1]; rfl);rw[apW] at h3;cases h3 with
   | cons k1 k2 =>
     obtain⟨us,vs,hx,q1,q2⟩:∃ us vs:List Value,a.eval x=.func (.func g) us.toArray vs.toArray∧aD (fu m S w) us pre∧aD (fu m S w) vs post:=k1
     exact LL (Wu he c ho hc hx) h hd (((Ry q1).append k2).append (Ry q2)) h2 hK
theorem Mo {ρ:SX→V} {h:aI} {u:Nat→Bool} {dst:Nat} {J:R→Prop} {f:FuncId} {xs:List SX} (hw:oC P G (.callM f xs) ρ h u dst J):∃ r,mD P G h u f ((fR xs).map ρ) r∧J r:=by
  obtain⟨r,⟨h1,_⟩,h2⟩:=hw;exact⟨r,h1,h2⟩
theorem tC {s:bK} {ρ:SX→V} {h:aI} {u:Nat→Bool} {dst:Nat} {J:R→Prop} (hs:∀ f xs own,s≠.call f xs own) (hw:oC P G s ρ h u dst J) (hs2:∀ f xs,s≠.callM f xs:=by first | (intro _ _ e; cases e; done) | (intro _ _ e; split at e <;> cases e)):∃ r,ef ρ h u dst s=some r∧J r:=by
  unfold oC at hw;grind
theorem Nz {ρ:SX→V} {h:aI} {u:Nat→Bool} {dst:Nat} {J:R→Prop} {f:FuncId} {xs:List SX} {own:Option (Nat×Nat)} (hw:oC P G (.call f xs own) ρ h u dst J):∃ res r,qv P G h f (xs.map ρ) res∧qz h (xs.map ρ) res∧gM h u dst own res=some r∧J r:=by
  grind [oC]
theorem Ww {H:Hint} {c:Call} {so:bK} (ho:o.op=.call c) (h:Inv G N Sin w0 σ a w S m) (hd:∀ t,o.dst=some t→t<N∧w0.fx t=none) (hc:FW P H o c=some so)
    (hw:oC P G so (ev G σ.f) σ.h σ.u (o.dst.getD 0) (fun r=>K (σ.put o.dst r))):o.wp P a w (Nx G N Sin w0 K) Q:=by
  unfold FW at hc;split at hc
  ·
   grind [Mo,Rs,Xu,Nz,Zp]
  ·
   grind [Mo,Rs,Wv,Nz,Xt]
  ·
   grind [tC,ef,apV,acG,Wn,Wm]
  ·
   rename_i hcal;split at hc
   ·rename_i t u x y hts hargs;split at hc
    ·rename_i e s b z x' y' ht hx hy;split at hc
     ·rename_i e' hu;split at hc
      ·rename_i he;subst he;cases hc;obtain⟨r,hr,hK⟩:=tC (by intro _ _ _ e; split at e <;> cases e) hw;refine Pk t _ u ht (str:=false) (.inl ⟨rfl,hu⟩) x y x' y' c ho hcal hts hargs hx hy h hd (r:=r) ?_ hK;split at hr
       ·exact Pl hr
       ·exact hr
      ·cases hc
     ·rename_i hu;split at hc
      ·rename_i hs;cases hc;obtain⟨r,hr,hK⟩:=tC (by intro _ _ _ e; split at e <;> cases e) hw;refine Pk t _ u ht (str:=true) (.inr ⟨rfl,hu,hs⟩) x y x' y' c ho hcal hts hargs hx hy h hd (r:=r) ?_ hK;split at hr
       ·exact Pl hr
       ·exact hr
      ·cases hc
     ·cases hc
    ·cases hc
   ·cases hc
  ·
   grind [tC,Zl]
  ·rename_i hcal;simp only[apV] at hc;obtain⟨ys,hys,rfl⟩:=hc;obtain⟨r,hr,hK⟩:=tC (by intro _ _ _ e; cases e) hw;exact LK false c ho hcal hys h hd hr hK
  ·rename_i hcal;simp only[apV] at hc;obtain⟨ys,hys,rfl⟩:=hc;obtain⟨r,hr,hK⟩:=tC (by intro _ _ _ e; cases e) hw;exact LK true c ho hcal hys h hd hr hK
  ·cases hc
theorem LM {x:Option Operand} {y:Option SX} (h:jS x=some y):(x=none∧y=none)∨∃ u v,x=some u∧y=some v∧be u=some v:=by
  unfold jS at h;grind [apV]
theorem placesOf {fs:List Field} (h:fs.all (fun f=>(P.info? f.type).isSome)=true):∃ pl:List (Nat×Nat),fs.mapM (fun f=>(P.info? f.type).map fun i=>(f.offset,i.size))=some pl∧∀ (i:Nat) (f:Field) (j:TypeInfo),fs[i]?=some f→P.info? f.type=some j→pl[i]?=some (f.offset,j.size):=by
  induction fs with
  | nil=>exact⟨[],rfl,fun i f j h=>by simp at h⟩
  | cons f r ih =>
    simp only[arY,aqm] at h;obtain⟨pl,h1,h2⟩:=ih h.2;obtain⟨i0,hi0⟩:=arM.1 h.1;refine⟨(f.offset,i0.size)::pl,by simp[List.mapM_cons,hi0,h1],fun i g j hg hj=>?_⟩;grind
theorem Pp {v:Value} {x:V} {d:D} (h:RV m S w v x) (e:pG x=some d):Reads S w v d:=by
  unfold pG at e;split at e
  ·cases e;obtain⟨a,rfl,h2⟩:∃ a,v=.pointer (some a)∧fI S w a _:=h
   exact Reads.of_cells h2
  ·split at e
   ·cases e
   ·cases e;rename_i hx;cases d <;> first | exact h | exact (hx _ rfl).elim
  ·cases e
theorem NB (h:Inv G N Sin w0 σ a w S m):∀ {l:List Operand} {xs:List SX} {ds:List D},bE be l=some xs→im (xs.map (ev G σ.f))=some ds→aD (Reads S w) (l.map a.eval) ds
  | [],xs,ds,h1,h2=>by
    simp only[bE,ap2] at h1;subst h1;simp only[ap4,im,ap2] at h2;subst h2;exact .nil
  | x::l,xs,ds,h1,h2=>by
    simp only[bE] at h1;split at h1
    ·rename_i y ys hy hys;cases h1;simp only[apW,im] at h2;split at h2
     ·rename_i d ds' hd hds;cases h2;exact .cons (Pp (h.operand hy).1 hd) (NB h hys hds)
     ·cases h2
    ·cases h1
theorem Zq (f:Nat) {vs:List Value} {ds:List D} (h:aD (Reads S w) vs ds):Reads S w (.func (.func f) #[] vs.toArray) (.fn f ds):=by
  have hl:=h.length;refine .fn f vs ds (fun j=>vs.getD j undef) hl (fun j hj=>?_) (fun j hj=>?_)
  ·rw[apT,apR hj]; rfl
  ·have:=h.get j (by omega) hj;grind
theorem VW {v:Value} {f:Nat} {ds:List D} (h:Reads S w v (.fn f ds)):∃ vs:List Value,v=.func (.func f) #[] vs.toArray∧aD (Reads S w) vs ds:=by
  cases h with
  | fn f vs caps u hl hv hr =>
    refine⟨vs,rfl,.mk hl fun i h1 h2=>?_⟩;grind
theorem F3 (h:Inv G N Sin w0 σ a w S m):∀ {l:List Operand} {xs:List SX} {cs:List Cp},bE be l=some xs→fa (xs.map (ev G σ.f))=some cs→aD (fu m S w) (l.map a.eval) cs∧∀ i∈cs.flatMap Cp.ids,σ.u i=true
  | [],xs,cs,h1,h2=>by
    simp only[bE,ap2] at h1;subst h1;simp only[ap4,fa,ap2] at h2;subst h2;exact⟨.nil,fun i hi=>by cases hi⟩
  | x::l,xs,cs,h1,h2=>by
    simp only[bE] at h1;split at h1
    ·rename_i y ys hy hys;cases h1;simp only[apW,fa] at h2;split at h2
     ·rename_i d cs' hd hcs;cases h2;have hv:=h.operand hy;have ih:=F3 h hys hcs;have one:fu m S w (a.eval x) d∧∀ i∈d.ids,σ.u i=true:=by
        unfold wN at hd;split at hd
        ·rename_i id sz i o e;cases hd;rw[e] at hv;exact⟨hv.1,fun j hj=>hv.2 j hj⟩
        ·simp only[apV] at hd;obtain⟨d',hd',rfl⟩:=hd;exact⟨Pp hv.1 hd',fun i hi=>by cases hi⟩
      refine⟨.cons one.1 ih.1,fun i hi=>?_⟩;rw[aqb] at hi;exact (aqg.1 hi).elim (one.2 i) (ih.2 i)
     ·cases h2
    ·cases h1
theorem Xv (f:Nat) (fs cs:Array Operand) (xs ys:List SX) (ho:o.op=.makeFunc (.func f) fs cs) (hxs:bE be fs.toList=some xs) (hys:bE be cs.toList=some ys) (h:Inv G N Sin w0 σ a w S m) (hd:∀ t,o.dst=some t→t<N∧w0.fx t=none)
    {pre post:List Cp} (h1:fa (xs.map (ev G σ.f))=some pre) (h2:fa (ys.map (ev G σ.f))=some post) (hK:K (σ.put o.dst (.w (.c (.cf f pre post)),σ.h,σ.u))):o.wp P a w (Nx G N Sin w0 K) Q:=by
  have k1:=F3 h hxs h1;have k2:=F3 h hys h2;refine fM (x:=.w (.c (.cf f pre post))) (v:=.func (.func f) (fs.map a.eval) (cs.map a.eval)) h hd ?_ ?_ ?_ hK
  ·simp only[execOp,ho];exact dM (s:=Instr.makeFunc (.func f) (fs.map a.eval) (cs.map a.eval)) (Sem.run_pure _ _ _)
  ·have e1:fs.map a.eval=(fs.toList.map a.eval).toArray:=by rw[← Array.toList_map,arj]
   have e2:cs.map a.eval=(cs.toList.map a.eval).toArray:=by rw[← Array.toList_map,arj]
   rw[e1,e2];exact⟨_,_,rfl,k1.1,k2.1⟩
  ·intro i hi;rcases aqg.1 (show i∈pre.flatMap Cp.ids++post.flatMap Cp.ids from hi) with hi | hi
   ·exact k1.2 i hi
   ·exact k2.2 i hi
theorem Zr (f:Nat) (fs cs:Array Operand) (xs:List SX) (hfs:fs=#[]) (ho:o.op=.makeFunc (.func f) fs cs) (hxs:bE be cs.toList=some xs) (h:Inv G N Sin w0 σ a w S m) (hd:∀ t,o.dst=some t→t<N∧w0.fx t=none)
    {ds:List D} (hds:im (xs.map (ev G σ.f))=some ds) (hK:K (σ.put o.dst (vd (.fn f ds),σ.h,σ.u))):o.wp P a w (Nx G N Sin w0 K) Q:=by
  have hv:=Zq f (NB h hxs hds);refine i7 h hd (v:=.func (.func f) #[] (cs.map a.eval)) ?_ ?_ hK
  ·subst hfs;simp only[execOp,ho];exact dM (s:=Instr.makeFunc (.func f) (#[].map a.eval) (cs.map a.eval)) (by simp only[Instr.makeFunc,Array.map_empty]; exact Sem.run_pure _ _ _)
  ·have e:cs.map a.eval=(cs.toList.map a.eval).toArray:=by rw[← Array.toList_map,arj]
   rw[e]; exact hv
section
open Go.MapKept (IsKey run_checkKey run_findKey)
def tS (q:IntKind) (E:Array MapEntry) (es:List (Int×Value)):Prop:=aD (fun e p=>e.key=.int q p.1∧e.val=p.2) E.toList es
theorem tS.nil (q:IntKind):tS q #[] []:=aD.nil
theorem EM {q:IntKind} {x:Int}:∀ {E:List MapEntry} {es:List (Int×Value)} (i:Nat),aD (fun e p=>e.key=.int q p.1∧e.val=p.2) E es →
    (bL es x=none∧Instr.findNow (.int q) (.int q x) E i=some none∧dD es x=fun v=>es++[(x,v)]) ∨
    ∃ j e v,bL es x=some v∧Instr.findNow (.int q) (.int q x) E i=some (some (i+j,v))∧E[j]?=some e∧e.key=.int q x∧∀ v',aD (fun e p=>e.key=.int q p.1∧e.val=p.2) (E.modify j fun e=>{ e with key:=.int q x,val:=v' }) (dD es x v')
  | _,_,i,.nil=>.inl ⟨rfl,rfl,rfl⟩
  | e::E,p::es,i,.cons ⟨h1,h2⟩ h=>by
    obtain⟨y,u⟩:=p;by_cases hy:y=x
    ·subst hy;refine .inr ⟨0,e,u,by simp[bL],?_,rfl,h1,fun v'=>?_⟩
     ·simp only[Instr.findNow,Instr.sameNow,h1];simp[h2]
     ·simp only[dD,List.modify_zero_cons];exact .cons ⟨rfl,rfl⟩ h
    ·have hne:(x==y)=false:=by simpa using fun e=>hy e.symm
     rcases EM (i+1) h with ⟨a,b,c⟩ | ⟨j,e',v,a,b,c,d,g⟩
     ·refine .inl ⟨?_,?_,?_⟩
      ·unfold bL at *
       rw[aqN (by simpa using hy)]; exact a
      ·simp only[Instr.findNow,Instr.sameNow,h1];simp[hne,b]
      ·funext v
       simp only[dD,if_neg hy,c,aqE]
     ·refine .inr ⟨j+1,e',v,?_,?_,by simpa using c,d,fun v'=>?_⟩
      ·grind [bL]
      ·simp only[Instr.findNow,Instr.sameNow,h1];simp[hne,b]; omega
      ·simp only[dD,if_neg hy,List.modify_succ_cons];exact .cons ⟨h1,h2⟩ (g v')
theorem Fo (q:IntKind) (x:Int):IsKey (.int q) (.int q x):=by simp[IsKey]
theorem Mq {w:World} {T kt et:TypeId} {q:IntKind} {z:Value} {b:Nat} {E:Array MapEntry} {clock:Nat} {es:List (Int×Value)} (hT:P.underlying T=some (.map kt et)) (hk:P.underlying kt=some (.int q)) (hz:(zeroValue et).run P w=.ok z w)
    (hb:w.heap[b]?=some (.map E clock)) (hE:tS q E es) (x:Int) (c:Bool) :
    (Instr.lookup T (.map (some b)) (.int q x) c).run P w=.ok (if c then .tuple #[(bL es x).getD z,.bool (bL es x).isSome] else (bL es x).getD z) w:=by
  have hck:(Instr.checkKey E.isEmpty 10000 kt (.int q x)).run P w=.ok () w:=run_checkKey hk (Fo q x) _ 9999;rcases EM (x:=x) 0 hE with ⟨a,f,_⟩ | ⟨j,e,v,a,f,_⟩
  ·have hf:=run_findKey (w:=w) hk f;simp[Instr.lookup,run_underlying hT,Result.andThen,Go.MapKept.run_getObj_map hb,hck,hf,hz,a]
  ·have hf:=run_findKey (w:=w) hk f;simp[Instr.lookup,run_underlying hT,Result.andThen,Go.MapKept.run_getObj_map hb,hck,hf,a]
theorem List.map_modify_born (k v:Value):∀ (l:List MapEntry) (j:Nat),(l.modify j fun e=>{ e with key:=k,val:=v }).map (·.born)=l.map (·.born)
  | [],_=>by simp
  | _::_,0=>by simp
  | _::l,j+1=>by rw[List.modify_succ_cons,apW,apW,List.map_modify_born k v l j]
theorem Zs {w:World} {T kt et:TypeId} {q:IntKind} {b:Nat} {E:Array MapEntry} {clock:Nat} {es:List (Int×Value)} (hT:P.underlying T=some (.map kt et)) (hk:P.underlying kt=some (.int q))
    (hb:w.heap[b]?=some (.map E clock)) (hE:tS q E es) (hBo:jQ E clock) (x:Int) (v:Value) :
    ∃ E' clock',(Instr.mapUpdate T (.map (some b)) (.int q x) v).run P w=.ok () { w with heap:=w.heap.setIfInBounds b (.map E' clock') }∧tS q E' (dD es x v)∧jQ E' clock':=by
  have hck:(Instr.checkKey false 10000 kt (.int q x)).run P w=.ok () w:=run_checkKey hk (Fo q x) _ 9999;rcases EM (x:=x) 0 hE with ⟨a,f,c⟩ | ⟨j,e,u,a,f,g,hkey,hput⟩
  ·have hf:=run_findKey (w:=w) hk f;refine⟨E.push { key:=.int q x,val:=v,born:=clock },clock+1,?_,?_,hBo.push _ _⟩
   ·simp[Instr.mapUpdate,run_underlying hT,Result.andThen,Go.MapKept.run_getObj_map hb,hck,hf,Go.MapKept.run_setObj_map _ hb]
   ·unfold tS;rw[c,Array.toList_push];exact hE.append (.cons ⟨rfl,rfl⟩ .nil)
  ·have hf:=run_findKey (w:=w) hk f;have hje:E[j]?=some e:=by simpa using g
   have hst:(Instr.keyThatStays (((E[j]?).map (·.key)).getD (.int q x)) (.int q x)).run P w=.ok (.int q x) w:=by
     rw[hje];simp[Instr.keyThatStays,hkey,Instr.sameBits]
   refine⟨E.modify j fun e=>{ e with key:=.int q x,val:=v },clock,?_,?_,hBo.same (by rw[Array.toList_modify,List.map_modify_born])⟩
   ·rw[aqO] at hf;simp[Instr.mapUpdate,run_underlying hT,Result.andThen,Go.MapKept.run_getObj_map hb,hck,hf,hst,Go.MapKept.run_setObj_map _ hb]
   ·unfold tS;rw[Array.toList_modify];exact hput v
theorem Rz {m m':Mp} {S:aT} {w:World} {v:Value} {d:D} (h:RW m S w v (.c (.d d))):RW m' S w v (.c (.d d)):=by
  cases d <;> exact h
theorem Ak {γ:Type} {R:Value→γ→Prop} {q:IntKind}:∀ {E:List MapEntry} {es:List (Int×γ)},aD (fun (e:MapEntry) (p:Int×γ)=>e.key=.int q p.1∧R e.val p.2) E es →
    ∃ vs:List (Int×Value),aD (fun e p=>e.key=.int q p.1∧e.val=p.2) E vs∧aD (fun (p:Int×Value) (r:Int×γ)=>p.1=r.1∧R p.2 r.2) vs es
  | _,_,.nil=>⟨[],.nil,.nil⟩
  | e::_,p::_,.cons h r=>by
    obtain⟨vs,h1,h2⟩:=Ak r;exact⟨(p.1,e.val)::vs,.cons ⟨h.1,rfl⟩ h1,.cons ⟨rfl,h.2⟩ h2⟩
theorem Mr {γ:Type} {R:Value→γ→Prop} {q:IntKind}:∀ {E:List MapEntry} {vs:List (Int×Value)} {es:List (Int×γ)},aD (fun e p=>e.key=.int q p.1∧e.val=p.2) E vs →
    aD (fun (p:Int×Value) (r:Int×γ)=>p.1=r.1∧R p.2 r.2) vs es→aD (fun (e:MapEntry) (p:Int×γ)=>e.key=.int q p.1∧R e.val p.2) E es
  | _,_,_,.nil,.nil=>.nil
  | _,_,_,.cons h r,.cons k l=>.cons ⟨k.1 ▸ h.1,h.2 ▸ k.2⟩ (Mr r l)
theorem G3 {γ:Type} {R:Value→γ→Prop} (x:Int):∀ {vs:List (Int×Value)} {es:List (Int×γ)},aD (fun (p:Int×Value) (r:Int×γ)=>p.1=r.1∧R p.2 r.2) vs es →
    (bL vs x=none∧bL es x=none)∨∃ v d,bL vs x=some v∧bL es x=some d∧R v d∧∃ y,(y,d)∈es
  | _,_,.nil=>.inl ⟨rfl,rfl⟩
  | (y,v)::vs,(y',d)::es,.cons h r=>by
    obtain⟨h1,h2⟩:=h;simp only at h1 h2;subst h1;by_cases e:y=x
    ·grind [bL]
    ·have k1:bL ((y,v)::vs) x=bL vs x:=by unfold bL; rw[aqN (by simpa using e)]
     have k2:bL ((y,d)::es) x=bL es x:=by unfold bL; rw[aqN (by simpa using e)]
     rw[k1,k2];rcases G3 x r with k | ⟨v,d,k3,k4,k5,z,k6⟩
     ·exact .inl k
     ·exact .inr ⟨v,d,k3,k4,k5,z,aqf _ k6⟩
theorem NC {γ:Type} {R:Value→γ→Prop} (x:Int) {v:Value} {d:γ} (hv:R v d):∀ {vs:List (Int×Value)} {es:List (Int×γ)},aD (fun (p:Int×Value) (r:Int×γ)=>p.1=r.1∧R p.2 r.2) vs es →
    aD (fun (p:Int×Value) (r:Int×γ)=>p.1=r.1∧R p.2 r.2) (dD vs x v) (dD es x d)
  | _,_,.nil=>.cons ⟨rfl,hv⟩ .nil
  | (y,u)::vs,(y',c)::es,.cons h r=>by
    obtain⟨h1,h2⟩:=h;simp only at h1 h2;subst h1;simp only[dD];by_cases e:y=x
    ·rw[if_pos e,if_pos e];exact .cons ⟨rfl,hv⟩ r
    ·rw[if_neg e,if_neg e];exact .cons ⟨rfl,h2⟩ (NC x hv r)
theorem Pq (n:Int) (c:C):∀ (es:List (Int×C)),∀ j∈(dD es n c).flatMap (fun p=>p.2.ids),j∈c.ids∨j∈es.flatMap (fun p=>p.2.ids)
  | [],j,h=>.inl (by simpa [dD] using h)
  | (y,u)::es,j,h=>by
    simp only[dD] at h;split at h
    ·rw[aqb] at h ⊢;rcases aqg.1 h with h | h
     ·exact .inl h
     ·exact .inr (aqi _ h)
    ·rw[aqb] at h ⊢;rcases aqg.1 h with h | h
     ·exact .inr (aqL _ h)
     ·rcases Pq n c es j h with h | h
      ·exact .inl h
      ·exact .inr (aqi _ h)
theorem ahN {e:TypeId} {d:D} (h:El P e=some d):∃ zv,(∀ w:World,(zeroValue e).run P w=.ok zv w)∧(∀ (S:aT) (w:World),RW (fun _=>none) S w zv (.c (.d d)))∧(∀ (m:Mp) (S:aT) (w:World),RW m S w zv (.c (zC d)))∧(zC d).ids=[]:=by
  unfold El at h;split at h
  ·rename_i i hi;split at h
   ·rename_i cs hz;split at h
    ·rename_i hcs;cases h;obtain rfl:cs=#[]:=Array.eq_empty_of_size_eq_zero hcs;exact⟨.agg #[],fun w=>by simp[zeroValue,typeInfo,hi,hz],fun S w=>⟨[],rfl,.nil⟩,fun m S w=>⟨[],rfl,.nil⟩,rfl⟩
    ·cases h
   ·rename_i z _ hz;refine⟨z,fun w=>by simp[zeroValue,typeInfo,hi,hz],fun S w=>(tc h).rw,fun m S w=>?_,by unfold zC; split <;> rfl⟩;unfold zC;split
    ·unfold pi at h;split at h <;> first | (cases h; done) | exact⟨_,rfl⟩
    ·exact (tc h).rw
   ·cases h
  ·cases h
theorem G4 {t:TypeId} {q:IntKind} {z:D} (h:sG P t=some (q,z)):∃ k e,P.underlying t=some (.map k e)∧P.underlying k=some (.int q)∧El P e=some z:=by
  grind [sG]
theorem acT {x:V} {id:Nat} (h:wJ x=some id):x=.w (.c (.mp id)):=by
  unfold wJ at h;split at h
  ·cases h; rfl
  ·cases h
theorem acU {x:V} {d:C} (h:wK x=some d):x=.w (.c d):=by
  unfold wK at h;split at h
  ·cases h; rfl
  ·cases h
theorem Zt (t:TypeId) {q:IntKind} {z:D} (ht:sG P t=some (q,z)) (r:Option Operand) (r':Option SX) (ho:o.op=.makeMap t r) (hr:jS r=some r') (h:Inv G N Sin w0 σ a w S m) (hd:∀ t,o.dst=some t→t<N∧w0.fx t=none)
    (hh:tQ (ev G σ.f) r'=true) {p:R} (hp:eU σ.h σ.u (o.dst.getD 0) (.mp q []) (.mp (8*o.dst.getD 0))=some p) (hK:K (σ.put o.dst p)):o.wp P a w (Nx G N Sin w0 K) Q:=by
  obtain⟨k,e,hu,_,_⟩:=G4 ht;obtain⟨hfree,rfl⟩:=nk hp;have run:(execOp a.eval o).run P w=.ok (.value (.map (some w.heap.size))) (w.alloc (.map #[] 0)):=by
    simp only[execOp,ho];refine dM ?_;cases r with
    | none=>simp[Instr.makeMap,Result.andThen]
    | some r =>
      simp only[jS,apV] at hr;obtain⟨x,hx,rfl⟩:=hr;simp only[tQ,arM] at hh;obtain⟨⟨k',n⟩,hn⟩:=hh;have:=oa (h.operand hx).1 hn;simp[Instr.makeMap,run_underlying hu,this,asInt,asIntOf,Result.andThen]
  refine fM (x:=.w (.c (.mp (8*o.dst.getD 0)))) (h.newObj (.map #[] 0) (id:=8*o.dst.getD 0) (ob:=.mp q []) (sz:=1) (cur:=#[]) (ty:=t) (fz:=(0,0)) hfree rfl (oW _) trivial (fun j hj=>by cases hj) ⟨#[],0,heap_alloc_new w _,.nil,jQ.nil⟩) hd run (RC.rw (S:=S) (w:=w.alloc (.map #[] 0)) (c:=.mp _) ⟨w.heap.size,by simp[upd],rfl⟩) (fun i hi=>?_) hK;grind [V.ids,W.ids,C.ids,upd]
theorem acV {co:Bool} {x:Option C} {z:C} {v:Value} (h:RW m S w v (.c (x.getD z))):RV m S w (if co then .tuple #[v,.bool x.isSome] else v) (nA co x z)∧∀ j∈(nA co x z).ids,j∈(x.getD z).ids:=by
  unfold nA;cases co with
  | false=>exact⟨h,fun j hj=>hj⟩
  | true=>exact⟨⟨[_,_],rfl,.cons h (.cons (Reads.rw (.bool _)) .nil)⟩,fun j hj=>by simpa [V.ids,W.ids,C.ids] using hj⟩
theorem Xw (t:TypeId) {q:IntKind} {z:D} (ht:sG P t=some (q,z)) (x i:Operand) (x' i':SX) (co:Bool) (ho:o.op=.lookup t x i co) (hx:be x=some x') (hi:be i=some i') (h:Inv G N Sin w0 σ a w S m) (hd:∀ t,o.dst=some t→t<N∧w0.fx t=none)
    {y:V} (hy:kJ σ.h q z co (ev G σ.f x') (fV (ev G σ.f i'))=some y) (hK:K (σ.put o.dst (y,σ.h,σ.u))):o.wp P a w (Nx G N Sin w0 K) Q:=by
  obtain⟨k,e,hu,hk,hz⟩:=G4 ht;obtain⟨zv,hz1,hz2,hz3,hz4⟩:=ahN hz;have hvx:=(h.operand hx).1;have fin1:∀ (v:Value) (co:Bool) (r:Option C) (zc:C),(execOp a.eval o).run P w=.ok (.value (if co then .tuple #[v,.bool r.isSome] else v)) w→RW m S w v (.c (r.getD zc))→(∀ j∈(r.getD zc).ids,σ.u j=true)→y=nA co r zc→o.wp P a w (Nx G N Sin w0 K) Q:=by
    intro v co r zc run hv hids e;subst e;obtain⟨h1,h2⟩:=acV (co:=co) hv;exact gg h hd run h1 (fun j hj=>hids j (h2 j hj)) hK
  unfold kJ at hy;split at hy
  ·rename_i id k' n h1 h2;have hvi:=oa (h.operand hi).1 h2;split at hy
   ·rename_i q' es hob;split at hy
    ·rename_i hq;obtain⟨rfl,rfl⟩:=hq;cases hy;rw[h1] at hvx;obtain⟨b,hm,hval⟩:=hvx;have hobj:=(h.obj id _ hob).1;unfold bT at hobj;rw[hm] at hobj;obtain⟨_,_,_,cur,ty,fz,⟨E,clock,hb,hE,_⟩,_⟩:=hobj;obtain⟨vs,hvs,hvd⟩:=Ak (R:=fun v c=>RW m S w v (.c c)) hE;have run:=Mq (w:=w) hu hk (hz1 w) hb hvs n co;have res:RW m S w ((bL vs n).getD zv) (.c ((bL es n).getD (zC z)))∧(bL vs n).isSome=(bL es n).isSome∧∀ j∈((bL es n).getD (zC z)).ids,σ.u j=true:=by
       rcases G3 (R:=fun v c=>RW m S w v (.c c)) n hvd with ⟨g1,g2⟩ | ⟨v,d,g1,g2,g3,y,g4⟩
       ·grind
       ·rw[g1,g2]; exact⟨g3,rfl,fun j hj=>(h.obj id _ hob).2.2 j (aqc.2 ⟨_,g4,hj⟩)⟩
     refine fin1 ((bL vs n).getD zv) co _ _ ?_ res.1 res.2.2 rfl;simp only[execOp,ho];rw[hval,hvi,← res.2.1];exact dM run
    ·cases hy
   ·cases hy
  ·rename_i q' es k' n h1 h2;have hvi:=oa (h.operand hi).1 h2;split at hy
   ·rename_i hq;obtain⟨rfl,rfl⟩:=hq;cases hy;rw[h1] at hvx;have hvx:Reads S w (a.eval x) (.mp q' es):=hvx;rcases hvx.map_inv with ⟨hval,rfl⟩ | ⟨b,E,c,hval,hS,hb,hB,hE⟩
    ·refine fin1 zv co none (.d z) ?_ (Rz (hz2 S w)) (fun j hj=>by cases hj) rfl;simp only[execOp,ho];rw[hval,hvi];have hck:(Instr.checkKey true 10000 k (.int q' n)).run P w=.ok () w:=run_checkKey hk (Fo q' n) _ 9999;have hf:=run_findKey (w:=w) hk (show Instr.findNow (.int q') (.int q' n) [] 0=some none from rfl);exact dM (by simp[Instr.lookup,run_underlying hu,Result.andThen,hck,hf,hz1 w])
    ·obtain⟨vs,hvs,hvd⟩:=Ak (R:=fun v d=>Reads S w v d) hE;have run:=Mq (w:=w) hu hk (hz1 w) hb hvs n co;have res:RW m S w ((bL vs n).getD zv) (.c (((bL es n).map C.d).getD (.d z)))∧(bL vs n).isSome=((bL es n).map C.d).isSome∧(((bL es n).map C.d).getD (.d z)).ids=[]:=by
       rcases G3 (R:=fun v d=>Reads S w v d) n hvd with ⟨g1,g2⟩ | ⟨v,d,g1,g2,g3,_⟩
       ·rw[g1,g2]; exact⟨Rz (hz2 S w),rfl,rfl⟩
       ·rw[g1,g2]; exact⟨g3.rw,rfl,rfl⟩
     refine fin1 ((bL vs n).getD zv) co _ _ ?_ res.1 (fun j hj=>by rw[res.2.2] at hj; cases hj) rfl;simp only[execOp,ho];rw[hval,hvi,← res.2.1];exact dM run
   ·cases hy
  ·cases hy
theorem Xx (t:TypeId) {q:IntKind} {z:D} (ht:sG P t=some (q,z)) (x i y:Operand) (x' i' y':SX) (ho:o.op=.mapUpdate t x i y) (hdst:o.dst=none) (hx:be x=some x') (hi:be i=some i') (hy:be y=some y') (h:Inv G N Sin w0 σ a w S m)
    {h':aI} (hs:wM σ.h q (wJ (ev G σ.f x')) (fV (ev G σ.f i')) (wK (ev G σ.f y'))=some h') (hK:K (σ.put o.dst (.undef,h',σ.u))):o.wp P a w (Nx G N Sin w0 K) Q:=by
  obtain⟨k,e,hu,hk,hz⟩:=G4 ht;unfold wM at hs;split at hs
  ·rename_i id k' n d h1 h2 h3;split at hs
   ·rename_i q' es hob;split at hs
    ·rename_i hq;obtain⟨rfl,rfl⟩:=hq;cases hs;have hvx:=(h.operand hx).1;rw[acT h1] at hvx;obtain⟨b,hm,hval⟩:=hvx;have hvi:=oa (h.operand hi).1 h2;have hvy:=h.operand hy;rw[acU h3] at hvy;obtain⟨hvy,hyi⟩:RW m S w (a.eval y) (.c d)∧∀ j∈d.ids,σ.u j=true:=hvy
     have hobj:=(h.obj id _ hob).1;unfold bT at hobj;rw[hm] at hobj;obtain⟨_,_,_,cur,ty,fz,⟨E,clock,hb,hE,hBo⟩,_⟩:=hobj;obtain⟨vs,hvs,hvd⟩:=Ak (R:=fun v c=>RW m S w v (.c c)) hE;obtain⟨E',clock',run,hE',hBo'⟩:=Zs (w:=w) (clock:=clock) hu hk hb hvs hBo n (a.eval y);have hent:H2 m S w _ E' (dD es n d):=Mr (R:=fun v c=>RW m S w v (.c c)) hE' (NC (R:=fun v c=>RW m S w v (.c c)) n hvy hvd);have hI:=h.writeMp (clock':=clock') hob hm hb hent hBo' fun j hj=>(Pq n d es j hj).elim (hyi j) ((h.obj id _ hob).2.2 j)
     refine Ru (w':={ w with heap:=w.heap.setIfInBounds b (.map E' clock') }) ?_ ?_
     ·simp only[execOp,ho];rw[hval,hvi];simp[run]
     ·have:=hI.put o.dst (v:=undef) (x:=.undef) (by rw[hdst]; intro t ht; cases ht) trivial (fun i hi=>by cases hi);exact⟨_,S,m,hK,this⟩
    ·cases hs
   ·cases hs
  ·cases hs
theorem Wx (t:TypeId) {kt et:TypeId} (hu:P.underlying t=some (.map kt et)) (x:Operand) (x':SX) (ho:o.op=.range t x) (hx:be x=some x') (h:Inv G N Sin w0 σ a w S m) (hd:∀ t,o.dst=some t→t<N∧w0.fx t=none)
    {q:IntKind} {es:List (Int×D)} (he:ev G σ.f x'=.w (.c (.d (.mp q es)))) {p:R} (hp:eU σ.h σ.u (o.dst.getD 0) (.it q es none) (.ptr (8*o.dst.getD 0) 1 0 0)=some p) (hK:K (σ.put o.dst p)):o.wp P a w (Nx G N Sin w0 K) Q:=by
  obtain⟨hfree,rfl⟩:=nk hp;have hvx:=(h.operand hx).1;rw[he] at hvx;have hvx:Reads S w (a.eval x) (.mp q es):=hvx;have key:∀ (o2:Obj),(Instr.range t (a.eval x)).run P w=.ok (.pointer (some ⟨w.heap.size,0,none⟩)) (w.alloc o2)→(∀ cur ty fz,gG m S (w.alloc o2) w.heap.size cur ty fz (.it q es none))→o.wp P a w (Nx G N Sin w0 K) Q:=by
    intro o2 run hblk;refine fM (x:=.w (.c (.ptr (8*o.dst.getD 0) 1 0 0))) (h.newObj o2 (id:=8*o.dst.getD 0) (ob:=.it q es none) (sz:=1) (cur:=#[]) (ty:=t) (fz:=(0,0)) hfree rfl (oW _) trivial (fun j hj=>by cases hj) (hblk _ _ _)) hd (v:=.pointer (some ⟨w.heap.size,0,none⟩)) ?_ (RC.rw (S:=S) (w:=w.alloc o2) (c:=.ptr _ _ _ _) ⟨w.heap.size,by simp[upd],rfl⟩) (fun i hi=>?_) hK
    ·simp only[execOp,ho];exact dM run
    grind [V.ids,W.ids,C.ids,upd]
  rcases hvx.map_inv with ⟨hval,rfl⟩ | ⟨b,E,c,hval,hS,hb,hB,hE⟩
  ·refine key (.mapIter none 0 #[] 0) ?_ fun _ _ _=>.inl ⟨heap_alloc_new w _,rfl,rfl⟩
   rw[hval];simp[Instr.range,run_underlying hu,Result.andThen]
  ·have hlt:b<w.heap.size:=(h.sin b 0 hS).1;have hold:(w.alloc (.mapIter (some b) c #[] c)).heap[b]?=some (.map E c):=(Below.heap_alloc w _ b hlt).trans hb;have kp:bR S w (w.alloc (.mapIter (some b) c #[] c)):=bR.alloc h _;refine key (.mapIter (some b) c #[] c) ?_ fun _ _ _=>.inr ⟨b,c,#[],heap_alloc_new w _,hS,E,hold,hB,?_,fun p hp=>by cases hp⟩
   ·rw[hval];simp[Instr.range,run_underlying hu,Result.andThen,Go.MapKept.run_getObj_map hb]
   ·have:qA E #[]=E:=by unfold qA; exact Array.filter_eq_self.2 fun e he=>by simp
    rw[this];exact hE.weak fun _ _ _ _ h=>⟨h.1,h.2.keep kp⟩
theorem Xy (x:Operand) (x':SX) (ho:o.op=.entry x) (hx:be x=some x') (h:Inv G N Sin w0 σ a w S m) (hd:∀ t,o.dst=some t→t<N∧w0.fx t=none)
    {id sz:Nat} (he:ev G σ.f x'=.w (.c (.ptr id sz 0 0))) {q:IntKind} {left:List (Int×D)} {p:Int×D} (hob:σ.h id=some (.it q left (some p))) (hK:K (σ.put o.dst (.tup [.c (.d (.int q p.1)),.c (.d p.2)],σ.h,σ.u))):o.wp P a w (Nx G N Sin w0 K) Q:=by
  have hvx:=(h.operand hx).1;rw[he] at hvx;obtain⟨b,hm,hval⟩:=hvx;have hobj:=(h.obj id _ hob).1;unfold bT at hobj;rw[hm] at hobj;obtain⟨_,_,_,cur,ty,fz,hblk,_⟩:=hobj;rcases hblk with ⟨_,_,h3⟩ | ⟨bm,c,seen,h1,h2,E,h3,h4,h5,h6⟩
  ·cases h3
  ·obtain⟨e,hem,s,rfl,e1,e2⟩:=h6 p rfl;have run:=run_entry_at (P:=P) w b bm c s E c e h1 h3 hem h4.1;refine gg h hd (v:=.tuple #[e.key,e.val]) ?_ (x:=.tup [.c (.d (.int q p.1)),.c (.d p.2)]) ⟨[e.key,e.val],rfl,.cons (by rw[e1]; exact Reads.rw (.int _ _)) (.cons e2.rw .nil)⟩ (fun i hi=>by simp[V.ids,W.ids,C.ids] at hi) hK;simp only[execOp,ho];rw[hval,show (0:Nat)*sz+0=0 by omega];exact dM run
end
theorem Wy (x:Operand) (y:SX) (ho:o.op=.nilCheck x) (hx:be x=some y) (h:Inv G N Sin w0 σ a w S m) (hd:∀ t,o.dst=some t→t<N∧w0.fx t=none) (hp:oe (ev G σ.f y)=true)
    (hK:K (σ.put o.dst (ev G σ.f y,σ.h,σ.u))):o.wp P a w (Nx G N Sin w0 K) Q:=by
  have hv:=h.operand hx;refine gg h hd ?_ hv.1 hv.2 hK;have hs:(∃ ad,a.eval x=.pointer (some ad))∨∃ f us vs,a.eval x=.func (.func f) us vs:=by
    have h1:=hv.1;generalize a.eval x=v at h1;generalize ev G σ.f y=z at h1 hp;unfold oe at hp;split at hp
    ·obtain⟨b,_,e⟩:=(h1:∃ b,_∧v=_); exact .inl ⟨_,e⟩
    ·obtain⟨b,_,e⟩:=(h1:∃ b,_∧v=_); exact .inl ⟨_,e⟩
    ·obtain⟨b,e,_⟩:=(h1:∃ b,v=_∧_); exact .inl ⟨_,e⟩
    ·obtain⟨b,_,e,_⟩:=(h1:∃ b sz,v=_∧_); exact .inl ⟨_,e⟩
    ·cases (h1:Reads S w v _) with
     | ref ad=>exact .inl ⟨_,rfl⟩
    ·cases (h1:Reads S w v _) with
     | fn f=>exact .inr ⟨_,_,_,rfl⟩
    ·obtain⟨us,vs,e,_⟩:=(h1:∃ us vs,v=_∧_); exact .inr ⟨_,_,_,e⟩
    ·cases hp
  unfold execOp;rw[ho];rcases hs with ⟨ad,e⟩ | ⟨f,us,vs,e⟩
  ·simp only[e]; rfl
  ·simp only[e]; rfl
theorem ND {H:Hint} {so:bK} (h:Inv G N Sin w0 σ a w S m) (hd:∀ t,o.dst=some t→t<N∧w0.fx t=none) (hc:yD P H o=some so)
    (hw:oC P G so (ev G σ.f) σ.h σ.u (o.dst.getD 0) (fun r=>K (σ.put o.dst r))):o.wp P a w (Nx G N Sin w0 K) Q:=by
  have nocall:∀ {s:bK},so=s→(∀ f xs own,s≠.call f xs own)→(hs2:∀ f xs,s≠.callM f xs:=by first | (intro _ _ e; cases e; done) | (intro _ _ e; split at e <;> cases e))→∃ r,ef (ev G σ.f) σ.h σ.u (o.dst.getD 0) s=some r∧K (σ.put o.dst r):=by
    intro s e hs hs2;subst e;exact tC hs hw hs2
  have mvs:∀ x,(o.op=.move x∨o.op=.assign x)→BW P H o x=some so→o.wp P a w (Nx G N Sin w0 K) Q:=by
    grind [BW,ef,ahE,acP,Wp]
  unfold yD at hc;split at hc
  ·exact mvs _ (.inl ‹_›) hc
  ·exact mvs _ (.inr ‹_›) hc
  ·
   grind [ef,apV,Zb]
  ·
   grind [VU,apV,Xf]
  ·
   grind [acH]
  ·
   rename_i t ps ho;split at hc
   ·rename_i i fs hi hu;split at hc
    ·rename_i z hz;split at hc
     ·rename_i cs qs hcs hqs;split at hc
      ·rename_i hall;have hall':fs.toList.all (fun f=>(P.info? f.type).isSome)=true:=by simpa using hall
       obtain⟨pl,hpl,hpl2⟩:=placesOf hall';have hb:∀ l cells,Instr.fill (fun i=>pl[i]?) z.cells l=some cells→P.built t l=some cells:=fun l cells hf=>by
         unfold Program.built;grind
       have hq2:aD (fun (p:Nat×Operand) (q:Nat×Nat×SX)=>(fun i=>pl[i]?) p.1=some (q.1,q.2.1)∧be p.2=some q.2.2) ps.toList qs:=by
         grind [mn]
       split at hc
       ·cases hc;obtain⟨r,hr,hK⟩:=nocall rfl (by intro _ _ _ e; cases e);simp only[ef,apV] at hr;obtain⟨cs',hp,rfl⟩:=hr;exact Wr t ps ho (fun i=>pl[i]?) z hb hcs hq2 h hd hp hK
       ·cases hc;obtain⟨r,hr,hK⟩:=nocall rfl (by intro _ _ _ e; cases e);simp only[ef,apV] at hr;obtain⟨cs',hp,rfl⟩:=hr;exact Mi t ps ho (fun i=>pl[i]?) z hb hcs hq2 h hd hp hK
      ·cases hc
     ·cases hc
    ·cases hc
   ·rename_i i n e hi hu;split at hc
    ·rename_i z j hz hj;split at hc
     ·rename_i cs qs hcs hqs;cases hc;obtain⟨r,hr,hK⟩:=nocall rfl (by intro _ _ _ e; cases e);simp only[ef,apV] at hr;obtain⟨cs',hp,rfl⟩:=hr;refine Mi t ps ho (fun i=>some (i*j.size,j.size)) z (fun l cells hf=>?_) hcs (qs:=qs) ?_ h hd hp hK
      ·unfold Program.built;simp only[hi,hu,hz,hj];exact hf
      grind [mn,apV]
     ·cases hc
    ·cases hc
   ·cases hc
  ·
   rename_i t n ps ho;split at hc
   ·rename_i e s b z ht;split at hc
    ·rename_i qs hqs;split at hc
     ·rename_i hn;have hq:aD (fun p q=>p.1=q.1∧be p.2=some q.2) ps.toList qs:=by
        grind [mn,apV]
      grind [Xj,Xh]
     ·cases hc
    ·cases hc
   ·cases hc
  ·
   rename_i t x ho;split at hc
   ·rename_i kd x' hk hx;split at hc
    ·cases hc;obtain⟨r,hr,hK⟩:=nocall rfl (by intro _ _ _ e; cases e);simp only[ef,apV] at hr;obtain⟨y,hy,rfl⟩:=hr;exact Nk hk x x' ho hx h hd (H1 hy).2 hK
    grind [ef,apV,Nk,ahg]
   ·cases hc
  ·
   rename_i t x y ho;split at hc
   ·grind [ef,apV,Xg]
   ·cases hc
  ·
   rename_i op t x y t' ho;have bin:∀ x' y',be x=some x'→be y=some y'→so=.bin op x' y'→o.wp P a w (Nx G N Sin w0 K) Q:=by
     grind [ef,apV,acC]
   split at hc
   ·cases hc; exact bin _ _ ‹_› ‹_› rfl
   ·cases hc; exact bin _ _ ‹_› ‹_› rfl
   ·rename_i x' y' hu hx hy;have eqb:∀ neg:Bool,op=(if neg then .neq else .eql)→so=.eqB neg x' y'→o.wp P a w (Nx G N Sin w0 K) Q:=by
      intro neg hop e;obtain⟨r,hr,hK⟩:=nocall e (by intro _ _ _ e; cases e);simp only[ef] at hr;split at hr
      ·rename_i p q hp hq;cases hr;exact acD neg op hop t t' hu x y x' y' ho hx hy h hd hp hq hK
      ·cases hr
    grind
   ·grind [ef,apV,acF]
   ·cases hc
  ·
   grind [apV,ef,ahF]
  ·
   rename_i s d x ho;split at hc
   ·grind [ef,apV,Ze]
   ·grind [ef,apV,acL]
   ·grind [acI]
   ·rename_i e e2 x' hs hdt hx;split at hc
    ·rename_i he;split at hc
     ·rename_i hsd;subst hsd;cases hc;by_cases hfz:wa H o=true
      ·rw[if_pos hfz] at hw;grind [Xi]
      ·rw[if_neg hfz] at hw;grind [Zh]
     ·cases hc
    ·cases hc
   ·cases hc
  ·
   grind [Zg]
  ·
   rename_i t x lo hi mx ho;split at hc
   ·rename_i e x' lo' hi' mx' hu hx hlo hhi hmx;split at hc
    ·rename_i e' s b z ht;split at hc
     ·cases hc
     ·rename_i hmh;cases hc;obtain⟨r,hr,hK⟩:=nocall rfl (by intro _ _ _ e; cases e);exact Xc t _ ht x lo hi mx x' lo' hi' mx' ho hx hlo hhi hmx (Bool.eq_false_iff.2 hmh) h hd hr hK
    ·cases hc
   ·rename_i x' lo' hi' hu hx hlo hhi hmx;cases hc;obtain⟨r,hr,hK⟩:=nocall rfl (by intro _ _ _ e; cases e);simp only[ef] at hr;split at hr
    ·rename_i s hs;split at hr
     ·rename_i l k hl hk;split at hr
      ·grind [LM,VR]
      ·cases hr
     ·cases hr
    ·cases hr
   ·rename_i n e x' lo' hi' hu hx hlo hhi hmx;split at hc
    ·rename_i s b z he;split at hc
     ·rename_i hn;cases hc;obtain⟨r,hr,hK⟩:=nocall rfl (by intro _ _ _ e; cases e);rcases LM hmx with ⟨rfl,_⟩ | ⟨_,_,_,e,_⟩
      ·exact VT t e n hu he (aqG hn (by decide)) x lo hi x' lo' hi' ho hx hlo hhi h hd hr hK
      ·cases e
     ·cases hc
    ·cases hc
   ·cases hc
  ·
   rename_i t x f ho;split at hc
   ·grind [ef,apV,VO]
   ·cases hc
  ·
   rename_i t x f ho;split at hc
   ·grind [apV,ef,W9]
   ·cases hc
  ·
   grind [Xa,Xb]
  ·
   rename_i t x i ho;split at hc
   ·grind [ef,apV,Wj]
   ·rename_i x' i' hu hx hi;cases hc;obtain⟨r,hr,hK⟩:=nocall rfl (by intro _ _ _ e; cases e);grind [ef,Wl]
   ·cases hc
  ·
   grind [apV,ef,V0]
  ·
   grind [apV,ef,Zr,Xv]
  ·
   grind [apV,ef,Wy]
  ·
   grind [ef,Zt]
  ·
   grind [ef,apV,Xw]
  ·
   grind [ef,apV,Xx]
  ·
   rename_i t x ho;split at hc
   ·rename_i kt et x' hu hx;cases hc;obtain⟨p,hp,hK⟩:=nocall rfl (by intro _ _ _ e; cases e);simp only[ef] at hp;split at hp
    ·rename_i pr he;have he:ev G σ.f x'=.w (.c (.d (.mp pr.1 pr.2))):=by
       unfold v6 at he;split at he
       ·cases he; assumption
       ·cases he
     exact Wx t hu x x' ho hx h hd he hp hK
    ·cases hp
   ·cases hc
  ·
   rename_i x ho;simp only[apV] at hc;obtain⟨x',hx,rfl⟩:=hc;obtain⟨p,hp,hK⟩:=nocall rfl (by intro _ _ _ e; cases e);simp only[ef,apV] at hp;obtain⟨y,hy,rfl⟩:=hp;unfold sw at hy;split at hy
   ·rename_i id sz he;unfold DK at hy;grind [Xy]
   ·cases hy
  ·rename_i c ho;exact Ww ho h hd hc hw
  ·cases hc
end
def oX:Option SX→List SX | some x=>[x] | none=>[]
def bK.xs:bK→List SX
  | .mv x=>[x]
  | .nilOwn _=>[]
  | .pick c a b=>[c,a,b]
  | .alloc _=>[]
  | .allocArr _=>[]
  | .box _ x=>[x]
  | .build _ ps=>ps.map fun p=>p.2.2
  | .bldSl _ _ _ _ ps=>ps.map fun p=>p.2
  | .bldFz _ _ _ ps=>ps.map fun p=>p.2
  | .buildF _ ps=>ps.map fun p=>p.2.2
  | .load _ x=>[x]
  | .loadB _ x=>[x]
  | .loadX _ x ex=>x::ex
  | .store _ x y=>[x,y]
  | .storeX _ x y b=>[x,y,b]
  | .bin _ x y=>[x,y]
  | .eqB _ x y=>[x,y]
  | .eqA _ _ x y=>[x,y]
  | .un _ x=>[x]
  | .conv _ x=>[x]
  | .b2s x=>[x]
  | .s2b _ x=>[x]
  | .make _ _ _ _ l c=>[l,c]
  | .slice _ x lo hi mx=>x::oX lo++oX hi++oX mx
  | .sliceStr x lo hi=>x::oX lo++oX hi
  | .sliceArr _ _ x lo hi=>x::oX lo++oX hi
  | .fieldAddr _ x=>[x]
  | .field _ _ x=>[x]
  | .idxSl _ x i=>[x,i]
  | .idxPa _ _ x i=>[x,i]
  | .idxArr _ _ _ x i=>[x,i]
  | .idxStr x i=>[x,i]
  | .extract x _=>[x]
  | .len x=>[x]
  | .lenStr x=>[x]
  | .lenArr _=>[]
  | .app _ _ _ x y=>[x,y]
  | .appN _ _ _ x y=>[x,y]
  | .copy _ x y=>[x,y]
  | .min xs=>xs
  | .max xs=>xs
  | .mark x=>[x]
  | .frz x=>[x]
  | .markF x=>[x]
  | .clos _ xs=>xs
  | .call _ xs _=>xs
  | .closM _ xs ys=>xs++ys
  | .callM _ xs=>xs
  | .nilChk x=>[x]
  | .mkMp _ r=>oX r
  | .mpGet _ _ _ x i=>[x,i]
  | .mpSet _ x i y=>[x,i,y]
  | .mpIter x=>[x]
  | .mpEnt x=>[x]
def bK.cls:bK→Nat
  | .nilOwn _ | .alloc _ | .allocArr _ | .appN .. | .mkMp .. | .mpIter _=>2
  | .make own ..=>if own then 2 else 0
  | .box m _=>match m with | .ownBox | .ownArr=>2 | _=>0
  | .bldSl own ..=>if own then 2 else 0
  | .s2b own _=>if own then 2 else 0
  | .loadX _ _ ex=>if ex.isEmpty then 0 else 1
  | .load .. | .loadB .. | .b2s _ | .sliceArr .. | .mark _ | .mpGet .. | .mpEnt _=>1
  | .store .. | .storeX .. | .app .. | .copy .. | .frz _ | .markF _ | .bldFz .. | .buildF .. | .callM .. | .mpSet ..=>3
  | .call _ _ none=>1
  | .call _ _ (some (_,0))=>0
  | .call _ _ (some (_,_+1))=>2
  | _=>0
def SX.slot:SX→Option Nat | .t n=>some n | _=>none
def SX.kok:SX→Bool | .k v=>v.ids.isEmpty | _=>true
def bi.looks (o:bi):List Nat:=o.op.xs.filterMap SX.slot++(match o.guard with | some (t,_)=>[t] | none=>[])
def bi.apart (x y:bi):Bool :=
  (match x.dst with | some d=>!y.looks.contains d&&y.dst != some d | none=>true)&&(match y.dst with | some d=>!x.looks.contains d | none=>true)
def bi.sound (o:bi):Bool:=o.op.xs.all SX.kok&&(o.op.cls != 2 || o.dst.isSome)
def bK.isLB:bK→Bool | .loadB ..=>true | _=>false
def bK.isApp:bK→Bool | .app ..=>true | _=>false
def bK.stL:bK→bK→Bool
  | .store _ (.t n) _,.loadX _ _ ex=>(ex.filterMap SX.slot).contains n
  | .storeX _ _ _ (.t n),.loadX _ _ ex=>(ex.filterMap SX.slot).contains n
  | _,_=>false
def SX.inL (ex:List SX):SX→Bool | .t n=>(ex.filterMap SX.slot).contains n | .k v=>v.ids.isEmpty | _=>false
def bK.cmL:bK→bK→Bool
  | .callM _ xs,.loadX _ _ ex=>ex.any SX.isU&&(if xs.any SX.isU=true then rj xs else xs).all (SX.inL ex)
  | _,_=>false
def bK.isAlc:bK→Bool | .alloc _=>true | _=>false
def bK.isCM:bK→Bool | .callM ..=>true | _=>false
def bi.plain (o:bi):Bool:=o.guard.isNone&&o.dst.isSome
def bi.indep (x y:bi):Bool:=x.apart y&&(x.op.cls==0 || y.op.cls==0 || (decide (x.op.cls≤2)&&decide (y.op.cls≤2)) || (x.op.isLB&&y.op.isApp) || (x.op.isApp&&y.op.isLB) || (((x.op.isApp&&y.op.isAlc) || (x.op.isAlc&&y.op.isApp))&&(x.plain&&y.plain)) || (x.op.stL y.op || y.op.stL x.op) || (x.op.cmL y.op || y.op.cmL x.op) || (((x.op.isCM&&y.op.isAlc) || (x.op.isAlc&&y.op.isCM))&&(x.plain&&y.plain)))&&x.sound&&y.sound
section
variable {P:Program} {G:au}
def kP (P:Program) (G:au) (s:bK) (ρ:SX→V) (h:aI) (u:Nat→Bool) (dst:Nat) (r:R):Prop :=
  match s with
  | .call f xs own=>∃ res,qv P G h f (xs.map ρ) res∧qz h (xs.map ρ) res∧mu own (xs.map ρ)∧gM h u dst own res=some r
  | .callM f xs=>mD P G h u f ((fR xs).map ρ) r∧oq ρ xs=true
  | s=>ef ρ h u dst s=some r
theorem Bp {s:bK} {ρ:SX→V} {h:aI} {u:Nat→Bool} {dst:Nat} {J:R→Prop}:oC P G s ρ h u dst J↔∃ r,kP P G s ρ h u dst r∧J r:=by
  have ne:∀ {x:Option R},(match x with | some r=>J r | none=>False)↔∃ r,x=some r∧J r:=by
    intro x;cases x <;> simp
  cases s with
  | call f xs own =>
    constructor
    ·rintro⟨res,h2,h3,hp,h4⟩;obtain⟨r,hr,h4⟩:=ne.1 h4;exact⟨r,⟨res,h2,h3,hp,hr⟩,h4⟩
    ·rintro⟨r,⟨res,h2,h3,hp,hr⟩,h4⟩;exact⟨res,h2,h3,hp,ne.2 ⟨r,hr,h4⟩⟩
  | callM f xs=>exact Iff.rfl
  | mv x=>exact @ne (ef ρ h u dst (.mv x))
  | lenArr n=>exact @ne (ef ρ h u dst (.lenArr n))
  | _=>exact @ne (ef ρ h u dst _)
def ej (P:Program) (G:au) (o:bi) (σ:St) (r:R):Prop :=
  match o.guard with
  | none=>kP P G o.op (ev G σ.f) σ.h σ.u (o.dst.getD 0) r
  | some (t,want)=>(∃ b,eD (σ.f t)=some b∧((b=want∧kP P G o.op (ev G σ.f) σ.h σ.u (o.dst.getD 0) r)∨(b≠want∧r=(.tup [],σ.h,σ.u))))∨(σ.f t=.tup []∧r=(.tup [],σ.h,σ.u))
theorem vl {o:bi} {K:St→Prop} {σ:St}:Ej P G o K σ↔∃ r,ej P G o σ r∧K (σ.put o.dst r):=by
  unfold Ej ej;cases hg:o.guard with
  | none=>exact Bp
  | some p =>
    obtain⟨t,want⟩:=p;cases hb:eD (σ.f t) with
    | none =>
      grind
    | some b =>
      have hne:¬ σ.f t=.tup []:=fun e=>by rw[e] at hb; cases hb
      simp only[hb,Bp,ap2,exists_eq_left',hne,false_and,or_false];by_cases e:b=want
      ·simp[e]
      ·simp[e]
end
theorem EO {ρ ρ':SX→V}:∀ {ps:List (Nat×Nat×SX)} {cs:List C},(∀ x∈ps.map (fun p=>p.2.2),ρ' x=ρ x)→parts ρ' ps cs=parts ρ ps cs
  | [],_,_=>rfl
  | (off,size,x)::r,cs,h=>by
    simp only[apW,aqh,forall_eq_or_imp] at h;simp only[parts,h.1];split
    ·split
     ·exact EO h.2
     ·rfl
    ·rfl
theorem EP {ρ ρ':SX→V} {sz:Nat}:∀ {ps:List (Nat×SX)} {es:List D},(∀ x∈ps.map (fun p=>p.2),ρ' x=ρ x)→elems ρ' sz ps es=elems ρ sz ps es
  | [],_,_=>rfl
  | (i,x)::r,es,h=>by
    simp only[apW,aqh,forall_eq_or_imp] at h;simp only[elems,h.1];split
    ·split
     ·exact EP h.2
     ·rfl
    ·rfl
theorem E5 {ρ ρ':SX→V}:∀ {xs:List SX},(∀ x∈xs,ρ' x=ρ x)→ints ρ' xs=ints ρ xs
  | [],_=>rfl
  | [x],h=>by simp only[ints,h x (by simp)]
  | x::y::r,h=>by
    simp only[aqh,forall_eq_or_imp] at h;have:=E5 (ρ:=ρ) (ρ':=ρ') (xs:=y::r) (by simpa using h.2);simp only[ints,h.1,this]
theorem xK {ρ ρ':SX→V} {x:Option SX} {d:Nat} (h:∀ y∈oX x,ρ' y=ρ y):bound ρ' x d=bound ρ x d:=by
  cases x with
  | none=>rfl
  | some x=>simp only[bound,h x (by simp[oX])]
theorem Zu {ρ ρ':SX→V} {h:aI} {u:Nat→Bool} {dst:Nat} {s:bK} (hx:∀ x∈s.xs,ρ' x=ρ x):ef ρ' h u dst s=ef ρ h u dst s:=by
  cases s <;> simp only[bK.xs,aqh,aqg,arS,or_imp,forall_and,false_imp_iff,implies_true,and_true] at hx
  case build z ps=>simp only[ef,EO (ρ:=ρ) (ρ':=ρ') hx]
  case bldSl own n sz z ps=>simp only[ef,EP (ρ:=ρ) (ρ':=ρ') hx]
  case bldFz n sz z ps =>
    grind [aqu,ef,EP]
  case buildF z ps =>
    grind [aqu,ef,EO]
  case min xs=>simp only[ef,E5 (ρ:=ρ) (ρ':=ρ') hx]
  case max xs=>simp only[ef,E5 (ρ:=ρ) (ρ':=ρ') hx]
  case clos f xs =>
    grind [aqu,ef]
  case closM f xs ys =>
    grind [aqu,ef]
  case loadX kd x ex =>
    grind [aqu,ef]
  case slice sz x lo hi mx=>simp only[ef,hx.1.1.1 x rfl,xK (ρ:=ρ) (ρ':=ρ') hx.1.1.2,xK (ρ:=ρ) (ρ':=ρ') hx.1.2,xK (ρ:=ρ) (ρ':=ρ') hx.2]
  case sliceStr x lo hi=>grind [ef,xK]
  case sliceArr sz n x lo hi=>grind [ef,xK]
  case mkMp q r =>
    cases r with
    | none=>rfl
    | some r =>
      have e:tQ ρ' (some r)=tQ ρ (some r):=by simp only[tQ,hx r (by simp[oX])]
      show (if tQ ρ' (some r)=true then _ else _)=_
      rw[e];rfl
  all_goals (simp only[ef,lC,hx])
theorem Ar {h h2:aI} {kd:Kd} {x:V} (e:∀ id∈x.ids,h2 id=h id):fc h2 kd x=fc h kd x:=by
  cases x with
  | w y =>
    cases y with
    | c c=>cases c with
      | d x=>cases x <;> rfl
      | _=>simp only[V.ids,W.ids,C.ids,apY,forall_eq] at e <;> simp only[fc,e]
    | mix cs=>rfl
  | _=>rfl
theorem acW {ρ:SX→V} {h:aI} {u:Nat→Bool} {dst:Nat} {s:bK} {r:R} (hc:s.cls=0) (e:ef ρ h u dst s=some r):∃ v,r=(v,h,u)∧∀ h2 u2,ef ρ h2 u2 dst s=some (v,h2,u2):=by
  have mp:∀ {α:Type} {x:Option α} {g:α→V},(x.map fun y=>((g y,h,u):R))=some r→∃ v,r=(v,h,u)∧∀ (h2:aI) (u2:Nat→Bool),(x.map fun y=>((g y,h2,u2):R))=some (v,h2,u2):=by
    simp_all
  cases s <;> simp only[bK.cls] at hc <;> first | (simp at hc; done) | skip
  case mv x=>cases e; exact⟨_,rfl,fun _ _=>rfl⟩
  case pick c a b=>exact mp e
  case box m x =>
    simp only[ef] at e ⊢;cases hy:j9 (ρ x) with
    | none=>rw[hy] at e; cases e
    | some y =>
      rw[hy] at e;cases m <;> first | (simp at hc; done) | skip
      ·exact mp e
      grind
  case build z ps=>exact mp e
  case clos f xs=>exact mp e
  case closM f xs ys =>
    grind [ef]
  case nilChk x =>
    simp only[ef] at e ⊢;grind
  case loadX kd x ex =>
    simp only[ef] at e ⊢;cases hy:iy h kd (ex.map ρ) (ρ x) with
    | none=>rw[hy] at e; cases e
    | some y =>
      rw[hy] at e;cases e;refine⟨_,rfl,fun h2 u2=>?_⟩;obtain⟨hd,hl⟩:=H1 hy;obtain⟨hd3,_⟩:=yj hy;have he:ex=[]:=by
        cases ex with
        | nil=>rfl
        | cons a l=>simp at hc
      have h0:=(Me hd).1 (by rw[he]; rfl);have hag:∀ id∈(ρ x).ids,h2 id=h id:=fun id hid=>by rw[h0] at hid; cases hid
      unfold iy;rw[EZ hag,if_pos hd3,Ar (h:=h) (h2:=h2) hag,hl];rfl
  case bldSl own n sz z ps =>
    grind [ef]
  case bin op x y=>exact mp e
  case eqA neg ks x y=>exact mp e
  case eqB neg x y =>
    grind [ef]
  case un op x=>exact mp e
  case conv k x =>
    simp only[ef] at e ⊢;cases hy:fV (ρ x) with
    | none=>rw[hy] at e; cases e
    | some p=>rw[hy] at e; cases e; exact⟨_,rfl,fun _ _=>rfl⟩
  case s2b own x =>
    cases own <;> first | (simp at hc; done) | skip
    simp only[ef] at e ⊢;grind
  case make own sz byt z l c =>
    cases own <;> first | (simp at hc; done) | skip
    simp only[ef] at e ⊢;grind
  case slice sz x lo hi mx =>
    simp only[ef] at e ⊢;cases h1:mz (ρ x) with
    | none=>rw[h1] at e; cases e
    | some n =>
      simp only[h1] at e ⊢;cases h2:bound ρ lo 0 with
      | none=>rw[h2] at e; cases e
      | some l =>
        cases h3:bound ρ hi n with
        | none=>rw[h2,h3] at e; cases e
        | some k =>
          simp only[h2,h3] at e ⊢;cases h4:bound ρ mx n with
          | none=>rw[h4] at e; cases e
          | some m =>
            simp only[h4] at e ⊢;split at e
            ·rename_i hk;simp only[if_pos hk];exact mp e
            ·cases e
  case sliceStr x lo hi =>
    simp only[ef] at e ⊢;grind
  case fieldAddr off x=>exact mp e
  case field off kd x =>
    simp only[ef] at e ⊢;split at e
    ·exact mp e
    ·cases e
  case idxSl sz x i =>
    simp only[ef] at e ⊢;split at e
    ·grind
    ·grind
    ·cases e
  case idxPa sz n x i =>
    simp only[ef] at e ⊢;split at e
    ·cases e
    grind
  case idxArr sz n kd x i =>
    simp only[ef] at e ⊢;split at e
    ·exact mp e
    ·cases e
  case idxStr x i =>
    grind [ef]
  case extract x i =>
    simp only[ef] at e ⊢;split at e
    ·exact mp e
    ·cases e
  case len x=>exact mp e
  case lenStr x =>
    grind [ef]
  case lenArr n=>cases e; exact⟨_,rfl,fun _ _=>rfl⟩
  case min xs =>
    simp only[ef] at e ⊢;cases hy:ints ρ xs with
    | none=>rw[hy] at e; cases e
    | some p=>rw[hy] at e; cases e; exact⟨_,rfl,fun _ _=>rfl⟩
  case max xs =>
    simp only[ef] at e ⊢;cases hy:ints ρ xs with
    | none=>rw[hy] at e; cases e
    | some p=>rw[hy] at e; cases e; exact⟨_,rfl,fun _ _=>rfl⟩
  case call f xs own=>cases e
theorem Xz {h h2:aI} {kd:Kd} {x:V} (e:∀ id∈x.ids,h2 id=h id):jF h2 kd x=jF h kd x:=by
  cases x with
  | w y =>
    cases y with
    | c c=>cases c with
      | d x=>cases x <;> rfl
      | _=>simp only[V.ids,W.ids,C.ids,apY,forall_eq] at e <;> simp only[jF,e]
    | mix cs=>rfl
  | _=>rfl
theorem acX {h h2:aI} {kd:Kd} {x:V} {y:W} (hl:jF h kd x=some y) (e:∀ id∈x.ids,∀ cs,h id=some (.box cs)→h2 id=some (.box cs)):jF h2 kd x=some y:=by
  unfold jF at hl ⊢;grind [V.ids,W.ids,C.ids]
theorem Wz {h h2:aI} {q:IntKind} {z:D} {co:Bool} {x:V} {i:Option (IntKind×Int)} (e:∀ id∈x.ids,h2 id=h id):kJ h2 q z co x i=kJ h q z co x i:=by
  have key:∀ id,x=.w (.c (.mp id))→kJ h2 q z co x i=kJ h q z co x i:=by
    rintro id rfl;have:=e id (by simp[V.ids,W.ids,C.ids]);cases i with
    | none=>rfl
    | some p=>simp only[kJ,this]
  cases x with
  | w y =>
    cases y with
    | c c =>
      cases c with
      | mp id=>exact key id rfl
      | d d=>cases d <;> cases i <;> rfl
      | _=>rfl
    | mix cs=>rfl
  | _=>rfl
theorem WA {h h2:aI} {x:V} (e:∀ id∈x.ids,h2 id=h id):sw h2 x=sw h x:=by
  unfold sw;split
  ·rw[e _ (by simp[V.ids,W.ids,C.ids])]
  ·rfl
theorem Ms {h h2:aI} {c:C} (e:∀ id∈c.ids,h2 id=h id):gm h2 c=gm h c:=by
  cases c <;> simp only[C.ids,apY,forall_eq] at e <;> simp only[gm,e]
theorem LN {h h2:aI}:∀ {cs:List C},(∀ id∈cs.flatMap C.ids,h2 id=h id)→ma h2 cs=ma h cs
  | [],_=>rfl
  | c::r,e=>by
    simp only[aqb,aqg] at e;simp only[ma,Ms (h:=h) (h2:=h2) fun id hid=>e id (.inl hid),LN (h:=h) (h2:=h2) fun id hid=>e id (.inr hid)]
theorem E6 {h h2:aI}:∀ {cs:List Cp},(∀ id∈cs.flatMap Cp.ids,h2 id=h id)→mb h2 cs=mb h cs
  | [],_=>rfl
  | .d x::r,e=>by
    simp only[aqb,aqg] at e;simp only[mb,E6 (h:=h) (h2:=h2) fun id hid=>e id (.inr hid)]
  | .p id sz i o::r,e=>by
    simp only[aqb,aqg] at e;simp only[mb,pF,e id (.inl (by simp[Cp.ids])),E6 (h:=h) (h2:=h2) fun id hid=>e id (.inr hid)]
theorem XA {h h2:aI} {c:C} (e:∀ id∈c.ids,h2 id=h id):jc h2 c=jc h c:=by
  cases c with
  | own id sz off n=>exact Ms e
  | ptr id sz i o=>simp only[jc,pF,e id (by simp[C.ids])]
  | cf g pre post=>simp only[jc,E6 (h:=h) (h2:=h2) fun id hid=>e id (aqi _ hid)]
  | _=>rfl
theorem As {h h2:aI} {x:V} (e:∀ id∈x.ids,h2 id=h id):js h2 x=js h x:=by
  cases x with
  | w y =>
    cases y with
    | c c=>exact XA e
    | mix cs=>simp only[js,LN (h:=h) (h2:=h2) e]
  | _=>rfl
theorem LO {h h2:aI}:∀ {vs:List V},(∀ v∈vs,∀ id∈v.ids,h2 id=h id)→fK h2 vs=fK h vs
  | [],_=>rfl
  | v::r,e=>by
    simp only[aqh,forall_eq_or_imp] at e;simp only[fK,As (h:=h) (h2:=h2) e.1,LO (h:=h) (h2:=h2) e.2]
theorem acY {ρ:SX→V} {h:aI} {u:Nat→Bool} {dst:Nat} {s:bK} {r:R} (hc:s.cls=1) (hs:∀ f xs own,s≠.call f xs own) (e:ef ρ h u dst s=some r) :
    ∃ v,r=(v,h,u)∧∀ h2 u2,(∀ x∈s.xs,∀ id∈(ρ x).ids,h2 id=h id)→ef ρ h2 u2 dst s=some (v,h2,u2):=by
  cases s <;> simp only[bK.cls] at hc <;> first | (simp at hc; done) | skip
  case box m x=>cases m <;> simp at hc
  case bldSl own n sz z ps=>cases own <;> simp at hc
  case s2b own x=>cases own <;> simp at hc
  case make own sz byt z l c=>cases own <;> simp at hc
  case load kd x =>
    simp only[ef] at e ⊢;cases hy:fc h kd (ρ x) with
    | none=>rw[hy] at e; cases e
    | some y =>
      grind [Ar,bK.xs]
  case loadB kd x =>
    simp only[ef] at e ⊢;cases hy:jF h kd (ρ x) with
    | none=>rw[hy] at e; cases e
    | some y =>
      grind [Xz,bK.xs]
  case loadX kd x ex =>
    simp only[ef] at e ⊢;cases hy:iy h kd (ex.map ρ) (ρ x) with
    | none=>rw[hy] at e; cases e
    | some y =>
      rw[hy] at e;cases e;refine⟨_,rfl,fun h2 u2 hag=>?_⟩;obtain⟨hd,hl⟩:=yj hy;unfold iy;rw[EZ (hag x (by simp[bK.xs])),if_pos hd,Ar (hag x (by simp[bK.xs])),hl];rfl
  case mpGet q z co x i =>
    simp only[ef] at e ⊢;cases hy:kJ h q z co (ρ x) (fV (ρ i)) with
    | none=>rw[hy] at e; cases e
    | some y =>
      grind [Wz,bK.xs]
  case mpEnt x =>
    simp only[ef] at e ⊢;cases hy:sw h (ρ x) with
    | none=>rw[hy] at e; cases e
    | some y =>
      grind [WA,bK.xs]
  case b2s x =>
    grind [ef,apV,As,bK.xs]
  case mark x =>
    simp only[ef] at e ⊢;cases hx:ρ x with
    | w y =>
      rw[hx] at e;cases y with
      | c c =>
        cases c with
        | own id sz off n =>
          simp only at e;cases ho:h id with
          | none=>rw[ho] at e; cases e
          | some ob =>
            rw[ho] at e;cases ob with
            | row s0 es =>
              simp only at e;split at e
              ·rename_i hk2;cases e;refine⟨_,rfl,fun h2 u2 hag=>?_⟩;have:=hag x (by simp[bK.xs]) id (by rw[hx]; simp[V.ids,W.ids,C.ids]);simp only[this,ho,if_pos hk2]
              ·cases e
            | _=>cases e
        | _=>cases e
      | mix cs=>cases e
    | _=>rw[hx] at e; cases e
  case sliceArr sz n x lo hi =>
    simp only[ef] at e ⊢;cases h2:bound ρ lo 0 with
    | none=>rw[h2] at e; cases e
    | some l =>
      cases h3:bound ρ hi n with
      | none=>rw[h2,h3] at e; cases e
      | some k =>
        simp only[h2,h3] at e ⊢;split at e
        ·rename_i hk;simp only[if_pos hk];cases hx:ρ x with
         | w y =>
           rw[hx] at e;cases y with
           | c c =>
             cases c with
             | pa id sz' =>
               simp only at e;cases ho:h id with
               | none=>rw[ho] at e; cases e
               | some ob =>
                 rw[ho] at e;cases ob with
                 | row s0 es =>
                   simp only at e;split at e
                   ·rename_i hk2;cases e;refine⟨_,rfl,fun h2 u2 hag=>?_⟩;have:=hag x (by simp[bK.xs]) id (by rw[hx]; simp[V.ids,W.ids,C.ids]);simp only[this,ho,if_pos hk2]
                   ·cases e
                 | _=>cases e
             | ra es =>
               grind
             | ptr id sz' i o =>
               simp only at e;cases ho:h id with
               | none=>rw[ho] at e; cases e
               | some ob =>
                 rw[ho] at e;cases ob with
                 | row s0 es=>cases e
                 | mp q es=>cases e
                 | it q l p=>cases e
                 | box cs =>
                   simp only at e;split at e
                   ·rename_i hk2;cases e;refine⟨_,rfl,fun h2 u2 hag=>?_⟩;have:=hag x (by simp[bK.xs]) id (by rw[hx]; simp[V.ids,W.ids,C.ids]);simp only[this,ho,if_pos hk2]
                   ·cases e
             | _=>cases e
           | mix cs=>cases e
         | _=>rw[hx] at e; cases e
        ·cases e
  case call f xs own=>exact absurd rfl (hs _ _ _)
theorem td {h:aI} {u:Nat→Bool} {dst:Nat} {o:Ob} {c:C} {r:R} (e:eU h u dst o c=some r):u (8*dst)=false∧r=(.w (.c c),upd h (8*dst) (some o),upd u (8*dst) true):=by
  grind [eU]
theorem tp {h:aI} {u:Nat→Bool} {dst:Nat} {o:Ob} {c:C} (hu:u (8*dst)=false):eU h u dst o c=some (.w (.c c),upd h (8*dst) (some o),upd u (8*dst) true):=by
  unfold eU;rw[if_neg (by simp[hu])]
theorem acZ {ρ:SX→V} {h:aI} {u:Nat→Bool} {dst:Nat} {str:Bool} {sz byt:Nat} {x y:SX} {r:R} (e:ef ρ h u dst (.appN str sz byt x y)=some r) :
    ∃ v ob,u (8*dst)=false∧r=(v,upd h (8*dst) (some ob),upd u (8*dst) true)∧∀ (h2:aI) (u2:Nat→Bool),(∀ id∈(ρ y).ids,h2 id=h id)→u2 (8*dst)=false→ef ρ h2 u2 dst (.appN str sz byt x y)=some (v,upd h2 (8*dst) (some ob),upd u2 (8*dst) true):=by
  have src:∀ h2:aI,(∀ id∈(ρ y).ids,h2 id=h id)→cg h2 str (ρ y)=cg h str (ρ y):=by
    intro h2 hag;cases str with
    | true=>cases hy:ρ y with
      | w c=>cases c with
        | c d=>cases d with
          | d x=>cases x <;> rfl
          | _=>rfl
        | mix _=>rfl
      | _=>rfl
    | false=>simp only[cg,As hag]
  simp only[ef] at e ⊢;split at e
  ·cases e
  ·rename_i ys hys;split at e
   ·rename_i hsz;split at e
    ·split at e
     ·rename_i hk;obtain⟨h1,h2⟩:=td e;refine⟨_,_,h1,h2,fun h2 u2 hag hu=>?_⟩;simp only[src h2 hag,hys,if_pos hsz,if_pos hk];exact tp hu
     ·cases e
    ·cases e
   ·cases e
theorem ahO {ρ:SX→V} {h:aI} {u:Nat→Bool} {dst:Nat} {s:bK} {r:R} (hc:s.cls=2) (hs:∀ f xs own,s≠.call f xs own) (hs2:∀ a b c x y,s≠.appN a b c x y) (e:ef ρ h u dst s=some r) :
    ∃ v ob,u (8*dst)=false∧r=(v,upd h (8*dst) (some ob),upd u (8*dst) true)∧∀ h2 u2,u2 (8*dst)=false→ef ρ h2 u2 dst s=some (v,upd h2 (8*dst) (some ob),upd u2 (8*dst) true):=by
  have nw:∀ {o:Ob} {c:C},eU h u dst o c=some r→∃ v ob,u (8*dst)=false∧r=(v,upd h (8*dst) (some ob),upd u (8*dst) true)∧∀ (h2:aI) (u2:Nat→Bool),u2 (8*dst)=false→eU h2 u2 dst o c=some (v,upd h2 (8*dst) (some ob),upd u2 (8*dst) true):=by
    grind [td,tp]
  cases s <;> simp only[bK.cls] at hc <;> first | (simp at hc; done) | skip
  case loadX kd x ex=>split at hc <;> omega
  case nilOwn sz=>exact nw e
  case alloc cs=>exact nw e
  case allocArr es=>exact nw e
  case box m x =>
    simp only[ef] at e ⊢;cases hy:j9 (ρ x) with
    | none=>rw[hy] at e; cases e
    | some y =>
      grind
  case bldSl own n sz z ps =>
    grind [ef]
  case s2b own x =>
    cases own <;> first | (simp at hc; done) | skip
    simp only[ef] at e ⊢;grind
  case make own sz byt z l c =>
    cases own <;> first | (simp at hc; done) | skip
    simp only[ef] at e ⊢;grind
  case mkMp q r =>
    simp only[ef] at e ⊢;grind
  case mpIter x =>
    grind [ef]
  case appN a b c x y=>exact absurd rfl (hs2 _ _ _ _ _)
  case call f xs own=>exact absurd rfl (hs _ _ _)
section
variable {P:Program} {G:au}
def qO (h:aI) (id:Nat):Option Ob→aI | some o=>upd h id (some o) | none=>h
def qP (u:Nat→Bool) (id:Nat):Option Ob→Nat→Bool | some _=>upd u id true | none=>u
theorem LP {α:Type} {l:List α} {p q:α→Bool} (h:∀ x∈l,p x=q x):l.all p=l.all q:=by
  grind
theorem WB {α:Type} {l:List α} {p q:α→Bool} (h:∀ x∈l,p x=q x):l.any p=l.any q:=by
  grind
theorem xU {s:bK} {ρ ρ':SX→V} {h:aI} {u:Nat→Bool} {dst:Nat} {r:R} (hx:∀ x∈s.xs,ρ' x=ρ x) (e:kP P G s ρ h u dst r):kP P G s ρ' h u dst r:=by
  cases s with
  | call f xs own =>
    have:xs.map ρ'=xs.map ρ:=aqu hx;simp only[kP,this];exact e
  | callM f xs =>
    have h1:(fR xs).map ρ'=(fR xs).map ρ:=aqu fun z hz=>hx z (xT z hz)
    have h2:oq ρ' xs=oq ρ xs:=by
      unfold oq
      congr 1
      refine LP fun y hy=>?_
      rw[hx y (xT y hy)];refine LP fun i _=>?_
      refine WB fun z hz=>?_
      rw[hx z (O8 z hz)]
    exact⟨by rw[h1]; exact e.1,by rw[h2]; exact e.2⟩
  | _ =>
    show ef _ _ _ _ _=_
    rw[Zu hx];exact e
theorem XB {s:bK} {ρ:SX→V} {h:aI} {u:Nat→Bool} {dst:Nat} {r:R} (hs:∀ f xs own,s≠.call f xs own) (hc:s.cls≤2) (e:ef ρ h u dst s=some r) :
    ∃ v c,r=(v,qO h (8*dst) c,qP u (8*dst) c)∧(s.cls≠2→c=none)∧(c≠none→u (8*dst)=false) ∧
      ∀ h2 u2,(s.cls=0∨∀ x∈s.xs,∀ id∈(ρ x).ids,h2 id=h id)→(c≠none→u2 (8*dst)=false)→ef ρ h2 u2 dst s=some (v,qO h2 (8*dst) c,qP u2 (8*dst) c):=by
  have h3:s.cls=0∨s.cls=1∨s.cls=2:=by omega
  rcases h3 with h0 | h1 | h2
  ·obtain⟨v,k1,k2⟩:=acW h0 e;exact⟨v,none,k1,fun _=>rfl,fun h=>absurd rfl h,fun h2 u2 _ _=>k2 h2 u2⟩
  ·obtain⟨v,k1,k2⟩:=acY h1 hs e;exact⟨v,none,k1,fun _=>rfl,fun h=>absurd rfl h,fun h2 u2 hag _=>k2 h2 u2 (hag.resolve_left (by omega))⟩
  ·by_cases hn:∃ a b c x y,s=.appN a b c x y
   ·obtain⟨a,b,c,x,y,rfl⟩:=hn;obtain⟨v,ob,k0,k1,k2⟩:=acZ e;exact⟨v,some ob,k1,fun h=>absurd h2 h,fun _=>k0,fun h3 u3 hag hu=>k2 h3 u3 ((hag.resolve_left (by omega)) y (by simp[bK.xs])) (hu (by simp))⟩
   ·obtain⟨v,ob,k0,k1,k2⟩:=ahO h2 hs (fun a b c x y e=>hn ⟨a,b,c,x,y,e⟩) e;exact⟨v,some ob,k1,fun h=>absurd h2 h,fun _=>k0,fun h2 u2 _ hu=>k2 h2 u2 (hu (by simp))⟩
theorem LQ {s:bK} {ρ:SX→V} {h:aI} {u:Nat→Bool} {dst:Nat} {r:R} (hc:s.cls≤2) (e:kP P G s ρ h u dst r) :
    ∃ v c,r=(v,qO h (8*dst) c,qP u (8*dst) c)∧(s.cls≠2→c=none)∧(c≠none→u (8*dst)=false) ∧
      ∀ h2 u2,(s.cls=0∨∀ x∈s.xs,∀ id∈(ρ x).ids,h2 id=h id)→(c≠none→u2 (8*dst)=false)→kP P G s ρ h2 u2 dst (v,qO h2 (8*dst) c,qP u2 (8*dst) c):=by
  cases s with
  | call f xs own =>
    obtain⟨res,h1,h3,hp,h4⟩:=e;have args:∀ h2:aI,(bK.cls (.call f xs own)=0∨∀ x∈bK.xs (.call f xs own),∀ id∈(ρ x).ids,h2 id=h id)→qv P G h2 f (xs.map ρ) res∧qz h2 (xs.map ρ) res:=by
      intro h2 hag;have e:fK h2 (xs.map ρ)=fK h (xs.map ρ):=by
        refine LO fun v hv=>?_
        obtain⟨x,hx,rfl⟩:=aqa.1 hv;rcases hag with hag | hag
        ·have hp2:(xs.map ρ).all (fun v=>v.ids.isEmpty)=true:=by
           match own,hag,hp with
           | none,hag,_=>simp[bK.cls] at hag
           | some (k,0),_,hp=>exact hp k rfl
           | some (_,_+1),hag,_=>simp[bK.cls] at hag
         grind
        ·exact hag x hx
      unfold qv qz;rw[e];exact⟨h1,h3⟩
    match own,hp,h4,args with
    | none,hp,h4,args =>
      simp only[gM,ap2] at h4;subst h4;exact⟨_,none,rfl,fun _=>rfl,fun h=>absurd rfl h,fun h2 u2 hag _=>⟨res,(args h2 hag).1,(args h2 hag).2,hp,rfl⟩⟩
    | some (k,0),hp,h4,args =>
      simp only[gM,ap2] at h4;subst h4;exact⟨_,none,rfl,fun _=>rfl,fun h=>absurd rfl h,fun h2 u2 hag _=>⟨res,(args h2 hag).1,(args h2 hag).2,hp,rfl⟩⟩
    | some (k,sz+1),hp,h4,args =>
      simp only[gM] at h4;have key:∃ v ob,u (8*dst)=false∧r=(v,upd h (8*dst) (some ob),upd u (8*dst) true)∧∀ (h2:aI) (u2:Nat→Bool),u2 (8*dst)=false→sE h2 u2 dst k (sz+1) res=some (v,upd h2 (8*dst) (some ob),upd u2 (8*dst) true):=by
        unfold sE at h4 ⊢;grind
      obtain⟨v,ob,k1,k2,k3⟩:=key;exact⟨v,some ob,k2,fun h=>absurd rfl h,fun _=>k1,fun h2 u2 hag hu=>⟨res,(args h2 hag).1,(args h2 hag).2,hp,k3 h2 u2 (hu (by simp))⟩⟩
  | callM f xs=>simp[bK.cls] at hc
  | _=>exact XB (by intro _ _ _ e; cases e) hc e
end
section
variable {P:Program} {G:au}
theorem qh {o:bi} {f f2:Nat→V} (h:∀ t∈o.looks,f2 t=f t):∀ x∈o.op.xs,ev G f2 x=ev G f x:=by
  intro x hx;cases x with
  | t n=>exact h n (aqL _ (aru.2 ⟨.t n,hx,rfl⟩))
  | _=>rfl
theorem nQ {o:bi} {f f2:Nat→V} (h:∀ t∈o.looks,f2 t=f t) {t:Nat} {want:Bool} (hg:o.guard=some (t,want)):f2 t=f t :=
  h t (aqi _ (by rw[hg]; simp))
theorem oR {o:bi} {σ:St} {f2:Nat→V} {r:R} (h:∀ t∈o.looks,f2 t=σ.f t) (e:ej P G o σ r):ej P G o ⟨f2,σ.h,σ.u⟩ r:=by
  unfold ej at *
  cases hg:o.guard with
  | none =>
    rw[hg] at e;exact xU (qh h) e
  | some p =>
    obtain⟨t,want⟩:=p;rw[hg] at e;rcases e with ⟨b,h1,h2⟩ | ⟨h1,h2⟩
    ·refine .inl ⟨b,by rw[← h1]; exact congrArg eD (nQ h hg),?_⟩;grind [xU,qh]
    ·exact .inr ⟨by rw[← h1]; exact nQ h hg,h2⟩
theorem Af {o:bi} {σ:St} {r:R} (hc:o.op.cls≤2) (e:ej P G o σ r) :
    ∃ v c,r=(v,qO σ.h (8*o.dst.getD 0) c,qP σ.u (8*o.dst.getD 0) c)∧(o.op.cls≠2→c=none)∧(c≠none→σ.u (8*o.dst.getD 0)=false) ∧
      ∀ σ2:St,(∀ t∈o.looks,σ2.f t=σ.f t)→(o.op.cls=0∨∀ x∈o.op.xs,∀ id∈(ev G σ.f x).ids,σ2.h id=σ.h id)→(c≠none→σ2.u (8*o.dst.getD 0)=false) →
        ej P G o σ2 (v,qO σ2.h (8*o.dst.getD 0) c,qP σ2.u (8*o.dst.getD 0) c):=by
  unfold ej at *
  cases hg:o.guard with
  | none =>
    grind [LQ,xU,qh]
  | some p =>
    obtain⟨t,want⟩:=p;rw[hg] at e;rcases e with ⟨b,k1,k2⟩ | ⟨k1,k3⟩
    ·rcases k2 with ⟨k2,k3⟩ | ⟨k2,k3⟩
     ·obtain⟨v,c,h1,h2,h3,h4⟩:=LQ hc k3;exact⟨v,c,h1,h2,h3,fun σ2 ha hh hu=>.inl ⟨b,by rw[← k1]; exact congrArg eD (nQ ha hg),.inl ⟨k2,xU (qh ha) (h4 σ2.h σ2.u hh hu)⟩⟩⟩
     ·exact⟨.tup [],none,k3,fun _=>rfl,fun h=>absurd rfl h,fun σ2 ha hh hu=>.inl ⟨b,by rw[← k1]; exact congrArg eD (nQ ha hg),.inr ⟨k2,rfl⟩⟩⟩
    ·exact⟨.tup [],none,k3,fun _=>rfl,fun h=>absurd rfl h,fun σ2 ha hh hu=>.inr ⟨by rw[← k1]; exact nQ ha hg,rfl⟩⟩
theorem Pr {o:bi} {σ:St} {r:R} (hb:o.op.isLB=true) (e:ej P G o σ r) :
    ∃ v,r=(v,σ.h,σ.u)∧∀ σ2:St,(∀ t∈o.looks,σ2.f t=σ.f t)→(∀ x∈o.op.xs,∀ id∈(ev G σ.f x).ids,∀ cs,σ.h id=some (.box cs)→σ2.h id=some (.box cs))→ej P G o σ2 (v,σ2.h,σ2.u):=by
  obtain⟨dst,op,guard⟩:=o;cases op <;> first | (cases hb; done) | skip
  rename_i kd x;have key:∀ r:R,kP P G (.loadB kd x) (ev G σ.f) σ.h σ.u (dst.getD 0) r→∃ v,r=(v,σ.h,σ.u)∧∀ σ2:St,(∀ t∈bi.looks ⟨dst,.loadB kd x,guard⟩,σ2.f t=σ.f t)→(∀ z∈[x],∀ id∈(ev G σ.f z).ids,∀ cs,σ.h id=some (.box cs)→σ2.h id=some (.box cs))→kP P G (.loadB kd x) (ev G σ2.f) σ2.h σ2.u (dst.getD 0) (v,σ2.h,σ2.u):=by
    intro r e;have e:ef (ev G σ.f) σ.h σ.u (dst.getD 0) (.loadB kd x)=some r:=e;simp only[ef,apV] at e;obtain⟨y,hy,rfl⟩:=e;refine⟨_,rfl,fun σ2 ha hh=>?_⟩
    show ef (ev G σ2.f) σ2.h σ2.u (dst.getD 0) (.loadB kd x)=_
    have hev:ev G σ2.f x=ev G σ.f x:=qh (o:=⟨dst,.loadB kd x,guard⟩) ha x (by simp[bK.xs]);simp only[ef,hev,acX hy (hh x (by simp)),aq4]
  unfold ej at *
  cases guard with
  | none =>
    obtain⟨v,h1,h2⟩:=key r e;exact⟨v,h1,h2⟩
  | some p =>
    obtain⟨t,want⟩:=p;simp only at e ⊢;rcases e with ⟨b,k1,k2⟩ | ⟨k1,k3⟩
    ·rcases k2 with ⟨k2,k3⟩ | ⟨k2,k3⟩
     ·obtain⟨v,h1,h2⟩:=key r k3;exact⟨v,h1,fun σ2 ha hh=>.inl ⟨b,by rw[← k1]; exact congrArg eD (nQ ha rfl),.inl ⟨k2,h2 σ2 ha hh⟩⟩⟩
     ·exact⟨.tup [],k3,fun σ2 ha hh=>.inl ⟨b,by rw[← k1]; exact congrArg eD (nQ ha rfl),.inr ⟨k2,rfl⟩⟩⟩
    ·exact⟨.tup [],k3,fun σ2 ha hh=>.inr ⟨by rw[← k1]; exact nQ ha rfl,rfl⟩⟩
theorem Bq {o:bi} {σ:St} {r:R} {kd:Kd} {x:SX} {ex:List SX} (hb:o.op=.loadX kd x ex) (e:ej P G o σ r) :
    ∃ v,r=(v,σ.h,σ.u)∧∀ σ2:St,(∀ t∈o.looks,σ2.f t=σ.f t)→(∀ id∈(ev G σ.f x).ids,(∀ y∈ex,id∉(ev G σ.f y).ids)→((ex.map (ev G σ.f)).any mG=true→fe (σ.h id)=true)→σ2.h id=σ.h id)→ej P G o σ2 (v,σ2.h,σ2.u):=by
  obtain⟨dst,op,guard⟩:=o;subst hb;have key:∀ r:R,kP P G (.loadX kd x ex) (ev G σ.f) σ.h σ.u (dst.getD 0) r→∃ v,r=(v,σ.h,σ.u)∧∀ σ2:St,(∀ t∈bi.looks ⟨dst,.loadX kd x ex,guard⟩,σ2.f t=σ.f t)→(∀ id∈(ev G σ.f x).ids,(∀ y∈ex,id∉(ev G σ.f y).ids)→((ex.map (ev G σ.f)).any mG=true→fe (σ.h id)=true)→σ2.h id=σ.h id)→kP P G (.loadX kd x ex) (ev G σ2.f) σ2.h σ2.u (dst.getD 0) (v,σ2.h,σ2.u):=by
    intro r e;have e:ef (ev G σ.f) σ.h σ.u (dst.getD 0) (.loadX kd x ex)=some r:=e;simp only[ef,apV] at e;obtain⟨y,hy,rfl⟩:=e;refine⟨_,rfl,fun σ2 ha hh=>?_⟩
    show ef (ev G σ2.f) σ2.h σ2.u (dst.getD 0) (.loadX kd x ex)=_
    have hev:∀ z∈x::ex,ev G σ2.f z=ev G σ.f z:=fun z hz=>qh (o:=⟨dst,.loadX kd x ex,guard⟩) ha z (by simpa [bK.xs] using hz)
    obtain⟨hd,hl⟩:=H1 hy;obtain⟨hd3,_⟩:=yj hy;have h2:ex.map (ev G σ2.f)=ex.map (ev G σ.f):=aqu fun z hz=>hev z (aqf _ hz)
    have hag:∀ id∈(ev G σ.f x).ids,σ2.h id=σ.h id:=fun id hid=>hh id hid (fun z hz=>(Me hd).2 _ (aqa.2 ⟨z,hz,rfl⟩) id hid) fun hu=>ahf hy hu id hid
    have h3:fc σ2.h kd (ev G σ.f x)=fc σ.h kd (ev G σ.f x):=Ar hag;simp only[ef,h2,hev x aqj];unfold iy;rw[EZ hag,if_pos hd3,h3,hl];rfl
  unfold ej at *
  cases guard with
  | none =>
    obtain⟨v,h1,h2⟩:=key r e;exact⟨v,h1,h2⟩
  | some p =>
    obtain⟨t,want⟩:=p;simp only at e ⊢;rcases e with ⟨b,k1,k2⟩ | ⟨k1,k3⟩
    ·rcases k2 with ⟨k2,k3⟩ | ⟨k2,k3⟩
     ·obtain⟨v,h1,h2⟩:=key r k3;exact⟨v,h1,fun σ2 ha hh=>.inl ⟨b,by rw[← k1]; exact congrArg eD (nQ ha rfl),.inl ⟨k2,h2 σ2 ha hh⟩⟩⟩
     ·exact⟨.tup [],k3,fun σ2 ha hh=>.inl ⟨b,by rw[← k1]; exact congrArg eD (nQ ha rfl),.inr ⟨k2,rfl⟩⟩⟩
    ·exact⟨.tup [],k3,fun σ2 ha hh=>.inr ⟨by rw[← k1]; exact nQ ha rfl,rfl⟩⟩
theorem Mt {h h':aI} {kd:Kd} {v:V} {w:W} (e:aa h kd v w=some h') {id:Nat} (hi:id∉v.ids):h' id=h id:=by
  unfold aa at e;split at e
  ·split at e
   ·simp only[apV] at e;obtain⟨o',_,rfl⟩:=e;exact upd_ne _ _ fun h=>hi (by simp[V.ids,W.ids,C.ids,h])
   ·cases e
  ·split at e
   ·split at e
    ·cases e;exact upd_ne _ _ fun h=>hi (by simp[V.ids,W.ids,C.ids,h])
    ·cases e
   ·cases e
  ·cases e
theorem Ps {o:bi} {σ:St} {r:R} {kd:Kd} {x y:SX} {b:SX} (hb:(o.op=.store kd x y∧b=x)∨o.op=.storeX kd x y b) (e:ej P G o σ r):∀ id,id∉(ev G σ.f b).ids→r.2.1 id=σ.h id:=by
  obtain⟨dst,op,guard⟩:=o;have key:∀ r:R,kP P G op (ev G σ.f) σ.h σ.u (dst.getD 0) r→∀ id,id∉(ev G σ.f b).ids→r.2.1 id=σ.h id:=by
    intro r e;rcases hb with ⟨hb,rfl⟩ | hb
    ·simp only at hb;subst hb;have e:ef (ev G σ.f) σ.h σ.u (dst.getD 0) (.store kd b y)=some r:=e;simp only[ef] at e;split at e
     ·cases e
     ·simp only[apV] at e;obtain⟨h',h1,rfl⟩:=e;exact fun id hi=>Mt h1 hi
    ·simp only at hb;subst hb;have e:ef (ev G σ.f) σ.h σ.u (dst.getD 0) (.storeX kd x y b)=some r:=e;simp only[ef] at e;split at e
     ·cases e
     ·split at e
      ·rename_i hin;simp only[apV] at e;obtain⟨h',h1,rfl⟩:=e;refine fun id hi=>Mt h1 fun hx=>hi ?_
       grind [xg]
      ·cases e
  unfold ej at e;cases guard with
  | none=>exact key r e
  | some p =>
    obtain⟨t,want⟩:=p;rcases e with ⟨b,k1,k2⟩ | ⟨k1,k3⟩
    ·rcases k2 with ⟨k2,k3⟩ | ⟨k2,k3⟩
     ·exact key r k3
     ·subst k3; exact fun _ _=>rfl
    ·subst k3; exact fun _ _=>rfl
theorem NE {x y:bK} (h:x.stL y=true):∃ kd a v b kd' c ex,((x=.store kd a v∧b=a)∨x=.storeX kd a v b)∧y=.loadX kd' c ex∧b∈ex∧b∈x.xs:=by
  unfold bK.stL at h;split at h
  ·rename_i kd n b kd' c ex;refine⟨_,_,_,_,_,_,_,.inl ⟨rfl,rfl⟩,rfl,?_,by simp[bK.xs]⟩;have h:n∈ex.filterMap SX.slot:=by simpa using h
   obtain⟨z,hz,hn⟩:=aru.1 h;cases z with
   | t m=>cases hn; exact hz
   | _=>cases hn
  ·rename_i kd a v n kd' c ex;refine⟨_,_,_,_,_,_,_,.inr rfl,rfl,?_,by simp[bK.xs]⟩;have h:n∈ex.filterMap SX.slot:=by simpa using h
   obtain⟨z,hz,hn⟩:=aru.1 h;cases z with
   | t m=>cases hn; exact hz
   | _=>cases hn
  ·cases h
theorem WC {h:aI} {u:Nat→Bool} {dst sz:Nat} {es:List D} {c:C} {r:R} (e:eU h u dst (.row sz es) c=some r):∀ id,u id=true→∀ cs,(h id=some (.box cs)↔r.2.1 id=some (.box cs)):=by
  obtain⟨h1,rfl⟩:=td e;intro id hu cs;have hne:id≠8*dst:=fun h=>by rw[h,h1] at hu; cases hu
  simp only[upd,if_neg hne]
theorem NF {o:bi} {σ:St} {r:R} (hb:o.op.isApp=true) (e:ej P G o σ r):∀ id,σ.u id=true→∀ cs,(σ.h id=some (.box cs)↔r.2.1 id=some (.box cs)):=by
  obtain⟨dst,op,guard⟩:=o;cases op <;> first | (cases hb; done) | skip
  rename_i str sz byt x y;have key:∀ r:R,kP P G (.app str sz byt x y) (ev G σ.f) σ.h σ.u (dst.getD 0) r→∀ id,σ.u id=true→∀ cs,(σ.h id=some (.box cs)↔r.2.1 id=some (.box cs)):=by
    intro r e;have e:ef (ev G σ.f) σ.h σ.u (dst.getD 0) (.app str sz byt x y)=some r:=e;simp only[ef] at e;grind [WC,upd]
  unfold ej at e;cases guard with
  | none=>exact key r e
  | some p =>
    obtain⟨t,want⟩:=p;rcases e with ⟨b,k1,k2⟩ | ⟨k1,k3⟩
    ·rcases k2 with ⟨k2,k3⟩ | ⟨k2,k3⟩
     ·exact key r k3
     ·subst k3; exact fun _ _ _=>Iff.rfl
    ·subst k3; exact fun _ _ _=>Iff.rfl
theorem bi.apart_spec {x y:bi} (h:x.apart y=true):(∀ d,x.dst=some d→d∉y.looks)∧(∀ d,x.dst=some d→y.dst≠some d)∧(∀ d,y.dst=some d→d∉x.looks):=by
  grind [bi.apart]
theorem LR {f:Nat→V} {d:Option Nat} {v:V} {l:List Nat} (h:∀ e,d=some e→e∉l):∀ t∈l,bY f d v t=f t:=by
  intro t ht;cases d with
  | none=>rfl
  | some e=>exact upd_ne f v fun h'=>h e rfl (h' ▸ ht)
theorem XC {f:Nat→V} {d e:Option Nat} {v u:V} (h:∀ x,d=some x→e≠some x):bY (bY f e u) d v=bY (bY f d v) e u:=by
  cases d with
  | none=>rfl
  | some x =>
    cases e with
    | none=>rfl
    | some y =>
      have hne:x≠y:=fun he=>h x rfl (he ▸ rfl)
      funext t
      simp only[bY,upd];split <;> split <;> simp_all
theorem AP {α:Type} {f:Nat→α} {i j:Nat} {x y:α} (h:i≠j):upd (upd f j y) i x=upd (upd f i x) j y:=by
  funext t
  simp only[upd];split <;> split <;> simp_all
theorem Pt {h:aI} {i j:Nat} {c:Option Ob} (hc:c≠none→j≠i):qO h i c j=h j:=by
  cases c with
  | none=>rfl
  | some o=>exact upd_ne _ _ (hc (by simp))
theorem Pu {u:Nat→Bool} {i j:Nat} {c:Option Ob} (hc:c≠none→j≠i):qP u i c j=u j:=by
  cases c with
  | none=>rfl
  | some o=>exact upd_ne _ _ (hc (by simp))
def wc (h:aI):Option Nat→aI | none=>h | some id=>upd h id none
theorem ahP {ρ:SX→V} {h:aI} {u:Nat→Bool} {dst:Nat} {str:Bool} {sz byt:Nat} {x y:SX} {r:R} (e:ef ρ h u dst (.app str sz byt x y)=some r) :
    ∃ v ob k,u (8*dst)=false∧(∀ id,k=some id→id∈(ρ x).ids)∧r=(v,upd (wc h k) (8*dst) (some ob),upd u (8*dst) true)∧∀ (h2:aI) (u2:Nat→Bool),(∀ id∈(ρ x).ids,h2 id=h id)→(∀ id∈(ρ y).ids,h2 id=h id)→u2 (8*dst)=false→ef ρ h2 u2 dst (.app str sz byt x y)=some (v,upd (wc h2 k) (8*dst) (some ob),upd u2 (8*dst) true):=by
  have src:∀ h2:aI,(∀ id∈(ρ y).ids,h2 id=h id)→cg h2 str (ρ y)=cg h str (ρ y):=by
    intro h2 hag;cases str with
    | true=>cases hy:ρ y with
      | w c=>cases c with
        | c d=>cases d with
          | d x=>cases x <;> rfl
          | _=>rfl
        | mix _=>rfl
      | _=>rfl
    | false=>simp only[cg,As hag]
  simp only[ef] at e ⊢;split at e
  ·cases e
  ·rename_i ys hys;split at e
   ·rename_i hsz;split at e
    ·rename_i hx;split at e
     ·rename_i hk;obtain⟨h1,h2⟩:=td e;refine⟨_,_,none,h1,(fun id h=>nomatch h),h2,fun h2 u2 _ hag hu=>?_⟩;simp only[src h2 hag,hys,if_pos hsz,if_pos hk];exact tp hu
     ·cases e
    ·rename_i id sz' off n hx;split at e
     ·rename_i sz2 es hid;split at e
      ·rename_i hk;obtain⟨h1,h2⟩:=td e;refine⟨_,_,some id,h1,fun i h=>?_,h2,fun h2 u2 hax hag hu=>?_⟩
       ·cases h;rw[hx]; simp[V.ids,W.ids,C.ids]
       ·have hi:h2 id=some (.row sz2 es):=by
          rw[hax id (by rw[hx]; simp[V.ids,W.ids,C.ids])]; exact hid
        simp only[src h2 hag,hys,if_pos hsz,hi,if_pos hk];exact tp hu
      ·cases e
     ·cases e
    ·cases e
   ·cases e
theorem Mu {o:bi} {σ:St} {r:R} (hb:o.op.isApp=true) (hg:o.guard=none) (e:ej P G o σ r) :
    ∃ v ob k,σ.u (8*o.dst.getD 0)=false∧(∀ id,k=some id→∃ x∈o.op.xs,id∈(ev G σ.f x).ids)∧r=(v,upd (wc σ.h k) (8*o.dst.getD 0) (some ob),upd σ.u (8*o.dst.getD 0) true) ∧
      ∀ σ2:St,(∀ t∈o.looks,σ2.f t=σ.f t)→(∀ x∈o.op.xs,∀ id∈(ev G σ.f x).ids,σ2.h id=σ.h id)→σ2.u (8*o.dst.getD 0)=false→ej P G o σ2 (v,upd (wc σ2.h k) (8*o.dst.getD 0) (some ob),upd σ2.u (8*o.dst.getD 0) true):=by
  obtain⟨dst,op,guard⟩:=o;cases op <;> first | (cases hb; done) | skip
  rename_i str sz byt x y;subst hg;have e':ef (ev G σ.f) σ.h σ.u (dst.getD 0) (.app str sz byt x y)=some r:=e;obtain⟨v,ob,k,h1,h2,h3,h4⟩:=ahP e';refine⟨v,ob,k,h1,fun id hk=>⟨x,aqj,h2 id hk⟩,h3,fun σ2 ha hh hu=>?_⟩;have h5:=h4 σ2.h σ2.u (hh x aqj) (hh y (aqf _ aqj)) hu;have h6:kP P G (.app str sz byt x y) (ev G σ.f) σ2.h σ2.u (dst.getD 0) _:=h5;exact xU (qh (o:=⟨dst,.app str sz byt x y,none⟩) ha) h6
theorem NG {o:bi} {σ:St} {r:R} (hb:o.op.isAlc=true) (hg:o.guard=none) (e:ej P G o σ r) :
    ∃ v ob,σ.u (8*o.dst.getD 0)=false∧r=(v,upd σ.h (8*o.dst.getD 0) (some ob),upd σ.u (8*o.dst.getD 0) true) ∧
      ∀ σ2:St,σ2.u (8*o.dst.getD 0)=false→ej P G o σ2 (v,upd σ2.h (8*o.dst.getD 0) (some ob),upd σ2.u (8*o.dst.getD 0) true):=by
  obtain⟨dst,op,guard⟩:=o;cases op <;> first | (cases hb; done) | skip
  rename_i cs;subst hg;have e':ef (ev G σ.f) σ.h σ.u (dst.getD 0) (.alloc cs)=some r:=e;simp only[ef] at e';obtain⟨h1,h2⟩:=td e';refine⟨_,_,h1,h2,fun σ2 hu=>?_⟩
  show ef (ev G σ2.f) σ2.h σ2.u (dst.getD 0) (.alloc cs)=_
  simp only[ef];exact tp hu
theorem Mv {h:aI} {k:Option Nat} {i:Nat} {o:Option Ob} (hk:∀ id,k=some id→id≠i):wc (upd h i o) k=upd (wc h k) i o:=by
  cases k with
  | none=>rfl
  | some id=>exact AP (hk id rfl)
theorem Pv {x y:bi} (a2:∀ d,x.dst=some d→y.dst≠some d) (hp:x.plain=true∧y.plain=true):8*x.dst.getD 0≠8*y.dst.getD 0∧x.guard=none∧y.guard=none:=by
  unfold bi.plain at hp;simp only[aqm,Option.isNone_iff_eq_none,arM] at hp;grind
theorem NH {x y:bK} (h:x.cmL y=true):∃ F xs kd c ex,x=.callM F xs∧y=.loadX kd c ex∧ex.any SX.isU=true∧∀ z∈(if xs.any SX.isU=true then rj xs else xs),SX.inL ex z=true:=by
  unfold bK.cmL at h;grind
theorem Vl {f:Nat→V} {ex:List SX} (h:ex.any SX.isU=true):(ex.map (ev G f)).any mG=true:=by
  obtain⟨z,hz,hu⟩:=aqP.1 h;refine aqP.2 ⟨_,aqa.2 ⟨z,hz,rfl⟩,?_⟩;cases z <;> first | rfl | cases hu
theorem Pw {f:Nat→V} {ex:List SX} {z:SX} {n:Nat} (h:SX.inL ex z=true) (hn:∀ y∈ex,n∉(ev G f y).ids):n∉(ev G f z).ids:=by
  cases z with
  | t k =>
    have h:k∈ex.filterMap SX.slot:=by simpa [SX.inL] using h
    obtain⟨y,hy,hk⟩:=aru.1 h;cases y with
    | t m=>cases hk; exact hn _ hy
    | _=>cases hk
  | k v =>
    have h:v.ids=[]:=List.isEmpty_iff.1 h
    show n∉v.ids
    rw[h]; exact arS
  | _=>cases h
theorem G5 (g:Nat→Nat) (o:Ob):fe (some (o.ren g))=fe (some o):=by cases o <;> rfl
theorem NI {h:aI} {u:Nat→Bool} {f:FuncId} {ys:List W} {r:R} (e:oB P G h u f ys r) {n:Nat} (hu:u n=true) (hn:∀ y∈ys,n∉y.ids) (hb:fe (h n)=true∨fe (r.2.1 n)=true):r.2.1 n=h n:=by
  obtain⟨g,args,h0,L,res,h1,L1,⟨⟨_,p2,_,_,_⟩,_⟩,rfl,hh0,hinj,hfresh,hdir,rfl⟩:=e;have noL:∀ i∈L,g i≠n:=fun i hi he=>by
    rcases hdir i hi with ⟨x,hx,hix⟩ | ⟨q0,q1⟩
    ·refine hn _ (aqa.2 ⟨x,hx,rfl⟩) ?_;rw[W.ids_ren,← he];exact aqa.2 ⟨i,hix,rfl⟩
    ·obtain⟨o,ho⟩:=aqe.1 (p2 i hi);rcases hb with hb | hb
     ·rw[← he,hh0 i o ho,G5,← ho,q0] at hb;cases hb
     ·have hb:fe (kG h g L L1 h1 n)=true:=hb;unfold kG at hb;split at hb
      ·rename_i id hf;have k1:=arJ hf;have k2:=List.find?_some hf;simp only[beq_iff_eq] at k2;have:id=i:=hinj id (aqi _ k1) i (aqL _ hi) (by rw[k2,he]);subst this;cases h9:h1 id with
       | none=>rw[h9] at hb; cases hb
       | some o1 =>
         grind [G5]
      ·rw[if_pos (aqP.2 ⟨i,hi,by simpa using he⟩)] at hb;cases hb
  have noL1:∀ i∈L1,g i≠n:=fun i hi he=>by
    grind
  show kG h g L L1 h1 n=h n
  unfold kG;grind
theorem Mw {h h1:aI} {g:Nat→Nat} {L L1:List Nat} {n:Nat} {o:Option Ob} (k:∀ i∈L,g i≠n) (k1:∀ i∈L1,g i≠n):kG (upd h n o) g L L1 h1=upd (kG h g L L1 h1) n o:=by
  funext i
  by_cases hi:i=n
  ·subst hi;rw[upd_same];unfold kG;rw[List.find?_eq_none.2 (fun id hid=>by simpa using k1 id hid)]
   show (if (L.any fun id=>g id==i)=true then none else upd h i o i)=o
   rw[if_neg (by grind),upd_same]
  ·rw[upd_ne _ _ hi];unfold kG;rw[upd_ne _ _ hi]
theorem Mx {u:Nat→Bool} {g:Nat→Nat} {L1:List Nat} {n:Nat}:mC (upd u n true) g L1=upd (mC u g L1) n true:=by
  funext i
  by_cases hi:i=n
  ·subst hi; rw[upd_same]; unfold mC; rw[upd_same,Bool.true_or]
  ·rw[upd_ne _ _ hi]; unfold mC; rw[upd_ne _ _ hi]
theorem Px {h:aI} {u:Nat→Bool} {f:FuncId} {ys:List W} {r:R} (e:oB P G h u f ys r) {n:Nat} {ob:Ob} (hn:h n=none) (hr:r.2.2 n=false):oB P G (upd h n (some ob)) (upd u n true) f ys (r.1,upd r.2.1 n (some ob),upd r.2.2 n true):=by
  obtain⟨g,args,h0,L,res,h1,L1,hd,rfl,hh0,hinj,hfresh,hdir,rfl⟩:=e;have hr:(u n || L1.any fun id=>g id==n)=false:=hr;rw[Bool.or_eq_false_iff] at hr;have noL:∀ i∈L,g i≠n:=fun i hi he=>by
    obtain⟨o,ho⟩:=aqe.1 (hd.1.2.1 i hi);have:=hh0 i o ho;rw[he,hn] at this; cases this
  have noL1:∀ i∈L1,g i≠n:=fun i hi he=>by
    have:=aqU.1 hr.2 i hi;simp[he] at this
  refine⟨g,args,h0,L,res,h1,L1,hd,rfl,fun id o ho=>?_,hinj,fun id hid hl=>?_,hdir,?_⟩
  ·rw[upd_ne _ _ (noL id (hd.1.1 id o ho).1)]; exact hh0 id o ho
  ·rw[upd_ne _ _ (noL1 id hid)]; exact hfresh id hid hl
  ·rw[Mw noL noL1,Mx]
theorem Py {h:aI} {u:Nat→Bool} {f:FuncId} {ys:List W} {r:R} {n:Nat} {ob:Ob} (e:oB P G (upd h n (some ob)) (upd u n true) f ys r) (hb:fe (some ob)=true) (hu:u n=false) (hn:∀ y∈ys,n∉y.ids) :
    ∃ r1:R,oB P G h u f ys r1∧r1.2.2 n=false∧r=(r1.1,upd r1.2.1 n (some ob),upd r1.2.2 n true):=by
  obtain⟨g,args,h0,L,res,h1,L1,hd,rfl,hh0,hinj,hfresh,hdir,rfl⟩:=e;have noL:∀ i∈L,g i≠n:=fun i hi he=>by
    rcases hdir i hi with ⟨x,hx,hix⟩ | ⟨q0,_⟩
    ·refine hn _ (aqa.2 ⟨x,hx,rfl⟩) ?_;rw[W.ids_ren,← he];exact aqa.2 ⟨i,hix,rfl⟩
    ·obtain⟨o,ho⟩:=aqe.1 (hd.1.2.1 i hi);grind [upd_same,G5]
  have noL1:∀ i∈L1,g i≠n:=fun i hi he=>by
    grind [upd_same]
  refine⟨_,⟨g,args,h0,L,res,h1,L1,hd,rfl,fun id o ho=>?_,hinj,fun id hid hl=>?_,hdir,rfl⟩,?_,?_⟩
  ·have:=hh0 id o ho
   rwa [upd_ne _ _ (noL id (hd.1.1 id o ho).1)] at this
  ·have:=hfresh id hid hl
   rwa [upd_ne _ _ (noL1 id hid)] at this
  ·show (u n || L1.any fun id=>g id==n)=false
   grind
  ·rw[Mw noL noL1,Mx]
theorem Br (p:Cp):(Cp.w p).ids=p.ids:=by cases p <;> rfl
theorem WE {h:aI} {u:Nat→Bool} {f:FuncId} {vs:List V} {r:R} (e:mD P G h u f vs r) {n:Nat} (hu:u n=true) (hn:∀ v∈vs,n∉v.ids) (hb:fe (h n)=true∨fe (r.2.1 n)=true):r.2.1 n=h n:=by
  rcases e with ⟨_,xs,rfl,e⟩ | ⟨_,g,pre,post,xs,rfl,_,e⟩
  ·exact NI e hu (fun y hy=>hn (.w y) (aqa.2 ⟨y,hy,rfl⟩)) hb
  ·have hc:=hn _ aqj;have hc:n∉pre.flatMap Cp.ids++post.flatMap Cp.ids:=hc;refine NI e hu (fun y hy=>?_) hb;rcases aqg.1 hy with hy | hy
   ·rcases aqg.1 hy with hy | hy
    ·grind [Br]
    ·exact hn (.w y) (aqf _ (aqa.2 ⟨y,hy,rfl⟩))
   grind [Br]
theorem Pz {o:bi} {σ:St} {r:R} {F:FuncId} {xs:List SX} (hb:o.op=.callM F xs) (e:ej P G o σ r):∀ n,σ.u n=true→(∀ z∈(if xs.any SX.isU=true then rj xs else xs),n∉(ev G σ.f z).ids)→(fe (σ.h n)=true∨fe (r.2.1 n)=true)→r.2.1 n=σ.h n:=by
  obtain⟨dst,op,guard⟩:=o;subst hb;have key:∀ r:R,kP P G (.callM F xs) (ev G σ.f) σ.h σ.u (dst.getD 0) r→∀ n,σ.u n=true→(∀ z∈(if xs.any SX.isU=true then rj xs else xs),n∉(ev G σ.f z).ids)→(fe (σ.h n)=true∨fe (r.2.1 n)=true)→r.2.1 n=σ.h n:=fun r e n hu hn hb=>by
    have e:mD P G σ.h σ.u F ((fR xs).map (ev G σ.f)) r∧oq (ev G σ.f) xs=true:=e;refine WE e.1 hu (fun v hv=>?_) hb;obtain⟨z,hz,rfl⟩:=aqa.1 hv;have e2:=e.2;unfold oq at e2;by_cases hx:xs.any SX.isU=true
    ·grind
    ·rw[if_neg hx] at hn;exact hn z (xT z hz)
  unfold ej at e;cases guard with
  | none=>exact key r e
  | some p =>
    obtain⟨t,want⟩:=p;rcases e with ⟨b,k1,k2⟩ | ⟨k1,k3⟩
    ·rcases k2 with ⟨k2,k3⟩ | ⟨k2,k3⟩
     ·exact key r k3
     ·subst k3; exact fun _ _ _ _=>rfl
    ·subst k3; exact fun _ _ _ _=>rfl
theorem XD {g:FuncId} {pre post:List Cp} {xs:List W} {n:Nat} (hn:∀ v∈V.w (.c (.cf g pre post))::xs.map V.w,n∉v.ids):∀ y∈pre.map Cp.w++xs++post.map Cp.w,n∉y.ids:=by
  have hc:=hn _ aqj;have hc:n∉pre.flatMap Cp.ids++post.flatMap Cp.ids:=hc;intro y hy;rcases aqg.1 hy with hy | hy
  ·rcases aqg.1 hy with hy | hy
   ·grind [Br]
   ·exact hn (.w y) (aqf _ (aqa.2 ⟨y,hy,rfl⟩))
  grind [Br]
theorem WF {h:aI} {u:Nat→Bool} {f:FuncId} {vs:List V} {r:R} (e:mD P G h u f vs r) {n:Nat} (hn:u n=true):r.2.2 n=true:=by
  rcases e with ⟨_,_,_,_,_,_,_,_,_,_,_,_,_,_,_,_,rfl⟩ | ⟨_,_,_,_,_,_,_,_,_,_,_,_,_,_,_,_,_,_,_,_,rfl⟩ <;> (show (u n || _)=true; rw[hn,Bool.true_or])
theorem XE {h:aI} {u:Nat→Bool} {f:FuncId} {vs:List V} {r:R} (e:mD P G h u f vs r) {n:Nat} {ob:Ob} (hn:h n=none) (hr:r.2.2 n=false):mD P G (upd h n (some ob)) (upd u n true) f vs (r.1,upd r.2.1 n (some ob),upd r.2.2 n true):=by
  rcases e with ⟨k,xs,k1,e⟩ | ⟨k,g,pre,post,xs,k1,k2,e⟩
  ·exact .inl ⟨k,xs,k1,Px e hn hr⟩
  ·exact .inr ⟨k,g,pre,post,xs,k1,k2,Px e hn hr⟩
theorem XF {h:aI} {u:Nat→Bool} {f:FuncId} {vs:List V} {r:R} {n:Nat} {ob:Ob} (e:mD P G (upd h n (some ob)) (upd u n true) f vs r) (hb:fe (some ob)=true) (hu:u n=false) (hn:∀ v∈vs,n∉v.ids) :
    ∃ r1:R,mD P G h u f vs r1∧r1.2.2 n=false∧r=(r1.1,upd r1.2.1 n (some ob),upd r1.2.2 n true):=by
  rcases e with ⟨k,xs,rfl,e⟩ | ⟨k,g,pre,post,xs,rfl,k2,e⟩
  ·obtain⟨r1,e1,e2,e3⟩:=Py e hb hu (fun y hy=>hn (.w y) (aqa.2 ⟨y,hy,rfl⟩));exact⟨r1,.inl ⟨k,xs,rfl,e1⟩,e2,e3⟩
  ·obtain⟨r1,e1,e2,e3⟩:=Py e hb hu (XD hn);exact⟨r1,.inr ⟨k,g,pre,post,xs,rfl,k2,e1⟩,e2,e3⟩
theorem My {o:bi} (hb:o.op.isCM=true) (hg:o.guard=none):∃ F xs,o.op=.callM F xs∧∀ (σ:St) (r:R),ej P G o σ r↔(mD P G σ.h σ.u F ((fR xs).map (ev G σ.f)) r∧oq (ev G σ.f) xs=true):=by
  obtain⟨dst,op,guard⟩:=o;cases op <;> first | (cases hb; done) | skip
  rename_i F xs;subst hg;exact⟨F,xs,rfl,fun σ r=>Iff.rfl⟩
theorem NJ {o:bi} {σ:St} {r:R} (hb:o.op.isAlc=true) (hg:o.guard=none) (e:ej P G o σ r) :
    ∃ v ob,fe (some ob)=true∧σ.u (8*o.dst.getD 0)=false∧r=(v,upd σ.h (8*o.dst.getD 0) (some ob),upd σ.u (8*o.dst.getD 0) true) ∧
      ∀ σ2:St,σ2.u (8*o.dst.getD 0)=false→ej P G o σ2 (v,upd σ2.h (8*o.dst.getD 0) (some ob),upd σ2.u (8*o.dst.getD 0) true):=by
  obtain⟨dst,op,guard⟩:=o;cases op <;> first | (cases hb; done) | skip
  rename_i cs;subst hg;have e':ef (ev G σ.f) σ.h σ.u (dst.getD 0) (.alloc cs)=some r:=e;simp only[ef] at e';obtain⟨h1,h2⟩:=td e';refine⟨_,_,rfl,h1,h2,fun σ2 hu=>?_⟩
  show ef (ev G σ2.f) σ2.h σ2.u (dst.getD 0) (.alloc cs)=_
  simp only[ef];exact tp hu
theorem swap {x y:bi} (hi:x.indep y=true) {σ:St} (hl:∀ id o,σ.h id=some o→σ.u id=true) (hw:∀ z,z=x∨z=y→∀ o∈z.op.xs,∀ id∈(ev G σ.f o).ids,σ.u id=true) {r1 r2:R} (hx:ej P G x σ r1) (hy:ej P G y (σ.put x.dst r1) r2) :
    ∃ r2' r1',ej P G y σ r2'∧ej P G x (σ.put y.dst r2') r1'∧(σ.put y.dst r2').put x.dst r1'=(σ.put x.dst r1).put y.dst r2:=by
  simp only[bi.indep,aqm,Bool.or_eq_true,beq_iff_eq,decide_eq_true_eq] at hi;obtain⟨⟨⟨hap,hcl⟩,hsx⟩,hsy⟩:=hi;obtain⟨a1,a2,a3⟩:=bi.apart_spec hap;have ay:∀ v,∀ t∈y.looks,σ.f t=bY σ.f x.dst v t:=fun v t ht=>(LR (v:=v) a1 t ht).symm
  have ax:∀ v,∀ t∈x.looks,bY σ.f y.dst v t=σ.f t:=fun v t ht=>LR (v:=v) a3 t ht
  have com:∀ v u,bY (bY σ.f y.dst u) x.dst v=bY (bY σ.f x.dst v) y.dst u:=fun v u=>XC a2
  have evy0:∀ v,∀ o∈y.op.xs,ev G (bY σ.f x.dst v) o=ev G σ.f o:=fun v=>qh fun t ht=>(ay v t ht).symm
  rcases hcl with (((((((hcl | hcl) | hcl) | hcl) | hcl) | hcl) | hcl) | hcl) | hcl
  rotate_right
  ·obtain⟨hcl,hpl⟩:=hcl;obtain⟨nd,g1,g2⟩:=Pv a2 hpl;rcases hcl with ⟨c1,c2⟩ | ⟨c1,c2⟩
   ·
    obtain⟨F,xs,ex,kx⟩:=My (P:=P) (G:=G) c1 g1;obtain⟨v2,o2,qb,q1,rfl,q3⟩:=NJ c2 g2 hy;obtain⟨e1,e2⟩:=(kx _ _).1 hx;simp only[St.put] at q1;have q0:σ.u (8*y.dst.getD 0)=false:=by
      grind [WF]
    have hn:σ.h (8*y.dst.getD 0)=none:=by
      cases hq:σ.h (8*y.dst.getD 0) with
      | none=>rfl
      | some o=>rw[hl _ o hq] at q0; cases q0
    refine⟨_,(r1.1,upd r1.2.1 (8*y.dst.getD 0) (some o2),upd r1.2.2 (8*y.dst.getD 0) true),q3 σ q0,oR (σ:=⟨σ.f,_,_⟩) (ax _) ((kx _ _).2 ⟨XE e1 hn q1,e2⟩),?_⟩;simp only[St.put,com]
   ·
    obtain⟨F,xs,ey,ky⟩:=My (P:=P) (G:=G) c2 g2;obtain⟨v1,o1,qb,q1,rfl,q3⟩:=NJ c1 g1 hx;have hy':=oR (σ:=St.put σ x.dst _) (f2:=σ.f) (ay v1) hy;obtain⟨e1,e2⟩:=(ky _ _).1 hy';obtain⟨r3,e3,e4,e5⟩:=XF e1 qb q1 (fun v hv=>by
      obtain⟨z,hz,rfl⟩:=aqa.1 hv;intro hi;have:=hw y (.inr rfl) z (by rw[ey]; exact xT z hz) _ hi;rw[q1] at this; cases this)
    subst e5;refine⟨r3,_,(ky σ r3).2 ⟨e3,e2⟩,q3 (σ.put y.dst r3) e4,?_⟩;simp only[St.put,com]
  rotate_right
  ·rcases hcl with hcl | hcl
   ·
    obtain⟨F,xs,kd',c,ex,ex1,ey1,hu,ha⟩:=NH hcl;obtain⟨v2,rfl,k4⟩:=Bq ey1 hy;have hcm:=Pz ex1 hx;have hxs:∀ z∈c::ex,ev G (bY σ.f x.dst r1.1) z=ev G σ.f z:=fun z hz=>evy0 _ z (by rw[ey1]; exact hz)
    refine⟨(v2,σ.h,σ.u),r1,k4 σ (ay _) (fun id hid hn hb=>?_),oR (σ:=σ) (ax _) hx,?_⟩
    ·simp only[St.put] at hid hn hb ⊢;rw[hxs c aqj] at hid;exact (hcm id (hw y (.inr rfl) c (by rw[ey1]; exact aqj) id hid) (fun z hz=>Pw (ha z hz) fun y2 hy2=>by rw[← hxs y2 (aqf _ hy2)]; exact hn y2 hy2) (.inr (hb (Vl hu)))).symm
    ·simp only[St.put,com]
   ·
    obtain⟨F,xs,kd',c,ex,ey1,ex1,hu,ha⟩:=NH hcl;obtain⟨v1,rfl,k4⟩:=Bq ex1 hx;have hy':ej P G y σ r2:=oR (σ:=σ.put x.dst _) (ay v1) hy;have hcm:=Pz ey1 hy';refine⟨r2,(v1,r2.2.1,r2.2.2),hy',k4 (σ.put y.dst r2) (ax _) (fun id hid hn hb=>?_),?_⟩
    ·exact hcm id (hw x (.inl rfl) c (by rw[ex1]; exact aqj) id hid) (fun z hz=>Pw (ha z hz) hn) (.inl (hb (Vl hu)))
    ·simp only[St.put,com]
  rotate_right
  ·rcases hcl with hcl | hcl
   ·
    obtain⟨kd,a0,v0,a,kd',c,ex,ex1,ey1,ha,_⟩:=NE hcl;obtain⟨v2,rfl,k4⟩:=Bq ey1 hy;have hst:=Ps ex1 hx;have hxs:∀ z∈c::ex,ev G (bY σ.f x.dst r1.1) z=ev G σ.f z:=fun z hz=>evy0 _ z (by rw[ey1]; exact hz)
    refine⟨(v2,σ.h,σ.u),r1,k4 σ (ay _) (fun id hid hn _=>?_),oR (σ:=σ) (ax _) hx,?_⟩
    ·have h1:=hn a ha;simp only[St.put] at h1 ⊢;grind
    ·simp only[St.put,com]
   ·
    obtain⟨kd,a0,v0,a,kd',c,ex,ey1,ex1,ha,_⟩:=NE hcl;obtain⟨v1,rfl,k4⟩:=Bq ex1 hx;have hy':ej P G y σ r2:=oR (σ:=σ.put x.dst _) (ay v1) hy;have hst:=Ps ey1 hy';refine⟨r2,(v1,r2.2.1,r2.2.2),hy',k4 (σ.put y.dst r2) (ax _) (fun id hid hn _=>hst id (hn a ha)),?_⟩;simp only[St.put,com]
  rotate_right
  ·obtain⟨hcl,hpl⟩:=hcl;obtain⟨nd,g1,g2⟩:=Pv a2 hpl;rcases hcl with ⟨c1,c2⟩ | ⟨c1,c2⟩
   ·
    obtain⟨v1,o1,k,p1,p2,rfl,p4⟩:=Mu c1 g1 hx;obtain⟨v2,o2,q1,rfl,q3⟩:=NG c2 g2 hy;simp only[St.put] at q1;rw[upd_ne _ _ (Ne.symm nd)] at q1;have hk:∀ id,k=some id→id≠8*y.dst.getD 0:=fun id h e=>by
      grind
    have hy':=q3 σ q1;refine⟨_,_,hy',p4 (σ.put y.dst _) (ax _) (fun z hz id hid=>?_) ?_,?_⟩
    ·have h1:=hw x (.inl rfl) z hz id hid;simp only[St.put];exact upd_ne _ _ fun e=>by rw[e,q1] at h1; cases h1
    ·simp only[St.put];rw[upd_ne _ _ nd]; exact p1
    grind [St.put,Mv,AP]
   ·
    obtain⟨v1,o1,q1,rfl,q3⟩:=NG c1 g1 hx;obtain⟨v2,o2,k,p1,p2,rfl,p4⟩:=Mu c2 g2 hy;simp only[St.put] at p1 p2 p4;have hid:∀ z∈y.op.xs,∀ id∈(ev G σ.f z).ids,id≠8*x.dst.getD 0:=fun z hz id hi e=>by
      grind
    have hk:∀ id,k=some id→id≠8*x.dst.getD 0:=fun id h=>by
      grind
    have p1':σ.u (8*y.dst.getD 0)=false:=by rwa [upd_ne _ _ (Ne.symm nd)] at p1
    have hy':=p4 σ (ay _) (fun z hz id hi=>by
      grind [upd_ne]) p1'
    refine⟨_,_,hy',q3 (σ.put y.dst _) ?_,?_⟩
    ·simp only[St.put];rw[upd_ne _ _ nd]; exact q1
    grind [St.put,Mv,AP]
  rotate_right
  ·
   obtain⟨v2,rfl,k4⟩:=Pr hcl.2 hy;refine⟨(v2,σ.h,σ.u),r1,k4 σ (ay _) (fun o ho id hid cs hb=>?_),oR (σ:=σ) (ax _) hx,?_⟩
   ·simp only[St.put] at hid hb;grind [NF]
   ·simp only[St.put,com]
  rotate_right
  ·
   obtain⟨v1,rfl,k4⟩:=Pr hcl.1 hx;have hy':ej P G y σ r2:=oR (σ:=σ.put x.dst _) (ay v1) hy;refine⟨r2,(v1,r2.2.1,r2.2.2),hy',k4 (σ.put y.dst r2) (ax _) (fun o ho id hid cs hb=>?_),?_⟩
   ·exact (NF hcl.2 hy' id (hw x (.inl rfl) o ho id hid) cs).1 hb
   ·simp only[St.put,com]
  ·
   obtain⟨v1,c1,rfl,k2,_,k4⟩:=Af (by omega) hx;obtain rfl:=k2 (by omega);refine⟨r2,(v1,r2.2.1,r2.2.2),oR (σ:=σ.put x.dst _) (ay v1) hy,k4 (σ.put y.dst r2) (ax _) (.inl hcl) (fun h=>absurd rfl h),?_⟩;simp only[St.put,com]
  ·
   obtain⟨v2,c2,rfl,k2,_,k4⟩:=Af (by omega) hy;obtain rfl:=k2 (by omega);refine⟨(v2,σ.h,σ.u),r1,k4 σ (ay _) (.inl hcl) (fun h=>absurd rfl h),oR (σ:=σ) (ax _) hx,?_⟩;simp only[St.put,com,qO,qP]
  ·obtain⟨v1,c1,rfl,k2,k3,k4⟩:=Af hcl.1 hx;obtain⟨v2,c2,rfl,q2,q3,q4⟩:=Af hcl.2 hy;have dx:c1≠none→∃ d,x.dst=some d:=fun h=>by
     have h2:x.op.cls=2:=by
       grind
     simp only[bi.sound,h2,aqm] at hsx
     simpa [arM] using hsx.2
   have dy:c2≠none→∃ d,y.dst=some d:=fun h=>by
     have h2:y.op.cls=2:=by
       grind
     simp only[bi.sound,h2,aqm] at hsy
     simpa [arM] using hsy.2
   have ne:c1≠none→c2≠none→8*x.dst.getD 0≠8*y.dst.getD 0:=fun h1 h2 e=>by
     grind
   have uy:c2≠none→σ.u (8*y.dst.getD 0)=false:=fun h=>by
     have h1:=q3 h;simp only[St.put] at h1;grind [Pu]
   have evy:∀ o∈y.op.xs,ev G (bY σ.f x.dst v1) o=ev G σ.f o:=qh fun t ht=>(ay v1 t ht).symm
   have oy:=q4 σ (ay v1) (.inr fun o ho id hid=>by
     simp only[St.put] at hid ⊢;grind [Pt]) uy
   refine⟨_,_,oy,k4 (σ.put y.dst _) (ax _) (.inr fun o ho id hid=>?_) (fun h=>?_),?_⟩
   ·have h1:=hw x (.inl rfl) o ho id hid;simp only[St.put];grind [Pt]
   ·simp only[St.put];rw[Pu fun hc=>ne h hc];exact k3 h
   ·simp only[St.put,com];cases c1 with
    | none=>rfl
    | some o1 =>
      cases c2 with
      | none=>rfl
      | some o2 =>
        grind [qO,qP,AP]
end
end Go.Proofs.YtnjhelpgohdajaaGreatDoor
