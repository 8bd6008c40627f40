/- Texts of one's own, merged: from: The plain logic (14): every operation does in memory what it does to the data. Own work. -/
import Derived.MapKept
import Derived.Carry
import Derived.Maps.RangeRun
import Derived.Test.YteohdchecapkfaaMg43
set_option linter.unusedVariables false
set_option linter.unusedSimpArgs false
namespace Go.Proofs.Yteohdchecapkfaa
open Go.RowKit
section
variable {P:Program} {G:au} {N:Nat} {Sin:ae} {w0:Gh} {σ:St} {a:Act} {w:World} {S:ae} {m:Mp} {o:Oper} {K:St→Prop} {Q:Exit→Act→World→Prop}
theorem lD {f : FuncId} {fn : Func} (hf : P.funcs[f]? = some fn) (hb : fn.body.isSome = true) (hn : (fn.name == "runtime.NumGoroutine") = false) (c : Call) (ho : o.op = .call c) (hc : c.callee = .value (.func f)) : (execOp a.eval o).run P w = .ok (.enter f (c.args.map a.eval)) w := by
  obtain⟨dst,op,type,pos,after,guard⟩:=o;obtain⟨callee,args,argTypes⟩:=c;simp only at ho hc;subst ho hc;have hbn:fn.body.isNone=false:=by cases h:fn.body <;> simp[h] at hb ⊢
  rw[execOp_call_go];have hbn2:¬ fn.body=none:=fun e=>by simp[e] at hb
  have hn2 : ¬ fn.name = "runtime.NumGoroutine" := by simpa using hn
  simp[callFunc,go_sem,hf,hn2,hbn2]
def dG (S:ae) (w:World) (res:V) (e:Ending) (w':World):Prop:=∃ v S' bl,e=.returned v∧Below w.heap.size w w'∧(∀ b i,S' b i→(S b i∨w.heap.size≤b)∧b<w'.heap.size)∧bl.Nodup∧cP S' w' w.heap.size v res bl
theorem dG.of_flat {S T:ae} {res:V} (hf:res.flat=true) {e:Ending} {w':World} (h:dG T w res e w'):dG S w res e w':=by
  obtain⟨v,S',bl,rfl,hbel,hS',hnd,hres⟩:=h;exact⟨v,fun b i=>S' b i∧w.heap.size≤b,bl,rfl,hbel,fun b i hs=>⟨.inr hs.2,(hS' b i hs.1).2⟩,hnd,vK (fun _ _ hs=>hs.1) hf hres⟩
theorem dG.of_byt {S T:ae} {res:V} (hf:res.byt=true) (hlt:∀ b i,T b i→b<w.heap.size) (hT:∀ b i,T b i→S b i∨∀ n,w.cell? ⟨b,i,none⟩≠some (.int .u8 n)) {e:Ending} {w':World} (h:dG T w res e w'):dG S w res e w':=by
  obtain⟨v,S',bl,rfl,hbel,hS',hnd,hres⟩:=h;refine⟨v,fun b i=>S' b i∧(S b i∨w.heap.size≤b),bl,rfl,hbel,fun b i hs=>⟨hs.2,(hS' b i hs.1).2⟩,hnd,wF (fun _ _ hs=>hs.1) (fun b i n hs hc=>⟨hs,?_⟩) hf hres⟩;rcases (hS' b i hs).1 with ht | hge
  ·rcases hT b i ht with h1 | h1
   ·exact .inl h1
   ·exact absurd ((hbel.cell (p:=⟨b,i,none⟩) (hlt b i ht)).symm.trans hc) (h1 n)
  ·exact .inr hge
theorem lE {f:FuncId} {args:List Value} (hrun:(execOp a.eval o).run P w=.ok (.enter f args.toArray) w) (own:Option (Nat×Nat))
    (h:Inv G N Sin w0 σ a w S m) (hd:∀ t,o.dst=some t→t<N∧w0.fx t=none) {res:V} (hc:Calls P f args.toArray w (dG S w res)) {r:R} (hr:br σ.h σ.u (o.dst.getD 0) own res=some r) (hK:K (σ.put o.dst r)):o.wp P a w (Nx G N Sin w0 K) Q:=by
  unfold Oper.wp;rw[hrun]
  show Calls P f args.toArray w _
  refine hc.mono ?_;rintro e w' ⟨v,S',bl,rfl,hbel,hS',hnd,hres⟩;exact xn h hd hbel hS' hnd hres hr hK
theorem pb (h:Inv G N Sin w0 σ a w S m) {xs:List Operand} {ys:List SX} {ds:List D} (hxs:ar ai xs=some ys) (h1:a8 σ.h (ys.map (ev G σ.f))=some ds) {res:V} (h3:dI σ.h (ys.map (ev G σ.f)) res) :
    ∃ T:ae,(∀ b i,T b i→b<w.heap.size)∧dr G T w∧ab (fun v x=>RW (fun _=>none) T w v (.c (.d x))) (xs.map a.eval) ds∧∀ (f:FuncId) (vs:List Value),Calls P f vs.toArray w (dG T w res)→Calls P f vs.toArray w (dG S w res):=by
  by_cases hown:(ys.map (ev G σ.f)).any V.hasOwn=true
  ·rcases h3 hown with hf | ⟨hb,ds',h1',h4⟩
   ·refine⟨dN σ.h m S,fun b i hs=>?_,h.glob.step (aw.refl _ _) fun _ _ hs=>.inl hs,o9 h hxs h1,fun f vs hc=>hc.mono fun _ _ hp=>hp.of_flat hf⟩;rcases hs with hs | ⟨id,ob,s,ho,hm⟩
    ·exact (h.sin b i hs).1
    ·exact (h.obj id ob ho).1.lt hm
   ·rw[h1,yY] at h1';subst h1';refine⟨ec σ.h m S w,ec.lt h,h.glob.step (aw.refl _ _) fun _ _ hs=>.inl hs,mO h hxs h1 h4,fun f vs hc=>hc.mono fun _ _ hp=>hp.of_byt hb (ec.lt h) fun b i ht=>?_⟩;rcases ht with ht | ⟨_,ht⟩
    ·exact .inl ht
    ·exact .inr ht
  ·exact⟨S,fun b i hs=>(h.sin b i hs).1,h.glob,jd h hxs h1 (by simpa using hown),fun f vs hc=>hc⟩
theorem mR (h:Inv G N Sin w0 σ a w S m):∀ {xs:List Operand} {ys:List SX} {ws:List W},ar ai xs=some ys→ys.map (ev G σ.f)=ws.map V.w→(∀ x∈ws,x.isPure=true)→ab (fun v x=>RW (fun _=>none) S w v x) (xs.map a.eval) ws
  | [],ys,ws,h1,h2,_=>by
    simp only[ar,yY] at h1;subst h1;cases ws with
    | nil=>exact .nil
    | cons x r=>cases h2
  | x::xs,ys,ws,h1,h2,h3=>by
    simp only[ar] at h1;split at h1
    ·rename_i y ys' hx hxs;cases h1;cases ws with
     | nil=>cases h2
     | cons z r =>
       simp only[y5,List.cons.injEq] at h2;refine .cons ?_ (mR h hxs h2.2 fun x hx=>h3 x (y9 _ hx));have hv:=(h.operand hx).1;rw[h2.1] at hv;have hp:=h3 z zh;refine RW.congr (m:=m) hv fun i hi=>?_
       cases z with
       | c c=>cases c <;> first | (simp[W.isPure,C.isPure] at hp; done) | cases hi
       | mix cs=>simp[W.isPure] at hp
    ·cases h1
theorem tn (l:Array Operand):l.map a.eval=(l.toList.map a.eval).toArray:=by apply Array.ext'; simp
theorem wG {f : FuncId} {fn : Func} (hf : P.funcs[f]? = some fn) (hb : fn.body.isSome = true) (hn : (fn.name == "runtime.NumGoroutine") = false) (hne : f ≠ cB) (c : Call) (ho : o.op = .call c) (hc : c.callee = .value (.func f)) {xs : List SX} (hxs : ar ai c.args.toList = some xs) (own : Option (Nat × Nat))
    (h:Inv G N Sin w0 σ a w S m) (hd:∀ t,o.dst=some t→t<N∧w0.fx t=none) {res:V} (h2:dH P G σ.h f (xs.map (ev G σ.f)) res) (h3:dI σ.h (xs.map (ev G σ.f)) res) {r:R} (hr:br σ.h σ.u (o.dst.getD 0) own res=some r) (hK:K (σ.put o.dst r)):o.wp P a w (Nx G N Sin w0 K) Q:=by
  refine lE (f:=f) (args:=c.args.toList.map a.eval) (by rw[lD hf hb hn c ho hc,tn]) own h hd (res:=res) ?_ hr hK;rcases h2 with ⟨_,ds,h1,h2⟩ | ⟨e,_⟩ | ⟨_,ws,h1,h4,h2⟩
  ·obtain⟨T,t1,t2,t3,t4⟩:=pb (P:=P) h hxs h1 h3;exact t4 _ _ (h2 w T _ t1 t2 t3)
  ·exact absurd e hne
  ·exact h2 w S _ (fun b i hs=>(h.sin b i hs).1) h.glob (mR h hxs h1 h4)
theorem vN {x:Operand} {g:FuncId} {caps:List Value} (he:∀ (args:Array Value) (w:World),(callFunc g args).run P w=.ok (.enter g args) w) (c:Call) (ho:o.op=.call c) (hc:c.callee=.value x) (hx:a.eval x=.func (.func g) #[] caps.toArray):(execOp a.eval o).run P w=.ok (.enter g (c.args.toList.map a.eval++caps).toArray) w:=by
  obtain⟨dst,op,type,pos,after,guard⟩:=o;obtain⟨callee,args,argTypes⟩:=c;simp only at ho hc;subst ho hc;have e1:execOp a.eval { dst,op:=.call { callee:=.value x,args,argTypes },type,pos,after,guard }=(do let d ← Deferred.ofValue (a.eval x) (args.map a.eval); invoke d.target d.args):=rfl;have e2:args.map a.eval++caps.toArray=(args.toList.map a.eval++caps).toArray:=by apply Array.ext'; simp
  rw[e1,hx]
  show (callFunc g (#[]++args.map a.eval++caps.toArray)).run P w=_
  rw[he,Array.empty_append,e2]
theorem vO {x:Operand} (c:Call) (ho:o.op=.call c) (hc:c.callee=.value x) {xs:List SX} (hxs:ar ai (x::c.args.toList)=some xs) (own:Option (Nat×Nat))
    (h:Inv G N Sin w0 σ a w S m) (hd:∀ t,o.dst=some t→t<N∧w0.fx t=none) {res:V} (h2:dH P G σ.h cB (xs.map (ev G σ.f)) res) (h3:dI σ.h (xs.map (ev G σ.f)) res) {r:R} (hr:br σ.h σ.u (o.dst.getD 0) own res=some r) (hK:K (σ.put o.dst r)):o.wp P a w (Nx G N Sin w0 K) Q:=by
  rcases h2 with ⟨e,_⟩ | ⟨_,g,caps,ds,h1,he,h2⟩ | ⟨e,_⟩
  ·exact absurd rfl e
  ·obtain⟨T,t1,t2,t3,t4⟩:=pb (P:=P) h hxs h1 h3;rw[y5] at t3;cases t3 with
   | cons k1 k2 =>
     have k1':Reads T w (a.eval x) (.fn g caps):=k1;obtain⟨us,hx,hu⟩:∃ us:List Value,a.eval x=.func (.func g) #[] us.toArray∧ab (fun v x=>RW (fun _=>none) T w v (.c (.d x))) us caps:=by
       generalize a.eval x=v0 at k1';cases k1' with
       | fn _ vs _ u hl hv hr =>
         refine⟨vs,rfl,.mk hl fun i i1 i2=>?_⟩;have hi:=hv i i1;rw[yZ i1,yY] at hi;have:=hr i i2;rw[← hi] at this;exact this.rw
     exact lE (vN he c ho hc hx) own h hd (t4 _ _ (h2 w T _ t1 t2 (k2.append hu))) hr hK
  ·exact absurd rfl e
theorem je (h:Inv G N Sin w0 σ a w S m):∀ {xs:List Operand} {ys:List SX} {ws:List W},ar ai xs=some ys→ys.map (ev G σ.f)=ws.map V.w→ab (fun v x=>RW m S w v x) (xs.map a.eval) ws
  | [],ys,ws,h1,h2=>by
    simp only[ar,yY] at h1;subst h1;cases ws with
    | nil=>exact .nil
    | cons x r=>cases h2
  | x::xs,ys,ws,h1,h2=>by
    simp only[ar] at h1;split at h1
    ·rename_i y ys' hx hxs;cases h1;cases ws with
     | nil=>cases h2
     | cons z r =>
       simp only[y5,List.cons.injEq] at h2;refine .cons ?_ (je h hxs h2.2);have hv:=(h.operand hx).1;rw[h2.1] at hv;exact hv
    ·cases h1
theorem kX {f:FuncId} {args:List Value} (hrun:(execOp a.eval o).run P w=.ok (.enter f args.toArray) w) (h:Inv G N Sin w0 σ a w S m) (hd:∀ t,o.dst=some t→t<N∧w0.fx t=none) {xs:List W} (hvs:ab (fun v x=>RW m S w v x) args xs) {r:R} (hr:dV P G σ.h σ.u f xs r) (hK:K (σ.put o.dst r)):o.wp P a w (Nx G N Sin w0 K) Q:=by
  unfold Oper.wp;rw[hrun]
  show Calls P f args.toArray w _
  refine (x7 h hd hvs hr hK).mono ?_;rintro e w' ⟨v,rfl,hn⟩;exact hn
theorem u4 {x:Operand} {g:FuncId} {fst caps:List Value} (he:∀ (args:Array Value) (w:World),(callFunc g args).run P w=.ok (.enter g args) w) (c:Call) (ho:o.op=.call c) (hc:c.callee=.value x) (hx:a.eval x=.func (.func g) fst.toArray caps.toArray):(execOp a.eval o).run P w=.ok (.enter g (fst++c.args.toList.map a.eval++caps).toArray) w:=by
  obtain⟨dst,op,type,pos,after,guard⟩:=o;obtain⟨callee,args,argTypes⟩:=c;simp only at ho hc;subst ho hc;have e1:execOp a.eval { dst,op:=.call { callee:=.value x,args,argTypes },type,pos,after,guard }=(do let d ← Deferred.ofValue (a.eval x) (args.map a.eval); invoke d.target d.args):=rfl;have e2:fst.toArray++args.map a.eval++caps.toArray=(fst++args.toList.map a.eval++caps).toArray:=by apply Array.ext'; simp
  rw[e1,hx]
  show (callFunc g (fst.toArray++args.map a.eval++caps.toArray)).run P w=_
  rw[he,e2]
theorem vP {f : FuncId} {fn : Func} (hf : P.funcs[f]? = some fn) (hb : fn.body.isSome = true) (hn : (fn.name == "runtime.NumGoroutine") = false) (hne : f ≠ cB) (c : Call) (ho : o.op = .call c) (hc : c.callee = .value (.func f)) {xs : List SX} (hxs : ar ai c.args.toList = some xs)
    (h:Inv G N Sin w0 σ a w S m) (hd:∀ t,o.dst=some t→t<N∧w0.fx t=none) {r:R} (h2:cN P G σ.h σ.u f (xs.map (ev G σ.f)) r) (hK:K (σ.put o.dst r)):o.wp P a w (Nx G N Sin w0 K) Q:=by
  rcases h2 with ⟨_,ws,h1,h2⟩ | ⟨e,_⟩
  ·exact kX (args:=c.args.toList.map a.eval) (by rw[lD hf hb hn c ho hc,tn]) h hd (je h hxs h1) h2 hK
  ·exact absurd e hne
theorem rx {vs:List Value} {cs:List Cp} (h:ab (bJ m S w) vs cs):ab (fun v x=>RW m S w v x) vs (cs.map Cp.w):=by
  induction h with
  | nil=>exact .nil
  | cons h1 _ ih =>
    refine .cons ?_ ih;rename_i v c _ _ _;cases c with
    | d x=>exact RW.congr (Reads.rw (m:=m) h1) (fun i hi=>rfl)
    | p id sz i o=>exact h1
theorem u5 {x:Operand} (c:Call) (ho:o.op=.call c) (hc:c.callee=.value x) {xs:List SX} (hxs:ar ai (x::c.args.toList)=some xs)
    (h:Inv G N Sin w0 σ a w S m) (hd:∀ t,o.dst=some t→t<N∧w0.fx t=none) {r:R} (h2:cN P G σ.h σ.u cB (xs.map (ev G σ.f)) r) (hK:K (σ.put o.dst r)):o.wp P a w (Nx G N Sin w0 K) Q:=by
  rcases h2 with ⟨e,_⟩ | ⟨_,g,pre,post,ws,h1,he,h2⟩
  ·exact absurd rfl e
  ·have h3:=je (ws:=.c (.cf g pre post)::ws) h hxs (by rw[h1]; rfl);rw[y5] at h3;cases h3 with
   | cons k1 k2 =>
     obtain⟨us,vs,hx,q1,q2⟩:∃ us vs:List Value,a.eval x=.func (.func g) us.toArray vs.toArray∧ab (bJ m S w) us pre∧ab (bJ m S w) vs post:=k1
     exact kX (u4 he c ho hc hx) h hd (((rx q1).append k2).append (rx q2)) h2 hK
theorem lF {ρ:SX→V} {h:ah} {u:Nat→Bool} {dst:Nat} {J:R→Prop} {f:FuncId} {xs:List SX} (hw:dl P G (.callM f xs) ρ h u dst J):∃ r,cN P G h u f ((bH xs).map ρ) r∧J r:=by
  obtain⟨r,⟨h1,_⟩,h2⟩:=hw;exact⟨r,h1,h2⟩
theorem dc {s:ao} {ρ:SX→V} {h:ah} {u:Nat→Bool} {dst:Nat} {J:R→Prop} (hs:∀ f xs own,s≠.call f xs own) (hw:dl P G s ρ h u dst J) (hs2:∀ f xs,s≠.callM f xs:=by first | (intro _ _ e; cases e; done) | (intro _ _ e; split at e <;> cases e)):∃ r,ef ρ h u dst s=some r∧J r:=by
  unfold dl at hw;split at hw
  ·exact absurd rfl (hs _ _ _)
  ·exact absurd rfl (hs2 _ _)
  ·split at hw
   ·rename_i r hr; exact⟨r,hr,hw⟩
   ·exact hw.elim
theorem mS {ρ:SX→V} {h:ah} {u:Nat→Bool} {dst:Nat} {J:R→Prop} {f:FuncId} {xs:List SX} {own:Option (Nat×Nat)} (hw:dl P G (.call f xs own) ρ h u dst J):∃ res r,dH P G h f (xs.map ρ) res∧dI h (xs.map ρ) res∧br h u dst own res=some r∧J r:=by
  unfold dl at hw;obtain⟨res,h2,h3,_,h4⟩:=hw;split at h4
  ·rename_i r hr; exact⟨res,r,h2,h3,hr,h4⟩
  ·exact h4.elim
theorem u6 {H:Hint} {c:Call} {so:ao} (ho:o.op=.call c) (h:Inv G N Sin w0 σ a w S m) (hd:∀ t,o.dst=some t→t<N∧w0.fx t=none) (hc:i8 P H o c=some so)
    (hw:dl P G so (ev G σ.f) σ.h σ.u (o.dst.getD 0) (fun r=>K (σ.put o.dst r))):o.wp P a w (Nx G N Sin w0 K) Q:=by
  unfold i8 at hc;split at hc
  ·
   rename_i f hcal;split at hc
   ·rename_i fn xs own hf hxs hown;split at hc
    ·rename_i hbn;split at hc
     ·split at hc
      ·cases hc
      ·rename_i hu;cases hc;obtain⟨r,h2,h5⟩:=lF hw;rw[rr (by simpa using hu)] at h2;exact vP hf hbn.1 hbn.2.1 hbn.2.2 c ho hcal hxs h hd h2 h5
     ·cases hc;obtain⟨res,r,h2,h3,h4,h5⟩:=mS hw;exact wG hf hbn.1 hbn.2.1 hbn.2.2 c ho hcal hxs own h hd h2 h3 h4 h5
    ·cases hc
   ·cases hc
  ·
   rename_i x _ hcal;split at hc
   ·rename_i xs own hxs hown;split at hc
    ·split at hc
     ·cases hc
     ·rename_i hu;cases hc;obtain⟨r,h2,h5⟩:=lF hw;rw[rr (by simpa using hu)] at h2;exact u5 c ho hcal hxs h hd h2 h5
    ·cases hc;obtain⟨res,r,h2,h3,h4,h5⟩:=mS hw;exact vO c ho hcal hxs own h hd h2 h3 h4 h5
   ·cases hc
  ·
   rename_i hcal;split at hc
   ·rename_i t x hts hargs;split at hc
    ·rename_i x0 e x' ht hx;cases hc;obtain⟨r,hr,hK⟩:=dc (by intro _ _ _ e; cases e) hw;simp only[ef,yX] at hr;obtain⟨n,hn,rfl⟩:=hr;exact xc t _ ht x x' c ho hcal hts hargs hx h hd hn hK
    ·rename_i x0 x' ht hx;cases hc;obtain⟨r,hr,hK⟩:=dc (by intro _ _ _ e; cases e) hw;simp only[ef] at hr;split at hr
     ·rename_i s hs;cases hr;exact uV t ht x x' c ho hcal hts hargs hx h hd hs hK
     ·cases hr
    ·rename_i x0 n e ht;cases hc;obtain⟨r,hr,hK⟩:=dc (by intro _ _ _ e; cases e) hw;simp only[ef,yY] at hr;subst hr;exact uU t n e ht x c ho hcal hts hargs h hd hK
    ·cases hc
   ·cases hc
  ·
   rename_i hcal;split at hc
   ·rename_i t u x y hts hargs;split at hc
    ·rename_i e s b z x' y' ht hx hy;split at hc
     ·rename_i e' hu;split at hc
      ·rename_i he;subst he;cases hc;obtain⟨r,hr,hK⟩:=dc (by intro _ _ _ e; split at e <;> cases e) hw;refine o6 t _ u ht (str:=false) (.inl ⟨rfl,hu⟩) x y x' y' c ho hcal hts hargs hx hy h hd (r:=r) ?_ hK;split at hr
       ·exact o7 hr
       ·exact hr
      ·cases hc
     ·rename_i hu;split at hc
      ·rename_i hs;cases hc;obtain⟨r,hr,hK⟩:=dc (by intro _ _ _ e; split at e <;> cases e) hw;refine o6 t _ u ht (str:=true) (.inr ⟨rfl,hu,hs⟩) x y x' y' c ho hcal hts hargs hx hy h hd (r:=r) ?_ hK;split at hr
       ·exact o7 hr
       ·exact hr
      ·cases hc
     ·cases hc
    ·cases hc
   ·cases hc
  ·
   rename_i hcal;split at hc
   ·rename_i t u x y hts hargs;split at hc
    ·rename_i e s b z x' y' ht hx hy;split at hc
     ·rename_i e' hu;split at hc
      ·rename_i he;subst he;cases hc;obtain⟨r,hr,hK⟩:=dc (by intro _ _ _ e; cases e) hw;exact ww t _ u ht hu x y x' y' c ho hcal hts hargs hx hy h hd hr hK
      ·cases hc
     ·cases hc
    ·cases hc
   ·cases hc
  ·rename_i hcal;simp only[yX] at hc;obtain⟨ys,hys,rfl⟩:=hc;obtain⟨r,hr,hK⟩:=dc (by intro _ _ _ e; cases e) hw;exact kW false c ho hcal hys h hd hr hK
  ·rename_i hcal;simp only[yX] at hc;obtain⟨ys,hys,rfl⟩:=hc;obtain⟨r,hr,hK⟩:=dc (by intro _ _ _ e; cases e) hw;exact kW true c ho hcal hys h hd hr hK
  ·cases hc
theorem kY {x:Option Operand} {y:Option SX} (h:cd x=some y):(x=none∧y=none)∨∃ u v,x=some u∧y=some v∧ai u=some v:=by
  unfold cd at h;cases x with
  | none=>cases h; exact .inl ⟨rfl,rfl⟩
  | some u =>
    simp only[yX] at h;obtain⟨v,h1,rfl⟩:=h;exact .inr ⟨u,v,rfl,rfl,h1⟩
theorem placesOf {fs:List Field} (h:fs.all (fun f=>(P.info? f.type).isSome)=true):∃ pl:List (Nat×Nat),fs.mapM (fun f=>(P.info? f.type).map fun i=>(f.offset,i.size))=some pl∧∀ (i:Nat) (f:Field) (j:TypeInfo),fs[i]?=some f→P.info? f.type=some j→pl[i]?=some (f.offset,j.size):=by
  induction fs with
  | nil=>exact⟨[],rfl,fun i f j h=>by simp at h⟩
  | cons f r ih =>
    simp only[List.all_cons,zi] at h;obtain⟨pl,h1,h2⟩:=ih h.2;obtain⟨i0,hi0⟩:=zV.1 h.1;refine⟨(f.offset,i0.size)::pl,by simp[List.mapM_cons,hi0,h1],fun i g j hg hj=>?_⟩;cases i with
    | zero =>
      simp only[zB,yY] at hg;subst hg;rw[hi0] at hj;cases hj;rfl
    | succ i =>
      simp only[zn] at hg
      simpa using h2 i g j hg hj
theorem pc {v:Value} {x:V} {d:D} (h:RV m S w v x) (e:eK x=some d):Reads S w v d:=by
  unfold eK at e;split at e
  ·cases e;obtain⟨a,rfl,h2⟩:∃ a,v=.pointer (some a)∧bn S w a _:=h
   exact Reads.of_cells h2
  ·split at e
   ·cases e
   ·cases e;rename_i hx;cases d <;> first | exact h | exact (hx _ rfl).elim
  ·cases e
theorem mT (h:Inv G N Sin w0 σ a w S m):∀ {l:List Operand} {xs:List SX} {ds:List D},ar ai l=some xs→bN (xs.map (ev G σ.f))=some ds→ab (Reads S w) (l.map a.eval) ds
  | [],xs,ds,h1,h2=>by
    simp only[ar,yY] at h1;subst h1;simp only[zX,bN,yY] at h2;subst h2;exact .nil
  | x::l,xs,ds,h1,h2=>by
    simp only[ar] at h1;split at h1
    ·rename_i y ys hy hys;cases h1;simp only[y5,bN] at h2;split at h2
     ·rename_i d ds' hd hds;cases h2;exact .cons (pc (h.operand hy).1 hd) (mT h hys hds)
     ·cases h2
    ·cases h1
theorem wH (f:Nat) {vs:List Value} {ds:List D} (h:ab (Reads S w) vs ds):Reads S w (.func (.func f) #[] vs.toArray) (.fn f ds):=by
  have hl:=h.length;refine .fn f vs ds (fun j=>vs.getD j undef) hl (fun j hj=>?_) (fun j hj=>?_)
  ·rw[zu,yZ hj]; rfl
  ·have:=h.get j (by omega) hj;rw[zu,yZ (by omega:j<vs.length)];exact this
theorem uH {v:Value} {f:Nat} {ds:List D} (h:Reads S w v (.fn f ds)):∃ vs:List Value,v=.func (.func f) #[] vs.toArray∧ab (Reads S w) vs ds:=by
  cases h with
  | fn f vs caps u hl hv hr =>
    refine⟨vs,rfl,.mk hl fun i h1 h2=>?_⟩;have:=hv i h1;rw[yZ h1,yY] at this;rw[this];exact hr i h2
theorem jf (h:Inv G N Sin w0 σ a w S m):∀ {l:List Operand} {xs:List SX} {cs:List Cp},ar ai l=some xs→d6 (xs.map (ev G σ.f))=some cs→ab (bJ m S w) (l.map a.eval) cs∧∀ i∈cs.flatMap Cp.ids,σ.u i=true
  | [],xs,cs,h1,h2=>by
    simp only[ar,yY] at h1;subst h1;simp only[zX,d6,yY] at h2;subst h2;exact⟨.nil,fun i hi=>by cases hi⟩
  | x::l,xs,cs,h1,h2=>by
    simp only[ar] at h1;split at h1
    ·rename_i y ys hy hys;cases h1;simp only[y5,d6] at h2;split at h2
     ·rename_i d cs' hd hcs;cases h2;have hv:=h.operand hy;have ih:=jf h hys hcs;have one:bJ m S w (a.eval x) d∧∀ i∈d.ids,σ.u i=true:=by
        unfold tR at hd;split at hd
        ·rename_i id sz i o e;cases hd;rw[e] at hv;exact⟨hv.1,fun j hj=>hv.2 j hj⟩
        ·simp only[yX] at hd;obtain⟨d',hd',rfl⟩:=hd;exact⟨pc hv.1 hd',fun i hi=>by cases hi⟩
      refine⟨.cons one.1 ih.1,fun i hi=>?_⟩;rw[y4] at hi;exact (ze.1 hi).elim (one.2 i) (ih.2 i)
     ·cases h2
    ·cases h1
theorem vQ (f:Nat) (fs cs:Array Operand) (xs ys:List SX) (ho:o.op=.makeFunc (.func f) fs cs) (hxs:ar ai fs.toList=some xs) (hys:ar ai cs.toList=some ys) (h:Inv G N Sin w0 σ a w S m) (hd:∀ t,o.dst=some t→t<N∧w0.fx t=none)
    {pre post:List Cp} (h1:d6 (xs.map (ev G σ.f))=some pre) (h2:d6 (ys.map (ev G σ.f))=some post) (hK:K (σ.put o.dst (.w (.c (.cf f pre post)),σ.h,σ.u))):o.wp P a w (Nx G N Sin w0 K) Q:=by
  have k1:=jf h hxs h1;have k2:=jf h hys h2;refine bd (x:=.w (.c (.cf f pre post))) (v:=.func (.func f) (fs.map a.eval) (cs.map a.eval)) h hd ?_ ?_ ?_ hK
  ·simp only[execOp,ho];exact aL (s:=Instr.makeFunc (.func f) (fs.map a.eval) (cs.map a.eval)) (Sem.run_pure _ _ _)
  ·have e1:fs.map a.eval=(fs.toList.map a.eval).toArray:=by rw[← Array.toList_map,zL]
   have e2:cs.map a.eval=(cs.toList.map a.eval).toArray:=by rw[← Array.toList_map,zL]
   rw[e1,e2];exact⟨_,_,rfl,k1.1,k2.1⟩
  ·intro i hi;rcases ze.1 (show i∈pre.flatMap Cp.ids++post.flatMap Cp.ids from hi) with hi | hi
   ·exact k1.2 i hi
   ·exact k2.2 i hi
theorem wI (f:Nat) (fs cs:Array Operand) (xs:List SX) (hfs:fs=#[]) (ho:o.op=.makeFunc (.func f) fs cs) (hxs:ar ai cs.toList=some xs) (h:Inv G N Sin w0 σ a w S m) (hd:∀ t,o.dst=some t→t<N∧w0.fx t=none)
    {ds:List D} (hds:bN (xs.map (ev G σ.f))=some ds) (hK:K (σ.put o.dst (vd (.fn f ds),σ.h,σ.u))):o.wp P a w (Nx G N Sin w0 K) Q:=by
  have hv:=wH f (mT h hxs hds);refine bV h hd (v:=.func (.func f) #[] (cs.map a.eval)) ?_ ?_ hK
  ·subst hfs;simp only[execOp,ho];exact aL (s:=Instr.makeFunc (.func f) (#[].map a.eval) (cs.map a.eval)) (by simp only[Instr.makeFunc,Array.map_empty]; exact Sem.run_pure _ _ _)
  ·have e:cs.map a.eval=(cs.toList.map a.eval).toArray:=by rw[← Array.toList_map,zL]
   rw[e]; exact hv
section
open Go.MapKept (IsKey run_checkKey run_findKey)
def eH (q:IntKind) (E:Array MapEntry) (es:List (Int×Value)):Prop:=ab (fun e p=>e.key=.int q p.1∧e.val=p.2) E.toList es
theorem eH.nil (q:IntKind):eH q #[] []:=ab.nil
theorem iH {q:IntKind} {x:Int}:∀ {E:List MapEntry} {es:List (Int×Value)} (i:Nat),ab (fun e p=>e.key=.int q p.1∧e.val=p.2) E es →
    (aV es x=none∧Instr.findNow (.int q) (.int q x) E i=some none∧cA es x=fun v=>es++[(x,v)]) ∨
    ∃ j e v,aV es x=some v∧Instr.findNow (.int q) (.int q x) E i=some (some (i+j,v))∧E[j]?=some e∧e.key=.int q x∧∀ v',ab (fun e p=>e.key=.int q p.1∧e.val=p.2) (E.modify j fun e=>{ e with key:=.int q x,val:=v' }) (cA es x v')
  | _,_,i,.nil=>.inl ⟨rfl,rfl,rfl⟩
  | e::E,p::es,i,.cons ⟨h1,h2⟩ h=>by
    obtain⟨y,u⟩:=p;by_cases hy:y=x
    ·subst hy;refine .inr ⟨0,e,u,by simp[aV],?_,rfl,h1,fun v'=>?_⟩
     ·simp only[Instr.findNow,Instr.sameNow,h1];simp[h2]
     ·simp only[cA,if_pos rfl,List.modify_zero_cons];exact .cons ⟨rfl,rfl⟩ h
    ·have hne:(x==y)=false:=by simpa using fun e=>hy e.symm
     rcases iH (i+1) h with ⟨a,b,c⟩ | ⟨j,e',v,a,b,c,d,g⟩
     ·refine .inl ⟨?_,?_,?_⟩
      ·unfold aV at *
       rw[List.find?_cons_of_neg (by simpa using hy)]; exact a
      ·simp only[Instr.findNow,Instr.sameNow,h1];simp[hne,b]
      ·funext v
       simp only[cA,if_neg hy,c,zS]
     ·refine .inr ⟨j+1,e',v,?_,?_,by simpa using c,d,fun v'=>?_⟩
      ·unfold aV at *
       rw[List.find?_cons_of_neg (by simpa using hy)]; exact a
      ·simp only[Instr.findNow,Instr.sameNow,h1];simp[hne,b]; omega
      ·simp only[cA,if_neg hy,List.modify_succ_cons];exact .cons ⟨h1,h2⟩ (g v')
theorem iZ (q:IntKind) (x:Int):IsKey (.int q) (.int q x):=by simp[IsKey]
theorem lG {w:World} {T kt et:TypeId} {q:IntKind} {z:Value} {b:Nat} {E:Array MapEntry} {clock:Nat} {es:List (Int×Value)} (hT:P.underlying T=some (.map kt et)) (hk:P.underlying kt=some (.int q)) (hz:(zeroValue et).run P w=.ok z w)
    (hb:w.heap[b]?=some (.map E clock)) (hE:eH q E es) (x:Int) (c:Bool) :
    (Instr.lookup T (.map (some b)) (.int q x) c).run P w=.ok (if c then .tuple #[(aV es x).getD z,.bool (aV es x).isSome] else (aV es x).getD z) w:=by
  have hck:(Instr.checkKey E.isEmpty 10000 kt (.int q x)).run P w=.ok () w:=run_checkKey hk (iZ q x) _ 9999;rcases iH (x:=x) 0 hE with ⟨a,f,_⟩ | ⟨j,e,v,a,f,_⟩
  ·have hf:=run_findKey (w:=w) hk f;simp[Instr.lookup,run_underlying hT,Result.andThen,Go.MapKept.run_getObj_map hb,hck,hf,hz,a]
  ·have hf:=run_findKey (w:=w) hk f;simp[Instr.lookup,run_underlying hT,Result.andThen,Go.MapKept.run_getObj_map hb,hck,hf,a]
theorem List.map_modify_born (k v:Value):∀ (l:List MapEntry) (j:Nat),(l.modify j fun e=>{ e with key:=k,val:=v }).map (·.born)=l.map (·.born)
  | [],_=>by simp
  | _::_,0=>by simp
  | _::l,j+1=>by rw[List.modify_succ_cons,y5,y5,List.map_modify_born k v l j]
theorem wJ {w:World} {T kt et:TypeId} {q:IntKind} {b:Nat} {E:Array MapEntry} {clock:Nat} {es:List (Int×Value)} (hT:P.underlying T=some (.map kt et)) (hk:P.underlying kt=some (.int q))
    (hb:w.heap[b]?=some (.map E clock)) (hE:eH q E es) (hBo:cc E clock) (x:Int) (v:Value) :
    ∃ E' clock',(Instr.mapUpdate T (.map (some b)) (.int q x) v).run P w=.ok () { w with heap:=w.heap.setIfInBounds b (.map E' clock') }∧eH q E' (cA es x v)∧cc E' clock':=by
  have hck:(Instr.checkKey false 10000 kt (.int q x)).run P w=.ok () w:=run_checkKey hk (iZ q x) _ 9999;rcases iH (x:=x) 0 hE with ⟨a,f,c⟩ | ⟨j,e,u,a,f,g,hkey,hput⟩
  ·have hf:=run_findKey (w:=w) hk f;refine⟨E.push { key:=.int q x,val:=v,born:=clock },clock+1,?_,?_,hBo.push _ _⟩
   ·simp[Instr.mapUpdate,run_underlying hT,Result.andThen,Go.MapKept.run_getObj_map hb,hck,hf,Go.MapKept.run_setObj_map _ hb]
   ·unfold eH;rw[c,Array.toList_push];exact hE.append (.cons ⟨rfl,rfl⟩ .nil)
  ·have hf:=run_findKey (w:=w) hk f;have hje:E[j]?=some e:=by simpa using g
   have hst:(Instr.keyThatStays (((E[j]?).map (·.key)).getD (.int q x)) (.int q x)).run P w=.ok (.int q x) w:=by
     rw[hje];simp[Instr.keyThatStays,hkey,Instr.sameBits]
   refine⟨E.modify j fun e=>{ e with key:=.int q x,val:=v },clock,?_,?_,hBo.same (by rw[Array.toList_modify,List.map_modify_born])⟩
   ·rw[Nat.zero_add] at hf;simp[Instr.mapUpdate,run_underlying hT,Result.andThen,Go.MapKept.run_getObj_map hb,hck,hf,hst,Go.MapKept.run_setObj_map _ hb]
   ·unfold eH;rw[Array.toList_modify];exact hput v
theorem ry {m m':Mp} {S:ae} {w:World} {v:Value} {d:D} (h:RW m S w v (.c (.d d))):RW m' S w v (.c (.d d)):=by
  cases d <;> exact h
theorem gA {γ:Type} {R:Value→γ→Prop} {q:IntKind}:∀ {E:List MapEntry} {es:List (Int×γ)},ab (fun (e:MapEntry) (p:Int×γ)=>e.key=.int q p.1∧R e.val p.2) E es →
    ∃ vs:List (Int×Value),ab (fun e p=>e.key=.int q p.1∧e.val=p.2) E vs∧ab (fun (p:Int×Value) (r:Int×γ)=>p.1=r.1∧R p.2 r.2) vs es
  | _,_,.nil=>⟨[],.nil,.nil⟩
  | e::_,p::_,.cons h r=>by
    obtain⟨vs,h1,h2⟩:=gA r;exact⟨(p.1,e.val)::vs,.cons ⟨h.1,rfl⟩ h1,.cons ⟨rfl,h.2⟩ h2⟩
theorem lH {γ:Type} {R:Value→γ→Prop} {q:IntKind}:∀ {E:List MapEntry} {vs:List (Int×Value)} {es:List (Int×γ)},ab (fun e p=>e.key=.int q p.1∧e.val=p.2) E vs →
    ab (fun (p:Int×Value) (r:Int×γ)=>p.1=r.1∧R p.2 r.2) vs es→ab (fun (e:MapEntry) (p:Int×γ)=>e.key=.int q p.1∧R e.val p.2) E es
  | _,_,_,.nil,.nil=>.nil
  | _,_,_,.cons h r,.cons k l=>.cons ⟨k.1 ▸ h.1,h.2 ▸ k.2⟩ (lH r l)
theorem ju {γ:Type} {R:Value→γ→Prop} (x:Int):∀ {vs:List (Int×Value)} {es:List (Int×γ)},ab (fun (p:Int×Value) (r:Int×γ)=>p.1=r.1∧R p.2 r.2) vs es →
    (aV vs x=none∧aV es x=none)∨∃ v d,aV vs x=some v∧aV es x=some d∧R v d∧∃ y,(y,d)∈es
  | _,_,.nil=>.inl ⟨rfl,rfl⟩
  | (y,v)::vs,(y',d)::es,.cons h r=>by
    obtain⟨h1,h2⟩:=h;simp only at h1 h2;subst h1;by_cases e:y=x
    ·subst e;exact .inr ⟨v,d,by simp[aV],by simp[aV],h2,y,zh ..⟩
    ·have k1:aV ((y,v)::vs) x=aV vs x:=by unfold aV; rw[List.find?_cons_of_neg (by simpa using e)]
     have k2:aV ((y,d)::es) x=aV es x:=by unfold aV; rw[List.find?_cons_of_neg (by simpa using e)]
     rw[k1,k2];rcases ju x r with k | ⟨v,d,k3,k4,k5,z,k6⟩
     ·exact .inl k
     ·exact .inr ⟨v,d,k3,k4,k5,z,y9 _ k6⟩
theorem mU {γ:Type} {R:Value→γ→Prop} (x:Int) {v:Value} {d:γ} (hv:R v d):∀ {vs:List (Int×Value)} {es:List (Int×γ)},ab (fun (p:Int×Value) (r:Int×γ)=>p.1=r.1∧R p.2 r.2) vs es →
    ab (fun (p:Int×Value) (r:Int×γ)=>p.1=r.1∧R p.2 r.2) (cA vs x v) (cA es x d)
  | _,_,.nil=>.cons ⟨rfl,hv⟩ .nil
  | (y,u)::vs,(y',c)::es,.cons h r=>by
    obtain⟨h1,h2⟩:=h;simp only at h1 h2;subst h1;simp only[cA];by_cases e:y=x
    ·rw[if_pos e,if_pos e];exact .cons ⟨rfl,hv⟩ r
    ·rw[if_neg e,if_neg e];exact .cons ⟨rfl,h2⟩ (mU x hv r)
theorem pd (n:Int) (c:C):∀ (es:List (Int×C)),∀ j∈(cA es n c).flatMap (fun p=>p.2.ids),j∈c.ids∨j∈es.flatMap (fun p=>p.2.ids)
  | [],j,h=>.inl (by simpa [cA] using h)
  | (y,u)::es,j,h=>by
    simp only[cA] at h;split at h
    ·rw[y4] at h ⊢;rcases ze.1 h with h | h
     ·exact .inl h
     ·exact .inr (y1 _ h)
    ·rw[y4] at h ⊢;rcases ze.1 h with h | h
     ·exact .inr (zb _ h)
     ·rcases pd n c es j h with h | h
      ·exact .inl h
      ·exact .inr (y1 _ h)
theorem x8 {e:TypeId} {d:D} (h:iy P e=some d):∃ zv,(∀ w:World,(zeroValue e).run P w=.ok zv w)∧(∀ (S:ae) (w:World),RW (fun _=>none) S w zv (.c (.d d)))∧(∀ (m:Mp) (S:ae) (w:World),RW m S w zv (.c (zC d)))∧(zC d).ids=[]:=by
  unfold iy at h;split at h
  ·rename_i i hi;split at h
   ·rename_i cs hz;split at h
    ·rename_i hcs;cases h;obtain rfl:cs=#[]:=Array.eq_empty_of_size_eq_zero hcs;exact⟨.agg #[],fun w=>by simp[zeroValue,typeInfo,hi,hz],fun S w=>⟨[],rfl,.nil⟩,fun m S w=>⟨[],rfl,.nil⟩,rfl⟩
    ·cases h
   ·rename_i z _ hz;refine⟨z,fun w=>by simp[zeroValue,typeInfo,hi,hz],fun S w=>(ep h).rw,fun m S w=>?_,by unfold zC; split <;> rfl⟩;unfold zC;split
    ·unfold dt at h;split at h <;> first | (cases h; done) | exact⟨_,rfl⟩
    ·exact (ep h).rw
   ·cases h
  ·cases h
theorem jv {t:TypeId} {q:IntKind} {z:D} (h:eb P t=some (q,z)):∃ k e,P.underlying t=some (.map k e)∧P.underlying k=some (.int q)∧iy P e=some z:=by
  unfold eb at h;split at h
  ·rename_i k e hu;split at h
   ·rename_i q' z' h1 h2;cases h;exact⟨k,e,hu,h1,h2⟩
   ·cases h
  ·cases h
theorem xp {x:V} {id:Nat} (h:ib x=some id):x=.w (.c (.mp id)):=by
  unfold ib at h;split at h
  ·cases h; rfl
  ·cases h
theorem xq {x:V} {d:C} (h:ic x=some d):x=.w (.c d):=by
  unfold ic at h;split at h
  ·cases h; rfl
  ·cases h
theorem wK (t:TypeId) {q:IntKind} {z:D} (ht:eb P t=some (q,z)) (r:Option Operand) (r':Option SX) (ho:o.op=.makeMap t r) (hr:cd r=some r') (h:Inv G N Sin w0 σ a w S m) (hd:∀ t,o.dst=some t→t<N∧w0.fx t=none)
    (hh:eG (ev G σ.f) r'=true) {p:R} (hp:a9 σ.h σ.u (o.dst.getD 0) (.mp q []) (.mp (8*o.dst.getD 0))=some p) (hK:K (σ.put o.dst p)):o.wp P a w (Nx G N Sin w0 K) Q:=by
  obtain⟨k,e,hu,_,_⟩:=jv ht;obtain⟨hfree,rfl⟩:=cT hp;have run:(execOp a.eval o).run P w=.ok (.value (.map (some w.heap.size))) (w.alloc (.map #[] 0)):=by
    simp only[execOp,ho];refine aL ?_;cases r with
    | none=>simp[Instr.makeMap,Result.andThen]
    | some r =>
      simp only[cd,yX] at hr;obtain⟨x,hx,rfl⟩:=hr;simp only[eG,zV] at hh;obtain⟨⟨k',n⟩,hn⟩:=hh;have:=db (h.operand hx).1 hn;simp[Instr.makeMap,run_underlying hu,this,asInt,asIntOf,Result.andThen]
  refine bd (x:=.w (.c (.mp (8*o.dst.getD 0)))) (h.newObj (.map #[] 0) (id:=8*o.dst.getD 0) (ob:=.mp q []) (sz:=1) (cur:=#[]) (ty:=t) (fz:=(0,0)) hfree rfl (dE _) trivial (fun j hj=>by cases hj) ⟨#[],0,heap_alloc_new w _,.nil,cc.nil⟩) hd run (RC.rw (S:=S) (w:=w.alloc (.map #[] 0)) (c:=.mp _) ⟨w.heap.size,by simp[upd],rfl⟩) (fun i hi=>?_) hK;have:i=8*o.dst.getD 0:=by simpa [V.ids,W.ids,C.ids] using hi
  simp[upd,this]
theorem xr {co:Bool} {x:Option C} {z:C} {v:Value} (h:RW m S w v (.c (x.getD z))):RV m S w (if co then .tuple #[v,.bool x.isSome] else v) (ft co x z)∧∀ j∈(ft co x z).ids,j∈(x.getD z).ids:=by
  unfold ft;cases co with
  | false=>exact⟨h,fun j hj=>hj⟩
  | true=>exact⟨⟨[_,_],rfl,.cons h (.cons (Reads.rw (.bool _)) .nil)⟩,fun j hj=>by simpa [V.ids,W.ids,C.ids] using hj⟩
theorem vR (t:TypeId) {q:IntKind} {z:D} (ht:eb P t=some (q,z)) (x i:Operand) (x' i':SX) (co:Bool) (ho:o.op=.lookup t x i co) (hx:ai x=some x') (hi:ai i=some i') (h:Inv G N Sin w0 σ a w S m) (hd:∀ t,o.dst=some t→t<N∧w0.fx t=none)
    {y:V} (hy:dL σ.h q z co (ev G σ.f x') (bQ (ev G σ.f i'))=some y) (hK:K (σ.put o.dst (y,σ.h,σ.u))):o.wp P a w (Nx G N Sin w0 K) Q:=by
  obtain⟨k,e,hu,hk,hz⟩:=jv ht;obtain⟨zv,hz1,hz2,hz3,hz4⟩:=x8 hz;have hvx:=(h.operand hx).1;have fin1:∀ (v:Value) (co:Bool) (r:Option C) (zc:C),(execOp a.eval o).run P w=.ok (.value (if co then .tuple #[v,.bool r.isSome] else v)) w→RW m S w v (.c (r.getD zc))→(∀ j∈(r.getD zc).ids,σ.u j=true)→y=ft co r zc→o.wp P a w (Nx G N Sin w0 K) Q:=by
    intro v co r zc run hv hids e;subst e;obtain⟨h1,h2⟩:=xr (co:=co) hv;exact bw h hd run h1 (fun j hj=>hids j (h2 j hj)) hK
  unfold dL at hy;split at hy
  ·rename_i id k' n h1 h2;have hvi:=db (h.operand hi).1 h2;split at hy
   ·rename_i q' es hob;split at hy
    ·rename_i hq;obtain⟨rfl,rfl⟩:=hq;cases hy;rw[h1] at hvx;obtain⟨b,hm,hval⟩:=hvx;have hobj:=(h.obj id _ hob).1;unfold aA at hobj;rw[hm] at hobj;obtain⟨_,_,_,cur,ty,fz,⟨E,clock,hb,hE,_⟩,_⟩:=hobj;obtain⟨vs,hvs,hvd⟩:=gA (R:=fun v c=>RW m S w v (.c c)) hE;have run:=lG (w:=w) hu hk (hz1 w) hb hvs n co;have res:RW m S w ((aV vs n).getD zv) (.c ((aV es n).getD (zC z)))∧(aV vs n).isSome=(aV es n).isSome∧∀ j∈((aV es n).getD (zC z)).ids,σ.u j=true:=by
       rcases ju (R:=fun v c=>RW m S w v (.c c)) n hvd with ⟨g1,g2⟩ | ⟨v,d,g1,g2,g3,y,g4⟩
       ·rw[g1,g2]; exact⟨hz3 m S w,rfl,fun j hj=>by rw[Option.getD_none,hz4] at hj; cases hj⟩
       ·rw[g1,g2]; exact⟨g3,rfl,fun j hj=>(h.obj id _ hob).2.2 j (y0.2 ⟨_,g4,hj⟩)⟩
     refine fin1 ((aV vs n).getD zv) co _ _ ?_ res.1 res.2.2 rfl;simp only[execOp,ho];rw[hval,hvi,← res.2.1];exact aL run
    ·cases hy
   ·cases hy
  ·rename_i q' es k' n h1 h2;have hvi:=db (h.operand hi).1 h2;split at hy
   ·rename_i hq;obtain⟨rfl,rfl⟩:=hq;cases hy;rw[h1] at hvx;have hvx:Reads S w (a.eval x) (.mp q' es):=hvx;rcases hvx.map_inv with ⟨hval,rfl⟩ | ⟨b,E,c,hval,hS,hb,hB,hE⟩
    ·refine fin1 zv co none (.d z) ?_ (ry (hz2 S w)) (fun j hj=>by cases hj) rfl;simp only[execOp,ho];rw[hval,hvi];have hck:(Instr.checkKey true 10000 k (.int q' n)).run P w=.ok () w:=run_checkKey hk (iZ q' n) _ 9999;have hf:=run_findKey (w:=w) hk (show Instr.findNow (.int q') (.int q' n) [] 0=some none from rfl);exact aL (by simp[Instr.lookup,run_underlying hu,Result.andThen,hck,hf,hz1 w])
    ·obtain⟨vs,hvs,hvd⟩:=gA (R:=fun v d=>Reads S w v d) hE;have run:=lG (w:=w) hu hk (hz1 w) hb hvs n co;have res:RW m S w ((aV vs n).getD zv) (.c (((aV es n).map C.d).getD (.d z)))∧(aV vs n).isSome=((aV es n).map C.d).isSome∧(((aV es n).map C.d).getD (.d z)).ids=[]:=by
       rcases ju (R:=fun v d=>Reads S w v d) n hvd with ⟨g1,g2⟩ | ⟨v,d,g1,g2,g3,_⟩
       ·rw[g1,g2]; exact⟨ry (hz2 S w),rfl,rfl⟩
       ·rw[g1,g2]; exact⟨g3.rw,rfl,rfl⟩
     refine fin1 ((aV vs n).getD zv) co _ _ ?_ res.1 (fun j hj=>by rw[res.2.2] at hj; cases hj) rfl;simp only[execOp,ho];rw[hval,hvi,← res.2.1];exact aL run
   ·cases hy
  ·cases hy
theorem vS (t:TypeId) {q:IntKind} {z:D} (ht:eb P t=some (q,z)) (x i y:Operand) (x' i' y':SX) (ho:o.op=.mapUpdate t x i y) (hdst:o.dst=none) (hx:ai x=some x') (hi:ai i=some i') (hy:ai y=some y') (h:Inv G N Sin w0 σ a w S m)
    {h':ah} (hs:jU σ.h q (ib (ev G σ.f x')) (bQ (ev G σ.f i')) (ic (ev G σ.f y'))=some h') (hK:K (σ.put o.dst (.undef,h',σ.u))):o.wp P a w (Nx G N Sin w0 K) Q:=by
  obtain⟨k,e,hu,hk,hz⟩:=jv ht;unfold jU at hs;split at hs
  ·rename_i id k' n d h1 h2 h3;split at hs
   ·rename_i q' es hob;split at hs
    ·rename_i hq;obtain⟨rfl,rfl⟩:=hq;cases hs;have hvx:=(h.operand hx).1;rw[xp h1] at hvx;obtain⟨b,hm,hval⟩:=hvx;have hvi:=db (h.operand hi).1 h2;have hvy:=h.operand hy;rw[xq h3] at hvy;obtain⟨hvy,hyi⟩:RW m S w (a.eval y) (.c d)∧∀ j∈d.ids,σ.u j=true:=hvy
     have hobj:=(h.obj id _ hob).1;unfold aA at hobj;rw[hm] at hobj;obtain⟨_,_,_,cur,ty,fz,⟨E,clock,hb,hE,hBo⟩,_⟩:=hobj;obtain⟨vs,hvs,hvd⟩:=gA (R:=fun v c=>RW m S w v (.c c)) hE;obtain⟨E',clock',run,hE',hBo'⟩:=wJ (w:=w) (clock:=clock) hu hk hb hvs hBo n (a.eval y);have hent:jG m S w _ E' (cA es n d):=lH (R:=fun v c=>RW m S w v (.c c)) hE' (mU (R:=fun v c=>RW m S w v (.c c)) n hvy hvd);have hI:=h.writeMp (clock':=clock') hob hm hb hent hBo' fun j hj=>(pd n d es j hj).elim (hyi j) ((h.obj id _ hob).2.2 j)
     refine rt (w':={ w with heap:=w.heap.setIfInBounds b (.map E' clock') }) ?_ ?_
     ·simp only[execOp,ho];rw[hval,hvi];simp[run]
     ·have:=hI.put o.dst (v:=undef) (x:=.undef) (by rw[hdst]; intro t ht; cases ht) trivial (fun i hi=>by cases hi);exact⟨_,S,m,hK,this⟩
    ·cases hs
   ·cases hs
  ·cases hs
theorem u7 (t:TypeId) {kt et:TypeId} (hu:P.underlying t=some (.map kt et)) (x:Operand) (x':SX) (ho:o.op=.range t x) (hx:ai x=some x') (h:Inv G N Sin w0 σ a w S m) (hd:∀ t,o.dst=some t→t<N∧w0.fx t=none)
    {q:IntKind} {es:List (Int×D)} (he:ev G σ.f x'=.w (.c (.d (.mp q es)))) {p:R} (hp:a9 σ.h σ.u (o.dst.getD 0) (.it q es none) (.ptr (8*o.dst.getD 0) 1 0 0)=some p) (hK:K (σ.put o.dst p)):o.wp P a w (Nx G N Sin w0 K) Q:=by
  obtain⟨hfree,rfl⟩:=cT hp;have hvx:=(h.operand hx).1;rw[he] at hvx;have hvx:Reads S w (a.eval x) (.mp q es):=hvx;have key:∀ (o2:Obj),(Instr.range t (a.eval x)).run P w=.ok (.pointer (some ⟨w.heap.size,0,none⟩)) (w.alloc o2)→(∀ cur ty fz,bC m S (w.alloc o2) w.heap.size cur ty fz (.it q es none))→o.wp P a w (Nx G N Sin w0 K) Q:=by
    intro o2 run hblk;refine bd (x:=.w (.c (.ptr (8*o.dst.getD 0) 1 0 0))) (h.newObj o2 (id:=8*o.dst.getD 0) (ob:=.it q es none) (sz:=1) (cur:=#[]) (ty:=t) (fz:=(0,0)) hfree rfl (dE _) trivial (fun j hj=>by cases hj) (hblk _ _ _)) hd (v:=.pointer (some ⟨w.heap.size,0,none⟩)) ?_ (RC.rw (S:=S) (w:=w.alloc o2) (c:=.ptr _ _ _ _) ⟨w.heap.size,by simp[upd],rfl⟩) (fun i hi=>?_) hK
    ·simp only[execOp,ho];exact aL run
    ·have:i=8*o.dst.getD 0:=by simpa [V.ids,W.ids,C.ids] using hi
     simp[upd,this]
  rcases hvx.map_inv with ⟨hval,rfl⟩ | ⟨b,E,c,hval,hS,hb,hB,hE⟩
  ·refine key (.mapIter none 0 #[] 0) ?_ fun _ _ _=>.inl ⟨heap_alloc_new w _,rfl,rfl⟩
   rw[hval];simp[Instr.range,run_underlying hu,Result.andThen]
  ·have hlt:b<w.heap.size:=(h.sin b 0 hS).1;have hold:(w.alloc (.mapIter (some b) c #[] c)).heap[b]?=some (.map E c):=(Below.heap_alloc w _ b hlt).trans hb;have kp:aw S w (w.alloc (.mapIter (some b) c #[] c)):=aw.alloc h _;refine key (.mapIter (some b) c #[] c) ?_ fun _ _ _=>.inr ⟨b,c,#[],heap_alloc_new w _,hS,E,hold,hB,?_,fun p hp=>by cases hp⟩
   ·rw[hval];simp[Instr.range,run_underlying hu,Result.andThen,Go.MapKept.run_getObj_map hb]
   ·have:dJ E #[]=E:=by unfold dJ; exact Array.filter_eq_self.2 fun e he=>by simp
    rw[this];exact hE.weak fun _ _ _ _ h=>⟨h.1,h.2.keep kp⟩
theorem vT (x:Operand) (x':SX) (ho:o.op=.entry x) (hx:ai x=some x') (h:Inv G N Sin w0 σ a w S m) (hd:∀ t,o.dst=some t→t<N∧w0.fx t=none)
    {id sz:Nat} (he:ev G σ.f x'=.w (.c (.ptr id sz 0 0))) {q:IntKind} {left:List (Int×D)} {p:Int×D} (hob:σ.h id=some (.it q left (some p))) (hK:K (σ.put o.dst (.tup [.c (.d (.int q p.1)),.c (.d p.2)],σ.h,σ.u))):o.wp P a w (Nx G N Sin w0 K) Q:=by
  have hvx:=(h.operand hx).1;rw[he] at hvx;obtain⟨b,hm,hval⟩:=hvx;have hobj:=(h.obj id _ hob).1;unfold aA at hobj;rw[hm] at hobj;obtain⟨_,_,_,cur,ty,fz,hblk,_⟩:=hobj;rcases hblk with ⟨_,_,h3⟩ | ⟨bm,c,seen,h1,h2,E,h3,h4,h5,h6⟩
  ·cases h3
  ·obtain⟨e,hem,s,rfl,e1,e2⟩:=h6 p rfl;have run:=run_entry_at (P:=P) w b bm c s E c e h1 h3 hem h4.1;refine bw h hd (v:=.tuple #[e.key,e.val]) ?_ (x:=.tup [.c (.d (.int q p.1)),.c (.d p.2)]) ⟨[e.key,e.val],rfl,.cons (by rw[e1]; exact Reads.rw (.int _ _)) (.cons e2.rw .nil)⟩ (fun i hi=>by simp[V.ids,W.ids,C.ids] at hi) hK;simp only[execOp,ho];rw[hval,show (0:Nat)*sz+0=0 by omega];exact aL run
end
theorem u9 (x:Operand) (y:SX) (ho:o.op=.nilCheck x) (hx:ai x=some y) (h:Inv G N Sin w0 σ a w S m) (hd:∀ t,o.dst=some t→t<N∧w0.fx t=none) (hp:jO (ev G σ.f y)=true)
    (hK:K (σ.put o.dst (ev G σ.f y,σ.h,σ.u))):o.wp P a w (Nx G N Sin w0 K) Q:=by
  have hv:=h.operand hx;refine bw h hd ?_ hv.1 hv.2 hK;have hs:(∃ ad,a.eval x=.pointer (some ad))∨∃ f us vs,a.eval x=.func (.func f) us vs:=by
    have h1:=hv.1;generalize a.eval x=v at h1;generalize ev G σ.f y=z at h1 hp;unfold jO at hp;split at hp
    ·obtain⟨b,_,e⟩:=(h1:∃ b,_∧v=_); exact .inl ⟨_,e⟩
    ·obtain⟨b,_,e⟩:=(h1:∃ b,_∧v=_); exact .inl ⟨_,e⟩
    ·obtain⟨b,e,_⟩:=(h1:∃ b,v=_∧_); exact .inl ⟨_,e⟩
    ·obtain⟨b,_,e,_⟩:=(h1:∃ b sz,v=_∧_); exact .inl ⟨_,e⟩
    ·cases (h1:Reads S w v _) with
     | ref ad=>exact .inl ⟨_,rfl⟩
    ·cases (h1:Reads S w v _) with
     | fn f=>exact .inr ⟨_,_,_,rfl⟩
    ·obtain⟨us,vs,e,_⟩:=(h1:∃ us vs,v=_∧_); exact .inr ⟨_,_,_,e⟩
    ·cases hp
  unfold execOp;rw[ho];rcases hs with ⟨ad,e⟩ | ⟨f,us,vs,e⟩
  ·simp only[e]; rfl
  ·simp only[e]; rfl
theorem mV {H:Hint} {so:ao} (h:Inv G N Sin w0 σ a w S m) (hd:∀ t,o.dst=some t→t<N∧w0.fx t=none) (hc:fZ P H o=some so)
    (hw:dl P G so (ev G σ.f) σ.h σ.u (o.dst.getD 0) (fun r=>K (σ.put o.dst r))):o.wp P a w (Nx G N Sin w0 K) Q:=by
  have nocall:∀ {s:ao},so=s→(∀ f xs own,s≠.call f xs own)→(hs2:∀ f xs,s≠.callM f xs:=by first | (intro _ _ e; cases e; done) | (intro _ _ e; split at e <;> cases e))→∃ r,ef (ev G σ.f) σ.h σ.u (o.dst.getD 0) s=some r∧K (σ.put o.dst r):=by
    intro s e hs hs2;subst e;exact dc hs hw hs2
  have mvs:∀ x,(o.op=.move x∨o.op=.assign x)→g0 P H o x=some so→o.wp P a w (Nx G N Sin w0 K) Q:=by
    intro x ho hc;unfold g0 at hc;split at hc
    ·rename_i y hx;have mv:so=.mv y→o.wp P a w (Nx G N Sin w0 K) Q:=by
       intro e;obtain⟨r,hr,hK⟩:=nocall e (by intro _ _ _ e; cases e);simp only[ef,yY] at hr;subst hr;exact xW x y ho hx h hd hK
     split at hc
     ·cases hc;obtain⟨r,hr,hK⟩:=nocall rfl (by intro _ _ _ e; cases e);exact xl x y ho hx h hd hr hK
     ·split at hc
      ·split at hc
       ·split at hc
        ·cases hc;obtain⟨r,hr,hK⟩:=nocall rfl (by intro _ _ _ e; cases e);exact uW x ho hx _ h hd hr hK
        ·cases hc
       ·cases hc; exact mv rfl
      ·cases hc; exact mv rfl
    ·cases hc
  unfold fZ at hc;split at hc
  ·exact mvs _ (.inl ‹_›) hc
  ·exact mvs _ (.inr ‹_›) hc
  ·
   rename_i c x y ho;split at hc
   ·rename_i c' x' y' h1 h2 h3;cases hc;obtain⟨r,hr,hK⟩:=nocall rfl (by intro _ _ _ e; cases e);simp only[ef,yX] at hr;obtain⟨t,ht,rfl⟩:=hr;exact wg c x y c' x' y' ho h1 h2 h3 h hd ht hK
   ·cases hc
  ·
   rename_i t ho;split at hc
   ·rename_i i n e hi hu;split at hc
    ·rename_i z hz hk;split at hc
     ·rename_i ds hds;split at hc
      ·cases hc;obtain⟨r,hr,hK⟩:=nocall rfl (by intro _ _ _ e; cases e);exact uF t ho hi hz hds h hd hr hK
      ·cases hc
     ·cases hc
    ·rename_i z k hz hk;simp only[yX] at hc;obtain⟨cs,hcs,rfl⟩:=hc;obtain⟨r,hr,hK⟩:=nocall rfl (by intro _ _ _ e; cases e);exact lw t ho hi hz hcs h hd hr hK
    ·cases hc
   ·rename_i i u hne hi hu;split at hc
    ·rename_i z hz;simp only[yX] at hc;obtain⟨cs,hcs,rfl⟩:=hc;obtain⟨r,hr,hK⟩:=nocall rfl (by intro _ _ _ e; cases e);exact lw t ho hi hz hcs h hd hr hK
    ·cases hc
   ·cases hc
  ·
   rename_i t x ho;split at hc
   ·rename_i x' n e hx hu;split at hc
    ·cases hc;obtain⟨r,hr,hK⟩:=nocall rfl (by intro _ _ _ e; cases e);exact jp t x x' _ ho hx h hd hr hK
    ·cases hc;obtain⟨r,hr,hK⟩:=nocall rfl (by intro _ _ _ e; cases e);exact jp t x x' _ ho hx h hd hr hK
    ·cases hc
   ·rename_i x' u hne hx hu;cases hc;obtain⟨r,hr,hK⟩:=nocall rfl (by intro _ _ _ e; cases e);exact jp t x x' _ ho hx h hd hr hK
   ·cases hc
  ·
   rename_i t ps ho;split at hc
   ·rename_i i fs hi hu;split at hc
    ·rename_i z hz;split at hc
     ·rename_i cs qs hcs hqs;split at hc
      ·rename_i hall;have hall':fs.toList.all (fun f=>(P.info? f.type).isSome)=true:=by simpa using hall
       obtain⟨pl,hpl,hpl2⟩:=placesOf hall';have hb:∀ l cells,Instr.fill (fun i=>pl[i]?) z.cells l=some cells→P.built t l=some cells:=fun l cells hf=>by
         unfold Program.built;simp only[hi,hu,hz,hpl];rw[← hf]
         congr 1
         funext i
         simp
       have hq2:ab (fun (p:Nat×Operand) (q:Nat×Nat×SX)=>(fun i=>pl[i]?) p.1=some (q.1,q.2.1)∧ai p.2=some q.2.2) ps.toList qs:=by
         refine c7 (fun p q hpq=>?_) hqs;split at hpq
         ·rename_i f x' hf hx';split at hpq
          ·rename_i j hj;cases hpq;refine⟨hpl2 _ _ _ ?_ hj,hx'⟩
           simpa using hf
          ·cases hpq
         ·cases hpq
       split at hc
       ·cases hc;obtain⟨r,hr,hK⟩:=nocall rfl (by intro _ _ _ e; cases e);simp only[ef,yX] at hr;obtain⟨cs',hp,rfl⟩:=hr;exact uY t ps ho (fun i=>pl[i]?) z hb hcs hq2 h hd hp hK
       ·cases hc;obtain⟨r,hr,hK⟩:=nocall rfl (by intro _ _ _ e; cases e);simp only[ef,yX] at hr;obtain⟨cs',hp,rfl⟩:=hr;exact lz t ps ho (fun i=>pl[i]?) z hb hcs hq2 h hd hp hK
      ·cases hc
     ·cases hc
    ·cases hc
   ·rename_i i n e hi hu;split at hc
    ·rename_i z j hz hj;split at hc
     ·rename_i cs qs hcs hqs;cases hc;obtain⟨r,hr,hK⟩:=nocall rfl (by intro _ _ _ e; cases e);simp only[ef,yX] at hr;obtain⟨cs',hp,rfl⟩:=hr;refine lz t ps ho (fun i=>some (i*j.size,j.size)) z (fun l cells hf=>?_) hcs (qs:=qs) ?_ h hd hp hK
      ·unfold Program.built;simp only[hi,hu,hz,hj];exact hf
      ·refine c7 (fun p q hpq=>?_) hqs;simp only[yX] at hpq;obtain⟨x',hx',rfl⟩:=hpq;exact⟨rfl,hx'⟩
     ·cases hc
    ·cases hc
   ·cases hc
  ·
   rename_i t n ps ho;split at hc
   ·rename_i e s b z ht;split at hc
    ·rename_i qs hqs;split at hc
     ·rename_i hn;have hq:ab (fun p q=>p.1=q.1∧ai p.2=some q.2) ps.toList qs:=by
        refine c7 (fun p q hpq=>?_) hqs;simp only[yX] at hpq;obtain⟨x',hx',rfl⟩:=hpq;exact⟨rfl,hx'⟩
      split at hc
      ·rename_i hf;cases hc;obtain⟨r,hr,hK⟩:=nocall rfl (by intro _ _ _ e; cases e);exact vD t e ht n hn hf.2 ps ho hq h hd hr hK
      ·cases hc;obtain⟨r,hr,hK⟩:=nocall rfl (by intro _ _ _ e; cases e);exact vB t e ht n hn ps ho _ (qs:=qs) hq h hd hr hK
     ·cases hc
    ·cases hc
   ·cases hc
  ·
   rename_i t x ho;split at hc
   ·rename_i kd x' hk hx;split at hc
    ·cases hc;obtain⟨r,hr,hK⟩:=nocall rfl (by intro _ _ _ e; cases e);simp only[ef,yX] at hr;obtain⟨y,hy,rfl⟩:=hr;exact i9 hk x x' ho hx h hd (jF hy).2 hK
    split at hc
    ·cases hc;obtain⟨r,hr,hK⟩:=nocall rfl (by intro _ _ _ e; cases e);simp only[ef,yX] at hr;obtain⟨y,hy,rfl⟩:=hr;exact i9 hk x x' ho hx h hd (xT hy) hK
    ·cases hc;obtain⟨r,hr,hK⟩:=nocall rfl (by intro _ _ _ e; cases e);simp only[ef,yX] at hr;obtain⟨y,hy,rfl⟩:=hr;exact i9 hk x x' ho hx h hd hy hK
   ·cases hc
  ·
   rename_i t x y ho;split at hc
   ·rename_i kd x' y' hk hx hy;split at hc
    ·rename_i hdst;split at hc
     ·cases hc;obtain⟨r,hr,hK⟩:=nocall rfl (by intro _ _ _ e; cases e);simp only[ef] at hr;split at hr
      ·cases hr
      ·rename_i yw hyw;split at hr
       ·simp only[yX] at hr;obtain⟨h',hst,rfl⟩:=hr;exact ly hk x y x' y' ho hdst hx hy h hyw hst hK
       ·cases hr
     ·cases hc;obtain⟨r,hr,hK⟩:=nocall rfl (by intro _ _ _ e; cases e);simp only[ef] at hr;split at hr
      ·cases hr
      ·rename_i yw hyw;simp only[yX] at hr;obtain⟨h',hst,rfl⟩:=hr;exact ly hk x y x' y' ho hdst hx hy h hyw hst hK
    ·cases hc
   ·cases hc
  ·
   rename_i op t x y t' ho;have bin:∀ x' y',ai x=some x'→ai y=some y'→so=.bin op x' y'→o.wp P a w (Nx G N Sin w0 K) Q:=by
     intro x' y' hx hy e;obtain⟨r,hr,hK⟩:=nocall e (by intro _ _ _ e; cases e);simp only[ef,yX] at hr;obtain⟨d,hb,rfl⟩:=hr;exact w8 op t t' x y x' y' ho hx hy h hd hb hK
   split at hc
   ·cases hc; exact bin _ _ ‹_› ‹_› rfl
   ·cases hc; exact bin _ _ ‹_› ‹_› rfl
   ·rename_i x' y' hu hx hy;have eqb:∀ neg:Bool,op=(if neg then .neq else .eql)→so=.eqB neg x' y'→o.wp P a w (Nx G N Sin w0 K) Q:=by
      intro neg hop e;obtain⟨r,hr,hK⟩:=nocall e (by intro _ _ _ e; cases e);simp only[ef] at hr;split at hr
      ·rename_i p q hp hq;cases hr;exact w9 neg op hop t t' hu x y x' y' ho hx hy h hd hp hq hK
      ·cases hr
    split at hc
    ·cases hc; exact eqb false rfl rfl
    ·cases hc; exact eqb true rfl rfl
    ·cases hc
   ·rename_i fs x' y' hu hx hy;have eqa:∀ (neg:Bool) (ks:List Nat),ij P t=some ks→op=(if neg then .neq else .eql)→so=.eqA neg ks x' y'→o.wp P a w (Nx G N Sin w0 K) Q:=by
      intro neg ks hks hop e;obtain⟨r,hr,hK⟩:=nocall e (by intro _ _ _ e; cases e);simp only[ef,yX] at hr;obtain⟨d,hb,rfl⟩:=hr;exact xb neg op hop t t' hks x y x' y' ho hx hy h hd hb hK
    split at hc
    ·cases hc; exact eqa false _ ‹_› rfl rfl
    ·cases hc; exact eqa true _ ‹_› rfl rfl
    ·cases hc
   ·cases hc
  ·
   rename_i op t x ho;simp only[yX] at hc;obtain⟨x',hx,rfl⟩:=hc;obtain⟨r,hr,hK⟩:=nocall rfl (by intro _ _ _ e; cases e);simp only[ef,yX] at hr;obtain⟨d,hb,rfl⟩:=hr;exact xX op t x x' ho hx h hd hb hK
  ·
   rename_i s d x ho;split at hc
   ·rename_i k0 k x' hs hdt hx;cases hc;obtain⟨r,hr,hK⟩:=nocall rfl (by intro _ _ _ e; cases e);simp only[ef,yX] at hr;obtain⟨⟨k',n⟩,hb,rfl⟩:=hr;exact wj s d k k0 hs hdt x x' ho hx h hd hb hK
   ·rename_i e x' hs hdt hx;split at hc
    ·rename_i he;cases hc;obtain⟨r,hr,hK⟩:=nocall rfl (by intro _ _ _ e; cases e);simp only[ef] at hr;split at hr
     ·rename_i es hes;simp only[yX] at hr;obtain⟨l,hl,rfl⟩:=hr;exact xh s d e hs he hdt x x' ho hx h hd hes hl hK
     ·cases hr
    ·cases hc
   ·rename_i e x' hs hdt hx;split at hc
    ·rename_i he;cases hc;obtain⟨r,hr,hK⟩:=nocall rfl (by intro _ _ _ e; cases e);exact xe s d e hs hdt he _ x x' ho hx h hd hr hK
    ·cases hc
   ·rename_i e e2 x' hs hdt hx;split at hc
    ·rename_i he;split at hc
     ·rename_i hsd;subst hsd;cases hc;by_cases hfz:fm H o=true
      ·rw[if_pos hfz] at hw;obtain⟨r,hr,hK⟩:=dc (by intro _ _ _ e; cases e) hw;exact vC s e hs he x x' ho hx h hd hr hK
      ·rw[if_neg hfz] at hw;obtain⟨r,hr,hK⟩:=dc (by intro _ _ _ e; cases e) hw;exact wm s e hs he x x' ho hx h hd hr hK
     ·cases hc
    ·cases hc
   ·cases hc
  ·
   rename_i t l c ho;split at hc
   ·rename_i e s b z l' c' ht hl hcc;split at hc
    ·cases hc;obtain⟨r,hr,hK⟩:=nocall rfl (by intro _ _ _ e; cases e);exact wl t e ht l c l' c' ho hl hcc h hd hr hK
    ·cases hc
   ·cases hc
  ·
   rename_i t x lo hi mx ho;split at hc
   ·rename_i e x' lo' hi' mx' hu hx hlo hhi hmx;split at hc
    ·rename_i e' s b z ht;split at hc
     ·cases hc
     ·rename_i hmh;cases hc;obtain⟨r,hr,hK⟩:=nocall rfl (by intro _ _ _ e; cases e);exact vw t _ ht x lo hi mx x' lo' hi' mx' ho hx hlo hhi hmx (Bool.eq_false_iff.2 hmh) h hd hr hK
    ·cases hc
   ·rename_i x' lo' hi' hu hx hlo hhi hmx;cases hc;obtain⟨r,hr,hK⟩:=nocall rfl (by intro _ _ _ e; cases e);simp only[ef] at hr;split at hr
    ·rename_i s hs;split at hr
     ·rename_i l k hl hk;split at hr
      ·rename_i hlk;cases hr;rcases kY hmx with ⟨rfl,_⟩ | ⟨_,_,_,e,_⟩
       ·exact uC t hu x lo hi x' lo' hi' ho hx hlo hhi h hd hs hl hk hlk.1 hlk.2 hK
       ·cases e
      ·cases hr
     ·cases hr
    ·cases hr
   ·rename_i n e x' lo' hi' hu hx hlo hhi hmx;split at hc
    ·rename_i s b z he;split at hc
     ·rename_i hn;cases hc;obtain⟨r,hr,hK⟩:=nocall rfl (by intro _ _ _ e; cases e);rcases kY hmx with ⟨rfl,_⟩ | ⟨_,_,_,e,_⟩
      ·exact uE t e n hu he (zy hn (by decide)) x lo hi x' lo' hi' ho hx hlo hhi h hd hr hK
      ·cases e
     ·cases hc
    ·cases hc
   ·cases hc
  ·
   rename_i t x f ho;split at hc
   ·rename_i fs x' hu hx;split at hc
    ·rename_i fd hf;split at hc
     ·rename_i i hi;split at hc
      ·rename_i hsz;cases hc;obtain⟨r,hr,hK⟩:=nocall rfl (by intro _ _ _ e; cases e);simp only[ef,yX] at hr;obtain⟨c,hcc,rfl⟩:=hr;exact uz t x x' f ho hx hu hf hi hsz h hd hcc hK
      ·cases hc
     ·cases hc
    ·cases hc
   ·cases hc
  ·
   rename_i t x f ho;split at hc
   ·rename_i fs x' hu hx;split at hc
    ·rename_i fd hf;simp only[yX] at hc;obtain⟨kd,hk,rfl⟩:=hc;obtain⟨r,hr,hK⟩:=nocall rfl (by intro _ _ _ e; cases e);simp only[ef] at hr;split at hr
     ·rename_i cs hcs;simp only[yX] at hr;obtain⟨y,hy,rfl⟩:=hr;exact vq t x x' f ho hx hu hf hk h hd hcs hy hK
     ·cases hr
    ·cases hc
   ·cases hc
  ·
   rename_i t x i ho;split at hc
   ·rename_i e x' i' hu hx hi;split at hc
    ·rename_i e' s b z ht;cases hc;obtain⟨r,hr,hK⟩:=nocall rfl (by intro _ _ _ e; cases e);exact vt t _ ht x i x' i' ho hx hi h hd hr hK
    ·cases hc
   ·rename_i n e x' i' hu hx hi;split at hc
    ·rename_i s b z he;cases hc;obtain⟨r,hr,hK⟩:=nocall rfl (by intro _ _ _ e; cases e);exact vu t e n hu he x i x' i' ho hx hi h hd hr hK
    ·cases hc
   ·cases hc
  ·
   rename_i t x i ho;split at hc
   ·rename_i n e x' i' hu hx hi;split at hc
    ·rename_i kd s b z hk he;cases hc;obtain⟨r,hr,hK⟩:=nocall rfl (by intro _ _ _ e; cases e);simp only[ef] at hr;split at hr
     ·rename_i cs j hcs hj;simp only[yX] at hr;obtain⟨y,hy,rfl⟩:=hr;exact uS t e n hu he hk x i x' i' ho hx hi h hd hcs hj hy hK
     ·cases hr
    ·cases hc
   ·rename_i x' i' hu hx hi;cases hc;obtain⟨r,hr,hK⟩:=nocall rfl (by intro _ _ _ e; cases e);simp only[ef] at hr;split at hr
    ·rename_i s hs;split at hr
     ·rename_i j hj;simp only[yX] at hr;obtain⟨b,hb,rfl⟩:=hr;exact uT t hu x i x' i' ho hx hi h hd hs hj hb hK
     ·cases hr
    ·cases hr
   ·cases hc
  ·
   rename_i x i ho;simp only[yX] at hc;obtain⟨x',hx,rfl⟩:=hc;obtain⟨r,hr,hK⟩:=nocall rfl (by intro _ _ _ e; cases e);simp only[ef] at hr;split at hr
   ·rename_i ws e;simp only[yX] at hr;obtain⟨y,hy,rfl⟩:=hr;exact uK x x' i ho hx h hd e hy hK
   ·cases hr
  ·
   rename_i f fs cs ho;split at hc
   ·rename_i hfs;simp only[yX] at hc;obtain⟨xs,hxs,rfl⟩:=hc;obtain⟨r,hr,hK⟩:=nocall rfl (by intro _ _ _ e; cases e);simp only[ef,yX] at hr;obtain⟨ds,hds,rfl⟩:=hr;exact wI f fs cs xs hfs.1 ho hxs h hd hds hK
   ·split at hc
    ·rename_i xs ys hxs hys;cases hc;obtain⟨r,hr,hK⟩:=nocall rfl (by intro _ _ _ e; cases e);simp only[ef] at hr;split at hr
     ·rename_i pre post h1 h2;cases hr;exact vQ f fs cs xs ys ho hxs hys h hd h1 h2 hK
     ·cases hr
    ·cases hc
  ·
   rename_i x ho;simp only[yX] at hc;obtain⟨x',hx,rfl⟩:=hc;obtain⟨r,hr,hK⟩:=nocall rfl (by intro _ _ _ e; cases e);simp only[ef] at hr;split at hr
   ·rename_i hp;cases hr;exact u9 x x' ho hx h hd hp hK
   ·cases hr
  ·
   rename_i t r ho;split at hc
   ·rename_i q z r' ht hr;cases hc;obtain⟨p,hp,hK⟩:=nocall rfl (by intro _ _ _ e; cases e);simp only[ef] at hp;split at hp
    ·rename_i hh;exact wK t ht r r' ho hr h hd hh hp hK
    ·cases hp
   ·cases hc
  ·
   rename_i t x i co ho;split at hc
   ·rename_i q z x' i' ht hx hi;cases hc;obtain⟨p,hp,hK⟩:=nocall rfl (by intro _ _ _ e; cases e);simp only[ef,yX] at hp;obtain⟨y,hy,rfl⟩:=hp;exact vR t ht x i x' i' co ho hx hi h hd hy hK
   ·cases hc
  ·
   rename_i t x i y ho;split at hc
   ·rename_i q z x' i' y' ht hx hi hy;split at hc
    ·rename_i hdst;cases hc;obtain⟨p,hp,hK⟩:=nocall rfl (by intro _ _ _ e; cases e);simp only[ef,yX] at hp;obtain⟨h',hs,rfl⟩:=hp;exact vS t ht x i y x' i' y' ho hdst hx hi hy h hs hK
    ·cases hc
   ·cases hc
  ·
   rename_i t x ho;split at hc
   ·rename_i kt et x' hu hx;cases hc;obtain⟨p,hp,hK⟩:=nocall rfl (by intro _ _ _ e; cases e);simp only[ef] at hp;split at hp
    ·rename_i pr he;have he:ev G σ.f x'=.w (.c (.d (.mp pr.1 pr.2))):=by
       unfold s9 at he;split at he
       ·cases he; assumption
       ·cases he
     exact u7 t hu x x' ho hx h hd he hp hK
    ·cases hp
   ·cases hc
  ·
   rename_i x ho;simp only[yX] at hc;obtain⟨x',hx,rfl⟩:=hc;obtain⟨p,hp,hK⟩:=nocall rfl (by intro _ _ _ e; cases e);simp only[ef,yX] at hp;obtain⟨y,hy,rfl⟩:=hp;unfold fq at hy;split at hy
   ·rename_i id sz he;unfold tQ at hy;split at hy
    ·rename_i q left pr hob;cases hy;exact vT x x' ho hx h hd he hob hK
    ·cases hy
   ·cases hy
  ·rename_i c ho;exact u6 ho h hd hc hw
  ·cases hc
end
def oX:Option SX→List SX | some x=>[x] | none=>[]
def ao.xs:ao→List SX
  | .mv x=>[x]
  | .nilOwn _=>[]
  | .pick c a b=>[c,a,b]
  | .alloc _=>[]
  | .allocArr _=>[]
  | .box _ x=>[x]
  | .build _ ps=>ps.map fun p=>p.2.2
  | .bldSl _ _ _ _ ps=>ps.map fun p=>p.2
  | .bldFz _ _ _ ps=>ps.map fun p=>p.2
  | .buildF _ ps=>ps.map fun p=>p.2.2
  | .load _ x=>[x]
  | .loadB _ x=>[x]
  | .loadX _ x ex=>x::ex
  | .store _ x y=>[x,y]
  | .storeX _ x y b=>[x,y,b]
  | .bin _ x y=>[x,y]
  | .eqB _ x y=>[x,y]
  | .eqA _ _ x y=>[x,y]
  | .un _ x=>[x]
  | .conv _ x=>[x]
  | .b2s x=>[x]
  | .s2b _ x=>[x]
  | .make _ _ _ _ l c=>[l,c]
  | .slice _ x lo hi mx=>x::oX lo++oX hi++oX mx
  | .sliceStr x lo hi=>x::oX lo++oX hi
  | .sliceArr _ _ x lo hi=>x::oX lo++oX hi
  | .fieldAddr _ x=>[x]
  | .field _ _ x=>[x]
  | .idxSl _ x i=>[x,i]
  | .idxPa _ _ x i=>[x,i]
  | .idxArr _ _ _ x i=>[x,i]
  | .idxStr x i=>[x,i]
  | .extract x _=>[x]
  | .len x=>[x]
  | .lenStr x=>[x]
  | .lenArr _=>[]
  | .app _ _ _ x y=>[x,y]
  | .appN _ _ _ x y=>[x,y]
  | .copy _ x y=>[x,y]
  | .min xs=>xs
  | .max xs=>xs
  | .mark x=>[x]
  | .frz x=>[x]
  | .markF x=>[x]
  | .clos _ xs=>xs
  | .call _ xs _=>xs
  | .closM _ xs ys=>xs++ys
  | .callM _ xs=>xs
  | .nilChk x=>[x]
  | .mkMp _ r=>oX r
  | .mpGet _ _ _ x i=>[x,i]
  | .mpSet _ x i y=>[x,i,y]
  | .mpIter x=>[x]
  | .mpEnt x=>[x]
def ao.cls:ao→Nat
  | .nilOwn _ | .alloc _ | .allocArr _ | .appN .. | .mkMp .. | .mpIter _=>2
  | .make own ..=>if own then 2 else 0
  | .box m _=>match m with | .ownBox | .ownArr=>2 | _=>0
  | .bldSl own ..=>if own then 2 else 0
  | .s2b own _=>if own then 2 else 0
  | .loadX _ _ ex=>if ex.isEmpty then 0 else 1
  | .load .. | .loadB .. | .b2s _ | .sliceArr .. | .mark _ | .mpGet .. | .mpEnt _=>1
  | .store .. | .storeX .. | .app .. | .copy .. | .frz _ | .markF _ | .bldFz .. | .buildF .. | .callM .. | .mpSet ..=>3
  | .call _ _ none=>1
  | .call _ _ (some (_,0))=>0
  | .call _ _ (some (_,_+1))=>2
  | _=>0
def SX.slot:SX→Option Nat | .t n=>some n | _=>none
def SX.kok:SX→Bool | .k v=>v.ids.isEmpty | _=>true
def aj.looks (o:aj):List Nat:=o.op.xs.filterMap SX.slot++(match o.guard with | some (t,_)=>[t] | none=>[])
def aj.apart (x y:aj):Bool :=
  (match x.dst with | some d=>!y.looks.contains d&&y.dst != some d | none=>true)&&(match y.dst with | some d=>!x.looks.contains d | none=>true)
def aj.sound (o:aj):Bool:=o.op.xs.all SX.kok&&(o.op.cls != 2 || o.dst.isSome)
def ao.isLB:ao→Bool | .loadB ..=>true | _=>false
def ao.isApp:ao→Bool | .app ..=>true | _=>false
def ao.stL:ao→ao→Bool
  | .store _ (.t n) _,.loadX _ _ ex=>(ex.filterMap SX.slot).contains n
  | .storeX _ _ _ (.t n),.loadX _ _ ex=>(ex.filterMap SX.slot).contains n
  | _,_=>false
def SX.inL (ex:List SX):SX→Bool | .t n=>(ex.filterMap SX.slot).contains n | .k v=>v.ids.isEmpty | _=>false
def ao.cmL:ao→ao→Bool
  | .callM _ xs,.loadX _ _ ex=>ex.any SX.isU&&(if xs.any SX.isU=true then dW xs else xs).all (SX.inL ex)
  | _,_=>false
def ao.isAlc:ao→Bool | .alloc _=>true | _=>false
def ao.isCM:ao→Bool | .callM ..=>true | _=>false
def aj.plain (o:aj):Bool:=o.guard.isNone&&o.dst.isSome
def aj.indep (x y:aj):Bool:=x.apart y&&(x.op.cls==0 || y.op.cls==0 || (decide (x.op.cls≤2)&&decide (y.op.cls≤2)) || (x.op.isLB&&y.op.isApp) || (x.op.isApp&&y.op.isLB) || (((x.op.isApp&&y.op.isAlc) || (x.op.isAlc&&y.op.isApp))&&(x.plain&&y.plain)) || (x.op.stL y.op || y.op.stL x.op) || (x.op.cmL y.op || y.op.cmL x.op) || (((x.op.isCM&&y.op.isAlc) || (x.op.isAlc&&y.op.isCM))&&(x.plain&&y.plain)))&&x.sound&&y.sound
section
variable {P:Program} {G:au}
def cv (P:Program) (G:au) (s:ao) (ρ:SX→V) (h:ah) (u:Nat→Bool) (dst:Nat) (r:R):Prop :=
  match s with
  | .call f xs own=>∃ res,dH P G h f (xs.map ρ) res∧dI h (xs.map ρ) res∧c9 own (xs.map ρ)∧br h u dst own res=some r
  | .callM f xs=>cN P G h u f ((bH xs).map ρ) r∧ea ρ xs=true
  | s=>ef ρ h u dst s=some r
theorem gU {s:ao} {ρ:SX→V} {h:ah} {u:Nat→Bool} {dst:Nat} {J:R→Prop}:dl P G s ρ h u dst J↔∃ r,cv P G s ρ h u dst r∧J r:=by
  have ne:∀ {x:Option R},(match x with | some r=>J r | none=>False)↔∃ r,x=some r∧J r:=by
    intro x;cases x <;> simp
  cases s with
  | call f xs own =>
    constructor
    ·rintro⟨res,h2,h3,hp,h4⟩;obtain⟨r,hr,h4⟩:=ne.1 h4;exact⟨r,⟨res,h2,h3,hp,hr⟩,h4⟩
    ·rintro⟨r,⟨res,h2,h3,hp,hr⟩,h4⟩;exact⟨res,h2,h3,hp,ne.2 ⟨r,hr,h4⟩⟩
  | callM f xs=>exact Iff.rfl
  | mv x=>exact @ne (ef ρ h u dst (.mv x))
  | lenArr n=>exact @ne (ef ρ h u dst (.lenArr n))
  | _=>exact @ne (ef ρ h u dst _)
def aR (P:Program) (G:au) (o:aj) (σ:St) (r:R):Prop :=
  match o.guard with
  | none=>cv P G o.op (ev G σ.f) σ.h σ.u (o.dst.getD 0) r
  | some (t,want)=>(∃ b,aT (σ.f t)=some b∧((b=want∧cv P G o.op (ev G σ.f) σ.h σ.u (o.dst.getD 0) r)∨(b≠want∧r=(.tup [],σ.h,σ.u))))∨(σ.f t=.tup []∧r=(.tup [],σ.h,σ.u))
theorem e6 {o:aj} {K:St→Prop} {σ:St}:ix P G o K σ↔∃ r,aR P G o σ r∧K (σ.put o.dst r):=by
  unfold ix aR;cases hg:o.guard with
  | none=>exact gU
  | some p =>
    obtain⟨t,want⟩:=p;cases hb:aT (σ.f t) with
    | none =>
      simp only[hb];constructor
      ·rintro⟨h1,h2⟩;exact⟨_,.inr ⟨h1,rfl⟩,h2⟩
      ·rintro⟨r,h1,h2⟩;rcases h1 with ⟨b,h1,_⟩ | ⟨h1,rfl⟩
       ·cases h1
       ·exact⟨h1,h2⟩
    | some b =>
      have hne:¬ σ.f t=.tup []:=fun e=>by rw[e] at hb; cases hb
      simp only[hb,gU,yY,exists_eq_left',hne,false_and,or_false];by_cases e:b=want
      ·simp[e]
      ·simp[e]
end
theorem iI {ρ ρ':SX→V}:∀ {ps:List (Nat×Nat×SX)} {cs:List C},(∀ x∈ps.map (fun p=>p.2.2),ρ' x=ρ x)→parts ρ' ps cs=parts ρ ps cs
  | [],_,_=>rfl
  | (off,size,x)::r,cs,h=>by
    simp only[y5,zs,forall_eq_or_imp] at h;simp only[parts,h.1];split
    ·split
     ·exact iI h.2
     ·rfl
    ·rfl
theorem iJ {ρ ρ':SX→V} {sz:Nat}:∀ {ps:List (Nat×SX)} {es:List D},(∀ x∈ps.map (fun p=>p.2),ρ' x=ρ x)→elems ρ' sz ps es=elems ρ sz ps es
  | [],_,_=>rfl
  | (i,x)::r,es,h=>by
    simp only[y5,zs,forall_eq_or_imp] at h;simp only[elems,h.1];split
    ·split
     ·exact iJ h.2
     ·rfl
    ·rfl
theorem iS {ρ ρ':SX→V}:∀ {xs:List SX},(∀ x∈xs,ρ' x=ρ x)→ints ρ' xs=ints ρ xs
  | [],_=>rfl
  | [x],h=>by simp only[ints,h x (by simp)]
  | x::y::r,h=>by
    simp only[zs,forall_eq_or_imp] at h;have:=iS (ρ:=ρ) (ρ':=ρ') (xs:=y::r) (by simpa using h.2);simp only[ints,h.1,this]
theorem eo {ρ ρ':SX→V} {x:Option SX} {d:Nat} (h:∀ y∈oX x,ρ' y=ρ y):bound ρ' x d=bound ρ x d:=by
  cases x with
  | none=>rfl
  | some x=>simp only[bound,h x (by simp[oX])]
theorem wL {ρ ρ':SX→V} {h:ah} {u:Nat→Bool} {dst:Nat} {s:ao} (hx:∀ x∈s.xs,ρ' x=ρ x):ef ρ' h u dst s=ef ρ h u dst s:=by
  cases s <;> simp only[ao.xs,zs,ze,forall_eq_or_imp,List.not_mem_nil,or_imp,forall_and,false_imp_iff,implies_true,and_true] at hx
  case build z ps=>simp only[ef,iI (ρ:=ρ) (ρ':=ρ') hx]
  case bldSl own n sz z ps=>simp only[ef,iJ (ρ:=ρ) (ρ':=ρ') hx]
  case bldFz n sz z ps =>
    have h1:∀ x∈ps.map (fun p=>p.2),(fun x=>aZ h (ρ' x)) x=(fun x=>aZ h (ρ x)) x:=fun x hm=>by show aZ h (ρ' x)=_; rw[hx x hm]
    have h2:(ps.flatMap fun p=>cy (ρ' p.2))=ps.flatMap fun p=>cy (ρ p.2):=by
      rw[List.flatMap_def,List.flatMap_def]
      congr 1
      exact zF fun p hp=>by rw[hx p.2 (za.2 ⟨p,hp,rfl⟩)]
    simp only[ef,iJ (ρ:=fun x=>aZ h (ρ x)) (ρ':=fun x=>aZ h (ρ' x)) h1,h2]
  case buildF z ps =>
    have h1:∀ x∈ps.map (fun p=>p.2.2),(fun x=>aZ h (ρ' x)) x=(fun x=>aZ h (ρ x)) x:=fun x hm=>by show aZ h (ρ' x)=_; rw[hx x hm]
    have h2:(ps.flatMap fun p=>cy (ρ' p.2.2))=ps.flatMap fun p=>cy (ρ p.2.2):=by
      rw[List.flatMap_def,List.flatMap_def]
      congr 1
      exact zF fun p hp=>by rw[hx p.2.2 (za.2 ⟨p,hp,rfl⟩)]
    simp only[ef,iI (ρ:=fun x=>aZ h (ρ x)) (ρ':=fun x=>aZ h (ρ' x)) h1,h2]
  case min xs=>simp only[ef,iS (ρ:=ρ) (ρ':=ρ') hx]
  case max xs=>simp only[ef,iS (ρ:=ρ) (ρ':=ρ') hx]
  case clos f xs =>
    have:xs.map ρ'=xs.map ρ:=zF hx;simp only[ef,this]
  case closM f xs ys =>
    have h1:xs.map ρ'=xs.map ρ:=zF hx.1;have h2:ys.map ρ'=ys.map ρ:=zF hx.2;simp only[ef,h1,h2]
  case loadX kd x ex =>
    have:ex.map ρ'=ex.map ρ:=zF hx.2;simp only[ef,hx.1,this]
  case slice sz x lo hi mx=>simp only[ef,hx.1.1.1 x rfl,eo (ρ:=ρ) (ρ':=ρ') hx.1.1.2,eo (ρ:=ρ) (ρ':=ρ') hx.1.2,eo (ρ:=ρ) (ρ':=ρ') hx.2]
  case sliceStr x lo hi=>simp only[ef,hx.1.1 x rfl,eo (ρ:=ρ) (ρ':=ρ') hx.1.2,eo (ρ:=ρ) (ρ':=ρ') hx.2]
  case sliceArr sz n x lo hi=>simp only[ef,hx.1.1 x rfl,eo (ρ:=ρ) (ρ':=ρ') hx.1.2,eo (ρ:=ρ) (ρ':=ρ') hx.2]
  case mkMp q r =>
    cases r with
    | none=>rfl
    | some r =>
      have e:eG ρ' (some r)=eG ρ (some r):=by simp only[eG,hx r (by simp[oX])]
      show (if eG ρ' (some r)=true then _ else _)=_
      rw[e];rfl
  all_goals (simp only[ef,cr,hx])
theorem gE {h h2:ah} {kd:Kd} {x:V} (e:∀ id∈x.ids,h2 id=h id):aM h2 kd x=aM h kd x:=by
  cases x with
  | w y =>
    cases y with
    | c c=>cases c with
      | d x=>cases x <;> rfl
      | _=>simp only[V.ids,W.ids,C.ids,zj,forall_eq] at e <;> simp only[aM,e]
    | mix cs=>rfl
  | _=>rfl
theorem xt {ρ:SX→V} {h:ah} {u:Nat→Bool} {dst:Nat} {s:ao} {r:R} (hc:s.cls=0) (e:ef ρ h u dst s=some r):∃ v,r=(v,h,u)∧∀ h2 u2,ef ρ h2 u2 dst s=some (v,h2,u2):=by
  have mp:∀ {α:Type} {x:Option α} {g:α→V},(x.map fun y=>((g y,h,u):R))=some r→∃ v,r=(v,h,u)∧∀ (h2:ah) (u2:Nat→Bool),(x.map fun y=>((g y,h2,u2):R))=some (v,h2,u2):=by
    intro α x g e;cases x with
    | none=>cases e
    | some y=>cases e; exact⟨_,rfl,fun _ _=>rfl⟩
  cases s <;> simp only[ao.cls] at hc <;> first | (simp at hc; done) | skip
  case mv x=>cases e; exact⟨_,rfl,fun _ _=>rfl⟩
  case pick c a b=>exact mp e
  case box m x =>
    simp only[ef] at e ⊢;cases hy:cI (ρ x) with
    | none=>rw[hy] at e; cases e
    | some y =>
      rw[hy] at e;cases m <;> first | (simp at hc; done) | skip
      ·exact mp e
      ·simp only at e ⊢;split at e
       ·cases e; exact⟨_,rfl,fun _ _=>rfl⟩
       ·cases e
  case build z ps=>exact mp e
  case clos f xs=>exact mp e
  case closM f xs ys =>
    simp only[ef] at e ⊢;split at e
    ·cases e; exact⟨_,rfl,fun _ _=>rfl⟩
    ·cases e
  case nilChk x =>
    simp only[ef] at e ⊢;split at e
    ·rename_i hp; cases e; exact⟨_,rfl,fun _ _=>by rw[if_pos hp]⟩
    ·cases e
  case loadX kd x ex =>
    simp only[ef] at e ⊢;cases hy:bO h kd (ex.map ρ) (ρ x) with
    | none=>rw[hy] at e; cases e
    | some y =>
      rw[hy] at e;cases e;refine⟨_,rfl,fun h2 u2=>?_⟩;obtain⟨hd,hl⟩:=jF hy;obtain⟨hd3,_⟩:=fU hy;have he:ex=[]:=by
        cases ex with
        | nil=>rfl
        | cons a l=>simp at hc
      have h0:=(lr hd).1 (by rw[he]; rfl);have hag:∀ id∈(ρ x).ids,h2 id=h id:=fun id hid=>by rw[h0] at hid; cases hid
      unfold bO;rw[iO hag,if_pos hd3,gE (h:=h) (h2:=h2) hag,hl];rfl
  case bldSl own n sz z ps =>
    cases own <;> first | (simp at hc; done) | skip
    simp only[ef] at e ⊢;cases hy:elems ρ sz ps (List.replicate n z) with
    | none=>rw[hy] at e; cases e
    | some es=>rw[hy] at e; cases e; exact⟨_,rfl,fun _ _=>rfl⟩
  case bin op x y=>exact mp e
  case eqA neg ks x y=>exact mp e
  case eqB neg x y =>
    simp only[ef] at e ⊢;split at e
    ·cases e; exact⟨_,rfl,fun _ _=>rfl⟩
    ·cases e
  case un op x=>exact mp e
  case conv k x =>
    simp only[ef] at e ⊢;cases hy:bQ (ρ x) with
    | none=>rw[hy] at e; cases e
    | some p=>rw[hy] at e; cases e; exact⟨_,rfl,fun _ _=>rfl⟩
  case s2b own x =>
    cases own <;> first | (simp at hc; done) | skip
    simp only[ef] at e ⊢;split at e
    ·split at e
     ·simp only[Bool.false_eq_true,if_false] at e ⊢;cases e;rename_i hle;simp only[if_pos hle];exact⟨_,rfl,fun _ _=>rfl⟩
     ·cases e
    ·cases e
  case make own sz byt z l c =>
    cases own <;> first | (simp at hc; done) | skip
    simp only[ef] at e ⊢;split at e
    ·split at e
     ·simp only[Bool.false_eq_true,if_false] at e ⊢;cases e;rename_i hle;simp only[if_pos hle];exact⟨_,rfl,fun _ _=>rfl⟩
     ·cases e
    ·cases e
  case slice sz x lo hi mx =>
    simp only[ef] at e ⊢;cases h1:cM (ρ x) with
    | none=>rw[h1] at e; cases e
    | some n =>
      simp only[h1] at e ⊢;cases h2:bound ρ lo 0 with
      | none=>rw[h2] at e; cases e
      | some l =>
        cases h3:bound ρ hi n with
        | none=>rw[h2,h3] at e; cases e
        | some k =>
          simp only[h2,h3] at e ⊢;cases h4:bound ρ mx n with
          | none=>rw[h4] at e; cases e
          | some m =>
            simp only[h4] at e ⊢;split at e
            ·rename_i hk;simp only[if_pos hk];exact mp e
            ·cases e
  case sliceStr x lo hi =>
    simp only[ef] at e ⊢;split at e
    ·split at e
     ·split at e
      ·rename_i hk;cases e;simp only[if_pos hk];exact⟨_,rfl,fun _ _=>rfl⟩
      ·cases e
     ·cases e
    ·cases e
  case fieldAddr off x=>exact mp e
  case field off kd x =>
    simp only[ef] at e ⊢;split at e
    ·exact mp e
    ·cases e
  case idxSl sz x i =>
    simp only[ef] at e ⊢;split at e
    ·split at e
     ·split at e
      ·split at e
       ·rename_i hk;cases e;simp only[if_pos hk];exact⟨_,rfl,fun _ _=>rfl⟩
       ·cases e
      ·cases e
     ·cases e
    ·split at e
     ·split at e
      ·rename_i hk;cases e;simp only[if_pos hk];exact⟨_,rfl,fun _ _=>rfl⟩
      ·cases e
     ·cases e
    ·cases e
  case idxPa sz n x i =>
    simp only[ef] at e ⊢;split at e
    ·cases e
    ·split at e
     ·split at e
      ·rename_i hk;cases e;simp only[if_pos hk];exact⟨_,rfl,fun _ _=>rfl⟩
      ·cases e
     ·split at e
      ·split at e
       ·rename_i hk;cases e;simp only[if_pos hk];exact⟨_,rfl,fun _ _=>rfl⟩
       ·cases e
      ·cases e
     ·cases e; exact⟨_,rfl,fun _ _=>rfl⟩
     ·cases e; exact⟨_,rfl,fun _ _=>rfl⟩
     ·cases e
  case idxArr sz n kd x i =>
    simp only[ef] at e ⊢;split at e
    ·exact mp e
    ·cases e
  case idxStr x i =>
    simp only[ef] at e ⊢;split at e
    ·split at e
     ·exact mp e
     ·cases e
    ·cases e
  case extract x i =>
    simp only[ef] at e ⊢;split at e
    ·exact mp e
    ·cases e
  case len x=>exact mp e
  case lenStr x =>
    simp only[ef] at e ⊢;split at e
    ·cases e; exact⟨_,rfl,fun _ _=>rfl⟩
    ·cases e
  case lenArr n=>cases e; exact⟨_,rfl,fun _ _=>rfl⟩
  case min xs =>
    simp only[ef] at e ⊢;cases hy:ints ρ xs with
    | none=>rw[hy] at e; cases e
    | some p=>rw[hy] at e; cases e; exact⟨_,rfl,fun _ _=>rfl⟩
  case max xs =>
    simp only[ef] at e ⊢;cases hy:ints ρ xs with
    | none=>rw[hy] at e; cases e
    | some p=>rw[hy] at e; cases e; exact⟨_,rfl,fun _ _=>rfl⟩
  case call f xs own=>cases e
theorem vU {h h2:ah} {kd:Kd} {x:V} (e:∀ id∈x.ids,h2 id=h id):bz h2 kd x=bz h kd x:=by
  cases x with
  | w y =>
    cases y with
    | c c=>cases c with
      | d x=>cases x <;> rfl
      | _=>simp only[V.ids,W.ids,C.ids,zj,forall_eq] at e <;> simp only[bz,e]
    | mix cs=>rfl
  | _=>rfl
theorem xu {h h2:ah} {kd:Kd} {x:V} {y:W} (hl:bz h kd x=some y) (e:∀ id∈x.ids,∀ cs,h id=some (.box cs)→h2 id=some (.box cs)):bz h2 kd x=some y:=by
  unfold bz at hl ⊢;split at hl
  ·split at hl
   ·rename_i id sz i o ob cs hid;have:=e id (by simp[V.ids,W.ids,C.ids]) cs hid;simp only[this];exact hl
   ·cases hl
  ·exact hl
  ·exact hl
  ·exact hl
  ·cases hl
theorem va {h h2:ah} {q:IntKind} {z:D} {co:Bool} {x:V} {i:Option (IntKind×Int)} (e:∀ id∈x.ids,h2 id=h id):dL h2 q z co x i=dL h q z co x i:=by
  have key:∀ id,x=.w (.c (.mp id))→dL h2 q z co x i=dL h q z co x i:=by
    rintro id rfl;have:=e id (by simp[V.ids,W.ids,C.ids]);cases i with
    | none=>rfl
    | some p=>simp only[dL,this]
  cases x with
  | w y =>
    cases y with
    | c c =>
      cases c with
      | mp id=>exact key id rfl
      | d d=>cases d <;> cases i <;> rfl
      | _=>rfl
    | mix cs=>rfl
  | _=>rfl
theorem vb {h h2:ah} {x:V} (e:∀ id∈x.ids,h2 id=h id):fq h2 x=fq h x:=by
  unfold fq;split
  ·rw[e _ (by simp[V.ids,W.ids,C.ids])]
  ·rfl
theorem lI {h h2:ah} {c:C} (e:∀ id∈c.ids,h2 id=h id):bg h2 c=bg h c:=by
  cases c <;> simp only[C.ids,zj,forall_eq] at e <;> simp only[bg,e]
theorem kZ {h h2:ah}:∀ {cs:List C},(∀ id∈cs.flatMap C.ids,h2 id=h id)→cn h2 cs=cn h cs
  | [],_=>rfl
  | c::r,e=>by
    simp only[y4,ze] at e;simp only[cn,lI (h:=h) (h2:=h2) fun id hid=>e id (.inl hid),kZ (h:=h) (h2:=h2) fun id hid=>e id (.inr hid)]
theorem iT {h h2:ah}:∀ {cs:List Cp},(∀ id∈cs.flatMap Cp.ids,h2 id=h id)→ci h2 cs=ci h cs
  | [],_=>rfl
  | .d x::r,e=>by
    simp only[y4,ze] at e;simp only[ci,iT (h:=h) (h2:=h2) fun id hid=>e id (.inr hid)]
  | .p id sz i o::r,e=>by
    simp only[y4,ze] at e;simp only[ci,df,e id (.inl (by simp[Cp.ids])),iT (h:=h) (h2:=h2) fun id hid=>e id (.inr hid)]
theorem vV {h h2:ah} {c:C} (e:∀ id∈c.ids,h2 id=h id):a4 h2 c=a4 h c:=by
  cases c with
  | own id sz off n=>exact lI e
  | ptr id sz i o=>simp only[a4,df,e id (by simp[C.ids])]
  | cf g pre post=>simp only[a4,iT (h:=h) (h2:=h2) fun id hid=>e id (y1 _ hid)]
  | _=>rfl
theorem gF {h h2:ah} {x:V} (e:∀ id∈x.ids,h2 id=h id):bK h2 x=bK h x:=by
  cases x with
  | w y =>
    cases y with
    | c c=>exact vV e
    | mix cs=>simp only[bK,kZ (h:=h) (h2:=h2) e]
  | _=>rfl
theorem k7 {h h2:ah}:∀ {vs:List V},(∀ v∈vs,∀ id∈v.ids,h2 id=h id)→a8 h2 vs=a8 h vs
  | [],_=>rfl
  | v::r,e=>by
    simp only[zs,forall_eq_or_imp] at e;simp only[a8,gF (h:=h) (h2:=h2) e.1,k7 (h:=h) (h2:=h2) e.2]
theorem xv {ρ:SX→V} {h:ah} {u:Nat→Bool} {dst:Nat} {s:ao} {r:R} (hc:s.cls=1) (hs:∀ f xs own,s≠.call f xs own) (e:ef ρ h u dst s=some r) :
    ∃ v,r=(v,h,u)∧∀ h2 u2,(∀ x∈s.xs,∀ id∈(ρ x).ids,h2 id=h id)→ef ρ h2 u2 dst s=some (v,h2,u2):=by
  cases s <;> simp only[ao.cls] at hc <;> first | (simp at hc; done) | skip
  case box m x=>cases m <;> simp at hc
  case bldSl own n sz z ps=>cases own <;> simp at hc
  case s2b own x=>cases own <;> simp at hc
  case make own sz byt z l c=>cases own <;> simp at hc
  case load kd x =>
    simp only[ef] at e ⊢;cases hy:aM h kd (ρ x) with
    | none=>rw[hy] at e; cases e
    | some y =>
      rw[hy] at e;cases e;refine⟨_,rfl,fun h2 u2 hag=>?_⟩;rw[gE (hag x (by simp[ao.xs])),hy];rfl
  case loadB kd x =>
    simp only[ef] at e ⊢;cases hy:bz h kd (ρ x) with
    | none=>rw[hy] at e; cases e
    | some y =>
      rw[hy] at e;cases e;refine⟨_,rfl,fun h2 u2 hag=>?_⟩;rw[vU (hag x (by simp[ao.xs])),hy];rfl
  case loadX kd x ex =>
    simp only[ef] at e ⊢;cases hy:bO h kd (ex.map ρ) (ρ x) with
    | none=>rw[hy] at e; cases e
    | some y =>
      rw[hy] at e;cases e;refine⟨_,rfl,fun h2 u2 hag=>?_⟩;obtain⟨hd,hl⟩:=fU hy;unfold bO;rw[iO (hag x (by simp[ao.xs])),if_pos hd,gE (hag x (by simp[ao.xs])),hl];rfl
  case mpGet q z co x i =>
    simp only[ef] at e ⊢;cases hy:dL h q z co (ρ x) (bQ (ρ i)) with
    | none=>rw[hy] at e; cases e
    | some y =>
      rw[hy] at e;cases e;refine⟨_,rfl,fun h2 u2 hag=>?_⟩;rw[va (hag x (by simp[ao.xs])),hy];rfl
  case mpEnt x =>
    simp only[ef] at e ⊢;cases hy:fq h (ρ x) with
    | none=>rw[hy] at e; cases e
    | some y =>
      rw[hy] at e;cases e;refine⟨_,rfl,fun h2 u2 hag=>?_⟩;rw[vb (hag x (by simp[ao.xs])),hy];rfl
  case b2s x =>
    simp only[ef] at e ⊢;cases hy:bK h (ρ x) with
    | none=>rw[hy] at e; cases e
    | some y =>
      rw[hy] at e;cases y with
      | sl es =>
        simp only[yX] at e;obtain⟨l,hl,rfl⟩:=e;refine⟨_,rfl,fun h2 u2 hag=>?_⟩;rw[gF (hag x (by simp[ao.xs])),hy];simp only[hl];rfl
      | _=>cases e
  case mark x =>
    simp only[ef] at e ⊢;cases hx:ρ x with
    | w y =>
      rw[hx] at e;cases y with
      | c c =>
        cases c with
        | own id sz off n =>
          simp only at e;cases ho:h id with
          | none=>rw[ho] at e; cases e
          | some ob =>
            rw[ho] at e;cases ob with
            | row s0 es =>
              simp only at e;split at e
              ·rename_i hk2;cases e;refine⟨_,rfl,fun h2 u2 hag=>?_⟩;have:=hag x (by simp[ao.xs]) id (by rw[hx]; simp[V.ids,W.ids,C.ids]);simp only[this,ho,if_pos hk2]
              ·cases e
            | _=>cases e
        | _=>cases e
      | mix cs=>cases e
    | _=>rw[hx] at e; cases e
  case sliceArr sz n x lo hi =>
    simp only[ef] at e ⊢;cases h2:bound ρ lo 0 with
    | none=>rw[h2] at e; cases e
    | some l =>
      cases h3:bound ρ hi n with
      | none=>rw[h2,h3] at e; cases e
      | some k =>
        simp only[h2,h3] at e ⊢;split at e
        ·rename_i hk;simp only[if_pos hk];cases hx:ρ x with
         | w y =>
           rw[hx] at e;cases y with
           | c c =>
             cases c with
             | pa id sz' =>
               simp only at e;cases ho:h id with
               | none=>rw[ho] at e; cases e
               | some ob =>
                 rw[ho] at e;cases ob with
                 | row s0 es =>
                   simp only at e;split at e
                   ·rename_i hk2;cases e;refine⟨_,rfl,fun h2 u2 hag=>?_⟩;have:=hag x (by simp[ao.xs]) id (by rw[hx]; simp[V.ids,W.ids,C.ids]);simp only[this,ho,if_pos hk2]
                   ·cases e
                 | _=>cases e
             | ra es =>
               simp only at e;split at e
               ·rename_i hk2;cases e;refine⟨_,rfl,fun h2 u2 hag=>?_⟩;simp only[if_pos hk2]
               ·cases e
             | ptr id sz' i o =>
               simp only at e;cases ho:h id with
               | none=>rw[ho] at e; cases e
               | some ob =>
                 rw[ho] at e;cases ob with
                 | row s0 es=>cases e
                 | mp q es=>cases e
                 | it q l p=>cases e
                 | box cs =>
                   simp only at e;split at e
                   ·rename_i hk2;cases e;refine⟨_,rfl,fun h2 u2 hag=>?_⟩;have:=hag x (by simp[ao.xs]) id (by rw[hx]; simp[V.ids,W.ids,C.ids]);simp only[this,ho,if_pos hk2]
                   ·cases e
             | _=>cases e
           | mix cs=>cases e
         | _=>rw[hx] at e; cases e
        ·cases e
  case call f xs own=>exact absurd rfl (hs _ _ _)
theorem eu {h:ah} {u:Nat→Bool} {dst:Nat} {o:Ob} {c:C} {r:R} (e:a9 h u dst o c=some r):u (8*dst)=false∧r=(.w (.c c),upd h (8*dst) (some o),upd u (8*dst) true):=by
  unfold a9 at e;split at e
  ·cases e
  ·rename_i hu;cases e;exact⟨by simpa using hu,rfl⟩
theorem eB {h:ah} {u:Nat→Bool} {dst:Nat} {o:Ob} {c:C} (hu:u (8*dst)=false):a9 h u dst o c=some (.w (.c c),upd h (8*dst) (some o),upd u (8*dst) true):=by
  unfold a9;rw[if_neg (by simp[hu])]
theorem xw {ρ:SX→V} {h:ah} {u:Nat→Bool} {dst:Nat} {str:Bool} {sz byt:Nat} {x y:SX} {r:R} (e:ef ρ h u dst (.appN str sz byt x y)=some r) :
    ∃ v ob,u (8*dst)=false∧r=(v,upd h (8*dst) (some ob),upd u (8*dst) true)∧∀ (h2:ah) (u2:Nat→Bool),(∀ id∈(ρ y).ids,h2 id=h id)→u2 (8*dst)=false→ef ρ h2 u2 dst (.appN str sz byt x y)=some (v,upd h2 (8*dst) (some ob),upd u2 (8*dst) true):=by
  have src:∀ h2:ah,(∀ id∈(ρ y).ids,h2 id=h id)→dh h2 str (ρ y)=dh h str (ρ y):=by
    intro h2 hag;cases str with
    | true=>cases hy:ρ y with
      | w c=>cases c with
        | c d=>cases d with
          | d x=>cases x <;> rfl
          | _=>rfl
        | mix _=>rfl
      | _=>rfl
    | false=>simp only[dh,gF hag]
  simp only[ef] at e ⊢;split at e
  ·cases e
  ·rename_i ys hys;split at e
   ·rename_i hsz;split at e
    ·split at e
     ·rename_i hk;obtain⟨h1,h2⟩:=eu e;refine⟨_,_,h1,h2,fun h2 u2 hag hu=>?_⟩;simp only[src h2 hag,hys,if_pos hsz,if_pos hk];exact eB hu
     ·cases e
    ·cases e
   ·cases e
theorem x9 {ρ:SX→V} {h:ah} {u:Nat→Bool} {dst:Nat} {s:ao} {r:R} (hc:s.cls=2) (hs:∀ f xs own,s≠.call f xs own) (hs2:∀ a b c x y,s≠.appN a b c x y) (e:ef ρ h u dst s=some r) :
    ∃ v ob,u (8*dst)=false∧r=(v,upd h (8*dst) (some ob),upd u (8*dst) true)∧∀ h2 u2,u2 (8*dst)=false→ef ρ h2 u2 dst s=some (v,upd h2 (8*dst) (some ob),upd u2 (8*dst) true):=by
  have nw:∀ {o:Ob} {c:C},a9 h u dst o c=some r→∃ v ob,u (8*dst)=false∧r=(v,upd h (8*dst) (some ob),upd u (8*dst) true)∧∀ (h2:ah) (u2:Nat→Bool),u2 (8*dst)=false→a9 h2 u2 dst o c=some (v,upd h2 (8*dst) (some ob),upd u2 (8*dst) true):=by
    intro o c e;obtain⟨h1,h2⟩:=eu e;exact⟨_,_,h1,h2,fun h2 u2 hu=>eB hu⟩
  cases s <;> simp only[ao.cls] at hc <;> first | (simp at hc; done) | skip
  case loadX kd x ex=>split at hc <;> omega
  case nilOwn sz=>exact nw e
  case alloc cs=>exact nw e
  case allocArr es=>exact nw e
  case box m x =>
    simp only[ef] at e ⊢;cases hy:cI (ρ x) with
    | none=>rw[hy] at e; cases e
    | some y =>
      rw[hy] at e;cases m <;> first | (simp at hc; done) | skip
      ·exact nw e
      ·simp only at e ⊢;split at e
       ·exact nw e
       ·cases e
  case bldSl own n sz z ps =>
    cases own <;> first | (simp at hc; done) | skip
    simp only[ef] at e ⊢;cases hy:elems ρ sz ps (List.replicate n z) with
    | none=>rw[hy] at e; cases e
    | some es=>rw[hy] at e; exact nw e
  case s2b own x =>
    cases own <;> first | (simp at hc; done) | skip
    simp only[ef] at e ⊢;split at e
    ·split at e
     ·rename_i hle;simp only[if_pos hle];exact nw e
     ·cases e
    ·cases e
  case make own sz byt z l c =>
    cases own <;> first | (simp at hc; done) | skip
    simp only[ef] at e ⊢;split at e
    ·split at e
     ·rename_i hle;simp only[if_pos hle];exact nw e
     ·cases e
    ·cases e
  case mkMp q r =>
    simp only[ef] at e ⊢;split at e
    ·rename_i hh;simp only[if_pos hh];exact nw e
    ·cases e
  case mpIter x =>
    simp only[ef] at e ⊢;split at e
    ·exact nw e
    ·cases e
  case appN a b c x y=>exact absurd rfl (hs2 _ _ _ _ _)
  case call f xs own=>exact absurd rfl (hs _ _ _)
section
variable {P:Program} {G:au}
def dO (h:ah) (id:Nat):Option Ob→ah | some o=>upd h id (some o) | none=>h
def dP (u:Nat→Bool) (id:Nat):Option Ob→Nat→Bool | some _=>upd u id true | none=>u
theorem k8 {α:Type} {l:List α} {p q:α→Bool} (h:∀ x∈l,p x=q x):l.all p=l.all q:=by
  induction l with
  | nil=>rfl
  | cons x r ih=>rw[List.all_cons,List.all_cons,h x zh,ih fun y hy=>h y (y9 _ hy)]
theorem ve {α:Type} {l:List α} {p q:α→Bool} (h:∀ x∈l,p x=q x):l.any p=l.any q:=by
  induction l with
  | nil=>rfl
  | cons x r ih=>rw[List.any_cons,List.any_cons,h x zh,ih fun y hy=>h y (y9 _ hy)]
theorem fP {s:ao} {ρ ρ':SX→V} {h:ah} {u:Nat→Bool} {dst:Nat} {r:R} (hx:∀ x∈s.xs,ρ' x=ρ x) (e:cv P G s ρ h u dst r):cv P G s ρ' h u dst r:=by
  cases s with
  | call f xs own =>
    have:xs.map ρ'=xs.map ρ:=zF hx;simp only[cv,this];exact e
  | callM f xs =>
    have h1:(bH xs).map ρ'=(bH xs).map ρ:=zF fun z hz=>hx z (fO z hz)
    have h2:ea ρ' xs=ea ρ xs:=by
      unfold ea
      congr 1
      refine k8 fun y hy=>?_
      rw[hx y (fO y hy)];refine k8 fun i _=>?_
      refine ve fun z hz=>?_
      rw[hx z (oS z hz)]
    exact⟨by rw[h1]; exact e.1,by rw[h2]; exact e.2⟩
  | _ =>
    show ef _ _ _ _ _=_
    rw[wL hx];exact e
theorem vW {s:ao} {ρ:SX→V} {h:ah} {u:Nat→Bool} {dst:Nat} {r:R} (hs:∀ f xs own,s≠.call f xs own) (hc:s.cls≤2) (e:ef ρ h u dst s=some r) :
    ∃ v c,r=(v,dO h (8*dst) c,dP u (8*dst) c)∧(s.cls≠2→c=none)∧(c≠none→u (8*dst)=false) ∧
      ∀ h2 u2,(s.cls=0∨∀ x∈s.xs,∀ id∈(ρ x).ids,h2 id=h id)→(c≠none→u2 (8*dst)=false)→ef ρ h2 u2 dst s=some (v,dO h2 (8*dst) c,dP u2 (8*dst) c):=by
  have h3:s.cls=0∨s.cls=1∨s.cls=2:=by omega
  rcases h3 with h0 | h1 | h2
  ·obtain⟨v,k1,k2⟩:=xt h0 e;exact⟨v,none,k1,fun _=>rfl,fun h=>absurd rfl h,fun h2 u2 _ _=>k2 h2 u2⟩
  ·obtain⟨v,k1,k2⟩:=xv h1 hs e;exact⟨v,none,k1,fun _=>rfl,fun h=>absurd rfl h,fun h2 u2 hag _=>k2 h2 u2 (hag.resolve_left (by omega))⟩
  ·by_cases hn:∃ a b c x y,s=.appN a b c x y
   ·obtain⟨a,b,c,x,y,rfl⟩:=hn;obtain⟨v,ob,k0,k1,k2⟩:=xw e;exact⟨v,some ob,k1,fun h=>absurd h2 h,fun _=>k0,fun h3 u3 hag hu=>k2 h3 u3 ((hag.resolve_left (by omega)) y (by simp[ao.xs])) (hu (by simp))⟩
   ·obtain⟨v,ob,k0,k1,k2⟩:=x9 h2 hs (fun a b c x y e=>hn ⟨a,b,c,x,y,e⟩) e;exact⟨v,some ob,k1,fun h=>absurd h2 h,fun _=>k0,fun h2 u2 _ hu=>k2 h2 u2 (hu (by simp))⟩
theorem k9 {s:ao} {ρ:SX→V} {h:ah} {u:Nat→Bool} {dst:Nat} {r:R} (hc:s.cls≤2) (e:cv P G s ρ h u dst r) :
    ∃ v c,r=(v,dO h (8*dst) c,dP u (8*dst) c)∧(s.cls≠2→c=none)∧(c≠none→u (8*dst)=false) ∧
      ∀ h2 u2,(s.cls=0∨∀ x∈s.xs,∀ id∈(ρ x).ids,h2 id=h id)→(c≠none→u2 (8*dst)=false)→cv P G s ρ h2 u2 dst (v,dO h2 (8*dst) c,dP u2 (8*dst) c):=by
  cases s with
  | call f xs own =>
    obtain⟨res,h1,h3,hp,h4⟩:=e;have args:∀ h2:ah,(ao.cls (.call f xs own)=0∨∀ x∈ao.xs (.call f xs own),∀ id∈(ρ x).ids,h2 id=h id)→dH P G h2 f (xs.map ρ) res∧dI h2 (xs.map ρ) res:=by
      intro h2 hag;have e:a8 h2 (xs.map ρ)=a8 h (xs.map ρ):=by
        refine k7 fun v hv=>?_
        obtain⟨x,hx,rfl⟩:=za.1 hv;rcases hag with hag | hag
        ·have hp2:(xs.map ρ).all (fun v=>v.ids.isEmpty)=true:=by
           match own,hag,hp with
           | none,hag,_=>simp[ao.cls] at hag
           | some (k,0),_,hp=>exact hp k rfl
           | some (_,_+1),hag,_=>simp[ao.cls] at hag
         have hi:=zf.1 hp2 _ hv;intro id hid;rw[List.isEmpty_iff.1 hi] at hid;cases hid
        ·exact hag x hx
      unfold dH dI;rw[e];exact⟨h1,h3⟩
    match own,hp,h4,args with
    | none,hp,h4,args =>
      simp only[br,yY] at h4;subst h4;exact⟨_,none,rfl,fun _=>rfl,fun h=>absurd rfl h,fun h2 u2 hag _=>⟨res,(args h2 hag).1,(args h2 hag).2,hp,rfl⟩⟩
    | some (k,0),hp,h4,args =>
      simp only[br,yY] at h4;subst h4;exact⟨_,none,rfl,fun _=>rfl,fun h=>absurd rfl h,fun h2 u2 hag _=>⟨res,(args h2 hag).1,(args h2 hag).2,hp,rfl⟩⟩
    | some (k,sz+1),hp,h4,args =>
      simp only[br] at h4;have key:∃ v ob,u (8*dst)=false∧r=(v,upd h (8*dst) (some ob),upd u (8*dst) true)∧∀ (h2:ah) (u2:Nat→Bool),u2 (8*dst)=false→cV h2 u2 dst k (sz+1) res=some (v,upd h2 (8*dst) (some ob),upd u2 (8*dst) true):=by
        unfold cV at h4 ⊢;split at h4
        ·split at h4
         ·rename_i hk;cases h4;exact⟨_,_,hk.2.2,rfl,fun h2 u2 hu=>by rw[if_pos ⟨hk.1,hk.2.1,hu⟩]⟩
         ·cases h4
        ·split at h4
         ·split at h4
          ·rename_i ws sz' es hws hk;cases h4;exact⟨_,_,hk.2,rfl,fun h2 u2 hu=>by simp only[hws,if_pos (And.intro hk.1 hu)]⟩
          ·cases h4
         ·cases h4
        ·split at h4
         ·split at h4
          ·rename_i cs sz' es hws hk;cases h4;exact⟨_,_,hk.2,rfl,fun h2 u2 hu=>by simp only[hws,if_pos (And.intro hk.1 hu)]⟩
          ·cases h4
         ·cases h4
        ·cases h4
      obtain⟨v,ob,k1,k2,k3⟩:=key;exact⟨v,some ob,k2,fun h=>absurd rfl h,fun _=>k1,fun h2 u2 hag hu=>⟨res,(args h2 hag).1,(args h2 hag).2,hp,k3 h2 u2 (hu (by simp))⟩⟩
  | callM f xs=>simp[ao.cls] at hc
  | _=>exact vW (by intro _ _ _ e; cases e) hc e
end
section
variable {P:Program} {G:au}
theorem dC {o:aj} {f f2:Nat→V} (h:∀ t∈o.looks,f2 t=f t):∀ x∈o.op.xs,ev G f2 x=ev G f x:=by
  intro x hx;cases x with
  | t n=>exact h n (zb _ (zY.2 ⟨.t n,hx,rfl⟩))
  | _=>rfl
theorem cZ {o:aj} {f f2:Nat→V} (h:∀ t∈o.looks,f2 t=f t) {t:Nat} {want:Bool} (hg:o.guard=some (t,want)):f2 t=f t :=
  h t (y1 _ (by rw[hg]; simp))
theorem dn {o:aj} {σ:St} {f2:Nat→V} {r:R} (h:∀ t∈o.looks,f2 t=σ.f t) (e:aR P G o σ r):aR P G o ⟨f2,σ.h,σ.u⟩ r:=by
  unfold aR at *
  cases hg:o.guard with
  | none =>
    rw[hg] at e;exact fP (dC h) e
  | some p =>
    obtain⟨t,want⟩:=p;rw[hg] at e;rcases e with ⟨b,h1,h2⟩ | ⟨h1,h2⟩
    ·refine .inl ⟨b,by rw[← h1]; exact congrArg aT (cZ h hg),?_⟩;rcases h2 with ⟨h2,h3⟩ | h2
     ·exact .inl ⟨h2,fP (dC h) h3⟩
     ·exact .inr h2
    ·exact .inr ⟨by rw[← h1]; exact cZ h hg,h2⟩
theorem gy {o:aj} {σ:St} {r:R} (hc:o.op.cls≤2) (e:aR P G o σ r) :
    ∃ v c,r=(v,dO σ.h (8*o.dst.getD 0) c,dP σ.u (8*o.dst.getD 0) c)∧(o.op.cls≠2→c=none)∧(c≠none→σ.u (8*o.dst.getD 0)=false) ∧
      ∀ σ2:St,(∀ t∈o.looks,σ2.f t=σ.f t)→(o.op.cls=0∨∀ x∈o.op.xs,∀ id∈(ev G σ.f x).ids,σ2.h id=σ.h id)→(c≠none→σ2.u (8*o.dst.getD 0)=false) →
        aR P G o σ2 (v,dO σ2.h (8*o.dst.getD 0) c,dP σ2.u (8*o.dst.getD 0) c):=by
  unfold aR at *
  cases hg:o.guard with
  | none =>
    rw[hg] at e;obtain⟨v,c,h1,h2,h3,h4⟩:=k9 hc e;exact⟨v,c,h1,h2,h3,fun σ2 ha hh hu=>fP (dC ha) (h4 σ2.h σ2.u hh hu)⟩
  | some p =>
    obtain⟨t,want⟩:=p;rw[hg] at e;rcases e with ⟨b,k1,k2⟩ | ⟨k1,k3⟩
    ·rcases k2 with ⟨k2,k3⟩ | ⟨k2,k3⟩
     ·obtain⟨v,c,h1,h2,h3,h4⟩:=k9 hc k3;exact⟨v,c,h1,h2,h3,fun σ2 ha hh hu=>.inl ⟨b,by rw[← k1]; exact congrArg aT (cZ ha hg),.inl ⟨k2,fP (dC ha) (h4 σ2.h σ2.u hh hu)⟩⟩⟩
     ·exact⟨.tup [],none,k3,fun _=>rfl,fun h=>absurd rfl h,fun σ2 ha hh hu=>.inl ⟨b,by rw[← k1]; exact congrArg aT (cZ ha hg),.inr ⟨k2,rfl⟩⟩⟩
    ·exact⟨.tup [],none,k3,fun _=>rfl,fun h=>absurd rfl h,fun σ2 ha hh hu=>.inr ⟨by rw[← k1]; exact cZ ha hg,rfl⟩⟩
theorem pf {o:aj} {σ:St} {r:R} (hb:o.op.isLB=true) (e:aR P G o σ r) :
    ∃ v,r=(v,σ.h,σ.u)∧∀ σ2:St,(∀ t∈o.looks,σ2.f t=σ.f t)→(∀ x∈o.op.xs,∀ id∈(ev G σ.f x).ids,∀ cs,σ.h id=some (.box cs)→σ2.h id=some (.box cs))→aR P G o σ2 (v,σ2.h,σ2.u):=by
  obtain⟨dst,op,guard⟩:=o;cases op <;> first | (cases hb; done) | skip
  rename_i kd x;have key:∀ r:R,cv P G (.loadB kd x) (ev G σ.f) σ.h σ.u (dst.getD 0) r→∃ v,r=(v,σ.h,σ.u)∧∀ σ2:St,(∀ t∈aj.looks ⟨dst,.loadB kd x,guard⟩,σ2.f t=σ.f t)→(∀ z∈[x],∀ id∈(ev G σ.f z).ids,∀ cs,σ.h id=some (.box cs)→σ2.h id=some (.box cs))→cv P G (.loadB kd x) (ev G σ2.f) σ2.h σ2.u (dst.getD 0) (v,σ2.h,σ2.u):=by
    intro r e;have e:ef (ev G σ.f) σ.h σ.u (dst.getD 0) (.loadB kd x)=some r:=e;simp only[ef,yX] at e;obtain⟨y,hy,rfl⟩:=e;refine⟨_,rfl,fun σ2 ha hh=>?_⟩
    show ef (ev G σ2.f) σ2.h σ2.u (dst.getD 0) (.loadB kd x)=_
    have hev:ev G σ2.f x=ev G σ.f x:=dC (o:=⟨dst,.loadB kd x,guard⟩) ha x (by simp[ao.xs]);simp only[ef,hev,xu hy (hh x (by simp)),Option.map_some]
  unfold aR at *
  cases guard with
  | none =>
    obtain⟨v,h1,h2⟩:=key r e;exact⟨v,h1,h2⟩
  | some p =>
    obtain⟨t,want⟩:=p;simp only at e ⊢;rcases e with ⟨b,k1,k2⟩ | ⟨k1,k3⟩
    ·rcases k2 with ⟨k2,k3⟩ | ⟨k2,k3⟩
     ·obtain⟨v,h1,h2⟩:=key r k3;exact⟨v,h1,fun σ2 ha hh=>.inl ⟨b,by rw[← k1]; exact congrArg aT (cZ ha rfl),.inl ⟨k2,h2 σ2 ha hh⟩⟩⟩
     ·exact⟨.tup [],k3,fun σ2 ha hh=>.inl ⟨b,by rw[← k1]; exact congrArg aT (cZ ha rfl),.inr ⟨k2,rfl⟩⟩⟩
    ·exact⟨.tup [],k3,fun σ2 ha hh=>.inr ⟨by rw[← k1]; exact cZ ha rfl,rfl⟩⟩
theorem gV {o:aj} {σ:St} {r:R} {kd:Kd} {x:SX} {ex:List SX} (hb:o.op=.loadX kd x ex) (e:aR P G o σ r) :
    ∃ v,r=(v,σ.h,σ.u)∧∀ σ2:St,(∀ t∈o.looks,σ2.f t=σ.f t)→(∀ id∈(ev G σ.f x).ids,(∀ y∈ex,id∉(ev G σ.f y).ids)→((ex.map (ev G σ.f)).any cO=true→bh (σ.h id)=true)→σ2.h id=σ.h id)→aR P G o σ2 (v,σ2.h,σ2.u):=by
  obtain⟨dst,op,guard⟩:=o;subst hb;have key:∀ r:R,cv P G (.loadX kd x ex) (ev G σ.f) σ.h σ.u (dst.getD 0) r→∃ v,r=(v,σ.h,σ.u)∧∀ σ2:St,(∀ t∈aj.looks ⟨dst,.loadX kd x ex,guard⟩,σ2.f t=σ.f t)→(∀ id∈(ev G σ.f x).ids,(∀ y∈ex,id∉(ev G σ.f y).ids)→((ex.map (ev G σ.f)).any cO=true→bh (σ.h id)=true)→σ2.h id=σ.h id)→cv P G (.loadX kd x ex) (ev G σ2.f) σ2.h σ2.u (dst.getD 0) (v,σ2.h,σ2.u):=by
    intro r e;have e:ef (ev G σ.f) σ.h σ.u (dst.getD 0) (.loadX kd x ex)=some r:=e;simp only[ef,yX] at e;obtain⟨y,hy,rfl⟩:=e;refine⟨_,rfl,fun σ2 ha hh=>?_⟩
    show ef (ev G σ2.f) σ2.h σ2.u (dst.getD 0) (.loadX kd x ex)=_
    have hev:∀ z∈x::ex,ev G σ2.f z=ev G σ.f z:=fun z hz=>dC (o:=⟨dst,.loadX kd x ex,guard⟩) ha z (by simpa [ao.xs] using hz)
    obtain⟨hd,hl⟩:=jF hy;obtain⟨hd3,_⟩:=fU hy;have h2:ex.map (ev G σ2.f)=ex.map (ev G σ.f):=zF fun z hz=>hev z (y9 _ hz)
    have hag:∀ id∈(ev G σ.f x).ids,σ2.h id=σ.h id:=fun id hid=>hh id hid (fun z hz=>(lr hd).2 _ (za.2 ⟨z,hz,rfl⟩) id hid) fun hu=>xS hy hu id hid
    have h3:aM σ2.h kd (ev G σ.f x)=aM σ.h kd (ev G σ.f x):=gE hag;simp only[ef,h2,hev x zh];unfold bO;rw[iO hag,if_pos hd3,h3,hl];rfl
  unfold aR at *
  cases guard with
  | none =>
    obtain⟨v,h1,h2⟩:=key r e;exact⟨v,h1,h2⟩
  | some p =>
    obtain⟨t,want⟩:=p;simp only at e ⊢;rcases e with ⟨b,k1,k2⟩ | ⟨k1,k3⟩
    ·rcases k2 with ⟨k2,k3⟩ | ⟨k2,k3⟩
     ·obtain⟨v,h1,h2⟩:=key r k3;exact⟨v,h1,fun σ2 ha hh=>.inl ⟨b,by rw[← k1]; exact congrArg aT (cZ ha rfl),.inl ⟨k2,h2 σ2 ha hh⟩⟩⟩
     ·exact⟨.tup [],k3,fun σ2 ha hh=>.inl ⟨b,by rw[← k1]; exact congrArg aT (cZ ha rfl),.inr ⟨k2,rfl⟩⟩⟩
    ·exact⟨.tup [],k3,fun σ2 ha hh=>.inr ⟨by rw[← k1]; exact cZ ha rfl,rfl⟩⟩
theorem lJ {h h':ah} {kd:Kd} {v:V} {w:W} (e:am h kd v w=some h') {id:Nat} (hi:id∉v.ids):h' id=h id:=by
  unfold am at e;split at e
  ·split at e
   ·simp only[yX] at e;obtain⟨o',_,rfl⟩:=e;exact upd_ne _ _ fun h=>hi (by simp[V.ids,W.ids,C.ids,h])
   ·cases e
  ·split at e
   ·split at e
    ·cases e;exact upd_ne _ _ fun h=>hi (by simp[V.ids,W.ids,C.ids,h])
    ·cases e
   ·cases e
  ·cases e
theorem pg {o:aj} {σ:St} {r:R} {kd:Kd} {x y:SX} {b:SX} (hb:(o.op=.store kd x y∧b=x)∨o.op=.storeX kd x y b) (e:aR P G o σ r):∀ id,id∉(ev G σ.f b).ids→r.2.1 id=σ.h id:=by
  obtain⟨dst,op,guard⟩:=o;have key:∀ r:R,cv P G op (ev G σ.f) σ.h σ.u (dst.getD 0) r→∀ id,id∉(ev G σ.f b).ids→r.2.1 id=σ.h id:=by
    intro r e;rcases hb with ⟨hb,rfl⟩ | hb
    ·simp only at hb;subst hb;have e:ef (ev G σ.f) σ.h σ.u (dst.getD 0) (.store kd b y)=some r:=e;simp only[ef] at e;split at e
     ·cases e
     ·simp only[yX] at e;obtain⟨h',h1,rfl⟩:=e;exact fun id hi=>lJ h1 hi
    ·simp only at hb;subst hb;have e:ef (ev G σ.f) σ.h σ.u (dst.getD 0) (.storeX kd x y b)=some r:=e;simp only[ef] at e;split at e
     ·cases e
     ·split at e
      ·rename_i hin;simp only[yX] at e;obtain⟨h',h1,rfl⟩:=e;refine fun id hi=>lJ h1 fun hx=>hi ?_
       unfold fA at hin;rw[zf] at hin
       simpa using hin id hx
      ·cases e
  unfold aR at e;cases guard with
  | none=>exact key r e
  | some p =>
    obtain⟨t,want⟩:=p;rcases e with ⟨b,k1,k2⟩ | ⟨k1,k3⟩
    ·rcases k2 with ⟨k2,k3⟩ | ⟨k2,k3⟩
     ·exact key r k3
     ·subst k3; exact fun _ _=>rfl
    ·subst k3; exact fun _ _=>rfl
theorem mW {x y:ao} (h:x.stL y=true):∃ kd a v b kd' c ex,((x=.store kd a v∧b=a)∨x=.storeX kd a v b)∧y=.loadX kd' c ex∧b∈ex∧b∈x.xs:=by
  unfold ao.stL at h;split at h
  ·rename_i kd n b kd' c ex;refine⟨_,_,_,_,_,_,_,.inl ⟨rfl,rfl⟩,rfl,?_,by simp[ao.xs]⟩;have h:n∈ex.filterMap SX.slot:=by simpa using h
   obtain⟨z,hz,hn⟩:=zY.1 h;cases z with
   | t m=>cases hn; exact hz
   | _=>cases hn
  ·rename_i kd a v n kd' c ex;refine⟨_,_,_,_,_,_,_,.inr rfl,rfl,?_,by simp[ao.xs]⟩;have h:n∈ex.filterMap SX.slot:=by simpa using h
   obtain⟨z,hz,hn⟩:=zY.1 h;cases z with
   | t m=>cases hn; exact hz
   | _=>cases hn
  ·cases h
theorem lc {h:ah} {u:Nat→Bool} {dst sz:Nat} {es:List D} {c:C} {r:R} (e:a9 h u dst (.row sz es) c=some r):∀ id,u id=true→∀ cs,(h id=some (.box cs)↔r.2.1 id=some (.box cs)):=by
  obtain⟨h1,rfl⟩:=eu e;intro id hu cs;have hne:id≠8*dst:=fun h=>by rw[h,h1] at hu; cases hu
  simp only[upd,if_neg hne]
theorem mX {o:aj} {σ:St} {r:R} (hb:o.op.isApp=true) (e:aR P G o σ r):∀ id,σ.u id=true→∀ cs,(σ.h id=some (.box cs)↔r.2.1 id=some (.box cs)):=by
  obtain⟨dst,op,guard⟩:=o;cases op <;> first | (cases hb; done) | skip
  rename_i str sz byt x y;have key:∀ r:R,cv P G (.app str sz byt x y) (ev G σ.f) σ.h σ.u (dst.getD 0) r→∀ id,σ.u id=true→∀ cs,(σ.h id=some (.box cs)↔r.2.1 id=some (.box cs)):=by
    intro r e;have e:ef (ev G σ.f) σ.h σ.u (dst.getD 0) (.app str sz byt x y)=some r:=e;simp only[ef] at e;split at e
    ·cases e
    ·split at e
     ·split at e
      ·split at e
       ·exact lc e
       ·cases e
      ·split at e
       ·rename_i hid;split at e
        ·intro id hu cs;rw[← lc e id hu cs];simp only[upd];split
         ·rename_i hi;rw[hi,hid];simp
         ·rfl
        ·cases e
       ·cases e
      ·cases e
     ·cases e
  unfold aR at e;cases guard with
  | none=>exact key r e
  | some p =>
    obtain⟨t,want⟩:=p;rcases e with ⟨b,k1,k2⟩ | ⟨k1,k3⟩
    ·rcases k2 with ⟨k2,k3⟩ | ⟨k2,k3⟩
     ·exact key r k3
     ·subst k3; exact fun _ _ _=>Iff.rfl
    ·subst k3; exact fun _ _ _=>Iff.rfl
theorem aj.apart_spec {x y:aj} (h:x.apart y=true):(∀ d,x.dst=some d→d∉y.looks)∧(∀ d,x.dst=some d→y.dst≠some d)∧(∀ d,y.dst=some d→d∉x.looks):=by
  refine⟨fun d hd=>?_,fun d hd=>?_,fun d hd=>?_⟩ <;> simp[aj.apart,hd] at h
  ·exact h.1.1
  ·exact h.1.2
  ·exact h.2
theorem lf {f:Nat→V} {d:Option Nat} {v:V} {l:List Nat} (h:∀ e,d=some e→e∉l):∀ t∈l,aB f d v t=f t:=by
  intro t ht;cases d with
  | none=>rfl
  | some e=>exact upd_ne f v fun h'=>h e rfl (h' ▸ ht)
theorem vX {f:Nat→V} {d e:Option Nat} {v u:V} (h:∀ x,d=some x→e≠some x):aB (aB f e u) d v=aB (aB f d v) e u:=by
  cases d with
  | none=>rfl
  | some x =>
    cases e with
    | none=>rfl
    | some y =>
      have hne:x≠y:=fun he=>h x rfl (he ▸ rfl)
      funext t
      simp only[aB,upd];split <;> split <;> simp_all
theorem eZ {α:Type} {f:Nat→α} {i j:Nat} {x y:α} (h:i≠j):upd (upd f j y) i x=upd (upd f i x) j y:=by
  funext t
  simp only[upd];split <;> split <;> simp_all
theorem pi {h:ah} {i j:Nat} {c:Option Ob} (hc:c≠none→j≠i):dO h i c j=h j:=by
  cases c with
  | none=>rfl
  | some o=>exact upd_ne _ _ (hc (by simp))
theorem pj {u:Nat→Bool} {i j:Nat} {c:Option Ob} (hc:c≠none→j≠i):dP u i c j=u j:=by
  cases c with
  | none=>rfl
  | some o=>exact upd_ne _ _ (hc (by simp))
def fo (h:ah):Option Nat→ah | none=>h | some id=>upd h id none
theorem ya {ρ:SX→V} {h:ah} {u:Nat→Bool} {dst:Nat} {str:Bool} {sz byt:Nat} {x y:SX} {r:R} (e:ef ρ h u dst (.app str sz byt x y)=some r) :
    ∃ v ob k,u (8*dst)=false∧(∀ id,k=some id→id∈(ρ x).ids)∧r=(v,upd (fo h k) (8*dst) (some ob),upd u (8*dst) true)∧∀ (h2:ah) (u2:Nat→Bool),(∀ id∈(ρ x).ids,h2 id=h id)→(∀ id∈(ρ y).ids,h2 id=h id)→u2 (8*dst)=false→ef ρ h2 u2 dst (.app str sz byt x y)=some (v,upd (fo h2 k) (8*dst) (some ob),upd u2 (8*dst) true):=by
  have src:∀ h2:ah,(∀ id∈(ρ y).ids,h2 id=h id)→dh h2 str (ρ y)=dh h str (ρ y):=by
    intro h2 hag;cases str with
    | true=>cases hy:ρ y with
      | w c=>cases c with
        | c d=>cases d with
          | d x=>cases x <;> rfl
          | _=>rfl
        | mix _=>rfl
      | _=>rfl
    | false=>simp only[dh,gF hag]
  simp only[ef] at e ⊢;split at e
  ·cases e
  ·rename_i ys hys;split at e
   ·rename_i hsz;split at e
    ·rename_i hx;split at e
     ·rename_i hk;obtain⟨h1,h2⟩:=eu e;refine⟨_,_,none,h1,(fun id h=>nomatch h),h2,fun h2 u2 _ hag hu=>?_⟩;simp only[src h2 hag,hys,if_pos hsz,if_pos hk];exact eB hu
     ·cases e
    ·rename_i id sz' off n hx;split at e
     ·rename_i sz2 es hid;split at e
      ·rename_i hk;obtain⟨h1,h2⟩:=eu e;refine⟨_,_,some id,h1,fun i h=>?_,h2,fun h2 u2 hax hag hu=>?_⟩
       ·cases h;rw[hx]; simp[V.ids,W.ids,C.ids]
       ·have hi:h2 id=some (.row sz2 es):=by
          rw[hax id (by rw[hx]; simp[V.ids,W.ids,C.ids])]; exact hid
        simp only[src h2 hag,hys,if_pos hsz,hi,if_pos hk];exact eB hu
      ·cases e
     ·cases e
    ·cases e
   ·cases e
theorem lK {o:aj} {σ:St} {r:R} (hb:o.op.isApp=true) (hg:o.guard=none) (e:aR P G o σ r) :
    ∃ v ob k,σ.u (8*o.dst.getD 0)=false∧(∀ id,k=some id→∃ x∈o.op.xs,id∈(ev G σ.f x).ids)∧r=(v,upd (fo σ.h k) (8*o.dst.getD 0) (some ob),upd σ.u (8*o.dst.getD 0) true) ∧
      ∀ σ2:St,(∀ t∈o.looks,σ2.f t=σ.f t)→(∀ x∈o.op.xs,∀ id∈(ev G σ.f x).ids,σ2.h id=σ.h id)→σ2.u (8*o.dst.getD 0)=false→aR P G o σ2 (v,upd (fo σ2.h k) (8*o.dst.getD 0) (some ob),upd σ2.u (8*o.dst.getD 0) true):=by
  obtain⟨dst,op,guard⟩:=o;cases op <;> first | (cases hb; done) | skip
  rename_i str sz byt x y;subst hg;have e':ef (ev G σ.f) σ.h σ.u (dst.getD 0) (.app str sz byt x y)=some r:=e;obtain⟨v,ob,k,h1,h2,h3,h4⟩:=ya e';refine⟨v,ob,k,h1,fun id hk=>⟨x,zh,h2 id hk⟩,h3,fun σ2 ha hh hu=>?_⟩;have h5:=h4 σ2.h σ2.u (hh x zh) (hh y (y9 _ zh)) hu;have h6:cv P G (.app str sz byt x y) (ev G σ.f) σ2.h σ2.u (dst.getD 0) _:=h5;exact fP (dC (o:=⟨dst,.app str sz byt x y,none⟩) ha) h6
theorem mY {o:aj} {σ:St} {r:R} (hb:o.op.isAlc=true) (hg:o.guard=none) (e:aR P G o σ r) :
    ∃ v ob,σ.u (8*o.dst.getD 0)=false∧r=(v,upd σ.h (8*o.dst.getD 0) (some ob),upd σ.u (8*o.dst.getD 0) true) ∧
      ∀ σ2:St,σ2.u (8*o.dst.getD 0)=false→aR P G o σ2 (v,upd σ2.h (8*o.dst.getD 0) (some ob),upd σ2.u (8*o.dst.getD 0) true):=by
  obtain⟨dst,op,guard⟩:=o;cases op <;> first | (cases hb; done) | skip
  rename_i cs;subst hg;have e':ef (ev G σ.f) σ.h σ.u (dst.getD 0) (.alloc cs)=some r:=e;simp only[ef] at e';obtain⟨h1,h2⟩:=eu e';refine⟨_,_,h1,h2,fun σ2 hu=>?_⟩
  show ef (ev G σ2.f) σ2.h σ2.u (dst.getD 0) (.alloc cs)=_
  simp only[ef];exact eB hu
theorem lL {h:ah} {k:Option Nat} {i:Nat} {o:Option Ob} (hk:∀ id,k=some id→id≠i):fo (upd h i o) k=upd (fo h k) i o:=by
  cases k with
  | none=>rfl
  | some id=>exact eZ (hk id rfl)
theorem pk {x y:aj} (a2:∀ d,x.dst=some d→y.dst≠some d) (hp:x.plain=true∧y.plain=true):8*x.dst.getD 0≠8*y.dst.getD 0∧x.guard=none∧y.guard=none:=by
  unfold aj.plain at hp;simp only[zi,Option.isNone_iff_eq_none,zV] at hp;obtain⟨⟨g1,d1,e1⟩,g2,d2,e2⟩:=hp;refine⟨fun h=>?_,g1,g2⟩;rw[e1,e2] at h;simp only[Option.getD_some] at h;have:d1=d2:=by omega
  exact a2 d1 e1 (this ▸ e2)
theorem mZ {x y:ao} (h:x.cmL y=true):∃ F xs kd c ex,x=.callM F xs∧y=.loadX kd c ex∧ex.any SX.isU=true∧∀ z∈(if xs.any SX.isU=true then dW xs else xs),SX.inL ex z=true:=by
  unfold ao.cmL at h;split at h
  ·rename_i F xs kd c ex;rw[zi] at h;exact⟨_,_,_,_,_,rfl,rfl,h.1,zf.1 h.2⟩
  ·cases h
theorem tS {f:Nat→V} {ex:List SX} (h:ex.any SX.isU=true):(ex.map (ev G f)).any cO=true:=by
  obtain⟨z,hz,hu⟩:=zR.1 h;refine zR.2 ⟨_,za.2 ⟨z,hz,rfl⟩,?_⟩;cases z <;> first | rfl | cases hu
theorem pm {f:Nat→V} {ex:List SX} {z:SX} {n:Nat} (h:SX.inL ex z=true) (hn:∀ y∈ex,n∉(ev G f y).ids):n∉(ev G f z).ids:=by
  cases z with
  | t k =>
    have h:k∈ex.filterMap SX.slot:=by simpa [SX.inL] using h
    obtain⟨y,hy,hk⟩:=zY.1 h;cases y with
    | t m=>cases hk; exact hn _ hy
    | _=>cases hk
  | k v =>
    have h:v.ids=[]:=List.isEmpty_iff.1 h
    show n∉v.ids
    rw[h]; exact List.not_mem_nil
  | _=>cases h
theorem jw (g:Nat→Nat) (o:Ob):bh (some (o.ren g))=bh (some o):=by cases o <;> rfl
theorem m5 {h:ah} {u:Nat→Bool} {f:FuncId} {ys:List W} {r:R} (e:dV P G h u f ys r) {n:Nat} (hu:u n=true) (hn:∀ y∈ys,n∉y.ids) (hb:bh (h n)=true∨bh (r.2.1 n)=true):r.2.1 n=h n:=by
  obtain⟨g,args,h0,L,res,h1,L1,⟨⟨_,p2,_,_,_⟩,_⟩,rfl,hh0,hinj,hfresh,hdir,rfl⟩:=e;have noL:∀ i∈L,g i≠n:=fun i hi he=>by
    rcases hdir i hi with ⟨x,hx,hix⟩ | ⟨q0,q1⟩
    ·refine hn _ (za.2 ⟨x,hx,rfl⟩) ?_;rw[W.ids_ren,← he];exact za.2 ⟨i,hix,rfl⟩
    ·obtain⟨o,ho⟩:=y7.1 (p2 i hi);rcases hb with hb | hb
     ·rw[← he,hh0 i o ho,jw,← ho,q0] at hb;cases hb
     ·have hb:bh (cU h g L L1 h1 n)=true:=hb;unfold cU at hb;split at hb
      ·rename_i id hf;have k1:=zD hf;have k2:=List.find?_some hf;simp only[beq_iff_eq] at k2;have:id=i:=hinj id (y1 _ k1) i (zb _ hi) (by rw[k2,he]);subst this;cases h9:h1 id with
       | none=>rw[h9] at hb; cases hb
       | some o1 =>
         rw[h9] at hb q1;have hb:bh (some (o1.ren g))=true:=hb;rw[jw,q1] at hb;cases hb
      ·rw[if_pos (zR.2 ⟨i,hi,by simpa using he⟩)] at hb;cases hb
  have noL1:∀ i∈L1,g i≠n:=fun i hi he=>by
    by_cases k:i∈L
    ·exact noL i k he
    ·have:=hfresh i hi k;rw[he,hu] at this;cases this
  show cU h g L L1 h1 n=h n
  unfold cU;split
  ·rename_i id hf;have k2:=List.find?_some hf;simp only[beq_iff_eq] at k2;exact absurd k2 (noL1 id (zD hf))
  ·rw[if_neg];intro hc;obtain⟨i,hi,he⟩:=zR.1 hc;exact noL i hi (by simpa using he)
theorem lM {h h1:ah} {g:Nat→Nat} {L L1:List Nat} {n:Nat} {o:Option Ob} (k:∀ i∈L,g i≠n) (k1:∀ i∈L1,g i≠n):cU (upd h n o) g L L1 h1=upd (cU h g L L1 h1) n o:=by
  funext i
  by_cases hi:i=n
  ·subst hi;rw[upd_same];unfold cU;rw[List.find?_eq_none.2 (fun id hid=>by simpa using k1 id hid)]
   show (if (L.any fun id=>g id==i)=true then none else upd h i o i)=o
   rw[if_neg (by rw[zR]; rintro⟨j,hj,he⟩; exact k j hj (by simpa using he)),upd_same]
  ·rw[upd_ne _ _ hi];unfold cU;rw[upd_ne _ _ hi]
theorem lN {u:Nat→Bool} {g:Nat→Nat} {L1:List Nat} {n:Nat}:dd (upd u n true) g L1=upd (dd u g L1) n true:=by
  funext i
  by_cases hi:i=n
  ·subst hi; rw[upd_same]; unfold dd; rw[upd_same,Bool.true_or]
  ·rw[upd_ne _ _ hi]; unfold dd; rw[upd_ne _ _ hi]
theorem pn {h:ah} {u:Nat→Bool} {f:FuncId} {ys:List W} {r:R} (e:dV P G h u f ys r) {n:Nat} {ob:Ob} (hn:h n=none) (hr:r.2.2 n=false):dV P G (upd h n (some ob)) (upd u n true) f ys (r.1,upd r.2.1 n (some ob),upd r.2.2 n true):=by
  obtain⟨g,args,h0,L,res,h1,L1,hd,rfl,hh0,hinj,hfresh,hdir,rfl⟩:=e;have hr:(u n || L1.any fun id=>g id==n)=false:=hr;rw[Bool.or_eq_false_iff] at hr;have noL:∀ i∈L,g i≠n:=fun i hi he=>by
    obtain⟨o,ho⟩:=y7.1 (hd.1.2.1 i hi);have:=hh0 i o ho;rw[he,hn] at this; cases this
  have noL1:∀ i∈L1,g i≠n:=fun i hi he=>by
    have:=List.any_eq_false.1 hr.2 i hi;simp[he] at this
  refine⟨g,args,h0,L,res,h1,L1,hd,rfl,fun id o ho=>?_,hinj,fun id hid hl=>?_,hdir,?_⟩
  ·rw[upd_ne _ _ (noL id (hd.1.1 id o ho).1)]; exact hh0 id o ho
  ·rw[upd_ne _ _ (noL1 id hid)]; exact hfresh id hid hl
  ·rw[lM noL noL1,lN]
theorem po {h:ah} {u:Nat→Bool} {f:FuncId} {ys:List W} {r:R} {n:Nat} {ob:Ob} (e:dV P G (upd h n (some ob)) (upd u n true) f ys r) (hb:bh (some ob)=true) (hu:u n=false) (hn:∀ y∈ys,n∉y.ids) :
    ∃ r1:R,dV P G h u f ys r1∧r1.2.2 n=false∧r=(r1.1,upd r1.2.1 n (some ob),upd r1.2.2 n true):=by
  obtain⟨g,args,h0,L,res,h1,L1,hd,rfl,hh0,hinj,hfresh,hdir,rfl⟩:=e;have noL:∀ i∈L,g i≠n:=fun i hi he=>by
    rcases hdir i hi with ⟨x,hx,hix⟩ | ⟨q0,_⟩
    ·refine hn _ (za.2 ⟨x,hx,rfl⟩) ?_;rw[W.ids_ren,← he];exact za.2 ⟨i,hix,rfl⟩
    ·obtain⟨o,ho⟩:=y7.1 (hd.1.2.1 i hi);have h9:=hh0 i o ho;rw[he,upd_same] at h9;rw[h9,jw,← ho,q0] at hb;cases hb
  have noL1:∀ i∈L1,g i≠n:=fun i hi he=>by
    by_cases k:i∈L
    ·exact noL i k he
    ·have:=hfresh i hi k;rw[he,upd_same] at this;cases this
  refine⟨_,⟨g,args,h0,L,res,h1,L1,hd,rfl,fun id o ho=>?_,hinj,fun id hid hl=>?_,hdir,rfl⟩,?_,?_⟩
  ·have:=hh0 id o ho
   rwa [upd_ne _ _ (noL id (hd.1.1 id o ho).1)] at this
  ·have:=hfresh id hid hl
   rwa [upd_ne _ _ (noL1 id hid)] at this
  ·show (u n || L1.any fun id=>g id==n)=false
   rw[hu,Bool.false_or,List.any_eq_false];exact fun i hi he=>noL1 i hi (by simpa using he)
  ·rw[lM noL noL1,lN]
theorem gW (p:Cp):(Cp.w p).ids=p.ids:=by cases p <;> rfl
theorem vf {h:ah} {u:Nat→Bool} {f:FuncId} {vs:List V} {r:R} (e:cN P G h u f vs r) {n:Nat} (hu:u n=true) (hn:∀ v∈vs,n∉v.ids) (hb:bh (h n)=true∨bh (r.2.1 n)=true):r.2.1 n=h n:=by
  rcases e with ⟨_,xs,rfl,e⟩ | ⟨_,g,pre,post,xs,rfl,_,e⟩
  ·exact m5 e hu (fun y hy=>hn (.w y) (za.2 ⟨y,hy,rfl⟩)) hb
  ·have hc:=hn _ zh;have hc:n∉pre.flatMap Cp.ids++post.flatMap Cp.ids:=hc;refine m5 e hu (fun y hy=>?_) hb;rcases ze.1 hy with hy | hy
   ·rcases ze.1 hy with hy | hy
    ·obtain⟨p,hp,rfl⟩:=za.1 hy;rw[gW];exact fun hi=>hc (zb _ (y0.2 ⟨p,hp,hi⟩))
    ·exact hn (.w y) (y9 _ (za.2 ⟨y,hy,rfl⟩))
   ·obtain⟨p,hp,rfl⟩:=za.1 hy;rw[gW];exact fun hi=>hc (y1 _ (y0.2 ⟨p,hp,hi⟩))
theorem pp {o:aj} {σ:St} {r:R} {F:FuncId} {xs:List SX} (hb:o.op=.callM F xs) (e:aR P G o σ r):∀ n,σ.u n=true→(∀ z∈(if xs.any SX.isU=true then dW xs else xs),n∉(ev G σ.f z).ids)→(bh (σ.h n)=true∨bh (r.2.1 n)=true)→r.2.1 n=σ.h n:=by
  obtain⟨dst,op,guard⟩:=o;subst hb;have key:∀ r:R,cv P G (.callM F xs) (ev G σ.f) σ.h σ.u (dst.getD 0) r→∀ n,σ.u n=true→(∀ z∈(if xs.any SX.isU=true then dW xs else xs),n∉(ev G σ.f z).ids)→(bh (σ.h n)=true∨bh (r.2.1 n)=true)→r.2.1 n=σ.h n:=fun r e n hu hn hb=>by
    have e:cN P G σ.h σ.u F ((bH xs).map (ev G σ.f)) r∧ea (ev G σ.f) xs=true:=e;refine vf e.1 hu (fun v hv=>?_) hb;obtain⟨z,hz,rfl⟩:=za.1 hv;have e2:=e.2;unfold ea at e2;by_cases hx:xs.any SX.isU=true
    ·rw[if_pos hx] at hn;rw[hx,Bool.not_true,Bool.false_or] at e2;intro hi;have k1:=zf.1 (zf.1 e2 z hz) n hi;obtain⟨y,hy,k2⟩:=zR.1 k1;exact hn y hy (by simpa using k2)
    ·rw[if_neg hx] at hn;exact hn z (fO z hz)
  unfold aR at e;cases guard with
  | none=>exact key r e
  | some p =>
    obtain⟨t,want⟩:=p;rcases e with ⟨b,k1,k2⟩ | ⟨k1,k3⟩
    ·rcases k2 with ⟨k2,k3⟩ | ⟨k2,k3⟩
     ·exact key r k3
     ·subst k3; exact fun _ _ _ _=>rfl
    ·subst k3; exact fun _ _ _ _=>rfl
theorem vY {g:FuncId} {pre post:List Cp} {xs:List W} {n:Nat} (hn:∀ v∈V.w (.c (.cf g pre post))::xs.map V.w,n∉v.ids):∀ y∈pre.map Cp.w++xs++post.map Cp.w,n∉y.ids:=by
  have hc:=hn _ zh;have hc:n∉pre.flatMap Cp.ids++post.flatMap Cp.ids:=hc;intro y hy;rcases ze.1 hy with hy | hy
  ·rcases ze.1 hy with hy | hy
   ·obtain⟨p,hp,rfl⟩:=za.1 hy;rw[gW];exact fun hi=>hc (zb _ (y0.2 ⟨p,hp,hi⟩))
   ·exact hn (.w y) (y9 _ (za.2 ⟨y,hy,rfl⟩))
  ·obtain⟨p,hp,rfl⟩:=za.1 hy;rw[gW];exact fun hi=>hc (y1 _ (y0.2 ⟨p,hp,hi⟩))
theorem vg {h:ah} {u:Nat→Bool} {f:FuncId} {vs:List V} {r:R} (e:cN P G h u f vs r) {n:Nat} (hn:u n=true):r.2.2 n=true:=by
  rcases e with ⟨_,_,_,_,_,_,_,_,_,_,_,_,_,_,_,_,rfl⟩ | ⟨_,_,_,_,_,_,_,_,_,_,_,_,_,_,_,_,_,_,_,_,rfl⟩ <;> (show (u n || _)=true; rw[hn,Bool.true_or])
theorem vZ {h:ah} {u:Nat→Bool} {f:FuncId} {vs:List V} {r:R} (e:cN P G h u f vs r) {n:Nat} {ob:Ob} (hn:h n=none) (hr:r.2.2 n=false):cN P G (upd h n (some ob)) (upd u n true) f vs (r.1,upd r.2.1 n (some ob),upd r.2.2 n true):=by
  rcases e with ⟨k,xs,k1,e⟩ | ⟨k,g,pre,post,xs,k1,k2,e⟩
  ·exact .inl ⟨k,xs,k1,pn e hn hr⟩
  ·exact .inr ⟨k,g,pre,post,xs,k1,k2,pn e hn hr⟩
theorem v3 {h:ah} {u:Nat→Bool} {f:FuncId} {vs:List V} {r:R} {n:Nat} {ob:Ob} (e:cN P G (upd h n (some ob)) (upd u n true) f vs r) (hb:bh (some ob)=true) (hu:u n=false) (hn:∀ v∈vs,n∉v.ids) :
    ∃ r1:R,cN P G h u f vs r1∧r1.2.2 n=false∧r=(r1.1,upd r1.2.1 n (some ob),upd r1.2.2 n true):=by
  rcases e with ⟨k,xs,rfl,e⟩ | ⟨k,g,pre,post,xs,rfl,k2,e⟩
  ·obtain⟨r1,e1,e2,e3⟩:=po e hb hu (fun y hy=>hn (.w y) (za.2 ⟨y,hy,rfl⟩));exact⟨r1,.inl ⟨k,xs,rfl,e1⟩,e2,e3⟩
  ·obtain⟨r1,e1,e2,e3⟩:=po e hb hu (vY hn);exact⟨r1,.inr ⟨k,g,pre,post,xs,rfl,k2,e1⟩,e2,e3⟩
theorem lO {o:aj} (hb:o.op.isCM=true) (hg:o.guard=none):∃ F xs,o.op=.callM F xs∧∀ (σ:St) (r:R),aR P G o σ r↔(cN P G σ.h σ.u F ((bH xs).map (ev G σ.f)) r∧ea (ev G σ.f) xs=true):=by
  obtain⟨dst,op,guard⟩:=o;cases op <;> first | (cases hb; done) | skip
  rename_i F xs;subst hg;exact⟨F,xs,rfl,fun σ r=>Iff.rfl⟩
theorem m6 {o:aj} {σ:St} {r:R} (hb:o.op.isAlc=true) (hg:o.guard=none) (e:aR P G o σ r) :
    ∃ v ob,bh (some ob)=true∧σ.u (8*o.dst.getD 0)=false∧r=(v,upd σ.h (8*o.dst.getD 0) (some ob),upd σ.u (8*o.dst.getD 0) true) ∧
      ∀ σ2:St,σ2.u (8*o.dst.getD 0)=false→aR P G o σ2 (v,upd σ2.h (8*o.dst.getD 0) (some ob),upd σ2.u (8*o.dst.getD 0) true):=by
  obtain⟨dst,op,guard⟩:=o;cases op <;> first | (cases hb; done) | skip
  rename_i cs;subst hg;have e':ef (ev G σ.f) σ.h σ.u (dst.getD 0) (.alloc cs)=some r:=e;simp only[ef] at e';obtain⟨h1,h2⟩:=eu e';refine⟨_,_,rfl,h1,h2,fun σ2 hu=>?_⟩
  show ef (ev G σ2.f) σ2.h σ2.u (dst.getD 0) (.alloc cs)=_
  simp only[ef];exact eB hu
theorem swap {x y:aj} (hi:x.indep y=true) {σ:St} (hl:∀ id o,σ.h id=some o→σ.u id=true) (hw:∀ z,z=x∨z=y→∀ o∈z.op.xs,∀ id∈(ev G σ.f o).ids,σ.u id=true) {r1 r2:R} (hx:aR P G x σ r1) (hy:aR P G y (σ.put x.dst r1) r2) :
    ∃ r2' r1',aR P G y σ r2'∧aR P G x (σ.put y.dst r2') r1'∧(σ.put y.dst r2').put x.dst r1'=(σ.put x.dst r1).put y.dst r2:=by
  simp only[aj.indep,zi,Bool.or_eq_true,beq_iff_eq,decide_eq_true_eq] at hi;obtain⟨⟨⟨hap,hcl⟩,hsx⟩,hsy⟩:=hi;obtain⟨a1,a2,a3⟩:=aj.apart_spec hap;have ay:∀ v,∀ t∈y.looks,σ.f t=aB σ.f x.dst v t:=fun v t ht=>(lf (v:=v) a1 t ht).symm
  have ax:∀ v,∀ t∈x.looks,aB σ.f y.dst v t=σ.f t:=fun v t ht=>lf (v:=v) a3 t ht
  have com:∀ v u,aB (aB σ.f y.dst u) x.dst v=aB (aB σ.f x.dst v) y.dst u:=fun v u=>vX a2
  have evy0:∀ v,∀ o∈y.op.xs,ev G (aB σ.f x.dst v) o=ev G σ.f o:=fun v=>dC fun t ht=>(ay v t ht).symm
  rcases hcl with (((((((hcl | hcl) | hcl) | hcl) | hcl) | hcl) | hcl) | hcl) | hcl
  rotate_right
  ·obtain⟨hcl,hpl⟩:=hcl;obtain⟨nd,g1,g2⟩:=pk a2 hpl;rcases hcl with ⟨c1,c2⟩ | ⟨c1,c2⟩
   ·
    obtain⟨F,xs,ex,kx⟩:=lO (P:=P) (G:=G) c1 g1;obtain⟨v2,o2,qb,q1,rfl,q3⟩:=m6 c2 g2 hy;obtain⟨e1,e2⟩:=(kx _ _).1 hx;simp only[St.put] at q1;have q0:σ.u (8*y.dst.getD 0)=false:=by
      cases hq:σ.u (8*y.dst.getD 0)
      ·rfl
      ·rw[vg e1 hq] at q1; cases q1
    have hn:σ.h (8*y.dst.getD 0)=none:=by
      cases hq:σ.h (8*y.dst.getD 0) with
      | none=>rfl
      | some o=>rw[hl _ o hq] at q0; cases q0
    refine⟨_,(r1.1,upd r1.2.1 (8*y.dst.getD 0) (some o2),upd r1.2.2 (8*y.dst.getD 0) true),q3 σ q0,dn (σ:=⟨σ.f,_,_⟩) (ax _) ((kx _ _).2 ⟨vZ e1 hn q1,e2⟩),?_⟩;simp only[St.put,com]
   ·
    obtain⟨F,xs,ey,ky⟩:=lO (P:=P) (G:=G) c2 g2;obtain⟨v1,o1,qb,q1,rfl,q3⟩:=m6 c1 g1 hx;have hy':=dn (σ:=St.put σ x.dst _) (f2:=σ.f) (ay v1) hy;obtain⟨e1,e2⟩:=(ky _ _).1 hy';obtain⟨r3,e3,e4,e5⟩:=v3 e1 qb q1 (fun v hv=>by
      obtain⟨z,hz,rfl⟩:=za.1 hv;intro hi;have:=hw y (.inr rfl) z (by rw[ey]; exact fO z hz) _ hi;rw[q1] at this; cases this)
    subst e5;refine⟨r3,_,(ky σ r3).2 ⟨e3,e2⟩,q3 (σ.put y.dst r3) e4,?_⟩;simp only[St.put,com]
  rotate_right
  ·rcases hcl with hcl | hcl
   ·
    obtain⟨F,xs,kd',c,ex,ex1,ey1,hu,ha⟩:=mZ hcl;obtain⟨v2,rfl,k4⟩:=gV ey1 hy;have hcm:=pp ex1 hx;have hxs:∀ z∈c::ex,ev G (aB σ.f x.dst r1.1) z=ev G σ.f z:=fun z hz=>evy0 _ z (by rw[ey1]; exact hz)
    refine⟨(v2,σ.h,σ.u),r1,k4 σ (ay _) (fun id hid hn hb=>?_),dn (σ:=σ) (ax _) hx,?_⟩
    ·simp only[St.put] at hid hn hb ⊢;rw[hxs c zh] at hid;exact (hcm id (hw y (.inr rfl) c (by rw[ey1]; exact zh) id hid) (fun z hz=>pm (ha z hz) fun y2 hy2=>by rw[← hxs y2 (y9 _ hy2)]; exact hn y2 hy2) (.inr (hb (tS hu)))).symm
    ·simp only[St.put,com]
   ·
    obtain⟨F,xs,kd',c,ex,ey1,ex1,hu,ha⟩:=mZ hcl;obtain⟨v1,rfl,k4⟩:=gV ex1 hx;have hy':aR P G y σ r2:=dn (σ:=σ.put x.dst _) (ay v1) hy;have hcm:=pp ey1 hy';refine⟨r2,(v1,r2.2.1,r2.2.2),hy',k4 (σ.put y.dst r2) (ax _) (fun id hid hn hb=>?_),?_⟩
    ·exact hcm id (hw x (.inl rfl) c (by rw[ex1]; exact zh) id hid) (fun z hz=>pm (ha z hz) hn) (.inl (hb (tS hu)))
    ·simp only[St.put,com]
  rotate_right
  ·rcases hcl with hcl | hcl
   ·
    obtain⟨kd,a0,v0,a,kd',c,ex,ex1,ey1,ha,_⟩:=mW hcl;obtain⟨v2,rfl,k4⟩:=gV ey1 hy;have hst:=pg ex1 hx;have hxs:∀ z∈c::ex,ev G (aB σ.f x.dst r1.1) z=ev G σ.f z:=fun z hz=>evy0 _ z (by rw[ey1]; exact hz)
    refine⟨(v2,σ.h,σ.u),r1,k4 σ (ay _) (fun id hid hn _=>?_),dn (σ:=σ) (ax _) hx,?_⟩
    ·have h1:=hn a ha;simp only[St.put] at h1 ⊢;rw[hxs a (y9 _ ha)] at h1;exact (hst id h1).symm
    ·simp only[St.put,com]
   ·
    obtain⟨kd,a0,v0,a,kd',c,ex,ey1,ex1,ha,_⟩:=mW hcl;obtain⟨v1,rfl,k4⟩:=gV ex1 hx;have hy':aR P G y σ r2:=dn (σ:=σ.put x.dst _) (ay v1) hy;have hst:=pg ey1 hy';refine⟨r2,(v1,r2.2.1,r2.2.2),hy',k4 (σ.put y.dst r2) (ax _) (fun id hid hn _=>hst id (hn a ha)),?_⟩;simp only[St.put,com]
  rotate_right
  ·obtain⟨hcl,hpl⟩:=hcl;obtain⟨nd,g1,g2⟩:=pk a2 hpl;rcases hcl with ⟨c1,c2⟩ | ⟨c1,c2⟩
   ·
    obtain⟨v1,o1,k,p1,p2,rfl,p4⟩:=lK c1 g1 hx;obtain⟨v2,o2,q1,rfl,q3⟩:=mY c2 g2 hy;simp only[St.put] at q1;rw[upd_ne _ _ (Ne.symm nd)] at q1;have hk:∀ id,k=some id→id≠8*y.dst.getD 0:=fun id h e=>by
      obtain⟨z,hz,hi⟩:=p2 id h;have:=hw x (.inl rfl) z hz id hi;rw[e,q1] at this; cases this
    have hy':=q3 σ q1;refine⟨_,_,hy',p4 (σ.put y.dst _) (ax _) (fun z hz id hid=>?_) ?_,?_⟩
    ·have h1:=hw x (.inl rfl) z hz id hid;simp only[St.put];exact upd_ne _ _ fun e=>by rw[e,q1] at h1; cases h1
    ·simp only[St.put];rw[upd_ne _ _ nd]; exact p1
    ·simp only[St.put,com];rw[lL hk,eZ nd,eZ nd]
   ·
    obtain⟨v1,o1,q1,rfl,q3⟩:=mY c1 g1 hx;obtain⟨v2,o2,k,p1,p2,rfl,p4⟩:=lK c2 g2 hy;simp only[St.put] at p1 p2 p4;have hid:∀ z∈y.op.xs,∀ id∈(ev G σ.f z).ids,id≠8*x.dst.getD 0:=fun z hz id hi e=>by
      have:=hw y (.inr rfl) z hz id hi;rw[e,q1] at this; cases this
    have hk:∀ id,k=some id→id≠8*x.dst.getD 0:=fun id h=>by
      obtain⟨z,hz,hi⟩:=p2 id h;rw[evy0 _ z hz] at hi;exact hid z hz id hi
    have p1':σ.u (8*y.dst.getD 0)=false:=by rwa [upd_ne _ _ (Ne.symm nd)] at p1
    have hy':=p4 σ (ay _) (fun z hz id hi=>by
      rw[evy0 _ z hz] at hi;exact (upd_ne _ _ (hid z hz id hi)).symm) p1'
    refine⟨_,_,hy',q3 (σ.put y.dst _) ?_,?_⟩
    ·simp only[St.put];rw[upd_ne _ _ nd]; exact q1
    ·simp only[St.put,com];rw[lL hk,eZ nd,eZ nd]
  rotate_right
  ·
   obtain⟨v2,rfl,k4⟩:=pf hcl.2 hy;refine⟨(v2,σ.h,σ.u),r1,k4 σ (ay _) (fun o ho id hid cs hb=>?_),dn (σ:=σ) (ax _) hx,?_⟩
   ·simp only[St.put] at hid hb;rw[evy0 _ o ho] at hid;exact (mX hcl.1 hx id (hw y (.inr rfl) o ho id hid) cs).2 hb
   ·simp only[St.put,com]
  rotate_right
  ·
   obtain⟨v1,rfl,k4⟩:=pf hcl.1 hx;have hy':aR P G y σ r2:=dn (σ:=σ.put x.dst _) (ay v1) hy;refine⟨r2,(v1,r2.2.1,r2.2.2),hy',k4 (σ.put y.dst r2) (ax _) (fun o ho id hid cs hb=>?_),?_⟩
   ·exact (mX hcl.2 hy' id (hw x (.inl rfl) o ho id hid) cs).1 hb
   ·simp only[St.put,com]
  ·
   obtain⟨v1,c1,rfl,k2,_,k4⟩:=gy (by omega) hx;obtain rfl:=k2 (by omega);refine⟨r2,(v1,r2.2.1,r2.2.2),dn (σ:=σ.put x.dst _) (ay v1) hy,k4 (σ.put y.dst r2) (ax _) (.inl hcl) (fun h=>absurd rfl h),?_⟩;simp only[St.put,com]
  ·
   obtain⟨v2,c2,rfl,k2,_,k4⟩:=gy (by omega) hy;obtain rfl:=k2 (by omega);refine⟨(v2,σ.h,σ.u),r1,k4 σ (ay _) (.inl hcl) (fun h=>absurd rfl h),dn (σ:=σ) (ax _) hx,?_⟩;simp only[St.put,com,dO,dP]
  ·obtain⟨v1,c1,rfl,k2,k3,k4⟩:=gy hcl.1 hx;obtain⟨v2,c2,rfl,q2,q3,q4⟩:=gy hcl.2 hy;have dx:c1≠none→∃ d,x.dst=some d:=fun h=>by
     have h2:x.op.cls=2:=by
       rcases zP x.op.cls 2 with hlt | hge
       ·exact absurd (k2 (by omega)) h
       ·omega
     simp only[aj.sound,h2,zi] at hsx
     simpa [zV] using hsx.2
   have dy:c2≠none→∃ d,y.dst=some d:=fun h=>by
     have h2:y.op.cls=2:=by
       rcases zP y.op.cls 2 with hlt | hge
       ·exact absurd (q2 (by omega)) h
       ·omega
     simp only[aj.sound,h2,zi] at hsy
     simpa [zV] using hsy.2
   have ne:c1≠none→c2≠none→8*x.dst.getD 0≠8*y.dst.getD 0:=fun h1 h2 e=>by
     obtain⟨d1,e1⟩:=dx h1;obtain⟨d2,e2⟩:=dy h2;rw[e1,e2] at e;simp only[Option.getD_some] at e;have:d1=d2:=by omega
     exact a2 d1 e1 (this ▸ e2)
   have uy:c2≠none→σ.u (8*y.dst.getD 0)=false:=fun h=>by
     have h1:=q3 h;simp only[St.put] at h1;by_cases hc1:c1=none
     ·subst hc1; exact h1
     ·rwa [pj fun _=>(ne hc1 h).symm] at h1
   have evy:∀ o∈y.op.xs,ev G (aB σ.f x.dst v1) o=ev G σ.f o:=dC fun t ht=>(ay v1 t ht).symm
   have oy:=q4 σ (ay v1) (.inr fun o ho id hid=>by
     simp only[St.put] at hid ⊢;rw[evy o ho] at hid;have h1:=hw y (.inr rfl) o ho id hid;refine (pi fun hc e=>?_).symm;have:=k3 hc;rw[← e,h1] at this;cases this) uy
   refine⟨_,_,oy,k4 (σ.put y.dst _) (ax _) (.inr fun o ho id hid=>?_) (fun h=>?_),?_⟩
   ·have h1:=hw x (.inl rfl) o ho id hid;simp only[St.put];refine pi fun hc e=>?_
    have:=uy hc;rw[← e,h1] at this;cases this
   ·simp only[St.put];rw[pj fun hc=>ne h hc];exact k3 h
   ·simp only[St.put,com];cases c1 with
    | none=>rfl
    | some o1 =>
      cases c2 with
      | none=>rfl
      | some o2 =>
        have h:=ne (by simp) (by simp);simp only[dO,dP,eZ h]
end
end Go.Proofs.Yteohdchecapkfaa
