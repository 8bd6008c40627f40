/- Texts of one's own, merged: from: The plain logic (25): calls that change a variable of the caller's: a box of data. Own work. -/
import Derived.Shelf.Abstract
import Derived.Test.YtofonnokanoflaaMg37
import Derived.Test.YtofonnokanoflaaMg38
set_option linter.unusedVariables false
set_option linter.unusedSimpArgs false
namespace Go.Proofs.Ytofonnokanoflaa
open Go.RowKit
section
variable {P:Program} {G:ak}
end
section
variable {P:Program} {G:ak}
def gN:List (Nat×Nat)→Nat→Nat
  | []=>fun i=>i
  | (a,b)::r=>upd (gN r) a b
def jr (h:ai):List Nat→ai
  | []=>h
  | i::r=>upd (jr h r) i none
def iL (h:ai):List (Nat×Ob)→ai
  | []=>h
  | (i,o)::r=>upd (iL h r) i (some o)
def iM (u:Nat→Bool):List Nat→Nat→Bool
  | []=>u
  | i::r=>upd (iM u r) i true
theorem Et:gN []=fun i=>i:=rfl
theorem Ch (a b:Nat) (r:List (Nat×Nat)):gN ((a,b)::r)=upd (gN r) a b:=rfl
theorem Ah (h:ai):jr h []=h:=rfl
theorem rD (h:ai) (i:Nat) (r:List Nat):jr h (i::r)=upd (jr h r) i none:=rfl
theorem Ai (h:ai):iL h []=h:=rfl
theorem nE (h:ai) (i:Nat) (o:Ob) (r:List (Nat×Ob)):iL h ((i,o)::r)=upd (iL h r) i (some o):=rfl
theorem Aj (u:Nat→Bool):iM u []=u:=rfl
theorem rE (u:Nat→Bool) (i:Nat) (r:List Nat):iM u (i::r)=upd (iM u r) i true:=rfl
theorem Eu (g:Nat→Nat) (sz:Nat) (es:List D):Ob.ren g (.row sz es)=.row sz es:=rfl
theorem Ev (g:Nat→Nat) (cs:List C):Ob.ren g (.box cs)=.box (cs.map (C.ren g)):=rfl
theorem Ew (g:Nat→Nat) (id sz off n:Nat):C.ren g (.own id sz off n)=.own (g id) sz off n:=rfl
theorem Ex (g:Nat→Nat) (id sz i o:Nat):C.ren g (.ptr id sz i o)=.ptr (g id) sz i o:=rfl
theorem Gj (g:Nat→Nat) (x:D):C.ren g (.d x)=.d x:=rfl
theorem Ey (g:Nat→Nat):C.ren g .nil=.nil:=rfl
theorem Fy (g:Nat→Nat) (f:Nat) (a b:List Cp):C.ren g (.cf f a b)=.cf f (a.map (Cp.ren g)) (b.map (Cp.ren g)):=rfl
theorem Fz (g:Nat→Nat) (x:D):Cp.ren g (.d x)=.d x:=rfl
theorem FA (g:Nat→Nat) (id sz i o:Nat):Cp.ren g (.p id sz i o)=.p (g id) sz i o:=rfl
theorem Ez (g:Nat→Nat) (l:List D):(l.map Cp.d).map (Cp.ren g)=l.map Cp.d:=by rw[SL]; rfl
theorem FB (g:Nat→Nat) (x:C):W.ren g (.c x)=.c (x.ren g):=rfl
theorem FC (g:Nat→Nat) (x:W):V.ren g (.w x)=.w (x.ren g):=rfl
theorem FD (g:Nat→Nat) (l:List W):V.ren g (.tup l)=.tup (l.map (W.ren g)):=rfl
theorem FE (l:List D):(l.map Cp.d).map Cp.w=l.map fun x=>W.c (.d x):=by rw[SL]; rfl
theorem EA (g:Nat→Nat) (l:List D):(l.map fun x=>W.c (.d x)).map (W.ren g)=l.map fun x=>W.c (.d x):=by rw[SL]; rfl
theorem FF (x:D):Cp.w (.d x)=.c (.d x):=rfl
theorem FG (id sz i o:Nat):Cp.w (.p id sz i o)=.c (.ptr id sz i o):=rfl
theorem mV:i3 (And.intro @Et (And.intro @Ch (And.intro @Ah (And.intro @rD (And.intro @Ai (And.intro @nE (And.intro @Aj (And.intro @rE (And.intro @Eu (And.intro @Ev (And.intro @Ew (And.intro @Ex (And.intro @Gj (And.intro @Ey (And.intro @Fy (And.intro @Fz (And.intro @FA (And.intro @Ez (And.intro @FB (And.intro @FC (And.intro @FD (And.intro @FE (And.intro @EA (And.intro @FF @FG)))))))))))))))))))))))):=And.intro @Et (And.intro @Ch (And.intro @Ah (And.intro @rD (And.intro @Ai (And.intro @nE (And.intro @Aj (And.intro @rE (And.intro @Eu (And.intro @Ev (And.intro @Ew (And.intro @Ex (And.intro @Gj (And.intro @Ey (And.intro @Fy (And.intro @Fz (And.intro @FA (And.intro @Ez (And.intro @FB (And.intro @FC (And.intro @FD (And.intro @FE (And.intro @EA (And.intro @FF @FG)))))))))))))))))))))))
def qj (P:Program) (G:ak) (F:FuncId) (args:List W) (m0:List (Nat×Ob)) (res:V) (m1:List (Nat×Ob)):Prop :=
  u5 P G F args (hL m0) (m0.map (·.1)) res (hL m1) (m1.map (·.1))
theorem Ci (h:ai):∀ (l:List Nat) (i:Nat),jr h l i=if l.contains i then none else h i
  | [],i=>rfl
  | j::r,i=>by
    rw[rD];by_cases e:i=j
    ·subst e; rw[upd_same]; simp
    ·rw[upd_ne _ _ e,Ci h r i];simp[e]
theorem Cj (u:Nat→Bool):∀ (l:List Nat) (i:Nat),iM u l i=(u i || l.contains i)
  | [],i=>by simp[iM]
  | j::r,i=>by
    rw[rE];by_cases e:i=j
    ·subst e; rw[upd_same]; simp
    ·rw[upd_ne _ _ e,Cj u r i];simp[e]
theorem Ak (h:ai) {i:Nat}:∀ (l:List (Nat×Ob)),(∀ p∈l,p.1≠i)→iL h l i=h i
  | [],_=>rfl
  | (j,o)::r,k=>by
    rw[nE,upd_ne _ _ fun e=>k (j,o) (by simp) e.symm];exact Ak h r fun p hp=>k p (by simp[hp])
theorem Ck (h:ai) {g:Nat→Nat} {id:Nat}:∀ (m:List (Nat×Ob)),(∀ p∈m,g p.1=g id→p.1=id)→∀ o,hL m id=some o→iL h (m.map fun p=>(g p.1,p.2.ren g)) (g id)=some (o.ren g)
  | [],_,o,ho=>by cases ho
  | (j,q)::r,k,o,ho=>by
    rw[QX,nE];rw[kP] at ho;by_cases e:id=j
    ·subst e;rw[upd_same] at ho ⊢;cases ho; rfl
    ·rw[upd_ne _ _ e] at ho;have:g id≠g j:=fun e'=>e (k (j,q) (by simp) e'.symm).symm
     rw[upd_ne _ _ this];exact Ck h r (fun p hp=>k p (by simp[hp])) o ho
theorem ud:∀ {m:List (Nat×Ob)} {id:Nat},id∈m.map (·.1)→∃ o,hL m id=some o
  | (j,q)::r,id,h=>by
    by_cases e:id=j
    ·subst e; exact⟨q,by rw[kP,upd_same]⟩
    ·obtain⟨o,ho⟩:=ud (m:=r) (id:=id) (by simpa [e] using h);exact⟨o,by rw[kP,upd_ne _ _ e]; exact ho⟩
theorem Kf (h:ai) {g:Nat→Nat} {L:List Nat} {m:List (Nat×Ob)} (hi:∀ i∈L++m.map (·.1),∀ j∈L++m.map (·.1),g i=g j→i=j) :
    lc h g L (m.map (·.1)) (hL m)=iL (jr h (L.map g)) (m.map fun p=>(g p.1,p.2.ren g)):=by
  funext i
  unfold lc;split
  ·rename_i id hf;have h1:=R8 hf;have h2:=List.find?_some hf;simp only[beq_iff_eq] at h2;subst h2;obtain⟨o,ho⟩:=ud h1;rw[ho,Ck _ _ (fun p hp e=>hi p.1 (Q1 _ (Rn.2 ⟨p,hp,rfl⟩)) id (Q1 _ h1) e) o ho];rfl
  ·rename_i hf;have hn:∀ p∈m.map fun p=>(g p.1,p.2.ren g),p.1≠i:=by
     intro p hp e;obtain⟨q,hq,rfl⟩:=Rn.1 hp;have:=List.find?_eq_none.1 hf q.1 (Rn.2 ⟨q,hq,rfl⟩);exact this (by simpa using e)
   rw[Ak _ _ hn,Ci];have e:(L.any fun id=>g id==i)=(L.map g).contains i:=by
     rw[Bool.eq_iff_iff];simp
   rw[e]
theorem Kg (u:Nat→Bool) (g:Nat→Nat) (L:List Nat):iu u g L=iM u (L.map g):=by
  funext i
  rw[Cj];unfold iu
  congr 1
  rw[Bool.eq_iff_iff];simp
def vt (g:Nat→Nat) (l:List Nat):Bool:=l.all fun i=>l.all fun j=>!(g i==g j) || i==j
theorem Cl {g:Nat→Nat} {l:List Nat} (h:vt g l=true):∀ i∈l,∀ j∈l,g i=g j→i=j:=by
  intro i hi j hj e;have:=Q2.1 (Q2.1 h i hi) j hj
  simpa [e] using this
def Gk (u:Nat→Bool) (g:Nat→Nat) (L L1:List Nat):Bool:=L1.all fun id=>L.contains id || !u (g id)
theorem N0 {F:FuncId} {args xs:List W} {m0 m1:List (Nat×Ob)} {res:V} {h:ai} {u:Nat→Bool} (gl:List (Nat×Nat)) (hd:qj P G F args m0 res m1) (hx:xs=args.map (W.ren (gN gl))) (h3:fP h (gN gl) m0)
    (h4:vt (gN gl) (m0.map (·.1)++m1.map (·.1))=true) (h5:Gk u (gN gl) (m0.map (·.1)) (m1.map (·.1))=true) :
    mR P G h u F xs (res.ren (gN gl),iL (jr h ((m0.map (·.1)).map (gN gl))) (m1.map fun p=>(gN gl p.1,p.2.ren (gN gl))),iM u ((m1.map (·.1)).map (gN gl))):=by
  refine⟨gN gl,args,hL m0,_,res,hL m1,_,hd,hx,fun i o ho=>ot h3 (i,o) (fZ ho),Cl h4,fun id h1 h2=>?_,?_⟩
  ·have:=Q2.1 h5 id h1;rw[SD] at this;rcases this with e | e
   ·exact absurd (by simpa using e) h2
   ·simpa using e
  ·rw[Kf h (Cl h4),Kg]
theorem Pz {d:Option Nat} {r:List aG} {K:St→Prop} {f:Nat→V} {h:ai} {u:Nat→Bool} {F:FuncId} {xs:List SX} {args:List W} (ws:List W) {m0 m1:List (Nat×Ob)} {res:V} (gl:List (Nat×Nat)) (hd:qj P G F args m0 res m1)
    (h1:xs.map (ev G f)=ws.map V.w) (h2:ws=args.map (W.ren (gN gl))) (h3:fP h (gN gl) m0)
    (h4:vt (gN gl) (m0.map (·.1)++m1.map (·.1))=true) (h5:Gk u (gN gl) (m0.map (·.1)) (m1.map (·.1))=true)
    (e:ap P G r K ⟨aP f d (res.ren (gN gl)),iL (jr h ((m0.map (·.1)).map (gN gl))) (m1.map fun p=>(gN gl p.1,p.2.ren (gN gl))),iM u ((m1.map (·.1)).map (gN gl))⟩) (hne:F≠dv:=by decide):ap P G (⟨d,.callM F xs,none⟩::r) K ⟨f,h,u⟩ :=
  ⟨_,.inl ⟨hne,ws,h1,N0 gl hd h2 h3 h4 h5⟩,e⟩
def mz (σ:St) (l:List (Nat×Option Kd)) (lk:List Nat) (args:List W) (m0:List (Nat×Ob)) (res:V) (m1:List (Nat×Ob)):Prop:=va σ l lk args (m0.map (·.1)) res (hL m1) (m1.map (·.1))
def qk (l:List (Nat×Option Kd)) (lk:List Nat) (args:List W) (m0:List (Nat×Ob)) (res:V) (m1:List (Nat×Ob)) (e:AX) (s:St):Prop:=match e with | .nrm=>mz s l lk args m0 res m1 | .ret=>mz s l lk args m0 res m1 | .ex _=>False
theorem kG (l:List (Nat×Option Kd)) (lk:List Nat) (args:List W) (m0:List (Nat×Ob)) (res:V) (m1:List (Nat×Ob)) (σ:St):qk l lk args m0 res m1 .nrm σ=mz σ l lk args m0 res m1:=rfl
theorem kH (l:List (Nat×Option Kd)) (lk:List Nat) (args:List W) (m0:List (Nat×Ob)) (res:V) (m1:List (Nat×Ob)) (σ:St):qk l lk args m0 res m1 .ret σ=mz σ l lk args m0 res m1:=rfl
def vL (f:Nat→V) (g:Nat→Nat) (args:List W):List (Nat×W)→Prop
  | []=>True
  | (t,x)::r=>args[t]?=some x∧f t=.w (x.ren g)∧vL f g args r
theorem Cm {f:Nat→V} {g:Nat→Nat} {args:List W}:∀ {l:List (Nat×W)},vL f g args l→∀ p∈l,args[p.1]?=some p.2∧f p.1=.w (p.2.ren g)
  | (t,x)::r,h,p,hp=>by
    rcases Rr.1 hp with rfl | hp
    ·exact⟨h.1,h.2.1⟩
    ·exact Cm h.2.2 p hp
def Qy (lk:List Nat) (m0 m1:List (Nat×Ob)) (l:List (Nat×W)):Prop:=(∀ p∈l,p.1∈lk)∧∀ id∈m0.map (·.1),id∈m1.map (·.1)→∃ p∈l,id∈p.2.lnk
theorem FH {σ:St} {l:List (Nat×Option Kd)} {lk:List Nat} {args:List W} {m0 m1:List (Nat×Ob)} {res:V} {ws:List W} (gl:List (Nat×Nat)) (lks:List (Nat×W)) (h1:aB (bw σ) l=some ws) (h2:vG ws=res.ren (gN gl)) (h3:fP σ.h (gN gl) m1)
    (h4:mq (m1.map fun p=>gN gl p.1)=true) (h6:vL σ.f (gN gl) args lks) (h7:Qy lk m0 m1 lks):mz σ l lk args m0 res m1:=by
  refine⟨ws,h1,gN gl,h2,fun id o ho=>ot h3 (id,o) (fZ ho),fun i j hi hj e=>?_,fun id hi hi1=>?_⟩
  ·obtain⟨o,ho⟩:=Rb.1 hi;obtain⟨q,hq⟩:=Rb.1 hj;have key:∀ {l:List (Nat×Ob)},(l.map fun p=>gN gl p.1).Nodup→∀ {x y:Nat×Ob},x∈l→y∈l→gN gl x.1=gN gl y.1→x=y:=by
     intro l
     induction l with
     | nil=>intro _ x y hx; cases hx
     | cons p r ih =>
       intro hn x y hx hy e;rw[QX,List.nodup_cons] at hn;rcases Rr.1 hx with rfl | hx' <;> rcases Rr.1 hy with rfl | hy'
       ·rfl
       ·exact (hn.1 (Rn.2 ⟨y,hy',e.symm⟩)).elim
       ·exact (hn.1 (Rn.2 ⟨x,hx',e⟩)).elim
       ·exact ih hn.2 hx' hy' e
   exact congrArg Prod.fst (key (rZ h4) (fZ ho) (fZ hq) e)
  ·obtain⟨p,hp,hx⟩:=h7.2 id hi hi1;obtain⟨k1,k2⟩:=Cm h6 p hp;exact⟨p.1,h7.1 p hp,p.2,k1,hx,k2⟩
theorem IC {F:FuncId} {fn:Func} {sf:aE} {H:Hint} (hf:P.funcs[F]?=some fn) (hc:aD P H fn=some sf) {args:List W} {m0 m1:List (Nat×Ob)} {res:V} (lk:List Nat) {f0:Nat→V} (hlen:args.length=sf.np) (hlk:lk.all (fun t=>!sf.body.writes.contains t)=true)
    (hp:(m0.all fun p=>p.2.ids.all fun j=>(m0.map (·.1)).contains j)=true) (hi:(args.all fun x=>x.ids.all fun j=>(m0.map (·.1)).contains j)=true) (hq:(m1.all fun p=>p.2.ids.all fun j=>(m1.map (·.1)).contains j)=true) (hr:(res.ids.all fun j=>(m1.map (·.1)).contains j)=true)
    (h0:gX 0 args uf=f0) (e:aW P G sf.body (qk sf.res lk args m0 res m1) ⟨f0,hL m0,uL (m0.map (·.1))⟩):qj P G F args m0 res m1:=by
  have mem:∀ {l:List (Nat×Ob)},(l.all fun p=>p.2.ids.all fun j=>(l.map (·.1)).contains j)=true→∀ id o,hL l id=some o→id∈l.map (·.1)∧∀ j∈o.ids,j∈l.map (·.1):=by
    intro l hl id o ho;have hm:=fZ ho;refine⟨Rn.2 ⟨_,hm,rfl⟩,fun j hj=>?_⟩;have:=Q2.1 (Q2.1 hl _ hm) j hj
    simpa using this
  refine K1 hf hc hlen hlk ⟨mem hp,fun id hid=>?_,fun x hx i hxi=>?_,mem hq,fun i h=>?_⟩ (Q':=qk sf.res lk args m0 res m1) ?_ ?_
  ·obtain⟨o,ho⟩:=ud hid;rw[ho]; simp
  ·have:=Q2.1 (Q2.1 hi x hx) i hxi
   simpa using this
  ·have:=Q2.1 hr i h
   simpa using this
  ·intro ax σ hq;cases ax with
   | nrm=>exact⟨fun _ e=>(by cases e),hq⟩
   | ret=>exact⟨fun _ e=>(by cases e),hq⟩
   | ex i=>exact hq.elim
  ·have e0:i6 args (hL m0) (m0.map (·.1))=⟨f0,hL m0,uL (m0.map (·.1))⟩:=by
     have hh:(fun t=>match args[t]? with | some x=>V.w x | none=>.undef)=gX 0 args uf:=congrArg St.f (yh args);rw[← h0,← hh];unfold i6
     congr 1
     have:∀ (l:List Nat) (i:Nat),l.contains i=uL l i:=by
       intro l
       induction l with
       | nil=>intro i; rfl
       | cons j r ih =>
         intro i;rw[oq];by_cases e:i=j
         ·subst e; rw[upd_same]; simp
         ·rw[upd_ne _ _ e,← ih i];simp[e]
     exact funext fun i=>this _ i
   rw[e0];exact e
end
end Go.Proofs.Ytofonnokanoflaa
