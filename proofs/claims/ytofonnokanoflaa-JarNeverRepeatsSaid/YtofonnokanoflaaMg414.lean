/- Texts of one's own, merged: from: The plain logic (25): calls that change a variable of the caller's: a box of data. Own work. -/
import Derived.Shelf.Abstract
import Derived.Test.YtofonnokanoflaaMg47
import Derived.Test.YtofonnokanoflaaMg48
set_option linter.unusedVariables false
set_option linter.unusedSimpArgs false
namespace Go.Proofs.Ytofonnokanoflaa
open Go.RowKit
section
variable {P:Program} {G:ak}
end
section
variable {P:Program} {G:ak}
def gN:List (Nat×Nat)→Nat→Nat
  | []=>fun i=>i
  | (a,b)::r=>upd (gN r) a b
def jG (h:aj):List Nat→aj
  | []=>h
  | i::r=>upd (jG h r) i none
def i7 (h:aj):List (Nat×Ob)→aj
  | []=>h
  | (i,o)::r=>upd (i7 h r) i (some o)
def i8 (u:Nat→Bool):List Nat→Nat→Bool
  | []=>u
  | i::r=>upd (i8 u r) i true
theorem EC:gN []=fun i=>i:=rfl
theorem Cr (a b:Nat) (r:List (Nat×Nat)):gN ((a,b)::r)=upd (gN r) a b:=rfl
theorem Aq (h:aj):jG h []=h:=rfl
theorem rT (h:aj) (i:Nat) (r:List Nat):jG h (i::r)=upd (jG h r) i none:=rfl
theorem Ar (h:aj):i7 h []=h:=rfl
theorem nV (h:aj) (i:Nat) (o:Ob) (r:List (Nat×Ob)):i7 h ((i,o)::r)=upd (i7 h r) i (some o):=rfl
theorem As (u:Nat→Bool):i8 u []=u:=rfl
theorem rU (u:Nat→Bool) (i:Nat) (r:List Nat):i8 u (i::r)=upd (i8 u r) i true:=rfl
theorem ED (g:Nat→Nat) (sz:Nat) (es:List D):Ob.ren g (.row sz es)=.row sz es:=rfl
theorem EE (g:Nat→Nat) (cs:List C):Ob.ren g (.box cs)=.box (cs.map (C.ren g)):=rfl
theorem EF (g:Nat→Nat) (id sz off n:Nat):C.ren g (.own id sz off n)=.own (g id) sz off n:=rfl
theorem EG (g:Nat→Nat) (id sz i o:Nat):C.ren g (.ptr id sz i o)=.ptr (g id) sz i o:=rfl
theorem Gx (g:Nat→Nat) (x:D):C.ren g (.d x)=.d x:=rfl
theorem EH (g:Nat→Nat):C.ren g .nil=.nil:=rfl
theorem FI (g:Nat→Nat) (f:Nat) (a b:List Cp):C.ren g (.cf f a b)=.cf f (a.map (Cp.ren g)) (b.map (Cp.ren g)):=rfl
theorem FJ (g:Nat→Nat) (x:D):Cp.ren g (.d x)=.d x:=rfl
theorem FK (g:Nat→Nat) (id sz i o:Nat):Cp.ren g (.p id sz i o)=.p (g id) sz i o:=rfl
theorem EI (g:Nat→Nat) (l:List D):(l.map Cp.d).map (Cp.ren g)=l.map Cp.d:=by rw[S4]; rfl
theorem FL (g:Nat→Nat) (x:C):W.ren g (.c x)=.c (x.ren g):=rfl
theorem FM (g:Nat→Nat) (x:W):V.ren g (.w x)=.w (x.ren g):=rfl
theorem FN (g:Nat→Nat) (l:List W):V.ren g (.tup l)=.tup (l.map (W.ren g)):=rfl
theorem FO (l:List D):(l.map Cp.d).map Cp.w=l.map fun x=>W.c (.d x):=by rw[S4]; rfl
theorem EJ (g:Nat→Nat) (l:List D):(l.map fun x=>W.c (.d x)).map (W.ren g)=l.map fun x=>W.c (.d x):=by rw[S4]; rfl
theorem FP (x:D):Cp.w (.d x)=.c (.d x):=rfl
theorem FQ (id sz i o:Nat):Cp.w (.p id sz i o)=.c (.ptr id sz i o):=rfl
theorem nj:jk (And.intro @EC (And.intro @Cr (And.intro @Aq (And.intro @rT (And.intro @Ar (And.intro @nV (And.intro @As (And.intro @rU (And.intro @ED (And.intro @EE (And.intro @EF (And.intro @EG (And.intro @Gx (And.intro @EH (And.intro @FI (And.intro @FJ (And.intro @FK (And.intro @EI (And.intro @FL (And.intro @FM (And.intro @FN (And.intro @FO (And.intro @EJ (And.intro @FP @FQ)))))))))))))))))))))))):=And.intro @EC (And.intro @Cr (And.intro @Aq (And.intro @rT (And.intro @Ar (And.intro @nV (And.intro @As (And.intro @rU (And.intro @ED (And.intro @EE (And.intro @EF (And.intro @EG (And.intro @Gx (And.intro @EH (And.intro @FI (And.intro @FJ (And.intro @FK (And.intro @EI (And.intro @FL (And.intro @FM (And.intro @FN (And.intro @FO (And.intro @EJ (And.intro @FP @FQ)))))))))))))))))))))))
def qD (P:Program) (G:ak) (F:FuncId) (args:List W) (m0:List (Nat×Ob)) (res:V) (m1:List (Nat×Ob)):Prop :=
  vl P G F args (hL m0) (m0.map (·.1)) res (hL m1) (m1.map (·.1))
theorem Cs (h:aj):∀ (l:List Nat) (i:Nat),jG h l i=if l.contains i then none else h i
  | [],i=>rfl
  | j::r,i=>by
    rw[rT];by_cases e:i=j
    ·subst e; rw[upd_same]; simp
    ·rw[upd_ne _ _ e,Cs h r i];simp[e]
theorem Ct (u:Nat→Bool):∀ (l:List Nat) (i:Nat),i8 u l i=(u i || l.contains i)
  | [],i=>by simp[i8]
  | j::r,i=>by
    rw[rU];by_cases e:i=j
    ·subst e; rw[upd_same]; simp
    ·rw[upd_ne _ _ e,Ct u r i];simp[e]
theorem Au (h:aj) {i:Nat}:∀ (l:List (Nat×Ob)),(∀ p∈l,p.1≠i)→i7 h l i=h i
  | [],_=>rfl
  | (j,o)::r,k=>by
    rw[nV,upd_ne _ _ fun e=>k (j,o) (by simp) e.symm];exact Au h r fun p hp=>k p (by simp[hp])
theorem Cu (h:aj) {g:Nat→Nat} {id:Nat}:∀ (m:List (Nat×Ob)),(∀ p∈m,g p.1=g id→p.1=id)→∀ o,hL m id=some o→i7 h (m.map fun p=>(g p.1,p.2.ren g)) (g id)=some (o.ren g)
  | [],_,o,ho=>by cases ho
  | (j,q)::r,k,o,ho=>by
    rw[Rl,nV];rw[kU] at ho;by_cases e:id=j
    ·subst e;rw[upd_same] at ho ⊢;cases ho; rfl
    ·rw[upd_ne _ _ e] at ho;have:g id≠g j:=fun e'=>e (k (j,q) (by simp) e'.symm).symm
     rw[upd_ne _ _ this];exact Cu h r (fun p hp=>k p (by simp[hp])) o ho
theorem ux:∀ {m:List (Nat×Ob)} {id:Nat},id∈m.map (·.1)→∃ o,hL m id=some o
  | (j,q)::r,id,h=>by
    by_cases e:id=j
    ·subst e; exact⟨q,by rw[kU,upd_same]⟩
    ·obtain⟨o,ho⟩:=ux (m:=r) (id:=id) (by simpa [e] using h);exact⟨o,by rw[kU,upd_ne _ _ e]; exact ho⟩
theorem Ks (h:aj) {g:Nat→Nat} {L:List Nat} {m:List (Nat×Ob)} (hi:∀ i∈L++m.map (·.1),∀ j∈L++m.map (·.1),g i=g j→i=j) :
    ll h g L (m.map (·.1)) (hL m)=i7 (jG h (L.map g)) (m.map fun p=>(g p.1,p.2.ren g)):=by
  funext i
  unfold ll;split
  ·rename_i id hf;have h1:=Sx hf;have h2:=List.find?_some hf;simp only[beq_iff_eq] at h2;subst h2;obtain⟨o,ho⟩:=ux h1;rw[ho,Cu _ _ (fun p hp e=>hi p.1 (Rr _ (RO.2 ⟨p,hp,rfl⟩)) id (Rr _ h1) e) o ho];rfl
  ·rename_i hf;have hn:∀ p∈m.map fun p=>(g p.1,p.2.ren g),p.1≠i:=by
     intro p hp e;obtain⟨q,hq,rfl⟩:=RO.1 hp;have:=List.find?_eq_none.1 hf q.1 (RO.2 ⟨q,hq,rfl⟩);exact this (by simpa using e)
   rw[Au _ _ hn,Cs];have e:(L.any fun id=>g id==i)=(L.map g).contains i:=by
     rw[Bool.eq_iff_iff];simp
   rw[e]
theorem Kt (u:Nat→Bool) (g:Nat→Nat) (L:List Nat):iK u g L=i8 u (L.map g):=by
  funext i
  rw[Ct];unfold iK
  congr 1
  rw[Bool.eq_iff_iff];simp
def vE (g:Nat→Nat) (l:List Nat):Bool:=l.all fun i=>l.all fun j=>!(g i==g j) || i==j
theorem Cv {g:Nat→Nat} {l:List Nat} (h:vE g l=true):∀ i∈l,∀ j∈l,g i=g j→i=j:=by
  intro i hi j hj e;have:=Ru.1 (Ru.1 h i hi) j hj
  simpa [e] using this
def Gy (u:Nat→Bool) (g:Nat→Nat) (L L1:List Nat):Bool:=L1.all fun id=>L.contains id || !u (g id)
theorem Oj {F:FuncId} {args xs:List W} {m0 m1:List (Nat×Ob)} {res:V} {h:aj} {u:Nat→Bool} (gl:List (Nat×Nat)) (hd:qD P G F args m0 res m1) (hx:xs=args.map (W.ren (gN gl))) (h3:ga h (gN gl) m0)
    (h4:vE (gN gl) (m0.map (·.1)++m1.map (·.1))=true) (h5:Gy u (gN gl) (m0.map (·.1)) (m1.map (·.1))=true) :
    nf P G h u F xs (res.ren (gN gl),i7 (jG h ((m0.map (·.1)).map (gN gl))) (m1.map fun p=>(gN gl p.1,p.2.ren (gN gl))),i8 u ((m1.map (·.1)).map (gN gl))):=by
  refine⟨gN gl,args,hL m0,_,res,hL m1,_,hd,hx,fun i o ho=>oR h3 (i,o) (gr ho),Cv h4,fun id h1 h2=>?_,?_⟩
  ·have:=Ru.1 h5 id h1;rw[S5] at this;rcases this with e | e
   ·exact absurd (by simpa using e) h2
   ·simpa using e
  ·rw[Ks h (Cv h4),Kt]
theorem PS {d:Option Nat} {r:List aJ} {K:St→Prop} {f:Nat→V} {h:aj} {u:Nat→Bool} {F:FuncId} {xs:List SX} {args:List W} (ws:List W) {m0 m1:List (Nat×Ob)} {res:V} (gl:List (Nat×Nat)) (hd:qD P G F args m0 res m1)
    (h1:xs.map (ev G f)=ws.map V.w) (h2:ws=args.map (W.ren (gN gl))) (h3:ga h (gN gl) m0)
    (h4:vE (gN gl) (m0.map (·.1)++m1.map (·.1))=true) (h5:Gy u (gN gl) (m0.map (·.1)) (m1.map (·.1))=true)
    (e:ar P G r K ⟨aS f d (res.ren (gN gl)),i7 (jG h ((m0.map (·.1)).map (gN gl))) (m1.map fun p=>(gN gl p.1,p.2.ren (gN gl))),i8 u ((m1.map (·.1)).map (gN gl))⟩) (hne:F≠dR:=by decide):ar P G (⟨d,.callM F xs,none⟩::r) K ⟨f,h,u⟩ :=
  ⟨_,.inl ⟨hne,ws,h1,Oj gl hd h2 h3 h4 h5⟩,e⟩
def mN (σ:St) (l:List (Nat×Option Kd)) (lk:List Nat) (args:List W) (m0:List (Nat×Ob)) (res:V) (m1:List (Nat×Ob)):Prop:=vq σ l lk args (m0.map (·.1)) res (hL m1) (m1.map (·.1))
def qE (l:List (Nat×Option Kd)) (lk:List Nat) (args:List W) (m0:List (Nat×Ob)) (res:V) (m1:List (Nat×Ob)) (e:AX) (s:St):Prop:=match e with | .nrm=>mN s l lk args m0 res m1 | .ret=>mN s l lk args m0 res m1 | .ex _=>False
theorem kP (l:List (Nat×Option Kd)) (lk:List Nat) (args:List W) (m0:List (Nat×Ob)) (res:V) (m1:List (Nat×Ob)) (σ:St):qE l lk args m0 res m1 .nrm σ=mN σ l lk args m0 res m1:=rfl
theorem kQ (l:List (Nat×Option Kd)) (lk:List Nat) (args:List W) (m0:List (Nat×Ob)) (res:V) (m1:List (Nat×Ob)) (σ:St):qE l lk args m0 res m1 .ret σ=mN σ l lk args m0 res m1:=rfl
def vV (f:Nat→V) (g:Nat→Nat) (args:List W):List (Nat×W)→Prop
  | []=>True
  | (t,x)::r=>args[t]?=some x∧f t=.w (x.ren g)∧vV f g args r
theorem Cw {f:Nat→V} {g:Nat→Nat} {args:List W}:∀ {l:List (Nat×W)},vV f g args l→∀ p∈l,args[p.1]?=some p.2∧f p.1=.w (p.2.ren g)
  | (t,x)::r,h,p,hp=>by
    rcases RX.1 hp with rfl | hp
    ·exact⟨h.1,h.2.1⟩
    ·exact Cw h.2.2 p hp
def QR (lk:List Nat) (m0 m1:List (Nat×Ob)) (l:List (Nat×W)):Prop:=(∀ p∈l,p.1∈lk)∧∀ id∈m0.map (·.1),id∈m1.map (·.1)→∃ p∈l,id∈p.2.lnk
theorem FR {σ:St} {l:List (Nat×Option Kd)} {lk:List Nat} {args:List W} {m0 m1:List (Nat×Ob)} {res:V} {ws:List W} (gl:List (Nat×Nat)) (lks:List (Nat×W)) (h1:aF (bJ σ) l=some ws) (h2:vQ ws=res.ren (gN gl)) (h3:ga σ.h (gN gl) m1)
    (h4:mI (m1.map fun p=>gN gl p.1)=true) (h6:vV σ.f (gN gl) args lks) (h7:QR lk m0 m1 lks):mN σ l lk args m0 res m1:=by
  refine⟨ws,h1,gN gl,h2,fun id o ho=>oR h3 (id,o) (gr ho),fun i j hi hj e=>?_,fun id hi hi1=>?_⟩
  ·obtain⟨o,ho⟩:=RE.1 hi;obtain⟨q,hq⟩:=RE.1 hj;have key:∀ {l:List (Nat×Ob)},(l.map fun p=>gN gl p.1).Nodup→∀ {x y:Nat×Ob},x∈l→y∈l→gN gl x.1=gN gl y.1→x=y:=by
     intro l
     induction l with
     | nil=>intro _ x y hx; cases hx
     | cons p r ih =>
       intro hn x y hx hy e;rw[Rl,List.nodup_cons] at hn;rcases RX.1 hx with rfl | hx' <;> rcases RX.1 hy with rfl | hy'
       ·rfl
       ·exact (hn.1 (RO.2 ⟨y,hy',e.symm⟩)).elim
       ·exact (hn.1 (RO.2 ⟨x,hx',e⟩)).elim
       ·exact ih hn.2 hx' hy' e
   exact congrArg Prod.fst (key (sE h4) (gr ho) (gr hq) e)
  ·obtain⟨p,hp,hx⟩:=h7.2 id hi hi1;obtain⟨k1,k2⟩:=Cw h6 p hp;exact⟨p.1,h7.1 p hp,p.2,k1,hx,k2⟩
theorem IQ {F:FuncId} {fn:Func} {sf:aG} {H:Hint} (hf:P.funcs[F]?=some fn) (hc:aD P H fn=some sf) {args:List W} {m0 m1:List (Nat×Ob)} {res:V} (lk:List Nat) {f0:Nat→V} (hlen:args.length=sf.np) (hlk:lk.all (fun t=>!sf.body.writes.contains t)=true)
    (hp:(m0.all fun p=>p.2.ids.all fun j=>(m0.map (·.1)).contains j)=true) (hi:(args.all fun x=>x.ids.all fun j=>(m0.map (·.1)).contains j)=true) (hq:(m1.all fun p=>p.2.ids.all fun j=>(m1.map (·.1)).contains j)=true) (hr:(res.ids.all fun j=>(m1.map (·.1)).contains j)=true)
    (h0:ig 0 args uf=f0) (e:a9 P G sf.body (qE sf.res lk args m0 res m1) ⟨f0,hL m0,uL (m0.map (·.1))⟩):qD P G F args m0 res m1:=by
  have mem:∀ {l:List (Nat×Ob)},(l.all fun p=>p.2.ids.all fun j=>(l.map (·.1)).contains j)=true→∀ id o,hL l id=some o→id∈l.map (·.1)∧∀ j∈o.ids,j∈l.map (·.1):=by
    intro l hl id o ho;have hm:=gr ho;refine⟨RO.2 ⟨_,hm,rfl⟩,fun j hj=>?_⟩;have:=Ru.1 (Ru.1 hl _ hm) j hj
    simpa using this
  refine Le hf hc hlen hlk ⟨mem hp,fun id hid=>?_,fun x hx i hxi=>?_,mem hq,fun i h=>?_⟩ (Q':=qE sf.res lk args m0 res m1) ?_ ?_
  ·obtain⟨o,ho⟩:=ux hid;rw[ho]; simp
  ·have:=Ru.1 (Ru.1 hi x hx) i hxi
   simpa using this
  ·have:=Ru.1 hr i h
   simpa using this
  ·intro ax σ hq;cases ax with
   | nrm=>exact⟨fun _ e=>(by cases e),hq⟩
   | ret=>exact⟨fun _ e=>(by cases e),hq⟩
   | ex i=>exact hq.elim
  ·have e0:jn args (hL m0) (m0.map (·.1))=⟨f0,hL m0,uL (m0.map (·.1))⟩:=by
     have hh:(fun t=>match args[t]? with | some x=>V.w x | none=>.undef)=ig 0 args uf:=congrArg St.f (yr args);rw[← h0,← hh];unfold jn
     congr 1
     have:∀ (l:List Nat) (i:Nat),l.contains i=uL l i:=by
       intro l
       induction l with
       | nil=>intro i; rfl
       | cons j r ih =>
         intro i;rw[oQ];by_cases e:i=j
         ·subst e; rw[upd_same]; simp
         ·rw[upd_ne _ _ e,← ih i];simp[e]
     exact funext fun i=>this _ i
   rw[e0];exact e
end
end Go.Proofs.Ytofonnokanoflaa
