/- Texts of one's own, merged: from: The plain logic (25): calls that change a variable of the caller's: a box of data. Own work. -/
import Derived.Shelf.Abstract
import Derived.Test.YteohdchecapkfaaMg17
import Derived.Test.YteohdchecapkfaaMg18
set_option linter.unusedVariables false
set_option linter.unusedSimpArgs false
namespace Go.Proofs.Yteohdchecapkfaa
open Go.RowKit
section
variable {P:Program} {G:ap}
def lc (P:Program) (G:ap) (d:Option Nat) (r:List am) (K:St→Prop) (f:Nat→V) (h:ah) (u:Nat→Bool) (F:Nat) (pre:Option (List Cp)) (post:Option (List Cp)):Prop :=
  match pre,post with | some a,some b=>ao P G r K ⟨aB f d (.w (.c (.cf F a b))),h,u⟩ | _,_=>False
theorem qh (d:Option Nat) (r:List am) (K:St→Prop) (f:Nat→V) (h:ah) (u:Nat→Bool) (F:Nat) (xs ys:List SX):ao P G (⟨d,.closM F xs ys,none⟩::r) K ⟨f,h,u⟩=lc P G d r K f h u F (bd (xs.map (ev G f))) (bd (ys.map (ev G f))):=by
  show (match (match bd (xs.map (ev G f)),bd (ys.map (ev G f)) with | some a,some b=>some (((.w (.c (.cf F a b)),h,u):R)) | _,_=>none) with | some r=>_ | none=>False)=_
  unfold lc;cases bd (xs.map (ev G f)) <;> cases bd (ys.map (ev G f)) <;> rfl
theorem nV (d:Option Nat) (r:List am) (K:St→Prop) (f:Nat→V) (h:ah) (u:Nat→Bool) (F:Nat) (a b:List Cp):lc P G d r K f h u F (some a) (some b)=ao P G r K ⟨aB f d (.w (.c (.cf F a b))),h,u⟩:=rfl
theorem nW:bd []=some []:=rfl
theorem nX (id sz i o:Nat) (r:List V):bd (.w (.c (.ptr id sz i o))::r)=(bd r).map fun l=>.p id sz i o::l:=by
  simp only[bd,gn]; cases bd r <;> rfl
theorem qi (cs:List D) (r:List V):bd (.w (.c (.rp cs))::r)=(bd r).map fun l=>.d (.ref cs)::l:=by
  simp only[bd,gn,dW]; cases bd r <;> rfl
theorem nY (k:IntKind) (n:Int) (r:List V):bd (.w (.c (.d (.int k n)))::r)=(bd r).map fun l=>.d (.int k n)::l:=by
  simp only[bd,gn,dW]; cases bd r <;> rfl
theorem qj (es:List D) (r:List V):bd (.w (.c (.d (.sl es)))::r)=(bd r).map fun l=>.d (.sl es)::l:=by
  simp only[bd,gn,dW]; cases bd r <;> rfl
theorem uZ (d:Option Nat) (r:List am) (K:St→Prop) (f:Nat→V) (h:ah) (u:Nat→Bool) (x:SX):ao P G (⟨d,.nilChk x,none⟩::r) K ⟨f,h,u⟩=(dG (ev G f x)=true∧ao P G r K ⟨aB f d (ev G f x),h,u⟩):=by
  show (match (if dG (ev G f x)=true then some ((ev G f x,h,u):R) else none) with | some r=>_ | none=>False)=_
  by_cases hp:dG (ev G f x)=true
  ·rw[if_pos hp]; simp only[hp,true_and]; rfl
  ·rw[if_neg hp];exact propext ⟨fun h=>h.elim,fun h=>hp h.1⟩
theorem nZ (id sz i o:Nat):dG (.w (.c (.ptr id sz i o)))=true:=rfl
theorem qk (cs:List D):dG (.w (.c (.rp cs)))=true:=rfl
theorem oa (cs:List D):dG (.w (.c (.d (.ref cs))))=true:=rfl
theorem ql (f:Nat) (cs:List D):dG (.w (.c (.d (.fn f cs))))=true:=rfl
theorem qm (f:Nat) (a b:List Cp):dG (.w (.c (.cf f a b)))=true:=rfl
theorem bh:dR (And.intro @qh (And.intro @nV (And.intro @nW (And.intro @nX (And.intro @qi (And.intro @nY @qj)))))):=And.intro @qh (And.intro @nV (And.intro @nW (And.intro @nX (And.intro @qi (And.intro @nY @qj)))))
theorem aZ:dR (And.intro @uZ (And.intro @nZ (And.intro @qk (And.intro @oa (And.intro @ql (And.intro @qm @true_and)))))):=And.intro @uZ (And.intro @nZ (And.intro @qk (And.intro @oa (And.intro @ql (And.intro @qm @true_and)))))
def bB (cs:List D):ah:=hL [(1,.box (cs.map C.d))]
theorem i8 (cs:List D) {id:Nat} {o:Ob} (h:bB cs id=some o):id=1∧o=.box (cs.map C.d):=by
  have:=cL h
  simpa using this
theorem vV (cs:List D):(Ob.box (cs.map C.d)).ids=[]:=by
  unfold Ob.ids
  induction cs with
  | nil=>rfl
  | cons c r ih=>simp[C.ids]
theorem ln (g:Nat→Nat) (cs:List D):(Ob.box (cs.map C.d)).ren g=.box (cs.map C.d):=by
  show Ob.box ((cs.map C.d).map (C.ren g))=_
  rw[List.map_map];rfl
theorem vW (cs:List D):bB cs 1=some (.box (cs.map C.d)):=by
  unfold bB;rw[fv];exact upd_same _ _ _
def jf:V→Bool | .w x=>x.ids.isEmpty | .tup ws=>ws.all fun x=>x.ids.isEmpty | .undef=>true
theorem kB (g:Nat→Nat):∀ {l:List Cp},l.flatMap Cp.ids=[]→l.map (Cp.ren g)=l
  | [],_=>rfl
  | c::r,h=>by
    rw[BU,List.append_eq_nil_iff] at h;rw[BO,kB g h.2];cases c with
    | d x=>rfl
    | p id sz i o=>cases h.1
theorem sw (g:Nat→Nat) {c:C} (h:c.ids=[]):c.ren g=c:=by
  cases c with
  | mp id=>exact absurd h (by simp[C.ids])
  | own=>cases h
  | ptr=>cases h
  | pa=>cases h
  | cf f a b =>
    obtain⟨h1,h2⟩:=List.append_eq_nil_iff.1 (show a.flatMap Cp.ids++b.flatMap Cp.ids=[] from h);simp only[C.ren,kB g h1,kB g h2]
  | _=>rfl
theorem qn (g:Nat→Nat):∀ {cs:List C},cs.flatMap C.ids=[]→cs.map (C.ren g)=cs
  | [],_=>rfl
  | c::r,h=>by
    rw[BU,List.append_eq_nil_iff] at h;rw[BO,qn g h.2,sw g h.1]
theorem sy (g:Nat→Nat) {x:W} (h:x.ids=[]):x.ren g=x:=by
  cases x with
  | c c=>rw[W.ren,sw g h]
  | mix cs=>rw[W.ren,qn g h]
theorem kQ (g:Nat→Nat) {x:V} (h:jf x=true):x.ren g=x∧x.ids=[]:=by
  cases x with
  | w x =>
    have h':x.ids=[]:=CW.1 h;exact⟨by rw[V.ren,sy g h'],h'⟩
  | tup ws =>
    have h':∀ x∈ws,x.ids=[]:=fun x hx=>CW.1 (BS.1 h x hx)
    refine⟨?_,?_⟩
    ·rw[V.ren]
     congr 1
     conv=>rhs; rw[← List.map_id ws]
     exact Cs fun x hx=>sy g (h' x hx)
    ·show ws.flatMap W.ids=[]
     rw[List.flatMap_eq_nil_iff];exact h'
  | undef=>exact⟨rfl,rfl⟩
theorem z8 {F:FuncId} {args xs:List W} {id:Nat} {cs cs':List D} {res:V} {h:ah} {u:Nat→Bool} (hd:eD P G F args (bB cs) [1] res (bB cs') [1]) (hx:xs=args.map (W.ren fun _=>id)) (h3:h id=some (.box (cs.map C.d))) (hn:jf res=true) (hdir:args.any (fun x=>x.ids.contains 1)=true) :
    dL P G h u F xs (res,upd h id (some (.box (cs'.map C.d))),upd u id true):=by
  refine⟨fun _=>id,args,bB cs,[1],res,bB cs',[1],hd,hx,fun i o ho=>?_,fun i hi j hj _=>?_,fun i hi hn=>absurd hi hn,fun i hi=>?_,?_⟩
  ·obtain⟨rfl,rfl⟩:=i8 cs ho;rw[h3,ln]
  ·simp at hi hj;omega
  ·obtain⟨x,hx,h1⟩:=Cy.1 hdir;rw[B8.1 hi];exact .inl ⟨x,hx,by simpa using h1⟩
  ·refine Prod.ext (kQ _ hn).1.symm (Prod.ext (funext fun i=>?_) (funext fun i=>?_))
   ·show upd h id _ i=cD h (fun _=>id) [1] [1] (bB cs') i
    unfold cD upd;by_cases e:i=id
    ·subst e;simp only[List.find?_cons,beq_self_eq_true,if_true]
     show _=(bB cs' 1).map _
     rw[vW];simp only[CU,ln]
    ·have e':(id==i)=false:=by simpa using fun k=>e k.symm
     simp[e,e']
   ·show upd u id true i=(u i || [1].any fun _=>id==i)
    unfold upd;by_cases e:i=id
    ·subst e; simp
    ·have e':(id==i)=false:=by simpa using fun k=>e k.symm
     simp[e,e']
theorem bi {d:Option Nat} {r:List am} {K:St→Prop} {f:Nat→V} {h:ah} {u:Nat→Bool} {F:FuncId} {xs:List SX} {args ws:List W} {id:Nat} {cs cs':List D} {res:V} (hd:eD P G F args (bB cs) [1] res (bB cs') [1])
    (h1:(bH xs).map (ev G f)=ws.map V.w) (h2:ws=args.map (W.ren fun _=>id)) (h3:h id=some (.box (cs.map C.d))) (hn:jf res=true)
    (e:ao P G r K ⟨aB f d res,upd h id (some (.box (cs'.map C.d))),upd u id true⟩) (hne:F≠cz:=by decide) (hnm:dX (ev G f) xs=true:=by rfl) (hdir:args.any (fun x=>x.ids.contains 1)=true:=by rfl):ao P G (⟨d,.callM F xs,none⟩::r) K ⟨f,h,u⟩ :=
  ⟨_,⟨.inl ⟨hne,ws,h1,z8 hd h2 h3 hn hdir⟩,hnm⟩,e⟩
def hX (σ:St) (l:List (Nat×Option Kd)) (t:Nat) (cs':List D) (res:V):Prop :=
  ∃ ws,ar (ba σ) l=some ws∧jC ws=res∧σ.h 1=some (.box (cs'.map C.d))∧σ.f t=.w (.c (.ptr 1 1 0 0))
def lH (l:List (Nat×Option Kd)) (t:Nat) (cs':List D) (res:V) (e:AX) (s:St):Prop:=match e with | .nrm=>hX s l t cs' res | .ret=>hX s l t cs' res | .ex _=>False
theorem eU (l:List (Nat×Option Kd)) (t:Nat) (cs':List D) (res:V) (σ:St):lH l t cs' res .ret σ=hX σ l t cs' res:=rfl
theorem g8 {σ:St} {s:Nat} {t:Nat} {cs':List D} {x:W} (h1:σ.f s=.w x) (h2:σ.h 1=some (.box (cs'.map C.d))) (h3:σ.f t=.w (.c (.ptr 1 1 0 0))):hX σ [(s,none)] t cs' (.w x) :=
  ⟨[x],by simp[ar,ba,h1,cQ],rfl,h2,h3⟩
theorem j7 {F:FuncId} {fn:Func} {sf:bg} {H:Hint} (hf:P.funcs[F]?=some fn) (hc:a7 P H fn=some sf) {args:List W} {cs cs':List D} {res:V} (t:Nat) {f0:Nat→V} (hlen:args.length=sf.np) (hlk:[t].all (fun t=>!sf.body.writes.contains t)=true)
    (ha:args[t]?=some (.c (.ptr 1 1 0 0))) (hi:args.all (fun x=>x.ids.all (·==1))=true) (hn:jf res=true) (h0:cA 0 args uf=f0) (e:aI P G sf.body (lH sf.res t cs' res) ⟨f0,bB cs,uL [1]⟩):eD P G F args (bB cs) [1] res (bB cs') [1]:=by
  refine rh hf hc hlen hlk ⟨fun id o ho=>?_,fun id hid=>?_,fun x hx i hxi=>?_,fun id o ho=>?_,fun i hi=>?_⟩ (Q':=lH sf.res t cs' res) ?_ ?_
  ·obtain⟨rfl,rfl⟩:=i8 cs ho;exact⟨by simp,fun j hj=>by rw[vV] at hj; cases hj⟩
  ·obtain rfl:id=1:=by simpa using hid
   rw[vW];simp
  ·have:=BS.1 (BS.1 hi x hx) i hxi
   simpa using this
  ·obtain⟨rfl,rfl⟩:=i8 cs' ho;exact⟨by simp,fun j hj=>by rw[vV] at hj; cases hj⟩
  ·rw[(kQ id hn).2] at hi; cases hi
  ·have key:∀ σ:St,hX σ sf.res t cs' res→jp σ sf.res [t] args [1] res (bB cs') [1]:=by
     rintro σ ⟨ws,h1,h2,h3,h4⟩;refine⟨ws,h1,fun i=>i,by rw[(kQ _ hn).1]; exact h2,fun i o ho=>?_,fun i j hi hj e=>e,fun i hi _=>?_⟩
     ·obtain⟨rfl,rfl⟩:=i8 cs' ho;rw[h3,ln]
     ·obtain rfl:i=1:=by simpa using hi
      exact⟨t,by simp,.c (.ptr 1 1 0 0),ha,by simp[W.lnk],h4⟩
   intro ax σ hq;cases ax with
   | nrm=>exact⟨fun _ e=>(by cases e),key σ hq⟩
   | ret=>exact⟨fun _ e=>(by cases e),key σ hq⟩
   | ex i=>exact hq.elim
  ·have e0:dV args (bB cs) [1]=⟨f0,bB cs,uL [1]⟩:=by
     have hh:(fun t=>match args[t]? with | some x=>V.w x | none=>.undef)=cA 0 args uf:=congrArg St.f (j6 args);rw[← h0,← hh];unfold dV
     congr 1
     funext i
     unfold uL uL upd uN;by_cases e:i=1
     ·simp[e]
     ·simp[e]
   rw[e0];exact e
end
section
variable {P:Program} {G:ap}
def gN:List (Nat×Nat)→Nat→Nat
  | []=>fun i=>i
  | (a,b)::r=>upd (gN r) a b
def e9 (h:ah):List Nat→ah
  | []=>h
  | i::r=>upd (e9 h r) i none
def eJ (h:ah):List (Nat×Ob)→ah
  | []=>h
  | (i,o)::r=>upd (eJ h r) i (some o)
def eK (u:Nat→Bool):List Nat→Nat→Bool
  | []=>u
  | i::r=>upd (eK u r) i true
theorem va:gN []=fun i=>i:=rfl
theorem sG (a b:Nat) (r:List (Nat×Nat)):gN ((a,b)::r)=upd (gN r) a b:=rfl
theorem qp (h:ah):e9 h []=h:=rfl
theorem j8 (h:ah) (i:Nat) (r:List Nat):e9 h (i::r)=upd (e9 h r) i none:=rfl
theorem qq (h:ah):eJ h []=h:=rfl
theorem iC (h:ah) (i:Nat) (o:Ob) (r:List (Nat×Ob)):eJ h ((i,o)::r)=upd (eJ h r) i (some o):=rfl
theorem qt (u:Nat→Bool):eK u []=u:=rfl
theorem j9 (u:Nat→Bool) (i:Nat) (r:List Nat):eK u (i::r)=upd (eK u r) i true:=rfl
theorem vb (g:Nat→Nat) (sz:Nat) (es:List D):Ob.ren g (.row sz es)=.row sz es:=rfl
theorem ve (g:Nat→Nat) (cs:List C):Ob.ren g (.box cs)=.box (cs.map (C.ren g)):=rfl
theorem vf (g:Nat→Nat) (id sz off n:Nat):C.ren g (.own id sz off n)=.own (g id) sz off n:=rfl
theorem vg (g:Nat→Nat) (id sz i o:Nat):C.ren g (.ptr id sz i o)=.ptr (g id) sz i o:=rfl
theorem wJ (g:Nat→Nat) (x:D):C.ren g (.d x)=.d x:=rfl
theorem vh (g:Nat→Nat):C.ren g .nil=.nil:=rfl
theorem v5 (g:Nat→Nat) (f:Nat) (a b:List Cp):C.ren g (.cf f a b)=.cf f (a.map (Cp.ren g)) (b.map (Cp.ren g)):=rfl
theorem v6 (g:Nat→Nat) (x:D):Cp.ren g (.d x)=.d x:=rfl
theorem v7 (g:Nat→Nat) (id sz i o:Nat):Cp.ren g (.p id sz i o)=.p (g id) sz i o:=rfl
theorem vi (g:Nat→Nat) (l:List D):(l.map Cp.d).map (Cp.ren g)=l.map Cp.d:=by rw[List.map_map]; rfl
theorem v8 (g:Nat→Nat) (x:C):W.ren g (.c x)=.c (x.ren g):=rfl
theorem v9 (g:Nat→Nat) (x:W):V.ren g (.w x)=.w (x.ren g):=rfl
theorem wa (g:Nat→Nat) (l:List W):V.ren g (.tup l)=.tup (l.map (W.ren g)):=rfl
theorem wb (l:List D):(l.map Cp.d).map Cp.w=l.map fun x=>W.c (.d x):=by rw[List.map_map]; rfl
theorem vj (g:Nat→Nat) (l:List D):(l.map fun x=>W.c (.d x)).map (W.ren g)=l.map fun x=>W.c (.d x):=by rw[List.map_map]; rfl
theorem wc (x:D):Cp.w (.d x)=.c (.d x):=rfl
theorem wd (id sz i o:Nat):Cp.w (.p id sz i o)=.c (.ptr id sz i o):=rfl
theorem wY:dR (And.intro @va (And.intro @sG (And.intro @qp (And.intro @j8 (And.intro @qq (And.intro @iC (And.intro @qt (And.intro @j9 (And.intro @vb (And.intro @ve (And.intro @vf (And.intro @vg (And.intro @wJ (And.intro @vh (And.intro @v5 (And.intro @v6 (And.intro @v7 (And.intro @vi (And.intro @v8 (And.intro @v9 (And.intro @wa (And.intro @wb (And.intro @vj (And.intro @wc @wd)))))))))))))))))))))))):=And.intro @va (And.intro @sG (And.intro @qp (And.intro @j8 (And.intro @qq (And.intro @iC (And.intro @qt (And.intro @j9 (And.intro @vb (And.intro @ve (And.intro @vf (And.intro @vg (And.intro @wJ (And.intro @vh (And.intro @v5 (And.intro @v6 (And.intro @v7 (And.intro @vi (And.intro @v8 (And.intro @v9 (And.intro @wa (And.intro @wb (And.intro @vj (And.intro @wc @wd)))))))))))))))))))))))
def jv (P:Program) (G:ap) (F:FuncId) (args:List W) (m0:List (Nat×Ob)) (res:V) (m1:List (Nat×Ob)):Prop :=
  eD P G F args (hL m0) (m0.map (·.1)) res (hL m1) (m1.map (·.1))
theorem sH (h:ah):∀ (l:List Nat) (i:Nat),e9 h l i=if l.contains i then none else h i
  | [],i=>rfl
  | j::r,i=>by
    rw[j8];by_cases e:i=j
    ·subst e; rw[upd_same]; simp
    ·rw[upd_ne _ _ e,sH h r i];simp[e]
theorem sJ (u:Nat→Bool):∀ (l:List Nat) (i:Nat),eK u l i=(u i || l.contains i)
  | [],i=>by simp[eK]
  | j::r,i=>by
    rw[j9];by_cases e:i=j
    ·subst e; rw[upd_same]; simp
    ·rw[upd_ne _ _ e,sJ u r i];simp[e]
theorem qu (h:ah) {i:Nat}:∀ (l:List (Nat×Ob)),(∀ p∈l,p.1≠i)→eJ h l i=h i
  | [],_=>rfl
  | (j,o)::r,k=>by
    rw[iC,upd_ne _ _ fun e=>k (j,o) (by simp) e.symm];exact qu h r fun p hp=>k p (by simp[hp])
theorem sK (h:ah) {g:Nat→Nat} {id:Nat}:∀ (m:List (Nat×Ob)),(∀ p∈m,g p.1=g id→p.1=id)→∀ o,hL m id=some o→eJ h (m.map fun p=>(g p.1,p.2.ren g)) (g id)=some (o.ren g)
  | [],_,o,ho=>by cases ho
  | (j,q)::r,k,o,ho=>by
    rw[BO,iC];rw[fv] at ho;by_cases e:id=j
    ·subst e;rw[upd_same] at ho ⊢;cases ho; rfl
    ·rw[upd_ne _ _ e] at ho;have:g id≠g j:=fun e'=>e (k (j,q) (by simp) e'.symm).symm
     rw[upd_ne _ _ this];exact sK h r (fun p hp=>k p (by simp[hp])) o ho
theorem gX:∀ {m:List (Nat×Ob)} {id:Nat},id∈m.map (·.1)→∃ o,hL m id=some o
  | (j,q)::r,id,h=>by
    by_cases e:id=j
    ·subst e; exact⟨q,by rw[fv,upd_same]⟩
    ·obtain⟨o,ho⟩:=gX (m:=r) (id:=id) (by simpa [e] using h);exact⟨o,by rw[fv,upd_ne _ _ e]; exact ho⟩
theorem zk (h:ah) {g:Nat→Nat} {L:List Nat} {m:List (Nat×Ob)} (hi:∀ i∈L++m.map (·.1),∀ j∈L++m.map (·.1),g i=g j→i=j) :
    cD h g L (m.map (·.1)) (hL m)=eJ (e9 h (L.map g)) (m.map fun p=>(g p.1,p.2.ren g)):=by
  funext i
  unfold cD;split
  ·rename_i id hf;have h1:=Cq hf;have h2:=CS hf;simp only[beq_iff_eq] at h2;subst h2;obtain⟨o,ho⟩:=gX h1;rw[ho,sK _ _ (fun p hp e=>hi p.1 (BR _ (BZ.2 ⟨p,hp,rfl⟩)) id (BR _ h1) e) o ho];rfl
  ·rename_i hf;have hn:∀ p∈m.map fun p=>(g p.1,p.2.ren g),p.1≠i:=by
     intro p hp e;obtain⟨q,hq,rfl⟩:=BZ.1 hp;have:=List.find?_eq_none.1 hf q.1 (BZ.2 ⟨q,hq,rfl⟩);exact this (by simpa using e)
   rw[qu _ _ hn,sH];have e:(L.any fun id=>g id==i)=(L.map g).contains i:=by
     rw[Bool.eq_iff_iff];simp
   rw[e]
theorem zl (u:Nat→Bool) (g:Nat→Nat) (L:List Nat):dc u g L=eK u (L.map g):=by
  funext i
  rw[sJ];unfold dc
  congr 1
  rw[Bool.eq_iff_iff];simp
def lI (g:Nat→Nat) (l:List Nat):Bool:=l.all fun i=>l.all fun j=>!(g i==g j) || i==j
theorem sL {g:Nat→Nat} {l:List Nat} (h:lI g l=true):∀ i∈l,∀ j∈l,g i=g j→i=j:=by
  intro i hi j hj e;have:=BS.1 (BS.1 h i hi) j hj
  simpa [e] using this
def wK (u:Nat→Bool) (g:Nat→Nat) (L L1:List Nat):Bool:=L1.all fun id=>L.contains id || !u (g id)
def lJ (args:List W) (m0 m1:List (Nat×Ob)):Bool:=m0.all fun p=>args.any (fun x=>x.ids.contains p.1) || (!be (some p.2)&&m1.all fun q=>!(q.1==p.1) || !be (some q.2))
theorem Ak {args:List W} {m0 m1:List (Nat×Ob)} (h:lJ args m0 m1=true):∀ i∈m0.map (·.1),(∃ x∈args,i∈x.ids)∨(be (hL m0 i)=false∧be (hL m1 i)=false):=by
  intro i hi;by_cases hd:args.any (fun x=>x.ids.contains i)=true
  ·obtain⟨x,hx,h1⟩:=Cy.1 hd;exact .inl ⟨x,hx,by simpa using h1⟩
  ·refine .inr ⟨?_,?_⟩
   ·obtain⟨o,ho⟩:=gX hi;have hm:=cL ho;have:=BS.1 h _ hm;rw[CG] at this;rcases this with k | k
    ·exact absurd k hd
    ·rw[B5] at k;rw[ho]
     simpa using k.1
   ·cases hq:hL m1 i with
    | none=>rfl
    | some q =>
      obtain⟨o,ho⟩:=gX hi;have:=BS.1 h _ (cL ho);rw[CG] at this;rcases this with k | k
      ·exact absurd k hd
      ·rw[B5] at k;have:=BS.1 k.2 _ (cL hq)
       simpa using this
theorem Bc {F:FuncId} {args xs:List W} {m0 m1:List (Nat×Ob)} {res:V} {h:ah} {u:Nat→Bool} (gl:List (Nat×Nat)) (hd:jv P G F args m0 res m1) (hx:xs=args.map (W.ren (gN gl))) (h3:d7 h (gN gl) m0)
    (h4:lI (gN gl) (m0.map (·.1)++m1.map (·.1))=true) (h5:wK u (gN gl) (m0.map (·.1)) (m1.map (·.1))=true) (hdir:lJ args m0 m1=true) :
    dL P G h u F xs (res.ren (gN gl),eJ (e9 h ((m0.map (·.1)).map (gN gl))) (m1.map fun p=>(gN gl p.1,p.2.ren (gN gl))),eK u ((m1.map (·.1)).map (gN gl))):=by
  refine⟨gN gl,args,hL m0,_,res,hL m1,_,hd,hx,fun i o ho=>iW h3 (i,o) (cL ho),sL h4,fun id h1 h2=>?_,Ak hdir,?_⟩
  ·have:=BS.1 h5 id h1;rw[CG] at this;rcases this with e | e
   ·exact absurd (by simpa using e) h2
   ·simpa using e
  ·rw[zk h (sL h4),zl]
theorem Bt {d:Option Nat} {r:List am} {K:St→Prop} {f:Nat→V} {h:ah} {u:Nat→Bool} {F:FuncId} {xs:List SX} {args:List W} (ws:List W) {m0 m1:List (Nat×Ob)} {res:V} (gl:List (Nat×Nat)) (hd:jv P G F args m0 res m1)
    (h1:(bH xs).map (ev G f)=ws.map V.w) (h2:ws=args.map (W.ren (gN gl))) (h3:d7 h (gN gl) m0)
    (h4:lI (gN gl) (m0.map (·.1)++m1.map (·.1))=true) (h5:wK u (gN gl) (m0.map (·.1)) (m1.map (·.1))=true)
    (e:ao P G r K ⟨aB f d (res.ren (gN gl)),eJ (e9 h ((m0.map (·.1)).map (gN gl))) (m1.map fun p=>(gN gl p.1,p.2.ren (gN gl))),eK u ((m1.map (·.1)).map (gN gl))⟩) (hne:F≠cz:=by decide) (hnm:dX (ev G f) xs=true:=by rfl) (hdir:lJ args m0 m1=true:=by rfl):ao P G (⟨d,.callM F xs,none⟩::r) K ⟨f,h,u⟩ :=
  ⟨_,⟨.inl ⟨hne,ws,h1,Bc gl hd h2 h3 h4 h5 hdir⟩,hnm⟩,e⟩
def g9 (σ:St) (l:List (Nat×Option Kd)) (lk:List Nat) (args:List W) (m0:List (Nat×Ob)) (res:V) (m1:List (Nat×Ob)):Prop:=jp σ l lk args (m0.map (·.1)) res (hL m1) (m1.map (·.1))
def jw (l:List (Nat×Option Kd)) (lk:List Nat) (args:List W) (m0:List (Nat×Ob)) (res:V) (m1:List (Nat×Ob)) (e:AX) (s:St):Prop:=match e with | .nrm=>g9 s l lk args m0 res m1 | .ret=>g9 s l lk args m0 res m1 | .ex _=>False
theorem zm (l:List (Nat×Option Kd)) (lk:List Nat) (args:List W) (m0:List (Nat×Ob)) (res:V) (m1:List (Nat×Ob)) (σ:St):jw l lk args m0 res m1 .nrm σ=g9 σ l lk args m0 res m1:=rfl
theorem zn (l:List (Nat×Option Kd)) (lk:List Nat) (args:List W) (m0:List (Nat×Ob)) (res:V) (m1:List (Nat×Ob)) (σ:St):jw l lk args m0 res m1 .ret σ=g9 σ l lk args m0 res m1:=rfl
def lT (f:Nat→V) (g:Nat→Nat) (args:List W):List (Nat×W)→Prop
  | []=>True
  | (t,x)::r=>args[t]?=some x∧f t=.w (x.ren g)∧lT f g args r
theorem sM {f:Nat→V} {g:Nat→Nat} {args:List W}:∀ {l:List (Nat×W)},lT f g args l→∀ p∈l,args[p.1]?=some p.2∧f p.1=.w (p.2.ren g)
  | (t,x)::r,h,p,hp=>by
    rcases Ce.1 hp with rfl | hp
    ·exact⟨h.1,h.2.1⟩
    ·exact sM h.2.2 p hp
def BH (lk:List Nat) (m0 m1:List (Nat×Ob)) (l:List (Nat×W)):Prop:=(∀ p∈l,p.1∈lk)∧∀ id∈m0.map (·.1),id∈m1.map (·.1)→∃ p∈l,id∈p.2.lnk
theorem Bu {σ:St} {l:List (Nat×Option Kd)} {lk:List Nat} {args:List W} {m0 m1:List (Nat×Ob)} {res:V} {ws:List W} (gl:List (Nat×Nat)) (lks:List (Nat×W)) (h1:ar (ba σ) l=some ws) (h2:jC ws=res.ren (gN gl)) (h3:d7 σ.h (gN gl) m1)
    (h4:g0 (m1.map fun p=>gN gl p.1)=true) (h6:lT σ.f (gN gl) args lks) (h7:BH lk m0 m1 lks):g9 σ l lk args m0 res m1:=by
  refine⟨ws,h1,gN gl,h2,fun id o ho=>iW h3 (id,o) (cL ho),fun i j hi hj e=>?_,fun id hi hi1=>?_⟩
  ·obtain⟨o,ho⟩:=BV.1 hi;obtain⟨q,hq⟩:=BV.1 hj;have key:∀ {l:List (Nat×Ob)},(l.map fun p=>gN gl p.1).Nodup→∀ {x y:Nat×Ob},x∈l→y∈l→gN gl x.1=gN gl y.1→x=y:=by
     intro l
     induction l with
     | nil=>intro _ x y hx; cases hx
     | cons p r ih =>
       intro hn x y hx hy e;rw[BO,List.nodup_cons] at hn;rcases Ce.1 hx with rfl | hx' <;> rcases Ce.1 hy with rfl | hy'
       ·rfl
       ·exact (hn.1 (BZ.2 ⟨y,hy',e.symm⟩)).elim
       ·exact (hn.1 (BZ.2 ⟨x,hx',e⟩)).elim
       ·exact ih hn.2 hx' hy' e
   exact congrArg Prod.fst (key (kA h4) (cL ho) (cL hq) e)
  ·obtain⟨p,hp,hx⟩:=h7.2 id hi hi1;obtain⟨k1,k2⟩:=sM h6 p hp;exact⟨p.1,h7.1 p hp,p.2,k1,hx,k2⟩
theorem yE {F:FuncId} {fn:Func} {sf:bg} {H:Hint} (hf:P.funcs[F]?=some fn) (hc:a7 P H fn=some sf) {args:List W} {m0 m1:List (Nat×Ob)} {res:V} (lk:List Nat) {f0:Nat→V} (hlen:args.length=sf.np) (hlk:lk.all (fun t=>!sf.body.writes.contains t)=true)
    (hp:(m0.all fun p=>p.2.ids.all fun j=>(m0.map (·.1)).contains j)=true) (hi:(args.all fun x=>x.ids.all fun j=>(m0.map (·.1)).contains j)=true) (hq:(m1.all fun p=>p.2.ids.all fun j=>(m1.map (·.1)).contains j)=true) (hr:(res.ids.all fun j=>(m1.map (·.1)).contains j)=true)
    (h0:cA 0 args uf=f0) (e:aI P G sf.body (jw sf.res lk args m0 res m1) ⟨f0,hL m0,uL (m0.map (·.1))⟩):jv P G F args m0 res m1:=by
  have mem:∀ {l:List (Nat×Ob)},(l.all fun p=>p.2.ids.all fun j=>(l.map (·.1)).contains j)=true→∀ id o,hL l id=some o→id∈l.map (·.1)∧∀ j∈o.ids,j∈l.map (·.1):=by
    intro l hl id o ho;have hm:=cL ho;refine⟨BZ.2 ⟨_,hm,rfl⟩,fun j hj=>?_⟩;have:=BS.1 (BS.1 hl _ hm) j hj
    simpa using this
  refine rh hf hc hlen hlk ⟨mem hp,fun id hid=>?_,fun x hx i hxi=>?_,mem hq,fun i h=>?_⟩ (Q':=jw sf.res lk args m0 res m1) ?_ ?_
  ·obtain⟨o,ho⟩:=gX hid;rw[ho]; simp
  ·have:=BS.1 (BS.1 hi x hx) i hxi
   simpa using this
  ·have:=BS.1 hr i h
   simpa using this
  ·intro ax σ hq;cases ax with
   | nrm=>exact⟨fun _ e=>(by cases e),hq⟩
   | ret=>exact⟨fun _ e=>(by cases e),hq⟩
   | ex i=>exact hq.elim
  ·have e0:dV args (hL m0) (m0.map (·.1))=⟨f0,hL m0,uL (m0.map (·.1))⟩:=by
     have hh:(fun t=>match args[t]? with | some x=>V.w x | none=>.undef)=cA 0 args uf:=congrArg St.f (j6 args);rw[← h0,← hh];unfold dV
     congr 1
     have:∀ (l:List Nat) (i:Nat),l.contains i=uL l i:=by
       intro l
       induction l with
       | nil=>intro i; rfl
       | cons j r ih =>
         intro i;rw[iV];by_cases e:i=j
         ·subst e; rw[upd_same]; simp
         ·rw[upd_ne _ _ e,← ih i];simp[e]
     exact funext fun i=>this _ i
   rw[e0];exact e
end
end Go.Proofs.Yteohdchecapkfaa
