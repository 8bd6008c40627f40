/- Texts of one's own, merged: from: The plain logic (25): calls that change a variable of the caller's: a box of data. Own work. -/
import Derived.Shelf.Abstract
import Derived.Test.YtofonnokanoflaaGreatMz17
import Derived.Test.YtofonnokanoflaaGreatMz18
set_option linter.unusedVariables false
set_option linter.unusedSimpArgs false
namespace Go.Proofs.YtofonnokanoflaaGreat
open Go.RowKit
section
variable {P:Program} {G:ah}
def zA (P:Program) (G:ah) (d:Option Nat) (r:List aU) (K:St→Prop) (f:Nat→V) (h:aA) (u:Nat→Bool) (F:Nat) (pre:Option (List Cp)) (post:Option (List Cp)):Prop :=
  match pre,post with | some a,some b=>aM P G r K ⟨bi f d (.w (.c (.cf F a b))),h,u⟩ | _,_=>False
theorem FO (d:Option Nat) (r:List aU) (K:St→Prop) (f:Nat→V) (h:aA) (u:Nat→Bool) (F:Nat) (xs ys:List SX):aM P G (⟨d,.closM F xs ys,none⟩::r) K ⟨f,h,u⟩=zA P G d r K f h u F (cZ (xs.map (ev G f))) (cZ (ys.map (ev G f))):=by
  show (match (match cZ (xs.map (ev G f)),cZ (ys.map (ev G f)) with | some a,some b=>some (((.w (.c (.cf F a b)),h,u):R)) | _,_=>none) with | some r=>_ | none=>False)=_
  unfold zA;cases cZ (xs.map (ev G f)) <;> cases cZ (ys.map (ev G f)) <;> rfl
theorem Du (d:Option Nat) (r:List aU) (K:St→Prop) (f:Nat→V) (h:aA) (u:Nat→Bool) (F:Nat) (a b:List Cp):zA P G d r K f h u F (some a) (some b)=aM P G r K ⟨bi f d (.w (.c (.cf F a b))),h,u⟩:=rfl
theorem Dv:cZ []=some []:=rfl
theorem Dw (id sz i o:Nat) (r:List V):cZ (.w (.c (.ptr id sz i o))::r)=(cZ r).map fun l=>.p id sz i o::l:=by
  simp only[cZ,oY]; cases cZ r <;> rfl
theorem FP (cs:List D) (r:List V):cZ (.w (.c (.rp cs))::r)=(cZ r).map fun l=>.d (.ref cs)::l:=by
  simp only[cZ,oY,kv]; cases cZ r <;> rfl
theorem Dx (k:IntKind) (n:Int) (r:List V):cZ (.w (.c (.d (.int k n)))::r)=(cZ r).map fun l=>.d (.int k n)::l:=by
  simp only[cZ,oY,kv]; cases cZ r <;> rfl
theorem FQ (es:List D) (r:List V):cZ (.w (.c (.d (.sl es)))::r)=(cZ r).map fun l=>.d (.sl es)::l:=by
  simp only[cZ,oY,kv]; cases cZ r <;> rfl
theorem KD (d:Option Nat) (r:List aU) (K:St→Prop) (f:Nat→V) (h:aA) (u:Nat→Bool) (x:SX):aM P G (⟨d,.nilChk x,none⟩::r) K ⟨f,h,u⟩=(jC (ev G f x)=true∧aM P G r K ⟨bi f d (ev G f x),h,u⟩):=by
  show (match (if jC (ev G f x)=true then some ((ev G f x,h,u):R) else none) with | some r=>_ | none=>False)=_
  by_cases hp:jC (ev G f x)=true
  ·rw[if_pos hp]; simp only[hp,true_and]; rfl
  ·rw[if_neg hp];exact propext ⟨fun h=>h.elim,fun h=>hp h.1⟩
theorem Dy (id sz i o:Nat):jC (.w (.c (.ptr id sz i o)))=true:=rfl
theorem FR (cs:List D):jC (.w (.c (.rp cs)))=true:=rfl
theorem Dz (cs:List D):jC (.w (.c (.d (.ref cs))))=true:=rfl
theorem FT (f:Nat) (cs:List D):jC (.w (.c (.d (.fn f cs))))=true:=rfl
theorem FU (f:Nat) (a b:List Cp):jC (.w (.c (.cf f a b)))=true:=rfl
theorem fE:j8 (And.intro @FO (And.intro @Du (And.intro @Dv (And.intro @Dw (And.intro @FP (And.intro @Dx @FQ)))))):=And.intro @FO (And.intro @Du (And.intro @Dv (And.intro @Dw (And.intro @FP (And.intro @Dx @FQ)))))
theorem eW:j8 (And.intro @KD (And.intro @Dy (And.intro @FR (And.intro @Dz (And.intro @FT (And.intro @FU @true_and)))))):=And.intro @KD (And.intro @Dy (And.intro @FR (And.intro @Dz (And.intro @FT (And.intro @FU @true_and)))))
def eX (cs:List D):aA:=hL [(1,.box (cs.map C.d))]
theorem ud (cs:List D) {id:Nat} {o:Ob} (h:eX cs id=some o):id=1∧o=.box (cs.map C.d):=by
  have:=iU h
  simpa using this
theorem Mg (cs:List D):(Ob.box (cs.map C.d)).ids=[]:=by
  unfold Ob.ids
  induction cs with
  | nil=>rfl
  | cons c r ih=>simp[C.ids]
theorem Ai (g:Nat→Nat) (cs:List D):(Ob.box (cs.map C.d)).ren g=.box (cs.map C.d):=by
  show Ob.box ((cs.map C.d).map (C.ren g))=_
  rw[Z8];rfl
theorem Mh (cs:List D):eX cs 1=some (.box (cs.map C.d)):=by
  unfold eX;rw[mE];exact upd_same _ _ _
def uY:V→Bool | .w x=>x.ids.isEmpty | .tup ws=>ws.all fun x=>x.ids.isEmpty | .undef=>true
theorem xV (g:Nat→Nat):∀ {l:List Cp},l.flatMap Cp.ids=[]→l.map (Cp.ren g)=l
  | [],_=>rfl
  | c::r,h=>by
    rw[YG,List.append_eq_nil_iff] at h;rw[Yp,xV g h.2];cases c with
    | d x=>rfl
    | p id sz i o=>cases h.1
theorem H7 (g:Nat→Nat) {c:C} (h:c.ids=[]):c.ren g=c:=by
  cases c with
  | mp id=>exact absurd h (by simp[C.ids])
  | own=>cases h
  | ptr=>cases h
  | pa=>cases h
  | cf f a b =>
    obtain⟨h1,h2⟩:=List.append_eq_nil_iff.1 (show a.flatMap Cp.ids++b.flatMap Cp.ids=[] from h);simp only[C.ren,xV g h1,xV g h2]
  | _=>rfl
theorem FV (g:Nat→Nat):∀ {cs:List C},cs.flatMap C.ids=[]→cs.map (C.ren g)=cs
  | [],_=>rfl
  | c::r,h=>by
    rw[YG,List.append_eq_nil_iff] at h;rw[Yp,FV g h.2,H7 g h.1]
theorem H8 (g:Nat→Nat) {x:W} (h:x.ids=[]):x.ren g=x:=by
  cases x with
  | c c=>rw[W.ren,H7 g h]
  | mix cs=>rw[W.ren,FV g h]
theorem yF (g:Nat→Nat) {x:V} (h:uY x=true):x.ren g=x∧x.ids=[]:=by
  cases x with
  | w x =>
    have h':x.ids=[]:=List.isEmpty_iff.1 h;exact⟨by rw[V.ren,H8 g h'],h'⟩
  | tup ws =>
    have h':∀ x∈ws,x.ids=[]:=fun x hx=>List.isEmpty_iff.1 (YB.1 h x hx)
    refine⟨?_,?_⟩
    ·rw[V.ren]
     congr 1
     conv=>rhs; rw[← List.map_id ws]
     exact Zb fun x hx=>H8 g (h' x hx)
    ·show ws.flatMap W.ids=[]
     rw[List.flatMap_eq_nil_iff];exact h'
  | undef=>exact⟨rfl,rfl⟩
theorem Tm {F:FuncId} {args xs:List W} {id:Nat} {cs cs':List D} {res:V} {h:aA} {u:Nat→Bool} (hd:l9 P G F args (eX cs) [1] res (eX cs') [1]) (hx:xs=args.map (W.ren fun _=>id)) (h3:h id=some (.box (cs.map C.d))) (hn:uY res=true) :
    po P G h u F xs (res,upd h id (some (.box (cs'.map C.d))),upd u id true):=by
  refine⟨fun _=>id,args,eX cs,[1],res,eX cs',[1],hd,hx,fun i o ho=>?_,fun i hi j hj _=>?_,fun i hi hn=>absurd hi hn,?_⟩
  ·obtain⟨rfl,rfl⟩:=ud cs ho;rw[h3,Ai]
  ·simp at hi hj;omega
  ·refine Prod.ext (yF _ hn).1.symm (Prod.ext (funext fun i=>?_) (funext fun i=>?_))
   ·show upd h id _ i=lX h (fun _=>id) [1] [1] (eX cs') i
    unfold lX upd;by_cases e:i=id
    ·subst e;simp only[List.find?_cons,beq_self_eq_true,if_true]
     show _=(eX cs' 1).map _
     rw[Mh];simp only[ZF,Ai]
    ·have e':(id==i)=false:=by simpa using fun k=>e k.symm
     simp[e,e']
   ·show upd u id true i=(u i || [1].any fun _=>id==i)
    unfold upd;by_cases e:i=id
    ·subst e; simp
    ·have e':(id==i)=false:=by simpa using fun k=>e k.symm
     simp[e,e']
theorem jt {d:Option Nat} {r:List aU} {K:St→Prop} {f:Nat→V} {h:aA} {u:Nat→Bool} {F:FuncId} {pre post:List Cp} {xs:List SX} {args ws:List W} {id:Nat} {cs cs':List D} {res:V} (hd:l9 P G F args (eX cs) [1] res (eX cs') [1])
    (he:∀ (args:Array Value) (w:World),(callFunc F args).run P w=.ok (.enter F args) w) (h1:xs.map (ev G f)=.w (.c (.cf F pre post))::ws.map V.w) (h2:pre.map Cp.w++ws++post.map Cp.w=args.map (W.ren fun _=>id)) (h3:h id=some (.box (cs.map C.d))) (hn:uY res=true)
    (e:aM P G r K ⟨bi f d res,upd h id (some (.box (cs'.map C.d))),upd u id true⟩):aM P G (⟨d,.callM 1000000007 xs,none⟩::r) K ⟨f,h,u⟩ :=
  ⟨_,.inr ⟨rfl,F,pre,post,ws,h1,he,Tm hd h2 h3 hn⟩,e⟩
def rv (σ:St) (l:List (Nat×Option Kd)) (t:Nat) (cs':List D) (res:V):Prop :=
  ∃ ws,aT (cv σ) l=some ws∧vK ws=res∧σ.h 1=some (.box (cs'.map C.d))∧σ.f t=.w (.c (.ptr 1 1 0 0))
def AY (l:List (Nat×Option Kd)) (t:Nat) (cs':List D) (res:V) (e:AX) (s:St):Prop:=match e with | .nrm=>rv s l t cs' res | .ret=>rv s l t cs' res | .ex _=>False
theorem Rc (l:List (Nat×Option Kd)) (t:Nat) (cs':List D) (res:V) (σ:St):AY l t cs' res .ret σ=rv σ l t cs' res:=rfl
theorem Xn {σ:St} {s:Nat} {t:Nat} {cs':List D} {x:W} (h1:σ.f s=.w x) (h2:σ.h 1=some (.box (cs'.map C.d))) (h3:σ.f t=.w (.c (.ptr 1 1 0 0))):rv σ [(s,none)] t cs' (.w x) :=
  ⟨[x],by simp[aT,cv,h1,hY],rfl,h2,h3⟩
theorem PF {F:FuncId} {fn:Func} {sf:aD} {H:Hint} (hf:P.funcs[F]?=some fn) (hc:aB P H fn=some sf) {args:List W} {cs cs':List D} {res:V} (t:Nat) {f0:Nat→V} (hlen:args.length=sf.np) (hlk:[t].all (fun t=>!sf.body.writes.contains t)=true)
    (ha:args[t]?=some (.c (.ptr 1 1 0 0))) (hi:args.all (fun x=>x.ids.all (·==1))=true) (hn:uY res=true) (h0:fN 0 args uf=f0) (e:bE P G sf.body (AY sf.res t cs' res) ⟨f0,eX cs,uL [1]⟩):l9 P G F args (eX cs) [1] res (eX cs') [1]:=by
  refine GK hf hc hlen hlk ⟨fun id o ho=>?_,fun id hid=>?_,fun x hx i hxi=>?_,fun id o ho=>?_,fun i hi=>?_⟩ (Q':=AY sf.res t cs' res) ?_ ?_
  ·obtain⟨rfl,rfl⟩:=ud cs ho;exact⟨by simp,fun j hj=>by rw[Mg] at hj; cases hj⟩
  ·obtain rfl:id=1:=by simpa using hid
   rw[Mh];simp
  ·have:=YB.1 (YB.1 hi x hx) i hxi
   simpa using this
  ·obtain⟨rfl,rfl⟩:=ud cs' ho;exact⟨by simp,fun j hj=>by rw[Mg] at hj; cases hj⟩
  ·rw[(yF id hn).2] at hi; cases hi
  ·have key:∀ σ:St,rv σ sf.res t cs' res→vx σ sf.res [t] args [1] res (eX cs') [1]:=by
     rintro σ ⟨ws,h1,h2,h3,h4⟩;refine⟨ws,h1,fun i=>i,by rw[(yF _ hn).1]; exact h2,fun i o ho=>?_,fun i j hi hj e=>e,fun i hi _=>?_⟩
     ·obtain⟨rfl,rfl⟩:=ud cs' ho;rw[h3,Ai]
     ·obtain rfl:i=1:=by simpa using hi
      exact⟨t,by simp,.c (.ptr 1 1 0 0),ha,by simp[W.lnk],h4⟩
   intro ax σ hq;cases ax with
   | nrm=>exact⟨fun _ e=>(by cases e),key σ hq⟩
   | ret=>exact⟨fun _ e=>(by cases e),key σ hq⟩
   | ex i=>exact hq.elim
  ·have e0:ki args (eX cs) [1]=⟨f0,eX cs,uL [1]⟩:=by
     have hh:(fun t=>match args[t]? with | some x=>V.w x | none=>.undef)=fN 0 args uf:=congrArg St.f (w9 args);rw[← h0,← hh];unfold ki
     congr 1
     funext i
     unfold uL uL upd uN;by_cases e:i=1
     ·simp[e]
     ·simp[e]
   rw[e0];exact e
end
section
variable {P:Program} {G:ah}
def gN:List (Nat×Nat)→Nat→Nat
  | []=>fun i=>i
  | (a,b)::r=>upd (gN r) a b
def ln (h:aA):List Nat→aA
  | []=>h
  | i::r=>upd (ln h r) i none
def kz (h:aA):List (Nat×Ob)→aA
  | []=>h
  | (i,o)::r=>upd (kz h r) i (some o)
def kA (u:Nat→Bool):List Nat→Nat→Bool
  | []=>u
  | i::r=>upd (kA u r) i true
theorem KJ:gN []=fun i=>i:=rfl
theorem Ig (a b:Nat) (r:List (Nat×Nat)):gN ((a,b)::r)=upd (gN r) a b:=rfl
theorem FW (h:aA):ln h []=h:=rfl
theorem xa (h:aA) (i:Nat) (r:List Nat):ln h (i::r)=upd (ln h r) i none:=rfl
theorem FX (h:aA):kz h []=h:=rfl
theorem sG (h:aA) (i:Nat) (o:Ob) (r:List (Nat×Ob)):kz h ((i,o)::r)=upd (kz h r) i (some o):=rfl
theorem FY (u:Nat→Bool):kA u []=u:=rfl
theorem xb (u:Nat→Bool) (i:Nat) (r:List Nat):kA u (i::r)=upd (kA u r) i true:=rfl
theorem KL (g:Nat→Nat) (sz:Nat) (es:List D):Ob.ren g (.row sz es)=.row sz es:=rfl
theorem KM (g:Nat→Nat) (cs:List C):Ob.ren g (.box cs)=.box (cs.map (C.ren g)):=rfl
theorem KN (g:Nat→Nat) (id sz off n:Nat):C.ren g (.own id sz off n)=.own (g id) sz off n:=rfl
theorem KO (g:Nat→Nat) (id sz i o:Nat):C.ren g (.ptr id sz i o)=.ptr (g id) sz i o:=rfl
theorem Ng (g:Nat→Nat) (x:D):C.ren g (.d x)=.d x:=rfl
theorem KP (g:Nat→Nat):C.ren g .nil=.nil:=rfl
theorem Mi (g:Nat→Nat) (f:Nat) (a b:List Cp):C.ren g (.cf f a b)=.cf f (a.map (Cp.ren g)) (b.map (Cp.ren g)):=rfl
theorem Mj (g:Nat→Nat) (x:D):Cp.ren g (.d x)=.d x:=rfl
theorem Mk (g:Nat→Nat) (id sz i o:Nat):Cp.ren g (.p id sz i o)=.p (g id) sz i o:=rfl
theorem KQ (g:Nat→Nat) (l:List D):(l.map Cp.d).map (Cp.ren g)=l.map Cp.d:=by rw[Z8]; rfl
theorem Ml (g:Nat→Nat) (x:C):W.ren g (.c x)=.c (x.ren g):=rfl
theorem Mm (g:Nat→Nat) (x:W):V.ren g (.w x)=.w (x.ren g):=rfl
theorem Mn (g:Nat→Nat) (l:List W):V.ren g (.tup l)=.tup (l.map (W.ren g)):=rfl
theorem nQ (l:List D):(l.map Cp.d).flatMap Cp.ids=[]:=by
  induction l with
  | nil=>rfl
  | cons x l ih=>rw[Yp,YG,ih]; rfl
theorem Mo (l:List D):(l.map Cp.d).map Cp.w=l.map fun x=>W.c (.d x):=by rw[Z8]; rfl
theorem KR (g:Nat→Nat) (l:List D):(l.map fun x=>W.c (.d x)).map (W.ren g)=l.map fun x=>W.c (.d x):=by rw[Z8]; rfl
theorem Mq (x:D):Cp.w (.d x)=.c (.d x):=rfl
theorem Mr (id sz i o:Nat):Cp.w (.p id sz i o)=.c (.ptr id sz i o):=rfl
theorem bV:j8 (And.intro @KJ (And.intro @Ig (And.intro @FW (And.intro @xa (And.intro @FX (And.intro @sG (And.intro @FY (And.intro @xb (And.intro @KL (And.intro @KM (And.intro @KN (And.intro @KO (And.intro @Ng (And.intro @KP (And.intro @Mi (And.intro @Mj (And.intro @Mk (And.intro @KQ (And.intro @Ml (And.intro @Mm (And.intro @Mn (And.intro @Mo (And.intro @KR (And.intro @Mq @Mr)))))))))))))))))))))))):=And.intro @KJ (And.intro @Ig (And.intro @FW (And.intro @xa (And.intro @FX (And.intro @sG (And.intro @FY (And.intro @xb (And.intro @KL (And.intro @KM (And.intro @KN (And.intro @KO (And.intro @Ng (And.intro @KP (And.intro @Mi (And.intro @Mj (And.intro @Mk (And.intro @KQ (And.intro @Ml (And.intro @Mm (And.intro @Mn (And.intro @Mo (And.intro @KR (And.intro @Mq @Mr)))))))))))))))))))))))
def gL (P:Program) (G:ah) (F:FuncId) (args:List W) (m0:List (Nat×Ob)) (res:V) (m1:List (Nat×Ob)):Prop :=
  l9 P G F args (hL m0) (m0.map (·.1)) res (hL m1) (m1.map (·.1))
theorem Ih (h:aA):∀ (l:List Nat) (i:Nat),ln h l i=if l.contains i then none else h i
  | [],i=>rfl
  | j::r,i=>by
    rw[xa];by_cases e:i=j
    ·subst e; rw[upd_same]; simp
    ·rw[upd_ne _ _ e,Ih h r i];simp[e]
theorem Ii (u:Nat→Bool):∀ (l:List Nat) (i:Nat),kA u l i=(u i || l.contains i)
  | [],i=>by simp[kA]
  | j::r,i=>by
    rw[xb];by_cases e:i=j
    ·subst e; rw[upd_same]; simp
    ·rw[upd_ne _ _ e,Ii u r i];simp[e]
theorem FZ (h:aA) {i:Nat}:∀ (l:List (Nat×Ob)),(∀ p∈l,p.1≠i)→kz h l i=h i
  | [],_=>rfl
  | (j,o)::r,k=>by
    rw[sG,upd_ne _ _ fun e=>k (j,o) (by simp) e.symm];exact FZ h r fun p hp=>k p (by simp[hp])
theorem Ij (h:aA) {g:Nat→Nat} {id:Nat}:∀ (m:List (Nat×Ob)),(∀ p∈m,g p.1=g id→p.1=id)→∀ o,hL m id=some o→kz h (m.map fun p=>(g p.1,p.2.ren g)) (g id)=some (o.ren g)
  | [],_,o,ho=>by cases ho
  | (j,q)::r,k,o,ho=>by
    rw[Yp,sG];rw[mE] at ho;by_cases e:id=j
    ·subst e;rw[upd_same] at ho ⊢;cases ho; rfl
    ·rw[upd_ne _ _ e] at ho;have:g id≠g j:=fun e'=>e (k (j,q) (by simp) e'.symm).symm
     rw[upd_ne _ _ this];exact Ij h r (fun p hp=>k p (by simp[hp])) o ho
theorem zB:∀ {m:List (Nat×Ob)} {id:Nat},id∈m.map (·.1)→∃ o,hL m id=some o
  | (j,q)::r,id,h=>by
    by_cases e:id=j
    ·subst e; exact⟨q,by rw[mE,upd_same]⟩
    ·obtain⟨o,ho⟩:=zB (m:=r) (id:=id) (by simpa [e] using h);exact⟨o,by rw[mE,upd_ne _ _ e]; exact ho⟩
theorem Rh (h:aA) {g:Nat→Nat} {L:List Nat} {m:List (Nat×Ob)} (hi:∀ i∈L++m.map (·.1),∀ j∈L++m.map (·.1),g i=g j→i=j) :
    lX h g L (m.map (·.1)) (hL m)=kz (ln h (L.map g)) (m.map fun p=>(g p.1,p.2.ren g)):=by
  funext i
  unfold lX;split
  ·rename_i id hf;have h1:=ZE hf;have h2:=List.find?_some hf;simp only[beq_iff_eq] at h2;subst h2;obtain⟨o,ho⟩:=zB h1;rw[ho,Ij _ _ (fun p hp e=>hi p.1 (YF _ (YN.2 ⟨p,hp,rfl⟩)) id (YF _ h1) e) o ho];rfl
  ·rename_i hf;have hn:∀ p∈m.map fun p=>(g p.1,p.2.ren g),p.1≠i:=by
     intro p hp e;obtain⟨q,hq,rfl⟩:=YN.1 hp;have:=List.find?_eq_none.1 hf q.1 (YN.2 ⟨q,hq,rfl⟩);exact this (by simpa using e)
   rw[FZ _ _ hn,Ih];have e:(L.any fun id=>g id==i)=(L.map g).contains i:=by
     rw[Bool.eq_iff_iff];simp
   rw[e]
theorem Ri (u:Nat→Bool) (g:Nat→Nat) (L:List Nat):kY u g L=kA u (L.map g):=by
  funext i
  rw[Ii];unfold kY
  congr 1
  rw[Bool.eq_iff_iff];simp
def vF (g:Nat→Nat) (l:List Nat):Bool:=l.all fun i=>l.all fun j=>!(g i==g j) || i==j
theorem Ik {g:Nat→Nat} {l:List Nat} (h:vF g l=true):∀ i∈l,∀ j∈l,g i=g j→i=j:=by
  intro i hi j hj e;have:=YB.1 (YB.1 h i hi) j hj
  simpa [e] using this
def AZ (u:Nat→Bool) (g:Nat→Nat) (L L1:List Nat):Bool:=L1.all fun id=>L.contains id || !u (g id)
theorem KS {F:FuncId} {args xs:List W} {m0 m1:List (Nat×Ob)} {res:V} {h:aA} {u:Nat→Bool} (gl:List (Nat×Nat)) (hd:gL P G F args m0 res m1) (hx:xs=args.map (W.ren (gN gl))) (h3:ib h (gN gl) m0)
    (h4:vF (gN gl) (m0.map (·.1)++m1.map (·.1))=true) (h5:AZ u (gN gl) (m0.map (·.1)) (m1.map (·.1))=true) :
    po P G h u F xs (res.ren (gN gl),kz (ln h ((m0.map (·.1)).map (gN gl))) (m1.map fun p=>(gN gl p.1,p.2.ren (gN gl))),kA u ((m1.map (·.1)).map (gN gl))):=by
  refine⟨gN gl,args,hL m0,_,res,hL m1,_,hd,hx,fun i o ho=>tx h3 (i,o) (iU ho),Ik h4,fun id h1 h2=>?_,?_⟩
  ·have:=YB.1 h5 id h1;rw[Z3] at this;rcases this with e | e
   ·exact absurd (by simpa using e) h2
   ·simpa using e
  ·rw[Rh h (Ik h4),Ri]
theorem Ms {d:Option Nat} {r:List aU} {K:St→Prop} {f:Nat→V} {h:aA} {u:Nat→Bool} {F:FuncId} {pre post:List Cp} {xs:List SX} {args:List W} (ws:List W) {m0 m1:List (Nat×Ob)} {res:V} (gl:List (Nat×Nat)) (hd:gL P G F args m0 res m1)
    (he:∀ (args:Array Value) (w:World),(callFunc F args).run P w=.ok (.enter F args) w) (h1:xs.map (ev G f)=.w (.c (.cf F pre post))::ws.map V.w) (h2:pre.map Cp.w++ws++post.map Cp.w=args.map (W.ren (gN gl))) (h3:ib h (gN gl) m0)
    (h4:vF (gN gl) (m0.map (·.1)++m1.map (·.1))=true) (h5:AZ u (gN gl) (m0.map (·.1)) (m1.map (·.1))=true)
    (e:aM P G r K ⟨bi f d (res.ren (gN gl)),kz (ln h ((m0.map (·.1)).map (gN gl))) (m1.map fun p=>(gN gl p.1,p.2.ren (gN gl))),kA u ((m1.map (·.1)).map (gN gl))⟩):aM P G (⟨d,.callM 1000000007 xs,none⟩::r) K ⟨f,h,u⟩ :=
  ⟨_,.inr ⟨rfl,F,pre,post,ws,h1,he,KS gl hd h2 h3 h4 h5⟩,e⟩
theorem k7 {d:Option Nat} {r:List aU} {K:St→Prop} {f:Nat→V} {h:aA} {u:Nat→Bool} {F:FuncId} {xs:List SX} {args:List W} (ws:List W) {m0 m1:List (Nat×Ob)} {res:V} (gl:List (Nat×Nat)) (hd:gL P G F args m0 res m1)
    (h1:xs.map (ev G f)=ws.map V.w) (h2:ws=args.map (W.ren (gN gl))) (h3:ib h (gN gl) m0)
    (h4:vF (gN gl) (m0.map (·.1)++m1.map (·.1))=true) (h5:AZ u (gN gl) (m0.map (·.1)) (m1.map (·.1))=true)
    (e:aM P G r K ⟨bi f d (res.ren (gN gl)),kz (ln h ((m0.map (·.1)).map (gN gl))) (m1.map fun p=>(gN gl p.1,p.2.ren (gN gl))),kA u ((m1.map (·.1)).map (gN gl))⟩) (hne:F≠gr:=by decide):aM P G (⟨d,.callM F xs,none⟩::r) K ⟨f,h,u⟩ :=
  ⟨_,.inl ⟨hne,ws,h1,KS gl hd h2 h3 h4 h5⟩,e⟩
def oJ (σ:St) (l:List (Nat×Option Kd)) (lk:List Nat) (args:List W) (m0:List (Nat×Ob)) (res:V) (m1:List (Nat×Ob)):Prop:=vx σ l lk args (m0.map (·.1)) res (hL m1) (m1.map (·.1))
def vG (l:List (Nat×Option Kd)) (lk:List Nat) (args:List W) (m0:List (Nat×Ob)) (res:V) (m1:List (Nat×Ob)) (e:AX) (s:St):Prop:=match e with | .nrm=>oJ s l lk args m0 res m1 | .ret=>oJ s l lk args m0 res m1 | .ex _=>False
theorem iS (l:List (Nat×Option Kd)) (lk:List Nat) (args:List W) (m0:List (Nat×Ob)) (res:V) (m1:List (Nat×Ob)) (σ:St):vG l lk args m0 res m1 .nrm σ=oJ σ l lk args m0 res m1:=rfl
theorem gU (l:List (Nat×Option Kd)) (lk:List Nat) (args:List W) (m0:List (Nat×Ob)) (res:V) (m1:List (Nat×Ob)) (σ:St):vG l lk args m0 res m1 .ret σ=oJ σ l lk args m0 res m1:=rfl
def lA (f:Nat→V) (g:Nat→Nat) (args:List W):List (Nat×W)→Prop
  | []=>True
  | (t,x)::r=>args[t]?=some x∧f t=.w (x.ren g)∧lA f g args r
theorem Il {f:Nat→V} {g:Nat→Nat} {args:List W}:∀ {l:List (Nat×W)},lA f g args l→∀ p∈l,args[p.1]?=some p.2∧f p.1=.w (p.2.ren g)
  | (t,x)::r,h,p,hp=>by
    rcases Y1.1 hp with rfl | hp
    ·exact⟨h.1,h.2.1⟩
    ·exact Il h.2.2 p hp
def A0 (lk:List Nat) (m0 m1:List (Nat×Ob)) (l:List (Nat×W)):Prop:=(∀ p∈l,p.1∈lk)∧∀ id∈m0.map (·.1),id∈m1.map (·.1)→∃ p∈l,id∈p.2.lnk
theorem lZ {σ:St} {l:List (Nat×Option Kd)} {lk:List Nat} {args:List W} {m0 m1:List (Nat×Ob)} {res:V} {ws:List W} (gl:List (Nat×Nat)) (lks:List (Nat×W)) (h1:aT (cv σ) l=some ws) (h2:vK ws=res.ren (gN gl)) (h3:ib σ.h (gN gl) m1)
    (h4:qR (m1.map fun p=>gN gl p.1)=true) (h6:lA σ.f (gN gl) args lks) (h7:A0 lk m0 m1 lks):oJ σ l lk args m0 res m1:=by
  refine⟨ws,h1,gN gl,h2,fun id o ho=>tx h3 (id,o) (iU ho),fun i j hi hj e=>?_,fun id hi hi1=>?_⟩
  ·obtain⟨o,ho⟩:=YJ.1 hi;obtain⟨q,hq⟩:=YJ.1 hj;have key:∀ {l:List (Nat×Ob)},(l.map fun p=>gN gl p.1).Nodup→∀ {x y:Nat×Ob},x∈l→y∈l→gN gl x.1=gN gl y.1→x=y:=by
     intro l
     induction l with
     | nil=>intro _ x y hx; cases hx
     | cons p r ih =>
       intro hn x y hx hy e;rw[Yp,List.nodup_cons] at hn;rcases Y1.1 hx with rfl | hx' <;> rcases Y1.1 hy with rfl | hy'
       ·rfl
       ·exact (hn.1 (YN.2 ⟨y,hy',e.symm⟩)).elim
       ·exact (hn.1 (YN.2 ⟨x,hx',e⟩)).elim
       ·exact ih hn.2 hx' hy' e
   exact congrArg Prod.fst (key (xz h4) (iU ho) (iU hq) e)
  ·obtain⟨p,hp,hx⟩:=h7.2 id hi hi1;obtain⟨k1,k2⟩:=Il h6 p hp;exact⟨p.1,h7.1 p hp,p.2,k1,hx,k2⟩
theorem nz {F:FuncId} {fn:Func} {sf:aD} {H:Hint} (hf:P.funcs[F]?=some fn) (hc:aB P H fn=some sf) {args:List W} {m0 m1:List (Nat×Ob)} {res:V} (lk:List Nat) {f0:Nat→V} (hlen:args.length=sf.np) (hlk:lk.all (fun t=>!sf.body.writes.contains t)=true)
    (hp:(m0.all fun p=>p.2.ids.all fun j=>(m0.map (·.1)).contains j)=true) (hi:(args.all fun x=>x.ids.all fun j=>(m0.map (·.1)).contains j)=true) (hq:(m1.all fun p=>p.2.ids.all fun j=>(m1.map (·.1)).contains j)=true) (hr:(res.ids.all fun j=>(m1.map (·.1)).contains j)=true)
    (h0:fN 0 args uf=f0) (e:bE P G sf.body (vG sf.res lk args m0 res m1) ⟨f0,hL m0,uL (m0.map (·.1))⟩):gL P G F args m0 res m1:=by
  have mem:∀ {l:List (Nat×Ob)},(l.all fun p=>p.2.ids.all fun j=>(l.map (·.1)).contains j)=true→∀ id o,hL l id=some o→id∈l.map (·.1)∧∀ j∈o.ids,j∈l.map (·.1):=by
    intro l hl id o ho;have hm:=iU ho;refine⟨YN.2 ⟨_,hm,rfl⟩,fun j hj=>?_⟩;have:=YB.1 (YB.1 hl _ hm) j hj
    simpa using this
  refine GK hf hc hlen hlk ⟨mem hp,fun id hid=>?_,fun x hx i hxi=>?_,mem hq,fun i h=>?_⟩ (Q':=vG sf.res lk args m0 res m1) ?_ ?_
  ·obtain⟨o,ho⟩:=zB hid;rw[ho]; simp
  ·have:=YB.1 (YB.1 hi x hx) i hxi
   simpa using this
  ·have:=YB.1 hr i h
   simpa using this
  ·intro ax σ hq;cases ax with
   | nrm=>exact⟨fun _ e=>(by cases e),hq⟩
   | ret=>exact⟨fun _ e=>(by cases e),hq⟩
   | ex i=>exact hq.elim
  ·have e0:ki args (hL m0) (m0.map (·.1))=⟨f0,hL m0,uL (m0.map (·.1))⟩:=by
     have hh:(fun t=>match args[t]? with | some x=>V.w x | none=>.undef)=fN 0 args uf:=congrArg St.f (w9 args);rw[← h0,← hh];unfold ki
     congr 1
     have:∀ (l:List Nat) (i:Nat),l.contains i=uL l i:=by
       intro l
       induction l with
       | nil=>intro i; rfl
       | cons j r ih =>
         intro i;rw[tw];by_cases e:i=j
         ·subst e; rw[upd_same]; simp
         ·rw[upd_ne _ _ e,← ih i];simp[e]
     exact funext fun i=>this _ i
   rw[e0];exact e
end
end Go.Proofs.YtofonnokanoflaaGreat
