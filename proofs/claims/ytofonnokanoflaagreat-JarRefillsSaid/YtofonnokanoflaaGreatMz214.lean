/- Texts of one's own, merged: from: The plain logic (25): calls that change a variable of the caller's: a box of data. Own work. -/
import Derived.Shelf.Abstract
import Derived.Test.YtofonnokanoflaaGreatMz27
import Derived.Test.YtofonnokanoflaaGreatMz28
set_option linter.unusedVariables false
set_option linter.unusedSimpArgs false
namespace Go.Proofs.YtofonnokanoflaaGreat
open Go.RowKit
section
variable {P:Program} {G:ah}
def Bv (P:Program) (G:ah) (d:Option Nat) (r:List a9) (K:St→Prop) (f:Nat→V) (h:aA) (u:Nat→Bool) (F:Nat) (pre:Option (List Cp)) (post:Option (List Cp)):Prop :=
  match pre,post with | some a,some b=>aR P G r K ⟨bp f d (.w (.c (.cf F a b))),h,u⟩ | _,_=>False
theorem H1 (d:Option Nat) (r:List a9) (K:St→Prop) (f:Nat→V) (h:aA) (u:Nat→Bool) (F:Nat) (xs ys:List SX):aR P G (⟨d,.closM F xs ys,none⟩::r) K ⟨f,h,u⟩=Bv P G d r K f h u F (dw (xs.map (ev G f))) (dw (ys.map (ev G f))):=by
  show (match (match dw (xs.map (ev G f)),dw (ys.map (ev G f)) with | some a,some b=>some (((.w (.c (.cf F a b)),h,u):R)) | _,_=>none) with | some r=>_ | none=>False)=_
  unfold Bv;cases dw (xs.map (ev G f)) <;> cases dw (ys.map (ev G f)) <;> rfl
theorem FK (d:Option Nat) (r:List a9) (K:St→Prop) (f:Nat→V) (h:aA) (u:Nat→Bool) (F:Nat) (a b:List Cp):Bv P G d r K f h u F (some a) (some b)=aR P G r K ⟨bp f d (.w (.c (.cf F a b))),h,u⟩:=rfl
theorem FL:dw []=some []:=rfl
theorem FM (id sz i o:Nat) (r:List V):dw (.w (.c (.ptr id sz i o))::r)=(dw r).map fun l=>.p id sz i o::l:=by
  simp only[dw,qu]; cases dw r <;> rfl
theorem H2 (cs:List D) (r:List V):dw (.w (.c (.rp cs))::r)=(dw r).map fun l=>.d (.ref cs)::l:=by
  simp only[dw,qu,lg]; cases dw r <;> rfl
theorem FN (k:IntKind) (n:Int) (r:List V):dw (.w (.c (.d (.int k n)))::r)=(dw r).map fun l=>.d (.int k n)::l:=by
  simp only[dw,qu,lg]; cases dw r <;> rfl
theorem H3 (es:List D) (r:List V):dw (.w (.c (.d (.sl es)))::r)=(dw r).map fun l=>.d (.sl es)::l:=by
  simp only[dw,qu,lg]; cases dw r <;> rfl
theorem M1 (d:Option Nat) (r:List a9) (K:St→Prop) (f:Nat→V) (h:aA) (u:Nat→Bool) (x:SX):aR P G (⟨d,.nilChk x,none⟩::r) K ⟨f,h,u⟩=(ke (ev G f x)=true∧aR P G r K ⟨bp f d (ev G f x),h,u⟩):=by
  show (match (if ke (ev G f x)=true then some ((ev G f x,h,u):R) else none) with | some r=>_ | none=>False)=_
  by_cases hp:ke (ev G f x)=true
  ·rw[if_pos hp]; simp only[hp,true_and]; rfl
  ·rw[if_neg hp];exact propext ⟨fun h=>h.elim,fun h=>hp h.1⟩
theorem FO (id sz i o:Nat):ke (.w (.c (.ptr id sz i o)))=true:=rfl
theorem H4 (cs:List D):ke (.w (.c (.rp cs)))=true:=rfl
theorem FP (cs:List D):ke (.w (.c (.d (.ref cs))))=true:=rfl
theorem H5 (f:Nat) (cs:List D):ke (.w (.c (.d (.fn f cs))))=true:=rfl
theorem H6 (f:Nat) (a b:List Cp):ke (.w (.c (.cf f a b)))=true:=rfl
theorem gr:kO (And.intro @H1 (And.intro @FK (And.intro @FL (And.intro @FM (And.intro @H2 (And.intro @FN @H3)))))):=And.intro @H1 (And.intro @FK (And.intro @FL (And.intro @FM (And.intro @H2 (And.intro @FN @H3)))))
theorem fC:kO (And.intro @M1 (And.intro @FO (And.intro @H4 (And.intro @FP (And.intro @H5 (And.intro @H6 @true_and)))))):=And.intro @M1 (And.intro @FO (And.intro @H4 (And.intro @FP (And.intro @H5 (And.intro @H6 @true_and)))))
def fD (cs:List D):aA:=hL [(1,.box (cs.map C.d))]
theorem wi (cs:List D) {id:Nat} {o:Ob} (h:fD cs id=some o):id=1∧o=.box (cs.map C.d):=by
  have:=jw h
  simpa using this
theorem OU (cs:List D):(Ob.box (cs.map C.d)).ids=[]:=by
  unfold Ob.ids
  induction cs with
  | nil=>rfl
  | cons c r ih=>simp[C.ids]
theorem Ck (g:Nat→Nat) (cs:List D):(Ob.box (cs.map C.d)).ren g=.box (cs.map C.d):=by
  show Ob.box ((cs.map C.d).map (C.ren g))=_
  rw[adw];rfl
theorem OV (cs:List D):fD cs 1=some (.box (cs.map C.d)):=by
  unfold fD;rw[nH];exact upd_same _ _ _
def xi:V→Bool | .w x=>x.ids.isEmpty | .tup ws=>ws.all fun x=>x.ids.isEmpty | .undef=>true
theorem zZ (g:Nat→Nat):∀ {l:List Cp},l.flatMap Cp.ids=[]→l.map (Cp.ren g)=l
  | [],_=>rfl
  | c::r,h=>by
    rw[ab0,List.append_eq_nil_iff] at h;rw[abK,zZ g h.2];cases c with
    | d x=>rfl
    | p id sz i o=>cases h.1
theorem Km (g:Nat→Nat) {c:C} (h:c.ids=[]):c.ren g=c:=by
  cases c with
  | mp id=>exact absurd h (by simp[C.ids])
  | own=>cases h
  | ptr=>cases h
  | pa=>cases h
  | cf f a b =>
    obtain⟨h1,h2⟩:=List.append_eq_nil_iff.1 (show a.flatMap Cp.ids++b.flatMap Cp.ids=[] from h);simp only[C.ren,zZ g h1,zZ g h2]
  | _=>rfl
theorem H7 (g:Nat→Nat):∀ {cs:List C},cs.flatMap C.ids=[]→cs.map (C.ren g)=cs
  | [],_=>rfl
  | c::r,h=>by
    rw[ab0,List.append_eq_nil_iff] at h;rw[abK,H7 g h.2,Km g h.1]
theorem Kn (g:Nat→Nat) {x:W} (h:x.ids=[]):x.ren g=x:=by
  cases x with
  | c c=>rw[W.ren,Km g h]
  | mix cs=>rw[W.ren,H7 g h]
theorem AE (g:Nat→Nat) {x:V} (h:xi x=true):x.ren g=x∧x.ids=[]:=by
  cases x with
  | w x =>
    have h':x.ids=[]:=List.isEmpty_iff.1 h;exact⟨by rw[V.ren,Kn g h'],h'⟩
  | tup ws =>
    have h':∀ x∈ws,x.ids=[]:=fun x hx=>List.isEmpty_iff.1 (abZ.1 h x hx)
    refine⟨?_,?_⟩
    ·rw[V.ren]
     congr 1
     conv=>rhs; rw[← List.map_id ws]
     exact aco fun x hx=>Kn g (h' x hx)
    ·show ws.flatMap W.ids=[]
     rw[List.flatMap_eq_nil_iff];exact h'
  | undef=>exact⟨rfl,rfl⟩
theorem Vy {F:FuncId} {args xs:List W} {id:Nat} {cs cs':List D} {res:V} {h:aA} {u:Nat→Bool} (hd:na P G F args (fD cs) [1] res (fD cs') [1]) (hx:xs=args.map (W.ren fun _=>id)) (h3:h id=some (.box (cs.map C.d))) (hn:xi res=true) :
    qK P G h u F xs (res,upd h id (some (.box (cs'.map C.d))),upd u id true):=by
  refine⟨fun _=>id,args,fD cs,[1],res,fD cs',[1],hd,hx,fun i o ho=>?_,fun i hi j hj _=>?_,fun i hi hn=>absurd hi hn,?_⟩
  ·obtain⟨rfl,rfl⟩:=wi cs ho;rw[h3,Ck]
  ·simp at hi hj;omega
  ·refine Prod.ext (AE _ hn).1.symm (Prod.ext (funext fun i=>?_) (funext fun i=>?_))
   ·show upd h id _ i=mV h (fun _=>id) [1] [1] (fD cs') i
    unfold mV upd;by_cases e:i=id
    ·subst e;simp only[List.find?_cons,beq_self_eq_true,if_true]
     show _=(fD cs' 1).map _
     rw[OV];simp only[ac7,Ck]
    ·have e':(id==i)=false:=by simpa using fun k=>e k.symm
     simp[e,e']
   ·show upd u id true i=(u i || [1].any fun _=>id==i)
    unfold upd;by_cases e:i=id
    ·subst e; simp
    ·have e':(id==i)=false:=by simpa using fun k=>e k.symm
     simp[e,e']
theorem jZ {d:Option Nat} {r:List a9} {K:St→Prop} {f:Nat→V} {h:aA} {u:Nat→Bool} {F:FuncId} {pre post:List Cp} {xs:List SX} {args ws:List W} {id:Nat} {cs cs':List D} {res:V} (hd:na P G F args (fD cs) [1] res (fD cs') [1])
    (he:∀ (args:Array Value) (w:World),(callFunc F args).run P w=.ok (.enter F args) w) (h1:xs.map (ev G f)=.w (.c (.cf F pre post))::ws.map V.w) (h2:pre.map Cp.w++ws++post.map Cp.w=args.map (W.ren fun _=>id)) (h3:h id=some (.box (cs.map C.d))) (hn:xi res=true)
    (e:aR P G r K ⟨bp f d res,upd h id (some (.box (cs'.map C.d))),upd u id true⟩):aR P G (⟨d,.callM 1000000007 xs,none⟩::r) K ⟨f,h,u⟩ :=
  ⟨_,.inr ⟨rfl,F,pre,post,ws,h1,he,Vy hd h2 h3 hn⟩,e⟩
def tz (σ:St) (l:List (Nat×Option Kd)) (t:Nat) (cs':List D) (res:V):Prop :=
  ∃ ws,aX (cL σ) l=some ws∧xT ws=res∧σ.h 1=some (.box (cs'.map C.d))∧σ.f t=.w (.c (.ptr 1 1 0 0))
def C3 (l:List (Nat×Option Kd)) (t:Nat) (cs':List D) (res:V) (e:AX) (s:St):Prop:=match e with | .nrm=>tz s l t cs' res | .ret=>tz s l t cs' res | .ex _=>False
theorem TI (l:List (Nat×Option Kd)) (t:Nat) (cs':List D) (res:V) (σ:St):C3 l t cs' res .ret σ=tz σ l t cs' res:=rfl
theorem aam {σ:St} {s:Nat} {t:Nat} {cs':List D} {x:W} (h1:σ.f s=.w x) (h2:σ.h 1=some (.box (cs'.map C.d))) (h3:σ.f t=.w (.c (.ptr 1 1 0 0))):tz σ [(s,none)] t cs' (.w x) :=
  ⟨[x],by simp[aX,cL,h1,iH],rfl,h2,h3⟩
theorem R2 {F:FuncId} {fn:Func} {sf:aG} {H:Hint} (hf:P.funcs[F]?=some fn) (hc:aF P H fn=some sf) {args:List W} {cs cs':List D} {res:V} (t:Nat) {f0:Nat→V} (hlen:args.length=sf.np) (hlk:[t].all (fun t=>!sf.body.writes.contains t)=true)
    (ha:args[t]?=some (.c (.ptr 1 1 0 0))) (hi:args.all (fun x=>x.ids.all (·==1))=true) (hn:xi res=true) (h0:gD 0 args uf=f0) (e:bL P G sf.body (C3 sf.res t cs' res) ⟨f0,fD cs,uL [1]⟩):na P G F args (fD cs) [1] res (fD cs') [1]:=by
  refine IY hf hc hlen hlk ⟨fun id o ho=>?_,fun id hid=>?_,fun x hx i hxi=>?_,fun id o ho=>?_,fun i hi=>?_⟩ (Q':=C3 sf.res t cs' res) ?_ ?_
  ·obtain⟨rfl,rfl⟩:=wi cs ho;exact⟨by simp,fun j hj=>by rw[OU] at hj; cases hj⟩
  ·obtain rfl:id=1:=by simpa using hid
   rw[OV];simp
  ·have:=abZ.1 (abZ.1 hi x hx) i hxi
   simpa using this
  ·obtain⟨rfl,rfl⟩:=wi cs' ho;exact⟨by simp,fun j hj=>by rw[OU] at hj; cases hj⟩
  ·rw[(AE id hn).2] at hi; cases hi
  ·have key:∀ σ:St,tz σ sf.res t cs' res→xF σ sf.res [t] args [1] res (fD cs') [1]:=by
     rintro σ ⟨ws,h1,h2,h3,h4⟩;refine⟨ws,h1,fun i=>i,by rw[(AE _ hn).1]; exact h2,fun i o ho=>?_,fun i j hi hj e=>e,fun i hi _=>?_⟩
     ·obtain⟨rfl,rfl⟩:=wi cs' ho;rw[h3,Ck]
     ·obtain rfl:i=1:=by simpa using hi
      exact⟨t,by simp,.c (.ptr 1 1 0 0),ha,by simp[W.lnk],h4⟩
   intro ax σ hq;cases ax with
   | nrm=>exact⟨fun _ e=>(by cases e),key σ hq⟩
   | ret=>exact⟨fun _ e=>(by cases e),key σ hq⟩
   | ex i=>exact hq.elim
  ·have e0:kV args (fD cs) [1]=⟨f0,fD cs,uL [1]⟩:=by
     have hh:(fun t=>match args[t]? with | some x=>V.w x | none=>.undef)=gD 0 args uf:=congrArg St.f (y9 args);rw[← h0,← hh];unfold kV
     congr 1
     funext i
     unfold uL uL upd uN;by_cases e:i=1
     ·simp[e]
     ·simp[e]
   rw[e0];exact e
end
section
variable {P:Program} {G:ah}
def gN:List (Nat×Nat)→Nat→Nat
  | []=>fun i=>i
  | (a,b)::r=>upd (gN r) a b
def mm (h:aA):List Nat→aA
  | []=>h
  | i::r=>upd (mm h r) i none
def ln (h:aA):List (Nat×Ob)→aA
  | []=>h
  | (i,o)::r=>upd (ln h r) i (some o)
def lq (u:Nat→Bool):List Nat→Nat→Bool
  | []=>u
  | i::r=>upd (lq u r) i true
theorem M6:gN []=fun i=>i:=rfl
theorem Kv (a b:Nat) (r:List (Nat×Nat)):gN ((a,b)::r)=upd (gN r) a b:=rfl
theorem H9 (h:aA):mm h []=h:=rfl
theorem za (h:aA) (i:Nat) (r:List Nat):mm h (i::r)=upd (mm h r) i none:=rfl
theorem Ia (h:aA):ln h []=h:=rfl
theorem uH (h:aA) (i:Nat) (o:Ob) (r:List (Nat×Ob)):ln h ((i,o)::r)=upd (ln h r) i (some o):=rfl
theorem Ib (u:Nat→Bool):lq u []=u:=rfl
theorem zb (u:Nat→Bool) (i:Nat) (r:List Nat):lq u (i::r)=upd (lq u r) i true:=rfl
theorem M7 (g:Nat→Nat) (sz:Nat) (es:List D):Ob.ren g (.row sz es)=.row sz es:=rfl
theorem M8 (g:Nat→Nat) (cs:List C):Ob.ren g (.box cs)=.box (cs.map (C.ren g)):=rfl
theorem M9 (g:Nat→Nat) (id sz off n:Nat):C.ren g (.own id sz off n)=.own (g id) sz off n:=rfl
theorem Na (g:Nat→Nat) (id sz i o:Nat):C.ren g (.ptr id sz i o)=.ptr (g id) sz i o:=rfl
theorem PU (g:Nat→Nat) (x:D):C.ren g (.d x)=.d x:=rfl
theorem Nb (g:Nat→Nat):C.ren g .nil=.nil:=rfl
theorem OW (g:Nat→Nat) (f:Nat) (a b:List Cp):C.ren g (.cf f a b)=.cf f (a.map (Cp.ren g)) (b.map (Cp.ren g)):=rfl
theorem OX (g:Nat→Nat) (x:D):Cp.ren g (.d x)=.d x:=rfl
theorem OY (g:Nat→Nat) (id sz i o:Nat):Cp.ren g (.p id sz i o)=.p (g id) sz i o:=rfl
theorem Nc (g:Nat→Nat) (l:List D):(l.map Cp.d).map (Cp.ren g)=l.map Cp.d:=by rw[adw]; rfl
theorem OZ (g:Nat→Nat) (x:C):W.ren g (.c x)=.c (x.ren g):=rfl
theorem O0 (g:Nat→Nat) (x:W):V.ren g (.w x)=.w (x.ren g):=rfl
theorem O1 (g:Nat→Nat) (l:List W):V.ren g (.tup l)=.tup (l.map (W.ren g)):=rfl
theorem pv (l:List D):(l.map Cp.d).flatMap Cp.ids=[]:=by
  induction l with
  | nil=>rfl
  | cons x l ih=>rw[abK,ab0,ih]; rfl
theorem O2 (l:List D):(l.map Cp.d).map Cp.w=l.map fun x=>W.c (.d x):=by rw[adw]; rfl
theorem Nf (g:Nat→Nat) (l:List D):(l.map fun x=>W.c (.d x)).map (W.ren g)=l.map fun x=>W.c (.d x):=by rw[adw]; rfl
theorem O3 (x:D):Cp.w (.d x)=.c (.d x):=rfl
theorem O4 (id sz i o:Nat):Cp.w (.p id sz i o)=.c (.ptr id sz i o):=rfl
theorem ce:kO (And.intro @M6 (And.intro @Kv (And.intro @H9 (And.intro @za (And.intro @Ia (And.intro @uH (And.intro @Ib (And.intro @zb (And.intro @M7 (And.intro @M8 (And.intro @M9 (And.intro @Na (And.intro @PU (And.intro @Nb (And.intro @OW (And.intro @OX (And.intro @OY (And.intro @Nc (And.intro @OZ (And.intro @O0 (And.intro @O1 (And.intro @O2 (And.intro @Nf (And.intro @O3 @O4)))))))))))))))))))))))):=And.intro @M6 (And.intro @Kv (And.intro @H9 (And.intro @za (And.intro @Ia (And.intro @uH (And.intro @Ib (And.intro @zb (And.intro @M7 (And.intro @M8 (And.intro @M9 (And.intro @Na (And.intro @PU (And.intro @Nb (And.intro @OW (And.intro @OX (And.intro @OY (And.intro @Nc (And.intro @OZ (And.intro @O0 (And.intro @O1 (And.intro @O2 (And.intro @Nf (And.intro @O3 @O4)))))))))))))))))))))))
def ij (P:Program) (G:ah) (F:FuncId) (args:List W) (m0:List (Nat×Ob)) (res:V) (m1:List (Nat×Ob)):Prop :=
  na P G F args (hL m0) (m0.map (·.1)) res (hL m1) (m1.map (·.1))
theorem Kw (h:aA):∀ (l:List Nat) (i:Nat),mm h l i=if l.contains i then none else h i
  | [],i=>rfl
  | j::r,i=>by
    rw[za];by_cases e:i=j
    ·subst e; rw[upd_same]; simp
    ·rw[upd_ne _ _ e,Kw h r i];simp[e]
theorem Kx (u:Nat→Bool):∀ (l:List Nat) (i:Nat),lq u l i=(u i || l.contains i)
  | [],i=>by simp[lq]
  | j::r,i=>by
    rw[zb];by_cases e:i=j
    ·subst e; rw[upd_same]; simp
    ·rw[upd_ne _ _ e,Kx u r i];simp[e]
theorem Ic (h:aA) {i:Nat}:∀ (l:List (Nat×Ob)),(∀ p∈l,p.1≠i)→ln h l i=h i
  | [],_=>rfl
  | (j,o)::r,k=>by
    rw[uH,upd_ne _ _ fun e=>k (j,o) (by simp) e.symm];exact Ic h r fun p hp=>k p (by simp[hp])
theorem Ky (h:aA) {g:Nat→Nat} {id:Nat}:∀ (m:List (Nat×Ob)),(∀ p∈m,g p.1=g id→p.1=id)→∀ o,hL m id=some o→ln h (m.map fun p=>(g p.1,p.2.ren g)) (g id)=some (o.ren g)
  | [],_,o,ho=>by cases ho
  | (j,q)::r,k,o,ho=>by
    rw[abK,uH];rw[nH] at ho;by_cases e:id=j
    ·subst e;rw[upd_same] at ho ⊢;cases ho; rfl
    ·rw[upd_ne _ _ e] at ho;have:g id≠g j:=fun e'=>e (k (j,q) (by simp) e'.symm).symm
     rw[upd_ne _ _ this];exact Ky h r (fun p hp=>k p (by simp[hp])) o ho
theorem Bw:∀ {m:List (Nat×Ob)} {id:Nat},id∈m.map (·.1)→∃ o,hL m id=some o
  | (j,q)::r,id,h=>by
    by_cases e:id=j
    ·subst e; exact⟨q,by rw[nH,upd_same]⟩
    ·obtain⟨o,ho⟩:=Bw (m:=r) (id:=id) (by simpa [e] using h);exact⟨o,by rw[nH,upd_ne _ _ e]; exact ho⟩
theorem TK (h:aA) {g:Nat→Nat} {L:List Nat} {m:List (Nat×Ob)} (hi:∀ i∈L++m.map (·.1),∀ j∈L++m.map (·.1),g i=g j→i=j) :
    mV h g L (m.map (·.1)) (hL m)=ln (mm h (L.map g)) (m.map fun p=>(g p.1,p.2.ren g)):=by
  funext i
  unfold mV;split
  ·rename_i id hf;have h1:=ac6 hf;have h2:=List.find?_some hf;simp only[beq_iff_eq] at h2;subst h2;obtain⟨o,ho⟩:=Bw h1;rw[ho,Ky _ _ (fun p hp e=>hi p.1 (abW _ (ab9.2 ⟨p,hp,rfl⟩)) id (abW _ h1) e) o ho];rfl
  ·rename_i hf;have hn:∀ p∈m.map fun p=>(g p.1,p.2.ren g),p.1≠i:=by
     intro p hp e;obtain⟨q,hq,rfl⟩:=ab9.1 hp;have:=List.find?_eq_none.1 hf q.1 (ab9.2 ⟨q,hq,rfl⟩);exact this (by simpa using e)
   rw[Ic _ _ hn,Kw];have e:(L.any fun id=>g id==i)=(L.map g).contains i:=by
     rw[Bool.eq_iff_iff];simp
   rw[e]
theorem TL (u:Nat→Bool) (g:Nat→Nat) (L:List Nat):l8 u g L=lq u (L.map g):=by
  funext i
  rw[Kx];unfold l8
  congr 1
  rw[Bool.eq_iff_iff];simp
def xM (g:Nat→Nat) (l:List Nat):Bool:=l.all fun i=>l.all fun j=>!(g i==g j) || i==j
theorem Kz {g:Nat→Nat} {l:List Nat} (h:xM g l=true):∀ i∈l,∀ j∈l,g i=g j→i=j:=by
  intro i hi j hj e;have:=abZ.1 (abZ.1 h i hi) j hj
  simpa [e] using this
def C4 (u:Nat→Bool) (g:Nat→Nat) (L L1:List Nat):Bool:=L1.all fun id=>L.contains id || !u (g id)
theorem Ng {F:FuncId} {args xs:List W} {m0 m1:List (Nat×Ob)} {res:V} {h:aA} {u:Nat→Bool} (gl:List (Nat×Nat)) (hd:ij P G F args m0 res m1) (hx:xs=args.map (W.ren (gN gl))) (h3:iJ h (gN gl) m0)
    (h4:xM (gN gl) (m0.map (·.1)++m1.map (·.1))=true) (h5:C4 u (gN gl) (m0.map (·.1)) (m1.map (·.1))=true) :
    qK P G h u F xs (res.ren (gN gl),ln (mm h ((m0.map (·.1)).map (gN gl))) (m1.map fun p=>(gN gl p.1,p.2.ren (gN gl))),lq u ((m1.map (·.1)).map (gN gl))):=by
  refine⟨gN gl,args,hL m0,_,res,hL m1,_,hd,hx,fun i o ho=>vy h3 (i,o) (jw ho),Kz h4,fun id h1 h2=>?_,?_⟩
  ·have:=abZ.1 h5 id h1;rw[adz] at this;rcases this with e | e
   ·exact absurd (by simpa using e) h2
   ·simpa using e
  ·rw[TK h (Kz h4),TL]
theorem O5 {d:Option Nat} {r:List a9} {K:St→Prop} {f:Nat→V} {h:aA} {u:Nat→Bool} {F:FuncId} {pre post:List Cp} {xs:List SX} {args:List W} (ws:List W) {m0 m1:List (Nat×Ob)} {res:V} (gl:List (Nat×Nat)) (hd:ij P G F args m0 res m1)
    (he:∀ (args:Array Value) (w:World),(callFunc F args).run P w=.ok (.enter F args) w) (h1:xs.map (ev G f)=.w (.c (.cf F pre post))::ws.map V.w) (h2:pre.map Cp.w++ws++post.map Cp.w=args.map (W.ren (gN gl))) (h3:iJ h (gN gl) m0)
    (h4:xM (gN gl) (m0.map (·.1)++m1.map (·.1))=true) (h5:C4 u (gN gl) (m0.map (·.1)) (m1.map (·.1))=true)
    (e:aR P G r K ⟨bp f d (res.ren (gN gl)),ln (mm h ((m0.map (·.1)).map (gN gl))) (m1.map fun p=>(gN gl p.1,p.2.ren (gN gl))),lq u ((m1.map (·.1)).map (gN gl))⟩):aR P G (⟨d,.callM 1000000007 xs,none⟩::r) K ⟨f,h,u⟩ :=
  ⟨_,.inr ⟨rfl,F,pre,post,ws,h1,he,Ng gl hd h2 h3 h4 h5⟩,e⟩
theorem mb {d:Option Nat} {r:List a9} {K:St→Prop} {f:Nat→V} {h:aA} {u:Nat→Bool} {F:FuncId} {xs:List SX} {args:List W} (ws:List W) {m0 m1:List (Nat×Ob)} {res:V} (gl:List (Nat×Nat)) (hd:ij P G F args m0 res m1)
    (h1:xs.map (ev G f)=ws.map V.w) (h2:ws=args.map (W.ren (gN gl))) (h3:iJ h (gN gl) m0)
    (h4:xM (gN gl) (m0.map (·.1)++m1.map (·.1))=true) (h5:C4 u (gN gl) (m0.map (·.1)) (m1.map (·.1))=true)
    (e:aR P G r K ⟨bp f d (res.ren (gN gl)),ln (mm h ((m0.map (·.1)).map (gN gl))) (m1.map fun p=>(gN gl p.1,p.2.ren (gN gl))),lq u ((m1.map (·.1)).map (gN gl))⟩) (hne:F≠gX:=by decide):aR P G (⟨d,.callM F xs,none⟩::r) K ⟨f,h,u⟩ :=
  ⟨_,.inl ⟨hne,ws,h1,Ng gl hd h2 h3 h4 h5⟩,e⟩
def qg (σ:St) (l:List (Nat×Option Kd)) (lk:List Nat) (args:List W) (m0:List (Nat×Ob)) (res:V) (m1:List (Nat×Ob)):Prop:=xF σ l lk args (m0.map (·.1)) res (hL m1) (m1.map (·.1))
def xN (l:List (Nat×Option Kd)) (lk:List Nat) (args:List W) (m0:List (Nat×Ob)) (res:V) (m1:List (Nat×Ob)) (e:AX) (s:St):Prop:=match e with | .nrm=>qg s l lk args m0 res m1 | .ret=>qg s l lk args m0 res m1 | .ex _=>False
theorem ju (l:List (Nat×Option Kd)) (lk:List Nat) (args:List W) (m0:List (Nat×Ob)) (res:V) (m1:List (Nat×Ob)) (σ:St):xN l lk args m0 res m1 .nrm σ=qg σ l lk args m0 res m1:=rfl
theorem ix (l:List (Nat×Option Kd)) (lk:List Nat) (args:List W) (m0:List (Nat×Ob)) (res:V) (m1:List (Nat×Ob)) (σ:St):xN l lk args m0 res m1 .ret σ=qg σ l lk args m0 res m1:=rfl
def mD (f:Nat→V) (g:Nat→Nat) (args:List W):List (Nat×W)→Prop
  | []=>True
  | (t,x)::r=>args[t]?=some x∧f t=.w (x.ren g)∧mD f g args r
theorem KA {f:Nat→V} {g:Nat→Nat} {args:List W}:∀ {l:List (Nat×W)},mD f g args l→∀ p∈l,args[p.1]?=some p.2∧f p.1=.w (p.2.ren g)
  | (t,x)::r,h,p,hp=>by
    rcases acm.1 hp with rfl | hp
    ·exact⟨h.1,h.2.1⟩
    ·exact KA h.2.2 p hp
def C5 (lk:List Nat) (m0 m1:List (Nat×Ob)) (l:List (Nat×W)):Prop:=(∀ p∈l,p.1∈lk)∧∀ id∈m0.map (·.1),id∈m1.map (·.1)→∃ p∈l,id∈p.2.lnk
theorem mY {σ:St} {l:List (Nat×Option Kd)} {lk:List Nat} {args:List W} {m0 m1:List (Nat×Ob)} {res:V} {ws:List W} (gl:List (Nat×Nat)) (lks:List (Nat×W)) (h1:aX (cL σ) l=some ws) (h2:xT ws=res.ren (gN gl)) (h3:iJ σ.h (gN gl) m1)
    (h4:sT (m1.map fun p=>gN gl p.1)=true) (h6:mD σ.f (gN gl) args lks) (h7:C5 lk m0 m1 lks):qg σ l lk args m0 res m1:=by
  refine⟨ws,h1,gN gl,h2,fun id o ho=>vy h3 (id,o) (jw ho),fun i j hi hj e=>?_,fun id hi hi1=>?_⟩
  ·obtain⟨o,ho⟩:=ab4.1 hi;obtain⟨q,hq⟩:=ab4.1 hj;have key:∀ {l:List (Nat×Ob)},(l.map fun p=>gN gl p.1).Nodup→∀ {x y:Nat×Ob},x∈l→y∈l→gN gl x.1=gN gl y.1→x=y:=by
     intro l
     induction l with
     | nil=>intro _ x y hx; cases hx
     | cons p r ih =>
       intro hn x y hx hy e;rw[abK,adA] at hn;rcases acm.1 hx with rfl | hx' <;> rcases acm.1 hy with rfl | hy'
       ·rfl
       ·exact (hn.1 (ab9.2 ⟨y,hy',e.symm⟩)).elim
       ·exact (hn.1 (ab9.2 ⟨x,hx',e⟩)).elim
       ·exact ih hn.2 hx' hy' e
   exact congrArg Prod.fst (key (zF h4) (jw ho) (jw hq) e)
  ·obtain⟨p,hp,hx⟩:=h7.2 id hi hi1;obtain⟨k1,k2⟩:=KA h6 p hp;exact⟨p.1,h7.1 p hp,p.2,k1,hx,k2⟩
theorem oU {F:FuncId} {fn:Func} {sf:aG} {H:Hint} (hf:P.funcs[F]?=some fn) (hc:aF P H fn=some sf) {args:List W} {m0 m1:List (Nat×Ob)} {res:V} (lk:List Nat) {f0:Nat→V} (hlen:args.length=sf.np) (hlk:lk.all (fun t=>!sf.body.writes.contains t)=true)
    (hp:(m0.all fun p=>p.2.ids.all fun j=>(m0.map (·.1)).contains j)=true) (hi:(args.all fun x=>x.ids.all fun j=>(m0.map (·.1)).contains j)=true) (hq:(m1.all fun p=>p.2.ids.all fun j=>(m1.map (·.1)).contains j)=true) (hr:(res.ids.all fun j=>(m1.map (·.1)).contains j)=true)
    (h0:gD 0 args uf=f0) (e:bL P G sf.body (xN sf.res lk args m0 res m1) ⟨f0,hL m0,uL (m0.map (·.1))⟩):ij P G F args m0 res m1:=by
  have mem:∀ {l:List (Nat×Ob)},(l.all fun p=>p.2.ids.all fun j=>(l.map (·.1)).contains j)=true→∀ id o,hL l id=some o→id∈l.map (·.1)∧∀ j∈o.ids,j∈l.map (·.1):=by
    intro l hl id o ho;have hm:=jw ho;refine⟨ab9.2 ⟨_,hm,rfl⟩,fun j hj=>?_⟩;have:=abZ.1 (abZ.1 hl _ hm) j hj
    simpa using this
  refine IY hf hc hlen hlk ⟨mem hp,fun id hid=>?_,fun x hx i hxi=>?_,mem hq,fun i h=>?_⟩ (Q':=xN sf.res lk args m0 res m1) ?_ ?_
  ·obtain⟨o,ho⟩:=Bw hid;rw[ho]; simp
  ·have:=abZ.1 (abZ.1 hi x hx) i hxi
   simpa using this
  ·have:=abZ.1 hr i h
   simpa using this
  ·intro ax σ hq;cases ax with
   | nrm=>exact⟨fun _ e=>(by cases e),hq⟩
   | ret=>exact⟨fun _ e=>(by cases e),hq⟩
   | ex i=>exact hq.elim
  ·have e0:kV args (hL m0) (m0.map (·.1))=⟨f0,hL m0,uL (m0.map (·.1))⟩:=by
     have hh:(fun t=>match args[t]? with | some x=>V.w x | none=>.undef)=gD 0 args uf:=congrArg St.f (y9 args);rw[← h0,← hh];unfold kV
     congr 1
     have:∀ (l:List Nat) (i:Nat),l.contains i=uL l i:=by
       intro l
       induction l with
       | nil=>intro i; rfl
       | cons j r ih =>
         intro i;rw[vx];by_cases e:i=j
         ·subst e; rw[upd_same]; simp
         ·rw[upd_ne _ _ e,← ih i];simp[e]
     exact funext fun i=>this _ i
   rw[e0];exact e
end
end Go.Proofs.YtofonnokanoflaaGreat
