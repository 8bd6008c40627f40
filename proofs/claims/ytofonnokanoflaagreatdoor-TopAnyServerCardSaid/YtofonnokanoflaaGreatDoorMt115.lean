/- Texts of one's own, merged: from: The plain logic (25): calls that change a variable of the caller's: a box of data. Own work. -/
import Derived.Shelf.Abstract
import Derived.Test.YtofonnokanoflaaGreatDoorMt17
import Derived.Test.YtofonnokanoflaaGreatDoorMt18
set_option linter.unusedVariables false
set_option linter.unusedSimpArgs false
namespace Go.Proofs.YtofonnokanoflaaGreatDoor
open Go.RowKit
section
variable {P:Program} {G:au}
def Ig (P:Program) (G:au) (d:Option Nat) (r:List br) (K:St→Prop) (f:Nat→V) (h:aL) (u:Nat→Bool) (F:Nat) (pre:Option (List Cp)) (post:Option (List Cp)):Prop :=
  match pre,post with | some a,some b=>bh P G r K ⟨bY f d (.w (.c (.cf F a b))),h,u⟩ | _,_=>False
theorem PR (d:Option Nat) (r:List br) (K:St→Prop) (f:Nat→V) (h:aL) (u:Nat→Bool) (F:Nat) (xs ys:List SX):bh P G (⟨d,.closM F xs ys,none⟩::r) K ⟨f,h,u⟩=Ig P G d r K f h u F (eX (xs.map (ev G f))) (eX (ys.map (ev G f))):=by
  show (match (match eX (xs.map (ev G f)),eX (ys.map (ev G f)) with | some a,some b=>some (((.w (.c (.cf F a b)),h,u):R)) | _,_=>none) with | some r=>_ | none=>False)=_
  unfold Ig;cases eX (xs.map (ev G f)) <;> cases eX (ys.map (ev G f)) <;> rfl
theorem M4 (d:Option Nat) (r:List br) (K:St→Prop) (f:Nat→V) (h:aL) (u:Nat→Bool) (F:Nat) (a b:List Cp):Ig P G d r K f h u F (some a) (some b)=bh P G r K ⟨bY f d (.w (.c (.cf F a b))),h,u⟩:=rfl
theorem M5:eX []=some []:=rfl
theorem M6 (id sz i o:Nat) (r:List V):eX (.w (.c (.ptr id sz i o))::r)=(eX r).map fun l=>.p id sz i o::l:=by
  simp only[eX,wk]; cases eX r <;> rfl
theorem PS (cs:List D) (r:List V):eX (.w (.c (.rp cs))::r)=(eX r).map fun l=>.d (.ref cs)::l:=by
  simp only[eX,wk,pm]; cases eX r <;> rfl
theorem M7 (k:IntKind) (n:Int) (r:List V):eX (.w (.c (.d (.int k n)))::r)=(eX r).map fun l=>.d (.int k n)::l:=by
  simp only[eX,wk,pm]; cases eX r <;> rfl
theorem PT (es:List D) (r:List V):eX (.w (.c (.d (.sl es)))::r)=(eX r).map fun l=>.d (.sl es)::l:=by
  simp only[eX,wk,pm]; cases eX r <;> rfl
theorem VM (d:Option Nat) (r:List br) (K:St→Prop) (f:Nat→V) (h:aL) (u:Nat→Bool) (x:SX):bh P G (⟨d,.nilChk x,none⟩::r) K ⟨f,h,u⟩=(nX (ev G f x)=true∧bh P G r K ⟨bY f d (ev G f x),h,u⟩):=by
  show (match (if nX (ev G f x)=true then some ((ev G f x,h,u):R) else none) with | some r=>_ | none=>False)=_
  by_cases hp:nX (ev G f x)=true
  ·rw[if_pos hp]; simp only[hp,true_and]; rfl
  ·rw[if_neg hp];exact propext ⟨fun h=>h.elim,fun h=>hp h.1⟩
theorem M8 (id sz i o:Nat):nX (.w (.c (.ptr id sz i o)))=true:=rfl
theorem PU (cs:List D):nX (.w (.c (.rp cs)))=true:=rfl
theorem M9 (cs:List D):nX (.w (.c (.d (.ref cs))))=true:=rfl
theorem PV (f:Nat) (cs:List D):nX (.w (.c (.d (.fn f cs))))=true:=rfl
theorem PW (f:Nat) (a b:List Cp):nX (.w (.c (.cf f a b)))=true:=rfl
theorem gR:nN (And.intro @PR (And.intro @M4 (And.intro @M5 (And.intro @M6 (And.intro @PS (And.intro @M7 @PT)))))):=And.intro @PR (And.intro @M4 (And.intro @M5 (And.intro @M6 (And.intro @PS (And.intro @M7 @PT)))))
theorem ix:nN (And.intro @VM (And.intro @M8 (And.intro @PU (And.intro @M9 (And.intro @PV (And.intro @PW @true_and)))))):=And.intro @VM (And.intro @M8 (And.intro @PU (And.intro @M9 (And.intro @PV (And.intro @PW @true_and)))))
def iy (cs:List D):aL:=hL [(1,.box (cs.map C.d))]
theorem Ci (cs:List D) {id:Nat} {o:Ob} (h:iy cs id=some o):id=1∧o=.box (cs.map C.d):=by
  have:=mS h
  simpa using this
theorem XY (cs:List D):(Ob.box (cs.map C.d)).ids=[]:=by
  unfold Ob.ids
  induction cs with
  | nil=>rfl
  | cons c r ih=>simp[C.ids]
theorem Jo (g:Nat→Nat) (cs:List D):(Ob.box (cs.map C.d)).ren g=.box (cs.map C.d):=by
  show Ob.box ((cs.map C.d).map (C.ren g))=_
  rw[apO];rfl
theorem XZ (cs:List D):iy cs 1=some (.box (cs.map C.d)):=by
  unfold iy;rw[sY];exact upd_same _ _ _
def C8:V→Bool | .w x=>x.ids.isEmpty | .tup ws=>ws.all fun x=>x.ids.isEmpty | .undef=>true
theorem Gi (g:Nat→Nat):∀ {l:List Cp},l.flatMap Cp.ids=[]→l.map (Cp.ren g)=l
  | [],_=>rfl
  | c::r,h=>by
    rw[aoL,List.append_eq_nil_iff] at h;rw[aos,Gi g h.2];cases c with
    | d x=>rfl
    | p id sz i o=>cases h.1
theorem Su (g:Nat→Nat) {c:C} (h:c.ids=[]):c.ren g=c:=by
  cases c with
  | mp id=>exact absurd h (by simp[C.ids])
  | own=>cases h
  | ptr=>cases h
  | pa=>cases h
  | cf f a b =>
    obtain⟨h1,h2⟩:=List.append_eq_nil_iff.1 (show a.flatMap Cp.ids++b.flatMap Cp.ids=[] from h);simp only[C.ren,Gi g h1,Gi g h2]
  | _=>rfl
theorem PX (g:Nat→Nat):∀ {cs:List C},cs.flatMap C.ids=[]→cs.map (C.ren g)=cs
  | [],_=>rfl
  | c::r,h=>by
    rw[aoL,List.append_eq_nil_iff] at h;rw[aos,PX g h.2,Su g h.1]
theorem Sv (g:Nat→Nat) {x:W} (h:x.ids=[]):x.ren g=x:=by
  cases x with
  | c c=>rw[W.ren,Su g h]
  | mix cs=>rw[W.ren,PX g h]
theorem Hc (g:Nat→Nat) {x:V} (h:C8 x=true):x.ren g=x∧x.ids=[]:=by
  cases x with
  | w x =>
    have h':x.ids=[]:=List.isEmpty_iff.1 h;exact⟨by rw[V.ren,Sv g h'],h'⟩
  | tup ws =>
    have h':∀ x∈ws,x.ids=[]:=fun x hx=>List.isEmpty_iff.1 (aoE.1 h x hx)
    refine⟨?_,?_⟩
    ·rw[V.ren]
     congr 1
     conv=>rhs; rw[← List.map_id ws]
     exact ao1 fun x hx=>Sv g (h' x hx)
    ·show ws.flatMap W.ids=[]
     rw[List.flatMap_eq_nil_iff];exact h'
  | undef=>exact⟨rfl,rfl⟩
theorem afI {F:FuncId} {args xs:List W} {id:Nat} {cs cs':List D} {res:V} {h:aL} {u:Nat→Bool} (hd:rV P G F args (iy cs) [1] res (iy cs') [1]) (hx:xs=args.map (W.ren fun _=>id)) (h3:h id=some (.box (cs.map C.d))) (hn:C8 res=true) :
    wM P G h u F xs (res,upd h id (some (.box (cs'.map C.d))),upd u id true):=by
  refine⟨fun _=>id,args,iy cs,[1],res,iy cs',[1],hd,hx,fun i o ho=>?_,fun i hi j hj _=>?_,fun i hi hn=>absurd hi hn,?_⟩
  ·obtain⟨rfl,rfl⟩:=Ci cs ho;rw[h3,Jo]
  ·simp at hi hj;omega
  ·refine Prod.ext (Hc _ hn).1.symm (Prod.ext (funext fun i=>?_) (funext fun i=>?_))
   ·show upd h id _ i=rK h (fun _=>id) [1] [1] (iy cs') i
    unfold rK upd;by_cases e:i=id
    ·subst e;simp only[List.find?_cons,beq_self_eq_true,if_true]
     show _=(iy cs' 1).map _
     rw[XZ];simp only[apu,Jo]
    ·have e':(id==i)=false:=by simpa using fun k=>e k.symm
     simp[e,e']
   ·show upd u id true i=(u i || [1].any fun _=>id==i)
    unfold upd;by_cases e:i=id
    ·subst e; simp
    ·have e':(id==i)=false:=by simpa using fun k=>e k.symm
     simp[e,e']
theorem nP {d:Option Nat} {r:List br} {K:St→Prop} {f:Nat→V} {h:aL} {u:Nat→Bool} {F:FuncId} {pre post:List Cp} {xs:List SX} {args ws:List W} {id:Nat} {cs cs':List D} {res:V} (hd:rV P G F args (iy cs) [1] res (iy cs') [1])
    (he:∀ (args:Array Value) (w:World),(callFunc F args).run P w=.ok (.enter F args) w) (h1:xs.map (ev G f)=.w (.c (.cf F pre post))::ws.map V.w) (h2:pre.map Cp.w++ws++post.map Cp.w=args.map (W.ren fun _=>id)) (h3:h id=some (.box (cs.map C.d))) (hn:C8 res=true)
    (e:bh P G r K ⟨bY f d res,upd h id (some (.box (cs'.map C.d))),upd u id true⟩):bh P G (⟨d,.callM 1000000007 xs,none⟩::r) K ⟨f,h,u⟩ :=
  ⟨_,.inr ⟨rfl,F,pre,post,ws,h1,he,afI hd h2 h3 hn⟩,e⟩
def za (σ:St) (l:List (Nat×Option Kd)) (t:Nat) (cs':List D) (res:V):Prop :=
  ∃ ws,bB (cV σ) l=some ws∧Ed ws=res∧σ.h 1=some (.box (cs'.map C.d))∧σ.f t=.w (.c (.ptr 1 1 0 0))
def Kk (l:List (Nat×Option Kd)) (t:Nat) (cs':List D) (res:V) (e:AX) (s:St):Prop:=match e with | .nrm=>za s l t cs' res | .ret=>za s l t cs' res | .ex _=>False
theorem adt (l:List (Nat×Option Kd)) (t:Nat) (cs':List D) (res:V) (σ:St):Kk l t cs' res .ret σ=za σ l t cs' res:=rfl
theorem amt {σ:St} {s:Nat} {t:Nat} {cs':List D} {x:W} (h1:σ.f s=.w x) (h2:σ.h 1=some (.box (cs'.map C.d))) (h3:σ.f t=.w (.c (.ptr 1 1 0 0))):za σ [(s,none)] t cs' (.w x) :=
  ⟨[x],by simp[bB,cV,h1,lj],rfl,h2,h3⟩
theorem abE {F:FuncId} {fn:Func} {sf:aK} {H:Hint} (hf:P.funcs[F]?=some fn) (hc:aI P H fn=some sf) {args:List W} {cs cs':List D} {res:V} (t:Nat) {f0:Nat→V} (hlen:args.length=sf.np) (hlk:[t].all (fun t=>!sf.body.writes.contains t)=true)
    (ha:args[t]?=some (.c (.ptr 1 1 0 0))) (hi:args.all (fun x=>x.ids.all (·==1))=true) (hn:C8 res=true) (h0:iH 0 args uf=f0) (e:cD P G sf.body (Kk sf.res t cs' res) ⟨f0,iy cs,uL [1]⟩):rV P G F args (iy cs) [1] res (iy cs') [1]:=by
  refine QQ hf hc hlen hlk ⟨fun id o ho=>?_,fun id hid=>?_,fun x hx i hxi=>?_,fun id o ho=>?_,fun i hi=>?_⟩ (Q':=Kk sf.res t cs' res) ?_ ?_
  ·obtain⟨rfl,rfl⟩:=Ci cs ho;exact⟨by simp,fun j hj=>by rw[XY] at hj; cases hj⟩
  ·obtain rfl:id=1:=by simpa using hid
   rw[XZ];simp
  ·have:=aoE.1 (aoE.1 hi x hx) i hxi
   simpa using this
  ·obtain⟨rfl,rfl⟩:=Ci cs' ho;exact⟨by simp,fun j hj=>by rw[XY] at hj; cases hj⟩
  ·rw[(Hc id hn).2] at hi; cases hi
  ·have key:∀ σ:St,za σ sf.res t cs' res→DG σ sf.res [t] args [1] res (iy cs') [1]:=by
     rintro σ ⟨ws,h1,h2,h3,h4⟩;refine⟨ws,h1,fun i=>i,by rw[(Hc _ hn).1]; exact h2,fun i o ho=>?_,fun i j hi hj e=>e,fun i hi _=>?_⟩
     ·obtain⟨rfl,rfl⟩:=Ci cs' ho;rw[h3,Jo]
     ·obtain rfl:i=1:=by simpa using hi
      exact⟨t,by simp,.c (.ptr 1 1 0 0),ha,by simp[W.lnk],h4⟩
   intro ax σ hq;cases ax with
   | nrm=>exact⟨fun _ e=>(by cases e),key σ hq⟩
   | ret=>exact⟨fun _ e=>(by cases e),key σ hq⟩
   | ex i=>exact hq.elim
  ·have e0:oW args (iy cs) [1]=⟨f0,iy cs,uL [1]⟩:=by
     have hh:(fun t=>match args[t]? with | some x=>V.w x | none=>.undef)=iH 0 args uf:=congrArg St.f (FE args);rw[← h0,← hh];unfold oW
     congr 1
     funext i
     unfold uL uL upd uN;by_cases e:i=1
     ·simp[e]
     ·simp[e]
   rw[e0];exact e
end
section
variable {P:Program} {G:au}
def gN:List (Nat×Nat)→Nat→Nat
  | []=>fun i=>i
  | (a,b)::r=>upd (gN r) a b
def qM (h:aL):List Nat→aL
  | []=>h
  | i::r=>upd (qM h r) i none
def pF (h:aL):List (Nat×Ob)→aL
  | []=>h
  | (i,o)::r=>upd (pF h r) i (some o)
def pG (u:Nat→Bool):List Nat→Nat→Bool
  | []=>u
  | i::r=>upd (pG u r) i true
theorem VN:gN []=fun i=>i:=rfl
theorem Sw (a b:Nat) (r:List (Nat×Nat)):gN ((a,b)::r)=upd (gN r) a b:=rfl
theorem PY (h:aL):qM h []=h:=rfl
theorem FF (h:aL) (i:Nat) (r:List Nat):qM h (i::r)=upd (qM h r) i none:=rfl
theorem PZ (h:aL):pF h []=h:=rfl
theorem Ab (h:aL) (i:Nat) (o:Ob) (r:List (Nat×Ob)):pF h ((i,o)::r)=upd (pF h r) i (some o):=rfl
theorem P0 (u:Nat→Bool):pG u []=u:=rfl
theorem FG (u:Nat→Bool) (i:Nat) (r:List Nat):pG u (i::r)=upd (pG u r) i true:=rfl
theorem VO (g:Nat→Nat) (sz:Nat) (es:List D):Ob.ren g (.row sz es)=.row sz es:=rfl
theorem VP (g:Nat→Nat) (cs:List C):Ob.ren g (.box cs)=.box (cs.map (C.ren g)):=rfl
theorem VQ (g:Nat→Nat) (id sz off n:Nat):C.ren g (.own id sz off n)=.own (g id) sz off n:=rfl
theorem VR (g:Nat→Nat) (id sz i o:Nat):C.ren g (.ptr id sz i o)=.ptr (g id) sz i o:=rfl
theorem Y7 (g:Nat→Nat) (x:D):C.ren g (.d x)=.d x:=rfl
theorem VS (g:Nat→Nat):C.ren g .nil=.nil:=rfl
theorem X0 (g:Nat→Nat) (f:Nat) (a b:List Cp):C.ren g (.cf f a b)=.cf f (a.map (Cp.ren g)) (b.map (Cp.ren g)):=rfl
theorem X1 (g:Nat→Nat) (x:D):Cp.ren g (.d x)=.d x:=rfl
theorem X2 (g:Nat→Nat) (id sz i o:Nat):Cp.ren g (.p id sz i o)=.p (g id) sz i o:=rfl
theorem VT (g:Nat→Nat) (l:List D):(l.map Cp.d).map (Cp.ren g)=l.map Cp.d:=by rw[apO]; rfl
theorem X3 (g:Nat→Nat) (x:C):W.ren g (.c x)=.c (x.ren g):=rfl
theorem X4 (g:Nat→Nat) (x:W):V.ren g (.w x)=.w (x.ren g):=rfl
theorem X5 (g:Nat→Nat) (l:List W):V.ren g (.tup l)=.tup (l.map (W.ren g)):=rfl
theorem u5 (l:List D):(l.map Cp.d).flatMap Cp.ids=[]:=by
  induction l with
  | nil=>rfl
  | cons x l ih=>rw[aos,aoL,ih]; rfl
theorem X6 (l:List D):(l.map Cp.d).map Cp.w=l.map fun x=>W.c (.d x):=by rw[apO]; rfl
theorem VU (g:Nat→Nat) (l:List D):(l.map fun x=>W.c (.d x)).map (W.ren g)=l.map fun x=>W.c (.d x):=by rw[apO]; rfl
theorem X7 (x:D):Cp.w (.d x)=.c (.d x):=rfl
theorem X8 (id sz i o:Nat):Cp.w (.p id sz i o)=.c (.ptr id sz i o):=rfl
theorem de:nN (And.intro @VN (And.intro @Sw (And.intro @PY (And.intro @FF (And.intro @PZ (And.intro @Ab (And.intro @P0 (And.intro @FG (And.intro @VO (And.intro @VP (And.intro @VQ (And.intro @VR (And.intro @Y7 (And.intro @VS (And.intro @X0 (And.intro @X1 (And.intro @X2 (And.intro @VT (And.intro @X3 (And.intro @X4 (And.intro @X5 (And.intro @X6 (And.intro @VU (And.intro @X7 @X8)))))))))))))))))))))))):=And.intro @VN (And.intro @Sw (And.intro @PY (And.intro @FF (And.intro @PZ (And.intro @Ab (And.intro @P0 (And.intro @FG (And.intro @VO (And.intro @VP (And.intro @VQ (And.intro @VR (And.intro @Y7 (And.intro @VS (And.intro @X0 (And.intro @X1 (And.intro @X2 (And.intro @VT (And.intro @X3 (And.intro @X4 (And.intro @X5 (And.intro @X6 (And.intro @VU (And.intro @X7 @X8)))))))))))))))))))))))
def kx (P:Program) (G:au) (F:FuncId) (args:List W) (m0:List (Nat×Ob)) (res:V) (m1:List (Nat×Ob)):Prop :=
  rV P G F args (hL m0) (m0.map (·.1)) res (hL m1) (m1.map (·.1))
theorem Sx (h:aL):∀ (l:List Nat) (i:Nat),qM h l i=if l.contains i then none else h i
  | [],i=>rfl
  | j::r,i=>by
    rw[FF];by_cases e:i=j
    ·subst e; rw[upd_same]; simp
    ·rw[upd_ne _ _ e,Sx h r i];simp[e]
theorem Sy (u:Nat→Bool):∀ (l:List Nat) (i:Nat),pG u l i=(u i || l.contains i)
  | [],i=>by simp[pG]
  | j::r,i=>by
    rw[FG];by_cases e:i=j
    ·subst e; rw[upd_same]; simp
    ·rw[upd_ne _ _ e,Sy u r i];simp[e]
theorem P4 (h:aL) {i:Nat}:∀ (l:List (Nat×Ob)),(∀ p∈l,p.1≠i)→pF h l i=h i
  | [],_=>rfl
  | (j,o)::r,k=>by
    rw[Ab,upd_ne _ _ fun e=>k (j,o) (by simp) e.symm];exact P4 h r fun p hp=>k p (by simp[hp])
theorem Sz (h:aL) {g:Nat→Nat} {id:Nat}:∀ (m:List (Nat×Ob)),(∀ p∈m,g p.1=g id→p.1=id)→∀ o,hL m id=some o→pF h (m.map fun p=>(g p.1,p.2.ren g)) (g id)=some (o.ren g)
  | [],_,o,ho=>by cases ho
  | (j,q)::r,k,o,ho=>by
    rw[aos,Ab];rw[sY] at ho;by_cases e:id=j
    ·subst e;rw[upd_same] at ho ⊢;cases ho; rfl
    ·rw[upd_ne _ _ e] at ho;have:g id≠g j:=fun e'=>e (k (j,q) (by simp) e'.symm).symm
     rw[upd_ne _ _ this];exact Sz h r (fun p hp=>k p (by simp[hp])) o ho
theorem Ih:∀ {m:List (Nat×Ob)} {id:Nat},id∈m.map (·.1)→∃ o,hL m id=some o
  | (j,q)::r,id,h=>by
    by_cases e:id=j
    ·subst e; exact⟨q,by rw[sY,upd_same]⟩
    ·obtain⟨o,ho⟩:=Ih (m:=r) (id:=id) (by simpa [e] using h);exact⟨o,by rw[sY,upd_ne _ _ e]; exact ho⟩
theorem adu (h:aL) {g:Nat→Nat} {L:List Nat} {m:List (Nat×Ob)} (hi:∀ i∈L++m.map (·.1),∀ j∈L++m.map (·.1),g i=g j→i=j) :
    rK h g L (m.map (·.1)) (hL m)=pF (qM h (L.map g)) (m.map fun p=>(g p.1,p.2.ren g)):=by
  funext i
  unfold rK;split
  ·rename_i id hf;have h1:=ap0 hf;have h2:=List.find?_some hf;simp only[beq_iff_eq] at h2;subst h2;obtain⟨o,ho⟩:=Ih h1;rw[ho,Sz _ _ (fun p hp e=>hi p.1 (aoM _ (aoN.2 ⟨p,hp,rfl⟩)) id (aoM _ h1) e) o ho];rfl
  ·rename_i hf;have hn:∀ p∈m.map fun p=>(g p.1,p.2.ren g),p.1≠i:=by
     intro p hp e;obtain⟨q,hq,rfl⟩:=aoN.1 hp;have:=List.find?_eq_none.1 hf q.1 (aoN.2 ⟨q,hq,rfl⟩);exact this (by simpa using e)
   rw[P4 _ _ hn,Sx];have e:(L.any fun id=>g id==i)=(L.map g).contains i:=by
     rw[Bool.eq_iff_iff];simp
   rw[e]
theorem adv (u:Nat→Bool) (g:Nat→Nat) (L:List Nat):qm u g L=pG u (L.map g):=by
  funext i
  rw[Sy];unfold qm
  congr 1
  rw[Bool.eq_iff_iff];simp
def DX (g:Nat→Nat) (l:List Nat):Bool:=l.all fun i=>l.all fun j=>!(g i==g j) || i==j
theorem SA {g:Nat→Nat} {l:List Nat} (h:DX g l=true):∀ i∈l,∀ j∈l,g i=g j→i=j:=by
  intro i hi j hj e;have:=aoE.1 (aoE.1 h i hi) j hj
  simpa [e] using this
def Kl (u:Nat→Bool) (g:Nat→Nat) (L L1:List Nat):Bool:=L1.all fun id=>L.contains id || !u (g id)
theorem VV {F:FuncId} {args xs:List W} {m0 m1:List (Nat×Ob)} {res:V} {h:aL} {u:Nat→Bool} (gl:List (Nat×Nat)) (hd:kx P G F args m0 res m1) (hx:xs=args.map (W.ren (gN gl))) (h3:kD h (gN gl) m0)
    (h4:DX (gN gl) (m0.map (·.1)++m1.map (·.1))=true) (h5:Kl u (gN gl) (m0.map (·.1)) (m1.map (·.1))=true) :
    wM P G h u F xs (res.ren (gN gl),pF (qM h ((m0.map (·.1)).map (gN gl))) (m1.map fun p=>(gN gl p.1,p.2.ren (gN gl))),pG u ((m1.map (·.1)).map (gN gl))):=by
  refine⟨gN gl,args,hL m0,_,res,hL m1,_,hd,hx,fun i o ho=>A4 h3 (i,o) (mS ho),SA h4,fun id h1 h2=>?_,?_⟩
  ·have:=aoE.1 h5 id h1;rw[aqv] at this;rcases this with e | e
   ·exact absurd (by simpa using e) h2
   ·simpa using e
  ·rw[adu h (SA h4),adv]
theorem X9 {d:Option Nat} {r:List br} {K:St→Prop} {f:Nat→V} {h:aL} {u:Nat→Bool} {F:FuncId} {pre post:List Cp} {xs:List SX} {args:List W} (ws:List W) {m0 m1:List (Nat×Ob)} {res:V} (gl:List (Nat×Nat)) (hd:kx P G F args m0 res m1)
    (he:∀ (args:Array Value) (w:World),(callFunc F args).run P w=.ok (.enter F args) w) (h1:xs.map (ev G f)=.w (.c (.cf F pre post))::ws.map V.w) (h2:pre.map Cp.w++ws++post.map Cp.w=args.map (W.ren (gN gl))) (h3:kD h (gN gl) m0)
    (h4:DX (gN gl) (m0.map (·.1)++m1.map (·.1))=true) (h5:Kl u (gN gl) (m0.map (·.1)) (m1.map (·.1))=true)
    (e:bh P G r K ⟨bY f d (res.ren (gN gl)),pF (qM h ((m0.map (·.1)).map (gN gl))) (m1.map fun p=>(gN gl p.1,p.2.ren (gN gl))),pG u ((m1.map (·.1)).map (gN gl))⟩):bh P G (⟨d,.callM 1000000007 xs,none⟩::r) K ⟨f,h,u⟩ :=
  ⟨_,.inr ⟨rfl,F,pre,post,ws,h1,he,VV gl hd h2 h3 h4 h5⟩,e⟩
theorem pi {d:Option Nat} {r:List br} {K:St→Prop} {f:Nat→V} {h:aL} {u:Nat→Bool} {F:FuncId} {xs:List SX} {args:List W} (ws:List W) {m0 m1:List (Nat×Ob)} {res:V} (gl:List (Nat×Nat)) (hd:kx P G F args m0 res m1)
    (h1:xs.map (ev G f)=ws.map V.w) (h2:ws=args.map (W.ren (gN gl))) (h3:kD h (gN gl) m0)
    (h4:DX (gN gl) (m0.map (·.1)++m1.map (·.1))=true) (h5:Kl u (gN gl) (m0.map (·.1)) (m1.map (·.1))=true)
    (e:bh P G r K ⟨bY f d (res.ren (gN gl)),pF (qM h ((m0.map (·.1)).map (gN gl))) (m1.map fun p=>(gN gl p.1,p.2.ren (gN gl))),pG u ((m1.map (·.1)).map (gN gl))⟩) (hne:F≠jt:=by decide):bh P G (⟨d,.callM F xs,none⟩::r) K ⟨f,h,u⟩ :=
  ⟨_,.inl ⟨hne,ws,h1,VV gl hd h2 h3 h4 h5⟩,e⟩
def vX (σ:St) (l:List (Nat×Option Kd)) (lk:List Nat) (args:List W) (m0:List (Nat×Ob)) (res:V) (m1:List (Nat×Ob)):Prop:=DG σ l lk args (m0.map (·.1)) res (hL m1) (m1.map (·.1))
def DY (l:List (Nat×Option Kd)) (lk:List Nat) (args:List W) (m0:List (Nat×Ob)) (res:V) (m1:List (Nat×Ob)) (e:AX) (s:St):Prop:=match e with | .nrm=>vX s l lk args m0 res m1 | .ret=>vX s l lk args m0 res m1 | .ex _=>False
theorem mQ (l:List (Nat×Option Kd)) (lk:List Nat) (args:List W) (m0:List (Nat×Ob)) (res:V) (m1:List (Nat×Ob)) (σ:St):DY l lk args m0 res m1 .nrm σ=vX σ l lk args m0 res m1:=rfl
theorem kS (l:List (Nat×Option Kd)) (lk:List Nat) (args:List W) (m0:List (Nat×Ob)) (res:V) (m1:List (Nat×Ob)) (σ:St):DY l lk args m0 res m1 .ret σ=vX σ l lk args m0 res m1:=rfl
def qR (f:Nat→V) (g:Nat→Nat) (args:List W):List (Nat×W)→Prop
  | []=>True
  | (t,x)::r=>args[t]?=some x∧f t=.w (x.ren g)∧qR f g args r
theorem SB {f:Nat→V} {g:Nat→Nat} {args:List W}:∀ {l:List (Nat×W)},qR f g args l→∀ p∈l,args[p.1]?=some p.2∧f p.1=.w (p.2.ren g)
  | (t,x)::r,h,p,hp=>by
    rcases aoK.1 hp with rfl | hp
    ·exact⟨h.1,h.2.1⟩
    ·exact SB h.2.2 p hp
def Km (lk:List Nat) (m0 m1:List (Nat×Ob)) (l:List (Nat×W)):Prop:=(∀ p∈l,p.1∈lk)∧∀ id∈m0.map (·.1),id∈m1.map (·.1)→∃ p∈l,id∈p.2.lnk
theorem rP {σ:St} {l:List (Nat×Option Kd)} {lk:List Nat} {args:List W} {m0 m1:List (Nat×Ob)} {res:V} {ws:List W} (gl:List (Nat×Nat)) (lks:List (Nat×W)) (h1:bB (cV σ) l=some ws) (h2:Ed ws=res.ren (gN gl)) (h3:kD σ.h (gN gl) m1)
    (h4:yE (m1.map fun p=>gN gl p.1)=true) (h6:qR σ.f (gN gl) args lks) (h7:Km lk m0 m1 lks):vX σ l lk args m0 res m1:=by
  refine⟨ws,h1,gN gl,h2,fun id o ho=>A4 h3 (id,o) (mS ho),fun i j hi hj e=>?_,fun id hi hi1=>?_⟩
  ·obtain⟨o,ho⟩:=aoO.1 hi;obtain⟨q,hq⟩:=aoO.1 hj;have key:∀ {l:List (Nat×Ob)},(l.map fun p=>gN gl p.1).Nodup→∀ {x y:Nat×Ob},x∈l→y∈l→gN gl x.1=gN gl y.1→x=y:=by
     intro l
     induction l with
     | nil=>intro _ x y hx; cases hx
     | cons p r ih =>
       intro hn x y hx hy e;rw[aos,ap2] at hn;rcases aoK.1 hx with rfl | hx' <;> rcases aoK.1 hy with rfl | hy'
       ·rfl
       ·exact (hn.1 (aoN.2 ⟨y,hy',e.symm⟩)).elim
       ·exact (hn.1 (aoN.2 ⟨x,hx',e⟩)).elim
       ·exact ih hn.2 hx' hy' e
   exact congrArg Prod.fst (key (FX h4) (mS ho) (mS hq) e)
  ·obtain⟨p,hp,hx⟩:=h7.2 id hi hi1;obtain⟨k1,k2⟩:=SB h6 p hp;exact⟨p.1,h7.1 p hp,p.2,k1,hx,k2⟩
theorem uv {F:FuncId} {fn:Func} {sf:aK} {H:Hint} (hf:P.funcs[F]?=some fn) (hc:aI P H fn=some sf) {args:List W} {m0 m1:List (Nat×Ob)} {res:V} (lk:List Nat) {f0:Nat→V} (hlen:args.length=sf.np) (hlk:lk.all (fun t=>!sf.body.writes.contains t)=true)
    (hp:(m0.all fun p=>p.2.ids.all fun j=>(m0.map (·.1)).contains j)=true) (hi:(args.all fun x=>x.ids.all fun j=>(m0.map (·.1)).contains j)=true) (hq:(m1.all fun p=>p.2.ids.all fun j=>(m1.map (·.1)).contains j)=true) (hr:(res.ids.all fun j=>(m1.map (·.1)).contains j)=true)
    (h0:iH 0 args uf=f0) (e:cD P G sf.body (DY sf.res lk args m0 res m1) ⟨f0,hL m0,uL (m0.map (·.1))⟩):kx P G F args m0 res m1:=by
  have mem:∀ {l:List (Nat×Ob)},(l.all fun p=>p.2.ids.all fun j=>(l.map (·.1)).contains j)=true→∀ id o,hL l id=some o→id∈l.map (·.1)∧∀ j∈o.ids,j∈l.map (·.1):=by
    intro l hl id o ho;have hm:=mS ho;refine⟨aoN.2 ⟨_,hm,rfl⟩,fun j hj=>?_⟩;have:=aoE.1 (aoE.1 hl _ hm) j hj
    simpa using this
  refine QQ hf hc hlen hlk ⟨mem hp,fun id hid=>?_,fun x hx i hxi=>?_,mem hq,fun i h=>?_⟩ (Q':=DY sf.res lk args m0 res m1) ?_ ?_
  ·obtain⟨o,ho⟩:=Ih hid;rw[ho]; simp
  ·have:=aoE.1 (aoE.1 hi x hx) i hxi
   simpa using this
  ·have:=aoE.1 hr i h
   simpa using this
  ·intro ax σ hq;cases ax with
   | nrm=>exact⟨fun _ e=>(by cases e),hq⟩
   | ret=>exact⟨fun _ e=>(by cases e),hq⟩
   | ex i=>exact hq.elim
  ·have e0:oW args (hL m0) (m0.map (·.1))=⟨f0,hL m0,uL (m0.map (·.1))⟩:=by
     have hh:(fun t=>match args[t]? with | some x=>V.w x | none=>.undef)=iH 0 args uf:=congrArg St.f (FE args);rw[← h0,← hh];unfold oW
     congr 1
     have:∀ (l:List Nat) (i:Nat),l.contains i=uL l i:=by
       intro l
       induction l with
       | nil=>intro i; rfl
       | cons j r ih =>
         intro i;rw[A3];by_cases e:i=j
         ·subst e; rw[upd_same]; simp
         ·rw[upd_ne _ _ e,← ih i];simp[e]
     exact funext fun i=>this _ i
   rw[e0];exact e
end
end Go.Proofs.YtofonnokanoflaaGreatDoor
