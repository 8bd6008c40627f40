/- Texts of one's own, merged: from: The plain logic (25): calls that change a variable of the caller's: a box of data. Own work. -/
import Derived.Shelf.Abstract
import Derived.Test.YtnjhelpgohdajaaGreatDoorMg17
import Derived.Test.YtnjhelpgohdajaaGreatDoorMg18
set_option linter.unusedVariables false
set_option linter.unusedSimpArgs false
namespace Go.Proofs.YtnjhelpgohdajaaGreatDoor
open Go.RowKit
section
variable {P:Program} {G:au}
def IQ (P:Program) (G:au) (d:Option Nat) (r:List bi) (K:St→Prop) (f:Nat→V) (h:aI) (u:Nat→Bool) (F:Nat) (pre:Option (List Cp)) (post:Option (List Cp)):Prop :=
  match pre,post with | some a,some b=>bg P G r K ⟨bY f d (.w (.c (.cf F a b))),h,u⟩ | _,_=>False
theorem OK (d:Option Nat) (r:List bi) (K:St→Prop) (f:Nat→V) (h:aI) (u:Nat→Bool) (F:Nat) (xs ys:List SX):bg P G (⟨d,.closM F xs ys,none⟩::r) K ⟨f,h,u⟩=IQ P G d r K f h u F (fa (xs.map (ev G f))) (fa (ys.map (ev G f))):=by
  show (match (match fa (xs.map (ev G f)),fa (ys.map (ev G f)) with | some a,some b=>some (((.w (.c (.cf F a b)),h,u):R)) | _,_=>none) with | some r=>_ | none=>False)=_
  unfold IQ;cases fa (xs.map (ev G f)) <;> cases fa (ys.map (ev G f)) <;> rfl
theorem M4 (d:Option Nat) (r:List bi) (K:St→Prop) (f:Nat→V) (h:aI) (u:Nat→Bool) (F:Nat) (a b:List Cp):IQ P G d r K f h u F (some a) (some b)=bg P G r K ⟨bY f d (.w (.c (.cf F a b))),h,u⟩:=rfl
theorem M5:fa []=some []:=rfl
theorem M6 (id sz i o:Nat) (r:List V):fa (.w (.c (.ptr id sz i o))::r)=(fa r).map fun l=>.p id sz i o::l:=by
  simp only[fa,wN]; cases fa r <;> rfl
theorem OL (cs:List D) (r:List V):fa (.w (.c (.rp cs))::r)=(fa r).map fun l=>.d (.ref cs)::l:=by
  simp only[fa,wN,pG]; cases fa r <;> rfl
theorem M7 (k:IntKind) (n:Int) (r:List V):fa (.w (.c (.d (.int k n)))::r)=(fa r).map fun l=>.d (.int k n)::l:=by
  simp only[fa,wN,pG]; cases fa r <;> rfl
theorem OM (es:List D) (r:List V):fa (.w (.c (.d (.sl es)))::r)=(fa r).map fun l=>.d (.sl es)::l:=by
  simp only[fa,wN,pG]; cases fa r <;> rfl
theorem SB (d:Option Nat) (r:List bi) (K:St→Prop) (f:Nat→V) (h:aI) (u:Nat→Bool) (x:SX):bg P G (⟨d,.nilChk x,none⟩::r) K ⟨f,h,u⟩=(oe (ev G f x)=true∧bg P G r K ⟨bY f d (ev G f x),h,u⟩):=by
  show (match (if oe (ev G f x)=true then some ((ev G f x,h,u):R) else none) with | some r=>_ | none=>False)=_
  by_cases hp:oe (ev G f x)=true
  ·rw[if_pos hp]; simp only[hp,true_and]; rfl
  ·rw[if_neg hp];exact propext ⟨fun h=>h.elim,fun h=>hp h.1⟩
theorem M8 (id sz i o:Nat):oe (.w (.c (.ptr id sz i o)))=true:=rfl
theorem ON (cs:List D):oe (.w (.c (.rp cs)))=true:=rfl
theorem M9 (cs:List D):oe (.w (.c (.d (.ref cs))))=true:=rfl
theorem OO (f:Nat) (cs:List D):oe (.w (.c (.d (.fn f cs))))=true:=rfl
theorem OP (f:Nat) (a b:List Cp):oe (.w (.c (.cf f a b)))=true:=rfl
theorem gR:nm (And.intro @OK (And.intro @M4 (And.intro @M5 (And.intro @M6 (And.intro @OL (And.intro @M7 @OM)))))):=And.intro @OK (And.intro @M4 (And.intro @M5 (And.intro @M6 (And.intro @OL (And.intro @M7 @OM)))))
theorem iC:nm (And.intro @SB (And.intro @M8 (And.intro @ON (And.intro @M9 (And.intro @OO (And.intro @OP @true_and)))))):=And.intro @SB (And.intro @M8 (And.intro @ON (And.intro @M9 (And.intro @OO (And.intro @OP @true_and)))))
def iD (cs:List D):aI:=hL [(1,.box (cs.map C.d))]
theorem Cq (cs:List D) {id:Nat} {o:Ob} (h:iD cs id=some o):id=1∧o=.box (cs.map C.d):=by
  have:=lh h
  simpa using this
theorem Um (cs:List D):(Ob.box (cs.map C.d)).ids=[]:=by
  unfold Ob.ids
  induction cs with
  | nil=>rfl
  | cons c r ih=>simp[C.ids]
theorem J5 (g:Nat→Nat) (cs:List D):(Ob.box (cs.map C.d)).ren g=.box (cs.map C.d):=by
  show Ob.box ((cs.map C.d).map (C.ren g))=_
  rw[aqQ];rfl
theorem Un (cs:List D):iD cs 1=some (.box (cs.map C.d)):=by
  unfold iD;rw[vm];exact upd_same _ _ _
def Dh:V→Bool | .w x=>x.ids.isEmpty | .tup ws=>ws.all fun x=>x.ids.isEmpty | .undef=>true
theorem GA (g:Nat→Nat):∀ {l:List Cp},l.flatMap Cp.ids=[]→l.map (Cp.ren g)=l
  | [],_=>rfl
  | c::r,h=>by
    rw[aqb,List.append_eq_nil_iff] at h;rw[apW,GA g h.2];cases c with
    | d x=>rfl
    | p id sz i o=>cases h.1
theorem QB (g:Nat→Nat) {c:C} (h:c.ids=[]):c.ren g=c:=by
  cases c with
  | mp id=>exact absurd h (by simp[C.ids])
  | own=>cases h
  | ptr=>cases h
  | pa=>cases h
  | cf f a b =>
    obtain⟨h1,h2⟩:=List.append_eq_nil_iff.1 (show a.flatMap Cp.ids++b.flatMap Cp.ids=[] from h);simp only[C.ren,GA g h1,GA g h2]
  | _=>rfl
theorem OQ (g:Nat→Nat):∀ {cs:List C},cs.flatMap C.ids=[]→cs.map (C.ren g)=cs
  | [],_=>rfl
  | c::r,h=>by
    rw[aqb,List.append_eq_nil_iff] at h;rw[apW,OQ g h.2,QB g h.1]
theorem QC (g:Nat→Nat) {x:W} (h:x.ids=[]):x.ren g=x:=by
  cases x with
  | c c=>rw[W.ren,QB g h]
  | mix cs=>rw[W.ren,OQ g h]
theorem HA (g:Nat→Nat) {x:V} (h:Dh x=true):x.ren g=x∧x.ids=[]:=by
  cases x with
  | w x =>
    have h':x.ids=[]:=List.isEmpty_iff.1 h;exact⟨by rw[V.ren,QC g h'],h'⟩
  | tup ws =>
    have h':∀ x∈ws,x.ids=[]:=fun x hx=>List.isEmpty_iff.1 (ap9.1 h x hx)
    refine⟨?_,?_⟩
    ·rw[V.ren]
     congr 1
     conv=>rhs; rw[← List.map_id ws]
     exact aqu fun x hx=>QC g (h' x hx)
    ·show ws.flatMap W.ids=[]
     rw[List.flatMap_eq_nil_iff];exact h'
  | undef=>exact⟨rfl,rfl⟩
theorem ae2 {F:FuncId} {args xs:List W} {id:Nat} {cs cs':List D} {res:V} {h:aI} {u:Nat→Bool} (hd:sB P G F args (iD cs) [1] res (iD cs') [1]) (hx:xs=args.map (W.ren fun _=>id)) (h3:h id=some (.box (cs.map C.d))) (hn:Dh res=true) (hdir:args.any (fun x=>x.ids.contains 1)=true) :
    oB P G h u F xs (res,upd h id (some (.box (cs'.map C.d))),upd u id true):=by
  refine⟨fun _=>id,args,iD cs,[1],res,iD cs',[1],hd,hx,fun i o ho=>?_,fun i hi j hj _=>?_,fun i hi hn=>absurd hi hn,fun i hi=>?_,?_⟩
  ·obtain⟨rfl,rfl⟩:=Cq cs ho;rw[h3,J5]
  ·simp at hi hj;omega
  ·obtain⟨x,hx,h1⟩:=aqP.1 hdir;rw[apY.1 hi];exact .inl ⟨x,hx,by simpa using h1⟩
  ·refine Prod.ext (HA _ hn).1.symm (Prod.ext (funext fun i=>?_) (funext fun i=>?_))
   ·show upd h id _ i=kG h (fun _=>id) [1] [1] (iD cs') i
    unfold kG upd;by_cases e:i=id
    ·subst e;simp only[List.find?_cons,beq_self_eq_true,if_true]
     show _=(iD cs' 1).map _
     rw[Un];simp only[aq4,J5]
    ·have e':(id==i)=false:=by simpa using fun k=>e k.symm
     simp[e,e']
   ·show upd u id true i=(u i || [1].any fun _=>id==i)
    unfold upd;by_cases e:i=id
    ·subst e; simp
    ·have e':(id==i)=false:=by simpa using fun k=>e k.symm
     simp[e,e']
theorem nW {d:Option Nat} {r:List bi} {K:St→Prop} {f:Nat→V} {h:aI} {u:Nat→Bool} {F:FuncId} {pre post:List Cp} {xs:List SX} {args ws:List W} {id:Nat} {cs cs':List D} {res:V} (hd:sB P G F args (iD cs) [1] res (iD cs') [1])
    (he:∀ (args:Array Value) (w:World),(callFunc F args).run P w=.ok (.enter F args) w) (h1:(fR xs).map (ev G f)=.w (.c (.cf F pre post))::ws.map V.w) (h2:pre.map Cp.w++ws++post.map Cp.w=args.map (W.ren fun _=>id)) (h3:h id=some (.box (cs.map C.d))) (hn:Dh res=true)
    (e:bg P G r K ⟨bY f d res,upd h id (some (.box (cs'.map C.d))),upd u id true⟩) (hnm:oq (ev G f) xs=true:=by rfl) (hdir:args.any (fun x=>x.ids.contains 1)=true:=by rfl):bg P G (⟨d,.callM 1000000007 xs,none⟩::r) K ⟨f,h,u⟩ :=
  ⟨_,⟨.inr ⟨rfl,F,pre,post,ws,h1,he,ae2 hd h2 h3 hn hdir⟩,hnm⟩,e⟩
def zH (σ:St) (l:List (Nat×Option Kd)) (t:Nat) (cs':List D) (res:V):Prop :=
  ∃ ws,bE (dd σ) l=some ws∧En ws=res∧σ.h 1=some (.box (cs'.map C.d))∧σ.f t=.w (.c (.ptr 1 1 0 0))
def KT (l:List (Nat×Option Kd)) (t:Nat) (cs':List D) (res:V) (e:AX) (s:St):Prop:=match e with | .nrm=>zH s l t cs' res | .ret=>zH s l t cs' res | .ex _=>False
theorem abV (l:List (Nat×Option Kd)) (t:Nat) (cs':List D) (res:V) (σ:St):KT l t cs' res .ret σ=zH σ l t cs' res:=rfl
theorem anK {σ:St} {s:Nat} {t:Nat} {cs':List D} {x:W} (h1:σ.f s=.w x) (h2:σ.h 1=some (.box (cs'.map C.d))) (h3:σ.f t=.w (.c (.ptr 1 1 0 0))):zH σ [(s,none)] t cs' (.w x) :=
  ⟨[x],by simp[bE,dd,h1,j9],rfl,h2,h3⟩
theorem Y0 {F:FuncId} {fn:Func} {sf:aO} {H:Hint} (hf:P.funcs[F]?=some fn) (hc:aM P H fn=some sf) {args:List W} {cs cs':List D} {res:V} (t:Nat) {f0:Nat→V} (hlen:args.length=sf.np) (hlk:[t].all (fun t=>!sf.body.writes.contains t)=true)
    (ha:args[t]?=some (.c (.ptr 1 1 0 0))) (hi:args.all (fun x=>x.ids.all (·==1))=true) (hn:Dh res=true) (h0:iM 0 args uf=f0) (e:cE P G sf.body (KT sf.res t cs' res) ⟨f0,iD cs,uL [1]⟩):sB P G F args (iD cs) [1] res (iD cs') [1]:=by
  refine PH hf hc hlen hlk ⟨fun id o ho=>?_,fun id hid=>?_,fun x hx i hxi=>?_,fun id o ho=>?_,fun i hi=>?_⟩ (Q':=KT sf.res t cs' res) ?_ ?_
  ·obtain⟨rfl,rfl⟩:=Cq cs ho;exact⟨by simp,fun j hj=>by rw[Um] at hj; cases hj⟩
  ·obtain rfl:id=1:=by simpa using hid
   rw[Un];simp
  ·have:=ap9.1 (ap9.1 hi x hx) i hxi
   simpa using this
  ·obtain⟨rfl,rfl⟩:=Cq cs' ho;exact⟨by simp,fun j hj=>by rw[Um] at hj; cases hj⟩
  ·rw[(HA id hn).2] at hi; cases hi
  ·have key:∀ σ:St,zH σ sf.res t cs' res→DT σ sf.res [t] args [1] res (iD cs') [1]:=by
     rintro σ ⟨ws,h1,h2,h3,h4⟩;refine⟨ws,h1,fun i=>i,by rw[(HA _ hn).1]; exact h2,fun i o ho=>?_,fun i j hi hj e=>e,fun i hi _=>?_⟩
     ·obtain⟨rfl,rfl⟩:=Cq cs' ho;rw[h3,J5]
     ·obtain rfl:i=1:=by simpa using hi
      exact⟨t,by simp,.c (.ptr 1 1 0 0),ha,by simp[W.lnk],h4⟩
   intro ax σ hq;cases ax with
   | nrm=>exact⟨fun _ e=>(by cases e),key σ hq⟩
   | ret=>exact⟨fun _ e=>(by cases e),key σ hq⟩
   | ex i=>exact hq.elim
  ·have e0:pj args (iD cs) [1]=⟨f0,iD cs,uL [1]⟩:=by
     have hh:(fun t=>match args[t]? with | some x=>V.w x | none=>.undef)=iM 0 args uf:=congrArg St.f (FN args);rw[← h0,← hh];unfold pj
     congr 1
     funext i
     unfold uL uL upd uN;by_cases e:i=1
     ·simp[e]
     ·simp[e]
   rw[e0];exact e
end
section
variable {P:Program} {G:au}
def gN:List (Nat×Nat)→Nat→Nat
  | []=>fun i=>i
  | (a,b)::r=>upd (gN r) a b
def q9 (h:aI):List Nat→aI
  | []=>h
  | i::r=>upd (q9 h r) i none
def pP (h:aI):List (Nat×Ob)→aI
  | []=>h
  | (i,o)::r=>upd (pP h r) i (some o)
def pQ (u:Nat→Bool):List Nat→Nat→Bool
  | []=>u
  | i::r=>upd (pQ u r) i true
theorem SC:gN []=fun i=>i:=rfl
theorem QD (a b:Nat) (r:List (Nat×Nat)):gN ((a,b)::r)=upd (gN r) a b:=rfl
theorem OR (h:aI):q9 h []=h:=rfl
theorem FO (h:aI) (i:Nat) (r:List Nat):q9 h (i::r)=upd (q9 h r) i none:=rfl
theorem OS (h:aI):pP h []=h:=rfl
theorem AF (h:aI) (i:Nat) (o:Ob) (r:List (Nat×Ob)):pP h ((i,o)::r)=upd (pP h r) i (some o):=rfl
theorem OT (u:Nat→Bool):pQ u []=u:=rfl
theorem FP (u:Nat→Bool) (i:Nat) (r:List Nat):pQ u (i::r)=upd (pQ u r) i true:=rfl
theorem SD (g:Nat→Nat) (sz:Nat) (es:List D):Ob.ren g (.row sz es)=.row sz es:=rfl
theorem SE (g:Nat→Nat) (cs:List C):Ob.ren g (.box cs)=.box (cs.map (C.ren g)):=rfl
theorem SF (g:Nat→Nat) (id sz off n:Nat):C.ren g (.own id sz off n)=.own (g id) sz off n:=rfl
theorem SG (g:Nat→Nat) (id sz i o:Nat):C.ren g (.ptr id sz i o)=.ptr (g id) sz i o:=rfl
theorem Vs (g:Nat→Nat) (x:D):C.ren g (.d x)=.d x:=rfl
theorem SH (g:Nat→Nat):C.ren g .nil=.nil:=rfl
theorem Uo (g:Nat→Nat) (f:Nat) (a b:List Cp):C.ren g (.cf f a b)=.cf f (a.map (Cp.ren g)) (b.map (Cp.ren g)):=rfl
theorem Up (g:Nat→Nat) (x:D):Cp.ren g (.d x)=.d x:=rfl
theorem Uq (g:Nat→Nat) (id sz i o:Nat):Cp.ren g (.p id sz i o)=.p (g id) sz i o:=rfl
theorem SI (g:Nat→Nat) (l:List D):(l.map Cp.d).map (Cp.ren g)=l.map Cp.d:=by rw[aqQ]; rfl
theorem Ur (g:Nat→Nat) (x:C):W.ren g (.c x)=.c (x.ren g):=rfl
theorem Us (g:Nat→Nat) (x:W):V.ren g (.w x)=.w (x.ren g):=rfl
theorem Ut (g:Nat→Nat) (l:List W):V.ren g (.tup l)=.tup (l.map (W.ren g)):=rfl
theorem vx (l:List D):(l.map Cp.d).flatMap Cp.ids=[]:=by
  induction l with
  | nil=>rfl
  | cons x l ih=>rw[apW,aqb,ih]; rfl
theorem Uu (l:List D):(l.map Cp.d).map Cp.w=l.map fun x=>W.c (.d x):=by rw[aqQ]; rfl
theorem SJ (g:Nat→Nat) (l:List D):(l.map fun x=>W.c (.d x)).map (W.ren g)=l.map fun x=>W.c (.d x):=by rw[aqQ]; rfl
theorem Uv (x:D):Cp.w (.d x)=.c (.d x):=rfl
theorem Uw (id sz i o:Nat):Cp.w (.p id sz i o)=.c (.ptr id sz i o):=rfl
theorem dc:nm (And.intro @SC (And.intro @QD (And.intro @OR (And.intro @FO (And.intro @OS (And.intro @AF (And.intro @OT (And.intro @FP (And.intro @SD (And.intro @SE (And.intro @SF (And.intro @SG (And.intro @Vs (And.intro @SH (And.intro @Uo (And.intro @Up (And.intro @Uq (And.intro @SI (And.intro @Ur (And.intro @Us (And.intro @Ut (And.intro @Uu (And.intro @SJ (And.intro @Uv @Uw)))))))))))))))))))))))):=And.intro @SC (And.intro @QD (And.intro @OR (And.intro @FO (And.intro @OS (And.intro @AF (And.intro @OT (And.intro @FP (And.intro @SD (And.intro @SE (And.intro @SF (And.intro @SG (And.intro @Vs (And.intro @SH (And.intro @Uo (And.intro @Up (And.intro @Uq (And.intro @SI (And.intro @Ur (And.intro @Us (And.intro @Ut (And.intro @Uu (And.intro @SJ (And.intro @Uv @Uw)))))))))))))))))))))))
def kL (P:Program) (G:au) (F:FuncId) (args:List W) (m0:List (Nat×Ob)) (res:V) (m1:List (Nat×Ob)):Prop :=
  sB P G F args (hL m0) (m0.map (·.1)) res (hL m1) (m1.map (·.1))
theorem QE (h:aI):∀ (l:List Nat) (i:Nat),q9 h l i=if l.contains i then none else h i
  | [],i=>rfl
  | j::r,i=>by
    rw[FO];by_cases e:i=j
    ·subst e; rw[upd_same]; simp
    ·rw[upd_ne _ _ e,QE h r i];simp[e]
theorem QF (u:Nat→Bool):∀ (l:List Nat) (i:Nat),pQ u l i=(u i || l.contains i)
  | [],i=>by simp[pQ]
  | j::r,i=>by
    rw[FP];by_cases e:i=j
    ·subst e; rw[upd_same]; simp
    ·rw[upd_ne _ _ e,QF u r i];simp[e]
theorem OU (h:aI) {i:Nat}:∀ (l:List (Nat×Ob)),(∀ p∈l,p.1≠i)→pP h l i=h i
  | [],_=>rfl
  | (j,o)::r,k=>by
    rw[AF,upd_ne _ _ fun e=>k (j,o) (by simp) e.symm];exact OU h r fun p hp=>k p (by simp[hp])
theorem QG (h:aI) {g:Nat→Nat} {id:Nat}:∀ (m:List (Nat×Ob)),(∀ p∈m,g p.1=g id→p.1=id)→∀ o,hL m id=some o→pP h (m.map fun p=>(g p.1,p.2.ren g)) (g id)=some (o.ren g)
  | [],_,o,ho=>by cases ho
  | (j,q)::r,k,o,ho=>by
    rw[apW,AF];rw[vm] at ho;by_cases e:id=j
    ·subst e;rw[upd_same] at ho ⊢;cases ho; rfl
    ·rw[upd_ne _ _ e] at ho;have:g id≠g j:=fun e'=>e (k (j,q) (by simp) e'.symm).symm
     rw[upd_ne _ _ this];exact QG h r (fun p hp=>k p (by simp[hp])) o ho
theorem yM:∀ {m:List (Nat×Ob)} {id:Nat},id∈m.map (·.1)→∃ o,hL m id=some o
  | (j,q)::r,id,h=>by
    by_cases e:id=j
    ·subst e; exact⟨q,by rw[vm,upd_same]⟩
    ·obtain⟨o,ho⟩:=yM (m:=r) (id:=id) (by simpa [e] using h);exact⟨o,by rw[vm,upd_ne _ _ e]; exact ho⟩
theorem abW (h:aI) {g:Nat→Nat} {L:List Nat} {m:List (Nat×Ob)} (hi:∀ i∈L++m.map (·.1),∀ j∈L++m.map (·.1),g i=g j→i=j) :
    kG h g L (m.map (·.1)) (hL m)=pP (q9 h (L.map g)) (m.map fun p=>(g p.1,p.2.ren g)):=by
  funext i
  unfold kG;split
  ·rename_i id hf;have h1:=arJ hf;have h2:=List.find?_some hf;simp only[beq_iff_eq] at h2;subst h2;obtain⟨o,ho⟩:=yM h1;rw[ho,QG _ _ (fun p hp e=>hi p.1 (aqi _ (aqa.2 ⟨p,hp,rfl⟩)) id (aqi _ h1) e) o ho];rfl
  ·rename_i hf;have hn:∀ p∈m.map fun p=>(g p.1,p.2.ren g),p.1≠i:=by
     intro p hp e;obtain⟨q,hq,rfl⟩:=aqa.1 hp;have:=List.find?_eq_none.1 hf q.1 (aqa.2 ⟨q,hq,rfl⟩);exact this (by simpa using e)
   rw[OU _ _ hn,QE];have e:(L.any fun id=>g id==i)=(L.map g).contains i:=by
     rw[Bool.eq_iff_iff];simp
   rw[e]
theorem abX (u:Nat→Bool) (g:Nat→Nat) (L:List Nat):mC u g L=pQ u (L.map g):=by
  funext i
  rw[QF];unfold mC
  congr 1
  rw[Bool.eq_iff_iff];simp
def D8 (g:Nat→Nat) (l:List Nat):Bool:=l.all fun i=>l.all fun j=>!(g i==g j) || i==j
theorem QH {g:Nat→Nat} {l:List Nat} (h:D8 g l=true):∀ i∈l,∀ j∈l,g i=g j→i=j:=by
  intro i hi j hj e;have:=ap9.1 (ap9.1 h i hi) j hj
  simpa [e] using this
def KU (u:Nat→Bool) (g:Nat→Nat) (L L1:List Nat):Bool:=L1.all fun id=>L.contains id || !u (g id)
def sP (args:List W) (m0 m1:List (Nat×Ob)):Bool:=m0.all fun p=>args.any (fun x=>x.ids.contains p.1) || (!fe (some p.2)&&m1.all fun q=>!(q.1==p.1) || !fe (some q.2))
theorem ae3 {args:List W} {m0 m1:List (Nat×Ob)} (h:sP args m0 m1=true):∀ i∈m0.map (·.1),(∃ x∈args,i∈x.ids)∨(fe (hL m0 i)=false∧fe (hL m1 i)=false):=by
  intro i hi;by_cases hd:args.any (fun x=>x.ids.contains i)=true
  ·obtain⟨x,hx,h1⟩:=aqP.1 hd;exact .inl ⟨x,hx,by simpa using h1⟩
  ·refine .inr ⟨?_,?_⟩
   ·obtain⟨o,ho⟩:=yM hi;have hm:=lh ho;have:=ap9.1 h _ hm;rw[Bool.or_eq_true] at this;rcases this with k | k
    ·exact absurd k hd
    ·rw[aqm] at k;rw[ho]
     simpa using k.1
   ·cases hq:hL m1 i with
    | none=>rfl
    | some q =>
      obtain⟨o,ho⟩:=yM hi;have:=ap9.1 h _ (lh ho);rw[Bool.or_eq_true] at this;rcases this with k | k
      ·exact absurd k hd
      ·rw[aqm] at k;have:=ap9.1 k.2 _ (lh hq)
       simpa using this
theorem SK {F:FuncId} {args xs:List W} {m0 m1:List (Nat×Ob)} {res:V} {h:aI} {u:Nat→Bool} (gl:List (Nat×Nat)) (hd:kL P G F args m0 res m1) (hx:xs=args.map (W.ren (gN gl))) (h3:kQ h (gN gl) m0)
    (h4:D8 (gN gl) (m0.map (·.1)++m1.map (·.1))=true) (h5:KU u (gN gl) (m0.map (·.1)) (m1.map (·.1))=true) (hdir:sP args m0 m1=true) :
    oB P G h u F xs (res.ren (gN gl),pP (q9 h ((m0.map (·.1)).map (gN gl))) (m1.map fun p=>(gN gl p.1,p.2.ren (gN gl))),pQ u ((m1.map (·.1)).map (gN gl))):=by
  refine⟨gN gl,args,hL m0,_,res,hL m1,_,hd,hx,fun i o ho=>Bt h3 (i,o) (lh ho),QH h4,fun id h1 h2=>?_,ae3 hdir,?_⟩
  ·have:=ap9.1 h5 id h1;rw[Bool.or_eq_true] at this;rcases this with e | e
   ·exact absurd (by simpa using e) h2
   ·simpa using e
  ·rw[abW h (QH h4),abX]
theorem Ux {d:Option Nat} {r:List bi} {K:St→Prop} {f:Nat→V} {h:aI} {u:Nat→Bool} {F:FuncId} {pre post:List Cp} {xs:List SX} {args:List W} (ws:List W) {m0 m1:List (Nat×Ob)} {res:V} (gl:List (Nat×Nat)) (hd:kL P G F args m0 res m1)
    (he:∀ (args:Array Value) (w:World),(callFunc F args).run P w=.ok (.enter F args) w) (h1:(fR xs).map (ev G f)=.w (.c (.cf F pre post))::ws.map V.w) (h2:pre.map Cp.w++ws++post.map Cp.w=args.map (W.ren (gN gl))) (h3:kQ h (gN gl) m0)
    (h4:D8 (gN gl) (m0.map (·.1)++m1.map (·.1))=true) (h5:KU u (gN gl) (m0.map (·.1)) (m1.map (·.1))=true)
    (e:bg P G r K ⟨bY f d (res.ren (gN gl)),pP (q9 h ((m0.map (·.1)).map (gN gl))) (m1.map fun p=>(gN gl p.1,p.2.ren (gN gl))),pQ u ((m1.map (·.1)).map (gN gl))⟩) (hnm:oq (ev G f) xs=true:=by rfl) (hdir:sP args m0 m1=true:=by rfl):bg P G (⟨d,.callM 1000000007 xs,none⟩::r) K ⟨f,h,u⟩ :=
  ⟨_,⟨.inr ⟨rfl,F,pre,post,ws,h1,he,SK gl hd h2 h3 h4 h5 hdir⟩,hnm⟩,e⟩
theorem pD {d:Option Nat} {r:List bi} {K:St→Prop} {f:Nat→V} {h:aI} {u:Nat→Bool} {F:FuncId} {xs:List SX} {args:List W} (ws:List W) {m0 m1:List (Nat×Ob)} {res:V} (gl:List (Nat×Nat)) (hd:kL P G F args m0 res m1)
    (h1:(fR xs).map (ev G f)=ws.map V.w) (h2:ws=args.map (W.ren (gN gl))) (h3:kQ h (gN gl) m0)
    (h4:D8 (gN gl) (m0.map (·.1)++m1.map (·.1))=true) (h5:KU u (gN gl) (m0.map (·.1)) (m1.map (·.1))=true)
    (e:bg P G r K ⟨bY f d (res.ren (gN gl)),pP (q9 h ((m0.map (·.1)).map (gN gl))) (m1.map fun p=>(gN gl p.1,p.2.ren (gN gl))),pQ u ((m1.map (·.1)).map (gN gl))⟩) (hne:F≠jD:=by decide) (hnm:oq (ev G f) xs=true:=by rfl) (hdir:sP args m0 m1=true:=by rfl):bg P G (⟨d,.callM F xs,none⟩::r) K ⟨f,h,u⟩ :=
  ⟨_,⟨.inl ⟨hne,ws,h1,SK gl hd h2 h3 h4 h5 hdir⟩,hnm⟩,e⟩
def wj (σ:St) (l:List (Nat×Option Kd)) (lk:List Nat) (args:List W) (m0:List (Nat×Ob)) (res:V) (m1:List (Nat×Ob)):Prop:=DT σ l lk args (m0.map (·.1)) res (hL m1) (m1.map (·.1))
def D9 (l:List (Nat×Option Kd)) (lk:List Nat) (args:List W) (m0:List (Nat×Ob)) (res:V) (m1:List (Nat×Ob)) (e:AX) (s:St):Prop:=match e with | .nrm=>wj s l lk args m0 res m1 | .ret=>wj s l lk args m0 res m1 | .ex _=>False
theorem nj (l:List (Nat×Option Kd)) (lk:List Nat) (args:List W) (m0:List (Nat×Ob)) (res:V) (m1:List (Nat×Ob)) (σ:St):D9 l lk args m0 res m1 .nrm σ=wj σ l lk args m0 res m1:=rfl
theorem lg (l:List (Nat×Option Kd)) (lk:List Nat) (args:List W) (m0:List (Nat×Ob)) (res:V) (m1:List (Nat×Ob)) (σ:St):D9 l lk args m0 res m1 .ret σ=wj σ l lk args m0 res m1:=rfl
def ru (f:Nat→V) (g:Nat→Nat) (args:List W):List (Nat×W)→Prop
  | []=>True
  | (t,x)::r=>args[t]?=some x∧f t=.w (x.ren g)∧ru f g args r
theorem QI {f:Nat→V} {g:Nat→Nat} {args:List W}:∀ {l:List (Nat×W)},ru f g args l→∀ p∈l,args[p.1]?=some p.2∧f p.1=.w (p.2.ren g)
  | (t,x)::r,h,p,hp=>by
    rcases aqh.1 hp with rfl | hp
    ·exact⟨h.1,h.2.1⟩
    ·exact QI h.2.2 p hp
def KV (lk:List Nat) (m0 m1:List (Nat×Ob)) (l:List (Nat×W)):Prop:=(∀ p∈l,p.1∈lk)∧∀ id∈m0.map (·.1),id∈m1.map (·.1)→∃ p∈l,id∈p.2.lnk
theorem si {σ:St} {l:List (Nat×Option Kd)} {lk:List Nat} {args:List W} {m0 m1:List (Nat×Ob)} {res:V} {ws:List W} (gl:List (Nat×Nat)) (lks:List (Nat×W)) (h1:bE (dd σ) l=some ws) (h2:En ws=res.ren (gN gl)) (h3:kQ σ.h (gN gl) m1)
    (h4:zd (m1.map fun p=>gN gl p.1)=true) (h6:ru σ.f (gN gl) args lks) (h7:KV lk m0 m1 lks):wj σ l lk args m0 res m1:=by
  refine⟨ws,h1,gN gl,h2,fun id o ho=>Bt h3 (id,o) (lh ho),fun i j hi hj e=>?_,fun id hi hi1=>?_⟩
  ·obtain⟨o,ho⟩:=aqe.1 hi;obtain⟨q,hq⟩:=aqe.1 hj;have key:∀ {l:List (Nat×Ob)},(l.map fun p=>gN gl p.1).Nodup→∀ {x y:Nat×Ob},x∈l→y∈l→gN gl x.1=gN gl y.1→x=y:=by
     intro l
     induction l with
     | nil=>intro _ x y hx; cases hx
     | cons p r ih =>
       intro hn x y hx hy e;rw[apW,arB] at hn;rcases aqh.1 hx with rfl | hx' <;> rcases aqh.1 hy with rfl | hy'
       ·rfl
       ·exact (hn.1 (aqa.2 ⟨y,hy',e.symm⟩)).elim
       ·exact (hn.1 (aqa.2 ⟨x,hx',e⟩)).elim
       ·exact ih hn.2 hx' hy' e
   exact congrArg Prod.fst (key (Gf h4) (lh ho) (lh hq) e)
  ·obtain⟨p,hp,hx⟩:=h7.2 id hi hi1;obtain⟨k1,k2⟩:=QI h6 p hp;exact⟨p.1,h7.1 p hp,p.2,k1,hx,k2⟩
theorem uQ {F:FuncId} {fn:Func} {sf:aO} {H:Hint} (hf:P.funcs[F]?=some fn) (hc:aM P H fn=some sf) {args:List W} {m0 m1:List (Nat×Ob)} {res:V} (lk:List Nat) {f0:Nat→V} (hlen:args.length=sf.np) (hlk:lk.all (fun t=>!sf.body.writes.contains t)=true)
    (hp:(m0.all fun p=>p.2.ids.all fun j=>(m0.map (·.1)).contains j)=true) (hi:(args.all fun x=>x.ids.all fun j=>(m0.map (·.1)).contains j)=true) (hq:(m1.all fun p=>p.2.ids.all fun j=>(m1.map (·.1)).contains j)=true) (hr:(res.ids.all fun j=>(m1.map (·.1)).contains j)=true)
    (h0:iM 0 args uf=f0) (e:cE P G sf.body (D9 sf.res lk args m0 res m1) ⟨f0,hL m0,uL (m0.map (·.1))⟩):kL P G F args m0 res m1:=by
  have mem:∀ {l:List (Nat×Ob)},(l.all fun p=>p.2.ids.all fun j=>(l.map (·.1)).contains j)=true→∀ id o,hL l id=some o→id∈l.map (·.1)∧∀ j∈o.ids,j∈l.map (·.1):=by
    intro l hl id o ho;have hm:=lh ho;refine⟨aqa.2 ⟨_,hm,rfl⟩,fun j hj=>?_⟩;have:=ap9.1 (ap9.1 hl _ hm) j hj
    simpa using this
  refine PH hf hc hlen hlk ⟨mem hp,fun id hid=>?_,fun x hx i hxi=>?_,mem hq,fun i h=>?_⟩ (Q':=D9 sf.res lk args m0 res m1) ?_ ?_
  ·obtain⟨o,ho⟩:=yM hid;rw[ho]; simp
  ·have:=ap9.1 (ap9.1 hi x hx) i hxi
   simpa using this
  ·have:=ap9.1 hr i h
   simpa using this
  ·intro ax σ hq;cases ax with
   | nrm=>exact⟨fun _ e=>(by cases e),hq⟩
   | ret=>exact⟨fun _ e=>(by cases e),hq⟩
   | ex i=>exact hq.elim
  ·have e0:pj args (hL m0) (m0.map (·.1))=⟨f0,hL m0,uL (m0.map (·.1))⟩:=by
     have hh:(fun t=>match args[t]? with | some x=>V.w x | none=>.undef)=iM 0 args uf:=congrArg St.f (FN args);rw[← h0,← hh];unfold pj
     congr 1
     have:∀ (l:List Nat) (i:Nat),l.contains i=uL l i:=by
       intro l
       induction l with
       | nil=>intro i; rfl
       | cons j r ih =>
         intro i;rw[G8];by_cases e:i=j
         ·subst e; rw[upd_same]; simp
         ·rw[upd_ne _ _ e,← ih i];simp[e]
     exact funext fun i=>this _ i
   rw[e0];exact e
end
end Go.Proofs.YtnjhelpgohdajaaGreatDoor
