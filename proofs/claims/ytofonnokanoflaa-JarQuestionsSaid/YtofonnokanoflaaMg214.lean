/- Texts of one's own, merged: from: The plain logic (25): calls that change a variable of the caller's: a box of data. Own work. -/
import Derived.Shelf.Abstract
import Derived.Test.YtofonnokanoflaaMg27
import Derived.Test.YtofonnokanoflaaMg28
set_option linter.unusedVariables false
set_option linter.unusedSimpArgs false
namespace Go.Proofs.Ytofonnokanoflaa
open Go.RowKit
section
variable {P:Program} {G:aj}
def wu (P:Program) (G:aj) (d:Option Nat) (r:List aI) (K:St→Prop) (f:Nat→V) (h:ak) (u:Nat→Bool) (F:Nat) (pre:Option (List Cp)) (post:Option (List Cp)):Prop :=
  match pre,post with | some a,some b=>au P G r K ⟨aT f d (.w (.c (.cf F a b))),h,u⟩ | _,_=>False
theorem Co (d:Option Nat) (r:List aI) (K:St→Prop) (f:Nat→V) (h:ak) (u:Nat→Bool) (F:Nat) (xs ys:List SX):au P G (⟨d,.closM F xs ys,none⟩::r) K ⟨f,h,u⟩=wu P G d r K f h u F (cm (xs.map (ev G f))) (cm (ys.map (ev G f))):=by
  show (match (match cm (xs.map (ev G f)),cm (ys.map (ev G f)) with | some a,some b=>some (((.w (.c (.cf F a b)),h,u):R)) | _,_=>none) with | some r=>_ | none=>False)=_
  unfold wu;cases cm (xs.map (ev G f)) <;> cases cm (ys.map (ev G f)) <;> rfl
theorem z6 (d:Option Nat) (r:List aI) (K:St→Prop) (f:Nat→V) (h:ak) (u:Nat→Bool) (F:Nat) (a b:List Cp):wu P G d r K f h u F (some a) (some b)=au P G r K ⟨aT f d (.w (.c (.cf F a b))),h,u⟩:=rfl
theorem z7:cm []=some []:=rfl
theorem z8 (id sz i o:Nat) (r:List V):cm (.w (.c (.ptr id sz i o))::r)=(cm r).map fun l=>.p id sz i o::l:=by
  simp only[cm,mK]; cases cm r <;> rfl
theorem Cq (cs:List D) (r:List V):cm (.w (.c (.rp cs))::r)=(cm r).map fun l=>.d (.ref cs)::l:=by
  simp only[cm,mK,iS]; cases cm r <;> rfl
theorem z9 (k:IntKind) (n:Int) (r:List V):cm (.w (.c (.d (.int k n)))::r)=(cm r).map fun l=>.d (.int k n)::l:=by
  simp only[cm,mK,iS]; cases cm r <;> rfl
theorem Cr (es:List D) (r:List V):cm (.w (.c (.d (.sl es)))::r)=(cm r).map fun l=>.d (.sl es)::l:=by
  simp only[cm,mK,iS]; cases cm r <;> rfl
theorem GO (d:Option Nat) (r:List aI) (K:St→Prop) (f:Nat→V) (h:ak) (u:Nat→Bool) (x:SX):au P G (⟨d,.nilChk x,none⟩::r) K ⟨f,h,u⟩=(iq (ev G f x)=true∧au P G r K ⟨aT f d (ev G f x),h,u⟩):=by
  show (match (if iq (ev G f x)=true then some ((ev G f x,h,u):R) else none) with | some r=>_ | none=>False)=_
  by_cases hp:iq (ev G f x)=true
  ·rw[if_pos hp]; simp only[hp,true_and]; rfl
  ·rw[if_neg hp];exact propext ⟨fun h=>h.elim,fun h=>hp h.1⟩
theorem Aa (id sz i o:Nat):iq (.w (.c (.ptr id sz i o)))=true:=rfl
theorem Cs (cs:List D):iq (.w (.c (.rp cs)))=true:=rfl
theorem Ab (cs:List D):iq (.w (.c (.d (.ref cs))))=true:=rfl
theorem Ct (f:Nat) (cs:List D):iq (.w (.c (.d (.fn f cs))))=true:=rfl
theorem Cu (f:Nat) (a b:List Cp):iq (.w (.c (.cf f a b)))=true:=rfl
theorem dW:iI (And.intro @Co (And.intro @z6 (And.intro @z7 (And.intro @z8 (And.intro @Cq (And.intro @z9 @Cr)))))):=And.intro @Co (And.intro @z6 (And.intro @z7 (And.intro @z8 (And.intro @Cq (And.intro @z9 @Cr)))))
theorem dF:iI (And.intro @GO (And.intro @Aa (And.intro @Cs (And.intro @Ab (And.intro @Ct (And.intro @Cu @true_and)))))):=And.intro @GO (And.intro @Aa (And.intro @Cs (And.intro @Ab (And.intro @Ct (And.intro @Cu @true_and)))))
def dH (cs:List D):ak:=hL [(1,.box (cs.map C.d))]
theorem rh (cs:List D) {id:Nat} {o:Ob} (h:dH cs id=some o):id=1∧o=.box (cs.map C.d):=by
  have:=gG h
  simpa using this
theorem H4 (cs:List D):(Ob.box (cs.map C.d)).ids=[]:=by
  unfold Ob.ids
  induction cs with
  | nil=>rfl
  | cons c r ih=>simp[C.ids]
theorem xe (g:Nat→Nat) (cs:List D):(Ob.box (cs.map C.d)).ren g=.box (cs.map C.d):=by
  show Ob.box ((cs.map C.d).map (C.ren g))=_
  rw[Wp];rfl
theorem H5 (cs:List D):dH cs 1=some (.box (cs.map C.d)):=by
  unfold dH;rw[kT];exact upd_same _ _ _
def rQ:V→Bool | .w x=>x.ids.isEmpty | .tup ws=>ws.all fun x=>x.ids.isEmpty | .undef=>true
theorem uT (g:Nat→Nat):∀ {l:List Cp},l.flatMap Cp.ids=[]→l.map (Cp.ren g)=l
  | [],_=>rfl
  | c::r,h=>by
    rw[UP,List.append_eq_nil_iff] at h;rw[UE,uT g h.2];cases c with
    | d x=>rfl
    | p id sz i o=>cases h.1
theorem Eo (g:Nat→Nat) {c:C} (h:c.ids=[]):c.ren g=c:=by
  cases c with
  | mp id=>exact absurd h (by simp[C.ids])
  | own=>cases h
  | ptr=>cases h
  | pa=>cases h
  | cf f a b =>
    obtain⟨h1,h2⟩:=List.append_eq_nil_iff.1 (show a.flatMap Cp.ids++b.flatMap Cp.ids=[] from h);simp only[C.ren,uT g h1,uT g h2]
  | _=>rfl
theorem Cv (g:Nat→Nat):∀ {cs:List C},cs.flatMap C.ids=[]→cs.map (C.ren g)=cs
  | [],_=>rfl
  | c::r,h=>by
    rw[UP,List.append_eq_nil_iff] at h;rw[UE,Cv g h.2,Eo g h.1]
theorem Ep (g:Nat→Nat) {x:W} (h:x.ids=[]):x.ren g=x:=by
  cases x with
  | c c=>rw[W.ren,Eo g h]
  | mix cs=>rw[W.ren,Cv g h]
theorem vF (g:Nat→Nat) {x:V} (h:rQ x=true):x.ren g=x∧x.ids=[]:=by
  cases x with
  | w x =>
    have h':x.ids=[]:=List.isEmpty_iff.1 h;exact⟨by rw[V.ren,Ep g h'],h'⟩
  | tup ws =>
    have h':∀ x∈ws,x.ids=[]:=fun x hx=>List.isEmpty_iff.1 (UN.1 h x hx)
    refine⟨?_,?_⟩
    ·rw[V.ren]
     congr 1
     conv=>rhs; rw[← List.map_id ws]
     exact Vd fun x hx=>Ep g (h' x hx)
    ·show ws.flatMap W.ids=[]
     rw[List.flatMap_eq_nil_iff];exact h'
  | undef=>exact⟨rfl,rfl⟩
theorem ON {F:FuncId} {args xs:List W} {id:Nat} {cs cs':List D} {res:V} {h:ak} {u:Nat→Bool} (hd:kn P G F args (dH cs) [1] res (dH cs') [1]) (hx:xs=args.map (W.ren fun _=>id)) (h3:h id=some (.box (cs.map C.d))) (hn:rQ res=true) :
    mU P G h u F xs (res,upd h id (some (.box (cs'.map C.d))),upd u id true):=by
  refine⟨fun _=>id,args,dH cs,[1],res,dH cs',[1],hd,hx,fun i o ho=>?_,fun i hi j hj _=>?_,fun i hi hn=>absurd hi hn,?_⟩
  ·obtain⟨rfl,rfl⟩:=rh cs ho;rw[h3,xe]
  ·simp at hi hj;omega
  ·refine Prod.ext (vF _ hn).1.symm (Prod.ext (funext fun i=>?_) (funext fun i=>?_))
   ·show upd h id _ i=ka h (fun _=>id) [1] [1] (dH cs') i
    unfold ka upd;by_cases e:i=id
    ·subst e;simp only[List.find?_cons,beq_self_eq_true,if_true]
     show _=(dH cs' 1).map _
     rw[H5];simp only[VY,xe]
    ·have e':(id==i)=false:=by simpa using fun k=>e k.symm
     simp[e,e']
   ·show upd u id true i=(u i || [1].any fun _=>id==i)
    unfold upd;by_cases e:i=id
    ·subst e; simp
    ·have e':(id==i)=false:=by simpa using fun k=>e k.symm
     simp[e,e']
theorem ig {d:Option Nat} {r:List aI} {K:St→Prop} {f:Nat→V} {h:ak} {u:Nat→Bool} {F:FuncId} {pre post:List Cp} {xs:List SX} {args ws:List W} {id:Nat} {cs cs':List D} {res:V} (hd:kn P G F args (dH cs) [1] res (dH cs') [1])
    (he:∀ (args:Array Value) (w:World),(callFunc F args).run P w=.ok (.enter F args) w) (h1:xs.map (ev G f)=.w (.c (.cf F pre post))::ws.map V.w) (h2:pre.map Cp.w++ws++post.map Cp.w=args.map (W.ren fun _=>id)) (h3:h id=some (.box (cs.map C.d))) (hn:rQ res=true)
    (e:au P G r K ⟨aT f d res,upd h id (some (.box (cs'.map C.d))),upd u id true⟩):au P G (⟨d,.callM 1000000007 xs,none⟩::r) K ⟨f,h,u⟩ :=
  ⟨_,.inr ⟨rfl,F,pre,post,ws,h1,he,ON hd h2 h3 hn⟩,e⟩
def oE (σ:St) (l:List (Nat×Option Kd)) (t:Nat) (cs':List D) (res:V):Prop :=
  ∃ ws,aD (bJ σ) l=some ws∧sQ ws=res∧σ.h 1=some (.box (cs'.map C.d))∧σ.f t=.w (.c (.ptr 1 1 0 0))
def xK (l:List (Nat×Option Kd)) (t:Nat) (cs':List D) (res:V) (e:AX) (s:St):Prop:=match e with | .nrm=>oE s l t cs' res | .ret=>oE s l t cs' res | .ex _=>False
theorem MN (l:List (Nat×Option Kd)) (t:Nat) (cs':List D) (res:V) (σ:St):xK l t cs' res .ret σ=oE σ l t cs' res:=rfl
theorem Tj {σ:St} {s:Nat} {t:Nat} {cs':List D} {x:W} (h1:σ.f s=.w x) (h2:σ.h 1=some (.box (cs'.map C.d))) (h3:σ.f t=.w (.c (.ptr 1 1 0 0))):oE σ [(s,none)] t cs' (.w x) :=
  ⟨[x],by simp[aD,bJ,h1,fD],rfl,h2,h3⟩
theorem K4 {F:FuncId} {fn:Func} {sf:aB} {H:Hint} (hf:P.funcs[F]?=some fn) (hc:aA P H fn=some sf) {args:List W} {cs cs':List D} {res:V} (t:Nat) {f0:Nat→V} (hlen:args.length=sf.np) (hlk:[t].all (fun t=>!sf.body.writes.contains t)=true)
    (ha:args[t]?=some (.c (.ptr 1 1 0 0))) (hi:args.all (fun x=>x.ids.all (·==1))=true) (hn:rQ res=true) (h0:ep 0 args uf=f0) (e:bd P G sf.body (xK sf.res t cs' res) ⟨f0,dH cs,uL [1]⟩):kn P G F args (dH cs) [1] res (dH cs') [1]:=by
  refine Dd hf hc hlen hlk ⟨fun id o ho=>?_,fun id hid=>?_,fun x hx i hxi=>?_,fun id o ho=>?_,fun i hi=>?_⟩ (Q':=xK sf.res t cs' res) ?_ ?_
  ·obtain⟨rfl,rfl⟩:=rh cs ho;exact⟨by simp,fun j hj=>by rw[H4] at hj; cases hj⟩
  ·obtain rfl:id=1:=by simpa using hid
   rw[H5];simp
  ·have:=UN.1 (UN.1 hi x hx) i hxi
   simpa using this
  ·obtain⟨rfl,rfl⟩:=rh cs' ho;exact⟨by simp,fun j hj=>by rw[H4] at hj; cases hj⟩
  ·rw[(vF id hn).2] at hi; cases hi
  ·have key:∀ σ:St,oE σ sf.res t cs' res→sk σ sf.res [t] args [1] res (dH cs') [1]:=by
     rintro σ ⟨ws,h1,h2,h3,h4⟩;refine⟨ws,h1,fun i=>i,by rw[(vF _ hn).1]; exact h2,fun i o ho=>?_,fun i j hi hj e=>e,fun i hi _=>?_⟩
     ·obtain⟨rfl,rfl⟩:=rh cs' ho;rw[h3,xe]
     ·obtain rfl:i=1:=by simpa using hi
      exact⟨t,by simp,.c (.ptr 1 1 0 0),ha,by simp[W.lnk],h4⟩
   intro ax σ hq;cases ax with
   | nrm=>exact⟨fun _ e=>(by cases e),key σ hq⟩
   | ret=>exact⟨fun _ e=>(by cases e),key σ hq⟩
   | ex i=>exact hq.elim
  ·have e0:iP args (dH cs) [1]=⟨f0,dH cs,uL [1]⟩:=by
     have hh:(fun t=>match args[t]? with | some x=>V.w x | none=>.undef)=ep 0 args uf:=congrArg St.f (tY args);rw[← h0,← hh];unfold iP
     congr 1
     funext i
     unfold uL uL upd uN;by_cases e:i=1
     ·simp[e]
     ·simp[e]
   rw[e0];exact e
end
section
variable {P:Program} {G:aj}
def gN:List (Nat×Nat)→Nat→Nat
  | []=>fun i=>i
  | (a,b)::r=>upd (gN r) a b
def jI (h:ak):List Nat→ak
  | []=>h
  | i::r=>upd (jI h r) i none
def i4 (h:ak):List (Nat×Ob)→ak
  | []=>h
  | (i,o)::r=>upd (i4 h r) i (some o)
def i5 (u:Nat→Bool):List Nat→Nat→Bool
  | []=>u
  | i::r=>upd (i5 u r) i true
theorem GV:gN []=fun i=>i:=rfl
theorem Ey (a b:Nat) (r:List (Nat×Nat)):gN ((a,b)::r)=upd (gN r) a b:=rfl
theorem Cx (h:ak):jI h []=h:=rfl
theorem tZ (h:ak) (i:Nat) (r:List Nat):jI h (i::r)=upd (jI h r) i none:=rfl
theorem Cy (h:ak):i4 h []=h:=rfl
theorem pM (h:ak) (i:Nat) (o:Ob) (r:List (Nat×Ob)):i4 h ((i,o)::r)=upd (i4 h r) i (some o):=rfl
theorem Cz (u:Nat→Bool):i5 u []=u:=rfl
theorem t5 (u:Nat→Bool) (i:Nat) (r:List Nat):i5 u (i::r)=upd (i5 u r) i true:=rfl
theorem GX (g:Nat→Nat) (sz:Nat) (es:List D):Ob.ren g (.row sz es)=.row sz es:=rfl
theorem GY (g:Nat→Nat) (cs:List C):Ob.ren g (.box cs)=.box (cs.map (C.ren g)):=rfl
theorem GZ (g:Nat→Nat) (id sz off n:Nat):C.ren g (.own id sz off n)=.own (g id) sz off n:=rfl
theorem G1 (g:Nat→Nat) (id sz i o:Nat):C.ren g (.ptr id sz i o)=.ptr (g id) sz i o:=rfl
theorem IR (g:Nat→Nat) (x:D):C.ren g (.d x)=.d x:=rfl
theorem G2 (g:Nat→Nat):C.ren g .nil=.nil:=rfl
theorem H6 (g:Nat→Nat) (f:Nat) (a b:List Cp):C.ren g (.cf f a b)=.cf f (a.map (Cp.ren g)) (b.map (Cp.ren g)):=rfl
theorem H7 (g:Nat→Nat) (x:D):Cp.ren g (.d x)=.d x:=rfl
theorem H8 (g:Nat→Nat) (id sz i o:Nat):Cp.ren g (.p id sz i o)=.p (g id) sz i o:=rfl
theorem G3 (g:Nat→Nat) (l:List D):(l.map Cp.d).map (Cp.ren g)=l.map Cp.d:=by rw[Wp]; rfl
theorem H9 (g:Nat→Nat) (x:C):W.ren g (.c x)=.c (x.ren g):=rfl
theorem Ia (g:Nat→Nat) (x:W):V.ren g (.w x)=.w (x.ren g):=rfl
theorem Ib (g:Nat→Nat) (l:List W):V.ren g (.tup l)=.tup (l.map (W.ren g)):=rfl
theorem l6 (l:List D):(l.map Cp.d).flatMap Cp.ids=[]:=by
  induction l with
  | nil=>rfl
  | cons x l ih=>rw[UE,UP,ih]; rfl
theorem Ic (l:List D):(l.map Cp.d).map Cp.w=l.map fun x=>W.c (.d x):=by rw[Wp]; rfl
theorem G4 (g:Nat→Nat) (l:List D):(l.map fun x=>W.c (.d x)).map (W.ren g)=l.map fun x=>W.c (.d x):=by rw[Wp]; rfl
theorem Ie (x:D):Cp.w (.d x)=.c (.d x):=rfl
theorem Ig (id sz i o:Nat):Cp.w (.p id sz i o)=.c (.ptr id sz i o):=rfl
theorem bG:iI (And.intro @GV (And.intro @Ey (And.intro @Cx (And.intro @tZ (And.intro @Cy (And.intro @pM (And.intro @Cz (And.intro @t5 (And.intro @GX (And.intro @GY (And.intro @GZ (And.intro @G1 (And.intro @IR (And.intro @G2 (And.intro @H6 (And.intro @H7 (And.intro @H8 (And.intro @G3 (And.intro @H9 (And.intro @Ia (And.intro @Ib (And.intro @Ic (And.intro @G4 (And.intro @Ie @Ig)))))))))))))))))))))))):=And.intro @GV (And.intro @Ey (And.intro @Cx (And.intro @tZ (And.intro @Cy (And.intro @pM (And.intro @Cz (And.intro @t5 (And.intro @GX (And.intro @GY (And.intro @GZ (And.intro @G1 (And.intro @IR (And.intro @G2 (And.intro @H6 (And.intro @H7 (And.intro @H8 (And.intro @G3 (And.intro @H9 (And.intro @Ia (And.intro @Ib (And.intro @Ic (And.intro @G4 (And.intro @Ie @Ig)))))))))))))))))))))))
def fC (P:Program) (G:aj) (F:FuncId) (args:List W) (m0:List (Nat×Ob)) (res:V) (m1:List (Nat×Ob)):Prop :=
  kn P G F args (hL m0) (m0.map (·.1)) res (hL m1) (m1.map (·.1))
theorem Ez (h:ak):∀ (l:List Nat) (i:Nat),jI h l i=if l.contains i then none else h i
  | [],i=>rfl
  | j::r,i=>by
    rw[tZ];by_cases e:i=j
    ·subst e; rw[upd_same]; simp
    ·rw[upd_ne _ _ e,Ez h r i];simp[e]
theorem EA (u:Nat→Bool):∀ (l:List Nat) (i:Nat),i5 u l i=(u i || l.contains i)
  | [],i=>by simp[i5]
  | j::r,i=>by
    rw[t5];by_cases e:i=j
    ·subst e; rw[upd_same]; simp
    ·rw[upd_ne _ _ e,EA u r i];simp[e]
theorem CB (h:ak) {i:Nat}:∀ (l:List (Nat×Ob)),(∀ p∈l,p.1≠i)→i4 h l i=h i
  | [],_=>rfl
  | (j,o)::r,k=>by
    rw[pM,upd_ne _ _ fun e=>k (j,o) (by simp) e.symm];exact CB h r fun p hp=>k p (by simp[hp])
theorem EB (h:ak) {g:Nat→Nat} {id:Nat}:∀ (m:List (Nat×Ob)),(∀ p∈m,g p.1=g id→p.1=id)→∀ o,hL m id=some o→i4 h (m.map fun p=>(g p.1,p.2.ren g)) (g id)=some (o.ren g)
  | [],_,o,ho=>by cases ho
  | (j,q)::r,k,o,ho=>by
    rw[UE,pM];rw[kT] at ho;by_cases e:id=j
    ·subst e;rw[upd_same] at ho ⊢;cases ho; rfl
    ·rw[upd_ne _ _ e] at ho;have:g id≠g j:=fun e'=>e (k (j,q) (by simp) e'.symm).symm
     rw[upd_ne _ _ this];exact EB h r (fun p hp=>k p (by simp[hp])) o ho
theorem ww:∀ {m:List (Nat×Ob)} {id:Nat},id∈m.map (·.1)→∃ o,hL m id=some o
  | (j,q)::r,id,h=>by
    by_cases e:id=j
    ·subst e; exact⟨q,by rw[kT,upd_same]⟩
    ·obtain⟨o,ho⟩:=ww (m:=r) (id:=id) (by simpa [e] using h);exact⟨o,by rw[kT,upd_ne _ _ e]; exact ho⟩
theorem MP (h:ak) {g:Nat→Nat} {L:List Nat} {m:List (Nat×Ob)} (hi:∀ i∈L++m.map (·.1),∀ j∈L++m.map (·.1),g i=g j→i=j) :
    ka h g L (m.map (·.1)) (hL m)=i4 (jI h (L.map g)) (m.map fun p=>(g p.1,p.2.ren g)):=by
  funext i
  unfold ka;split
  ·rename_i id hf;have h1:=VN hf;have h2:=List.find?_some hf;simp only[beq_iff_eq] at h2;subst h2;obtain⟨o,ho⟩:=ww h1;rw[ho,EB _ _ (fun p hp e=>hi p.1 (UM _ (U4.2 ⟨p,hp,rfl⟩)) id (UM _ h1) e) o ho];rfl
  ·rename_i hf;have hn:∀ p∈m.map fun p=>(g p.1,p.2.ren g),p.1≠i:=by
     intro p hp e;obtain⟨q,hq,rfl⟩:=U4.1 hp;have:=List.find?_eq_none.1 hf q.1 (U4.2 ⟨q,hq,rfl⟩);exact this (by simpa using e)
   rw[CB _ _ hn,Ez];have e:(L.any fun id=>g id==i)=(L.map g).contains i:=by
     rw[Bool.eq_iff_iff];simp
   rw[e]
theorem MQ (u:Nat→Bool) (g:Nat→Nat) (L:List Nat):jr u g L=i5 u (L.map g):=by
  funext i
  rw[EA];unfold jr
  congr 1
  rw[Bool.eq_iff_iff];simp
def sJ (g:Nat→Nat) (l:List Nat):Bool:=l.all fun i=>l.all fun j=>!(g i==g j) || i==j
theorem EC {g:Nat→Nat} {l:List Nat} (h:sJ g l=true):∀ i∈l,∀ j∈l,g i=g j→i=j:=by
  intro i hi j hj e;have:=UN.1 (UN.1 h i hi) j hj
  simpa [e] using this
def xL (u:Nat→Bool) (g:Nat→Nat) (L L1:List Nat):Bool:=L1.all fun id=>L.contains id || !u (g id)
theorem G5 {F:FuncId} {args xs:List W} {m0 m1:List (Nat×Ob)} {res:V} {h:ak} {u:Nat→Bool} (gl:List (Nat×Nat)) (hd:fC P G F args m0 res m1) (hx:xs=args.map (W.ren (gN gl))) (h3:gW h (gN gl) m0)
    (h4:sJ (gN gl) (m0.map (·.1)++m1.map (·.1))=true) (h5:xL u (gN gl) (m0.map (·.1)) (m1.map (·.1))=true) :
    mU P G h u F xs (res.ren (gN gl),i4 (jI h ((m0.map (·.1)).map (gN gl))) (m1.map fun p=>(gN gl p.1,p.2.ren (gN gl))),i5 u ((m1.map (·.1)).map (gN gl))):=by
  refine⟨gN gl,args,hL m0,_,res,hL m1,_,hd,hx,fun i o ho=>qB h3 (i,o) (gG ho),EC h4,fun id h1 h2=>?_,?_⟩
  ·have:=UN.1 h5 id h1;rw[Wd] at this;rcases this with e | e
   ·exact absurd (by simpa using e) h2
   ·simpa using e
  ·rw[MP h (EC h4),MQ]
theorem Ih {d:Option Nat} {r:List aI} {K:St→Prop} {f:Nat→V} {h:ak} {u:Nat→Bool} {F:FuncId} {pre post:List Cp} {xs:List SX} {args:List W} (ws:List W) {m0 m1:List (Nat×Ob)} {res:V} (gl:List (Nat×Nat)) (hd:fC P G F args m0 res m1)
    (he:∀ (args:Array Value) (w:World),(callFunc F args).run P w=.ok (.enter F args) w) (h1:xs.map (ev G f)=.w (.c (.cf F pre post))::ws.map V.w) (h2:pre.map Cp.w++ws++post.map Cp.w=args.map (W.ren (gN gl))) (h3:gW h (gN gl) m0)
    (h4:sJ (gN gl) (m0.map (·.1)++m1.map (·.1))=true) (h5:xL u (gN gl) (m0.map (·.1)) (m1.map (·.1))=true)
    (e:au P G r K ⟨aT f d (res.ren (gN gl)),i4 (jI h ((m0.map (·.1)).map (gN gl))) (m1.map fun p=>(gN gl p.1,p.2.ren (gN gl))),i5 u ((m1.map (·.1)).map (gN gl))⟩):au P G (⟨d,.callM 1000000007 xs,none⟩::r) K ⟨f,h,u⟩ :=
  ⟨_,.inr ⟨rfl,F,pre,post,ws,h1,he,G5 gl hd h2 h3 h4 h5⟩,e⟩
theorem kh {d:Option Nat} {r:List aI} {K:St→Prop} {f:Nat→V} {h:ak} {u:Nat→Bool} {F:FuncId} {xs:List SX} {args:List W} (ws:List W) {m0 m1:List (Nat×Ob)} {res:V} (gl:List (Nat×Nat)) (hd:fC P G F args m0 res m1)
    (h1:xs.map (ev G f)=ws.map V.w) (h2:ws=args.map (W.ren (gN gl))) (h3:gW h (gN gl) m0)
    (h4:sJ (gN gl) (m0.map (·.1)++m1.map (·.1))=true) (h5:xL u (gN gl) (m0.map (·.1)) (m1.map (·.1))=true)
    (e:au P G r K ⟨aT f d (res.ren (gN gl)),i4 (jI h ((m0.map (·.1)).map (gN gl))) (m1.map fun p=>(gN gl p.1,p.2.ren (gN gl))),i5 u ((m1.map (·.1)).map (gN gl))⟩) (hne:F≠eQ:=by decide):au P G (⟨d,.callM F xs,none⟩::r) K ⟨f,h,u⟩ :=
  ⟨_,.inl ⟨hne,ws,h1,G5 gl hd h2 h3 h4 h5⟩,e⟩
def mB (σ:St) (l:List (Nat×Option Kd)) (lk:List Nat) (args:List W) (m0:List (Nat×Ob)) (res:V) (m1:List (Nat×Ob)):Prop:=sk σ l lk args (m0.map (·.1)) res (hL m1) (m1.map (·.1))
def sK (l:List (Nat×Option Kd)) (lk:List Nat) (args:List W) (m0:List (Nat×Ob)) (res:V) (m1:List (Nat×Ob)) (e:AX) (s:St):Prop:=match e with | .nrm=>mB s l lk args m0 res m1 | .ret=>mB s l lk args m0 res m1 | .ex _=>False
theorem lX (l:List (Nat×Option Kd)) (lk:List Nat) (args:List W) (m0:List (Nat×Ob)) (res:V) (m1:List (Nat×Ob)) (σ:St):sK l lk args m0 res m1 .nrm σ=mB σ l lk args m0 res m1:=rfl
theorem je (l:List (Nat×Option Kd)) (lk:List Nat) (args:List W) (m0:List (Nat×Ob)) (res:V) (m1:List (Nat×Ob)) (σ:St):sK l lk args m0 res m1 .ret σ=mB σ l lk args m0 res m1:=rfl
def jT (f:Nat→V) (g:Nat→Nat) (args:List W):List (Nat×W)→Prop
  | []=>True
  | (t,x)::r=>args[t]?=some x∧f t=.w (x.ren g)∧jT f g args r
theorem ED {f:Nat→V} {g:Nat→Nat} {args:List W}:∀ {l:List (Nat×W)},jT f g args l→∀ p∈l,args[p.1]?=some p.2∧f p.1=.w (p.2.ren g)
  | (t,x)::r,h,p,hp=>by
    rcases U9.1 hp with rfl | hp
    ·exact⟨h.1,h.2.1⟩
    ·exact ED h.2.2 p hp
def xM (lk:List Nat) (m0 m1:List (Nat×Ob)) (l:List (Nat×W)):Prop:=(∀ p∈l,p.1∈lk)∧∀ id∈m0.map (·.1),id∈m1.map (·.1)→∃ p∈l,id∈p.2.lnk
theorem mC {σ:St} {l:List (Nat×Option Kd)} {lk:List Nat} {args:List W} {m0 m1:List (Nat×Ob)} {res:V} {ws:List W} (gl:List (Nat×Nat)) (lks:List (Nat×W)) (h1:aD (bJ σ) l=some ws) (h2:sQ ws=res.ren (gN gl)) (h3:gW σ.h (gN gl) m1)
    (h4:od (m1.map fun p=>gN gl p.1)=true) (h6:jT σ.f (gN gl) args lks) (h7:xM lk m0 m1 lks):mB σ l lk args m0 res m1:=by
  refine⟨ws,h1,gN gl,h2,fun id o ho=>qB h3 (id,o) (gG ho),fun i j hi hj e=>?_,fun id hi hi1=>?_⟩
  ·obtain⟨o,ho⟩:=UU.1 hi;obtain⟨q,hq⟩:=UU.1 hj;have key:∀ {l:List (Nat×Ob)},(l.map fun p=>gN gl p.1).Nodup→∀ {x y:Nat×Ob},x∈l→y∈l→gN gl x.1=gN gl y.1→x=y:=by
     intro l
     induction l with
     | nil=>intro _ x y hx; cases hx
     | cons p r ih =>
       intro hn x y hx hy e;rw[UE,List.nodup_cons] at hn;rcases U9.1 hx with rfl | hx' <;> rcases U9.1 hy with rfl | hy'
       ·rfl
       ·exact (hn.1 (U4.2 ⟨y,hy',e.symm⟩)).elim
       ·exact (hn.1 (U4.2 ⟨x,hx',e⟩)).elim
       ·exact ih hn.2 hx' hy' e
   exact congrArg Prod.fst (key (uB h4) (gG ho) (gG hq) e)
  ·obtain⟨p,hp,hx⟩:=h7.2 id hi hi1;obtain⟨k1,k2⟩:=ED h6 p hp;exact⟨p.1,h7.1 p hp,p.2,k1,hx,k2⟩
theorem nm {F:FuncId} {fn:Func} {sf:aB} {H:Hint} (hf:P.funcs[F]?=some fn) (hc:aA P H fn=some sf) {args:List W} {m0 m1:List (Nat×Ob)} {res:V} (lk:List Nat) {f0:Nat→V} (hlen:args.length=sf.np) (hlk:lk.all (fun t=>!sf.body.writes.contains t)=true)
    (hp:(m0.all fun p=>p.2.ids.all fun j=>(m0.map (·.1)).contains j)=true) (hi:(args.all fun x=>x.ids.all fun j=>(m0.map (·.1)).contains j)=true) (hq:(m1.all fun p=>p.2.ids.all fun j=>(m1.map (·.1)).contains j)=true) (hr:(res.ids.all fun j=>(m1.map (·.1)).contains j)=true)
    (h0:ep 0 args uf=f0) (e:bd P G sf.body (sK sf.res lk args m0 res m1) ⟨f0,hL m0,uL (m0.map (·.1))⟩):fC P G F args m0 res m1:=by
  have mem:∀ {l:List (Nat×Ob)},(l.all fun p=>p.2.ids.all fun j=>(l.map (·.1)).contains j)=true→∀ id o,hL l id=some o→id∈l.map (·.1)∧∀ j∈o.ids,j∈l.map (·.1):=by
    intro l hl id o ho;have hm:=gG ho;refine⟨U4.2 ⟨_,hm,rfl⟩,fun j hj=>?_⟩;have:=UN.1 (UN.1 hl _ hm) j hj
    simpa using this
  refine Dd hf hc hlen hlk ⟨mem hp,fun id hid=>?_,fun x hx i hxi=>?_,mem hq,fun i h=>?_⟩ (Q':=sK sf.res lk args m0 res m1) ?_ ?_
  ·obtain⟨o,ho⟩:=ww hid;rw[ho]; simp
  ·have:=UN.1 (UN.1 hi x hx) i hxi
   simpa using this
  ·have:=UN.1 hr i h
   simpa using this
  ·intro ax σ hq;cases ax with
   | nrm=>exact⟨fun _ e=>(by cases e),hq⟩
   | ret=>exact⟨fun _ e=>(by cases e),hq⟩
   | ex i=>exact hq.elim
  ·have e0:iP args (hL m0) (m0.map (·.1))=⟨f0,hL m0,uL (m0.map (·.1))⟩:=by
     have hh:(fun t=>match args[t]? with | some x=>V.w x | none=>.undef)=ep 0 args uf:=congrArg St.f (tY args);rw[← h0,← hh];unfold iP
     congr 1
     have:∀ (l:List Nat) (i:Nat),l.contains i=uL l i:=by
       intro l
       induction l with
       | nil=>intro i; rfl
       | cons j r ih =>
         intro i;rw[qA];by_cases e:i=j
         ·subst e; rw[upd_same]; simp
         ·rw[upd_ne _ _ e,← ih i];simp[e]
     exact funext fun i=>this _ i
   rw[e0];exact e
end
end Go.Proofs.Ytofonnokanoflaa
