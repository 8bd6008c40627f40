/- Texts of one's own, merged: from: The plain logic (25): calls that change a variable of the caller's: a box of data. Own work. -/
import Derived.Shelf.Abstract
import Derived.Test.YtjhaklohdflppaaMg17
import Derived.Test.YtjhaklohdflppaaMg18
set_option linter.unusedVariables false
set_option linter.unusedSimpArgs false
namespace Go.Proofs.Ytjhaklohdflppaa
open Go.RowKit
section
variable {P:Program} {G:am}
def kz (P:Program) (G:am) (d:Option Nat) (r:List aj) (K:St→Prop) (f:Nat→V) (h:ab) (u:Nat→Bool) (F:Nat) (pre:Option (List Cp)) (post:Option (List Cp)):Prop :=
  match pre,post with | some a,some b=>ak P G r K ⟨az f d (.w (.c (.cf F a b))),h,u⟩ | _,_=>False
theorem pN (d:Option Nat) (r:List aj) (K:St→Prop) (f:Nat→V) (h:ab) (u:Nat→Bool) (F:Nat) (xs ys:List SX):ak P G (⟨d,.closM F xs ys,none⟩::r) K ⟨f,h,u⟩=kz P G d r K f h u F (aY (xs.map (ev G f))) (aY (ys.map (ev G f))):=by
  show (match (match aY (xs.map (ev G f)),aY (ys.map (ev G f)) with | some a,some b=>some (((.w (.c (.cf F a b)),h,u):R)) | _,_=>none) with | some r=>_ | none=>False)=_
  unfold kz;cases aY (xs.map (ev G f)) <;> cases aY (ys.map (ev G f)) <;> rfl
theorem ny (d:Option Nat) (r:List aj) (K:St→Prop) (f:Nat→V) (h:ab) (u:Nat→Bool) (F:Nat) (a b:List Cp):kz P G d r K f h u F (some a) (some b)=ak P G r K ⟨az f d (.w (.c (.cf F a b))),h,u⟩:=rfl
theorem nz:aY []=some []:=rfl
theorem nA (id sz i o:Nat) (r:List V):aY (.w (.c (.ptr id sz i o))::r)=(aY r).map fun l=>.p id sz i o::l:=by
  simp only[aY,fE]; cases aY r <;> rfl
theorem pO (cs:List D) (r:List V):aY (.w (.c (.rp cs))::r)=(aY r).map fun l=>.d (.ref cs)::l:=by
  simp only[aY,fE,dL]; cases aY r <;> rfl
theorem nB (k:IntKind) (n:Int) (r:List V):aY (.w (.c (.d (.int k n)))::r)=(aY r).map fun l=>.d (.int k n)::l:=by
  simp only[aY,fE,dL]; cases aY r <;> rfl
theorem pP (es:List D) (r:List V):aY (.w (.c (.d (.sl es)))::r)=(aY r).map fun l=>.d (.sl es)::l:=by
  simp only[aY,fE,dL]; cases aY r <;> rfl
theorem uh (d:Option Nat) (r:List aj) (K:St→Prop) (f:Nat→V) (h:ab) (u:Nat→Bool) (x:SX):ak P G (⟨d,.nilChk x,none⟩::r) K ⟨f,h,u⟩=(dm (ev G f x)=true∧ak P G r K ⟨az f d (ev G f x),h,u⟩):=by
  show (match (if dm (ev G f x)=true then some ((ev G f x,h,u):R) else none) with | some r=>_ | none=>False)=_
  by_cases hp:dm (ev G f x)=true
  ·rw[if_pos hp]; simp only[hp,true_and]; rfl
  ·rw[if_neg hp];exact propext ⟨fun h=>h.elim,fun h=>hp h.1⟩
theorem nC (id sz i o:Nat):dm (.w (.c (.ptr id sz i o)))=true:=rfl
theorem pQ (cs:List D):dm (.w (.c (.rp cs)))=true:=rfl
theorem nD (cs:List D):dm (.w (.c (.d (.ref cs))))=true:=rfl
theorem pR (f:Nat) (cs:List D):dm (.w (.c (.d (.fn f cs))))=true:=rfl
theorem pS (f:Nat) (a b:List Cp):dm (.w (.c (.cf f a b)))=true:=rfl
theorem fc:dE (And.intro @pN (And.intro @ny (And.intro @nz (And.intro @nA (And.intro @pO (And.intro @nB @pP)))))):=And.intro @pN (And.intro @ny (And.intro @nz (And.intro @nA (And.intro @pO (And.intro @nB @pP)))))
theorem dz:dE (And.intro @uh (And.intro @nC (And.intro @pQ (And.intro @nD (And.intro @pR (And.intro @pS @true_and)))))):=And.intro @uh (And.intro @nC (And.intro @pQ (And.intro @nD (And.intro @pR (And.intro @pS @true_and)))))
def bh (cs:List D):ab:=hL [(1,.box (cs.map C.d))]
theorem iq (cs:List D) {id:Nat} {o:Ob} (h:bh cs id=some o):id=1∧o=.box (cs.map C.d):=by
  have:=cA h
  simpa using this
theorem vn (cs:List D):(Ob.box (cs.map C.d)).ids=[]:=by
  unfold Ob.ids
  induction cs with
  | nil=>rfl
  | cons c r ih=>simp[C.ids]
theorem kK (g:Nat→Nat) (cs:List D):(Ob.box (cs.map C.d)).ren g=.box (cs.map C.d):=by
  show Ob.box ((cs.map C.d).map (C.ren g))=_
  rw[List.map_map];rfl
theorem vo (cs:List D):bh cs 1=some (.box (cs.map C.d)):=by
  unfold bh;rw[eS];exact upd_same _ _ _
def iy:V→Bool | .w x=>x.ids.isEmpty | .tup ws=>ws.all fun x=>x.ids.isEmpty | .undef=>true
theorem jP (g:Nat→Nat):∀ {l:List Cp},l.flatMap Cp.ids=[]→l.map (Cp.ren g)=l
  | [],_=>rfl
  | c::r,h=>by
    rw[Bp,List.append_eq_nil_iff] at h;rw[Bj,jP g h.2];cases c with
    | d x=>rfl
    | p id sz i o=>cases h.1
theorem rG (g:Nat→Nat) {c:C} (h:c.ids=[]):c.ren g=c:=by
  cases c with
  | mp id=>exact absurd h (by simp[C.ids])
  | own=>cases h
  | ptr=>cases h
  | pa=>cases h
  | cf f a b =>
    obtain⟨h1,h2⟩:=List.append_eq_nil_iff.1 (show a.flatMap Cp.ids++b.flatMap Cp.ids=[] from h);simp only[C.ren,jP g h1,jP g h2]
  | _=>rfl
theorem pT (g:Nat→Nat):∀ {cs:List C},cs.flatMap C.ids=[]→cs.map (C.ren g)=cs
  | [],_=>rfl
  | c::r,h=>by
    rw[Bp,List.append_eq_nil_iff] at h;rw[Bj,pT g h.2,rG g h.1]
theorem rH (g:Nat→Nat) {x:W} (h:x.ids=[]):x.ren g=x:=by
  cases x with
  | c c=>rw[W.ren,rG g h]
  | mix cs=>rw[W.ren,pT g h]
theorem ke (g:Nat→Nat) {x:V} (h:iy x=true):x.ren g=x∧x.ids=[]:=by
  cases x with
  | w x =>
    have h':x.ids=[]:=Cr.1 h;exact⟨by rw[V.ren,rH g h'],h'⟩
  | tup ws =>
    have h':∀ x∈ws,x.ids=[]:=fun x hx=>Cr.1 (Bm.1 h x hx)
    refine⟨?_,?_⟩
    ·rw[V.ren]
     congr 1
     conv=>rhs; rw[← List.map_id ws]
     exact BS fun x hx=>rH g (h' x hx)
    ·show ws.flatMap W.ids=[]
     rw[List.flatMap_eq_nil_iff];exact h'
  | undef=>exact⟨rfl,rfl⟩
theorem zG {F:FuncId} {args xs:List W} {id:Nat} {cs cs':List D} {res:V} {h:ab} {u:Nat→Bool} (hd:eb P G F args (bh cs) [1] res (bh cs') [1]) (hx:xs=args.map (W.ren fun _=>id)) (h3:h id=some (.box (cs.map C.d))) (hn:iy res=true) (hdir:args.any (fun x=>x.ids.contains 1)=true) :
    dv P G h u F xs (res,upd h id (some (.box (cs'.map C.d))),upd u id true):=by
  refine⟨fun _=>id,args,bh cs,[1],res,bh cs',[1],hd,hx,fun i o ho=>?_,fun i hi j hj _=>?_,fun i hi hn=>absurd hi hn,fun i hi=>?_,?_⟩
  ·obtain⟨rfl,rfl⟩:=iq cs ho;rw[h3,kK]
  ·simp at hi hj;omega
  ·obtain⟨x,hx,h1⟩:=B5.1 hdir;rw[BA.1 hi];exact .inl ⟨x,hx,by simpa using h1⟩
  ·refine Prod.ext (ke _ hn).1.symm (Prod.ext (funext fun i=>?_) (funext fun i=>?_))
   ·show upd h id _ i=cq h (fun _=>id) [1] [1] (bh cs') i
    unfold cq upd;by_cases e:i=id
    ·subst e;simp only[List.find?_cons,beq_self_eq_true,if_true]
     show _=(bh cs' 1).map _
     rw[vo];simp only[Cm,kK]
    ·have e':(id==i)=false:=by simpa using fun k=>e k.symm
     simp[e,e']
   ·show upd u id true i=(u i || [1].any fun _=>id==i)
    unfold upd;by_cases e:i=id
    ·subst e; simp
    ·have e':(id==i)=false:=by simpa using fun k=>e k.symm
     simp[e,e']
theorem eT {d:Option Nat} {r:List aj} {K:St→Prop} {f:Nat→V} {h:ab} {u:Nat→Bool} {F:FuncId} {xs:List SX} {args ws:List W} {id:Nat} {cs cs':List D} {res:V} (hd:eb P G F args (bh cs) [1] res (bh cs') [1])
    (h1:(bq xs).map (ev G f)=ws.map V.w) (h2:ws=args.map (W.ren fun _=>id)) (h3:h id=some (.box (cs.map C.d))) (hn:iy res=true)
    (e:ak P G r K ⟨az f d res,upd h id (some (.box (cs'.map C.d))),upd u id true⟩) (hne:F≠cd:=by decide) (hnm:dN (ev G f) xs=true:=by rfl) (hdir:args.any (fun x=>x.ids.contains 1)=true:=by rfl):ak P G (⟨d,.callM F xs,none⟩::r) K ⟨f,h,u⟩ :=
  ⟨_,⟨.inl ⟨hne,ws,h1,zG hd h2 h3 hn hdir⟩,hnm⟩,e⟩
def gF (σ:St) (l:List (Nat×Option Kd)) (t:Nat) (cs':List D) (res:V):Prop :=
  ∃ ws,ao (ce σ) l=some ws∧iV ws=res∧σ.h 1=some (.box (cs'.map C.d))∧σ.f t=.w (.c (.ptr 1 1 0 0))
def lc (l:List (Nat×Option Kd)) (t:Nat) (cs':List D) (res:V) (e:AX) (s:St):Prop:=match e with | .nrm=>gF s l t cs' res | .ret=>gF s l t cs' res | .ex _=>False
theorem eQ (l:List (Nat×Option Kd)) (t:Nat) (cs':List D) (res:V) (σ:St):lc l t cs' res .ret σ=gF σ l t cs' res:=rfl
theorem iz {σ:St} {s:Nat} {t:Nat} {cs':List D} {x:W} (h1:σ.f s=.w x) (h2:σ.h 1=some (.box (cs'.map C.d))) (h3:σ.f t=.w (.c (.ptr 1 1 0 0))):gF σ [(s,none)] t cs' (.w x) :=
  ⟨[x],by simp[ao,ce,h1,cW],rfl,h2,h3⟩
theorem jq {F:FuncId} {fn:Func} {sf:a6} {H:Hint} (hf:P.funcs[F]?=some fn) (hc:aU P H fn=some sf) {args:List W} {cs cs':List D} {res:V} (t:Nat) {f0:Nat→V} (hlen:args.length=sf.np) (hlk:[t].all (fun t=>!sf.body.writes.contains t)=true)
    (ha:args[t]?=some (.c (.ptr 1 1 0 0))) (hi:args.all (fun x=>x.ids.all (·==1))=true) (hn:iy res=true) (h0:cJ 0 args uf=f0) (e:aG P G sf.body (lc sf.res t cs' res) ⟨f0,bh cs,uL [1]⟩):eb P G F args (bh cs) [1] res (bh cs') [1]:=by
  refine qE hf hc hlen hlk ⟨fun id o ho=>?_,fun id hid=>?_,fun x hx i hxi=>?_,fun id o ho=>?_,fun i hi=>?_⟩ (Q':=lc sf.res t cs' res) ?_ ?_
  ·obtain⟨rfl,rfl⟩:=iq cs ho;exact⟨by simp,fun j hj=>by rw[vn] at hj; cases hj⟩
  ·obtain rfl:id=1:=by simpa using hid
   rw[vo];simp
  ·have:=Bm.1 (Bm.1 hi x hx) i hxi
   simpa using this
  ·obtain⟨rfl,rfl⟩:=iq cs' ho;exact⟨by simp,fun j hj=>by rw[vn] at hj; cases hj⟩
  ·rw[(ke id hn).2] at hi; cases hi
  ·have key:∀ σ:St,gF σ sf.res t cs' res→iI σ sf.res [t] args [1] res (bh cs') [1]:=by
     rintro σ ⟨ws,h1,h2,h3,h4⟩;refine⟨ws,h1,fun i=>i,by rw[(ke _ hn).1]; exact h2,fun i o ho=>?_,fun i j hi hj e=>e,fun i hi _=>?_⟩
     ·obtain⟨rfl,rfl⟩:=iq cs' ho;rw[h3,kK]
     ·obtain rfl:i=1:=by simpa using hi
      exact⟨t,by simp,.c (.ptr 1 1 0 0),ha,by simp[W.lnk],h4⟩
   intro ax σ hq;cases ax with
   | nrm=>exact⟨fun _ e=>(by cases e),key σ hq⟩
   | ret=>exact⟨fun _ e=>(by cases e),key σ hq⟩
   | ex i=>exact hq.elim
  ·have e0:dJ args (bh cs) [1]=⟨f0,bh cs,uL [1]⟩:=by
     have hh:(fun t=>match args[t]? with | some x=>V.w x | none=>.undef)=cJ 0 args uf:=congrArg St.f (nx args);rw[← h0,← hh];unfold dJ
     congr 1
     funext i
     unfold uL uL upd uN;by_cases e:i=1
     ·simp[e]
     ·simp[e]
   rw[e0];exact e
end
section
variable {P:Program} {G:am}
def gN:List (Nat×Nat)→Nat→Nat
  | []=>fun i=>i
  | (a,b)::r=>upd (gN r) a b
def eJ (h:ab):List Nat→ab
  | []=>h
  | i::r=>upd (eJ h r) i none
def ej (h:ab):List (Nat×Ob)→ab
  | []=>h
  | (i,o)::r=>upd (ej h r) i (some o)
def ek (u:Nat→Bool):List Nat→Nat→Bool
  | []=>u
  | i::r=>upd (ek u r) i true
theorem ui:gN []=fun i=>i:=rfl
theorem rI (a b:Nat) (r:List (Nat×Nat)):gN ((a,b)::r)=upd (gN r) a b:=rfl
theorem pU (h:ab):eJ h []=h:=rfl
theorem jr (h:ab) (i:Nat) (r:List Nat):eJ h (i::r)=upd (eJ h r) i none:=rfl
theorem pV (h:ab):ej h []=h:=rfl
theorem gV (h:ab) (i:Nat) (o:Ob) (r:List (Nat×Ob)):ej h ((i,o)::r)=upd (ej h r) i (some o):=rfl
theorem pW (u:Nat→Bool):ek u []=u:=rfl
theorem js (u:Nat→Bool) (i:Nat) (r:List Nat):ek u (i::r)=upd (ek u r) i true:=rfl
theorem uj (g:Nat→Nat) (sz:Nat) (es:List D):Ob.ren g (.row sz es)=.row sz es:=rfl
theorem uk (g:Nat→Nat) (cs:List C):Ob.ren g (.box cs)=.box (cs.map (C.ren g)):=rfl
theorem um (g:Nat→Nat) (id sz off n:Nat):C.ren g (.own id sz off n)=.own (g id) sz off n:=rfl
theorem uo (g:Nat→Nat) (id sz i o:Nat):C.ren g (.ptr id sz i o)=.ptr (g id) sz i o:=rfl
theorem vT (g:Nat→Nat) (x:D):C.ren g (.d x)=.d x:=rfl
theorem uq (g:Nat→Nat):C.ren g .nil=.nil:=rfl
theorem vp (g:Nat→Nat) (f:Nat) (a b:List Cp):C.ren g (.cf f a b)=.cf f (a.map (Cp.ren g)) (b.map (Cp.ren g)):=rfl
theorem vq (g:Nat→Nat) (x:D):Cp.ren g (.d x)=.d x:=rfl
theorem vr (g:Nat→Nat) (id sz i o:Nat):Cp.ren g (.p id sz i o)=.p (g id) sz i o:=rfl
theorem ut (g:Nat→Nat) (l:List D):(l.map Cp.d).map (Cp.ren g)=l.map Cp.d:=by rw[List.map_map]; rfl
theorem vt (g:Nat→Nat) (x:C):W.ren g (.c x)=.c (x.ren g):=rfl
theorem vu (g:Nat→Nat) (x:W):V.ren g (.w x)=.w (x.ren g):=rfl
theorem vw (g:Nat→Nat) (l:List W):V.ren g (.tup l)=.tup (l.map (W.ren g)):=rfl
theorem vx (l:List D):(l.map Cp.d).map Cp.w=l.map fun x=>W.c (.d x):=by rw[List.map_map]; rfl
theorem uu (g:Nat→Nat) (l:List D):(l.map fun x=>W.c (.d x)).map (W.ren g)=l.map fun x=>W.c (.d x):=by rw[List.map_map]; rfl
theorem vy (x:D):Cp.w (.d x)=.c (.d x):=rfl
theorem vz (id sz i o:Nat):Cp.w (.p id sz i o)=.c (.ptr id sz i o):=rfl
theorem wb:dE (And.intro @ui (And.intro @rI (And.intro @pU (And.intro @jr (And.intro @pV (And.intro @gV (And.intro @pW (And.intro @js (And.intro @uj (And.intro @uk (And.intro @um (And.intro @uo (And.intro @vT (And.intro @uq (And.intro @vp (And.intro @vq (And.intro @vr (And.intro @ut (And.intro @vt (And.intro @vu (And.intro @vw (And.intro @vx (And.intro @uu (And.intro @vy @vz)))))))))))))))))))))))):=And.intro @ui (And.intro @rI (And.intro @pU (And.intro @jr (And.intro @pV (And.intro @gV (And.intro @pW (And.intro @js (And.intro @uj (And.intro @uk (And.intro @um (And.intro @uo (And.intro @vT (And.intro @uq (And.intro @vp (And.intro @vq (And.intro @vr (And.intro @ut (And.intro @vt (And.intro @vu (And.intro @vw (And.intro @vx (And.intro @uu (And.intro @vy @vz)))))))))))))))))))))))
def iO (P:Program) (G:am) (F:FuncId) (args:List W) (m0:List (Nat×Ob)) (res:V) (m1:List (Nat×Ob)):Prop :=
  eb P G F args (hL m0) (m0.map (·.1)) res (hL m1) (m1.map (·.1))
theorem rJ (h:ab):∀ (l:List Nat) (i:Nat),eJ h l i=if l.contains i then none else h i
  | [],i=>rfl
  | j::r,i=>by
    rw[jr];by_cases e:i=j
    ·subst e; rw[upd_same]; simp
    ·rw[upd_ne _ _ e,rJ h r i];simp[e]
theorem rK (u:Nat→Bool):∀ (l:List Nat) (i:Nat),ek u l i=(u i || l.contains i)
  | [],i=>by simp[ek]
  | j::r,i=>by
    rw[js];by_cases e:i=j
    ·subst e; rw[upd_same]; simp
    ·rw[upd_ne _ _ e,rK u r i];simp[e]
theorem pX (h:ab) {i:Nat}:∀ (l:List (Nat×Ob)),(∀ p∈l,p.1≠i)→ej h l i=h i
  | [],_=>rfl
  | (j,o)::r,k=>by
    rw[gV,upd_ne _ _ fun e=>k (j,o) (by simp) e.symm];exact pX h r fun p hp=>k p (by simp[hp])
theorem rL (h:ab) {g:Nat→Nat} {id:Nat}:∀ (m:List (Nat×Ob)),(∀ p∈m,g p.1=g id→p.1=id)→∀ o,hL m id=some o→ej h (m.map fun p=>(g p.1,p.2.ren g)) (g id)=some (o.ren g)
  | [],_,o,ho=>by cases ho
  | (j,q)::r,k,o,ho=>by
    rw[Bj,gV];rw[eS] at ho;by_cases e:id=j
    ·subst e;rw[upd_same] at ho ⊢;cases ho; rfl
    ·rw[upd_ne _ _ e] at ho;have:g id≠g j:=fun e'=>e (k (j,q) (by simp) e'.symm).symm
     rw[upd_ne _ _ this];exact rL h r (fun p hp=>k p (by simp[hp])) o ho
theorem gr:∀ {m:List (Nat×Ob)} {id:Nat},id∈m.map (·.1)→∃ o,hL m id=some o
  | (j,q)::r,id,h=>by
    by_cases e:id=j
    ·subst e; exact⟨q,by rw[eS,upd_same]⟩
    ·obtain⟨o,ho⟩:=gr (m:=r) (id:=id) (by simpa [e] using h);exact⟨o,by rw[eS,upd_ne _ _ e]; exact ho⟩
theorem yO (h:ab) {g:Nat→Nat} {L:List Nat} {m:List (Nat×Ob)} (hi:∀ i∈L++m.map (·.1),∀ j∈L++m.map (·.1),g i=g j→i=j) :
    cq h g L (m.map (·.1)) (hL m)=ej (eJ h (L.map g)) (m.map fun p=>(g p.1,p.2.ren g)):=by
  funext i
  unfold cq;split
  ·rename_i id hf;have h1:=BP hf;have h2:=Cl hf;simp only[beq_iff_eq] at h2;subst h2;obtain⟨o,ho⟩:=gr h1;rw[ho,rL _ _ (fun p hp e=>hi p.1 (Bl _ (Br.2 ⟨p,hp,rfl⟩)) id (Bl _ h1) e) o ho];rfl
  ·rename_i hf;have hn:∀ p∈m.map fun p=>(g p.1,p.2.ren g),p.1≠i:=by
     intro p hp e;obtain⟨q,hq,rfl⟩:=Br.1 hp;have:=List.find?_eq_none.1 hf q.1 (Br.2 ⟨q,hq,rfl⟩);exact this (by simpa using e)
   rw[pX _ _ hn,rJ];have e:(L.any fun id=>g id==i)=(L.map g).contains i:=by
     rw[Bool.eq_iff_iff];simp
   rw[e]
theorem yP (u:Nat→Bool) (g:Nat→Nat) (L:List Nat):cT u g L=ek u (L.map g):=by
  funext i
  rw[rK];unfold cT
  congr 1
  rw[Bool.eq_iff_iff];simp
def lf (g:Nat→Nat) (l:List Nat):Bool:=l.all fun i=>l.all fun j=>!(g i==g j) || i==j
theorem rM {g:Nat→Nat} {l:List Nat} (h:lf g l=true):∀ i∈l,∀ j∈l,g i=g j→i=j:=by
  intro i hi j hj e;have:=Bm.1 (Bm.1 h i hi) j hj
  simpa [e] using this
def vU (u:Nat→Bool) (g:Nat→Nat) (L L1:List Nat):Bool:=L1.all fun id=>L.contains id || !u (g id)
def lg (args:List W) (m0 m1:List (Nat×Ob)):Bool:=m0.all fun p=>args.any (fun x=>x.ids.contains p.1) || (!aZ (some p.2)&&m1.all fun q=>!(q.1==p.1) || !aZ (some q.2))
theorem zH {args:List W} {m0 m1:List (Nat×Ob)} (h:lg args m0 m1=true):∀ i∈m0.map (·.1),(∃ x∈args,i∈x.ids)∨(aZ (hL m0 i)=false∧aZ (hL m1 i)=false):=by
  intro i hi;by_cases hd:args.any (fun x=>x.ids.contains i)=true
  ·obtain⟨x,hx,h1⟩:=B5.1 hd;exact .inl ⟨x,hx,by simpa using h1⟩
  ·refine .inr ⟨?_,?_⟩
   ·obtain⟨o,ho⟩:=gr hi;have hm:=cA ho;have:=Bm.1 h _ hm;rw[Cb] at this;rcases this with k | k
    ·exact absurd k hd
    ·rw[Bw] at k;rw[ho]
     simpa using k.1
   ·cases hq:hL m1 i with
    | none=>rfl
    | some q =>
      obtain⟨o,ho⟩:=gr hi;have:=Bm.1 h _ (cA ho);rw[Cb] at this;rcases this with k | k
      ·exact absurd k hd
      ·rw[Bw] at k;have:=Bm.1 k.2 _ (cA hq)
       simpa using this
theorem Aq {F:FuncId} {args xs:List W} {m0 m1:List (Nat×Ob)} {res:V} {h:ab} {u:Nat→Bool} (gl:List (Nat×Nat)) (hd:iO P G F args m0 res m1) (hx:xs=args.map (W.ren (gN gl))) (h3:dQ h (gN gl) m0)
    (h4:lf (gN gl) (m0.map (·.1)++m1.map (·.1))=true) (h5:vU u (gN gl) (m0.map (·.1)) (m1.map (·.1))=true) (hdir:lg args m0 m1=true) :
    dv P G h u F xs (res.ren (gN gl),ej (eJ h ((m0.map (·.1)).map (gN gl))) (m1.map fun p=>(gN gl p.1,p.2.ren (gN gl))),ek u ((m1.map (·.1)).map (gN gl))):=by
  refine⟨gN gl,args,hL m0,_,res,hL m1,_,hd,hx,fun i o ho=>hU h3 (i,o) (cA ho),rM h4,fun id h1 h2=>?_,zH hdir,?_⟩
  ·have:=Bm.1 h5 id h1;rw[Cb] at this;rcases this with e | e
   ·exact absurd (by simpa using e) h2
   ·simpa using e
  ·rw[yO h (rM h4),yP]
theorem AH {d:Option Nat} {r:List aj} {K:St→Prop} {f:Nat→V} {h:ab} {u:Nat→Bool} {F:FuncId} {xs:List SX} {args:List W} (ws:List W) {m0 m1:List (Nat×Ob)} {res:V} (gl:List (Nat×Nat)) (hd:iO P G F args m0 res m1)
    (h1:(bq xs).map (ev G f)=ws.map V.w) (h2:ws=args.map (W.ren (gN gl))) (h3:dQ h (gN gl) m0)
    (h4:lf (gN gl) (m0.map (·.1)++m1.map (·.1))=true) (h5:vU u (gN gl) (m0.map (·.1)) (m1.map (·.1))=true)
    (e:ak P G r K ⟨az f d (res.ren (gN gl)),ej (eJ h ((m0.map (·.1)).map (gN gl))) (m1.map fun p=>(gN gl p.1,p.2.ren (gN gl))),ek u ((m1.map (·.1)).map (gN gl))⟩) (hne:F≠cd:=by decide) (hnm:dN (ev G f) xs=true:=by rfl) (hdir:lg args m0 m1=true:=by rfl):ak P G (⟨d,.callM F xs,none⟩::r) K ⟨f,h,u⟩ :=
  ⟨_,⟨.inl ⟨hne,ws,h1,Aq gl hd h2 h3 h4 h5 hdir⟩,hnm⟩,e⟩
def gy (σ:St) (l:List (Nat×Option Kd)) (lk:List Nat) (args:List W) (m0:List (Nat×Ob)) (res:V) (m1:List (Nat×Ob)):Prop:=iI σ l lk args (m0.map (·.1)) res (hL m1) (m1.map (·.1))
def iP (l:List (Nat×Option Kd)) (lk:List Nat) (args:List W) (m0:List (Nat×Ob)) (res:V) (m1:List (Nat×Ob)) (e:AX) (s:St):Prop:=match e with | .nrm=>gy s l lk args m0 res m1 | .ret=>gy s l lk args m0 res m1 | .ex _=>False
theorem yQ (l:List (Nat×Option Kd)) (lk:List Nat) (args:List W) (m0:List (Nat×Ob)) (res:V) (m1:List (Nat×Ob)) (σ:St):iP l lk args m0 res m1 .nrm σ=gy σ l lk args m0 res m1:=rfl
theorem yR (l:List (Nat×Option Kd)) (lk:List Nat) (args:List W) (m0:List (Nat×Ob)) (res:V) (m1:List (Nat×Ob)) (σ:St):iP l lk args m0 res m1 .ret σ=gy σ l lk args m0 res m1:=rfl
def lw (f:Nat→V) (g:Nat→Nat) (args:List W):List (Nat×W)→Prop
  | []=>True
  | (t,x)::r=>args[t]?=some x∧f t=.w (x.ren g)∧lw f g args r
theorem rN {f:Nat→V} {g:Nat→Nat} {args:List W}:∀ {l:List (Nat×W)},lw f g args l→∀ p∈l,args[p.1]?=some p.2∧f p.1=.w (p.2.ren g)
  | (t,x)::r,h,p,hp=>by
    rcases BI.1 hp with rfl | hp
    ·exact⟨h.1,h.2.1⟩
    ·exact rN h.2.2 p hp
def AY (lk:List Nat) (m0 m1:List (Nat×Ob)) (l:List (Nat×W)):Prop:=(∀ p∈l,p.1∈lk)∧∀ id∈m0.map (·.1),id∈m1.map (·.1)→∃ p∈l,id∈p.2.lnk
theorem AJ {σ:St} {l:List (Nat×Option Kd)} {lk:List Nat} {args:List W} {m0 m1:List (Nat×Ob)} {res:V} {ws:List W} (gl:List (Nat×Nat)) (lks:List (Nat×W)) (h1:ao (ce σ) l=some ws) (h2:iV ws=res.ren (gN gl)) (h3:dQ σ.h (gN gl) m1)
    (h4:gv (m1.map fun p=>gN gl p.1)=true) (h6:lw σ.f (gN gl) args lks) (h7:AY lk m0 m1 lks):gy σ l lk args m0 res m1:=by
  refine⟨ws,h1,gN gl,h2,fun id o ho=>hU h3 (id,o) (cA ho),fun i j hi hj e=>?_,fun id hi hi1=>?_⟩
  ·obtain⟨o,ho⟩:=Bn.1 hi;obtain⟨q,hq⟩:=Bn.1 hj;have key:∀ {l:List (Nat×Ob)},(l.map fun p=>gN gl p.1).Nodup→∀ {x y:Nat×Ob},x∈l→y∈l→gN gl x.1=gN gl y.1→x=y:=by
     intro l
     induction l with
     | nil=>intro _ x y hx; cases hx
     | cons p r ih =>
       intro hn x y hx hy e;rw[Bj,List.nodup_cons] at hn;rcases BI.1 hx with rfl | hx' <;> rcases BI.1 hy with rfl | hy'
       ·rfl
       ·exact (hn.1 (Br.2 ⟨y,hy',e.symm⟩)).elim
       ·exact (hn.1 (Br.2 ⟨x,hx',e⟩)).elim
       ·exact ih hn.2 hx' hy' e
   exact congrArg Prod.fst (key (jN h4) (cA ho) (cA hq) e)
  ·obtain⟨p,hp,hx⟩:=h7.2 id hi hi1;obtain⟨k1,k2⟩:=rN h6 p hp;exact⟨p.1,h7.1 p hp,p.2,k1,hx,k2⟩
theorem xX {F:FuncId} {fn:Func} {sf:a6} {H:Hint} (hf:P.funcs[F]?=some fn) (hc:aU P H fn=some sf) {args:List W} {m0 m1:List (Nat×Ob)} {res:V} (lk:List Nat) {f0:Nat→V} (hlen:args.length=sf.np) (hlk:lk.all (fun t=>!sf.body.writes.contains t)=true)
    (hp:(m0.all fun p=>p.2.ids.all fun j=>(m0.map (·.1)).contains j)=true) (hi:(args.all fun x=>x.ids.all fun j=>(m0.map (·.1)).contains j)=true) (hq:(m1.all fun p=>p.2.ids.all fun j=>(m1.map (·.1)).contains j)=true) (hr:(res.ids.all fun j=>(m1.map (·.1)).contains j)=true)
    (h0:cJ 0 args uf=f0) (e:aG P G sf.body (iP sf.res lk args m0 res m1) ⟨f0,hL m0,uL (m0.map (·.1))⟩):iO P G F args m0 res m1:=by
  have mem:∀ {l:List (Nat×Ob)},(l.all fun p=>p.2.ids.all fun j=>(l.map (·.1)).contains j)=true→∀ id o,hL l id=some o→id∈l.map (·.1)∧∀ j∈o.ids,j∈l.map (·.1):=by
    intro l hl id o ho;have hm:=cA ho;refine⟨Br.2 ⟨_,hm,rfl⟩,fun j hj=>?_⟩;have:=Bm.1 (Bm.1 hl _ hm) j hj
    simpa using this
  refine qE hf hc hlen hlk ⟨mem hp,fun id hid=>?_,fun x hx i hxi=>?_,mem hq,fun i h=>?_⟩ (Q':=iP sf.res lk args m0 res m1) ?_ ?_
  ·obtain⟨o,ho⟩:=gr hid;rw[ho]; simp
  ·have:=Bm.1 (Bm.1 hi x hx) i hxi
   simpa using this
  ·have:=Bm.1 hr i h
   simpa using this
  ·intro ax σ hq;cases ax with
   | nrm=>exact⟨fun _ e=>(by cases e),hq⟩
   | ret=>exact⟨fun _ e=>(by cases e),hq⟩
   | ex i=>exact hq.elim
  ·have e0:dJ args (hL m0) (m0.map (·.1))=⟨f0,hL m0,uL (m0.map (·.1))⟩:=by
     have hh:(fun t=>match args[t]? with | some x=>V.w x | none=>.undef)=cJ 0 args uf:=congrArg St.f (nx args);rw[← h0,← hh];unfold dJ
     congr 1
     have:∀ (l:List Nat) (i:Nat),l.contains i=uL l i:=by
       intro l
       induction l with
       | nil=>intro i; rfl
       | cons j r ih =>
         intro i;rw[hP];by_cases e:i=j
         ·subst e; rw[upd_same]; simp
         ·rw[upd_ne _ _ e,← ih i];simp[e]
     exact funext fun i=>this _ i
   rw[e0];exact e
end
end Go.Proofs.Ytjhaklohdflppaa
