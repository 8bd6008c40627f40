/- Texts of one's own, merged: from: The plain logic (25): calls that change a variable of the caller's: a box of data. Own work. -/
import Derived.Shelf.Abstract
import Derived.Test.YteohdchecapkfaaMg27
import Derived.Test.YteohdchecapkfaaMg28
set_option linter.unusedVariables false
set_option linter.unusedSimpArgs false
namespace Go.Proofs.Yteohdchecapkfaa
open Go.RowKit
section
variable {P:Program} {G:ap}
def kA (P:Program) (G:ap) (d:Option Nat) (r:List ak) (K:St→Prop) (f:Nat→V) (h:ae) (u:Nat→Bool) (F:Nat) (pre:Option (List Cp)) (post:Option (List Cp)):Prop :=
  match pre,post with | some a,some b=>al P G r K ⟨aA f d (.w (.c (.cf F a b))),h,u⟩ | _,_=>False
theorem pO (d:Option Nat) (r:List ak) (K:St→Prop) (f:Nat→V) (h:ae) (u:Nat→Bool) (F:Nat) (xs ys:List SX):al P G (⟨d,.closM F xs ys,none⟩::r) K ⟨f,h,u⟩=kA P G d r K f h u F (a5 (xs.map (ev G f))) (a5 (ys.map (ev G f))):=by
  show (match (match a5 (xs.map (ev G f)),a5 (ys.map (ev G f)) with | some a,some b=>some (((.w (.c (.cf F a b)),h,u):R)) | _,_=>none) with | some r=>_ | none=>False)=_
  unfold kA;cases a5 (xs.map (ev G f)) <;> cases a5 (ys.map (ev G f)) <;> rfl
theorem nx (d:Option Nat) (r:List ak) (K:St→Prop) (f:Nat→V) (h:ae) (u:Nat→Bool) (F:Nat) (a b:List Cp):kA P G d r K f h u F (some a) (some b)=al P G r K ⟨aA f d (.w (.c (.cf F a b))),h,u⟩:=rfl
theorem ny:a5 []=some []:=rfl
theorem nz (id sz i o:Nat) (r:List V):a5 (.w (.c (.ptr id sz i o))::r)=(a5 r).map fun l=>.p id sz i o::l:=by
  simp only[a5,fE]; cases a5 r <;> rfl
theorem pP (cs:List D) (r:List V):a5 (.w (.c (.rp cs))::r)=(a5 r).map fun l=>.d (.ref cs)::l:=by
  simp only[a5,fE,dE]; cases a5 r <;> rfl
theorem nA (k:IntKind) (n:Int) (r:List V):a5 (.w (.c (.d (.int k n)))::r)=(a5 r).map fun l=>.d (.int k n)::l:=by
  simp only[a5,fE,dE]; cases a5 r <;> rfl
theorem pQ (es:List D) (r:List V):a5 (.w (.c (.d (.sl es)))::r)=(a5 r).map fun l=>.d (.sl es)::l:=by
  simp only[a5,fE,dE]; cases a5 r <;> rfl
theorem uq (d:Option Nat) (r:List ak) (K:St→Prop) (f:Nat→V) (h:ae) (u:Nat→Bool) (x:SX):al P G (⟨d,.nilChk x,none⟩::r) K ⟨f,h,u⟩=(df (ev G f x)=true∧al P G r K ⟨aA f d (ev G f x),h,u⟩):=by
  show (match (if df (ev G f x)=true then some ((ev G f x,h,u):R) else none) with | some r=>_ | none=>False)=_
  by_cases hp:df (ev G f x)=true
  ·rw[if_pos hp]; simp only[hp,true_and]; rfl
  ·rw[if_neg hp];exact propext ⟨fun h=>h.elim,fun h=>hp h.1⟩
theorem nB (id sz i o:Nat):df (.w (.c (.ptr id sz i o)))=true:=rfl
theorem pR (cs:List D):df (.w (.c (.rp cs)))=true:=rfl
theorem nC (cs:List D):df (.w (.c (.d (.ref cs))))=true:=rfl
theorem pS (f:Nat) (cs:List D):df (.w (.c (.d (.fn f cs))))=true:=rfl
theorem pT (f:Nat) (a b:List Cp):df (.w (.c (.cf f a b)))=true:=rfl
theorem lq:dz (And.intro @pO (And.intro @nx (And.intro @ny (And.intro @nz (And.intro @pP (And.intro @nA @pQ)))))):=And.intro @pO (And.intro @nx (And.intro @ny (And.intro @nz (And.intro @pP (And.intro @nA @pQ)))))
theorem fQ:dz (And.intro @uq (And.intro @nB (And.intro @pR (And.intro @nC (And.intro @pS (And.intro @pT @true_and)))))):=And.intro @uq (And.intro @nB (And.intro @pR (And.intro @nC (And.intro @pS (And.intro @pT @true_and)))))
def bH (cs:List D):ae:=hL [(1,.box (cs.map C.d))]
theorem iD (cs:List D) {id:Nat} {o:Ob} (h:bH cs id=some o):id=1∧o=.box (cs.map C.d):=by
  have:=cB h
  simpa using this
theorem vp (cs:List D):(Ob.box (cs.map C.d)).ids=[]:=by
  unfold Ob.ids
  induction cs with
  | nil=>rfl
  | cons c r ih=>simp[C.ids]
theorem kJ (g:Nat→Nat) (cs:List D):(Ob.box (cs.map C.d)).ren g=.box (cs.map C.d):=by
  show Ob.box ((cs.map C.d).map (C.ren g))=_
  rw[List.map_map];rfl
theorem vq (cs:List D):bH cs 1=some (.box (cs.map C.d)):=by
  unfold bH;rw[eT];exact upd_same _ _ _
def iK:V→Bool | .w x=>x.ids.isEmpty | .tup ws=>ws.all fun x=>x.ids.isEmpty | .undef=>true
theorem jX (g:Nat→Nat):∀ {l:List Cp},l.flatMap Cp.ids=[]→l.map (Cp.ren g)=l
  | [],_=>rfl
  | c::r,h=>by
    rw[Bb,List.append_eq_nil_iff] at h;rw[A8,jX g h.2];cases c with
    | d x=>rfl
    | p id sz i o=>cases h.1
theorem rK (g:Nat→Nat) {c:C} (h:c.ids=[]):c.ren g=c:=by
  cases c with
  | mp id=>exact absurd h (by simp[C.ids])
  | own=>cases h
  | ptr=>cases h
  | pa=>cases h
  | cf f a b =>
    obtain⟨h1,h2⟩:=List.append_eq_nil_iff.1 (show a.flatMap Cp.ids++b.flatMap Cp.ids=[] from h);simp only[C.ren,jX g h1,jX g h2]
  | _=>rfl
theorem pU (g:Nat→Nat):∀ {cs:List C},cs.flatMap C.ids=[]→cs.map (C.ren g)=cs
  | [],_=>rfl
  | c::r,h=>by
    rw[Bb,List.append_eq_nil_iff] at h;rw[A8,pU g h.2,rK g h.1]
theorem rL (g:Nat→Nat) {x:W} (h:x.ids=[]):x.ren g=x:=by
  cases x with
  | c c=>rw[W.ren,rK g h]
  | mix cs=>rw[W.ren,pU g h]
theorem kg (g:Nat→Nat) {x:V} (h:iK x=true):x.ren g=x∧x.ids=[]:=by
  cases x with
  | w x =>
    have h':x.ids=[]:=Ce.1 h;exact⟨by rw[V.ren,rL g h'],h'⟩
  | tup ws =>
    have h':∀ x∈ws,x.ids=[]:=fun x hx=>Ce.1 (Ba.1 h x hx)
    refine⟨?_,?_⟩
    ·rw[V.ren]
     congr 1
     conv=>rhs; rw[← List.map_id ws]
     exact BJ fun x hx=>rL g (h' x hx)
    ·show ws.flatMap W.ids=[]
     rw[List.flatMap_eq_nil_iff];exact h'
  | undef=>exact⟨rfl,rfl⟩
theorem zx {F:FuncId} {args xs:List W} {id:Nat} {cs cs':List D} {res:V} {h:ae} {u:Nat→Bool} (hd:eu P G F args (bH cs) [1] res (bH cs') [1]) (hx:xs=args.map (W.ren fun _=>id)) (h3:h id=some (.box (cs.map C.d))) (hn:iK res=true) (hdir:args.any (fun x=>x.ids.contains 1)=true) :
    dq P G h u F xs (res,upd h id (some (.box (cs'.map C.d))),upd u id true):=by
  refine⟨fun _=>id,args,bH cs,[1],res,bH cs',[1],hd,hx,fun i o ho=>?_,fun i hi j hj _=>?_,fun i hi hn=>absurd hi hn,fun i hi=>?_,?_⟩
  ·obtain⟨rfl,rfl⟩:=iD cs ho;rw[h3,kJ]
  ·simp at hi hj;omega
  ·obtain⟨x,hx,h1⟩:=BR.1 hdir;rw[Bp.1 hi];exact .inl ⟨x,hx,by simpa using h1⟩
  ·refine Prod.ext (kg _ hn).1.symm (Prod.ext (funext fun i=>?_) (funext fun i=>?_))
   ·show upd h id _ i=ct h (fun _=>id) [1] [1] (bH cs') i
    unfold ct upd;by_cases e:i=id
    ·subst e;simp only[List.find?_cons,beq_self_eq_true,if_true]
     show _=(bH cs' 1).map _
     rw[vq];simp only[Cc,kJ]
    ·have e':(id==i)=false:=by simpa using fun k=>e k.symm
     simp[e,e']
   ·show upd u id true i=(u i || [1].any fun _=>id==i)
    unfold upd;by_cases e:i=id
    ·subst e; simp
    ·have e':(id==i)=false:=by simpa using fun k=>e k.symm
     simp[e,e']
theorem kh {d:Option Nat} {r:List ak} {K:St→Prop} {f:Nat→V} {h:ae} {u:Nat→Bool} {F:FuncId} {xs:List SX} {args ws:List W} {id:Nat} {cs cs':List D} {res:V} (hd:eu P G F args (bH cs) [1] res (bH cs') [1])
    (h1:(bu xs).map (ev G f)=ws.map V.w) (h2:ws=args.map (W.ren fun _=>id)) (h3:h id=some (.box (cs.map C.d))) (hn:iK res=true)
    (e:al P G r K ⟨aA f d res,upd h id (some (.box (cs'.map C.d))),upd u id true⟩) (hne:F≠cm:=by decide) (hnm:dF (ev G f) xs=true:=by rfl) (hdir:args.any (fun x=>x.ids.contains 1)=true:=by rfl):al P G (⟨d,.callM F xs,none⟩::r) K ⟨f,h,u⟩ :=
  ⟨_,⟨.inl ⟨hne,ws,h1,zx hd h2 h3 hn hdir⟩,hnm⟩,e⟩
def gG (σ:St) (l:List (Nat×Option Kd)) (t:Nat) (cs':List D) (res:V):Prop :=
  ∃ ws,ar (aZ σ) l=some ws∧jb ws=res∧σ.h 1=some (.box (cs'.map C.d))∧σ.f t=.w (.c (.ptr 1 1 0 0))
def kZ (l:List (Nat×Option Kd)) (t:Nat) (cs':List D) (res:V) (e:AX) (s:St):Prop:=match e with | .nrm=>gG s l t cs' res | .ret=>gG s l t cs' res | .ex _=>False
theorem gi (l:List (Nat×Option Kd)) (t:Nat) (cs':List D) (res:V) (σ:St):kZ l t cs' res .ret σ=gG σ l t cs' res:=rfl
theorem kK {σ:St} {s:Nat} {t:Nat} {cs':List D} {x:W} (h1:σ.f s=.w x) (h2:σ.h 1=some (.box (cs'.map C.d))) (h3:σ.f t=.w (.c (.ptr 1 1 0 0))):gG σ [(s,none)] t cs' (.w x) :=
  ⟨[x],by simp[ar,aZ,h1,cF],rfl,h2,h3⟩
theorem nD {F:FuncId} {fn:Func} {sf:bc} {H:Hint} (hf:P.funcs[F]?=some fn) (hc:aX P H fn=some sf) {args:List W} {cs cs':List D} {res:V} (t:Nat) {f0:Nat→V} (hlen:args.length=sf.np) (hlk:[t].all (fun t=>!sf.body.writes.contains t)=true)
    (ha:args[t]?=some (.c (.ptr 1 1 0 0))) (hi:args.all (fun x=>x.ids.all (·==1))=true) (hn:iK res=true) (h0:cw 0 args uf=f0) (e:aG P G sf.body (kZ sf.res t cs' res) ⟨f0,bH cs,uL [1]⟩):eu P G F args (bH cs) [1] res (bH cs') [1]:=by
  refine qE hf hc hlen hlk ⟨fun id o ho=>?_,fun id hid=>?_,fun x hx i hxi=>?_,fun id o ho=>?_,fun i hi=>?_⟩ (Q':=kZ sf.res t cs' res) ?_ ?_
  ·obtain⟨rfl,rfl⟩:=iD cs ho;exact⟨by simp,fun j hj=>by rw[vp] at hj; cases hj⟩
  ·obtain rfl:id=1:=by simpa using hid
   rw[vq];simp
  ·have:=Ba.1 (Ba.1 hi x hx) i hxi
   simpa using this
  ·obtain⟨rfl,rfl⟩:=iD cs' ho;exact⟨by simp,fun j hj=>by rw[vp] at hj; cases hj⟩
  ·rw[(kg id hn).2] at hi; cases hi
  ·have key:∀ σ:St,gG σ sf.res t cs' res→iU σ sf.res [t] args [1] res (bH cs') [1]:=by
     rintro σ ⟨ws,h1,h2,h3,h4⟩;refine⟨ws,h1,fun i=>i,by rw[(kg _ hn).1]; exact h2,fun i o ho=>?_,fun i j hi hj e=>e,fun i hi _=>?_⟩
     ·obtain⟨rfl,rfl⟩:=iD cs' ho;rw[h3,kJ]
     ·obtain rfl:i=1:=by simpa using hi
      exact⟨t,by simp,.c (.ptr 1 1 0 0),ha,by simp[W.lnk],h4⟩
   intro ax σ hq;cases ax with
   | nrm=>exact⟨fun _ e=>(by cases e),key σ hq⟩
   | ret=>exact⟨fun _ e=>(by cases e),key σ hq⟩
   | ex i=>exact hq.elim
  ·have e0:dD args (bH cs) [1]=⟨f0,bH cs,uL [1]⟩:=by
     have hh:(fun t=>match args[t]? with | some x=>V.w x | none=>.undef)=cw 0 args uf:=congrArg St.f (jA args);rw[← h0,← hh];unfold dD
     congr 1
     funext i
     unfold uL uL upd uN;by_cases e:i=1
     ·simp[e]
     ·simp[e]
   rw[e0];exact e
end
section
variable {P:Program} {G:ap}
def gN:List (Nat×Nat)→Nat→Nat
  | []=>fun i=>i
  | (a,b)::r=>upd (gN r) a b
def eC (h:ae):List Nat→ae
  | []=>h
  | i::r=>upd (eC h r) i none
def d7 (h:ae):List (Nat×Ob)→ae
  | []=>h
  | (i,o)::r=>upd (d7 h r) i (some o)
def d8 (u:Nat→Bool):List Nat→Nat→Bool
  | []=>u
  | i::r=>upd (d8 u r) i true
theorem uB:gN []=fun i=>i:=rfl
theorem rP (a b:Nat) (r:List (Nat×Nat)):gN ((a,b)::r)=upd (gN r) a b:=rfl
theorem pV (h:ae):eC h []=h:=rfl
theorem jB (h:ae) (i:Nat) (r:List Nat):eC h (i::r)=upd (eC h r) i none:=rfl
theorem pW (h:ae):d7 h []=h:=rfl
theorem hH (h:ae) (i:Nat) (o:Ob) (r:List (Nat×Ob)):d7 h ((i,o)::r)=upd (d7 h r) i (some o):=rfl
theorem pX (u:Nat→Bool):d8 u []=u:=rfl
theorem jC (u:Nat→Bool) (i:Nat) (r:List Nat):d8 u (i::r)=upd (d8 u r) i true:=rfl
theorem uC (g:Nat→Nat) (sz:Nat) (es:List D):Ob.ren g (.row sz es)=.row sz es:=rfl
theorem uD (g:Nat→Nat) (cs:List C):Ob.ren g (.box cs)=.box (cs.map (C.ren g)):=rfl
theorem uE (g:Nat→Nat) (id sz off n:Nat):C.ren g (.own id sz off n)=.own (g id) sz off n:=rfl
theorem uF (g:Nat→Nat) (id sz i o:Nat):C.ren g (.ptr id sz i o)=.ptr (g id) sz i o:=rfl
theorem v6 (g:Nat→Nat) (x:D):C.ren g (.d x)=.d x:=rfl
theorem uG (g:Nat→Nat):C.ren g .nil=.nil:=rfl
theorem vA (g:Nat→Nat) (f:Nat) (a b:List Cp):C.ren g (.cf f a b)=.cf f (a.map (Cp.ren g)) (b.map (Cp.ren g)):=rfl
theorem vB (g:Nat→Nat) (x:D):Cp.ren g (.d x)=.d x:=rfl
theorem vC (g:Nat→Nat) (id sz i o:Nat):Cp.ren g (.p id sz i o)=.p (g id) sz i o:=rfl
theorem uH (g:Nat→Nat) (l:List D):(l.map Cp.d).map (Cp.ren g)=l.map Cp.d:=by rw[List.map_map]; rfl
theorem vD (g:Nat→Nat) (x:C):W.ren g (.c x)=.c (x.ren g):=rfl
theorem vF (g:Nat→Nat) (x:W):V.ren g (.w x)=.w (x.ren g):=rfl
theorem vG (g:Nat→Nat) (l:List W):V.ren g (.tup l)=.tup (l.map (W.ren g)):=rfl
theorem vH (l:List D):(l.map Cp.d).map Cp.w=l.map fun x=>W.c (.d x):=by rw[List.map_map]; rfl
theorem uI (g:Nat→Nat) (l:List D):(l.map fun x=>W.c (.d x)).map (W.ren g)=l.map fun x=>W.c (.d x):=by rw[List.map_map]; rfl
theorem vI (x:D):Cp.w (.d x)=.c (.d x):=rfl
theorem vJ (id sz i o:Nat):Cp.w (.p id sz i o)=.c (.ptr id sz i o):=rfl
theorem wm:dz (And.intro @uB (And.intro @rP (And.intro @pV (And.intro @jB (And.intro @pW (And.intro @hH (And.intro @pX (And.intro @jC (And.intro @uC (And.intro @uD (And.intro @uE (And.intro @uF (And.intro @v6 (And.intro @uG (And.intro @vA (And.intro @vB (And.intro @vC (And.intro @uH (And.intro @vD (And.intro @vF (And.intro @vG (And.intro @vH (And.intro @uI (And.intro @vI @vJ)))))))))))))))))))))))):=And.intro @uB (And.intro @rP (And.intro @pV (And.intro @jB (And.intro @pW (And.intro @hH (And.intro @pX (And.intro @jC (And.intro @uC (And.intro @uD (And.intro @uE (And.intro @uF (And.intro @v6 (And.intro @uG (And.intro @vA (And.intro @vB (And.intro @vC (And.intro @uH (And.intro @vD (And.intro @vF (And.intro @vG (And.intro @vH (And.intro @uI (And.intro @vI @vJ)))))))))))))))))))))))
def i4 (P:Program) (G:ap) (F:FuncId) (args:List W) (m0:List (Nat×Ob)) (res:V) (m1:List (Nat×Ob)):Prop :=
  eu P G F args (hL m0) (m0.map (·.1)) res (hL m1) (m1.map (·.1))
theorem rQ (h:ae):∀ (l:List Nat) (i:Nat),eC h l i=if l.contains i then none else h i
  | [],i=>rfl
  | j::r,i=>by
    rw[jB];by_cases e:i=j
    ·subst e; rw[upd_same]; simp
    ·rw[upd_ne _ _ e,rQ h r i];simp[e]
theorem rR (u:Nat→Bool):∀ (l:List Nat) (i:Nat),d8 u l i=(u i || l.contains i)
  | [],i=>by simp[d8]
  | j::r,i=>by
    rw[jC];by_cases e:i=j
    ·subst e; rw[upd_same]; simp
    ·rw[upd_ne _ _ e,rR u r i];simp[e]
theorem pY (h:ae) {i:Nat}:∀ (l:List (Nat×Ob)),(∀ p∈l,p.1≠i)→d7 h l i=h i
  | [],_=>rfl
  | (j,o)::r,k=>by
    rw[hH,upd_ne _ _ fun e=>k (j,o) (by simp) e.symm];exact pY h r fun p hp=>k p (by simp[hp])
theorem rS (h:ae) {g:Nat→Nat} {id:Nat}:∀ (m:List (Nat×Ob)),(∀ p∈m,g p.1=g id→p.1=id)→∀ o,hL m id=some o→d7 h (m.map fun p=>(g p.1,p.2.ren g)) (g id)=some (o.ren g)
  | [],_,o,ho=>by cases ho
  | (j,q)::r,k,o,ho=>by
    rw[A8,hH];rw[eT] at ho;by_cases e:id=j
    ·subst e;rw[upd_same] at ho ⊢;cases ho; rfl
    ·rw[upd_ne _ _ e] at ho;have:g id≠g j:=fun e'=>e (k (j,q) (by simp) e'.symm).symm
     rw[upd_ne _ _ this];exact rS h r (fun p hp=>k p (by simp[hp])) o ho
theorem gw:∀ {m:List (Nat×Ob)} {id:Nat},id∈m.map (·.1)→∃ o,hL m id=some o
  | (j,q)::r,id,h=>by
    by_cases e:id=j
    ·subst e; exact⟨q,by rw[eT,upd_same]⟩
    ·obtain⟨o,ho⟩:=gw (m:=r) (id:=id) (by simpa [e] using h);exact⟨o,by rw[eT,upd_ne _ _ e]; exact ho⟩
theorem yO (h:ae) {g:Nat→Nat} {L:List Nat} {m:List (Nat×Ob)} (hi:∀ i∈L++m.map (·.1),∀ j∈L++m.map (·.1),g i=g j→i=j) :
    ct h g L (m.map (·.1)) (hL m)=d7 (eC h (L.map g)) (m.map fun p=>(g p.1,p.2.ren g)):=by
  funext i
  unfold ct;split
  ·rename_i id hf;have h1:=BH hf;have h2:=Cb hf;simp only[beq_iff_eq] at h2;subst h2;obtain⟨o,ho⟩:=gw h1;rw[ho,rS _ _ (fun p hp e=>hi p.1 (A9 _ (Bg.2 ⟨p,hp,rfl⟩)) id (A9 _ h1) e) o ho];rfl
  ·rename_i hf;have hn:∀ p∈m.map fun p=>(g p.1,p.2.ren g),p.1≠i:=by
     intro p hp e;obtain⟨q,hq,rfl⟩:=Bg.1 hp;have:=List.find?_eq_none.1 hf q.1 (Bg.2 ⟨q,hq,rfl⟩);exact this (by simpa using e)
   rw[pY _ _ hn,rQ];have e:(L.any fun id=>g id==i)=(L.map g).contains i:=by
     rw[Bool.eq_iff_iff];simp
   rw[e]
theorem yP (u:Nat→Bool) (g:Nat→Nat) (L:List Nat):cO u g L=d8 u (L.map g):=by
  funext i
  rw[rR];unfold cO
  congr 1
  rw[Bool.eq_iff_iff];simp
def k7 (g:Nat→Nat) (l:List Nat):Bool:=l.all fun i=>l.all fun j=>!(g i==g j) || i==j
theorem rT {g:Nat→Nat} {l:List Nat} (h:k7 g l=true):∀ i∈l,∀ j∈l,g i=g j→i=j:=by
  intro i hi j hj e;have:=Ba.1 (Ba.1 h i hi) j hj
  simpa [e] using this
def v7 (u:Nat→Bool) (g:Nat→Nat) (L L1:List Nat):Bool:=L1.all fun id=>L.contains id || !u (g id)
def k9 (args:List W) (m0 m1:List (Nat×Ob)):Bool:=m0.all fun p=>args.any (fun x=>x.ids.contains p.1) || (!a6 (some p.2)&&m1.all fun q=>!(q.1==p.1) || !a6 (some q.2))
theorem zL {args:List W} {m0 m1:List (Nat×Ob)} (h:k9 args m0 m1=true):∀ i∈m0.map (·.1),(∃ x∈args,i∈x.ids)∨(a6 (hL m0 i)=false∧a6 (hL m1 i)=false):=by
  intro i hi;by_cases hd:args.any (fun x=>x.ids.contains i)=true
  ·obtain⟨x,hx,h1⟩:=BR.1 hd;exact .inl ⟨x,hx,by simpa using h1⟩
  ·refine .inr ⟨?_,?_⟩
   ·obtain⟨o,ho⟩:=gw hi;have hm:=cB ho;have:=Ba.1 h _ hm;rw[BX] at this;rcases this with k | k
    ·exact absurd k hd
    ·rw[Bm] at k;rw[ho]
     simpa using k.1
   ·cases hq:hL m1 i with
    | none=>rfl
    | some q =>
      obtain⟨o,ho⟩:=gw hi;have:=Ba.1 h _ (cB ho);rw[BX] at this;rcases this with k | k
      ·exact absurd k hd
      ·rw[Bm] at k;have:=Ba.1 k.2 _ (cB hq)
       simpa using this
theorem Aw {F:FuncId} {args xs:List W} {m0 m1:List (Nat×Ob)} {res:V} {h:ae} {u:Nat→Bool} (gl:List (Nat×Nat)) (hd:i4 P G F args m0 res m1) (hx:xs=args.map (W.ren (gN gl))) (h3:dJ h (gN gl) m0)
    (h4:k7 (gN gl) (m0.map (·.1)++m1.map (·.1))=true) (h5:v7 u (gN gl) (m0.map (·.1)) (m1.map (·.1))=true) (hdir:k9 args m0 m1=true) :
    dq P G h u F xs (res.ren (gN gl),d7 (eC h ((m0.map (·.1)).map (gN gl))) (m1.map fun p=>(gN gl p.1,p.2.ren (gN gl))),d8 u ((m1.map (·.1)).map (gN gl))):=by
  refine⟨gN gl,args,hL m0,_,res,hL m1,_,hd,hx,fun i o ho=>iv h3 (i,o) (cB ho),rT h4,fun id h1 h2=>?_,zL hdir,?_⟩
  ·have:=Ba.1 h5 id h1;rw[BX] at this;rcases this with e | e
   ·exact absurd (by simpa using e) h2
   ·simpa using e
  ·rw[yO h (rT h4),yP]
theorem AL {d:Option Nat} {r:List ak} {K:St→Prop} {f:Nat→V} {h:ae} {u:Nat→Bool} {F:FuncId} {xs:List SX} {args:List W} (ws:List W) {m0 m1:List (Nat×Ob)} {res:V} (gl:List (Nat×Nat)) (hd:i4 P G F args m0 res m1)
    (h1:(bu xs).map (ev G f)=ws.map V.w) (h2:ws=args.map (W.ren (gN gl))) (h3:dJ h (gN gl) m0)
    (h4:k7 (gN gl) (m0.map (·.1)++m1.map (·.1))=true) (h5:v7 u (gN gl) (m0.map (·.1)) (m1.map (·.1))=true)
    (e:al P G r K ⟨aA f d (res.ren (gN gl)),d7 (eC h ((m0.map (·.1)).map (gN gl))) (m1.map fun p=>(gN gl p.1,p.2.ren (gN gl))),d8 u ((m1.map (·.1)).map (gN gl))⟩) (hne:F≠cm:=by decide) (hnm:dF (ev G f) xs=true:=by rfl) (hdir:k9 args m0 m1=true:=by rfl):al P G (⟨d,.callM F xs,none⟩::r) K ⟨f,h,u⟩ :=
  ⟨_,⟨.inl ⟨hne,ws,h1,Aw gl hd h2 h3 h4 h5 hdir⟩,hnm⟩,e⟩
def gA (σ:St) (l:List (Nat×Option Kd)) (lk:List Nat) (args:List W) (m0:List (Nat×Ob)) (res:V) (m1:List (Nat×Ob)):Prop:=iU σ l lk args (m0.map (·.1)) res (hL m1) (m1.map (·.1))
def i5 (l:List (Nat×Option Kd)) (lk:List Nat) (args:List W) (m0:List (Nat×Ob)) (res:V) (m1:List (Nat×Ob)) (e:AX) (s:St):Prop:=match e with | .nrm=>gA s l lk args m0 res m1 | .ret=>gA s l lk args m0 res m1 | .ex _=>False
theorem yQ (l:List (Nat×Option Kd)) (lk:List Nat) (args:List W) (m0:List (Nat×Ob)) (res:V) (m1:List (Nat×Ob)) (σ:St):i5 l lk args m0 res m1 .nrm σ=gA σ l lk args m0 res m1:=rfl
theorem yR (l:List (Nat×Option Kd)) (lk:List Nat) (args:List W) (m0:List (Nat×Ob)) (res:V) (m1:List (Nat×Ob)) (σ:St):i5 l lk args m0 res m1 .ret σ=gA σ l lk args m0 res m1:=rfl
def lu (f:Nat→V) (g:Nat→Nat) (args:List W):List (Nat×W)→Prop
  | []=>True
  | (t,x)::r=>args[t]?=some x∧f t=.w (x.ren g)∧lu f g args r
theorem rU {f:Nat→V} {g:Nat→Nat} {args:List W}:∀ {l:List (Nat×W)},lu f g args l→∀ p∈l,args[p.1]?=some p.2∧f p.1=.w (p.2.ren g)
  | (t,x)::r,h,p,hp=>by
    rcases Bz.1 hp with rfl | hp
    ·exact⟨h.1,h.2.1⟩
    ·exact rU h.2.2 p hp
def AZ (lk:List Nat) (m0 m1:List (Nat×Ob)) (l:List (Nat×W)):Prop:=(∀ p∈l,p.1∈lk)∧∀ id∈m0.map (·.1),id∈m1.map (·.1)→∃ p∈l,id∈p.2.lnk
theorem AM {σ:St} {l:List (Nat×Option Kd)} {lk:List Nat} {args:List W} {m0 m1:List (Nat×Ob)} {res:V} {ws:List W} (gl:List (Nat×Nat)) (lks:List (Nat×W)) (h1:ar (aZ σ) l=some ws) (h2:jb ws=res.ren (gN gl)) (h3:dJ σ.h (gN gl) m1)
    (h4:gy (m1.map fun p=>gN gl p.1)=true) (h6:lu σ.f (gN gl) args lks) (h7:AZ lk m0 m1 lks):gA σ l lk args m0 res m1:=by
  refine⟨ws,h1,gN gl,h2,fun id o ho=>iv h3 (id,o) (cB ho),fun i j hi hj e=>?_,fun id hi hi1=>?_⟩
  ·obtain⟨o,ho⟩:=Bc.1 hi;obtain⟨q,hq⟩:=Bc.1 hj;have key:∀ {l:List (Nat×Ob)},(l.map fun p=>gN gl p.1).Nodup→∀ {x y:Nat×Ob},x∈l→y∈l→gN gl x.1=gN gl y.1→x=y:=by
     intro l
     induction l with
     | nil=>intro _ x y hx; cases hx
     | cons p r ih =>
       intro hn x y hx hy e;rw[A8,List.nodup_cons] at hn;rcases Bz.1 hx with rfl | hx' <;> rcases Bz.1 hy with rfl | hy'
       ·rfl
       ·exact (hn.1 (Bg.2 ⟨y,hy',e.symm⟩)).elim
       ·exact (hn.1 (Bg.2 ⟨x,hx',e⟩)).elim
       ·exact ih hn.2 hx' hy' e
   exact congrArg Prod.fst (key (jV h4) (cB ho) (cB hq) e)
  ·obtain⟨p,hp,hx⟩:=h7.2 id hi hi1;obtain⟨k1,k2⟩:=rU h6 p hp;exact⟨p.1,h7.1 p hp,p.2,k1,hx,k2⟩
theorem x8 {F:FuncId} {fn:Func} {sf:bc} {H:Hint} (hf:P.funcs[F]?=some fn) (hc:aX P H fn=some sf) {args:List W} {m0 m1:List (Nat×Ob)} {res:V} (lk:List Nat) {f0:Nat→V} (hlen:args.length=sf.np) (hlk:lk.all (fun t=>!sf.body.writes.contains t)=true)
    (hp:(m0.all fun p=>p.2.ids.all fun j=>(m0.map (·.1)).contains j)=true) (hi:(args.all fun x=>x.ids.all fun j=>(m0.map (·.1)).contains j)=true) (hq:(m1.all fun p=>p.2.ids.all fun j=>(m1.map (·.1)).contains j)=true) (hr:(res.ids.all fun j=>(m1.map (·.1)).contains j)=true)
    (h0:cw 0 args uf=f0) (e:aG P G sf.body (i5 sf.res lk args m0 res m1) ⟨f0,hL m0,uL (m0.map (·.1))⟩):i4 P G F args m0 res m1:=by
  have mem:∀ {l:List (Nat×Ob)},(l.all fun p=>p.2.ids.all fun j=>(l.map (·.1)).contains j)=true→∀ id o,hL l id=some o→id∈l.map (·.1)∧∀ j∈o.ids,j∈l.map (·.1):=by
    intro l hl id o ho;have hm:=cB ho;refine⟨Bg.2 ⟨_,hm,rfl⟩,fun j hj=>?_⟩;have:=Ba.1 (Ba.1 hl _ hm) j hj
    simpa using this
  refine qE hf hc hlen hlk ⟨mem hp,fun id hid=>?_,fun x hx i hxi=>?_,mem hq,fun i h=>?_⟩ (Q':=i5 sf.res lk args m0 res m1) ?_ ?_
  ·obtain⟨o,ho⟩:=gw hid;rw[ho]; simp
  ·have:=Ba.1 (Ba.1 hi x hx) i hxi
   simpa using this
  ·have:=Ba.1 hr i h
   simpa using this
  ·intro ax σ hq;cases ax with
   | nrm=>exact⟨fun _ e=>(by cases e),hq⟩
   | ret=>exact⟨fun _ e=>(by cases e),hq⟩
   | ex i=>exact hq.elim
  ·have e0:dD args (hL m0) (m0.map (·.1))=⟨f0,hL m0,uL (m0.map (·.1))⟩:=by
     have hh:(fun t=>match args[t]? with | some x=>V.w x | none=>.undef)=cw 0 args uf:=congrArg St.f (jA args);rw[← h0,← hh];unfold dD
     congr 1
     have:∀ (l:List Nat) (i:Nat),l.contains i=uL l i:=by
       intro l
       induction l with
       | nil=>intro i; rfl
       | cons j r ih =>
         intro i;rw[iu];by_cases e:i=j
         ·subst e; rw[upd_same]; simp
         ·rw[upd_ne _ _ e,← ih i];simp[e]
     exact funext fun i=>this _ i
   rw[e0];exact e
end
end Go.Proofs.Yteohdchecapkfaa
