/- Texts of one's own, merged: from: The plain logic (25): calls that change a variable of the caller's: a box of data. Own work. -/
import Derived.Shelf.Abstract
import Derived.Test.YtjhaklohdflppaaMg17
import Derived.Test.YtjhaklohdflppaaMg18
set_option linter.unusedVariables false
set_option linter.unusedSimpArgs false
namespace Go.Proofs.Ytjhaklohdflppaa
open Go.RowKit
section
variable {P:Program} {G:av}
def mP (P:Program) (G:av) (d:Option Nat) (r:List ar) (K:St→Prop) (f:Nat→V) (h:ak) (u:Nat→Bool) (F:Nat) (pre:Option (List Cp)) (post:Option (List Cp)):Prop :=
  match pre,post with | some a,some b=>au P G r K ⟨aG f d (.w (.c (.cf F a b))),h,u⟩ | _,_=>False
theorem sq (d:Option Nat) (r:List ar) (K:St→Prop) (f:Nat→V) (h:ak) (u:Nat→Bool) (F:Nat) (xs ys:List SX):au P G (⟨d,.closM F xs ys,none⟩::r) K ⟨f,h,u⟩=mP P G d r K f h u F (bC (xs.map (ev G f))) (bC (ys.map (ev G f))):=by
  show (match (match bC (xs.map (ev G f)),bC (ys.map (ev G f)) with | some a,some b=>some (((.w (.c (.cf F a b)),h,u):R)) | _,_=>none) with | some r=>_ | none=>False)=_
  unfold mP;cases bC (xs.map (ev G f)) <;> cases bC (ys.map (ev G f)) <;> rfl
theorem p6 (d:Option Nat) (r:List ar) (K:St→Prop) (f:Nat→V) (h:ak) (u:Nat→Bool) (F:Nat) (a b:List Cp):mP P G d r K f h u F (some a) (some b)=au P G r K ⟨aG f d (.w (.c (.cf F a b))),h,u⟩:=rfl
theorem p7:bC []=some []:=rfl
theorem p8 (id sz i o:Nat) (r:List V):bC (.w (.c (.ptr id sz i o))::r)=(bC r).map fun l=>.p id sz i o::l:=by
  simp only[bC,hP]; cases bC r <;> rfl
theorem sr (cs:List D) (r:List V):bC (.w (.c (.rp cs))::r)=(bC r).map fun l=>.d (.ref cs)::l:=by
  simp only[bC,hP,fh]; cases bC r <;> rfl
theorem p9 (k:IntKind) (n:Int) (r:List V):bC (.w (.c (.d (.int k n)))::r)=(bC r).map fun l=>.d (.int k n)::l:=by
  simp only[bC,hP,fh]; cases bC r <;> rfl
theorem su (es:List D) (r:List V):bC (.w (.c (.d (.sl es)))::r)=(bC r).map fun l=>.d (.sl es)::l:=by
  simp only[bC,hP,fh]; cases bC r <;> rfl
theorem wY (d:Option Nat) (r:List ar) (K:St→Prop) (f:Nat→V) (h:ak) (u:Nat→Bool) (x:SX):au P G (⟨d,.nilChk x,none⟩::r) K ⟨f,h,u⟩=(eB (ev G f x)=true∧au P G r K ⟨aG f d (ev G f x),h,u⟩):=by
  show (match (if eB (ev G f x)=true then some ((ev G f x,h,u):R) else none) with | some r=>_ | none=>False)=_
  by_cases hp:eB (ev G f x)=true
  ·rw[if_pos hp]; simp only[hp,true_and]; rfl
  ·rw[if_neg hp];exact propext ⟨fun h=>h.elim,fun h=>hp h.1⟩
theorem qa (id sz i o:Nat):eB (.w (.c (.ptr id sz i o)))=true:=rfl
theorem sv (cs:List D):eB (.w (.c (.rp cs)))=true:=rfl
theorem qc (cs:List D):eB (.w (.c (.d (.ref cs))))=true:=rfl
theorem sw (f:Nat) (cs:List D):eB (.w (.c (.d (.fn f cs))))=true:=rfl
theorem sy (f:Nat) (a b:List Cp):eB (.w (.c (.cf f a b)))=true:=rfl
theorem bV:eW (And.intro @sq (And.intro @p6 (And.intro @p7 (And.intro @p8 (And.intro @sr (And.intro @p9 @su)))))):=And.intro @sq (And.intro @p6 (And.intro @p7 (And.intro @p8 (And.intro @sr (And.intro @p9 @su)))))
theorem bu:eW (And.intro @wY (And.intro @qa (And.intro @sv (And.intro @qc (And.intro @sw (And.intro @sy @true_and)))))):=And.intro @wY (And.intro @qa (And.intro @sv (And.intro @qc (And.intro @sw (And.intro @sy @true_and)))))
def bf (cs:List D):ak:=hL [(1,.box (cs.map C.d))]
theorem ke (cs:List D) {id:Nat} {o:Ob} (h:bf cs id=some o):id=1∧o=.box (cs.map C.d):=by
  have:=dt h
  simpa using this
theorem yd (cs:List D):(Ob.box (cs.map C.d)).ids=[]:=by
  unfold Ob.ids
  induction cs with
  | nil=>rfl
  | cons c r ih=>simp[C.ids]
theorem m8 (g:Nat→Nat) (cs:List D):(Ob.box (cs.map C.d)).ren g=.box (cs.map C.d):=by
  show Ob.box ((cs.map C.d).map (C.ren g))=_
  rw[List.map_map];rfl
theorem ye (cs:List D):bf cs 1=some (.box (cs.map C.d)):=by
  unfold bf;rw[gv];exact upd_same _ _ _
def kl:V→Bool | .w x=>x.ids.isEmpty | .tup ws=>ws.all fun x=>x.ids.isEmpty | .undef=>true
theorem l5 (g:Nat→Nat):∀ {l:List Cp},l.flatMap Cp.ids=[]→l.map (Cp.ren g)=l
  | [],_=>rfl
  | c::r,h=>by
    rw[Eo,List.append_eq_nil_iff] at h;rw[El,l5 g h.2];cases c with
    | d x=>rfl
    | p id sz i o=>cases h.1
theorem uu (g:Nat→Nat) {c:C} (h:c.ids=[]):c.ren g=c:=by
  cases c with
  | mp id=>exact absurd h (by simp[C.ids])
  | own=>cases h
  | ptr=>cases h
  | pa=>cases h
  | cf f a b =>
    obtain⟨h1,h2⟩:=List.append_eq_nil_iff.1 (show a.flatMap Cp.ids++b.flatMap Cp.ids=[] from h);simp only[C.ren,l5 g h1,l5 g h2]
  | _=>rfl
theorem sA (g:Nat→Nat):∀ {cs:List C},cs.flatMap C.ids=[]→cs.map (C.ren g)=cs
  | [],_=>rfl
  | c::r,h=>by
    rw[Eo,List.append_eq_nil_iff] at h;rw[El,sA g h.2,uu g h.1]
theorem uv (g:Nat→Nat) {x:W} (h:x.ids=[]):x.ren g=x:=by
  cases x with
  | c c=>rw[W.ren,uu g h]
  | mix cs=>rw[W.ren,sA g h]
theorem mw (g:Nat→Nat) {x:V} (h:kl x=true):x.ren g=x∧x.ids=[]:=by
  cases x with
  | w x =>
    have h':x.ids=[]:=Fu.1 h;exact⟨by rw[V.ren,uv g h'],h'⟩
  | tup ws =>
    have h':∀ x∈ws,x.ids=[]:=fun x hx=>Fu.1 (Ep.1 h x hx)
    refine⟨?_,?_⟩
    ·rw[V.ren]
     congr 1
     conv=>rhs; rw[← List.map_id ws]
     exact EU fun x hx=>uv g (h' x hx)
    ·show ws.flatMap W.ids=[]
     rw[List.flatMap_eq_nil_iff];exact h'
  | undef=>exact⟨rfl,rfl⟩
theorem Ce {F:FuncId} {args xs:List W} {id:Nat} {cs cs':List D} {res:V} {h:ak} {u:Nat→Bool} (hd:dA P G F args (bf cs) [1] res (bf cs') [1]) (hx:xs=args.map (W.ren fun _=>id)) (h3:h id=some (.box (cs.map C.d))) (hn:kl res=true) (hdir:args.any (fun x=>x.ids.contains 1)=true) :
    eN P G h u F xs (res,upd h id (some (.box (cs'.map C.d))),upd u id true):=by
  refine⟨fun _=>id,args,bf cs,[1],res,bf cs',[1],hd,hx,fun i o ho=>?_,fun i hi j hj _=>?_,fun i hi hn=>absurd hi hn,fun i hi=>?_,?_⟩
  ·obtain⟨rfl,rfl⟩:=ke cs ho;rw[h3,m8]
  ·simp at hi hj;omega
  ·obtain⟨x,hx,h1⟩:=E2.1 hdir;rw[EB.1 hi];exact .inl ⟨x,hx,by simpa using h1⟩
  ·refine Prod.ext (mw _ hn).1.symm (Prod.ext (funext fun i=>?_) (funext fun i=>?_))
   ·show upd h id _ i=df h (fun _=>id) [1] [1] (bf cs') i
    unfold df upd;by_cases e:i=id
    ·subst e;simp only[List.find?_cons,beq_self_eq_true,if_true]
     show _=(bf cs' 1).map _
     rw[ye];simp only[Fq,m8]
    ·have e':(id==i)=false:=by simpa using fun k=>e k.symm
     simp[e,e']
   ·show upd u id true i=(u i || [1].any fun _=>id==i)
    unfold upd;by_cases e:i=id
    ·subst e; simp
    ·have e':(id==i)=false:=by simpa using fun k=>e k.symm
     simp[e,e']
theorem bW {d:Option Nat} {r:List ar} {K:St→Prop} {f:Nat→V} {h:ak} {u:Nat→Bool} {F:FuncId} {xs:List SX} {args ws:List W} {id:Nat} {cs cs':List D} {res:V} (hd:dA P G F args (bf cs) [1] res (bf cs') [1])
    (h1:(bX xs).map (ev G f)=ws.map V.w) (h2:ws=args.map (W.ren fun _=>id)) (h3:h id=some (.box (cs.map C.d))) (hn:kl res=true)
    (e:au P G r K ⟨aG f d res,upd h id (some (.box (cs'.map C.d))),upd u id true⟩) (hne:F≠cW:=by decide) (hnm:fi (ev G f) xs=true:=by rfl) (hdir:args.any (fun x=>x.ids.contains 1)=true:=by rfl):au P G (⟨d,.callM F xs,none⟩::r) K ⟨f,h,u⟩ :=
  ⟨_,⟨.inl ⟨hne,ws,h1,Ce hd h2 h3 hn hdir⟩,hnm⟩,e⟩
def ie (σ:St) (l:List (Nat×Option Kd)) (t:Nat) (cs':List D) (res:V):Prop :=
  ∃ ws,az (cO σ) l=some ws∧kR ws=res∧σ.h 1=some (.box (cs'.map C.d))∧σ.f t=.w (.c (.ptr 1 1 0 0))
def nx (l:List (Nat×Option Kd)) (t:Nat) (cs':List D) (res:V) (e:AX) (s:St):Prop:=match e with | .nrm=>ie s l t cs' res | .ret=>ie s l t cs' res | .ex _=>False
theorem bg (l:List (Nat×Option Kd)) (t:Nat) (cs':List D) (res:V) (σ:St):nx l t cs' res .ret σ=ie σ l t cs' res:=rfl
theorem iY {σ:St} {s:Nat} {t:Nat} {cs':List D} {x:W} (h1:σ.f s=.w x) (h2:σ.h 1=some (.box (cs'.map C.d))) (h3:σ.f t=.w (.c (.ptr 1 1 0 0))):ie σ [(s,none)] t cs' (.w x) :=
  ⟨[x],by simp[az,cO,h1,dT],rfl,h2,h3⟩
theorem wZ {σ:St} {s:Nat} {k:Kd} {t:Nat} {cs':List D} {x:W} (h1:aW σ.h k (σ.f s)=some x) (h2:σ.h 1=some (.box (cs'.map C.d))) (h3:σ.f t=.w (.c (.ptr 1 1 0 0))):ie σ [(s,some k)] t cs' (.w x) :=
  ⟨[x],by simp[az,cO,h1],rfl,h2,h3⟩
theorem gM {F:FuncId} {fn:Func} {sf:aV} {H:Hint} (hf:P.funcs[F]?=some fn) (hc:aR P H fn=some sf) {args:List W} {cs cs':List D} {res:V} (t:Nat) {f0:Nat→V} (hlen:args.length=sf.np) (hlk:[t].all (fun t=>!sf.body.writes.contains t)=true)
    (ha:args[t]?=some (.c (.ptr 1 1 0 0))) (hi:args.all (fun x=>x.ids.all (·==1))=true) (hn:kl res=true) (h0:cY 0 args uf=f0) (e:aL P G sf.body (nx sf.res t cs' res) ⟨f0,bf cs,uL [1]⟩):dA P G F args (bf cs) [1] res (bf cs') [1]:=by
  refine tl hf hc hlen hlk ⟨fun id o ho=>?_,fun id hid=>?_,fun x hx i hxi=>?_,fun id o ho=>?_,fun i hi=>?_⟩ (Q':=nx sf.res t cs' res) ?_ ?_
  ·obtain⟨rfl,rfl⟩:=ke cs ho;exact⟨by simp,fun j hj=>by rw[yd] at hj; cases hj⟩
  ·obtain rfl:id=1:=by simpa using hid
   rw[ye];simp
  ·have:=Ep.1 (Ep.1 hi x hx) i hxi
   simpa using this
  ·obtain⟨rfl,rfl⟩:=ke cs' ho;exact⟨by simp,fun j hj=>by rw[yd] at hj; cases hj⟩
  ·rw[(mw id hn).2] at hi; cases hi
  ·have key:∀ σ:St,ie σ sf.res t cs' res→kF σ sf.res [t] args [1] res (bf cs') [1]:=by
     rintro σ ⟨ws,h1,h2,h3,h4⟩;refine⟨ws,h1,fun i=>i,by rw[(mw _ hn).1]; exact h2,fun i o ho=>?_,fun i j hi hj e=>e,fun i hi _=>?_⟩
     ·obtain⟨rfl,rfl⟩:=ke cs' ho;rw[h3,m8]
     ·obtain rfl:i=1:=by simpa using hi
      exact⟨t,by simp,.c (.ptr 1 1 0 0),ha,by simp[W.lnk],h4⟩
   intro ax σ hq;cases ax with
   | nrm=>exact⟨fun _ e=>(by cases e),key σ hq⟩
   | ret=>exact⟨fun _ e=>(by cases e),key σ hq⟩
   | ex i=>exact hq.elim
  ·have e0:fb args (bf cs) [1]=⟨f0,bf cs,uL [1]⟩:=by
     have hh:(fun t=>match args[t]? with | some x=>V.w x | none=>.undef)=cY 0 args uf:=congrArg St.f (pZ args);rw[← h0,← hh];unfold fb
     congr 1
     funext i
     unfold uL uL upd uN;by_cases e:i=1
     ·simp[e]
     ·simp[e]
   rw[e0];exact e
end
section
variable {P:Program} {G:av}
def gN:List (Nat×Nat)→Nat→Nat
  | []=>fun i=>i
  | (a,b)::r=>upd (gN r) a b
def ga (h:ak):List Nat→ak
  | []=>h
  | i::r=>upd (ga h r) i none
def fK (h:ak):List (Nat×Ob)→ak
  | []=>h
  | (i,o)::r=>upd (fK h r) i (some o)
def fL (u:Nat→Bool):List Nat→Nat→Bool
  | []=>u
  | i::r=>upd (fL u r) i true
theorem w6:gN []=fun i=>i:=rfl
theorem uw (a b:Nat) (r:List (Nat×Nat)):gN ((a,b)::r)=upd (gN r) a b:=rfl
theorem sB (h:ak):ga h []=h:=rfl
theorem lB (h:ak) (i:Nat) (r:List Nat):ga h (i::r)=upd (ga h r) i none:=rfl
theorem sE (h:ak):fK h []=h:=rfl
theorem jx (h:ak) (i:Nat) (o:Ob) (r:List (Nat×Ob)):fK h ((i,o)::r)=upd (fK h r) i (some o):=rfl
theorem sF (u:Nat→Bool):fL u []=u:=rfl
theorem lC (u:Nat→Bool) (i:Nat) (r:List Nat):fL u (i::r)=upd (fL u r) i true:=rfl
theorem w7 (g:Nat→Nat) (sz:Nat) (es:List D):Ob.ren g (.row sz es)=.row sz es:=rfl
theorem w9 (g:Nat→Nat) (cs:List C):Ob.ren g (.box cs)=.box (cs.map (C.ren g)):=rfl
theorem xa (g:Nat→Nat) (id sz off n:Nat):C.ren g (.own id sz off n)=.own (g id) sz off n:=rfl
theorem xb (g:Nat→Nat) (id sz i o:Nat):C.ren g (.ptr id sz i o)=.ptr (g id) sz i o:=rfl
theorem yJ (g:Nat→Nat) (x:D):C.ren g (.d x)=.d x:=rfl
theorem xc (g:Nat→Nat):C.ren g .nil=.nil:=rfl
theorem yf (g:Nat→Nat) (f:Nat) (a b:List Cp):C.ren g (.cf f a b)=.cf f (a.map (Cp.ren g)) (b.map (Cp.ren g)):=rfl
theorem yg (g:Nat→Nat) (x:D):Cp.ren g (.d x)=.d x:=rfl
theorem yh (g:Nat→Nat) (id sz i o:Nat):Cp.ren g (.p id sz i o)=.p (g id) sz i o:=rfl
theorem xf (g:Nat→Nat) (l:List D):(l.map Cp.d).map (Cp.ren g)=l.map Cp.d:=by rw[List.map_map]; rfl
theorem yi (g:Nat→Nat) (x:C):W.ren g (.c x)=.c (x.ren g):=rfl
theorem yj (g:Nat→Nat) (x:W):V.ren g (.w x)=.w (x.ren g):=rfl
theorem yk (g:Nat→Nat) (l:List W):V.ren g (.tup l)=.tup (l.map (W.ren g)):=rfl
theorem yl (l:List D):(l.map Cp.d).map Cp.w=l.map fun x=>W.c (.d x):=by rw[List.map_map]; rfl
theorem xg (g:Nat→Nat) (l:List D):(l.map fun x=>W.c (.d x)).map (W.ren g)=l.map fun x=>W.c (.d x):=by rw[List.map_map]; rfl
theorem ym (x:D):Cp.w (.d x)=.c (.d x):=rfl
theorem yn (id sz i o:Nat):Cp.w (.p id sz i o)=.c (.ptr id sz i o):=rfl
theorem yW:eW (And.intro @w6 (And.intro @uw (And.intro @sB (And.intro @lB (And.intro @sE (And.intro @jx (And.intro @sF (And.intro @lC (And.intro @w7 (And.intro @w9 (And.intro @xa (And.intro @xb (And.intro @yJ (And.intro @xc (And.intro @yf (And.intro @yg (And.intro @yh (And.intro @xf (And.intro @yi (And.intro @yj (And.intro @yk (And.intro @yl (And.intro @xg (And.intro @ym @yn)))))))))))))))))))))))):=And.intro @w6 (And.intro @uw (And.intro @sB (And.intro @lB (And.intro @sE (And.intro @jx (And.intro @sF (And.intro @lC (And.intro @w7 (And.intro @w9 (And.intro @xa (And.intro @xb (And.intro @yJ (And.intro @xc (And.intro @yf (And.intro @yg (And.intro @yh (And.intro @xf (And.intro @yi (And.intro @yj (And.intro @yk (And.intro @yl (And.intro @xg (And.intro @ym @yn)))))))))))))))))))))))
def kK (P:Program) (G:av) (F:FuncId) (args:List W) (m0:List (Nat×Ob)) (res:V) (m1:List (Nat×Ob)):Prop :=
  dA P G F args (hL m0) (m0.map (·.1)) res (hL m1) (m1.map (·.1))
theorem ux (h:ak):∀ (l:List Nat) (i:Nat),ga h l i=if l.contains i then none else h i
  | [],i=>rfl
  | j::r,i=>by
    rw[lB];by_cases e:i=j
    ·subst e; rw[upd_same]; simp
    ·rw[upd_ne _ _ e,ux h r i];simp[e]
theorem uz (u:Nat→Bool):∀ (l:List Nat) (i:Nat),fL u l i=(u i || l.contains i)
  | [],i=>by simp[fL]
  | j::r,i=>by
    rw[lC];by_cases e:i=j
    ·subst e; rw[upd_same]; simp
    ·rw[upd_ne _ _ e,uz u r i];simp[e]
theorem sG (h:ak) {i:Nat}:∀ (l:List (Nat×Ob)),(∀ p∈l,p.1≠i)→fK h l i=h i
  | [],_=>rfl
  | (j,o)::r,k=>by
    rw[jx,upd_ne _ _ fun e=>k (j,o) (by simp) e.symm];exact sG h r fun p hp=>k p (by simp[hp])
theorem uA (h:ak) {g:Nat→Nat} {id:Nat}:∀ (m:List (Nat×Ob)),(∀ p∈m,g p.1=g id→p.1=id)→∀ o,hL m id=some o→fK h (m.map fun p=>(g p.1,p.2.ren g)) (g id)=some (o.ren g)
  | [],_,o,ho=>by cases ho
  | (j,q)::r,k,o,ho=>by
    rw[El,jx];rw[gv] at ho;by_cases e:id=j
    ·subst e;rw[upd_same] at ho ⊢;cases ho; rfl
    ·rw[upd_ne _ _ e] at ho;have:g id≠g j:=fun e'=>e (k (j,q) (by simp) e'.symm).symm
     rw[upd_ne _ _ this];exact uA h r (fun p hp=>k p (by simp[hp])) o ho
theorem iS:∀ {m:List (Nat×Ob)} {id:Nat},id∈m.map (·.1)→∃ o,hL m id=some o
  | (j,q)::r,id,h=>by
    by_cases e:id=j
    ·subst e; exact⟨q,by rw[gv,upd_same]⟩
    ·obtain⟨o,ho⟩:=iS (m:=r) (id:=id) (by simpa [e] using h);exact⟨o,by rw[gv,upd_ne _ _ e]; exact ho⟩
theorem Bq (h:ak) {g:Nat→Nat} {L:List Nat} {m:List (Nat×Ob)} (hi:∀ i∈L++m.map (·.1),∀ j∈L++m.map (·.1),g i=g j→i=j) :
    df h g L (m.map (·.1)) (hL m)=fK (ga h (L.map g)) (m.map fun p=>(g p.1,p.2.ren g)):=by
  funext i
  unfold df;split
  ·rename_i id hf;have h1:=ES hf;have h2:=Fp hf;simp only[beq_iff_eq] at h2;subst h2;obtain⟨o,ho⟩:=iS h1;rw[ho,uA _ _ (fun p hp e=>hi p.1 (En _ (Es.2 ⟨p,hp,rfl⟩)) id (En _ h1) e) o ho];rfl
  ·rename_i hf;have hn:∀ p∈m.map fun p=>(g p.1,p.2.ren g),p.1≠i:=by
     intro p hp e;obtain⟨q,hq,rfl⟩:=Es.1 hp;have:=List.find?_eq_none.1 hf q.1 (Es.2 ⟨q,hq,rfl⟩);exact this (by simpa using e)
   rw[sG _ _ hn,ux];have e:(L.any fun id=>g id==i)=(L.map g).contains i:=by
     rw[Bool.eq_iff_iff];simp
   rw[e]
theorem Br (u:Nat→Bool) (g:Nat→Nat) (L:List Nat):dO u g L=fL u (L.map g):=by
  funext i
  rw[uz];unfold dO
  congr 1
  rw[Bool.eq_iff_iff];simp
def ny (g:Nat→Nat) (l:List Nat):Bool:=l.all fun i=>l.all fun j=>!(g i==g j) || i==j
theorem uB {g:Nat→Nat} {l:List Nat} (h:ny g l=true):∀ i∈l,∀ j∈l,g i=g j→i=j:=by
  intro i hi j hj e;have:=Ep.1 (Ep.1 h i hi) j hj
  simpa [e] using this
def yK (u:Nat→Bool) (g:Nat→Nat) (L L1:List Nat):Bool:=L1.all fun id=>L.contains id || !u (g id)
def nz (args:List W) (m0 m1:List (Nat×Ob)):Bool:=m0.all fun p=>args.any (fun x=>x.ids.contains p.1) || (!br (some p.2)&&m1.all fun q=>!(q.1==p.1) || !br (some q.2))
theorem Cf {args:List W} {m0 m1:List (Nat×Ob)} (h:nz args m0 m1=true):∀ i∈m0.map (·.1),(∃ x∈args,i∈x.ids)∨(br (hL m0 i)=false∧br (hL m1 i)=false):=by
  intro i hi;by_cases hd:args.any (fun x=>x.ids.contains i)=true
  ·obtain⟨x,hx,h1⟩:=E2.1 hd;exact .inl ⟨x,hx,by simpa using h1⟩
  ·refine .inr ⟨?_,?_⟩
   ·obtain⟨o,ho⟩:=iS hi;have hm:=dt ho;have:=Ep.1 h _ hm;rw[Fa] at this;rcases this with k | k
    ·exact absurd k hd
    ·rw[Ey] at k;rw[ho]
     simpa using k.1
   ·cases hq:hL m1 i with
    | none=>rfl
    | some q =>
      obtain⟨o,ho⟩:=iS hi;have:=Ep.1 h _ (dt ho);rw[Fa] at this;rcases this with k | k
      ·exact absurd k hd
      ·rw[Ey] at k;have:=Ep.1 k.2 _ (dt hq)
       simpa using this
theorem Dc {F:FuncId} {args xs:List W} {m0 m1:List (Nat×Ob)} {res:V} {h:ak} {u:Nat→Bool} (gl:List (Nat×Nat)) (hd:kK P G F args m0 res m1) (hx:xs=args.map (W.ren (gN gl))) (h3:fo h (gN gl) m0)
    (h4:ny (gN gl) (m0.map (·.1)++m1.map (·.1))=true) (h5:yK u (gN gl) (m0.map (·.1)) (m1.map (·.1))=true) (hdir:nz args m0 m1=true) :
    eN P G h u F xs (res.ren (gN gl),fK (ga h ((m0.map (·.1)).map (gN gl))) (m1.map fun p=>(gN gl p.1,p.2.ren (gN gl))),fL u ((m1.map (·.1)).map (gN gl))):=by
  refine⟨gN gl,args,hL m0,_,res,hL m1,_,hd,hx,fun i o ho=>jM h3 (i,o) (dt ho),uB h4,fun id h1 h2=>?_,Cf hdir,?_⟩
  ·have:=Ep.1 h5 id h1;rw[Fa] at this;rcases this with e | e
   ·exact absurd (by simpa using e) h2
   ·simpa using e
  ·rw[Bq h (uB h4),Br]
theorem DI {d:Option Nat} {r:List ar} {K:St→Prop} {f:Nat→V} {h:ak} {u:Nat→Bool} {F:FuncId} {xs:List SX} {args:List W} (ws:List W) {m0 m1:List (Nat×Ob)} {res:V} (gl:List (Nat×Nat)) (hd:kK P G F args m0 res m1)
    (h1:(bX xs).map (ev G f)=ws.map V.w) (h2:ws=args.map (W.ren (gN gl))) (h3:fo h (gN gl) m0)
    (h4:ny (gN gl) (m0.map (·.1)++m1.map (·.1))=true) (h5:yK u (gN gl) (m0.map (·.1)) (m1.map (·.1))=true)
    (e:au P G r K ⟨aG f d (res.ren (gN gl)),fK (ga h ((m0.map (·.1)).map (gN gl))) (m1.map fun p=>(gN gl p.1,p.2.ren (gN gl))),fL u ((m1.map (·.1)).map (gN gl))⟩) (hne:F≠cW:=by decide) (hnm:fi (ev G f) xs=true:=by rfl) (hdir:nz args m0 m1=true:=by rfl):au P G (⟨d,.callM F xs,none⟩::r) K ⟨f,h,u⟩ :=
  ⟨_,⟨.inl ⟨hne,ws,h1,Dc gl hd h2 h3 h4 h5 hdir⟩,hnm⟩,e⟩
def iZ (σ:St) (l:List (Nat×Option Kd)) (lk:List Nat) (args:List W) (m0:List (Nat×Ob)) (res:V) (m1:List (Nat×Ob)):Prop:=kF σ l lk args (m0.map (·.1)) res (hL m1) (m1.map (·.1))
def kL (l:List (Nat×Option Kd)) (lk:List Nat) (args:List W) (m0:List (Nat×Ob)) (res:V) (m1:List (Nat×Ob)) (e:AX) (s:St):Prop:=match e with | .nrm=>iZ s l lk args m0 res m1 | .ret=>iZ s l lk args m0 res m1 | .ex _=>False
theorem Bs (l:List (Nat×Option Kd)) (lk:List Nat) (args:List W) (m0:List (Nat×Ob)) (res:V) (m1:List (Nat×Ob)) (σ:St):kL l lk args m0 res m1 .nrm σ=iZ σ l lk args m0 res m1:=rfl
theorem Bt (l:List (Nat×Option Kd)) (lk:List Nat) (args:List W) (m0:List (Nat×Ob)) (res:V) (m1:List (Nat×Ob)) (σ:St):kL l lk args m0 res m1 .ret σ=iZ σ l lk args m0 res m1:=rfl
def nJ (f:Nat→V) (g:Nat→Nat) (args:List W):List (Nat×W)→Prop
  | []=>True
  | (t,x)::r=>args[t]?=some x∧f t=.w (x.ren g)∧nJ f g args r
theorem uC {f:Nat→V} {g:Nat→Nat} {args:List W}:∀ {l:List (Nat×W)},nJ f g args l→∀ p∈l,args[p.1]?=some p.2∧f p.1=.w (p.2.ren g)
  | (t,x)::r,h,p,hp=>by
    rcases EJ.1 hp with rfl | hp
    ·exact⟨h.1,h.2.1⟩
    ·exact uC h.2.2 p hp
def D1 (lk:List Nat) (m0 m1:List (Nat×Ob)) (l:List (Nat×W)):Prop:=(∀ p∈l,p.1∈lk)∧∀ id∈m0.map (·.1),id∈m1.map (·.1)→∃ p∈l,id∈p.2.lnk
theorem DJ {σ:St} {l:List (Nat×Option Kd)} {lk:List Nat} {args:List W} {m0 m1:List (Nat×Ob)} {res:V} {ws:List W} (gl:List (Nat×Nat)) (lks:List (Nat×W)) (h1:az (cO σ) l=some ws) (h2:kR ws=res.ren (gN gl)) (h3:fo σ.h (gN gl) m1)
    (h4:iU (m1.map fun p=>gN gl p.1)=true) (h6:nJ σ.f (gN gl) args lks) (h7:D1 lk m0 m1 lks):iZ σ l lk args m0 res m1:=by
  refine⟨ws,h1,gN gl,h2,fun id o ho=>jM h3 (id,o) (dt ho),fun i j hi hj e=>?_,fun id hi hi1=>?_⟩
  ·obtain⟨o,ho⟩:=Eq.1 hi;obtain⟨q,hq⟩:=Eq.1 hj;have key:∀ {l:List (Nat×Ob)},(l.map fun p=>gN gl p.1).Nodup→∀ {x y:Nat×Ob},x∈l→y∈l→gN gl x.1=gN gl y.1→x=y:=by
     intro l
     induction l with
     | nil=>intro _ x y hx; cases hx
     | cons p r ih =>
       intro hn x y hx hy e;rw[El,List.nodup_cons] at hn;rcases EJ.1 hx with rfl | hx' <;> rcases EJ.1 hy with rfl | hy'
       ·rfl
       ·exact (hn.1 (Es.2 ⟨y,hy',e.symm⟩)).elim
       ·exact (hn.1 (Es.2 ⟨x,hx',e⟩)).elim
       ·exact ih hn.2 hx' hy' e
   exact congrArg Prod.fst (key (lY h4) (dt ho) (dt hq) e)
  ·obtain⟨p,hp,hx⟩:=h7.2 id hi hi1;obtain⟨k1,k2⟩:=uC h6 p hp;exact⟨p.1,h7.1 p hp,p.2,k1,hx,k2⟩
theorem Az {F:FuncId} {fn:Func} {sf:aV} {H:Hint} (hf:P.funcs[F]?=some fn) (hc:aR P H fn=some sf) {args:List W} {m0 m1:List (Nat×Ob)} {res:V} (lk:List Nat) {f0:Nat→V} (hlen:args.length=sf.np) (hlk:lk.all (fun t=>!sf.body.writes.contains t)=true)
    (hp:(m0.all fun p=>p.2.ids.all fun j=>(m0.map (·.1)).contains j)=true) (hi:(args.all fun x=>x.ids.all fun j=>(m0.map (·.1)).contains j)=true) (hq:(m1.all fun p=>p.2.ids.all fun j=>(m1.map (·.1)).contains j)=true) (hr:(res.ids.all fun j=>(m1.map (·.1)).contains j)=true)
    (h0:cY 0 args uf=f0) (e:aL P G sf.body (kL sf.res lk args m0 res m1) ⟨f0,hL m0,uL (m0.map (·.1))⟩):kK P G F args m0 res m1:=by
  have mem:∀ {l:List (Nat×Ob)},(l.all fun p=>p.2.ids.all fun j=>(l.map (·.1)).contains j)=true→∀ id o,hL l id=some o→id∈l.map (·.1)∧∀ j∈o.ids,j∈l.map (·.1):=by
    intro l hl id o ho;have hm:=dt ho;refine⟨Es.2 ⟨_,hm,rfl⟩,fun j hj=>?_⟩;have:=Ep.1 (Ep.1 hl _ hm) j hj
    simpa using this
  refine tl hf hc hlen hlk ⟨mem hp,fun id hid=>?_,fun x hx i hxi=>?_,mem hq,fun i h=>?_⟩ (Q':=kL sf.res lk args m0 res m1) ?_ ?_
  ·obtain⟨o,ho⟩:=iS hid;rw[ho]; simp
  ·have:=Ep.1 (Ep.1 hi x hx) i hxi
   simpa using this
  ·have:=Ep.1 hr i h
   simpa using this
  ·intro ax σ hq;cases ax with
   | nrm=>exact⟨fun _ e=>(by cases e),hq⟩
   | ret=>exact⟨fun _ e=>(by cases e),hq⟩
   | ex i=>exact hq.elim
  ·have e0:fb args (hL m0) (m0.map (·.1))=⟨f0,hL m0,uL (m0.map (·.1))⟩:=by
     have hh:(fun t=>match args[t]? with | some x=>V.w x | none=>.undef)=cY 0 args uf:=congrArg St.f (pZ args);rw[← h0,← hh];unfold fb
     congr 1
     have:∀ (l:List Nat) (i:Nat),l.contains i=uL l i:=by
       intro l
       induction l with
       | nil=>intro i; rfl
       | cons j r ih =>
         intro i;rw[jL];by_cases e:i=j
         ·subst e; rw[upd_same]; simp
         ·rw[upd_ne _ _ e,← ih i];simp[e]
     exact funext fun i=>this _ i
   rw[e0];exact e
end
end Go.Proofs.Ytjhaklohdflppaa
