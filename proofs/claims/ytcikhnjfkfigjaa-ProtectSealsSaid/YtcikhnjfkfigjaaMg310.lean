/- Texts of one's own, merged: from: The plain logic (25): calls that change a variable of the caller's: a box of data. Own work. -/
import Derived.Shelf.Abstract
import Derived.Test.YtcikhnjfkfigjaaMg37
import Derived.Test.YtcikhnjfkfigjaaMg38
set_option linter.unusedVariables false
set_option linter.unusedSimpArgs false
namespace Go.Proofs.Ytcikhnjfkfigjaa
open Go.RowKit
section
variable {P:Program} {G:Glob}
def closKM (P:Program) (G:Glob) (d:Option Nat) (r:List SOper) (K:St→Prop) (f:Nat→V) (h:Heap) (u:Nat→Bool) (F:Nat) (pre:Option (List Cp)) (post:Option (List Cp)):Prop :=
  match pre,post with | some a,some b=>aops P G r K ⟨updO f d (.w (.c (.cf F a b))),h,u⟩ | _,_=>False
theorem st_closM (d:Option Nat) (r:List SOper) (K:St→Prop) (f:Nat→V) (h:Heap) (u:Nat→Bool) (F:Nat) (xs ys:List SX):aops P G (⟨d,.closM F xs ys,none⟩::r) K ⟨f,h,u⟩=closKM P G d r K f h u F (capPs (xs.map (ev G f))) (capPs (ys.map (ev G f))):=by
  show (match (match capPs (xs.map (ev G f)),capPs (ys.map (ev G f)) with | some a,some b=>some (((.w (.c (.cf F a b)),h,u):R)) | _,_=>none) with | some r=>_ | none=>False)=_
  unfold closKM
  cases capPs (xs.map (ev G f)) <;> cases capPs (ys.map (ev G f)) <;> rfl
theorem closKM_do (d:Option Nat) (r:List SOper) (K:St→Prop) (f:Nat→V) (h:Heap) (u:Nat→Bool) (F:Nat) (a b:List Cp):closKM P G d r K f h u F (some a) (some b)=aops P G r K ⟨updO f d (.w (.c (.cf F a b))),h,u⟩:=rfl
theorem capPs_nil:capPs []=some []:=rfl
theorem capPs_ptr (id sz i o:Nat) (r:List V):capPs (.w (.c (.ptr id sz i o))::r)=(capPs r).map fun l=>.p id sz i o::l:=by
  simp only[capPs,capP]; cases capPs r <;> rfl
theorem capPs_rp (cs:List D) (r:List V):capPs (.w (.c (.rp cs))::r)=(capPs r).map fun l=>.d (.ref cs)::l:=by
  simp only[capPs,capP,capV]; cases capPs r <;> rfl
theorem capPs_int (k:IntKind) (n:Int) (r:List V):capPs (.w (.c (.d (.int k n)))::r)=(capPs r).map fun l=>.d (.int k n)::l:=by
  simp only[capPs,capP,capV]; cases capPs r <;> rfl
theorem capPs_sl (es:List D) (r:List V):capPs (.w (.c (.d (.sl es)))::r)=(capPs r).map fun l=>.d (.sl es)::l:=by
  simp only[capPs,capP,capV]; cases capPs r <;> rfl
theorem st_nil (d:Option Nat) (r:List SOper) (K:St→Prop) (f:Nat→V) (h:Heap) (u:Nat→Bool) (x:SX):aops P G (⟨d,.nilChk x,none⟩::r) K ⟨f,h,u⟩=(isPtr (ev G f x)=true∧aops P G r K ⟨updO f d (ev G f x),h,u⟩):=by
  show (match (if isPtr (ev G f x)=true then some ((ev G f x,h,u):R) else none) with | some r=>_ | none=>False)=_
  by_cases hp:isPtr (ev G f x)=true
  ·rw[if_pos hp]; simp only[hp,true_and]; rfl
  ·rw[if_neg hp]
   exact propext ⟨fun h=>h.elim,fun h=>hp h.1⟩
theorem isPtr_ptr (id sz i o:Nat):isPtr (.w (.c (.ptr id sz i o)))=true:=rfl
theorem isPtr_rp (cs:List D):isPtr (.w (.c (.rp cs)))=true:=rfl
theorem isPtr_ref (cs:List D):isPtr (.w (.c (.d (.ref cs))))=true:=rfl
theorem isPtr_fn (f:Nat) (cs:List D):isPtr (.w (.c (.d (.fn f cs))))=true:=rfl
theorem isPtr_cf (f:Nat) (a b:List Cp):isPtr (.w (.c (.cf f a b)))=true:=rfl
theorem wmm:ProofOf (And.intro @st_closM (And.intro @closKM_do (And.intro @capPs_nil (And.intro @capPs_ptr (And.intro @capPs_rp (And.intro @capPs_int @capPs_sl)))))):=And.intro @st_closM (And.intro @closKM_do (And.intro @capPs_nil (And.intro @capPs_ptr (And.intro @capPs_rp (And.intro @capPs_int @capPs_sl)))))
theorem wmn:ProofOf (And.intro @st_nil (And.intro @isPtr_ptr (And.intro @isPtr_rp (And.intro @isPtr_ref (And.intro @isPtr_fn (And.intro @isPtr_cf @true_and)))))):=And.intro @st_nil (And.intro @isPtr_ptr (And.intro @isPtr_rp (And.intro @isPtr_ref (And.intro @isPtr_fn (And.intro @isPtr_cf @true_and)))))
def bxH (cs:List D):Heap:=hL [(1,.box (cs.map C.d))]
theorem bxH_at (cs:List D) {id:Nat} {o:Ob} (h:bxH cs id=some o):id=1∧o=.box (cs.map C.d):=by
  have:=hL_some h
  simpa using this
theorem d_ids (cs:List D):(Ob.box (cs.map C.d)).ids=[]:=by
  unfold Ob.ids
  induction cs with
  | nil=>rfl
  | cons c r ih=>simp[C.ids]
theorem d_ren (g:Nat→Nat) (cs:List D):(Ob.box (cs.map C.d)).ren g=.box (cs.map C.d):=by
  show Ob.box ((cs.map C.d).map (C.ren g))=_
  rw[List.map_map]
  rfl
theorem bxH_1 (cs:List D):bxH cs 1=some (.box (cs.map C.d)):=by
  unfold bxH
  rw[hL_cons]
  exact upd_same _ _ _
def noIds:V→Bool | .w x=>x.ids.isEmpty | .tup ws=>ws.all fun x=>x.ids.isEmpty | .undef=>true
theorem cp_noren (g:Nat→Nat):∀ {l:List Cp},l.flatMap Cp.ids=[]→l.map (Cp.ren g)=l
  | [],_=>rfl
  | c::r,h=>by
    rw[List.flatMap_cons,List.append_eq_nil_iff] at h
    rw[List.map_cons,cp_noren g h.2]
    cases c with
    | d x=>rfl
    | p id sz i o=>cases h.1
theorem c_noren (g:Nat→Nat) {c:C} (h:c.ids=[]):c.ren g=c:=by
  cases c with
  | own=>cases h
  | ptr=>cases h
  | pa=>cases h
  | cf f a b =>
    obtain⟨h1,h2⟩:=List.append_eq_nil_iff.1 (show a.flatMap Cp.ids++b.flatMap Cp.ids=[] from h)
    simp only[C.ren,cp_noren g h1,cp_noren g h2]
  | _=>rfl
theorem cs_noren (g:Nat→Nat):∀ {cs:List C},cs.flatMap C.ids=[]→cs.map (C.ren g)=cs
  | [],_=>rfl
  | c::r,h=>by
    rw[List.flatMap_cons,List.append_eq_nil_iff] at h
    rw[List.map_cons,cs_noren g h.2,c_noren g h.1]
theorem w_noren (g:Nat→Nat) {x:W} (h:x.ids=[]):x.ren g=x:=by
  cases x with
  | c c=>rw[W.ren,c_noren g h]
  | mix cs=>rw[W.ren,cs_noren g h]
theorem v_noren (g:Nat→Nat) {x:V} (h:noIds x=true):x.ren g=x∧x.ids=[]:=by
  cases x with
  | w x =>
    have h':x.ids=[]:=List.isEmpty_iff.1 h
    exact⟨by rw[V.ren,w_noren g h'],h'⟩
  | tup ws =>
    have h':∀ x∈ws,x.ids=[]:=fun x hx=>List.isEmpty_iff.1 (List.all_eq_true.1 h x hx)
    refine⟨?_,?_⟩
    ·rw[V.ren]
     congr 1
     conv=>rhs; rw[← List.map_id ws]
     exact List.map_congr_left fun x hx=>w_noren g (h' x hx)
    ·show ws.flatMap W.ids=[]
     rw[List.flatMap_eq_nil_iff]
     exact h'
  | undef=>exact⟨rfl,rfl⟩
theorem goM_box {F:FuncId} {args xs:List W} {id:Nat} {cs cs':List D} {res:V} {h:Heap} {u:Nat→Bool} (hd:DenM P G F args (bxH cs) [1] res (bxH cs') [1]) (hx:xs=args.map (W.ren fun _=>id)) (h3:h id=some (.box (cs.map C.d))) (hn:noIds res=true) :
    GoM P G h u F xs (res,upd h id (some (.box (cs'.map C.d))),upd u id true):=by
  refine⟨fun _=>id,args,bxH cs,[1],res,bxH cs',[1],hd,hx,fun i o ho=>?_,fun i hi j hj _=>?_,fun i hi hn=>absurd hi hn,?_⟩
  ·obtain⟨rfl,rfl⟩:=bxH_at cs ho
   rw[h3,d_ren]
  ·simp at hi hj
   omega
  ·refine Prod.ext (v_noren _ hn).1.symm (Prod.ext (funext fun i=>?_) (funext fun i=>?_))
   ·show upd h id _ i=heapM h (fun _=>id) [1] [1] (bxH cs') i
    unfold heapM upd
    by_cases e:i=id
    ·subst e
     simp only[List.find?_cons,beq_self_eq_true,if_true]
     show _=(bxH cs' 1).map _
     rw[bxH_1]
     simp only[Option.map_some,d_ren]
    ·have e':(id==i)=false:=by simpa using fun k=>e k.symm
     simp[e,e']
   ·show upd u id true i=(u i || [1].any fun _=>id==i)
    unfold upd
    by_cases e:i=id
    ·subst e; simp
    ·have e':(id==i)=false:=by simpa using fun k=>e k.symm
     simp[e,e']
theorem st_boxF {d:Option Nat} {r:List SOper} {K:St→Prop} {f:Nat→V} {h:Heap} {u:Nat→Bool} {F:FuncId} {pre post:List Cp} {xs:List SX} {args ws:List W} {id:Nat} {cs cs':List D} {res:V} (hd:DenM P G F args (bxH cs) [1] res (bxH cs') [1])
    (he:∀ (args:Array Value) (w:World),(callFunc F args).run P w=.ok (.enter F args) w) (h1:xs.map (ev G f)=.w (.c (.cf F pre post))::ws.map V.w) (h2:pre.map Cp.w++ws++post.map Cp.w=args.map (W.ren fun _=>id)) (h3:h id=some (.box (cs.map C.d))) (hn:noIds res=true)
    (e:aops P G r K ⟨updO f d res,upd h id (some (.box (cs'.map C.d))),upd u id true⟩):aops P G (⟨d,.callM 1000000007 xs,none⟩::r) K ⟨f,h,u⟩ :=
  ⟨_,.inr ⟨rfl,F,pre,post,ws,h1,he,goM_box hd h2 h3 hn⟩,e⟩
def RetB (σ:St) (l:List (Nat×Option Kd)) (t:Nat) (cs':List D) (res:V):Prop :=
  ∃ ws,allSome (resW σ) l=some ws∧vOf ws=res∧σ.h 1=some (.box (cs'.map C.d))∧σ.f t=.w (.c (.ptr 1 1 0 0))
def endB (l:List (Nat×Option Kd)) (t:Nat) (cs':List D) (res:V) (e:AX) (s:St):Prop:=match e with | .nrm=>RetB s l t cs' res | .ret=>RetB s l t cs' res | .ex _=>False
theorem endB_ret (l:List (Nat×Option Kd)) (t:Nat) (cs':List D) (res:V) (σ:St):endB l t cs' res .ret σ=RetB σ l t cs' res:=rfl
theorem ret_b {σ:St} {s:Nat} {t:Nat} {cs':List D} {x:W} (h1:σ.f s=.w x) (h2:σ.h 1=some (.box (cs'.map C.d))) (h3:σ.f t=.w (.c (.ptr 1 1 0 0))):RetB σ [(s,none)] t cs' (.w x) :=
  ⟨[x],by simp[allSome,resW,h1,asW],rfl,h2,h3⟩
theorem denM_walk {F:FuncId} {fn:Func} {sf:SFn} {H:Hint} (hf:P.funcs[F]?=some fn) (hc:compFn P H fn=some sf) {args:List W} {cs cs':List D} {res:V} (t:Nat) {f0:Nat→V} (hlen:args.length=sf.np) (hlk:[t].all (fun t=>!sf.body.writes.contains t)=true)
    (ha:args[t]?=some (.c (.ptr 1 1 0 0))) (hi:args.all (fun x=>x.ids.all (·==1))=true) (hn:noIds res=true) (h0:putW 0 args uf=f0) (e:awp P G sf.body (endB sf.res t cs' res) ⟨f0,bxH cs,uL [1]⟩):DenM P G F args (bxH cs) [1] res (bxH cs') [1]:=by
  refine denM_of hf hc hlen hlk ⟨fun id o ho=>?_,fun id hid=>?_,fun x hx i hxi=>?_,fun id o ho=>?_,fun i hi=>?_⟩ (Q':=endB sf.res t cs' res) ?_ ?_
  ·obtain⟨rfl,rfl⟩:=bxH_at cs ho
   exact⟨by simp,fun j hj=>by rw[d_ids] at hj; cases hj⟩
  ·obtain rfl:id=1:=by simpa using hid
   rw[bxH_1]
   simp
  ·have:=List.all_eq_true.1 (List.all_eq_true.1 hi x hx) i hxi
   simpa using this
  ·obtain⟨rfl,rfl⟩:=bxH_at cs' ho
   exact⟨by simp,fun j hj=>by rw[d_ids] at hj; cases hj⟩
  ·rw[(v_noren id hn).2] at hi; cases hi
  ·have key:∀ σ:St,RetB σ sf.res t cs' res→RetM σ sf.res [t] args [1] res (bxH cs') [1]:=by
     rintro σ ⟨ws,h1,h2,h3,h4⟩
     refine⟨ws,h1,fun i=>i,by rw[(v_noren _ hn).1]; exact h2,fun i o ho=>?_,fun i j hi hj e=>e,fun i hi _=>?_⟩
     ·obtain⟨rfl,rfl⟩:=bxH_at cs' ho
      rw[h3,d_ren]
     ·obtain rfl:i=1:=by simpa using hi
      exact⟨t,by simp,.c (.ptr 1 1 0 0),ha,by simp[W.lnk],h4⟩
   intro ax σ hq
   cases ax with
   | nrm=>exact⟨fun _ e=>(by cases e),key σ hq⟩
   | ret=>exact⟨fun _ e=>(by cases e),key σ hq⟩
   | ex i=>exact hq.elim
  ·have e0:entryM args (bxH cs) [1]=⟨f0,bxH cs,uL [1]⟩:=by
     have hh:(fun t=>match args[t]? with | some x=>V.w x | none=>.undef)=putW 0 args uf:=congrArg St.f (entryW_eq args)
     rw[← h0,← hh]
     unfold entryM
     congr 1
     funext i
     unfold uL uL upd uN
     by_cases e:i=1
     ·simp[e]
     ·simp[e]
   rw[e0]
   exact e
end
end Go.Proofs.Ytcikhnjfkfigjaa
namespace Go.Proofs.Ytcikhnjfkfigjaa
open Go.RowKit
section
variable {P:Program} {G:Glob}
def gN:List (Nat×Nat)→Nat→Nat
  | []=>fun i=>i
  | (a,b)::r=>upd (gN r) a b
def delH (h:Heap):List Nat→Heap
  | []=>h
  | i::r=>upd (delH h r) i none
def putH (h:Heap):List (Nat×Ob)→Heap
  | []=>h
  | (i,o)::r=>upd (putH h r) i (some o)
def putU (u:Nat→Bool):List Nat→Nat→Bool
  | []=>u
  | i::r=>upd (putU u r) i true
theorem gN_nil:gN []=fun i=>i:=rfl
theorem gN_cons (a b:Nat) (r:List (Nat×Nat)):gN ((a,b)::r)=upd (gN r) a b:=rfl
theorem delH_nil (h:Heap):delH h []=h:=rfl
theorem delH_cons (h:Heap) (i:Nat) (r:List Nat):delH h (i::r)=upd (delH h r) i none:=rfl
theorem putH_nil (h:Heap):putH h []=h:=rfl
theorem putH_cons (h:Heap) (i:Nat) (o:Ob) (r:List (Nat×Ob)):putH h ((i,o)::r)=upd (putH h r) i (some o):=rfl
theorem putU_nil (u:Nat→Bool):putU u []=u:=rfl
theorem putU_cons (u:Nat→Bool) (i:Nat) (r:List Nat):putU u (i::r)=upd (putU u r) i true:=rfl
theorem rn_row (g:Nat→Nat) (sz:Nat) (es:List D):Ob.ren g (.row sz es)=.row sz es:=rfl
theorem rn_box (g:Nat→Nat) (cs:List C):Ob.ren g (.box cs)=.box (cs.map (C.ren g)):=rfl
theorem rn_own (g:Nat→Nat) (id sz off n:Nat):C.ren g (.own id sz off n)=.own (g id) sz off n:=rfl
theorem rn_ptr (g:Nat→Nat) (id sz i o:Nat):C.ren g (.ptr id sz i o)=.ptr (g id) sz i o:=rfl
theorem rn_d (g:Nat→Nat) (x:D):C.ren g (.d x)=.d x:=rfl
theorem rn_nil (g:Nat→Nat):C.ren g .nil=.nil:=rfl
theorem rn_cf (g:Nat→Nat) (f:Nat) (a b:List Cp):C.ren g (.cf f a b)=.cf f (a.map (Cp.ren g)) (b.map (Cp.ren g)):=rfl
theorem rn_pd (g:Nat→Nat) (x:D):Cp.ren g (.d x)=.d x:=rfl
theorem rn_pp (g:Nat→Nat) (id sz i o:Nat):Cp.ren g (.p id sz i o)=.p (g id) sz i o:=rfl
theorem rn_pds (g:Nat→Nat) (l:List D):(l.map Cp.d).map (Cp.ren g)=l.map Cp.d:=by rw[List.map_map]; rfl
theorem rn_wc (g:Nat→Nat) (x:C):W.ren g (.c x)=.c (x.ren g):=rfl
theorem rn_vw (g:Nat→Nat) (x:W):V.ren g (.w x)=.w (x.ren g):=rfl
theorem rn_vt (g:Nat→Nat) (l:List W):V.ren g (.tup l)=.tup (l.map (W.ren g)):=rfl
theorem cpd_ids (l:List D):(l.map Cp.d).flatMap Cp.ids=[]:=by
  induction l with
  | nil=>rfl
  | cons x l ih=>rw[List.map_cons,List.flatMap_cons,ih]; rfl
theorem cpd_w (l:List D):(l.map Cp.d).map Cp.w=l.map fun x=>W.c (.d x):=by rw[List.map_map]; rfl
theorem rn_wds (g:Nat→Nat) (l:List D):(l.map fun x=>W.c (.d x)).map (W.ren g)=l.map fun x=>W.c (.d x):=by rw[List.map_map]; rfl
theorem cpw_d (x:D):Cp.w (.d x)=.c (.d x):=rfl
theorem cpw_p (id sz i o:Nat):Cp.w (.p id sz i o)=.c (.ptr id sz i o):=rfl
theorem wmg:ProofOf (And.intro @gN_nil (And.intro @gN_cons (And.intro @delH_nil (And.intro @delH_cons (And.intro @putH_nil (And.intro @putH_cons (And.intro @putU_nil (And.intro @putU_cons (And.intro @rn_row (And.intro @rn_box (And.intro @rn_own (And.intro @rn_ptr (And.intro @rn_d (And.intro @rn_nil (And.intro @rn_cf (And.intro @rn_pd (And.intro @rn_pp (And.intro @rn_pds (And.intro @rn_wc (And.intro @rn_vw (And.intro @rn_vt (And.intro @cpd_w (And.intro @rn_wds (And.intro @cpw_d @cpw_p)))))))))))))))))))))))):=And.intro @gN_nil (And.intro @gN_cons (And.intro @delH_nil (And.intro @delH_cons (And.intro @putH_nil (And.intro @putH_cons (And.intro @putU_nil (And.intro @putU_cons (And.intro @rn_row (And.intro @rn_box (And.intro @rn_own (And.intro @rn_ptr (And.intro @rn_d (And.intro @rn_nil (And.intro @rn_cf (And.intro @rn_pd (And.intro @rn_pp (And.intro @rn_pds (And.intro @rn_wc (And.intro @rn_vw (And.intro @rn_vt (And.intro @cpd_w (And.intro @rn_wds (And.intro @cpw_d @cpw_p)))))))))))))))))))))))
def DenB (P:Program) (G:Glob) (F:FuncId) (args:List W) (m0:List (Nat×Ob)) (res:V) (m1:List (Nat×Ob)):Prop :=
  DenM P G F args (hL m0) (m0.map (·.1)) res (hL m1) (m1.map (·.1))
theorem delH_at (h:Heap):∀ (l:List Nat) (i:Nat),delH h l i=if l.contains i then none else h i
  | [],i=>rfl
  | j::r,i=>by
    rw[delH_cons]
    by_cases e:i=j
    ·subst e; rw[upd_same]; simp
    ·rw[upd_ne _ _ e,delH_at h r i]
     simp[e]
theorem putU_at (u:Nat→Bool):∀ (l:List Nat) (i:Nat),putU u l i=(u i || l.contains i)
  | [],i=>by simp[putU]
  | j::r,i=>by
    rw[putU_cons]
    by_cases e:i=j
    ·subst e; rw[upd_same]; simp
    ·rw[upd_ne _ _ e,putU_at u r i]
     simp[e]
theorem putH_out (h:Heap) {i:Nat}:∀ (l:List (Nat×Ob)),(∀ p∈l,p.1≠i)→putH h l i=h i
  | [],_=>rfl
  | (j,o)::r,k=>by
    rw[putH_cons,upd_ne _ _ fun e=>k (j,o) (by simp) e.symm]
    exact putH_out h r fun p hp=>k p (by simp[hp])
theorem putH_in (h:Heap) {g:Nat→Nat} {id:Nat}:∀ (m:List (Nat×Ob)),(∀ p∈m,g p.1=g id→p.1=id)→∀ o,hL m id=some o→putH h (m.map fun p=>(g p.1,p.2.ren g)) (g id)=some (o.ren g)
  | [],_,o,ho=>by cases ho
  | (j,q)::r,k,o,ho=>by
    rw[List.map_cons,putH_cons]
    rw[hL_cons] at ho
    by_cases e:id=j
    ·subst e
     rw[upd_same] at ho ⊢
     cases ho; rfl
    ·rw[upd_ne _ _ e] at ho
     have:g id≠g j:=fun e'=>e (k (j,q) (by simp) e'.symm).symm
     rw[upd_ne _ _ this]
     exact putH_in h r (fun p hp=>k p (by simp[hp])) o ho
theorem hL_key:∀ {m:List (Nat×Ob)} {id:Nat},id∈m.map (·.1)→∃ o,hL m id=some o
  | (j,q)::r,id,h=>by
    by_cases e:id=j
    ·subst e; exact⟨q,by rw[hL_cons,upd_same]⟩
    ·obtain⟨o,ho⟩:=hL_key (m:=r) (id:=id) (by simpa [e] using h)
     exact⟨o,by rw[hL_cons,upd_ne _ _ e]; exact ho⟩
theorem heapM_by (h:Heap) {g:Nat→Nat} {L:List Nat} {m:List (Nat×Ob)} (hi:∀ i∈L++m.map (·.1),∀ j∈L++m.map (·.1),g i=g j→i=j) :
    heapM h g L (m.map (·.1)) (hL m)=putH (delH h (L.map g)) (m.map fun p=>(g p.1,p.2.ren g)):=by
  funext i
  unfold heapM
  split
  ·rename_i id hf
   have h1:=List.mem_of_find?_eq_some hf
   have h2:=List.find?_some hf
   simp only[beq_iff_eq] at h2
   subst h2
   obtain⟨o,ho⟩:=hL_key h1
   rw[ho,putH_in _ _ (fun p hp e=>hi p.1 (List.mem_append_right _ (List.mem_map.2 ⟨p,hp,rfl⟩)) id (List.mem_append_right _ h1) e) o ho]
   rfl
  ·rename_i hf
   have hn:∀ p∈m.map fun p=>(g p.1,p.2.ren g),p.1≠i:=by
     intro p hp e
     obtain⟨q,hq,rfl⟩:=List.mem_map.1 hp
     have:=List.find?_eq_none.1 hf q.1 (List.mem_map.2 ⟨q,hq,rfl⟩)
     exact this (by simpa using e)
   rw[putH_out _ _ hn,delH_at]
   have e:(L.any fun id=>g id==i)=(L.map g).contains i:=by
     rw[Bool.eq_iff_iff]
     simp
   rw[e]
theorem usedM_by (u:Nat→Bool) (g:Nat→Nat) (L:List Nat):usedM u g L=putU u (L.map g):=by
  funext i
  rw[putU_at]
  unfold usedM
  congr 1
  rw[Bool.eq_iff_iff]
  simp
def injB (g:Nat→Nat) (l:List Nat):Bool:=l.all fun i=>l.all fun j=>!(g i==g j) || i==j
theorem injB_ok {g:Nat→Nat} {l:List Nat} (h:injB g l=true):∀ i∈l,∀ j∈l,g i=g j→i=j:=by
  intro i hi j hj e
  have:=List.all_eq_true.1 (List.all_eq_true.1 h i hi) j hj
  simpa [e] using this
def newB (u:Nat→Bool) (g:Nat→Nat) (L L1:List Nat):Bool:=L1.all fun id=>L.contains id || !u (g id)
theorem goM_by {F:FuncId} {args xs:List W} {m0 m1:List (Nat×Ob)} {res:V} {h:Heap} {u:Nat→Bool} (gl:List (Nat×Nat)) (hd:DenB P G F args m0 res m1) (hx:xs=args.map (W.ren (gN gl))) (h3:agH h (gN gl) m0)
    (h4:injB (gN gl) (m0.map (·.1)++m1.map (·.1))=true) (h5:newB u (gN gl) (m0.map (·.1)) (m1.map (·.1))=true) :
    GoM P G h u F xs (res.ren (gN gl),putH (delH h ((m0.map (·.1)).map (gN gl))) (m1.map fun p=>(gN gl p.1,p.2.ren (gN gl))),putU u ((m1.map (·.1)).map (gN gl))):=by
  refine⟨gN gl,args,hL m0,_,res,hL m1,_,hd,hx,fun i o ho=>agH_mem h3 (i,o) (hL_some ho),injB_ok h4,fun id h1 h2=>?_,?_⟩
  ·have:=List.all_eq_true.1 h5 id h1
   rw[Bool.or_eq_true] at this
   rcases this with e | e
   ·exact absurd (by simpa using e) h2
   ·simpa using e
  ·rw[heapM_by h (injB_ok h4),usedM_by]
theorem st_gF {d:Option Nat} {r:List SOper} {K:St→Prop} {f:Nat→V} {h:Heap} {u:Nat→Bool} {F:FuncId} {pre post:List Cp} {xs:List SX} {args:List W} (ws:List W) {m0 m1:List (Nat×Ob)} {res:V} (gl:List (Nat×Nat)) (hd:DenB P G F args m0 res m1)
    (he:∀ (args:Array Value) (w:World),(callFunc F args).run P w=.ok (.enter F args) w) (h1:xs.map (ev G f)=.w (.c (.cf F pre post))::ws.map V.w) (h2:pre.map Cp.w++ws++post.map Cp.w=args.map (W.ren (gN gl))) (h3:agH h (gN gl) m0)
    (h4:injB (gN gl) (m0.map (·.1)++m1.map (·.1))=true) (h5:newB u (gN gl) (m0.map (·.1)) (m1.map (·.1))=true)
    (e:aops P G r K ⟨updO f d (res.ren (gN gl)),putH (delH h ((m0.map (·.1)).map (gN gl))) (m1.map fun p=>(gN gl p.1,p.2.ren (gN gl))),putU u ((m1.map (·.1)).map (gN gl))⟩):aops P G (⟨d,.callM 1000000007 xs,none⟩::r) K ⟨f,h,u⟩ :=
  ⟨_,.inr ⟨rfl,F,pre,post,ws,h1,he,goM_by gl hd h2 h3 h4 h5⟩,e⟩
theorem st_gC {d:Option Nat} {r:List SOper} {K:St→Prop} {f:Nat→V} {h:Heap} {u:Nat→Bool} {F:FuncId} {xs:List SX} {args:List W} (ws:List W) {m0 m1:List (Nat×Ob)} {res:V} (gl:List (Nat×Nat)) (hd:DenB P G F args m0 res m1)
    (h1:xs.map (ev G f)=ws.map V.w) (h2:ws=args.map (W.ren (gN gl))) (h3:agH h (gN gl) m0)
    (h4:injB (gN gl) (m0.map (·.1)++m1.map (·.1))=true) (h5:newB u (gN gl) (m0.map (·.1)) (m1.map (·.1))=true)
    (e:aops P G r K ⟨updO f d (res.ren (gN gl)),putH (delH h ((m0.map (·.1)).map (gN gl))) (m1.map fun p=>(gN gl p.1,p.2.ren (gN gl))),putU u ((m1.map (·.1)).map (gN gl))⟩) (hne:F≠dynF:=by decide):aops P G (⟨d,.callM F xs,none⟩::r) K ⟨f,h,u⟩ :=
  ⟨_,.inl ⟨hne,ws,h1,goM_by gl hd h2 h3 h4 h5⟩,e⟩
def RetB2 (σ:St) (l:List (Nat×Option Kd)) (lk:List Nat) (args:List W) (m0:List (Nat×Ob)) (res:V) (m1:List (Nat×Ob)):Prop:=RetM σ l lk args (m0.map (·.1)) res (hL m1) (m1.map (·.1))
def endG (l:List (Nat×Option Kd)) (lk:List Nat) (args:List W) (m0:List (Nat×Ob)) (res:V) (m1:List (Nat×Ob)) (e:AX) (s:St):Prop:=match e with | .nrm=>RetB2 s l lk args m0 res m1 | .ret=>RetB2 s l lk args m0 res m1 | .ex _=>False
theorem endG_nrm (l:List (Nat×Option Kd)) (lk:List Nat) (args:List W) (m0:List (Nat×Ob)) (res:V) (m1:List (Nat×Ob)) (σ:St):endG l lk args m0 res m1 .nrm σ=RetB2 σ l lk args m0 res m1:=rfl
theorem endG_ret (l:List (Nat×Option Kd)) (lk:List Nat) (args:List W) (m0:List (Nat×Ob)) (res:V) (m1:List (Nat×Ob)) (σ:St):endG l lk args m0 res m1 .ret σ=RetB2 σ l lk args m0 res m1:=rfl
def agL (f:Nat→V) (g:Nat→Nat) (args:List W):List (Nat×W)→Prop
  | []=>True
  | (t,x)::r=>args[t]?=some x∧f t=.w (x.ren g)∧agL f g args r
theorem agL_mem {f:Nat→V} {g:Nat→Nat} {args:List W}:∀ {l:List (Nat×W)},agL f g args l→∀ p∈l,args[p.1]?=some p.2∧f p.1=.w (p.2.ren g)
  | (t,x)::r,h,p,hp=>by
    rcases List.mem_cons.1 hp with rfl | hp
    ·exact⟨h.1,h.2.1⟩
    ·exact agL_mem h.2.2 p hp
def lnkB (lk:List Nat) (m0 m1:List (Nat×Ob)) (l:List (Nat×W)):Prop:=(∀ p∈l,p.1∈lk)∧∀ id∈m0.map (·.1),id∈m1.map (·.1)→∃ p∈l,id∈p.2.lnk
theorem ret_g {σ:St} {l:List (Nat×Option Kd)} {lk:List Nat} {args:List W} {m0 m1:List (Nat×Ob)} {res:V} {ws:List W} (gl:List (Nat×Nat)) (lks:List (Nat×W)) (h1:allSome (resW σ) l=some ws) (h2:vOf ws=res.ren (gN gl)) (h3:agH σ.h (gN gl) m1)
    (h4:noDup (m1.map fun p=>gN gl p.1)=true) (h6:agL σ.f (gN gl) args lks) (h7:lnkB lk m0 m1 lks):RetB2 σ l lk args m0 res m1:=by
  refine⟨ws,h1,gN gl,h2,fun id o ho=>agH_mem h3 (id,o) (hL_some ho),fun i j hi hj e=>?_,fun id hi hi1=>?_⟩
  ·obtain⟨o,ho⟩:=Option.ne_none_iff_exists'.1 hi
   obtain⟨q,hq⟩:=Option.ne_none_iff_exists'.1 hj
   have key:∀ {l:List (Nat×Ob)},(l.map fun p=>gN gl p.1).Nodup→∀ {x y:Nat×Ob},x∈l→y∈l→gN gl x.1=gN gl y.1→x=y:=by
     intro l
     induction l with
     | nil=>intro _ x y hx; cases hx
     | cons p r ih =>
       intro hn x y hx hy e
       rw[List.map_cons,List.nodup_cons] at hn
       rcases List.mem_cons.1 hx with rfl | hx' <;> rcases List.mem_cons.1 hy with rfl | hy'
       ·rfl
       ·exact (hn.1 (List.mem_map.2 ⟨y,hy',e.symm⟩)).elim
       ·exact (hn.1 (List.mem_map.2 ⟨x,hx',e⟩)).elim
       ·exact ih hn.2 hx' hy' e
   exact congrArg Prod.fst (key (noDup_ok h4) (hL_some ho) (hL_some hq) e)
  ·obtain⟨p,hp,hx⟩:=h7.2 id hi hi1
   obtain⟨k1,k2⟩:=agL_mem h6 p hp
   exact⟨p.1,h7.1 p hp,p.2,k1,hx,k2⟩
theorem denB_walk {F:FuncId} {fn:Func} {sf:SFn} {H:Hint} (hf:P.funcs[F]?=some fn) (hc:compFn P H fn=some sf) {args:List W} {m0 m1:List (Nat×Ob)} {res:V} (lk:List Nat) {f0:Nat→V} (hlen:args.length=sf.np) (hlk:lk.all (fun t=>!sf.body.writes.contains t)=true)
    (hp:(m0.all fun p=>p.2.ids.all fun j=>(m0.map (·.1)).contains j)=true) (hi:(args.all fun x=>x.ids.all fun j=>(m0.map (·.1)).contains j)=true) (hq:(m1.all fun p=>p.2.ids.all fun j=>(m1.map (·.1)).contains j)=true) (hr:(res.ids.all fun j=>(m1.map (·.1)).contains j)=true)
    (h0:putW 0 args uf=f0) (e:awp P G sf.body (endG sf.res lk args m0 res m1) ⟨f0,hL m0,uL (m0.map (·.1))⟩):DenB P G F args m0 res m1:=by
  have mem:∀ {l:List (Nat×Ob)},(l.all fun p=>p.2.ids.all fun j=>(l.map (·.1)).contains j)=true→∀ id o,hL l id=some o→id∈l.map (·.1)∧∀ j∈o.ids,j∈l.map (·.1):=by
    intro l hl id o ho
    have hm:=hL_some ho
    refine⟨List.mem_map.2 ⟨_,hm,rfl⟩,fun j hj=>?_⟩
    have:=List.all_eq_true.1 (List.all_eq_true.1 hl _ hm) j hj
    simpa using this
  refine denM_of hf hc hlen hlk ⟨mem hp,fun id hid=>?_,fun x hx i hxi=>?_,mem hq,fun i h=>?_⟩ (Q':=endG sf.res lk args m0 res m1) ?_ ?_
  ·obtain⟨o,ho⟩:=hL_key hid
   rw[ho]; simp
  ·have:=List.all_eq_true.1 (List.all_eq_true.1 hi x hx) i hxi
   simpa using this
  ·have:=List.all_eq_true.1 hr i h
   simpa using this
  ·intro ax σ hq
   cases ax with
   | nrm=>exact⟨fun _ e=>(by cases e),hq⟩
   | ret=>exact⟨fun _ e=>(by cases e),hq⟩
   | ex i=>exact hq.elim
  ·have e0:entryM args (hL m0) (m0.map (·.1))=⟨f0,hL m0,uL (m0.map (·.1))⟩:=by
     have hh:(fun t=>match args[t]? with | some x=>V.w x | none=>.undef)=putW 0 args uf:=congrArg St.f (entryW_eq args)
     rw[← h0,← hh]
     unfold entryM
     congr 1
     have:∀ (l:List Nat) (i:Nat),l.contains i=uL l i:=by
       intro l
       induction l with
       | nil=>intro i; rfl
       | cons j r ih =>
         intro i
         rw[uL_cons]
         by_cases e:i=j
         ·subst e; rw[upd_same]; simp
         ·rw[upd_ne _ _ e,← ih i]
          simp[e]
     exact funext fun i=>this _ i
   rw[e0]
   exact e
end
end Go.Proofs.Ytcikhnjfkfigjaa
