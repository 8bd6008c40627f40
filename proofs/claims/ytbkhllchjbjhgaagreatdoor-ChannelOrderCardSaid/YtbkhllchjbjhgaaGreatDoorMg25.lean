/- Texts of one's own, merged: from: The plain logic (16): regions,in the order of the text and in any order that the edges allow. Own work. -/
import Derived.Orders
import Derived.OrdersIn
import Derived.Test.YtbkhllchjbjhgaaGreatDoorMg24
set_option linter.unusedVariables false
set_option linter.unusedSimpArgs false
namespace Go.Proofs.YtbkhllchjbjhgaaGreatDoor
open Go.RowKit
def dstOk (N:Nat):Option Nat→Bool | some d=>decide (d<N) | none=>true
def compOper (P:Program) (H:Hint) (ops:Array Oper) (N:Nat) (o:Oper):Option SOper :=
  match compOp P H o with
  | some so=>if dstOk N o.dst=true then
      match o.guard with
      | none=>some ⟨o.dst,so,none⟩
      | some (j,want)=>match (ops[j]?).bind (·.dst) with
        | some t=>some ⟨o.dst,so,some (t,want)⟩
        | none=>none
    else none
  | none=>none
def maskOf (ms:List Nat) (o:Oper):Nat:=o.after.toList.foldl (fun m e=>if Region.binds .any e=true then m ||| (2^e.on) ||| ms.getD e.on 0 else m) 0
def masks:List Oper→List Nat→List Nat
  | [],acc=>acc
  | o::r,acc=>masks r (acc++[maskOf acc o])
def confl (ms:List Nat) (ops:List Oper) (cs:List SOper):Bool :=
  (List.range ops.length).all fun i=>match ops[i]?,cs[i]? with
    | some o,some so=>(ms.getD i 0==maskOf ms o)&&o.after.toList.all (fun e=>!Region.binds .any e || decide (e.on<i)) &&
        (List.range i).all fun j=>(ms.getD i 0).testBit j || (match cs[j]? with | some sj=>sj.indep so | none=>false)
    | _,_=>false
def compRegion (P:Program) (H:Hint) (N:Nat) (ops:Array Oper) (draws:Bool):Option (List SOper) :=
  match allSome (compOper P H ops N) ops.toList with
  | some cs=>if draws=false then some cs else if P.follows .mixedOrders=true∧confl (masks ops.toList []) ops.toList cs=true then some cs else none
  | none=>none
section
variable {P:Program} {G:Glob} {N:Nat} {Sin:Cells} {w0:Gh} {σ:St} {a:Act} {w:World} {S:Cells} {m:Mp} {H:Hint} {ops:Array Oper} {K:St→Prop} {Q:Exit→Act→World→Prop}
theorem compOper_ok {o:Oper} {so:SOper} (h:compOper P H ops N o=some so):compOp P H o=some so.op∧so.dst=o.dst∧(∀ t,o.dst=some t→t<N) ∧
    ((o.guard=none∧so.guard=none)∨∃ j t want,o.guard=some (j,want)∧so.guard=some (t,want)∧(ops[j]?).bind (·.dst)=some t):=by
  unfold compOper at h
  split at h
  ·rename_i s hs
   split at h
   ·rename_i hd
    have hd':∀ t,o.dst=some t→t<N:=by
      intro t ht
      rw[ht] at hd
      simpa [dstOk] using hd
    split at h
    ·rename_i hg
     cases h
     exact⟨hs,rfl,hd',.inl ⟨hg,rfl⟩⟩
    ·rename_i j want hg
     split at h
     ·rename_i t ht
      cases h
      exact⟨hs,rfl,hd',.inr ⟨j,t,want,hg,rfl,ht⟩⟩
     ·cases h
   ·cases h
  ·cases h
theorem step_sound {i:Nat} {o:Oper} {so:SOper} (hi:ops[i]?=some o) (hc:compOper P H ops N o=some so) (hx:∀ t,so.dst=some t→w0.fx t=none) (h:Inv G N Sin w0 σ a w S m) {r:R} (hr:outR P G so σ r) (hK:K (σ.put so.dst r)):wpOp P ops Q i (Nx G N Sin w0 K) a w:=by
  obtain⟨h1,h2,h3',h4⟩:=compOper_ok hc
  have h3:∀ t,o.dst=some t→t<N∧w0.fx t=none:=fun t ht=>⟨h3' t ht,hx t (by rw[h2]; exact ht)⟩
  rw[h2] at hK
  unfold wpOp
  simp only[hi]
  unfold outR at hr
  rcases h4 with ⟨g1,g2⟩ | ⟨j,t,want,g1,g2,g3⟩
  ·rw[g2] at hr
   have hw:Region.wanted o (yielded ops a.tmps)=true:=by simp[Region.wanted,g1]
   rw[if_pos hw]
   exact .inl (op_sound h h3 h1 (opw_iff.2 ⟨r,h2 ▸ hr,hK⟩))
  ·rw[g2] at hr
   have hgone:RV m S w undef (.tup []):=⟨[],rfl,.nil⟩
   rcases hr with ⟨b,hb,hr⟩ | ⟨hu,rfl⟩
   ·have hv:=asB_ok (h.slot t) hb
    have hy:yielded ops a.tmps j=some b:=by
      unfold yielded
      rw[g3]
      have:a.tmps[t]?=some (.bool b):=by
        rw[Array.getD_eq_getD_getElem?] at hv
        cases ht:a.tmps[t]? with
        | none=>rw[ht] at hv; simp[undef] at hv
        | some v=>rw[ht] at hv; simpa using hv
      simp[this]
    by_cases e:b=want
    ·have hw:Region.wanted o (yielded ops a.tmps)=true:=by simp[Region.wanted,g1,hy,e]
     rw[if_pos hw]
     rcases hr with ⟨_,hr⟩ | ⟨hne,_⟩
     ·exact .inl (op_sound h h3 h1 (opw_iff.2 ⟨r,h2 ▸ hr,hK⟩))
     ·exact absurd e hne
    ·have hw:¬ Region.wanted o (yielded ops a.tmps)=true:=by simp[Region.wanted,g1,hy,e]
     rw[if_neg hw]
     rcases hr with ⟨he,_⟩ | ⟨_,rfl⟩
     ·exact absurd he e
     ·exact⟨_,_,_,hK,h.put (x:=.tup []) o.dst h3 hgone fun i hi=>by cases hi⟩
   ·have hv:a.tmps.getD t undef=undef:=by
      have:=h.slot t
      rw[hu] at this
      obtain⟨us,h5,h6⟩:=this
      cases h6
      exact h5
    have hy:yielded ops a.tmps j=none:=by
      unfold yielded
      rw[g3]
      rw[Array.getD_eq_getD_getElem?] at hv
      cases ht:a.tmps[t]? with
      | none=>simp[ht]
      | some v=>rw[ht] at hv; simp only[Option.getD_some] at hv; subst hv; simp[ht,undef]
    have hw:¬ Region.wanted o (yielded ops a.tmps)=true:=by simp[Region.wanted,g1,hy]
    rw[if_neg hw]
    exact⟨_,_,_,hK,h.put (x:=.tup []) o.dst h3 hgone fun i hi=>by cases hi⟩
theorem wpOp_any {i:Nat} {J:Act→World→Prop} (h:wpOp P ops (fun _ _ _=>False) i J a w):∃ a w,J a w:=by
  unfold wpOp at h
  split at h
  ·exact⟨_,_,h⟩
  ·rename_i o ho
   split at h
   ·rcases h with h | ⟨_,_,_,h⟩
    ·unfold Oper.wp at h
     cases hr:(execOp a.eval o).run P w with
     | ok n w' =>
       rw[hr] at h
       cases n <;> simp only[Oper.upon] at h <;> first | exact⟨_,_,h⟩ | exact h.elim | skip
       ·obtain⟨e,w2,fr,h1,_⟩:=h []
        cases e with
        | returned v=>exact⟨_,_,h1⟩
        | panicked c=>exact h1.elim
        | outgrown=>obtain⟨_,_,h2⟩:=h1; exact h2.elim
       ·obtain⟨v,w2,h1,_⟩:=h default []
        exact⟨_,_,h1⟩
     | halt x w' =>
       rw[hr] at h
       cases x <;> simp only[Oper.upon] at h <;> exact h.elim
    ·exact h.elim
   ·exact⟨_,_,h⟩
theorem step_inv {i:Nat} {o:Oper} {so:SOper} (hi:ops[i]?=some o) (hc:compOper P H ops N o=some so) (hx:∀ t,so.dst=some t→w0.fx t=none) (h:Inv G N Sin w0 σ a w S m) {r:R} (hr:outR P G so σ r):∃ a1 w1 S1 m1,Inv G N Sin w0 (σ.put so.dst r) a1 w1 S1 m1:=by
  obtain⟨a1,w1,σ1,S1,m1,h1,h2⟩:=wpOp_any (step_sound (K:=fun s=>s=σ.put so.dst r) hi hc hx h hr rfl)
  subst h1
  exact⟨a1,w1,S1,m1,h2⟩
def Compd (P:Program) (H:Hint) (N:Nat) (fx:Nat→Option Value) (ops:Array Oper) (l:List (Nat×SOper)):Prop:=∀ p∈l,∃ o,ops[p.1]?=some o∧compOper P H ops N o=some p.2∧∀ t,p.2.dst=some t→fx t=none
theorem ops_sound (hQ:∀ a w,Nx G N Sin w0 K a w→Q .normal a w):∀ (l:List (Nat×SOper)) {σ:St} {a:Act} {w:World} {S:Cells} {m:Mp},Compd P H N w0.fx ops l→Inv G N Sin w0 σ a w S m→aops P G (l.map (·.2)) K σ→wpOps P ops Q (l.map (·.1)) a w
  | [],σ,a,w,S,m,_,h,e=>hQ _ _ ⟨_,_,_,e,h⟩
  | p::l,σ,a,w,S,m,hc,h,e=>by
    rw[List.map_cons,wpOps_cons]
    rw[List.map_cons] at e
    obtain⟨r,h1,h2⟩:=aop_iff.1 e
    obtain⟨o,ho,hco,hfx⟩:=hc p (by simp)
    refine wpOp_mono ?_ (step_sound ho hco hfx h h1 h2)
    rintro a1 w1 ⟨σ1,S1,m1,k1,k2⟩
    exact ops_sound hQ l (fun q hq=>hc q (by simp[hq])) k2 k1
theorem used_all (h:Inv G N Sin w0 σ a w S m) {z:SOper} (hz:z.sound=true):∀ o∈z.op.xs,∀ id∈(ev G σ.f o).ids,σ.u id=true:=by
  intro o ho id hid
  cases o with
  | t n=>exact h.used n id hid
  | k v =>
    simp only[SOper.sound,Bool.and_eq_true,List.all_eq_true] at hz
    have:=hz.1 _ ho
    simp only[SX.kok,List.isEmpty_iff] at this
    have hid':id∈v.ids:=hid
    rw[this] at hid'
    cases hid'
  | g n =>
    simp only[ev] at hid
    split at hid
    ·rename_i c hc
     unfold Glob.at at hc
     simp only[Option.map_eq_some_iff] at hc
     obtain⟨p,hp,rfl⟩:=hc
     have hk:=h.glob p (List.mem_of_find?_eq_some hp)
     have:=(hk.1.rpra (m':=m) hk.2.1).2
     have hid':id∈p.2.ids:=hid
     rw[this] at hid'
     cases hid'
    ·cases hid
  | u=>cases hid
theorem move_front {p:Nat×SOper} {l2:List (Nat×SOper)}:∀ (l1:List (Nat×SOper)) {σ:St} {a:Act} {w:World} {S:Cells} {m:Mp},Compd P H N w0.fx ops (l1++p::l2)→(∀ q∈l1,q.2.indep p.2=true)→Inv G N Sin w0 σ a w S m →
    aops P G ((l1++p::l2).map (·.2)) K σ→aop P G p.2 (aops P G ((l1++l2).map (·.2)) K) σ
  | [],σ,a,w,S,m,_,_,_,e=>e
  | q::l1,σ,a,w,S,m,hc,hi,h,e=>by
    rw[List.cons_append,List.map_cons] at e
    obtain⟨r1,h1,h2⟩:=aop_iff.1 e
    obtain⟨o,ho,hco,hfx⟩:=hc q (by simp)
    obtain⟨a1,w1,S1,m1,hinv⟩:=step_inv ho hco hfx h h1
    have ih:=move_front l1 (fun z hz=>hc z (by simp only[List.cons_append,List.mem_cons]; exact .inr hz)) (fun z hz=>hi z (by simp[hz])) hinv h2
    obtain⟨r2,h3,h4⟩:=aop_iff.1 ih
    have hin:=hi q (by simp)
    have hs:q.2.sound=true∧p.2.sound=true:=by
      simp only[SOper.indep,Bool.and_eq_true] at hin
      exact⟨hin.1.2,hin.2⟩
    obtain⟨r2',r1',g1,g2,g3⟩:=swap hin (fun z hz=>by
      rcases hz with rfl | rfl
      ·exact used_all h hs.1
      ·exact used_all h hs.2) h1 h3
    refine aop_iff.2 ⟨r2',g1,?_⟩
    rw[List.cons_append,List.map_cons]
    refine aop_iff.2 ⟨r1',g2,?_⟩
    rw[g3]
    exact h4
end
section
variable {P:Program} {G:Glob} {N:Nat} {Sin:Cells} {w0:Gh} {σ:St} {a:Act} {w:World} {S:Cells} {m:Mp} {H:Hint} {ops:Array Oper} {K:St→Prop} {Q:Exit→Act→World→Prop}
theorem maskOf_bit {ms:List Nat} {o:Oper} {j:Nat} (h:(maskOf ms o).testBit j=true):∃ e∈o.after,Region.binds .any e=true∧(e.on=j∨(ms.getD e.on 0).testBit j=true):=by
  have key:∀ (l:List Edge) (k:Nat),(l.foldl (fun m e=>if Region.binds .any e=true then m ||| (2^e.on) ||| ms.getD e.on 0 else m) k).testBit j=true→k.testBit j=true∨∃ e∈l,Region.binds .any e=true∧(e.on=j∨(ms.getD e.on 0).testBit j=true):=by
    intro l
    induction l with
    | nil=>intro k h; exact .inl h
    | cons e l ih =>
      intro k h
      rw[List.foldl_cons] at h
      rcases ih _ h with h | ⟨e',h1,h2⟩
      ·split at h
       ·rename_i hb
        rw[Nat.testBit_or,Nat.testBit_or,Bool.or_eq_true,Bool.or_eq_true] at h
        rcases h with (h | h) | h
        ·exact .inl h
        ·rw[Nat.testBit_two_pow] at h
         exact .inr ⟨e,by simp,hb,.inl (by simpa using h)⟩
        ·exact .inr ⟨e,by simp,hb,.inr h⟩
       ·exact .inl h
      ·exact .inr ⟨e',by simp[h1],h2⟩
  rcases key _ _ h with h | ⟨e,h1,h2⟩
  ·simp at h
  ·exact⟨e,by simpa using h1,h2⟩
theorem confl_ok {ms:List Nat} {cs:List SOper} (h:confl ms ops.toList cs=true):∀ i o so,ops[i]?=some o→cs[i]?=some so→ms.getD i 0=maskOf ms o∧(∀ e∈o.after,Region.binds .any e=true→e.on<i)∧∀ j sj,j<i→cs[j]?=some sj→(ms.getD i 0).testBit j=true∨sj.indep so=true:=by
  intro i o so ho hso
  unfold confl at h
  simp only[List.all_eq_true,List.mem_range] at h
  have hi:i<ops.toList.length:=by
    have:=(Array.getElem?_eq_some_iff.1 ho).1
    simpa using this
  have h1:=h i hi
  rw[Array.getElem?_toList,ho,hso] at h1
  simp only[Bool.and_eq_true,beq_iff_eq,List.all_eq_true,Bool.or_eq_true,Bool.not_eq_true',decide_eq_true_eq,List.mem_range] at h1
  obtain⟨⟨h2,h3⟩,h4⟩:=h1
  refine⟨h2,fun e he hb=>?_,fun j sj hj hsj=>?_⟩
  ·rcases h3 e (by simpa using he) with h5 | h5
   ·rw[hb] at h5; cases h5
   ·exact h5
  ·have:=h4 j hj
   rw[hsj] at this
   exact this
theorem anc_listed {ms:List Nat} {cs:List SOper} (hm:∀ i o so,ops[i]?=some o→cs[i]?=some so→ms.getD i 0=maskOf ms o∧(∀ e∈o.after,Region.binds .any e=true→e.on<i)∧∀ j sj,j<i→cs[j]?=some sj→(ms.getD i 0).testBit j=true∨sj.indep so=true) (hlen:cs.length=ops.size)
    {listed:Array Bool} (hcl:∀ k o,ops[k]?=some o→listed.getD k false=true→∀ e∈o.after,Region.binds .any e=true→listed.getD e.on false=true) :
    ∀ i o,ops[i]?=some o→(∀ e∈o.after,Region.binds .any e=true→listed.getD e.on false=true)→∀ j,(ms.getD i 0).testBit j=true→listed.getD j false=true:=by
  intro i
  induction i using Nat.strongRecOn with
  | _ i ih =>
    intro o ho hd j hj
    have hi:=(Array.getElem?_eq_some_iff.1 ho).1
    have hso:cs[i]?=some cs[i]:=List.getElem?_eq_getElem (by omega)
    obtain⟨h1,h2,_⟩:=hm i o _ ho hso
    rw[h1] at hj
    obtain⟨e,he,hb,h3⟩:=maskOf_bit hj
    rcases h3 with rfl | h3
    ·exact hd e he hb
    ·have hlt:=h2 e he hb
     have hoe:ops[e.on]?=some ops[e.on]:=Array.getElem?_eq_getElem (by omega)
     exact ih e.on hlt _ hoe (hcl _ _ hoe (hd e he hb)) j h3
theorem mem_split_sorted {l:List (Nat×SOper)} {p:Nat×SOper} (hs:l.Pairwise fun x y=>x.1<y.1) (hp:p∈l):∃ l1 l2,l=l1++p::l2∧∀ q∈l1,q.1<p.1:=by
  obtain⟨l1,l2,rfl⟩:=List.append_of_mem hp
  refine⟨l1,l2,rfl,fun q hq=>?_⟩
  rw[List.pairwise_append] at hs
  exact hs.2.2 q hq p (by simp)
theorem game_sound {ms:List Nat} {cs:List SOper} (hlen:cs.length=ops.size) (hm:∀ i o so,ops[i]?=some o→cs[i]?=some so→ms.getD i 0=maskOf ms o∧(∀ e∈o.after,Region.binds .any e=true→e.on<i)∧∀ j sj,j<i→cs[j]?=some sj→(ms.getD i 0).testBit j=true∨sj.indep so=true)
    (hQ:∀ a w,Nx G N Sin w0 K a w→Q .normal a w):∀ (n:Nat) (l:List (Nat×SOper)) (listed:Array Bool) {σ:St} {a:Act} {w:World} {S:Cells} {m:Mp},l.length=n→Compd P H N w0.fx ops l→(∀ p∈l,cs[p.1]?=some p.2)→(l.Pairwise fun x y=>x.1<y.1) →
      listed.size=ops.size→(∀ j,listed.getD j true=false↔∃ so,(j,so)∈l)→(∀ k o,ops[k]?=some o→listed.getD k false=true→∀ e∈o.after,Region.binds .any e=true→listed.getD e.on false=true) →
      Inv G N Sin w0 σ a w S m→aops P G (l.map (·.2)) K σ→wpAny P .any ops Q n listed a w
  | 0,l,listed,σ,a,w,S,m,hn,_,_,_,_,hl,_,h,e=>by
    have:l=[]:=List.length_eq_zero_iff.1 hn
    subst this
    refine⟨?_,hQ _ _ ⟨_,_,_,e,h⟩⟩
    refine List.eq_nil_iff_forall_not_mem.2 fun i hi=>?_
    obtain⟨h1,_⟩:=mem_ready.1 hi
    obtain⟨so,hso⟩:=(hl i).1 h1
    cases hso
  | n+1,l,listed,σ,a,w,S,m,hn,hc,hcs,hsort,hsz,hl,hcl,h,e=>by
    have tf:∀ j,j<ops.size→¬ (∃ so,(j,so)∈l)→listed.getD j false=true:=by
      intro j hj hne
      have h1:¬ listed.getD j true=false:=fun h=>hne ((hl j).1 h)
      rw[Array.getD_eq_getD_getElem?] at h1 ⊢
      have:listed[j]?=some listed[j]:=Array.getElem?_eq_getElem (by omega)
      rw[this] at h1 ⊢
      simpa using h1
    refine⟨fun hr=>?_,fun i hi=>?_⟩
    ·cases l with
     | nil=>simp at hn
     | cons p rest =>
       exfalso
       obtain⟨o,ho,hco,hfx⟩:=hc p (by simp)
       have hp:p.1∈Region.ready .any ops listed:=by
         refine mem_ready.2 ⟨(hl p.1).2 ⟨p.2,by simp⟩,o,ho,fun ed he hb=>?_⟩
         have hlt:=(hm p.1 o p.2 ho (hcs p (by simp))).2.1 ed he hb
         have hsize:=(Array.getElem?_eq_some_iff.1 ho).1
         refine tf _ (by omega) ?_
         rintro⟨so,hso⟩
         rw[List.pairwise_cons] at hsort
         rcases List.mem_cons.1 hso with heq | hin
         ·have:ed.on=p.1:=congrArg Prod.fst heq
          omega
         ·have:=hsort.1 _ hin
          simp only at this
          omega
       rw[hr] at hp
       cases hp
    ·obtain⟨hun,o,ho,hedges⟩:=mem_ready.1 hi
     obtain⟨so,hso⟩:=(hl i).1 hun
     obtain⟨l1,l2,hsplit,hlt⟩:=mem_split_sorted hsort hso
     have hanc:=anc_listed hm hlen hcl i o ho hedges
     have hind:∀ q∈l1,q.2.indep so=true:=by
       intro q hq
       have hqi:=hlt q hq
       have hq2:=hcs q (by rw[hsplit]; simp[hq])
       rcases (hm i o so ho (hcs _ hso)).2.2 q.1 q.2 hqi hq2 with h1 | h1
       ·have h2:=hanc q.1 h1
        have h3:=(hl q.1).2 ⟨q.2,by rw[hsplit]; simp[hq]⟩
        rw[Array.getD_eq_getD_getElem?] at h2 h3
        cases hg:listed[q.1]? <;> rw[hg] at h2 h3 <;> simp_all
       ·exact h1
     rw[hsplit] at e
     have hc':Compd P H N w0.fx ops (l1++(i,so)::l2):=hsplit ▸ hc
     have hmv:=move_front (p:=(i,so)) (l2:=l2) (K:=K) l1 hc' hind h e
     obtain⟨r,h1,h2⟩:=aop_iff.1 hmv
     obtain⟨o',ho',hco,hfx⟩:=hc (i,so) hso
     refine wpOp_mono ?_ (step_sound ho' hco hfx h h1 h2)
     rintro a1 w1 ⟨σ1,S1,m1,k1,k2⟩
     have hsub:∀ p,p∈l1++l2→p∈l:=fun p hp=>by
       rw[hsplit]
       rcases List.mem_append.1 hp with hp | hp <;> simp[hp]
     have hsort2:(l1++l2).Pairwise fun x y=>x.1<y.1:=by
       rw[hsplit] at hsort
       refine hsort.sublist ?_
       exact List.Sublist.append (List.Sublist.refl _) (List.sublist_cons_self _ _)
     have hnot:∀ s,(i,s)∉l1++l2:=by
       intro s hs
       rw[hsplit,List.pairwise_append,List.pairwise_cons] at hsort
       rcases List.mem_append.1 hs with hs | hs
       ·have:=hlt _ hs
        simp only at this
        omega
       ·have:=hsort.2.1.1 _ hs
        simp only at this
        omega
     have hisz:i<listed.size:=by rw[hsz]; exact (Array.getElem?_eq_some_iff.1 ho).1
     refine game_sound hlen hm hQ n (l1++l2) _ (by rw[hsplit] at hn; simp at hn ⊢; omega) (fun p hp=>hc p (hsub p hp)) (fun p hp=>hcs p (hsub p hp)) hsort2 (by simp[hsz]) (fun j=>?_) (fun k ok hok hk ed he hb=>?_) k2 k1
     ·by_cases hji:j=i
      ·subst hji
       constructor
       ·intro hh
        rw[Array.getD_eq_getD_getElem?] at hh
        simp[hisz] at hh
       ·rintro⟨s,hs⟩; exact absurd hs (hnot s)
      ·rw[getD_set_ne true (fun h=>hji h.symm),hl j,hsplit]
       constructor
       ·rintro⟨s,hs⟩
        refine⟨s,?_⟩
        rcases List.mem_append.1 hs with hs | hs
        ·exact List.mem_append_left _ hs
        ·rcases List.mem_cons.1 hs with hs | hs
         ·exact absurd (congrArg Prod.fst hs) hji
         ·exact List.mem_append_right _ hs
       ·rintro⟨s,hs⟩
        refine⟨s,?_⟩
        rcases List.mem_append.1 hs with hs | hs
        ·exact List.mem_append_left _ hs
        ·exact List.mem_append_right _ (List.mem_cons_of_mem _ hs)
     ·have up:∀ x,listed.getD x false=true→(listed.setIfInBounds i true).getD x false=true:=by
        intro x hx
        by_cases hxi:i=x
        ·subst hxi
         rw[Array.getD_eq_getD_getElem?]
         simp[hisz]
        ·rw[getD_set_ne false hxi]; exact hx
      by_cases hki:i=k
      ·subst hki
       rw[ho] at hok
       cases hok
       exact up _ (hedges ed he hb)
      ·rw[getD_set_ne false hki] at hk
       exact up _ (hcl k ok hok hk ed he hb)
theorem zip_map_fst {α β:Type}:∀ (l:List α) (k:List β),l.length=k.length→(l.zip k).map (·.1)=l
  | [],_,_=>by simp
  | a::l,[],h=>by simp at h
  | a::l,b::k,h=>by simp only[List.zip_cons_cons,List.map_cons,zip_map_fst l k (by simpa using h)]
theorem zip_map_snd {α β:Type}:∀ (l:List α) (k:List β),l.length=k.length→(l.zip k).map (·.2)=k
  | [],[],_=>rfl
  | [],_::_,h=>by simp at h
  | a::l,[],h=>by simp at h
  | a::l,b::k,h=>by simp only[List.zip_cons_cons,List.map_cons,zip_map_snd l k (by simpa using h)]
def Fr (r:Option Nat):Fence:={ fn:=fun _=>True,depth:=none,alive:=false,round:=r }
theorem wpOp_in {r:Option Nat} {n i:Nat} {K:Act→World→Prop} (hnd:∀ o:Oper,ops[i]?=some o→∀ c,o.op≠.defer c) (hQ:¬ LetsOut Q) (h:wpOp P ops Q i K a w):wpOpIn (Fr r) n P ops Q i K a w:=by
  unfold wpOp at h
  unfold wpOpIn
  cases ho:ops[i]? with
  | none=>rw[ho] at h; exact h
  | some o =>
    rw[ho] at h
    simp only at h ⊢
    split
    ·rename_i hw
     rw[if_pos hw] at h
     have h:=h.resolve_right fun k=>hQ k.2
     refine⟨fun _ _=>trivial,?_⟩
     have hs:o.semAt (Fr r).round a.eval=execOp a.eval o:=by
       cases r with
       | none=>rfl
       | some l=>exact Oper.semAt_some l a.eval o (hnd o ho)
     rw[hs]
     unfold Oper.wp at h
     cases hr:(execOp a.eval o).run P w with
     | ok x w' =>
       rw[hr] at h
       cases x with
       | value v=>exact h
       | skip=>exact h
       | defer d=>exact h
       | enter f args=>exact⟨fun h=>(by cases h),(callsIn_wide (n:=n-1)).2 h⟩
       | row row args=>exact⟨fun h=>(by cases h),fun c cs _=>let ⟨v,w2,r,s⟩:=h c cs; ⟨v,w2,r,stepsIn_wide.2 s⟩⟩
       | _=>exact h.elim
     | halt x w' =>
       rw[hr] at h
       cases x <;> first | exact h | exact h.elim
    ·rename_i hw
     rw[if_neg hw] at h
     exact⟨fun _ _=>trivial,h⟩
theorem wpOps_in {r:Option Nat} {n:Nat} (hnd:∀ (i:Nat) (o:Oper),ops[i]?=some o→∀ c,o.op≠.defer c) (hQ:¬ LetsOut Q):∀ (l:List Nat) {a:Act} {w:World},wpOps P ops Q l a w→wpOpsIn (Fr r) n P ops Q l a w
  | [],_,_,h=>h
  | i::l,a,w,h=>by
    rw[wpOps_cons] at h
    rw[wpOpsIn_cons]
    exact wpOp_in (hnd i) hQ (wpOp_mono (fun _ _ h=>wpOps_in hnd hQ l h) h)
theorem wpAny_in {r:Option Nat} {n:Nat} (hnd:∀ (i:Nat) (o:Oper),ops[i]?=some o→∀ c,o.op≠.defer c) (hQ:¬ LetsOut Q):∀ (k:Nat) {listed:Array Bool} {a:Act} {w:World},wpAny P .any ops Q k listed a w→wpAnyIn (Fr r) n P .any ops Q k listed a w
  | 0,_,_,_,h=>h
  | k+1,listed,a,w,h=>⟨h.1,fun i hi=>wpOp_in (hnd i) hQ (wpOp_mono (fun _ _ h=>wpAny_in hnd hQ k h) (h.2 i hi))⟩
theorem comp_nodefer {o:Oper} {so:SOper} (h:compOper P H ops N o=some so):∀ c,o.op≠.defer c:=by
  intro c e
  have:=(compOper_ok h).1
  simp[compOp,e] at this
def Off (K:Act→World→Prop):Exit→Act→World→Prop | .normal,a,w=>K a w | _,_,_=>False
theorem off_no {K:Act→World→Prop}:¬ LetsOut (Off K):=fun ⟨_,_,h⟩=>h
theorem region_sound {r:Option Nat} {n id:Nat} {draws:Bool} {cs:List SOper} (hc:compRegion P H N ops draws=some cs) (hfx:∀ so∈cs,∀ t,so.dst=some t→w0.fx t=none) (h:Inv G N Sin w0 σ a w S m) (e:aops P G cs K σ) (hQ:∀ a w,Nx G N Sin w0 K a w→Q .normal a w):(Code.region id ops draws).wpIn (Fr r) n P Q a w:=by
  refine wpIn_mono (Q:=Off (Nx G N Sin w0 K)) ?_ fun e a w h=>by cases e <;> first | exact hQ _ _ h | exact h.elim
  clear hQ
  have hQ:∀ a w,Nx G N Sin w0 K a w→Off (Nx G N Sin w0 K) .normal a w:=fun _ _ h=>h
  unfold compRegion at hc
  split at hc
  ·rename_i cs' hcs
   have hall:All2 (fun o so=>compOper P H ops N o=some so) ops.toList cs':=allSome_ok (fun _ _ h=>h) hcs
   have hlen:cs'.length=ops.size:=by have:=hall.length; simpa using this.symm
   have hzl:(List.range ops.size).length=cs'.length:=by simp[hlen]
   have hmem:∀ p∈(List.range ops.size).zip cs',p.1<ops.size∧cs'[p.1]?=some p.2:=by
     intro p hp
     obtain⟨i,hi,rfl⟩:=List.getElem_of_mem hp
     simp only[List.getElem_zip,List.getElem_range]
     have h1:i<cs'.length:=by simp at hi; omega
     exact⟨by omega,List.getElem?_eq_getElem h1⟩
   have hfx':∀ so∈cs',∀ t,so.dst=some t→w0.fx t=none:=by
     split at hc
     ·cases hc; exact hfx
     ·split at hc
      ·cases hc; exact hfx
      ·cases hc
   have hnd:∀ (i:Nat) (o:Oper),ops[i]?=some o→∀ c,o.op≠.defer c:=by
     intro i o ho
     obtain⟨so,h1,h2⟩:∃ so,cs'[i]?=some so∧compOper P H ops N o=some so:=by
       have h1:i<cs'.length:=by rw[hlen]; exact (Array.getElem?_eq_some_iff.1 ho).1
       obtain⟨o',h2,h3⟩:=hall.get? (List.getElem?_eq_getElem h1)
       rw[Array.getElem?_toList,ho] at h2
       cases h2
       exact⟨_,List.getElem?_eq_getElem h1,h3⟩
     exact comp_nodefer h2
   have hcomp:Compd P H N w0.fx ops ((List.range ops.size).zip cs'):=by
     intro p hp
     obtain⟨h1,h2⟩:=hmem p hp
     obtain⟨o,h3,h4⟩:=hall.get? h2
     exact⟨o,by rw[← Array.getElem?_toList]; exact h3,h4,hfx' p.2 (List.mem_of_getElem? h2)⟩
   have e':cs'=cs→aops P G (((List.range ops.size).zip cs').map (·.2)) K σ:=by
     rintro rfl
     rw[zip_map_snd _ _ hzl]; exact e
   split at hc
   ·rename_i hd
    cases hc
    subst hd
    have:=ops_sound hQ _ hcomp h (e' rfl)
    rw[zip_map_fst _ _ hzl] at this
    exact wpIn_region (wpOps_in hnd off_no _ this)
   ·rename_i hd
    have hd':draws=true:=by simpa using hd
    subst hd'
    split at hc
    ·rename_i hk
     cases hc
     refine wpIn_region_any hk.1 (wpAny_in hnd off_no _ ?_)
     have hm:=confl_ok hk.2
     have hzn:((List.range ops.size).zip cs).length=ops.size:=by simp[hlen]
     refine game_sound (G:=G) (N:=N) (Sin:=Sin) (w0:=w0) (H:=H) (K:=K) (Q:=Off (Nx G N Sin w0 K)) hlen hm hQ ops.size ((List.range ops.size).zip cs) (Array.replicate ops.size false) hzn hcomp (fun p hp=>(hmem p hp).2) ?_ (by simp) (fun j=>?_) (fun k o ho hk=>?_) (h.drew) (e' rfl)
     ·rw[List.pairwise_iff_getElem]
      intro i j hi hj hij
      simp only[List.getElem_zip,List.getElem_range]
      exact hij
     ·constructor
      ·intro hh
       have hj:j<ops.size:=by
         rcases Nat.lt_or_ge j ops.size with hlt | hge
         ·exact hlt
         ·rw[Array.getD_eq_getD_getElem?,Array.getElem?_eq_none (by simpa using hge)] at hh
          simp at hh
       refine⟨cs[j]'(by omega),?_⟩
       have h2:j<((List.range ops.size).zip cs).length:=by simp; omega
       have:((List.range ops.size).zip cs)[j]=(j,cs[j]'(by omega)):=by simp
       rw[← this]
       exact List.getElem_mem h2
      ·rintro⟨so,hso⟩
       have:=(hmem _ hso).1
       simp only at this
       rw[Array.getD_eq_getD_getElem?]
       simp[this]
     ·exfalso
      rw[Array.getD_eq_getD_getElem?] at hk
      have:=(Array.getElem?_eq_some_iff.1 ho).1
      simp[this] at hk
    ·cases hc
  ·cases hc
end
section
variable (P:Program) (H:Hint) (N:Nat)
def compCode (inr:Bool):Code→Option SCode
  | .skip=>some .skip
  | .region _ ops draws=>match compRegion P H N ops draws with | some l=>some (.reg l) | none=>if H.bad=true then some (.reg [⟨none,.lenStr .u,none⟩]) else none
  | .seq a b=>match compCode inr a,compCode inr b with | some x,some y=>some (.seq x y) | _,_=>none
  | .cond c a b=>match compX c,compCode inr a,compCode inr b with | some c,some x,some y=>some (.cond c x y) | _,_,_=>none
  | .block id c=>(compCode inr c).map (.block id)
  | .loop c=>(compCode inr c).map .loop
  | .exit id=>some (.exit id)
  | .ret=>some .ret
  | .rangeFunc g ps a b=>if inr=false∧ps.all (fun t=>decide (t<N))=true then match compX g,compCode true a,compCode true b with | some x,some a,some b=>some (.rangeF x ps.toList a b) | _,_,_=>none else none
  | _=>none
def compRes:ResultVar→Option (Nat×Option Kd)
  | .tmp t=>some (t,none)
  | .cell t ty=>(tyKd P ty).map fun kd=>(t,some kd)
def compFn (fn:Func):Option SFn :=
  match fn.body with
  | some c=>match compCode P H fn.ntmps false c,allSome (compRes P) fn.results.toList with
    | some body,some res=>if fn.params.size+fn.nfree≤fn.ntmps then some ⟨fn.params.size+fn.nfree,fn.ntmps,body,res⟩ else none
    | _,_=>none
  | none=>none
end
section
variable {P:Program} {G:Glob} {N:Nat} {Sin:Cells} {w0:Gh} {σ:St} {a:Act} {w:World} {S:Cells} {m:Mp} {H:Hint}
theorem Inv.ent {τ:St} (h:Inv G N Sin w0 σ a w S m) (e:Ent σ τ):∃ m',Inv G N Sin w0 τ a w S m':=by
  obtain⟨⟨g,g1,g2,g3⟩,g4,g5⟩:=e
  refine⟨fun i=>m (g i),h.size,h.defers,fun t=>?_,g4,fun i o ho=>⟨?_,g5 i o ho⟩,fun i j b s s' h1 h2 h3 h4=>?_,h.sin,h.sub,h.glob,h.below,h.oth,h.kso,h.sso,h.fix⟩
  ·rcases g1 t with e | e
   ·rw[e]; trivial
   ·have:=h.slot t
    rw[e] at this
    exact this.ren
  ·have hob:=(h.obj (g i) _ (g2 i o ho)).1
   unfold ObjOk at hob ⊢
   show match m (g i) with | none=>_ | some (b,sz)=>_
   split at hob
   ·obtain⟨sz,e⟩:=hob
    rename_i hm
    rw[hm]
    cases o with
    | row s es=>exact⟨sz,e⟩
    | _=>cases e
   ·rename_i b sz hm
    rw[hm]
    obtain⟨k1,k2,k3,cur,ty,fz,k4,k5,k6⟩:=hob
    refine⟨?_,k2,k3,cur,ty,fz,by cases o <;> exact k4,k5,k6.ren⟩
    rw[← k1]
    cases o <;> rfl
  ·refine g3 i j h1 h2 ?_
   obtain⟨oi,hi⟩:=Option.ne_none_iff_exists'.1 h1
   obtain⟨oj,hj⟩:=Option.ne_none_iff_exists'.1 h2
   exact h.inj (g i) (g j) b s s' (by rw[g2 i oi hi]; simp) (by rw[g2 j oj hj]; simp) h3 h4
theorem least_ex {p:Nat→Prop} (h:∃ n,p n):∃ n,p n∧∀ k,p k→n≤k:=by
  obtain⟨n,hn⟩:=h
  induction n using Nat.strongRecOn with
  | _ n ih =>
    by_cases h2:∃ k,k<n∧p k
    ·obtain⟨k,hk,hp⟩:=h2
     exact ih k hk hp
    ·refine⟨n,hn,fun k hk=>?_⟩
     rcases Nat.lt_or_ge k n with hlt | hge
     ·exact absurd ⟨k,hlt,hk⟩ h2
     ·exact hge
theorem wpIn_loop_n {F:Fence} {k:Nat} {c:Code} {Q:Exit→Act→World→Prop} (I:Nat→Act→World→Prop) {n:Nat} (h:I n a w) (round:∀ n a w,I n a w→c.wpIn F k P (Exit.then (fun a' w'=>∃ n',n'<n∧I n' a' w') Q) a w):(Code.loop c).wpIn F k P Q a w:=by
  have hμ:∃ μ:Act→World→Nat,∀ a w,(∃ n,I n a w)→I (μ a w) a w∧∀ k,I k a w→μ a w≤k:=by
    have:∀ p:Act×World,∃ k,(∃ n,I n p.1 p.2)→I k p.1 p.2∧∀ j,I j p.1 p.2→k≤j:=by
      intro p
      by_cases hp:∃ n,I n p.1 p.2
      ·obtain⟨k,h1,h2⟩:=least_ex hp
       exact⟨k,fun _=>⟨h1,h2⟩⟩
      ·exact⟨0,fun h=>absurd h hp⟩
    obtain⟨f,hf⟩:=Classical.axiomOfChoice this
    exact⟨fun a w=>f (a,w),fun a w=>hf (a,w)⟩
  obtain⟨μ,hμ⟩:=hμ
  refine wpIn_loop (fun a w=>∃ n,I n a w) μ ⟨n,h⟩ fun a w hI=>?_
  refine wpIn_mono (round _ a w (hμ a w hI).1) fun e a' w' he=>?_
  cases e with
  | normal =>
    obtain⟨n',h1,h2⟩:=he
    exact⟨⟨n',h2⟩,Nat.lt_of_le_of_lt ((hμ a' w' ⟨n',h2⟩).2 n' h2) h1⟩
  | _=>exact he
def AX.toExit:AX→Exit
  | .nrm=>.normal
  | .ex id=>.exit id
  | .ret=>.ret
def AX.toCode:AX→Code
  | .nrm=>.skip
  | .ex id=>.exit id
  | .ret=>.ret
def Post (G:Glob) (N:Nat) (Sin:Cells) (w0:Gh) (Q':AX→St→Prop) (Q:Exit→Act→World→Prop):Prop:=∀ e σ a w S m,Q' e σ→Inv G N Sin w0 σ a w S m→Q e.toExit a w
structure KeepsBut (l:Nat) (W W':World):Prop where
  size:W.heap.size≤W'.heap.size
  same:∀ (k:Nat) (o:Obj),k≠l→W.heap[k]?=some o→lies o=false→W'.heap[k]?=some o
theorem KeepsBut.of {l:Nat} {A B:World} (h:KeepsO A B):KeepsBut l A B:=⟨h.size,fun k o _ hk ho=>h.same k o hk ho⟩
theorem KeepsBut.trans {l:Nat} {A B C:World} (h:KeepsBut l A B) (k:KeepsBut l B C):KeepsBut l A C :=
  ⟨Nat.le_trans h.size k.size,fun i o hl hi ho=>k.same i o hl (h.same i o hl hi ho) ho⟩
theorem KeepsBut.put (W:World) (l:Nat) (o:Obj):KeepsBut l W (W.putObj l o) :=
  ⟨(grownBy_putObj' W l o).size,fun k _ hl hk _=>(World.putObj_heap_other hl).trans hk⟩
theorem KeepsBut.old {l:Nat} {A B C:World} (h:KeepsO A B) (k:KeepsBut l B C) (hl:A.heap.size≤l):KeepsO A C :=
  ⟨Nat.le_trans h.size k.size,fun i o hi ho=>k.same i o (fun e=>by have:=(Array.getElem?_eq_some_iff.1 hi).1; omega) (h.same i o hi ho) ho⟩
theorem DefOk.but {B l:Nat} {w w':World} (k:KeepsBut l w w') (hl:∀ ds,w.heap[l]?≠some (.deferred ds)):∀ {ds:List Deferred},DefOk B w ds→DefOk B w' ds
  | [],_=>trivial
  | _::_,⟨⟨D,h1,h2,h3,h4⟩,h5⟩=>⟨⟨D,h1,h2,k.same _ _ (fun e=>hl _ (e ▸ h3)) h3 rfl,h4⟩,h5.but k hl⟩
def SameCells (w w':World):Prop:=∀ (b:Nat) o,w.heap[b]?=some o→lies o=true→w'.heap[b]?=some o
theorem SameCells.keeps {w w':World} (h:SameCells w w') (S:Cells):Keeps S w w':=by
  refine⟨fun b i v _ hv=>?_,fun b s hs=>?_⟩
  ·unfold World.cell? at hv ⊢
   cases hb:w.heap[b]? with
   | none=>simp[hb] at hv
   | some o =>
     cases o with
     | cells cur ty fz=>rw[h b _ hb rfl]; rw[hb] at hv; exact hv
     | _=>simp[hb] at hv
  ·unfold World.shape? at hs ⊢
   cases hb:w.heap[b]? with
   | none=>simp[hb] at hs
   | some o =>
     cases o with
     | cells cur ty fz=>rw[h b _ hb rfl]; rw[hb] at hs; exact hs
     | _=>simp[hb] at hs
theorem SameCells.put {w:World} {l:Nat} {o o':Obj} (hl:w.heap[l]?=some o) (ho:lies o=false):SameCells w (w.putObj l o'):=fun b x hb hx=>by
  refine (World.putObj_heap_other fun e=>?_).trans hb
  subst e; rw[hl] at hb; cases hb; rw[ho] at hx; cases hx
theorem below_put {B:Nat} {w:World} {l:Nat} {o:Obj} (o':Obj) (hl:B≤l) (h:w.heap[l]?=some o):Below B w (w.putObj l o') :=
  (Below.refl B w).grown (grownBy_putObj' w l o') (by have:=(Array.getElem?_eq_some_iff.1 h).1; omega) (fun k e=>by cases e; omega)
theorem Inv.turn (h:Inv G N Sin w0 σ a w S m) {w':World} (hc:SameCells w w') (hsz:w.heap.size≤w'.heap.size) {w1:Gh} (e1:w1.toWorld=w0.toWorld) (below:Bel w0.heap.size w0.ext w0 w') {a':Act} (hts:a'.tmps.size=a.tmps.size)
    (ht:∀ t,σ.f t=.undef∨a'.tmps.getD t undef=a.tmps.getD t undef) (hdef:DefOk w0.heap.size w' a'.defers) (oth:KeepsO w1.wo w') (kso:Keeps w1.so w1.wo w') (sso:∀ b i,w1.so b i→S b i) (fix:∀ t v,w1.fx t=some v→a'.tmps.getD t undef=v) (e2:w1.ext=w0.ext:=by rfl) :
    Inv G N Sin w1 σ a' w' S m:=by
  have k:=hc.keeps S
  have hmay:w1.may=w0.may:=by unfold Gh.may; rw[e1,e2]
  refine⟨hts.trans h.size,by rw[e1]; exact hdef,fun t=>?_,h.used,fun id o ho=>?_,h.inj,fun b i hs=>?_,h.sub,h.glob.step k (fun _ _ h=>h),by rw[e1,e2]; exact below,oth,kso,sso,fix⟩
  ·rcases ht t with e | e
   ·rw[e]; trivial
   ·rw[e]; exact (h.slot t).keep k
  ·refine⟨?_,(h.obj id o ho).2⟩
   rw[hmay]
   refine (h.obj id o ho).1.step k (fun _ _ h=>h) (fun _ _=>rfl) rfl fun b s hm=>⟨?_,(h.obj id o ho).1.apart hm⟩
   have:=(h.obj id o ho).1
   unfold ObjOk at this
   rw[hm] at this
   obtain⟨_,_,_,cur,ty,fz,h4,_⟩:=this
   obtain⟨x,h5,h6⟩:∃ x,w.heap[b]?=some x∧lies x=true:=by
     cases o with
     | row s es=>exact⟨_,h4,rfl⟩
     | box cs=>exact⟨_,h4,rfl⟩
     | mp q es=>obtain⟨E,c,h5,_⟩:=h4; exact⟨_,h5,rfl⟩
   rw[hc b x h5 h6,h5]
  ·rw[hmay]
   exact⟨Nat.lt_of_lt_of_le (h.sin b i hs).1 hsz,(h.sin b i hs).2⟩
theorem Inv.puts:∀ {ps:List Nat} {us:List Value} {r:List D} {σ:St} {a:Act},Inv G N Sin w0 σ a w S m→All2 (fun v x=>RW (fun _=>none) S w v (.c (.d x))) us r→(∀ t∈ps,t<N∧w0.fx t=none)→r.length=ps.length →
    Inv G N Sin w0 ⟨parsL σ.f ps r,σ.h,σ.u⟩ { a with tmps:=(ps.zip us).foldl (fun t p=>t.setIfInBounds p.1 p.2) a.tmps } w S m
  | [],us,r,σ,a,h,hr,_,hl=>by
    have:r=[]:=List.length_eq_zero_iff.1 hl
    subst this
    exact h
  | p::ps,us,r,σ,a,h,hr,hp,hl=>by
    cases hr with
    | nil=>cases hl
    | cons h1 h2 =>
      have:=h.put (some p) (fun t e=>by cases e; exact hp p (by simp)) (RV.mono (S:=S) (fun _ _ h=>h) (x:=vd _) (RW.congr h1 (fun i hi=>by cases hi))) (fun i hi=>by cases hi)
      exact this.puts h2 (fun t ht=>hp t (by simp[ht])) (by simpa using hl)
theorem range_sound {g:Operand} {ps:Array Tmp} {asg body:Code} {x:SX} {sa sb:SCode} (hx:compX g=some x) (hps:∀ t∈ps.toList,t<N)
    (ha:∀ {w1:Gh} {r:Option Nat} {n:Nat} {Q':AX→St→Prop} {Q:Exit→Act→World→Prop} {σ:St} {a:Act} {w:World} {S:Cells} {m:Mp},(∀ t∈sa.writes,w1.fx t=none)→Post G N Sin w1 Q' Q→Inv G N Sin w1 σ a w S m→awp P G sa Q' σ→asg.wpIn (Fr r) n P Q a w)
    (hb:∀ {w1:Gh} {r:Option Nat} {n:Nat} {Q':AX→St→Prop} {Q:Exit→Act→World→Prop} {σ:St} {a:Act} {w:World} {S:Cells} {m:Mp},(∀ t∈sb.writes,w1.fx t=none)→Post G N Sin w1 Q' Q→Inv G N Sin w1 σ a w S m→awp P G sb Q' σ→body.wpIn (Fr r) n P Q a w)
    {n:Nat} {Q':AX→St→Prop} {Q:Exit→Act→World→Prop} (hp:Post G N Sin w0 Q' Q) (h:Inv G N Sin w0 σ a w S m) (e:awp P G (.rangeF x ps.toList sa sb) Q' σ):(Code.rangeFunc g ps asg body).wpIn (Fr none) n P Q a w:=by
  obtain⟨gf,caps,xs,f0,h0,u0,I,hev,hseq,hlen,hent,hun,hI0,hround,hdone⟩:=e
  have hop:RV m S w (a.eval g) (ev G σ.f x):=(h.operand hx).1
  rw[hev] at hop
  obtain⟨lb,hg,hlb⟩:=reads_fn_inv (show Reads S w (a.eval g) (.fn gf caps) from hop)
  obtain⟨m0,hinv0⟩:=h.ent hent
  refine wpIn_rangeFunc fun fn hfn=>?_
  obtain⟨rec,hrec⟩:∃ rec:LoopState→Option Code→Loop,rec=fun st pe=>{ state:=st,pending:=pe,fn,tmps:=a.tmps,params:=ps,assign:=asg,body,defers:=w.heap.size }:=⟨_,rfl⟩
  obtain⟨W1,hW1⟩:∃ W1,(w.alloc (.deferred (some []))).alloc (.loop (rec .ready none))=W1:=⟨_,rfl⟩
  obtain⟨a2,ha2⟩:∃ a2:Act,{ a with defers:={ target:=.collected w.heap.size,args:=#[] }::a.defers }=a2:=⟨_,rfl⟩
  have hL1:W1.heap[w.heap.size+1]?=some (.loop (rec .ready none)):=by
    rw[← hW1]; have:=World.alloc_heap_new (w.alloc (.deferred (some []))) (.loop (rec .ready none)); rwa [World.size_alloc] at this
  have hK1:W1.heap[w.heap.size]?=some (.deferred (some [])):=by
    rw[← hW1]; exact (Below.heap_alloc _ _ _ (by simp)).trans (World.alloc_heap_new w _)
  have hold:∀ b,b<w.heap.size→W1.heap[b]?=w.heap[b]?:=fun b hlt=>by
    rw[← hW1]; exact (Below.heap_alloc _ _ _ (by simp; omega)).trans (Below.heap_alloc w _ b hlt)
  have hs1:W1.heap.size=w.heap.size+2:=by rw[← hW1]; simp
  have hko1:KeepsO w W1:=keepsO_heap hold (by omega)
  have hw0:w0.heap.size≤w.heap.size:=h.bsize
  have hbel1:Bel w0.heap.size w0.ext w0 W1:=by
    rw[← hW1]; exact (h.below.step (Nat.le_refl _) ((Below.refl _ _).alloc (Nat.le_refl _) _)).step (Nat.le_refl _) ((Below.refl _ _).alloc (Nat.le_refl _) _)
  have hsame1:SameCells w W1:=fun b x hb _=>(hold b (Array.getElem?_eq_some_iff.1 hb).1).trans hb
  have hinv1:Inv G N Sin w0 ⟨f0,h0,u0⟩ a2 W1 S m0:=by
    subst ha2
    refine hinv0.turn hsame1 (by omega) rfl hbel1 rfl (fun t=>.inr rfl) ⟨⟨w.heap.size,rfl,hw0,hK1,fun d' hd' e=>?_⟩,h.defers.keep hko1⟩ (h.oth.trans hko1) ?_ h.sso h.fix
    ·have key:∀ {ds:List Deferred},DefOk w0.heap.size w ds→d'∈ds→d'.target≠.collected w.heap.size:=by
       intro ds
       induction ds with
       | nil=>intro _ h; cases h
       | cons d ds ih =>
         rintro⟨⟨D,h1,h2,h3,h4⟩,h5⟩ hm e
         rcases List.mem_cons.1 hm with rfl | hm
         ·rw[h1] at e
          simp only[Target.collected.injEq] at e
          have:=(Array.getElem?_eq_some_iff.1 h3).1
          omega
         ·exact ih h5 hm e
     exact key h.defers hd' e
    ·exact h.kso.trans (hsame1.keeps _)
  have hat:a2.tmps=a.tmps:=by subst ha2; rfl
  refine⟨w.heap.size+1,[{ target:=.collected w.heap.size,args:=#[] }],W1,{ target:=.fn (.func gf) lb.toArray,args:=#[.func (.yield (w.heap.size+1)) #[] #[]] },W1,gf,
    #[.func (.yield (w.heap.size+1)) #[] #[]]++lb.toArray,W1,?_,?_,fun _ _=>trivial,?_,fun h=>(by cases h),?_⟩
  ·rw[← hW1,hrec]; exact run_enterLoop_outer _ _ _ _ _
  ·simp only[resolve,hg]
   simp[go_sem]
  ·simp[invoke,go_sem,hseq.1]
  ·
   obtain⟨J,hJ⟩:∃ J:LoopState→Option Code→(Heap→(Nat→Bool)→Prop)→World→Prop,J=fun st pe R W =>
     ∃ h u S' m',R h u∧Inv G N Sin w0 ⟨f0,h,u⟩ a2 W S' m'∧W.heap[w.heap.size+1]?=some (.loop (rec st pe))∧(∀ b i,S b i→S' b i)∧Keeps S W1 W∧W1.heap.size≤W.heap.size:=⟨_,rfl⟩
   have Jgrow:∀ st pe R W W',J st pe R W→Below W.heap.size W W'→J st pe R W':=by
     intro st pe R W W' hj hbl
     rw[hJ] at hj ⊢
     obtain⟨h',u',S',m',k1,k2,k3,k4,k5,k6⟩:=hj
     have hb:∀ b,b<W.heap.size→W'.heap[b]?=W.heap[b]?:=fun b hlt=>hbl.block b hlt
     refine⟨h',u',S',m',k1,k2.grow hb (k2.below.step (Nat.le_refl _) hbl) hbl.size,(hb _ (Array.getElem?_eq_some_iff.1 k3).1).trans k3,k4,k5.trans (keeps_of_heap (fun b i hs=>(k2.sin b i (k4 b i hs)).1) hb),Nat.le_trans k6 hbl.size⟩
   have key:=hseq.2 (n-1) W1 S lb (fun b i hs=>by have:=(h.sin b i hs).1; omega) (h.glob.step (hsame1.keeps S) (fun _ _ h=>h)) ?_ (w.heap.size+1) (fun k=>J .ready none (I k)) (fun W=>∃ c:AX,J .done (some c.toCode) (fun h u=>Q' c ⟨f0,h,u⟩∧c≠.nrm) W) ?_ (fun k W W'=>Jgrow _ _ _ W W') (fun W W'=>?_) ?_ ?_
   ·refine CallsIn.mono key ?_
    rintro e W2 ⟨⟨v,rfl⟩,hj | ⟨c,hj⟩⟩
    ·rw[hJ] at hj
     obtain⟨h',u',S',m',k1,k2,k3,k4,k5,k6⟩:=hj
     refine⟨none,_,by have:=run_endLoop (P:=P) k3 (by rw[hrec]; simp); rw[hrec] at this; exact this,?_⟩
     show Q .normal { a with defers:=[{ target:=.collected w.heap.size,args:=#[] }]++a.defers } _
     rw[List.singleton_append,ha2]
     refine hp .nrm _ _ _ S' m' (hdone h' u' k1) (k2.turn (SameCells.put k3 rfl) (grownBy_putObj' _ _ _).size rfl (k2.below.trans (Bel.of (below_put _ (by omega) k3))) rfl (fun t=>.inr rfl) (k2.defers.but (KeepsBut.put _ _ _) fun ds e=>by rw[k3] at e; cases e)
       ((KeepsBut.old k2.oth (KeepsBut.put _ _ _) (by have:=h.oth.size; omega))) (k2.kso.trans ((SameCells.put k3 rfl).keeps _)) k2.sso k2.fix)
    ·rw[hJ] at hj
     obtain⟨h',u',S',m',⟨k1,kc⟩,k2,k3,k4,k5,k6⟩:=hj
     refine⟨some c.toCode,_,by have:=run_endLoop (P:=P) k3 (by rw[hrec]; simp); rw[hrec] at this; exact this,?_⟩
     show c.toCode.wpIn (Fr none) n P Q { a with defers:=[{ target:=.collected w.heap.size,args:=#[] }]++a.defers } _
     rw[List.singleton_append,ha2]
     have hq:=hp c _ _ _ S' m' k1 (k2.turn (SameCells.put (o':=.loop { rec .done (some c.toCode) with state:=.exhausted }) k3 rfl) (grownBy_putObj' _ _ _).size rfl (k2.below.trans (Bel.of (below_put _ (by omega) k3))) rfl (fun t=>.inr rfl) (k2.defers.but (KeepsBut.put _ _ _) fun ds e=>by rw[k3] at e; cases e)
       ((KeepsBut.old k2.oth (KeepsBut.put _ _ _) (by have:=h.oth.size; omega))) (k2.kso.trans ((SameCells.put k3 rfl).keeps _)) k2.sso k2.fix)
     rw[hrec] at hq
     cases c with
     | nrm=>exact absurd rfl kc
     | ex id=>exact wpIn_exit hq
     | ret=>exact wpIn_ret hq
   ·refine hlb.weak fun v d _ _ hr=>?_
    exact Reads.rw (hr.keep (hsame1.keeps S))
   ·intro k W hj
    rw[hJ] at hj
    obtain⟨h',u',S',m',k1,k2,k3,k4,k5,k6⟩:=hj
    exact⟨k5,k6⟩
   ·rintro⟨c,hj⟩ hbl
    exact⟨c,Jgrow _ _ _ W W' hj hbl⟩
   ·
    intro k r W us hr hj hus
    rw[hJ] at hj
    obtain⟨h',u',S',m',k1,k2,k3,k4,k5,k6⟩:=hj
    have hrl:r.length=ps.toList.length:=hlen r (List.mem_of_getElem? hr)
    have hul:us.length=ps.toList.length:=hus.length.trans hrl
    have hy:=run_yield (P:=P) (args:=us.toArray) k3 (by rw[hrec]; simpa using hul)
    rw[hrec] at hy
    obtain⟨wr,hwr⟩:∃ wr,wr=ps.toList++sa.writes++sb.writes:=⟨_,rfl⟩
    let fx:Nat→Option Value:=fun t=>if t∈wr then none else some (a.tmps.getD t undef)
    have hfx:∀ t∈wr,fx t=none:=fun t ht=>if_pos ht
    let wA:Gh:={ w0 with wo:=W,so:=S',fx:=fx }
    have hfold:(ps.zip us.toArray).foldl (fun tmps (x:Tmp×Value)=>tmps.setIfInBounds x.1 x.2) a.tmps=(ps.toList.zip us).foldl (fun t p=>t.setIfInBounds p.1 p.2) a.tmps:=by
      rw[← Array.foldl_toList]; simp
    have hinvA:Inv G N Sin wA ⟨parsL f0 ps.toList r,h',u'⟩ { tmps:=(ps.zip us.toArray).foldl (fun tmps (x:Tmp×Value)=>tmps.setIfInBounds x.1 x.2) a.tmps,defers:=[] } W S' m':=by
      rw[hfold]
      have:=k2.turn (w1:=wA) (a':={ tmps:=a.tmps,defers:=[] }) (w':=W) (fun _ _ h _=>h) (Nat.le_refl _) rfl k2.below (by rw[hat]) (fun t=>.inr (by rw[hat])) trivial (KeepsO.refl W) (Keeps.refl _ _) (fun _ _ h=>h) (fun t v ht=>by
        have ht':fx t=some v:=ht
        simp only[fx] at ht'
        split at ht'
        ·cases ht'
        ·cases ht'; rfl)
      refine this.puts (hus.weak fun v d _ _ hv=>RW.mono k4 hv) (fun t ht=>⟨hps t ht,hfx t ?_⟩) hrl
      rw[hwr]; simp[ht]
    refine⟨fn,_,asg,body,hy,roundIn_of_wpIn trivial ?_⟩
    refine ha (w1:=wA) (r:=some (w.heap.size+1)) (fun t ht=>hfx t (by rw[hwr]; simp[ht])) ?_ hinvA (hround k r h' u' hr k1)
    rintro e1 σ1 a1 V1 S1 m1 q1 hinv1'
    cases e1 with
    | ex id=>exact q1.elim
    | ret=>exact q1.elim
    | nrm =>
      have hl1:V1.heap[w.heap.size+1]?=some (.loop (rec .ready none)):=hinv1'.oth.same _ _ k3 rfl
      refine⟨_,run_beginRound hl1 (by rw[hrec]),?_⟩
      obtain⟨V2,hV2⟩:∃ V2,V1.putObj (w.heap.size+1) (.loop { rec .ready none with state:=.busy })=V2:=⟨_,rfl⟩
      rw[hV2]
      have hl2:V2.heap[w.heap.size+1]?=some (.loop { rec .ready none with state:=.busy }):=by rw[← hV2]; exact World.putObj_heap_same (Array.getElem?_eq_some_iff.1 hl1).1
      have hsc2:SameCells V1 V2:=by rw[← hV2]; exact SameCells.put hl1 rfl
      have hkb2:KeepsBut (w.heap.size+1) V1 V2:=by rw[← hV2]; exact KeepsBut.put _ _ _
      let wB:Gh:={ w0 with wo:=V2,so:=S1,fx:=fx }
      have hbelB:Bel w0.heap.size w0.ext w0 V2:=by
        rw[← hV2]; exact Bel.trans (show Bel w0.heap.size w0.ext w0 V1 from hinv1'.below) (Bel.of (below_put _ (by omega) hl1))
      have hinvB:Inv G N Sin wB σ1 a1 V2 S1 m1:=by
        exact hinv1'.turn (w1:=wB) hsc2 hkb2.size rfl hbelB rfl (fun t=>.inr rfl) (hinv1'.defers.but hkb2 fun ds e=>by rw[hl1] at e; cases e) (KeepsO.refl V2) (Keeps.refl _ _) (fun _ _ h=>h) hinv1'.fix
      refine hb (w1:=wB) (r:=some (w.heap.size+1)) (fun t ht=>hfx t (by rw[hwr]; simp[ht])) ?_ hinvB q1
      rintro e2 σ2 a3 V3 S3 m3 q2 hinv3
      have hl3:V3.heap[w.heap.size+1]?=some (.loop { rec .ready none with state:=.busy }):=hinv3.oth.same _ _ hl2 rfl
      have fin:∀ (st:LoopState) (pe:Option Code) (R:Heap→(Nat→Bool)→Prop) (h2:Heap) (u2:Nat→Bool),R h2 u2→Ent σ2 ⟨f0,h2,u2⟩→J st pe R (V3.putObj (w.heap.size+1) (.loop (rec st pe))):=by
        intro st pe R h2 u2 hR hent2
        obtain⟨m4,hinv4⟩:=hinv3.ent hent2
        have hsc4:SameCells V3 (V3.putObj (w.heap.size+1) (.loop (rec st pe))):=SameCells.put hl3 rfl
        have hkb:KeepsBut (w.heap.size+1) W (V3.putObj (w.heap.size+1) (.loop (rec st pe))) :=
          ((KeepsBut.of hinv1'.oth).trans hkb2).trans ((KeepsBut.of hinv3.oth).trans (KeepsBut.put _ _ _))
        have hkp:Keeps S' W (V3.putObj (w.heap.size+1) (.loop (rec st pe))):=by
          have c1:Keeps S' W V1:=hinv1'.kso
          have c2:Keeps S' V1 V2:=hsc2.keeps _
          have c3:Keeps S1 V2 V3:=hinv3.kso
          have c4:Keeps S' V3 _:=hsc4.keeps _
          exact ((c1.trans c2).trans ⟨fun b i v hs hv=>c3.cell b i v (hinv1'.sso b i hs) hv,c3.shape⟩).trans c4
        rw[hJ]
        refine⟨h2,u2,S3,m4,hR,?_,World.putObj_heap_same (Array.getElem?_eq_some_iff.1 hl3).1,fun b i hs=>hinv3.sso b i (hinv1'.sso b i (k4 b i hs)),k5.trans ⟨fun b i v hs hv=>hkp.cell b i v (k4 b i hs) hv,hkp.shape⟩,Nat.le_trans k6 hkb.size⟩
        have hbel4:Bel w0.heap.size w0.ext w0 (V3.putObj (w.heap.size+1) (.loop (rec st pe))):=Bel.trans (show Bel w0.heap.size w0.ext w0 V3 from hinv3.below) (Bel.of (below_put _ (by omega) hl3))
        refine hinv4.turn (w1:=w0) hsc4 (grownBy_putObj' _ _ _).size rfl hbel4 (by rw[hat,h.size]; exact hinv3.size.symm) (fun t=>?_) (k2.defers.but hkb fun ds e=>by rw[k3] at e; cases e) (KeepsBut.old k2.oth hkb (by have:=h.oth.size; omega))
          (k2.kso.trans ⟨fun b i v hs hv=>hkp.cell b i v (k2.sso b i hs) hv,hkp.shape⟩) (fun b i hs=>hinv3.sso b i (hinv1'.sso b i (k2.sso b i hs))) (fun t v ht=>?_)
        ·by_cases hm:t∈wr
         ·left; exact hun t (by rw[← hwr]; exact hm)
         ·right
          rw[hat]
          exact (hinv3.fix t (a.tmps.getD t undef) (if_neg hm)).symm
        ·rw[hat]; exact h.fix t v ht
      have hend:=fun (jump:Option Code)=>run_endRound (P:=P) jump hl3
      cases e2 with
      | nrm =>
        obtain⟨h2,u2,hent2,hI2⟩:=q2
        refine⟨_,_,hend none,.inl ⟨rfl,?_⟩⟩
        have:=fin .ready none (I (k+1)) h2 u2 hI2 hent2
        rw[hrec] at this ⊢
        exact this
      | ex id =>
        obtain⟨h2,u2,hent2,hI2⟩:=q2
        refine⟨_,_,hend (some (.exit id)),.inr ⟨rfl,.ex id,?_⟩⟩
        have:=fin .done (some (.exit id)) (fun h u=>Q' (.ex id) ⟨f0,h,u⟩∧AX.ex id≠.nrm) h2 u2 ⟨hI2,by simp⟩ hent2
        rw[hrec] at this ⊢
        exact this
      | ret =>
        obtain⟨h2,u2,hent2,hI2⟩:=q2
        refine⟨_,_,hend (some .ret),.inr ⟨rfl,.ret,?_⟩⟩
        have:=fin .done (some .ret) (fun h u=>Q' .ret ⟨f0,h,u⟩∧AX.ret≠.nrm) h2 u2 ⟨hI2,by simp⟩ hent2
        rw[hrec] at this ⊢
        exact this
   ·rw[hJ]
    exact⟨h0,u0,S,m0,hI0,hinv1,hL1,fun _ _ h=>h,Keeps.refl _ _,Nat.le_refl _⟩
theorem code_sound:∀ (c:Code) {inr:Bool} {sc:SCode},compCode P H N inr c=some sc→∀ {r:Option Nat} {n:Nat} {w0:Gh} {Q':AX→St→Prop} {Q:Exit→Act→World→Prop} {σ:St} {a:Act} {w:World} {S:Cells} {m:Mp},(inr=false→r=none)→(∀ t∈sc.writes,w0.fx t=none)→Post G N Sin w0 Q' Q→Inv G N Sin w0 σ a w S m→awp P G sc Q' σ→c.wpIn (Fr r) n P Q a w
  | .skip,inr,sc,hc,r,n,w0,Q',Q,σ,a,w,S,m,hr,hf,hp,h,e=>by
    simp only[compCode,Option.some.injEq] at hc
    subst hc
    exact wpIn_skip (hp _ _ _ _ _ _ e h)
  | .region id ops draws,inr,sc,hc,r,n,w0,Q',Q,σ,a,w,S,m,hr,hf,hp,h,e=>by
    simp only[compCode] at hc
    split at hc
    case h_2=>split at hc <;> cases hc; exact False.elim e
    rename_i cs hcs
    cases hc
    refine region_sound hcs (fun so hs t ht=>hf t (List.mem_filterMap.2 ⟨so,hs,ht⟩)) h e ?_
    rintro a1 w1 ⟨σ1,S1,m1,k1,k2⟩
    exact hp _ _ _ _ _ _ k1 k2
  | .seq x y,inr,sc,hc,r,n,w0,Q',Q,σ,a,w,S,m,hr,hf,hp,h,e=>by
    simp only[compCode] at hc
    split at hc
    ·rename_i x' y' hx hy
     cases hc
     refine wpIn_seq (code_sound x hx hr (fun t ht=>hf t (List.mem_append_left _ ht)) ?_ h e)
     intro ax σ1 a1 w1 S1 m1 k1 k2
     cases ax with
     | nrm=>exact code_sound y hy hr (fun t ht=>hf t (List.mem_append_right _ ht)) hp k2 k1
     | ex id=>exact hp _ _ _ _ _ _ k1 k2
     | ret=>exact hp _ _ _ _ _ _ k1 k2
    ·cases hc
  | .cond x y z,inr,sc,hc,r,n,w0,Q',Q,σ,a,w,S,m,hr,hf,hp,h,e=>by
    simp only[compCode] at hc
    split at hc
    ·rename_i x' y' z' hx hy hz
     cases hc
     simp only[awp] at e
     cases ht:asB (ev G σ.f x') with
     | none=>rw[ht] at e; exact e.elim
     | some t =>
       rw[ht] at e
       have hv:=asB_ok (h.operand hx).1 ht
       exact wpIn_cond_split hv (fun g=>code_sound y hy hr (fun t ht=>hf t (List.mem_append_left _ ht)) hp h (e.1 g)) fun g=>code_sound z hz hr (fun t ht=>hf t (List.mem_append_right _ ht)) hp h (e.2 g)
    ·cases hc
  | .block id c,inr,sc,hc,r,n,w0,Q',Q,σ,a,w,S,m,hr,hf,hp,h,e=>by
    simp only[compCode,Option.map_eq_some_iff] at hc
    obtain⟨c',hcc,rfl⟩:=hc
    refine wpIn_block (code_sound c hcc hr hf ?_ h e)
    intro ax σ1 a1 w1 S1 m1 k1 k2
    cases ax with
    | nrm=>exact hp _ _ _ _ _ _ k1 k2
    | ex i =>
      show Exit.inBlock id Q (.exit i) a1 w1
      unfold Exit.inBlock
      simp only at k1 ⊢
      by_cases hi:i=id
      ·rw[if_pos hi] at k1 ⊢
       exact hp _ _ _ _ _ _ k1 k2
      ·rw[if_neg hi] at k1 ⊢
       exact hp _ _ _ _ _ _ k1 k2
    | ret=>exact hp _ _ _ _ _ _ k1 k2
  | .loop c,inr,sc,hc,r,n,w0,Q',Q,σ,a,w,S,m,hr,hf,hp,h,e=>by
    simp only[compCode,Option.map_eq_some_iff] at hc
    obtain⟨c',hcc,rfl⟩:=hc
    obtain⟨I,⟨n0,τ,he,hI⟩,hround⟩:=e
    obtain⟨m',hinv⟩:=h.ent he
    refine wpIn_loop_n (fun n a w=>∃ τ S m,I n τ∧Inv G N Sin w0 τ a w S m) ⟨τ,S,m',hI,hinv⟩ ?_
    rintro n a1 w1 ⟨τ,S1,m1,k1,k2⟩
    refine code_sound c hcc hr hf ?_ k2 (hround n τ k1)
    intro ax σ2 a2 w2 S2 m2 q1 q2
    cases ax with
    | nrm =>
      obtain⟨n',τ',g1,g2,g3⟩:=q1
      obtain⟨m3,hinv3⟩:=q2.ent g2
      exact⟨n',g1,τ',S2,m3,g3,hinv3⟩
    | ex i=>exact hp _ _ _ _ _ _ q1 q2
    | ret=>exact hp _ _ _ _ _ _ q1 q2
  | .exit id,inr,sc,hc,r,n,w0,Q',Q,σ,a,w,S,m,hr,hf,hp,h,e=>by
    simp only[compCode,Option.some.injEq] at hc
    subst hc
    exact wpIn_exit (hp _ _ _ _ _ _ e h)
  | .ret,inr,sc,hc,r,n,w0,Q',Q,σ,a,w,S,m,hr,hf,hp,h,e=>by
    simp only[compCode,Option.some.injEq] at hc
    subst hc
    exact wpIn_ret (hp _ _ _ _ _ _ e h)
  | .rangeFunc g ps x y,inr,sc,hc,r,n,w0,Q',Q,σ,a,w,S,m,hr,hf,hp,h,e=>by
    simp only[compCode] at hc
    split at hc
    ·rename_i hi
     obtain rfl:=hr hi.1
     split at hc
     ·rename_i g' x' y' hg hx hy
      cases hc
      refine range_sound hg (fun t ht=>?_) (fun hf=>code_sound x hx (fun h=>by cases h) hf) (fun hf=>code_sound y hy (fun h=>by cases h) hf) hp h e
      have:=hi.2
      rw[← Array.all_toList,List.all_eq_true] at this
      simpa using this t ht
     ·cases hc
    ·cases hc
  | .scope _,inr,sc,hc,r,n,w0,Q',Q,σ,a,w,S,m,hr,hf,hp,h,e=>by simp[compCode] at hc
  | .label _,inr,sc,hc,r,n,w0,Q',Q,σ,a,w,S,m,hr,hf,hp,h,e=>by simp[compCode] at hc
  | .goto _,inr,sc,hc,r,n,w0,Q',Q,σ,a,w,S,m,hr,hf,hp,h,e=>by simp[compCode] at hc
  | .refuse _,inr,sc,hc,r,n,w0,Q',Q,σ,a,w,S,m,hr,hf,hp,h,e=>by simp[compCode] at hc
def resF (tmps:Array Value):ResultVar→Sem Value
  | .tmp t=>pure (tmps.getD t undef)
  | .cell a t=>do loadVar t (← asAddr (tmps.getD a undef))
theorem res_one (h:Inv G N Sin w0 σ a w S m) {r:ResultVar} {l:Nat×Option Kd} (hc:compRes P r=some l) {x:W} (hx:resW σ l=some x):∃ u,(resF a.tmps r).run P w=.ok u w∧RW m S w u x∧∀ i∈x.ids,σ.u i=true:=by
  cases r with
  | tmp t =>
    simp only[compRes,Option.some.injEq] at hc
    subst hc
    obtain⟨h1,h2⟩:=asW_ok (h.slot t) hx
    refine⟨_,rfl,h1,fun i hi=>h.used t i ?_⟩
    rw[h2]; exact hi
  | cell t ty =>
    simp only[compRes,Option.map_eq_some_iff] at hc
    obtain⟨kd,hk,rfl⟩:=hc
    obtain⟨ad,us,h1,h2,h3,h4,h5⟩:=ld_ok h (h.slot t) hx
    refine⟨valOf kd us,?_,h4,h5⟩
    simp only[resF,h1,asAddr]
    simp[run_loadVar hk ad us h2 h3]
theorem res_all (h:Inv G N Sin w0 σ a w S m):∀ {rs:List ResultVar} {l:List (Nat×Option Kd)} {ws:List W},allSome (compRes P) rs=some l→allSome (resW σ) l=some ws→∃ us:List Value,(rs.mapM (resF a.tmps)).run P w=.ok us w∧All2 (RW m S w) us ws∧∀ i∈ws.flatMap W.ids,σ.u i=true
  | [],l,ws,h1,h2=>by
    simp only[allSome,Option.some.injEq] at h1
    subst h1
    simp only[allSome,Option.some.injEq] at h2
    subst h2
    exact⟨[],rfl,.nil,fun i hi=>by cases hi⟩
  | r::rs,l,ws,h1,h2=>by
    simp only[allSome] at h1
    split at h1
    ·rename_i y l' hy hl
     cases h1
     simp only[allSome] at h2
     split at h2
     ·rename_i x ws' hx hws
      cases h2
      obtain⟨u,k1,k2,k3⟩:=res_one h hy hx
      obtain⟨us,q1,q2,q3⟩:=res_all h hl hws
      refine⟨u::us,?_,.cons k2 q2,fun i hi=>?_⟩
      ·simp[List.mapM_cons,k1,q1]
      ·rw[List.flatMap_cons] at hi
       rcases List.mem_append.1 hi with hi | hi
       ·exact k3 i hi
       ·exact q3 i hi
     ·cases h2
    ·cases h1
theorem results_run (fn:Func) (tmps:Array Value):results fn tmps=(do let vs ← fn.results.mapM (resF tmps); pure (if h:vs.size=1 then vs[0] else .tuple vs)):=by
  unfold results
  congr 1
def Bls (σ:St) (m:Mp) (ids:List Nat) (bl:List Nat):Prop:=bl.Nodup∧∀ b∈bl,∃ id∈ids,∃ s,m id=some (b,s)∧σ.h id≠none
theorem Bls.append (h:Inv G N Sin w0 σ a w S m) {l1 l2 b1 b2:List Nat} (hn:(l1++l2).Nodup) (h1:Bls σ m l1 b1) (h2:Bls σ m l2 b2):Bls σ m (l1++l2) (b1++b2):=by
  refine⟨List.nodup_append.2 ⟨h1.1,h2.1,fun b hb c hc e=>?_⟩,fun b hb=>?_⟩
  ·subst e
   obtain⟨i,hi,s,e1,e2⟩:=h1.2 b hb
   obtain⟨j,hj,s',e3,e4⟩:=h2.2 b hc
   have:=h.inj i j b s s' e2 e4 e1 e3
   subst this
   exact (List.nodup_append.1 hn).2.2 i hi i hj rfl
  ·rcases List.mem_append.1 hb with hb | hb
   ·obtain⟨i,hi,r⟩:=h1.2 b hb
    exact⟨i,List.mem_append_left _ hi,r⟩
   ·obtain⟨i,hi,r⟩:=h2.2 b hb
    exact⟨i,List.mem_append_right _ hi,r⟩
theorem Bls.none (σ:St) (m:Mp) (ids:List Nat):Bls σ m ids []:=⟨.nil,fun b hb=>by cases hb⟩
theorem exC_ok (h:Inv G N Sin w0 σ a w S m) (hx:∀ b,¬ w0.ext b) {u:Value} {c r:C} (hv:RC m S w u c) (he:exC σ.h c r):∃ bl,ResC S w w0.heap.size u r bl∧Bls σ m c.ids bl:=by
  unfold exC at he
  split at he
  ·rename_i id sz off n sz' es
   obtain⟨rfl,rfl,he⟩:=he
   split at he
   ·rename_i o ho
    obtain⟨he1,he2⟩:=he
    cases o with
    | box cs=>exact he2.elim
    | mp q es=>exact he2.elim
    | row s0 es0 =>
      simp only[obSl] at he1
      split at he1
      ·rename_i hle
       cases he1
       have hv':OwnV m w u id _ 0 n:=hv
       have hob:=(h.obj id _ ho).1
       unfold OwnV at hv'
       unfold ObjOk at hob
       split at hv'
       ·obtain⟨⟨ad,rfl⟩,_,rfl⟩:=hv'
        exact⟨[],.inl ⟨⟨ad,rfl⟩,by simp,rfl⟩,Bls.none _ _ _⟩
       ·rename_i b sz2 hm
        obtain⟨rfl,ad,cap,ty,M,rfl,g2,g3,g4,g5,g6⟩:=hv'
        rw[hm] at hob
        obtain⟨k1,k2,k3,cur,ty',fz,k4,k5,k6⟩:=hob
        have had:=g4 (.inr rfl)
        rw[Nat.zero_mul] at had
        subst had
        have hlen:((es0.drop 0).take n).length=n:=by rw[List.length_take,List.drop_zero]; omega
        refine⟨[b],.inr ⟨b,cap,ty,M,rfl,by rw[hlen],by rw[hlen]; exact g2,g3,g5,by simpa using g6,k2.resolve_right (hx _),k3,cur,ty',fz,k4,k5,?_,fun i hi=>?_⟩,⟨by simp,fun b' hb'=>⟨id,by simp[C.ids],sz2,?_,by rw[ho]; simp⟩⟩⟩
        ·rw[hlen]
         exact Nat.le_trans (Nat.mul_le_mul_right _ (by omega)) k6.1
        ·have hi':i<es0.length:=by rw[hlen] at hi; omega
         have he:((es0.drop 0).take n)[i]=es0[i]:=by simp
         rw[he]
         exact k6.2 i hi'
        ·simp only[List.mem_singleton] at hb'
         rw[hb']; exact hm
      ·cases he1
   ·exact he.elim
  ·subst he
   exact⟨[],.inl ⟨hv,rfl,rfl⟩,Bls.none _ _ _⟩
  ·subst he
   refine⟨[],⟨?_,rfl⟩,Bls.none _ _ _⟩
   obtain⟨ad,rfl⟩:∃ ad,u=.slice ad 0 0:=hv
   exact Reads.zero ad
  ·subst he
   exact⟨[],⟨hv,rfl⟩,Bls.none _ _ _⟩
  ·exact he.elim
theorem exCs_ok (h:Inv G N Sin w0 σ a w S m) (hx:∀ b,¬ w0.ext b):∀ {us:List Value} {cs rs:List C},All2 (RC m S w) us cs→All2 (exC σ.h) cs rs→(cs.flatMap C.ids).Nodup→∃ bl,ResCs S w w0.heap.size us rs bl∧Bls σ m (cs.flatMap C.ids) bl
  | _,_,_,.nil,.nil,_=>⟨[],.nil,Bls.none _ _ _⟩
  | _,_,_,.cons h1 h2,.cons k1 k2,hn=>by
    rw[List.flatMap_cons] at hn ⊢
    obtain⟨b1,e1,e2⟩:=exC_ok h hx h1 k1
    obtain⟨b2,e3,e4⟩:=exCs_ok h hx h2 k2 (List.nodup_append.1 hn).2.1
    exact⟨b1++b2,.cons e1 e3,Bls.append h hn e2 e4⟩
theorem exW_ok (h:Inv G N Sin w0 σ a w S m) (hx:∀ b,¬ w0.ext b) {u:Value} {x r:W} (hv:RW m S w u x) (he:exW σ.h x r) (hn:x.ids.Nodup):∃ bl,ResW S w w0.heap.size u r bl∧Bls σ m x.ids bl:=by
  unfold exW at he
  split at he
  ·rename_i c d
   cases c with
   | d y =>
     cases d with
     | d z =>
       have:y=z:=he
       subst this
       cases y with
       | agg cs=>exact⟨[],⟨hv,rfl⟩,Bls.none _ _ _⟩
       | _=>exact⟨[],⟨hv,rfl⟩,Bls.none _ _ _⟩
     | _=>exact he.elim
   | nil =>
     obtain⟨bl,h1,h2⟩:=exC_ok (c:=.nil) h hx hv he
     refine⟨bl,?_,h2⟩
     cases d with
     | d z =>
       have:z=.sl []:=he
       subst this
       exact h1
     | _=>exact h1
   | own id sz off n =>
     obtain⟨bl,h1,h2⟩:=exC_ok (c:=.own id sz off n) h hx hv he
     refine⟨bl,?_,h2⟩
     cases d with
     | fr s es=>exact h1
     | _=>exact he.elim
   | _=>exact he.elim
  ·rename_i cs ds
   obtain⟨us,rfl,h2⟩:=hv
   obtain⟨bl,k1,k2⟩:=exCs_ok h hx h2 he hn
   exact⟨bl,⟨us,rfl,k1⟩,k2⟩
  ·rename_i cs ds
   obtain⟨us,h1,h2⟩:=pureW_ok (x:=.mix cs) hv (d:=.agg ds) (by simp[pureW,he])
   obtain⟨us',rfl,_⟩:=hv
   have:us'=us:=by simpa [Value.cells] using h1
   subst this
   exact⟨[],⟨⟨us',rfl,h2⟩,rfl⟩,Bls.none _ _ _⟩
  ·exact he.elim
theorem exWs_ok (h:Inv G N Sin w0 σ a w S m) (hx:∀ b,¬ w0.ext b):∀ {us:List Value} {ws rs:List W},All2 (RW m S w) us ws→All2 (exW σ.h) ws rs→(ws.flatMap W.ids).Nodup→∃ bl,ResWs S w w0.heap.size us rs bl∧Bls σ m (ws.flatMap W.ids) bl
  | _,_,_,.nil,.nil,_=>⟨[],.nil,Bls.none _ _ _⟩
  | _,_,_,.cons h1 h2,.cons k1 k2,hn=>by
    rw[List.flatMap_cons] at hn ⊢
    obtain⟨b1,e1,e2⟩:=exW_ok h hx h1 k1 (List.nodup_append.1 hn).1
    obtain⟨b2,e3,e4⟩:=exWs_ok h hx h2 k2 (List.nodup_append.1 hn).2.1
    exact⟨b1++b2,.cons e1 e3,Bls.append h hn e2 e4⟩
def oneOr (us:List Value):Value:=if h:us.toArray.size=1 then us.toArray[0] else .tuple us.toArray
theorem exD_one (h:Inv G N Sin w0 σ a w S m) {u:Value} {x:W} {d:D} (hv:RW m S w u x) (e:toW σ.h x=some d):ResW (Shat σ.h m S) w w0.heap.size u (.c (.d d)) []:=by
  have:=toW_ok h (T:=Shat σ.h m S) (fun _ _ h=>.inl h) (fun id _ o b s i h1 h2=>.inr ⟨id,o,s,h1,h2⟩) hv e
  cases d with
  | agg cs=>exact⟨this,rfl⟩
  | _=>exact⟨this,rfl⟩
theorem exD_all (h:Inv G N Sin w0 σ a w S m):∀ {us:List Value} {ws rs:List W},All2 (RW m S w) us ws→All2 (fun x z=>∃ d,z=.c (.d d)∧toW σ.h x=some d) ws rs→ResWs (Shat σ.h m S) w w0.heap.size us rs []
  | _,_,_,.nil,.nil=>.nil
  | _,_,_,.cons h1 h2,.cons k1 k2=>by
    obtain⟨d,rfl,e⟩:=k1
    exact .cons (b1:=[]) (b2:=[]) (exD_one h h1 e) (exD_all h h2 k2)
theorem ret_ok (h:Inv G N Sin w0 σ a w S m) (hx:∀ b,¬ w0.ext b) {us:List Value} {ws:List W} {res:V} (hv:All2 (RW m S w) us ws) (he:((ws.flatMap W.ids).Nodup∧exV σ.h ws res)∨exDs σ.h ws res) :
    ∃ S' bl,(∀ b i,S' b i→(Sin b i∨w0.heap.size≤b)∧b<w.heap.size)∧bl.Nodup∧ResV S' w w0.heap.size (oneOr us) res bl:=by
  have sin:∀ b i,S b i→(Sin b i∨w0.heap.size≤b)∧b<w.heap.size:=fun b i hs=>⟨(h.sin b i hs).2.imp id fun k=>k.resolve_right (hx b),(h.sin b i hs).1⟩
  have shat:∀ b i,Shat σ.h m S b i→(Sin b i∨w0.heap.size≤b)∧b<w.heap.size:=by
    rintro b i (hs | ⟨id,ob,s,ho,hm⟩)
    ·exact sin b i hs
    ·have hk:=(h.obj id ob ho).1
     refine⟨.inr ?_,hk.lt hm⟩
     unfold ObjOk at hk
     rw[hm] at hk
     exact hk.2.1.resolve_right (hx _)
  rcases he with ⟨hn,he⟩ | he
  ·unfold exV at he
   split at he
   ·rename_i x y
    cases hv with
    | cons h1 h2 =>
      cases h2
      have hids:x.ids.Nodup:=by simpa using hn
      obtain⟨bl,k1,k2⟩:=exW_ok h hx h1 he hids
      exact⟨S,bl,sin,k2.1,k1⟩
   ·rename_i x y r ws'
    have hl:=hv.length
    obtain⟨bl,k1,k2⟩:=exWs_ok h hx hv he hn
    refine⟨S,bl,sin,k2.1,us,?_,k1⟩
    unfold oneOr
    rw[dif_neg (by simp at hl ⊢; omega)]
   ·subst he
    cases hv
    exact⟨S,[],sin,.nil,[],rfl,.nil⟩
   ·exact he.elim
  ·unfold exDs at he
   split at he
   ·rename_i x d
    cases hv with
    | cons h1 h2 =>
      cases h2
      exact⟨_,[],shat,.nil,exD_one h h1 he⟩
   ·rename_i x y r ws'
    have hl:=hv.length
    refine⟨_,[],shat,.nil,us,?_,exD_all h hv he⟩
    unfold oneOr
    rw[dif_neg (by simp at hl ⊢; omega)]
   ·exact he.elim
theorem sameTurn (h:Inv G N Sin w0 σ a w S m) (hwo:w0.wo.heap.size≤w0.heap.size) {D:Nat} (hB:w0.heap.size≤D) (hD:w.heap[D]?=some (.deferred (some []))):Inv G N Sin w0 σ { a with defers:=[] } (w.putObj D (.deferred none)) S m :=
  h.turn (w1:=w0) (SameCells.put hD rfl) (grownBy_putObj' _ _ _).size rfl (h.below.trans (Bel.of (below_put _ hB hD))) rfl (fun t=>.inr rfl) trivial (KeepsBut.old h.oth (KeepsBut.put _ _ _) (Nat.le_trans hwo hB)) (h.kso.trans ((SameCells.put hD rfl).keeps _)) h.sso h.fix
theorem leave_marks {F:Fence} {n:Nat} {fn:Func} {R:Ending→World→Prop}:∀ {ds:List Deferred} {a:Act} {w:World},Inv G N Sin w0 σ a w S m→w0.wo.heap.size≤w0.heap.size→DefOk w0.heap.size w ds→(∀ (w':World) (a':Act),a'.tmps=a.tmps→Inv G N Sin w0 σ a' w' S m→∃ v,(results fn a.tmps).run P w'=.ok v w'∧R (.returned v) w')→LeavesInM F n P fn a.tmps R ds .returning w
  | [],a,w,h,_,_,k=>k w a rfl h
  | d::ds,a,w,h,hwo,⟨⟨D,h1,h2,h3,h4⟩,h5⟩,k=>by
    refine⟨by simp,.inl ⟨D,_,by rw[h1],run_takeDeferred h3,?_⟩⟩
    have hd:DefOk w0.heap.size (w.putObj D (.deferred none)) ds:=by
      have key:∀ {ds:List Deferred},DefOk w0.heap.size w ds→(∀ d'∈ds,d'.target≠.collected D)→DefOk w0.heap.size (w.putObj D (.deferred none)) ds:=by
        intro ds
        induction ds with
        | nil=>intro _ _; trivial
        | cons d ds ih =>
          rintro⟨⟨D',g1,g2,g3,g4⟩,g5⟩ hne
          refine⟨⟨D',g1,g2,?_,g4⟩,ih g5 fun d' hd'=>hne d' (by simp[hd'])⟩
          refine (World.putObj_heap_other fun e=>?_).trans g3
          exact hne d (by simp) (by rw[g1,e])
      exact key h5 h4
    have:=sameTurn h hwo h2 h3
    exact leave_marks (a:={ a with defers:=[] }) this hwo hd fun w' a' e2 hi=>k w' a' e2 hi
theorem den_of {f:FuncId} {fn:Func} {sf:SFn} (hf:P.funcs[f]?=some fn) (hc:compFn P H fn=some sf) {args:List D} {res:V} (hlen:args.length=sf.np)
    (e:awp P G sf.body (fun ax σ=>match ax with | .nrm=>RetOk σ sf.res res | .ret=>RetOk σ sf.res res | .ex _=>False) (entry args)):Den P G f args res:=by
  unfold compFn at hc
  split at hc
  ·rename_i c hb
   split at hc
   ·rename_i body rs hbody hres
    split at hc
    ·rename_i hnp
     cases hc
     intro w S vs hS hG hargs
     refine (callsIn_wide (n:=3)).1 (callsIn_of_wp_marks (F:=Fence.wide) hf hb trivial ?_)
     have hvl:vs.length=args.length:=hargs.length
     have hnp':vs.length≤fn.ntmps:=by simp only at hlen; omega
     have hsize:(vs.toArray++Array.replicate (fn.ntmps-vs.toArray.size) undef).size=fn.ntmps:=by simp; omega
     have hinv:Inv G fn.ntmps S (Gh.of w) (entry args) { tmps:=vs.toArray++Array.replicate (fn.ntmps-vs.toArray.size) undef,defers:=[] } w S (fun _=>none):=by
       refine⟨hsize,trivial,fun t=>?_,fun t i hi=>?_,fun id o ho=>(by cases ho),fun i j b s s' h1=>absurd rfl h1,fun b i hs=>⟨hS b i hs,.inl hs⟩,fun _ _ h=>h,hG,Bel.refl _ _ _,KeepsO.refl _,Keeps.refl _ _,fun _ _ h=>h.elim,fun t v h=>by cases h⟩
       ·simp only[entry]
        cases ht:args[t]? with
        | none=>trivial
        | some x =>
          obtain⟨v,h1,h2⟩:=hargs.get? ht
          have hlt:=(List.getElem?_eq_some_iff.1 h1).1
          have:(vs.toArray++Array.replicate (fn.ntmps-vs.toArray.size) undef).getD t undef=v:=by
            rw[Array.getD_eq_getD_getElem?,Array.getElem?_append_left (by simpa using hlt)]
            simp[h1]
          rw[this]
          exact h2
       ·simp only[entry] at hi
        split at hi <;> cases hi
     refine code_sound c hbody (r:=none) (fun _=>rfl) (fun t _=>rfl) ?_ hinv e
     intro ax σ a w1 S1 m q h
     have key:RetOk σ rs res→LeavesInM Fence.wide 3 P fn a.tmps (fun e w'=>∃ v S' bl,e=.returned v∧Below w.heap.size w w'∧(∀ b i,S' b i→(S b i∨w.heap.size≤b)∧b<w'.heap.size)∧bl.Nodup∧ResV S' w' w.heap.size v res bl) a.defers .returning w1:=by
       rintro⟨ws,hws,hex⟩
       refine leave_marks h (Nat.le_refl _) h.defers fun w2 a' e2 h=>?_
       rw[← e2]
       obtain⟨us,h1,h2,h3⟩:=res_all h hres hws
       obtain⟨S',bl,k1,k2,k3⟩:=ret_ok h (fun _ hx=>hx) h2 hex
       have hbel:Below w.heap.size w w2:=h.below.below fun _ _ hx=>hx
       refine⟨oneOr us,?_,_,S',bl,rfl,hbel,k1,k2,k3⟩
       rw[results_run]
       simp[Array.mapM_eq_mapM_toList,h1,oneOr]
     cases ax with
     | nrm=>exact key q
     | ret=>exact key q
     | ex _=>exact q.elim
    ·cases hc
   ·cases hc
  ·cases hc
end
theorem jR {a b : Prop} (l : a) (r : b) : a ∧ b := And.intro l r
def optK {α:Type} (o:Option α) (k:α→Prop):Prop:=match o with | some x=>k x | none=>False
theorem optK_some {α:Type} (x:α) (k:α→Prop):optK (some x) k=k x:=rfl
theorem optK_map {α β:Type} (o:Option α) (g:α→β) (k:β→Prop):optK (o.map g) k=optK o fun v=>k (g v):=by cases o <;> rfl
theorem optK_mk {α:Type} {o:Option α} {k:α→Prop} (x:α) (h:o=some x) (e:k x):optK o k:=by rw[h]; exact e
def strV:V→Option ByteArray | .w (.c (.d (.str s)))=>some s | _=>none
def tupV:V→Option (List W) | .tup ws=>some ws | _=>none
section
variable (P:Program) (G:Glob)
def seqQ (b:SCode) (Q:AX→St→Prop) (e:AX) (s:St):Prop:=match e with | .nrm=>awp P G b Q s | e=>Q e s
def blkQ (id:Nat) (Q:AX→St→Prop) (e:AX) (s:St):Prop:=match e with | .ex i=>if i=id then Q .nrm s else Q (.ex i) s | e=>Q e s
def endQ (l:List (Nat×Option Kd)) (res:V) (e:AX) (s:St):Prop:=match e with | .nrm=>RetOk s l res | .ret=>RetOk s l res | .ex _=>False
def cndK (a b:SCode) (Q:AX→St→Prop) (s:St) (t:Bool):Prop:=(t=true→awp P G a Q s)∧(t=false→awp P G b Q s)
def grdK (d:Option Nat) (o:SOp) (w:Bool) (r:List SOper) (K:St→Prop) (f:Nat→V) (h:Heap) (u:Nat→Bool) (t:Bool):Prop :=
  ((t==w)=true→aops P G (⟨d,o,none⟩::r) K ⟨f,h,u⟩)∧((t==w)=false→aops P G r K ⟨updO f d (.tup []),h,u⟩)
def guaK (d:Option Nat) (o:SOp) (w:Bool) (r:List SOper) (K:St→Prop) (f:Nat→V) (h:Heap) (u:Nat→Bool) (v:V):Prop :=
  match asB v with | some t=>grdK P G d o w r K f h u t | none=>v=.tup []∧aops P G r K ⟨updO f d (.tup []),h,u⟩
section
variable (d:Option Nat) (r:List SOper) (K:St→Prop) (f:Nat→V) (h:Heap) (u:Nat→Bool)
def goV (v:V):Prop:=aops P G r K ⟨updO f d v,h,u⟩
def goW (v:W):Prop:=aops P G r K ⟨updO f d (.w v),h,u⟩
def goC (v:C):Prop:=aops P G r K ⟨updO f d (.w (.c v)),h,u⟩
def goD (v:D):Prop:=aops P G r K ⟨updO f d (.w (.c (.d v))),h,u⟩
def goR (q:R):Prop:=aops P G r K ⟨updO f d q.1,q.2.1,q.2.2⟩
def goH (h':Heap):Prop:=aops P G r K ⟨updO f d .undef,h',u⟩
def goI (k:IntKind) (v:IntKind×Int):Prop:=aops P G r K ⟨updO f d (.w (.c (.d (.int k (k.wrap v.2))))),h,u⟩
def goN (n:Nat):Prop:=aops P G r K ⟨updO f d (.w (.c (.d (.int .i64 (n:Int))))),h,u⟩
def goB (s:ByteArray):Prop:=aops P G r K ⟨updO f d (.w (.c (.d (.int .i64 (s.size:Int))))),h,u⟩
def goP (y z:V) (t:Bool):Prop:=aops P G r K ⟨updO f d (bif t then y else z),h,u⟩
def goE1 (b p q:Bool):Prop:=aops P G r K ⟨updO f d (.w (.c (.d (.bool (bif b then !(p==q) else (p==q)))))),h,u⟩
def goE (b:Bool) (y:V) (p:Bool):Prop:=optK (asB y) (goE1 P G d r K f h u b p)
def goS (k:Kd) (x:V) (w:W):Prop:=optK (stV h k x w) (goH P G d r K f u)
def goF (o:Nat) (k:Kd) (cs:List C):Prop:=optK (prt cs o k) (goW P G d r K f h u)
def goA1 (s:Nat) (k:Kd) (cs:List C) (j:Nat):Prop:=optK (prt cs (j*s) k) (goW P G d r K f h u)
def goA (s n:Nat) (k:Kd) (y:SX) (cs:List C):Prop:=optK (idx (ev G f) y n) (goA1 P G d r K f h u s k cs)
def goM (cs:List C):Prop:=aops P G r K ⟨updO f d (.w (mkAgg cs)),h,u⟩
def goX (i:Nat) (ws:List W):Prop:=optK ws[i]? (goW P G d r K f h u)
end
end
section
variable {P:Program} {G:Glob} {Q:AX→St→Prop} {K:St→Prop} {r:List SOper} {f:Nat→V} {h:Heap} {u:Nat→Bool} {d:Option Nat} {x y z:SX}
theorem cndK_true (a b:SCode) (σ:St):cndK P G a b Q σ true=awp P G a Q σ:=by simp[cndK]
theorem cndK_false (a b:SCode) (σ:St):cndK P G a b Q σ false=awp P G b Q σ:=by simp[cndK]
theorem grdK_do (o:SOp) (w:Bool):grdK P G d o w r K f h u w=aops P G (⟨d,o,none⟩::r) K ⟨f,h,u⟩:=by simp[grdK]
theorem grdK_no1 (o:SOp):grdK P G d o true r K f h u false=aops P G r K ⟨updO f d (.tup []),h,u⟩:=by simp[grdK]
theorem grdK_no2 (o:SOp):grdK P G d o false r K f h u true=aops P G r K ⟨updO f d (.tup []),h,u⟩:=by simp[grdK]
theorem guaK_b (o:SOp) (w t:Bool):guaK P G d o w r K f h u (.w (.c (.d (.bool t))))=grdK P G d o w r K f h u t:=rfl
theorem guaK_gone (o:SOp) (w:Bool):guaK P G d o w r K f h u (.tup [])=aops P G r K ⟨updO f d (.tup []),h,u⟩:=by simp[guaK,asB]
theorem awp_skip (σ:St):awp P G .skip Q σ=Q .nrm σ:=rfl
theorem awp_reg (l:List SOper) (σ:St):awp P G (.reg l) Q σ=aops P G l (Q .nrm) σ:=rfl
theorem awp_seq (a b:SCode) (σ:St):awp P G (.seq a b) Q σ=awp P G a (seqQ P G b Q) σ:=by
  show awp P G a _ σ=_
  congr 1
theorem awp_cond (a b:SCode):awp P G (.cond x a b) Q ⟨f,h,u⟩=optK (asB (ev G f x)) (cndK P G a b Q ⟨f,h,u⟩):=by
  show (match asB (ev G f x) with | some t=>_ | none=>False)=_
  cases asB (ev G f x) <;> rfl
theorem awp_block (id:Nat) (c:SCode) (σ:St):awp P G (.block id c) Q σ=awp P G c (blkQ id Q) σ:=by
  show awp P G c _ σ=_
  congr 1
theorem awp_exit (id:Nat) (σ:St):awp P G (.exit id) Q σ=Q (.ex id) σ:=rfl
theorem awp_ret (σ:St):awp P G .ret Q σ=Q .ret σ:=rfl
theorem seqQ_nrm (b:SCode) (σ:St):seqQ P G b Q .nrm σ=awp P G b Q σ:=rfl
theorem seqQ_ex (b:SCode) (i:Nat) (σ:St):seqQ P G b Q (.ex i) σ=Q (.ex i) σ:=rfl
theorem seqQ_ret (b:SCode) (σ:St):seqQ P G b Q .ret σ=Q .ret σ:=rfl
theorem blkQ_nrm (id:Nat) (σ:St):blkQ id Q .nrm σ=Q .nrm σ:=rfl
theorem blkQ_ret (id:Nat) (σ:St):blkQ id Q .ret σ=Q .ret σ:=rfl
theorem blkQ_eq (id:Nat) (σ:St):blkQ id Q (.ex id) σ=Q .nrm σ:=by simp[blkQ]
theorem blkQ_ne (id i:Nat) (σ:St) (hn:(i==id)=false):blkQ id Q (.ex i) σ=Q (.ex i) σ:=by
  have:i≠id:=by simpa using hn
  simp[blkQ,this]
theorem endQ_nrm (l:List (Nat×Option Kd)) (res:V) (σ:St):endQ l res .nrm σ=RetOk σ l res:=rfl
theorem endQ_ret (l:List (Nat×Option Kd)) (res:V) (σ:St):endQ l res .ret σ=RetOk σ l res:=rfl
theorem aops_nil (σ:St):aops P G [] K σ=K σ:=rfl
theorem st_guard (s:SOp) (t:Nat) (b:Bool):aops P G (⟨d,s,some (t,b)⟩::r) K ⟨f,h,u⟩=guaK P G d s b r K f h u (f t):=by
  show (match asB (f t) with | some c=>_ | none=>_)=_
  unfold guaK
  cases asB (f t) with
  | none=>rfl
  | some c =>
    simp only[grdK]
    cases c <;> cases b <;> simp <;> rfl
def SOp.isCall:SOp→Bool | .call ..=>true | .callM ..=>true | _=>false
theorem st_ef (s:SOp) (hs:s.isCall=false):aops P G (⟨d,s,none⟩::r) K ⟨f,h,u⟩=optK (ef (ev G f) h u (d.getD 0) s) (goR P G d r K f):=by
  have key:∀ J:R→Prop,opw P G s (ev G f) h u (d.getD 0) J=optK (ef (ev G f) h u (d.getD 0) s) J:=by
    intro J
    have m:∀ o:Option R,(match o with | some r=>J r | none=>False)=optK o J:=fun o=>by cases o <;> rfl
    rw[← m]
    cases s <;> first | rfl | (simp[SOp.isCall] at hs; done)
  exact key _
theorem goV_do (v:V):goV P G d r K f h u v=aops P G r K ⟨updO f d v,h,u⟩:=rfl
theorem goW_do (v:W):goW P G d r K f h u v=aops P G r K ⟨updO f d (.w v),h,u⟩:=rfl
theorem goC_do (v:C):goC P G d r K f h u v=aops P G r K ⟨updO f d (.w (.c v)),h,u⟩:=rfl
theorem goD_do (v:D):goD P G d r K f h u v=aops P G r K ⟨updO f d (.w (.c (.d v))),h,u⟩:=rfl
theorem goR_do (v:V) (h':Heap) (u':Nat→Bool):goR P G d r K f (v,h',u')=aops P G r K ⟨updO f d v,h',u'⟩:=rfl
theorem goH_do (h':Heap):goH P G d r K f u h'=aops P G r K ⟨updO f d .undef,h',u⟩:=rfl
theorem goI_do (k k':IntKind) (n:Int):goI P G d r K f h u k (k',n)=aops P G r K ⟨updO f d (.w (.c (.d (.int k (k.wrap n))))),h,u⟩:=rfl
theorem goN_do (n:Nat):goN P G d r K f h u n=aops P G r K ⟨updO f d (.w (.c (.d (.int .i64 (n:Int))))),h,u⟩:=rfl
theorem goB_do (s:ByteArray):goB P G d r K f h u s=aops P G r K ⟨updO f d (.w (.c (.d (.int .i64 (s.size:Int))))),h,u⟩:=rfl
theorem goP_true (y z:V):goP P G d r K f h u y z true=aops P G r K ⟨updO f d y,h,u⟩:=rfl
theorem goP_false (y z:V):goP P G d r K f h u y z false=aops P G r K ⟨updO f d z,h,u⟩:=rfl
theorem goE1_t (p q:Bool):goE1 P G d r K f h u true p q=aops P G r K ⟨updO f d (.w (.c (.d (.bool (!(p==q)))))),h,u⟩:=rfl
theorem goE1_f (p q:Bool):goE1 P G d r K f h u false p q=aops P G r K ⟨updO f d (.w (.c (.d (.bool (p==q))))),h,u⟩:=rfl
theorem goE_do (b:Bool) (y:V) (p:Bool):goE P G d r K f h u b y p=optK (asB y) (goE1 P G d r K f h u b p):=rfl
theorem goS_do (k:Kd) (v:V) (w:W):goS P G d r K f h u k v w=optK (stV h k v w) (goH P G d r K f u):=rfl
theorem goF_do (o:Nat) (k:Kd) (cs:List C):goF P G d r K f h u o k cs=optK (prt cs o k) (goW P G d r K f h u):=rfl
theorem goA1_do (s:Nat) (k:Kd) (cs:List C) (j:Nat):goA1 P G d r K f h u s k cs j=optK (prt cs (j*s) k) (goW P G d r K f h u):=rfl
theorem goA_do (s n:Nat) (k:Kd) (w:SX) (cs:List C):goA P G d r K f h u s n k w cs=optK (idx (ev G f) w n) (goA1 P G d r K f h u s k cs):=rfl
theorem goM_do (cs:List C):goM P G d r K f h u cs=aops P G r K ⟨updO f d (.w (mkAgg cs)),h,u⟩:=rfl
theorem goX_do (i:Nat) (ws:List W):goX P G d r K f h u i ws=optK ws[i]? (goW P G d r K f h u):=rfl
theorem st_mv :aops P G (⟨d,.mv x,none⟩::r) K ⟨f,h,u⟩=aops P G r K ⟨updO f d (ev G f x),h,u⟩:=rfl
theorem st_lenArr (n:Nat):aops P G (⟨d,.lenArr n,none⟩::r) K ⟨f,h,u⟩=aops P G r K ⟨updO f d (.w (.c (.d (.int .i64 n)))),h,u⟩:=rfl
theorem st_pick :aops P G (⟨d,.pick x y z,none⟩::r) K ⟨f,h,u⟩=optK (asB (ev G f x)) (goP P G d r K f h u (ev G f y) (ev G f z)):=by
  rw[st_ef _ rfl]
  simp only[ef]
  cases asB (ev G f x) with
  | none=>rfl
  | some t=>cases t <;> rfl
theorem st_bin (op:BinOp):aops P G (⟨d,.bin op x y,none⟩::r) K ⟨f,h,u⟩=optK (binV op (ev G f x) (ev G f y)) (goD P G d r K f h u):=by
  rw[st_ef _ rfl]; exact optK_map _ _ _
theorem st_eqA (b:Bool) (ks:List Nat):aops P G (⟨d,.eqA b ks x y,none⟩::r) K ⟨f,h,u⟩=optK (eqV b ks (ev G f x) (ev G f y)) (goD P G d r K f h u):=by
  rw[st_ef _ rfl]; exact optK_map _ _ _
theorem st_un (op:UnOp):aops P G (⟨d,.un op x,none⟩::r) K ⟨f,h,u⟩=optK (unV op (ev G f x)) (goD P G d r K f h u):=by
  rw[st_ef _ rfl]; exact optK_map _ _ _
theorem st_conv (k:IntKind):aops P G (⟨d,.conv k x,none⟩::r) K ⟨f,h,u⟩=optK (asI (ev G f x)) (goI P G d r K f h u k):=by
  rw[st_ef _ rfl]; exact optK_map _ _ _
theorem st_eqB (b:Bool):aops P G (⟨d,.eqB b x y,none⟩::r) K ⟨f,h,u⟩=optK (asB (ev G f x)) (goE P G d r K f h u b (ev G f y)):=by
  rw[st_ef _ rfl]
  simp only[ef]
  cases hp:asB (ev G f x) with
  | none=>rfl
  | some p =>
    show _=optK (asB (ev G f y)) _
    cases asB (ev G f y) with
    | none=>rfl
    | some q=>cases b <;> rfl
theorem st_len :aops P G (⟨d,.len x,none⟩::r) K ⟨f,h,u⟩=optK (lenV' (ev G f x)) (goN P G d r K f h u):=by
  rw[st_ef _ rfl]; exact optK_map _ _ _
theorem st_lenStr :aops P G (⟨d,.lenStr x,none⟩::r) K ⟨f,h,u⟩=optK (strV (ev G f x)) (goB P G d r K f h u):=by
  rw[st_ef _ rfl]
  have:ef (ev G f) h u (d.getD 0) (.lenStr x)=(strV (ev G f x)).map fun s=>(vd (.int .i64 s.size),h,u):=by
    simp only[ef]
    unfold strV
    split
    ·rename_i e; rw[e]; rfl
    ·rename_i hn
     split
     ·rename_i e; exact absurd e (hn _)
     ·rfl
  rw[this]
  exact optK_map _ _ _
theorem st_load (k:Kd):aops P G (⟨d,.load k x,none⟩::r) K ⟨f,h,u⟩=optK (ldV h k (ev G f x)) (goW P G d r K f h u):=by
  rw[st_ef _ rfl]; exact optK_map _ _ _
theorem st_loadB (k:Kd):aops P G (⟨d,.loadB k x,none⟩::r) K ⟨f,h,u⟩=optK (ldB h k (ev G f x)) (goW P G d r K f h u):=by
  rw[st_ef _ rfl]; exact optK_map _ _ _
theorem st_loadX0 (k:Kd):aops P G (⟨d,.loadX k x [],none⟩::r) K ⟨f,h,u⟩=optK (ldX h k [] (ev G f x)) (goW P G d r K f h u):=by
  rw[st_ef _ rfl]; exact optK_map _ _ _
theorem st_loadX1 (k:Kd):aops P G (⟨d,.loadX k x [y],none⟩::r) K ⟨f,h,u⟩=optK (ldX h k [ev G f y] (ev G f x)) (goW P G d r K f h u):=by
  rw[st_ef _ rfl]; exact optK_map _ _ _
theorem st_loadX2 (k:Kd):aops P G (⟨d,.loadX k x [y,z],none⟩::r) K ⟨f,h,u⟩=optK (ldX h k [ev G f y,ev G f z] (ev G f x)) (goW P G d r K f h u):=by
  rw[st_ef _ rfl]; exact optK_map _ _ _
theorem st_store (k:Kd):aops P G (⟨d,.store k x y,none⟩::r) K ⟨f,h,u⟩=optK (asW (ev G f y)) (goS P G d r K f h u k (ev G f x)):=by
  rw[st_ef _ rfl]
  simp only[ef]
  cases asW (ev G f y) with
  | none=>rfl
  | some w=>exact optK_map _ _ _
theorem st_fieldAddr (o:Nat):aops P G (⟨d,.fieldAddr o x,none⟩::r) K ⟨f,h,u⟩=optK (fdV o (ev G f x)) (goC P G d r K f h u):=by
  rw[st_ef _ rfl]; exact optK_map _ _ _
theorem st_field (o:Nat) (k:Kd):aops P G (⟨d,.field o k x,none⟩::r) K ⟨f,h,u⟩=optK (aggV (ev G f x)) (goF P G d r K f h u o k):=by
  rw[st_ef _ rfl]
  simp only[ef]
  cases aggV (ev G f x) with
  | none=>rfl
  | some w=>exact optK_map _ _ _
theorem st_idxArr (s n:Nat) (k:Kd):aops P G (⟨d,.idxArr s n k x y,none⟩::r) K ⟨f,h,u⟩=optK (aggV (ev G f x)) (goA P G d r K f h u s n k y):=by
  rw[st_ef _ rfl]
  simp only[ef]
  cases aggV (ev G f x) with
  | none=>rfl
  | some w =>
    show _=optK (idx (ev G f) y n) _
    cases idx (ev G f) y n with
    | none=>rfl
    | some j=>exact optK_map _ _ _
theorem st_extract (i:Nat):aops P G (⟨d,.extract x i,none⟩::r) K ⟨f,h,u⟩=optK (tupV (ev G f x)) (goX P G d r K f h u i):=by
  rw[st_ef _ rfl]
  simp only[ef]
  cases ev G f x with
  | tup ws=>exact optK_map _ _ _
  | _=>rfl
theorem st_build (c:List C) (ps:List (Nat×Nat×SX)):aops P G (⟨d,.build c ps,none⟩::r) K ⟨f,h,u⟩=optK (parts (ev G f) ps c) (goM P G d r K f h u):=by
  rw[st_ef _ rfl]; exact optK_map _ _ _
theorem st_alloc (c:List C):aops P G (⟨d,.alloc c,none⟩::r) K ⟨f,h,u⟩=optK (ef (ev G f) h u (d.getD 0) (.alloc c)) (goR P G d r K f):=st_ef _ rfl
theorem st_allocArr (c:List D):aops P G (⟨d,.allocArr c,none⟩::r) K ⟨f,h,u⟩=optK (ef (ev G f) h u (d.getD 0) (.allocArr c)) (goR P G d r K f):=st_ef _ rfl
theorem st_nilOwn (s:Nat):aops P G (⟨d,.nilOwn s,none⟩::r) K ⟨f,h,u⟩=optK (ef (ev G f) h u (d.getD 0) (.nilOwn s)) (goR P G d r K f):=st_ef _ rfl
theorem st_box (m:Bx):aops P G (⟨d,.box m x,none⟩::r) K ⟨f,h,u⟩=optK (ef (ev G f) h u (d.getD 0) (.box m x)) (goR P G d r K f):=st_ef _ rfl
theorem st_bldSl (b:Bool) (n s:Nat) (c:D) (ps:List (Nat×SX)):aops P G (⟨d,.bldSl b n s c ps,none⟩::r) K ⟨f,h,u⟩=optK (ef (ev G f) h u (d.getD 0) (.bldSl b n s c ps)) (goR P G d r K f):=st_ef _ rfl
theorem st_bldFz (n s:Nat) (c:D) (ps:List (Nat×SX)):aops P G (⟨d,.bldFz n s c ps,none⟩::r) K ⟨f,h,u⟩=optK (ef (ev G f) h u (d.getD 0) (.bldFz n s c ps)) (goR P G d r K f):=st_ef _ rfl
theorem st_buildF (c:List C) (ps:List (Nat×Nat×SX)):aops P G (⟨d,.buildF c ps,none⟩::r) K ⟨f,h,u⟩=optK (ef (ev G f) h u (d.getD 0) (.buildF c ps)) (goR P G d r K f):=st_ef _ rfl
theorem st_b2s :aops P G (⟨d,.b2s x,none⟩::r) K ⟨f,h,u⟩=optK (ef (ev G f) h u (d.getD 0) (.b2s x)) (goR P G d r K f):=st_ef _ rfl
theorem st_s2b (b:Bool):aops P G (⟨d,.s2b b x,none⟩::r) K ⟨f,h,u⟩=optK (ef (ev G f) h u (d.getD 0) (.s2b b x)) (goR P G d r K f):=st_ef _ rfl
theorem st_make (w:Bool) (s b:Nat) (c:D):aops P G (⟨d,.make w s b c x y,none⟩::r) K ⟨f,h,u⟩=optK (ef (ev G f) h u (d.getD 0) (.make w s b c x y)) (goR P G d r K f):=st_ef _ rfl
theorem st_slice (s:Nat) (a b c:Option SX):aops P G (⟨d,.slice s x a b c,none⟩::r) K ⟨f,h,u⟩=optK (ef (ev G f) h u (d.getD 0) (.slice s x a b c)) (goR P G d r K f):=st_ef _ rfl
theorem st_sliceStr (a b:Option SX):aops P G (⟨d,.sliceStr x a b,none⟩::r) K ⟨f,h,u⟩=optK (ef (ev G f) h u (d.getD 0) (.sliceStr x a b)) (goR P G d r K f):=st_ef _ rfl
theorem st_sliceArr (s n:Nat) (a b:Option SX):aops P G (⟨d,.sliceArr s n x a b,none⟩::r) K ⟨f,h,u⟩=optK (ef (ev G f) h u (d.getD 0) (.sliceArr s n x a b)) (goR P G d r K f):=st_ef _ rfl
theorem st_idxSl (s:Nat):aops P G (⟨d,.idxSl s x y,none⟩::r) K ⟨f,h,u⟩=optK (ef (ev G f) h u (d.getD 0) (.idxSl s x y)) (goR P G d r K f):=st_ef _ rfl
theorem st_idxPa (s n:Nat):aops P G (⟨d,.idxPa s n x y,none⟩::r) K ⟨f,h,u⟩=optK (ef (ev G f) h u (d.getD 0) (.idxPa s n x y)) (goR P G d r K f):=st_ef _ rfl
theorem st_idxStr :aops P G (⟨d,.idxStr x y,none⟩::r) K ⟨f,h,u⟩=optK (ef (ev G f) h u (d.getD 0) (.idxStr x y)) (goR P G d r K f):=st_ef _ rfl
theorem st_app (b:Bool) (s n:Nat):aops P G (⟨d,.app b s n x y,none⟩::r) K ⟨f,h,u⟩=optK (ef (ev G f) h u (d.getD 0) (.app b s n x y)) (goR P G d r K f):=st_ef _ rfl
theorem st_appN (b:Bool) (s n:Nat):aops P G (⟨d,.appN b s n x y,none⟩::r) K ⟨f,h,u⟩=optK (ef (ev G f) h u (d.getD 0) (.appN b s n x y)) (goR P G d r K f):=st_ef _ rfl
theorem st_copy (s:Nat):aops P G (⟨d,.copy s x y,none⟩::r) K ⟨f,h,u⟩=optK (ef (ev G f) h u (d.getD 0) (.copy s x y)) (goR P G d r K f):=st_ef _ rfl
theorem st_min (l:List SX):aops P G (⟨d,.min l,none⟩::r) K ⟨f,h,u⟩=optK (ef (ev G f) h u (d.getD 0) (.min l)) (goR P G d r K f):=st_ef _ rfl
theorem st_max (l:List SX):aops P G (⟨d,.max l,none⟩::r) K ⟨f,h,u⟩=optK (ef (ev G f) h u (d.getD 0) (.max l)) (goR P G d r K f):=st_ef _ rfl
theorem st_frz :aops P G (⟨d,.frz x,none⟩::r) K ⟨f,h,u⟩=optK (ef (ev G f) h u (d.getD 0) (.frz x)) (goR P G d r K f):=st_ef _ rfl
theorem st_mark :aops P G (⟨d,.mark x,none⟩::r) K ⟨f,h,u⟩=optK (ef (ev G f) h u (d.getD 0) (.mark x)) (goR P G d r K f):=st_ef _ rfl
theorem st_markF :aops P G (⟨d,.markF x,none⟩::r) K ⟨f,h,u⟩=optK (ef (ev G f) h u (d.getD 0) (.markF x)) (goR P G d r K f):=st_ef _ rfl
theorem st_callOk0 {fn:FuncId} {xs:List SX} {own:Option (Nat×Nat)} {res:V} (h2:CallOk P G h fn (xs.map (ev G f)) res) (h3:OwnOk h (xs.map (ev G f)) res)
    (e:optK (impV h u (d.getD 0) own res) (goR P G d r K f)) (hp:PureOk own (xs.map (ev G f))):aops P G (⟨d,.call fn xs own,none⟩::r) K ⟨f,h,u⟩:=by
  have e':(match impV h u (d.getD 0) own res with | some r'=>aops P G r K ⟨updO f d r'.1,r'.2.1,r'.2.2⟩ | none=>False):=by
    revert e
    cases impV h u (d.getD 0) own res <;> exact fun h=>h
  exact⟨res,h2,h3,hp,e'⟩
theorem st_callOk {fn:FuncId} {xs:List SX} {own:Option (Nat×Nat)} {res:V} (h2:CallOk P G h fn (xs.map (ev G f)) res) (h3:((xs.map (ev G f)).any V.hasOwn=false∨res.flat=true))
    (e:optK (impV h u (d.getD 0) own res) (goR P G d r K f)) (hp:PureOk own (xs.map (ev G f))):aops P G (⟨d,.call fn xs own,none⟩::r) K ⟨f,h,u⟩ :=
  st_callOk0 h2 (fun hh=>by rcases h3 with h3 | h3; (· rw[h3] at hh; cases hh); exact .inl h3) e hp
theorem st_call {fn:FuncId} {xs:List SX} {own:Option (Nat×Nat)} {ds:List D} {res:V} (h2:Den P G fn ds res) (h1:toVs h (xs.map (ev G f))=some ds) (h3:((xs.map (ev G f)).any V.hasOwn=false∨res.flat=true))
    (e:optK (impV h u (d.getD 0) own res) (goR P G d r K f)) (hne:fn≠dynF:=by decide) (hp:PureOk own (xs.map (ev G f)):=by first | exact pok_none _ | exact pok_own _ _ _ | exact pok_pure _ _ rfl):aops P G (⟨d,.call fn xs own,none⟩::r) K ⟨f,h,u⟩ :=
  st_callOk (.inl ⟨hne,ds,h1,h2⟩) h3 e hp
theorem sC {fn:FuncId} {xs:List SX} {own:Option (Nat×Nat)} {ds:List D} {res:V} (h2:Den P G fn ds res) (e:optK (impV h u (d.getD 0) own res) (goR P G d r K f)) (h1:toVs h (xs.map (ev G f))=some ds:=by exact rfl)
    (h3:((xs.map (ev G f)).any V.hasOwn=false∨res.flat=true):=by exact .inl rfl) (hne:fn≠dynF:=by decide) (hp:PureOk own (xs.map (ev G f)):=by first | exact pok_none _ | exact pok_own _ _ _ | exact pok_pure _ _ rfl):aops P G (⟨d,.call fn xs own,none⟩::r) K ⟨f,h,u⟩ :=
  st_call h2 h1 h3 e hne hp
theorem st_callF {g:FuncId} {caps:List D} {xs:List SX} {own:Option (Nat×Nat)} {ds:List D} {res:V} (h2:DenF P G g caps ds res) (h1:toVs h (xs.map (ev G f))=some (.fn g caps::ds)) (h3:((xs.map (ev G f)).any V.hasOwn=false∨res.flat=true))
    (e:optK (impV h u (d.getD 0) own res) (goR P G d r K f)) (hp:PureOk own (xs.map (ev G f)):=by first | exact pok_none _ | exact pok_own _ _ _ | exact pok_pure _ _ rfl):aops P G (⟨d,.call 1000000007 xs own,none⟩::r) K ⟨f,h,u⟩ :=
  st_callOk (.inr (.inl ⟨rfl,g,caps,ds,h1,h2⟩)) h3 e hp
theorem st_callW {fn:FuncId} {xs:List SX} {own:Option (Nat×Nat)} {ws:List W} {res:V} (h2:DenW P G fn ws res) (h1:xs.map (ev G f)=ws.map V.w) (h4:ws.all W.isPure=true) (h3:((xs.map (ev G f)).any V.hasOwn=false∨res.flat=true))
    (e:optK (impV h u (d.getD 0) own res) (goR P G d r K f)) (hne:fn≠dynF:=by decide) (hp:PureOk own (xs.map (ev G f)):=by first | exact pok_none _ | exact pok_own _ _ _ | exact pok_pure _ _ rfl):aops P G (⟨d,.call fn xs own,none⟩::r) K ⟨f,h,u⟩ :=
  st_callOk (.inr (.inr ⟨hne,ws,h1,List.all_eq_true.1 h4,h2⟩)) h3 e hp
theorem upd_get {α:Type} (f:Nat→α) (i j:Nat) (x:α) (h:(j==i)=false):upd f i x j=f j:=upd_ne f x (by simpa using h)
theorem updO_some {α:Type} (f:Nat→α) (i:Nat) (x:α):updO f (some i) x=upd f i x:=rfl
theorem updO_none {α:Type} (f:Nat→α) (x:α):updO f none x=f:=rfl
theorem ev_t (n:Nat):ev G f (.t n)=f n:=rfl
theorem ev_k (v:W):ev G f (.k v)=.w v:=rfl
def uf:Nat→V:=fun _=>.undef
def hN:Heap:=fun _=>none
def uN:Nat→Bool:=fun _=>false
def putAll:Nat→List D→(Nat→V)→Nat→V
  | _,[],f=>f
  | i,x::r,f=>putAll (i+1) r (upd f i (.w (.c (.d x))))
theorem putAll_get:∀ (l:List D) (i:Nat) (f:Nat→V) (t:Nat),putAll i l f t=if i≤t then (match l[t-i]? with | some x=>vd x | none=>f t) else f t
  | [],i,f,t=>by simp[putAll]
  | x::l,i,f,t=>by
    rw[putAll,putAll_get l (i+1)]
    by_cases h:i=t
    ·subst h
     rw[if_neg (by omega),if_pos (Nat.le_refl _)]
     simp[upd,vd]
    ·by_cases h2:i≤t
     ·rw[if_pos (by omega),if_pos h2]
      have:t-i=(t-(i+1))+1:=by omega
      rw[this,List.getElem?_cons_succ]
      cases l[t-(i+1)]? with
      | some y=>rfl
      | none=>simp[upd,show t≠i from fun e=>h e.symm]
     ·rw[if_neg (by omega),if_neg h2]
      simp[upd,show t≠i from fun e=>h e.symm]
theorem entry_eq (args:List D):entry args=⟨putAll 0 args uf,hN,uN⟩:=by
  unfold entry
  congr 1
  funext t
  rw[putAll_get]
  simp only[Nat.zero_le,if_true,Nat.sub_zero]
  rfl
theorem hN_get (i:Nat):hN i=none:=rfl
theorem uN_get (i:Nat):uN i=false:=rfl
theorem uf_get (i:Nat):uf i=.undef:=rfl
theorem den_walk {F:FuncId} {fn:Func} {sf:SFn} {H:Hint} (hf:P.funcs[F]?=some fn) (hc:compFn P H fn=some sf) {args:List D} {res:V} {f0:Nat→V} (hlen:args.length=sf.np) (h0:putAll 0 args uf=f0)
    (e:awp P G sf.body (endQ sf.res res) ⟨f0,hN,uN⟩):Den P G F args res:=by
  refine den_of hf hc hlen ?_
  rw[entry_eq,h0]
  exact e
end
theorem asI_do (k:IntKind) (n:Int):asI (.w (.c (.d (.int k n))))=some (k,n):=rfl
theorem asB_do (b:Bool):asB (.w (.c (.d (.bool b))))=some b:=rfl
theorem asW_do (w:W):asW (.w w)=some w:=rfl
theorem aggV_d (cs:List D):aggV (.w (.c (.d (.agg cs))))=some (cs.map C.d):=rfl
theorem aggV_m (cs:List C):aggV (.w (.mix cs))=some cs:=rfl
theorem strV_do (s:ByteArray):strV (.w (.c (.d (.str s))))=some s:=rfl
theorem tupV_do (ws:List W):tupV (.tup ws)=some ws:=rfl
theorem lenV_d (es:List D):lenV' (.w (.c (.d (.sl es))))=some es.length:=rfl
theorem lenV_nil:lenV' (.w (.c .nil))=some 0:=rfl
theorem lenV_own (id sz off n:Nat):lenV' (.w (.c (.own id sz off n)))=some n:=rfl
theorem fdV_ptr (off id sz i o:Nat):fdV off (.w (.c (.ptr id sz i o)))=some (.ptr id sz i (o+off)):=rfl
theorem fdV_rp (off:Nat) (cs:List D):fdV off (.w (.c (.rp cs)))=some (.rp (cs.drop off)):=rfl
theorem binV_int (op:BinOp) (k k':IntKind) (a b:Int):binV op (.w (.c (.d (.int k a)))) (.w (.c (.d (.int k' b))))=binI op k a k' b:=rfl
theorem binV_str (op:BinOp) (a b:ByteArray):binV op (.w (.c (.d (.str a)))) (.w (.c (.d (.str b))))=binS op a b:=rfl
theorem binI_add (k:IntKind) (a b:Int):binI .add k a k b=some (.int k (k.wrap (a+b))):=by simp[binI]
theorem binI_sub (k:IntKind) (a b:Int):binI .sub k a k b=some (.int k (k.wrap (a-b))):=by simp[binI]
theorem binI_mul (k:IntKind) (a b:Int):binI .mul k a k b=some (.int k (k.wrap (a*b))):=by simp[binI]
theorem binI_eql (k:IntKind) (a b:Int):binI .eql k a k b=some (.bool (if a=b then true else false)):=by
  simp only[binI,ne_eq,not_true_eq_false,if_false,Option.some.injEq,D.bool.injEq]
  by_cases h:a=b <;> simp[h]
theorem binI_neq (k:IntKind) (a b:Int):binI .neq k a k b=some (.bool (if a=b then false else true)):=by
  simp only[binI,ne_eq,not_true_eq_false,if_false,Option.some.injEq,D.bool.injEq]
  by_cases h:a=b <;> simp[h]
theorem binI_lss (k:IntKind) (a b:Int):binI .lss k a k b=some (.bool (if a<b then true else false)):=by
  simp only[binI,ne_eq,not_true_eq_false,if_false,Option.some.injEq,D.bool.injEq]
  by_cases h:a<b <;> simp[h]
theorem binI_leq (k:IntKind) (a b:Int):binI .leq k a k b=some (.bool (if a≤b then true else false)):=by
  simp only[binI,ne_eq,not_true_eq_false,if_false,Option.some.injEq,D.bool.injEq]
  by_cases h:a≤b <;> simp[h]
theorem binI_gtr (k:IntKind) (a b:Int):binI .gtr k a k b=some (.bool (if a>b then true else false)):=by
  simp only[binI,ne_eq,not_true_eq_false,if_false,Option.some.injEq,D.bool.injEq]
  by_cases h:a>b <;> simp[h]
theorem binI_geq (k:IntKind) (a b:Int):binI .geq k a k b=some (.bool (if a≥b then true else false)):=by
  simp only[binI,ne_eq,not_true_eq_false,if_false,Option.some.injEq,D.bool.injEq]
  by_cases h:a≥b <;> simp[h]
theorem binI_and (k:IntKind) (a b:Int):binI .and k a k b=some (.int k (bits .and k a b)):=by simp[binI]
theorem binI_or (k:IntKind) (a b:Int):binI .or k a k b=some (.int k (bits .or k a b)):=by simp[binI]
theorem binI_xor (k:IntKind) (a b:Int):binI .xor k a k b=some (.int k (bits .xor k a b)):=by simp[binI]
theorem binI_andNot (k:IntKind) (a b:Int):binI .andNot k a k b=some (.int k (bits .andNot k a b)):=by simp[binI]
theorem binI_shl (k k':IntKind) (a b:Int) (h:0≤b):binI .shl k a k' b=some (.int k (k.wrap (a*2^min b.toNat k.bits))):=by simp[binI,h]
theorem binI_shr (k k':IntKind) (a b:Int) (h:0≤b):binI .shr k a k' b=some (.int k (a / 2^min b.toNat k.bits)):=by simp[binI,h]
theorem binI_quo (k:IntKind) (a b:Int) (h:b≠0):binI .quo k a k b=some (.int k (k.wrap (a.tdiv b))):=by simp[binI,h]
theorem binI_rem (k:IntKind) (a b:Int) (h:b≠0):binI .rem k a k b=some (.int k (a.tmod b)):=by simp[binI,h]
theorem unV_neg (k:IntKind) (n:Int):unV .neg (.w (.c (.d (.int k n))))=some (.int k (k.wrap (0-n))):=rfl
theorem unV_not (b:Bool):unV .not (.w (.c (.d (.bool b))))=some (.bool !b):=rfl
theorem unV_xor (k:IntKind) (n:Int):unV .xor (.w (.c (.d (.int k n))))=some (.int k (bits .xor k (if k.signed then -1 else k.max) n)):=rfl
theorem newO_do (h:Heap) (u:Nat→Bool) (n:Nat) (o:Ob) (c:C) (hu:u (8*n)=false):newO h u n o c=some (.w (.c c),upd h (8*n) (some o),upd u (8*n) true):=newO_at hu
theorem ef_alloc (ρ:SX→V) (h:Heap) (u:Nat→Bool) (n:Nat) (c:List C):ef ρ h u n (.alloc c)=newO h u n (.box c) (.ptr (8*n) 1 0 0):=rfl
theorem ef_allocArr (ρ:SX→V) (h:Heap) (u:Nat→Bool) (n:Nat) (c:List D):ef ρ h u n (.allocArr c)=newO h u n (.row 1 c) (.pa (8*n) 1):=rfl
theorem ef_nilOwn (ρ:SX→V) (h:Heap) (u:Nat→Bool) (n s:Nat):ef ρ h u n (.nilOwn s)=newO h u n (.row s []) (.own (8*n) s 0 0):=rfl
theorem stO_box (kd:Kd) (y:W) (i o:Nat) (cs:List C):stO kd y i o (.box cs)=if (wcells y).length=kd.size∧i+o+kd.size≤cs.length then some (.box (setR cs (i+o) (wcells y))) else none:=rfl
theorem someD (n d:Nat):(some n).getD d=n:=rfl
theorem ldX_rp (h:Heap) (k:Kd) (cs:List D):ldX h k [] (.w (.c (.rp cs)))=ldV h k (.w (.c (.rp cs))):=rfl
theorem ldX_ra (h:Heap) (k:Kd) (es:List D):ldX h k [] (.w (.c (.ra es)))=ldV h k (.w (.c (.ra es))):=rfl
theorem ldX_d (h:Heap) (k:Kd) (x:D):ldX h k [] (.w (.c (.d x)))=ldV h k (.w (.c (.d x))):=rfl
theorem ldX_1 (h:Heap) (k:Kd) (j a b c i d e g:Nat):ldX h k [.w (.c (.ptr j a b c))] (.w (.c (.ptr i d e g)))=if i=j then none else ldV h k (.w (.c (.ptr i d e g))):=by
  unfold ldX disV
  by_cases hij:i=j
  ·simp[V.ids,W.ids,C.ids,hij]
  ·simp[V.ids,W.ids,C.ids,hij]
theorem ldX_2 (h:Heap) (k:Kd) (j a b c l m n q i d e g:Nat):ldX h k [.w (.c (.ptr j a b c)),.w (.c (.ptr l m n q))] (.w (.c (.ptr i d e g)))=if i=j then none else if i=l then none else ldV h k (.w (.c (.ptr i d e g))):=by
  unfold ldX disV
  by_cases hij:i=j
  ·simp[V.ids,W.ids,C.ids,hij]
  ·by_cases hil:i=l
   ·simp[V.ids,W.ids,C.ids,hij,hil]
   ·simp[V.ids,W.ids,C.ids,hij,hil]
abbrev ProofOf {p:Prop} (_:p):Prop:=p
theorem sx:ProofOf (jR @awp_skip (jR @awp_reg (jR @awp_seq (jR @awp_cond (jR @awp_block (jR @awp_exit (jR @awp_ret (jR @seqQ_nrm (jR @seqQ_ex (jR @seqQ_ret (jR @blkQ_nrm (jR @blkQ_ret (jR @blkQ_eq (jR @blkQ_ne (jR @endQ_nrm (jR @endQ_ret (jR @aops_nil (jR @st_guard (jR @guaK_b (jR @guaK_gone (jR @optK_some (jR @cndK_true (jR @cndK_false (jR @grdK_do (jR @grdK_no1 (jR @grdK_no2 (jR @goV_do (jR @goW_do (jR @goC_do (jR @goD_do (jR @goR_do (jR @goH_do (jR @goI_do (jR @goN_do (jR @goB_do (jR @goP_true (jR @goP_false (jR @goE1_t (jR @goE1_f (jR @goE_do (jR @goS_do (jR @goF_do (jR @goA1_do (jR @goA_do (jR @goM_do (jR @goX_do (jR @st_mv (jR @st_lenArr (jR @st_pick (jR @st_bin (jR @st_eqA (jR @st_un (jR @st_conv (jR @st_eqB (jR @st_len (jR @st_lenStr (jR @st_load (jR @st_loadB (jR @st_loadX0 (jR @st_loadX1 (jR @st_loadX2 (jR @st_store (jR @st_fieldAddr (jR @st_field (jR @st_idxArr (jR @st_extract (jR @st_build (jR @st_alloc (jR @st_allocArr (jR @st_nilOwn (jR @st_box (jR @st_bldSl (jR @st_bldFz (jR @st_buildF (jR @st_b2s (jR @st_s2b (jR @st_make (jR @st_slice (jR @st_sliceStr (jR @st_sliceArr (jR @st_idxSl (jR @st_idxPa (jR @st_idxStr (jR @st_app (jR @st_appN (jR @st_copy (jR @st_min (jR @st_max (jR @st_frz (jR @st_mark (jR @st_markF (jR @upd_same (jR @upd_get (jR @hN_get (jR @uN_get (jR @uf_get (jR @updO_some (jR @updO_none (jR @ev_t (jR @ev_k (jR @ldX_rp (jR @ldX_ra (jR @ldX_d (jR @ldX_1 (jR @ldX_2 (jR @asI_do (jR @asB_do (jR @asW_do (jR @aggV_d (jR @aggV_m (jR @strV_do (jR @tupV_do (jR @lenV_d (jR @lenV_nil (jR @lenV_own (jR @fdV_ptr (jR @fdV_rp (jR @binV_int (jR @binV_str (jR @binI_add (jR @binI_sub (jR @binI_mul (jR @binI_eql (jR @binI_neq (jR @binI_lss (jR @binI_leq (jR @binI_gtr (jR @binI_geq (jR @binI_and (jR @binI_or (jR @binI_xor (jR @binI_andNot (jR @binI_shl (jR @binI_shr (jR @binI_quo (jR @binI_rem (jR @unV_neg (jR @unV_not (jR @unV_xor (jR @newO_do (jR @ef_alloc (jR @ef_allocArr (jR @ef_nilOwn (@someD)))))))))))))))))))))))))))))))))))))))))))))))))))))))))))))))))))))))))))))))))))))))))))))))))))))))))))))))))))))))))))))))))))))))))))))))):=jR @awp_skip (jR @awp_reg (jR @awp_seq (jR @awp_cond (jR @awp_block (jR @awp_exit (jR @awp_ret (jR @seqQ_nrm (jR @seqQ_ex (jR @seqQ_ret (jR @blkQ_nrm (jR @blkQ_ret (jR @blkQ_eq (jR @blkQ_ne (jR @endQ_nrm (jR @endQ_ret (jR @aops_nil (jR @st_guard (jR @guaK_b (jR @guaK_gone (jR @optK_some (jR @cndK_true (jR @cndK_false (jR @grdK_do (jR @grdK_no1 (jR @grdK_no2 (jR @goV_do (jR @goW_do (jR @goC_do (jR @goD_do (jR @goR_do (jR @goH_do (jR @goI_do (jR @goN_do (jR @goB_do (jR @goP_true (jR @goP_false (jR @goE1_t (jR @goE1_f (jR @goE_do (jR @goS_do (jR @goF_do (jR @goA1_do (jR @goA_do (jR @goM_do (jR @goX_do (jR @st_mv (jR @st_lenArr (jR @st_pick (jR @st_bin (jR @st_eqA (jR @st_un (jR @st_conv (jR @st_eqB (jR @st_len (jR @st_lenStr (jR @st_load (jR @st_loadB (jR @st_loadX0 (jR @st_loadX1 (jR @st_loadX2 (jR @st_store (jR @st_fieldAddr (jR @st_field (jR @st_idxArr (jR @st_extract (jR @st_build (jR @st_alloc (jR @st_allocArr (jR @st_nilOwn (jR @st_box (jR @st_bldSl (jR @st_bldFz (jR @st_buildF (jR @st_b2s (jR @st_s2b (jR @st_make (jR @st_slice (jR @st_sliceStr (jR @st_sliceArr (jR @st_idxSl (jR @st_idxPa (jR @st_idxStr (jR @st_app (jR @st_appN (jR @st_copy (jR @st_min (jR @st_max (jR @st_frz (jR @st_mark (jR @st_markF (jR @upd_same (jR @upd_get (jR @hN_get (jR @uN_get (jR @uf_get (jR @updO_some (jR @updO_none (jR @ev_t (jR @ev_k (jR @ldX_rp (jR @ldX_ra (jR @ldX_d (jR @ldX_1 (jR @ldX_2 (jR @asI_do (jR @asB_do (jR @asW_do (jR @aggV_d (jR @aggV_m (jR @strV_do (jR @tupV_do (jR @lenV_d (jR @lenV_nil (jR @lenV_own (jR @fdV_ptr (jR @fdV_rp (jR @binV_int (jR @binV_str (jR @binI_add (jR @binI_sub (jR @binI_mul (jR @binI_eql (jR @binI_neq (jR @binI_lss (jR @binI_leq (jR @binI_gtr (jR @binI_geq (jR @binI_and (jR @binI_or (jR @binI_xor (jR @binI_andNot (jR @binI_shl (jR @binI_shr (jR @binI_quo (jR @binI_rem (jR @unV_neg (jR @unV_not (jR @unV_xor (jR @newO_do (jR @ef_alloc (jR @ef_allocArr (jR @ef_nilOwn (@someD)))))))))))))))))))))))))))))))))))))))))))))))))))))))))))))))))))))))))))))))))))))))))))))))))))))))))))))))))))))))))))))))))))))))))))))))
end Go.Proofs.YtbkhllchjbjhgaaGreatDoor
