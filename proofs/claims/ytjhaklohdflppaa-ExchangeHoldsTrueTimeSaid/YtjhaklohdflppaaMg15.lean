/- Texts of one's own, merged: from: The plain logic (16): regions,in the order of the text and in any order that the edges allow. Own work. -/
import Derived.Orders
import Derived.OrdersIn
import Derived.Test.YtjhaklohdflppaaMg14
set_option linter.unusedVariables false
set_option linter.unusedSimpArgs false
namespace Go.Proofs.Ytjhaklohdflppaa
open Go.RowKit
def xF (N:Nat):Option Nat→Bool | some d=>decide (d<N) | none=>true
def dY (P:Program) (H:Hint) (ops:Array Oper) (N:Nat) (o:Oper):Option ar :=
  match iH P H o with
  | some so=>if xF N o.dst=true then
      match o.guard with
      | none=>some ⟨o.dst,so,none⟩
      | some (j,want)=>match (ops[j]?).bind (·.dst) with
        | some t=>some ⟨o.dst,so,some (t,want)⟩
        | none=>none
    else none
  | none=>none
def gV (ms:List Nat) (o:Oper):Nat:=o.after.toList.foldl (fun m e=>if Region.binds .any e=true then m ||| (2^e.on) ||| ms.getD e.on 0 else m) 0
def xG:List Oper→List Nat→List Nat
  | [],acc=>acc
  | o::r,acc=>xG r (acc++[gV acc o])
def mW (ms:List Nat) (ops:List Oper) (cs:List ar):Bool :=
  (List.range ops.length).all fun i=>match ops[i]?,cs[i]? with
    | some o,some so=>(ms.getD i 0==gV ms o)&&o.after.toList.all (fun e=>!Region.binds .any e || decide (e.on<i)) &&
        (List.range i).all fun j=>(ms.getD i 0).testBit j || (match cs[j]? with | some sj=>sj.indep so | none=>false)
    | _,_=>false
def lp (P:Program) (H:Hint) (N:Nat) (ops:Array Oper) (draws:Bool):Option (List ar) :=
  match az (dY P H ops N) ops.toList with
  | some cs=>if draws=false then some cs else if P.follows .mixedOrders=true∧mW (xG ops.toList []) ops.toList cs=true then some cs else none
  | none=>none
section
variable {P:Program} {G:av} {N:Nat} {Sin:al} {w0:Gh} {σ:St} {a:Act} {w:World} {S:al} {m:Mp} {H:Hint} {ops:Array Oper} {K:St→Prop} {Q:Exit→Act→World→Prop}
theorem od {o:Oper} {so:ar} (h:dY P H ops N o=some so):iH P H o=some so.op∧so.dst=o.dst∧(∀ t,o.dst=some t→t<N) ∧
    ((o.guard=none∧so.guard=none)∨∃ j t want,o.guard=some (j,want)∧so.guard=some (t,want)∧(ops[j]?).bind (·.dst)=some t):=by
  unfold dY at h;split at h
  ·rename_i s hs;split at h
   ·rename_i hd;have hd':∀ t,o.dst=some t→t<N:=by
      intro t ht;rw[ht] at hd
      simpa [xF] using hd
    split at h
    ·rename_i hg;cases h;exact⟨hs,rfl,hd',.inl ⟨hg,rfl⟩⟩
    ·rename_i j want hg;split at h
     ·rename_i t ht;cases h;exact⟨hs,rfl,hd',.inr ⟨j,t,want,hg,rfl,ht⟩⟩
     ·cases h
   ·cases h
  ·cases h
theorem lq {i:Nat} {o:Oper} {so:ar} (hi:ops[i]?=some o) (hc:dY P H ops N o=some so) (hx:∀ t,so.dst=some t→w0.fx t=none) (h:Inv G N Sin w0 σ a w S m) {r:R} (hr:bi P G so σ r) (hK:K (σ.put so.dst r)):wpOp P ops Q i (Nx G N Sin w0 K) a w:=by
  obtain⟨h1,h2,h3',h4⟩:=od hc;have h3:∀ t,o.dst=some t→t<N∧w0.fx t=none:=fun t ht=>⟨h3' t ht,hx t (by rw[h2]; exact ht)⟩
  rw[h2] at hK;unfold wpOp;simp only[hi];unfold bi at hr;rcases h4 with ⟨g1,g2⟩ | ⟨j,t,want,g1,g2,g3⟩
  ·rw[g2] at hr;have hw:Region.wanted o (yielded ops a.tmps)=true:=by simp[Region.wanted,g1]
   rw[if_pos hw];exact .inl (qz h h3 h1 (jH.2 ⟨r,h2 ▸ hr,hK⟩))
  ·rw[g2] at hr;have hgone:RV m S w undef (.tup []):=⟨[],rfl,.nil⟩
   rcases hr with ⟨b,hb,hr⟩ | ⟨hu,rfl⟩
   ·have hv:=iI (h.slot t) hb;have hy:yielded ops a.tmps j=some b:=by
      unfold yielded;rw[g3];have:a.tmps[t]?=some (.bool b):=by
        rw[EH] at hv;cases ht:a.tmps[t]? with
        | none=>rw[ht] at hv; simp[undef] at hv
        | some v=>rw[ht] at hv; simpa using hv
      simp[this]
    by_cases e:b=want
    ·have hw:Region.wanted o (yielded ops a.tmps)=true:=by simp[Region.wanted,g1,hy,e]
     rw[if_pos hw];rcases hr with ⟨_,hr⟩ | ⟨hne,_⟩
     ·exact .inl (qz h h3 h1 (jH.2 ⟨r,h2 ▸ hr,hK⟩))
     ·exact absurd e hne
    ·have hw:¬ Region.wanted o (yielded ops a.tmps)=true:=by simp[Region.wanted,g1,hy,e]
     rw[if_neg hw];rcases hr with ⟨he,_⟩ | ⟨_,rfl⟩
     ·exact absurd he e
     ·exact⟨_,_,_,hK,h.put (x:=.tup []) o.dst h3 hgone fun i hi=>by cases hi⟩
   ·have hv:a.tmps.getD t undef=undef:=by
      have:=h.slot t;rw[hu] at this;obtain⟨us,h5,h6⟩:=this;cases h6;exact h5
    have hy:yielded ops a.tmps j=none:=by
      unfold yielded;rw[g3];rw[EH] at hv;cases ht:a.tmps[t]? with
      | none=>simp[ht]
      | some v=>rw[ht] at hv; simp only[Option.getD_some] at hv; subst hv; simp[ht,undef]
    have hw:¬ Region.wanted o (yielded ops a.tmps)=true:=by simp[Region.wanted,g1,hy]
    rw[if_neg hw];exact⟨_,_,_,hK,h.put (x:=.tup []) o.dst h3 hgone fun i hi=>by cases hi⟩
theorem A6 {i:Nat} {J:Act→World→Prop} (h:wpOp P ops (fun _ _ _=>False) i J a w):∃ a w,J a w:=by
  unfold wpOp at h;split at h
  ·exact⟨_,_,h⟩
  ·rename_i o ho;split at h
   ·rcases h with h | ⟨_,_,_,h⟩
    ·unfold Oper.wp at h;cases hr:(execOp a.eval o).run P w with
     | ok n w' =>
       rw[hr] at h;cases n <;> simp only[Oper.upon] at h <;> first | exact⟨_,_,h⟩ | exact h.elim | skip
       ·obtain⟨e,w2,fr,h1,_⟩:=h [];cases e with
        | returned v=>exact⟨_,_,h1⟩
        | panicked c=>exact h1.elim
        | outgrown=>obtain⟨_,_,h2⟩:=h1; exact h2.elim
       ·obtain⟨v,w2,h1,_⟩:=h default [];exact⟨_,_,h1⟩
     | halt x w' =>
       rw[hr] at h;cases x <;> simp only[Oper.upon] at h <;> exact h.elim
    ·exact h.elim
   ·exact⟨_,_,h⟩
theorem A7 {i:Nat} {o:Oper} {so:ar} (hi:ops[i]?=some o) (hc:dY P H ops N o=some so) (hx:∀ t,so.dst=some t→w0.fx t=none) (h:Inv G N Sin w0 σ a w S m) {r:R} (hr:bi P G so σ r):∃ a1 w1 S1 m1,Inv G N Sin w0 (σ.put so.dst r) a1 w1 S1 m1:=by
  obtain⟨a1,w1,σ1,S1,m1,h1,h2⟩:=A6 (lq (K:=fun s=>s=σ.put so.dst r) hi hc hx h hr rfl);subst h1;exact⟨a1,w1,S1,m1,h2⟩
def g9 (P:Program) (H:Hint) (N:Nat) (fx:Nat→Option Value) (ops:Array Oper) (l:List (Nat×ar)):Prop:=∀ p∈l,∃ o,ops[p.1]?=some o∧dY P H ops N o=some p.2∧∀ t,p.2.dst=some t→fx t=none
theorem ly (hQ:∀ a w,Nx G N Sin w0 K a w→Q .normal a w):∀ (l:List (Nat×ar)) {σ:St} {a:Act} {w:World} {S:al} {m:Mp},g9 P H N w0.fx ops l→Inv G N Sin w0 σ a w S m→au P G (l.map (·.2)) K σ→wpOps P ops Q (l.map (·.1)) a w
  | [],σ,a,w,S,m,_,h,e=>hQ _ _ ⟨_,_,_,e,h⟩
  | p::l,σ,a,w,S,m,hc,h,e=>by
    rw[El,wpOps_cons];rw[El] at e;obtain⟨r,h1,h2⟩:=gQ.1 e;obtain⟨o,ho,hco,hfx⟩:=hc p (by simp);refine wpOp_mono ?_ (lq ho hco hfx h h1 h2);rintro a1 w1 ⟨σ1,S1,m1,k1,k2⟩;exact ly hQ l (fun q hq=>hc q (by simp[hq])) k2 k1
theorem qG (h:Inv G N Sin w0 σ a w S m) {z:ar} (hz:z.sound=true):∀ o∈z.op.xs,∀ id∈(ev G σ.f o).ids,σ.u id=true:=by
  intro o ho id hid;cases o with
  | t n=>exact h.used n id hid
  | k v =>
    simp only[ar.sound,Ey,Ep] at hz;have:=hz.1 _ ho;simp only[SX.kok,Fu] at this;have hid':id∈v.ids:=hid;rw[this] at hid';cases hid'
  | g n =>
    simp only[ev] at hid;split at hid
    ·rename_i c hc;unfold av.at at hc;simp only[Ei] at hc;obtain⟨p,hp,rfl⟩:=hc;have hk:=h.glob p (ES hp);have:=(hk.1.rpra (m':=m) hk.2.1).2;have hid':id∈p.2.ids:=hid;rw[this] at hid';cases hid'
    ·cases hid
  | u=>cases hid
theorem oF {p:Nat×ar} {l2:List (Nat×ar)}:∀ (l1:List (Nat×ar)) {σ:St} {a:Act} {w:World} {S:al} {m:Mp},g9 P H N w0.fx ops (l1++p::l2)→(∀ q∈l1,q.2.indep p.2=true)→Inv G N Sin w0 σ a w S m →
    au P G ((l1++p::l2).map (·.2)) K σ→kO P G p.2 (au P G ((l1++l2).map (·.2)) K) σ
  | [],σ,a,w,S,m,_,_,_,e=>e
  | q::l1,σ,a,w,S,m,hc,hi,h,e=>by
    rw[Fw,El] at e;obtain⟨r1,h1,h2⟩:=gQ.1 e;obtain⟨o,ho,hco,hfx⟩:=hc q (by simp);obtain⟨a1,w1,S1,m1,hinv⟩:=A7 ho hco hfx h h1;have ih:=oF l1 (fun z hz=>hc z (by simp only[Fw,EJ]; exact .inr hz)) (fun z hz=>hi z (by simp[hz])) hinv h2;obtain⟨r2,h3,h4⟩:=gQ.1 ih;have hin:=hi q (by simp);have hs:q.2.sound=true∧p.2.sound=true:=by
      simp only[ar.indep,Ey] at hin;exact⟨hin.1.2,hin.2⟩
    obtain⟨r2',r1',g1,g2,g3⟩:=swap hin (fun id o ho=>(h.obj id o ho).2.1) (fun z hz=>by
      rcases hz with rfl | rfl
      ·exact qG h hs.1
      ·exact qG h hs.2) h1 h3
    refine gQ.2 ⟨r2',g1,?_⟩;rw[Fw,El];refine gQ.2 ⟨r1',g2,?_⟩;rw[g3];exact h4
end
section
variable {P:Program} {G:av} {N:Nat} {Sin:al} {w0:Gh} {σ:St} {a:Act} {w:World} {S:al} {m:Mp} {H:Hint} {ops:Array Oper} {K:St→Prop} {Q:Exit→Act→World→Prop}
theorem zE {ms:List Nat} {o:Oper} {j:Nat} (h:(gV ms o).testBit j=true):∃ e∈o.after,Region.binds .any e=true∧(e.on=j∨(ms.getD e.on 0).testBit j=true):=by
  have key:∀ (l:List Edge) (k:Nat),(l.foldl (fun m e=>if Region.binds .any e=true then m ||| (2^e.on) ||| ms.getD e.on 0 else m) k).testBit j=true→k.testBit j=true∨∃ e∈l,Region.binds .any e=true∧(e.on=j∨(ms.getD e.on 0).testBit j=true):=by
    intro l
    induction l with
    | nil=>intro k h; exact .inl h
    | cons e l ih =>
      intro k h;rw[List.foldl_cons] at h;rcases ih _ h with h | ⟨e',h1,h2⟩
      ·split at h
       ·rename_i hb;rw[Nat.testBit_or,Nat.testBit_or,Fa,Fa] at h;rcases h with (h | h) | h
        ·exact .inl h
        ·rw[Nat.testBit_two_pow] at h;exact .inr ⟨e,by simp,hb,.inl (by simpa using h)⟩
        ·exact .inr ⟨e,by simp,hb,.inr h⟩
       ·exact .inl h
      ·exact .inr ⟨e',by simp[h1],h2⟩
  rcases key _ _ h with h | ⟨e,h1,h2⟩
  ·simp at h
  ·exact⟨e,by simpa using h1,h2⟩
theorem A8 {ms:List Nat} {cs:List ar} (h:mW ms ops.toList cs=true):∀ i o so,ops[i]?=some o→cs[i]?=some so→ms.getD i 0=gV ms o∧(∀ e∈o.after,Region.binds .any e=true→e.on<i)∧∀ j sj,j<i→cs[j]?=some sj→(ms.getD i 0).testBit j=true∨sj.indep so=true:=by
  intro i o so ho hso;unfold mW at h;simp only[Ep,List.mem_range] at h;have hi:i<ops.toList.length:=by
    have:=(Er.1 ho).1
    simpa using this
  have h1:=h i hi;rw[EO,ho,hso] at h1;simp only[Ey,beq_iff_eq,Ep,Fa,Bool.not_eq_true',decide_eq_true_eq,List.mem_range] at h1;obtain⟨⟨h2,h3⟩,h4⟩:=h1;refine⟨h2,fun e he hb=>?_,fun j sj hj hsj=>?_⟩
  ·rcases h3 e (by simpa using he) with h5 | h5
   ·rw[hb] at h5; cases h5
   ·exact h5
  ·have:=h4 j hj;rw[hsj] at this;exact this
theorem zF {ms:List Nat} {cs:List ar} (hm:∀ i o so,ops[i]?=some o→cs[i]?=some so→ms.getD i 0=gV ms o∧(∀ e∈o.after,Region.binds .any e=true→e.on<i)∧∀ j sj,j<i→cs[j]?=some sj→(ms.getD i 0).testBit j=true∨sj.indep so=true) (hlen:cs.length=ops.size)
    {listed:Array Bool} (hcl:∀ k o,ops[k]?=some o→listed.getD k false=true→∀ e∈o.after,Region.binds .any e=true→listed.getD e.on false=true) :
    ∀ i o,ops[i]?=some o→(∀ e∈o.after,Region.binds .any e=true→listed.getD e.on false=true)→∀ j,(ms.getD i 0).testBit j=true→listed.getD j false=true:=by
  intro i
  induction i using Nat.strongRecOn with
  | _ i ih =>
    intro o ho hd j hj;have hi:=(Er.1 ho).1;have hso:cs[i]?=some cs[i]:=Ek (by omega);obtain⟨h1,h2,_⟩:=hm i o _ ho hso;rw[h1] at hj;obtain⟨e,he,hb,h3⟩:=zE hj;rcases h3 with rfl | h3
    ·exact hd e he hb
    ·have hlt:=h2 e he hb;have hoe:ops[e.on]?=some ops[e.on]:=Array.getElem?_eq_getElem (by omega);exact ih e.on hlt _ hoe (hcl _ _ hoe (hd e he hb)) j h3
theorem yX {l:List (Nat×ar)} {p:Nat×ar} (hs:l.Pairwise fun x y=>x.1<y.1) (hp:p∈l):∃ l1 l2,l=l1++p::l2∧∀ q∈l1,q.1<p.1:=by
  obtain⟨l1,l2,rfl⟩:=List.append_of_mem hp;refine⟨l1,l2,rfl,fun q hq=>?_⟩;rw[List.pairwise_append] at hs;exact hs.2.2 q hq p (by simp)
theorem oH {ms:List Nat} {cs:List ar} (hlen:cs.length=ops.size) (hm:∀ i o so,ops[i]?=some o→cs[i]?=some so→ms.getD i 0=gV ms o∧(∀ e∈o.after,Region.binds .any e=true→e.on<i)∧∀ j sj,j<i→cs[j]?=some sj→(ms.getD i 0).testBit j=true∨sj.indep so=true)
    (hQ:∀ a w,Nx G N Sin w0 K a w→Q .normal a w):∀ (n:Nat) (l:List (Nat×ar)) (listed:Array Bool) {σ:St} {a:Act} {w:World} {S:al} {m:Mp},l.length=n→g9 P H N w0.fx ops l→(∀ p∈l,cs[p.1]?=some p.2)→(l.Pairwise fun x y=>x.1<y.1) →
      listed.size=ops.size→(∀ j,listed.getD j true=false↔∃ so,(j,so)∈l)→(∀ k o,ops[k]?=some o→listed.getD k false=true→∀ e∈o.after,Region.binds .any e=true→listed.getD e.on false=true) →
      Inv G N Sin w0 σ a w S m→au P G (l.map (·.2)) K σ→wpAny P .any ops Q n listed a w
  | 0,l,listed,σ,a,w,S,m,hn,_,_,_,_,hl,_,h,e=>by
    have:l=[]:=List.length_eq_zero_iff.1 hn;subst this;refine⟨?_,hQ _ _ ⟨_,_,_,e,h⟩⟩;refine List.eq_nil_iff_forall_not_mem.2 fun i hi=>?_
    obtain⟨h1,_⟩:=mem_ready.1 hi;obtain⟨so,hso⟩:=(hl i).1 h1;cases hso
  | n+1,l,listed,σ,a,w,S,m,hn,hc,hcs,hsort,hsz,hl,hcl,h,e=>by
    have tf:∀ j,j<ops.size→¬ (∃ so,(j,so)∈l)→listed.getD j false=true:=by
      intro j hj hne;have h1:¬ listed.getD j true=false:=fun h=>hne ((hl j).1 h)
      rw[EH] at h1 ⊢;have:listed[j]?=some listed[j]:=Array.getElem?_eq_getElem (by omega);rw[this] at h1 ⊢
      simpa using h1
    refine⟨fun hr=>?_,fun i hi=>?_⟩
    ·cases l with
     | nil=>simp at hn
     | cons p rest =>
       exfalso;obtain⟨o,ho,hco,hfx⟩:=hc p (by simp);have hp:p.1∈Region.ready .any ops listed:=by
         refine mem_ready.2 ⟨(hl p.1).2 ⟨p.2,by simp⟩,o,ho,fun ed he hb=>?_⟩;have hlt:=(hm p.1 o p.2 ho (hcs p (by simp))).2.1 ed he hb;have hsize:=(Er.1 ho).1;refine tf _ (by omega) ?_;rintro⟨so,hso⟩;rw[List.pairwise_cons] at hsort;rcases EJ.1 hso with heq | hin
         ·have:ed.on=p.1:=congrArg Prod.fst heq;omega
         ·have:=hsort.1 _ hin;simp only at this;omega
       rw[hr] at hp;cases hp
    ·obtain⟨hun,o,ho,hedges⟩:=mem_ready.1 hi;obtain⟨so,hso⟩:=(hl i).1 hun;obtain⟨l1,l2,hsplit,hlt⟩:=yX hsort hso;have hanc:=zF hm hlen hcl i o ho hedges;have hind:∀ q∈l1,q.2.indep so=true:=by
       intro q hq;have hqi:=hlt q hq;have hq2:=hcs q (by rw[hsplit]; simp[hq]);rcases (hm i o so ho (hcs _ hso)).2.2 q.1 q.2 hqi hq2 with h1 | h1
       ·have h2:=hanc q.1 h1;have h3:=(hl q.1).2 ⟨q.2,by rw[hsplit]; simp[hq]⟩;rw[EH] at h2 h3;cases hg:listed[q.1]? <;> rw[hg] at h2 h3 <;> simp_all
       ·exact h1
     rw[hsplit] at e;have hc':g9 P H N w0.fx ops (l1++(i,so)::l2):=hsplit ▸ hc;have hmv:=oF (p:=(i,so)) (l2:=l2) (K:=K) l1 hc' hind h e;obtain⟨r,h1,h2⟩:=gQ.1 hmv;obtain⟨o',ho',hco,hfx⟩:=hc (i,so) hso;refine wpOp_mono ?_ (lq ho' hco hfx h h1 h2);rintro a1 w1 ⟨σ1,S1,m1,k1,k2⟩;have hsub:∀ p,p∈l1++l2→p∈l:=fun p hp=>by
       rw[hsplit];rcases Ex.1 hp with hp | hp <;> simp[hp]
     have hsort2:(l1++l2).Pairwise fun x y=>x.1<y.1:=by
       rw[hsplit] at hsort;refine hsort.sublist ?_;exact List.Sublist.append (List.Sublist.refl _) (List.sublist_cons_self _ _)
     have hnot:∀ s,(i,s)∉l1++l2:=by
       intro s hs;rw[hsplit,List.pairwise_append,List.pairwise_cons] at hsort;rcases Ex.1 hs with hs | hs
       ·have:=hlt _ hs;simp only at this;omega
       ·have:=hsort.2.1.1 _ hs;simp only at this;omega
     have hisz:i<listed.size:=by rw[hsz]; exact (Er.1 ho).1
     refine oH hlen hm hQ n (l1++l2) _ (by rw[hsplit] at hn; simp at hn ⊢; omega) (fun p hp=>hc p (hsub p hp)) (fun p hp=>hcs p (hsub p hp)) hsort2 (by simp[hsz]) (fun j=>?_) (fun k ok hok hk ed he hb=>?_) k2 k1
     ·by_cases hji:j=i
      ·subst hji;constructor
       ·intro hh;rw[EH] at hh;simp[hisz] at hh
       ·rintro⟨s,hs⟩; exact absurd hs (hnot s)
      ·rw[getD_set_ne true (fun h=>hji h.symm),hl j,hsplit];constructor
       ·rintro⟨s,hs⟩;refine⟨s,?_⟩;rcases Ex.1 hs with hs | hs
        ·exact Ez _ hs
        ·rcases EJ.1 hs with hs | hs
         ·exact absurd (congrArg Prod.fst hs) hji
         ·exact En _ hs
       ·rintro⟨s,hs⟩;refine⟨s,?_⟩;rcases Ex.1 hs with hs | hs
        ·exact Ez _ hs
        ·exact En _ (Ev _ hs)
     ·have up:∀ x,listed.getD x false=true→(listed.setIfInBounds i true).getD x false=true:=by
        intro x hx;by_cases hxi:i=x
        ·subst hxi;rw[EH];simp[hisz]
        ·rw[getD_set_ne false hxi]; exact hx
      by_cases hki:i=k
      ·subst hki;rw[ho] at hok;cases hok;exact up _ (hedges ed he hb)
      ·rw[getD_set_ne false hki] at hk;exact up _ (hcl k ok hok hk ed he hb)
theorem k7 {α β:Type}:∀ (l:List α) (k:List β),l.length=k.length→(l.zip k).map (·.1)=l
  | [],_,_=>by simp
  | a::l,[],h=>by simp at h
  | a::l,b::k,h=>by simp only[List.zip_cons_cons,El,k7 l k (by simpa using h)]
theorem k9 {α β:Type}:∀ (l:List α) (k:List β),l.length=k.length→(l.zip k).map (·.2)=k
  | [],[],_=>rfl
  | [],_::_,h=>by simp at h
  | a::l,[],h=>by simp at h
  | a::l,b::k,h=>by simp only[List.zip_cons_cons,El,k9 l k (by simpa using h)]
def Fr (r:Option Nat):Fence:={ fn:=fun _=>True,depth:=none,alive:=false,round:=r }
theorem te {r:Option Nat} {n i:Nat} {K:Act→World→Prop} (hnd:∀ o:Oper,ops[i]?=some o→∀ c,o.op≠.defer c) (hQ:¬ LetsOut Q) (h:wpOp P ops Q i K a w):wpOpIn (Fr r) n P ops Q i K a w:=by
  unfold wpOp at h;unfold wpOpIn;cases ho:ops[i]? with
  | none=>rw[ho] at h; exact h
  | some o =>
    rw[ho] at h;simp only at h ⊢;split
    ·rename_i hw;rw[if_pos hw] at h;have h:=h.resolve_right fun k=>hQ k.2
     refine⟨fun _ _=>trivial,?_⟩;have hs:o.semAt (Fr r).round a.eval=execOp a.eval o:=by
       cases r with
       | none=>rfl
       | some l=>exact Oper.semAt_some l a.eval o (hnd o ho)
     rw[hs];unfold Oper.wp at h;cases hr:(execOp a.eval o).run P w with
     | ok x w' =>
       rw[hr] at h;cases x with
       | value v=>exact h
       | skip=>exact h
       | defer d=>exact h
       | enter f args=>exact⟨fun h=>(by cases h),(callsIn_wide (n:=n-1)).2 h⟩
       | row row args=>exact⟨fun h=>(by cases h),fun c cs _=>let ⟨v,w2,r,s⟩:=h c cs; ⟨v,w2,r,stepsIn_wide.2 s⟩⟩
       | _=>exact h.elim
     | halt x w' =>
       rw[hr] at h;cases x <;> first | exact h | exact h.elim
    ·rename_i hw;rw[if_neg hw] at h;exact⟨fun _ _=>trivial,h⟩
theorem lQ {r:Option Nat} {n:Nat} (hnd:∀ (i:Nat) (o:Oper),ops[i]?=some o→∀ c,o.op≠.defer c) (hQ:¬ LetsOut Q):∀ (l:List Nat) {a:Act} {w:World},wpOps P ops Q l a w→wpOpsIn (Fr r) n P ops Q l a w
  | [],_,_,h=>h
  | i::l,a,w,h=>by
    rw[wpOps_cons] at h;rw[wpOpsIn_cons];exact te (hnd i) hQ (wpOp_mono (fun _ _ h=>lQ hnd hQ l h) h)
theorem qH {r:Option Nat} {n:Nat} (hnd:∀ (i:Nat) (o:Oper),ops[i]?=some o→∀ c,o.op≠.defer c) (hQ:¬ LetsOut Q):∀ (k:Nat) {listed:Array Bool} {a:Act} {w:World},wpAny P .any ops Q k listed a w→wpAnyIn (Fr r) n P .any ops Q k listed a w
  | 0,_,_,_,h=>h
  | k+1,listed,a,w,h=>⟨h.1,fun i hi=>te (hnd i) hQ (wpOp_mono (fun _ _ h=>qH hnd hQ k h) (h.2 i hi))⟩
theorem nU {o:Oper} {so:ar} (h:dY P H ops N o=some so):∀ c,o.op≠.defer c:=by
  intro c e;have:=(od h).1;simp[iH,e] at this
def Off (K:Act→World→Prop):Exit→Act→World→Prop | .normal,a,w=>K a w | _,_,_=>False
theorem mG {K:Act→World→Prop}:¬ LetsOut (Off K):=fun ⟨_,_,h⟩=>h
theorem y9 {r:Option Nat} {n id:Nat} {draws:Bool} {cs:List ar} (hc:lp P H N ops draws=some cs) (hfx:∀ so∈cs,∀ t,so.dst=some t→w0.fx t=none) (h:Inv G N Sin w0 σ a w S m) (e:au P G cs K σ) (hQ:∀ a w,Nx G N Sin w0 K a w→Q .normal a w):(Code.region id ops draws).wpIn (Fr r) n P Q a w:=by
  refine wpIn_mono (Q:=Off (Nx G N Sin w0 K)) ?_ fun e a w h=>by cases e <;> first | exact hQ _ _ h | exact h.elim
  clear hQ;have hQ:∀ a w,Nx G N Sin w0 K a w→Off (Nx G N Sin w0 K) .normal a w:=fun _ _ h=>h
  unfold lp at hc;split at hc
  ·rename_i cs' hcs;have hall:aj (fun o so=>dY P H ops N o=some so) ops.toList cs':=ep (fun _ _ h=>h) hcs;have hlen:cs'.length=ops.size:=by have:=hall.length; simpa using this.symm
   have hzl:(List.range ops.size).length=cs'.length:=by simp[hlen]
   have hmem:∀ p∈(List.range ops.size).zip cs',p.1<ops.size∧cs'[p.1]?=some p.2:=by
     intro p hp;obtain⟨i,hi,rfl⟩:=EM hp;simp only[List.getElem_zip,Ff];have h1:i<cs'.length:=by simp at hi; omega
     exact⟨by omega,Ek h1⟩
   have hfx':∀ so∈cs',∀ t,so.dst=some t→w0.fx t=none:=by
     split at hc
     ·cases hc; exact hfx
     ·split at hc
      ·cases hc; exact hfx
      ·cases hc
   have hnd:∀ (i:Nat) (o:Oper),ops[i]?=some o→∀ c,o.op≠.defer c:=by
     intro i o ho;obtain⟨so,h1,h2⟩:∃ so,cs'[i]?=some so∧dY P H ops N o=some so:=by
       have h1:i<cs'.length:=by rw[hlen]; exact (Er.1 ho).1
       obtain⟨o',h2,h3⟩:=hall.get? (Ek h1);rw[EO,ho] at h2;cases h2;exact⟨_,Ek h1,h3⟩
     exact nU h2
   have hcomp:g9 P H N w0.fx ops ((List.range ops.size).zip cs'):=by
     intro p hp;obtain⟨h1,h2⟩:=hmem p hp;obtain⟨o,h3,h4⟩:=hall.get? h2;exact⟨o,by rw[← EO]; exact h3,h4,hfx' p.2 (E7 h2)⟩
   have e':cs'=cs→au P G (((List.range ops.size).zip cs').map (·.2)) K σ:=by
     rintro rfl;rw[k9 _ _ hzl]; exact e
   split at hc
   ·rename_i hd;cases hc;subst hd;have:=ly hQ _ hcomp h (e' rfl);rw[k7 _ _ hzl] at this;exact wpIn_region (lQ hnd mG _ this)
   ·rename_i hd;have hd':draws=true:=by simpa using hd
    subst hd';split at hc
    ·rename_i hk;cases hc;refine wpIn_region_any hk.1 (qH hnd mG _ ?_);have hm:=A8 hk.2;have hzn:((List.range ops.size).zip cs).length=ops.size:=by simp[hlen]
     refine oH (G:=G) (N:=N) (Sin:=Sin) (w0:=w0) (H:=H) (K:=K) (Q:=Off (Nx G N Sin w0 K)) hlen hm hQ ops.size ((List.range ops.size).zip cs) (Array.replicate ops.size false) hzn hcomp (fun p hp=>(hmem p hp).2) ?_ (by simp) (fun j=>?_) (fun k o ho hk=>?_) (h.drew) (e' rfl)
     ·rw[List.pairwise_iff_getElem];intro i j hi hj hij;simp only[List.getElem_zip,Ff];exact hij
     ·constructor
      ·intro hh;have hj:j<ops.size:=by
         rcases Fg j ops.size with hlt | hge
         ·exact hlt
         ·rw[EH,Array.getElem?_eq_none (by simpa using hge)] at hh;simp at hh
       refine⟨cs[j]'(by omega),?_⟩;have h2:j<((List.range ops.size).zip cs).length:=by simp; omega
       have:((List.range ops.size).zip cs)[j]=(j,cs[j]'(by omega)):=by simp
       rw[← this];exact EL h2
      ·rintro⟨so,hso⟩;have:=(hmem _ hso).1;simp only at this;rw[EH];simp[this]
     ·exfalso;rw[EH] at hk;have:=(Er.1 ho).1;simp[this] at hk
    ·cases hc
  ·cases hc
theorem oI {e:MapEntry}:∀ (L:List MapEntry) (j:Nat),(L.map (·.born)).Nodup→L[j]?=some e→L.filter (fun x=>!(x.born==e.born))=L.eraseIdx j
  | [],j,_,h=>by simp at h
  | x::L,0,hn,h=>by
    simp only[EW,Ej] at h;subst h;rw[El,List.nodup_cons] at hn;rw[List.filter_cons_of_neg (by simp),List.eraseIdx_cons_zero,List.filter_eq_self];intro y hy;have:y.born≠x.born:=fun e=>hn.1 (e ▸ Es.2 ⟨y,hy,rfl⟩)
    simpa using this
  | x::L,j+1,hn,h=>by
    rw[EG] at h;rw[El,List.nodup_cons] at hn;have:x.born≠e.born:=fun h2=>hn.1 (h2 ▸ Es.2 ⟨e,E7 h,rfl⟩)
    rw[List.filter_cons_of_pos (by simpa using this),List.eraseIdx_cons_succ,oI L j hn.2 h]
theorem zG {E:Array MapEntry} {seen:Array Nat} {e:MapEntry} {j:Nat} (hn:(E.toList.map (·.born)).Nodup) (h:(fB E seen).toList[j]?=some e):(fB E (seen.push e.born)).toList=(fB E seen).toList.eraseIdx j:=by
  unfold fB at *
  simp only[Array.toList_filter] at *
  rw[← oI _ j (List.Nodup.sublist (List.Sublist.map _ List.filter_sublist) hn) h,List.filter_filter];refine List.filter_congr fun x _=>?_
  rw[contains_push];cases seen.contains x.born <;> cases x.born==e.born <;> rfl
theorem aj.eraseIdx {α β:Type} {R:α→β→Prop}:∀ {l:List α} {m:List β},aj R l m→∀ j,aj R (l.eraseIdx j) (m.eraseIdx j)
  | _,_,.nil,_=>.nil
  | _,_,.cons _ h,0=>h
  | _,_,.cons h k,j+1=>.cons h (k.eraseIdx j)
theorem A9 {o:Oper} (it:Operand) (x:SX) (ho:o.op=.next it false) (hx:ap it=some x) (h:Inv G N Sin w0 σ a w S m) {d:Nat} (hdst:o.dst=some d) (hd:d<N∧w0.fx d=none) (hn:mD σ d K (ev G σ.f x)):o.wp P a w (Nx G N Sin w0 K) Q:=by
  have hd':∀ t,o.dst=some t→t<N∧w0.fx t=none:=fun t ht=>by rw[hdst] at ht; cases ht; exact hd
  have hvx:=(h.operand hx).1;unfold mD at hn;split at hn
  ·rename_i id sz he;split at hn
   ·rename_i q left last hob;rw[he] at hvx;obtain⟨b,hm,hval⟩:=hvx;have hobj:=(h.obj id _ hob).1;unfold aD at hobj;rw[hm] at hobj;obtain⟨_,_,_,cur,ty,fz,hblk,_⟩:=hobj;have hval:a.eval it=.pointer (some ⟨b,0,none⟩):=by rw[hval]; simp
    have over:left=[]→(Instr.next (.pointer (some ⟨b,0,none⟩)) false o.type).run P w=.ok (.tuple #[.bool false]) w→o.wp P a w (Nx G N Sin w0 K) Q:=by
      intro e run;refine bZ h hd' (v:=.tuple #[.bool false]) ?_ (x:=.tup [.c (.d (.bool false))]) ⟨[_],rfl,.cons (Reads.rw (.bool _)) .nil⟩ (fun i hi=>by simp[V.ids,W.ids,C.ids] at hi) (by rw[hdst]; exact hn.1 e);simp only[execOp,ho];rw[hval];exact aX run
    rcases hblk with ⟨h1,h2,h3⟩ | ⟨bm,c,seen,h1,h2,E,h3,h4,h5,h6⟩
    ·refine over h2 ?_;simp[Instr.next,getObj,Sem.run,h1,Result.andThen]
    ·rcases run_next_at (P:=P) w o.type b bm c c seen E c h1 h3 h4.2 (Ew _) with ⟨hs,run⟩ | ⟨e,hem,w1,hw1,run⟩
     ·refine over ?_ run;have hl:=h5.length;have hs:(fB E seen).size=0:=hs;rw[Fb,hs] at hl;exact List.length_eq_zero_iff.1 hl.symm
     ·obtain⟨j,hj,hje⟩:=EM (show e∈(fB E seen).toList from hem);have hj2:j<left.length:=by rw[← h5.length]; exact hj
      have hent:=h5.get j hj hj2;rw[hje] at hent;have heE:e∈E.toList:=(mem_left hem).1;have hI1:Inv G N Sin w0 σ a w1 S m:=by
        rcases hw1 with rfl | rfl
        ·exact h
        ·exact h.drew
      have heap1:w1.heap=w.heap:=by rcases hw1 with rfl | rfl <;> rfl
      have kp:aC S w w1:=gJ (fun b i hs=>(h.sin b i hs).1) (fun b _=>by rw[heap1]);have hI:=hI1.writeObj (ob':=.it q (left.eraseIdx j) (some left[j])) (y:=.mapIter (some bm) c (seen.push e.born) c) hob hm (by rw[heap1]; exact h1) rfl (fun _ _ _ e=>by cases e) rfl (fun _ _=>trivial) (fun w' _ _ _ k hb=>by
        have kE:∀ e p,gC S w q e p→gC S w' q e p:=fun e p h=>⟨h.1,(h.2.keep kp).keep k⟩
        refine .inr ⟨bm,c,seen.push e.born,hb,h2,E,k.map _ _ _ _ h2 (by rw[heap1]; exact h3),h4,?_,fun p hp=>?_⟩
        ·rw[zG h4.1 (by rw[Ek hj,hje])];exact (h5.eraseIdx j).weak fun _ _ _ _ h=>kE _ _ h
        ·cases hp; exact⟨e,heE,seen,rfl,kE _ _ hent⟩) (fun j hj=>by cases hj)
      refine bQ hI hd' (v:=.tuple #[.bool true,e.key,e.val]) ?_ (x:=.tup [.c (.d (.bool true)),.c (.d (.int q left[j].1)),.c (.d left[j].2)]) ⟨[_,_,_],rfl,.cons (Reads.rw (.bool _)) (.cons (by rw[hent.1]; exact Reads.rw (.int _ _)) (.cons ?_ .nil))⟩ (fun i hi=>by simp[V.ids,W.ids,C.ids] at hi) (by rw[hdst]; exact hn.2 j left[j] (Ek hj2))
      ·simp only[execOp,ho];rw[hval];exact aX run
      ·refine Reads.rw (hent.2.keep (kp.trans ?_));refine⟨fun x i v hs hv=>?_,fun x s hs=>?_,fun x i E c hs hb=>?_⟩
       ·have hx:x≠b:=fun e=>(h.obj id _ hob).1.apart hm i (e ▸ hs)
        unfold World.cell? at *
        simp only[EV (fun e=>hx e.symm)];exact hv
       ·by_cases hx:x=b
        ·subst hx;unfold World.shape? at hs;rw[heap1,h1] at hs;cases hs
        ·unfold World.shape? at *
         simp only[EV (fun e=>hx e.symm)];exact hs
       ·have hx:x≠b:=fun e=>(h.obj id _ hob).1.apart hm i (e ▸ hs)
        simp only[EV (fun e=>hx e.symm)];exact hb
   ·exact hn.elim
  ·exact hn.elim
def lR (P:Program) (H:Hint) (N:Nat) (ops:Array Oper) (draws:Bool):Option aN :=
  match ops.toList with
  | o::rest=>match o.op,o.dst,o.guard with
    | .next it false,some d,none=>match ap it,az (dY P H ops N) rest with
      | some x,some cs=>if draws=false∧d<N then some (.nextM d x cs) else none
      | _,_=>none
    | _,_,_=>none
  | []=>none
theorem zH {r:Option Nat} {n id:Nat} {draws:Bool} {sc:aN} {Q':AX→St→Prop} (hc:lR P H N ops draws=some sc) (hfx:∀ t∈sc.writes,w0.fx t=none) (h:Inv G N Sin w0 σ a w S m) (e:aL P G sc Q' σ) (hQ:∀ a w,Nx G N Sin w0 (Q' .nrm) a w→Q .normal a w):(Code.region id ops draws).wpIn (Fr r) n P Q a w:=by
  refine wpIn_mono (Q:=Off (Nx G N Sin w0 (Q' .nrm))) ?_ fun e a w h=>by cases e <;> first | exact hQ _ _ h | exact h.elim
  clear hQ;unfold lR at hc;split at hc
  ·rename_i o rest hops;split at hc
   ·rename_i it d h1 h2 h3;split at hc
    ·rename_i x cs hx hcs;split at hc
     ·rename_i hd;obtain⟨rfl,hdN⟩:=hd;cases hc;have hall:aj (fun o so=>dY P H ops N o=some so) rest cs:=ep (fun _ _ h=>h) hcs;have hsz:ops.size=rest.length+1:=by rw[← Fb,hops]; rfl
      have hget:∀ i,ops[i+1]?=rest[i]?:=fun i=>by rw[← EO,hops,EG]
      have h0:ops[0]?=some o:=by rw[← EO,hops]; rfl
      have hcomp:g9 P H N w0.fx ops (((List.range rest.length).map Nat.succ).zip cs):=by
        intro p hp;obtain⟨i,hi,rfl⟩:=EM hp;have hi1:i<rest.length:=by simp at hi; omega
        have hi2:i<cs.length:=by simp at hi; omega
        simp only[List.getElem_zip,EE,Ff];exact⟨rest[i],by rw[hget,Ek hi1],hall.get i hi1 hi2,fun t ht=>hfx t (Ev _ (List.mem_filterMap.2 ⟨cs[i],EL hi2,ht⟩))⟩
      have hlen:((List.range rest.length).map Nat.succ).length=cs.length:=by simpa using hall.length
      have hnd:∀ (i:Nat) (o:Oper),ops[i]?=some o→∀ c,o.op≠.defer c:=by
        intro i o' ho;cases i with
        | zero=>rw[h0] at ho; cases ho; intro c e; rw[h1] at e; cases e
        | succ i =>
          rw[hget] at ho;obtain⟨so,hso⟩:∃ so,dY P H ops N o'=some so:=by
            obtain⟨hi,rfl⟩:=Et.1 ho;exact⟨_,hall.get i hi (by rw[← hall.length]; exact hi)⟩
          exact nU hso
      refine wpIn_region (lQ hnd mG _ ?_);rw[hsz,List.range_succ_eq_map,wpOps_cons];unfold wpOp;simp only[h0];have hw:Region.wanted o (yielded ops a.tmps)=true:=by simp[Region.wanted,h3]
      rw[if_pos hw];refine .inl ?_;have hop:=A9 (P:=P) (K:=fun s=>au P G cs (Q' .nrm) s) (Q:=Off (Nx G N Sin w0 (Q' .nrm))) it x h1 hx h h2 ⟨hdN,hfx d (EC ..)⟩ e;refine Oper.wp_mono (fun a1 w1 hk=>?_) hop;obtain⟨σ1,S1,m1,k1,k2⟩:=hk;have:=ly (K:=Q' .nrm) (Q:=Off (Nx G N Sin w0 (Q' .nrm))) (fun _ _ h=>h) _ hcomp k2 (by rw[k9 _ _ hlen]; exact k1);rw[k7 _ _ hlen] at this;exact this
     ·cases hc
    ·cases hc
   ·cases hc
  ·cases hc
end
section
variable (P:Program) (H:Hint) (N:Nat)
def mm (H:Hint) (id:Nat) (c:aN):aN:=match H.gh.find? fun p=>p.1==id with | some p=>.ghost p.2 c | none=>c
def b8 (inr:Bool):Code→Option aN
  | .skip=>some .skip
  | .region id ops draws=>(match lp P H N ops draws with | some l=>some (aN.reg l) | none=>match lR P H N ops draws with | some c=>some c | none=>if H.bad=true then some (aN.reg [⟨none,.lenStr .u,none⟩]) else none).map (mm H id)
  | .seq a b=>match b8 inr a,b8 inr b with | some x,some y=>some (.seq x y) | _,_=>none
  | .cond c a b=>match ap c,b8 inr a,b8 inr b with | some c,some x,some y=>some (.cond c x y) | _,_,_=>none
  | .block id c=>(b8 inr c).map (.block id)
  | .loop c=>(b8 inr c).map .loop
  | .exit id=>some (.exit id)
  | .scope c=>b8 inr c
  | .label _=>some .skip
  | .ret=>some .ret
  | .rangeFunc g ps a b=>if inr=false∧ps.all (fun t=>decide (t<N))=true then match ap g,b8 true a,b8 true b with | some x,some a,some b=>some (.rangeF x ps.toList a b) | _,_,_=>none else none
  | _=>none
def iE:ResultVar→Option (Nat×Option Kd)
  | .tmp t=>some (t,none)
  | .cell t ty=>(bY P ty).map fun kd=>(t,some kd)
def aR (fn:Func):Option aV :=
  match fn.body with
  | some c=>match b8 P H fn.ntmps false c,az (iE P) fn.results.toList with
    | some body,some res=>if fn.params.size+fn.nfree≤fn.ntmps then some ⟨fn.params.size+fn.nfree,fn.ntmps,body,res⟩ else none
    | _,_=>none
  | none=>none
end
section
variable {P:Program} {G:av} {N:Nat} {Sin:al} {w0:Gh} {σ:St} {a:Act} {w:World} {S:al} {m:Mp} {H:Hint}
theorem Inv.ent {τ:St} (h:Inv G N Sin w0 σ a w S m) (e:ek σ τ):∃ m',Inv G N Sin w0 τ a w S m':=by
  obtain⟨⟨g,g1,g2,g3⟩,g4,g5⟩:=e;refine⟨fun i=>m (g i),h.size,h.defers,fun t=>?_,g4,fun i o ho=>⟨?_,g5 i o ho⟩,fun i j b s s' h1 h2 h3 h4=>?_,h.sin,h.sub,h.glob,h.below,h.oth,h.kso,h.sso,h.fix⟩
  ·rcases g1 t with e | e
   ·rw[e]; trivial
   ·have:=h.slot t;rw[e] at this;exact this.ren
  ·have hob:=(h.obj (g i) _ (g2 i o ho)).1;unfold aD at hob ⊢
   show match m (g i) with | none=>_ | some (b,sz)=>_
   split at hob
   ·obtain⟨sz,e⟩:=hob;rename_i hm;rw[hm];cases o with
    | row s es=>exact⟨sz,e⟩
    | _=>cases e
   ·rename_i b sz hm;rw[hm];obtain⟨k1,k2,k3,cur,ty,fz,k4,k5,k6⟩:=hob;refine⟨?_,k2,k3,cur,ty,fz,k4.ren,k5,k6.ren⟩;rw[← k1];cases o <;> rfl
  ·refine g3 i j h1 h2 ?_;obtain⟨oi,hi⟩:=Eq.1 h1;obtain⟨oj,hj⟩:=Eq.1 h2;exact h.inj (g i) (g j) b s s' (by rw[g2 i oi hi]; simp) (by rw[g2 j oj hj]; simp) h3 h4
theorem lS {p:Nat→Prop} (h:∃ n,p n):∃ n,p n∧∀ k,p k→n≤k:=by
  obtain⟨n,hn⟩:=h
  induction n using Nat.strongRecOn with
  | _ n ih =>
    by_cases h2:∃ k,k<n∧p k
    ·obtain⟨k,hk,hp⟩:=h2;exact ih k hk hp
    ·refine⟨n,hn,fun k hk=>?_⟩;rcases Fg k n with hlt | hge
     ·exact absurd ⟨k,hlt,hk⟩ h2
     ·exact hge
theorem ze {F:Fence} {k:Nat} {c:Code} {Q:Exit→Act→World→Prop} (I:Nat→Act→World→Prop) {n:Nat} (h:I n a w) (round:∀ n a w,I n a w→c.wpIn F k P (Exit.then (fun a' w'=>∃ n',n'<n∧I n' a' w') Q) a w):(Code.loop c).wpIn F k P Q a w:=by
  have hμ:∃ μ:Act→World→Nat,∀ a w,(∃ n,I n a w)→I (μ a w) a w∧∀ k,I k a w→μ a w≤k:=by
    have:∀ p:Act×World,∃ k,(∃ n,I n p.1 p.2)→I k p.1 p.2∧∀ j,I j p.1 p.2→k≤j:=by
      intro p;by_cases hp:∃ n,I n p.1 p.2
      ·obtain⟨k,h1,h2⟩:=lS hp;exact⟨k,fun _=>⟨h1,h2⟩⟩
      ·exact⟨0,fun h=>absurd h hp⟩
    obtain⟨f,hf⟩:=Classical.axiomOfChoice this;exact⟨fun a w=>f (a,w),fun a w=>hf (a,w)⟩
  obtain⟨μ,hμ⟩:=hμ;refine wpIn_loop (fun a w=>∃ n,I n a w) μ ⟨n,h⟩ fun a w hI=>?_
  refine wpIn_mono (round _ a w (hμ a w hI).1) fun e a' w' he=>?_
  cases e with
  | normal =>
    obtain⟨n',h1,h2⟩:=he;exact⟨⟨n',h2⟩,Nat.lt_of_le_of_lt ((hμ a' w' ⟨n',h2⟩).2 n' h2) h1⟩
  | _=>exact he
def AX.toExit:AX→Exit
  | .nrm=>.normal
  | .ex id=>.exit id
  | .ret=>.ret
def AX.toCode:AX→Code
  | .nrm=>.skip
  | .ex id=>.exit id
  | .ret=>.ret
def kC (G:av) (N:Nat) (Sin:al) (w0:Gh) (Q':AX→St→Prop) (Q:Exit→Act→World→Prop):Prop:=∀ e σ a w S m,Q' e σ→Inv G N Sin w0 σ a w S m→Q e.toExit a w
structure bS (l:Nat) (W W':World):Prop where
  size:W.heap.size≤W'.heap.size
  same:∀ (k:Nat) (o:Obj),k≠l→W.heap[k]?=some o→ib o=false→W'.heap[k]?=some o
theorem bS.of {l:Nat} {A B:World} (h:bB A B):bS l A B:=⟨h.size,fun k o _ hk ho=>h.same k o hk ho⟩
theorem bS.trans {l:Nat} {A B C:World} (h:bS l A B) (k:bS l B C):bS l A C :=
  ⟨EQ h.size k.size,fun i o hl hi ho=>k.same i o hl (h.same i o hl hi ho) ho⟩
theorem bS.put (W:World) (l:Nat) (o:Obj):bS l W (W.putObj l o) :=
  ⟨(grownBy_putObj' W l o).size,fun k _ hl hk _=>(World.putObj_heap_other hl).trans hk⟩
theorem bS.old {l:Nat} {A B C:World} (h:bB A B) (k:bS l B C) (hl:A.heap.size≤l):bB A C :=
  ⟨EQ h.size k.size,fun i o hi ho=>k.same i o (fun e=>by have:=(Er.1 hi).1; omega) (h.same i o hi ho) ho⟩
theorem dE.but {B l:Nat} {w w':World} (k:bS l w w') (hl:∀ ds,w.heap[l]?≠some (.deferred ds)):∀ {ds:List Deferred},dE B w ds→dE B w' ds
  | [],_=>trivial
  | _::_,⟨⟨D,h1,h2,h3,h4⟩,h5⟩=>⟨⟨D,h1,h2,k.same _ _ (fun e=>hl _ (e ▸ h3)) h3 rfl,h4⟩,h5.but k hl⟩
def dd (w w':World):Prop:=∀ (b:Nat) o,w.heap[b]?=some o→ib o=true→w'.heap[b]?=some o
theorem dd.keeps {w w':World} (h:dd w w') (S:al):aC S w w':=by
  refine⟨fun b i v _ hv=>?_,fun b s hs=>?_,fun b i E c _ hb=>h b _ hb rfl⟩
  ·unfold World.cell? at hv ⊢;cases hb:w.heap[b]? with
   | none=>simp[hb] at hv
   | some o =>
     cases o with
     | cells cur ty fz=>rw[h b _ hb rfl]; rw[hb] at hv; exact hv
     | _=>simp[hb] at hv
  ·unfold World.shape? at hs ⊢;cases hb:w.heap[b]? with
   | none=>simp[hb] at hs
   | some o =>
     cases o with
     | cells cur ty fz=>rw[h b _ hb rfl]; rw[hb] at hs; exact hs
     | _=>simp[hb] at hs
theorem dd.put {w:World} {l:Nat} {o o':Obj} (hl:w.heap[l]?=some o) (ho:ib o=false):dd w (w.putObj l o'):=fun b x hb hx=>by
  refine (World.putObj_heap_other fun e=>?_).trans hb;subst e; rw[hl] at hb; cases hb; rw[ho] at hx; cases hx
theorem iw {B:Nat} {w:World} {l:Nat} {o:Obj} (o':Obj) (hl:B≤l) (h:w.heap[l]?=some o):Below B w (w.putObj l o') :=
  (Below.refl B w).grown (grownBy_putObj' w l o') (by have:=(Er.1 h).1; omega) (fun k e=>by cases e; omega)
theorem Inv.turn (h:Inv G N Sin w0 σ a w S m) {w':World} (hc:dd w w') (hsz:w.heap.size≤w'.heap.size) {w1:Gh} (e1:w1.toWorld=w0.toWorld) (below:aU w0.heap.size w0.ext w0 w') {a':Act} (hts:a'.tmps.size=a.tmps.size)
    (ht:∀ t,σ.f t=.undef∨a'.tmps.getD t undef=a.tmps.getD t undef) (hdef:dE w0.heap.size w' a'.defers) (oth:bB w1.wo w') (kso:aC w1.so w1.wo w') (sso:∀ b i,w1.so b i→S b i) (fix:∀ t v,w1.fx t=some v→a'.tmps.getD t undef=v) (e2:w1.ext=w0.ext:=by rfl) :
    Inv G N Sin w1 σ a' w' S m:=by
  have k:=hc.keeps S;have hmay:w1.may=w0.may:=by unfold Gh.may; rw[e1,e2]
  refine⟨hts.trans h.size,by rw[e1]; exact hdef,fun t=>?_,h.used,fun id o ho=>?_,h.inj,fun b i hs=>?_,h.sub,h.glob.step k (fun _ _ h=>h),by rw[e1,e2]; exact below,oth,kso,sso,fix⟩
  ·rcases ht t with e | e
   ·rw[e]; trivial
   ·rw[e]; exact (h.slot t).keep k
  ·refine⟨?_,(h.obj id o ho).2⟩;rw[hmay];refine (h.obj id o ho).1.step k (fun _ _ h=>h) (fun _ _=>rfl) rfl fun b s hm=>⟨?_,(h.obj id o ho).1.apart hm⟩
   have:=(h.obj id o ho).1;unfold aD at this;rw[hm] at this;obtain⟨_,_,_,cur,ty,fz,h4,_⟩:=this;obtain⟨x,h5,h6⟩:∃ x,w.heap[b]?=some x∧ib x=true:=by
     cases o with
     | row s es=>exact⟨_,h4,rfl⟩
     | box cs=>exact⟨_,h4,rfl⟩
     | mp q es=>obtain⟨E,c,h5,_⟩:=h4; exact⟨_,h5,rfl⟩
     | it q l p=>rcases h4 with ⟨h5,_⟩ | ⟨_,_,_,h5,_⟩ <;> exact⟨_,h5,rfl⟩
   rw[hc b x h5 h6,h5]
  ·rw[hmay];exact⟨Nat.lt_of_lt_of_le (h.sin b i hs).1 hsz,(h.sin b i hs).2⟩
theorem Inv.puts:∀ {ps:List Nat} {us:List Value} {r:List D} {σ:St} {a:Act},Inv G N Sin w0 σ a w S m→aj (fun v x=>RW (fun _=>none) S w v (.c (.d x))) us r→(∀ t∈ps,t<N∧w0.fx t=none)→r.length=ps.length →
    Inv G N Sin w0 ⟨kg σ.f ps r,σ.h,σ.u⟩ { a with tmps:=(ps.zip us).foldl (fun t p=>t.setIfInBounds p.1 p.2) a.tmps } w S m
  | [],us,r,σ,a,h,hr,_,hl=>by
    have:r=[]:=List.length_eq_zero_iff.1 hl;subst this;exact h
  | p::ps,us,r,σ,a,h,hr,hp,hl=>by
    cases hr with
    | nil=>cases hl
    | cons h1 h2 =>
      have:=h.put (some p) (fun t e=>by cases e; exact hp p (by simp)) (RV.mono (S:=S) (fun _ _ h=>h) (x:=vd _) (RW.congr h1 (fun i hi=>by cases hi))) (fun i hi=>by cases hi);exact this.puts h2 (fun t ht=>hp t (by simp[ht])) (by simpa using hl)
theorem zf {g:Operand} {ps:Array Tmp} {asg body:Code} {x:SX} {sa sb:aN} (hx:ap g=some x) (hps:∀ t∈ps.toList,t<N)
    (ha:∀ {w1:Gh} {r:Option Nat} {n:Nat} {Q':AX→St→Prop} {Q:Exit→Act→World→Prop} {σ:St} {a:Act} {w:World} {S:al} {m:Mp},(∀ t∈sa.writes,w1.fx t=none)→kC G N Sin w1 Q' Q→Inv G N Sin w1 σ a w S m→aL P G sa Q' σ→asg.wpIn (Fr r) n P Q a w)
    (hb:∀ {w1:Gh} {r:Option Nat} {n:Nat} {Q':AX→St→Prop} {Q:Exit→Act→World→Prop} {σ:St} {a:Act} {w:World} {S:al} {m:Mp},(∀ t∈sb.writes,w1.fx t=none)→kC G N Sin w1 Q' Q→Inv G N Sin w1 σ a w S m→aL P G sb Q' σ→body.wpIn (Fr r) n P Q a w)
    {n:Nat} {Q':AX→St→Prop} {Q:Exit→Act→World→Prop} (hp:kC G N Sin w0 Q' Q) (h:Inv G N Sin w0 σ a w S m) (e:aL P G (.rangeF x ps.toList sa sb) Q' σ):(Code.rangeFunc g ps asg body).wpIn (Fr none) n P Q a w:=by
  obtain⟨gf,caps,xs,f0,h0,u0,I,hev,hseq,hlen,hent,hun,hI0,hround,hdone⟩:=e;have hop:RV m S w (a.eval g) (ev G σ.f x):=(h.operand hx).1;rw[hev] at hop;obtain⟨lb,hg,hlb⟩:=y8 (show Reads S w (a.eval g) (.fn gf caps) from hop);obtain⟨m0,hinv0⟩:=h.ent hent;refine wpIn_rangeFunc fun fn hfn=>?_
  obtain⟨rec,hrec⟩:∃ rec:LoopState→Option Code→Loop,rec=fun st pe=>{ state:=st,pending:=pe,fn,tmps:=a.tmps,params:=ps,assign:=asg,body,defers:=w.heap.size }:=⟨_,rfl⟩
  obtain⟨W1,hW1⟩:∃ W1,(w.alloc (.deferred (some []))).alloc (.loop (rec .ready none))=W1:=⟨_,rfl⟩
  obtain⟨a2,ha2⟩:∃ a2:Act,{ a with defers:={ target:=.collected w.heap.size,args:=#[] }::a.defers }=a2:=⟨_,rfl⟩
  have hL1:W1.heap[w.heap.size+1]?=some (.loop (rec .ready none)):=by
    rw[← hW1]; have:=World.alloc_heap_new (w.alloc (.deferred (some []))) (.loop (rec .ready none)); rwa [World.size_alloc] at this
  have hK1:W1.heap[w.heap.size]?=some (.deferred (some [])):=by
    rw[← hW1]; exact (Below.heap_alloc _ _ _ (by simp)).trans (World.alloc_heap_new w _)
  have hold:∀ b,b<w.heap.size→W1.heap[b]?=w.heap[b]?:=fun b hlt=>by
    rw[← hW1]; exact (Below.heap_alloc _ _ _ (by simp; omega)).trans (Below.heap_alloc w _ b hlt)
  have hs1:W1.heap.size=w.heap.size+2:=by rw[← hW1]; simp
  have hko1:bB w W1:=nW hold (by omega);have hw0:w0.heap.size≤w.heap.size:=h.bsize;have hbel1:aU w0.heap.size w0.ext w0 W1:=by
    rw[← hW1]; exact (h.below.step (Ew _) ((Below.refl _ _).alloc (Ew _) _)).step (Ew _) ((Below.refl _ _).alloc (Ew _) _)
  have hsame1:dd w W1:=fun b x hb _=>(hold b (Er.1 hb).1).trans hb
  have hinv1:Inv G N Sin w0 ⟨f0,h0,u0⟩ a2 W1 S m0:=by
    subst ha2;refine hinv0.turn hsame1 (by omega) rfl hbel1 rfl (fun t=>.inr rfl) ⟨⟨w.heap.size,rfl,hw0,hK1,fun d' hd' e=>?_⟩,h.defers.keep hko1⟩ (h.oth.trans hko1) ?_ h.sso h.fix
    ·have key:∀ {ds:List Deferred},dE w0.heap.size w ds→d'∈ds→d'.target≠.collected w.heap.size:=by
       intro ds
       induction ds with
       | nil=>intro _ h; cases h
       | cons d ds ih =>
         rintro⟨⟨D,h1,h2,h3,h4⟩,h5⟩ hm e;rcases EJ.1 hm with rfl | hm
         ·rw[h1] at e;simp only[Target.collected.injEq] at e;have:=(Er.1 h3).1;omega
         ·exact ih h5 hm e
     exact key h.defers hd' e
    ·exact h.kso.trans (hsame1.keeps _)
  have hat:a2.tmps=a.tmps:=by subst ha2; rfl
  refine⟨w.heap.size+1,[{ target:=.collected w.heap.size,args:=#[] }],W1,{ target:=.fn (.func gf) lb.toArray,args:=#[.func (.yield (w.heap.size+1)) #[] #[]] },W1,gf,
    #[.func (.yield (w.heap.size+1)) #[] #[]]++lb.toArray,W1,?_,?_,fun _ _=>trivial,?_,fun h=>(by cases h),?_⟩
  ·rw[← hW1,hrec]; exact run_enterLoop_outer _ _ _ _ _
  ·simp only[resolve,hg];simp[go_sem]
  ·simp[invoke,go_sem,hseq.1]
  ·
   obtain⟨J,hJ⟩:∃ J:LoopState→Option Code→(ak→(Nat→Bool)→Prop)→World→Prop,J=fun st pe R W =>
     ∃ h u S' m',R h u∧Inv G N Sin w0 ⟨f0,h,u⟩ a2 W S' m'∧W.heap[w.heap.size+1]?=some (.loop (rec st pe))∧(∀ b i,S b i→S' b i)∧aC S W1 W∧W1.heap.size≤W.heap.size:=⟨_,rfl⟩
   have Jgrow:∀ st pe R W W',J st pe R W→Below W.heap.size W W'→J st pe R W':=by
     intro st pe R W W' hj hbl;rw[hJ] at hj ⊢;obtain⟨h',u',S',m',k1,k2,k3,k4,k5,k6⟩:=hj;have hb:∀ b,b<W.heap.size→W'.heap[b]?=W.heap[b]?:=fun b hlt=>hbl.block b hlt
     refine⟨h',u',S',m',k1,k2.grow hb (k2.below.step (Ew _) hbl) hbl.size,(hb _ (Er.1 k3).1).trans k3,k4,k5.trans (gJ (fun b i hs=>(k2.sin b i (k4 b i hs)).1) hb),EQ k6 hbl.size⟩
   have key:=hseq.2 (n-1) W1 S lb (fun b i hs=>by have:=(h.sin b i hs).1; omega) (h.glob.step (hsame1.keeps S) (fun _ _ h=>h)) ?_ (w.heap.size+1) (fun k=>J .ready none (I k)) (fun W=>∃ c:AX,J .done (some c.toCode) (fun h u=>Q' c ⟨f0,h,u⟩∧c≠.nrm) W) ?_ (fun k W W'=>Jgrow _ _ _ W W') (fun W W'=>?_) ?_ ?_
   ·refine CallsIn.mono key ?_;rintro e W2 ⟨⟨v,rfl⟩,hj | ⟨c,hj⟩⟩
    ·rw[hJ] at hj;obtain⟨h',u',S',m',k1,k2,k3,k4,k5,k6⟩:=hj;refine⟨none,_,by have:=run_endLoop (P:=P) k3 (by rw[hrec]; simp); rw[hrec] at this; exact this,?_⟩
     show Q .normal { a with defers:=[{ target:=.collected w.heap.size,args:=#[] }]++a.defers } _
     rw[List.singleton_append,ha2]
     refine hp .nrm _ _ _ S' m' (hdone h' u' k1) (k2.turn (dd.put k3 rfl) (grownBy_putObj' _ _ _).size rfl (k2.below.trans (aU.of (iw _ (by omega) k3))) rfl (fun t=>.inr rfl) (k2.defers.but (bS.put _ _ _) fun ds e=>by rw[k3] at e; cases e)
       ((bS.old k2.oth (bS.put _ _ _) (by have:=h.oth.size; omega))) (k2.kso.trans ((dd.put k3 rfl).keeps _)) k2.sso k2.fix)
    ·rw[hJ] at hj;obtain⟨h',u',S',m',⟨k1,kc⟩,k2,k3,k4,k5,k6⟩:=hj;refine⟨some c.toCode,_,by have:=run_endLoop (P:=P) k3 (by rw[hrec]; simp); rw[hrec] at this; exact this,?_⟩
     show c.toCode.wpIn (Fr none) n P Q { a with defers:=[{ target:=.collected w.heap.size,args:=#[] }]++a.defers } _
     rw[List.singleton_append,ha2]
     have hq:=hp c _ _ _ S' m' k1 (k2.turn (dd.put (o':=.loop { rec .done (some c.toCode) with state:=.exhausted }) k3 rfl) (grownBy_putObj' _ _ _).size rfl (k2.below.trans (aU.of (iw _ (by omega) k3))) rfl (fun t=>.inr rfl) (k2.defers.but (bS.put _ _ _) fun ds e=>by rw[k3] at e; cases e)
       ((bS.old k2.oth (bS.put _ _ _) (by have:=h.oth.size; omega))) (k2.kso.trans ((dd.put k3 rfl).keeps _)) k2.sso k2.fix)
     rw[hrec] at hq;cases c with
     | nrm=>exact absurd rfl kc
     | ex id=>exact wpIn_exit hq
     | ret=>exact wpIn_ret hq
   ·refine hlb.weak fun v d _ _ hr=>?_
    exact Reads.rw (hr.keep (hsame1.keeps S))
   ·intro k W hj;rw[hJ] at hj;obtain⟨h',u',S',m',k1,k2,k3,k4,k5,k6⟩:=hj;exact⟨k5,k6⟩
   ·rintro⟨c,hj⟩ hbl;exact⟨c,Jgrow _ _ _ W W' hj hbl⟩
   ·
    intro k r W us hr hj hus;rw[hJ] at hj;obtain⟨h',u',S',m',k1,k2,k3,k4,k5,k6⟩:=hj;have hrl:r.length=ps.toList.length:=hlen r (E7 hr);have hul:us.length=ps.toList.length:=hus.length.trans hrl;have hy:=run_yield (P:=P) (args:=us.toArray) k3 (by rw[hrec]; simpa using hul);rw[hrec] at hy;obtain⟨wr,hwr⟩:∃ wr,wr=ps.toList++sa.writes++sb.writes:=⟨_,rfl⟩
    let fx:Nat→Option Value:=fun t=>if t∈wr then none else some (a.tmps.getD t undef)
    have hfx:∀ t∈wr,fx t=none:=fun t ht=>if_pos ht
    let wA:Gh:={ w0 with wo:=W,so:=S',fx:=fx }
    have hfold:(ps.zip us.toArray).foldl (fun tmps (x:Tmp×Value)=>tmps.setIfInBounds x.1 x.2) a.tmps=(ps.toList.zip us).foldl (fun t p=>t.setIfInBounds p.1 p.2) a.tmps:=by
      rw[← Array.foldl_toList]; simp
    have hinvA:Inv G N Sin wA ⟨kg f0 ps.toList r,h',u'⟩ { tmps:=(ps.zip us.toArray).foldl (fun tmps (x:Tmp×Value)=>tmps.setIfInBounds x.1 x.2) a.tmps,defers:=[] } W S' m':=by
      rw[hfold];have:=k2.turn (w1:=wA) (a':={ tmps:=a.tmps,defers:=[] }) (w':=W) (fun _ _ h _=>h) (Ew _) rfl k2.below (by rw[hat]) (fun t=>.inr (by rw[hat])) trivial (bB.refl W) (aC.refl _ _) (fun _ _ h=>h) (fun t v ht=>by
        have ht':fx t=some v:=ht;simp only[fx] at ht';split at ht'
        ·cases ht'
        ·cases ht'; rfl)
      refine this.puts (hus.weak fun v d _ _ hv=>RW.mono k4 hv) (fun t ht=>⟨hps t ht,hfx t ?_⟩) hrl;rw[hwr]; simp[ht]
    refine⟨fn,_,asg,body,hy,roundIn_of_wpIn trivial ?_⟩;refine ha (w1:=wA) (r:=some (w.heap.size+1)) (fun t ht=>hfx t (by rw[hwr]; simp[ht])) ?_ hinvA (hround k r h' u' hr k1);rintro e1 σ1 a1 V1 S1 m1 q1 hinv1';cases e1 with
    | ex id=>exact q1.elim
    | ret=>exact q1.elim
    | nrm =>
      have hl1:V1.heap[w.heap.size+1]?=some (.loop (rec .ready none)):=hinv1'.oth.same _ _ k3 rfl;refine⟨_,run_beginRound hl1 (by rw[hrec]),?_⟩;obtain⟨V2,hV2⟩:∃ V2,V1.putObj (w.heap.size+1) (.loop { rec .ready none with state:=.busy })=V2:=⟨_,rfl⟩
      rw[hV2];have hl2:V2.heap[w.heap.size+1]?=some (.loop { rec .ready none with state:=.busy }):=by rw[← hV2]; exact World.putObj_heap_same (Er.1 hl1).1
      have hsc2:dd V1 V2:=by rw[← hV2]; exact dd.put hl1 rfl
      have hkb2:bS (w.heap.size+1) V1 V2:=by rw[← hV2]; exact bS.put _ _ _
      let wB:Gh:={ w0 with wo:=V2,so:=S1,fx:=fx }
      have hbelB:aU w0.heap.size w0.ext w0 V2:=by
        rw[← hV2]; exact aU.trans (show aU w0.heap.size w0.ext w0 V1 from hinv1'.below) (aU.of (iw _ (by omega) hl1))
      have hinvB:Inv G N Sin wB σ1 a1 V2 S1 m1:=by
        exact hinv1'.turn (w1:=wB) hsc2 hkb2.size rfl hbelB rfl (fun t=>.inr rfl) (hinv1'.defers.but hkb2 fun ds e=>by rw[hl1] at e; cases e) (bB.refl V2) (aC.refl _ _) (fun _ _ h=>h) hinv1'.fix
      refine hb (w1:=wB) (r:=some (w.heap.size+1)) (fun t ht=>hfx t (by rw[hwr]; simp[ht])) ?_ hinvB q1;rintro e2 σ2 a3 V3 S3 m3 q2 hinv3;have hl3:V3.heap[w.heap.size+1]?=some (.loop { rec .ready none with state:=.busy }):=hinv3.oth.same _ _ hl2 rfl;have bQ:∀ (st:LoopState) (pe:Option Code) (R:ak→(Nat→Bool)→Prop) (h2:ak) (u2:Nat→Bool),R h2 u2→ek σ2 ⟨f0,h2,u2⟩→J st pe R (V3.putObj (w.heap.size+1) (.loop (rec st pe))):=by
        intro st pe R h2 u2 hR hent2;obtain⟨m4,hinv4⟩:=hinv3.ent hent2;have hsc4:dd V3 (V3.putObj (w.heap.size+1) (.loop (rec st pe))):=dd.put hl3 rfl;have hkb:bS (w.heap.size+1) W (V3.putObj (w.heap.size+1) (.loop (rec st pe))) :=
          ((bS.of hinv1'.oth).trans hkb2).trans ((bS.of hinv3.oth).trans (bS.put _ _ _))
        have hkp:aC S' W (V3.putObj (w.heap.size+1) (.loop (rec st pe))):=by
          have c1:aC S' W V1:=hinv1'.kso;have c2:aC S' V1 V2:=hsc2.keeps _;have c3:aC S1 V2 V3:=hinv3.kso;have c4:aC S' V3 _:=hsc4.keeps _;exact ((c1.trans c2).trans (c3.sub hinv1'.sso)).trans c4
        rw[hJ];refine⟨h2,u2,S3,m4,hR,?_,World.putObj_heap_same (Er.1 hl3).1,fun b i hs=>hinv3.sso b i (hinv1'.sso b i (k4 b i hs)),k5.trans (hkp.sub k4),EQ k6 hkb.size⟩;have hbel4:aU w0.heap.size w0.ext w0 (V3.putObj (w.heap.size+1) (.loop (rec st pe))):=aU.trans (show aU w0.heap.size w0.ext w0 V3 from hinv3.below) (aU.of (iw _ (by omega) hl3))
        refine hinv4.turn (w1:=w0) hsc4 (grownBy_putObj' _ _ _).size rfl hbel4 (by rw[hat,h.size]; exact hinv3.size.symm) (fun t=>?_) (k2.defers.but hkb fun ds e=>by rw[k3] at e; cases e) (bS.old k2.oth hkb (by have:=h.oth.size; omega))
          (k2.kso.trans (hkp.sub k2.sso)) (fun b i hs=>hinv3.sso b i (hinv1'.sso b i (k2.sso b i hs))) (fun t v ht=>?_)
        ·by_cases hm:t∈wr
         ·left; exact hun t (by rw[← hwr]; exact hm)
         ·right;rw[hat];exact (hinv3.fix t (a.tmps.getD t undef) (if_neg hm)).symm
        ·rw[hat]; exact h.fix t v ht
      have hend:=fun (jump:Option Code)=>run_endRound (P:=P) jump hl3
      cases e2 with
      | nrm =>
        obtain⟨h2,u2,hent2,hI2⟩:=q2;refine⟨_,_,hend none,.inl ⟨rfl,?_⟩⟩;have:=bQ .ready none (I (k+1)) h2 u2 hI2 hent2;rw[hrec] at this ⊢;exact this
      | ex id =>
        obtain⟨h2,u2,hent2,hI2⟩:=q2;refine⟨_,_,hend (some (.exit id)),.inr ⟨rfl,.ex id,?_⟩⟩;have:=bQ .done (some (.exit id)) (fun h u=>Q' (.ex id) ⟨f0,h,u⟩∧AX.ex id≠.nrm) h2 u2 ⟨hI2,by simp⟩ hent2;rw[hrec] at this ⊢;exact this
      | ret =>
        obtain⟨h2,u2,hent2,hI2⟩:=q2;refine⟨_,_,hend (some .ret),.inr ⟨rfl,.ret,?_⟩⟩;have:=bQ .done (some .ret) (fun h u=>Q' .ret ⟨f0,h,u⟩∧AX.ret≠.nrm) h2 u2 ⟨hI2,by simp⟩ hent2;rw[hrec] at this ⊢;exact this
   ·rw[hJ];exact⟨h0,u0,S,m0,hI0,hinv1,hL1,fun _ _ h=>h,aC.refl _ _,Ew _⟩
theorem kW {h:ak} {id:Nat} {o:Ob} (ho:h id=some o):∀ l:List C,killAll h l id=none→∃ sz off n,C.own id sz off n∈l
  | [],hh=>by simp only[killAll] at hh; rw[ho] at hh; cases hh
  | c::l,hh=>by
    cases c <;> simp only[killAll] at hh
    case own id2 sz2 off2 n2 =>
      by_cases e:id=id2
      ·subst e; exact⟨sz2,off2,n2,EC ..⟩
      ·simp only[upd,e,if_false] at hh;obtain⟨x,y,z,hz⟩:=kW ho l hh;exact⟨x,y,z,Ev _ hz⟩
    all_goals (obtain⟨x,y,z,hz⟩:=kW ho l hh; exact⟨x,y,z,Ev _ hz⟩)
theorem qI (h:Inv G N Sin w0 σ a w S m) {T:al} (hT:∀ b i,S b i→T b i) {q:IntKind}:∀ {E:List MapEntry} {es:List (Int×C)} {ds:List (Int×D)},aj (fun (e:MapEntry) (p:Int×C)=>e.key=.int q p.1∧RW m S w e.val (.c p.2)) E es→iT σ.h es=some ds →
    (∀ p∈es,∀ id∈p.2.ids,∀ o b s i,(∃ sz off n,p.2=.own id sz off n)→σ.h id=some o→m id=some (b,s)→T b i)→aj (gC T w q) E ds
  | _,_,_,.nil,e,_=>by simp only[iT,Ej] at e; subst e; exact .nil
  | _,(k,c)::_,_,.cons h1 h2,e,hid=>by
    simp only[iT] at e;split at e
    ·rename_i d l hd hl;split at e
     ·rename_i hone;cases e;refine .cons ⟨h1.1,?_⟩ (qI h hT h2 hl fun p hp=>hid p (Ev _ hp));have h3:=h1.2;have hrc:∀ v,RW m S w v (.c c)→RC m S w v c:=by
        intro v h3;cases c with
        | d x =>
          cases x with
          | agg cs=>simp only[bK,Ej] at hd; subst hd; cases hone
          | _=>exact h3
        | _=>exact h3
      exact jU h hT (fun id hi o b s i ho hm=>hid (k,c) (EC ..) id hi o b s i (iD hd id hi) ho hm) (hrc _ h3) hd
     ·cases e
    ·cases e
theorem Inv.reob (h:Inv G N Sin w0 σ a w S m) {id:Nat} {o o':Ob} (ho:σ.h id=some o) (hk:aD m S w0.may w id o') (hids:∀ j∈o'.ids,σ.u j=true):Inv G N Sin w0 ⟨σ.f,upd σ.h id (some o'),σ.u⟩ a w S m:=by
  have sub:∀ i,upd σ.h id (some o') i≠none→σ.h i≠none:=fun i hi=>by
    by_cases e:i=id
    ·subst e; rw[ho]; simp
    ·rwa [upd_ne _ _ e] at hi
  refine⟨h.size,h.defers,h.slot,h.used,fun i x hx=>?_,fun i j b s s' h1 h2 h3 h4=>h.inj i j b s s' (sub i h1) (sub j h2) h3 h4,h.sin,h.sub,h.glob,h.below,h.oth,h.kso,h.sso,h.fix⟩;have hx:upd σ.h id (some o') i=some x:=hx;by_cases e:i=id
  ·subst e;rw[upd_same] at hx;cases hx;exact⟨hk,(h.obj i o ho).2.1,hids⟩
  ·rw[upd_ne _ _ e] at hx;exact h.obj i x hx
theorem jv {h:ak}:∀ {cs cs':List C},cB h cs=some cs'→cs'.flatMap C.ids=[]
  | [],_,e=>by simp only[cB,Ej] at e; subst e; rfl
  | .nil::r,_,e=>by
    simp only[cB,Ei] at e;obtain⟨l,hl,rfl⟩:=e;rw[Eo,jv hl]; rfl
  | .d x::r,_,e=>by
    simp only[cB,Ei] at e;obtain⟨l,hl,rfl⟩:=e;rw[Eo,jv hl]; rfl
  | .own ..::r,_,e | .ptr ..::r,_,e | .pa ..::r,_,e | .rp ..::r,_,e | .cf ..::r,_,e | .mp ..::r,_,e=>by
    simp only[cB] at e;split at e
    ·rename_i d l hd hl;cases e;rw[Eo,jv hl]; rfl
    ·cases e
theorem zI {h:ak} {cs cs':List C} {id:Nat} {o1:Ob} (_:cB h cs=some cs') (hk:killAll h cs id=some o1) (ho:h id=some (.box cs)):o1=.box cs:=by
  have key:∀ (l:List C),killAll h l id=some o1→h id=some o1:=by
    intro l
    induction l with
    | nil=>exact fun e=>e
    | cons c r ih =>
      intro e;cases c <;> simp only[killAll] at e
      case own i2 s2 f2 n2 =>
        by_cases g:id=i2
        ·subst g; simp[upd] at e
        ·simp only[upd,g,if_false] at e;exact ih e
      all_goals exact ih e
  have:=key cs hk;rw[ho] at this;cases this;rfl
theorem Ba (h:Inv G N Sin w0 σ a w S m) {S1:al} (h2:∀ b i,S b i→S1 b i) {cs0:List C} (h3:∀ id∈cs0.flatMap C.ids,∀ o b s i,(∃ sz off n,C.own id sz off n∈cs0)→σ.h id=some o→m id=some (b,s)→S1 b i) {cur:Array Value} {sz:Nat}
    (k:aQ m S w sz cur (.box cs0)) {cs':List C} (hcs:cB σ.h cs0=some cs'):aQ m S1 w sz cur (.box cs'):=by
  have key:∀ {cs cs':List C},(∀ c∈cs,c∈cs0)→cB σ.h cs=some cs'→cs'.length=cs.length∧∀ j (hj:j<cs.length) (hj':j<cs'.length) (v:Value),RC m S w v cs[j]→RC m S1 w v cs'[j]:=by
    intro cs
    induction cs with
    | nil=>intro cs' _ e; simp only[cB,Ej] at e; subst e; exact⟨rfl,fun j hj=>by cases hj⟩
    | cons c r ih =>
      intro cs' hmem e;have hr:∀ x∈r,x∈cs0:=fun x hx=>hmem x (Ev _ hx)
      have step:∀ (c':C) (l:List C),cs'=c'::l→cB σ.h r=some l→(∀ v,RC m S w v c→RC m S1 w v c')→cs'.length=(c::r).length∧∀ j (hj:j<(c::r).length) (hj':j<cs'.length) (v:Value),RC m S w v (c::r)[j]→RC m S1 w v cs'[j]:=by
        rintro c' l rfl hl hc;obtain⟨q1,q2⟩:=ih hr hl;refine⟨by simp[q1],fun j hj hj' v hv=>?_⟩;cases j with
        | zero=>exact hc v hv
        | succ j=>exact q2 j (by simpa using hj) (by simpa using hj') v hv
      have own:∀ d,bK σ.h c=some d→∀ v,RC m S w v c→RC m S1 w v (.d d):=fun d hd v hv=>by
        refine jU h h2 (fun id hid o b s i ho hm=>?_) hv hd;exact h3 id (Em.2 ⟨c,hmem c (EC ..),hid⟩) o b s i (by obtain⟨sz,off,n,e⟩:=iD hd id hid; exact⟨sz,off,n,e ▸ hmem c (EC ..)⟩) ho hm
      cases c with
      | nil =>
        simp only[cB,Ei] at e;obtain⟨l,hl,rfl⟩:=e;exact step _ _ rfl hl fun v hv=>hv
      | d x =>
        simp only[cB,Ei] at e;obtain⟨l,hl,rfl⟩:=e;exact step _ _ rfl hl fun v hv=>Reads.mono hv h2
      | _ =>
        simp only[cB] at e;split at e
        ·rename_i d l hd hl;cases e;exact step _ _ rfl hl (own d hd)
        ·cases e
  obtain⟨q1,q2⟩:=key (fun _ h=>h) hcs;obtain⟨k1,k2⟩:=k;refine⟨by omega,fun j hj=>?_⟩;obtain⟨v,hv,hr⟩:=k2 j (by omega);exact⟨v,hv,q2 j (by omega) hj v hr⟩
theorem BX (h:Inv G N Sin w0 σ a w S m) {t:Nat} {τ:St} (e:ja σ t=some τ):∃ S',Inv G N Sin w0 τ a w S' m:=by
  unfold ja at e;split at e
  ·rename_i id hft;split at e
   ·rename_i q es hob;simp only[Ei] at e;obtain⟨ds,hds,rfl⟩:=e;obtain⟨S1,h1,h2,h3⟩:=h.killAll (es.map (·.2));have hown:∀ p∈es,∀ id∈p.2.ids,∀ o b s i,(∃ sz off n,p.2=.own id sz off n)→σ.h id=some o→m id=some (b,s)→S1 b i:=by
      rintro p hp id' hid o b s i ⟨sz,off,n,e⟩ ho hm;have hmem:C.own id' sz off n∈es.map (·.2):=Es.2 ⟨p,hp,e⟩;exact h3 id' (Em.2 ⟨_,hmem,by simp[C.ids]⟩) o b s i ⟨sz,off,n,hmem⟩ ho hm
    obtain⟨S2,hI,hS,hb2⟩:∃ S2,Inv G N Sin w0 ⟨σ.f,upd (Go.Proofs.Ytjhaklohdflppaa.killAll σ.h (es.map (·.2))) id none,σ.u⟩ a w S2 m∧(∀ b i,S1 b i→S2 b i)∧∀ b s,m id=some (b,s)→S2 b 0:=by
      cases hl:Go.Proofs.Ytjhaklohdflppaa.killAll σ.h (es.map (·.2)) id with
      | none =>
        obtain⟨sz,off,n,hmem⟩:=kW hob _ hl;exact⟨S1,h1.kill id,fun _ _ h=>h,fun b s hm=>h3 id (Em.2 ⟨_,hmem,by simp[C.ids]⟩) _ b s 0 ⟨sz,off,n,hmem⟩ hob hm⟩
      | some o1=>exact⟨_,h1.freeze id o1 hl,fun _ _ h=>.inl h,fun b s hm=>.inr ⟨s,hm⟩⟩
    have hsl:=h.slot t;rw[hft] at hsl;obtain⟨b,hm,hval⟩:=hsl;have hobj:=(h.obj id _ hob).1;unfold aD at hobj;rw[hm] at hobj;obtain⟨_,_,_,cur,ty,fz,⟨E,c,hb,hE,hB⟩,_⟩:=hobj;have hread:Reads S2 w (a.tmps.getD t undef) (.mp q ds):=by
      rw[hval];exact Reads.of_map (hb2 b 1 hm) hb hB (qI h (fun b i hs=>hS _ _ (h2 _ _ hs)) hE hds fun p hp id hid o b s i h4 h5 h6=>hS _ _ (hown p hp id hid o b s i h4 h5 h6))
    refine⟨S2,hI.size,hI.defers,fun t'=>?_,fun t' i hi=>?_,hI.obj,hI.inj,hI.sin,hI.sub,hI.glob,hI.below,hI.oth,hI.kso,hI.sso,hI.fix⟩
    ·show RV m S2 w _ (upd σ.f t (vd (.mp q ds)) t')
     by_cases e:t'=t
     ·subst e;rw[upd_same];exact hread
     ·rw[upd_ne _ _ e];exact hI.slot t'
    ·have hi:i∈(upd σ.f t (vd (.mp q ds)) t').ids:=hi;by_cases e:t'=t
     ·subst e;rw[upd_same] at hi;cases hi
     ·rw[upd_ne _ _ e] at hi;exact hI.used t' i hi
   ·cases e
  ·rename_i id sz hft;split at e
   ·rename_i cs hob;split at e
    ·rename_i ds hds;cases e;have hI:=h.freeze id _ hob;have hsl:=h.slot t;rw[hft] at hsl;have href:eG σ.h id 0 0=some (.ref ds):=by
       unfold eG;rw[hob];simp[hds]
     have hread:=me h (T:=fun b i=>S b i∨∃ s,m id=some (b,s)) (fun _ _ hs=>.inl hs) (fun _ b s _ _ hm=>.inr ⟨s,hm⟩) hsl href;obtain⟨a',hv,hc⟩:=hread.cellsAt;refine⟨_,hI.size,hI.defers,fun t'=>?_,fun t' i hi=>?_,hI.obj,hI.inj,hI.sin,hI.sub,hI.glob,hI.below,hI.oth,hI.kso,hI.sso,hI.fix⟩
     ·show RV m _ w _ (upd σ.f t (.w (.c (.rp ds))) t')
      by_cases e:t'=t
      ·subst e;rw[upd_same];exact⟨a',hv,hc⟩
      ·rw[upd_ne _ _ e];exact hI.slot t'
     ·have hi:i∈(upd σ.f t (.w (.c (.rp ds))) t').ids:=hi;by_cases e:t'=t
      ·subst e;rw[upd_same] at hi;cases hi
      ·rw[upd_ne _ _ e] at hi;exact hI.used t' i hi
    ·split at e
     ·rename_i cs' o1 hcs hk;cases e;obtain⟨S1,h1,h2,h3⟩:=h.killAll cs;refine⟨S1,h1.reob hk ?_ fun j hj=>?_⟩
      ·have hob1:=(h1.obj id _ hk).1;have hob0:=(h.obj id _ hob).1;have e1:=zI hcs hk hob;subst e1;unfold aD at hob1 hob0 ⊢;cases hm:m id with
       | none =>
         rw[hm] at hob0;obtain⟨_,hh⟩:=hob0;cases hh
       | some p =>
         obtain⟨b,s⟩:=p;rw[hm] at hob1 hob0;obtain⟨g1,g2,g3,cur,ty,fz,g4,g5,g6⟩:=hob1;obtain⟨_,_,_,cur0,ty0,fz0,k4,k5,k6⟩:=hob0;have g4':w.heap[b]?=some (.cells cur ty fz):=g4;have k4':w.heap[b]?=some (.cells cur0 ty0 fz0):=k4;rw[g4'] at k4';obtain⟨rfl,rfl,rfl⟩:cur=cur0∧ty=ty0∧fz=fz0:=by simpa using k4'
         exact⟨g1,g2,g3,cur,ty,fz,g4',g5,Ba h h2 h3 k6 hcs⟩
      ·have:=jv hcs;simp only[Ob.ids,this] at hj;cases hj
     ·cases e
   ·cases e
  ·cases e
theorem gL {b:Frame} {k:List Item} {cs:List Frame} {c:Code}:step P (lone (b.atR a (.code (.scope c)::k)) cs w)=.next (lone (b.atR a (.code c::.inScope c::k)) cs w) :=
  step_lone_go (by simp[stepG,stepG.exec,Frame.atR])
theorem y1 {b:Frame} {k:List Item} {cs:List Frame} {c:Code}:step P (lone (b.atR a (.inScope c::k)) cs w)=.next (lone (b.atR a k) cs w) :=
  step_lone_go (by simp[stepG,stepG.exec,Frame.atR])
def DX (Q:Exit→Act→World→Prop):Exit→Act→World→Prop
  | .goto _,_,_=>False
  | e,a,w=>Q e a w
theorem zJ {F:Fence} {k:Nat} {c:Code} {Q:Exit→Act→World→Prop} (h:c.wpIn F k P (DX Q) a w):(Code.scope c).wpIn F k P Q a w:=by
  intro b k cs hro hb hr;have h0:(lone (b.atR a (.code (.scope c)::k)) cs w).fenced P F:=fenced_calm hb hr rfl;obtain⟨e,a₁,w₁,hq,harr⟩:=h b (.inScope c::k) cs hro hb hr;cases e with
  | normal=>exact⟨.normal,a₁,w₁,hq,.head h0 gL (StepsIn.trans harr (.one (fenced_calm hb hr rfl) y1))⟩
  | exit id =>
    have hx:exitTo id (.inScope c::k)=exitTo id k:=by simp[exitTo]
    exact⟨.exit id,a₁,w₁,hq,fun k' hk=>.head h0 gL (harr.1 k' (by rw[hx]; exact hk)),
      fun hr' hk=>let ⟨k₁,h1,h2⟩:=harr.2 hr' (by rw[hx]; exact hk); ⟨k₁,h1,.head h0 gL h2⟩⟩
  | goto l=>exact hq.elim
  | ret=>exact⟨_,a₁,w₁,hq,.of_steps (.one h0 gL) harr⟩
  | panic ch=>exact⟨_,a₁,w₁,hq,.of_steps (.one h0 gL) harr⟩
  | outgrown=>exact⟨_,a₁,w₁,hq,.of_steps (.one h0 gL) harr⟩
theorem eu:∀ (c:Code) {inr:Bool} {sc:aN},b8 P H N inr c=some sc→∀ {r:Option Nat} {n:Nat} {w0:Gh} {Q':AX→St→Prop} {Q:Exit→Act→World→Prop} {σ:St} {a:Act} {w:World} {S:al} {m:Mp},(inr=false→r=none)→(∀ t∈sc.writes,w0.fx t=none)→kC G N Sin w0 Q' Q→Inv G N Sin w0 σ a w S m→aL P G sc Q' σ→c.wpIn (Fr r) n P Q a w
  | .skip,inr,sc,hc,r,n,w0,Q',Q,σ,a,w,S,m,hr,hf,hp,h,e=>by
    simp only[b8,Ej] at hc;subst hc;exact wpIn_skip (hp _ _ _ _ _ _ e h)
  | .region id ops draws,inr,sc,hc,r,n,w0,Q',Q,σ,a,w,S,m,hr,hf,hp,h,e=>by
    simp only[b8,Ei] at hc;obtain⟨c',hc,rfl⟩:=hc;have hf':∀ t∈c'.writes,w0.fx t=none:=fun t ht=>hf t (by unfold mm; split <;> exact ht)
    have base:∀ {σ:St} {S:al},Inv G N Sin w0 σ a w S m→aL P G c' Q' σ→(Code.region id ops draws).wpIn (Fr r) n P Q a w:=by
      intro σ S h e;split at hc
      ·rename_i cs hcs;cases hc;refine y9 hcs (fun so hs t ht=>hf' t (List.mem_filterMap.2 ⟨so,hs,ht⟩)) h e ?_;rintro a1 w1 ⟨σ1,S1,m1,k1,k2⟩;exact hp _ _ _ _ _ _ k1 k2
      ·split at hc
       ·rename_i hcs;cases hc;refine zH hcs hf' h e ?_;rintro a1 w1 ⟨σ1,S1,m1,k1,k2⟩;exact hp _ _ _ _ _ _ k1 k2
       ·split at hc <;> cases hc;exact False.elim e
    unfold mm at e;split at e
    ·rename_i p hgp;simp only[aL] at e;split at e
     ·rename_i τ hτ;obtain⟨S',hI⟩:=BX h hτ;exact base hI e
     ·exact e.elim
    ·exact base h e
  | .seq x y,inr,sc,hc,r,n,w0,Q',Q,σ,a,w,S,m,hr,hf,hp,h,e=>by
    simp only[b8] at hc;split at hc
    ·rename_i x' y' hx hy;cases hc;refine wpIn_seq (eu x hx hr (fun t ht=>hf t (Ez _ ht)) ?_ h e);intro ax σ1 a1 w1 S1 m1 k1 k2;cases ax with
     | nrm=>exact eu y hy hr (fun t ht=>hf t (En _ ht)) hp k2 k1
     | ex id=>exact hp _ _ _ _ _ _ k1 k2
     | ret=>exact hp _ _ _ _ _ _ k1 k2
    ·cases hc
  | .cond x y z,inr,sc,hc,r,n,w0,Q',Q,σ,a,w,S,m,hr,hf,hp,h,e=>by
    simp only[b8] at hc;split at hc
    ·rename_i x' y' z' hx hy hz;cases hc;simp only[aL] at e;cases ht:bn (ev G σ.f x') with
     | none=>rw[ht] at e; exact e.elim
     | some t =>
       rw[ht] at e;have hv:=iI (h.operand hx).1 ht;exact wpIn_cond_split hv (fun g=>eu y hy hr (fun t ht=>hf t (Ez _ ht)) hp h (e.1 g)) fun g=>eu z hz hr (fun t ht=>hf t (En _ ht)) hp h (e.2 g)
    ·cases hc
  | .block id c,inr,sc,hc,r,n,w0,Q',Q,σ,a,w,S,m,hr,hf,hp,h,e=>by
    simp only[b8,Ei] at hc;obtain⟨c',hcc,rfl⟩:=hc;refine wpIn_block (eu c hcc hr hf ?_ h e);intro ax σ1 a1 w1 S1 m1 k1 k2;cases ax with
    | nrm=>exact hp _ _ _ _ _ _ k1 k2
    | ex i =>
      show Exit.inBlock id Q (.exit i) a1 w1
      unfold Exit.inBlock;simp only at k1 ⊢;by_cases hi:i=id
      ·rw[if_pos hi] at k1 ⊢;exact hp _ _ _ _ _ _ k1 k2
      ·rw[if_neg hi] at k1 ⊢;exact hp _ _ _ _ _ _ k1 k2
    | ret=>exact hp _ _ _ _ _ _ k1 k2
  | .loop c,inr,sc,hc,r,n,w0,Q',Q,σ,a,w,S,m,hr,hf,hp,h,e=>by
    simp only[b8,Ei] at hc;obtain⟨c',hcc,rfl⟩:=hc;obtain⟨I,⟨n0,τ,he,hI⟩,hround⟩:=e;obtain⟨m',hinv⟩:=h.ent he;refine ze (fun n a w=>∃ τ S m,I n τ∧Inv G N Sin w0 τ a w S m) ⟨τ,S,m',hI,hinv⟩ ?_;rintro n a1 w1 ⟨τ,S1,m1,k1,k2⟩;refine eu c hcc hr hf ?_ k2 (hround n τ k1);intro ax σ2 a2 w2 S2 m2 q1 q2;cases ax with
    | nrm =>
      obtain⟨n',τ',g1,g2,g3⟩:=q1;obtain⟨m3,hinv3⟩:=q2.ent g2;exact⟨n',g1,τ',S2,m3,g3,hinv3⟩
    | ex i=>exact hp _ _ _ _ _ _ q1 q2
    | ret=>exact hp _ _ _ _ _ _ q1 q2
  | .exit id,inr,sc,hc,r,n,w0,Q',Q,σ,a,w,S,m,hr,hf,hp,h,e=>by
    simp only[b8,Ej] at hc;subst hc;exact wpIn_exit (hp _ _ _ _ _ _ e h)
  | .ret,inr,sc,hc,r,n,w0,Q',Q,σ,a,w,S,m,hr,hf,hp,h,e=>by
    simp only[b8,Ej] at hc;subst hc;exact wpIn_ret (hp _ _ _ _ _ _ e h)
  | .rangeFunc g ps x y,inr,sc,hc,r,n,w0,Q',Q,σ,a,w,S,m,hr,hf,hp,h,e=>by
    simp only[b8] at hc;split at hc
    ·rename_i hi;obtain rfl:=hr hi.1;split at hc
     ·rename_i g' x' y' hg hx hy;cases hc;refine zf hg (fun t ht=>?_) (fun hf=>eu x hx (fun h=>by cases h) hf) (fun hf=>eu y hy (fun h=>by cases h) hf) hp h e;have:=hi.2;rw[← Array.all_toList,Ep] at this
      simpa using this t ht
     ·cases hc
    ·cases hc
  | .scope c,inr,sc,hc,r,n,w0,Q',Q,σ,a,w,S,m,hr,hf,hp,h,e=>by
    simp only[b8] at hc;refine zJ (eu c hc hr hf ?_ h e);intro ax σ1 a1 w1 S1 m1 k1 k2;cases ax with
    | nrm=>exact hp _ _ _ _ _ _ k1 k2
    | ex i=>exact hp _ _ _ _ _ _ k1 k2
    | ret=>exact hp _ _ _ _ _ _ k1 k2
  | .label _,inr,sc,hc,r,n,w0,Q',Q,σ,a,w,S,m,hr,hf,hp,h,e=>by
    simp only[b8,Ej] at hc;subst hc;exact wpIn_label (hp _ _ _ _ _ _ e h)
  | .goto _,inr,sc,hc,r,n,w0,Q',Q,σ,a,w,S,m,hr,hf,hp,h,e=>by simp[b8] at hc
  | .refuse _,inr,sc,hc,r,n,w0,Q',Q,σ,a,w,S,m,hr,hf,hp,h,e=>by simp[b8] at hc
def kD (tmps:Array Value):ResultVar→Sem Value
  | .tmp t=>pure (tmps.getD t undef)
  | .cell a t=>do loadVar t (← asAddr (tmps.getD a undef))
theorem BZ (h:Inv G N Sin w0 σ a w S m) {r:ResultVar} {l:Nat×Option Kd} (hc:iE P r=some l) {x:W} (hx:cO σ l=some x):∃ u,(kD a.tmps r).run P w=.ok u w∧RW m S w u x∧∀ i∈x.ids,σ.u i=true:=by
  cases r with
  | tmp t =>
    simp only[iE,Ej] at hc;subst hc;obtain⟨h1,h2⟩:=jS (h.slot t) hx;refine⟨_,rfl,h1,fun i hi=>h.used t i ?_⟩;rw[h2]; exact hi
  | cell t ty =>
    simp only[iE,Ei] at hc;obtain⟨kd,hk,rfl⟩:=hc;obtain⟨ad,us,h1,h2,h3,h4,h5⟩:=xD h (h.slot t) hx;refine⟨valOf kd us,?_,h4,h5⟩;simp only[kD,h1,asAddr];simp[nZ hk ad us h2 h3]
theorem mn (h:Inv G N Sin w0 σ a w S m):∀ {rs:List ResultVar} {l:List (Nat×Option Kd)} {ws:List W},az (iE P) rs=some l→az (cO σ) l=some ws→∃ us:List Value,(rs.mapM (kD a.tmps)).run P w=.ok us w∧aj (RW m S w) us ws∧∀ i∈ws.flatMap W.ids,σ.u i=true
  | [],l,ws,h1,h2=>by
    simp only[az,Ej] at h1;subst h1;simp only[az,Ej] at h2;subst h2;exact⟨[],rfl,.nil,fun i hi=>by cases hi⟩
  | r::rs,l,ws,h1,h2=>by
    simp only[az] at h1;split at h1
    ·rename_i y l' hy hl;cases h1;simp only[az] at h2;split at h2
     ·rename_i x ws' hx hws;cases h2;obtain⟨u,k1,k2,k3⟩:=BZ h hy hx;obtain⟨us,q1,q2,q3⟩:=mn h hl hws;refine⟨u::us,?_,.cons k2 q2,fun i hi=>?_⟩
      ·simp[List.mapM_cons,k1,q1]
      ·rw[Eo] at hi;rcases Ex.1 hi with hi | hi
       ·exact k3 i hi
       ·exact q3 i hi
     ·cases h2
    ·cases h1
theorem oe (fn:Func) (tmps:Array Value):results fn tmps=(do let vs ← fn.results.mapM (kD tmps); pure (if h:vs.size=1 then vs[0] else .tuple vs)):=by
  unfold results
  congr 1
def cy (σ:St) (m:Mp) (ids:List Nat) (bl:List Nat):Prop:=bl.Nodup∧∀ b∈bl,∃ id∈ids,∃ s,m id=some (b,s)∧σ.h id≠none
theorem cy.append (h:Inv G N Sin w0 σ a w S m) {l1 l2 b1 b2:List Nat} (hn:(l1++l2).Nodup) (h1:cy σ m l1 b1) (h2:cy σ m l2 b2):cy σ m (l1++l2) (b1++b2):=by
  refine⟨E9.2 ⟨h1.1,h2.1,fun b hb c hc e=>?_⟩,fun b hb=>?_⟩
  ·subst e;obtain⟨i,hi,s,e1,e2⟩:=h1.2 b hb;obtain⟨j,hj,s',e3,e4⟩:=h2.2 b hc;have:=h.inj i j b s s' e2 e4 e1 e3;subst this;exact (E9.1 hn).2.2 i hi i hj rfl
  ·rcases Ex.1 hb with hb | hb
   ·obtain⟨i,hi,r⟩:=h1.2 b hb;exact⟨i,Ez _ hi,r⟩
   ·obtain⟨i,hi,r⟩:=h2.2 b hb;exact⟨i,En _ hi,r⟩
theorem cy.none (σ:St) (m:Mp) (ids:List Nat):cy σ m ids []:=⟨.nil,fun b hb=>by cases hb⟩
theorem mH (h:Inv G N Sin w0 σ a w S m) (hx:∀ b,¬ w0.ext b) {u:Value} {c r:C} (hv:RC m S w u c) (he:jk σ.h c r):∃ bl,di S w w0.heap.size u r bl∧cy σ m c.ids bl:=by
  unfold jk at he;split at he
  ·rename_i id sz off n sz' es;obtain⟨rfl,rfl,he⟩:=he;split at he
   ·rename_i o ho;obtain⟨he1,he2⟩:=he;cases o with
    | box cs=>exact he2.elim
    | mp q es=>exact he2.elim
    | it q l p=>exact he2.elim
    | row s0 es0 =>
      simp only[ce] at he1;split at he1
      ·rename_i hle;cases he1;have hv':aI m w u id _ 0 n:=hv;have hob:=(h.obj id _ ho).1;unfold aI at hv';unfold aD at hob;split at hv'
       ·obtain⟨⟨ad,rfl⟩,_,rfl⟩:=hv';exact⟨[],.inl ⟨⟨ad,rfl⟩,by simp,rfl⟩,cy.none _ _ _⟩
       ·rename_i b sz2 hm;obtain⟨rfl,ad,cap,ty,M,rfl,g2,g3,g4,g5,g6⟩:=hv';rw[hm] at hob;obtain⟨k1,k2,k3,cur,ty',fz,k4,k5,k6⟩:=hob;have had:=g4 (.inr rfl);rw[Nat.zero_mul] at had;subst had;have hlen:((es0.drop 0).take n).length=n:=by rw[ED,List.drop_zero]; omega
        refine⟨[b],.inr ⟨b,cap,ty,M,rfl,by rw[hlen],by rw[hlen]; exact g2,g3,g5,by simpa using g6,k2.resolve_right (hx _),k3,cur,ty',fz,k4,k5,?_,fun i hi=>?_⟩,⟨by simp,fun b' hb'=>⟨id,by simp[C.ids],sz2,?_,by rw[ho]; simp⟩⟩⟩
        ·rw[hlen];exact EQ (EA _ (by omega)) k6.1
        ·have hi':i<es0.length:=by rw[hlen] at hi; omega
         have he:((es0.drop 0).take n)[i]=es0[i]:=by simp
         rw[he];exact k6.2 i hi'
        ·simp only[EB] at hb';rw[hb']; exact hm
      ·cases he1
   ·exact he.elim
  ·subst he;exact⟨[],.inl ⟨hv,rfl,rfl⟩,cy.none _ _ _⟩
  ·subst he;refine⟨[],⟨?_,rfl⟩,cy.none _ _ _⟩;obtain⟨ad,rfl⟩:∃ ad,u=.slice ad 0 0:=hv
   exact Reads.zero ad
  ·subst he;exact⟨[],⟨hv,rfl⟩,cy.none _ _ _⟩
  ·exact he.elim
theorem tg (h:Inv G N Sin w0 σ a w S m) (hx:∀ b,¬ w0.ext b):∀ {us:List Value} {cs rs:List C},aj (RC m S w) us cs→aj (jk σ.h) cs rs→(cs.flatMap C.ids).Nodup→∃ bl,dC S w w0.heap.size us rs bl∧cy σ m (cs.flatMap C.ids) bl
  | _,_,_,.nil,.nil,_=>⟨[],.nil,cy.none _ _ _⟩
  | _,_,_,.cons h1 h2,.cons k1 k2,hn=>by
    rw[Eo] at hn ⊢;obtain⟨b1,e1,e2⟩:=mH h hx h1 k1;obtain⟨b2,e3,e4⟩:=tg h hx h2 k2 (E9.1 hn).2.1;exact⟨b1++b2,.cons e1 e3,cy.append h hn e2 e4⟩
theorem vB (h:Inv G N Sin w0 σ a w S m) (hx:∀ b,¬ w0.ext b) {u:Value} {x r:W} (hv:RW m S w u x) (he:jl σ.h x r) (hn:x.ids.Nodup):∃ bl,cN S w w0.heap.size u r bl∧cy σ m x.ids bl:=by
  unfold jl at he;split at he
  ·rename_i c d;cases c with
   | d y =>
     cases d with
     | d z =>
       have:y=z:=he;subst this;cases y with
       | agg cs=>exact⟨[],⟨hv,rfl⟩,cy.none _ _ _⟩
       | _=>exact⟨[],⟨hv,rfl⟩,cy.none _ _ _⟩
     | _=>exact he.elim
   | nil =>
     obtain⟨bl,h1,h2⟩:=mH (c:=.nil) h hx hv he;refine⟨bl,?_,h2⟩;cases d with
     | d z =>
       have:z=.sl []:=he;subst this;exact h1
     | _=>exact h1
   | own id sz off n =>
     obtain⟨bl,h1,h2⟩:=mH (c:=.own id sz off n) h hx hv he;refine⟨bl,?_,h2⟩;cases d with
     | fr s es=>exact h1
     | _=>exact he.elim
   | _=>exact he.elim
  ·rename_i cs ds;obtain⟨us,rfl,h2⟩:=hv;obtain⟨bl,k1,k2⟩:=tg h hx h2 he hn;exact⟨bl,⟨us,rfl,k1⟩,k2⟩
  ·rename_i cs ds;obtain⟨us,h1,h2⟩:=lK (x:=.mix cs) hv (d:=.agg ds) (by simp[dv,he]);obtain⟨us',rfl,_⟩:=hv;have:us'=us:=by simpa [Value.cells] using h1
   subst this;exact⟨[],⟨⟨us',rfl,h2⟩,rfl⟩,cy.none _ _ _⟩
  ·exact he.elim
theorem ti (h:Inv G N Sin w0 σ a w S m) (hx:∀ b,¬ w0.ext b):∀ {us:List Value} {ws rs:List W},aj (RW m S w) us ws→aj (jl σ.h) ws rs→(ws.flatMap W.ids).Nodup→∃ bl,dD S w w0.heap.size us rs bl∧cy σ m (ws.flatMap W.ids) bl
  | _,_,_,.nil,.nil,_=>⟨[],.nil,cy.none _ _ _⟩
  | _,_,_,.cons h1 h2,.cons k1 k2,hn=>by
    rw[Eo] at hn ⊢;obtain⟨b1,e1,e2⟩:=vB h hx h1 k1 (E9.1 hn).1;obtain⟨b2,e3,e4⟩:=ti h hx h2 k2 (E9.1 hn).2.1;exact⟨b1++b2,.cons e1 e3,cy.append h hn e2 e4⟩
def fc (us:List Value):Value:=if h:us.toArray.size=1 then us.toArray[0] else .tuple us.toArray
theorem tj (h:Inv G N Sin w0 σ a w S m) {u:Value} {x:W} {d:D} (hv:RW m S w u x) (e:toW σ.h x=some d):cN (fG σ.h m S) w w0.heap.size u (.c (.d d)) []:=by
  have:=iK h (T:=fG σ.h m S) (fun _ _ h=>.inl h) (fun id _ o b s i h1 h2=>.inr ⟨id,o,s,h1,h2⟩) hv e;cases d with
  | agg cs=>exact⟨this,rfl⟩
  | _=>exact⟨this,rfl⟩
theorem tk (h:Inv G N Sin w0 σ a w S m):∀ {us:List Value} {ws rs:List W},aj (RW m S w) us ws→aj (fun x z=>∃ d,z=.c (.d d)∧toW σ.h x=some d) ws rs→dD (fG σ.h m S) w w0.heap.size us rs []
  | _,_,_,.nil,.nil=>.nil
  | _,_,_,.cons h1 h2,.cons k1 k2=>by
    obtain⟨d,rfl,e⟩:=k1;exact .cons (b1:=[]) (b2:=[]) (tj h h1 e) (tk h h2 k2)
theorem CL (h:Inv G N Sin w0 σ a w S m) (hx:∀ b,¬ w0.ext b) {us:List Value} {ws:List W} {res:V} (hv:aj (RW m S w) us ws) (he:((ws.flatMap W.ids).Nodup∧nB σ.h ws res)∨ng σ.h ws res) :
    ∃ S' bl,(∀ b i,S' b i→(Sin b i∨w0.heap.size≤b)∧b<w.heap.size)∧bl.Nodup∧ec S' w w0.heap.size (fc us) res bl:=by
  have sin:∀ b i,S b i→(Sin b i∨w0.heap.size≤b)∧b<w.heap.size:=fun b i hs=>⟨(h.sin b i hs).2.imp id fun k=>k.resolve_right (hx b),(h.sin b i hs).1⟩
  have shat:∀ b i,fG σ.h m S b i→(Sin b i∨w0.heap.size≤b)∧b<w.heap.size:=by
    rintro b i (hs | ⟨id,ob,s,ho,hm⟩)
    ·exact sin b i hs
    ·have hk:=(h.obj id ob ho).1;refine⟨.inr ?_,hk.lt hm⟩;unfold aD at hk;rw[hm] at hk;exact hk.2.1.resolve_right (hx _)
  rcases he with ⟨hn,he⟩ | he
  ·unfold nB at he;split at he
   ·rename_i x y;cases hv with
    | cons h1 h2 =>
      cases h2;have hids:x.ids.Nodup:=by simpa using hn
      obtain⟨bl,k1,k2⟩:=vB h hx h1 he hids;exact⟨S,bl,sin,k2.1,k1⟩
   ·rename_i x y r ws';have hl:=hv.length;obtain⟨bl,k1,k2⟩:=ti h hx hv he hn;refine⟨S,bl,sin,k2.1,us,?_,k1⟩;unfold fc;rw[dif_neg (by simp at hl ⊢; omega)]
   ·subst he;cases hv;exact⟨S,[],sin,.nil,[],rfl,.nil⟩
   ·exact he.elim
  ·unfold ng at he;split at he
   ·rename_i x d;cases hv with
    | cons h1 h2 =>
      cases h2;exact⟨_,[],shat,.nil,tj h h1 he⟩
   ·rename_i x y r ws';have hl:=hv.length;refine⟨_,[],shat,.nil,us,?_,tk h hv he⟩;unfold fc;rw[dif_neg (by simp at hl ⊢; omega)]
   ·exact he.elim
theorem Bb (h:Inv G N Sin w0 σ a w S m) (hwo:w0.wo.heap.size≤w0.heap.size) {D:Nat} (hB:w0.heap.size≤D) (hD:w.heap[D]?=some (.deferred (some []))):Inv G N Sin w0 σ { a with defers:=[] } (w.putObj D (.deferred none)) S m :=
  h.turn (w1:=w0) (dd.put hD rfl) (grownBy_putObj' _ _ _).size rfl (h.below.trans (aU.of (iw _ hB hD))) rfl (fun t=>.inr rfl) trivial (bS.old h.oth (bS.put _ _ _) (EQ hwo hB)) (h.kso.trans ((dd.put hD rfl).keeps _)) h.sso h.fix
theorem lf {F:Fence} {n:Nat} {fn:Func} {R:Ending→World→Prop}:∀ {ds:List Deferred} {a:Act} {w:World},Inv G N Sin w0 σ a w S m→w0.wo.heap.size≤w0.heap.size→dE w0.heap.size w ds→(∀ (w':World) (a':Act),a'.tmps=a.tmps→Inv G N Sin w0 σ a' w' S m→∃ v,(results fn a.tmps).run P w'=.ok v w'∧R (.returned v) w')→LeavesInM F n P fn a.tmps R ds .returning w
  | [],a,w,h,_,_,k=>k w a rfl h
  | d::ds,a,w,h,hwo,⟨⟨D,h1,h2,h3,h4⟩,h5⟩,k=>by
    refine⟨by simp,.inl ⟨D,_,by rw[h1],run_takeDeferred h3,?_⟩⟩;have hd:dE w0.heap.size (w.putObj D (.deferred none)) ds:=by
      have key:∀ {ds:List Deferred},dE w0.heap.size w ds→(∀ d'∈ds,d'.target≠.collected D)→dE w0.heap.size (w.putObj D (.deferred none)) ds:=by
        intro ds
        induction ds with
        | nil=>intro _ _; trivial
        | cons d ds ih =>
          rintro⟨⟨D',g1,g2,g3,g4⟩,g5⟩ hne;refine⟨⟨D',g1,g2,?_,g4⟩,ih g5 fun d' hd'=>hne d' (by simp[hd'])⟩;refine (World.putObj_heap_other fun e=>?_).trans g3;exact hne d (by simp) (by rw[g1,e])
      exact key h5 h4
    have:=Bb h hwo h2 h3;exact lf (a:={ a with defers:=[] }) this hwo hd fun w' a' e2 hi=>k w' a' e2 hi
theorem CM {f:FuncId} {fn:Func} {sf:aV} (hf:P.funcs[f]?=some fn) (hc:aR P H fn=some sf) {args:List D} {res:V} (hlen:args.length=sf.np)
    (e:aL P G sf.body (fun ax σ=>match ax with | .nrm=>eC σ sf.res res | .ret=>eC σ sf.res res | .ex _=>False) (entry args)):bd P G f args res:=by
  unfold aR at hc;split at hc
  ·rename_i c hb;split at hc
   ·rename_i body rs hbody hres;split at hc
    ·rename_i hnp;cases hc;intro w S vs hS hG hargs;refine (callsIn_wide (n:=3)).1 (callsIn_of_wp_marks (F:=Fence.wide) hf hb trivial ?_);have hvl:vs.length=args.length:=hargs.length;have hnp':vs.length≤fn.ntmps:=by simp only at hlen; omega
     have hsize:(vs.toArray++Array.replicate (fn.ntmps-vs.toArray.size) undef).size=fn.ntmps:=by simp; omega
     have hinv:Inv G fn.ntmps S (Gh.of w) (entry args) { tmps:=vs.toArray++Array.replicate (fn.ntmps-vs.toArray.size) undef,defers:=[] } w S (fun _=>none):=by
       refine⟨hsize,trivial,fun t=>?_,fun t i hi=>?_,fun id o ho=>(by cases ho),fun i j b s s' h1=>absurd rfl h1,fun b i hs=>⟨hS b i hs,.inl hs⟩,fun _ _ h=>h,hG,aU.refl _ _ _,bB.refl _,aC.refl _ _,fun _ _ h=>h.elim,fun t v h=>by cases h⟩
       ·simp only[entry];cases ht:args[t]? with
        | none=>trivial
        | some x =>
          obtain⟨v,h1,h2⟩:=hargs.get? ht;have hlt:=(Et.1 h1).1;have:(vs.toArray++Array.replicate (fn.ntmps-vs.toArray.size) undef).getD t undef=v:=by
            rw[EH,Array.getElem?_append_left (by simpa using hlt)];simp[h1]
          rw[this];exact h2
       ·simp only[entry] at hi;split at hi <;> cases hi
     refine eu c hbody (r:=none) (fun _=>rfl) (fun t _=>rfl) ?_ hinv e;intro ax σ a w1 S1 m q h;have key:eC σ rs res→LeavesInM Fence.wide 3 P fn a.tmps (fun e w'=>∃ v S' bl,e=.returned v∧Below w.heap.size w w'∧(∀ b i,S' b i→(S b i∨w.heap.size≤b)∧b<w'.heap.size)∧bl.Nodup∧ec S' w' w.heap.size v res bl) a.defers .returning w1:=by
       rintro⟨ws,hws,hex⟩;refine lf h (Ew _) h.defers fun w2 a' e2 h=>?_
       rw[← e2];obtain⟨us,h1,h2,h3⟩:=mn h hres hws;obtain⟨S',bl,k1,k2,k3⟩:=CL h (fun _ hx=>hx) h2 hex;have hbel:Below w.heap.size w w2:=h.below.below fun _ _ hx=>hx
       refine⟨fc us,?_,_,S',bl,rfl,hbel,k1,k2,k3⟩;rw[oe];simp[Array.mapM_eq_mapM_toList,h1,fc]
     cases ax with
     | nrm=>exact key q
     | ret=>exact key q
     | ex _=>exact q.elim
    ·cases hc
   ·cases hc
  ·cases hc
def kR:List W→V | [x]=>.w x | ws=>.tup ws
def fb (args:List W) (h0:ak) (L:List Nat):St:=⟨fun t=>match args[t]? with | some x=>.w x | none=>.undef,h0,fun i=>L.contains i⟩
def W.lnk:W→List Nat
  | .c (.ptr id ..)=>[id]
  | .c (.pa id _)=>[id]
  | .c (.cf _ a b)=>a.flatMap Cp.ids++b.flatMap Cp.ids
  | _=>[]
theorem vC {m m1:Mp} {S S1:al} {w w1:World} {g:Nat→Nat} {us:List Value} {l:List Cp} (h:aj (bJ m S w) us l):∀ {l':List Cp},l'=l.map (Cp.ren g)→aj (bJ m1 S1 w1) us l'→∀ id∈l.flatMap Cp.ids,m1 (g id)=m id:=by
  induction h with
  | nil=>intro l' _ _ id hi; cases hi
  | cons h1 _ ih =>
    rename_i a b as bs h2;intro l' e h' id hi;rw[El] at e;subst e;cases h' with
    | cons k1 k2 =>
    rw[Eo,Ex] at hi;rcases hi with hi | hi
    ·cases b with
     | d x=>cases hi
     | p i sz j o =>
       obtain rfl:id=i:=by simpa [Cp.ids] using hi
       obtain⟨b1,q1,q2⟩:∃ b,m id=some (b,sz)∧a=.pointer (some ⟨b,j*sz+o,none⟩):=h1
       obtain⟨b2,q3,q4⟩:∃ b,m1 (g id)=some (b,sz)∧a=.pointer (some ⟨b,j*sz+o,none⟩):=k1
       rw[q2] at q4;obtain rfl:b1=b2:=by simpa using q4
       rw[q1,q3]
    ·exact ih rfl k2 id hi
theorem Dv {m m1:Mp} {S S1:al} {w w1:World} {g:Nat→Nat} {v:Value} {x:W} (h:RW m S w v x) (h':RW m1 S1 w1 v (x.ren g)):∀ id∈x.lnk,m1 (g id)=m id:=by
  intro id hi;unfold W.lnk at hi;split at hi
  ·rename_i i sz j o;obtain rfl:id=i:=by simpa using hi
   obtain⟨b1,q1,q2⟩:∃ b,m id=some (b,sz)∧v=.pointer (some ⟨b,j*sz+o,none⟩):=h
   obtain⟨b2,q3,q4⟩:∃ b,m1 (g id)=some (b,sz)∧v=.pointer (some ⟨b,j*sz+o,none⟩):=h'
   rw[q2] at q4;obtain rfl:b1=b2:=by simpa using q4
   rw[q1,q3]
  ·rename_i i sz;obtain rfl:id=i:=by simpa using hi
   obtain⟨b1,q1,q2⟩:∃ b,m id=some (b,sz)∧v=.pointer (some ⟨b,0,none⟩):=h
   obtain⟨b2,q3,q4⟩:∃ b,m1 (g id)=some (b,sz)∧v=.pointer (some ⟨b,0,none⟩):=h'
   rw[q2] at q4;obtain rfl:b1=b2:=by simpa using q4
   rw[q1,q3]
  ·rename_i f a b;obtain⟨us,vs,q1,q2,q3⟩:∃ us vs:List Value,v=.func (.func f) us.toArray vs.toArray∧aj (bJ m S w) us a∧aj (bJ m S w) vs b:=h
   obtain⟨us',vs',q4,q5,q6⟩:∃ us vs:List Value,v=.func (.func f) us.toArray vs.toArray∧aj (bJ m1 S1 w1) us (a.map (Cp.ren g))∧aj (bJ m1 S1 w1) vs (b.map (Cp.ren g)):=h'
   rw[q1] at q4;obtain⟨rfl,rfl⟩:us=us'∧vs=vs':=by simpa using q4
   rcases Ex.1 hi with hi | hi
   ·exact vC q2 rfl q5 id hi
   ·exact vC q3 rfl q6 id hi
  ·cases hi
def kF (σ:St) (l:List (Nat×Option Kd)) (lk:List Nat) (args:List W) (L:List Nat) (res:V) (h1:ak) (L1:List Nat):Prop :=
  ∃ ws,az (cO σ) l=some ws∧∃ g:Nat→Nat,kR ws=res.ren g∧(∀ id o,h1 id=some o→σ.h (g id)=some (o.ren g))∧(∀ i j,h1 i≠none→h1 j≠none→g i=g j→i=j) ∧
    ∀ id∈L,id∈L1→∃ t∈lk,∃ x,args[t]?=some x∧id∈x.lnk∧σ.f t=.w (x.ren g)
def Dw (args:List W) (h0:ak) (L:List Nat) (res:V) (h1:ak) (L1:List Nat):Prop :=
  (∀ id o,h0 id=some o→id∈L∧∀ j∈o.ids,j∈L)∧(∀ id∈L,h0 id≠none)∧(∀ x∈args,∀ i∈x.ids,i∈L)∧(∀ id o,h1 id=some o→id∈L1∧∀ j∈o.ids,j∈L1)∧∀ i∈res.ids,i∈L1
theorem CN {us:List Value} {ws:List W} (h:aj (RW m S w) us ws):RV m S w (fc us) (kR ws):=by
  cases h with
  | nil=>exact⟨[],rfl,.nil⟩
  | cons h1 h2 =>
    cases h2 with
    | nil=>exact h1
    | cons h2 h3=>exact⟨_,by unfold fc; rw[dif_neg (by simp)],.cons h1 (.cons h2 h3)⟩
theorem tl {f:FuncId} {fn:Func} {sf:aV} (hf:P.funcs[f]?=some fn) (hc:aR P H fn=some sf) {args:List W} {h0 h1:ak} {L L1 lk:List Nat} {res:V} (hlen:args.length=sf.np) (hlk:lk.all (fun t=>!sf.body.writes.contains t)=true) (hp:Dw args h0 L res h1 L1)
    {Q':AX→St→Prop} (hq:∀ ax σ,Q' ax σ→(∀ id,ax≠.ex id)∧kF σ sf.res lk args L res h1 L1) (e:aL P G sf.body Q' (fb args h0 L)):dA P G f args h0 L res h1 L1:=by
  refine⟨hp,?_⟩;obtain⟨p1,p2,p3,p4,p5⟩:=hp;unfold aR at hc;split at hc
  ·rename_i c hb;split at hc
   ·rename_i body rs hbody hres;split at hc
    ·rename_i hnp;cases hc;intro w S vs m hS hG hobj hinj hargs;refine (callsIn_wide (n:=3)).1 (callsIn_of_wp_marks (F:=Fence.wide) hf hb trivial ?_);have hvl:vs.length=args.length:=hargs.length;have hnp':vs.length≤fn.ntmps:=by simp only at hlen; omega
     have hsize:(vs.toArray++Array.replicate (fn.ntmps-vs.toArray.size) undef).size=fn.ntmps:=by simp; omega
     have hget:∀ t v,vs[t]?=some v→(vs.toArray++Array.replicate (fn.ntmps-vs.toArray.size) undef).getD t undef=v:=by
       intro t v h1;have hlt:=(Et.1 h1).1;rw[EH,Array.getElem?_append_left (by simpa using hlt)];simp[h1]
     obtain⟨w0,hw0⟩:∃ w0:Gh,w0={ w with wo:=w,so:=S,fx:=fun t=>if body.writes.contains t then none else vs[t]?,ext:=eY h0 m }:=⟨_,rfl⟩
     have hinv:Inv G fn.ntmps S w0 (fb args h0 L) { tmps:=vs.toArray++Array.replicate (fn.ntmps-vs.toArray.size) undef,defers:=[] } w S m:=by
       subst hw0;refine⟨hsize,trivial,fun t=>?_,fun t i hi=>?_,fun id o ho=>⟨?_,?_,fun j hj=>?_⟩,hinj,fun b i hs=>⟨hS b i hs,.inl hs⟩,fun _ _ h=>h,hG,aU.refl _ _ _,bB.refl _,aC.refl _ _,fun _ _ h=>h,fun t v h=>?_⟩
       ·simp only[fb];cases ht:args[t]? with
        | none=>trivial
        | some x =>
          obtain⟨v,h1,h2⟩:=hargs.get? ht;rw[hget t v h1];exact h2
       ·simp only[fb] at hi ⊢;split at hi
        ·rename_i x hx
         simpa using p3 x (E7 hx) i hi
        ·cases hi
       ·have hk:=hobj id o ho;unfold aD at hk ⊢;split at hk
        ·exact hk
        ·rename_i b s hm;exact⟨hk.1,.inr ⟨id,o,s,ho,hm⟩,hk.2.2⟩
       ·simpa [fb] using (p1 id o ho).1
       ·simpa [fb] using (p1 id o ho).2 j hj
       ·simp only at h;split at h
        ·cases h
        ·exact hget t v h
     refine eu c hbody (r:=none) (fun _=>rfl) (fun t ht=>?_) ?_ hinv e
     ·subst hw0;simp only;rw[if_pos (by simpa using ht)]
     intro ax σ a w1 S1 m1 q h
     have key:kF σ rs lk args L res h1 L1→LeavesInM Fence.wide 3 P fn a.tmps (fun e w'=>∃ v S' m',e=.returned v∧aU w.heap.size (eY h0 m) w w'∧bB w w'∧aC S w w'∧(∀ b i,S b i→S' b i)∧(∀ b i,S' b i→b<w'.heap.size∧(S b i∨w.heap.size≤b∨eY h0 m b)) ∧
         (∀ i∈L,i∈L1→m' i=m i)∧(∀ id o,h1 id=some o→aD m' S' (fun b=>w.heap.size≤b∨eY h0 m b) w' id o) ∧
         (∀ i j b s s',h1 i≠none→h1 j≠none→m' i=some (b,s)→m' j=some (b,s')→i=j)∧RV m' S' w' v res) a.defers .returning w1:=by
       rintro⟨ws,hws,g,hv,hh,hgi,hl⟩;refine lf h (by subst hw0; exact Ew _) h.defers fun w2 a' e2 h=>?_
       rw[← e2];obtain⟨us,h1',h2,h3⟩:=mn h hres hws;refine⟨fc us,?_,fc us,S1,fun i=>m1 (g i),rfl,?_,?_,?_,?_,?_,?_,?_,?_,?_⟩
       ·rw[oe];simp[Array.mapM_eq_mapM_toList,h1',fc]
       ·subst hw0; exact h.below
       ·subst hw0; exact h.oth
       ·subst hw0; exact h.kso
       ·exact h.sub
       ·subst hw0; exact h.sin
       ·intro id hid hid1;obtain⟨t,htl,x,ha,hx,hs⟩:=hl id hid hid1;obtain⟨v,k1,k2⟩:=hargs.get? ha;have k5:=h.slot t;rw[hs] at k5;have hnw:=Ep.1 hlk t htl;have k8:a'.tmps.getD t undef=v:=h.fix t v (by
          subst hw0;simp only;rw[if_neg (by simpa using hnw)];exact k1)
        rw[k8] at k5;exact Dv k2 k5 id hx
       ·intro id o ho;have:=(h.obj _ _ (hh id o ho)).1.ren;subst hw0;exact this
       ·intro i j b s s' hi hj e1 e2;obtain⟨oi,hi'⟩:=Eq.1 hi;obtain⟨oj,hj'⟩:=Eq.1 hj;exact hgi i j hi hj (h.inj (g i) (g j) b s s' (by rw[hh i oi hi']; simp) (by rw[hh j oj hj']; simp) e1 e2)
       ·refine RV.ren (g:=g) ?_;rw[← hv];exact CN h2
     have q:=hq ax σ q;cases ax with
     | nrm=>exact key q.2
     | ret=>exact key q.2
     | ex i=>exact absurd rfl (q.1 i)
    ·cases hc
   ·cases hc
  ·cases hc
end
theorem jR {a b : Prop} (l : a) (r : b) : a ∧ b := And.intro l r
def aE {α:Type} (o:Option α) (k:α→Prop):Prop:=match o with | some x=>k x | none=>False
theorem pm {α:Type} (x:α) (k:α→Prop):aE (some x) k=k x:=rfl
theorem cL {α β:Type} (o:Option α) (g:α→β) (k:β→Prop):aE (o.map g) k=aE o fun v=>k (g v):=by cases o <;> rfl
def kG:V→Option ByteArray | .w (.c (.d (.str s)))=>some s | _=>none
def yq:V→Option (List W) | .tup ws=>some ws | _=>none
section
variable (P:Program) (G:av)
def kH (b:aN) (Q:AX→St→Prop) (e:AX) (s:St):Prop:=match e with | .nrm=>aL P G b Q s | e=>Q e s
def gD (id:Nat) (Q:AX→St→Prop) (e:AX) (s:St):Prop:=match e with | .ex i=>if i=id then Q .nrm s else Q (.ex i) s | e=>Q e s
def nh (l:List (Nat×Option Kd)) (res:V) (e:AX) (s:St):Prop:=match e with | .nrm=>eC s l res | .ret=>eC s l res | .ex _=>False
def jb (a b:aN) (Q:AX→St→Prop) (s:St) (t:Bool):Prop:=(t=true→aL P G a Q s)∧(t=false→aL P G b Q s)
def fJ (d:Option Nat) (o:aB) (w:Bool) (r:List ar) (K:St→Prop) (f:Nat→V) (h:ak) (u:Nat→Bool) (t:Bool):Prop :=
  ((t==w)=true→au P G (⟨d,o,none⟩::r) K ⟨f,h,u⟩)∧((t==w)=false→au P G r K ⟨aG f d (.tup []),h,u⟩)
def jc (d:Option Nat) (o:aB) (w:Bool) (r:List ar) (K:St→Prop) (f:Nat→V) (h:ak) (u:Nat→Bool) (v:V):Prop :=
  match bn v with | some t=>fJ P G d o w r K f h u t | none=>v=.tup []∧au P G r K ⟨aG f d (.tup []),h,u⟩
section
variable (d:Option Nat) (r:List ar) (K:St→Prop) (f:Nat→V) (h:ak) (u:Nat→Bool)
def D9 (v:V):Prop:=au P G r K ⟨aG f d v,h,u⟩
def dX (v:W):Prop:=au P G r K ⟨aG f d (.w v),h,u⟩
def goC (v:C):Prop:=au P G r K ⟨aG f d (.w (.c v)),h,u⟩
def kS (v:D):Prop:=au P G r K ⟨aG f d (.w (.c (.d v))),h,u⟩
def bE (q:R):Prop:=au P G r K ⟨aG f d q.1,q.2.1,q.2.2⟩
def nE (h':ak):Prop:=au P G r K ⟨aG f d .undef,h',u⟩
def yM (k:IntKind) (v:IntKind×Int):Prop:=au P G r K ⟨aG f d (.w (.c (.d (.int k (k.wrap v.2))))),h,u⟩
def yN (n:Nat):Prop:=au P G r K ⟨aG f d (.w (.c (.d (.int .i64 (n:Int))))),h,u⟩
def yO (s:ByteArray):Prop:=au P G r K ⟨aG f d (.w (.c (.d (.int .i64 (s.size:Int))))),h,u⟩
def nF (y z:V) (t:Bool):Prop:=au P G r K ⟨aG f d (bif t then y else z),h,u⟩
def kJ (b p q:Bool):Prop:=au P G r K ⟨aG f d (.w (.c (.d (.bool (bif b then !(p==q) else (p==q)))))),h,u⟩
def yP (b:Bool) (y:V) (p:Bool):Prop:=aE (bn y) (kJ P G d r K f h u b p)
def yQ (k:Kd) (x:V) (w:W):Prop:=aE (af h k x w) (nE P G d r K f u)
def yR (o:Nat) (k:Kd) (cs:List C):Prop:=aE (dB cs o k) (dX P G d r K f h u)
def ni (s:Nat) (k:Kd) (cs:List C) (j:Nat):Prop:=aE (dB cs (j*s) k) (dX P G d r K f h u)
def yS (s n:Nat) (k:Kd) (y:SX) (cs:List C):Prop:=aE (dj (ev G f) y n) (ni P G d r K f h u s k cs)
def yT (cs:List C):Prop:=au P G r K ⟨aG f d (.w (cM cs)),h,u⟩
def yU (i:Nat) (ws:List W):Prop:=aE ws[i]? (dX P G d r K f h u)
end
end
section
variable {P:Program} {G:av} {Q:AX→St→Prop} {K:St→Prop} {r:List ar} {f:Nat→V} {h:ak} {u:Nat→Bool} {d:Option Nat} {x y z:SX}
theorem pn (a b:aN) (σ:St):jb P G a b Q σ true=aL P G a Q σ:=by simp[jb]
theorem oJ (a b:aN) (σ:St):jb P G a b Q σ false=aL P G b Q σ:=by simp[jb]
theorem tm (o:aB) (w:Bool):fJ P G d o w r K f h u w=au P G (⟨d,o,none⟩::r) K ⟨f,h,u⟩:=by simp[fJ]
theorem qJ (o:aB):fJ P G d o true r K f h u false=au P G r K ⟨aG f d (.tup []),h,u⟩:=by simp[fJ]
theorem qK (o:aB):fJ P G d o false r K f h u true=au P G r K ⟨aG f d (.tup []),h,u⟩:=by simp[fJ]
theorem vD (o:aB) (w t:Bool):jc P G d o w r K f h u (.w (.c (.d (.bool t))))=fJ P G d o w r K f h u t:=rfl
theorem po (o:aB) (w:Bool):jc P G d o w r K f h u (.tup [])=au P G r K ⟨aG f d (.tup []),h,u⟩:=by simp[jc,bn]
theorem qL (σ:St):aL P G .skip Q σ=Q .nrm σ:=rfl
theorem tn (l:List ar) (σ:St):aL P G (.reg l) Q σ=au P G l (Q .nrm) σ:=rfl
theorem tp (a b:aN) (σ:St):aL P G (.seq a b) Q σ=aL P G a (kH P G b Q) σ:=by
  show aL P G a _ σ=_
  congr 1
theorem qM (a b:aN):aL P G (.cond x a b) Q ⟨f,h,u⟩=aE (bn (ev G f x)) (jb P G a b Q ⟨f,h,u⟩):=by
  show (match bn (ev G f x) with | some t=>_ | none=>False)=_
  cases bn (ev G f x) <;> rfl
theorem pp (id:Nat) (c:aN) (σ:St):aL P G (.block id c) Q σ=aL P G c (gD id Q) σ:=by
  show aL P G c _ σ=_
  congr 1
theorem qN (id:Nat) (σ:St):aL P G (.exit id) Q σ=Q (.ex id) σ:=rfl
theorem tq (σ:St):aL P G .ret Q σ=Q .ret σ:=rfl
theorem qO (b:aN) (σ:St):kH P G b Q .nrm σ=aL P G b Q σ:=rfl
theorem tu (b:aN) (i:Nat) (σ:St):kH P G b Q (.ex i) σ=Q (.ex i) σ:=rfl
theorem qP (b:aN) (σ:St):kH P G b Q .ret σ=Q .ret σ:=rfl
theorem qQ (id:Nat) (σ:St):gD id Q .nrm σ=Q .nrm σ:=rfl
theorem qR (id:Nat) (σ:St):gD id Q .ret σ=Q .ret σ:=rfl
theorem tv (id:Nat) (σ:St):gD id Q (.ex id) σ=Q .nrm σ:=by simp[gD]
theorem tw (id i:Nat) (σ:St) (hn:(i==id)=false):gD id Q (.ex i) σ=Q (.ex i) σ:=by
  have:i≠id:=by simpa using hn
  simp[gD,this]
theorem qS (l:List (Nat×Option Kd)) (res:V) (σ:St):nh l res .nrm σ=eC σ l res:=rfl
theorem qT (l:List (Nat×Option Kd)) (res:V) (σ:St):nh l res .ret σ=eC σ l res:=rfl
theorem qU (σ:St):au P G [] K σ=K σ:=rfl
theorem qV (s:aB) (t:Nat) (b:Bool):au P G (⟨d,s,some (t,b)⟩::r) K ⟨f,h,u⟩=jc P G d s b r K f h u (f t):=by
  show (match bn (f t) with | some c=>_ | none=>_)=_
  unfold jc;cases bn (f t) with
  | none=>rfl
  | some c =>
    simp only[fJ];cases c <;> cases b <;> simp <;> rfl
def aB.isCall:aB→Bool | .call ..=>true | .callM ..=>true | _=>false
theorem aO (s:aB) (hs:s.isCall=false):au P G (⟨d,s,none⟩::r) K ⟨f,h,u⟩=aE (ef (ev G f) h u (d.getD 0) s) (bE P G d r K f):=by
  have key:∀ J:R→Prop,eO P G s (ev G f) h u (d.getD 0) J=aE (ef (ev G f) h u (d.getD 0) s) J:=by
    intro J;have m:∀ o:Option R,(match o with | some r=>J r | none=>False)=aE o J:=fun o=>by cases o <;> rfl
    rw[← m];cases s <;> first | rfl | (simp[aB.isCall] at hs; done)
  exact key _
theorem vE (v:V):D9 P G d r K f h u v=au P G r K ⟨aG f d v,h,u⟩:=rfl
theorem vF (v:W):dX P G d r K f h u v=au P G r K ⟨aG f d (.w v),h,u⟩:=rfl
theorem vG (v:C):goC P G d r K f h u v=au P G r K ⟨aG f d (.w (.c v)),h,u⟩:=rfl
theorem vH (v:D):kS P G d r K f h u v=au P G r K ⟨aG f d (.w (.c (.d v))),h,u⟩:=rfl
theorem vI (v:V) (h':ak) (u':Nat→Bool):bE P G d r K f (v,h',u')=au P G r K ⟨aG f d v,h',u'⟩:=rfl
theorem vJ (h':ak):nE P G d r K f u h'=au P G r K ⟨aG f d .undef,h',u⟩:=rfl
theorem vK (k k':IntKind) (n:Int):yM P G d r K f h u k (k',n)=au P G r K ⟨aG f d (.w (.c (.d (.int k (k.wrap n))))),h,u⟩:=rfl
theorem vL (n:Nat):yN P G d r K f h u n=au P G r K ⟨aG f d (.w (.c (.d (.int .i64 (n:Int))))),h,u⟩:=rfl
theorem vM (s:ByteArray):yO P G d r K f h u s=au P G r K ⟨aG f d (.w (.c (.d (.int .i64 (s.size:Int))))),h,u⟩:=rfl
theorem qW (y z:V):nF P G d r K f h u y z true=au P G r K ⟨aG f d y,h,u⟩:=rfl
theorem pq (y z:V):nF P G d r K f h u y z false=au P G r K ⟨aG f d z,h,u⟩:=rfl
theorem vN (p q:Bool):kJ P G d r K f h u true p q=au P G r K ⟨aG f d (.w (.c (.d (.bool (!(p==q)))))),h,u⟩:=rfl
theorem vO (p q:Bool):kJ P G d r K f h u false p q=au P G r K ⟨aG f d (.w (.c (.d (.bool (p==q))))),h,u⟩:=rfl
theorem vP (b:Bool) (y:V) (p:Bool):yP P G d r K f h u b y p=aE (bn y) (kJ P G d r K f h u b p):=rfl
theorem vQ (k:Kd) (v:V) (w:W):yQ P G d r K f h u k v w=aE (af h k v w) (nE P G d r K f u):=rfl
theorem vR (o:Nat) (k:Kd) (cs:List C):yR P G d r K f h u o k cs=aE (dB cs o k) (dX P G d r K f h u):=rfl
theorem tx (s:Nat) (k:Kd) (cs:List C) (j:Nat):ni P G d r K f h u s k cs j=aE (dB cs (j*s) k) (dX P G d r K f h u):=rfl
theorem vS (s n:Nat) (k:Kd) (w:SX) (cs:List C):yS P G d r K f h u s n k w cs=aE (dj (ev G f) w n) (ni P G d r K f h u s k cs):=rfl
theorem vT (cs:List C):yT P G d r K f h u cs=au P G r K ⟨aG f d (.w (cM cs)),h,u⟩:=rfl
theorem vU (i:Nat) (ws:List W):yU P G d r K f h u i ws=aE ws[i]? (dX P G d r K f h u):=rfl
theorem xH :au P G (⟨d,.mv x,none⟩::r) K ⟨f,h,u⟩=au P G r K ⟨aG f d (ev G f x),h,u⟩:=rfl
theorem pt (n:Nat):au P G (⟨d,.lenArr n,none⟩::r) K ⟨f,h,u⟩=au P G r K ⟨aG f d (.w (.c (.d (.int .i64 n)))),h,u⟩:=rfl
theorem tz :au P G (⟨d,.pick x y z,none⟩::r) K ⟨f,h,u⟩=aE (bn (ev G f x)) (nF P G d r K f h u (ev G f y) (ev G f z)):=by
  rw[aO _ rfl];simp only[ef];cases bn (ev G f x) with
  | none=>rfl
  | some t=>cases t <;> rfl
theorem vV (op:BinOp):au P G (⟨d,.bin op x y,none⟩::r) K ⟨f,h,u⟩=aE (bh op (ev G f x) (ev G f y)) (kS P G d r K f h u):=by
  rw[aO _ rfl]; exact cL _ _ _
theorem vW (b:Bool) (ks:List Nat):au P G (⟨d,.eqA b ks x y,none⟩::r) K ⟨f,h,u⟩=aE (ji b ks (ev G f x) (ev G f y)) (kS P G d r K f h u):=by
  rw[aO _ rfl]; exact cL _ _ _
theorem xI (op:UnOp):au P G (⟨d,.un op x,none⟩::r) K ⟨f,h,u⟩=aE (fj op (ev G f x)) (kS P G d r K f h u):=by
  rw[aO _ rfl]; exact cL _ _ _
theorem tA (k:IntKind):au P G (⟨d,.conv k x,none⟩::r) K ⟨f,h,u⟩=aE (cx (ev G f x)) (yM P G d r K f h u k):=by
  rw[aO _ rfl]; exact cL _ _ _
theorem vX (b:Bool):au P G (⟨d,.eqB b x y,none⟩::r) K ⟨f,h,u⟩=aE (bn (ev G f x)) (yP P G d r K f h u b (ev G f y)):=by
  rw[aO _ rfl];simp only[ef];cases hp:bn (ev G f x) with
  | none=>rfl
  | some p =>
    show _=aE (bn (ev G f y)) _
    cases bn (ev G f y) with
    | none=>rfl
    | some q=>cases b <;> rfl
theorem vY :au P G (⟨d,.len x,none⟩::r) K ⟨f,h,u⟩=aE (dN (ev G f x)) (yN P G d r K f h u):=by
  rw[aO _ rfl]; exact cL _ _ _
theorem pu :au P G (⟨d,.lenStr x,none⟩::r) K ⟨f,h,u⟩=aE (kG (ev G f x)) (yO P G d r K f h u):=by
  rw[aO _ rfl];have:ef (ev G f) h u (d.getD 0) (.lenStr x)=(kG (ev G f x)).map fun s=>(vd (.int .i64 s.size),h,u):=by
    simp only[ef];unfold kG;split
    ·rename_i e; rw[e]; rfl
    ·rename_i hn;split
     ·rename_i e; exact absurd e (hn _)
     ·rfl
  rw[this];exact cL _ _ _
theorem tB (k:Kd):au P G (⟨d,.load k x,none⟩::r) K ⟨f,h,u⟩=aE (aW h k (ev G f x)) (dX P G d r K f h u):=by
  rw[aO _ rfl]; exact cL _ _ _
theorem qX (k:Kd):au P G (⟨d,.loadB k x,none⟩::r) K ⟨f,h,u⟩=aE (b7 h k (ev G f x)) (dX P G d r K f h u):=by
  rw[aO _ rfl]; exact cL _ _ _
theorem pv (k:Kd):au P G (⟨d,.loadX k x [],none⟩::r) K ⟨f,h,u⟩=aE (cj h k [] (ev G f x)) (dX P G d r K f h u):=by
  rw[aO _ rfl]; exact cL _ _ _
theorem pw (k:Kd):au P G (⟨d,.loadX k x [y],none⟩::r) K ⟨f,h,u⟩=aE (cj h k [ev G f y] (ev G f x)) (dX P G d r K f h u):=by
  rw[aO _ rfl]; exact cL _ _ _
theorem px (k:Kd):au P G (⟨d,.loadX k x [y,z],none⟩::r) K ⟨f,h,u⟩=aE (cj h k [ev G f y,ev G f z] (ev G f x)) (dX P G d r K f h u):=by
  rw[aO _ rfl]; exact cL _ _ _
theorem qY (k:Kd):au P G (⟨d,.store k x y,none⟩::r) K ⟨f,h,u⟩=aE (dT (ev G f y)) (yQ P G d r K f h u k (ev G f x)):=by
  rw[aO _ rfl];simp only[ef];cases dT (ev G f y) with
  | none=>rfl
  | some w=>exact cL _ _ _
theorem nV (o:Nat):au P G (⟨d,.fieldAddr o x,none⟩::r) K ⟨f,h,u⟩=aE (ii o (ev G f x)) (goC P G d r K f h u):=by
  rw[aO _ rfl]; exact cL _ _ _
theorem qZ (o:Nat) (k:Kd):au P G (⟨d,.field o k x,none⟩::r) K ⟨f,h,u⟩=aE (cC (ev G f x)) (yR P G d r K f h u o k):=by
  rw[aO _ rfl];simp only[ef];cases cC (ev G f x) with
  | none=>rfl
  | some w=>exact cL _ _ _
theorem py (s n:Nat) (k:Kd):au P G (⟨d,.idxArr s n k x y,none⟩::r) K ⟨f,h,u⟩=aE (cC (ev G f x)) (yS P G d r K f h u s n k y):=by
  rw[aO _ rfl];simp only[ef];cases cC (ev G f x) with
  | none=>rfl
  | some w =>
    show _=aE (dj (ev G f) y n) _
    cases dj (ev G f) y n with
    | none=>rfl
    | some j=>exact cL _ _ _
theorem oK (i:Nat):au P G (⟨d,.extract x i,none⟩::r) K ⟨f,h,u⟩=aE (yq (ev G f x)) (yU P G d r K f h u i):=by
  rw[aO _ rfl];simp only[ef];cases ev G f x with
  | tup ws=>exact cL _ _ _
  | _=>rfl
theorem q7 (c:List C) (ps:List (Nat×Nat×SX)):au P G (⟨d,.build c ps,none⟩::r) K ⟨f,h,u⟩=aE (parts (ev G f) ps c) (yT P G d r K f h u):=by
  rw[aO _ rfl]; exact cL _ _ _
theorem q8 (c:List C):au P G (⟨d,.alloc c,none⟩::r) K ⟨f,h,u⟩=aE (ef (ev G f) h u (d.getD 0) (.alloc c)) (bE P G d r K f):=aO _ rfl
theorem og (c:List D):au P G (⟨d,.allocArr c,none⟩::r) K ⟨f,h,u⟩=aE (ef (ev G f) h u (d.getD 0) (.allocArr c)) (bE P G d r K f):=aO _ rfl
theorem pz (s:Nat):au P G (⟨d,.nilOwn s,none⟩::r) K ⟨f,h,u⟩=aE (ef (ev G f) h u (d.getD 0) (.nilOwn s)) (bE P G d r K f):=aO _ rfl
theorem vZ (m:Bx):au P G (⟨d,.box m x,none⟩::r) K ⟨f,h,u⟩=aE (ef (ev G f) h u (d.getD 0) (.box m x)) (bE P G d r K f):=aO _ rfl
theorem q9 (b:Bool) (n s:Nat) (c:D) (ps:List (Nat×SX)):au P G (⟨d,.bldSl b n s c ps,none⟩::r) K ⟨f,h,u⟩=aE (ef (ev G f) h u (d.getD 0) (.bldSl b n s c ps)) (bE P G d r K f):=aO _ rfl
theorem rb (n s:Nat) (c:D) (ps:List (Nat×SX)):au P G (⟨d,.bldFz n s c ps,none⟩::r) K ⟨f,h,u⟩=aE (ef (ev G f) h u (d.getD 0) (.bldFz n s c ps)) (bE P G d r K f):=aO _ rfl
theorem pA (c:List C) (ps:List (Nat×Nat×SX)):au P G (⟨d,.buildF c ps,none⟩::r) K ⟨f,h,u⟩=aE (ef (ev G f) h u (d.getD 0) (.buildF c ps)) (bE P G d r K f):=aO _ rfl
theorem v4 :au P G (⟨d,.b2s x,none⟩::r) K ⟨f,h,u⟩=aE (ef (ev G f) h u (d.getD 0) (.b2s x)) (bE P G d r K f):=aO _ rfl
theorem v5 (b:Bool):au P G (⟨d,.s2b b x,none⟩::r) K ⟨f,h,u⟩=aE (ef (ev G f) h u (d.getD 0) (.s2b b x)) (bE P G d r K f):=aO _ rfl
theorem tC (w:Bool) (s b:Nat) (c:D):au P G (⟨d,.make w s b c x y,none⟩::r) K ⟨f,h,u⟩=aE (ef (ev G f) h u (d.getD 0) (.make w s b c x y)) (bE P G d r K f):=aO _ rfl
theorem rc (s:Nat) (a b c:Option SX):au P G (⟨d,.slice s x a b c,none⟩::r) K ⟨f,h,u⟩=aE (ef (ev G f) h u (d.getD 0) (.slice s x a b c)) (bE P G d r K f):=aO _ rfl
theorem oh (a b:Option SX):au P G (⟨d,.sliceStr x a b,none⟩::r) K ⟨f,h,u⟩=aE (ef (ev G f) h u (d.getD 0) (.sliceStr x a b)) (bE P G d r K f):=aO _ rfl
theorem om (s n:Nat) (a b:Option SX):au P G (⟨d,.sliceArr s n x a b,none⟩::r) K ⟨f,h,u⟩=aE (ef (ev G f) h u (d.getD 0) (.sliceArr s n x a b)) (bE P G d r K f):=aO _ rfl
theorem re (s:Nat):au P G (⟨d,.idxSl s x y,none⟩::r) K ⟨f,h,u⟩=aE (ef (ev G f) h u (d.getD 0) (.idxSl s x y)) (bE P G d r K f):=aO _ rfl
theorem rf (s n:Nat):au P G (⟨d,.idxPa s n x y,none⟩::r) K ⟨f,h,u⟩=aE (ef (ev G f) h u (d.getD 0) (.idxPa s n x y)) (bE P G d r K f):=aO _ rfl
theorem pB :au P G (⟨d,.idxStr x y,none⟩::r) K ⟨f,h,u⟩=aE (ef (ev G f) h u (d.getD 0) (.idxStr x y)) (bE P G d r K f):=aO _ rfl
theorem v6 (b:Bool) (s n:Nat):au P G (⟨d,.app b s n x y,none⟩::r) K ⟨f,h,u⟩=aE (ef (ev G f) h u (d.getD 0) (.app b s n x y)) (bE P G d r K f):=aO _ rfl
theorem tD (b:Bool) (s n:Nat):au P G (⟨d,.appN b s n x y,none⟩::r) K ⟨f,h,u⟩=aE (ef (ev G f) h u (d.getD 0) (.appN b s n x y)) (bE P G d r K f):=aO _ rfl
theorem tE (s:Nat):au P G (⟨d,.copy s x y,none⟩::r) K ⟨f,h,u⟩=aE (ef (ev G f) h u (d.getD 0) (.copy s x y)) (bE P G d r K f):=aO _ rfl
theorem v7 (l:List SX):au P G (⟨d,.min l,none⟩::r) K ⟨f,h,u⟩=aE (ef (ev G f) h u (d.getD 0) (.min l)) (bE P G d r K f):=aO _ rfl
theorem v8 (l:List SX):au P G (⟨d,.max l,none⟩::r) K ⟨f,h,u⟩=aE (ef (ev G f) h u (d.getD 0) (.max l)) (bE P G d r K f):=aO _ rfl
theorem v9 :au P G (⟨d,.frz x,none⟩::r) K ⟨f,h,u⟩=aE (ef (ev G f) h u (d.getD 0) (.frz x)) (bE P G d r K f):=aO _ rfl
theorem tF :au P G (⟨d,.mark x,none⟩::r) K ⟨f,h,u⟩=aE (ef (ev G f) h u (d.getD 0) (.mark x)) (bE P G d r K f):=aO _ rfl
theorem rh :au P G (⟨d,.markF x,none⟩::r) K ⟨f,h,u⟩=aE (ef (ev G f) h u (d.getD 0) (.markF x)) (bE P G d r K f):=aO _ rfl
theorem zK {fn:FuncId} {xs:List SX} {own:Option (Nat×Nat)} {res:V} (h2:fy P G h fn (xs.map (ev G f)) res) (h3:fA h (xs.map (ev G f)) res)
    (e:aE (ci h u (d.getD 0) own res) (bE P G d r K f)) (hp:eZ own (xs.map (ev G f))):au P G (⟨d,.call fn xs own,none⟩::r) K ⟨f,h,u⟩:=by
  have e':(match ci h u (d.getD 0) own res with | some r'=>au P G r K ⟨aG f d r'.1,r'.2.1,r'.2.2⟩ | none=>False):=by
    revert e
    cases ci h u (d.getD 0) own res <;> exact fun h=>h
  exact⟨res,h2,h3,hp,e'⟩
theorem Aq {fn:FuncId} {xs:List SX} {own:Option (Nat×Nat)} {res:V} (h2:fy P G h fn (xs.map (ev G f)) res) (h3:((xs.map (ev G f)).any V.hasOwn=false∨res.flat=true))
    (e:aE (ci h u (d.getD 0) own res) (bE P G d r K f)) (hp:eZ own (xs.map (ev G f))):au P G (⟨d,.call fn xs own,none⟩::r) K ⟨f,h,u⟩ :=
  zK h2 (fun hh=>by rcases h3 with h3 | h3; (· rw[h3] at hh; cases hh); exact .inl h3) e hp
theorem B0 {fn:FuncId} {xs:List SX} {own:Option (Nat×Nat)} {ds:List D} {res:V} (h2:bd P G fn ds res) (h1:bR h (xs.map (ev G f))=some ds) (h3:((xs.map (ev G f)).any V.hasOwn=false∨res.flat=true))
    (e:aE (ci h u (d.getD 0) own res) (bE P G d r K f)) (hne:fn≠cW:=by decide) (hp:eZ own (xs.map (ev G f)):=by first | exact lF _ | exact ma _ _ _ | exact lG _ _ rfl):au P G (⟨d,.call fn xs own,none⟩::r) K ⟨f,h,u⟩ :=
  Aq (.inl ⟨hne,ds,h1,h2⟩) h3 e hp
theorem sC {fn:FuncId} {xs:List SX} {own:Option (Nat×Nat)} {ds:List D} {res:V} (h2:bd P G fn ds res) (e:aE (ci h u (d.getD 0) own res) (bE P G d r K f)) (h1:bR h (xs.map (ev G f))=some ds:=by exact rfl)
    (h3:((xs.map (ev G f)).any V.hasOwn=false∨res.flat=true):=by exact .inl rfl) (hne:fn≠cW:=by decide) (hp:eZ own (xs.map (ev G f)):=by first | exact lF _ | exact ma _ _ _ | exact lG _ _ rfl):au P G (⟨d,.call fn xs own,none⟩::r) K ⟨f,h,u⟩ :=
  B0 h2 h1 h3 e hne hp
theorem tG {α:Type} (f:Nat→α) (i j:Nat) (x:α) (h:(j==i)=false):upd f i x j=f j:=upd_ne f x (by simpa using h)
theorem pC {α:Type} (f:Nat→α) (i:Nat) (x:α):aG f (some i) x=upd f i x:=rfl
theorem pD {α:Type} (f:Nat→α) (x:α):aG f none x=f:=rfl
theorem yr (n:Nat):ev G f (.t n)=f n:=rfl
theorem yt (v:W):ev G f (.k v)=.w v:=rfl
def uf:Nat→V:=fun _=>.undef
def hN:ak:=fun _=>none
def uN:Nat→Bool:=fun _=>false
def aw:Nat→List D→(Nat→V)→Nat→V
  | _,[],f=>f
  | i,x::r,f=>aw (i+1) r (upd f i (.w (.c (.d x))))
theorem oL:∀ (l:List D) (i:Nat) (f:Nat→V) (t:Nat),aw i l f t=if i≤t then (match l[t-i]? with | some x=>vd x | none=>f t) else f t
  | [],i,f,t=>by simp[aw]
  | x::l,i,f,t=>by
    rw[aw,oL l (i+1)];by_cases h:i=t
    ·subst h;rw[if_neg (by omega),if_pos (Ew _)];simp[upd,vd]
    ·by_cases h2:i≤t
     ·rw[if_pos (by omega),if_pos h2];have:t-i=(t-(i+1))+1:=by omega
      rw[this,EG];cases l[t-(i+1)]? with
      | some y=>rfl
      | none=>simp[upd,show t≠i from fun e=>h e.symm]
     ·rw[if_neg (by omega),if_neg h2];simp[upd,show t≠i from fun e=>h e.symm]
theorem entry_eq (args:List D):entry args=⟨aw 0 args uf,hN,uN⟩:=by
  unfold entry
  congr 1
  funext t
  rw[oL];simp only[E6,if_true,Nat.sub_zero];rfl
theorem wa (i:Nat):hN i=none:=rfl
theorem wb (i:Nat):uN i=false:=rfl
theorem wc (i:Nat):uf i=.undef:=rfl
theorem bI {F:FuncId} {fn:Func} {sf:aV} {H:Hint} (hf:P.funcs[F]?=some fn) (hc:aR P H fn=some sf) {args:List D} {res:V} {f0:Nat→V} (hlen:args.length=sf.np) (h0:aw 0 args uf=f0)
    (e:aL P G sf.body (nh sf.res res) ⟨f0,hN,uN⟩):bd P G F args res:=by
  refine CM hf hc hlen ?_;rw[entry_eq,h0];exact e
end
theorem wd (k:IntKind) (n:Int):cx (.w (.c (.d (.int k n))))=some (k,n):=rfl
theorem we (b:Bool):bn (.w (.c (.d (.bool b))))=some b:=rfl
theorem wg (w:W):dT (.w w)=some w:=rfl
theorem wh (cs:List D):cC (.w (.c (.d (.agg cs))))=some (cs.map C.d):=rfl
theorem wi (cs:List C):cC (.w (.mix cs))=some cs:=rfl
theorem tH (s:ByteArray):kG (.w (.c (.d (.str s))))=some s:=rfl
theorem tI (ws:List W):yq (.tup ws)=some ws:=rfl
theorem wj (es:List D):dN (.w (.c (.d (.sl es))))=some es.length:=rfl
theorem ri:dN (.w (.c .nil))=some 0:=rfl
theorem rj (id sz off n:Nat):dN (.w (.c (.own id sz off n)))=some n:=rfl
theorem tJ (off id sz i o:Nat):ii off (.w (.c (.ptr id sz i o)))=some (.ptr id sz i (o+off)):=rfl
theorem wk (off:Nat) (cs:List D):ii off (.w (.c (.rp cs)))=some (.rp (cs.drop off)):=rfl
theorem rk (op:BinOp) (k k':IntKind) (a b:Int):bh op (.w (.c (.d (.int k a)))) (.w (.c (.d (.int k' b))))=aK op k a k' b:=rfl
theorem rl (op:BinOp) (a b:ByteArray):bh op (.w (.c (.d (.str a)))) (.w (.c (.d (.str b))))=hU op a b:=rfl
theorem lT (k:IntKind) (a b:Int):aK .add k a k b=some (.int k (k.wrap (a+b))):=by simp[aK]
theorem rm (k:IntKind) (a b:Int):aK .sub k a k b=some (.int k (k.wrap (a-b))):=by simp[aK]
theorem rn (k:IntKind) (a b:Int):aK .mul k a k b=some (.int k (k.wrap (a*b))):=by simp[aK]
theorem lU (k:IntKind) (a b:Int):aK .eql k a k b=some (.bool (if a=b then true else false)):=by
  simp only[aK,ne_eq,not_true_eq_false,if_false,Ej,D.bool.injEq];by_cases h:a=b <;> simp[h]
theorem lV (k:IntKind) (a b:Int):aK .neq k a k b=some (.bool (if a=b then false else true)):=by
  simp only[aK,ne_eq,not_true_eq_false,if_false,Ej,D.bool.injEq];by_cases h:a=b <;> simp[h]
theorem rq (k:IntKind) (a b:Int):aK .lss k a k b=some (.bool (if a<b then true else false)):=by
  simp only[aK,ne_eq,not_true_eq_false,if_false,Ej,D.bool.injEq];by_cases h:a<b <;> simp[h]
theorem rr (k:IntKind) (a b:Int):aK .leq k a k b=some (.bool (if a≤b then true else false)):=by
  simp only[aK,ne_eq,not_true_eq_false,if_false,Ej,D.bool.injEq];by_cases h:a≤b <;> simp[h]
theorem rt (k:IntKind) (a b:Int):aK .gtr k a k b=some (.bool (if a>b then true else false)):=by
  simp only[aK,ne_eq,not_true_eq_false,if_false,Ej,D.bool.injEq];by_cases h:a>b <;> simp[h]
theorem ru (k:IntKind) (a b:Int):aK .geq k a k b=some (.bool (if a≥b then true else false)):=by
  simp only[aK,ne_eq,not_true_eq_false,if_false,Ej,D.bool.injEq];by_cases h:a≥b <;> simp[h]
theorem jz (k:IntKind) (a b:Int):aK .and k a k b=some (.int k (bits .and k a b)):=by simp[aK]
theorem jK (k:IntKind) (a b:Int):aK .or k a k b=some (.int k (bits .or k a b)):=by simp[aK]
theorem jA (k:IntKind) (a b:Int):aK .xor k a k b=some (.int k (bits .xor k a b)):=by simp[aK]
theorem oo (k:IntKind) (a b:Int):aK .andNot k a k b=some (.int k (bits .andNot k a b)):=by simp[aK]
theorem lW (k k':IntKind) (a b:Int) (h:0≤b):aK .shl k a k' b=some (.int k (k.wrap (a*2^min b.toNat k.bits))):=by simp[aK,h]
theorem lX (k k':IntKind) (a b:Int) (h:0≤b):aK .shr k a k' b=some (.int k (a / 2^min b.toNat k.bits)):=by simp[aK,h]
theorem rv (k:IntKind) (a b:Int) (h:b≠0):aK .quo k a k b=some (.int k (k.wrap (a.tdiv b))):=by simp[aK,h]
theorem rx (k:IntKind) (a b:Int) (h:b≠0):aK .rem k a k b=some (.int k (a.tmod b)):=by simp[aK,h]
theorem tK (k:IntKind) (n:Int):fj .neg (.w (.c (.d (.int k n))))=some (.int k (k.wrap (0-n))):=rfl
theorem tL (b:Bool):fj .not (.w (.c (.d (.bool b))))=some (.bool !b):=rfl
theorem tM (k:IntKind) (n:Int):fj .xor (.w (.c (.d (.int k n))))=some (.int k (bits .xor k (if k.signed then -1 else k.max) n)):=rfl
theorem tN (h:ak) (u:Nat→Bool) (n:Nat) (o:Ob) (c:C) (hu:u (8*n)=false):bM h u n o c=some (.w (.c c),upd h (8*n) (some o),upd u (8*n) true):=gu hu
theorem ry (ρ:SX→V) (h:ak) (u:Nat→Bool) (n:Nat) (c:List C):ef ρ h u n (.alloc c)=bM h u n (.box c) (.ptr (8*n) 1 0 0):=rfl
theorem oq (ρ:SX→V) (h:ak) (u:Nat→Bool) (n:Nat) (c:List D):ef ρ h u n (.allocArr c)=bM h u n (.row 1 c) (.pa (8*n) 1):=rfl
theorem pE (ρ:SX→V) (h:ak) (u:Nat→Bool) (n s:Nat):ef ρ h u n (.nilOwn s)=bM h u n (.row s []) (.own (8*n) s 0 0):=rfl
theorem tO (kd:Kd) (y:W) (i o:Nat) (cs:List C):gI kd y i o (.box cs)=if (bc y).length=kd.size∧i+o+kd.size≤cs.length then some (.box (bU cs (i+o) (bc y))) else none:=rfl
theorem xJ (n d:Nat):(some n).getD d=n:=rfl
theorem wl (h:ak) (k:Kd) (cs:List D):cj h k [] (.w (.c (.rp cs)))=aW h k (.w (.c (.rp cs))):=rfl
theorem wm (h:ak) (k:Kd) (es:List D):cj h k [] (.w (.c (.ra es)))=aW h k (.w (.c (.ra es))):=rfl
theorem xK (h:ak) (k:Kd) (x:D):cj h k [] (.w (.c (.d x)))=aW h k (.w (.c (.d x))):=rfl
theorem xL (h:ak) (k:Kd) (j a b c i d e g:Nat):cj h k [.w (.c (.ptr j a b c))] (.w (.c (.ptr i d e g)))=if i=j then none else aW h k (.w (.c (.ptr i d e g))):=by
  unfold cj eH;by_cases hij:i=j
  ·simp[V.ids,W.ids,C.ids,hij,dz]
  ·simp[V.ids,W.ids,C.ids,hij,dz]
theorem xM (h:ak) (k:Kd) (j a b c l m n q i d e g:Nat):cj h k [.w (.c (.ptr j a b c)),.w (.c (.ptr l m n q))] (.w (.c (.ptr i d e g)))=if i=j then none else if i=l then none else aW h k (.w (.c (.ptr i d e g))):=by
  unfold cj eH;by_cases hij:i=j
  ·simp[V.ids,W.ids,C.ids,hij,dz]
  ·by_cases hil:i=l
   ·simp[V.ids,W.ids,C.ids,hij,hil,dz]
   ·simp[V.ids,W.ids,C.ids,hij,hil,dz]
abbrev eW {p:Prop} (_:p):Prop:=p
theorem sx:eW (jR @qL (jR @tn (jR @tp (jR @qM (jR @pp (jR @qN (jR @tq (jR @qO (jR @tu (jR @qP (jR @qQ (jR @qR (jR @tv (jR @tw (jR @qS (jR @qT (jR @qU (jR @qV (jR @vD (jR @po (jR @pm (jR @pn (jR @oJ (jR @tm (jR @qJ (jR @qK (jR @vE (jR @vF (jR @vG (jR @vH (jR @vI (jR @vJ (jR @vK (jR @vL (jR @vM (jR @qW (jR @pq (jR @vN (jR @vO (jR @vP (jR @vQ (jR @vR (jR @tx (jR @vS (jR @vT (jR @vU (jR @xH (jR @pt (jR @tz (jR @vV (jR @vW (jR @xI (jR @tA (jR @vX (jR @vY (jR @pu (jR @tB (jR @qX (jR @pv (jR @pw (jR @px (jR @qY (jR @nV (jR @qZ (jR @py (jR @oK (jR @q7 (jR @q8 (jR @og (jR @pz (jR @vZ (jR @q9 (jR @rb (jR @pA (jR @v4 (jR @v5 (jR @tC (jR @rc (jR @oh (jR @om (jR @re (jR @rf (jR @pB (jR @v6 (jR @tD (jR @tE (jR @v7 (jR @v8 (jR @v9 (jR @tF (jR @rh (jR @upd_same (jR @tG (jR @wa (jR @wb (jR @wc (jR @pC (jR @pD (jR @yr (jR @yt (jR @wl (jR @wm (jR @xK (jR @xL (jR @xM (jR @wd (jR @we (jR @wg (jR @wh (jR @wi (jR @tH (jR @tI (jR @wj (jR @ri (jR @rj (jR @tJ (jR @wk (jR @rk (jR @rl (jR @lT (jR @rm (jR @rn (jR @lU (jR @lV (jR @rq (jR @rr (jR @rt (jR @ru (jR @jz (jR @jK (jR @jA (jR @oo (jR @lW (jR @lX (jR @rv (jR @rx (jR @tK (jR @tL (jR @tM (jR @tN (jR @ry (jR @oq (jR @pE (@xJ)))))))))))))))))))))))))))))))))))))))))))))))))))))))))))))))))))))))))))))))))))))))))))))))))))))))))))))))))))))))))))))))))))))))))))))))):=jR @qL (jR @tn (jR @tp (jR @qM (jR @pp (jR @qN (jR @tq (jR @qO (jR @tu (jR @qP (jR @qQ (jR @qR (jR @tv (jR @tw (jR @qS (jR @qT (jR @qU (jR @qV (jR @vD (jR @po (jR @pm (jR @pn (jR @oJ (jR @tm (jR @qJ (jR @qK (jR @vE (jR @vF (jR @vG (jR @vH (jR @vI (jR @vJ (jR @vK (jR @vL (jR @vM (jR @qW (jR @pq (jR @vN (jR @vO (jR @vP (jR @vQ (jR @vR (jR @tx (jR @vS (jR @vT (jR @vU (jR @xH (jR @pt (jR @tz (jR @vV (jR @vW (jR @xI (jR @tA (jR @vX (jR @vY (jR @pu (jR @tB (jR @qX (jR @pv (jR @pw (jR @px (jR @qY (jR @nV (jR @qZ (jR @py (jR @oK (jR @q7 (jR @q8 (jR @og (jR @pz (jR @vZ (jR @q9 (jR @rb (jR @pA (jR @v4 (jR @v5 (jR @tC (jR @rc (jR @oh (jR @om (jR @re (jR @rf (jR @pB (jR @v6 (jR @tD (jR @tE (jR @v7 (jR @v8 (jR @v9 (jR @tF (jR @rh (jR @upd_same (jR @tG (jR @wa (jR @wb (jR @wc (jR @pC (jR @pD (jR @yr (jR @yt (jR @wl (jR @wm (jR @xK (jR @xL (jR @xM (jR @wd (jR @we (jR @wg (jR @wh (jR @wi (jR @tH (jR @tI (jR @wj (jR @ri (jR @rj (jR @tJ (jR @wk (jR @rk (jR @rl (jR @lT (jR @rm (jR @rn (jR @lU (jR @lV (jR @rq (jR @rr (jR @rt (jR @ru (jR @jz (jR @jK (jR @jA (jR @oo (jR @lW (jR @lX (jR @rv (jR @rx (jR @tK (jR @tL (jR @tM (jR @tN (jR @ry (jR @oq (jR @pE (@xJ)))))))))))))))))))))))))))))))))))))))))))))))))))))))))))))))))))))))))))))))))))))))))))))))))))))))))))))))))))))))))))))))))))))))))))))))
end Go.Proofs.Ytjhaklohdflppaa
