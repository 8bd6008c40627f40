/- Texts of one's own, merged: from: The plain logic (16): regions,in the order of the text and in any order that the edges allow. Own work. -/
import Derived.Orders
import Derived.OrdersIn
import Derived.Test.YtofonnokanoflaaGreatDoorMt14
set_option linter.unusedVariables false
set_option linter.unusedSimpArgs false
namespace Go.Proofs.YtofonnokanoflaaGreatDoor
open Go.RowKit
def Xy (N:Nat):Option Nat→Bool | some d=>decide (d<N) | none=>true
def mM (P:Program) (H:Hint) (ops:Array Oper) (N:Nat) (o:Oper):Option br :=
  match x5 P H o with
  | some so=>if Xy N o.dst=true then
      match o.guard with
      | none=>some ⟨o.dst,so,none⟩
      | some (j,want)=>match (ops[j]?).bind (·.dst) with
        | some t=>some ⟨o.dst,so,some (t,want)⟩
        | none=>none
    else none
  | none=>none
def vl (ms:List Nat) (o:Oper):Nat:=o.after.toList.foldl (fun m e=>if Region.binds .any e=true then m ||| (2^e.on) ||| ms.getD e.on 0 else m) 0
def Xz:List Oper→List Nat→List Nat
  | [],acc=>acc
  | o::r,acc=>Xz r (acc++[vl acc o])
def I0 (ms:List Nat) (ops:List Oper) (cs:List br):Bool :=
  (List.range ops.length).all fun i=>match ops[i]?,cs[i]? with
    | some o,some so=>(ms.getD i 0==vl ms o)&&o.after.toList.all (fun e=>!Region.binds .any e || decide (e.on<i)) &&
        (List.range i).all fun j=>(ms.getD i 0).testBit j || (match cs[j]? with | some sj=>sj.indep so | none=>false)
    | _,_=>false
def EX (P:Program) (H:Hint) (N:Nat) (ops:Array Oper) (draws:Bool):Option (List br) :=
  match bB (mM P H ops N) ops.toList with
  | some cs=>if draws=false then some cs else if P.follows .mixedOrders=true∧I0 (Xz ops.toList []) ops.toList cs=true then some cs else none
  | none=>none
section
variable {P:Program} {G:au} {N:Nat} {Sin:aR} {w0:Gh} {σ:St} {a:Act} {w:World} {S:aR} {m:Mp} {H:Hint} {ops:Array Oper} {K:St→Prop} {Q:Exit→Act→World→Prop}
theorem KZ {o:Oper} {so:br} (h:mM P H ops N o=some so):x5 P H o=some so.op∧so.dst=o.dst∧(∀ t,o.dst=some t→t<N) ∧
    ((o.guard=none∧so.guard=none)∨∃ j t want,o.guard=some (j,want)∧so.guard=some (t,want)∧(ops[j]?).bind (·.dst)=some t):=by
  unfold mM at h;split at h
  ·rename_i s hs;split at h
   ·rename_i hd;have hd':∀ t,o.dst=some t→t<N:=by
      intro t ht;rw[ht] at hd
      simpa [Xy] using hd
    split at h
    ·rename_i hg;cases h;exact⟨hs,rfl,hd',.inl ⟨hg,rfl⟩⟩
    ·rename_i j want hg;split at h
     ·rename_i t ht;cases h;exact⟨hs,rfl,hd',.inr ⟨j,t,want,hg,rfl,ht⟩⟩
     ·cases h
   ·cases h
  ·cases h
theorem EY {i:Nat} {o:Oper} {so:br} (hi:ops[i]?=some o) (hc:mM P H ops N o=some so) (hx:∀ t,so.dst=some t→w0.fx t=none) (h:Inv G N Sin w0 σ a w S m) {r:R} (hr:eY P G so σ r) (hK:K (σ.put so.dst r)):wpOp P ops Q i (Nx G N Sin w0 K) a w:=by
  obtain⟨h1,h2,h3',h4⟩:=KZ hc;have h3:∀ t,o.dst=some t→t<N∧w0.fx t=none:=fun t ht=>⟨h3' t ht,hx t (by rw[h2]; exact ht)⟩
  rw[h2] at hK;unfold wpOp;simp only[hi];unfold eY at hr;rcases h4 with ⟨g1,g2⟩ | ⟨j,t,want,g1,g2,g3⟩
  ·rw[g2] at hr;have hw:Region.wanted o (yielded ops a.tmps)=true:=by simp[Region.wanted,g1]
   rw[if_pos hw];exact .inl (NC h h3 h1 (AY.2 ⟨r,h2 ▸ hr,hK⟩))
  ·rw[g2] at hr;have hgone:RV m S w undef (.tup []):=⟨[],rfl,.nil⟩
   rcases hr with ⟨b,hb,hr⟩ | ⟨hu,rfl⟩
   ·have hv:=x7 (h.slot t) hb;have hy:yielded ops a.tmps j=some b:=by
      unfold yielded;rw[g3];have:a.tmps[t]?=some (.bool b):=by
        rw[apc] at hv;cases ht:a.tmps[t]? with
        | none=>rw[ht] at hv; simp[undef] at hv
        | some v=>rw[ht] at hv; simpa using hv
      simp[this]
    by_cases e:b=want
    ·have hw:Region.wanted o (yielded ops a.tmps)=true:=by simp[Region.wanted,g1,hy,e]
     rw[if_pos hw];rcases hr with ⟨_,hr⟩ | ⟨hne,_⟩
     ·exact .inl (NC h h3 h1 (AY.2 ⟨r,h2 ▸ hr,hK⟩))
     ·exact absurd e hne
    ·have hw:¬ Region.wanted o (yielded ops a.tmps)=true:=by simp[Region.wanted,g1,hy,e]
     rw[if_neg hw];rcases hr with ⟨he,_⟩ | ⟨_,rfl⟩
     ·exact absurd he e
     ·exact⟨_,_,_,hK,h.put (x:=.tup []) o.dst h3 hgone fun i hi=>by cases hi⟩
   ·have hv:a.tmps.getD t undef=undef:=by
      have:=h.slot t;rw[hu] at this;obtain⟨us,h5,h6⟩:=this;cases h6;exact h5
    have hy:yielded ops a.tmps j=none:=by
      unfold yielded;rw[g3];rw[apc] at hv;cases ht:a.tmps[t]? with
      | none=>simp[ht]
      | some v=>rw[ht] at hv; simp only[apx] at hv; subst hv; simp[ht,undef]
    have hw:¬ Region.wanted o (yielded ops a.tmps)=true:=by simp[Region.wanted,g1,hy]
    rw[if_neg hw];exact⟨_,_,_,hK,h.put (x:=.tup []) o.dst h3 hgone fun i hi=>by cases hi⟩
theorem ab8 {i:Nat} {J:Act→World→Prop} (h:wpOp P ops (fun _ _ _=>False) i J a w):∃ a w,J a w:=by
  unfold wpOp at h;split at h
  ·exact⟨_,_,h⟩
  ·rename_i o ho;split at h
   ·rcases h with h | ⟨_,_,_,h⟩
    ·unfold Oper.wp at h;cases hr:(execOp a.eval o).run P w with
     | ok n w' =>
       rw[hr] at h;cases n <;> simp only[Oper.upon] at h <;> first | exact⟨_,_,h⟩ | exact h.elim | skip
       ·obtain⟨e,w2,fr,h1,_⟩:=h [];cases e with
        | returned v=>exact⟨_,_,h1⟩
        | panicked c=>exact h1.elim
        | outgrown=>obtain⟨_,_,h2⟩:=h1; exact h2.elim
       ·obtain⟨v,w2,h1,_⟩:=h default [];exact⟨_,_,h1⟩
     | halt x w' =>
       rw[hr] at h;cases x <;> simp only[Oper.upon] at h <;> exact h.elim
    ·exact h.elim
   ·exact⟨_,_,h⟩
theorem ab9 {i:Nat} {o:Oper} {so:br} (hi:ops[i]?=some o) (hc:mM P H ops N o=some so) (hx:∀ t,so.dst=some t→w0.fx t=none) (h:Inv G N Sin w0 σ a w S m) {r:R} (hr:eY P G so σ r):∃ a1 w1 S1 m1,Inv G N Sin w0 (σ.put so.dst r) a1 w1 S1 m1:=by
  obtain⟨a1,w1,σ1,S1,m1,h1,h2⟩:=ab8 (EY (K:=fun s=>s=σ.put so.dst r) hi hc hx h hr rfl);subst h1;exact⟨a1,w1,S1,m1,h2⟩
def vP (P:Program) (H:Hint) (N:Nat) (fx:Nat→Option Value) (ops:Array Oper) (l:List (Nat×br)):Prop:=∀ p∈l,∃ o,ops[p.1]?=some o∧mM P H ops N o=some p.2∧∀ t,p.2.dst=some t→fx t=none
theorem Fb (hQ:∀ a w,Nx G N Sin w0 K a w→Q .normal a w):∀ (l:List (Nat×br)) {σ:St} {a:Act} {w:World} {S:aR} {m:Mp},vP P H N w0.fx ops l→Inv G N Sin w0 σ a w S m→bh P G (l.map (·.2)) K σ→wpOps P ops Q (l.map (·.1)) a w
  | [],σ,a,w,S,m,_,h,e=>hQ _ _ ⟨_,_,_,e,h⟩
  | p::l,σ,a,w,S,m,hc,h,e=>by
    rw[aos,wpOps_cons];rw[aos] at e;obtain⟨r,h1,h2⟩:=uT.1 e;obtain⟨o,ho,hco,hfx⟩:=hc p (by simp);refine wpOp_mono ?_ (EY ho hco hfx h h1 h2);rintro a1 w1 ⟨σ1,S1,m1,k1,k2⟩;exact Fb hQ l (fun q hq=>hc q (by simp[hq])) k2 k1
theorem NG (h:Inv G N Sin w0 σ a w S m) {z:br} (hz:z.sound=true):∀ o∈z.op.xs,∀ id∈(ev G σ.f o).ids,σ.u id=true:=by
  intro o ho id hid;cases o with
  | t n=>exact h.used n id hid
  | k v =>
    simp only[br.sound,aoU,aoE] at hz;have:=hz.1 _ ho;simp only[SX.kok,List.isEmpty_iff] at this;have hid':id∈v.ids:=hid;rw[this] at hid';cases hid'
  | g n =>
    simp only[ev] at hid;split at hid
    ·rename_i c hc;unfold au.at at hc;simp only[aoo] at hc;obtain⟨p,hp,rfl⟩:=hc;have hk:=h.glob p (ap0 hp);have:=(hk.1.rpra (m':=m) hk.2.1).2;have hid':id∈p.2.ids:=hid;rw[this] at hid';cases hid'
    ·cases hid
  | u=>cases hid
theorem Ln {p:Nat×br} {l2:List (Nat×br)}:∀ (l1:List (Nat×br)) {σ:St} {a:Act} {w:World} {S:aR} {m:Mp},vP P H N w0.fx ops (l1++p::l2)→(∀ q∈l1,q.2.indep p.2=true)→Inv G N Sin w0 σ a w S m →
    bh P G ((l1++p::l2).map (·.2)) K σ→Eb P G p.2 (bh P G ((l1++l2).map (·.2)) K) σ
  | [],σ,a,w,S,m,_,_,_,e=>e
  | q::l1,σ,a,w,S,m,hc,hi,h,e=>by
    rw[ape,aos] at e;obtain⟨r1,h1,h2⟩:=uT.1 e;obtain⟨o,ho,hco,hfx⟩:=hc q (by simp);obtain⟨a1,w1,S1,m1,hinv⟩:=ab9 ho hco hfx h h1;have ih:=Ln l1 (fun z hz=>hc z (by simp only[ape,aoK]; exact .inr hz)) (fun z hz=>hi z (by simp[hz])) hinv h2;obtain⟨r2,h3,h4⟩:=uT.1 ih;have hin:=hi q (by simp);have hs:q.2.sound=true∧p.2.sound=true:=by
      simp only[br.indep,aoU] at hin;exact⟨hin.1.2,hin.2⟩
    obtain⟨r2',r1',g1,g2,g3⟩:=swap hin (fun z hz=>by
      rcases hz with rfl | rfl
      ·exact NG h hs.1
      ·exact NG h hs.2) h1 h3
    refine uT.2 ⟨r2',g1,?_⟩;rw[ape,aos];refine uT.2 ⟨r1',g2,?_⟩;rw[g3];exact h4
end
section
variable {P:Program} {G:au} {N:Nat} {Sin:aR} {w0:Gh} {σ:St} {a:Act} {w:World} {S:aR} {m:Mp} {H:Hint} {ops:Array Oper} {K:St→Prop} {Q:Exit→Act→World→Prop}
theorem Z4 {ms:List Nat} {o:Oper} {j:Nat} (h:(vl ms o).testBit j=true):∃ e∈o.after,Region.binds .any e=true∧(e.on=j∨(ms.getD e.on 0).testBit j=true):=by
  have key:∀ (l:List Edge) (k:Nat),(l.foldl (fun m e=>if Region.binds .any e=true then m ||| (2^e.on) ||| ms.getD e.on 0 else m) k).testBit j=true→k.testBit j=true∨∃ e∈l,Region.binds .any e=true∧(e.on=j∨(ms.getD e.on 0).testBit j=true):=by
    intro l
    induction l with
    | nil=>intro k h; exact .inl h
    | cons e l ih =>
      intro k h;rw[apB] at h;rcases ih _ h with h | ⟨e',h1,h2⟩
      ·split at h
       ·rename_i hb;rw[Nat.testBit_or,Nat.testBit_or,aqv,aqv] at h;rcases h with (h | h) | h
        ·exact .inl h
        ·rw[Nat.testBit_two_pow] at h;exact .inr ⟨e,by simp,hb,.inl (by simpa using h)⟩
        ·exact .inr ⟨e,by simp,hb,.inr h⟩
       ·exact .inl h
      ·exact .inr ⟨e',by simp[h1],h2⟩
  rcases key _ _ h with h | ⟨e,h1,h2⟩
  ·simp at h
  ·exact⟨e,by simpa using h1,h2⟩
theorem aca {ms:List Nat} {cs:List br} (h:I0 ms ops.toList cs=true):∀ i o so,ops[i]?=some o→cs[i]?=some so→ms.getD i 0=vl ms o∧(∀ e∈o.after,Region.binds .any e=true→e.on<i)∧∀ j sj,j<i→cs[j]?=some sj→(ms.getD i 0).testBit j=true∨sj.indep so=true:=by
  intro i o so ho hso;unfold I0 at h;simp only[aoE,apI] at h;have hi:i<ops.toList.length:=by
    have:=(aoI.1 ho).1
    simpa using this
  have h1:=h i hi;rw[apq,ho,hso] at h1;simp only[aoU,beq_iff_eq,aoE,aqv,aqF,decide_eq_true_eq,apI] at h1;obtain⟨⟨h2,h3⟩,h4⟩:=h1;refine⟨h2,fun e he hb=>?_,fun j sj hj hsj=>?_⟩
  ·rcases h3 e (by simpa using he) with h5 | h5
   ·rw[hb] at h5; cases h5
   ·exact h5
  ·have:=h4 j hj;rw[hsj] at this;exact this
theorem Z5 {ms:List Nat} {cs:List br} (hm:∀ i o so,ops[i]?=some o→cs[i]?=some so→ms.getD i 0=vl ms o∧(∀ e∈o.after,Region.binds .any e=true→e.on<i)∧∀ j sj,j<i→cs[j]?=some sj→(ms.getD i 0).testBit j=true∨sj.indep so=true) (hlen:cs.length=ops.size)
    {listed:Array Bool} (hcl:∀ k o,ops[k]?=some o→listed.getD k false=true→∀ e∈o.after,Region.binds .any e=true→listed.getD e.on false=true) :
    ∀ i o,ops[i]?=some o→(∀ e∈o.after,Region.binds .any e=true→listed.getD e.on false=true)→∀ j,(ms.getD i 0).testBit j=true→listed.getD j false=true:=by
  intro i
  induction i using Nat.strongRecOn with
  | _ i ih =>
    intro o ho hd j hj;have hi:=(aoI.1 ho).1;have hso:cs[i]?=some cs[i]:=aon (by omega);obtain⟨h1,h2,_⟩:=hm i o _ ho hso;rw[h1] at hj;obtain⟨e,he,hb,h3⟩:=Z4 hj;rcases h3 with rfl | h3
    ·exact hd e he hb
    ·have hlt:=h2 e he hb;have hoe:ops[e.on]?=some ops[e.on]:=Array.getElem?_eq_getElem (by omega);exact ih e.on hlt _ hoe (hcl _ _ hoe (hd e he hb)) j h3
theorem Zr {l:List (Nat×br)} {p:Nat×br} (hs:l.Pairwise fun x y=>x.1<y.1) (hp:p∈l):∃ l1 l2,l=l1++p::l2∧∀ q∈l1,q.1<p.1:=by
  obtain⟨l1,l2,rfl⟩:=List.append_of_mem hp;refine⟨l1,l2,rfl,fun q hq=>?_⟩;rw[List.pairwise_append] at hs;exact hs.2.2 q hq p (by simp)
theorem Lo {ms:List Nat} {cs:List br} (hlen:cs.length=ops.size) (hm:∀ i o so,ops[i]?=some o→cs[i]?=some so→ms.getD i 0=vl ms o∧(∀ e∈o.after,Region.binds .any e=true→e.on<i)∧∀ j sj,j<i→cs[j]?=some sj→(ms.getD i 0).testBit j=true∨sj.indep so=true)
    (hQ:∀ a w,Nx G N Sin w0 K a w→Q .normal a w):∀ (n:Nat) (l:List (Nat×br)) (listed:Array Bool) {σ:St} {a:Act} {w:World} {S:aR} {m:Mp},l.length=n→vP P H N w0.fx ops l→(∀ p∈l,cs[p.1]?=some p.2)→(l.Pairwise fun x y=>x.1<y.1) →
      listed.size=ops.size→(∀ j,listed.getD j true=false↔∃ so,(j,so)∈l)→(∀ k o,ops[k]?=some o→listed.getD k false=true→∀ e∈o.after,Region.binds .any e=true→listed.getD e.on false=true) →
      Inv G N Sin w0 σ a w S m→bh P G (l.map (·.2)) K σ→wpAny P .any ops Q n listed a w
  | 0,l,listed,σ,a,w,S,m,hn,_,_,_,_,hl,_,h,e=>by
    have:l=[]:=ao3.1 hn;subst this;refine⟨?_,hQ _ _ ⟨_,_,_,e,h⟩⟩;refine List.eq_nil_iff_forall_not_mem.2 fun i hi=>?_
    obtain⟨h1,_⟩:=mem_ready.1 hi;obtain⟨so,hso⟩:=(hl i).1 h1;cases hso
  | n+1,l,listed,σ,a,w,S,m,hn,hc,hcs,hsort,hsz,hl,hcl,h,e=>by
    have tf:∀ j,j<ops.size→¬ (∃ so,(j,so)∈l)→listed.getD j false=true:=by
      intro j hj hne;have h1:¬ listed.getD j true=false:=fun h=>hne ((hl j).1 h)
      rw[apc] at h1 ⊢;have:listed[j]?=some listed[j]:=Array.getElem?_eq_getElem (by omega);rw[this] at h1 ⊢
      simpa using h1
    refine⟨fun hr=>?_,fun i hi=>?_⟩
    ·cases l with
     | nil=>simp at hn
     | cons p rest =>
       exfalso;obtain⟨o,ho,hco,hfx⟩:=hc p (by simp);have hp:p.1∈Region.ready .any ops listed:=by
         refine mem_ready.2 ⟨(hl p.1).2 ⟨p.2,by simp⟩,o,ho,fun ed he hb=>?_⟩;have hlt:=(hm p.1 o p.2 ho (hcs p (by simp))).2.1 ed he hb;have hsize:=(aoI.1 ho).1;refine tf _ (by omega) ?_;rintro⟨so,hso⟩;rw[List.pairwise_cons] at hsort;rcases aoK.1 hso with heq | hin
         ·have:ed.on=p.1:=congrArg Prod.fst heq;omega
         ·have:=hsort.1 _ hin;simp only at this;omega
       rw[hr] at hp;cases hp
    ·obtain⟨hun,o,ho,hedges⟩:=mem_ready.1 hi;obtain⟨so,hso⟩:=(hl i).1 hun;obtain⟨l1,l2,hsplit,hlt⟩:=Zr hsort hso;have hanc:=Z5 hm hlen hcl i o ho hedges;have hind:∀ q∈l1,q.2.indep so=true:=by
       intro q hq;have hqi:=hlt q hq;have hq2:=hcs q (by rw[hsplit]; simp[hq]);rcases (hm i o so ho (hcs _ hso)).2.2 q.1 q.2 hqi hq2 with h1 | h1
       ·have h2:=hanc q.1 h1;have h3:=(hl q.1).2 ⟨q.2,by rw[hsplit]; simp[hq]⟩;rw[apc] at h2 h3;cases hg:listed[q.1]? <;> rw[hg] at h2 h3 <;> simp_all
       ·exact h1
     rw[hsplit] at e;have hc':vP P H N w0.fx ops (l1++(i,so)::l2):=hsplit ▸ hc;have hmv:=Ln (p:=(i,so)) (l2:=l2) (K:=K) l1 hc' hind h e;obtain⟨r,h1,h2⟩:=uT.1 hmv;obtain⟨o',ho',hco,hfx⟩:=hc (i,so) hso;refine wpOp_mono ?_ (EY ho' hco hfx h h1 h2);rintro a1 w1 ⟨σ1,S1,m1,k1,k2⟩;have hsub:∀ p,p∈l1++l2→p∈l:=fun p hp=>by
       rw[hsplit];rcases aoG.1 hp with hp | hp <;> simp[hp]
     have hsort2:(l1++l2).Pairwise fun x y=>x.1<y.1:=by
       rw[hsplit] at hsort;refine hsort.sublist ?_;exact List.Sublist.append (List.Sublist.refl _) (List.sublist_cons_self _ _)
     have hnot:∀ s,(i,s)∉l1++l2:=by
       intro s hs;rw[hsplit,List.pairwise_append,List.pairwise_cons] at hsort;rcases aoG.1 hs with hs | hs
       ·have:=hlt _ hs;simp only at this;omega
       ·have:=hsort.2.1.1 _ hs;simp only at this;omega
     have hisz:i<listed.size:=by rw[hsz]; exact (aoI.1 ho).1
     refine Lo hlen hm hQ n (l1++l2) _ (by rw[hsplit] at hn; simp at hn ⊢; omega) (fun p hp=>hc p (hsub p hp)) (fun p hp=>hcs p (hsub p hp)) hsort2 (by simp[hsz]) (fun j=>?_) (fun k ok hok hk ed he hb=>?_) k2 k1
     ·by_cases hji:j=i
      ·subst hji;constructor
       ·intro hh;rw[apc] at hh;simp[hisz] at hh
       ·rintro⟨s,hs⟩; exact absurd hs (hnot s)
      ·rw[getD_set_ne true (fun h=>hji h.symm),hl j,hsplit];constructor
       ·rintro⟨s,hs⟩;refine⟨s,?_⟩;rcases aoG.1 hs with hs | hs
        ·exact ao8 _ hs
        ·rcases aoK.1 hs with hs | hs
         ·exact absurd (congrArg Prod.fst hs) hji
         ·exact aoM _ hs
       ·rintro⟨s,hs⟩;refine⟨s,?_⟩;rcases aoG.1 hs with hs | hs
        ·exact ao8 _ hs
        ·exact aoM _ (aoQ _ hs)
     ·have up:∀ x,listed.getD x false=true→(listed.setIfInBounds i true).getD x false=true:=by
        intro x hx;by_cases hxi:i=x
        ·subst hxi;rw[apc];simp[hisz]
        ·rw[getD_set_ne false hxi]; exact hx
      by_cases hki:i=k
      ·subst hki;rw[ho] at hok;cases hok;exact up _ (hedges ed he hb)
      ·rw[getD_set_ne false hki] at hk;exact up _ (hcl k ok hok hk ed he hb)
theorem EG {α β:Type}:∀ (l:List α) (k:List β),l.length=k.length→(l.zip k).map (·.1)=l
  | [],_,_=>by simp
  | a::l,[],h=>by simp at h
  | a::l,b::k,h=>by simp only[List.zip_cons_cons,aos,EG l k (by simpa using h)]
theorem EH {α β:Type}:∀ (l:List α) (k:List β),l.length=k.length→(l.zip k).map (·.2)=k
  | [],[],_=>rfl
  | [],_::_,h=>by simp at h
  | a::l,[],h=>by simp at h
  | a::l,b::k,h=>by simp only[List.zip_cons_cons,aos,EH l k (by simpa using h)]
def Fr (r:Option Nat):Fence:={ fn:=fun _=>True,depth:=none,alive:=false,round:=r }
theorem QL {r:Option Nat} {n i:Nat} {K:Act→World→Prop} (hnd:∀ o:Oper,ops[i]?=some o→∀ c,o.op≠.defer c) (hQ:¬ LetsOut Q) (h:wpOp P ops Q i K a w):wpOpIn (Fr r) n P ops Q i K a w:=by
  unfold wpOp at h;unfold wpOpIn;cases ho:ops[i]? with
  | none=>rw[ho] at h; exact h
  | some o =>
    rw[ho] at h;simp only at h ⊢;split
    ·rename_i hw;rw[if_pos hw] at h;have h:=h.resolve_right fun k=>hQ k.2
     refine⟨fun _ _=>trivial,?_⟩;have hs:o.semAt (Fr r).round a.eval=execOp a.eval o:=by
       cases r with
       | none=>rfl
       | some l=>exact Oper.semAt_some l a.eval o (hnd o ho)
     rw[hs];unfold Oper.wp at h;cases hr:(execOp a.eval o).run P w with
     | ok x w' =>
       rw[hr] at h;cases x with
       | value v=>exact h
       | skip=>exact h
       | defer d=>exact h
       | enter f args=>exact⟨fun h=>(by cases h),(callsIn_wide (n:=n-1)).2 h⟩
       | row row args=>exact⟨fun h=>(by cases h),fun c cs _=>let ⟨v,w2,r,s⟩:=h c cs; ⟨v,w2,r,stepsIn_wide.2 s⟩⟩
       | _=>exact h.elim
     | halt x w' =>
       rw[hr] at h;cases x <;> first | exact h | exact h.elim
    ·rename_i hw;rw[if_neg hw] at h;exact⟨fun _ _=>trivial,h⟩
theorem FU {r:Option Nat} {n:Nat} (hnd:∀ (i:Nat) (o:Oper),ops[i]?=some o→∀ c,o.op≠.defer c) (hQ:¬ LetsOut Q):∀ (l:List Nat) {a:Act} {w:World},wpOps P ops Q l a w→wpOpsIn (Fr r) n P ops Q l a w
  | [],_,_,h=>h
  | i::l,a,w,h=>by
    rw[wpOps_cons] at h;rw[wpOpsIn_cons];exact QL (hnd i) hQ (wpOp_mono (fun _ _ h=>FU hnd hQ l h) h)
theorem NH {r:Option Nat} {n:Nat} (hnd:∀ (i:Nat) (o:Oper),ops[i]?=some o→∀ c,o.op≠.defer c) (hQ:¬ LetsOut Q):∀ (k:Nat) {listed:Array Bool} {a:Act} {w:World},wpAny P .any ops Q k listed a w→wpAnyIn (Fr r) n P .any ops Q k listed a w
  | 0,_,_,_,h=>h
  | k+1,listed,a,w,h=>⟨h.1,fun i hi=>QL (hnd i) hQ (wpOp_mono (fun _ _ h=>NH hnd hQ k h) (h.2 i hi))⟩
theorem KO {o:Oper} {so:br} (h:mM P H ops N o=some so):∀ c,o.op≠.defer c:=by
  intro c e;have:=(KZ h).1;simp[x5,e] at this
def Off (K:Act→World→Prop):Exit→Act→World→Prop | .normal,a,w=>K a w | _,_,_=>False
theorem HM {K:Act→World→Prop}:¬ LetsOut (Off K):=fun ⟨_,_,h⟩=>h
theorem ZD {r:Option Nat} {n id:Nat} {draws:Bool} {cs:List br} (hc:EX P H N ops draws=some cs) (hfx:∀ so∈cs,∀ t,so.dst=some t→w0.fx t=none) (h:Inv G N Sin w0 σ a w S m) (e:bh P G cs K σ) (hQ:∀ a w,Nx G N Sin w0 K a w→Q .normal a w):(Code.region id ops draws).wpIn (Fr r) n P Q a w:=by
  refine wpIn_mono (Q:=Off (Nx G N Sin w0 K)) ?_ fun e a w h=>by cases e <;> first | exact hQ _ _ h | exact h.elim
  clear hQ;have hQ:∀ a w,Nx G N Sin w0 K a w→Off (Nx G N Sin w0 K) .normal a w:=fun _ _ h=>h
  unfold EX at hc;split at hc
  ·rename_i cs' hcs;have hall:aD (fun o so=>mM P H ops N o=some so) ops.toList cs':=nI (fun _ _ h=>h) hcs;have hlen:cs'.length=ops.size:=by have:=hall.length; simpa using this.symm
   have hzl:(List.range ops.size).length=cs'.length:=by simp[hlen]
   have hmem:∀ p∈(List.range ops.size).zip cs',p.1<ops.size∧cs'[p.1]?=some p.2:=by
     intro p hp;obtain⟨i,hi,rfl⟩:=ao0 hp;simp only[List.getElem_zip,apN];have h1:i<cs'.length:=by simp at hi; omega
     exact⟨by omega,aon h1⟩
   have hfx':∀ so∈cs',∀ t,so.dst=some t→w0.fx t=none:=by
     split at hc
     ·cases hc; exact hfx
     ·split at hc
      ·cases hc; exact hfx
      ·cases hc
   have hnd:∀ (i:Nat) (o:Oper),ops[i]?=some o→∀ c,o.op≠.defer c:=by
     intro i o ho;obtain⟨so,h1,h2⟩:∃ so,cs'[i]?=some so∧mM P H ops N o=some so:=by
       have h1:i<cs'.length:=by rw[hlen]; exact (aoI.1 ho).1
       obtain⟨o',h2,h3⟩:=hall.get? (aon h1);rw[apq,ho] at h2;cases h2;exact⟨_,aon h1,h3⟩
     exact KO h2
   have hcomp:vP P H N w0.fx ops ((List.range ops.size).zip cs'):=by
     intro p hp;obtain⟨h1,h2⟩:=hmem p hp;obtain⟨o,h3,h4⟩:=hall.get? h2;exact⟨o,by rw[← apq]; exact h3,h4,hfx' p.2 (aps h2)⟩
   have e':cs'=cs→bh P G (((List.range ops.size).zip cs').map (·.2)) K σ:=by
     rintro rfl;rw[EH _ _ hzl]; exact e
   split at hc
   ·rename_i hd;cases hc;subst hd;have:=Fb hQ _ hcomp h (e' rfl);rw[EG _ _ hzl] at this;exact wpIn_region (FU hnd HM _ this)
   ·rename_i hd;have hd':draws=true:=by simpa using hd
    subst hd';split at hc
    ·rename_i hk;cases hc;refine wpIn_region_any hk.1 (NH hnd HM _ ?_);have hm:=aca hk.2;have hzn:((List.range ops.size).zip cs).length=ops.size:=by simp[hlen]
     refine Lo (G:=G) (N:=N) (Sin:=Sin) (w0:=w0) (H:=H) (K:=K) (Q:=Off (Nx G N Sin w0 K)) hlen hm hQ ops.size ((List.range ops.size).zip cs) (Array.replicate ops.size false) hzn hcomp (fun p hp=>(hmem p hp).2) ?_ (by simp) (fun j=>?_) (fun k o ho hk=>?_) (h.drew) (e' rfl)
     ·rw[List.pairwise_iff_getElem];intro i j hi hj hij;simp only[List.getElem_zip,apN];exact hij
     ·constructor
      ·intro hh;have hj:j<ops.size:=by
         rcases aoP j ops.size with hlt | hge
         ·exact hlt
         ·rw[apc,Array.getElem?_eq_none (by simpa using hge)] at hh;simp at hh
       refine⟨cs[j]'(by omega),?_⟩;have h2:j<((List.range ops.size).zip cs).length:=by simp; omega
       have:((List.range ops.size).zip cs)[j]=(j,cs[j]'(by omega)):=by simp
       rw[← this];exact aoS h2
      ·rintro⟨so,hso⟩;have:=(hmem _ hso).1;simp only at this;rw[apc];simp[this]
     ·exfalso;rw[apc] at hk;have:=(aoI.1 ho).1;simp[this] at hk
    ·cases hc
  ·cases hc
theorem Lp {e:MapEntry}:∀ (L:List MapEntry) (j:Nat),(L.map (·.born)).Nodup→L[j]?=some e→L.filter (fun x=>!(x.born==e.born))=L.eraseIdx j
  | [],j,_,h=>by simp at h
  | x::L,0,hn,h=>by
    simp only[apy,aov] at h;subst h;rw[aos,ap2] at hn;rw[List.filter_cons_of_neg (by simp),List.eraseIdx_cons_zero,List.filter_eq_self];intro y hy;have:y.born≠x.born:=fun e=>hn.1 (e ▸ aoN.2 ⟨y,hy,rfl⟩)
    simpa using this
  | x::L,j+1,hn,h=>by
    rw[ao2] at h;rw[aos,ap2] at hn;have:x.born≠e.born:=fun h2=>hn.1 (h2 ▸ aoN.2 ⟨e,aps h,rfl⟩)
    rw[aqs (by simpa using this),List.eraseIdx_cons_succ,Lp L j hn.2 h]
theorem Z6 {E:Array MapEntry} {seen:Array Nat} {e:MapEntry} {j:Nat} (hn:(E.toList.map (·.born)).Nodup) (h:(qk E seen).toList[j]?=some e):(qk E (seen.push e.born)).toList=(qk E seen).toList.eraseIdx j:=by
  unfold qk at *
  simp only[Array.toList_filter] at *
  rw[← Lp _ j (List.Nodup.sublist (List.Sublist.map _ List.filter_sublist) hn) h,List.filter_filter];refine List.filter_congr fun x _=>?_
  rw[contains_push];cases seen.contains x.born <;> cases x.born==e.born <;> rfl
theorem aD.eraseIdx {α β:Type} {R:α→β→Prop}:∀ {l:List α} {m:List β},aD R l m→∀ j,aD R (l.eraseIdx j) (m.eraseIdx j)
  | _,_,.nil,_=>.nil
  | _,_,.cons _ h,0=>h
  | _,_,.cons h k,j+1=>.cons h (k.eraseIdx j)
theorem acb {o:Oper} (it:Operand) (x:SX) (ho:o.op=.next it false) (hx:bf it=some x) (h:Inv G N Sin w0 σ a w S m) {d:Nat} (hdst:o.dst=some d) (hd:d<N∧w0.fx d=none) (hn:BP σ d K (ev G σ.f x)):o.wp P a w (Nx G N Sin w0 K) Q:=by
  have hd':∀ t,o.dst=some t→t<N∧w0.fx t=none:=fun t ht=>by rw[hdst] at ht; cases ht; exact hd
  have hvx:=(h.operand hx).1;unfold BP at hn;split at hn
  ·rename_i id sz he;split at hn
   ·rename_i q left last hob;rw[he] at hvx;obtain⟨b,hm,hval⟩:=hvx;have hobj:=(h.obj id _ hob).1;unfold bT at hobj;rw[hm] at hobj;obtain⟨_,_,_,cur,ty,fz,hblk,_⟩:=hobj;have hval:a.eval it=.pointer (some ⟨b,0,none⟩):=by rw[hval]; simp
    have over:left=[]→(Instr.next (.pointer (some ⟨b,0,none⟩)) false o.type).run P w=.ok (.tuple #[.bool false]) w→o.wp P a w (Nx G N Sin w0 K) Q:=by
      intro e run;refine gq h hd' (v:=.tuple #[.bool false]) ?_ (x:=.tup [.c (.d (.bool false))]) ⟨[_],rfl,.cons (Reads.rw (.bool _)) .nil⟩ (fun i hi=>by simp[V.ids,W.ids,C.ids] at hi) (by rw[hdst]; exact hn.1 e);simp only[execOp,ho];rw[hval];exact dL run
    rcases hblk with ⟨h1,h2,h3⟩ | ⟨bm,c,seen,h1,h2,E,h3,h4,h5,h6⟩
    ·refine over h2 ?_;simp[Instr.next,getObj,Sem.run,h1,Result.andThen]
    ·rcases run_next_at (P:=P) w o.type b bm c c seen E c h1 h3 h4.2 (aoz _) with ⟨hs,run⟩ | ⟨e,hem,w1,hw1,run⟩
     ·refine over ?_ run;have hl:=h5.length;have hs:(qk E seen).size=0:=hs;rw[aqb,hs] at hl;exact ao3.1 hl.symm
     ·obtain⟨j,hj,hje⟩:=ao0 (show e∈(qk E seen).toList from hem);have hj2:j<left.length:=by rw[← h5.length]; exact hj
      have hent:=h5.get j hj hj2;rw[hje] at hent;have heE:e∈E.toList:=(mem_left hem).1;have hI1:Inv G N Sin w0 σ a w1 S m:=by
        rcases hw1 with rfl | rfl
        ·exact h
        ·exact h.drew
      have heap1:w1.heap=w.heap:=by rcases hw1 with rfl | rfl <;> rfl
      have kp:bP S w w1:=uj (fun b i hs=>(h.sin b i hs).1) (fun b _=>by rw[heap1]);have hI:=hI1.writeObj (ob':=.it q (left.eraseIdx j) (some left[j])) (y:=.mapIter (some bm) c (seen.push e.born) c) hob hm (by rw[heap1]; exact h1) rfl (fun _ _ _ e=>by cases e) rfl (fun _ _=>trivial) (fun w' _ _ _ k hb=>by
        have kE:∀ e p,tK S w q e p→tK S w' q e p:=fun e p h=>⟨h.1,(h.2.keep kp).keep k⟩
        refine .inr ⟨bm,c,seen.push e.born,hb,h2,E,k.map _ _ _ _ h2 (by rw[heap1]; exact h3),h4,?_,fun p hp=>?_⟩
        ·rw[Z6 h4.1 (by rw[aon hj,hje])];exact (h5.eraseIdx j).weak fun _ _ _ _ h=>kE _ _ h
        ·cases hp; exact⟨e,heE,seen,rfl,kE _ _ hent⟩) (fun j hj=>by cases hj)
      refine fC hI hd' (v:=.tuple #[.bool true,e.key,e.val]) ?_ (x:=.tup [.c (.d (.bool true)),.c (.d (.int q left[j].1)),.c (.d left[j].2)]) ⟨[_,_,_],rfl,.cons (Reads.rw (.bool _)) (.cons (by rw[hent.1]; exact Reads.rw (.int _ _)) (.cons ?_ .nil))⟩ (fun i hi=>by simp[V.ids,W.ids,C.ids] at hi) (by rw[hdst]; exact hn.2 j left[j] (aon hj2))
      ·simp only[execOp,ho];rw[hval];exact dL run
      ·refine Reads.rw (hent.2.keep (kp.trans ?_));refine⟨fun x i v hs hv=>?_,fun x s hs=>?_,fun x i E c hs hb=>?_⟩
       ·have hx:x≠b:=fun e=>(h.obj id _ hob).1.apart hm i (e ▸ hs)
        unfold World.cell? at *
        simp only[apH (fun e=>hx e.symm)];exact hv
       ·by_cases hx:x=b
        ·subst hx;unfold World.shape? at hs;rw[heap1,h1] at hs;cases hs
        ·unfold World.shape? at *
         simp only[apH (fun e=>hx e.symm)];exact hs
       ·have hx:x≠b:=fun e=>(h.obj id _ hob).1.apart hm i (e ▸ hs)
        simp only[apH (fun e=>hx e.symm)];exact hb
   ·exact hn.elim
  ·exact hn.elim
def FV (P:Program) (H:Hint) (N:Nat) (ops:Array Oper) (draws:Bool):Option bq :=
  match ops.toList with
  | o::rest=>match o.op,o.dst,o.guard with
    | .next it false,some d,none=>match bf it,bB (mM P H ops N) rest with
      | some x,some cs=>if draws=false∧d<N then some (.nextM d x cs) else none
      | _,_=>none
    | _,_,_=>none
  | []=>none
theorem Z7 {r:Option Nat} {n id:Nat} {draws:Bool} {sc:bq} {Q':AX→St→Prop} (hc:FV P H N ops draws=some sc) (hfx:∀ t∈sc.writes,w0.fx t=none) (h:Inv G N Sin w0 σ a w S m) (e:cD P G sc Q' σ) (hQ:∀ a w,Nx G N Sin w0 (Q' .nrm) a w→Q .normal a w):(Code.region id ops draws).wpIn (Fr r) n P Q a w:=by
  refine wpIn_mono (Q:=Off (Nx G N Sin w0 (Q' .nrm))) ?_ fun e a w h=>by cases e <;> first | exact hQ _ _ h | exact h.elim
  clear hQ;unfold FV at hc;split at hc
  ·rename_i o rest hops;split at hc
   ·rename_i it d h1 h2 h3;split at hc
    ·rename_i x cs hx hcs;split at hc
     ·rename_i hd;obtain⟨rfl,hdN⟩:=hd;cases hc;have hall:aD (fun o so=>mM P H ops N o=some so) rest cs:=nI (fun _ _ h=>h) hcs;have hsz:ops.size=rest.length+1:=by rw[← aqb,hops]; rfl
      have hget:∀ i,ops[i+1]?=rest[i]?:=fun i=>by rw[← apq,hops,ao2]
      have h0:ops[0]?=some o:=by rw[← apq,hops]; rfl
      have hcomp:vP P H N w0.fx ops (((List.range rest.length).map Nat.succ).zip cs):=by
        intro p hp;obtain⟨i,hi,rfl⟩:=ao0 hp;have hi1:i<rest.length:=by simp at hi; omega
        have hi2:i<cs.length:=by simp at hi; omega
        simp only[List.getElem_zip,aoT,apN];exact⟨rest[i],by rw[hget,aon hi1],hall.get i hi1 hi2,fun t ht=>hfx t (aoQ _ (List.mem_filterMap.2 ⟨cs[i],aoS hi2,ht⟩))⟩
      have hlen:((List.range rest.length).map Nat.succ).length=cs.length:=by simpa using hall.length
      have hnd:∀ (i:Nat) (o:Oper),ops[i]?=some o→∀ c,o.op≠.defer c:=by
        intro i o' ho;cases i with
        | zero=>rw[h0] at ho; cases ho; intro c e; rw[h1] at e; cases e
        | succ i =>
          rw[hget] at ho;obtain⟨so,hso⟩:∃ so,mM P H ops N o'=some so:=by
            obtain⟨hi,rfl⟩:=aoJ.1 ho;exact⟨_,hall.get i hi (by rw[← hall.length]; exact hi)⟩
          exact KO hso
      refine wpIn_region (FU hnd HM _ ?_);rw[hsz,List.range_succ_eq_map,wpOps_cons];unfold wpOp;simp only[h0];have hw:Region.wanted o (yielded ops a.tmps)=true:=by simp[Region.wanted,h3]
      rw[if_pos hw];refine .inl ?_;have hop:=acb (P:=P) (K:=fun s=>bh P G cs (Q' .nrm) s) (Q:=Off (Nx G N Sin w0 (Q' .nrm))) it x h1 hx h h2 ⟨hdN,hfx d (aoW ..)⟩ e;refine Oper.wp_mono (fun a1 w1 hk=>?_) hop;obtain⟨σ1,S1,m1,k1,k2⟩:=hk;have:=Fb (K:=Q' .nrm) (Q:=Off (Nx G N Sin w0 (Q' .nrm))) (fun _ _ h=>h) _ hcomp k2 (by rw[EH _ _ hlen]; exact k1);rw[EG _ _ hlen] at this;exact this
     ·cases hc
    ·cases hc
   ·cases hc
  ·cases hc
end
section
variable (P:Program) (H:Hint) (N:Nat)
def GI (H:Hint) (id:Nat) (c:bq):bq:=match H.gh.find? fun p=>p.1==id with | some p=>.ghost p.2 c | none=>c
def gG (inr:Bool):Code→Option bq
  | .skip=>some .skip
  | .region id ops draws=>(match EX P H N ops draws with | some l=>some (bq.reg l) | none=>match FV P H N ops draws with | some c=>some c | none=>if H.bad=true then some (bq.reg [⟨none,.lenStr .u,none⟩]) else none).map (GI H id)
  | .seq a b=>match gG inr a,gG inr b with | some x,some y=>some (.seq x y) | _,_=>none
  | .cond c a b=>match bf c,gG inr a,gG inr b with | some c,some x,some y=>some (.cond c x y) | _,_,_=>none
  | .block id c=>(gG inr c).map (.block id)
  | .loop c=>(gG inr c).map .loop
  | .exit id=>some (.exit id)
  | .scope c=>gG inr c
  | .label _=>some .skip
  | .ret=>some .ret
  | .rangeFunc g ps a b=>if inr=false∧ps.all (fun t=>decide (t<N))=true then match bf g,gG true a,gG true b with | some x,some a,some b=>some (.rangeF x ps.toList a b) | _,_,_=>none else none
  | _=>none
def xO:ResultVar→Option (Nat×Option Kd)
  | .tmp t=>some (t,none)
  | .cell t ty=>(gn P ty).map fun kd=>(t,some kd)
def aI (fn:Func):Option aK :=
  match fn.body with
  | some c=>match gG P H fn.ntmps false c,bB (xO P) fn.results.toList with
    | some body,some res=>if fn.params.size+fn.nfree≤fn.ntmps then some ⟨fn.params.size+fn.nfree,fn.ntmps,body,res⟩ else none
    | _,_=>none
  | none=>none
end
section
variable {P:Program} {G:au} {N:Nat} {Sin:aR} {w0:Gh} {σ:St} {a:Act} {w:World} {S:aR} {m:Mp} {H:Hint}
theorem Inv.ent {τ:St} (h:Inv G N Sin w0 σ a w S m) (e:ft σ τ):∃ m',Inv G N Sin w0 τ a w S m':=by
  obtain⟨⟨g,g1,g2,g3⟩,g4,g5⟩:=e;refine⟨fun i=>m (g i),h.size,h.defers,fun t=>?_,g4,fun i o ho=>⟨?_,g5 i o ho⟩,fun i j b s s' h1 h2 h3 h4=>?_,h.sin,h.sub,h.glob,h.below,h.oth,h.kso,h.sso,h.fix⟩
  ·rcases g1 t with e | e
   ·rw[e]; trivial
   ·have:=h.slot t;rw[e] at this;exact this.ren
  ·have hob:=(h.obj (g i) _ (g2 i o ho)).1;unfold bT at hob ⊢
   show match m (g i) with | none=>_ | some (b,sz)=>_
   split at hob
   ·obtain⟨sz,e⟩:=hob;rename_i hm;rw[hm];cases o with
    | row s es=>exact⟨sz,e⟩
    | _=>cases e
   ·rename_i b sz hm;rw[hm];obtain⟨k1,k2,k3,cur,ty,fz,k4,k5,k6⟩:=hob;refine⟨?_,k2,k3,cur,ty,fz,k4.ren,k5,k6.ren⟩;rw[← k1];cases o <;> rfl
  ·refine g3 i j h1 h2 ?_;obtain⟨oi,hi⟩:=aoO.1 h1;obtain⟨oj,hj⟩:=aoO.1 h2;exact h.inj (g i) (g j) b s s' (by rw[g2 i oi hi]; simp) (by rw[g2 j oj hj]; simp) h3 h4
theorem NI {p:Nat→Prop} (h:∃ n,p n):∃ n,p n∧∀ k,p k→n≤k:=by
  obtain⟨n,hn⟩:=h
  induction n using Nat.strongRecOn with
  | _ n ih =>
    by_cases h2:∃ k,k<n∧p k
    ·obtain⟨k,hk,hp⟩:=h2;exact ih k hk hp
    ·refine⟨n,hn,fun k hk=>?_⟩;rcases aoP k n with hlt | hge
     ·exact absurd ⟨k,hlt,hk⟩ h2
     ·exact hge
theorem ZH {F:Fence} {k:Nat} {c:Code} {Q:Exit→Act→World→Prop} (I:Nat→Act→World→Prop) {n:Nat} (h:I n a w) (round:∀ n a w,I n a w→c.wpIn F k P (Exit.then (fun a' w'=>∃ n',n'<n∧I n' a' w') Q) a w):(Code.loop c).wpIn F k P Q a w:=by
  have hμ:∃ μ:Act→World→Nat,∀ a w,(∃ n,I n a w)→I (μ a w) a w∧∀ k,I k a w→μ a w≤k:=by
    have:∀ p:Act×World,∃ k,(∃ n,I n p.1 p.2)→I k p.1 p.2∧∀ j,I j p.1 p.2→k≤j:=by
      intro p;by_cases hp:∃ n,I n p.1 p.2
      ·obtain⟨k,h1,h2⟩:=NI hp;exact⟨k,fun _=>⟨h1,h2⟩⟩
      ·exact⟨0,fun h=>absurd h hp⟩
    obtain⟨f,hf⟩:=Classical.axiomOfChoice this;exact⟨fun a w=>f (a,w),fun a w=>hf (a,w)⟩
  obtain⟨μ,hμ⟩:=hμ;refine wpIn_loop (fun a w=>∃ n,I n a w) μ ⟨n,h⟩ fun a w hI=>?_
  refine wpIn_mono (round _ a w (hμ a w hI).1) fun e a' w' he=>?_
  cases e with
  | normal =>
    obtain⟨n',h1,h2⟩:=he;exact⟨⟨n',h2⟩,ap4 ((hμ a' w' ⟨n',h2⟩).2 n' h2) h1⟩
  | _=>exact he
def AX.toExit:AX→Exit
  | .nrm=>.normal
  | .ex id=>.exit id
  | .ret=>.ret
def AX.toCode:AX→Code
  | .nrm=>.skip
  | .ex id=>.exit id
  | .ret=>.ret
def DD (G:au) (N:Nat) (Sin:aR) (w0:Gh) (Q':AX→St→Prop) (Q:Exit→Act→World→Prop):Prop:=∀ e σ a w S m,Q' e σ→Inv G N Sin w0 σ a w S m→Q e.toExit a w
structure fS (l:Nat) (W W':World):Prop where
  size:W.heap.size≤W'.heap.size
  same:∀ (k:Nat) (o:Obj),k≠l→W.heap[k]?=some o→wm o=false→W'.heap[k]?=some o
theorem fS.of {l:Nat} {A B:World} (h:eV A B):fS l A B:=⟨h.size,fun k o _ hk ho=>h.same k o hk ho⟩
theorem fS.trans {l:Nat} {A B C:World} (h:fS l A B) (k:fS l B C):fS l A C :=
  ⟨apg h.size k.size,fun i o hl hi ho=>k.same i o hl (h.same i o hl hi ho) ho⟩
theorem fS.put (W:World) (l:Nat) (o:Obj):fS l W (W.putObj l o) :=
  ⟨(grownBy_putObj' W l o).size,fun k _ hl hk _=>(World.putObj_heap_other hl).trans hk⟩
theorem fS.old {l:Nat} {A B C:World} (h:eV A B) (k:fS l B C) (hl:A.heap.size≤l):eV A C :=
  ⟨apg h.size k.size,fun i o hi ho=>k.same i o (fun e=>by have:=(aoI.1 hi).1; omega) (h.same i o hi ho) ho⟩
theorem lO.but {B l:Nat} {w w':World} (k:fS l w w') (hl:∀ ds,w.heap[l]?≠some (.deferred ds)):∀ {ds:List Deferred},lO B w ds→lO B w' ds
  | [],_=>trivial
  | _::_,⟨⟨D,h1,h2,h3,h4⟩,h5⟩=>⟨⟨D,h1,h2,k.same _ _ (fun e=>hl _ (e ▸ h3)) h3 rfl,h4⟩,h5.but k hl⟩
def kf (w w':World):Prop:=∀ (b:Nat) o,w.heap[b]?=some o→wm o=true→w'.heap[b]?=some o
theorem kf.keeps {w w':World} (h:kf w w') (S:aR):bP S w w':=by
  refine⟨fun b i v _ hv=>?_,fun b s hs=>?_,fun b i E c _ hb=>h b _ hb rfl⟩
  ·unfold World.cell? at hv ⊢;cases hb:w.heap[b]? with
   | none=>simp[hb] at hv
   | some o =>
     cases o with
     | cells cur ty fz=>rw[h b _ hb rfl]; rw[hb] at hv; exact hv
     | _=>simp[hb] at hv
  ·unfold World.shape? at hs ⊢;cases hb:w.heap[b]? with
   | none=>simp[hb] at hs
   | some o =>
     cases o with
     | cells cur ty fz=>rw[h b _ hb rfl]; rw[hb] at hs; exact hs
     | _=>simp[hb] at hs
theorem kf.put {w:World} {l:Nat} {o o':Obj} (hl:w.heap[l]?=some o) (ho:wm o=false):kf w (w.putObj l o'):=fun b x hb hx=>by
  refine (World.putObj_heap_other fun e=>?_).trans hb;subst e; rw[hl] at hb; cases hb; rw[ho] at hx; cases hx
theorem xy {B:Nat} {w:World} {l:Nat} {o:Obj} (o':Obj) (hl:B≤l) (h:w.heap[l]?=some o):Below B w (w.putObj l o') :=
  (Below.refl B w).grown (grownBy_putObj' w l o') (by have:=(aoI.1 h).1; omega) (fun k e=>by cases e; omega)
theorem Inv.turn (h:Inv G N Sin w0 σ a w S m) {w':World} (hc:kf w w') (hsz:w.heap.size≤w'.heap.size) {w1:Gh} (e1:w1.toWorld=w0.toWorld) (below:dw w0.heap.size w0.ext w0 w') {a':Act} (hts:a'.tmps.size=a.tmps.size)
    (ht:∀ t,σ.f t=.undef∨a'.tmps.getD t undef=a.tmps.getD t undef) (hdef:lO w0.heap.size w' a'.defers) (oth:eV w1.wo w') (kso:bP w1.so w1.wo w') (sso:∀ b i,w1.so b i→S b i) (fix:∀ t v,w1.fx t=some v→a'.tmps.getD t undef=v) (e2:w1.ext=w0.ext:=by rfl) :
    Inv G N Sin w1 σ a' w' S m:=by
  have k:=hc.keeps S;have hmay:w1.may=w0.may:=by unfold Gh.may; rw[e1,e2]
  refine⟨hts.trans h.size,by rw[e1]; exact hdef,fun t=>?_,h.used,fun id o ho=>?_,h.inj,fun b i hs=>?_,h.sub,h.glob.step k (fun _ _ h=>h),by rw[e1,e2]; exact below,oth,kso,sso,fix⟩
  ·rcases ht t with e | e
   ·rw[e]; trivial
   ·rw[e]; exact (h.slot t).keep k
  ·refine⟨?_,(h.obj id o ho).2⟩;rw[hmay];refine (h.obj id o ho).1.step k (fun _ _ h=>h) (fun _ _=>rfl) rfl fun b s hm=>⟨?_,(h.obj id o ho).1.apart hm⟩
   have:=(h.obj id o ho).1;unfold bT at this;rw[hm] at this;obtain⟨_,_,_,cur,ty,fz,h4,_⟩:=this;obtain⟨x,h5,h6⟩:∃ x,w.heap[b]?=some x∧wm x=true:=by
     cases o with
     | row s es=>exact⟨_,h4,rfl⟩
     | box cs=>exact⟨_,h4,rfl⟩
     | mp q es=>obtain⟨E,c,h5,_⟩:=h4; exact⟨_,h5,rfl⟩
     | it q l p=>rcases h4 with ⟨h5,_⟩ | ⟨_,_,_,h5,_⟩ <;> exact⟨_,h5,rfl⟩
   rw[hc b x h5 h6,h5]
  ·rw[hmay];exact⟨Nat.lt_of_lt_of_le (h.sin b i hs).1 hsz,(h.sin b i hs).2⟩
theorem Inv.puts:∀ {ps:List Nat} {us:List Value} {r:List D} {σ:St} {a:Act},Inv G N Sin w0 σ a w S m→aD (fun v x=>RW (fun _=>none) S w v (.c (.d x))) us r→(∀ t∈ps,t<N∧w0.fx t=none)→r.length=ps.length →
    Inv G N Sin w0 ⟨vK σ.f ps r,σ.h,σ.u⟩ { a with tmps:=(ps.zip us).foldl (fun t p=>t.setIfInBounds p.1 p.2) a.tmps } w S m
  | [],us,r,σ,a,h,hr,_,hl=>by
    have:r=[]:=ao3.1 hl;subst this;exact h
  | p::ps,us,r,σ,a,h,hr,hp,hl=>by
    cases hr with
    | nil=>cases hl
    | cons h1 h2 =>
      have:=h.put (some p) (fun t e=>by cases e; exact hp p (by simp)) (RV.mono (S:=S) (fun _ _ h=>h) (x:=vd _) (RW.congr h1 (fun i hi=>by cases hi))) (fun i hi=>by cases hi);exact this.puts h2 (fun t ht=>hp t (by simp[ht])) (by simpa using hl)
theorem ZI {g:Operand} {ps:Array Tmp} {asg body:Code} {x:SX} {sa sb:bq} (hx:bf g=some x) (hps:∀ t∈ps.toList,t<N)
    (ha:∀ {w1:Gh} {r:Option Nat} {n:Nat} {Q':AX→St→Prop} {Q:Exit→Act→World→Prop} {σ:St} {a:Act} {w:World} {S:aR} {m:Mp},(∀ t∈sa.writes,w1.fx t=none)→DD G N Sin w1 Q' Q→Inv G N Sin w1 σ a w S m→cD P G sa Q' σ→asg.wpIn (Fr r) n P Q a w)
    (hb:∀ {w1:Gh} {r:Option Nat} {n:Nat} {Q':AX→St→Prop} {Q:Exit→Act→World→Prop} {σ:St} {a:Act} {w:World} {S:aR} {m:Mp},(∀ t∈sb.writes,w1.fx t=none)→DD G N Sin w1 Q' Q→Inv G N Sin w1 σ a w S m→cD P G sb Q' σ→body.wpIn (Fr r) n P Q a w)
    {n:Nat} {Q':AX→St→Prop} {Q:Exit→Act→World→Prop} (hp:DD G N Sin w0 Q' Q) (h:Inv G N Sin w0 σ a w S m) (e:cD P G (.rangeF x ps.toList sa sb) Q' σ):(Code.rangeFunc g ps asg body).wpIn (Fr none) n P Q a w:=by
  obtain⟨gf,caps,xs,f0,h0,u0,I,hev,hseq,hlen,hent,hun,hI0,hround,hdone⟩:=e;have hop:RV m S w (a.eval g) (ev G σ.f x):=(h.operand hx).1;rw[hev] at hop;obtain⟨lb,hg,hlb⟩:=ZC (show Reads S w (a.eval g) (.fn gf caps) from hop);obtain⟨m0,hinv0⟩:=h.ent hent;refine wpIn_rangeFunc fun fn hfn=>?_
  obtain⟨rec,hrec⟩:∃ rec:LoopState→Option Code→Loop,rec=fun st pe=>{ state:=st,pending:=pe,fn,tmps:=a.tmps,params:=ps,assign:=asg,body,defers:=w.heap.size }:=⟨_,rfl⟩
  obtain⟨W1,hW1⟩:∃ W1,(w.alloc (.deferred (some []))).alloc (.loop (rec .ready none))=W1:=⟨_,rfl⟩
  obtain⟨a2,ha2⟩:∃ a2:Act,{ a with defers:={ target:=.collected w.heap.size,args:=#[] }::a.defers }=a2:=⟨_,rfl⟩
  have hL1:W1.heap[w.heap.size+1]?=some (.loop (rec .ready none)):=by
    rw[← hW1]; have:=World.alloc_heap_new (w.alloc (.deferred (some []))) (.loop (rec .ready none)); rwa [World.size_alloc] at this
  have hK1:W1.heap[w.heap.size]?=some (.deferred (some [])):=by
    rw[← hW1]; exact (Below.heap_alloc _ _ _ (by simp)).trans (World.alloc_heap_new w _)
  have hold:∀ b,b<w.heap.size→W1.heap[b]?=w.heap[b]?:=fun b hlt=>by
    rw[← hW1]; exact (Below.heap_alloc _ _ _ (by simp; omega)).trans (Below.heap_alloc w _ b hlt)
  have hs1:W1.heap.size=w.heap.size+2:=by rw[← hW1]; simp
  have hko1:eV w W1:=KT hold (by omega);have hw0:w0.heap.size≤w.heap.size:=h.bsize;have hbel1:dw w0.heap.size w0.ext w0 W1:=by
    rw[← hW1]; exact (h.below.step (aoz _) ((Below.refl _ _).alloc (aoz _) _)).step (aoz _) ((Below.refl _ _).alloc (aoz _) _)
  have hsame1:kf w W1:=fun b x hb _=>(hold b (aoI.1 hb).1).trans hb
  have hinv1:Inv G N Sin w0 ⟨f0,h0,u0⟩ a2 W1 S m0:=by
    subst ha2;refine hinv0.turn hsame1 (by omega) rfl hbel1 rfl (fun t=>.inr rfl) ⟨⟨w.heap.size,rfl,hw0,hK1,fun d' hd' e=>?_⟩,h.defers.keep hko1⟩ (h.oth.trans hko1) ?_ h.sso h.fix
    ·have key:∀ {ds:List Deferred},lO w0.heap.size w ds→d'∈ds→d'.target≠.collected w.heap.size:=by
       intro ds
       induction ds with
       | nil=>intro _ h; cases h
       | cons d ds ih =>
         rintro⟨⟨D,h1,h2,h3,h4⟩,h5⟩ hm e;rcases aoK.1 hm with rfl | hm
         ·rw[h1] at e;simp only[Target.collected.injEq] at e;have:=(aoI.1 h3).1;omega
         ·exact ih h5 hm e
     exact key h.defers hd' e
    ·exact h.kso.trans (hsame1.keeps _)
  have hat:a2.tmps=a.tmps:=by subst ha2; rfl
  refine⟨w.heap.size+1,[{ target:=.collected w.heap.size,args:=#[] }],W1,{ target:=.fn (.func gf) lb.toArray,args:=#[.func (.yield (w.heap.size+1)) #[] #[]] },W1,gf,
    #[.func (.yield (w.heap.size+1)) #[] #[]]++lb.toArray,W1,?_,?_,fun _ _=>trivial,?_,fun h=>(by cases h),?_⟩
  ·rw[← hW1,hrec]; exact run_enterLoop_outer _ _ _ _ _
  ·simp only[resolve,hg];simp[go_sem]
  ·simp[invoke,go_sem,hseq.1]
  ·
   obtain⟨J,hJ⟩:∃ J:LoopState→Option Code→(aL→(Nat→Bool)→Prop)→World→Prop,J=fun st pe R W =>
     ∃ h u S' m',R h u∧Inv G N Sin w0 ⟨f0,h,u⟩ a2 W S' m'∧W.heap[w.heap.size+1]?=some (.loop (rec st pe))∧(∀ b i,S b i→S' b i)∧bP S W1 W∧W1.heap.size≤W.heap.size:=⟨_,rfl⟩
   have Jgrow:∀ st pe R W W',J st pe R W→Below W.heap.size W W'→J st pe R W':=by
     intro st pe R W W' hj hbl;rw[hJ] at hj ⊢;obtain⟨h',u',S',m',k1,k2,k3,k4,k5,k6⟩:=hj;have hb:∀ b,b<W.heap.size→W'.heap[b]?=W.heap[b]?:=fun b hlt=>hbl.block b hlt
     refine⟨h',u',S',m',k1,k2.grow hb (k2.below.step (aoz _) hbl) hbl.size,(hb _ (aoI.1 k3).1).trans k3,k4,k5.trans (uj (fun b i hs=>(k2.sin b i (k4 b i hs)).1) hb),apg k6 hbl.size⟩
   have key:=hseq.2 (n-1) W1 S lb (fun b i hs=>by have:=(h.sin b i hs).1; omega) (h.glob.step (hsame1.keeps S) (fun _ _ h=>h)) ?_ (w.heap.size+1) (fun k=>J .ready none (I k)) (fun W=>∃ c:AX,J .done (some c.toCode) (fun h u=>Q' c ⟨f0,h,u⟩∧c≠.nrm) W) ?_ (fun k W W'=>Jgrow _ _ _ W W') (fun W W'=>?_) ?_ ?_
   ·refine CallsIn.mono key ?_;rintro e W2 ⟨⟨v,rfl⟩,hj | ⟨c,hj⟩⟩
    ·rw[hJ] at hj;obtain⟨h',u',S',m',k1,k2,k3,k4,k5,k6⟩:=hj;refine⟨none,_,by have:=run_endLoop (P:=P) k3 (by rw[hrec]; simp); rw[hrec] at this; exact this,?_⟩
     show Q .normal { a with defers:=[{ target:=.collected w.heap.size,args:=#[] }]++a.defers } _
     rw[List.singleton_append,ha2]
     refine hp .nrm _ _ _ S' m' (hdone h' u' k1) (k2.turn (kf.put k3 rfl) (grownBy_putObj' _ _ _).size rfl (k2.below.trans (dw.of (xy _ (by omega) k3))) rfl (fun t=>.inr rfl) (k2.defers.but (fS.put _ _ _) fun ds e=>by rw[k3] at e; cases e)
       ((fS.old k2.oth (fS.put _ _ _) (by have:=h.oth.size; omega))) (k2.kso.trans ((kf.put k3 rfl).keeps _)) k2.sso k2.fix)
    ·rw[hJ] at hj;obtain⟨h',u',S',m',⟨k1,kc⟩,k2,k3,k4,k5,k6⟩:=hj;refine⟨some c.toCode,_,by have:=run_endLoop (P:=P) k3 (by rw[hrec]; simp); rw[hrec] at this; exact this,?_⟩
     show c.toCode.wpIn (Fr none) n P Q { a with defers:=[{ target:=.collected w.heap.size,args:=#[] }]++a.defers } _
     rw[List.singleton_append,ha2]
     have hq:=hp c _ _ _ S' m' k1 (k2.turn (kf.put (o':=.loop { rec .done (some c.toCode) with state:=.exhausted }) k3 rfl) (grownBy_putObj' _ _ _).size rfl (k2.below.trans (dw.of (xy _ (by omega) k3))) rfl (fun t=>.inr rfl) (k2.defers.but (fS.put _ _ _) fun ds e=>by rw[k3] at e; cases e)
       ((fS.old k2.oth (fS.put _ _ _) (by have:=h.oth.size; omega))) (k2.kso.trans ((kf.put k3 rfl).keeps _)) k2.sso k2.fix)
     rw[hrec] at hq;cases c with
     | nrm=>exact absurd rfl kc
     | ex id=>exact wpIn_exit hq
     | ret=>exact wpIn_ret hq
   ·refine hlb.weak fun v d _ _ hr=>?_
    exact Reads.rw (hr.keep (hsame1.keeps S))
   ·intro k W hj;rw[hJ] at hj;obtain⟨h',u',S',m',k1,k2,k3,k4,k5,k6⟩:=hj;exact⟨k5,k6⟩
   ·rintro⟨c,hj⟩ hbl;exact⟨c,Jgrow _ _ _ W W' hj hbl⟩
   ·
    intro k r W us hr hj hus;rw[hJ] at hj;obtain⟨h',u',S',m',k1,k2,k3,k4,k5,k6⟩:=hj;have hrl:r.length=ps.toList.length:=hlen r (aps hr);have hul:us.length=ps.toList.length:=hus.length.trans hrl;have hy:=run_yield (P:=P) (args:=us.toArray) k3 (by rw[hrec]; simpa using hul);rw[hrec] at hy;obtain⟨wr,hwr⟩:∃ wr,wr=ps.toList++sa.writes++sb.writes:=⟨_,rfl⟩
    let fx:Nat→Option Value:=fun t=>if t∈wr then none else some (a.tmps.getD t undef)
    have hfx:∀ t∈wr,fx t=none:=fun t ht=>if_pos ht
    let wA:Gh:={ w0 with wo:=W,so:=S',fx:=fx }
    have hfold:(ps.zip us.toArray).foldl (fun tmps (x:Tmp×Value)=>tmps.setIfInBounds x.1 x.2) a.tmps=(ps.toList.zip us).foldl (fun t p=>t.setIfInBounds p.1 p.2) a.tmps:=by
      rw[← Array.foldl_toList]; simp
    have hinvA:Inv G N Sin wA ⟨vK f0 ps.toList r,h',u'⟩ { tmps:=(ps.zip us.toArray).foldl (fun tmps (x:Tmp×Value)=>tmps.setIfInBounds x.1 x.2) a.tmps,defers:=[] } W S' m':=by
      rw[hfold];have:=k2.turn (w1:=wA) (a':={ tmps:=a.tmps,defers:=[] }) (w':=W) (fun _ _ h _=>h) (aoz _) rfl k2.below (by rw[hat]) (fun t=>.inr (by rw[hat])) trivial (eV.refl W) (bP.refl _ _) (fun _ _ h=>h) (fun t v ht=>by
        have ht':fx t=some v:=ht;simp only[fx] at ht';split at ht'
        ·cases ht'
        ·cases ht'; rfl)
      refine this.puts (hus.weak fun v d _ _ hv=>RW.mono k4 hv) (fun t ht=>⟨hps t ht,hfx t ?_⟩) hrl;rw[hwr]; simp[ht]
    refine⟨fn,_,asg,body,hy,roundIn_of_wpIn trivial ?_⟩;refine ha (w1:=wA) (r:=some (w.heap.size+1)) (fun t ht=>hfx t (by rw[hwr]; simp[ht])) ?_ hinvA (hround k r h' u' hr k1);rintro e1 σ1 a1 V1 S1 m1 q1 hinv1';cases e1 with
    | ex id=>exact q1.elim
    | ret=>exact q1.elim
    | nrm =>
      have hl1:V1.heap[w.heap.size+1]?=some (.loop (rec .ready none)):=hinv1'.oth.same _ _ k3 rfl;refine⟨_,run_beginRound hl1 (by rw[hrec]),?_⟩;obtain⟨V2,hV2⟩:∃ V2,V1.putObj (w.heap.size+1) (.loop { rec .ready none with state:=.busy })=V2:=⟨_,rfl⟩
      rw[hV2];have hl2:V2.heap[w.heap.size+1]?=some (.loop { rec .ready none with state:=.busy }):=by rw[← hV2]; exact World.putObj_heap_same (aoI.1 hl1).1
      have hsc2:kf V1 V2:=by rw[← hV2]; exact kf.put hl1 rfl
      have hkb2:fS (w.heap.size+1) V1 V2:=by rw[← hV2]; exact fS.put _ _ _
      let wB:Gh:={ w0 with wo:=V2,so:=S1,fx:=fx }
      have hbelB:dw w0.heap.size w0.ext w0 V2:=by
        rw[← hV2]; exact dw.trans (show dw w0.heap.size w0.ext w0 V1 from hinv1'.below) (dw.of (xy _ (by omega) hl1))
      have hinvB:Inv G N Sin wB σ1 a1 V2 S1 m1:=by
        exact hinv1'.turn (w1:=wB) hsc2 hkb2.size rfl hbelB rfl (fun t=>.inr rfl) (hinv1'.defers.but hkb2 fun ds e=>by rw[hl1] at e; cases e) (eV.refl V2) (bP.refl _ _) (fun _ _ h=>h) hinv1'.fix
      refine hb (w1:=wB) (r:=some (w.heap.size+1)) (fun t ht=>hfx t (by rw[hwr]; simp[ht])) ?_ hinvB q1;rintro e2 σ2 a3 V3 S3 m3 q2 hinv3;have hl3:V3.heap[w.heap.size+1]?=some (.loop { rec .ready none with state:=.busy }):=hinv3.oth.same _ _ hl2 rfl;have fC:∀ (st:LoopState) (pe:Option Code) (R:aL→(Nat→Bool)→Prop) (h2:aL) (u2:Nat→Bool),R h2 u2→ft σ2 ⟨f0,h2,u2⟩→J st pe R (V3.putObj (w.heap.size+1) (.loop (rec st pe))):=by
        intro st pe R h2 u2 hR hent2;obtain⟨m4,hinv4⟩:=hinv3.ent hent2;have hsc4:kf V3 (V3.putObj (w.heap.size+1) (.loop (rec st pe))):=kf.put hl3 rfl;have hkb:fS (w.heap.size+1) W (V3.putObj (w.heap.size+1) (.loop (rec st pe))) :=
          ((fS.of hinv1'.oth).trans hkb2).trans ((fS.of hinv3.oth).trans (fS.put _ _ _))
        have hkp:bP S' W (V3.putObj (w.heap.size+1) (.loop (rec st pe))):=by
          have c1:bP S' W V1:=hinv1'.kso;have c2:bP S' V1 V2:=hsc2.keeps _;have c3:bP S1 V2 V3:=hinv3.kso;have c4:bP S' V3 _:=hsc4.keeps _;exact ((c1.trans c2).trans (c3.sub hinv1'.sso)).trans c4
        rw[hJ];refine⟨h2,u2,S3,m4,hR,?_,World.putObj_heap_same (aoI.1 hl3).1,fun b i hs=>hinv3.sso b i (hinv1'.sso b i (k4 b i hs)),k5.trans (hkp.sub k4),apg k6 hkb.size⟩;have hbel4:dw w0.heap.size w0.ext w0 (V3.putObj (w.heap.size+1) (.loop (rec st pe))):=dw.trans (show dw w0.heap.size w0.ext w0 V3 from hinv3.below) (dw.of (xy _ (by omega) hl3))
        refine hinv4.turn (w1:=w0) hsc4 (grownBy_putObj' _ _ _).size rfl hbel4 (by rw[hat,h.size]; exact hinv3.size.symm) (fun t=>?_) (k2.defers.but hkb fun ds e=>by rw[k3] at e; cases e) (fS.old k2.oth hkb (by have:=h.oth.size; omega))
          (k2.kso.trans (hkp.sub k2.sso)) (fun b i hs=>hinv3.sso b i (hinv1'.sso b i (k2.sso b i hs))) (fun t v ht=>?_)
        ·by_cases hm:t∈wr
         ·left; exact hun t (by rw[← hwr]; exact hm)
         ·right;rw[hat];exact (hinv3.fix t (a.tmps.getD t undef) (if_neg hm)).symm
        ·rw[hat]; exact h.fix t v ht
      have hend:=fun (jump:Option Code)=>run_endRound (P:=P) jump hl3
      cases e2 with
      | nrm =>
        obtain⟨h2,u2,hent2,hI2⟩:=q2;refine⟨_,_,hend none,.inl ⟨rfl,?_⟩⟩;have:=fC .ready none (I (k+1)) h2 u2 hI2 hent2;rw[hrec] at this ⊢;exact this
      | ex id =>
        obtain⟨h2,u2,hent2,hI2⟩:=q2;refine⟨_,_,hend (some (.exit id)),.inr ⟨rfl,.ex id,?_⟩⟩;have:=fC .done (some (.exit id)) (fun h u=>Q' (.ex id) ⟨f0,h,u⟩∧AX.ex id≠.nrm) h2 u2 ⟨hI2,by simp⟩ hent2;rw[hrec] at this ⊢;exact this
      | ret =>
        obtain⟨h2,u2,hent2,hI2⟩:=q2;refine⟨_,_,hend (some .ret),.inr ⟨rfl,.ret,?_⟩⟩;have:=fC .done (some .ret) (fun h u=>Q' .ret ⟨f0,h,u⟩∧AX.ret≠.nrm) h2 u2 ⟨hI2,by simp⟩ hent2;rw[hrec] at this ⊢;exact this
   ·rw[hJ];exact⟨h0,u0,S,m0,hI0,hinv1,hL1,fun _ _ h=>h,bP.refl _ _,aoz _⟩
theorem EC {h:aL} {id:Nat} {o:Ob} (ho:h id=some o):∀ l:List C,killAll h l id=none→∃ sz off n,C.own id sz off n∈l
  | [],hh=>by simp only[killAll] at hh; rw[ho] at hh; cases hh
  | c::l,hh=>by
    cases c <;> simp only[killAll] at hh
    case own id2 sz2 off2 n2 =>
      by_cases e:id=id2
      ·subst e; exact⟨sz2,off2,n2,aoW ..⟩
      ·simp only[upd,e,if_false] at hh;obtain⟨x,y,z,hz⟩:=EC ho l hh;exact⟨x,y,z,aoQ _ hz⟩
    all_goals (obtain⟨x,y,z,hz⟩:=EC ho l hh; exact⟨x,y,z,aoQ _ hz⟩)
theorem NJ (h:Inv G N Sin w0 σ a w S m) {T:aR} (hT:∀ b i,S b i→T b i) {q:IntKind}:∀ {E:List MapEntry} {es:List (Int×C)} {ds:List (Int×D)},aD (fun (e:MapEntry) (p:Int×C)=>e.key=.int q p.1∧RW m S w e.val (.c p.2)) E es→qn σ.h es=some ds →
    (∀ p∈es,∀ id∈p.2.ids,∀ o b s i,(∃ sz off n,p.2=.own id sz off n)→σ.h id=some o→m id=some (b,s)→T b i)→aD (tK T w q) E ds
  | _,_,_,.nil,e,_=>by simp only[qn,aov] at e; subst e; exact .nil
  | _,(k,c)::_,_,.cons h1 h2,e,hid=>by
    simp only[qn] at e;split at e
    ·rename_i d l hd hl;split at e
     ·rename_i hone;cases e;refine .cons ⟨h1.1,?_⟩ (NJ h hT h2 hl fun p hp=>hid p (aoQ _ hp));have h3:=h1.2;have hrc:∀ v,RW m S w v (.c c)→RC m S w v c:=by
        intro v h3;cases c with
        | d x =>
          cases x with
          | agg cs=>simp only[fO,aov] at hd; subst hd; cases hone
          | _=>exact h3
        | _=>exact h3
      exact HL h hT (fun id hi o b s i ho hm=>hid (k,c) (aoW ..) id hi o b s i (AV hd id hi) ho hm) (hrc _ h3) hd
     ·cases e
    ·cases e
theorem aep (h:Inv G N Sin w0 σ a w S m) {t:Nat} {τ:St} (e:rW σ t=some τ):∃ S',Inv G N Sin w0 τ a w S' m:=by
  unfold rW at e;split at e
  ·rename_i id hft;split at e
   ·rename_i q es hob;simp only[aoo] at e;obtain⟨ds,hds,rfl⟩:=e;obtain⟨S1,h1,h2,h3⟩:=h.killAll (es.map (·.2));have hown:∀ p∈es,∀ id∈p.2.ids,∀ o b s i,(∃ sz off n,p.2=.own id sz off n)→σ.h id=some o→m id=some (b,s)→S1 b i:=by
      rintro p hp id' hid o b s i ⟨sz,off,n,e⟩ ho hm;have hmem:C.own id' sz off n∈es.map (·.2):=aoN.2 ⟨p,hp,e⟩;exact h3 id' (aoD.2 ⟨_,hmem,by simp[C.ids]⟩) o b s i ⟨sz,off,n,hmem⟩ ho hm
    obtain⟨S2,hI,hS,hb2⟩:∃ S2,Inv G N Sin w0 ⟨σ.f,upd (Go.Proofs.YtofonnokanoflaaGreatDoor.killAll σ.h (es.map (·.2))) id none,σ.u⟩ a w S2 m∧(∀ b i,S1 b i→S2 b i)∧∀ b s,m id=some (b,s)→S2 b 0:=by
      cases hl:Go.Proofs.YtofonnokanoflaaGreatDoor.killAll σ.h (es.map (·.2)) id with
      | none =>
        obtain⟨sz,off,n,hmem⟩:=EC hob _ hl;exact⟨S1,h1.kill id,fun _ _ h=>h,fun b s hm=>h3 id (aoD.2 ⟨_,hmem,by simp[C.ids]⟩) _ b s 0 ⟨sz,off,n,hmem⟩ hob hm⟩
      | some o1=>exact⟨_,h1.freeze id o1 hl,fun _ _ h=>.inl h,fun b s hm=>.inr ⟨s,hm⟩⟩
    have hsl:=h.slot t;rw[hft] at hsl;obtain⟨b,hm,hval⟩:=hsl;have hobj:=(h.obj id _ hob).1;unfold bT at hobj;rw[hm] at hobj;obtain⟨_,_,_,cur,ty,fz,⟨E,c,hb,hE,hB⟩,_⟩:=hobj;have hread:Reads S2 w (a.tmps.getD t undef) (.mp q ds):=by
      rw[hval];exact Reads.of_map (hb2 b 1 hm) hb hB (NJ h (fun b i hs=>hS _ _ (h2 _ _ hs)) hE hds fun p hp id hid o b s i h4 h5 h6=>hS _ _ (hown p hp id hid o b s i h4 h5 h6))
    refine⟨S2,hI.size,hI.defers,fun t'=>?_,fun t' i hi=>?_,hI.obj,hI.inj,hI.sin,hI.sub,hI.glob,hI.below,hI.oth,hI.kso,hI.sso,hI.fix⟩
    ·show RV m S2 w _ (upd σ.f t (vd (.mp q ds)) t')
     by_cases e:t'=t
     ·subst e;rw[upd_same];exact hread
     ·rw[upd_ne _ _ e];exact hI.slot t'
    ·have hi:i∈(upd σ.f t (vd (.mp q ds)) t').ids:=hi;by_cases e:t'=t
     ·subst e;rw[upd_same] at hi;cases hi
     ·rw[upd_ne _ _ e] at hi;exact hI.used t' i hi
   ·cases e
  ·rename_i id sz hft;split at e
   ·rename_i cs hob;simp only[aoo] at e;obtain⟨ds,hds,rfl⟩:=e;have hI:=h.freeze id _ hob;have hsl:=h.slot t;rw[hft] at hsl;have href:oa σ.h id 0 0=some (.ref ds):=by
      unfold oa;rw[hob];simp[hds]
    have hread:=GA h (T:=fun b i=>S b i∨∃ s,m id=some (b,s)) (fun _ _ hs=>.inl hs) (fun _ b s _ _ hm=>.inr ⟨s,hm⟩) hsl href;obtain⟨a',hv,hc⟩:=hread.cellsAt;refine⟨_,hI.size,hI.defers,fun t'=>?_,fun t' i hi=>?_,hI.obj,hI.inj,hI.sin,hI.sub,hI.glob,hI.below,hI.oth,hI.kso,hI.sso,hI.fix⟩
    ·show RV m _ w _ (upd σ.f t (.w (.c (.rp ds))) t')
     by_cases e:t'=t
     ·subst e;rw[upd_same];exact⟨a',hv,hc⟩
     ·rw[upd_ne _ _ e];exact hI.slot t'
    ·have hi:i∈(upd σ.f t (.w (.c (.rp ds))) t').ids:=hi;by_cases e:t'=t
     ·subst e;rw[upd_same] at hi;cases hi
     ·rw[upd_ne _ _ e] at hi;exact hI.used t' i hi
   ·cases e
  ·cases e
theorem um {b:Frame} {k:List Item} {cs:List Frame} {c:Code}:step P (lone (b.atR a (.code (.scope c)::k)) cs w)=.next (lone (b.atR a (.code c::.inScope c::k)) cs w) :=
  step_lone_go (by simp[stepG,stepG.exec,Frame.atR])
theorem Zw {b:Frame} {k:List Item} {cs:List Frame} {c:Code}:step P (lone (b.atR a (.inScope c::k)) cs w)=.next (lone (b.atR a k) cs w) :=
  step_lone_go (by simp[stepG,stepG.exec,Frame.atR])
def an6 (Q:Exit→Act→World→Prop):Exit→Act→World→Prop
  | .goto _,_,_=>False
  | e,a,w=>Q e a w
theorem Z8 {F:Fence} {k:Nat} {c:Code} {Q:Exit→Act→World→Prop} (h:c.wpIn F k P (an6 Q) a w):(Code.scope c).wpIn F k P Q a w:=by
  intro b k cs hro hb hr;have h0:(lone (b.atR a (.code (.scope c)::k)) cs w).fenced P F:=fenced_calm hb hr rfl;obtain⟨e,a₁,w₁,hq,harr⟩:=h b (.inScope c::k) cs hro hb hr;cases e with
  | normal=>exact⟨.normal,a₁,w₁,hq,.head h0 um (StepsIn.trans harr (.one (fenced_calm hb hr rfl) Zw))⟩
  | exit id =>
    have hx:exitTo id (.inScope c::k)=exitTo id k:=by simp[exitTo]
    exact⟨.exit id,a₁,w₁,hq,fun k' hk=>.head h0 um (harr.1 k' (by rw[hx]; exact hk)),
      fun hr' hk=>let ⟨k₁,h1,h2⟩:=harr.2 hr' (by rw[hx]; exact hk); ⟨k₁,h1,.head h0 um h2⟩⟩
  | goto l=>exact hq.elim
  | ret=>exact⟨_,a₁,w₁,hq,.of_steps (.one h0 um) harr⟩
  | panic ch=>exact⟨_,a₁,w₁,hq,.of_steps (.one h0 um) harr⟩
  | outgrown=>exact⟨_,a₁,w₁,hq,.of_steps (.one h0 um) harr⟩
theorem mL:∀ (c:Code) {inr:Bool} {sc:bq},gG P H N inr c=some sc→∀ {r:Option Nat} {n:Nat} {w0:Gh} {Q':AX→St→Prop} {Q:Exit→Act→World→Prop} {σ:St} {a:Act} {w:World} {S:aR} {m:Mp},(inr=false→r=none)→(∀ t∈sc.writes,w0.fx t=none)→DD G N Sin w0 Q' Q→Inv G N Sin w0 σ a w S m→cD P G sc Q' σ→c.wpIn (Fr r) n P Q a w
  | .skip,inr,sc,hc,r,n,w0,Q',Q,σ,a,w,S,m,hr,hf,hp,h,e=>by
    simp only[gG,aov] at hc;subst hc;exact wpIn_skip (hp _ _ _ _ _ _ e h)
  | .region id ops draws,inr,sc,hc,r,n,w0,Q',Q,σ,a,w,S,m,hr,hf,hp,h,e=>by
    simp only[gG,aoo] at hc;obtain⟨c',hc,rfl⟩:=hc;have hf':∀ t∈c'.writes,w0.fx t=none:=fun t ht=>hf t (by unfold GI; split <;> exact ht)
    have base:∀ {σ:St} {S:aR},Inv G N Sin w0 σ a w S m→cD P G c' Q' σ→(Code.region id ops draws).wpIn (Fr r) n P Q a w:=by
      intro σ S h e;split at hc
      ·rename_i cs hcs;cases hc;refine ZD hcs (fun so hs t ht=>hf' t (List.mem_filterMap.2 ⟨so,hs,ht⟩)) h e ?_;rintro a1 w1 ⟨σ1,S1,m1,k1,k2⟩;exact hp _ _ _ _ _ _ k1 k2
      ·split at hc
       ·rename_i hcs;cases hc;refine Z7 hcs hf' h e ?_;rintro a1 w1 ⟨σ1,S1,m1,k1,k2⟩;exact hp _ _ _ _ _ _ k1 k2
       ·split at hc <;> cases hc;exact False.elim e
    unfold GI at e;split at e
    ·rename_i p hgp;simp only[cD] at e;split at e
     ·rename_i τ hτ;obtain⟨S',hI⟩:=aep h hτ;exact base hI e
     ·exact e.elim
    ·exact base h e
  | .seq x y,inr,sc,hc,r,n,w0,Q',Q,σ,a,w,S,m,hr,hf,hp,h,e=>by
    simp only[gG] at hc;split at hc
    ·rename_i x' y' hx hy;cases hc;refine wpIn_seq (mL x hx hr (fun t ht=>hf t (ao8 _ ht)) ?_ h e);intro ax σ1 a1 w1 S1 m1 k1 k2;cases ax with
     | nrm=>exact mL y hy hr (fun t ht=>hf t (aoM _ ht)) hp k2 k1
     | ex id=>exact hp _ _ _ _ _ _ k1 k2
     | ret=>exact hp _ _ _ _ _ _ k1 k2
    ·cases hc
  | .cond x y z,inr,sc,hc,r,n,w0,Q',Q,σ,a,w,S,m,hr,hf,hp,h,e=>by
    simp only[gG] at hc;split at hc
    ·rename_i x' y' z' hx hy hz;cases hc;simp only[cD] at e;cases ht:eC (ev G σ.f x') with
     | none=>rw[ht] at e; exact e.elim
     | some t =>
       rw[ht] at e;have hv:=x7 (h.operand hx).1 ht;exact wpIn_cond_split hv (fun g=>mL y hy hr (fun t ht=>hf t (ao8 _ ht)) hp h (e.1 g)) fun g=>mL z hz hr (fun t ht=>hf t (aoM _ ht)) hp h (e.2 g)
    ·cases hc
  | .block id c,inr,sc,hc,r,n,w0,Q',Q,σ,a,w,S,m,hr,hf,hp,h,e=>by
    simp only[gG,aoo] at hc;obtain⟨c',hcc,rfl⟩:=hc;refine wpIn_block (mL c hcc hr hf ?_ h e);intro ax σ1 a1 w1 S1 m1 k1 k2;cases ax with
    | nrm=>exact hp _ _ _ _ _ _ k1 k2
    | ex i =>
      show Exit.inBlock id Q (.exit i) a1 w1
      unfold Exit.inBlock;simp only at k1 ⊢;by_cases hi:i=id
      ·rw[if_pos hi] at k1 ⊢;exact hp _ _ _ _ _ _ k1 k2
      ·rw[if_neg hi] at k1 ⊢;exact hp _ _ _ _ _ _ k1 k2
    | ret=>exact hp _ _ _ _ _ _ k1 k2
  | .loop c,inr,sc,hc,r,n,w0,Q',Q,σ,a,w,S,m,hr,hf,hp,h,e=>by
    simp only[gG,aoo] at hc;obtain⟨c',hcc,rfl⟩:=hc;obtain⟨I,⟨n0,τ,he,hI⟩,hround⟩:=e;obtain⟨m',hinv⟩:=h.ent he;refine ZH (fun n a w=>∃ τ S m,I n τ∧Inv G N Sin w0 τ a w S m) ⟨τ,S,m',hI,hinv⟩ ?_;rintro n a1 w1 ⟨τ,S1,m1,k1,k2⟩;refine mL c hcc hr hf ?_ k2 (hround n τ k1);intro ax σ2 a2 w2 S2 m2 q1 q2;cases ax with
    | nrm =>
      obtain⟨n',τ',g1,g2,g3⟩:=q1;obtain⟨m3,hinv3⟩:=q2.ent g2;exact⟨n',g1,τ',S2,m3,g3,hinv3⟩
    | ex i=>exact hp _ _ _ _ _ _ q1 q2
    | ret=>exact hp _ _ _ _ _ _ q1 q2
  | .exit id,inr,sc,hc,r,n,w0,Q',Q,σ,a,w,S,m,hr,hf,hp,h,e=>by
    simp only[gG,aov] at hc;subst hc;exact wpIn_exit (hp _ _ _ _ _ _ e h)
  | .ret,inr,sc,hc,r,n,w0,Q',Q,σ,a,w,S,m,hr,hf,hp,h,e=>by
    simp only[gG,aov] at hc;subst hc;exact wpIn_ret (hp _ _ _ _ _ _ e h)
  | .rangeFunc g ps x y,inr,sc,hc,r,n,w0,Q',Q,σ,a,w,S,m,hr,hf,hp,h,e=>by
    simp only[gG] at hc;split at hc
    ·rename_i hi;obtain rfl:=hr hi.1;split at hc
     ·rename_i g' x' y' hg hx hy;cases hc;refine ZI hg (fun t ht=>?_) (fun hf=>mL x hx (fun h=>by cases h) hf) (fun hf=>mL y hy (fun h=>by cases h) hf) hp h e;have:=hi.2;rw[← Array.all_toList,aoE] at this
      simpa using this t ht
     ·cases hc
    ·cases hc
  | .scope c,inr,sc,hc,r,n,w0,Q',Q,σ,a,w,S,m,hr,hf,hp,h,e=>by
    simp only[gG] at hc;refine Z8 (mL c hc hr hf ?_ h e);intro ax σ1 a1 w1 S1 m1 k1 k2;cases ax with
    | nrm=>exact hp _ _ _ _ _ _ k1 k2
    | ex i=>exact hp _ _ _ _ _ _ k1 k2
    | ret=>exact hp _ _ _ _ _ _ k1 k2
  | .label _,inr,sc,hc,r,n,w0,Q',Q,σ,a,w,S,m,hr,hf,hp,h,e=>by
    simp only[gG,aov] at hc;subst hc;exact wpIn_label (hp _ _ _ _ _ _ e h)
  | .goto _,inr,sc,hc,r,n,w0,Q',Q,σ,a,w,S,m,hr,hf,hp,h,e=>by simp[gG] at hc
  | .refuse _,inr,sc,hc,r,n,w0,Q',Q,σ,a,w,S,m,hr,hf,hp,h,e=>by simp[gG] at hc
def DF (tmps:Array Value):ResultVar→Sem Value
  | .tmp t=>pure (tmps.getD t undef)
  | .cell a t=>do loadVar t (← asAddr (tmps.getD a undef))
theorem aeq (h:Inv G N Sin w0 σ a w S m) {r:ResultVar} {l:Nat×Option Kd} (hc:xO P r=some l) {x:W} (hx:cV σ l=some x):∃ u,(DF a.tmps r).run P w=.ok u w∧RW m S w u x∧∀ i∈x.ids,σ.u i=true:=by
  cases r with
  | tmp t =>
    simp only[xO,aov] at hc;subst hc;obtain⟨h1,h2⟩:=BR (h.slot t) hx;refine⟨_,rfl,h1,fun i hi=>h.used t i ?_⟩;rw[h2]; exact hi
  | cell t ty =>
    simp only[xO,aoo] at hc;obtain⟨kd,hk,rfl⟩:=hc;obtain⟨ad,us,h1,h2,h3,h4,h5⟩:=Xw h (h.slot t) hx;refine⟨valOf kd us,?_,h4,h5⟩;simp only[DF,h1,asAddr];simp[KW hk ad us h2 h3]
theorem AZ (h:Inv G N Sin w0 σ a w S m):∀ {rs:List ResultVar} {l:List (Nat×Option Kd)} {ws:List W},bB (xO P) rs=some l→bB (cV σ) l=some ws→∃ us:List Value,(rs.mapM (DF a.tmps)).run P w=.ok us w∧aD (RW m S w) us ws∧∀ i∈ws.flatMap W.ids,σ.u i=true
  | [],l,ws,h1,h2=>by
    simp only[bB,aov] at h1;subst h1;simp only[bB,aov] at h2;subst h2;exact⟨[],rfl,.nil,fun i hi=>by cases hi⟩
  | r::rs,l,ws,h1,h2=>by
    simp only[bB] at h1;split at h1
    ·rename_i y l' hy hl;cases h1;simp only[bB] at h2;split at h2
     ·rename_i x ws' hx hws;cases h2;obtain⟨u,k1,k2,k3⟩:=aeq h hy hx;obtain⟨us,q1,q2,q3⟩:=AZ h hl hws;refine⟨u::us,?_,.cons k2 q2,fun i hi=>?_⟩
      ·simp[List.mapM_cons,k1,q1]
      ·rw[aoL] at hi;rcases aoG.1 hi with hi | hi
       ·exact k3 i hi
       ·exact q3 i hi
     ·cases h2
    ·cases h1
theorem EI (fn:Func) (tmps:Array Value):results fn tmps=(do let vs ← fn.results.mapM (DF tmps); pure (if h:vs.size=1 then vs[0] else .tuple vs)):=by
  unfold results
  congr 1
def iI (σ:St) (m:Mp) (ids:List Nat) (bl:List Nat):Prop:=bl.Nodup∧∀ b∈bl,∃ id∈ids,∃ s,m id=some (b,s)∧σ.h id≠none
theorem iI.append (h:Inv G N Sin w0 σ a w S m) {l1 l2 b1 b2:List Nat} (hn:(l1++l2).Nodup) (h1:iI σ m l1 b1) (h2:iI σ m l2 b2):iI σ m (l1++l2) (b1++b2):=by
  refine⟨apQ.2 ⟨h1.1,h2.1,fun b hb c hc e=>?_⟩,fun b hb=>?_⟩
  ·subst e;obtain⟨i,hi,s,e1,e2⟩:=h1.2 b hb;obtain⟨j,hj,s',e3,e4⟩:=h2.2 b hc;have:=h.inj i j b s s' e2 e4 e1 e3;subst this;exact (apQ.1 hn).2.2 i hi i hj rfl
  ·rcases aoG.1 hb with hb | hb
   ·obtain⟨i,hi,r⟩:=h1.2 b hb;exact⟨i,ao8 _ hi,r⟩
   ·obtain⟨i,hi,r⟩:=h2.2 b hb;exact⟨i,aoM _ hi,r⟩
theorem iI.none (σ:St) (m:Mp) (ids:List Nat):iI σ m ids []:=⟨.nil,fun b hb=>by cases hb⟩
theorem HN (h:Inv G N Sin w0 σ a w S m) (hx:∀ b,¬ w0.ext b) {u:Value} {c r:C} (hv:RC m S w u c) (he:wN σ.h c r):∃ bl,jN S w w0.heap.size u r bl∧iI σ m c.ids bl:=by
  unfold wN at he;split at he
  ·rename_i id sz off n sz' es;obtain⟨rfl,rfl,he⟩:=he;split at he
   ·rename_i o ho;obtain⟨he1,he2⟩:=he;cases o with
    | box cs=>exact he2.elim
    | mp q es=>exact he2.elim
    | it q l p=>exact he2.elim
    | row s0 es0 =>
      simp only[fv] at he1;split at he1
      ·rename_i hle;cases he1;have hv':cI m w u id _ 0 n:=hv;have hob:=(h.obj id _ ho).1;unfold cI at hv';unfold bT at hob;split at hv'
       ·obtain⟨⟨ad,rfl⟩,_,rfl⟩:=hv';exact⟨[],.inl ⟨⟨ad,rfl⟩,by simp,rfl⟩,iI.none _ _ _⟩
       ·rename_i b sz2 hm;obtain⟨rfl,ad,cap,ty,M,rfl,g2,g3,g4,g5,g6⟩:=hv';rw[hm] at hob;obtain⟨k1,k2,k3,cur,ty',fz,k4,k5,k6⟩:=hob;have had:=g4 (.inr rfl);rw[aqc] at had;subst had;have hlen:((es0.drop 0).take n).length=n:=by rw[aow,apS]; omega
        refine⟨[b],.inr ⟨b,cap,ty,M,rfl,by rw[hlen],by rw[hlen]; exact g2,g3,g5,by simpa using g6,k2.resolve_right (hx _),k3,cur,ty',fz,k4,k5,?_,fun i hi=>?_⟩,⟨by simp,fun b' hb'=>⟨id,by simp[C.ids],sz2,?_,by rw[ho]; simp⟩⟩⟩
        ·rw[hlen];exact apg (aoZ _ (by omega)) k6.1
        ·have hi':i<es0.length:=by rw[hlen] at hi; omega
         have he:((es0.drop 0).take n)[i]=es0[i]:=by simp
         rw[he];exact k6.2 i hi'
        ·simp only[aou] at hb';rw[hb']; exact hm
      ·cases he1
   ·exact he.elim
  ·subst he;exact⟨[],.inl ⟨hv,rfl,rfl⟩,iI.none _ _ _⟩
  ·subst he;refine⟨[],⟨?_,rfl⟩,iI.none _ _ _⟩;obtain⟨ad,rfl⟩:∃ ad,u=.slice ad 0 0:=hv
   exact Reads.zero ad
  ·subst he;exact⟨[],⟨hv,rfl⟩,iI.none _ _ _⟩
  ·exact he.elim
theorem QM (h:Inv G N Sin w0 σ a w S m) (hx:∀ b,¬ w0.ext b):∀ {us:List Value} {cs rs:List C},aD (RC m S w) us cs→aD (wN σ.h) cs rs→(cs.flatMap C.ids).Nodup→∃ bl,kU S w w0.heap.size us rs bl∧iI σ m (cs.flatMap C.ids) bl
  | _,_,_,.nil,.nil,_=>⟨[],.nil,iI.none _ _ _⟩
  | _,_,_,.cons h1 h2,.cons k1 k2,hn=>by
    rw[aoL] at hn ⊢;obtain⟨b1,e1,e2⟩:=HN h hx h1 k1;obtain⟨b2,e3,e4⟩:=QM h hx h2 k2 (apQ.1 hn).2.1;exact⟨b1++b2,.cons e1 e3,iI.append h hn e2 e4⟩
theorem T4 (h:Inv G N Sin w0 σ a w S m) (hx:∀ b,¬ w0.ext b) {u:Value} {x r:W} (hv:RW m S w u x) (he:zo σ.h x r) (hn:x.ids.Nodup):∃ bl,iU S w w0.heap.size u r bl∧iI σ m x.ids bl:=by
  unfold zo at he;split at he
  ·rename_i c d;cases c with
   | d y =>
     cases d with
     | d z =>
       have:y=z:=he;subst this;cases y with
       | agg cs=>exact⟨[],⟨hv,rfl⟩,iI.none _ _ _⟩
       | _=>exact⟨[],⟨hv,rfl⟩,iI.none _ _ _⟩
     | _=>exact he.elim
   | nil =>
     obtain⟨bl,h1,h2⟩:=HN (c:=.nil) h hx hv he;refine⟨bl,?_,h2⟩;cases d with
     | d z =>
       have:z=.sl []:=he;subst this;exact h1
     | _=>exact h1
   | own id sz off n =>
     obtain⟨bl,h1,h2⟩:=HN (c:=.own id sz off n) h hx hv he;refine⟨bl,?_,h2⟩;cases d with
     | fr s es=>exact h1
     | _=>exact he.elim
   | _=>exact he.elim
  ·rename_i cs ds;obtain⟨us,rfl,h2⟩:=hv;obtain⟨bl,k1,k2⟩:=QM h hx h2 he hn;exact⟨bl,⟨us,rfl,k1⟩,k2⟩
  ·rename_i cs ds;obtain⟨us,h1,h2⟩:=FO (x:=.mix cs) hv (d:=.agg ds) (by simp[jJ,he]);obtain⟨us',rfl,_⟩:=hv;have:us'=us:=by simpa [Value.cells] using h1
   subst this;exact⟨[],⟨⟨us',rfl,h2⟩,rfl⟩,iI.none _ _ _⟩
  ·exact he.elim
theorem QN (h:Inv G N Sin w0 σ a w S m) (hx:∀ b,¬ w0.ext b):∀ {us:List Value} {ws rs:List W},aD (RW m S w) us ws→aD (zo σ.h) ws rs→(ws.flatMap W.ids).Nodup→∃ bl,lM S w w0.heap.size us rs bl∧iI σ m (ws.flatMap W.ids) bl
  | _,_,_,.nil,.nil,_=>⟨[],.nil,iI.none _ _ _⟩
  | _,_,_,.cons h1 h2,.cons k1 k2,hn=>by
    rw[aoL] at hn ⊢;obtain⟨b1,e1,e2⟩:=T4 h hx h1 k1 (apQ.1 hn).1;obtain⟨b2,e3,e4⟩:=QN h hx h2 k2 (apQ.1 hn).2.1;exact⟨b1++b2,.cons e1 e3,iI.append h hn e2 e4⟩
def mX (us:List Value):Value:=if h:us.toArray.size=1 then us.toArray[0] else .tuple us.toArray
theorem QO (h:Inv G N Sin w0 σ a w S m) {u:Value} {x:W} {d:D} (hv:RW m S w u x) (e:toW σ.h x=some d):iU (qw σ.h m S) w w0.heap.size u (.c (.d d)) []:=by
  have:=x9 h (T:=qw σ.h m S) (fun _ _ h=>.inl h) (fun id _ o b s i h1 h2=>.inr ⟨id,o,s,h1,h2⟩) hv e;cases d with
  | agg cs=>exact⟨this,rfl⟩
  | _=>exact⟨this,rfl⟩
theorem QP (h:Inv G N Sin w0 σ a w S m):∀ {us:List Value} {ws rs:List W},aD (RW m S w) us ws→aD (fun x z=>∃ d,z=.c (.d d)∧toW σ.h x=some d) ws rs→lM (qw σ.h m S) w w0.heap.size us rs []
  | _,_,_,.nil,.nil=>.nil
  | _,_,_,.cons h1 h2,.cons k1 k2=>by
    obtain⟨d,rfl,e⟩:=k1;exact .cons (b1:=[]) (b2:=[]) (QO h h1 e) (QP h h2 k2)
theorem T5 (h:Inv G N Sin w0 σ a w S m) (hx:∀ b,¬ w0.ext b) {us:List Value} {ws:List W} {res:V} (hv:aD (RW m S w) us ws) (he:((ws.flatMap W.ids).Nodup∧Ku σ.h ws res)∨J7 σ.h ws res) :
    ∃ S' bl,(∀ b i,S' b i→(Sin b i∨w0.heap.size≤b)∧b<w.heap.size)∧bl.Nodup∧mh S' w w0.heap.size (mX us) res bl:=by
  have sin:∀ b i,S b i→(Sin b i∨w0.heap.size≤b)∧b<w.heap.size:=fun b i hs=>⟨(h.sin b i hs).2.imp id fun k=>k.resolve_right (hx b),(h.sin b i hs).1⟩
  have shat:∀ b i,qw σ.h m S b i→(Sin b i∨w0.heap.size≤b)∧b<w.heap.size:=by
    rintro b i (hs | ⟨id,ob,s,ho,hm⟩)
    ·exact sin b i hs
    ·have hk:=(h.obj id ob ho).1;refine⟨.inr ?_,hk.lt hm⟩;unfold bT at hk;rw[hm] at hk;exact hk.2.1.resolve_right (hx _)
  rcases he with ⟨hn,he⟩ | he
  ·unfold Ku at he;split at he
   ·rename_i x y;cases hv with
    | cons h1 h2 =>
      cases h2;have hids:x.ids.Nodup:=by simpa using hn
      obtain⟨bl,k1,k2⟩:=T4 h hx h1 he hids;exact⟨S,bl,sin,k2.1,k1⟩
   ·rename_i x y r ws';have hl:=hv.length;obtain⟨bl,k1,k2⟩:=QN h hx hv he hn;refine⟨S,bl,sin,k2.1,us,?_,k1⟩;unfold mX;rw[dif_neg (by simp at hl ⊢; omega)]
   ·subst he;cases hv;exact⟨S,[],sin,.nil,[],rfl,.nil⟩
   ·exact he.elim
  ·unfold J7 at he;split at he
   ·rename_i x d;cases hv with
    | cons h1 h2 =>
      cases h2;exact⟨_,[],shat,.nil,QO h h1 he⟩
   ·rename_i x y r ws';have hl:=hv.length;refine⟨_,[],shat,.nil,us,?_,QP h hv he⟩;unfold mX;rw[dif_neg (by simp at hl ⊢; omega)]
   ·exact he.elim
theorem acd (h:Inv G N Sin w0 σ a w S m) (hwo:w0.wo.heap.size≤w0.heap.size) {D:Nat} (hB:w0.heap.size≤D) (hD:w.heap[D]?=some (.deferred (some []))):Inv G N Sin w0 σ { a with defers:=[] } (w.putObj D (.deferred none)) S m :=
  h.turn (w1:=w0) (kf.put hD rfl) (grownBy_putObj' _ _ _).size rfl (h.below.trans (dw.of (xy _ hB hD))) rfl (fun t=>.inr rfl) trivial (fS.old h.oth (fS.put _ _ _) (apg hwo hB)) (h.kso.trans ((kf.put hD rfl).keeps _)) h.sso h.fix
theorem zJ {F:Fence} {n:Nat} {fn:Func} {R:Ending→World→Prop}:∀ {ds:List Deferred} {a:Act} {w:World},Inv G N Sin w0 σ a w S m→w0.wo.heap.size≤w0.heap.size→lO w0.heap.size w ds→(∀ (w':World) (a':Act),a'.tmps=a.tmps→Inv G N Sin w0 σ a' w' S m→∃ v,(results fn a.tmps).run P w'=.ok v w'∧R (.returned v) w')→LeavesInM F n P fn a.tmps R ds .returning w
  | [],a,w,h,_,_,k=>k w a rfl h
  | d::ds,a,w,h,hwo,⟨⟨D,h1,h2,h3,h4⟩,h5⟩,k=>by
    refine⟨by simp,.inl ⟨D,_,by rw[h1],run_takeDeferred h3,?_⟩⟩;have hd:lO w0.heap.size (w.putObj D (.deferred none)) ds:=by
      have key:∀ {ds:List Deferred},lO w0.heap.size w ds→(∀ d'∈ds,d'.target≠.collected D)→lO w0.heap.size (w.putObj D (.deferred none)) ds:=by
        intro ds
        induction ds with
        | nil=>intro _ _; trivial
        | cons d ds ih =>
          rintro⟨⟨D',g1,g2,g3,g4⟩,g5⟩ hne;refine⟨⟨D',g1,g2,?_,g4⟩,ih g5 fun d' hd'=>hne d' (by simp[hd'])⟩;refine (World.putObj_heap_other fun e=>?_).trans g3;exact hne d (by simp) (by rw[g1,e])
      exact key h5 h4
    have:=acd h hwo h2 h3;exact zJ (a:={ a with defers:=[] }) this hwo hd fun w' a' e2 hi=>k w' a' e2 hi
theorem ah2 {f:FuncId} {fn:Func} {sf:aK} (hf:P.funcs[f]?=some fn) (hc:aI P H fn=some sf) {args:List D} {res:V} (hlen:args.length=sf.np)
    (e:cD P G sf.body (fun ax σ=>match ax with | .nrm=>fb σ sf.res res | .ret=>fb σ sf.res res | .ex _=>False) (entry args)):aF P G f args res:=by
  unfold aI at hc;split at hc
  ·rename_i c hb;split at hc
   ·rename_i body rs hbody hres;split at hc
    ·rename_i hnp;cases hc;intro w S vs hS hG hargs;refine (callsIn_wide (n:=3)).1 (callsIn_of_wp_marks (F:=Fence.wide) hf hb trivial ?_);have hvl:vs.length=args.length:=hargs.length;have hnp':vs.length≤fn.ntmps:=by simp only at hlen; omega
     have hsize:(vs.toArray++Array.replicate (fn.ntmps-vs.toArray.size) undef).size=fn.ntmps:=by simp; omega
     have hinv:Inv G fn.ntmps S (Gh.of w) (entry args) { tmps:=vs.toArray++Array.replicate (fn.ntmps-vs.toArray.size) undef,defers:=[] } w S (fun _=>none):=by
       refine⟨hsize,trivial,fun t=>?_,fun t i hi=>?_,fun id o ho=>(by cases ho),fun i j b s s' h1=>absurd rfl h1,fun b i hs=>⟨hS b i hs,.inl hs⟩,fun _ _ h=>h,hG,dw.refl _ _ _,eV.refl _,bP.refl _ _,fun _ _ h=>h.elim,fun t v h=>by cases h⟩
       ·simp only[entry];cases ht:args[t]? with
        | none=>trivial
        | some x =>
          obtain⟨v,h1,h2⟩:=hargs.get? ht;have hlt:=(aoJ.1 h1).1;have:(vs.toArray++Array.replicate (fn.ntmps-vs.toArray.size) undef).getD t undef=v:=by
            rw[apc,Array.getElem?_append_left (by simpa using hlt)];simp[h1]
          rw[this];exact h2
       ·simp only[entry] at hi;split at hi <;> cases hi
     refine mL c hbody (r:=none) (fun _=>rfl) (fun t _=>rfl) ?_ hinv e;intro ax σ a w1 S1 m q h;have key:fb σ rs res→LeavesInM Fence.wide 3 P fn a.tmps (fun e w'=>∃ v S' bl,e=.returned v∧Below w.heap.size w w'∧(∀ b i,S' b i→(S b i∨w.heap.size≤b)∧b<w'.heap.size)∧bl.Nodup∧mh S' w' w.heap.size v res bl) a.defers .returning w1:=by
       rintro⟨ws,hws,hex⟩;refine zJ h (aoz _) h.defers fun w2 a' e2 h=>?_
       rw[← e2];obtain⟨us,h1,h2,h3⟩:=AZ h hres hws;obtain⟨S',bl,k1,k2,k3⟩:=T5 h (fun _ hx=>hx) h2 hex;have hbel:Below w.heap.size w w2:=h.below.below fun _ _ hx=>hx
       refine⟨mX us,?_,_,S',bl,rfl,hbel,k1,k2,k3⟩;rw[EI];simp[Array.mapM_eq_mapM_toList,h1,mX]
     cases ax with
     | nrm=>exact key q
     | ret=>exact key q
     | ex _=>exact q.elim
    ·cases hc
   ·cases hc
  ·cases hc
def Ed:List W→V | [x]=>.w x | ws=>.tup ws
def oW (args:List W) (h0:aL) (L:List Nat):St:=⟨fun t=>match args[t]? with | some x=>.w x | none=>.undef,h0,fun i=>L.contains i⟩
def W.lnk:W→List Nat
  | .c (.ptr id ..)=>[id]
  | .c (.pa id _)=>[id]
  | .c (.cf _ a b)=>a.flatMap Cp.ids++b.flatMap Cp.ids
  | _=>[]
theorem T6 {m m1:Mp} {S S1:aR} {w w1:World} {g:Nat→Nat} {us:List Value} {l:List Cp} (h:aD (fq m S w) us l):∀ {l':List Cp},l'=l.map (Cp.ren g)→aD (fq m1 S1 w1) us l'→∀ id∈l.flatMap Cp.ids,m1 (g id)=m id:=by
  induction h with
  | nil=>intro l' _ _ id hi; cases hi
  | cons h1 _ ih =>
    rename_i a b as bs h2;intro l' e h' id hi;rw[aos] at e;subst e;cases h' with
    | cons k1 k2 =>
    rw[aoL,aoG] at hi;rcases hi with hi | hi
    ·cases b with
     | d x=>cases hi
     | p i sz j o =>
       obtain rfl:id=i:=by simpa [Cp.ids] using hi
       obtain⟨b1,q1,q2⟩:∃ b,m id=some (b,sz)∧a=.pointer (some ⟨b,j*sz+o,none⟩):=h1
       obtain⟨b2,q3,q4⟩:∃ b,m1 (g id)=some (b,sz)∧a=.pointer (some ⟨b,j*sz+o,none⟩):=k1
       rw[q2] at q4;obtain rfl:b1=b2:=by simpa using q4
       rw[q1,q3]
    ·exact ih rfl k2 id hi
theorem al3 {m m1:Mp} {S S1:aR} {w w1:World} {g:Nat→Nat} {v:Value} {x:W} (h:RW m S w v x) (h':RW m1 S1 w1 v (x.ren g)):∀ id∈x.lnk,m1 (g id)=m id:=by
  intro id hi;unfold W.lnk at hi;split at hi
  ·rename_i i sz j o;obtain rfl:id=i:=by simpa using hi
   obtain⟨b1,q1,q2⟩:∃ b,m id=some (b,sz)∧v=.pointer (some ⟨b,j*sz+o,none⟩):=h
   obtain⟨b2,q3,q4⟩:∃ b,m1 (g id)=some (b,sz)∧v=.pointer (some ⟨b,j*sz+o,none⟩):=h'
   rw[q2] at q4;obtain rfl:b1=b2:=by simpa using q4
   rw[q1,q3]
  ·rename_i i sz;obtain rfl:id=i:=by simpa using hi
   obtain⟨b1,q1,q2⟩:∃ b,m id=some (b,sz)∧v=.pointer (some ⟨b,0,none⟩):=h
   obtain⟨b2,q3,q4⟩:∃ b,m1 (g id)=some (b,sz)∧v=.pointer (some ⟨b,0,none⟩):=h'
   rw[q2] at q4;obtain rfl:b1=b2:=by simpa using q4
   rw[q1,q3]
  ·rename_i f a b;obtain⟨us,vs,q1,q2,q3⟩:∃ us vs:List Value,v=.func (.func f) us.toArray vs.toArray∧aD (fq m S w) us a∧aD (fq m S w) vs b:=h
   obtain⟨us',vs',q4,q5,q6⟩:∃ us vs:List Value,v=.func (.func f) us.toArray vs.toArray∧aD (fq m1 S1 w1) us (a.map (Cp.ren g))∧aD (fq m1 S1 w1) vs (b.map (Cp.ren g)):=h'
   rw[q1] at q4;obtain⟨rfl,rfl⟩:us=us'∧vs=vs':=by simpa using q4
   rcases aoG.1 hi with hi | hi
   ·exact T6 q2 rfl q5 id hi
   ·exact T6 q3 rfl q6 id hi
  ·cases hi
def DG (σ:St) (l:List (Nat×Option Kd)) (lk:List Nat) (args:List W) (L:List Nat) (res:V) (h1:aL) (L1:List Nat):Prop :=
  ∃ ws,bB (cV σ) l=some ws∧∃ g:Nat→Nat,Ed ws=res.ren g∧(∀ id o,h1 id=some o→σ.h (g id)=some (o.ren g))∧(∀ i j,h1 i≠none→h1 j≠none→g i=g j→i=j) ∧
    ∀ id∈L,id∈L1→∃ t∈lk,∃ x,args[t]?=some x∧id∈x.lnk∧σ.f t=.w (x.ren g)
def al8 (args:List W) (h0:aL) (L:List Nat) (res:V) (h1:aL) (L1:List Nat):Prop :=
  (∀ id o,h0 id=some o→id∈L∧∀ j∈o.ids,j∈L)∧(∀ id∈L,h0 id≠none)∧(∀ x∈args,∀ i∈x.ids,i∈L)∧(∀ id o,h1 id=some o→id∈L1∧∀ j∈o.ids,j∈L1)∧∀ i∈res.ids,i∈L1
theorem ah3 {us:List Value} {ws:List W} (h:aD (RW m S w) us ws):RV m S w (mX us) (Ed ws):=by
  cases h with
  | nil=>exact⟨[],rfl,.nil⟩
  | cons h1 h2 =>
    cases h2 with
    | nil=>exact h1
    | cons h2 h3=>exact⟨_,by unfold mX; rw[dif_neg (by simp)],.cons h1 (.cons h2 h3)⟩
theorem QQ {f:FuncId} {fn:Func} {sf:aK} (hf:P.funcs[f]?=some fn) (hc:aI P H fn=some sf) {args:List W} {h0 h1:aL} {L L1 lk:List Nat} {res:V} (hlen:args.length=sf.np) (hlk:lk.all (fun t=>!sf.body.writes.contains t)=true) (hp:al8 args h0 L res h1 L1)
    {Q':AX→St→Prop} (hq:∀ ax σ,Q' ax σ→(∀ id,ax≠.ex id)∧DG σ sf.res lk args L res h1 L1) (e:cD P G sf.body Q' (oW args h0 L)):rV P G f args h0 L res h1 L1:=by
  refine⟨hp,?_⟩;obtain⟨p1,p2,p3,p4,p5⟩:=hp;unfold aI at hc;split at hc
  ·rename_i c hb;split at hc
   ·rename_i body rs hbody hres;split at hc
    ·rename_i hnp;cases hc;intro w S vs m hS hG hobj hinj hargs;refine (callsIn_wide (n:=3)).1 (callsIn_of_wp_marks (F:=Fence.wide) hf hb trivial ?_);have hvl:vs.length=args.length:=hargs.length;have hnp':vs.length≤fn.ntmps:=by simp only at hlen; omega
     have hsize:(vs.toArray++Array.replicate (fn.ntmps-vs.toArray.size) undef).size=fn.ntmps:=by simp; omega
     have hget:∀ t v,vs[t]?=some v→(vs.toArray++Array.replicate (fn.ntmps-vs.toArray.size) undef).getD t undef=v:=by
       intro t v h1;have hlt:=(aoJ.1 h1).1;rw[apc,Array.getElem?_append_left (by simpa using hlt)];simp[h1]
     obtain⟨w0,hw0⟩:∃ w0:Gh,w0={ w with wo:=w,so:=S,fx:=fun t=>if body.writes.contains t then none else vs[t]?,ext:=oU h0 m }:=⟨_,rfl⟩
     have hinv:Inv G fn.ntmps S w0 (oW args h0 L) { tmps:=vs.toArray++Array.replicate (fn.ntmps-vs.toArray.size) undef,defers:=[] } w S m:=by
       subst hw0;refine⟨hsize,trivial,fun t=>?_,fun t i hi=>?_,fun id o ho=>⟨?_,?_,fun j hj=>?_⟩,hinj,fun b i hs=>⟨hS b i hs,.inl hs⟩,fun _ _ h=>h,hG,dw.refl _ _ _,eV.refl _,bP.refl _ _,fun _ _ h=>h,fun t v h=>?_⟩
       ·simp only[oW];cases ht:args[t]? with
        | none=>trivial
        | some x =>
          obtain⟨v,h1,h2⟩:=hargs.get? ht;rw[hget t v h1];exact h2
       ·simp only[oW] at hi ⊢;split at hi
        ·rename_i x hx
         simpa using p3 x (aps hx) i hi
        ·cases hi
       ·have hk:=hobj id o ho;unfold bT at hk ⊢;split at hk
        ·exact hk
        ·rename_i b s hm;exact⟨hk.1,.inr ⟨id,o,s,ho,hm⟩,hk.2.2⟩
       ·simpa [oW] using (p1 id o ho).1
       ·simpa [oW] using (p1 id o ho).2 j hj
       ·simp only at h;split at h
        ·cases h
        ·exact hget t v h
     refine mL c hbody (r:=none) (fun _=>rfl) (fun t ht=>?_) ?_ hinv e
     ·subst hw0;simp only;rw[if_pos (by simpa using ht)]
     intro ax σ a w1 S1 m1 q h
     have key:DG σ rs lk args L res h1 L1→LeavesInM Fence.wide 3 P fn a.tmps (fun e w'=>∃ v S' m',e=.returned v∧dw w.heap.size (oU h0 m) w w'∧eV w w'∧bP S w w'∧(∀ b i,S b i→S' b i)∧(∀ b i,S' b i→b<w'.heap.size∧(S b i∨w.heap.size≤b∨oU h0 m b)) ∧
         (∀ i∈L,i∈L1→m' i=m i)∧(∀ id o,h1 id=some o→bT m' S' (fun b=>w.heap.size≤b∨oU h0 m b) w' id o) ∧
         (∀ i j b s s',h1 i≠none→h1 j≠none→m' i=some (b,s)→m' j=some (b,s')→i=j)∧RV m' S' w' v res) a.defers .returning w1:=by
       rintro⟨ws,hws,g,hv,hh,hgi,hl⟩;refine zJ h (by subst hw0; exact aoz _) h.defers fun w2 a' e2 h=>?_
       rw[← e2];obtain⟨us,h1',h2,h3⟩:=AZ h hres hws;refine⟨mX us,?_,mX us,S1,fun i=>m1 (g i),rfl,?_,?_,?_,?_,?_,?_,?_,?_,?_⟩
       ·rw[EI];simp[Array.mapM_eq_mapM_toList,h1',mX]
       ·subst hw0; exact h.below
       ·subst hw0; exact h.oth
       ·subst hw0; exact h.kso
       ·exact h.sub
       ·subst hw0; exact h.sin
       ·intro id hid hid1;obtain⟨t,htl,x,ha,hx,hs⟩:=hl id hid hid1;obtain⟨v,k1,k2⟩:=hargs.get? ha;have k5:=h.slot t;rw[hs] at k5;have hnw:=aoE.1 hlk t htl;have k8:a'.tmps.getD t undef=v:=h.fix t v (by
          subst hw0;simp only;rw[if_neg (by simpa using hnw)];exact k1)
        rw[k8] at k5;exact al3 k2 k5 id hx
       ·intro id o ho;have:=(h.obj _ _ (hh id o ho)).1.ren;subst hw0;exact this
       ·intro i j b s s' hi hj e1 e2;obtain⟨oi,hi'⟩:=aoO.1 hi;obtain⟨oj,hj'⟩:=aoO.1 hj;exact hgi i j hi hj (h.inj (g i) (g j) b s s' (by rw[hh i oi hi']; simp) (by rw[hh j oj hj']; simp) e1 e2)
       ·refine RV.ren (g:=g) ?_;rw[← hv];exact ah3 h2
     have q:=hq ax σ q;cases ax with
     | nrm=>exact key q.2
     | ret=>exact key q.2
     | ex i=>exact absurd rfl (q.1 i)
    ·cases hc
   ·cases hc
  ·cases hc
end
theorem jR {a b : Prop} (l : a) (r : b) : a ∧ b := And.intro l r
def bI {α:Type} (o:Option α) (k:α→Prop):Prop:=match o with | some x=>k x | none=>False
theorem LU {α:Type} (x:α) (k:α→Prop):bI (some x) k=k x:=rfl
theorem iO {α β:Type} (o:Option α) (g:α→β) (k:β→Prop):bI (o.map g) k=bI o fun v=>k (g v):=by cases o <;> rfl
theorem QR {α:Type} {o:Option α} {k:α→Prop} (x:α) (h:o=some x) (e:k x):bI o k:=by rw[h]; exact e
def DI:V→Option ByteArray | .w (.c (.d (.str s)))=>some s | _=>none
def YQ:V→Option (List W) | .tup ws=>some ws | _=>none
section
variable (P:Program) (G:au)
def DJ (b:bq) (Q:AX→St→Prop) (e:AX) (s:St):Prop:=match e with | .nrm=>cD P G b Q s | e=>Q e s
def tL (id:Nat) (Q:AX→St→Prop) (e:AX) (s:St):Prop:=match e with | .ex i=>if i=id then Q .nrm s else Q (.ex i) s | e=>Q e s
def yU (l:List (Nat×Option Kd)) (res:V) (e:AX) (s:St):Prop:=match e with | .nrm=>fb s l res | .ret=>fb s l res | .ex _=>False
def yV (a b:bq) (Q:AX→St→Prop) (s:St) (t:Bool):Prop:=(t=true→cD P G a Q s)∧(t=false→cD P G b Q s)
def qz (d:Option Nat) (o:bR) (w:Bool) (r:List br) (K:St→Prop) (f:Nat→V) (h:aL) (u:Nat→Bool) (t:Bool):Prop :=
  ((t==w)=true→bh P G (⟨d,o,none⟩::r) K ⟨f,h,u⟩)∧((t==w)=false→bh P G r K ⟨bY f d (.tup []),h,u⟩)
def yW (d:Option Nat) (o:bR) (w:Bool) (r:List br) (K:St→Prop) (f:Nat→V) (h:aL) (u:Nat→Bool) (v:V):Prop :=
  match eC v with | some t=>qz P G d o w r K f h u t | none=>v=.tup []∧bh P G r K ⟨bY f d (.tup []),h,u⟩
section
variable (d:Option Nat) (r:List br) (K:St→Prop) (f:Nat→V) (h:aL) (u:Nat→Bool)
def Kx (v:V):Prop:=bh P G r K ⟨bY f d v,h,u⟩
def nv (v:W):Prop:=bh P G r K ⟨bY f d (.w v),h,u⟩
def goC (v:C):Prop:=bh P G r K ⟨bY f d (.w (.c v)),h,u⟩
def Ee (v:D):Prop:=bh P G r K ⟨bY f d (.w (.c (.d v))),h,u⟩
def dS (q:R):Prop:=bh P G r K ⟨bY f d q.1,q.2.1,q.2.2⟩
def Ef (h':aL):Prop:=bh P G r K ⟨bY f d .undef,h',u⟩
def Ze (k:IntKind) (v:IntKind×Int):Prop:=bh P G r K ⟨bY f d (.w (.c (.d (.int k (k.wrap v.2))))),h,u⟩
def Zf (n:Nat):Prop:=bh P G r K ⟨bY f d (.w (.c (.d (.int .i64 (n:Int))))),h,u⟩
def Zg (s:ByteArray):Prop:=bh P G r K ⟨bY f d (.w (.c (.d (.int .i64 (s.size:Int))))),h,u⟩
def Ky (y z:V) (t:Bool):Prop:=bh P G r K ⟨bY f d (bif t then y else z),h,u⟩
def DK (b p q:Bool):Prop:=bh P G r K ⟨bY f d (.w (.c (.d (.bool (bif b then !(p==q) else (p==q)))))),h,u⟩
def Zh (b:Bool) (y:V) (p:Bool):Prop:=bI (eC y) (DK P G d r K f h u b p)
def Zi (k:Kd) (x:V) (w:W):Prop:=bI (aa h k x w) (Ef P G d r K f u)
def Zj (o:Nat) (k:Kd) (cs:List C):Prop:=bI (lq cs o k) (nv P G d r K f h u)
def J8 (s:Nat) (k:Kd) (cs:List C) (j:Nat):Prop:=bI (lq cs (j*s) k) (nv P G d r K f h u)
def Zk (s n:Nat) (k:Kd) (y:SX) (cs:List C):Prop:=bI (kB (ev G f) y n) (J8 P G d r K f h u s k cs)
def Zl (cs:List C):Prop:=bh P G r K ⟨bY f d (.w (je cs)),h,u⟩
def Zm (i:Nat) (ws:List W):Prop:=bI ws[i]? (nv P G d r K f h u)
end
end
section
variable {P:Program} {G:au} {Q:AX→St→Prop} {K:St→Prop} {r:List br} {f:Nat→V} {h:aL} {u:Nat→Bool} {d:Option Nat} {x y z:SX}
theorem LW (a b:bq) (σ:St):yV P G a b Q σ true=cD P G a Q σ:=by simp[yV]
theorem Lq (a b:bq) (σ:St):yV P G a b Q σ false=cD P G b Q σ:=by simp[yV]
theorem QS (o:bR) (w:Bool):qz P G d o w r K f h u w=bh P G (⟨d,o,none⟩::r) K ⟨f,h,u⟩:=by simp[qz]
theorem NK (o:bR):qz P G d o true r K f h u false=bh P G r K ⟨bY f d (.tup []),h,u⟩:=by simp[qz]
theorem NL (o:bR):qz P G d o false r K f h u true=bh P G r K ⟨bY f d (.tup []),h,u⟩:=by simp[qz]
theorem T7 (o:bR) (w t:Bool):yW P G d o w r K f h u (.w (.c (.d (.bool t))))=qz P G d o w r K f h u t:=rfl
theorem LX (o:bR) (w:Bool):yW P G d o w r K f h u (.tup [])=bh P G r K ⟨bY f d (.tup []),h,u⟩:=by simp[yW,eC]
theorem NM (σ:St):cD P G .skip Q σ=Q .nrm σ:=rfl
theorem QT (l:List br) (σ:St):cD P G (.reg l) Q σ=bh P G l (Q .nrm) σ:=rfl
theorem QU (a b:bq) (σ:St):cD P G (.seq a b) Q σ=cD P G a (DJ P G b Q) σ:=by
  show cD P G a _ σ=_
  congr 1
theorem NO (a b:bq):cD P G (.cond x a b) Q ⟨f,h,u⟩=bI (eC (ev G f x)) (yV P G a b Q ⟨f,h,u⟩):=by
  show (match eC (ev G f x) with | some t=>_ | none=>False)=_
  cases eC (ev G f x) <;> rfl
theorem LY (id:Nat) (c:bq) (σ:St):cD P G (.block id c) Q σ=cD P G c (tL id Q) σ:=by
  show cD P G c _ σ=_
  congr 1
theorem NP (id:Nat) (σ:St):cD P G (.exit id) Q σ=Q (.ex id) σ:=rfl
theorem QV (σ:St):cD P G .ret Q σ=Q .ret σ:=rfl
theorem NQ (b:bq) (σ:St):DJ P G b Q .nrm σ=cD P G b Q σ:=rfl
theorem QW (b:bq) (i:Nat) (σ:St):DJ P G b Q (.ex i) σ=Q (.ex i) σ:=rfl
theorem NR (b:bq) (σ:St):DJ P G b Q .ret σ=Q .ret σ:=rfl
theorem NS (id:Nat) (σ:St):tL id Q .nrm σ=Q .nrm σ:=rfl
theorem NT (id:Nat) (σ:St):tL id Q .ret σ=Q .ret σ:=rfl
theorem QX (id:Nat) (σ:St):tL id Q (.ex id) σ=Q .nrm σ:=by simp[tL]
theorem QY (id i:Nat) (σ:St) (hn:(i==id)=false):tL id Q (.ex i) σ=Q (.ex i) σ:=by
  have:i≠id:=by simpa using hn
  simp[tL,this]
theorem NU (l:List (Nat×Option Kd)) (res:V) (σ:St):yU l res .nrm σ=fb σ l res:=rfl
theorem NV (l:List (Nat×Option Kd)) (res:V) (σ:St):yU l res .ret σ=fb σ l res:=rfl
theorem NW (σ:St):bh P G [] K σ=K σ:=rfl
theorem NY (s:bR) (t:Nat) (b:Bool):bh P G (⟨d,s,some (t,b)⟩::r) K ⟨f,h,u⟩=yW P G d s b r K f h u (f t):=by
  show (match eC (f t) with | some c=>_ | none=>_)=_
  unfold yW;cases eC (f t) with
  | none=>rfl
  | some c =>
    simp only[qz];cases c <;> cases b <;> simp <;> rfl
def bR.isCall:bR→Bool | .call ..=>true | .callM ..=>true | _=>false
theorem db (s:bR) (hs:s.isCall=false):bh P G (⟨d,s,none⟩::r) K ⟨f,h,u⟩=bI (ef (ev G f) h u (d.getD 0) s) (dS P G d r K f):=by
  have key:∀ J:R→Prop,ou P G s (ev G f) h u (d.getD 0) J=bI (ef (ev G f) h u (d.getD 0) s) J:=by
    intro J;have m:∀ o:Option R,(match o with | some r=>J r | none=>False)=bI o J:=fun o=>by cases o <;> rfl
    rw[← m];cases s <;> first | rfl | (simp[bR.isCall] at hs; done)
  exact key _
theorem T8 (v:V):Kx P G d r K f h u v=bh P G r K ⟨bY f d v,h,u⟩:=rfl
theorem T9 (v:W):nv P G d r K f h u v=bh P G r K ⟨bY f d (.w v),h,u⟩:=rfl
theorem Ua (v:C):goC P G d r K f h u v=bh P G r K ⟨bY f d (.w (.c v)),h,u⟩:=rfl
theorem Ub (v:D):Ee P G d r K f h u v=bh P G r K ⟨bY f d (.w (.c (.d v))),h,u⟩:=rfl
theorem Uc (v:V) (h':aL) (u':Nat→Bool):dS P G d r K f (v,h',u')=bh P G r K ⟨bY f d v,h',u'⟩:=rfl
theorem Ud (h':aL):Ef P G d r K f u h'=bh P G r K ⟨bY f d .undef,h',u⟩:=rfl
theorem Ue (k k':IntKind) (n:Int):Ze P G d r K f h u k (k',n)=bh P G r K ⟨bY f d (.w (.c (.d (.int k (k.wrap n))))),h,u⟩:=rfl
theorem Uf (n:Nat):Zf P G d r K f h u n=bh P G r K ⟨bY f d (.w (.c (.d (.int .i64 (n:Int))))),h,u⟩:=rfl
theorem Ug (s:ByteArray):Zg P G d r K f h u s=bh P G r K ⟨bY f d (.w (.c (.d (.int .i64 (s.size:Int))))),h,u⟩:=rfl
theorem NZ (y z:V):Ky P G d r K f h u y z true=bh P G r K ⟨bY f d y,h,u⟩:=rfl
theorem LZ (y z:V):Ky P G d r K f h u y z false=bh P G r K ⟨bY f d z,h,u⟩:=rfl
theorem Uh (p q:Bool):DK P G d r K f h u true p q=bh P G r K ⟨bY f d (.w (.c (.d (.bool (!(p==q)))))),h,u⟩:=rfl
theorem Ui (p q:Bool):DK P G d r K f h u false p q=bh P G r K ⟨bY f d (.w (.c (.d (.bool (p==q))))),h,u⟩:=rfl
theorem Uj (b:Bool) (y:V) (p:Bool):Zh P G d r K f h u b y p=bI (eC y) (DK P G d r K f h u b p):=rfl
theorem Uk (k:Kd) (v:V) (w:W):Zi P G d r K f h u k v w=bI (aa h k v w) (Ef P G d r K f u):=rfl
theorem Ul (o:Nat) (k:Kd) (cs:List C):Zj P G d r K f h u o k cs=bI (lq cs o k) (nv P G d r K f h u):=rfl
theorem QZ (s:Nat) (k:Kd) (cs:List C) (j:Nat):J8 P G d r K f h u s k cs j=bI (lq cs (j*s) k) (nv P G d r K f h u):=rfl
theorem Um (s n:Nat) (k:Kd) (w:SX) (cs:List C):Zk P G d r K f h u s n k w cs=bI (kB (ev G f) w n) (J8 P G d r K f h u s k cs):=rfl
theorem Un (cs:List C):Zl P G d r K f h u cs=bh P G r K ⟨bY f d (.w (je cs)),h,u⟩:=rfl
theorem Uo (i:Nat) (ws:List W):Zm P G d r K f h u i ws=bI ws[i]? (nv P G d r K f h u):=rfl
theorem XA :bh P G (⟨d,.mv x,none⟩::r) K ⟨f,h,u⟩=bh P G r K ⟨bY f d (ev G f x),h,u⟩:=rfl
theorem L0 (n:Nat):bh P G (⟨d,.lenArr n,none⟩::r) K ⟨f,h,u⟩=bh P G r K ⟨bY f d (.w (.c (.d (.int .i64 n)))),h,u⟩:=rfl
theorem Q0 :bh P G (⟨d,.pick x y z,none⟩::r) K ⟨f,h,u⟩=bI (eC (ev G f x)) (Ky P G d r K f h u (ev G f y) (ev G f z)):=by
  rw[db _ rfl];simp only[ef];cases eC (ev G f x) with
  | none=>rfl
  | some t=>cases t <;> rfl
theorem Up (op:BinOp):bh P G (⟨d,.bin op x y,none⟩::r) K ⟨f,h,u⟩=bI (dc op (ev G f x) (ev G f y)) (Ee P G d r K f h u):=by
  rw[db _ rfl]; exact iO _ _ _
theorem Uq (b:Bool) (ks:List Nat):bh P G (⟨d,.eqA b ks x y,none⟩::r) K ⟨f,h,u⟩=bI (zn b ks (ev G f x) (ev G f y)) (Ee P G d r K f h u):=by
  rw[db _ rfl]; exact iO _ _ _
theorem XB (op:UnOp):bh P G (⟨d,.un op x,none⟩::r) K ⟨f,h,u⟩=bI (pI op (ev G f x)) (Ee P G d r K f h u):=by
  rw[db _ rfl]; exact iO _ _ _
theorem Q1 (k:IntKind):bh P G (⟨d,.conv k x,none⟩::r) K ⟨f,h,u⟩=bI (fX (ev G f x)) (Ze P G d r K f h u k):=by
  rw[db _ rfl]; exact iO _ _ _
theorem Ur (b:Bool):bh P G (⟨d,.eqB b x y,none⟩::r) K ⟨f,h,u⟩=bI (eC (ev G f x)) (Zh P G d r K f h u b (ev G f y)):=by
  rw[db _ rfl];simp only[ef];cases hp:eC (ev G f x) with
  | none=>rfl
  | some p =>
    show _=bI (eC (ev G f y)) _
    cases eC (ev G f y) with
    | none=>rfl
    | some q=>cases b <;> rfl
theorem Us :bh P G (⟨d,.len x,none⟩::r) K ⟨f,h,u⟩=bI (me (ev G f x)) (Zf P G d r K f h u):=by
  rw[db _ rfl]; exact iO _ _ _
theorem Ma :bh P G (⟨d,.lenStr x,none⟩::r) K ⟨f,h,u⟩=bI (DI (ev G f x)) (Zg P G d r K f h u):=by
  rw[db _ rfl];have:ef (ev G f) h u (d.getD 0) (.lenStr x)=(DI (ev G f x)).map fun s=>(vd (.int .i64 s.size),h,u):=by
    simp only[ef];unfold DI;split
    ·rename_i e; rw[e]; rfl
    ·rename_i hn;split
     ·rename_i e; exact absurd e (hn _)
     ·rfl
  rw[this];exact iO _ _ _
theorem Q2 (k:Kd):bh P G (⟨d,.load k x,none⟩::r) K ⟨f,h,u⟩=bI (ee h k (ev G f x)) (nv P G d r K f h u):=by
  rw[db _ rfl]; exact iO _ _ _
theorem Oa (k:Kd):bh P G (⟨d,.loadB k x,none⟩::r) K ⟨f,h,u⟩=bI (gv h k (ev G f x)) (nv P G d r K f h u):=by
  rw[db _ rfl]; exact iO _ _ _
theorem Mb (k:Kd):bh P G (⟨d,.loadX k x [],none⟩::r) K ⟨f,h,u⟩=bI (jv h k [] (ev G f x)) (nv P G d r K f h u):=by
  rw[db _ rfl]; exact iO _ _ _
theorem Mc (k:Kd):bh P G (⟨d,.loadX k x [y],none⟩::r) K ⟨f,h,u⟩=bI (jv h k [ev G f y] (ev G f x)) (nv P G d r K f h u):=by
  rw[db _ rfl]; exact iO _ _ _
theorem Md (k:Kd):bh P G (⟨d,.loadX k x [y,z],none⟩::r) K ⟨f,h,u⟩=bI (jv h k [ev G f y,ev G f z] (ev G f x)) (nv P G d r K f h u):=by
  rw[db _ rfl]; exact iO _ _ _
theorem Oc (k:Kd):bh P G (⟨d,.store k x y,none⟩::r) K ⟨f,h,u⟩=bI (lj (ev G f y)) (Zi P G d r K f h u k (ev G f x)):=by
  rw[db _ rfl];simp only[ef];cases lj (ev G f y) with
  | none=>rfl
  | some w=>exact iO _ _ _
theorem KP (o:Nat):bh P G (⟨d,.fieldAddr o x,none⟩::r) K ⟨f,h,u⟩=bI (wK o (ev G f x)) (goC P G d r K f h u):=by
  rw[db _ rfl]; exact iO _ _ _
theorem Od (o:Nat) (k:Kd):bh P G (⟨d,.field o k x,none⟩::r) K ⟨f,h,u⟩=bI (iS (ev G f x)) (Zj P G d r K f h u o k):=by
  rw[db _ rfl];simp only[ef];cases iS (ev G f x) with
  | none=>rfl
  | some w=>exact iO _ _ _
theorem Me (s n:Nat) (k:Kd):bh P G (⟨d,.idxArr s n k x y,none⟩::r) K ⟨f,h,u⟩=bI (iS (ev G f x)) (Zk P G d r K f h u s n k y):=by
  rw[db _ rfl];simp only[ef];cases iS (ev G f x) with
  | none=>rfl
  | some w =>
    show _=bI (kB (ev G f) y n) _
    cases kB (ev G f) y n with
    | none=>rfl
    | some j=>exact iO _ _ _
theorem Lr (i:Nat):bh P G (⟨d,.extract x i,none⟩::r) K ⟨f,h,u⟩=bI (YQ (ev G f x)) (Zm P G d r K f h u i):=by
  rw[db _ rfl];simp only[ef];cases ev G f x with
  | tup ws=>exact iO _ _ _
  | _=>rfl
theorem Oe (c:List C) (ps:List (Nat×Nat×SX)):bh P G (⟨d,.build c ps,none⟩::r) K ⟨f,h,u⟩=bI (parts (ev G f) ps c) (Zl P G d r K f h u):=by
  rw[db _ rfl]; exact iO _ _ _
theorem Of (c:List C):bh P G (⟨d,.alloc c,none⟩::r) K ⟨f,h,u⟩=bI (ef (ev G f) h u (d.getD 0) (.alloc c)) (dS P G d r K f):=db _ rfl
theorem K0 (c:List D):bh P G (⟨d,.allocArr c,none⟩::r) K ⟨f,h,u⟩=bI (ef (ev G f) h u (d.getD 0) (.allocArr c)) (dS P G d r K f):=db _ rfl
theorem Mf (s:Nat):bh P G (⟨d,.nilOwn s,none⟩::r) K ⟨f,h,u⟩=bI (ef (ev G f) h u (d.getD 0) (.nilOwn s)) (dS P G d r K f):=db _ rfl
theorem Ut (m:Bx):bh P G (⟨d,.box m x,none⟩::r) K ⟨f,h,u⟩=bI (ef (ev G f) h u (d.getD 0) (.box m x)) (dS P G d r K f):=db _ rfl
theorem Og (b:Bool) (n s:Nat) (c:D) (ps:List (Nat×SX)):bh P G (⟨d,.bldSl b n s c ps,none⟩::r) K ⟨f,h,u⟩=bI (ef (ev G f) h u (d.getD 0) (.bldSl b n s c ps)) (dS P G d r K f):=db _ rfl
theorem Oh (n s:Nat) (c:D) (ps:List (Nat×SX)):bh P G (⟨d,.bldFz n s c ps,none⟩::r) K ⟨f,h,u⟩=bI (ef (ev G f) h u (d.getD 0) (.bldFz n s c ps)) (dS P G d r K f):=db _ rfl
theorem Mg (c:List C) (ps:List (Nat×Nat×SX)):bh P G (⟨d,.buildF c ps,none⟩::r) K ⟨f,h,u⟩=bI (ef (ev G f) h u (d.getD 0) (.buildF c ps)) (dS P G d r K f):=db _ rfl
theorem Uu :bh P G (⟨d,.b2s x,none⟩::r) K ⟨f,h,u⟩=bI (ef (ev G f) h u (d.getD 0) (.b2s x)) (dS P G d r K f):=db _ rfl
theorem Uv (b:Bool):bh P G (⟨d,.s2b b x,none⟩::r) K ⟨f,h,u⟩=bI (ef (ev G f) h u (d.getD 0) (.s2b b x)) (dS P G d r K f):=db _ rfl
theorem Q3 (w:Bool) (s b:Nat) (c:D):bh P G (⟨d,.make w s b c x y,none⟩::r) K ⟨f,h,u⟩=bI (ef (ev G f) h u (d.getD 0) (.make w s b c x y)) (dS P G d r K f):=db _ rfl
theorem Oi (s:Nat) (a b c:Option SX):bh P G (⟨d,.slice s x a b c,none⟩::r) K ⟨f,h,u⟩=bI (ef (ev G f) h u (d.getD 0) (.slice s x a b c)) (dS P G d r K f):=db _ rfl
theorem K5 (a b:Option SX):bh P G (⟨d,.sliceStr x a b,none⟩::r) K ⟨f,h,u⟩=bI (ef (ev G f) h u (d.getD 0) (.sliceStr x a b)) (dS P G d r K f):=db _ rfl
theorem K6 (s n:Nat) (a b:Option SX):bh P G (⟨d,.sliceArr s n x a b,none⟩::r) K ⟨f,h,u⟩=bI (ef (ev G f) h u (d.getD 0) (.sliceArr s n x a b)) (dS P G d r K f):=db _ rfl
theorem Oj (s:Nat):bh P G (⟨d,.idxSl s x y,none⟩::r) K ⟨f,h,u⟩=bI (ef (ev G f) h u (d.getD 0) (.idxSl s x y)) (dS P G d r K f):=db _ rfl
theorem Ol (s n:Nat):bh P G (⟨d,.idxPa s n x y,none⟩::r) K ⟨f,h,u⟩=bI (ef (ev G f) h u (d.getD 0) (.idxPa s n x y)) (dS P G d r K f):=db _ rfl
theorem Mh :bh P G (⟨d,.idxStr x y,none⟩::r) K ⟨f,h,u⟩=bI (ef (ev G f) h u (d.getD 0) (.idxStr x y)) (dS P G d r K f):=db _ rfl
theorem Uw (b:Bool) (s n:Nat):bh P G (⟨d,.app b s n x y,none⟩::r) K ⟨f,h,u⟩=bI (ef (ev G f) h u (d.getD 0) (.app b s n x y)) (dS P G d r K f):=db _ rfl
theorem Q4 (b:Bool) (s n:Nat):bh P G (⟨d,.appN b s n x y,none⟩::r) K ⟨f,h,u⟩=bI (ef (ev G f) h u (d.getD 0) (.appN b s n x y)) (dS P G d r K f):=db _ rfl
theorem Q5 (s:Nat):bh P G (⟨d,.copy s x y,none⟩::r) K ⟨f,h,u⟩=bI (ef (ev G f) h u (d.getD 0) (.copy s x y)) (dS P G d r K f):=db _ rfl
theorem Ux (l:List SX):bh P G (⟨d,.min l,none⟩::r) K ⟨f,h,u⟩=bI (ef (ev G f) h u (d.getD 0) (.min l)) (dS P G d r K f):=db _ rfl
theorem Uy (l:List SX):bh P G (⟨d,.max l,none⟩::r) K ⟨f,h,u⟩=bI (ef (ev G f) h u (d.getD 0) (.max l)) (dS P G d r K f):=db _ rfl
theorem Uz :bh P G (⟨d,.frz x,none⟩::r) K ⟨f,h,u⟩=bI (ef (ev G f) h u (d.getD 0) (.frz x)) (dS P G d r K f):=db _ rfl
theorem Q6 :bh P G (⟨d,.mark x,none⟩::r) K ⟨f,h,u⟩=bI (ef (ev G f) h u (d.getD 0) (.mark x)) (dS P G d r K f):=db _ rfl
theorem Om :bh P G (⟨d,.markF x,none⟩::r) K ⟨f,h,u⟩=bI (ef (ev G f) h u (d.getD 0) (.markF x)) (dS P G d r K f):=db _ rfl
theorem Ls {fn:FuncId} {xs:List SX} {own:Option (Nat×Nat)} {res:V} (h2:qf P G h fn (xs.map (ev G f)) res) (h3:qj h (xs.map (ev G f)) res)
    (e:bI (fM h u (d.getD 0) own res) (dS P G d r K f)) (hp:mb own (xs.map (ev G f))):bh P G (⟨d,.call fn xs own,none⟩::r) K ⟨f,h,u⟩:=by
  have e':(match fM h u (d.getD 0) own res with | some r'=>bh P G r K ⟨bY f d r'.1,r'.2.1,r'.2.2⟩ | none=>False):=by
    revert e
    cases fM h u (d.getD 0) own res <;> exact fun h=>h
  exact⟨res,h2,h3,hp,e'⟩
theorem Fc {fn:FuncId} {xs:List SX} {own:Option (Nat×Nat)} {res:V} (h2:qf P G h fn (xs.map (ev G f)) res) (h3:((xs.map (ev G f)).any V.hasOwn=false∨res.flat=true))
    (e:bI (fM h u (d.getD 0) own res) (dS P G d r K f)) (hp:mb own (xs.map (ev G f))):bh P G (⟨d,.call fn xs own,none⟩::r) K ⟨f,h,u⟩ :=
  Ls h2 (fun hh=>by rcases h3 with h3 | h3; (· rw[h3] at hh; cases hh); exact .inl h3) e hp
theorem ace {fn:FuncId} {xs:List SX} {own:Option (Nat×Nat)} {ds:List D} {res:V} (h2:aF P G fn ds res) (h1:fo h (xs.map (ev G f))=some ds) (h3:res.byt=true) (h4:vJ (xs.map (ev G f)) ds=true)
    (e:bI (fM h u (d.getD 0) own res) (dS P G d r K f)) (hne:fn≠jt:=by decide) (hp:mb own (xs.map (ev G f)):=by first | exact uC _ | exact uS _ _ _ | exact uD _ _ rfl):bh P G (⟨d,.call fn xs own,none⟩::r) K ⟨f,h,u⟩ :=
  Ls (.inl ⟨hne,ds,h1,h2⟩) (fun _=>.inr ⟨h3,ds,h1,h4⟩) e hp
theorem bK {fn:FuncId} {xs:List SX} {own:Option (Nat×Nat)} {ds:List D} {res:V} (h2:aF P G fn ds res) (h1:fo h (xs.map (ev G f))=some ds) (h3:((xs.map (ev G f)).any V.hasOwn=false∨res.flat=true))
    (e:bI (fM h u (d.getD 0) own res) (dS P G d r K f)) (hne:fn≠jt:=by decide) (hp:mb own (xs.map (ev G f)):=by first | exact uC _ | exact uS _ _ _ | exact uD _ _ rfl):bh P G (⟨d,.call fn xs own,none⟩::r) K ⟨f,h,u⟩ :=
  Fc (.inl ⟨hne,ds,h1,h2⟩) h3 e hp
theorem sC {fn:FuncId} {xs:List SX} {own:Option (Nat×Nat)} {ds:List D} {res:V} (h2:aF P G fn ds res) (e:bI (fM h u (d.getD 0) own res) (dS P G d r K f)) (h1:fo h (xs.map (ev G f))=some ds:=by exact rfl)
    (h3:((xs.map (ev G f)).any V.hasOwn=false∨res.flat=true):=by exact .inl rfl) (hne:fn≠jt:=by decide) (hp:mb own (xs.map (ev G f)):=by first | exact uC _ | exact uS _ _ _ | exact uD _ _ rfl):bh P G (⟨d,.call fn xs own,none⟩::r) K ⟨f,h,u⟩ :=
  bK h2 h1 h3 e hne hp
theorem uG {g:FuncId} {caps:List D} {xs:List SX} {own:Option (Nat×Nat)} {ds:List D} {res:V} (h2:oc P G g caps ds res) (h1:fo h (xs.map (ev G f))=some (.fn g caps::ds)) (h3:((xs.map (ev G f)).any V.hasOwn=false∨res.flat=true))
    (e:bI (fM h u (d.getD 0) own res) (dS P G d r K f)) (hp:mb own (xs.map (ev G f)):=by first | exact uC _ | exact uS _ _ _ | exact uD _ _ rfl):bh P G (⟨d,.call 1000000007 xs own,none⟩::r) K ⟨f,h,u⟩ :=
  Fc (.inr (.inl ⟨rfl,g,caps,ds,h1,h2⟩)) h3 e hp
theorem acf {fn:FuncId} {xs:List SX} {own:Option (Nat×Nat)} {ws:List W} {res:V} (h2:yT P G fn ws res) (h1:xs.map (ev G f)=ws.map V.w) (h4:ws.all W.isPure=true) (h3:((xs.map (ev G f)).any V.hasOwn=false∨res.flat=true))
    (e:bI (fM h u (d.getD 0) own res) (dS P G d r K f)) (hne:fn≠jt:=by decide) (hp:mb own (xs.map (ev G f)):=by first | exact uC _ | exact uS _ _ _ | exact uD _ _ rfl):bh P G (⟨d,.call fn xs own,none⟩::r) K ⟨f,h,u⟩ :=
  Fc (.inr (.inr ⟨hne,ws,h1,aoE.1 h4,h2⟩)) h3 e hp
theorem Q7 {α:Type} (f:Nat→α) (i j:Nat) (x:α) (h:(j==i)=false):upd f i x j=f j:=upd_ne f x (by simpa using h)
theorem Mi {α:Type} (f:Nat→α) (i:Nat) (x:α):bY f (some i) x=upd f i x:=rfl
theorem Mj {α:Type} (f:Nat→α) (x:α):bY f none x=f:=rfl
theorem YR (n:Nat):ev G f (.t n)=f n:=rfl
theorem YS (v:W):ev G f (.k v)=.w v:=rfl
def uf:Nat→V:=fun _=>.undef
def hN:aL:=fun _=>none
def uN:Nat→Bool:=fun _=>false
def ai:Nat→List D→(Nat→V)→Nat→V
  | _,[],f=>f
  | i,x::r,f=>ai (i+1) r (upd f i (.w (.c (.d x))))
theorem Lt:∀ (l:List D) (i:Nat) (f:Nat→V) (t:Nat),ai i l f t=if i≤t then (match l[t-i]? with | some x=>vd x | none=>f t) else f t
  | [],i,f,t=>by simp[ai]
  | x::l,i,f,t=>by
    rw[ai,Lt l (i+1)];by_cases h:i=t
    ·subst h;rw[if_neg (by omega),if_pos (aoz _)];simp[upd,vd]
    ·by_cases h2:i≤t
     ·rw[if_pos (by omega),if_pos h2];have:t-i=(t-(i+1))+1:=by omega
      rw[this,ao2];cases l[t-(i+1)]? with
      | some y=>rfl
      | none=>simp[upd,show t≠i from fun e=>h e.symm]
     ·rw[if_neg (by omega),if_neg h2];simp[upd,show t≠i from fun e=>h e.symm]
theorem entry_eq (args:List D):entry args=⟨ai 0 args uf,hN,uN⟩:=by
  unfold entry
  congr 1
  funext t
  rw[Lt];simp only[aoy,if_true,Nat.sub_zero];rfl
theorem UA (i:Nat):hN i=none:=rfl
theorem UB (i:Nat):uN i=false:=rfl
theorem UC (i:Nat):uf i=.undef:=rfl
theorem aT {F:FuncId} {fn:Func} {sf:aK} {H:Hint} (hf:P.funcs[F]?=some fn) (hc:aI P H fn=some sf) {args:List D} {res:V} {f0:Nat→V} (hlen:args.length=sf.np) (h0:ai 0 args uf=f0)
    (e:cD P G sf.body (yU sf.res res) ⟨f0,hN,uN⟩):aF P G F args res:=by
  refine ah2 hf hc hlen ?_;rw[entry_eq,h0];exact e
end
theorem UD (k:IntKind) (n:Int):fX (.w (.c (.d (.int k n))))=some (k,n):=rfl
theorem UE (b:Bool):eC (.w (.c (.d (.bool b))))=some b:=rfl
theorem UF (w:W):lj (.w w)=some w:=rfl
theorem UG (cs:List D):iS (.w (.c (.d (.agg cs))))=some (cs.map C.d):=rfl
theorem UH (cs:List C):iS (.w (.mix cs))=some cs:=rfl
theorem Q8 (s:ByteArray):DI (.w (.c (.d (.str s))))=some s:=rfl
theorem Q9 (ws:List W):YQ (.tup ws)=some ws:=rfl
theorem UI (es:List D):me (.w (.c (.d (.sl es))))=some es.length:=rfl
theorem On:me (.w (.c .nil))=some 0:=rfl
theorem Oo (id sz off n:Nat):me (.w (.c (.own id sz off n)))=some n:=rfl
theorem Ra (off id sz i o:Nat):wK off (.w (.c (.ptr id sz i o)))=some (.ptr id sz i (o+off)):=rfl
theorem UJ (off:Nat) (cs:List D):wK off (.w (.c (.rp cs)))=some (.rp (cs.drop off)):=rfl
theorem Oq (op:BinOp) (k k':IntKind) (a b:Int):dc op (.w (.c (.d (.int k a)))) (.w (.c (.d (.int k' b))))=cO op k a k' b:=rfl
theorem Or (op:BinOp) (a b:ByteArray):dc op (.w (.c (.d (.str a)))) (.w (.c (.d (.str b))))=pn op a b:=rfl
theorem Ai (k:IntKind) (a b:Int):cO .add k a k b=some (.int k (k.wrap (a+b))):=by simp[cO]
theorem Ot (k:IntKind) (a b:Int):cO .sub k a k b=some (.int k (k.wrap (a-b))):=by simp[cO]
theorem FW (k:IntKind) (a b:Int):cO .mul k a k b=some (.int k (k.wrap (a*b))):=by simp[cO]
theorem Aj (k:IntKind) (a b:Int):cO .eql k a k b=some (.bool (if a=b then true else false)):=by
  simp only[cO,ne_eq,not_true_eq_false,if_false,aov,D.bool.injEq];by_cases h:a=b <;> simp[h]
theorem Ak (k:IntKind) (a b:Int):cO .neq k a k b=some (.bool (if a=b then false else true)):=by
  simp only[cO,ne_eq,not_true_eq_false,if_false,aov,D.bool.injEq];by_cases h:a=b <;> simp[h]
theorem Ou (k:IntKind) (a b:Int):cO .lss k a k b=some (.bool (if a<b then true else false)):=by
  simp only[cO,ne_eq,not_true_eq_false,if_false,aov,D.bool.injEq];by_cases h:a<b <;> simp[h]
theorem Ov (k:IntKind) (a b:Int):cO .leq k a k b=some (.bool (if a≤b then true else false)):=by
  simp only[cO,ne_eq,not_true_eq_false,if_false,aov,D.bool.injEq];by_cases h:a≤b <;> simp[h]
theorem Ow (k:IntKind) (a b:Int):cO .gtr k a k b=some (.bool (if a>b then true else false)):=by
  simp only[cO,ne_eq,not_true_eq_false,if_false,aov,D.bool.injEq];by_cases h:a>b <;> simp[h]
theorem Ox (k:IntKind) (a b:Int):cO .geq k a k b=some (.bool (if a≥b then true else false)):=by
  simp only[cO,ne_eq,not_true_eq_false,if_false,aov,D.bool.injEq];by_cases h:a≥b <;> simp[h]
theorem Al (k:IntKind) (a b:Int):cO .and k a k b=some (.int k (bits .and k a b)):=by simp[cO]
theorem A0 (k:IntKind) (a b:Int):cO .or k a k b=some (.int k (bits .or k a b)):=by simp[cO]
theorem Am (k:IntKind) (a b:Int):cO .xor k a k b=some (.int k (bits .xor k a b)):=by simp[cO]
theorem K7 (k:IntKind) (a b:Int):cO .andNot k a k b=some (.int k (bits .andNot k a b)):=by simp[cO]
theorem An (k k':IntKind) (a b:Int) (h:0≤b):cO .shl k a k' b=some (.int k (k.wrap (a*2^min b.toNat k.bits))):=by simp[cO,h]
theorem Ao (k k':IntKind) (a b:Int) (h:0≤b):cO .shr k a k' b=some (.int k (a / 2^min b.toNat k.bits)):=by simp[cO,h]
theorem Oy (k:IntKind) (a b:Int) (h:b≠0):cO .quo k a k b=some (.int k (k.wrap (a.tdiv b))):=by simp[cO,h]
theorem Oz (k:IntKind) (a b:Int) (h:b≠0):cO .rem k a k b=some (.int k (a.tmod b)):=by simp[cO,h]
theorem Re (k:IntKind) (n:Int):pI .neg (.w (.c (.d (.int k n))))=some (.int k (k.wrap (0-n))):=rfl
theorem Rf (b:Bool):pI .not (.w (.c (.d (.bool b))))=some (.bool !b):=rfl
theorem Rh (k:IntKind) (n:Int):pI .xor (.w (.c (.d (.int k n))))=some (.int k (bits .xor k (if k.signed then -1 else k.max) n)):=rfl
theorem Ri (h:aL) (u:Nat→Bool) (n:Nat) (o:Ob) (c:C) (hu:u (8*n)=false):eS h u n o c=some (.w (.c c),upd h (8*n) (some o),upd u (8*n) true):=uU hu
theorem OA (ρ:SX→V) (h:aL) (u:Nat→Bool) (n:Nat) (c:List C):ef ρ h u n (.alloc c)=eS h u n (.box c) (.ptr (8*n) 1 0 0):=rfl
theorem K8 (ρ:SX→V) (h:aL) (u:Nat→Bool) (n:Nat) (c:List D):ef ρ h u n (.allocArr c)=eS h u n (.row 1 c) (.pa (8*n) 1):=rfl
theorem Mk (ρ:SX→V) (h:aL) (u:Nat→Bool) (n s:Nat):ef ρ h u n (.nilOwn s)=eS h u n (.row s []) (.own (8*n) s 0 0):=rfl
theorem Rj (kd:Kd) (y:W) (i o:Nat) (cs:List C):ot kd y i o (.box cs)=if (dU y).length=kd.size∧i+o+kd.size≤cs.length then some (.box (eH cs (i+o) (dU y))) else none:=rfl
theorem XC (n d:Nat):(some n).getD d=n:=rfl
theorem UK (h:aL) (k:Kd) (cs:List D):jv h k [] (.w (.c (.rp cs)))=ee h k (.w (.c (.rp cs))):=rfl
theorem UL (h:aL) (k:Kd) (es:List D):jv h k [] (.w (.c (.ra es)))=ee h k (.w (.c (.ra es))):=rfl
theorem XD (h:aL) (k:Kd) (x:D):jv h k [] (.w (.c (.d x)))=ee h k (.w (.c (.d x))):=rfl
theorem XE (h:aL) (k:Kd) (j a b c i d e g:Nat):jv h k [.w (.c (.ptr j a b c))] (.w (.c (.ptr i d e g)))=if i=j then none else ee h k (.w (.c (.ptr i d e g))):=by
  unfold jv wj;by_cases hij:i=j
  ·simp[V.ids,W.ids,C.ids,hij]
  ·simp[V.ids,W.ids,C.ids,hij]
theorem XF (h:aL) (k:Kd) (j a b c l m n q i d e g:Nat):jv h k [.w (.c (.ptr j a b c)),.w (.c (.ptr l m n q))] (.w (.c (.ptr i d e g)))=if i=j then none else if i=l then none else ee h k (.w (.c (.ptr i d e g))):=by
  unfold jv wj;by_cases hij:i=j
  ·simp[V.ids,W.ids,C.ids,hij]
  ·by_cases hil:i=l
   ·simp[V.ids,W.ids,C.ids,hil]
   ·simp[V.ids,W.ids,C.ids,hij,hil]
abbrev nN {p:Prop} (_:p):Prop:=p
theorem sx:nN (jR @NM (jR @QT (jR @QU (jR @NO (jR @LY (jR @NP (jR @QV (jR @NQ (jR @QW (jR @NR (jR @NS (jR @NT (jR @QX (jR @QY (jR @NU (jR @NV (jR @NW (jR @NY (jR @T7 (jR @LX (jR @LU (jR @LW (jR @Lq (jR @QS (jR @NK (jR @NL (jR @T8 (jR @T9 (jR @Ua (jR @Ub (jR @Uc (jR @Ud (jR @Ue (jR @Uf (jR @Ug (jR @NZ (jR @LZ (jR @Uh (jR @Ui (jR @Uj (jR @Uk (jR @Ul (jR @QZ (jR @Um (jR @Un (jR @Uo (jR @XA (jR @L0 (jR @Q0 (jR @Up (jR @Uq (jR @XB (jR @Q1 (jR @Ur (jR @Us (jR @Ma (jR @Q2 (jR @Oa (jR @Mb (jR @Mc (jR @Md (jR @Oc (jR @KP (jR @Od (jR @Me (jR @Lr (jR @Oe (jR @Of (jR @K0 (jR @Mf (jR @Ut (jR @Og (jR @Oh (jR @Mg (jR @Uu (jR @Uv (jR @Q3 (jR @Oi (jR @K5 (jR @K6 (jR @Oj (jR @Ol (jR @Mh (jR @Uw (jR @Q4 (jR @Q5 (jR @Ux (jR @Uy (jR @Uz (jR @Q6 (jR @Om (jR @upd_same (jR @Q7 (jR @UA (jR @UB (jR @UC (jR @Mi (jR @Mj (jR @YR (jR @YS (jR @UK (jR @UL (jR @XD (jR @XE (jR @XF (jR @UD (jR @UE (jR @UF (jR @UG (jR @UH (jR @Q8 (jR @Q9 (jR @UI (jR @On (jR @Oo (jR @Ra (jR @UJ (jR @Oq (jR @Or (jR @Ai (jR @Ot (jR @FW (jR @Aj (jR @Ak (jR @Ou (jR @Ov (jR @Ow (jR @Ox (jR @Al (jR @A0 (jR @Am (jR @K7 (jR @An (jR @Ao (jR @Oy (jR @Oz (jR @Re (jR @Rf (jR @Rh (jR @Ri (jR @OA (jR @K8 (jR @Mk (@XC)))))))))))))))))))))))))))))))))))))))))))))))))))))))))))))))))))))))))))))))))))))))))))))))))))))))))))))))))))))))))))))))))))))))))))))))):=jR @NM (jR @QT (jR @QU (jR @NO (jR @LY (jR @NP (jR @QV (jR @NQ (jR @QW (jR @NR (jR @NS (jR @NT (jR @QX (jR @QY (jR @NU (jR @NV (jR @NW (jR @NY (jR @T7 (jR @LX (jR @LU (jR @LW (jR @Lq (jR @QS (jR @NK (jR @NL (jR @T8 (jR @T9 (jR @Ua (jR @Ub (jR @Uc (jR @Ud (jR @Ue (jR @Uf (jR @Ug (jR @NZ (jR @LZ (jR @Uh (jR @Ui (jR @Uj (jR @Uk (jR @Ul (jR @QZ (jR @Um (jR @Un (jR @Uo (jR @XA (jR @L0 (jR @Q0 (jR @Up (jR @Uq (jR @XB (jR @Q1 (jR @Ur (jR @Us (jR @Ma (jR @Q2 (jR @Oa (jR @Mb (jR @Mc (jR @Md (jR @Oc (jR @KP (jR @Od (jR @Me (jR @Lr (jR @Oe (jR @Of (jR @K0 (jR @Mf (jR @Ut (jR @Og (jR @Oh (jR @Mg (jR @Uu (jR @Uv (jR @Q3 (jR @Oi (jR @K5 (jR @K6 (jR @Oj (jR @Ol (jR @Mh (jR @Uw (jR @Q4 (jR @Q5 (jR @Ux (jR @Uy (jR @Uz (jR @Q6 (jR @Om (jR @upd_same (jR @Q7 (jR @UA (jR @UB (jR @UC (jR @Mi (jR @Mj (jR @YR (jR @YS (jR @UK (jR @UL (jR @XD (jR @XE (jR @XF (jR @UD (jR @UE (jR @UF (jR @UG (jR @UH (jR @Q8 (jR @Q9 (jR @UI (jR @On (jR @Oo (jR @Ra (jR @UJ (jR @Oq (jR @Or (jR @Ai (jR @Ot (jR @FW (jR @Aj (jR @Ak (jR @Ou (jR @Ov (jR @Ow (jR @Ox (jR @Al (jR @A0 (jR @Am (jR @K7 (jR @An (jR @Ao (jR @Oy (jR @Oz (jR @Re (jR @Rf (jR @Rh (jR @Ri (jR @OA (jR @K8 (jR @Mk (@XC)))))))))))))))))))))))))))))))))))))))))))))))))))))))))))))))))))))))))))))))))))))))))))))))))))))))))))))))))))))))))))))))))))))))))))))))
end Go.Proofs.YtofonnokanoflaaGreatDoor
