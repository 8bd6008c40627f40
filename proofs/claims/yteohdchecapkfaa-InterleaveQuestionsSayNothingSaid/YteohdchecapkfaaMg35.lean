/- Texts of one's own, merged: from: The plain logic (16): regions,in the order of the text and in any order that the edges allow. Own work. -/
import Derived.Orders
import Derived.OrdersIn
import Derived.Test.YteohdchecapkfaaMg34
set_option linter.unusedVariables false
set_option linter.unusedSimpArgs false
namespace Go.Proofs.Yteohdchecapkfaa
open Go.RowKit
def ue (N:Nat):Option Nat→Bool | some d=>decide (d<N) | none=>true
def cV (P:Program) (H:Hint) (ops:Array Oper) (N:Nat) (o:Oper):Option al :=
  match gj P H o with
  | some so=>if ue N o.dst=true then
      match o.guard with
      | none=>some ⟨o.dst,so,none⟩
      | some (j,want)=>match (ops[j]?).bind (·.dst) with
        | some t=>some ⟨o.dst,so,some (t,want)⟩
        | none=>none
    else none
  | none=>none
def fj (ms:List Nat) (o:Oper):Nat:=o.after.toList.foldl (fun m e=>if Region.binds .any e=true then m ||| (2^e.on) ||| ms.getD e.on 0 else m) 0
def ug:List Oper→List Nat→List Nat
  | [],acc=>acc
  | o::r,acc=>ug r (acc++[fj acc o])
def ki (ms:List Nat) (ops:List Oper) (cs:List al):Bool :=
  (List.range ops.length).all fun i=>match ops[i]?,cs[i]? with
    | some o,some so=>(ms.getD i 0==fj ms o)&&o.after.toList.all (fun e=>!Region.binds .any e || decide (e.on<i)) &&
        (List.range i).all fun j=>(ms.getD i 0).testBit j || (match cs[j]? with | some sj=>sj.indep so | none=>false)
    | _,_=>false
def jc (P:Program) (H:Hint) (N:Nat) (ops:Array Oper) (draws:Bool):Option (List al) :=
  match av (cV P H ops N) ops.toList with
  | some cs=>if draws=false then some cs else if P.follows .mixedOrders=true∧ki (ug ops.toList []) ops.toList cs=true then some cs else none
  | none=>none
section
variable {P:Program} {G:ap} {N:Nat} {Sin:ae} {w0:Gh} {σ:St} {a:Act} {w:World} {S:ae} {m:Mp} {H:Hint} {ops:Array Oper} {K:St→Prop} {Q:Exit→Act→World→Prop}
theorem lq {o:Oper} {so:al} (h:cV P H ops N o=some so):gj P H o=some so.op∧so.dst=o.dst∧(∀ t,o.dst=some t→t<N) ∧
    ((o.guard=none∧so.guard=none)∨∃ j t want,o.guard=some (j,want)∧so.guard=some (t,want)∧(ops[j]?).bind (·.dst)=some t):=by
  unfold cV at h;split at h
  ·rename_i s hs;split at h
   ·rename_i hd;have hd':∀ t,o.dst=some t→t<N:=by
      intro t ht;rw[ht] at hd
      simpa [ue] using hd
    split at h
    ·rename_i hg;cases h;exact⟨hs,rfl,hd',.inl ⟨hg,rfl⟩⟩
    ·rename_i j want hg;split at h
     ·rename_i t ht;cases h;exact⟨hs,rfl,hd',.inr ⟨j,t,want,hg,rfl,ht⟩⟩
     ·cases h
   ·cases h
  ·cases h
theorem jd {i:Nat} {o:Oper} {so:al} (hi:ops[i]?=some o) (hc:cV P H ops N o=some so) (hx:∀ t,so.dst=some t→w0.fx t=none) (h:Inv G N Sin w0 σ a w S m) {r:R} (hr:aT P G so σ r) (hK:K (σ.put so.dst r)):wpOp P ops Q i (Nx G N Sin w0 K) a w:=by
  obtain⟨h1,h2,h3',h4⟩:=lq hc;have h3:∀ t,o.dst=some t→t<N∧w0.fx t=none:=fun t ht=>⟨h3' t ht,hx t (by rw[h2]; exact ht)⟩
  rw[h2] at hK;unfold wpOp;simp only[hi];unfold aT at hr;rcases h4 with ⟨g1,g2⟩ | ⟨j,t,want,g1,g2,g3⟩
  ·rw[g2] at hr;have hw:Region.wanted o (yielded ops a.tmps)=true:=by simp[Region.wanted,g1]
   rw[if_pos hw];exact .inl (nv h h3 h1 (g7.2 ⟨r,h2 ▸ hr,hK⟩))
  ·rw[g2] at hr;have hgone:RV m S w undef (.tup []):=⟨[],rfl,.nil⟩
   rcases hr with ⟨b,hb,hr⟩ | ⟨hu,rfl⟩
   ·have hv:=gk (h.slot t) hb;have hy:yielded ops a.tmps j=some b:=by
      unfold yielded;rw[g3];have:a.tmps[t]?=some (.bool b):=by
        rw[Ar] at hv;cases ht:a.tmps[t]? with
        | none=>rw[ht] at hv; simp[undef] at hv
        | some v=>rw[ht] at hv; simpa using hv
      simp[this]
    by_cases e:b=want
    ·have hw:Region.wanted o (yielded ops a.tmps)=true:=by simp[Region.wanted,g1,hy,e]
     rw[if_pos hw];rcases hr with ⟨_,hr⟩ | ⟨hne,_⟩
     ·exact .inl (nv h h3 h1 (g7.2 ⟨r,h2 ▸ hr,hK⟩))
     ·exact absurd e hne
    ·have hw:¬ Region.wanted o (yielded ops a.tmps)=true:=by simp[Region.wanted,g1,hy,e]
     rw[if_neg hw];rcases hr with ⟨he,_⟩ | ⟨_,rfl⟩
     ·exact absurd he e
     ·exact⟨_,_,_,hK,h.put (x:=.tup []) o.dst h3 hgone fun i hi=>by cases hi⟩
   ·have hv:a.tmps.getD t undef=undef:=by
      have:=h.slot t;rw[hu] at this;obtain⟨us,h5,h6⟩:=this;cases h6;exact h5
    have hy:yielded ops a.tmps j=none:=by
      unfold yielded;rw[g3];rw[Ar] at hv;cases ht:a.tmps[t]? with
      | none=>simp[ht]
      | some v=>rw[ht] at hv; simp only[Option.getD_some] at hv; subst hv; simp[ht,undef]
    have hw:¬ Region.wanted o (yielded ops a.tmps)=true:=by simp[Region.wanted,g1,hy]
    rw[if_neg hw];exact⟨_,_,_,hK,h.put (x:=.tup []) o.dst h3 hgone fun i hi=>by cases hi⟩
theorem xC {i:Nat} {J:Act→World→Prop} (h:wpOp P ops (fun _ _ _=>False) i J a w):∃ a w,J a w:=by
  unfold wpOp at h;split at h
  ·exact⟨_,_,h⟩
  ·rename_i o ho;split at h
   ·rcases h with h | ⟨_,_,_,h⟩
    ·unfold Oper.wp at h;cases hr:(execOp a.eval o).run P w with
     | ok n w' =>
       rw[hr] at h;cases n <;> simp only[Oper.upon] at h <;> first | exact⟨_,_,h⟩ | exact h.elim | skip
       ·obtain⟨e,w2,fr,h1,_⟩:=h [];cases e with
        | returned v=>exact⟨_,_,h1⟩
        | panicked c=>exact h1.elim
        | outgrown=>obtain⟨_,_,h2⟩:=h1; exact h2.elim
       ·obtain⟨v,w2,h1,_⟩:=h default [];exact⟨_,_,h1⟩
     | halt x w' =>
       rw[hr] at h;cases x <;> simp only[Oper.upon] at h <;> exact h.elim
    ·exact h.elim
   ·exact⟨_,_,h⟩
theorem xD {i:Nat} {o:Oper} {so:al} (hi:ops[i]?=some o) (hc:cV P H ops N o=some so) (hx:∀ t,so.dst=some t→w0.fx t=none) (h:Inv G N Sin w0 σ a w S m) {r:R} (hr:aT P G so σ r):∃ a1 w1 S1 m1,Inv G N Sin w0 (σ.put so.dst r) a1 w1 S1 m1:=by
  obtain⟨a1,w1,σ1,S1,m1,h1,h2⟩:=xC (jd (K:=fun s=>s=σ.put so.dst r) hi hc hx h hr rfl);subst h1;exact⟨a1,w1,S1,m1,h2⟩
def fu (P:Program) (H:Hint) (N:Nat) (fx:Nat→Option Value) (ops:Array Oper) (l:List (Nat×al)):Prop:=∀ p∈l,∃ o,ops[p.1]?=some o∧cV P H ops N o=some p.2∧∀ t,p.2.dst=some t→fx t=none
theorem jj (hQ:∀ a w,Nx G N Sin w0 K a w→Q .normal a w):∀ (l:List (Nat×al)) {σ:St} {a:Act} {w:World} {S:ae} {m:Mp},fu P H N w0.fx ops l→Inv G N Sin w0 σ a w S m→ao P G (l.map (·.2)) K σ→wpOps P ops Q (l.map (·.1)) a w
  | [],σ,a,w,S,m,_,h,e=>hQ _ _ ⟨_,_,_,e,h⟩
  | p::l,σ,a,w,S,m,hc,h,e=>by
    rw[z9,wpOps_cons];rw[z9] at e;obtain⟨r,h1,h2⟩:=fb.1 e;obtain⟨o,ho,hco,hfx⟩:=hc p (by simp);refine wpOp_mono ?_ (jd ho hco hfx h h1 h2);rintro a1 w1 ⟨σ1,S1,m1,k1,k2⟩;exact jj hQ l (fun q hq=>hc q (by simp[hq])) k2 k1
theorem nD (h:Inv G N Sin w0 σ a w S m) {z:al} (hz:z.sound=true):∀ o∈z.op.xs,∀ id∈(ev G σ.f o).ids,σ.u id=true:=by
  intro o ho id hid;cases o with
  | t n=>exact h.used n id hid
  | k v =>
    simp only[al.sound,Al,Ai] at hz;have:=hz.1 _ ho;simp only[SX.kok,List.isEmpty_iff] at this;have hid':id∈v.ids:=hid;rw[this] at hid';cases hid'
  | g n =>
    simp only[ev] at hid;split at hid
    ·rename_i c hc;unfold ap.at at hc;simp only[z2] at hc;obtain⟨p,hp,rfl⟩:=hc;have hk:=h.glob p (AG hp);have:=(hk.1.rpra (m':=m) hk.2.1).2;have hid':id∈p.2.ids:=hid;rw[this] at hid';cases hid'
    ·cases hid
  | u=>cases hid
theorem lL {p:Nat×al} {l2:List (Nat×al)}:∀ (l1:List (Nat×al)) {σ:St} {a:Act} {w:World} {S:ae} {m:Mp},fu P H N w0.fx ops (l1++p::l2)→(∀ q∈l1,q.2.indep p.2=true)→Inv G N Sin w0 σ a w S m →
    ao P G ((l1++p::l2).map (·.2)) K σ→iK P G p.2 (ao P G ((l1++l2).map (·.2)) K) σ
  | [],σ,a,w,S,m,_,_,_,e=>e
  | q::l1,σ,a,w,S,m,hc,hi,h,e=>by
    rw[AZ,z9] at e;obtain⟨r1,h1,h2⟩:=fb.1 e;obtain⟨o,ho,hco,hfx⟩:=hc q (by simp);obtain⟨a1,w1,S1,m1,hinv⟩:=xD ho hco hfx h h1;have ih:=lL l1 (fun z hz=>hc z (by simp only[AZ,Ax]; exact .inr hz)) (fun z hz=>hi z (by simp[hz])) hinv h2;obtain⟨r2,h3,h4⟩:=fb.1 ih;have hin:=hi q (by simp);have hs:q.2.sound=true∧p.2.sound=true:=by
      simp only[al.indep,Al] at hin;exact⟨hin.1.2,hin.2⟩
    obtain⟨r2',r1',g1,g2,g3⟩:=swap hin (fun id o ho=>(h.obj id o ho).2.1) (fun z hz=>by
      rcases hz with rfl | rfl
      ·exact nD h hs.1
      ·exact nD h hs.2) h1 h3
    refine fb.2 ⟨r2',g1,?_⟩;rw[AZ,z9];refine fb.2 ⟨r1',g2,?_⟩;rw[g3];exact h4
end
section
variable {P:Program} {G:ap} {N:Nat} {Sin:ae} {w0:Gh} {σ:St} {a:Act} {w:World} {S:ae} {m:Mp} {H:Hint} {ops:Array Oper} {K:St→Prop} {Q:Exit→Act→World→Prop}
theorem v4 {ms:List Nat} {o:Oper} {j:Nat} (h:(fj ms o).testBit j=true):∃ e∈o.after,Region.binds .any e=true∧(e.on=j∨(ms.getD e.on 0).testBit j=true):=by
  have key:∀ (l:List Edge) (k:Nat),(l.foldl (fun m e=>if Region.binds .any e=true then m ||| (2^e.on) ||| ms.getD e.on 0 else m) k).testBit j=true→k.testBit j=true∨∃ e∈l,Region.binds .any e=true∧(e.on=j∨(ms.getD e.on 0).testBit j=true):=by
    intro l
    induction l with
    | nil=>intro k h; exact .inl h
    | cons e l ih =>
      intro k h;rw[List.foldl_cons] at h;rcases ih _ h with h | ⟨e',h1,h2⟩
      ·split at h
       ·rename_i hb;rw[Nat.testBit_or,Nat.testBit_or,Bool.or_eq_true,Bool.or_eq_true] at h;rcases h with (h | h) | h
        ·exact .inl h
        ·rw[Nat.testBit_two_pow] at h;exact .inr ⟨e,by simp,hb,.inl (by simpa using h)⟩
        ·exact .inr ⟨e,by simp,hb,.inr h⟩
       ·exact .inl h
      ·exact .inr ⟨e',by simp[h1],h2⟩
  rcases key _ _ h with h | ⟨e,h1,h2⟩
  ·simp at h
  ·exact⟨e,by simpa using h1,h2⟩
theorem xE {ms:List Nat} {cs:List al} (h:ki ms ops.toList cs=true):∀ i o so,ops[i]?=some o→cs[i]?=some so→ms.getD i 0=fj ms o∧(∀ e∈o.after,Region.binds .any e=true→e.on<i)∧∀ j sj,j<i→cs[j]?=some sj→(ms.getD i 0).testBit j=true∨sj.indep so=true:=by
  intro i o so ho hso;unfold ki at h;simp only[Ai,List.mem_range] at h;have hi:i<ops.toList.length:=by
    have:=(z7.1 ho).1
    simpa using this
  have h1:=h i hi;rw[Az,ho,hso] at h1;simp only[Al,beq_iff_eq,Ai,Bool.or_eq_true,Bool.not_eq_true',decide_eq_true_eq,List.mem_range] at h1;obtain⟨⟨h2,h3⟩,h4⟩:=h1;refine⟨h2,fun e he hb=>?_,fun j sj hj hsj=>?_⟩
  ·rcases h3 e (by simpa using he) with h5 | h5
   ·rw[hb] at h5; cases h5
   ·exact h5
  ·have:=h4 j hj;rw[hsj] at this;exact this
theorem v5 {ms:List Nat} {cs:List al} (hm:∀ i o so,ops[i]?=some o→cs[i]?=some so→ms.getD i 0=fj ms o∧(∀ e∈o.after,Region.binds .any e=true→e.on<i)∧∀ j sj,j<i→cs[j]?=some sj→(ms.getD i 0).testBit j=true∨sj.indep so=true) (hlen:cs.length=ops.size)
    {listed:Array Bool} (hcl:∀ k o,ops[k]?=some o→listed.getD k false=true→∀ e∈o.after,Region.binds .any e=true→listed.getD e.on false=true) :
    ∀ i o,ops[i]?=some o→(∀ e∈o.after,Region.binds .any e=true→listed.getD e.on false=true)→∀ j,(ms.getD i 0).testBit j=true→listed.getD j false=true:=by
  intro i
  induction i using Nat.strongRecOn with
  | _ i ih =>
    intro o ho hd j hj;have hi:=(z7.1 ho).1;have hso:cs[i]?=some cs[i]:=z4 (by omega);obtain⟨h1,h2,_⟩:=hm i o _ ho hso;rw[h1] at hj;obtain⟨e,he,hb,h3⟩:=v4 hj;rcases h3 with rfl | h3
    ·exact hd e he hb
    ·have hlt:=h2 e he hb;have hoe:ops[e.on]?=some ops[e.on]:=Array.getElem?_eq_getElem (by omega);exact ih e.on hlt _ hoe (hcl _ _ hoe (hd e he hb)) j h3
theorem vm {l:List (Nat×al)} {p:Nat×al} (hs:l.Pairwise fun x y=>x.1<y.1) (hp:p∈l):∃ l1 l2,l=l1++p::l2∧∀ q∈l1,q.1<p.1:=by
  obtain⟨l1,l2,rfl⟩:=List.append_of_mem hp;refine⟨l1,l2,rfl,fun q hq=>?_⟩;rw[List.pairwise_append] at hs;exact hs.2.2 q hq p (by simp)
theorem lM {ms:List Nat} {cs:List al} (hlen:cs.length=ops.size) (hm:∀ i o so,ops[i]?=some o→cs[i]?=some so→ms.getD i 0=fj ms o∧(∀ e∈o.after,Region.binds .any e=true→e.on<i)∧∀ j sj,j<i→cs[j]?=some sj→(ms.getD i 0).testBit j=true∨sj.indep so=true)
    (hQ:∀ a w,Nx G N Sin w0 K a w→Q .normal a w):∀ (n:Nat) (l:List (Nat×al)) (listed:Array Bool) {σ:St} {a:Act} {w:World} {S:ae} {m:Mp},l.length=n→fu P H N w0.fx ops l→(∀ p∈l,cs[p.1]?=some p.2)→(l.Pairwise fun x y=>x.1<y.1) →
      listed.size=ops.size→(∀ j,listed.getD j true=false↔∃ so,(j,so)∈l)→(∀ k o,ops[k]?=some o→listed.getD k false=true→∀ e∈o.after,Region.binds .any e=true→listed.getD e.on false=true) →
      Inv G N Sin w0 σ a w S m→ao P G (l.map (·.2)) K σ→wpAny P .any ops Q n listed a w
  | 0,l,listed,σ,a,w,S,m,hn,_,_,_,_,hl,_,h,e=>by
    have:l=[]:=List.length_eq_zero_iff.1 hn;subst this;refine⟨?_,hQ _ _ ⟨_,_,_,e,h⟩⟩;refine List.eq_nil_iff_forall_not_mem.2 fun i hi=>?_
    obtain⟨h1,_⟩:=mem_ready.1 hi;obtain⟨so,hso⟩:=(hl i).1 h1;cases hso
  | n+1,l,listed,σ,a,w,S,m,hn,hc,hcs,hsort,hsz,hl,hcl,h,e=>by
    have tf:∀ j,j<ops.size→¬ (∃ so,(j,so)∈l)→listed.getD j false=true:=by
      intro j hj hne;have h1:¬ listed.getD j true=false:=fun h=>hne ((hl j).1 h)
      rw[Ar] at h1 ⊢;have:listed[j]?=some listed[j]:=Array.getElem?_eq_getElem (by omega);rw[this] at h1 ⊢
      simpa using h1
    refine⟨fun hr=>?_,fun i hi=>?_⟩
    ·cases l with
     | nil=>simp at hn
     | cons p rest =>
       exfalso;obtain⟨o,ho,hco,hfx⟩:=hc p (by simp);have hp:p.1∈Region.ready .any ops listed:=by
         refine mem_ready.2 ⟨(hl p.1).2 ⟨p.2,by simp⟩,o,ho,fun ed he hb=>?_⟩;have hlt:=(hm p.1 o p.2 ho (hcs p (by simp))).2.1 ed he hb;have hsize:=(z7.1 ho).1;refine tf _ (by omega) ?_;rintro⟨so,hso⟩;rw[List.pairwise_cons] at hsort;rcases Ax.1 hso with heq | hin
         ·have:ed.on=p.1:=congrArg Prod.fst heq;omega
         ·have:=hsort.1 _ hin;simp only at this;omega
       rw[hr] at hp;cases hp
    ·obtain⟨hun,o,ho,hedges⟩:=mem_ready.1 hi;obtain⟨so,hso⟩:=(hl i).1 hun;obtain⟨l1,l2,hsplit,hlt⟩:=vm hsort hso;have hanc:=v5 hm hlen hcl i o ho hedges;have hind:∀ q∈l1,q.2.indep so=true:=by
       intro q hq;have hqi:=hlt q hq;have hq2:=hcs q (by rw[hsplit]; simp[hq]);rcases (hm i o so ho (hcs _ hso)).2.2 q.1 q.2 hqi hq2 with h1 | h1
       ·have h2:=hanc q.1 h1;have h3:=(hl q.1).2 ⟨q.2,by rw[hsplit]; simp[hq]⟩;rw[Ar] at h2 h3;cases hg:listed[q.1]? <;> rw[hg] at h2 h3 <;> simp_all
       ·exact h1
     rw[hsplit] at e;have hc':fu P H N w0.fx ops (l1++(i,so)::l2):=hsplit ▸ hc;have hmv:=lL (p:=(i,so)) (l2:=l2) (K:=K) l1 hc' hind h e;obtain⟨r,h1,h2⟩:=fb.1 hmv;obtain⟨o',ho',hco,hfx⟩:=hc (i,so) hso;refine wpOp_mono ?_ (jd ho' hco hfx h h1 h2);rintro a1 w1 ⟨σ1,S1,m1,k1,k2⟩;have hsub:∀ p,p∈l1++l2→p∈l:=fun p hp=>by
       rw[hsplit];rcases Ah.1 hp with hp | hp <;> simp[hp]
     have hsort2:(l1++l2).Pairwise fun x y=>x.1<y.1:=by
       rw[hsplit] at hsort;refine hsort.sublist ?_;exact List.Sublist.append (List.Sublist.refl _) (List.sublist_cons_self _ _)
     have hnot:∀ s,(i,s)∉l1++l2:=by
       intro s hs;rw[hsplit,List.pairwise_append,List.pairwise_cons] at hsort;rcases Ah.1 hs with hs | hs
       ·have:=hlt _ hs;simp only at this;omega
       ·have:=hsort.2.1.1 _ hs;simp only at this;omega
     have hisz:i<listed.size:=by rw[hsz]; exact (z7.1 ho).1
     refine lM hlen hm hQ n (l1++l2) _ (by rw[hsplit] at hn; simp at hn ⊢; omega) (fun p hp=>hc p (hsub p hp)) (fun p hp=>hcs p (hsub p hp)) hsort2 (by simp[hsz]) (fun j=>?_) (fun k ok hok hk ed he hb=>?_) k2 k1
     ·by_cases hji:j=i
      ·subst hji;constructor
       ·intro hh;rw[Ar] at hh;simp[hisz] at hh
       ·rintro⟨s,hs⟩; exact absurd hs (hnot s)
      ·rw[getD_set_ne true (fun h=>hji h.symm),hl j,hsplit];constructor
       ·rintro⟨s,hs⟩;refine⟨s,?_⟩;rcases Ah.1 hs with hs | hs
        ·exact Af _ hs
        ·rcases Ax.1 hs with hs | hs
         ·exact absurd (congrArg Prod.fst hs) hji
         ·exact z6 _ hs
       ·rintro⟨s,hs⟩;refine⟨s,?_⟩;rcases Ah.1 hs with hs | hs
        ·exact Af _ hs
        ·exact z6 _ (Ad _ hs)
     ·have up:∀ x,listed.getD x false=true→(listed.setIfInBounds i true).getD x false=true:=by
        intro x hx;by_cases hxi:i=x
        ·subst hxi;rw[Ar];simp[hisz]
        ·rw[getD_set_ne false hxi]; exact hx
      by_cases hki:i=k
      ·subst hki;rw[ho] at hok;cases hok;exact up _ (hedges ed he hb)
      ·rw[getD_set_ne false hki] at hk;exact up _ (hcl k ok hok hk ed he hb)
theorem iV {α β:Type}:∀ (l:List α) (k:List β),l.length=k.length→(l.zip k).map (·.1)=l
  | [],_,_=>by simp
  | a::l,[],h=>by simp at h
  | a::l,b::k,h=>by simp only[List.zip_cons_cons,z9,iV l k (by simpa using h)]
theorem iW {α β:Type}:∀ (l:List α) (k:List β),l.length=k.length→(l.zip k).map (·.2)=k
  | [],[],_=>rfl
  | [],_::_,h=>by simp at h
  | a::l,[],h=>by simp at h
  | a::l,b::k,h=>by simp only[List.zip_cons_cons,z9,iW l k (by simpa using h)]
def Fr (r:Option Nat):Fence:={ fn:=fun _=>True,depth:=none,alive:=false,round:=r }
theorem qd {r:Option Nat} {n i:Nat} {K:Act→World→Prop} (hnd:∀ o:Oper,ops[i]?=some o→∀ c,o.op≠.defer c) (hQ:¬ LetsOut Q) (h:wpOp P ops Q i K a w):wpOpIn (Fr r) n P ops Q i K a w:=by
  unfold wpOp at h;unfold wpOpIn;cases ho:ops[i]? with
  | none=>rw[ho] at h; exact h
  | some o =>
    rw[ho] at h;simp only at h ⊢;split
    ·rename_i hw;rw[if_pos hw] at h;have h:=h.resolve_right fun k=>hQ k.2
     refine⟨fun _ _=>trivial,?_⟩;have hs:o.semAt (Fr r).round a.eval=execOp a.eval o:=by
       cases r with
       | none=>rfl
       | some l=>exact Oper.semAt_some l a.eval o (hnd o ho)
     rw[hs];unfold Oper.wp at h;cases hr:(execOp a.eval o).run P w with
     | ok x w' =>
       rw[hr] at h;cases x with
       | value v=>exact h
       | skip=>exact h
       | defer d=>exact h
       | enter f args=>exact⟨fun h=>(by cases h),(callsIn_wide (n:=n-1)).2 h⟩
       | row row args=>exact⟨fun h=>(by cases h),fun c cs _=>let ⟨v,w2,r,s⟩:=h c cs; ⟨v,w2,r,stepsIn_wide.2 s⟩⟩
       | _=>exact h.elim
     | halt x w' =>
       rw[hr] at h;cases x <;> first | exact h | exact h.elim
    ·rename_i hw;rw[if_neg hw] at h;exact⟨fun _ _=>trivial,h⟩
theorem jx {r:Option Nat} {n:Nat} (hnd:∀ (i:Nat) (o:Oper),ops[i]?=some o→∀ c,o.op≠.defer c) (hQ:¬ LetsOut Q):∀ (l:List Nat) {a:Act} {w:World},wpOps P ops Q l a w→wpOpsIn (Fr r) n P ops Q l a w
  | [],_,_,h=>h
  | i::l,a,w,h=>by
    rw[wpOps_cons] at h;rw[wpOpsIn_cons];exact qd (hnd i) hQ (wpOp_mono (fun _ _ h=>jx hnd hQ l h) h)
theorem nE {r:Option Nat} {n:Nat} (hnd:∀ (i:Nat) (o:Oper),ops[i]?=some o→∀ c,o.op≠.defer c) (hQ:¬ LetsOut Q):∀ (k:Nat) {listed:Array Bool} {a:Act} {w:World},wpAny P .any ops Q k listed a w→wpAnyIn (Fr r) n P .any ops Q k listed a w
  | 0,_,_,_,h=>h
  | k+1,listed,a,w,h=>⟨h.1,fun i hi=>qd (hnd i) hQ (wpOp_mono (fun _ _ h=>nE hnd hQ k h) (h.2 i hi))⟩
theorem lg {o:Oper} {so:al} (h:cV P H ops N o=some so):∀ c,o.op≠.defer c:=by
  intro c e;have:=(lq h).1;simp[gj,e] at this
def Off (K:Act→World→Prop):Exit→Act→World→Prop | .normal,a,w=>K a w | _,_,_=>False
theorem ka {K:Act→World→Prop}:¬ LetsOut (Off K):=fun ⟨_,_,h⟩=>h
theorem vA {r:Option Nat} {n id:Nat} {draws:Bool} {cs:List al} (hc:jc P H N ops draws=some cs) (hfx:∀ so∈cs,∀ t,so.dst=some t→w0.fx t=none) (h:Inv G N Sin w0 σ a w S m) (e:ao P G cs K σ) (hQ:∀ a w,Nx G N Sin w0 K a w→Q .normal a w):(Code.region id ops draws).wpIn (Fr r) n P Q a w:=by
  refine wpIn_mono (Q:=Off (Nx G N Sin w0 K)) ?_ fun e a w h=>by cases e <;> first | exact hQ _ _ h | exact h.elim
  clear hQ;have hQ:∀ a w,Nx G N Sin w0 K a w→Off (Nx G N Sin w0 K) .normal a w:=fun _ _ h=>h
  unfold jc at hc;split at hc
  ·rename_i cs' hcs;have hall:aa (fun o so=>cV P H ops N o=some so) ops.toList cs':=dc (fun _ _ h=>h) hcs;have hlen:cs'.length=ops.size:=by have:=hall.length; simpa using this.symm
   have hzl:(List.range ops.size).length=cs'.length:=by simp[hlen]
   have hmem:∀ p∈(List.range ops.size).zip cs',p.1<ops.size∧cs'[p.1]?=some p.2:=by
     intro p hp;obtain⟨i,hi,rfl⟩:=Aw hp;simp only[List.getElem_zip,A0];have h1:i<cs'.length:=by simp at hi; omega
     exact⟨by omega,z4 h1⟩
   have hfx':∀ so∈cs',∀ t,so.dst=some t→w0.fx t=none:=by
     split at hc
     ·cases hc; exact hfx
     ·split at hc
      ·cases hc; exact hfx
      ·cases hc
   have hnd:∀ (i:Nat) (o:Oper),ops[i]?=some o→∀ c,o.op≠.defer c:=by
     intro i o ho;obtain⟨so,h1,h2⟩:∃ so,cs'[i]?=some so∧cV P H ops N o=some so:=by
       have h1:i<cs'.length:=by rw[hlen]; exact (z7.1 ho).1
       obtain⟨o',h2,h3⟩:=hall.get? (z4 h1);rw[Az,ho] at h2;cases h2;exact⟨_,z4 h1,h3⟩
     exact lg h2
   have hcomp:fu P H N w0.fx ops ((List.range ops.size).zip cs'):=by
     intro p hp;obtain⟨h1,h2⟩:=hmem p hp;obtain⟨o,h3,h4⟩:=hall.get? h2;exact⟨o,by rw[← Az]; exact h3,h4,hfx' p.2 (AQ h2)⟩
   have e':cs'=cs→ao P G (((List.range ops.size).zip cs').map (·.2)) K σ:=by
     rintro rfl;rw[iW _ _ hzl]; exact e
   split at hc
   ·rename_i hd;cases hc;subst hd;have:=jj hQ _ hcomp h (e' rfl);rw[iV _ _ hzl] at this;exact wpIn_region (jx hnd ka _ this)
   ·rename_i hd;have hd':draws=true:=by simpa using hd
    subst hd';split at hc
    ·rename_i hk;cases hc;refine wpIn_region_any hk.1 (nE hnd ka _ ?_);have hm:=xE hk.2;have hzn:((List.range ops.size).zip cs).length=ops.size:=by simp[hlen]
     refine lM (G:=G) (N:=N) (Sin:=Sin) (w0:=w0) (H:=H) (K:=K) (Q:=Off (Nx G N Sin w0 K)) hlen hm hQ ops.size ((List.range ops.size).zip cs) (Array.replicate ops.size false) hzn hcomp (fun p hp=>(hmem p hp).2) ?_ (by simp) (fun j=>?_) (fun k o ho hk=>?_) (h.drew) (e' rfl)
     ·rw[List.pairwise_iff_getElem];intro i j hi hj hij;simp only[List.getElem_zip,A0];exact hij
     ·constructor
      ·intro hh;have hj:j<ops.size:=by
         rcases AW j ops.size with hlt | hge
         ·exact hlt
         ·rw[Ar,Array.getElem?_eq_none (by simpa using hge)] at hh;simp at hh
       refine⟨cs[j]'(by omega),?_⟩;have h2:j<((List.range ops.size).zip cs).length:=by simp; omega
       have:((List.range ops.size).zip cs)[j]=(j,cs[j]'(by omega)):=by simp
       rw[← this];exact AA h2
      ·rintro⟨so,hso⟩;have:=(hmem _ hso).1;simp only at this;rw[Ar];simp[this]
     ·exfalso;rw[Ar] at hk;have:=(z7.1 ho).1;simp[this] at hk
    ·cases hc
  ·cases hc
theorem lN {e:MapEntry}:∀ (L:List MapEntry) (j:Nat),(L.map (·.born)).Nodup→L[j]?=some e→L.filter (fun x=>!(x.born==e.born))=L.eraseIdx j
  | [],j,_,h=>by simp at h
  | x::L,0,hn,h=>by
    simp only[AF,z3] at h;subst h;rw[z9,List.nodup_cons] at hn;rw[List.filter_cons_of_neg (by simp),List.eraseIdx_cons_zero,List.filter_eq_self];intro y hy;have:y.born≠x.born:=fun e=>hn.1 (e ▸ Ae.2 ⟨y,hy,rfl⟩)
    simpa using this
  | x::L,j+1,hn,h=>by
    rw[Aq] at h;rw[z9,List.nodup_cons] at hn;have:x.born≠e.born:=fun h2=>hn.1 (h2 ▸ Ae.2 ⟨e,AQ h,rfl⟩)
    rw[List.filter_cons_of_pos (by simpa using this),List.eraseIdx_cons_succ,lN L j hn.2 h]
theorem v6 {E:Array MapEntry} {seen:Array Nat} {e:MapEntry} {j:Nat} (hn:(E.toList.map (·.born)).Nodup) (h:(dO E seen).toList[j]?=some e):(dO E (seen.push e.born)).toList=(dO E seen).toList.eraseIdx j:=by
  unfold dO at *
  simp only[Array.toList_filter] at *
  rw[← lN _ j (List.Nodup.sublist (List.Sublist.map _ List.filter_sublist) hn) h,List.filter_filter];refine List.filter_congr fun x _=>?_
  rw[contains_push];cases seen.contains x.born <;> cases x.born==e.born <;> rfl
theorem aa.eraseIdx {α β:Type} {R:α→β→Prop}:∀ {l:List α} {m:List β},aa R l m→∀ j,aa R (l.eraseIdx j) (m.eraseIdx j)
  | _,_,.nil,_=>.nil
  | _,_,.cons _ h,0=>h
  | _,_,.cons h k,j+1=>.cons h (k.eraseIdx j)
theorem xF {o:Oper} (it:Operand) (x:SX) (ho:o.op=.next it false) (hx:aj it=some x) (h:Inv G N Sin w0 σ a w S m) {d:Nat} (hdst:o.dst=some d) (hd:d<N∧w0.fx d=none) (hn:j7 σ d K (ev G σ.f x)):o.wp P a w (Nx G N Sin w0 K) Q:=by
  have hd':∀ t,o.dst=some t→t<N∧w0.fx t=none:=fun t ht=>by rw[hdst] at ht; cases ht; exact hd
  have hvx:=(h.operand hx).1;unfold j7 at hn;split at hn
  ·rename_i id sz he;split at hn
   ·rename_i q left last hob;rw[he] at hvx;obtain⟨b,hm,hval⟩:=hvx;have hobj:=(h.obj id _ hob).1;unfold aA at hobj;rw[hm] at hobj;obtain⟨_,_,_,cur,ty,fz,hblk,_⟩:=hobj;have hval:a.eval it=.pointer (some ⟨b,0,none⟩):=by rw[hval]; simp
    have over:left=[]→(Instr.next (.pointer (some ⟨b,0,none⟩)) false o.type).run P w=.ok (.tuple #[.bool false]) w→o.wp P a w (Nx G N Sin w0 K) Q:=by
      intro e run;refine bw h hd' (v:=.tuple #[.bool false]) ?_ (x:=.tup [.c (.d (.bool false))]) ⟨[_],rfl,.cons (Reads.rw (.bool _)) .nil⟩ (fun i hi=>by simp[V.ids,W.ids,C.ids] at hi) (by rw[hdst]; exact hn.1 e);simp only[execOp,ho];rw[hval];exact aN run
    rcases hblk with ⟨h1,h2,h3⟩ | ⟨bm,c,seen,h1,h2,E,h3,h4,h5,h6⟩
    ·refine over h2 ?_;simp[Instr.next,getObj,Sem.run,h1,Result.andThen]
    ·rcases run_next_at (P:=P) w o.type b bm c c seen E c h1 h3 h4.2 (Ac _) with ⟨hs,run⟩ | ⟨e,hem,w1,hw1,run⟩
     ·refine over ?_ run;have hl:=h5.length;have hs:(dO E seen).size=0:=hs;rw[AU,hs] at hl;exact List.length_eq_zero_iff.1 hl.symm
     ·obtain⟨j,hj,hje⟩:=Aw (show e∈(dO E seen).toList from hem);have hj2:j<left.length:=by rw[← h5.length]; exact hj
      have hent:=h5.get j hj hj2;rw[hje] at hent;have heE:e∈E.toList:=(mem_left hem).1;have hI1:Inv G N Sin w0 σ a w1 S m:=by
        rcases hw1 with rfl | rfl
        ·exact h
        ·exact h.drew
      have heap1:w1.heap=w.heap:=by rcases hw1 with rfl | rfl <;> rfl
      have kp:az S w w1:=e6 (fun b i hs=>(h.sin b i hs).1) (fun b _=>by rw[heap1]);have hI:=hI1.writeObj (ob':=.it q (left.eraseIdx j) (some left[j])) (y:=.mapIter (some bm) c (seen.push e.born) c) hob hm (by rw[heap1]; exact h1) rfl (fun _ _ _ e=>by cases e) rfl (fun _ _=>trivial) (fun w' _ _ _ k hb=>by
        have kE:∀ e p,eX S w q e p→eX S w' q e p:=fun e p h=>⟨h.1,(h.2.keep kp).keep k⟩
        refine .inr ⟨bm,c,seen.push e.born,hb,h2,E,k.map _ _ _ _ h2 (by rw[heap1]; exact h3),h4,?_,fun p hp=>?_⟩
        ·rw[v6 h4.1 (by rw[z4 hj,hje])];exact (h5.eraseIdx j).weak fun _ _ _ _ h=>kE _ _ h
        ·cases hp; exact⟨e,heE,seen,rfl,kE _ _ hent⟩) (fun j hj=>by cases hj)
      refine bg hI hd' (v:=.tuple #[.bool true,e.key,e.val]) ?_ (x:=.tup [.c (.d (.bool true)),.c (.d (.int q left[j].1)),.c (.d left[j].2)]) ⟨[_,_,_],rfl,.cons (Reads.rw (.bool _)) (.cons (by rw[hent.1]; exact Reads.rw (.int _ _)) (.cons ?_ .nil))⟩ (fun i hi=>by simp[V.ids,W.ids,C.ids] at hi) (by rw[hdst]; exact hn.2 j left[j] (z4 hj2))
      ·simp only[execOp,ho];rw[hval];exact aN run
      ·refine Reads.rw (hent.2.keep (kp.trans ?_));refine⟨fun x i v hs hv=>?_,fun x s hs=>?_,fun x i E c hs hb=>?_⟩
       ·have hx:x≠b:=fun e=>(h.obj id _ hob).1.apart hm i (e ▸ hs)
        unfold World.cell? at *
        simp only[AE (fun e=>hx e.symm)];exact hv
       ·by_cases hx:x=b
        ·subst hx;unfold World.shape? at hs;rw[heap1,h1] at hs;cases hs
        ·unfold World.shape? at *
         simp only[AE (fun e=>hx e.symm)];exact hs
       ·have hx:x≠b:=fun e=>(h.obj id _ hob).1.apart hm i (e ▸ hs)
        simp only[AE (fun e=>hx e.symm)];exact hb
   ·exact hn.elim
  ·exact hn.elim
def jy (P:Program) (H:Hint) (N:Nat) (ops:Array Oper) (draws:Bool):Option aL :=
  match ops.toList with
  | o::rest=>match o.op,o.dst,o.guard with
    | .next it false,some d,none=>match aj it,av (cV P H ops N) rest with
      | some x,some cs=>if draws=false∧d<N then some (.nextM d x cs) else none
      | _,_=>none
    | _,_,_=>none
  | []=>none
theorem v7 {r:Option Nat} {n id:Nat} {draws:Bool} {sc:aL} {Q':AX→St→Prop} (hc:jy P H N ops draws=some sc) (hfx:∀ t∈sc.writes,w0.fx t=none) (h:Inv G N Sin w0 σ a w S m) (e:aJ P G sc Q' σ) (hQ:∀ a w,Nx G N Sin w0 (Q' .nrm) a w→Q .normal a w):(Code.region id ops draws).wpIn (Fr r) n P Q a w:=by
  refine wpIn_mono (Q:=Off (Nx G N Sin w0 (Q' .nrm))) ?_ fun e a w h=>by cases e <;> first | exact hQ _ _ h | exact h.elim
  clear hQ;unfold jy at hc;split at hc
  ·rename_i o rest hops;split at hc
   ·rename_i it d h1 h2 h3;split at hc
    ·rename_i x cs hx hcs;split at hc
     ·rename_i hd;obtain⟨rfl,hdN⟩:=hd;cases hc;have hall:aa (fun o so=>cV P H ops N o=some so) rest cs:=dc (fun _ _ h=>h) hcs;have hsz:ops.size=rest.length+1:=by rw[← AU,hops]; rfl
      have hget:∀ i,ops[i+1]?=rest[i]?:=fun i=>by rw[← Az,hops,Aq]
      have h0:ops[0]?=some o:=by rw[← Az,hops]; rfl
      have hcomp:fu P H N w0.fx ops (((List.range rest.length).map Nat.succ).zip cs):=by
        intro p hp;obtain⟨i,hi,rfl⟩:=Aw hp;have hi1:i<rest.length:=by simp at hi; omega
        have hi2:i<cs.length:=by simp at hi; omega
        simp only[List.getElem_zip,An,A0];exact⟨rest[i],by rw[hget,z4 hi1],hall.get i hi1 hi2,fun t ht=>hfx t (Ad _ (A6.2 ⟨cs[i],AA hi2,ht⟩))⟩
      have hlen:((List.range rest.length).map Nat.succ).length=cs.length:=by simpa using hall.length
      have hnd:∀ (i:Nat) (o:Oper),ops[i]?=some o→∀ c,o.op≠.defer c:=by
        intro i o' ho;cases i with
        | zero=>rw[h0] at ho; cases ho; intro c e; rw[h1] at e; cases e
        | succ i =>
          rw[hget] at ho;obtain⟨so,hso⟩:∃ so,cV P H ops N o'=some so:=by
            obtain⟨hi,rfl⟩:=Aa.1 ho;exact⟨_,hall.get i hi (by rw[← hall.length]; exact hi)⟩
          exact lg hso
      refine wpIn_region (jx hnd ka _ ?_);rw[hsz,List.range_succ_eq_map,wpOps_cons];unfold wpOp;simp only[h0];have hw:Region.wanted o (yielded ops a.tmps)=true:=by simp[Region.wanted,h3]
      rw[if_pos hw];refine .inl ?_;have hop:=xF (P:=P) (K:=fun s=>ao P G cs (Q' .nrm) s) (Q:=Off (Nx G N Sin w0 (Q' .nrm))) it x h1 hx h h2 ⟨hdN,hfx d (Ak ..)⟩ e;refine Oper.wp_mono (fun a1 w1 hk=>?_) hop;obtain⟨σ1,S1,m1,k1,k2⟩:=hk;have:=jj (K:=Q' .nrm) (Q:=Off (Nx G N Sin w0 (Q' .nrm))) (fun _ _ h=>h) _ hcomp k2 (by rw[iW _ _ hlen]; exact k1);rw[iV _ _ hlen] at this;exact this
     ·cases hc
    ·cases hc
   ·cases hc
  ·cases hc
end
section
variable (P:Program) (H:Hint) (N:Nat)
def jP (H:Hint) (id:Nat) (c:aL):aL:=match H.gh.find? fun p=>p.1==id with | some p=>.ghost p.2 c | none=>c
def bA (inr:Bool):Code→Option aL
  | .skip=>some .skip
  | .region id ops draws=>(match jc P H N ops draws with | some l=>some (aL.reg l) | none=>match jy P H N ops draws with | some c=>some c | none=>if H.bad=true then some (aL.reg [⟨none,.lenStr .u,none⟩]) else none).map (jP H id)
  | .seq a b=>match bA inr a,bA inr b with | some x,some y=>some (.seq x y) | _,_=>none
  | .cond c a b=>match aj c,bA inr a,bA inr b with | some c,some x,some y=>some (.cond c x y) | _,_,_=>none
  | .block id c=>(bA inr c).map (.block id)
  | .loop c=>(bA inr c).map .loop
  | .exit id=>some (.exit id)
  | .scope c=>bA inr c
  | .label _=>some .skip
  | .ret=>some .ret
  | .rangeFunc g ps a b=>if inr=false∧ps.all (fun t=>decide (t<N))=true then match aj g,bA true a,bA true b with | some x,some a,some b=>some (.rangeF x ps.toList a b) | _,_,_=>none else none
  | _=>none
def gb:ResultVar→Option (Nat×Option Kd)
  | .tmp t=>some (t,none)
  | .cell t ty=>(bu P ty).map fun kd=>(t,some kd)
def a7 (fn:Func):Option bd :=
  match fn.body with
  | some c=>match bA P H fn.ntmps false c,av (gb P) fn.results.toList with
    | some body,some res=>if fn.params.size+fn.nfree≤fn.ntmps then some ⟨fn.params.size+fn.nfree,fn.ntmps,body,res⟩ else none
    | _,_=>none
  | none=>none
end
section
variable {P:Program} {G:ap} {N:Nat} {Sin:ae} {w0:Gh} {σ:St} {a:Act} {w:World} {S:ae} {m:Mp} {H:Hint}
theorem Inv.ent {τ:St} (h:Inv G N Sin w0 σ a w S m) (e:da σ τ):∃ m',Inv G N Sin w0 τ a w S m':=by
  obtain⟨⟨g,g1,g2,g3⟩,g4,g5⟩:=e;refine⟨fun i=>m (g i),h.size,h.defers,fun t=>?_,g4,fun i o ho=>⟨?_,g5 i o ho⟩,fun i j b s s' h1 h2 h3 h4=>?_,h.sin,h.sub,h.glob,h.below,h.oth,h.kso,h.sso,h.fix⟩
  ·rcases g1 t with e | e
   ·rw[e]; trivial
   ·have:=h.slot t;rw[e] at this;exact this.ren
  ·have hob:=(h.obj (g i) _ (g2 i o ho)).1;unfold aA at hob ⊢
   show match m (g i) with | none=>_ | some (b,sz)=>_
   split at hob
   ·obtain⟨sz,e⟩:=hob;rename_i hm;rw[hm];cases o with
    | row s es=>exact⟨sz,e⟩
    | _=>cases e
   ·rename_i b sz hm;rw[hm];obtain⟨k1,k2,k3,cur,ty,fz,k4,k5,k6⟩:=hob;refine⟨?_,k2,k3,cur,ty,fz,k4.ren,k5,k6.ren⟩;rw[← k1];cases o <;> rfl
  ·refine g3 i j h1 h2 ?_;obtain⟨oi,hi⟩:=Ab.1 h1;obtain⟨oj,hj⟩:=Ab.1 h2;exact h.inj (g i) (g j) b s s' (by rw[g2 i oi hi]; simp) (by rw[g2 j oj hj]; simp) h3 h4
theorem xG {p:Nat→Prop} (h:∃ n,p n):∃ n,p n∧∀ k,p k→n≤k:=by
  obtain⟨n,hn⟩:=h
  induction n using Nat.strongRecOn with
  | _ n ih =>
    by_cases h2:∃ k,k<n∧p k
    ·obtain⟨k,hk,hp⟩:=h2;exact ih k hk hp
    ·refine⟨n,hn,fun k hk=>?_⟩;rcases AW k n with hlt | hge
     ·exact absurd ⟨k,hlt,hk⟩ h2
     ·exact hge
theorem vE {F:Fence} {k:Nat} {c:Code} {Q:Exit→Act→World→Prop} (I:Nat→Act→World→Prop) {n:Nat} (h:I n a w) (round:∀ n a w,I n a w→c.wpIn F k P (Exit.then (fun a' w'=>∃ n',n'<n∧I n' a' w') Q) a w):(Code.loop c).wpIn F k P Q a w:=by
  have hμ:∃ μ:Act→World→Nat,∀ a w,(∃ n,I n a w)→I (μ a w) a w∧∀ k,I k a w→μ a w≤k:=by
    have:∀ p:Act×World,∃ k,(∃ n,I n p.1 p.2)→I k p.1 p.2∧∀ j,I j p.1 p.2→k≤j:=by
      intro p;by_cases hp:∃ n,I n p.1 p.2
      ·obtain⟨k,h1,h2⟩:=xG hp;exact⟨k,fun _=>⟨h1,h2⟩⟩
      ·exact⟨0,fun h=>absurd h hp⟩
    obtain⟨f,hf⟩:=Classical.axiomOfChoice this;exact⟨fun a w=>f (a,w),fun a w=>hf (a,w)⟩
  obtain⟨μ,hμ⟩:=hμ;refine wpIn_loop (fun a w=>∃ n,I n a w) μ ⟨n,h⟩ fun a w hI=>?_
  refine wpIn_mono (round _ a w (hμ a w hI).1) fun e a' w' he=>?_
  cases e with
  | normal =>
    obtain⟨n',h1,h2⟩:=he;exact⟨⟨n',h2⟩,Nat.lt_of_le_of_lt ((hμ a' w' ⟨n',h2⟩).2 n' h2) h1⟩
  | _=>exact he
def AX.toExit:AX→Exit
  | .nrm=>.normal
  | .ex id=>.exit id
  | .ret=>.ret
def AX.toCode:AX→Code
  | .nrm=>.skip
  | .ex id=>.exit id
  | .ret=>.ret
def iA (G:ap) (N:Nat) (Sin:ae) (w0:Gh) (Q':AX→St→Prop) (Q:Exit→Act→World→Prop):Prop:=∀ e σ a w S m,Q' e σ→Inv G N Sin w0 σ a w S m→Q e.toExit a w
structure bo (l:Nat) (W W':World):Prop where
  size:W.heap.size≤W'.heap.size
  same:∀ (k:Nat) (o:Obj),k≠l→W.heap[k]?=some o→fA o=false→W'.heap[k]?=some o
theorem bo.of {l:Nat} {A B:World} (h:a6 A B):bo l A B:=⟨h.size,fun k o _ hk ho=>h.same k o hk ho⟩
theorem bo.trans {l:Nat} {A B C:World} (h:bo l A B) (k:bo l B C):bo l A C :=
  ⟨AB h.size k.size,fun i o hl hi ho=>k.same i o hl (h.same i o hl hi ho) ho⟩
theorem bo.put (W:World) (l:Nat) (o:Obj):bo l W (W.putObj l o) :=
  ⟨(grownBy_putObj' W l o).size,fun k _ hl hk _=>(World.putObj_heap_other hl).trans hk⟩
theorem bo.old {l:Nat} {A B C:World} (h:a6 A B) (k:bo l B C) (hl:A.heap.size≤l):a6 A C :=
  ⟨AB h.size k.size,fun i o hi ho=>k.same i o (fun e=>by have:=(z7.1 hi).1; omega) (h.same i o hi ho) ho⟩
theorem cM.but {B l:Nat} {w w':World} (k:bo l w w') (hl:∀ ds,w.heap[l]?≠some (.deferred ds)):∀ {ds:List Deferred},cM B w ds→cM B w' ds
  | [],_=>trivial
  | _::_,⟨⟨D,h1,h2,h3,h4⟩,h5⟩=>⟨⟨D,h1,h2,k.same _ _ (fun e=>hl _ (e ▸ h3)) h3 rfl,h4⟩,h5.but k hl⟩
def ct (w w':World):Prop:=∀ (b:Nat) o,w.heap[b]?=some o→fA o=true→w'.heap[b]?=some o
theorem ct.keeps {w w':World} (h:ct w w') (S:ae):az S w w':=by
  refine⟨fun b i v _ hv=>?_,fun b s hs=>?_,fun b i E c _ hb=>h b _ hb rfl⟩
  ·unfold World.cell? at hv ⊢;cases hb:w.heap[b]? with
   | none=>simp[hb] at hv
   | some o =>
     cases o with
     | cells cur ty fz=>rw[h b _ hb rfl]; rw[hb] at hv; exact hv
     | _=>simp[hb] at hv
  ·unfold World.shape? at hs ⊢;cases hb:w.heap[b]? with
   | none=>simp[hb] at hs
   | some o =>
     cases o with
     | cells cur ty fz=>rw[h b _ hb rfl]; rw[hb] at hs; exact hs
     | _=>simp[hb] at hs
theorem ct.put {w:World} {l:Nat} {o o':Obj} (hl:w.heap[l]?=some o) (ho:fA o=false):ct w (w.putObj l o'):=fun b x hb hx=>by
  refine (World.putObj_heap_other fun e=>?_).trans hb;subst e; rw[hl] at hb; cases hb; rw[ho] at hx; cases hx
theorem fW {B:Nat} {w:World} {l:Nat} {o:Obj} (o':Obj) (hl:B≤l) (h:w.heap[l]?=some o):Below B w (w.putObj l o') :=
  (Below.refl B w).grown (grownBy_putObj' w l o') (by have:=(z7.1 h).1; omega) (fun k e=>by cases e; omega)
theorem Inv.turn (h:Inv G N Sin w0 σ a w S m) {w':World} (hc:ct w w') (hsz:w.heap.size≤w'.heap.size) {w1:Gh} (e1:w1.toWorld=w0.toWorld) (below:aM w0.heap.size w0.ext w0 w') {a':Act} (hts:a'.tmps.size=a.tmps.size)
    (ht:∀ t,σ.f t=.undef∨a'.tmps.getD t undef=a.tmps.getD t undef) (hdef:cM w0.heap.size w' a'.defers) (oth:a6 w1.wo w') (kso:az w1.so w1.wo w') (sso:∀ b i,w1.so b i→S b i) (fix:∀ t v,w1.fx t=some v→a'.tmps.getD t undef=v) (e2:w1.ext=w0.ext:=by rfl) :
    Inv G N Sin w1 σ a' w' S m:=by
  have k:=hc.keeps S;have hmay:w1.may=w0.may:=by unfold Gh.may; rw[e1,e2]
  refine⟨hts.trans h.size,by rw[e1]; exact hdef,fun t=>?_,h.used,fun id o ho=>?_,h.inj,fun b i hs=>?_,h.sub,h.glob.step k (fun _ _ h=>h),by rw[e1,e2]; exact below,oth,kso,sso,fix⟩
  ·rcases ht t with e | e
   ·rw[e]; trivial
   ·rw[e]; exact (h.slot t).keep k
  ·refine⟨?_,(h.obj id o ho).2⟩;rw[hmay];refine (h.obj id o ho).1.step k (fun _ _ h=>h) (fun _ _=>rfl) rfl fun b s hm=>⟨?_,(h.obj id o ho).1.apart hm⟩
   have:=(h.obj id o ho).1;unfold aA at this;rw[hm] at this;obtain⟨_,_,_,cur,ty,fz,h4,_⟩:=this;obtain⟨x,h5,h6⟩:∃ x,w.heap[b]?=some x∧fA x=true:=by
     cases o with
     | row s es=>exact⟨_,h4,rfl⟩
     | box cs=>exact⟨_,h4,rfl⟩
     | mp q es=>obtain⟨E,c,h5,_⟩:=h4; exact⟨_,h5,rfl⟩
     | it q l p=>rcases h4 with ⟨h5,_⟩ | ⟨_,_,_,h5,_⟩ <;> exact⟨_,h5,rfl⟩
   rw[hc b x h5 h6,h5]
  ·rw[hmay];exact⟨Nat.lt_of_lt_of_le (h.sin b i hs).1 hsz,(h.sin b i hs).2⟩
theorem Inv.puts:∀ {ps:List Nat} {us:List Value} {r:List D} {σ:St} {a:Act},Inv G N Sin w0 σ a w S m→aa (fun v x=>RW (fun _=>none) S w v (.c (.d x))) us r→(∀ t∈ps,t<N∧w0.fx t=none)→r.length=ps.length →
    Inv G N Sin w0 ⟨im σ.f ps r,σ.h,σ.u⟩ { a with tmps:=(ps.zip us).foldl (fun t p=>t.setIfInBounds p.1 p.2) a.tmps } w S m
  | [],us,r,σ,a,h,hr,_,hl=>by
    have:r=[]:=List.length_eq_zero_iff.1 hl;subst this;exact h
  | p::ps,us,r,σ,a,h,hr,hp,hl=>by
    cases hr with
    | nil=>cases hl
    | cons h1 h2 =>
      have:=h.put (some p) (fun t e=>by cases e; exact hp p (by simp)) (RV.mono (S:=S) (fun _ _ h=>h) (x:=vd _) (RW.congr h1 (fun i hi=>by cases hi))) (fun i hi=>by cases hi);exact this.puts h2 (fun t ht=>hp t (by simp[ht])) (by simpa using hl)
theorem vF {g:Operand} {ps:Array Tmp} {asg body:Code} {x:SX} {sa sb:aL} (hx:aj g=some x) (hps:∀ t∈ps.toList,t<N)
    (ha:∀ {w1:Gh} {r:Option Nat} {n:Nat} {Q':AX→St→Prop} {Q:Exit→Act→World→Prop} {σ:St} {a:Act} {w:World} {S:ae} {m:Mp},(∀ t∈sa.writes,w1.fx t=none)→iA G N Sin w1 Q' Q→Inv G N Sin w1 σ a w S m→aJ P G sa Q' σ→asg.wpIn (Fr r) n P Q a w)
    (hb:∀ {w1:Gh} {r:Option Nat} {n:Nat} {Q':AX→St→Prop} {Q:Exit→Act→World→Prop} {σ:St} {a:Act} {w:World} {S:ae} {m:Mp},(∀ t∈sb.writes,w1.fx t=none)→iA G N Sin w1 Q' Q→Inv G N Sin w1 σ a w S m→aJ P G sb Q' σ→body.wpIn (Fr r) n P Q a w)
    {n:Nat} {Q':AX→St→Prop} {Q:Exit→Act→World→Prop} (hp:iA G N Sin w0 Q' Q) (h:Inv G N Sin w0 σ a w S m) (e:aJ P G (.rangeF x ps.toList sa sb) Q' σ):(Code.rangeFunc g ps asg body).wpIn (Fr none) n P Q a w:=by
  obtain⟨gf,caps,xs,f0,h0,u0,I,hev,hseq,hlen,hent,hun,hI0,hround,hdone⟩:=e;have hop:RV m S w (a.eval g) (ev G σ.f x):=(h.operand hx).1;rw[hev] at hop;obtain⟨lb,hg,hlb⟩:=vz (show Reads S w (a.eval g) (.fn gf caps) from hop);obtain⟨m0,hinv0⟩:=h.ent hent;refine wpIn_rangeFunc fun fn hfn=>?_
  obtain⟨rec,hrec⟩:∃ rec:LoopState→Option Code→Loop,rec=fun st pe=>{ state:=st,pending:=pe,fn,tmps:=a.tmps,params:=ps,assign:=asg,body,defers:=w.heap.size }:=⟨_,rfl⟩
  obtain⟨W1,hW1⟩:∃ W1,(w.alloc (.deferred (some []))).alloc (.loop (rec .ready none))=W1:=⟨_,rfl⟩
  obtain⟨a2,ha2⟩:∃ a2:Act,{ a with defers:={ target:=.collected w.heap.size,args:=#[] }::a.defers }=a2:=⟨_,rfl⟩
  have hL1:W1.heap[w.heap.size+1]?=some (.loop (rec .ready none)):=by
    rw[← hW1]; have:=World.alloc_heap_new (w.alloc (.deferred (some []))) (.loop (rec .ready none)); rwa [World.size_alloc] at this
  have hK1:W1.heap[w.heap.size]?=some (.deferred (some [])):=by
    rw[← hW1]; exact (Below.heap_alloc _ _ _ (by simp)).trans (World.alloc_heap_new w _)
  have hold:∀ b,b<w.heap.size→W1.heap[b]?=w.heap[b]?:=fun b hlt=>by
    rw[← hW1]; exact (Below.heap_alloc _ _ _ (by simp; omega)).trans (Below.heap_alloc w _ b hlt)
  have hs1:W1.heap.size=w.heap.size+2:=by rw[← hW1]; simp
  have hko1:a6 w W1:=li hold (by omega);have hw0:w0.heap.size≤w.heap.size:=h.bsize;have hbel1:aM w0.heap.size w0.ext w0 W1:=by
    rw[← hW1]; exact (h.below.step (Ac _) ((Below.refl _ _).alloc (Ac _) _)).step (Ac _) ((Below.refl _ _).alloc (Ac _) _)
  have hsame1:ct w W1:=fun b x hb _=>(hold b (z7.1 hb).1).trans hb
  have hinv1:Inv G N Sin w0 ⟨f0,h0,u0⟩ a2 W1 S m0:=by
    subst ha2;refine hinv0.turn hsame1 (by omega) rfl hbel1 rfl (fun t=>.inr rfl) ⟨⟨w.heap.size,rfl,hw0,hK1,fun d' hd' e=>?_⟩,h.defers.keep hko1⟩ (h.oth.trans hko1) ?_ h.sso h.fix
    ·have key:∀ {ds:List Deferred},cM w0.heap.size w ds→d'∈ds→d'.target≠.collected w.heap.size:=by
       intro ds
       induction ds with
       | nil=>intro _ h; cases h
       | cons d ds ih =>
         rintro⟨⟨D,h1,h2,h3,h4⟩,h5⟩ hm e;rcases Ax.1 hm with rfl | hm
         ·rw[h1] at e;simp only[Target.collected.injEq] at e;have:=(z7.1 h3).1;omega
         ·exact ih h5 hm e
     exact key h.defers hd' e
    ·exact h.kso.trans (hsame1.keeps _)
  have hat:a2.tmps=a.tmps:=by subst ha2; rfl
  refine⟨w.heap.size+1,[{ target:=.collected w.heap.size,args:=#[] }],W1,{ target:=.fn (.func gf) lb.toArray,args:=#[.func (.yield (w.heap.size+1)) #[] #[]] },W1,gf,
    #[.func (.yield (w.heap.size+1)) #[] #[]]++lb.toArray,W1,?_,?_,fun _ _=>trivial,?_,fun h=>(by cases h),?_⟩
  ·rw[← hW1,hrec]; exact run_enterLoop_outer _ _ _ _ _
  ·simp only[resolve,hg];simp[go_sem]
  ·simp[invoke,go_sem,hseq.1]
  ·
   obtain⟨J,hJ⟩:∃ J:LoopState→Option Code→(af→(Nat→Bool)→Prop)→World→Prop,J=fun st pe R W =>
     ∃ h u S' m',R h u∧Inv G N Sin w0 ⟨f0,h,u⟩ a2 W S' m'∧W.heap[w.heap.size+1]?=some (.loop (rec st pe))∧(∀ b i,S b i→S' b i)∧az S W1 W∧W1.heap.size≤W.heap.size:=⟨_,rfl⟩
   have Jgrow:∀ st pe R W W',J st pe R W→Below W.heap.size W W'→J st pe R W':=by
     intro st pe R W W' hj hbl;rw[hJ] at hj ⊢;obtain⟨h',u',S',m',k1,k2,k3,k4,k5,k6⟩:=hj;have hb:∀ b,b<W.heap.size→W'.heap[b]?=W.heap[b]?:=fun b hlt=>hbl.block b hlt
     refine⟨h',u',S',m',k1,k2.grow hb (k2.below.step (Ac _) hbl) hbl.size,(hb _ (z7.1 k3).1).trans k3,k4,k5.trans (e6 (fun b i hs=>(k2.sin b i (k4 b i hs)).1) hb),AB k6 hbl.size⟩
   have key:=hseq.2 (n-1) W1 S lb (fun b i hs=>by have:=(h.sin b i hs).1; omega) (h.glob.step (hsame1.keeps S) (fun _ _ h=>h)) ?_ (w.heap.size+1) (fun k=>J .ready none (I k)) (fun W=>∃ c:AX,J .done (some c.toCode) (fun h u=>Q' c ⟨f0,h,u⟩∧c≠.nrm) W) ?_ (fun k W W'=>Jgrow _ _ _ W W') (fun W W'=>?_) ?_ ?_
   ·refine CallsIn.mono key ?_;rintro e W2 ⟨⟨v,rfl⟩,hj | ⟨c,hj⟩⟩
    ·rw[hJ] at hj;obtain⟨h',u',S',m',k1,k2,k3,k4,k5,k6⟩:=hj;refine⟨none,_,by have:=run_endLoop (P:=P) k3 (by rw[hrec]; simp); rw[hrec] at this; exact this,?_⟩
     show Q .normal { a with defers:=[{ target:=.collected w.heap.size,args:=#[] }]++a.defers } _
     rw[List.singleton_append,ha2]
     refine hp .nrm _ _ _ S' m' (hdone h' u' k1) (k2.turn (ct.put k3 rfl) (grownBy_putObj' _ _ _).size rfl (k2.below.trans (aM.of (fW _ (by omega) k3))) rfl (fun t=>.inr rfl) (k2.defers.but (bo.put _ _ _) fun ds e=>by rw[k3] at e; cases e)
       ((bo.old k2.oth (bo.put _ _ _) (by have:=h.oth.size; omega))) (k2.kso.trans ((ct.put k3 rfl).keeps _)) k2.sso k2.fix)
    ·rw[hJ] at hj;obtain⟨h',u',S',m',⟨k1,kc⟩,k2,k3,k4,k5,k6⟩:=hj;refine⟨some c.toCode,_,by have:=run_endLoop (P:=P) k3 (by rw[hrec]; simp); rw[hrec] at this; exact this,?_⟩
     show c.toCode.wpIn (Fr none) n P Q { a with defers:=[{ target:=.collected w.heap.size,args:=#[] }]++a.defers } _
     rw[List.singleton_append,ha2]
     have hq:=hp c _ _ _ S' m' k1 (k2.turn (ct.put (o':=.loop { rec .done (some c.toCode) with state:=.exhausted }) k3 rfl) (grownBy_putObj' _ _ _).size rfl (k2.below.trans (aM.of (fW _ (by omega) k3))) rfl (fun t=>.inr rfl) (k2.defers.but (bo.put _ _ _) fun ds e=>by rw[k3] at e; cases e)
       ((bo.old k2.oth (bo.put _ _ _) (by have:=h.oth.size; omega))) (k2.kso.trans ((ct.put k3 rfl).keeps _)) k2.sso k2.fix)
     rw[hrec] at hq;cases c with
     | nrm=>exact absurd rfl kc
     | ex id=>exact wpIn_exit hq
     | ret=>exact wpIn_ret hq
   ·refine hlb.weak fun v d _ _ hr=>?_
    exact Reads.rw (hr.keep (hsame1.keeps S))
   ·intro k W hj;rw[hJ] at hj;obtain⟨h',u',S',m',k1,k2,k3,k4,k5,k6⟩:=hj;exact⟨k5,k6⟩
   ·rintro⟨c,hj⟩ hbl;exact⟨c,Jgrow _ _ _ W W' hj hbl⟩
   ·
    intro k r W us hr hj hus;rw[hJ] at hj;obtain⟨h',u',S',m',k1,k2,k3,k4,k5,k6⟩:=hj;have hrl:r.length=ps.toList.length:=hlen r (AQ hr);have hul:us.length=ps.toList.length:=hus.length.trans hrl;have hy:=run_yield (P:=P) (args:=us.toArray) k3 (by rw[hrec]; simpa using hul);rw[hrec] at hy;obtain⟨wr,hwr⟩:∃ wr,wr=ps.toList++sa.writes++sb.writes:=⟨_,rfl⟩
    let fx:Nat→Option Value:=fun t=>if t∈wr then none else some (a.tmps.getD t undef)
    have hfx:∀ t∈wr,fx t=none:=fun t ht=>if_pos ht
    let wA:Gh:={ w0 with wo:=W,so:=S',fx:=fx }
    have hfold:(ps.zip us.toArray).foldl (fun tmps (x:Tmp×Value)=>tmps.setIfInBounds x.1 x.2) a.tmps=(ps.toList.zip us).foldl (fun t p=>t.setIfInBounds p.1 p.2) a.tmps:=by
      rw[← Array.foldl_toList]; simp
    have hinvA:Inv G N Sin wA ⟨im f0 ps.toList r,h',u'⟩ { tmps:=(ps.zip us.toArray).foldl (fun tmps (x:Tmp×Value)=>tmps.setIfInBounds x.1 x.2) a.tmps,defers:=[] } W S' m':=by
      rw[hfold];have:=k2.turn (w1:=wA) (a':={ tmps:=a.tmps,defers:=[] }) (w':=W) (fun _ _ h _=>h) (Ac _) rfl k2.below (by rw[hat]) (fun t=>.inr (by rw[hat])) trivial (a6.refl W) (az.refl _ _) (fun _ _ h=>h) (fun t v ht=>by
        have ht':fx t=some v:=ht;simp only[fx] at ht';split at ht'
        ·cases ht'
        ·cases ht'; rfl)
      refine this.puts (hus.weak fun v d _ _ hv=>RW.mono k4 hv) (fun t ht=>⟨hps t ht,hfx t ?_⟩) hrl;rw[hwr]; simp[ht]
    refine⟨fn,_,asg,body,hy,roundIn_of_wpIn trivial ?_⟩;refine ha (w1:=wA) (r:=some (w.heap.size+1)) (fun t ht=>hfx t (by rw[hwr]; simp[ht])) ?_ hinvA (hround k r h' u' hr k1);rintro e1 σ1 a1 V1 S1 m1 q1 hinv1';cases e1 with
    | ex id=>exact q1.elim
    | ret=>exact q1.elim
    | nrm =>
      have hl1:V1.heap[w.heap.size+1]?=some (.loop (rec .ready none)):=hinv1'.oth.same _ _ k3 rfl;refine⟨_,run_beginRound hl1 (by rw[hrec]),?_⟩;obtain⟨V2,hV2⟩:∃ V2,V1.putObj (w.heap.size+1) (.loop { rec .ready none with state:=.busy })=V2:=⟨_,rfl⟩
      rw[hV2];have hl2:V2.heap[w.heap.size+1]?=some (.loop { rec .ready none with state:=.busy }):=by rw[← hV2]; exact World.putObj_heap_same (z7.1 hl1).1
      have hsc2:ct V1 V2:=by rw[← hV2]; exact ct.put hl1 rfl
      have hkb2:bo (w.heap.size+1) V1 V2:=by rw[← hV2]; exact bo.put _ _ _
      let wB:Gh:={ w0 with wo:=V2,so:=S1,fx:=fx }
      have hbelB:aM w0.heap.size w0.ext w0 V2:=by
        rw[← hV2]; exact aM.trans (show aM w0.heap.size w0.ext w0 V1 from hinv1'.below) (aM.of (fW _ (by omega) hl1))
      have hinvB:Inv G N Sin wB σ1 a1 V2 S1 m1:=by
        exact hinv1'.turn (w1:=wB) hsc2 hkb2.size rfl hbelB rfl (fun t=>.inr rfl) (hinv1'.defers.but hkb2 fun ds e=>by rw[hl1] at e; cases e) (a6.refl V2) (az.refl _ _) (fun _ _ h=>h) hinv1'.fix
      refine hb (w1:=wB) (r:=some (w.heap.size+1)) (fun t ht=>hfx t (by rw[hwr]; simp[ht])) ?_ hinvB q1;rintro e2 σ2 a3 V3 S3 m3 q2 hinv3;have hl3:V3.heap[w.heap.size+1]?=some (.loop { rec .ready none with state:=.busy }):=hinv3.oth.same _ _ hl2 rfl;have bg:∀ (st:LoopState) (pe:Option Code) (R:af→(Nat→Bool)→Prop) (h2:af) (u2:Nat→Bool),R h2 u2→da σ2 ⟨f0,h2,u2⟩→J st pe R (V3.putObj (w.heap.size+1) (.loop (rec st pe))):=by
        intro st pe R h2 u2 hR hent2;obtain⟨m4,hinv4⟩:=hinv3.ent hent2;have hsc4:ct V3 (V3.putObj (w.heap.size+1) (.loop (rec st pe))):=ct.put hl3 rfl;have hkb:bo (w.heap.size+1) W (V3.putObj (w.heap.size+1) (.loop (rec st pe))) :=
          ((bo.of hinv1'.oth).trans hkb2).trans ((bo.of hinv3.oth).trans (bo.put _ _ _))
        have hkp:az S' W (V3.putObj (w.heap.size+1) (.loop (rec st pe))):=by
          have c1:az S' W V1:=hinv1'.kso;have c2:az S' V1 V2:=hsc2.keeps _;have c3:az S1 V2 V3:=hinv3.kso;have c4:az S' V3 _:=hsc4.keeps _;exact ((c1.trans c2).trans (c3.sub hinv1'.sso)).trans c4
        rw[hJ];refine⟨h2,u2,S3,m4,hR,?_,World.putObj_heap_same (z7.1 hl3).1,fun b i hs=>hinv3.sso b i (hinv1'.sso b i (k4 b i hs)),k5.trans (hkp.sub k4),AB k6 hkb.size⟩;have hbel4:aM w0.heap.size w0.ext w0 (V3.putObj (w.heap.size+1) (.loop (rec st pe))):=aM.trans (show aM w0.heap.size w0.ext w0 V3 from hinv3.below) (aM.of (fW _ (by omega) hl3))
        refine hinv4.turn (w1:=w0) hsc4 (grownBy_putObj' _ _ _).size rfl hbel4 (by rw[hat,h.size]; exact hinv3.size.symm) (fun t=>?_) (k2.defers.but hkb fun ds e=>by rw[k3] at e; cases e) (bo.old k2.oth hkb (by have:=h.oth.size; omega))
          (k2.kso.trans (hkp.sub k2.sso)) (fun b i hs=>hinv3.sso b i (hinv1'.sso b i (k2.sso b i hs))) (fun t v ht=>?_)
        ·by_cases hm:t∈wr
         ·left; exact hun t (by rw[← hwr]; exact hm)
         ·right;rw[hat];exact (hinv3.fix t (a.tmps.getD t undef) (if_neg hm)).symm
        ·rw[hat]; exact h.fix t v ht
      have hend:=fun (jump:Option Code)=>run_endRound (P:=P) jump hl3
      cases e2 with
      | nrm =>
        obtain⟨h2,u2,hent2,hI2⟩:=q2;refine⟨_,_,hend none,.inl ⟨rfl,?_⟩⟩;have:=bg .ready none (I (k+1)) h2 u2 hI2 hent2;rw[hrec] at this ⊢;exact this
      | ex id =>
        obtain⟨h2,u2,hent2,hI2⟩:=q2;refine⟨_,_,hend (some (.exit id)),.inr ⟨rfl,.ex id,?_⟩⟩;have:=bg .done (some (.exit id)) (fun h u=>Q' (.ex id) ⟨f0,h,u⟩∧AX.ex id≠.nrm) h2 u2 ⟨hI2,by simp⟩ hent2;rw[hrec] at this ⊢;exact this
      | ret =>
        obtain⟨h2,u2,hent2,hI2⟩:=q2;refine⟨_,_,hend (some .ret),.inr ⟨rfl,.ret,?_⟩⟩;have:=bg .done (some .ret) (fun h u=>Q' .ret ⟨f0,h,u⟩∧AX.ret≠.nrm) h2 u2 ⟨hI2,by simp⟩ hent2;rw[hrec] at this ⊢;exact this
   ·rw[hJ];exact⟨h0,u0,S,m0,hI0,hinv1,hL1,fun _ _ h=>h,az.refl _ _,Ac _⟩
theorem iR {h:af} {id:Nat} {o:Ob} (ho:h id=some o):∀ l:List C,killAll h l id=none→∃ sz off n,C.own id sz off n∈l
  | [],hh=>by simp only[killAll] at hh; rw[ho] at hh; cases hh
  | c::l,hh=>by
    cases c <;> simp only[killAll] at hh
    case own id2 sz2 off2 n2 =>
      by_cases e:id=id2
      ·subst e; exact⟨sz2,off2,n2,Ak ..⟩
      ·simp only[upd,e,if_false] at hh;obtain⟨x,y,z,hz⟩:=iR ho l hh;exact⟨x,y,z,Ad _ hz⟩
    all_goals (obtain⟨x,y,z,hz⟩:=iR ho l hh; exact⟨x,y,z,Ad _ hz⟩)
theorem nF (h:Inv G N Sin w0 σ a w S m) {T:ae} (hT:∀ b i,S b i→T b i) {q:IntKind}:∀ {E:List MapEntry} {es:List (Int×C)} {ds:List (Int×D)},aa (fun (e:MapEntry) (p:Int×C)=>e.key=.int q p.1∧RW m S w e.val (.c p.2)) E es→gn σ.h es=some ds →
    (∀ p∈es,∀ id∈p.2.ids,∀ o b s i,(∃ sz off n,p.2=.own id sz off n)→σ.h id=some o→m id=some (b,s)→T b i)→aa (eX T w q) E ds
  | _,_,_,.nil,e,_=>by simp only[gn,z3] at e; subst e; exact .nil
  | _,(k,c)::_,_,.cons h1 h2,e,hid=>by
    simp only[gn] at e;split at e
    ·rename_i d l hd hl;split at e
     ·rename_i hone;cases e;refine .cons ⟨h1.1,?_⟩ (nF h hT h2 hl fun p hp=>hid p (Ad _ hp));have h3:=h1.2;have hrc:∀ v,RW m S w v (.c c)→RC m S w v c:=by
        intro v h3;cases c with
        | d x =>
          cases x with
          | agg cs=>simp only[bh,z3] at hd; subst hd; cases hone
          | _=>exact h3
        | _=>exact h3
      exact ia h hT (fun id hi o b s i ho hm=>hid (k,c) (Ak ..) id hi o b s i (ga hd id hi) ho hm) (hrc _ h3) hd
     ·cases e
    ·cases e
theorem Inv.reob (h:Inv G N Sin w0 σ a w S m) {id:Nat} {o o':Ob} (ho:σ.h id=some o) (hk:aA m S w0.may w id o') (hids:∀ j∈o'.ids,σ.u j=true):Inv G N Sin w0 ⟨σ.f,upd σ.h id (some o'),σ.u⟩ a w S m:=by
  have sub:∀ i,upd σ.h id (some o') i≠none→σ.h i≠none:=fun i hi=>by
    by_cases e:i=id
    ·subst e; rw[ho]; simp
    ·rwa [upd_ne _ _ e] at hi
  refine⟨h.size,h.defers,h.slot,h.used,fun i x hx=>?_,fun i j b s s' h1 h2 h3 h4=>h.inj i j b s s' (sub i h1) (sub j h2) h3 h4,h.sin,h.sub,h.glob,h.below,h.oth,h.kso,h.sso,h.fix⟩;have hx:upd σ.h id (some o') i=some x:=hx;by_cases e:i=id
  ·subst e;rw[upd_same] at hx;cases hx;exact⟨hk,(h.obj i o ho).2.1,hids⟩
  ·rw[upd_ne _ _ e] at hx;exact h.obj i x hx
theorem gM {h:af}:∀ {cs cs':List C},ck h cs=some cs'→cs'.flatMap C.ids=[]
  | [],_,e=>by simp only[ck,z3] at e; subst e; rfl
  | .nil::r,_,e=>by
    simp only[ck,z2] at e;obtain⟨l,hl,rfl⟩:=e;rw[z8,gM hl]; rfl
  | .d x::r,_,e=>by
    simp only[ck,z2] at e;obtain⟨l,hl,rfl⟩:=e;rw[z8,gM hl]; rfl
  | .own ..::r,_,e | .ptr ..::r,_,e | .pa ..::r,_,e | .rp ..::r,_,e | .cf ..::r,_,e | .mp ..::r,_,e=>by
    simp only[ck] at e;split at e
    ·rename_i d l hd hl;cases e;rw[z8,gM hl]; rfl
    ·cases e
theorem v8 {h:af} {cs cs':List C} {id:Nat} {o1:Ob} (_:ck h cs=some cs') (hk:killAll h cs id=some o1) (ho:h id=some (.box cs)):o1=.box cs:=by
  have key:∀ (l:List C),killAll h l id=some o1→h id=some o1:=by
    intro l
    induction l with
    | nil=>exact fun e=>e
    | cons c r ih =>
      intro e;cases c <;> simp only[killAll] at e
      case own i2 s2 f2 n2 =>
        by_cases g:id=i2
        ·subst g; simp[upd] at e
        ·simp only[upd,g,if_false] at e;exact ih e
      all_goals exact ih e
  have:=key cs hk;rw[ho] at this;cases this;rfl
theorem xH (h:Inv G N Sin w0 σ a w S m) {S1:ae} (h2:∀ b i,S b i→S1 b i) {cs0:List C} (h3:∀ id∈cs0.flatMap C.ids,∀ o b s i,(∃ sz off n,C.own id sz off n∈cs0)→σ.h id=some o→m id=some (b,s)→S1 b i) {cur:Array Value} {sz:Nat}
    (k:aI m S w sz cur (.box cs0)) {cs':List C} (hcs:ck σ.h cs0=some cs'):aI m S1 w sz cur (.box cs'):=by
  have key:∀ {cs cs':List C},(∀ c∈cs,c∈cs0)→ck σ.h cs=some cs'→cs'.length=cs.length∧∀ j (hj:j<cs.length) (hj':j<cs'.length) (v:Value),RC m S w v cs[j]→RC m S1 w v cs'[j]:=by
    intro cs
    induction cs with
    | nil=>intro cs' _ e; simp only[ck,z3] at e; subst e; exact⟨rfl,fun j hj=>by cases hj⟩
    | cons c r ih =>
      intro cs' hmem e;have hr:∀ x∈r,x∈cs0:=fun x hx=>hmem x (Ad _ hx)
      have step:∀ (c':C) (l:List C),cs'=c'::l→ck σ.h r=some l→(∀ v,RC m S w v c→RC m S1 w v c')→cs'.length=(c::r).length∧∀ j (hj:j<(c::r).length) (hj':j<cs'.length) (v:Value),RC m S w v (c::r)[j]→RC m S1 w v cs'[j]:=by
        rintro c' l rfl hl hc;obtain⟨q1,q2⟩:=ih hr hl;refine⟨by simp[q1],fun j hj hj' v hv=>?_⟩;cases j with
        | zero=>exact hc v hv
        | succ j=>exact q2 j (by simpa using hj) (by simpa using hj') v hv
      have own:∀ d,bh σ.h c=some d→∀ v,RC m S w v c→RC m S1 w v (.d d):=fun d hd v hv=>by
        refine ia h h2 (fun id hid o b s i ho hm=>?_) hv hd;exact h3 id (z5.2 ⟨c,hmem c (Ak ..),hid⟩) o b s i (by obtain⟨sz,off,n,e⟩:=ga hd id hid; exact⟨sz,off,n,e ▸ hmem c (Ak ..)⟩) ho hm
      cases c with
      | nil =>
        simp only[ck,z2] at e;obtain⟨l,hl,rfl⟩:=e;exact step _ _ rfl hl fun v hv=>hv
      | d x =>
        simp only[ck,z2] at e;obtain⟨l,hl,rfl⟩:=e;exact step _ _ rfl hl fun v hv=>Reads.mono hv h2
      | _ =>
        simp only[ck] at e;split at e
        ·rename_i d l hd hl;cases e;exact step _ _ rfl hl (own d hd)
        ·cases e
  obtain⟨q1,q2⟩:=key (fun _ h=>h) hcs;obtain⟨k1,k2⟩:=k;refine⟨by omega,fun j hj=>?_⟩;obtain⟨v,hv,hr⟩:=k2 j (by omega);exact⟨v,hv,q2 j (by omega) hj v hr⟩
theorem yl (h:Inv G N Sin w0 σ a w S m) {t:Nat} {τ:St} (e:kv σ t=some τ):∃ S',Inv G N Sin w0 τ a w S' m:=by
  unfold kv at e;split at e
  ·rename_i id hft;split at e
   ·rename_i q es hob;simp only[z2] at e;obtain⟨ds,hds,rfl⟩:=e;obtain⟨S1,h1,h2,h3⟩:=h.killAll (es.map (·.2));have hown:∀ p∈es,∀ id∈p.2.ids,∀ o b s i,(∃ sz off n,p.2=.own id sz off n)→σ.h id=some o→m id=some (b,s)→S1 b i:=by
      rintro p hp id' hid o b s i ⟨sz,off,n,e⟩ ho hm;have hmem:C.own id' sz off n∈es.map (·.2):=Ae.2 ⟨p,hp,e⟩;exact h3 id' (z5.2 ⟨_,hmem,by simp[C.ids]⟩) o b s i ⟨sz,off,n,hmem⟩ ho hm
    obtain⟨S2,hI,hS,hb2⟩:∃ S2,Inv G N Sin w0 ⟨σ.f,upd (Go.Proofs.Yteohdchecapkfaa.killAll σ.h (es.map (·.2))) id none,σ.u⟩ a w S2 m∧(∀ b i,S1 b i→S2 b i)∧∀ b s,m id=some (b,s)→S2 b 0:=by
      cases hl:Go.Proofs.Yteohdchecapkfaa.killAll σ.h (es.map (·.2)) id with
      | none =>
        obtain⟨sz,off,n,hmem⟩:=iR hob _ hl;exact⟨S1,h1.kill id,fun _ _ h=>h,fun b s hm=>h3 id (z5.2 ⟨_,hmem,by simp[C.ids]⟩) _ b s 0 ⟨sz,off,n,hmem⟩ hob hm⟩
      | some o1=>exact⟨_,h1.freeze id o1 hl,fun _ _ h=>.inl h,fun b s hm=>.inr ⟨s,hm⟩⟩
    have hsl:=h.slot t;rw[hft] at hsl;obtain⟨b,hm,hval⟩:=hsl;have hobj:=(h.obj id _ hob).1;unfold aA at hobj;rw[hm] at hobj;obtain⟨_,_,_,cur,ty,fz,⟨E,c,hb,hE,hB⟩,_⟩:=hobj;have hread:Reads S2 w (a.tmps.getD t undef) (.mp q ds):=by
      rw[hval];exact Reads.of_map (hb2 b 1 hm) hb hB (nF h (fun b i hs=>hS _ _ (h2 _ _ hs)) hE hds fun p hp id hid o b s i h4 h5 h6=>hS _ _ (hown p hp id hid o b s i h4 h5 h6))
    refine⟨S2,hI.size,hI.defers,fun t'=>?_,fun t' i hi=>?_,hI.obj,hI.inj,hI.sin,hI.sub,hI.glob,hI.below,hI.oth,hI.kso,hI.sso,hI.fix⟩
    ·show RV m S2 w _ (upd σ.f t (vd (.mp q ds)) t')
     by_cases e:t'=t
     ·subst e;rw[upd_same];exact hread
     ·rw[upd_ne _ _ e];exact hI.slot t'
    ·have hi:i∈(upd σ.f t (vd (.mp q ds)) t').ids:=hi;by_cases e:t'=t
     ·subst e;rw[upd_same] at hi;cases hi
     ·rw[upd_ne _ _ e] at hi;exact hI.used t' i hi
   ·cases e
  ·rename_i id sz hft;split at e
   ·rename_i cs hob;split at e
    ·rename_i ds hds;cases e;have hI:=h.freeze id _ hob;have hsl:=h.slot t;rw[hft] at hsl;have href:dl σ.h id 0 0=some (.ref ds):=by
       unfold dl;rw[hob];simp[hds]
     have hread:=jI h (T:=fun b i=>S b i∨∃ s,m id=some (b,s)) (fun _ _ hs=>.inl hs) (fun _ b s _ _ hm=>.inr ⟨s,hm⟩) hsl href;obtain⟨a',hv,hc⟩:=hread.cellsAt;refine⟨_,hI.size,hI.defers,fun t'=>?_,fun t' i hi=>?_,hI.obj,hI.inj,hI.sin,hI.sub,hI.glob,hI.below,hI.oth,hI.kso,hI.sso,hI.fix⟩
     ·show RV m _ w _ (upd σ.f t (.w (.c (.rp ds))) t')
      by_cases e:t'=t
      ·subst e;rw[upd_same];exact⟨a',hv,hc⟩
      ·rw[upd_ne _ _ e];exact hI.slot t'
     ·have hi:i∈(upd σ.f t (.w (.c (.rp ds))) t').ids:=hi;by_cases e:t'=t
      ·subst e;rw[upd_same] at hi;cases hi
      ·rw[upd_ne _ _ e] at hi;exact hI.used t' i hi
    ·split at e
     ·rename_i cs' o1 hcs hk;cases e;obtain⟨S1,h1,h2,h3⟩:=h.killAll cs;refine⟨S1,h1.reob hk ?_ fun j hj=>?_⟩
      ·have hob1:=(h1.obj id _ hk).1;have hob0:=(h.obj id _ hob).1;have e1:=v8 hcs hk hob;subst e1;unfold aA at hob1 hob0 ⊢;cases hm:m id with
       | none =>
         rw[hm] at hob0;obtain⟨_,hh⟩:=hob0;cases hh
       | some p =>
         obtain⟨b,s⟩:=p;rw[hm] at hob1 hob0;obtain⟨g1,g2,g3,cur,ty,fz,g4,g5,g6⟩:=hob1;obtain⟨_,_,_,cur0,ty0,fz0,k4,k5,k6⟩:=hob0;have g4':w.heap[b]?=some (.cells cur ty fz):=g4;have k4':w.heap[b]?=some (.cells cur0 ty0 fz0):=k4;rw[g4'] at k4';obtain⟨rfl,rfl,rfl⟩:cur=cur0∧ty=ty0∧fz=fz0:=by simpa using k4'
         exact⟨g1,g2,g3,cur,ty,fz,g4',g5,xH h h2 h3 k6 hcs⟩
      ·have:=gM hcs;simp only[Ob.ids,this] at hj;cases hj
     ·cases e
   ·cases e
  ·cases e
theorem e8 {b:Frame} {k:List Item} {cs:List Frame} {c:Code}:step P (lone (b.atR a (.code (.scope c)::k)) cs w)=.next (lone (b.atR a (.code c::.inScope c::k)) cs w) :=
  step_lone_go (by simp[stepG,stepG.exec,Frame.atR])
theorem vq {b:Frame} {k:List Item} {cs:List Frame} {c:Code}:step P (lone (b.atR a (.inScope c::k)) cs w)=.next (lone (b.atR a k) cs w) :=
  step_lone_go (by simp[stepG,stepG.exec,Frame.atR])
def zW (Q:Exit→Act→World→Prop):Exit→Act→World→Prop
  | .goto _,_,_=>False
  | e,a,w=>Q e a w
theorem v9 {F:Fence} {k:Nat} {c:Code} {Q:Exit→Act→World→Prop} (h:c.wpIn F k P (zW Q) a w):(Code.scope c).wpIn F k P Q a w:=by
  intro b k cs hro hb hr;have h0:(lone (b.atR a (.code (.scope c)::k)) cs w).fenced P F:=fenced_calm hb hr rfl;obtain⟨e,a₁,w₁,hq,harr⟩:=h b (.inScope c::k) cs hro hb hr;cases e with
  | normal=>exact⟨.normal,a₁,w₁,hq,.head h0 e8 (StepsIn.trans harr (.one (fenced_calm hb hr rfl) vq))⟩
  | exit id =>
    have hx:exitTo id (.inScope c::k)=exitTo id k:=by simp[exitTo]
    exact⟨.exit id,a₁,w₁,hq,fun k' hk=>.head h0 e8 (harr.1 k' (by rw[hx]; exact hk)),
      fun hr' hk=>let ⟨k₁,h1,h2⟩:=harr.2 hr' (by rw[hx]; exact hk); ⟨k₁,h1,.head h0 e8 h2⟩⟩
  | goto l=>exact hq.elim
  | ret=>exact⟨_,a₁,w₁,hq,.of_steps (.one h0 e8) harr⟩
  | panic ch=>exact⟨_,a₁,w₁,hq,.of_steps (.one h0 e8) harr⟩
  | outgrown=>exact⟨_,a₁,w₁,hq,.of_steps (.one h0 e8) harr⟩
theorem dd:∀ (c:Code) {inr:Bool} {sc:aL},bA P H N inr c=some sc→∀ {r:Option Nat} {n:Nat} {w0:Gh} {Q':AX→St→Prop} {Q:Exit→Act→World→Prop} {σ:St} {a:Act} {w:World} {S:ae} {m:Mp},(inr=false→r=none)→(∀ t∈sc.writes,w0.fx t=none)→iA G N Sin w0 Q' Q→Inv G N Sin w0 σ a w S m→aJ P G sc Q' σ→c.wpIn (Fr r) n P Q a w
  | .skip,inr,sc,hc,r,n,w0,Q',Q,σ,a,w,S,m,hr,hf,hp,h,e=>by
    simp only[bA,z3] at hc;subst hc;exact wpIn_skip (hp _ _ _ _ _ _ e h)
  | .region id ops draws,inr,sc,hc,r,n,w0,Q',Q,σ,a,w,S,m,hr,hf,hp,h,e=>by
    simp only[bA,z2] at hc;obtain⟨c',hc,rfl⟩:=hc;have hf':∀ t∈c'.writes,w0.fx t=none:=fun t ht=>hf t (by unfold jP; split <;> exact ht)
    have base:∀ {σ:St} {S:ae},Inv G N Sin w0 σ a w S m→aJ P G c' Q' σ→(Code.region id ops draws).wpIn (Fr r) n P Q a w:=by
      intro σ S h e;split at hc
      ·rename_i cs hcs;cases hc;refine vA hcs (fun so hs t ht=>hf' t (A6.2 ⟨so,hs,ht⟩)) h e ?_;rintro a1 w1 ⟨σ1,S1,m1,k1,k2⟩;exact hp _ _ _ _ _ _ k1 k2
      ·split at hc
       ·rename_i hcs;cases hc;refine v7 hcs hf' h e ?_;rintro a1 w1 ⟨σ1,S1,m1,k1,k2⟩;exact hp _ _ _ _ _ _ k1 k2
       ·split at hc <;> cases hc;exact False.elim e
    unfold jP at e;split at e
    ·rename_i p hgp;simp only[aJ] at e;split at e
     ·rename_i τ hτ;obtain⟨S',hI⟩:=yl h hτ;exact base hI e
     ·exact e.elim
    ·exact base h e
  | .seq x y,inr,sc,hc,r,n,w0,Q',Q,σ,a,w,S,m,hr,hf,hp,h,e=>by
    simp only[bA] at hc;split at hc
    ·rename_i x' y' hx hy;cases hc;refine wpIn_seq (dd x hx hr (fun t ht=>hf t (Af _ ht)) ?_ h e);intro ax σ1 a1 w1 S1 m1 k1 k2;cases ax with
     | nrm=>exact dd y hy hr (fun t ht=>hf t (z6 _ ht)) hp k2 k1
     | ex id=>exact hp _ _ _ _ _ _ k1 k2
     | ret=>exact hp _ _ _ _ _ _ k1 k2
    ·cases hc
  | .cond x y z,inr,sc,hc,r,n,w0,Q',Q,σ,a,w,S,m,hr,hf,hp,h,e=>by
    simp only[bA] at hc;split at hc
    ·rename_i x' y' z' hx hy hz;cases hc;simp only[aJ] at e;cases ht:aU (ev G σ.f x') with
     | none=>rw[ht] at e; exact e.elim
     | some t =>
       rw[ht] at e;have hv:=gk (h.operand hx).1 ht;exact wpIn_cond_split hv (fun g=>dd y hy hr (fun t ht=>hf t (Af _ ht)) hp h (e.1 g)) fun g=>dd z hz hr (fun t ht=>hf t (z6 _ ht)) hp h (e.2 g)
    ·cases hc
  | .block id c,inr,sc,hc,r,n,w0,Q',Q,σ,a,w,S,m,hr,hf,hp,h,e=>by
    simp only[bA,z2] at hc;obtain⟨c',hcc,rfl⟩:=hc;refine wpIn_block (dd c hcc hr hf ?_ h e);intro ax σ1 a1 w1 S1 m1 k1 k2;cases ax with
    | nrm=>exact hp _ _ _ _ _ _ k1 k2
    | ex i =>
      show Exit.inBlock id Q (.exit i) a1 w1
      unfold Exit.inBlock;simp only at k1 ⊢;by_cases hi:i=id
      ·rw[if_pos hi] at k1 ⊢;exact hp _ _ _ _ _ _ k1 k2
      ·rw[if_neg hi] at k1 ⊢;exact hp _ _ _ _ _ _ k1 k2
    | ret=>exact hp _ _ _ _ _ _ k1 k2
  | .loop c,inr,sc,hc,r,n,w0,Q',Q,σ,a,w,S,m,hr,hf,hp,h,e=>by
    simp only[bA,z2] at hc;obtain⟨c',hcc,rfl⟩:=hc;obtain⟨I,⟨n0,τ,he,hI⟩,hround⟩:=e;obtain⟨m',hinv⟩:=h.ent he;refine vE (fun n a w=>∃ τ S m,I n τ∧Inv G N Sin w0 τ a w S m) ⟨τ,S,m',hI,hinv⟩ ?_;rintro n a1 w1 ⟨τ,S1,m1,k1,k2⟩;refine dd c hcc hr hf ?_ k2 (hround n τ k1);intro ax σ2 a2 w2 S2 m2 q1 q2;cases ax with
    | nrm =>
      obtain⟨n',τ',g1,g2,g3⟩:=q1;obtain⟨m3,hinv3⟩:=q2.ent g2;exact⟨n',g1,τ',S2,m3,g3,hinv3⟩
    | ex i=>exact hp _ _ _ _ _ _ q1 q2
    | ret=>exact hp _ _ _ _ _ _ q1 q2
  | .exit id,inr,sc,hc,r,n,w0,Q',Q,σ,a,w,S,m,hr,hf,hp,h,e=>by
    simp only[bA,z3] at hc;subst hc;exact wpIn_exit (hp _ _ _ _ _ _ e h)
  | .ret,inr,sc,hc,r,n,w0,Q',Q,σ,a,w,S,m,hr,hf,hp,h,e=>by
    simp only[bA,z3] at hc;subst hc;exact wpIn_ret (hp _ _ _ _ _ _ e h)
  | .rangeFunc g ps x y,inr,sc,hc,r,n,w0,Q',Q,σ,a,w,S,m,hr,hf,hp,h,e=>by
    simp only[bA] at hc;split at hc
    ·rename_i hi;obtain rfl:=hr hi.1;split at hc
     ·rename_i g' x' y' hg hx hy;cases hc;refine vF hg (fun t ht=>?_) (fun hf=>dd x hx (fun h=>by cases h) hf) (fun hf=>dd y hy (fun h=>by cases h) hf) hp h e;have:=hi.2;rw[← Array.all_toList,Ai] at this
      simpa using this t ht
     ·cases hc
    ·cases hc
  | .scope c,inr,sc,hc,r,n,w0,Q',Q,σ,a,w,S,m,hr,hf,hp,h,e=>by
    simp only[bA] at hc;refine v9 (dd c hc hr hf ?_ h e);intro ax σ1 a1 w1 S1 m1 k1 k2;cases ax with
    | nrm=>exact hp _ _ _ _ _ _ k1 k2
    | ex i=>exact hp _ _ _ _ _ _ k1 k2
    | ret=>exact hp _ _ _ _ _ _ k1 k2
  | .label _,inr,sc,hc,r,n,w0,Q',Q,σ,a,w,S,m,hr,hf,hp,h,e=>by
    simp only[bA,z3] at hc;subst hc;exact wpIn_label (hp _ _ _ _ _ _ e h)
  | .goto _,inr,sc,hc,r,n,w0,Q',Q,σ,a,w,S,m,hr,hf,hp,h,e=>by simp[bA] at hc
  | .refuse _,inr,sc,hc,r,n,w0,Q',Q,σ,a,w,S,m,hr,hf,hp,h,e=>by simp[bA] at hc
def iB (tmps:Array Value):ResultVar→Sem Value
  | .tmp t=>pure (tmps.getD t undef)
  | .cell a t=>do loadVar t (← asAddr (tmps.getD a undef))
theorem ym (h:Inv G N Sin w0 σ a w S m) {r:ResultVar} {l:Nat×Option Kd} (hc:gb P r=some l) {x:W} (hx:a9 σ l=some x):∃ u,(iB a.tmps r).run P w=.ok u w∧RW m S w u x∧∀ i∈x.ids,σ.u i=true:=by
  cases r with
  | tmp t =>
    simp only[gb,z3] at hc;subst hc;obtain⟨h1,h2⟩:=hY (h.slot t) hx;refine⟨_,rfl,h1,fun i hi=>h.used t i ?_⟩;rw[h2]; exact hi
  | cell t ty =>
    simp only[gb,z2] at hc;obtain⟨kd,hk,rfl⟩:=hc;obtain⟨ad,us,h1,h2,h3,h4,h5⟩:=uc h (h.slot t) hx;refine⟨valOf kd us,?_,h4,h5⟩;simp only[iB,h1,asAddr];simp[ll hk ad us h2 h3]
theorem jQ (h:Inv G N Sin w0 σ a w S m):∀ {rs:List ResultVar} {l:List (Nat×Option Kd)} {ws:List W},av (gb P) rs=some l→av (a9 σ) l=some ws→∃ us:List Value,(rs.mapM (iB a.tmps)).run P w=.ok us w∧aa (RW m S w) us ws∧∀ i∈ws.flatMap W.ids,σ.u i=true
  | [],l,ws,h1,h2=>by
    simp only[av,z3] at h1;subst h1;simp only[av,z3] at h2;subst h2;exact⟨[],rfl,.nil,fun i hi=>by cases hi⟩
  | r::rs,l,ws,h1,h2=>by
    simp only[av] at h1;split at h1
    ·rename_i y l' hy hl;cases h1;simp only[av] at h2;split at h2
     ·rename_i x ws' hx hws;cases h2;obtain⟨u,k1,k2,k3⟩:=ym h hy hx;obtain⟨us,q1,q2,q3⟩:=jQ h hl hws;refine⟨u::us,?_,.cons k2 q2,fun i hi=>?_⟩
      ·simp[List.mapM_cons,k1,q1]
      ·rw[z8] at hi;rcases Ah.1 hi with hi | hi
       ·exact k3 i hi
       ·exact q3 i hi
     ·cases h2
    ·cases h1
theorem lr (fn:Func) (tmps:Array Value):results fn tmps=(do let vs ← fn.results.mapM (iB tmps); pure (if h:vs.size=1 then vs[0] else .tuple vs)):=by
  unfold results
  congr 1
def bW (σ:St) (m:Mp) (ids:List Nat) (bl:List Nat):Prop:=bl.Nodup∧∀ b∈bl,∃ id∈ids,∃ s,m id=some (b,s)∧σ.h id≠none
theorem bW.append (h:Inv G N Sin w0 σ a w S m) {l1 l2 b1 b2:List Nat} (hn:(l1++l2).Nodup) (h1:bW σ m l1 b1) (h2:bW σ m l2 b2):bW σ m (l1++l2) (b1++b2):=by
  refine⟨AS.2 ⟨h1.1,h2.1,fun b hb c hc e=>?_⟩,fun b hb=>?_⟩
  ·subst e;obtain⟨i,hi,s,e1,e2⟩:=h1.2 b hb;obtain⟨j,hj,s',e3,e4⟩:=h2.2 b hc;have:=h.inj i j b s s' e2 e4 e1 e3;subst this;exact (AS.1 hn).2.2 i hi i hj rfl
  ·rcases Ah.1 hb with hb | hb
   ·obtain⟨i,hi,r⟩:=h1.2 b hb;exact⟨i,Af _ hi,r⟩
   ·obtain⟨i,hi,r⟩:=h2.2 b hb;exact⟨i,z6 _ hi,r⟩
theorem bW.none (σ:St) (m:Mp) (ids:List Nat):bW σ m ids []:=⟨.nil,fun b hb=>by cases hb⟩
theorem kb (h:Inv G N Sin w0 σ a w S m) (hx:∀ b,¬ w0.ext b) {u:Value} {c r:C} (hv:RC m S w u c) (he:gB σ.h c r):∃ bl,cw S w w0.heap.size u r bl∧bW σ m c.ids bl:=by
  unfold gB at he;split at he
  ·rename_i id sz off n sz' es;obtain⟨rfl,rfl,he⟩:=he;split at he
   ·rename_i o ho;obtain⟨he1,he2⟩:=he;cases o with
    | box cs=>exact he2.elim
    | mp q es=>exact he2.elim
    | it q l p=>exact he2.elim
    | row s0 es0 =>
      simp only[bH] at he1;split at he1
      ·rename_i hle;cases he1;have hv':aD m w u id _ 0 n:=hv;have hob:=(h.obj id _ ho).1;unfold aD at hv';unfold aA at hob;split at hv'
       ·obtain⟨⟨ad,rfl⟩,_,rfl⟩:=hv';exact⟨[],.inl ⟨⟨ad,rfl⟩,by simp,rfl⟩,bW.none _ _ _⟩
       ·rename_i b sz2 hm;obtain⟨rfl,ad,cap,ty,M,rfl,g2,g3,g4,g5,g6⟩:=hv';rw[hm] at hob;obtain⟨k1,k2,k3,cur,ty',fz,k4,k5,k6⟩:=hob;have had:=g4 (.inr rfl);rw[Nat.zero_mul] at had;subst had;have hlen:((es0.drop 0).take n).length=n:=by rw[Aj,List.drop_zero]; omega
        refine⟨[b],.inr ⟨b,cap,ty,M,rfl,by rw[hlen],by rw[hlen]; exact g2,g3,g5,by simpa using g6,k2.resolve_right (hx _),k3,cur,ty',fz,k4,k5,?_,fun i hi=>?_⟩,⟨by simp,fun b' hb'=>⟨id,by simp[C.ids],sz2,?_,by rw[ho]; simp⟩⟩⟩
        ·rw[hlen];exact AB (Ag _ (by omega)) k6.1
        ·have hi':i<es0.length:=by rw[hlen] at hi; omega
         have he:((es0.drop 0).take n)[i]=es0[i]:=by simp
         rw[he];exact k6.2 i hi'
        ·simp only[Am] at hb';rw[hb']; exact hm
      ·cases he1
   ·exact he.elim
  ·subst he;exact⟨[],.inl ⟨hv,rfl,rfl⟩,bW.none _ _ _⟩
  ·subst he;refine⟨[],⟨?_,rfl⟩,bW.none _ _ _⟩;obtain⟨ad,rfl⟩:∃ ad,u=.slice ad 0 0:=hv
   exact Reads.zero ad
  ·subst he;exact⟨[],⟨hv,rfl⟩,bW.none _ _ _⟩
  ·exact he.elim
theorem qe (h:Inv G N Sin w0 σ a w S m) (hx:∀ b,¬ w0.ext b):∀ {us:List Value} {cs rs:List C},aa (RC m S w) us cs→aa (gB σ.h) cs rs→(cs.flatMap C.ids).Nodup→∃ bl,cK S w w0.heap.size us rs bl∧bW σ m (cs.flatMap C.ids) bl
  | _,_,_,.nil,.nil,_=>⟨[],.nil,bW.none _ _ _⟩
  | _,_,_,.cons h1 h2,.cons k1 k2,hn=>by
    rw[z8] at hn ⊢;obtain⟨b1,e1,e2⟩:=kb h hx h1 k1;obtain⟨b2,e3,e4⟩:=qe h hx h2 k2 (AS.1 hn).2.1;exact⟨b1++b2,.cons e1 e3,bW.append h hn e2 e4⟩
theorem sE (h:Inv G N Sin w0 σ a w S m) (hx:∀ b,¬ w0.ext b) {u:Value} {x r:W} (hv:RW m S w u x) (he:gC σ.h x r) (hn:x.ids.Nodup):∃ bl,cd S w w0.heap.size u r bl∧bW σ m x.ids bl:=by
  unfold gC at he;split at he
  ·rename_i c d;cases c with
   | d y =>
     cases d with
     | d z =>
       have:y=z:=he;subst this;cases y with
       | agg cs=>exact⟨[],⟨hv,rfl⟩,bW.none _ _ _⟩
       | _=>exact⟨[],⟨hv,rfl⟩,bW.none _ _ _⟩
     | _=>exact he.elim
   | nil =>
     obtain⟨bl,h1,h2⟩:=kb (c:=.nil) h hx hv he;refine⟨bl,?_,h2⟩;cases d with
     | d z =>
       have:z=.sl []:=he;subst this;exact h1
     | _=>exact h1
   | own id sz off n =>
     obtain⟨bl,h1,h2⟩:=kb (c:=.own id sz off n) h hx hv he;refine⟨bl,?_,h2⟩;cases d with
     | fr s es=>exact h1
     | _=>exact he.elim
   | _=>exact he.elim
  ·rename_i cs ds;obtain⟨us,rfl,h2⟩:=hv;obtain⟨bl,k1,k2⟩:=qe h hx h2 he hn;exact⟨bl,⟨us,rfl,k1⟩,k2⟩
  ·rename_i cs ds;obtain⟨us,h1,h2⟩:=jr (x:=.mix cs) hv (d:=.agg ds) (by simp[cu,he]);obtain⟨us',rfl,_⟩:=hv;have:us'=us:=by simpa [Value.cells] using h1
   subst this;exact⟨[],⟨⟨us',rfl,h2⟩,rfl⟩,bW.none _ _ _⟩
  ·exact he.elim
theorem qf (h:Inv G N Sin w0 σ a w S m) (hx:∀ b,¬ w0.ext b):∀ {us:List Value} {ws rs:List W},aa (RW m S w) us ws→aa (gC σ.h) ws rs→(ws.flatMap W.ids).Nodup→∃ bl,cL S w w0.heap.size us rs bl∧bW σ m (ws.flatMap W.ids) bl
  | _,_,_,.nil,.nil,_=>⟨[],.nil,bW.none _ _ _⟩
  | _,_,_,.cons h1 h2,.cons k1 k2,hn=>by
    rw[z8] at hn ⊢;obtain⟨b1,e1,e2⟩:=sE h hx h1 k1 (AS.1 hn).1;obtain⟨b2,e3,e4⟩:=qf h hx h2 k2 (AS.1 hn).2.1;exact⟨b1++b2,.cons e1 e3,bW.append h hn e2 e4⟩
def eU (us:List Value):Value:=if h:us.toArray.size=1 then us.toArray[0] else .tuple us.toArray
theorem qg (h:Inv G N Sin w0 σ a w S m) {u:Value} {x:W} {d:D} (hv:RW m S w u x) (e:toW σ.h x=some d):cd (dS σ.h m S) w w0.heap.size u (.c (.d d)) []:=by
  have:=gm h (T:=dS σ.h m S) (fun _ _ h=>.inl h) (fun id _ o b s i h1 h2=>.inr ⟨id,o,s,h1,h2⟩) hv e;cases d with
  | agg cs=>exact⟨this,rfl⟩
  | _=>exact⟨this,rfl⟩
theorem qh (h:Inv G N Sin w0 σ a w S m):∀ {us:List Value} {ws rs:List W},aa (RW m S w) us ws→aa (fun x z=>∃ d,z=.c (.d d)∧toW σ.h x=some d) ws rs→cL (dS σ.h m S) w w0.heap.size us rs []
  | _,_,_,.nil,.nil=>.nil
  | _,_,_,.cons h1 h2,.cons k1 k2=>by
    obtain⟨d,rfl,e⟩:=k1;exact .cons (b1:=[]) (b2:=[]) (qg h h1 e) (qh h h2 k2)
theorem sF (h:Inv G N Sin w0 σ a w S m) (hx:∀ b,¬ w0.ext b) {us:List Value} {ws:List W} {res:V} (hv:aa (RW m S w) us ws) (he:((ws.flatMap W.ids).Nodup∧kK σ.h ws res)∨kw σ.h ws res) :
    ∃ S' bl,(∀ b i,S' b i→(Sin b i∨w0.heap.size≤b)∧b<w.heap.size)∧bl.Nodup∧cS S' w w0.heap.size (eU us) res bl:=by
  have sin:∀ b i,S b i→(Sin b i∨w0.heap.size≤b)∧b<w.heap.size:=fun b i hs=>⟨(h.sin b i hs).2.imp id fun k=>k.resolve_right (hx b),(h.sin b i hs).1⟩
  have shat:∀ b i,dS σ.h m S b i→(Sin b i∨w0.heap.size≤b)∧b<w.heap.size:=by
    rintro b i (hs | ⟨id,ob,s,ho,hm⟩)
    ·exact sin b i hs
    ·have hk:=(h.obj id ob ho).1;refine⟨.inr ?_,hk.lt hm⟩;unfold aA at hk;rw[hm] at hk;exact hk.2.1.resolve_right (hx _)
  rcases he with ⟨hn,he⟩ | he
  ·unfold kK at he;split at he
   ·rename_i x y;cases hv with
    | cons h1 h2 =>
      cases h2;have hids:x.ids.Nodup:=by simpa using hn
      obtain⟨bl,k1,k2⟩:=sE h hx h1 he hids;exact⟨S,bl,sin,k2.1,k1⟩
   ·rename_i x y r ws';have hl:=hv.length;obtain⟨bl,k1,k2⟩:=qf h hx hv he hn;refine⟨S,bl,sin,k2.1,us,?_,k1⟩;unfold eU;rw[dif_neg (by simp at hl ⊢; omega)]
   ·subst he;cases hv;exact⟨S,[],sin,.nil,[],rfl,.nil⟩
   ·exact he.elim
  ·unfold kw at he;split at he
   ·rename_i x d;cases hv with
    | cons h1 h2 =>
      cases h2;exact⟨_,[],shat,.nil,qg h h1 he⟩
   ·rename_i x y r ws';have hl:=hv.length;refine⟨_,[],shat,.nil,us,?_,qh h hv he⟩;unfold eU;rw[dif_neg (by simp at hl ⊢; omega)]
   ·exact he.elim
theorem xI (h:Inv G N Sin w0 σ a w S m) (hwo:w0.wo.heap.size≤w0.heap.size) {D:Nat} (hB:w0.heap.size≤D) (hD:w.heap[D]?=some (.deferred (some []))):Inv G N Sin w0 σ { a with defers:=[] } (w.putObj D (.deferred none)) S m :=
  h.turn (w1:=w0) (ct.put hD rfl) (grownBy_putObj' _ _ _).size rfl (h.below.trans (aM.of (fW _ hB hD))) rfl (fun t=>.inr rfl) trivial (bo.old h.oth (bo.put _ _ _) (AB hwo hB)) (h.kso.trans ((ct.put hD rfl).keeps _)) h.sso h.fix
theorem iX {F:Fence} {n:Nat} {fn:Func} {R:Ending→World→Prop}:∀ {ds:List Deferred} {a:Act} {w:World},Inv G N Sin w0 σ a w S m→w0.wo.heap.size≤w0.heap.size→cM w0.heap.size w ds→(∀ (w':World) (a':Act),a'.tmps=a.tmps→Inv G N Sin w0 σ a' w' S m→∃ v,(results fn a.tmps).run P w'=.ok v w'∧R (.returned v) w')→LeavesInM F n P fn a.tmps R ds .returning w
  | [],a,w,h,_,_,k=>k w a rfl h
  | d::ds,a,w,h,hwo,⟨⟨D,h1,h2,h3,h4⟩,h5⟩,k=>by
    refine⟨by simp,.inl ⟨D,_,by rw[h1],run_takeDeferred h3,?_⟩⟩;have hd:cM w0.heap.size (w.putObj D (.deferred none)) ds:=by
      have key:∀ {ds:List Deferred},cM w0.heap.size w ds→(∀ d'∈ds,d'.target≠.collected D)→cM w0.heap.size (w.putObj D (.deferred none)) ds:=by
        intro ds
        induction ds with
        | nil=>intro _ _; trivial
        | cons d ds ih =>
          rintro⟨⟨D',g1,g2,g3,g4⟩,g5⟩ hne;refine⟨⟨D',g1,g2,?_,g4⟩,ih g5 fun d' hd'=>hne d' (by simp[hd'])⟩;refine (World.putObj_heap_other fun e=>?_).trans g3;exact hne d (by simp) (by rw[g1,e])
      exact key h5 h4
    have:=xI h hwo h2 h3;exact iX (a:={ a with defers:=[] }) this hwo hd fun w' a' e2 hi=>k w' a' e2 hi
theorem y9 {f:FuncId} {fn:Func} {sf:bd} (hf:P.funcs[f]?=some fn) (hc:a7 P H fn=some sf) {args:List D} {res:V} (hlen:args.length=sf.np)
    (e:aJ P G sf.body (fun ax σ=>match ax with | .nrm=>bR σ sf.res res | .ret=>bR σ sf.res res | .ex _=>False) (entry args)):aW P G f args res:=by
  unfold a7 at hc;split at hc
  ·rename_i c hb;split at hc
   ·rename_i body rs hbody hres;split at hc
    ·rename_i hnp;cases hc;intro w S vs hS hG hargs;refine (callsIn_wide (n:=3)).1 (callsIn_of_wp_marks (F:=Fence.wide) hf hb trivial ?_);have hvl:vs.length=args.length:=hargs.length;have hnp':vs.length≤fn.ntmps:=by simp only at hlen; omega
     have hsize:(vs.toArray++Array.replicate (fn.ntmps-vs.toArray.size) undef).size=fn.ntmps:=by simp; omega
     have hinv:Inv G fn.ntmps S (Gh.of w) (entry args) { tmps:=vs.toArray++Array.replicate (fn.ntmps-vs.toArray.size) undef,defers:=[] } w S (fun _=>none):=by
       refine⟨hsize,trivial,fun t=>?_,fun t i hi=>?_,fun id o ho=>(by cases ho),fun i j b s s' h1=>absurd rfl h1,fun b i hs=>⟨hS b i hs,.inl hs⟩,fun _ _ h=>h,hG,aM.refl _ _ _,a6.refl _,az.refl _ _,fun _ _ h=>h.elim,fun t v h=>by cases h⟩
       ·simp only[entry];cases ht:args[t]? with
        | none=>trivial
        | some x =>
          obtain⟨v,h1,h2⟩:=hargs.get? ht;have hlt:=(Aa.1 h1).1;have:(vs.toArray++Array.replicate (fn.ntmps-vs.toArray.size) undef).getD t undef=v:=by
            rw[Ar,Array.getElem?_append_left (by simpa using hlt)];simp[h1]
          rw[this];exact h2
       ·simp only[entry] at hi;split at hi <;> cases hi
     refine dd c hbody (r:=none) (fun _=>rfl) (fun t _=>rfl) ?_ hinv e;intro ax σ a w1 S1 m q h;have key:bR σ rs res→LeavesInM Fence.wide 3 P fn a.tmps (fun e w'=>∃ v S' bl,e=.returned v∧Below w.heap.size w w'∧(∀ b i,S' b i→(S b i∨w.heap.size≤b)∧b<w'.heap.size)∧bl.Nodup∧cS S' w' w.heap.size v res bl) a.defers .returning w1:=by
       rintro⟨ws,hws,hex⟩;refine iX h (Ac _) h.defers fun w2 a' e2 h=>?_
       rw[← e2];obtain⟨us,h1,h2,h3⟩:=jQ h hres hws;obtain⟨S',bl,k1,k2,k3⟩:=sF h (fun _ hx=>hx) h2 hex;have hbel:Below w.heap.size w w2:=h.below.below fun _ _ hx=>hx
       refine⟨eU us,?_,_,S',bl,rfl,hbel,k1,k2,k3⟩;rw[lr];simp[Array.mapM_eq_mapM_toList,h1,eU]
     cases ax with
     | nrm=>exact key q
     | ret=>exact key q
     | ex _=>exact q.elim
    ·cases hc
   ·cases hc
  ·cases hc
end
theorem jR {a b : Prop} (l : a) (r : b) : a ∧ b := And.intro l r
def aw {α:Type} (o:Option α) (k:α→Prop):Prop:=match o with | some x=>k x | none=>False
theorem ml {α:Type} (x:α) (k:α→Prop):aw (some x) k=k x:=rfl
theorem cb {α β:Type} (o:Option α) (g:α→β) (k:β→Prop):aw (o.map g) k=aw o fun v=>k (g v):=by cases o <;> rfl
def iC:V→Option ByteArray | .w (.c (.d (.str s)))=>some s | _=>none
def uJ:V→Option (List W) | .tup ws=>some ws | _=>none
section
variable (P:Program) (G:ap)
def iD (b:aL) (Q:AX→St→Prop) (e:AX) (s:St):Prop:=match e with | .nrm=>aJ P G b Q s | e=>Q e s
def eY (id:Nat) (Q:AX→St→Prop) (e:AX) (s:St):Prop:=match e with | .ex i=>if i=id then Q .nrm s else Q (.ex i) s | e=>Q e s
def gq (l:List (Nat×Option Kd)) (res:V) (e:AX) (s:St):Prop:=match e with | .nrm=>bR s l res | .ret=>bR s l res | .ex _=>False
def gr (a b:aL) (Q:AX→St→Prop) (s:St) (t:Bool):Prop:=(t=true→aJ P G a Q s)∧(t=false→aJ P G b Q s)
def dV (d:Option Nat) (o:au) (w:Bool) (r:List al) (K:St→Prop) (f:Nat→V) (h:af) (u:Nat→Bool) (t:Bool):Prop :=
  ((t==w)=true→ao P G (⟨d,o,none⟩::r) K ⟨f,h,u⟩)∧((t==w)=false→ao P G r K ⟨aB f d (.tup []),h,u⟩)
def gu (d:Option Nat) (o:au) (w:Bool) (r:List al) (K:St→Prop) (f:Nat→V) (h:af) (u:Nat→Bool) (v:V):Prop :=
  match aU v with | some t=>dV P G d o w r K f h u t | none=>v=.tup []∧ao P G r K ⟨aB f d (.tup []),h,u⟩
section
variable (d:Option Nat) (r:List al) (K:St→Prop) (f:Nat→V) (h:af) (u:Nat→Bool)
def z1 (v:V):Prop:=ao P G r K ⟨aB f d v,h,u⟩
def cU (v:W):Prop:=ao P G r K ⟨aB f d (.w v),h,u⟩
def goC (v:C):Prop:=ao P G r K ⟨aB f d (.w (.c v)),h,u⟩
def iN (v:D):Prop:=ao P G r K ⟨aB f d (.w (.c (.d v))),h,u⟩
def a5 (q:R):Prop:=ao P G r K ⟨aB f d q.1,q.2.1,q.2.2⟩
def kN (h':af):Prop:=ao P G r K ⟨aB f d .undef,h',u⟩
def u6 (k:IntKind) (v:IntKind×Int):Prop:=ao P G r K ⟨aB f d (.w (.c (.d (.int k (k.wrap v.2))))),h,u⟩
def u7 (n:Nat):Prop:=ao P G r K ⟨aB f d (.w (.c (.d (.int .i64 (n:Int))))),h,u⟩
def u9 (s:ByteArray):Prop:=ao P G r K ⟨aB f d (.w (.c (.d (.int .i64 (s.size:Int))))),h,u⟩
def kO (y z:V) (t:Bool):Prop:=ao P G r K ⟨aB f d (bif t then y else z),h,u⟩
def iE (b p q:Bool):Prop:=ao P G r K ⟨aB f d (.w (.c (.d (.bool (bif b then !(p==q) else (p==q)))))),h,u⟩
def va (b:Bool) (y:V) (p:Bool):Prop:=aw (aU y) (iE P G d r K f h u b p)
def vb (k:Kd) (x:V) (w:W):Prop:=aw (ai h k x w) (kN P G d r K f u)
def ve (o:Nat) (k:Kd) (cs:List C):Prop:=aw (cI cs o k) (cU P G d r K f h u)
def kz (s:Nat) (k:Kd) (cs:List C) (j:Nat):Prop:=aw (cI cs (j*s) k) (cU P G d r K f h u)
def vf (s n:Nat) (k:Kd) (y:SX) (cs:List C):Prop:=aw (cx (ev G f) y n) (kz P G d r K f h u s k cs)
def vg (cs:List C):Prop:=ao P G r K ⟨aB f d (.w (cc cs)),h,u⟩
def vh (i:Nat) (ws:List W):Prop:=aw ws[i]? (cU P G d r K f h u)
end
end
section
variable {P:Program} {G:ap} {Q:AX→St→Prop} {K:St→Prop} {r:List al} {f:Nat→V} {h:af} {u:Nat→Bool} {d:Option Nat} {x y z:SX}
theorem mm (a b:aL) (σ:St):gr P G a b Q σ true=aJ P G a Q σ:=by simp[gr]
theorem lO (a b:aL) (σ:St):gr P G a b Q σ false=aJ P G b Q σ:=by simp[gr]
theorem qi (o:au) (w:Bool):dV P G d o w r K f h u w=ao P G (⟨d,o,none⟩::r) K ⟨f,h,u⟩:=by simp[dV]
theorem nG (o:au):dV P G d o true r K f h u false=ao P G r K ⟨aB f d (.tup []),h,u⟩:=by simp[dV]
theorem nH (o:au):dV P G d o false r K f h u true=ao P G r K ⟨aB f d (.tup []),h,u⟩:=by simp[dV]
theorem sG (o:au) (w t:Bool):gu P G d o w r K f h u (.w (.c (.d (.bool t))))=dV P G d o w r K f h u t:=rfl
theorem mn (o:au) (w:Bool):gu P G d o w r K f h u (.tup [])=ao P G r K ⟨aB f d (.tup []),h,u⟩:=by simp[gu,aU]
theorem nI (σ:St):aJ P G .skip Q σ=Q .nrm σ:=rfl
theorem qj (l:List al) (σ:St):aJ P G (.reg l) Q σ=ao P G l (Q .nrm) σ:=rfl
theorem qk (a b:aL) (σ:St):aJ P G (.seq a b) Q σ=aJ P G a (iD P G b Q) σ:=by
  show aJ P G a _ σ=_
  congr 1
theorem nJ (a b:aL):aJ P G (.cond x a b) Q ⟨f,h,u⟩=aw (aU (ev G f x)) (gr P G a b Q ⟨f,h,u⟩):=by
  show (match aU (ev G f x) with | some t=>_ | none=>False)=_
  cases aU (ev G f x) <;> rfl
theorem mo (id:Nat) (c:aL) (σ:St):aJ P G (.block id c) Q σ=aJ P G c (eY id Q) σ:=by
  show aJ P G c _ σ=_
  congr 1
theorem nK (id:Nat) (σ:St):aJ P G (.exit id) Q σ=Q (.ex id) σ:=rfl
theorem ql (σ:St):aJ P G .ret Q σ=Q .ret σ:=rfl
theorem nL (b:aL) (σ:St):iD P G b Q .nrm σ=aJ P G b Q σ:=rfl
theorem qm (b:aL) (i:Nat) (σ:St):iD P G b Q (.ex i) σ=Q (.ex i) σ:=rfl
theorem nM (b:aL) (σ:St):iD P G b Q .ret σ=Q .ret σ:=rfl
theorem nN (id:Nat) (σ:St):eY id Q .nrm σ=Q .nrm σ:=rfl
theorem nO (id:Nat) (σ:St):eY id Q .ret σ=Q .ret σ:=rfl
theorem qn (id:Nat) (σ:St):eY id Q (.ex id) σ=Q .nrm σ:=by simp[eY]
theorem qo (id i:Nat) (σ:St) (hn:(i==id)=false):eY id Q (.ex i) σ=Q (.ex i) σ:=by
  have:i≠id:=by simpa using hn
  simp[eY,this]
theorem nP (l:List (Nat×Option Kd)) (res:V) (σ:St):gq l res .nrm σ=bR σ l res:=rfl
theorem nQ (l:List (Nat×Option Kd)) (res:V) (σ:St):gq l res .ret σ=bR σ l res:=rfl
theorem nR (σ:St):ao P G [] K σ=K σ:=rfl
theorem nS (s:au) (t:Nat) (b:Bool):ao P G (⟨d,s,some (t,b)⟩::r) K ⟨f,h,u⟩=gu P G d s b r K f h u (f t):=by
  show (match aU (f t) with | some c=>_ | none=>_)=_
  unfold gu;cases aU (f t) with
  | none=>rfl
  | some c =>
    simp only[dV];cases c <;> cases b <;> simp <;> rfl
def au.isCall:au→Bool | .call ..=>true | .callM ..=>true | _=>false
theorem aH (s:au) (hs:s.isCall=false):ao P G (⟨d,s,none⟩::r) K ⟨f,h,u⟩=aw (ef (ev G f) h u (d.getD 0) s) (a5 P G d r K f):=by
  have key:∀ J:R→Prop,dp P G s (ev G f) h u (d.getD 0) J=aw (ef (ev G f) h u (d.getD 0) s) J:=by
    intro J;have m:∀ o:Option R,(match o with | some r=>J r | none=>False)=aw o J:=fun o=>by cases o <;> rfl
    rw[← m];cases s <;> first | rfl | (simp[au.isCall] at hs; done)
  exact key _
theorem sH (v:V):z1 P G d r K f h u v=ao P G r K ⟨aB f d v,h,u⟩:=rfl
theorem sI (v:W):cU P G d r K f h u v=ao P G r K ⟨aB f d (.w v),h,u⟩:=rfl
theorem sJ (v:C):goC P G d r K f h u v=ao P G r K ⟨aB f d (.w (.c v)),h,u⟩:=rfl
theorem sK (v:D):iN P G d r K f h u v=ao P G r K ⟨aB f d (.w (.c (.d v))),h,u⟩:=rfl
theorem sL (v:V) (h':af) (u':Nat→Bool):a5 P G d r K f (v,h',u')=ao P G r K ⟨aB f d v,h',u'⟩:=rfl
theorem sM (h':af):kN P G d r K f u h'=ao P G r K ⟨aB f d .undef,h',u⟩:=rfl
theorem sN (k k':IntKind) (n:Int):u6 P G d r K f h u k (k',n)=ao P G r K ⟨aB f d (.w (.c (.d (.int k (k.wrap n))))),h,u⟩:=rfl
theorem sO (n:Nat):u7 P G d r K f h u n=ao P G r K ⟨aB f d (.w (.c (.d (.int .i64 (n:Int))))),h,u⟩:=rfl
theorem sP (s:ByteArray):u9 P G d r K f h u s=ao P G r K ⟨aB f d (.w (.c (.d (.int .i64 (s.size:Int))))),h,u⟩:=rfl
theorem nT (y z:V):kO P G d r K f h u y z true=ao P G r K ⟨aB f d y,h,u⟩:=rfl
theorem mq (y z:V):kO P G d r K f h u y z false=ao P G r K ⟨aB f d z,h,u⟩:=rfl
theorem sQ (p q:Bool):iE P G d r K f h u true p q=ao P G r K ⟨aB f d (.w (.c (.d (.bool (!(p==q)))))),h,u⟩:=rfl
theorem sR (p q:Bool):iE P G d r K f h u false p q=ao P G r K ⟨aB f d (.w (.c (.d (.bool (p==q))))),h,u⟩:=rfl
theorem sS (b:Bool) (y:V) (p:Bool):va P G d r K f h u b y p=aw (aU y) (iE P G d r K f h u b p):=rfl
theorem sT (k:Kd) (v:V) (w:W):vb P G d r K f h u k v w=aw (ai h k v w) (kN P G d r K f u):=rfl
theorem sU (o:Nat) (k:Kd) (cs:List C):ve P G d r K f h u o k cs=aw (cI cs o k) (cU P G d r K f h u):=rfl
theorem qp (s:Nat) (k:Kd) (cs:List C) (j:Nat):kz P G d r K f h u s k cs j=aw (cI cs (j*s) k) (cU P G d r K f h u):=rfl
theorem sV (s n:Nat) (k:Kd) (w:SX) (cs:List C):vf P G d r K f h u s n k w cs=aw (cx (ev G f) w n) (kz P G d r K f h u s k cs):=rfl
theorem sW (cs:List C):vg P G d r K f h u cs=ao P G r K ⟨aB f d (.w (cc cs)),h,u⟩:=rfl
theorem sX (i:Nat) (ws:List W):vh P G d r K f h u i ws=aw ws[i]? (cU P G d r K f h u):=rfl
theorem uh :ao P G (⟨d,.mv x,none⟩::r) K ⟨f,h,u⟩=ao P G r K ⟨aB f d (ev G f x),h,u⟩:=rfl
theorem mu (n:Nat):ao P G (⟨d,.lenArr n,none⟩::r) K ⟨f,h,u⟩=ao P G r K ⟨aB f d (.w (.c (.d (.int .i64 n)))),h,u⟩:=rfl
theorem qq :ao P G (⟨d,.pick x y z,none⟩::r) K ⟨f,h,u⟩=aw (aU (ev G f x)) (kO P G d r K f h u (ev G f y) (ev G f z)):=by
  rw[aH _ rfl];simp only[ef];cases aU (ev G f x) with
  | none=>rfl
  | some t=>cases t <;> rfl
theorem sY (op:BinOp):ao P G (⟨d,.bin op x y,none⟩::r) K ⟨f,h,u⟩=aw (aS op (ev G f x) (ev G f y)) (iN P G d r K f h u):=by
  rw[aH _ rfl]; exact cb _ _ _
theorem sZ (b:Bool) (ks:List Nat):ao P G (⟨d,.eqA b ks x y,none⟩::r) K ⟨f,h,u⟩=aw (gx b ks (ev G f x) (ev G f y)) (iN P G d r K f h u):=by
  rw[aH _ rfl]; exact cb _ _ _
theorem ui (op:UnOp):ao P G (⟨d,.un op x,none⟩::r) K ⟨f,h,u⟩=aw (dC op (ev G f x)) (iN P G d r K f h u):=by
  rw[aH _ rfl]; exact cb _ _ _
theorem qt (k:IntKind):ao P G (⟨d,.conv k x,none⟩::r) K ⟨f,h,u⟩=aw (bT (ev G f x)) (u6 P G d r K f h u k):=by
  rw[aH _ rfl]; exact cb _ _ _
theorem s4 (b:Bool):ao P G (⟨d,.eqB b x y,none⟩::r) K ⟨f,h,u⟩=aw (aU (ev G f x)) (va P G d r K f h u b (ev G f y)):=by
  rw[aH _ rfl];simp only[ef];cases hp:aU (ev G f x) with
  | none=>rfl
  | some p =>
    show _=aw (aU (ev G f y)) _
    cases aU (ev G f y) with
    | none=>rfl
    | some q=>cases b <;> rfl
theorem s5 :ao P G (⟨d,.len x,none⟩::r) K ⟨f,h,u⟩=aw (cP (ev G f x)) (u7 P G d r K f h u):=by
  rw[aH _ rfl]; exact cb _ _ _
theorem mw :ao P G (⟨d,.lenStr x,none⟩::r) K ⟨f,h,u⟩=aw (iC (ev G f x)) (u9 P G d r K f h u):=by
  rw[aH _ rfl];have:ef (ev G f) h u (d.getD 0) (.lenStr x)=(iC (ev G f x)).map fun s=>(vd (.int .i64 s.size),h,u):=by
    simp only[ef];unfold iC;split
    ·rename_i e; rw[e]; rfl
    ·rename_i hn;split
     ·rename_i e; exact absurd e (hn _)
     ·rfl
  rw[this];exact cb _ _ _
theorem qu (k:Kd):ao P G (⟨d,.load k x,none⟩::r) K ⟨f,h,u⟩=aw (aO h k (ev G f x)) (cU P G d r K f h u):=by
  rw[aH _ rfl]; exact cb _ _ _
theorem nU (k:Kd):ao P G (⟨d,.loadB k x,none⟩::r) K ⟨f,h,u⟩=aw (bz h k (ev G f x)) (cU P G d r K f h u):=by
  rw[aH _ rfl]; exact cb _ _ _
theorem my (k:Kd):ao P G (⟨d,.loadX k x [],none⟩::r) K ⟨f,h,u⟩=aw (bP h k [] (ev G f x)) (cU P G d r K f h u):=by
  rw[aH _ rfl]; exact cb _ _ _
theorem mz (k:Kd):ao P G (⟨d,.loadX k x [y],none⟩::r) K ⟨f,h,u⟩=aw (bP h k [ev G f y] (ev G f x)) (cU P G d r K f h u):=by
  rw[aH _ rfl]; exact cb _ _ _
theorem mA (k:Kd):ao P G (⟨d,.loadX k x [y,z],none⟩::r) K ⟨f,h,u⟩=aw (bP h k [ev G f y,ev G f z] (ev G f x)) (cU P G d r K f h u):=by
  rw[aH _ rfl]; exact cb _ _ _
theorem nV (k:Kd):ao P G (⟨d,.store k x y,none⟩::r) K ⟨f,h,u⟩=aw (cN (ev G f y)) (vb P G d r K f h u k (ev G f x)):=by
  rw[aH _ rfl];simp only[ef];cases cN (ev G f y) with
  | none=>rfl
  | some w=>exact cb _ _ _
theorem lh (o:Nat):ao P G (⟨d,.fieldAddr o x,none⟩::r) K ⟨f,h,u⟩=aw (fE o (ev G f x)) (goC P G d r K f h u):=by
  rw[aH _ rfl]; exact cb _ _ _
theorem nW (o:Nat) (k:Kd):ao P G (⟨d,.field o k x,none⟩::r) K ⟨f,h,u⟩=aw (bY (ev G f x)) (ve P G d r K f h u o k):=by
  rw[aH _ rfl];simp only[ef];cases bY (ev G f x) with
  | none=>rfl
  | some w=>exact cb _ _ _
theorem mB (s n:Nat) (k:Kd):ao P G (⟨d,.idxArr s n k x y,none⟩::r) K ⟨f,h,u⟩=aw (bY (ev G f x)) (vf P G d r K f h u s n k y):=by
  rw[aH _ rfl];simp only[ef];cases bY (ev G f x) with
  | none=>rfl
  | some w =>
    show _=aw (cx (ev G f) y n) _
    cases cx (ev G f) y n with
    | none=>rfl
    | some j=>exact cb _ _ _
theorem lP (i:Nat):ao P G (⟨d,.extract x i,none⟩::r) K ⟨f,h,u⟩=aw (uJ (ev G f x)) (vh P G d r K f h u i):=by
  rw[aH _ rfl];simp only[ef];cases ev G f x with
  | tup ws=>exact cb _ _ _
  | _=>rfl
theorem nX (c:List C) (ps:List (Nat×Nat×SX)):ao P G (⟨d,.build c ps,none⟩::r) K ⟨f,h,u⟩=aw (parts (ev G f) ps c) (vg P G d r K f h u):=by
  rw[aH _ rfl]; exact cb _ _ _
theorem nY (c:List C):ao P G (⟨d,.alloc c,none⟩::r) K ⟨f,h,u⟩=aw (ef (ev G f) h u (d.getD 0) (.alloc c)) (a5 P G d r K f):=aH _ rfl
theorem lu (c:List D):ao P G (⟨d,.allocArr c,none⟩::r) K ⟨f,h,u⟩=aw (ef (ev G f) h u (d.getD 0) (.allocArr c)) (a5 P G d r K f):=aH _ rfl
theorem mC (s:Nat):ao P G (⟨d,.nilOwn s,none⟩::r) K ⟨f,h,u⟩=aw (ef (ev G f) h u (d.getD 0) (.nilOwn s)) (a5 P G d r K f):=aH _ rfl
theorem s6 (m:Bx):ao P G (⟨d,.box m x,none⟩::r) K ⟨f,h,u⟩=aw (ef (ev G f) h u (d.getD 0) (.box m x)) (a5 P G d r K f):=aH _ rfl
theorem nZ (b:Bool) (n s:Nat) (c:D) (ps:List (Nat×SX)):ao P G (⟨d,.bldSl b n s c ps,none⟩::r) K ⟨f,h,u⟩=aw (ef (ev G f) h u (d.getD 0) (.bldSl b n s c ps)) (a5 P G d r K f):=aH _ rfl
theorem oa (n s:Nat) (c:D) (ps:List (Nat×SX)):ao P G (⟨d,.bldFz n s c ps,none⟩::r) K ⟨f,h,u⟩=aw (ef (ev G f) h u (d.getD 0) (.bldFz n s c ps)) (a5 P G d r K f):=aH _ rfl
theorem mD (c:List C) (ps:List (Nat×Nat×SX)):ao P G (⟨d,.buildF c ps,none⟩::r) K ⟨f,h,u⟩=aw (ef (ev G f) h u (d.getD 0) (.buildF c ps)) (a5 P G d r K f):=aH _ rfl
theorem s7 :ao P G (⟨d,.b2s x,none⟩::r) K ⟨f,h,u⟩=aw (ef (ev G f) h u (d.getD 0) (.b2s x)) (a5 P G d r K f):=aH _ rfl
theorem s8 (b:Bool):ao P G (⟨d,.s2b b x,none⟩::r) K ⟨f,h,u⟩=aw (ef (ev G f) h u (d.getD 0) (.s2b b x)) (a5 P G d r K f):=aH _ rfl
theorem qv (w:Bool) (s b:Nat) (c:D):ao P G (⟨d,.make w s b c x y,none⟩::r) K ⟨f,h,u⟩=aw (ef (ev G f) h u (d.getD 0) (.make w s b c x y)) (a5 P G d r K f):=aH _ rfl
theorem oc (s:Nat) (a b c:Option SX):ao P G (⟨d,.slice s x a b c,none⟩::r) K ⟨f,h,u⟩=aw (ef (ev G f) h u (d.getD 0) (.slice s x a b c)) (a5 P G d r K f):=aH _ rfl
theorem lv (a b:Option SX):ao P G (⟨d,.sliceStr x a b,none⟩::r) K ⟨f,h,u⟩=aw (ef (ev G f) h u (d.getD 0) (.sliceStr x a b)) (a5 P G d r K f):=aH _ rfl
theorem lw (s n:Nat) (a b:Option SX):ao P G (⟨d,.sliceArr s n x a b,none⟩::r) K ⟨f,h,u⟩=aw (ef (ev G f) h u (d.getD 0) (.sliceArr s n x a b)) (a5 P G d r K f):=aH _ rfl
theorem od (s:Nat):ao P G (⟨d,.idxSl s x y,none⟩::r) K ⟨f,h,u⟩=aw (ef (ev G f) h u (d.getD 0) (.idxSl s x y)) (a5 P G d r K f):=aH _ rfl
theorem oe (s n:Nat):ao P G (⟨d,.idxPa s n x y,none⟩::r) K ⟨f,h,u⟩=aw (ef (ev G f) h u (d.getD 0) (.idxPa s n x y)) (a5 P G d r K f):=aH _ rfl
theorem mE :ao P G (⟨d,.idxStr x y,none⟩::r) K ⟨f,h,u⟩=aw (ef (ev G f) h u (d.getD 0) (.idxStr x y)) (a5 P G d r K f):=aH _ rfl
theorem s9 (b:Bool) (s n:Nat):ao P G (⟨d,.app b s n x y,none⟩::r) K ⟨f,h,u⟩=aw (ef (ev G f) h u (d.getD 0) (.app b s n x y)) (a5 P G d r K f):=aH _ rfl
theorem qw (b:Bool) (s n:Nat):ao P G (⟨d,.appN b s n x y,none⟩::r) K ⟨f,h,u⟩=aw (ef (ev G f) h u (d.getD 0) (.appN b s n x y)) (a5 P G d r K f):=aH _ rfl
theorem qx (s:Nat):ao P G (⟨d,.copy s x y,none⟩::r) K ⟨f,h,u⟩=aw (ef (ev G f) h u (d.getD 0) (.copy s x y)) (a5 P G d r K f):=aH _ rfl
theorem ta (l:List SX):ao P G (⟨d,.min l,none⟩::r) K ⟨f,h,u⟩=aw (ef (ev G f) h u (d.getD 0) (.min l)) (a5 P G d r K f):=aH _ rfl
theorem tc (l:List SX):ao P G (⟨d,.max l,none⟩::r) K ⟨f,h,u⟩=aw (ef (ev G f) h u (d.getD 0) (.max l)) (a5 P G d r K f):=aH _ rfl
theorem td :ao P G (⟨d,.frz x,none⟩::r) K ⟨f,h,u⟩=aw (ef (ev G f) h u (d.getD 0) (.frz x)) (a5 P G d r K f):=aH _ rfl
theorem qy :ao P G (⟨d,.mark x,none⟩::r) K ⟨f,h,u⟩=aw (ef (ev G f) h u (d.getD 0) (.mark x)) (a5 P G d r K f):=aH _ rfl
theorem oh :ao P G (⟨d,.markF x,none⟩::r) K ⟨f,h,u⟩=aw (ef (ev G f) h u (d.getD 0) (.markF x)) (a5 P G d r K f):=aH _ rfl
theorem wa {fn:FuncId} {xs:List SX} {own:Option (Nat×Nat)} {res:V} (h2:dM P G h fn (xs.map (ev G f)) res) (h3:dN h (xs.map (ev G f)) res)
    (e:aw (br h u (d.getD 0) own res) (a5 P G d r K f)) (hp:de own (xs.map (ev G f))):ao P G (⟨d,.call fn xs own,none⟩::r) K ⟨f,h,u⟩:=by
  have e':(match br h u (d.getD 0) own res with | some r'=>ao P G r K ⟨aB f d r'.1,r'.2.1,r'.2.2⟩ | none=>False):=by
    revert e
    cases br h u (d.getD 0) own res <;> exact fun h=>h
  exact⟨res,h2,h3,hp,e'⟩
theorem mF {fn:FuncId} {xs:List SX} {own:Option (Nat×Nat)} {res:V} (h2:dM P G h fn (xs.map (ev G f)) res) (h3:((xs.map (ev G f)).any V.hasOwn=false∨res.flat=true))
    (e:aw (br h u (d.getD 0) own res) (a5 P G d r K f)) (hp:de own (xs.map (ev G f))):ao P G (⟨d,.call fn xs own,none⟩::r) K ⟨f,h,u⟩ :=
  wa h2 (fun hh=>by rcases h3 with h3 | h3; (· rw[h3] at hh; cases hh); exact .inl h3) e hp
theorem hC {fn:FuncId} {xs:List SX} {own:Option (Nat×Nat)} {ds:List D} {res:V} (h2:aW P G fn ds res) (h1:be h (xs.map (ev G f))=some ds) (h3:((xs.map (ev G f)).any V.hasOwn=false∨res.flat=true))
    (e:aw (br h u (d.getD 0) own res) (a5 P G d r K f)) (hne:fn≠cH:=by decide) (hp:de own (xs.map (ev G f)):=by first | exact gP _ | exact gX _ _ _ | exact gQ _ _ rfl):ao P G (⟨d,.call fn xs own,none⟩::r) K ⟨f,h,u⟩ :=
  mF (.inl ⟨hne,ds,h1,h2⟩) h3 e hp
theorem sC {fn:FuncId} {xs:List SX} {own:Option (Nat×Nat)} {ds:List D} {res:V} (h2:aW P G fn ds res) (e:aw (br h u (d.getD 0) own res) (a5 P G d r K f)) (h1:be h (xs.map (ev G f))=some ds:=by exact rfl)
    (h3:((xs.map (ev G f)).any V.hasOwn=false∨res.flat=true):=by exact .inl rfl) (hne:fn≠cH:=by decide) (hp:de own (xs.map (ev G f)):=by first | exact gP _ | exact gX _ _ _ | exact gQ _ _ rfl):ao P G (⟨d,.call fn xs own,none⟩::r) K ⟨f,h,u⟩ :=
  hC h2 h1 h3 e hne hp
theorem ol {g:FuncId} {caps:List D} {xs:List SX} {own:Option (Nat×Nat)} {ds:List D} {res:V} (h2:ix P G g caps ds res) (h1:be h (xs.map (ev G f))=some (.fn g caps::ds)) (h3:((xs.map (ev G f)).any V.hasOwn=false∨res.flat=true))
    (e:aw (br h u (d.getD 0) own res) (a5 P G d r K f)) (hp:de own (xs.map (ev G f)):=by first | exact gP _ | exact gX _ _ _ | exact gQ _ _ rfl):ao P G (⟨d,.call 1000000007 xs own,none⟩::r) K ⟨f,h,u⟩ :=
  mF (.inr (.inl ⟨rfl,g,caps,ds,h1,h2⟩)) h3 e hp
theorem qz {α:Type} (f:Nat→α) (i j:Nat) (x:α) (h:(j==i)=false):upd f i x j=f j:=upd_ne f x (by simpa using h)
theorem mG {α:Type} (f:Nat→α) (i:Nat) (x:α):aB f (some i) x=upd f i x:=rfl
theorem mH {α:Type} (f:Nat→α) (x:α):aB f none x=f:=rfl
theorem uK (n:Nat):ev G f (.t n)=f n:=rfl
theorem uM (v:W):ev G f (.k v)=.w v:=rfl
def uf:Nat→V:=fun _=>.undef
def hN:af:=fun _=>none
def uN:Nat→Bool:=fun _=>false
def ar:Nat→List D→(Nat→V)→Nat→V
  | _,[],f=>f
  | i,x::r,f=>ar (i+1) r (upd f i (.w (.c (.d x))))
theorem lQ:∀ (l:List D) (i:Nat) (f:Nat→V) (t:Nat),ar i l f t=if i≤t then (match l[t-i]? with | some x=>vd x | none=>f t) else f t
  | [],i,f,t=>by simp[ar]
  | x::l,i,f,t=>by
    rw[ar,lQ l (i+1)];by_cases h:i=t
    ·subst h;rw[if_neg (by omega),if_pos (Ac _)];simp[upd,vd]
    ·by_cases h2:i≤t
     ·rw[if_pos (by omega),if_pos h2];have:t-i=(t-(i+1))+1:=by omega
      rw[this,Aq];cases l[t-(i+1)]? with
      | some y=>rfl
      | none=>simp[upd,show t≠i from fun e=>h e.symm]
     ·rw[if_neg (by omega),if_neg h2];simp[upd,show t≠i from fun e=>h e.symm]
theorem entry_eq (args:List D):entry args=⟨ar 0 args uf,hN,uN⟩:=by
  unfold entry
  congr 1
  funext t
  rw[lQ];simp only[A9,if_true,Nat.sub_zero];rfl
theorem te (i:Nat):hN i=none:=rfl
theorem tg (i:Nat):uN i=false:=rfl
theorem ti (i:Nat):uf i=.undef:=rfl
theorem bB {F:FuncId} {fn:Func} {sf:bd} {H:Hint} (hf:P.funcs[F]?=some fn) (hc:a7 P H fn=some sf) {args:List D} {res:V} {f0:Nat→V} (hlen:args.length=sf.np) (h0:ar 0 args uf=f0)
    (e:aJ P G sf.body (gq sf.res res) ⟨f0,hN,uN⟩):aW P G F args res:=by
  refine y9 hf hc hlen ?_;rw[entry_eq,h0];exact e
end
theorem tj (k:IntKind) (n:Int):bT (.w (.c (.d (.int k n))))=some (k,n):=rfl
theorem tk (b:Bool):aU (.w (.c (.d (.bool b))))=some b:=rfl
theorem tl (w:W):cN (.w w)=some w:=rfl
theorem tm (cs:List D):bY (.w (.c (.d (.agg cs))))=some (cs.map C.d):=rfl
theorem tn (cs:List C):bY (.w (.mix cs))=some cs:=rfl
theorem qA (s:ByteArray):iC (.w (.c (.d (.str s))))=some s:=rfl
theorem qB (ws:List W):uJ (.tup ws)=some ws:=rfl
theorem tp (es:List D):cP (.w (.c (.d (.sl es))))=some es.length:=rfl
theorem om:cP (.w (.c .nil))=some 0:=rfl
theorem oo (id sz off n:Nat):cP (.w (.c (.own id sz off n)))=some n:=rfl
theorem qC (off id sz i o:Nat):fE off (.w (.c (.ptr id sz i o)))=some (.ptr id sz i (o+off)):=rfl
theorem tq (off:Nat) (cs:List D):fE off (.w (.c (.rp cs)))=some (.rp (cs.drop off)):=rfl
theorem oq (op:BinOp) (k k':IntKind) (a b:Int):aS op (.w (.c (.d (.int k a)))) (.w (.c (.d (.int k' b))))=aG op k a k' b:=rfl
theorem ot (op:BinOp) (a b:ByteArray):aS op (.w (.c (.d (.str a)))) (.w (.c (.d (.str b))))=em op a b:=rfl
theorem jz (k:IntKind) (a b:Int):aG .add k a k b=some (.int k (k.wrap (a+b))):=by simp[aG]
theorem ou (k:IntKind) (a b:Int):aG .sub k a k b=some (.int k (k.wrap (a-b))):=by simp[aG]
theorem ov (k:IntKind) (a b:Int):aG .mul k a k b=some (.int k (k.wrap (a*b))):=by simp[aG]
theorem jA (k:IntKind) (a b:Int):aG .eql k a k b=some (.bool (if a=b then true else false)):=by
  simp only[aG,ne_eq,not_true_eq_false,if_false,z3,D.bool.injEq];by_cases h:a=b <;> simp[h]
theorem jB (k:IntKind) (a b:Int):aG .neq k a k b=some (.bool (if a=b then false else true)):=by
  simp only[aG,ne_eq,not_true_eq_false,if_false,z3,D.bool.injEq];by_cases h:a=b <;> simp[h]
theorem ow (k:IntKind) (a b:Int):aG .lss k a k b=some (.bool (if a<b then true else false)):=by
  simp only[aG,ne_eq,not_true_eq_false,if_false,z3,D.bool.injEq];by_cases h:a<b <;> simp[h]
theorem ox (k:IntKind) (a b:Int):aG .leq k a k b=some (.bool (if a≤b then true else false)):=by
  simp only[aG,ne_eq,not_true_eq_false,if_false,z3,D.bool.injEq];by_cases h:a≤b <;> simp[h]
theorem oz (k:IntKind) (a b:Int):aG .gtr k a k b=some (.bool (if a>b then true else false)):=by
  simp only[aG,ne_eq,not_true_eq_false,if_false,z3,D.bool.injEq];by_cases h:a>b <;> simp[h]
theorem oA (k:IntKind) (a b:Int):aG .geq k a k b=some (.bool (if a≥b then true else false)):=by
  simp only[aG,ne_eq,not_true_eq_false,if_false,z3,D.bool.injEq];by_cases h:a≥b <;> simp[h]
theorem gS (k:IntKind) (a b:Int):aG .and k a k b=some (.int k (bits .and k a b)):=by simp[aG]
theorem hO (k:IntKind) (a b:Int):aG .or k a k b=some (.int k (bits .or k a b)):=by simp[aG]
theorem gT (k:IntKind) (a b:Int):aG .xor k a k b=some (.int k (bits .xor k a b)):=by simp[aG]
theorem ly (k:IntKind) (a b:Int):aG .andNot k a k b=some (.int k (bits .andNot k a b)):=by simp[aG]
theorem jC (k k':IntKind) (a b:Int) (h:0≤b):aG .shl k a k' b=some (.int k (k.wrap (a*2^min b.toNat k.bits))):=by simp[aG,h]
theorem jD (k k':IntKind) (a b:Int) (h:0≤b):aG .shr k a k' b=some (.int k (a / 2^min b.toNat k.bits)):=by simp[aG,h]
theorem oB (k:IntKind) (a b:Int) (h:b≠0):aG .quo k a k b=some (.int k (k.wrap (a.tdiv b))):=by simp[aG,h]
theorem oC (k:IntKind) (a b:Int) (h:b≠0):aG .rem k a k b=some (.int k (a.tmod b)):=by simp[aG,h]
theorem qD (k:IntKind) (n:Int):dC .neg (.w (.c (.d (.int k n))))=some (.int k (k.wrap (0-n))):=rfl
theorem qE (b:Bool):dC .not (.w (.c (.d (.bool b))))=some (.bool !b):=rfl
theorem qF (k:IntKind) (n:Int):dC .xor (.w (.c (.d (.int k n))))=some (.int k (bits .xor k (if k.signed then -1 else k.max) n)):=rfl
theorem qG (h:af) (u:Nat→Bool) (n:Nat) (o:Ob) (c:C) (hu:u (8*n)=false):bf h u n o c=some (.w (.c c),upd h (8*n) (some o),upd u (8*n) true):=eK hu
theorem oD (ρ:SX→V) (h:af) (u:Nat→Bool) (n:Nat) (c:List C):ef ρ h u n (.alloc c)=bf h u n (.box c) (.ptr (8*n) 1 0 0):=rfl
theorem lz (ρ:SX→V) (h:af) (u:Nat→Bool) (n:Nat) (c:List D):ef ρ h u n (.allocArr c)=bf h u n (.row 1 c) (.pa (8*n) 1):=rfl
theorem mI (ρ:SX→V) (h:af) (u:Nat→Bool) (n s:Nat):ef ρ h u n (.nilOwn s)=bf h u n (.row s []) (.own (8*n) s 0 0):=rfl
theorem qH (kd:Kd) (y:W) (i o:Nat) (cs:List C):dZ kd y i o (.box cs)=if (aQ y).length=kd.size∧i+o+kd.size≤cs.length then some (.box (bq cs (i+o) (aQ y))) else none:=rfl
theorem uj (n d:Nat):(some n).getD d=n:=rfl
theorem tu (h:af) (k:Kd) (cs:List D):bP h k [] (.w (.c (.rp cs)))=aO h k (.w (.c (.rp cs))):=rfl
theorem tv (h:af) (k:Kd) (es:List D):bP h k [] (.w (.c (.ra es)))=aO h k (.w (.c (.ra es))):=rfl
theorem uk (h:af) (k:Kd) (x:D):bP h k [] (.w (.c (.d x)))=aO h k (.w (.c (.d x))):=rfl
theorem um (h:af) (k:Kd) (j a b c i d e g:Nat):bP h k [.w (.c (.ptr j a b c))] (.w (.c (.ptr i d e g)))=if i=j then none else aO h k (.w (.c (.ptr i d e g))):=by
  unfold bP dR;by_cases hij:i=j
  ·simp[V.ids,W.ids,C.ids,hij,cR]
  ·simp[V.ids,W.ids,C.ids,hij,cR]
theorem uo (h:af) (k:Kd) (j a b c l m n q i d e g:Nat):bP h k [.w (.c (.ptr j a b c)),.w (.c (.ptr l m n q))] (.w (.c (.ptr i d e g)))=if i=j then none else if i=l then none else aO h k (.w (.c (.ptr i d e g))):=by
  unfold bP dR;by_cases hij:i=j
  ·simp[V.ids,W.ids,C.ids,hij,cR]
  ·by_cases hil:i=l
   ·simp[V.ids,W.ids,C.ids,hij,hil,cR]
   ·simp[V.ids,W.ids,C.ids,hij,hil,cR]
abbrev eL {p:Prop} (_:p):Prop:=p
theorem sx:eL (jR @nI (jR @qj (jR @qk (jR @nJ (jR @mo (jR @nK (jR @ql (jR @nL (jR @qm (jR @nM (jR @nN (jR @nO (jR @qn (jR @qo (jR @nP (jR @nQ (jR @nR (jR @nS (jR @sG (jR @mn (jR @ml (jR @mm (jR @lO (jR @qi (jR @nG (jR @nH (jR @sH (jR @sI (jR @sJ (jR @sK (jR @sL (jR @sM (jR @sN (jR @sO (jR @sP (jR @nT (jR @mq (jR @sQ (jR @sR (jR @sS (jR @sT (jR @sU (jR @qp (jR @sV (jR @sW (jR @sX (jR @uh (jR @mu (jR @qq (jR @sY (jR @sZ (jR @ui (jR @qt (jR @s4 (jR @s5 (jR @mw (jR @qu (jR @nU (jR @my (jR @mz (jR @mA (jR @nV (jR @lh (jR @nW (jR @mB (jR @lP (jR @nX (jR @nY (jR @lu (jR @mC (jR @s6 (jR @nZ (jR @oa (jR @mD (jR @s7 (jR @s8 (jR @qv (jR @oc (jR @lv (jR @lw (jR @od (jR @oe (jR @mE (jR @s9 (jR @qw (jR @qx (jR @ta (jR @tc (jR @td (jR @qy (jR @oh (jR @upd_same (jR @qz (jR @te (jR @tg (jR @ti (jR @mG (jR @mH (jR @uK (jR @uM (jR @tu (jR @tv (jR @uk (jR @um (jR @uo (jR @tj (jR @tk (jR @tl (jR @tm (jR @tn (jR @qA (jR @qB (jR @tp (jR @om (jR @oo (jR @qC (jR @tq (jR @oq (jR @ot (jR @jz (jR @ou (jR @ov (jR @jA (jR @jB (jR @ow (jR @ox (jR @oz (jR @oA (jR @gS (jR @hO (jR @gT (jR @ly (jR @jC (jR @jD (jR @oB (jR @oC (jR @qD (jR @qE (jR @qF (jR @qG (jR @oD (jR @lz (jR @mI (@uj)))))))))))))))))))))))))))))))))))))))))))))))))))))))))))))))))))))))))))))))))))))))))))))))))))))))))))))))))))))))))))))))))))))))))))))))):=jR @nI (jR @qj (jR @qk (jR @nJ (jR @mo (jR @nK (jR @ql (jR @nL (jR @qm (jR @nM (jR @nN (jR @nO (jR @qn (jR @qo (jR @nP (jR @nQ (jR @nR (jR @nS (jR @sG (jR @mn (jR @ml (jR @mm (jR @lO (jR @qi (jR @nG (jR @nH (jR @sH (jR @sI (jR @sJ (jR @sK (jR @sL (jR @sM (jR @sN (jR @sO (jR @sP (jR @nT (jR @mq (jR @sQ (jR @sR (jR @sS (jR @sT (jR @sU (jR @qp (jR @sV (jR @sW (jR @sX (jR @uh (jR @mu (jR @qq (jR @sY (jR @sZ (jR @ui (jR @qt (jR @s4 (jR @s5 (jR @mw (jR @qu (jR @nU (jR @my (jR @mz (jR @mA (jR @nV (jR @lh (jR @nW (jR @mB (jR @lP (jR @nX (jR @nY (jR @lu (jR @mC (jR @s6 (jR @nZ (jR @oa (jR @mD (jR @s7 (jR @s8 (jR @qv (jR @oc (jR @lv (jR @lw (jR @od (jR @oe (jR @mE (jR @s9 (jR @qw (jR @qx (jR @ta (jR @tc (jR @td (jR @qy (jR @oh (jR @upd_same (jR @qz (jR @te (jR @tg (jR @ti (jR @mG (jR @mH (jR @uK (jR @uM (jR @tu (jR @tv (jR @uk (jR @um (jR @uo (jR @tj (jR @tk (jR @tl (jR @tm (jR @tn (jR @qA (jR @qB (jR @tp (jR @om (jR @oo (jR @qC (jR @tq (jR @oq (jR @ot (jR @jz (jR @ou (jR @ov (jR @jA (jR @jB (jR @ow (jR @ox (jR @oz (jR @oA (jR @gS (jR @hO (jR @gT (jR @ly (jR @jC (jR @jD (jR @oB (jR @oC (jR @qD (jR @qE (jR @qF (jR @qG (jR @oD (jR @lz (jR @mI (@uj)))))))))))))))))))))))))))))))))))))))))))))))))))))))))))))))))))))))))))))))))))))))))))))))))))))))))))))))))))))))))))))))))))))))))))))))
end Go.Proofs.Yteohdchecapkfaa
