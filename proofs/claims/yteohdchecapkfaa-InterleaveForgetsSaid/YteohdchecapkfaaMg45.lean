/- Texts of one's own, merged: from: The plain logic (16): regions,in the order of the text and in any order that the edges allow. Own work. -/
import Derived.Orders
import Derived.OrdersIn
import Derived.Test.YteohdchecapkfaaMg44
set_option linter.unusedVariables false
set_option linter.unusedSimpArgs false
namespace Go.Proofs.Yteohdchecapkfaa
open Go.RowKit
def tp (N:Nat):Option Nat→Bool | some d=>decide (d<N) | none=>true
def cS (P:Program) (H:Hint) (ops:Array Oper) (N:Nat) (o:Oper):Option aj :=
  match fZ P H o with
  | some so=>if tp N o.dst=true then
      match o.guard with
      | none=>some ⟨o.dst,so,none⟩
      | some (j,want)=>match (ops[j]?).bind (·.dst) with
        | some t=>some ⟨o.dst,so,some (t,want)⟩
        | none=>none
    else none
  | none=>none
def fc (ms:List Nat) (o:Oper):Nat:=o.after.toList.foldl (fun m e=>if Region.binds .any e=true then m ||| (2^e.on) ||| ms.getD e.on 0 else m) 0
def tq:List Oper→List Nat→List Nat
  | [],acc=>acc
  | o::r,acc=>tq r (acc++[fc acc o])
def jQ (ms:List Nat) (ops:List Oper) (cs:List aj):Bool :=
  (List.range ops.length).all fun i=>match ops[i]?,cs[i]? with
    | some o,some so=>(ms.getD i 0==fc ms o)&&o.after.toList.all (fun e=>!Region.binds .any e || decide (e.on<i)) &&
        (List.range i).all fun j=>(ms.getD i 0).testBit j || (match cs[j]? with | some sj=>sj.indep so | none=>false)
    | _,_=>false
def iU (P:Program) (H:Hint) (N:Nat) (ops:Array Oper) (draws:Bool):Option (List aj) :=
  match ar (cS P H ops N) ops.toList with
  | some cs=>if draws=false then some cs else if P.follows .mixedOrders=true∧jQ (tq ops.toList []) ops.toList cs=true then some cs else none
  | none=>none
section
variable {P:Program} {G:au} {N:Nat} {Sin:ae} {w0:Gh} {σ:St} {a:Act} {w:World} {S:ae} {m:Mp} {H:Hint} {ops:Array Oper} {K:St→Prop} {Q:Exit→Act→World→Prop}
theorem kO {o:Oper} {so:aj} (h:cS P H ops N o=some so):fZ P H o=some so.op∧so.dst=o.dst∧(∀ t,o.dst=some t→t<N) ∧
    ((o.guard=none∧so.guard=none)∨∃ j t want,o.guard=some (j,want)∧so.guard=some (t,want)∧(ops[j]?).bind (·.dst)=some t):=by
  unfold cS at h;split at h
  ·rename_i s hs;split at h
   ·rename_i hd;have hd':∀ t,o.dst=some t→t<N:=by
      intro t ht;rw[ht] at hd
      simpa [tp] using hd
    split at h
    ·rename_i hg;cases h;exact⟨hs,rfl,hd',.inl ⟨hg,rfl⟩⟩
    ·rename_i j want hg;split at h
     ·rename_i t ht;cases h;exact⟨hs,rfl,hd',.inr ⟨j,t,want,hg,rfl,ht⟩⟩
     ·cases h
   ·cases h
  ·cases h
theorem iV {i:Nat} {o:Oper} {so:aj} (hi:ops[i]?=some o) (hc:cS P H ops N o=some so) (hx:∀ t,so.dst=some t→w0.fx t=none) (h:Inv G N Sin w0 σ a w S m) {r:R} (hr:aR P G so σ r) (hK:K (σ.put so.dst r)):wpOp P ops Q i (Nx G N Sin w0 K) a w:=by
  obtain⟨h1,h2,h3',h4⟩:=kO hc;have h3:∀ t,o.dst=some t→t<N∧w0.fx t=none:=fun t ht=>⟨h3' t ht,hx t (by rw[h2]; exact ht)⟩
  rw[h2] at hK;unfold wpOp;simp only[hi];unfold aR at hr;rcases h4 with ⟨g1,g2⟩ | ⟨j,t,want,g1,g2,g3⟩
  ·rw[g2] at hr;have hw:Region.wanted o (yielded ops a.tmps)=true:=by simp[Region.wanted,g1]
   rw[if_pos hw];exact .inl (mV h h3 h1 (gU.2 ⟨r,h2 ▸ hr,hK⟩))
  ·rw[g2] at hr;have hgone:RV m S w undef (.tup []):=⟨[],rfl,.nil⟩
   rcases hr with ⟨b,hb,hr⟩ | ⟨hu,rfl⟩
   ·have hv:=f7 (h.slot t) hb;have hy:yielded ops a.tmps j=some b:=by
      unfold yielded;rw[g3];have:a.tmps[t]?=some (.bool b):=by
        rw[zo] at hv;cases ht:a.tmps[t]? with
        | none=>rw[ht] at hv; simp[undef] at hv
        | some v=>rw[ht] at hv; simpa using hv
      simp[this]
    by_cases e:b=want
    ·have hw:Region.wanted o (yielded ops a.tmps)=true:=by simp[Region.wanted,g1,hy,e]
     rw[if_pos hw];rcases hr with ⟨_,hr⟩ | ⟨hne,_⟩
     ·exact .inl (mV h h3 h1 (gU.2 ⟨r,h2 ▸ hr,hK⟩))
     ·exact absurd e hne
    ·have hw:¬ Region.wanted o (yielded ops a.tmps)=true:=by simp[Region.wanted,g1,hy,e]
     rw[if_neg hw];rcases hr with ⟨he,_⟩ | ⟨_,rfl⟩
     ·exact absurd he e
     ·exact⟨_,_,_,hK,h.put (x:=.tup []) o.dst h3 hgone fun i hi=>by cases hi⟩
   ·have hv:a.tmps.getD t undef=undef:=by
      have:=h.slot t;rw[hu] at this;obtain⟨us,h5,h6⟩:=this;cases h6;exact h5
    have hy:yielded ops a.tmps j=none:=by
      unfold yielded;rw[g3];rw[zo] at hv;cases ht:a.tmps[t]? with
      | none=>simp[ht]
      | some v=>rw[ht] at hv; simp only[Option.getD_some] at hv; subst hv; simp[ht,undef]
    have hw:¬ Region.wanted o (yielded ops a.tmps)=true:=by simp[Region.wanted,g1,hy]
    rw[if_neg hw];exact⟨_,_,_,hK,h.put (x:=.tup []) o.dst h3 hgone fun i hi=>by cases hi⟩
theorem wM {i:Nat} {J:Act→World→Prop} (h:wpOp P ops (fun _ _ _=>False) i J a w):∃ a w,J a w:=by
  unfold wpOp at h;split at h
  ·exact⟨_,_,h⟩
  ·rename_i o ho;split at h
   ·rcases h with h | ⟨_,_,_,h⟩
    ·unfold Oper.wp at h;cases hr:(execOp a.eval o).run P w with
     | ok n w' =>
       rw[hr] at h;cases n <;> simp only[Oper.upon] at h <;> first | exact⟨_,_,h⟩ | exact h.elim | skip
       ·obtain⟨e,w2,fr,h1,_⟩:=h [];cases e with
        | returned v=>exact⟨_,_,h1⟩
        | panicked c=>exact h1.elim
        | outgrown=>obtain⟨_,_,h2⟩:=h1; exact h2.elim
       ·obtain⟨v,w2,h1,_⟩:=h default [];exact⟨_,_,h1⟩
     | halt x w' =>
       rw[hr] at h;cases x <;> simp only[Oper.upon] at h <;> exact h.elim
    ·exact h.elim
   ·exact⟨_,_,h⟩
theorem wN {i:Nat} {o:Oper} {so:aj} (hi:ops[i]?=some o) (hc:cS P H ops N o=some so) (hx:∀ t,so.dst=some t→w0.fx t=none) (h:Inv G N Sin w0 σ a w S m) {r:R} (hr:aR P G so σ r):∃ a1 w1 S1 m1,Inv G N Sin w0 (σ.put so.dst r) a1 w1 S1 m1:=by
  obtain⟨a1,w1,σ1,S1,m1,h1,h2⟩:=wM (iV (K:=fun s=>s=σ.put so.dst r) hi hc hx h hr rfl);subst h1;exact⟨a1,w1,S1,m1,h2⟩
def fp (P:Program) (H:Hint) (N:Nat) (fx:Nat→Option Value) (ops:Array Oper) (l:List (Nat×aj)):Prop:=∀ p∈l,∃ o,ops[p.1]?=some o∧cS P H ops N o=some p.2∧∀ t,p.2.dst=some t→fx t=none
theorem i4 (hQ:∀ a w,Nx G N Sin w0 K a w→Q .normal a w):∀ (l:List (Nat×aj)) {σ:St} {a:Act} {w:World} {S:ae} {m:Mp},fp P H N w0.fx ops l→Inv G N Sin w0 σ a w S m→al P G (l.map (·.2)) K σ→wpOps P ops Q (l.map (·.1)) a w
  | [],σ,a,w,S,m,_,h,e=>hQ _ _ ⟨_,_,_,e,h⟩
  | p::l,σ,a,w,S,m,hc,h,e=>by
    rw[y5,wpOps_cons];rw[y5] at e;obtain⟨r,h1,h2⟩:=e6.1 e;obtain⟨o,ho,hco,hfx⟩:=hc p (by simp);refine wpOp_mono ?_ (iV ho hco hfx h h1 h2);rintro a1 w1 ⟨σ1,S1,m1,k1,k2⟩;exact i4 hQ l (fun q hq=>hc q (by simp[hq])) k2 k1
theorem m7 (h:Inv G N Sin w0 σ a w S m) {z:aj} (hz:z.sound=true):∀ o∈z.op.xs,∀ id∈(ev G σ.f o).ids,σ.u id=true:=by
  intro o ho id hid;cases o with
  | t n=>exact h.used n id hid
  | k v =>
    simp only[aj.sound,zi,zf] at hz;have:=hz.1 _ ho;simp only[SX.kok,List.isEmpty_iff] at this;have hid':id∈v.ids:=hid;rw[this] at hid';cases hid'
  | g n =>
    simp only[ev] at hid;split at hid
    ·rename_i c hc;unfold au.at at hc;simp only[yX] at hc;obtain⟨p,hp,rfl⟩:=hc;have hk:=h.glob p (zD hp);have:=(hk.1.rpra (m':=m) hk.2.1).2;have hid':id∈p.2.ids:=hid;rw[this] at hid';cases hid'
    ·cases hid
  | u=>cases hid
theorem lg {p:Nat×aj} {l2:List (Nat×aj)}:∀ (l1:List (Nat×aj)) {σ:St} {a:Act} {w:World} {S:ae} {m:Mp},fp P H N w0.fx ops (l1++p::l2)→(∀ q∈l1,q.2.indep p.2=true)→Inv G N Sin w0 σ a w S m →
    al P G ((l1++p::l2).map (·.2)) K σ→ix P G p.2 (al P G ((l1++l2).map (·.2)) K) σ
  | [],σ,a,w,S,m,_,_,_,e=>e
  | q::l1,σ,a,w,S,m,hc,hi,h,e=>by
    rw[zS,y5] at e;obtain⟨r1,h1,h2⟩:=e6.1 e;obtain⟨o,ho,hco,hfx⟩:=hc q (by simp);obtain⟨a1,w1,S1,m1,hinv⟩:=wN ho hco hfx h h1;have ih:=lg l1 (fun z hz=>hc z (by simp only[zS,zs]; exact .inr hz)) (fun z hz=>hi z (by simp[hz])) hinv h2;obtain⟨r2,h3,h4⟩:=e6.1 ih;have hin:=hi q (by simp);have hs:q.2.sound=true∧p.2.sound=true:=by
      simp only[aj.indep,zi] at hin;exact⟨hin.1.2,hin.2⟩
    obtain⟨r2',r1',g1,g2,g3⟩:=swap hin (fun id o ho=>(h.obj id o ho).2.1) (fun z hz=>by
      rcases hz with rfl | rfl
      ·exact m7 h hs.1
      ·exact m7 h hs.2) h1 h3
    refine e6.2 ⟨r2',g1,?_⟩;rw[zS,y5];refine e6.2 ⟨r1',g2,?_⟩;rw[g3];exact h4
end
section
variable {P:Program} {G:au} {N:Nat} {Sin:ae} {w0:Gh} {σ:St} {a:Act} {w:World} {S:ae} {m:Mp} {H:Hint} {ops:Array Oper} {K:St→Prop} {Q:Exit→Act→World→Prop}
theorem vh {ms:List Nat} {o:Oper} {j:Nat} (h:(fc ms o).testBit j=true):∃ e∈o.after,Region.binds .any e=true∧(e.on=j∨(ms.getD e.on 0).testBit j=true):=by
  have key:∀ (l:List Edge) (k:Nat),(l.foldl (fun m e=>if Region.binds .any e=true then m ||| (2^e.on) ||| ms.getD e.on 0 else m) k).testBit j=true→k.testBit j=true∨∃ e∈l,Region.binds .any e=true∧(e.on=j∨(ms.getD e.on 0).testBit j=true):=by
    intro l
    induction l with
    | nil=>intro k h; exact .inl h
    | cons e l ih =>
      intro k h;rw[List.foldl_cons] at h;rcases ih _ h with h | ⟨e',h1,h2⟩
      ·split at h
       ·rename_i hb;rw[Nat.testBit_or,Nat.testBit_or,Bool.or_eq_true,Bool.or_eq_true] at h;rcases h with (h | h) | h
        ·exact .inl h
        ·rw[Nat.testBit_two_pow] at h;exact .inr ⟨e,by simp,hb,.inl (by simpa using h)⟩
        ·exact .inr ⟨e,by simp,hb,.inr h⟩
       ·exact .inl h
      ·exact .inr ⟨e',by simp[h1],h2⟩
  rcases key _ _ h with h | ⟨e,h1,h2⟩
  ·simp at h
  ·exact⟨e,by simpa using h1,h2⟩
theorem wO {ms:List Nat} {cs:List aj} (h:jQ ms ops.toList cs=true):∀ i o so,ops[i]?=some o→cs[i]?=some so→ms.getD i 0=fc ms o∧(∀ e∈o.after,Region.binds .any e=true→e.on<i)∧∀ j sj,j<i→cs[j]?=some sj→(ms.getD i 0).testBit j=true∨sj.indep so=true:=by
  intro i o so ho hso;unfold jQ at h;simp only[zf,List.mem_range] at h;have hi:i<ops.toList.length:=by
    have:=(y3.1 ho).1
    simpa using this
  have h1:=h i hi;rw[zw,ho,hso] at h1;simp only[zi,beq_iff_eq,zf,Bool.or_eq_true,Bool.not_eq_true',decide_eq_true_eq,List.mem_range] at h1;obtain⟨⟨h2,h3⟩,h4⟩:=h1;refine⟨h2,fun e he hb=>?_,fun j sj hj hsj=>?_⟩
  ·rcases h3 e (by simpa using he) with h5 | h5
   ·rw[hb] at h5; cases h5
   ·exact h5
  ·have:=h4 j hj;rw[hsj] at this;exact this
theorem vi {ms:List Nat} {cs:List aj} (hm:∀ i o so,ops[i]?=some o→cs[i]?=some so→ms.getD i 0=fc ms o∧(∀ e∈o.after,Region.binds .any e=true→e.on<i)∧∀ j sj,j<i→cs[j]?=some sj→(ms.getD i 0).testBit j=true∨sj.indep so=true) (hlen:cs.length=ops.size)
    {listed:Array Bool} (hcl:∀ k o,ops[k]?=some o→listed.getD k false=true→∀ e∈o.after,Region.binds .any e=true→listed.getD e.on false=true) :
    ∀ i o,ops[i]?=some o→(∀ e∈o.after,Region.binds .any e=true→listed.getD e.on false=true)→∀ j,(ms.getD i 0).testBit j=true→listed.getD j false=true:=by
  intro i
  induction i using Nat.strongRecOn with
  | _ i ih =>
    intro o ho hd j hj;have hi:=(y3.1 ho).1;have hso:cs[i]?=some cs[i]:=yZ (by omega);obtain⟨h1,h2,_⟩:=hm i o _ ho hso;rw[h1] at hj;obtain⟨e,he,hb,h3⟩:=vh hj;rcases h3 with rfl | h3
    ·exact hd e he hb
    ·have hlt:=h2 e he hb;have hoe:ops[e.on]?=some ops[e.on]:=Array.getElem?_eq_getElem (by omega);exact ih e.on hlt _ hoe (hcl _ _ hoe (hd e he hb)) j h3
theorem uw {l:List (Nat×aj)} {p:Nat×aj} (hs:l.Pairwise fun x y=>x.1<y.1) (hp:p∈l):∃ l1 l2,l=l1++p::l2∧∀ q∈l1,q.1<p.1:=by
  obtain⟨l1,l2,rfl⟩:=List.append_of_mem hp;refine⟨l1,l2,rfl,fun q hq=>?_⟩;rw[List.pairwise_append] at hs;exact hs.2.2 q hq p (by simp)
theorem lh {ms:List Nat} {cs:List aj} (hlen:cs.length=ops.size) (hm:∀ i o so,ops[i]?=some o→cs[i]?=some so→ms.getD i 0=fc ms o∧(∀ e∈o.after,Region.binds .any e=true→e.on<i)∧∀ j sj,j<i→cs[j]?=some sj→(ms.getD i 0).testBit j=true∨sj.indep so=true)
    (hQ:∀ a w,Nx G N Sin w0 K a w→Q .normal a w):∀ (n:Nat) (l:List (Nat×aj)) (listed:Array Bool) {σ:St} {a:Act} {w:World} {S:ae} {m:Mp},l.length=n→fp P H N w0.fx ops l→(∀ p∈l,cs[p.1]?=some p.2)→(l.Pairwise fun x y=>x.1<y.1) →
      listed.size=ops.size→(∀ j,listed.getD j true=false↔∃ so,(j,so)∈l)→(∀ k o,ops[k]?=some o→listed.getD k false=true→∀ e∈o.after,Region.binds .any e=true→listed.getD e.on false=true) →
      Inv G N Sin w0 σ a w S m→al P G (l.map (·.2)) K σ→wpAny P .any ops Q n listed a w
  | 0,l,listed,σ,a,w,S,m,hn,_,_,_,_,hl,_,h,e=>by
    have:l=[]:=List.length_eq_zero_iff.1 hn;subst this;refine⟨?_,hQ _ _ ⟨_,_,_,e,h⟩⟩;refine List.eq_nil_iff_forall_not_mem.2 fun i hi=>?_
    obtain⟨h1,_⟩:=mem_ready.1 hi;obtain⟨so,hso⟩:=(hl i).1 h1;cases hso
  | n+1,l,listed,σ,a,w,S,m,hn,hc,hcs,hsort,hsz,hl,hcl,h,e=>by
    have tf:∀ j,j<ops.size→¬ (∃ so,(j,so)∈l)→listed.getD j false=true:=by
      intro j hj hne;have h1:¬ listed.getD j true=false:=fun h=>hne ((hl j).1 h)
      rw[zo] at h1 ⊢;have:listed[j]?=some listed[j]:=Array.getElem?_eq_getElem (by omega);rw[this] at h1 ⊢
      simpa using h1
    refine⟨fun hr=>?_,fun i hi=>?_⟩
    ·cases l with
     | nil=>simp at hn
     | cons p rest =>
       exfalso;obtain⟨o,ho,hco,hfx⟩:=hc p (by simp);have hp:p.1∈Region.ready .any ops listed:=by
         refine mem_ready.2 ⟨(hl p.1).2 ⟨p.2,by simp⟩,o,ho,fun ed he hb=>?_⟩;have hlt:=(hm p.1 o p.2 ho (hcs p (by simp))).2.1 ed he hb;have hsize:=(y3.1 ho).1;refine tf _ (by omega) ?_;rintro⟨so,hso⟩;rw[List.pairwise_cons] at hsort;rcases zs.1 hso with heq | hin
         ·have:ed.on=p.1:=congrArg Prod.fst heq;omega
         ·have:=hsort.1 _ hin;simp only at this;omega
       rw[hr] at hp;cases hp
    ·obtain⟨hun,o,ho,hedges⟩:=mem_ready.1 hi;obtain⟨so,hso⟩:=(hl i).1 hun;obtain⟨l1,l2,hsplit,hlt⟩:=uw hsort hso;have hanc:=vi hm hlen hcl i o ho hedges;have hind:∀ q∈l1,q.2.indep so=true:=by
       intro q hq;have hqi:=hlt q hq;have hq2:=hcs q (by rw[hsplit]; simp[hq]);rcases (hm i o so ho (hcs _ hso)).2.2 q.1 q.2 hqi hq2 with h1 | h1
       ·have h2:=hanc q.1 h1;have h3:=(hl q.1).2 ⟨q.2,by rw[hsplit]; simp[hq]⟩;rw[zo] at h2 h3;cases hg:listed[q.1]? <;> rw[hg] at h2 h3 <;> simp_all
       ·exact h1
     rw[hsplit] at e;have hc':fp P H N w0.fx ops (l1++(i,so)::l2):=hsplit ▸ hc;have hmv:=lg (p:=(i,so)) (l2:=l2) (K:=K) l1 hc' hind h e;obtain⟨r,h1,h2⟩:=e6.1 hmv;obtain⟨o',ho',hco,hfx⟩:=hc (i,so) hso;refine wpOp_mono ?_ (iV ho' hco hfx h h1 h2);rintro a1 w1 ⟨σ1,S1,m1,k1,k2⟩;have hsub:∀ p,p∈l1++l2→p∈l:=fun p hp=>by
       rw[hsplit];rcases ze.1 hp with hp | hp <;> simp[hp]
     have hsort2:(l1++l2).Pairwise fun x y=>x.1<y.1:=by
       rw[hsplit] at hsort;refine hsort.sublist ?_;exact List.Sublist.append (List.Sublist.refl _) (List.sublist_cons_self _ _)
     have hnot:∀ s,(i,s)∉l1++l2:=by
       intro s hs;rw[hsplit,List.pairwise_append,List.pairwise_cons] at hsort;rcases ze.1 hs with hs | hs
       ·have:=hlt _ hs;simp only at this;omega
       ·have:=hsort.2.1.1 _ hs;simp only at this;omega
     have hisz:i<listed.size:=by rw[hsz]; exact (y3.1 ho).1
     refine lh hlen hm hQ n (l1++l2) _ (by rw[hsplit] at hn; simp at hn ⊢; omega) (fun p hp=>hc p (hsub p hp)) (fun p hp=>hcs p (hsub p hp)) hsort2 (by simp[hsz]) (fun j=>?_) (fun k ok hok hk ed he hb=>?_) k2 k1
     ·by_cases hji:j=i
      ·subst hji;constructor
       ·intro hh;rw[zo] at hh;simp[hisz] at hh
       ·rintro⟨s,hs⟩; exact absurd hs (hnot s)
      ·rw[getD_set_ne true (fun h=>hji h.symm),hl j,hsplit];constructor
       ·rintro⟨s,hs⟩;refine⟨s,?_⟩;rcases ze.1 hs with hs | hs
        ·exact zb _ hs
        ·rcases zs.1 hs with hs | hs
         ·exact absurd (congrArg Prod.fst hs) hji
         ·exact y1 _ hs
       ·rintro⟨s,hs⟩;refine⟨s,?_⟩;rcases ze.1 hs with hs | hs
        ·exact zb _ hs
        ·exact y1 _ (y9 _ hs)
     ·have up:∀ x,listed.getD x false=true→(listed.setIfInBounds i true).getD x false=true:=by
        intro x hx;by_cases hxi:i=x
        ·subst hxi;rw[zo];simp[hisz]
        ·rw[getD_set_ne false hxi]; exact hx
      by_cases hki:i=k
      ·subst hki;rw[ho] at hok;cases hok;exact up _ (hedges ed he hb)
      ·rw[getD_set_ne false hki] at hk;exact up _ (hcl k ok hok hk ed he hb)
theorem iK {α β:Type}:∀ (l:List α) (k:List β),l.length=k.length→(l.zip k).map (·.1)=l
  | [],_,_=>by simp
  | a::l,[],h=>by simp at h
  | a::l,b::k,h=>by simp only[List.zip_cons_cons,y5,iK l k (by simpa using h)]
theorem iL {α β:Type}:∀ (l:List α) (k:List β),l.length=k.length→(l.zip k).map (·.2)=k
  | [],[],_=>rfl
  | [],_::_,h=>by simp at h
  | a::l,[],h=>by simp at h
  | a::l,b::k,h=>by simp only[List.zip_cons_cons,y5,iL l k (by simpa using h)]
def Fr (r:Option Nat):Fence:={ fn:=fun _=>True,depth:=none,alive:=false,round:=r }
theorem pq {r:Option Nat} {n i:Nat} {K:Act→World→Prop} (hnd:∀ o:Oper,ops[i]?=some o→∀ c,o.op≠.defer c) (hQ:¬ LetsOut Q) (h:wpOp P ops Q i K a w):wpOpIn (Fr r) n P ops Q i K a w:=by
  unfold wpOp at h;unfold wpOpIn;cases ho:ops[i]? with
  | none=>rw[ho] at h; exact h
  | some o =>
    rw[ho] at h;simp only at h ⊢;split
    ·rename_i hw;rw[if_pos hw] at h;have h:=h.resolve_right fun k=>hQ k.2
     refine⟨fun _ _=>trivial,?_⟩;have hs:o.semAt (Fr r).round a.eval=execOp a.eval o:=by
       cases r with
       | none=>rfl
       | some l=>exact Oper.semAt_some l a.eval o (hnd o ho)
     rw[hs];unfold Oper.wp at h;cases hr:(execOp a.eval o).run P w with
     | ok x w' =>
       rw[hr] at h;cases x with
       | value v=>exact h
       | skip=>exact h
       | defer d=>exact h
       | enter f args=>exact⟨fun h=>(by cases h),(callsIn_wide (n:=n-1)).2 h⟩
       | row row args=>exact⟨fun h=>(by cases h),fun c cs _=>let ⟨v,w2,r,s⟩:=h c cs; ⟨v,w2,r,stepsIn_wide.2 s⟩⟩
       | _=>exact h.elim
     | halt x w' =>
       rw[hr] at h;cases x <;> first | exact h | exact h.elim
    ·rename_i hw;rw[if_neg hw] at h;exact⟨fun _ _=>trivial,h⟩
theorem jg {r:Option Nat} {n:Nat} (hnd:∀ (i:Nat) (o:Oper),ops[i]?=some o→∀ c,o.op≠.defer c) (hQ:¬ LetsOut Q):∀ (l:List Nat) {a:Act} {w:World},wpOps P ops Q l a w→wpOpsIn (Fr r) n P ops Q l a w
  | [],_,_,h=>h
  | i::l,a,w,h=>by
    rw[wpOps_cons] at h;rw[wpOpsIn_cons];exact pq (hnd i) hQ (wpOp_mono (fun _ _ h=>jg hnd hQ l h) h)
theorem m8 {r:Option Nat} {n:Nat} (hnd:∀ (i:Nat) (o:Oper),ops[i]?=some o→∀ c,o.op≠.defer c) (hQ:¬ LetsOut Q):∀ (k:Nat) {listed:Array Bool} {a:Act} {w:World},wpAny P .any ops Q k listed a w→wpAnyIn (Fr r) n P .any ops Q k listed a w
  | 0,_,_,_,h=>h
  | k+1,listed,a,w,h=>⟨h.1,fun i hi=>pq (hnd i) hQ (wpOp_mono (fun _ _ h=>m8 hnd hQ k h) (h.2 i hi))⟩
theorem kF {o:Oper} {so:aj} (h:cS P H ops N o=some so):∀ c,o.op≠.defer c:=by
  intro c e;have:=(kO h).1;simp[fZ,e] at this
def Off (K:Act→World→Prop):Exit→Act→World→Prop | .normal,a,w=>K a w | _,_,_=>False
theorem jK {K:Act→World→Prop}:¬ LetsOut (Off K):=fun ⟨_,_,h⟩=>h
theorem uI {r:Option Nat} {n id:Nat} {draws:Bool} {cs:List aj} (hc:iU P H N ops draws=some cs) (hfx:∀ so∈cs,∀ t,so.dst=some t→w0.fx t=none) (h:Inv G N Sin w0 σ a w S m) (e:al P G cs K σ) (hQ:∀ a w,Nx G N Sin w0 K a w→Q .normal a w):(Code.region id ops draws).wpIn (Fr r) n P Q a w:=by
  refine wpIn_mono (Q:=Off (Nx G N Sin w0 K)) ?_ fun e a w h=>by cases e <;> first | exact hQ _ _ h | exact h.elim
  clear hQ;have hQ:∀ a w,Nx G N Sin w0 K a w→Off (Nx G N Sin w0 K) .normal a w:=fun _ _ h=>h
  unfold iU at hc;split at hc
  ·rename_i cs' hcs;have hall:ab (fun o so=>cS P H ops N o=some so) ops.toList cs':=c7 (fun _ _ h=>h) hcs;have hlen:cs'.length=ops.size:=by have:=hall.length; simpa using this.symm
   have hzl:(List.range ops.size).length=cs'.length:=by simp[hlen]
   have hmem:∀ p∈(List.range ops.size).zip cs',p.1<ops.size∧cs'[p.1]?=some p.2:=by
     intro p hp;obtain⟨i,hi,rfl⟩:=zr hp;simp only[List.getElem_zip,zT];have h1:i<cs'.length:=by simp at hi; omega
     exact⟨by omega,yZ h1⟩
   have hfx':∀ so∈cs',∀ t,so.dst=some t→w0.fx t=none:=by
     split at hc
     ·cases hc; exact hfx
     ·split at hc
      ·cases hc; exact hfx
      ·cases hc
   have hnd:∀ (i:Nat) (o:Oper),ops[i]?=some o→∀ c,o.op≠.defer c:=by
     intro i o ho;obtain⟨so,h1,h2⟩:∃ so,cs'[i]?=some so∧cS P H ops N o=some so:=by
       have h1:i<cs'.length:=by rw[hlen]; exact (y3.1 ho).1
       obtain⟨o',h2,h3⟩:=hall.get? (yZ h1);rw[zw,ho] at h2;cases h2;exact⟨_,yZ h1,h3⟩
     exact kF h2
   have hcomp:fp P H N w0.fx ops ((List.range ops.size).zip cs'):=by
     intro p hp;obtain⟨h1,h2⟩:=hmem p hp;obtain⟨o,h3,h4⟩:=hall.get? h2;exact⟨o,by rw[← zw]; exact h3,h4,hfx' p.2 (zK h2)⟩
   have e':cs'=cs→al P G (((List.range ops.size).zip cs').map (·.2)) K σ:=by
     rintro rfl;rw[iL _ _ hzl]; exact e
   split at hc
   ·rename_i hd;cases hc;subst hd;have:=i4 hQ _ hcomp h (e' rfl);rw[iK _ _ hzl] at this;exact wpIn_region (jg hnd jK _ this)
   ·rename_i hd;have hd':draws=true:=by simpa using hd
    subst hd';split at hc
    ·rename_i hk;cases hc;refine wpIn_region_any hk.1 (m8 hnd jK _ ?_);have hm:=wO hk.2;have hzn:((List.range ops.size).zip cs).length=ops.size:=by simp[hlen]
     refine lh (G:=G) (N:=N) (Sin:=Sin) (w0:=w0) (H:=H) (K:=K) (Q:=Off (Nx G N Sin w0 K)) hlen hm hQ ops.size ((List.range ops.size).zip cs) (Array.replicate ops.size false) hzn hcomp (fun p hp=>(hmem p hp).2) ?_ (by simp) (fun j=>?_) (fun k o ho hk=>?_) (h.drew) (e' rfl)
     ·rw[List.pairwise_iff_getElem];intro i j hi hj hij;simp only[List.getElem_zip,zT];exact hij
     ·constructor
      ·intro hh;have hj:j<ops.size:=by
         rcases zP j ops.size with hlt | hge
         ·exact hlt
         ·rw[zo,Array.getElem?_eq_none (by simpa using hge)] at hh;simp at hh
       refine⟨cs[j]'(by omega),?_⟩;have h2:j<((List.range ops.size).zip cs).length:=by simp; omega
       have:((List.range ops.size).zip cs)[j]=(j,cs[j]'(by omega)):=by simp
       rw[← this];exact zx h2
      ·rintro⟨so,hso⟩;have:=(hmem _ hso).1;simp only at this;rw[zo];simp[this]
     ·exfalso;rw[zo] at hk;have:=(y3.1 ho).1;simp[this] at hk
    ·cases hc
  ·cases hc
theorem li {e:MapEntry}:∀ (L:List MapEntry) (j:Nat),(L.map (·.born)).Nodup→L[j]?=some e→L.filter (fun x=>!(x.born==e.born))=L.eraseIdx j
  | [],j,_,h=>by simp at h
  | x::L,0,hn,h=>by
    simp only[zB,yY] at h;subst h;rw[y5,List.nodup_cons] at hn;rw[List.filter_cons_of_neg (by simp),List.eraseIdx_cons_zero,List.filter_eq_self];intro y hy;have:y.born≠x.born:=fun e=>hn.1 (e ▸ za.2 ⟨y,hy,rfl⟩)
    simpa using this
  | x::L,j+1,hn,h=>by
    rw[zn] at h;rw[y5,List.nodup_cons] at hn;have:x.born≠e.born:=fun h2=>hn.1 (h2 ▸ za.2 ⟨e,zK h,rfl⟩)
    rw[List.filter_cons_of_pos (by simpa using this),List.eraseIdx_cons_succ,li L j hn.2 h]
theorem vj {E:Array MapEntry} {seen:Array Nat} {e:MapEntry} {j:Nat} (hn:(E.toList.map (·.born)).Nodup) (h:(dJ E seen).toList[j]?=some e):(dJ E (seen.push e.born)).toList=(dJ E seen).toList.eraseIdx j:=by
  unfold dJ at *
  simp only[Array.toList_filter] at *
  rw[← li _ j (List.Nodup.sublist (List.Sublist.map _ List.filter_sublist) hn) h,List.filter_filter];refine List.filter_congr fun x _=>?_
  rw[contains_push];cases seen.contains x.born <;> cases x.born==e.born <;> rfl
theorem ab.eraseIdx {α β:Type} {R:α→β→Prop}:∀ {l:List α} {m:List β},ab R l m→∀ j,ab R (l.eraseIdx j) (m.eraseIdx j)
  | _,_,.nil,_=>.nil
  | _,_,.cons _ h,0=>h
  | _,_,.cons h k,j+1=>.cons h (k.eraseIdx j)
theorem wP {o:Oper} (it:Operand) (x:SX) (ho:o.op=.next it false) (hx:ai it=some x) (h:Inv G N Sin w0 σ a w S m) {d:Nat} (hdst:o.dst=some d) (hd:d<N∧w0.fx d=none) (hn:jH σ d K (ev G σ.f x)):o.wp P a w (Nx G N Sin w0 K) Q:=by
  have hd':∀ t,o.dst=some t→t<N∧w0.fx t=none:=fun t ht=>by rw[hdst] at ht; cases ht; exact hd
  have hvx:=(h.operand hx).1;unfold jH at hn;split at hn
  ·rename_i id sz he;split at hn
   ·rename_i q left last hob;rw[he] at hvx;obtain⟨b,hm,hval⟩:=hvx;have hobj:=(h.obj id _ hob).1;unfold aA at hobj;rw[hm] at hobj;obtain⟨_,_,_,cur,ty,fz,hblk,_⟩:=hobj;have hval:a.eval it=.pointer (some ⟨b,0,none⟩):=by rw[hval]; simp
    have over:left=[]→(Instr.next (.pointer (some ⟨b,0,none⟩)) false o.type).run P w=.ok (.tuple #[.bool false]) w→o.wp P a w (Nx G N Sin w0 K) Q:=by
      intro e run;refine bw h hd' (v:=.tuple #[.bool false]) ?_ (x:=.tup [.c (.d (.bool false))]) ⟨[_],rfl,.cons (Reads.rw (.bool _)) .nil⟩ (fun i hi=>by simp[V.ids,W.ids,C.ids] at hi) (by rw[hdst]; exact hn.1 e);simp only[execOp,ho];rw[hval];exact aL run
    rcases hblk with ⟨h1,h2,h3⟩ | ⟨bm,c,seen,h1,h2,E,h3,h4,h5,h6⟩
    ·refine over h2 ?_;simp[Instr.next,getObj,Sem.run,h1,Result.andThen]
    ·rcases run_next_at (P:=P) w o.type b bm c c seen E c h1 h3 h4.2 (y8 _) with ⟨hs,run⟩ | ⟨e,hem,w1,hw1,run⟩
     ·refine over ?_ run;have hl:=h5.length;have hs:(dJ E seen).size=0:=hs;rw[zN,hs] at hl;exact List.length_eq_zero_iff.1 hl.symm
     ·obtain⟨j,hj,hje⟩:=zr (show e∈(dJ E seen).toList from hem);have hj2:j<left.length:=by rw[← h5.length]; exact hj
      have hent:=h5.get j hj hj2;rw[hje] at hent;have heE:e∈E.toList:=(mem_left hem).1;have hI1:Inv G N Sin w0 σ a w1 S m:=by
        rcases hw1 with rfl | rfl
        ·exact h
        ·exact h.drew
      have heap1:w1.heap=w.heap:=by rcases hw1 with rfl | rfl <;> rfl
      have kp:aw S w w1:=eV (fun b i hs=>(h.sin b i hs).1) (fun b _=>by rw[heap1]);have hI:=hI1.writeObj (ob':=.it q (left.eraseIdx j) (some left[j])) (y:=.mapIter (some bm) c (seen.push e.born) c) hob hm (by rw[heap1]; exact h1) rfl (fun _ _ _ e=>by cases e) rfl (fun _ _=>trivial) (fun w' _ _ _ k hb=>by
        have kE:∀ e p,eL S w q e p→eL S w' q e p:=fun e p h=>⟨h.1,(h.2.keep kp).keep k⟩
        refine .inr ⟨bm,c,seen.push e.born,hb,h2,E,k.map _ _ _ _ h2 (by rw[heap1]; exact h3),h4,?_,fun p hp=>?_⟩
        ·rw[vj h4.1 (by rw[yZ hj,hje])];exact (h5.eraseIdx j).weak fun _ _ _ _ h=>kE _ _ h
        ·cases hp; exact⟨e,heE,seen,rfl,kE _ _ hent⟩) (fun j hj=>by cases hj)
      refine bd hI hd' (v:=.tuple #[.bool true,e.key,e.val]) ?_ (x:=.tup [.c (.d (.bool true)),.c (.d (.int q left[j].1)),.c (.d left[j].2)]) ⟨[_,_,_],rfl,.cons (Reads.rw (.bool _)) (.cons (by rw[hent.1]; exact Reads.rw (.int _ _)) (.cons ?_ .nil))⟩ (fun i hi=>by simp[V.ids,W.ids,C.ids] at hi) (by rw[hdst]; exact hn.2 j left[j] (yZ hj2))
      ·simp only[execOp,ho];rw[hval];exact aL run
      ·refine Reads.rw (hent.2.keep (kp.trans ?_));refine⟨fun x i v hs hv=>?_,fun x s hs=>?_,fun x i E c hs hb=>?_⟩
       ·have hx:x≠b:=fun e=>(h.obj id _ hob).1.apart hm i (e ▸ hs)
        unfold World.cell? at *
        simp only[zA (fun e=>hx e.symm)];exact hv
       ·by_cases hx:x=b
        ·subst hx;unfold World.shape? at hs;rw[heap1,h1] at hs;cases hs
        ·unfold World.shape? at *
         simp only[zA (fun e=>hx e.symm)];exact hs
       ·have hx:x≠b:=fun e=>(h.obj id _ hob).1.apart hm i (e ▸ hs)
        simp only[zA (fun e=>hx e.symm)];exact hb
   ·exact hn.elim
  ·exact hn.elim
def jh (P:Program) (H:Hint) (N:Nat) (ops:Array Oper) (draws:Bool):Option aK :=
  match ops.toList with
  | o::rest=>match o.op,o.dst,o.guard with
    | .next it false,some d,none=>match ai it,ar (cS P H ops N) rest with
      | some x,some cs=>if draws=false∧d<N then some (.nextM d x cs) else none
      | _,_=>none
    | _,_,_=>none
  | []=>none
theorem vk {r:Option Nat} {n id:Nat} {draws:Bool} {sc:aK} {Q':AX→St→Prop} (hc:jh P H N ops draws=some sc) (hfx:∀ t∈sc.writes,w0.fx t=none) (h:Inv G N Sin w0 σ a w S m) (e:aI P G sc Q' σ) (hQ:∀ a w,Nx G N Sin w0 (Q' .nrm) a w→Q .normal a w):(Code.region id ops draws).wpIn (Fr r) n P Q a w:=by
  refine wpIn_mono (Q:=Off (Nx G N Sin w0 (Q' .nrm))) ?_ fun e a w h=>by cases e <;> first | exact hQ _ _ h | exact h.elim
  clear hQ;unfold jh at hc;split at hc
  ·rename_i o rest hops;split at hc
   ·rename_i it d h1 h2 h3;split at hc
    ·rename_i x cs hx hcs;split at hc
     ·rename_i hd;obtain⟨rfl,hdN⟩:=hd;cases hc;have hall:ab (fun o so=>cS P H ops N o=some so) rest cs:=c7 (fun _ _ h=>h) hcs;have hsz:ops.size=rest.length+1:=by rw[← zN,hops]; rfl
      have hget:∀ i,ops[i+1]?=rest[i]?:=fun i=>by rw[← zw,hops,zn]
      have h0:ops[0]?=some o:=by rw[← zw,hops]; rfl
      have hcomp:fp P H N w0.fx ops (((List.range rest.length).map Nat.succ).zip cs):=by
        intro p hp;obtain⟨i,hi,rfl⟩:=zr hp;have hi1:i<rest.length:=by simp at hi; omega
        have hi2:i<cs.length:=by simp at hi; omega
        simp only[List.getElem_zip,zk,zT];exact⟨rest[i],by rw[hget,yZ hi1],hall.get i hi1 hi2,fun t ht=>hfx t (y9 _ (zY.2 ⟨cs[i],zx hi2,ht⟩))⟩
      have hlen:((List.range rest.length).map Nat.succ).length=cs.length:=by simpa using hall.length
      have hnd:∀ (i:Nat) (o:Oper),ops[i]?=some o→∀ c,o.op≠.defer c:=by
        intro i o' ho;cases i with
        | zero=>rw[h0] at ho; cases ho; intro c e; rw[h1] at e; cases e
        | succ i =>
          rw[hget] at ho;obtain⟨so,hso⟩:∃ so,cS P H ops N o'=some so:=by
            obtain⟨hi,rfl⟩:=y6.1 ho;exact⟨_,hall.get i hi (by rw[← hall.length]; exact hi)⟩
          exact kF hso
      refine wpIn_region (jg hnd jK _ ?_);rw[hsz,List.range_succ_eq_map,wpOps_cons];unfold wpOp;simp only[h0];have hw:Region.wanted o (yielded ops a.tmps)=true:=by simp[Region.wanted,h3]
      rw[if_pos hw];refine .inl ?_;have hop:=wP (P:=P) (K:=fun s=>al P G cs (Q' .nrm) s) (Q:=Off (Nx G N Sin w0 (Q' .nrm))) it x h1 hx h h2 ⟨hdN,hfx d (zh ..)⟩ e;refine Oper.wp_mono (fun a1 w1 hk=>?_) hop;obtain⟨σ1,S1,m1,k1,k2⟩:=hk;have:=i4 (K:=Q' .nrm) (Q:=Off (Nx G N Sin w0 (Q' .nrm))) (fun _ _ h=>h) _ hcomp k2 (by rw[iL _ _ hlen]; exact k1);rw[iK _ _ hlen] at this;exact this
     ·cases hc
    ·cases hc
   ·cases hc
  ·cases hc
end
section
variable (P:Program) (H:Hint) (N:Nat)
def jx (H:Hint) (id:Nat) (c:aK):aK:=match H.gh.find? fun p=>p.1==id with | some p=>.ghost p.2 c | none=>c
def bA (inr:Bool):Code→Option aK
  | .skip=>some .skip
  | .region id ops draws=>(match iU P H N ops draws with | some l=>some (aK.reg l) | none=>match jh P H N ops draws with | some c=>some c | none=>if H.bad=true then some (aK.reg [⟨none,.lenStr .u,none⟩]) else none).map (jx H id)
  | .seq a b=>match bA inr a,bA inr b with | some x,some y=>some (.seq x y) | _,_=>none
  | .cond c a b=>match ai c,bA inr a,bA inr b with | some c,some x,some y=>some (.cond c x y) | _,_,_=>none
  | .block id c=>(bA inr c).map (.block id)
  | .loop c=>(bA inr c).map .loop
  | .exit id=>some (.exit id)
  | .scope c=>bA inr c
  | .label _=>some .skip
  | .ret=>some .ret
  | .rangeFunc g ps a b=>if inr=false∧ps.all (fun t=>decide (t<N))=true then match ai g,bA true a,bA true b with | some x,some a,some b=>some (.rangeF x ps.toList a b) | _,_,_=>none else none
  | _=>none
def fW:ResultVar→Option (Nat×Option Kd)
  | .tmp t=>some (t,none)
  | .cell t ty=>(bu P ty).map fun kd=>(t,some kd)
def bq (fn:Func):Option bF :=
  match fn.body with
  | some c=>match bA P H fn.ntmps false c,ar (fW P) fn.results.toList with
    | some body,some res=>if fn.params.size+fn.nfree≤fn.ntmps then some ⟨fn.params.size+fn.nfree,fn.ntmps,body,res⟩ else none
    | _,_=>none
  | none=>none
end
section
variable {P:Program} {G:au} {N:Nat} {Sin:ae} {w0:Gh} {σ:St} {a:Act} {w:World} {S:ae} {m:Mp} {H:Hint}
theorem Inv.ent {τ:St} (h:Inv G N Sin w0 σ a w S m) (e:cX σ τ):∃ m',Inv G N Sin w0 τ a w S m':=by
  obtain⟨⟨g,g1,g2,g3⟩,g4,g5⟩:=e;refine⟨fun i=>m (g i),h.size,h.defers,fun t=>?_,g4,fun i o ho=>⟨?_,g5 i o ho⟩,fun i j b s s' h1 h2 h3 h4=>?_,h.sin,h.sub,h.glob,h.below,h.oth,h.kso,h.sso,h.fix⟩
  ·rcases g1 t with e | e
   ·rw[e]; trivial
   ·have:=h.slot t;rw[e] at this;exact this.ren
  ·have hob:=(h.obj (g i) _ (g2 i o ho)).1;unfold aA at hob ⊢
   show match m (g i) with | none=>_ | some (b,sz)=>_
   split at hob
   ·obtain⟨sz,e⟩:=hob;rename_i hm;rw[hm];cases o with
    | row s es=>exact⟨sz,e⟩
    | _=>cases e
   ·rename_i b sz hm;rw[hm];obtain⟨k1,k2,k3,cur,ty,fz,k4,k5,k6⟩:=hob;refine⟨?_,k2,k3,cur,ty,fz,k4.ren,k5,k6.ren⟩;rw[← k1];cases o <;> rfl
  ·refine g3 i j h1 h2 ?_;obtain⟨oi,hi⟩:=y7.1 h1;obtain⟨oj,hj⟩:=y7.1 h2;exact h.inj (g i) (g j) b s s' (by rw[g2 i oi hi]; simp) (by rw[g2 j oj hj]; simp) h3 h4
theorem wQ {p:Nat→Prop} (h:∃ n,p n):∃ n,p n∧∀ k,p k→n≤k:=by
  obtain⟨n,hn⟩:=h
  induction n using Nat.strongRecOn with
  | _ n ih =>
    by_cases h2:∃ k,k<n∧p k
    ·obtain⟨k,hk,hp⟩:=h2;exact ih k hk hp
    ·refine⟨n,hn,fun k hk=>?_⟩;rcases zP k n with hlt | hge
     ·exact absurd ⟨k,hlt,hk⟩ h2
     ·exact hge
theorem uO {F:Fence} {k:Nat} {c:Code} {Q:Exit→Act→World→Prop} (I:Nat→Act→World→Prop) {n:Nat} (h:I n a w) (round:∀ n a w,I n a w→c.wpIn F k P (Exit.then (fun a' w'=>∃ n',n'<n∧I n' a' w') Q) a w):(Code.loop c).wpIn F k P Q a w:=by
  have hμ:∃ μ:Act→World→Nat,∀ a w,(∃ n,I n a w)→I (μ a w) a w∧∀ k,I k a w→μ a w≤k:=by
    have:∀ p:Act×World,∃ k,(∃ n,I n p.1 p.2)→I k p.1 p.2∧∀ j,I j p.1 p.2→k≤j:=by
      intro p;by_cases hp:∃ n,I n p.1 p.2
      ·obtain⟨k,h1,h2⟩:=wQ hp;exact⟨k,fun _=>⟨h1,h2⟩⟩
      ·exact⟨0,fun h=>absurd h hp⟩
    obtain⟨f,hf⟩:=Classical.axiomOfChoice this;exact⟨fun a w=>f (a,w),fun a w=>hf (a,w)⟩
  obtain⟨μ,hμ⟩:=hμ;refine wpIn_loop (fun a w=>∃ n,I n a w) μ ⟨n,h⟩ fun a w hI=>?_
  refine wpIn_mono (round _ a w (hμ a w hI).1) fun e a' w' he=>?_
  cases e with
  | normal =>
    obtain⟨n',h1,h2⟩:=he;exact⟨⟨n',h2⟩,Nat.lt_of_le_of_lt ((hμ a' w' ⟨n',h2⟩).2 n' h2) h1⟩
  | _=>exact he
def AX.toExit:AX→Exit
  | .nrm=>.normal
  | .ex id=>.exit id
  | .ret=>.ret
def AX.toCode:AX→Code
  | .nrm=>.skip
  | .ex id=>.exit id
  | .ret=>.ret
def ik (G:au) (N:Nat) (Sin:ae) (w0:Gh) (Q':AX→St→Prop) (Q:Exit→Act→World→Prop):Prop:=∀ e σ a w S m,Q' e σ→Inv G N Sin w0 σ a w S m→Q e.toExit a w
structure bi (l:Nat) (W W':World):Prop where
  size:W.heap.size≤W'.heap.size
  same:∀ (k:Nat) (o:Obj),k≠l→W.heap[k]?=some o→fw o=false→W'.heap[k]?=some o
theorem bi.of {l:Nat} {A B:World} (h:aY A B):bi l A B:=⟨h.size,fun k o _ hk ho=>h.same k o hk ho⟩
theorem bi.trans {l:Nat} {A B C:World} (h:bi l A B) (k:bi l B C):bi l A C :=
  ⟨zy h.size k.size,fun i o hl hi ho=>k.same i o hl (h.same i o hl hi ho) ho⟩
theorem bi.put (W:World) (l:Nat) (o:Obj):bi l W (W.putObj l o) :=
  ⟨(grownBy_putObj' W l o).size,fun k _ hl hk _=>(World.putObj_heap_other hl).trans hk⟩
theorem bi.old {l:Nat} {A B C:World} (h:aY A B) (k:bi l B C) (hl:A.heap.size≤l):aY A C :=
  ⟨zy h.size k.size,fun i o hi ho=>k.same i o (fun e=>by have:=(y3.1 hi).1; omega) (h.same i o hi ho) ho⟩
theorem cF.but {B l:Nat} {w w':World} (k:bi l w w') (hl:∀ ds,w.heap[l]?≠some (.deferred ds)):∀ {ds:List Deferred},cF B w ds→cF B w' ds
  | [],_=>trivial
  | _::_,⟨⟨D,h1,h2,h3,h4⟩,h5⟩=>⟨⟨D,h1,h2,k.same _ _ (fun e=>hl _ (e ▸ h3)) h3 rfl,h4⟩,h5.but k hl⟩
def cm (w w':World):Prop:=∀ (b:Nat) o,w.heap[b]?=some o→fw o=true→w'.heap[b]?=some o
theorem cm.keeps {w w':World} (h:cm w w') (S:ae):aw S w w':=by
  refine⟨fun b i v _ hv=>?_,fun b s hs=>?_,fun b i E c _ hb=>h b _ hb rfl⟩
  ·unfold World.cell? at hv ⊢;cases hb:w.heap[b]? with
   | none=>simp[hb] at hv
   | some o =>
     cases o with
     | cells cur ty fz=>rw[h b _ hb rfl]; rw[hb] at hv; exact hv
     | _=>simp[hb] at hv
  ·unfold World.shape? at hs ⊢;cases hb:w.heap[b]? with
   | none=>simp[hb] at hs
   | some o =>
     cases o with
     | cells cur ty fz=>rw[h b _ hb rfl]; rw[hb] at hs; exact hs
     | _=>simp[hb] at hs
theorem cm.put {w:World} {l:Nat} {o o':Obj} (hl:w.heap[l]?=some o) (ho:fw o=false):cm w (w.putObj l o'):=fun b x hb hx=>by
  refine (World.putObj_heap_other fun e=>?_).trans hb;subst e; rw[hl] at hb; cases hb; rw[ho] at hx; cases hx
theorem fQ {B:Nat} {w:World} {l:Nat} {o:Obj} (o':Obj) (hl:B≤l) (h:w.heap[l]?=some o):Below B w (w.putObj l o') :=
  (Below.refl B w).grown (grownBy_putObj' w l o') (by have:=(y3.1 h).1; omega) (fun k e=>by cases e; omega)
theorem Inv.turn (h:Inv G N Sin w0 σ a w S m) {w':World} (hc:cm w w') (hsz:w.heap.size≤w'.heap.size) {w1:Gh} (e1:w1.toWorld=w0.toWorld) (below:aJ w0.heap.size w0.ext w0 w') {a':Act} (hts:a'.tmps.size=a.tmps.size)
    (ht:∀ t,σ.f t=.undef∨a'.tmps.getD t undef=a.tmps.getD t undef) (hdef:cF w0.heap.size w' a'.defers) (oth:aY w1.wo w') (kso:aw w1.so w1.wo w') (sso:∀ b i,w1.so b i→S b i) (fix:∀ t v,w1.fx t=some v→a'.tmps.getD t undef=v) (e2:w1.ext=w0.ext:=by rfl) :
    Inv G N Sin w1 σ a' w' S m:=by
  have k:=hc.keeps S;have hmay:w1.may=w0.may:=by unfold Gh.may; rw[e1,e2]
  refine⟨hts.trans h.size,by rw[e1]; exact hdef,fun t=>?_,h.used,fun id o ho=>?_,h.inj,fun b i hs=>?_,h.sub,h.glob.step k (fun _ _ h=>h),by rw[e1,e2]; exact below,oth,kso,sso,fix⟩
  ·rcases ht t with e | e
   ·rw[e]; trivial
   ·rw[e]; exact (h.slot t).keep k
  ·refine⟨?_,(h.obj id o ho).2⟩;rw[hmay];refine (h.obj id o ho).1.step k (fun _ _ h=>h) (fun _ _=>rfl) rfl fun b s hm=>⟨?_,(h.obj id o ho).1.apart hm⟩
   have:=(h.obj id o ho).1;unfold aA at this;rw[hm] at this;obtain⟨_,_,_,cur,ty,fz,h4,_⟩:=this;obtain⟨x,h5,h6⟩:∃ x,w.heap[b]?=some x∧fw x=true:=by
     cases o with
     | row s es=>exact⟨_,h4,rfl⟩
     | box cs=>exact⟨_,h4,rfl⟩
     | mp q es=>obtain⟨E,c,h5,_⟩:=h4; exact⟨_,h5,rfl⟩
     | it q l p=>rcases h4 with ⟨h5,_⟩ | ⟨_,_,_,h5,_⟩ <;> exact⟨_,h5,rfl⟩
   rw[hc b x h5 h6,h5]
  ·rw[hmay];exact⟨Nat.lt_of_lt_of_le (h.sin b i hs).1 hsz,(h.sin b i hs).2⟩
theorem Inv.puts:∀ {ps:List Nat} {us:List Value} {r:List D} {σ:St} {a:Act},Inv G N Sin w0 σ a w S m→ab (fun v x=>RW (fun _=>none) S w v (.c (.d x))) us r→(∀ t∈ps,t<N∧w0.fx t=none)→r.length=ps.length →
    Inv G N Sin w0 ⟨hP σ.f ps r,σ.h,σ.u⟩ { a with tmps:=(ps.zip us).foldl (fun t p=>t.setIfInBounds p.1 p.2) a.tmps } w S m
  | [],us,r,σ,a,h,hr,_,hl=>by
    have:r=[]:=List.length_eq_zero_iff.1 hl;subst this;exact h
  | p::ps,us,r,σ,a,h,hr,hp,hl=>by
    cases hr with
    | nil=>cases hl
    | cons h1 h2 =>
      have:=h.put (some p) (fun t e=>by cases e; exact hp p (by simp)) (RV.mono (S:=S) (fun _ _ h=>h) (x:=vd _) (RW.congr h1 (fun i hi=>by cases hi))) (fun i hi=>by cases hi);exact this.puts h2 (fun t ht=>hp t (by simp[ht])) (by simpa using hl)
theorem uP {g:Operand} {ps:Array Tmp} {asg body:Code} {x:SX} {sa sb:aK} (hx:ai g=some x) (hps:∀ t∈ps.toList,t<N)
    (ha:∀ {w1:Gh} {r:Option Nat} {n:Nat} {Q':AX→St→Prop} {Q:Exit→Act→World→Prop} {σ:St} {a:Act} {w:World} {S:ae} {m:Mp},(∀ t∈sa.writes,w1.fx t=none)→ik G N Sin w1 Q' Q→Inv G N Sin w1 σ a w S m→aI P G sa Q' σ→asg.wpIn (Fr r) n P Q a w)
    (hb:∀ {w1:Gh} {r:Option Nat} {n:Nat} {Q':AX→St→Prop} {Q:Exit→Act→World→Prop} {σ:St} {a:Act} {w:World} {S:ae} {m:Mp},(∀ t∈sb.writes,w1.fx t=none)→ik G N Sin w1 Q' Q→Inv G N Sin w1 σ a w S m→aI P G sb Q' σ→body.wpIn (Fr r) n P Q a w)
    {n:Nat} {Q':AX→St→Prop} {Q:Exit→Act→World→Prop} (hp:ik G N Sin w0 Q' Q) (h:Inv G N Sin w0 σ a w S m) (e:aI P G (.rangeF x ps.toList sa sb) Q' σ):(Code.rangeFunc g ps asg body).wpIn (Fr none) n P Q a w:=by
  obtain⟨gf,caps,xs,f0,h0,u0,I,hev,hseq,hlen,hent,hun,hI0,hround,hdone⟩:=e;have hop:RV m S w (a.eval g) (ev G σ.f x):=(h.operand hx).1;rw[hev] at hop;obtain⟨lb,hg,hlb⟩:=uH (show Reads S w (a.eval g) (.fn gf caps) from hop);obtain⟨m0,hinv0⟩:=h.ent hent;refine wpIn_rangeFunc fun fn hfn=>?_
  obtain⟨rec,hrec⟩:∃ rec:LoopState→Option Code→Loop,rec=fun st pe=>{ state:=st,pending:=pe,fn,tmps:=a.tmps,params:=ps,assign:=asg,body,defers:=w.heap.size }:=⟨_,rfl⟩
  obtain⟨W1,hW1⟩:∃ W1,(w.alloc (.deferred (some []))).alloc (.loop (rec .ready none))=W1:=⟨_,rfl⟩
  obtain⟨a2,ha2⟩:∃ a2:Act,{ a with defers:={ target:=.collected w.heap.size,args:=#[] }::a.defers }=a2:=⟨_,rfl⟩
  have hL1:W1.heap[w.heap.size+1]?=some (.loop (rec .ready none)):=by
    rw[← hW1]; have:=World.alloc_heap_new (w.alloc (.deferred (some []))) (.loop (rec .ready none)); rwa [World.size_alloc] at this
  have hK1:W1.heap[w.heap.size]?=some (.deferred (some [])):=by
    rw[← hW1]; exact (Below.heap_alloc _ _ _ (by simp)).trans (World.alloc_heap_new w _)
  have hold:∀ b,b<w.heap.size→W1.heap[b]?=w.heap[b]?:=fun b hlt=>by
    rw[← hW1]; exact (Below.heap_alloc _ _ _ (by simp; omega)).trans (Below.heap_alloc w _ b hlt)
  have hs1:W1.heap.size=w.heap.size+2:=by rw[← hW1]; simp
  have hko1:aY w W1:=kH hold (by omega);have hw0:w0.heap.size≤w.heap.size:=h.bsize;have hbel1:aJ w0.heap.size w0.ext w0 W1:=by
    rw[← hW1]; exact (h.below.step (y8 _) ((Below.refl _ _).alloc (y8 _) _)).step (y8 _) ((Below.refl _ _).alloc (y8 _) _)
  have hsame1:cm w W1:=fun b x hb _=>(hold b (y3.1 hb).1).trans hb
  have hinv1:Inv G N Sin w0 ⟨f0,h0,u0⟩ a2 W1 S m0:=by
    subst ha2;refine hinv0.turn hsame1 (by omega) rfl hbel1 rfl (fun t=>.inr rfl) ⟨⟨w.heap.size,rfl,hw0,hK1,fun d' hd' e=>?_⟩,h.defers.keep hko1⟩ (h.oth.trans hko1) ?_ h.sso h.fix
    ·have key:∀ {ds:List Deferred},cF w0.heap.size w ds→d'∈ds→d'.target≠.collected w.heap.size:=by
       intro ds
       induction ds with
       | nil=>intro _ h; cases h
       | cons d ds ih =>
         rintro⟨⟨D,h1,h2,h3,h4⟩,h5⟩ hm e;rcases zs.1 hm with rfl | hm
         ·rw[h1] at e;simp only[Target.collected.injEq] at e;have:=(y3.1 h3).1;omega
         ·exact ih h5 hm e
     exact key h.defers hd' e
    ·exact h.kso.trans (hsame1.keeps _)
  have hat:a2.tmps=a.tmps:=by subst ha2; rfl
  refine⟨w.heap.size+1,[{ target:=.collected w.heap.size,args:=#[] }],W1,{ target:=.fn (.func gf) lb.toArray,args:=#[.func (.yield (w.heap.size+1)) #[] #[]] },W1,gf,
    #[.func (.yield (w.heap.size+1)) #[] #[]]++lb.toArray,W1,?_,?_,fun _ _=>trivial,?_,fun h=>(by cases h),?_⟩
  ·rw[← hW1,hrec]; exact run_enterLoop_outer _ _ _ _ _
  ·simp only[resolve,hg];simp[go_sem]
  ·simp[invoke,go_sem,hseq.1]
  ·
   obtain⟨J,hJ⟩:∃ J:LoopState→Option Code→(ah→(Nat→Bool)→Prop)→World→Prop,J=fun st pe R W =>
     ∃ h u S' m',R h u∧Inv G N Sin w0 ⟨f0,h,u⟩ a2 W S' m'∧W.heap[w.heap.size+1]?=some (.loop (rec st pe))∧(∀ b i,S b i→S' b i)∧aw S W1 W∧W1.heap.size≤W.heap.size:=⟨_,rfl⟩
   have Jgrow:∀ st pe R W W',J st pe R W→Below W.heap.size W W'→J st pe R W':=by
     intro st pe R W W' hj hbl;rw[hJ] at hj ⊢;obtain⟨h',u',S',m',k1,k2,k3,k4,k5,k6⟩:=hj;have hb:∀ b,b<W.heap.size→W'.heap[b]?=W.heap[b]?:=fun b hlt=>hbl.block b hlt
     refine⟨h',u',S',m',k1,k2.grow hb (k2.below.step (y8 _) hbl) hbl.size,(hb _ (y3.1 k3).1).trans k3,k4,k5.trans (eV (fun b i hs=>(k2.sin b i (k4 b i hs)).1) hb),zy k6 hbl.size⟩
   have key:=hseq.2 (n-1) W1 S lb (fun b i hs=>by have:=(h.sin b i hs).1; omega) (h.glob.step (hsame1.keeps S) (fun _ _ h=>h)) ?_ (w.heap.size+1) (fun k=>J .ready none (I k)) (fun W=>∃ c:AX,J .done (some c.toCode) (fun h u=>Q' c ⟨f0,h,u⟩∧c≠.nrm) W) ?_ (fun k W W'=>Jgrow _ _ _ W W') (fun W W'=>?_) ?_ ?_
   ·refine CallsIn.mono key ?_;rintro e W2 ⟨⟨v,rfl⟩,hj | ⟨c,hj⟩⟩
    ·rw[hJ] at hj;obtain⟨h',u',S',m',k1,k2,k3,k4,k5,k6⟩:=hj;refine⟨none,_,by have:=run_endLoop (P:=P) k3 (by rw[hrec]; simp); rw[hrec] at this; exact this,?_⟩
     show Q .normal { a with defers:=[{ target:=.collected w.heap.size,args:=#[] }]++a.defers } _
     rw[List.singleton_append,ha2]
     refine hp .nrm _ _ _ S' m' (hdone h' u' k1) (k2.turn (cm.put k3 rfl) (grownBy_putObj' _ _ _).size rfl (k2.below.trans (aJ.of (fQ _ (by omega) k3))) rfl (fun t=>.inr rfl) (k2.defers.but (bi.put _ _ _) fun ds e=>by rw[k3] at e; cases e)
       ((bi.old k2.oth (bi.put _ _ _) (by have:=h.oth.size; omega))) (k2.kso.trans ((cm.put k3 rfl).keeps _)) k2.sso k2.fix)
    ·rw[hJ] at hj;obtain⟨h',u',S',m',⟨k1,kc⟩,k2,k3,k4,k5,k6⟩:=hj;refine⟨some c.toCode,_,by have:=run_endLoop (P:=P) k3 (by rw[hrec]; simp); rw[hrec] at this; exact this,?_⟩
     show c.toCode.wpIn (Fr none) n P Q { a with defers:=[{ target:=.collected w.heap.size,args:=#[] }]++a.defers } _
     rw[List.singleton_append,ha2]
     have hq:=hp c _ _ _ S' m' k1 (k2.turn (cm.put (o':=.loop { rec .done (some c.toCode) with state:=.exhausted }) k3 rfl) (grownBy_putObj' _ _ _).size rfl (k2.below.trans (aJ.of (fQ _ (by omega) k3))) rfl (fun t=>.inr rfl) (k2.defers.but (bi.put _ _ _) fun ds e=>by rw[k3] at e; cases e)
       ((bi.old k2.oth (bi.put _ _ _) (by have:=h.oth.size; omega))) (k2.kso.trans ((cm.put k3 rfl).keeps _)) k2.sso k2.fix)
     rw[hrec] at hq;cases c with
     | nrm=>exact absurd rfl kc
     | ex id=>exact wpIn_exit hq
     | ret=>exact wpIn_ret hq
   ·refine hlb.weak fun v d _ _ hr=>?_
    exact Reads.rw (hr.keep (hsame1.keeps S))
   ·intro k W hj;rw[hJ] at hj;obtain⟨h',u',S',m',k1,k2,k3,k4,k5,k6⟩:=hj;exact⟨k5,k6⟩
   ·rintro⟨c,hj⟩ hbl;exact⟨c,Jgrow _ _ _ W W' hj hbl⟩
   ·
    intro k r W us hr hj hus;rw[hJ] at hj;obtain⟨h',u',S',m',k1,k2,k3,k4,k5,k6⟩:=hj;have hrl:r.length=ps.toList.length:=hlen r (zK hr);have hul:us.length=ps.toList.length:=hus.length.trans hrl;have hy:=run_yield (P:=P) (args:=us.toArray) k3 (by rw[hrec]; simpa using hul);rw[hrec] at hy;obtain⟨wr,hwr⟩:∃ wr,wr=ps.toList++sa.writes++sb.writes:=⟨_,rfl⟩
    let fx:Nat→Option Value:=fun t=>if t∈wr then none else some (a.tmps.getD t undef)
    have hfx:∀ t∈wr,fx t=none:=fun t ht=>if_pos ht
    let wA:Gh:={ w0 with wo:=W,so:=S',fx:=fx }
    have hfold:(ps.zip us.toArray).foldl (fun tmps (x:Tmp×Value)=>tmps.setIfInBounds x.1 x.2) a.tmps=(ps.toList.zip us).foldl (fun t p=>t.setIfInBounds p.1 p.2) a.tmps:=by
      rw[← Array.foldl_toList]; simp
    have hinvA:Inv G N Sin wA ⟨hP f0 ps.toList r,h',u'⟩ { tmps:=(ps.zip us.toArray).foldl (fun tmps (x:Tmp×Value)=>tmps.setIfInBounds x.1 x.2) a.tmps,defers:=[] } W S' m':=by
      rw[hfold];have:=k2.turn (w1:=wA) (a':={ tmps:=a.tmps,defers:=[] }) (w':=W) (fun _ _ h _=>h) (y8 _) rfl k2.below (by rw[hat]) (fun t=>.inr (by rw[hat])) trivial (aY.refl W) (aw.refl _ _) (fun _ _ h=>h) (fun t v ht=>by
        have ht':fx t=some v:=ht;simp only[fx] at ht';split at ht'
        ·cases ht'
        ·cases ht'; rfl)
      refine this.puts (hus.weak fun v d _ _ hv=>RW.mono k4 hv) (fun t ht=>⟨hps t ht,hfx t ?_⟩) hrl;rw[hwr]; simp[ht]
    refine⟨fn,_,asg,body,hy,roundIn_of_wpIn trivial ?_⟩;refine ha (w1:=wA) (r:=some (w.heap.size+1)) (fun t ht=>hfx t (by rw[hwr]; simp[ht])) ?_ hinvA (hround k r h' u' hr k1);rintro e1 σ1 a1 V1 S1 m1 q1 hinv1';cases e1 with
    | ex id=>exact q1.elim
    | ret=>exact q1.elim
    | nrm =>
      have hl1:V1.heap[w.heap.size+1]?=some (.loop (rec .ready none)):=hinv1'.oth.same _ _ k3 rfl;refine⟨_,run_beginRound hl1 (by rw[hrec]),?_⟩;obtain⟨V2,hV2⟩:∃ V2,V1.putObj (w.heap.size+1) (.loop { rec .ready none with state:=.busy })=V2:=⟨_,rfl⟩
      rw[hV2];have hl2:V2.heap[w.heap.size+1]?=some (.loop { rec .ready none with state:=.busy }):=by rw[← hV2]; exact World.putObj_heap_same (y3.1 hl1).1
      have hsc2:cm V1 V2:=by rw[← hV2]; exact cm.put hl1 rfl
      have hkb2:bi (w.heap.size+1) V1 V2:=by rw[← hV2]; exact bi.put _ _ _
      let wB:Gh:={ w0 with wo:=V2,so:=S1,fx:=fx }
      have hbelB:aJ w0.heap.size w0.ext w0 V2:=by
        rw[← hV2]; exact aJ.trans (show aJ w0.heap.size w0.ext w0 V1 from hinv1'.below) (aJ.of (fQ _ (by omega) hl1))
      have hinvB:Inv G N Sin wB σ1 a1 V2 S1 m1:=by
        exact hinv1'.turn (w1:=wB) hsc2 hkb2.size rfl hbelB rfl (fun t=>.inr rfl) (hinv1'.defers.but hkb2 fun ds e=>by rw[hl1] at e; cases e) (aY.refl V2) (aw.refl _ _) (fun _ _ h=>h) hinv1'.fix
      refine hb (w1:=wB) (r:=some (w.heap.size+1)) (fun t ht=>hfx t (by rw[hwr]; simp[ht])) ?_ hinvB q1;rintro e2 σ2 a3 V3 S3 m3 q2 hinv3;have hl3:V3.heap[w.heap.size+1]?=some (.loop { rec .ready none with state:=.busy }):=hinv3.oth.same _ _ hl2 rfl;have bd:∀ (st:LoopState) (pe:Option Code) (R:ah→(Nat→Bool)→Prop) (h2:ah) (u2:Nat→Bool),R h2 u2→cX σ2 ⟨f0,h2,u2⟩→J st pe R (V3.putObj (w.heap.size+1) (.loop (rec st pe))):=by
        intro st pe R h2 u2 hR hent2;obtain⟨m4,hinv4⟩:=hinv3.ent hent2;have hsc4:cm V3 (V3.putObj (w.heap.size+1) (.loop (rec st pe))):=cm.put hl3 rfl;have hkb:bi (w.heap.size+1) W (V3.putObj (w.heap.size+1) (.loop (rec st pe))) :=
          ((bi.of hinv1'.oth).trans hkb2).trans ((bi.of hinv3.oth).trans (bi.put _ _ _))
        have hkp:aw S' W (V3.putObj (w.heap.size+1) (.loop (rec st pe))):=by
          have c1:aw S' W V1:=hinv1'.kso;have c2:aw S' V1 V2:=hsc2.keeps _;have c3:aw S1 V2 V3:=hinv3.kso;have c4:aw S' V3 _:=hsc4.keeps _;exact ((c1.trans c2).trans (c3.sub hinv1'.sso)).trans c4
        rw[hJ];refine⟨h2,u2,S3,m4,hR,?_,World.putObj_heap_same (y3.1 hl3).1,fun b i hs=>hinv3.sso b i (hinv1'.sso b i (k4 b i hs)),k5.trans (hkp.sub k4),zy k6 hkb.size⟩;have hbel4:aJ w0.heap.size w0.ext w0 (V3.putObj (w.heap.size+1) (.loop (rec st pe))):=aJ.trans (show aJ w0.heap.size w0.ext w0 V3 from hinv3.below) (aJ.of (fQ _ (by omega) hl3))
        refine hinv4.turn (w1:=w0) hsc4 (grownBy_putObj' _ _ _).size rfl hbel4 (by rw[hat,h.size]; exact hinv3.size.symm) (fun t=>?_) (k2.defers.but hkb fun ds e=>by rw[k3] at e; cases e) (bi.old k2.oth hkb (by have:=h.oth.size; omega))
          (k2.kso.trans (hkp.sub k2.sso)) (fun b i hs=>hinv3.sso b i (hinv1'.sso b i (k2.sso b i hs))) (fun t v ht=>?_)
        ·by_cases hm:t∈wr
         ·left; exact hun t (by rw[← hwr]; exact hm)
         ·right;rw[hat];exact (hinv3.fix t (a.tmps.getD t undef) (if_neg hm)).symm
        ·rw[hat]; exact h.fix t v ht
      have hend:=fun (jump:Option Code)=>run_endRound (P:=P) jump hl3
      cases e2 with
      | nrm =>
        obtain⟨h2,u2,hent2,hI2⟩:=q2;refine⟨_,_,hend none,.inl ⟨rfl,?_⟩⟩;have:=bd .ready none (I (k+1)) h2 u2 hI2 hent2;rw[hrec] at this ⊢;exact this
      | ex id =>
        obtain⟨h2,u2,hent2,hI2⟩:=q2;refine⟨_,_,hend (some (.exit id)),.inr ⟨rfl,.ex id,?_⟩⟩;have:=bd .done (some (.exit id)) (fun h u=>Q' (.ex id) ⟨f0,h,u⟩∧AX.ex id≠.nrm) h2 u2 ⟨hI2,by simp⟩ hent2;rw[hrec] at this ⊢;exact this
      | ret =>
        obtain⟨h2,u2,hent2,hI2⟩:=q2;refine⟨_,_,hend (some .ret),.inr ⟨rfl,.ret,?_⟩⟩;have:=bd .done (some .ret) (fun h u=>Q' .ret ⟨f0,h,u⟩∧AX.ret≠.nrm) h2 u2 ⟨hI2,by simp⟩ hent2;rw[hrec] at this ⊢;exact this
   ·rw[hJ];exact⟨h0,u0,S,m0,hI0,hinv1,hL1,fun _ _ h=>h,aw.refl _ _,y8 _⟩
theorem iG {h:ah} {id:Nat} {o:Ob} (ho:h id=some o):∀ l:List C,killAll h l id=none→∃ sz off n,C.own id sz off n∈l
  | [],hh=>by simp only[killAll] at hh; rw[ho] at hh; cases hh
  | c::l,hh=>by
    cases c <;> simp only[killAll] at hh
    case own id2 sz2 off2 n2 =>
      by_cases e:id=id2
      ·subst e; exact⟨sz2,off2,n2,zh ..⟩
      ·simp only[upd,e,if_false] at hh;obtain⟨x,y,z,hz⟩:=iG ho l hh;exact⟨x,y,z,y9 _ hz⟩
    all_goals (obtain⟨x,y,z,hz⟩:=iG ho l hh; exact⟨x,y,z,y9 _ hz⟩)
theorem m9 (h:Inv G N Sin w0 σ a w S m) {T:ae} (hT:∀ b i,S b i→T b i) {q:IntKind}:∀ {E:List MapEntry} {es:List (Int×C)} {ds:List (Int×D)},ab (fun (e:MapEntry) (p:Int×C)=>e.key=.int q p.1∧RW m S w e.val (.c p.2)) E es→gb σ.h es=some ds →
    (∀ p∈es,∀ id∈p.2.ids,∀ o b s i,(∃ sz off n,p.2=.own id sz off n)→σ.h id=some o→m id=some (b,s)→T b i)→ab (eL T w q) E ds
  | _,_,_,.nil,e,_=>by simp only[gb,yY] at e; subst e; exact .nil
  | _,(k,c)::_,_,.cons h1 h2,e,hid=>by
    simp only[gb] at e;split at e
    ·rename_i d l hd hl;split at e
     ·rename_i hone;cases e;refine .cons ⟨h1.1,?_⟩ (m9 h hT h2 hl fun p hp=>hid p (y9 _ hp));have h3:=h1.2;have hrc:∀ v,RW m S w v (.c c)→RC m S w v c:=by
        intro v h3;cases c with
        | d x =>
          cases x with
          | agg cs=>simp only[bg,yY] at hd; subst hd; cases hone
          | _=>exact h3
        | _=>exact h3
      exact g9 h hT (fun id hi o b s i ho hm=>hid (k,c) (zh ..) id hi o b s i (fV hd id hi) ho hm) (hrc _ h3) hd
     ·cases e
    ·cases e
theorem Inv.reob (h:Inv G N Sin w0 σ a w S m) {id:Nat} {o o':Ob} (ho:σ.h id=some o) (hk:aA m S w0.may w id o') (hids:∀ j∈o'.ids,σ.u j=true):Inv G N Sin w0 ⟨σ.f,upd σ.h id (some o'),σ.u⟩ a w S m:=by
  have sub:∀ i,upd σ.h id (some o') i≠none→σ.h i≠none:=fun i hi=>by
    by_cases e:i=id
    ·subst e; rw[ho]; simp
    ·rwa [upd_ne _ _ e] at hi
  refine⟨h.size,h.defers,h.slot,h.used,fun i x hx=>?_,fun i j b s s' h1 h2 h3 h4=>h.inj i j b s s' (sub i h1) (sub j h2) h3 h4,h.sin,h.sub,h.glob,h.below,h.oth,h.kso,h.sso,h.fix⟩;have hx:upd σ.h id (some o') i=some x:=hx;by_cases e:i=id
  ·subst e;rw[upd_same] at hx;cases hx;exact⟨hk,(h.obj i o ho).2.1,hids⟩
  ·rw[upd_ne _ _ e] at hx;exact h.obj i x hx
theorem gG {h:ah}:∀ {cs cs':List C},ce h cs=some cs'→cs'.flatMap C.ids=[]
  | [],_,e=>by simp only[ce,yY] at e; subst e; rfl
  | .nil::r,_,e=>by
    simp only[ce,yX] at e;obtain⟨l,hl,rfl⟩:=e;rw[y4,gG hl]; rfl
  | .d x::r,_,e=>by
    simp only[ce,yX] at e;obtain⟨l,hl,rfl⟩:=e;rw[y4,gG hl]; rfl
  | .own ..::r,_,e | .ptr ..::r,_,e | .pa ..::r,_,e | .rp ..::r,_,e | .cf ..::r,_,e | .mp ..::r,_,e=>by
    simp only[ce] at e;split at e
    ·rename_i d l hd hl;cases e;rw[y4,gG hl]; rfl
    ·cases e
theorem vl {h:ah} {cs cs':List C} {id:Nat} {o1:Ob} (_:ce h cs=some cs') (hk:killAll h cs id=some o1) (ho:h id=some (.box cs)):o1=.box cs:=by
  have key:∀ (l:List C),killAll h l id=some o1→h id=some o1:=by
    intro l
    induction l with
    | nil=>exact fun e=>e
    | cons c r ih =>
      intro e;cases c <;> simp only[killAll] at e
      case own i2 s2 f2 n2 =>
        by_cases g:id=i2
        ·subst g; simp[upd] at e
        ·simp only[upd,g,if_false] at e;exact ih e
      all_goals exact ih e
  have:=key cs hk;rw[ho] at this;cases this;rfl
theorem wR (h:Inv G N Sin w0 σ a w S m) {S1:ae} (h2:∀ b i,S b i→S1 b i) {cs0:List C} (h3:∀ id∈cs0.flatMap C.ids,∀ o b s i,(∃ sz off n,C.own id sz off n∈cs0)→σ.h id=some o→m id=some (b,s)→S1 b i) {cur:Array Value} {sz:Nat}
    (k:aG m S w sz cur (.box cs0)) {cs':List C} (hcs:ce σ.h cs0=some cs'):aG m S1 w sz cur (.box cs'):=by
  have key:∀ {cs cs':List C},(∀ c∈cs,c∈cs0)→ce σ.h cs=some cs'→cs'.length=cs.length∧∀ j (hj:j<cs.length) (hj':j<cs'.length) (v:Value),RC m S w v cs[j]→RC m S1 w v cs'[j]:=by
    intro cs
    induction cs with
    | nil=>intro cs' _ e; simp only[ce,yY] at e; subst e; exact⟨rfl,fun j hj=>by cases hj⟩
    | cons c r ih =>
      intro cs' hmem e;have hr:∀ x∈r,x∈cs0:=fun x hx=>hmem x (y9 _ hx)
      have step:∀ (c':C) (l:List C),cs'=c'::l→ce σ.h r=some l→(∀ v,RC m S w v c→RC m S1 w v c')→cs'.length=(c::r).length∧∀ j (hj:j<(c::r).length) (hj':j<cs'.length) (v:Value),RC m S w v (c::r)[j]→RC m S1 w v cs'[j]:=by
        rintro c' l rfl hl hc;obtain⟨q1,q2⟩:=ih hr hl;refine⟨by simp[q1],fun j hj hj' v hv=>?_⟩;cases j with
        | zero=>exact hc v hv
        | succ j=>exact q2 j (by simpa using hj) (by simpa using hj') v hv
      have own:∀ d,bg σ.h c=some d→∀ v,RC m S w v c→RC m S1 w v (.d d):=fun d hd v hv=>by
        refine g9 h h2 (fun id hid o b s i ho hm=>?_) hv hd;exact h3 id (y0.2 ⟨c,hmem c (zh ..),hid⟩) o b s i (by obtain⟨sz,off,n,e⟩:=fV hd id hid; exact⟨sz,off,n,e ▸ hmem c (zh ..)⟩) ho hm
      cases c with
      | nil =>
        simp only[ce,yX] at e;obtain⟨l,hl,rfl⟩:=e;exact step _ _ rfl hl fun v hv=>hv
      | d x =>
        simp only[ce,yX] at e;obtain⟨l,hl,rfl⟩:=e;exact step _ _ rfl hl fun v hv=>Reads.mono hv h2
      | _ =>
        simp only[ce] at e;split at e
        ·rename_i d l hd hl;cases e;exact step _ _ rfl hl (own d hd)
        ·cases e
  obtain⟨q1,q2⟩:=key (fun _ h=>h) hcs;obtain⟨k1,k2⟩:=k;refine⟨by omega,fun j hj=>?_⟩;obtain⟨v,hv,hr⟩:=k2 j (by omega);exact⟨v,hv,q2 j (by omega) hj v hr⟩
theorem xx (h:Inv G N Sin w0 σ a w S m) {t:Nat} {τ:St} (e:jZ σ t=some τ):∃ S',Inv G N Sin w0 τ a w S' m:=by
  unfold jZ at e;split at e
  ·rename_i id hft;split at e
   ·rename_i q es hob;simp only[yX] at e;obtain⟨ds,hds,rfl⟩:=e;obtain⟨S1,h1,h2,h3⟩:=h.killAll (es.map (·.2));have hown:∀ p∈es,∀ id∈p.2.ids,∀ o b s i,(∃ sz off n,p.2=.own id sz off n)→σ.h id=some o→m id=some (b,s)→S1 b i:=by
      rintro p hp id' hid o b s i ⟨sz,off,n,e⟩ ho hm;have hmem:C.own id' sz off n∈es.map (·.2):=za.2 ⟨p,hp,e⟩;exact h3 id' (y0.2 ⟨_,hmem,by simp[C.ids]⟩) o b s i ⟨sz,off,n,hmem⟩ ho hm
    obtain⟨S2,hI,hS,hb2⟩:∃ S2,Inv G N Sin w0 ⟨σ.f,upd (Go.Proofs.Yteohdchecapkfaa.killAll σ.h (es.map (·.2))) id none,σ.u⟩ a w S2 m∧(∀ b i,S1 b i→S2 b i)∧∀ b s,m id=some (b,s)→S2 b 0:=by
      cases hl:Go.Proofs.Yteohdchecapkfaa.killAll σ.h (es.map (·.2)) id with
      | none =>
        obtain⟨sz,off,n,hmem⟩:=iG hob _ hl;exact⟨S1,h1.kill id,fun _ _ h=>h,fun b s hm=>h3 id (y0.2 ⟨_,hmem,by simp[C.ids]⟩) _ b s 0 ⟨sz,off,n,hmem⟩ hob hm⟩
      | some o1=>exact⟨_,h1.freeze id o1 hl,fun _ _ h=>.inl h,fun b s hm=>.inr ⟨s,hm⟩⟩
    have hsl:=h.slot t;rw[hft] at hsl;obtain⟨b,hm,hval⟩:=hsl;have hobj:=(h.obj id _ hob).1;unfold aA at hobj;rw[hm] at hobj;obtain⟨_,_,_,cur,ty,fz,⟨E,c,hb,hE,hB⟩,_⟩:=hobj;have hread:Reads S2 w (a.tmps.getD t undef) (.mp q ds):=by
      rw[hval];exact Reads.of_map (hb2 b 1 hm) hb hB (m9 h (fun b i hs=>hS _ _ (h2 _ _ hs)) hE hds fun p hp id hid o b s i h4 h5 h6=>hS _ _ (hown p hp id hid o b s i h4 h5 h6))
    refine⟨S2,hI.size,hI.defers,fun t'=>?_,fun t' i hi=>?_,hI.obj,hI.inj,hI.sin,hI.sub,hI.glob,hI.below,hI.oth,hI.kso,hI.sso,hI.fix⟩
    ·show RV m S2 w _ (upd σ.f t (vd (.mp q ds)) t')
     by_cases e:t'=t
     ·subst e;rw[upd_same];exact hread
     ·rw[upd_ne _ _ e];exact hI.slot t'
    ·have hi:i∈(upd σ.f t (vd (.mp q ds)) t').ids:=hi;by_cases e:t'=t
     ·subst e;rw[upd_same] at hi;cases hi
     ·rw[upd_ne _ _ e] at hi;exact hI.used t' i hi
   ·cases e
  ·rename_i id sz hft;split at e
   ·rename_i cs hob;split at e
    ·rename_i ds hds;cases e;have hI:=h.freeze id _ hob;have hsl:=h.slot t;rw[hft] at hsl;have href:df σ.h id 0 0=some (.ref ds):=by
       unfold df;rw[hob];simp[hds]
     have hread:=jq h (T:=fun b i=>S b i∨∃ s,m id=some (b,s)) (fun _ _ hs=>.inl hs) (fun _ b s _ _ hm=>.inr ⟨s,hm⟩) hsl href;obtain⟨a',hv,hc⟩:=hread.cellsAt;refine⟨_,hI.size,hI.defers,fun t'=>?_,fun t' i hi=>?_,hI.obj,hI.inj,hI.sin,hI.sub,hI.glob,hI.below,hI.oth,hI.kso,hI.sso,hI.fix⟩
     ·show RV m _ w _ (upd σ.f t (.w (.c (.rp ds))) t')
      by_cases e:t'=t
      ·subst e;rw[upd_same];exact⟨a',hv,hc⟩
      ·rw[upd_ne _ _ e];exact hI.slot t'
     ·have hi:i∈(upd σ.f t (.w (.c (.rp ds))) t').ids:=hi;by_cases e:t'=t
      ·subst e;rw[upd_same] at hi;cases hi
      ·rw[upd_ne _ _ e] at hi;exact hI.used t' i hi
    ·split at e
     ·rename_i cs' o1 hcs hk;cases e;obtain⟨S1,h1,h2,h3⟩:=h.killAll cs;refine⟨S1,h1.reob hk ?_ fun j hj=>?_⟩
      ·have hob1:=(h1.obj id _ hk).1;have hob0:=(h.obj id _ hob).1;have e1:=vl hcs hk hob;subst e1;unfold aA at hob1 hob0 ⊢;cases hm:m id with
       | none =>
         rw[hm] at hob0;obtain⟨_,hh⟩:=hob0;cases hh
       | some p =>
         obtain⟨b,s⟩:=p;rw[hm] at hob1 hob0;obtain⟨g1,g2,g3,cur,ty,fz,g4,g5,g6⟩:=hob1;obtain⟨_,_,_,cur0,ty0,fz0,k4,k5,k6⟩:=hob0;have g4':w.heap[b]?=some (.cells cur ty fz):=g4;have k4':w.heap[b]?=some (.cells cur0 ty0 fz0):=k4;rw[g4'] at k4';obtain⟨rfl,rfl,rfl⟩:cur=cur0∧ty=ty0∧fz=fz0:=by simpa using k4'
         exact⟨g1,g2,g3,cur,ty,fz,g4',g5,wR h h2 h3 k6 hcs⟩
      ·have:=gG hcs;simp only[Ob.ids,this] at hj;cases hj
     ·cases e
   ·cases e
  ·cases e
theorem eX {b:Frame} {k:List Item} {cs:List Frame} {c:Code}:step P (lone (b.atR a (.code (.scope c)::k)) cs w)=.next (lone (b.atR a (.code c::.inScope c::k)) cs w) :=
  step_lone_go (by simp[stepG,stepG.exec,Frame.atR])
theorem uB {b:Frame} {k:List Item} {cs:List Frame} {c:Code}:step P (lone (b.atR a (.inScope c::k)) cs w)=.next (lone (b.atR a k) cs w) :=
  step_lone_go (by simp[stepG,stepG.exec,Frame.atR])
def yQ (Q:Exit→Act→World→Prop):Exit→Act→World→Prop
  | .goto _,_,_=>False
  | e,a,w=>Q e a w
theorem vm {F:Fence} {k:Nat} {c:Code} {Q:Exit→Act→World→Prop} (h:c.wpIn F k P (yQ Q) a w):(Code.scope c).wpIn F k P Q a w:=by
  intro b k cs hro hb hr;have h0:(lone (b.atR a (.code (.scope c)::k)) cs w).fenced P F:=fenced_calm hb hr rfl;obtain⟨e,a₁,w₁,hq,harr⟩:=h b (.inScope c::k) cs hro hb hr;cases e with
  | normal=>exact⟨.normal,a₁,w₁,hq,.head h0 eX (StepsIn.trans harr (.one (fenced_calm hb hr rfl) uB))⟩
  | exit id =>
    have hx:exitTo id (.inScope c::k)=exitTo id k:=by simp[exitTo]
    exact⟨.exit id,a₁,w₁,hq,fun k' hk=>.head h0 eX (harr.1 k' (by rw[hx]; exact hk)),
      fun hr' hk=>let ⟨k₁,h1,h2⟩:=harr.2 hr' (by rw[hx]; exact hk); ⟨k₁,h1,.head h0 eX h2⟩⟩
  | goto l=>exact hq.elim
  | ret=>exact⟨_,a₁,w₁,hq,.of_steps (.one h0 eX) harr⟩
  | panic ch=>exact⟨_,a₁,w₁,hq,.of_steps (.one h0 eX) harr⟩
  | outgrown=>exact⟨_,a₁,w₁,hq,.of_steps (.one h0 eX) harr⟩
theorem c8:∀ (c:Code) {inr:Bool} {sc:aK},bA P H N inr c=some sc→∀ {r:Option Nat} {n:Nat} {w0:Gh} {Q':AX→St→Prop} {Q:Exit→Act→World→Prop} {σ:St} {a:Act} {w:World} {S:ae} {m:Mp},(inr=false→r=none)→(∀ t∈sc.writes,w0.fx t=none)→ik G N Sin w0 Q' Q→Inv G N Sin w0 σ a w S m→aI P G sc Q' σ→c.wpIn (Fr r) n P Q a w
  | .skip,inr,sc,hc,r,n,w0,Q',Q,σ,a,w,S,m,hr,hf,hp,h,e=>by
    simp only[bA,yY] at hc;subst hc;exact wpIn_skip (hp _ _ _ _ _ _ e h)
  | .region id ops draws,inr,sc,hc,r,n,w0,Q',Q,σ,a,w,S,m,hr,hf,hp,h,e=>by
    simp only[bA,yX] at hc;obtain⟨c',hc,rfl⟩:=hc;have hf':∀ t∈c'.writes,w0.fx t=none:=fun t ht=>hf t (by unfold jx; split <;> exact ht)
    have base:∀ {σ:St} {S:ae},Inv G N Sin w0 σ a w S m→aI P G c' Q' σ→(Code.region id ops draws).wpIn (Fr r) n P Q a w:=by
      intro σ S h e;split at hc
      ·rename_i cs hcs;cases hc;refine uI hcs (fun so hs t ht=>hf' t (zY.2 ⟨so,hs,ht⟩)) h e ?_;rintro a1 w1 ⟨σ1,S1,m1,k1,k2⟩;exact hp _ _ _ _ _ _ k1 k2
      ·split at hc
       ·rename_i hcs;cases hc;refine vk hcs hf' h e ?_;rintro a1 w1 ⟨σ1,S1,m1,k1,k2⟩;exact hp _ _ _ _ _ _ k1 k2
       ·split at hc <;> cases hc;exact False.elim e
    unfold jx at e;split at e
    ·rename_i p hgp;simp only[aI] at e;split at e
     ·rename_i τ hτ;obtain⟨S',hI⟩:=xx h hτ;exact base hI e
     ·exact e.elim
    ·exact base h e
  | .seq x y,inr,sc,hc,r,n,w0,Q',Q,σ,a,w,S,m,hr,hf,hp,h,e=>by
    simp only[bA] at hc;split at hc
    ·rename_i x' y' hx hy;cases hc;refine wpIn_seq (c8 x hx hr (fun t ht=>hf t (zb _ ht)) ?_ h e);intro ax σ1 a1 w1 S1 m1 k1 k2;cases ax with
     | nrm=>exact c8 y hy hr (fun t ht=>hf t (y1 _ ht)) hp k2 k1
     | ex id=>exact hp _ _ _ _ _ _ k1 k2
     | ret=>exact hp _ _ _ _ _ _ k1 k2
    ·cases hc
  | .cond x y z,inr,sc,hc,r,n,w0,Q',Q,σ,a,w,S,m,hr,hf,hp,h,e=>by
    simp only[bA] at hc;split at hc
    ·rename_i x' y' z' hx hy hz;cases hc;simp only[aI] at e;cases ht:aT (ev G σ.f x') with
     | none=>rw[ht] at e; exact e.elim
     | some t =>
       rw[ht] at e;have hv:=f7 (h.operand hx).1 ht;exact wpIn_cond_split hv (fun g=>c8 y hy hr (fun t ht=>hf t (zb _ ht)) hp h (e.1 g)) fun g=>c8 z hz hr (fun t ht=>hf t (y1 _ ht)) hp h (e.2 g)
    ·cases hc
  | .block id c,inr,sc,hc,r,n,w0,Q',Q,σ,a,w,S,m,hr,hf,hp,h,e=>by
    simp only[bA,yX] at hc;obtain⟨c',hcc,rfl⟩:=hc;refine wpIn_block (c8 c hcc hr hf ?_ h e);intro ax σ1 a1 w1 S1 m1 k1 k2;cases ax with
    | nrm=>exact hp _ _ _ _ _ _ k1 k2
    | ex i =>
      show Exit.inBlock id Q (.exit i) a1 w1
      unfold Exit.inBlock;simp only at k1 ⊢;by_cases hi:i=id
      ·rw[if_pos hi] at k1 ⊢;exact hp _ _ _ _ _ _ k1 k2
      ·rw[if_neg hi] at k1 ⊢;exact hp _ _ _ _ _ _ k1 k2
    | ret=>exact hp _ _ _ _ _ _ k1 k2
  | .loop c,inr,sc,hc,r,n,w0,Q',Q,σ,a,w,S,m,hr,hf,hp,h,e=>by
    simp only[bA,yX] at hc;obtain⟨c',hcc,rfl⟩:=hc;obtain⟨I,⟨n0,τ,he,hI⟩,hround⟩:=e;obtain⟨m',hinv⟩:=h.ent he;refine uO (fun n a w=>∃ τ S m,I n τ∧Inv G N Sin w0 τ a w S m) ⟨τ,S,m',hI,hinv⟩ ?_;rintro n a1 w1 ⟨τ,S1,m1,k1,k2⟩;refine c8 c hcc hr hf ?_ k2 (hround n τ k1);intro ax σ2 a2 w2 S2 m2 q1 q2;cases ax with
    | nrm =>
      obtain⟨n',τ',g1,g2,g3⟩:=q1;obtain⟨m3,hinv3⟩:=q2.ent g2;exact⟨n',g1,τ',S2,m3,g3,hinv3⟩
    | ex i=>exact hp _ _ _ _ _ _ q1 q2
    | ret=>exact hp _ _ _ _ _ _ q1 q2
  | .exit id,inr,sc,hc,r,n,w0,Q',Q,σ,a,w,S,m,hr,hf,hp,h,e=>by
    simp only[bA,yY] at hc;subst hc;exact wpIn_exit (hp _ _ _ _ _ _ e h)
  | .ret,inr,sc,hc,r,n,w0,Q',Q,σ,a,w,S,m,hr,hf,hp,h,e=>by
    simp only[bA,yY] at hc;subst hc;exact wpIn_ret (hp _ _ _ _ _ _ e h)
  | .rangeFunc g ps x y,inr,sc,hc,r,n,w0,Q',Q,σ,a,w,S,m,hr,hf,hp,h,e=>by
    simp only[bA] at hc;split at hc
    ·rename_i hi;obtain rfl:=hr hi.1;split at hc
     ·rename_i g' x' y' hg hx hy;cases hc;refine uP hg (fun t ht=>?_) (fun hf=>c8 x hx (fun h=>by cases h) hf) (fun hf=>c8 y hy (fun h=>by cases h) hf) hp h e;have:=hi.2;rw[← Array.all_toList,zf] at this
      simpa using this t ht
     ·cases hc
    ·cases hc
  | .scope c,inr,sc,hc,r,n,w0,Q',Q,σ,a,w,S,m,hr,hf,hp,h,e=>by
    simp only[bA] at hc;refine vm (c8 c hc hr hf ?_ h e);intro ax σ1 a1 w1 S1 m1 k1 k2;cases ax with
    | nrm=>exact hp _ _ _ _ _ _ k1 k2
    | ex i=>exact hp _ _ _ _ _ _ k1 k2
    | ret=>exact hp _ _ _ _ _ _ k1 k2
  | .label _,inr,sc,hc,r,n,w0,Q',Q,σ,a,w,S,m,hr,hf,hp,h,e=>by
    simp only[bA,yY] at hc;subst hc;exact wpIn_label (hp _ _ _ _ _ _ e h)
  | .goto _,inr,sc,hc,r,n,w0,Q',Q,σ,a,w,S,m,hr,hf,hp,h,e=>by simp[bA] at hc
  | .refuse _,inr,sc,hc,r,n,w0,Q',Q,σ,a,w,S,m,hr,hf,hp,h,e=>by simp[bA] at hc
def im (tmps:Array Value):ResultVar→Sem Value
  | .tmp t=>pure (tmps.getD t undef)
  | .cell a t=>do loadVar t (← asAddr (tmps.getD a undef))
theorem xy (h:Inv G N Sin w0 σ a w S m) {r:ResultVar} {l:Nat×Option Kd} (hc:fW P r=some l) {x:W} (hx:ba σ l=some x):∃ u,(im a.tmps r).run P w=.ok u w∧RW m S w u x∧∀ i∈x.ids,σ.u i=true:=by
  cases r with
  | tmp t =>
    simp only[fW,yY] at hc;subst hc;obtain⟨h1,h2⟩:=g7 (h.slot t) hx;refine⟨_,rfl,h1,fun i hi=>h.used t i ?_⟩;rw[h2]; exact hi
  | cell t ty =>
    simp only[fW,yX] at hc;obtain⟨kd,hk,rfl⟩:=hc;obtain⟨ad,us,h1,h2,h3,h4,h5⟩:=tm h (h.slot t) hx;refine⟨valOf kd us,?_,h4,h5⟩;simp only[im,h1,asAddr];simp[kL hk ad us h2 h3]
theorem jy (h:Inv G N Sin w0 σ a w S m):∀ {rs:List ResultVar} {l:List (Nat×Option Kd)} {ws:List W},ar (fW P) rs=some l→ar (ba σ) l=some ws→∃ us:List Value,(rs.mapM (im a.tmps)).run P w=.ok us w∧ab (RW m S w) us ws∧∀ i∈ws.flatMap W.ids,σ.u i=true
  | [],l,ws,h1,h2=>by
    simp only[ar,yY] at h1;subst h1;simp only[ar,yY] at h2;subst h2;exact⟨[],rfl,.nil,fun i hi=>by cases hi⟩
  | r::rs,l,ws,h1,h2=>by
    simp only[ar] at h1;split at h1
    ·rename_i y l' hy hl;cases h1;simp only[ar] at h2;split at h2
     ·rename_i x ws' hx hws;cases h2;obtain⟨u,k1,k2,k3⟩:=xy h hy hx;obtain⟨us,q1,q2,q3⟩:=jy h hl hws;refine⟨u::us,?_,.cons k2 q2,fun i hi=>?_⟩
      ·simp[List.mapM_cons,k1,q1]
      ·rw[y4] at hi;rcases ze.1 hi with hi | hi
       ·exact k3 i hi
       ·exact q3 i hi
     ·cases h2
    ·cases h1
theorem kP (fn:Func) (tmps:Array Value):results fn tmps=(do let vs ← fn.results.mapM (im tmps); pure (if h:vs.size=1 then vs[0] else .tuple vs)):=by
  unfold results
  congr 1
def bR (σ:St) (m:Mp) (ids:List Nat) (bl:List Nat):Prop:=bl.Nodup∧∀ b∈bl,∃ id∈ids,∃ s,m id=some (b,s)∧σ.h id≠none
theorem bR.append (h:Inv G N Sin w0 σ a w S m) {l1 l2 b1 b2:List Nat} (hn:(l1++l2).Nodup) (h1:bR σ m l1 b1) (h2:bR σ m l2 b2):bR σ m (l1++l2) (b1++b2):=by
  refine⟨zM.2 ⟨h1.1,h2.1,fun b hb c hc e=>?_⟩,fun b hb=>?_⟩
  ·subst e;obtain⟨i,hi,s,e1,e2⟩:=h1.2 b hb;obtain⟨j,hj,s',e3,e4⟩:=h2.2 b hc;have:=h.inj i j b s s' e2 e4 e1 e3;subst this;exact (zM.1 hn).2.2 i hi i hj rfl
  ·rcases ze.1 hb with hb | hb
   ·obtain⟨i,hi,r⟩:=h1.2 b hb;exact⟨i,zb _ hi,r⟩
   ·obtain⟨i,hi,r⟩:=h2.2 b hb;exact⟨i,y1 _ hi,r⟩
theorem bR.none (σ:St) (m:Mp) (ids:List Nat):bR σ m ids []:=⟨.nil,fun b hb=>by cases hb⟩
theorem jL (h:Inv G N Sin w0 σ a w S m) (hx:∀ b,¬ w0.ext b) {u:Value} {c r:C} (hv:RC m S w u c) (he:gq σ.h c r):∃ bl,cp S w w0.heap.size u r bl∧bR σ m c.ids bl:=by
  unfold gq at he;split at he
  ·rename_i id sz off n sz' es;obtain⟨rfl,rfl,he⟩:=he;split at he
   ·rename_i o ho;obtain⟨he1,he2⟩:=he;cases o with
    | box cs=>exact he2.elim
    | mp q es=>exact he2.elim
    | it q l p=>exact he2.elim
    | row s0 es0 =>
      simp only[bI] at he1;split at he1
      ·rename_i hle;cases he1;have hv':aC m w u id _ 0 n:=hv;have hob:=(h.obj id _ ho).1;unfold aC at hv';unfold aA at hob;split at hv'
       ·obtain⟨⟨ad,rfl⟩,_,rfl⟩:=hv';exact⟨[],.inl ⟨⟨ad,rfl⟩,by simp,rfl⟩,bR.none _ _ _⟩
       ·rename_i b sz2 hm;obtain⟨rfl,ad,cap,ty,M,rfl,g2,g3,g4,g5,g6⟩:=hv';rw[hm] at hob;obtain⟨k1,k2,k3,cur,ty',fz,k4,k5,k6⟩:=hob;have had:=g4 (.inr rfl);rw[Nat.zero_mul] at had;subst had;have hlen:((es0.drop 0).take n).length=n:=by rw[zg,List.drop_zero]; omega
        refine⟨[b],.inr ⟨b,cap,ty,M,rfl,by rw[hlen],by rw[hlen]; exact g2,g3,g5,by simpa using g6,k2.resolve_right (hx _),k3,cur,ty',fz,k4,k5,?_,fun i hi=>?_⟩,⟨by simp,fun b' hb'=>⟨id,by simp[C.ids],sz2,?_,by rw[ho]; simp⟩⟩⟩
        ·rw[hlen];exact zy (zd _ (by omega)) k6.1
        ·have hi':i<es0.length:=by rw[hlen] at hi; omega
         have he:((es0.drop 0).take n)[i]=es0[i]:=by simp
         rw[he];exact k6.2 i hi'
        ·simp only[zj] at hb';rw[hb']; exact hm
      ·cases he1
   ·exact he.elim
  ·subst he;exact⟨[],.inl ⟨hv,rfl,rfl⟩,bR.none _ _ _⟩
  ·subst he;refine⟨[],⟨?_,rfl⟩,bR.none _ _ _⟩;obtain⟨ad,rfl⟩:∃ ad,u=.slice ad 0 0:=hv
   exact Reads.zero ad
  ·subst he;exact⟨[],⟨hv,rfl⟩,bR.none _ _ _⟩
  ·exact he.elim
theorem pt (h:Inv G N Sin w0 σ a w S m) (hx:∀ b,¬ w0.ext b):∀ {us:List Value} {cs rs:List C},ab (RC m S w) us cs→ab (gq σ.h) cs rs→(cs.flatMap C.ids).Nodup→∃ bl,cD S w w0.heap.size us rs bl∧bR σ m (cs.flatMap C.ids) bl
  | _,_,_,.nil,.nil,_=>⟨[],.nil,bR.none _ _ _⟩
  | _,_,_,.cons h1 h2,.cons k1 k2,hn=>by
    rw[y4] at hn ⊢;obtain⟨b1,e1,e2⟩:=jL h hx h1 k1;obtain⟨b2,e3,e4⟩:=pt h hx h2 k2 (zM.1 hn).2.1;exact⟨b1++b2,.cons e1 e3,bR.append h hn e2 e4⟩
theorem rz (h:Inv G N Sin w0 σ a w S m) (hx:∀ b,¬ w0.ext b) {u:Value} {x r:W} (hv:RW m S w u x) (he:gr σ.h x r) (hn:x.ids.Nodup):∃ bl,ca S w w0.heap.size u r bl∧bR σ m x.ids bl:=by
  unfold gr at he;split at he
  ·rename_i c d;cases c with
   | d y =>
     cases d with
     | d z =>
       have:y=z:=he;subst this;cases y with
       | agg cs=>exact⟨[],⟨hv,rfl⟩,bR.none _ _ _⟩
       | _=>exact⟨[],⟨hv,rfl⟩,bR.none _ _ _⟩
     | _=>exact he.elim
   | nil =>
     obtain⟨bl,h1,h2⟩:=jL (c:=.nil) h hx hv he;refine⟨bl,?_,h2⟩;cases d with
     | d z =>
       have:z=.sl []:=he;subst this;exact h1
     | _=>exact h1
   | own id sz off n =>
     obtain⟨bl,h1,h2⟩:=jL (c:=.own id sz off n) h hx hv he;refine⟨bl,?_,h2⟩;cases d with
     | fr s es=>exact h1
     | _=>exact he.elim
   | _=>exact he.elim
  ·rename_i cs ds;obtain⟨us,rfl,h2⟩:=hv;obtain⟨bl,k1,k2⟩:=pt h hx h2 he hn;exact⟨bl,⟨us,rfl,k1⟩,k2⟩
  ·rename_i cs ds;obtain⟨us,h1,h2⟩:=ja (x:=.mix cs) hv (d:=.agg ds) (by simp[cz,he]);obtain⟨us',rfl,_⟩:=hv;have:us'=us:=by simpa [Value.cells] using h1
   subst this;exact⟨[],⟨⟨us',rfl,h2⟩,rfl⟩,bR.none _ _ _⟩
  ·exact he.elim
theorem pu (h:Inv G N Sin w0 σ a w S m) (hx:∀ b,¬ w0.ext b):∀ {us:List Value} {ws rs:List W},ab (RW m S w) us ws→ab (gr σ.h) ws rs→(ws.flatMap W.ids).Nodup→∃ bl,cE S w w0.heap.size us rs bl∧bR σ m (ws.flatMap W.ids) bl
  | _,_,_,.nil,.nil,_=>⟨[],.nil,bR.none _ _ _⟩
  | _,_,_,.cons h1 h2,.cons k1 k2,hn=>by
    rw[y4] at hn ⊢;obtain⟨b1,e1,e2⟩:=rz h hx h1 k1 (zM.1 hn).1;obtain⟨b2,e3,e4⟩:=pu h hx h2 k2 (zM.1 hn).2.1;exact⟨b1++b2,.cons e1 e3,bR.append h hn e2 e4⟩
def eI (us:List Value):Value:=if h:us.toArray.size=1 then us.toArray[0] else .tuple us.toArray
theorem pv (h:Inv G N Sin w0 σ a w S m) {u:Value} {x:W} {d:D} (hv:RW m S w u x) (e:toW σ.h x=some d):ca (dN σ.h m S) w w0.heap.size u (.c (.d d)) []:=by
  have:=ga h (T:=dN σ.h m S) (fun _ _ h=>.inl h) (fun id _ o b s i h1 h2=>.inr ⟨id,o,s,h1,h2⟩) hv e;cases d with
  | agg cs=>exact⟨this,rfl⟩
  | _=>exact⟨this,rfl⟩
theorem pw (h:Inv G N Sin w0 σ a w S m):∀ {us:List Value} {ws rs:List W},ab (RW m S w) us ws→ab (fun x z=>∃ d,z=.c (.d d)∧toW σ.h x=some d) ws rs→cE (dN σ.h m S) w w0.heap.size us rs []
  | _,_,_,.nil,.nil=>.nil
  | _,_,_,.cons h1 h2,.cons k1 k2=>by
    obtain⟨d,rfl,e⟩:=k1;exact .cons (b1:=[]) (b2:=[]) (pv h h1 e) (pw h h2 k2)
theorem rA (h:Inv G N Sin w0 σ a w S m) (hx:∀ b,¬ w0.ext b) {us:List Value} {ws:List W} {res:V} (hv:ab (RW m S w) us ws) (he:((ws.flatMap W.ids).Nodup∧kh σ.h ws res)∨j0 σ.h ws res) :
    ∃ S' bl,(∀ b i,S' b i→(Sin b i∨w0.heap.size≤b)∧b<w.heap.size)∧bl.Nodup∧cP S' w w0.heap.size (eI us) res bl:=by
  have sin:∀ b i,S b i→(Sin b i∨w0.heap.size≤b)∧b<w.heap.size:=fun b i hs=>⟨(h.sin b i hs).2.imp id fun k=>k.resolve_right (hx b),(h.sin b i hs).1⟩
  have shat:∀ b i,dN σ.h m S b i→(Sin b i∨w0.heap.size≤b)∧b<w.heap.size:=by
    rintro b i (hs | ⟨id,ob,s,ho,hm⟩)
    ·exact sin b i hs
    ·have hk:=(h.obj id ob ho).1;refine⟨.inr ?_,hk.lt hm⟩;unfold aA at hk;rw[hm] at hk;exact hk.2.1.resolve_right (hx _)
  rcases he with ⟨hn,he⟩ | he
  ·unfold kh at he;split at he
   ·rename_i x y;cases hv with
    | cons h1 h2 =>
      cases h2;have hids:x.ids.Nodup:=by simpa using hn
      obtain⟨bl,k1,k2⟩:=rz h hx h1 he hids;exact⟨S,bl,sin,k2.1,k1⟩
   ·rename_i x y r ws';have hl:=hv.length;obtain⟨bl,k1,k2⟩:=pu h hx hv he hn;refine⟨S,bl,sin,k2.1,us,?_,k1⟩;unfold eI;rw[dif_neg (by simp at hl ⊢; omega)]
   ·subst he;cases hv;exact⟨S,[],sin,.nil,[],rfl,.nil⟩
   ·exact he.elim
  ·unfold j0 at he;split at he
   ·rename_i x d;cases hv with
    | cons h1 h2 =>
      cases h2;exact⟨_,[],shat,.nil,pv h h1 he⟩
   ·rename_i x y r ws';have hl:=hv.length;refine⟨_,[],shat,.nil,us,?_,pw h hv he⟩;unfold eI;rw[dif_neg (by simp at hl ⊢; omega)]
   ·exact he.elim
theorem wS (h:Inv G N Sin w0 σ a w S m) (hwo:w0.wo.heap.size≤w0.heap.size) {D:Nat} (hB:w0.heap.size≤D) (hD:w.heap[D]?=some (.deferred (some []))):Inv G N Sin w0 σ { a with defers:=[] } (w.putObj D (.deferred none)) S m :=
  h.turn (w1:=w0) (cm.put hD rfl) (grownBy_putObj' _ _ _).size rfl (h.below.trans (aJ.of (fQ _ hB hD))) rfl (fun t=>.inr rfl) trivial (bi.old h.oth (bi.put _ _ _) (zy hwo hB)) (h.kso.trans ((cm.put hD rfl).keeps _)) h.sso h.fix
theorem iM {F:Fence} {n:Nat} {fn:Func} {R:Ending→World→Prop}:∀ {ds:List Deferred} {a:Act} {w:World},Inv G N Sin w0 σ a w S m→w0.wo.heap.size≤w0.heap.size→cF w0.heap.size w ds→(∀ (w':World) (a':Act),a'.tmps=a.tmps→Inv G N Sin w0 σ a' w' S m→∃ v,(results fn a.tmps).run P w'=.ok v w'∧R (.returned v) w')→LeavesInM F n P fn a.tmps R ds .returning w
  | [],a,w,h,_,_,k=>k w a rfl h
  | d::ds,a,w,h,hwo,⟨⟨D,h1,h2,h3,h4⟩,h5⟩,k=>by
    refine⟨by simp,.inl ⟨D,_,by rw[h1],run_takeDeferred h3,?_⟩⟩;have hd:cF w0.heap.size (w.putObj D (.deferred none)) ds:=by
      have key:∀ {ds:List Deferred},cF w0.heap.size w ds→(∀ d'∈ds,d'.target≠.collected D)→cF w0.heap.size (w.putObj D (.deferred none)) ds:=by
        intro ds
        induction ds with
        | nil=>intro _ _; trivial
        | cons d ds ih =>
          rintro⟨⟨D',g1,g2,g3,g4⟩,g5⟩ hne;refine⟨⟨D',g1,g2,?_,g4⟩,ih g5 fun d' hd'=>hne d' (by simp[hd'])⟩;refine (World.putObj_heap_other fun e=>?_).trans g3;exact hne d (by simp) (by rw[g1,e])
      exact key h5 h4
    have:=wS h hwo h2 h3;exact iM (a:={ a with defers:=[] }) this hwo hd fun w' a' e2 hi=>k w' a' e2 hi
theorem yb {f:FuncId} {fn:Func} {sf:bF} (hf:P.funcs[f]?=some fn) (hc:bq P H fn=some sf) {args:List D} {res:V} (hlen:args.length=sf.np)
    (e:aI P G sf.body (fun ax σ=>match ax with | .nrm=>bY σ sf.res res | .ret=>bY σ sf.res res | .ex _=>False) (entry args)):a7 P G f args res:=by
  unfold bq at hc;split at hc
  ·rename_i c hb;split at hc
   ·rename_i body rs hbody hres;split at hc
    ·rename_i hnp;cases hc;intro w S vs hS hG hargs;refine (callsIn_wide (n:=3)).1 (callsIn_of_wp_marks (F:=Fence.wide) hf hb trivial ?_);have hvl:vs.length=args.length:=hargs.length;have hnp':vs.length≤fn.ntmps:=by simp only at hlen; omega
     have hsize:(vs.toArray++Array.replicate (fn.ntmps-vs.toArray.size) undef).size=fn.ntmps:=by simp; omega
     have hinv:Inv G fn.ntmps S (Gh.of w) (entry args) { tmps:=vs.toArray++Array.replicate (fn.ntmps-vs.toArray.size) undef,defers:=[] } w S (fun _=>none):=by
       refine⟨hsize,trivial,fun t=>?_,fun t i hi=>?_,fun id o ho=>(by cases ho),fun i j b s s' h1=>absurd rfl h1,fun b i hs=>⟨hS b i hs,.inl hs⟩,fun _ _ h=>h,hG,aJ.refl _ _ _,aY.refl _,aw.refl _ _,fun _ _ h=>h.elim,fun t v h=>by cases h⟩
       ·simp only[entry];cases ht:args[t]? with
        | none=>trivial
        | some x =>
          obtain⟨v,h1,h2⟩:=hargs.get? ht;have hlt:=(y6.1 h1).1;have:(vs.toArray++Array.replicate (fn.ntmps-vs.toArray.size) undef).getD t undef=v:=by
            rw[zo,Array.getElem?_append_left (by simpa using hlt)];simp[h1]
          rw[this];exact h2
       ·simp only[entry] at hi;split at hi <;> cases hi
     refine c8 c hbody (r:=none) (fun _=>rfl) (fun t _=>rfl) ?_ hinv e;intro ax σ a w1 S1 m q h;have key:bY σ rs res→LeavesInM Fence.wide 3 P fn a.tmps (fun e w'=>∃ v S' bl,e=.returned v∧Below w.heap.size w w'∧(∀ b i,S' b i→(S b i∨w.heap.size≤b)∧b<w'.heap.size)∧bl.Nodup∧cP S' w' w.heap.size v res bl) a.defers .returning w1:=by
       rintro⟨ws,hws,hex⟩;refine iM h (y8 _) h.defers fun w2 a' e2 h=>?_
       rw[← e2];obtain⟨us,h1,h2,h3⟩:=jy h hres hws;obtain⟨S',bl,k1,k2,k3⟩:=rA h (fun _ hx=>hx) h2 hex;have hbel:Below w.heap.size w w2:=h.below.below fun _ _ hx=>hx
       refine⟨eI us,?_,_,S',bl,rfl,hbel,k1,k2,k3⟩;rw[kP];simp[Array.mapM_eq_mapM_toList,h1,eI]
     cases ax with
     | nrm=>exact key q
     | ret=>exact key q
     | ex _=>exact q.elim
    ·cases hc
   ·cases hc
  ·cases hc
end
theorem jR {a b : Prop} (l : a) (r : b) : a ∧ b := And.intro l r
def av {α:Type} (o:Option α) (k:α→Prop):Prop:=match o with | some x=>k x | none=>False
theorem lP {α:Type} (x:α) (k:α→Prop):av (some x) k=k x:=rfl
theorem b7 {α β:Type} (o:Option α) (g:α→β) (k:β→Prop):av (o.map g) k=av o fun v=>k (g v):=by cases o <;> rfl
def io:V→Option ByteArray | .w (.c (.d (.str s)))=>some s | _=>none
def tT:V→Option (List W) | .tup ws=>some ws | _=>none
section
variable (P:Program) (G:au)
def ip (b:aK) (Q:AX→St→Prop) (e:AX) (s:St):Prop:=match e with | .nrm=>aI P G b Q s | e=>Q e s
def eM (id:Nat) (Q:AX→St→Prop) (e:AX) (s:St):Prop:=match e with | .ex i=>if i=id then Q .nrm s else Q (.ex i) s | e=>Q e s
def gg (l:List (Nat×Option Kd)) (res:V) (e:AX) (s:St):Prop:=match e with | .nrm=>bY s l res | .ret=>bY s l res | .ex _=>False
def gi (a b:aK) (Q:AX→St→Prop) (s:St) (t:Bool):Prop:=(t=true→aI P G a Q s)∧(t=false→aI P G b Q s)
def dQ (d:Option Nat) (o:ao) (w:Bool) (r:List aj) (K:St→Prop) (f:Nat→V) (h:ah) (u:Nat→Bool) (t:Bool):Prop :=
  ((t==w)=true→al P G (⟨d,o,none⟩::r) K ⟨f,h,u⟩)∧((t==w)=false→al P G r K ⟨aB f d (.tup []),h,u⟩)
def gj (d:Option Nat) (o:ao) (w:Bool) (r:List aj) (K:St→Prop) (f:Nat→V) (h:ah) (u:Nat→Bool) (v:V):Prop :=
  match aT v with | some t=>dQ P G d o w r K f h u t | none=>v=.tup []∧al P G r K ⟨aB f d (.tup []),h,u⟩
section
variable (d:Option Nat) (r:List aj) (K:St→Prop) (f:Nat→V) (h:ah) (u:Nat→Bool)
def yW (v:V):Prop:=al P G r K ⟨aB f d v,h,u⟩
def cR (v:W):Prop:=al P G r K ⟨aB f d (.w v),h,u⟩
def goC (v:C):Prop:=al P G r K ⟨aB f d (.w (.c v)),h,u⟩
def iA (v:D):Prop:=al P G r K ⟨aB f d (.w (.c (.d v))),h,u⟩
def aX (q:R):Prop:=al P G r K ⟨aB f d q.1,q.2.1,q.2.2⟩
def kk (h':ah):Prop:=al P G r K ⟨aB f d .undef,h',u⟩
def uh (k:IntKind) (v:IntKind×Int):Prop:=al P G r K ⟨aB f d (.w (.c (.d (.int k (k.wrap v.2))))),h,u⟩
def ui (n:Nat):Prop:=al P G r K ⟨aB f d (.w (.c (.d (.int .i64 (n:Int))))),h,u⟩
def uj (s:ByteArray):Prop:=al P G r K ⟨aB f d (.w (.c (.d (.int .i64 (s.size:Int))))),h,u⟩
def kl (y z:V) (t:Bool):Prop:=al P G r K ⟨aB f d (bif t then y else z),h,u⟩
def iq (b p q:Bool):Prop:=al P G r K ⟨aB f d (.w (.c (.d (.bool (bif b then !(p==q) else (p==q)))))),h,u⟩
def uk (b:Bool) (y:V) (p:Bool):Prop:=av (aT y) (iq P G d r K f h u b p)
def um (k:Kd) (x:V) (w:W):Prop:=av (am h k x w) (kk P G d r K f u)
def uo (o:Nat) (k:Kd) (cs:List C):Prop:=av (cC cs o k) (cR P G d r K f h u)
def j4 (s:Nat) (k:Kd) (cs:List C) (j:Nat):Prop:=av (cC cs (j*s) k) (cR P G d r K f h u)
def uq (s n:Nat) (k:Kd) (y:SX) (cs:List C):Prop:=av (cr (ev G f) y n) (j4 P G d r K f h u s k cs)
def ut (cs:List C):Prop:=al P G r K ⟨aB f d (.w (b9 cs)),h,u⟩
def uu (i:Nat) (ws:List W):Prop:=av ws[i]? (cR P G d r K f h u)
end
end
section
variable {P:Program} {G:au} {Q:AX→St→Prop} {K:St→Prop} {r:List aj} {f:Nat→V} {h:ah} {u:Nat→Bool} {d:Option Nat} {x y z:SX}
theorem lQ (a b:aK) (σ:St):gi P G a b Q σ true=aI P G a Q σ:=by simp[gi]
theorem lj (a b:aK) (σ:St):gi P G a b Q σ false=aI P G b Q σ:=by simp[gi]
theorem px (o:ao) (w:Bool):dQ P G d o w r K f h u w=al P G (⟨d,o,none⟩::r) K ⟨f,h,u⟩:=by simp[dQ]
theorem na (o:ao):dQ P G d o true r K f h u false=al P G r K ⟨aB f d (.tup []),h,u⟩:=by simp[dQ]
theorem nb (o:ao):dQ P G d o false r K f h u true=al P G r K ⟨aB f d (.tup []),h,u⟩:=by simp[dQ]
theorem rB (o:ao) (w t:Bool):gj P G d o w r K f h u (.w (.c (.d (.bool t))))=dQ P G d o w r K f h u t:=rfl
theorem lR (o:ao) (w:Bool):gj P G d o w r K f h u (.tup [])=al P G r K ⟨aB f d (.tup []),h,u⟩:=by simp[gj,aT]
theorem nc (σ:St):aI P G .skip Q σ=Q .nrm σ:=rfl
theorem py (l:List aj) (σ:St):aI P G (.reg l) Q σ=al P G l (Q .nrm) σ:=rfl
theorem pz (a b:aK) (σ:St):aI P G (.seq a b) Q σ=aI P G a (ip P G b Q) σ:=by
  show aI P G a _ σ=_
  congr 1
theorem nf (a b:aK):aI P G (.cond x a b) Q ⟨f,h,u⟩=av (aT (ev G f x)) (gi P G a b Q ⟨f,h,u⟩):=by
  show (match aT (ev G f x) with | some t=>_ | none=>False)=_
  cases aT (ev G f x) <;> rfl
theorem lS (id:Nat) (c:aK) (σ:St):aI P G (.block id c) Q σ=aI P G c (eM id Q) σ:=by
  show aI P G c _ σ=_
  congr 1
theorem ng (id:Nat) (σ:St):aI P G (.exit id) Q σ=Q (.ex id) σ:=rfl
theorem pA (σ:St):aI P G .ret Q σ=Q .ret σ:=rfl
theorem nh (b:aK) (σ:St):ip P G b Q .nrm σ=aI P G b Q σ:=rfl
theorem pB (b:aK) (i:Nat) (σ:St):ip P G b Q (.ex i) σ=Q (.ex i) σ:=rfl
theorem ni (b:aK) (σ:St):ip P G b Q .ret σ=Q .ret σ:=rfl
theorem nj (id:Nat) (σ:St):eM id Q .nrm σ=Q .nrm σ:=rfl
theorem nk (id:Nat) (σ:St):eM id Q .ret σ=Q .ret σ:=rfl
theorem pC (id:Nat) (σ:St):eM id Q (.ex id) σ=Q .nrm σ:=by simp[eM]
theorem pD (id i:Nat) (σ:St) (hn:(i==id)=false):eM id Q (.ex i) σ=Q (.ex i) σ:=by
  have:i≠id:=by simpa using hn
  simp[eM,this]
theorem nl (l:List (Nat×Option Kd)) (res:V) (σ:St):gg l res .nrm σ=bY σ l res:=rfl
theorem nm (l:List (Nat×Option Kd)) (res:V) (σ:St):gg l res .ret σ=bY σ l res:=rfl
theorem nn (σ:St):al P G [] K σ=K σ:=rfl
theorem nq (s:ao) (t:Nat) (b:Bool):al P G (⟨d,s,some (t,b)⟩::r) K ⟨f,h,u⟩=gj P G d s b r K f h u (f t):=by
  show (match aT (f t) with | some c=>_ | none=>_)=_
  unfold gj;cases aT (f t) with
  | none=>rfl
  | some c =>
    simp only[dQ];cases c <;> cases b <;> simp <;> rfl
def ao.isCall:ao→Bool | .call ..=>true | .callM ..=>true | _=>false
theorem aF (s:ao) (hs:s.isCall=false):al P G (⟨d,s,none⟩::r) K ⟨f,h,u⟩=av (ef (ev G f) h u (d.getD 0) s) (aX P G d r K f):=by
  have key:∀ J:R→Prop,dl P G s (ev G f) h u (d.getD 0) J=av (ef (ev G f) h u (d.getD 0) s) J:=by
    intro J;have m:∀ o:Option R,(match o with | some r=>J r | none=>False)=av o J:=fun o=>by cases o <;> rfl
    rw[← m];cases s <;> first | rfl | (simp[ao.isCall] at hs; done)
  exact key _
theorem rC (v:V):yW P G d r K f h u v=al P G r K ⟨aB f d v,h,u⟩:=rfl
theorem rD (v:W):cR P G d r K f h u v=al P G r K ⟨aB f d (.w v),h,u⟩:=rfl
theorem rF (v:C):goC P G d r K f h u v=al P G r K ⟨aB f d (.w (.c v)),h,u⟩:=rfl
theorem rG (v:D):iA P G d r K f h u v=al P G r K ⟨aB f d (.w (.c (.d v))),h,u⟩:=rfl
theorem rH (v:V) (h':ah) (u':Nat→Bool):aX P G d r K f (v,h',u')=al P G r K ⟨aB f d v,h',u'⟩:=rfl
theorem rI (h':ah):kk P G d r K f u h'=al P G r K ⟨aB f d .undef,h',u⟩:=rfl
theorem rJ (k k':IntKind) (n:Int):uh P G d r K f h u k (k',n)=al P G r K ⟨aB f d (.w (.c (.d (.int k (k.wrap n))))),h,u⟩:=rfl
theorem rK (n:Nat):ui P G d r K f h u n=al P G r K ⟨aB f d (.w (.c (.d (.int .i64 (n:Int))))),h,u⟩:=rfl
theorem rL (s:ByteArray):uj P G d r K f h u s=al P G r K ⟨aB f d (.w (.c (.d (.int .i64 (s.size:Int))))),h,u⟩:=rfl
theorem nr (y z:V):kl P G d r K f h u y z true=al P G r K ⟨aB f d y,h,u⟩:=rfl
theorem lT (y z:V):kl P G d r K f h u y z false=al P G r K ⟨aB f d z,h,u⟩:=rfl
theorem rM (p q:Bool):iq P G d r K f h u true p q=al P G r K ⟨aB f d (.w (.c (.d (.bool (!(p==q)))))),h,u⟩:=rfl
theorem rN (p q:Bool):iq P G d r K f h u false p q=al P G r K ⟨aB f d (.w (.c (.d (.bool (p==q))))),h,u⟩:=rfl
theorem rO (b:Bool) (y:V) (p:Bool):uk P G d r K f h u b y p=av (aT y) (iq P G d r K f h u b p):=rfl
theorem rP (k:Kd) (v:V) (w:W):um P G d r K f h u k v w=av (am h k v w) (kk P G d r K f u):=rfl
theorem rQ (o:Nat) (k:Kd) (cs:List C):uo P G d r K f h u o k cs=av (cC cs o k) (cR P G d r K f h u):=rfl
theorem pE (s:Nat) (k:Kd) (cs:List C) (j:Nat):j4 P G d r K f h u s k cs j=av (cC cs (j*s) k) (cR P G d r K f h u):=rfl
theorem rR (s n:Nat) (k:Kd) (w:SX) (cs:List C):uq P G d r K f h u s n k w cs=av (cr (ev G f) w n) (j4 P G d r K f h u s k cs):=rfl
theorem rS (cs:List C):ut P G d r K f h u cs=al P G r K ⟨aB f d (.w (b9 cs)),h,u⟩:=rfl
theorem rT (i:Nat) (ws:List W):uu P G d r K f h u i ws=av ws[i]? (cR P G d r K f h u):=rfl
theorem tu :al P G (⟨d,.mv x,none⟩::r) K ⟨f,h,u⟩=al P G r K ⟨aB f d (ev G f x),h,u⟩:=rfl
theorem lU (n:Nat):al P G (⟨d,.lenArr n,none⟩::r) K ⟨f,h,u⟩=al P G r K ⟨aB f d (.w (.c (.d (.int .i64 n)))),h,u⟩:=rfl
theorem pF :al P G (⟨d,.pick x y z,none⟩::r) K ⟨f,h,u⟩=av (aT (ev G f x)) (kl P G d r K f h u (ev G f y) (ev G f z)):=by
  rw[aF _ rfl];simp only[ef];cases aT (ev G f x) with
  | none=>rfl
  | some t=>cases t <;> rfl
theorem rU (op:BinOp):al P G (⟨d,.bin op x y,none⟩::r) K ⟨f,h,u⟩=av (aQ op (ev G f x) (ev G f y)) (iA P G d r K f h u):=by
  rw[aF _ rfl]; exact b7 _ _ _
theorem rV (b:Bool) (ks:List Nat):al P G (⟨d,.eqA b ks x y,none⟩::r) K ⟨f,h,u⟩=av (gm b ks (ev G f x) (ev G f y)) (iA P G d r K f h u):=by
  rw[aF _ rfl]; exact b7 _ _ _
theorem tv (op:UnOp):al P G (⟨d,.un op x,none⟩::r) K ⟨f,h,u⟩=av (du op (ev G f x)) (iA P G d r K f h u):=by
  rw[aF _ rfl]; exact b7 _ _ _
theorem pG (k:IntKind):al P G (⟨d,.conv k x,none⟩::r) K ⟨f,h,u⟩=av (bQ (ev G f x)) (uh P G d r K f h u k):=by
  rw[aF _ rfl]; exact b7 _ _ _
theorem rW (b:Bool):al P G (⟨d,.eqB b x y,none⟩::r) K ⟨f,h,u⟩=av (aT (ev G f x)) (uk P G d r K f h u b (ev G f y)):=by
  rw[aF _ rfl];simp only[ef];cases hp:aT (ev G f x) with
  | none=>rfl
  | some p =>
    show _=av (aT (ev G f y)) _
    cases aT (ev G f y) with
    | none=>rfl
    | some q=>cases b <;> rfl
theorem rX :al P G (⟨d,.len x,none⟩::r) K ⟨f,h,u⟩=av (cM (ev G f x)) (ui P G d r K f h u):=by
  rw[aF _ rfl]; exact b7 _ _ _
theorem lV :al P G (⟨d,.lenStr x,none⟩::r) K ⟨f,h,u⟩=av (io (ev G f x)) (uj P G d r K f h u):=by
  rw[aF _ rfl];have:ef (ev G f) h u (d.getD 0) (.lenStr x)=(io (ev G f x)).map fun s=>(vd (.int .i64 s.size),h,u):=by
    simp only[ef];unfold io;split
    ·rename_i e; rw[e]; rfl
    ·rename_i hn;split
     ·rename_i e; exact absurd e (hn _)
     ·rfl
  rw[this];exact b7 _ _ _
theorem pH (k:Kd):al P G (⟨d,.load k x,none⟩::r) K ⟨f,h,u⟩=av (aM h k (ev G f x)) (cR P G d r K f h u):=by
  rw[aF _ rfl]; exact b7 _ _ _
theorem ns (k:Kd):al P G (⟨d,.loadB k x,none⟩::r) K ⟨f,h,u⟩=av (bz h k (ev G f x)) (cR P G d r K f h u):=by
  rw[aF _ rfl]; exact b7 _ _ _
theorem lW (k:Kd):al P G (⟨d,.loadX k x [],none⟩::r) K ⟨f,h,u⟩=av (bO h k [] (ev G f x)) (cR P G d r K f h u):=by
  rw[aF _ rfl]; exact b7 _ _ _
theorem lX (k:Kd):al P G (⟨d,.loadX k x [y],none⟩::r) K ⟨f,h,u⟩=av (bO h k [ev G f y] (ev G f x)) (cR P G d r K f h u):=by
  rw[aF _ rfl]; exact b7 _ _ _
theorem lY (k:Kd):al P G (⟨d,.loadX k x [y,z],none⟩::r) K ⟨f,h,u⟩=av (bO h k [ev G f y,ev G f z] (ev G f x)) (cR P G d r K f h u):=by
  rw[aF _ rfl]; exact b7 _ _ _
theorem nu (k:Kd):al P G (⟨d,.store k x y,none⟩::r) K ⟨f,h,u⟩=av (cI (ev G f y)) (um P G d r K f h u k (ev G f x)):=by
  rw[aF _ rfl];simp only[ef];cases cI (ev G f y) with
  | none=>rfl
  | some w=>exact b7 _ _ _
theorem kG (o:Nat):al P G (⟨d,.fieldAddr o x,none⟩::r) K ⟨f,h,u⟩=av (fB o (ev G f x)) (goC P G d r K f h u):=by
  rw[aF _ rfl]; exact b7 _ _ _
theorem nv (o:Nat) (k:Kd):al P G (⟨d,.field o k x,none⟩::r) K ⟨f,h,u⟩=av (bT (ev G f x)) (uo P G d r K f h u o k):=by
  rw[aF _ rfl];simp only[ef];cases bT (ev G f x) with
  | none=>rfl
  | some w=>exact b7 _ _ _
theorem lZ (s n:Nat) (k:Kd):al P G (⟨d,.idxArr s n k x y,none⟩::r) K ⟨f,h,u⟩=av (bT (ev G f x)) (uq P G d r K f h u s n k y):=by
  rw[aF _ rfl];simp only[ef];cases bT (ev G f x) with
  | none=>rfl
  | some w =>
    show _=av (cr (ev G f) y n) _
    cases cr (ev G f) y n with
    | none=>rfl
    | some j=>exact b7 _ _ _
theorem lk (i:Nat):al P G (⟨d,.extract x i,none⟩::r) K ⟨f,h,u⟩=av (tT (ev G f x)) (uu P G d r K f h u i):=by
  rw[aF _ rfl];simp only[ef];cases ev G f x with
  | tup ws=>exact b7 _ _ _
  | _=>rfl
theorem nx (c:List C) (ps:List (Nat×Nat×SX)):al P G (⟨d,.build c ps,none⟩::r) K ⟨f,h,u⟩=av (parts (ev G f) ps c) (ut P G d r K f h u):=by
  rw[aF _ rfl]; exact b7 _ _ _
theorem ny (c:List C):al P G (⟨d,.alloc c,none⟩::r) K ⟨f,h,u⟩=av (ef (ev G f) h u (d.getD 0) (.alloc c)) (aX P G d r K f):=aF _ rfl
theorem kQ (c:List D):al P G (⟨d,.allocArr c,none⟩::r) K ⟨f,h,u⟩=av (ef (ev G f) h u (d.getD 0) (.allocArr c)) (aX P G d r K f):=aF _ rfl
theorem l3 (s:Nat):al P G (⟨d,.nilOwn s,none⟩::r) K ⟨f,h,u⟩=av (ef (ev G f) h u (d.getD 0) (.nilOwn s)) (aX P G d r K f):=aF _ rfl
theorem rY (m:Bx):al P G (⟨d,.box m x,none⟩::r) K ⟨f,h,u⟩=av (ef (ev G f) h u (d.getD 0) (.box m x)) (aX P G d r K f):=aF _ rfl
theorem nz (b:Bool) (n s:Nat) (c:D) (ps:List (Nat×SX)):al P G (⟨d,.bldSl b n s c ps,none⟩::r) K ⟨f,h,u⟩=av (ef (ev G f) h u (d.getD 0) (.bldSl b n s c ps)) (aX P G d r K f):=aF _ rfl
theorem nA (n s:Nat) (c:D) (ps:List (Nat×SX)):al P G (⟨d,.bldFz n s c ps,none⟩::r) K ⟨f,h,u⟩=av (ef (ev G f) h u (d.getD 0) (.bldFz n s c ps)) (aX P G d r K f):=aF _ rfl
theorem l4 (c:List C) (ps:List (Nat×Nat×SX)):al P G (⟨d,.buildF c ps,none⟩::r) K ⟨f,h,u⟩=av (ef (ev G f) h u (d.getD 0) (.buildF c ps)) (aX P G d r K f):=aF _ rfl
theorem rZ :al P G (⟨d,.b2s x,none⟩::r) K ⟨f,h,u⟩=av (ef (ev G f) h u (d.getD 0) (.b2s x)) (aX P G d r K f):=aF _ rfl
theorem r6 (b:Bool):al P G (⟨d,.s2b b x,none⟩::r) K ⟨f,h,u⟩=av (ef (ev G f) h u (d.getD 0) (.s2b b x)) (aX P G d r K f):=aF _ rfl
theorem pI (w:Bool) (s b:Nat) (c:D):al P G (⟨d,.make w s b c x y,none⟩::r) K ⟨f,h,u⟩=av (ef (ev G f) h u (d.getD 0) (.make w s b c x y)) (aX P G d r K f):=aF _ rfl
theorem nB (s:Nat) (a b c:Option SX):al P G (⟨d,.slice s x a b c,none⟩::r) K ⟨f,h,u⟩=av (ef (ev G f) h u (d.getD 0) (.slice s x a b c)) (aX P G d r K f):=aF _ rfl
theorem kR (a b:Option SX):al P G (⟨d,.sliceStr x a b,none⟩::r) K ⟨f,h,u⟩=av (ef (ev G f) h u (d.getD 0) (.sliceStr x a b)) (aX P G d r K f):=aF _ rfl
theorem kS (s n:Nat) (a b:Option SX):al P G (⟨d,.sliceArr s n x a b,none⟩::r) K ⟨f,h,u⟩=av (ef (ev G f) h u (d.getD 0) (.sliceArr s n x a b)) (aX P G d r K f):=aF _ rfl
theorem nC (s:Nat):al P G (⟨d,.idxSl s x y,none⟩::r) K ⟨f,h,u⟩=av (ef (ev G f) h u (d.getD 0) (.idxSl s x y)) (aX P G d r K f):=aF _ rfl
theorem nD (s n:Nat):al P G (⟨d,.idxPa s n x y,none⟩::r) K ⟨f,h,u⟩=av (ef (ev G f) h u (d.getD 0) (.idxPa s n x y)) (aX P G d r K f):=aF _ rfl
theorem l5 :al P G (⟨d,.idxStr x y,none⟩::r) K ⟨f,h,u⟩=av (ef (ev G f) h u (d.getD 0) (.idxStr x y)) (aX P G d r K f):=aF _ rfl
theorem r7 (b:Bool) (s n:Nat):al P G (⟨d,.app b s n x y,none⟩::r) K ⟨f,h,u⟩=av (ef (ev G f) h u (d.getD 0) (.app b s n x y)) (aX P G d r K f):=aF _ rfl
theorem pJ (b:Bool) (s n:Nat):al P G (⟨d,.appN b s n x y,none⟩::r) K ⟨f,h,u⟩=av (ef (ev G f) h u (d.getD 0) (.appN b s n x y)) (aX P G d r K f):=aF _ rfl
theorem pK (s:Nat):al P G (⟨d,.copy s x y,none⟩::r) K ⟨f,h,u⟩=av (ef (ev G f) h u (d.getD 0) (.copy s x y)) (aX P G d r K f):=aF _ rfl
theorem r8 (l:List SX):al P G (⟨d,.min l,none⟩::r) K ⟨f,h,u⟩=av (ef (ev G f) h u (d.getD 0) (.min l)) (aX P G d r K f):=aF _ rfl
theorem r9 (l:List SX):al P G (⟨d,.max l,none⟩::r) K ⟨f,h,u⟩=av (ef (ev G f) h u (d.getD 0) (.max l)) (aX P G d r K f):=aF _ rfl
theorem sd :al P G (⟨d,.frz x,none⟩::r) K ⟨f,h,u⟩=av (ef (ev G f) h u (d.getD 0) (.frz x)) (aX P G d r K f):=aF _ rfl
theorem pL :al P G (⟨d,.mark x,none⟩::r) K ⟨f,h,u⟩=av (ef (ev G f) h u (d.getD 0) (.mark x)) (aX P G d r K f):=aF _ rfl
theorem nE :al P G (⟨d,.markF x,none⟩::r) K ⟨f,h,u⟩=av (ef (ev G f) h u (d.getD 0) (.markF x)) (aX P G d r K f):=aF _ rfl
theorem vn {fn:FuncId} {xs:List SX} {own:Option (Nat×Nat)} {res:V} (h2:dH P G h fn (xs.map (ev G f)) res) (h3:dI h (xs.map (ev G f)) res)
    (e:av (br h u (d.getD 0) own res) (aX P G d r K f)) (hp:c9 own (xs.map (ev G f))):al P G (⟨d,.call fn xs own,none⟩::r) K ⟨f,h,u⟩:=by
  have e':(match br h u (d.getD 0) own res with | some r'=>al P G r K ⟨aB f d r'.1,r'.2.1,r'.2.2⟩ | none=>False):=by
    revert e
    cases br h u (d.getD 0) own res <;> exact fun h=>h
  exact⟨res,h2,h3,hp,e'⟩
theorem l6 {fn:FuncId} {xs:List SX} {own:Option (Nat×Nat)} {res:V} (h2:dH P G h fn (xs.map (ev G f)) res) (h3:((xs.map (ev G f)).any V.hasOwn=false∨res.flat=true))
    (e:av (br h u (d.getD 0) own res) (aX P G d r K f)) (hp:c9 own (xs.map (ev G f))):al P G (⟨d,.call fn xs own,none⟩::r) K ⟨f,h,u⟩ :=
  vn h2 (fun hh=>by rcases h3 with h3 | h3; (· rw[h3] at hh; cases hh); exact .inl h3) e hp
theorem gX {fn:FuncId} {xs:List SX} {own:Option (Nat×Nat)} {ds:List D} {res:V} (h2:a7 P G fn ds res) (h1:a8 h (xs.map (ev G f))=some ds) (h3:((xs.map (ev G f)).any V.hasOwn=false∨res.flat=true))
    (e:av (br h u (d.getD 0) own res) (aX P G d r K f)) (hne:fn≠cB:=by decide) (hp:c9 own (xs.map (ev G f)):=by first | exact gI _ | exact gQ _ _ _ | exact gJ _ _ rfl):al P G (⟨d,.call fn xs own,none⟩::r) K ⟨f,h,u⟩ :=
  l6 (.inl ⟨hne,ds,h1,h2⟩) h3 e hp
theorem sC {fn:FuncId} {xs:List SX} {own:Option (Nat×Nat)} {ds:List D} {res:V} (h2:a7 P G fn ds res) (e:av (br h u (d.getD 0) own res) (aX P G d r K f)) (h1:a8 h (xs.map (ev G f))=some ds:=by exact rfl)
    (h3:((xs.map (ev G f)).any V.hasOwn=false∨res.flat=true):=by exact .inl rfl) (hne:fn≠cB:=by decide) (hp:c9 own (xs.map (ev G f)):=by first | exact gI _ | exact gQ _ _ _ | exact gJ _ _ rfl):al P G (⟨d,.call fn xs own,none⟩::r) K ⟨f,h,u⟩ :=
  gX h2 h1 h3 e hne hp
theorem nF {g:FuncId} {caps:List D} {xs:List SX} {own:Option (Nat×Nat)} {ds:List D} {res:V} (h2:ig P G g caps ds res) (h1:a8 h (xs.map (ev G f))=some (.fn g caps::ds)) (h3:((xs.map (ev G f)).any V.hasOwn=false∨res.flat=true))
    (e:av (br h u (d.getD 0) own res) (aX P G d r K f)) (hp:c9 own (xs.map (ev G f)):=by first | exact gI _ | exact gQ _ _ _ | exact gJ _ _ rfl):al P G (⟨d,.call 1000000007 xs own,none⟩::r) K ⟨f,h,u⟩ :=
  l6 (.inr (.inl ⟨rfl,g,caps,ds,h1,h2⟩)) h3 e hp
theorem pM {α:Type} (f:Nat→α) (i j:Nat) (x:α) (h:(j==i)=false):upd f i x j=f j:=upd_ne f x (by simpa using h)
theorem l7 {α:Type} (f:Nat→α) (i:Nat) (x:α):aB f (some i) x=upd f i x:=rfl
theorem l8 {α:Type} (f:Nat→α) (x:α):aB f none x=f:=rfl
theorem tU (n:Nat):ev G f (.t n)=f n:=rfl
theorem tV (v:W):ev G f (.k v)=.w v:=rfl
def uf:Nat→V:=fun _=>.undef
def hN:ah:=fun _=>none
def uN:Nat→Bool:=fun _=>false
def aD:Nat→List D→(Nat→V)→Nat→V
  | _,[],f=>f
  | i,x::r,f=>aD (i+1) r (upd f i (.w (.c (.d x))))
theorem ll:∀ (l:List D) (i:Nat) (f:Nat→V) (t:Nat),aD i l f t=if i≤t then (match l[t-i]? with | some x=>vd x | none=>f t) else f t
  | [],i,f,t=>by simp[aD]
  | x::l,i,f,t=>by
    rw[aD,ll l (i+1)];by_cases h:i=t
    ·subst h;rw[if_neg (by omega),if_pos (y8 _)];simp[upd,vd]
    ·by_cases h2:i≤t
     ·rw[if_pos (by omega),if_pos h2];have:t-i=(t-(i+1))+1:=by omega
      rw[this,zn];cases l[t-(i+1)]? with
      | some y=>rfl
      | none=>simp[upd,show t≠i from fun e=>h e.symm]
     ·rw[if_neg (by omega),if_neg h2];simp[upd,show t≠i from fun e=>h e.symm]
theorem entry_eq (args:List D):entry args=⟨aD 0 args uf,hN,uN⟩:=by
  unfold entry
  congr 1
  funext t
  rw[ll];simp only[z0,if_true,Nat.sub_zero];rfl
theorem se (i:Nat):hN i=none:=rfl
theorem sg (i:Nat):uN i=false:=rfl
theorem si (i:Nat):uf i=.undef:=rfl
theorem b8 {F:FuncId} {fn:Func} {sf:bF} {H:Hint} (hf:P.funcs[F]?=some fn) (hc:bq P H fn=some sf) {args:List D} {res:V} {f0:Nat→V} (hlen:args.length=sf.np) (h0:aD 0 args uf=f0)
    (e:aI P G sf.body (gg sf.res res) ⟨f0,hN,uN⟩):a7 P G F args res:=by
  refine yb hf hc hlen ?_;rw[entry_eq,h0];exact e
end
theorem sq (k:IntKind) (n:Int):bQ (.w (.c (.d (.int k n))))=some (k,n):=rfl
theorem sr (b:Bool):aT (.w (.c (.d (.bool b))))=some b:=rfl
theorem su (w:W):cI (.w w)=some w:=rfl
theorem sv (cs:List D):bT (.w (.c (.d (.agg cs))))=some (cs.map C.d):=rfl
theorem sw (cs:List C):bT (.w (.mix cs))=some cs:=rfl
theorem pN (s:ByteArray):io (.w (.c (.d (.str s))))=some s:=rfl
theorem pO (ws:List W):tT (.tup ws)=some ws:=rfl
theorem sy (es:List D):cM (.w (.c (.d (.sl es))))=some es.length:=rfl
theorem nG:cM (.w (.c .nil))=some 0:=rfl
theorem nH (id sz off n:Nat):cM (.w (.c (.own id sz off n)))=some n:=rfl
theorem pP (off id sz i o:Nat):fB off (.w (.c (.ptr id sz i o)))=some (.ptr id sz i (o+off)):=rfl
theorem sA (off:Nat) (cs:List D):fB off (.w (.c (.rp cs)))=some (.rp (cs.drop off)):=rfl
theorem nI (op:BinOp) (k k':IntKind) (a b:Int):aQ op (.w (.c (.d (.int k a)))) (.w (.c (.d (.int k' b))))=aE op k a k' b:=rfl
theorem nJ (op:BinOp) (a b:ByteArray):aQ op (.w (.c (.d (.str a)))) (.w (.c (.d (.str b))))=fu op a b:=rfl
theorem ji (k:IntKind) (a b:Int):aE .add k a k b=some (.int k (k.wrap (a+b))):=by simp[aE]
theorem nK (k:IntKind) (a b:Int):aE .sub k a k b=some (.int k (k.wrap (a-b))):=by simp[aE]
theorem nL (k:IntKind) (a b:Int):aE .mul k a k b=some (.int k (k.wrap (a*b))):=by simp[aE]
theorem jj (k:IntKind) (a b:Int):aE .eql k a k b=some (.bool (if a=b then true else false)):=by
  simp only[aE,ne_eq,not_true_eq_false,if_false,yY,D.bool.injEq];by_cases h:a=b <;> simp[h]
theorem jk (k:IntKind) (a b:Int):aE .neq k a k b=some (.bool (if a=b then false else true)):=by
  simp only[aE,ne_eq,not_true_eq_false,if_false,yY,D.bool.injEq];by_cases h:a=b <;> simp[h]
theorem nM (k:IntKind) (a b:Int):aE .lss k a k b=some (.bool (if a<b then true else false)):=by
  simp only[aE,ne_eq,not_true_eq_false,if_false,yY,D.bool.injEq];by_cases h:a<b <;> simp[h]
theorem nN (k:IntKind) (a b:Int):aE .leq k a k b=some (.bool (if a≤b then true else false)):=by
  simp only[aE,ne_eq,not_true_eq_false,if_false,yY,D.bool.injEq];by_cases h:a≤b <;> simp[h]
theorem nO (k:IntKind) (a b:Int):aE .gtr k a k b=some (.bool (if a>b then true else false)):=by
  simp only[aE,ne_eq,not_true_eq_false,if_false,yY,D.bool.injEq];by_cases h:a>b <;> simp[h]
theorem nP (k:IntKind) (a b:Int):aE .geq k a k b=some (.bool (if a≥b then true else false)):=by
  simp only[aE,ne_eq,not_true_eq_false,if_false,yY,D.bool.injEq];by_cases h:a≥b <;> simp[h]
theorem gL (k:IntKind) (a b:Int):aE .and k a k b=some (.int k (bits .and k a b)):=by simp[aE]
theorem gY (k:IntKind) (a b:Int):aE .or k a k b=some (.int k (bits .or k a b)):=by simp[aE]
theorem gM (k:IntKind) (a b:Int):aE .xor k a k b=some (.int k (bits .xor k a b)):=by simp[aE]
theorem kT (k:IntKind) (a b:Int):aE .andNot k a k b=some (.int k (bits .andNot k a b)):=by simp[aE]
theorem jl (k k':IntKind) (a b:Int) (h:0≤b):aE .shl k a k' b=some (.int k (k.wrap (a*2^min b.toNat k.bits))):=by simp[aE,h]
theorem jm (k k':IntKind) (a b:Int) (h:0≤b):aE .shr k a k' b=some (.int k (a / 2^min b.toNat k.bits)):=by simp[aE,h]
theorem nQ (k:IntKind) (a b:Int) (h:b≠0):aE .quo k a k b=some (.int k (k.wrap (a.tdiv b))):=by simp[aE,h]
theorem nR (k:IntKind) (a b:Int) (h:b≠0):aE .rem k a k b=some (.int k (a.tmod b)):=by simp[aE,h]
theorem pQ (k:IntKind) (n:Int):du .neg (.w (.c (.d (.int k n))))=some (.int k (k.wrap (0-n))):=rfl
theorem pR (b:Bool):du .not (.w (.c (.d (.bool b))))=some (.bool !b):=rfl
theorem pS (k:IntKind) (n:Int):du .xor (.w (.c (.d (.int k n))))=some (.int k (bits .xor k (if k.signed then -1 else k.max) n)):=rfl
theorem pT (h:ah) (u:Nat→Bool) (n:Nat) (o:Ob) (c:C) (hu:u (8*n)=false):a9 h u n o c=some (.w (.c c),upd h (8*n) (some o),upd u (8*n) true):=eB hu
theorem nS (ρ:SX→V) (h:ah) (u:Nat→Bool) (n:Nat) (c:List C):ef ρ h u n (.alloc c)=a9 h u n (.box c) (.ptr (8*n) 1 0 0):=rfl
theorem kU (ρ:SX→V) (h:ah) (u:Nat→Bool) (n:Nat) (c:List D):ef ρ h u n (.allocArr c)=a9 h u n (.row 1 c) (.pa (8*n) 1):=rfl
theorem l9 (ρ:SX→V) (h:ah) (u:Nat→Bool) (n s:Nat):ef ρ h u n (.nilOwn s)=a9 h u n (.row s []) (.own (8*n) s 0 0):=rfl
theorem pU (kd:Kd) (y:W) (i o:Nat) (cs:List C):eP kd y i o (.box cs)=if (aO y).length=kd.size∧i+o+kd.size≤cs.length then some (.box (bo cs (i+o) (aO y))) else none:=rfl
theorem tw (n d:Nat):(some n).getD d=n:=rfl
theorem sB (h:ah) (k:Kd) (cs:List D):bO h k [] (.w (.c (.rp cs)))=aM h k (.w (.c (.rp cs))):=rfl
theorem sE (h:ah) (k:Kd) (es:List D):bO h k [] (.w (.c (.ra es)))=aM h k (.w (.c (.ra es))):=rfl
theorem tx (h:ah) (k:Kd) (x:D):bO h k [] (.w (.c (.d x)))=aM h k (.w (.c (.d x))):=rfl
theorem tz (h:ah) (k:Kd) (j a b c i d e g:Nat):bO h k [.w (.c (.ptr j a b c))] (.w (.c (.ptr i d e g)))=if i=j then none else aM h k (.w (.c (.ptr i d e g))):=by
  unfold bO dM;by_cases hij:i=j
  ·simp[V.ids,W.ids,C.ids,hij,cO]
  ·simp[V.ids,W.ids,C.ids,hij,cO]
theorem tA (h:ah) (k:Kd) (j a b c l m n q i d e g:Nat):bO h k [.w (.c (.ptr j a b c)),.w (.c (.ptr l m n q))] (.w (.c (.ptr i d e g)))=if i=j then none else if i=l then none else aM h k (.w (.c (.ptr i d e g))):=by
  unfold bO dM;by_cases hij:i=j
  ·simp[V.ids,W.ids,C.ids,hij,cO]
  ·by_cases hil:i=l
   ·simp[V.ids,W.ids,C.ids,hij,hil,cO]
   ·simp[V.ids,W.ids,C.ids,hij,hil,cO]
abbrev eC {p:Prop} (_:p):Prop:=p
theorem sx:eC (jR @nc (jR @py (jR @pz (jR @nf (jR @lS (jR @ng (jR @pA (jR @nh (jR @pB (jR @ni (jR @nj (jR @nk (jR @pC (jR @pD (jR @nl (jR @nm (jR @nn (jR @nq (jR @rB (jR @lR (jR @lP (jR @lQ (jR @lj (jR @px (jR @na (jR @nb (jR @rC (jR @rD (jR @rF (jR @rG (jR @rH (jR @rI (jR @rJ (jR @rK (jR @rL (jR @nr (jR @lT (jR @rM (jR @rN (jR @rO (jR @rP (jR @rQ (jR @pE (jR @rR (jR @rS (jR @rT (jR @tu (jR @lU (jR @pF (jR @rU (jR @rV (jR @tv (jR @pG (jR @rW (jR @rX (jR @lV (jR @pH (jR @ns (jR @lW (jR @lX (jR @lY (jR @nu (jR @kG (jR @nv (jR @lZ (jR @lk (jR @nx (jR @ny (jR @kQ (jR @l3 (jR @rY (jR @nz (jR @nA (jR @l4 (jR @rZ (jR @r6 (jR @pI (jR @nB (jR @kR (jR @kS (jR @nC (jR @nD (jR @l5 (jR @r7 (jR @pJ (jR @pK (jR @r8 (jR @r9 (jR @sd (jR @pL (jR @nE (jR @upd_same (jR @pM (jR @se (jR @sg (jR @si (jR @l7 (jR @l8 (jR @tU (jR @tV (jR @sB (jR @sE (jR @tx (jR @tz (jR @tA (jR @sq (jR @sr (jR @su (jR @sv (jR @sw (jR @pN (jR @pO (jR @sy (jR @nG (jR @nH (jR @pP (jR @sA (jR @nI (jR @nJ (jR @ji (jR @nK (jR @nL (jR @jj (jR @jk (jR @nM (jR @nN (jR @nO (jR @nP (jR @gL (jR @gY (jR @gM (jR @kT (jR @jl (jR @jm (jR @nQ (jR @nR (jR @pQ (jR @pR (jR @pS (jR @pT (jR @nS (jR @kU (jR @l9 (@tw)))))))))))))))))))))))))))))))))))))))))))))))))))))))))))))))))))))))))))))))))))))))))))))))))))))))))))))))))))))))))))))))))))))))))))))))):=jR @nc (jR @py (jR @pz (jR @nf (jR @lS (jR @ng (jR @pA (jR @nh (jR @pB (jR @ni (jR @nj (jR @nk (jR @pC (jR @pD (jR @nl (jR @nm (jR @nn (jR @nq (jR @rB (jR @lR (jR @lP (jR @lQ (jR @lj (jR @px (jR @na (jR @nb (jR @rC (jR @rD (jR @rF (jR @rG (jR @rH (jR @rI (jR @rJ (jR @rK (jR @rL (jR @nr (jR @lT (jR @rM (jR @rN (jR @rO (jR @rP (jR @rQ (jR @pE (jR @rR (jR @rS (jR @rT (jR @tu (jR @lU (jR @pF (jR @rU (jR @rV (jR @tv (jR @pG (jR @rW (jR @rX (jR @lV (jR @pH (jR @ns (jR @lW (jR @lX (jR @lY (jR @nu (jR @kG (jR @nv (jR @lZ (jR @lk (jR @nx (jR @ny (jR @kQ (jR @l3 (jR @rY (jR @nz (jR @nA (jR @l4 (jR @rZ (jR @r6 (jR @pI (jR @nB (jR @kR (jR @kS (jR @nC (jR @nD (jR @l5 (jR @r7 (jR @pJ (jR @pK (jR @r8 (jR @r9 (jR @sd (jR @pL (jR @nE (jR @upd_same (jR @pM (jR @se (jR @sg (jR @si (jR @l7 (jR @l8 (jR @tU (jR @tV (jR @sB (jR @sE (jR @tx (jR @tz (jR @tA (jR @sq (jR @sr (jR @su (jR @sv (jR @sw (jR @pN (jR @pO (jR @sy (jR @nG (jR @nH (jR @pP (jR @sA (jR @nI (jR @nJ (jR @ji (jR @nK (jR @nL (jR @jj (jR @jk (jR @nM (jR @nN (jR @nO (jR @nP (jR @gL (jR @gY (jR @gM (jR @kT (jR @jl (jR @jm (jR @nQ (jR @nR (jR @pQ (jR @pR (jR @pS (jR @pT (jR @nS (jR @kU (jR @l9 (@tw)))))))))))))))))))))))))))))))))))))))))))))))))))))))))))))))))))))))))))))))))))))))))))))))))))))))))))))))))))))))))))))))))))))))))))))))
end Go.Proofs.Yteohdchecapkfaa
