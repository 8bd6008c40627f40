/- Texts of one's own, merged: from: The plain logic (16): regions,in the order of the text and in any order that the edges allow. Own work. -/
import Derived.Orders
import Derived.OrdersIn
import Derived.Test.YtnjhelpgohdajaaGreatDoorMg14
set_option linter.unusedVariables false
set_option linter.unusedSimpArgs false
namespace Go.Proofs.YtnjhelpgohdajaaGreatDoor
open Go.RowKit
def T9 (N:Nat):Option Nat→Bool | some d=>decide (d<N) | none=>true
def jO (P:Program) (H:Hint) (ops:Array Oper) (N:Nat) (o:Oper):Option bi :=
  match yD P H o with
  | some so=>if T9 N o.dst=true then
      match o.guard with
      | none=>some ⟨o.dst,so,none⟩
      | some (j,want)=>match (ops[j]?).bind (·.dst) with
        | some t=>some ⟨o.dst,so,some (t,want)⟩
        | none=>none
    else none
  | none=>none
def vJ (ms:List Nat) (o:Oper):Nat:=o.after.toList.foldl (fun m e=>if Region.binds .any e=true then m ||| (2^e.on) ||| ms.getD e.on 0 else m) 0
def Ua:List Oper→List Nat→List Nat
  | [],acc=>acc
  | o::r,acc=>Ua r (acc++[vJ acc o])
def JE (ms:List Nat) (ops:List Oper) (cs:List bi):Bool :=
  (List.range ops.length).all fun i=>match ops[i]?,cs[i]? with
    | some o,some so=>(ms.getD i 0==vJ ms o)&&o.after.toList.all (fun e=>!Region.binds .any e || decide (e.on<i)) &&
        (List.range i).all fun j=>(ms.getD i 0).testBit j || (match cs[j]? with | some sj=>sj.indep so | none=>false)
    | _,_=>false
def E7 (P:Program) (H:Hint) (N:Nat) (ops:Array Oper) (draws:Bool):Option (List bi) :=
  match bE (jO P H ops N) ops.toList with
  | some cs=>if draws=false then some cs else if P.follows .mixedOrders=true∧JE (Ua ops.toList []) ops.toList cs=true then some cs else none
  | none=>none
section
variable {P:Program} {G:au} {N:Nat} {Sin:aT} {w0:Gh} {σ:St} {a:Act} {w:World} {S:aT} {m:Mp} {H:Hint} {ops:Array Oper} {K:St→Prop} {Q:Exit→Act→World→Prop}
theorem LE {o:Oper} {so:bi} (h:jO P H ops N o=some so):yD P H o=some so.op∧so.dst=o.dst∧(∀ t,o.dst=some t→t<N) ∧
    ((o.guard=none∧so.guard=none)∨∃ j t want,o.guard=some (j,want)∧so.guard=some (t,want)∧(ops[j]?).bind (·.dst)=some t):=by
  grind [jO,T9]
theorem E9 {i:Nat} {o:Oper} {so:bi} (hi:ops[i]?=some o) (hc:jO P H ops N o=some so) (hx:∀ t,so.dst=some t→w0.fx t=none) (h:Inv G N Sin w0 σ a w S m) {r:R} (hr:ej P G so σ r) (hK:K (σ.put so.dst r)):wpOp P ops Q i (Nx G N Sin w0 K) a w:=by
  obtain⟨h1,h2,h3',h4⟩:=LE hc;have h3:∀ t,o.dst=some t→t<N∧w0.fx t=none:=fun t ht=>⟨h3' t ht,hx t (by rw[h2]; exact ht)⟩
  rw[h2] at hK;unfold wpOp;simp only[hi];unfold ej at hr;rcases h4 with ⟨g1,g2⟩ | ⟨j,t,want,g1,g2,g3⟩
  ·rw[g2] at hr;have hw:Region.wanted o (yielded ops a.tmps)=true:=by simp[Region.wanted,g1]
   rw[if_pos hw];exact .inl (ND h h3 h1 (Bp.2 ⟨r,h2 ▸ hr,hK⟩))
  ·rw[g2] at hr;have hgone:RV m S w undef (.tup []):=⟨[],rfl,.nil⟩
   rcases hr with ⟨b,hb,hr⟩ | ⟨hu,rfl⟩
   ·have hv:=yE (h.slot t) hb;have hy:yielded ops a.tmps j=some b:=by
      unfold yielded;rw[g3];have:a.tmps[t]?=some (.bool b):=by
        rw[ari] at hv;cases ht:a.tmps[t]? with
        | none=>rw[ht] at hv; simp[undef] at hv
        | some v=>rw[ht] at hv; simpa using hv
      simp[this]
    by_cases e:b=want
    ·have hw:Region.wanted o (yielded ops a.tmps)=true:=by simp[Region.wanted,g1,hy,e]
     rw[if_pos hw];grind [ND,Bp]
    ·have hw:¬ Region.wanted o (yielded ops a.tmps)=true:=by simp[Region.wanted,g1,hy,e]
     rw[if_neg hw];rcases hr with ⟨he,_⟩ | ⟨_,rfl⟩
     ·exact absurd he e
     ·exact⟨_,_,_,hK,h.put (x:=.tup []) o.dst h3 hgone fun i hi=>by cases hi⟩
   ·have hv:a.tmps.getD t undef=undef:=by
      have:=h.slot t;rw[hu] at this;obtain⟨us,h5,h6⟩:=this;cases h6;exact h5
    have hy:yielded ops a.tmps j=none:=by
      unfold yielded;rw[g3];rw[ari] at hv;cases ht:a.tmps[t]? with
      | none=>simp[ht]
      | some v=>rw[ht] at hv; simp only[aq9] at hv; subst hv; simp[ht,undef]
    have hw:¬ Region.wanted o (yielded ops a.tmps)=true:=by simp[Region.wanted,g1,hy]
    rw[if_neg hw];exact⟨_,_,_,hK,h.put (x:=.tup []) o.dst h3 hgone fun i hi=>by cases hi⟩
theorem Zv {i:Nat} {J:Act→World→Prop} (h:wpOp P ops (fun _ _ _=>False) i J a w):∃ a w,J a w:=by
  unfold wpOp at h;split at h
  ·exact⟨_,_,h⟩
  ·rename_i o ho;split at h
   ·rcases h with h | ⟨_,_,_,h⟩
    ·unfold Oper.wp at h;cases hr:(execOp a.eval o).run P w with
     | ok n w' =>
       rw[hr] at h;cases n <;> simp only[Oper.upon] at h <;> first | exact⟨_,_,h⟩ | exact h.elim | skip
       ·obtain⟨e,w2,fr,h1,_⟩:=h [];cases e with
        | returned v=>exact⟨_,_,h1⟩
        | panicked c=>exact h1.elim
        | outgrown=>obtain⟨_,_,h2⟩:=h1; exact h2.elim
       ·obtain⟨v,w2,h1,_⟩:=h default [];exact⟨_,_,h1⟩
     | halt x w' =>
       rw[hr] at h;cases x <;> simp only[Oper.upon] at h <;> exact h.elim
    ·exact h.elim
   ·exact⟨_,_,h⟩
theorem Zw {i:Nat} {o:Oper} {so:bi} (hi:ops[i]?=some o) (hc:jO P H ops N o=some so) (hx:∀ t,so.dst=some t→w0.fx t=none) (h:Inv G N Sin w0 σ a w S m) {r:R} (hr:ej P G so σ r):∃ a1 w1 S1 m1,Inv G N Sin w0 (σ.put so.dst r) a1 w1 S1 m1:=by
  obtain⟨a1,w1,σ1,S1,m1,h1,h2⟩:=Zv (E9 (K:=fun s=>s=σ.put so.dst r) hi hc hx h hr rfl);subst h1;exact⟨a1,w1,S1,m1,h2⟩
def qD (P:Program) (H:Hint) (N:Nat) (fx:Nat→Option Value) (ops:Array Oper) (l:List (Nat×bi)):Prop:=∀ p∈l,∃ o,ops[p.1]?=some o∧jO P H ops N o=some p.2∧∀ t,p.2.dst=some t→fx t=none
theorem Fa {rest:List Nat} (hQ:∀ a w,Nx G N Sin w0 K a w→wpOps P ops Q rest a w):∀ (l:List (Nat×bi)) {σ:St} {a:Act} {w:World} {S:aT} {m:Mp},qD P H N w0.fx ops l→Inv G N Sin w0 σ a w S m→bg P G (l.map (·.2)) K σ→wpOps P ops Q (l.map (·.1)++rest) a w
  | [],σ,a,w,S,m,_,h,e=>hQ _ _ ⟨_,_,_,e,h⟩
  | p::l,σ,a,w,S,m,hc,h,e=>by
    rw[apW,aqE,wpOps_cons];rw[apW] at e;obtain⟨r,h1,h2⟩:=vl.1 e;obtain⟨o,ho,hco,hfx⟩:=hc p (by simp);refine wpOp_mono ?_ (E9 ho hco hfx h h1 h2);rintro a1 w1 ⟨σ1,S1,m1,k1,k2⟩;exact Fa hQ l (fun q hq=>hc q (by simp[hq])) k2 k1
theorem Fp (hQ:∀ a w,Nx G N Sin w0 K a w→Q .normal a w) (l:List (Nat×bi)) {σ:St} {a:Act} {w:World} {S:aT} {m:Mp} (hc:qD P H N w0.fx ops l) (h:Inv G N Sin w0 σ a w S m) (e:bg P G (l.map (·.2)) K σ):wpOps P ops Q (l.map (·.1)) a w:=by
  have:=Fa (rest:=[]) (Q:=Q) (ops:=ops) hQ l hc h e
  rwa [ap7] at this
theorem Zx (h:Inv G N Sin w0 σ a w S m) {z:bi} (hz:z.sound=true):∀ o∈z.op.xs,∀ id∈(ev G σ.f o).ids,σ.u id=true:=by
  intro o ho id hid;cases o with
  | t n=>exact h.used n id hid
  | k v =>
    simp only[bi.sound,aqm,ap9] at hz;have:=hz.1 _ ho;simp only[SX.kok,List.isEmpty_iff] at this;have hid':id∈v.ids:=hid;rw[this] at hid';cases hid'
  | g n =>
    simp only[ev] at hid;split at hid
    ·rename_i c hc;unfold au.at at hc;simp only[apV] at hc;obtain⟨p,hp,rfl⟩:=hc;have hk:=h.glob p (arJ hp);have:=(hk.1.rpra (m':=m) hk.2.1).2;have hid':id∈p.2.ids:=hid;rw[this] at hid';cases hid'
    ·cases hid
  | u=>cases hid
theorem LS {p:Nat×bi} {l2:List (Nat×bi)}:∀ (l1:List (Nat×bi)) {σ:St} {a:Act} {w:World} {S:aT} {m:Mp},qD P H N w0.fx ops (l1++p::l2)→(∀ q∈l1,q.2.indep p.2=true)→Inv G N Sin w0 σ a w S m →
    bg P G ((l1++p::l2).map (·.2)) K σ→Ej P G p.2 (bg P G ((l1++l2).map (·.2)) K) σ
  | [],σ,a,w,S,m,_,_,_,e=>e
  | q::l1,σ,a,w,S,m,hc,hi,h,e=>by
    rw[aqE,apW] at e;obtain⟨r1,h1,h2⟩:=vl.1 e;obtain⟨o,ho,hco,hfx⟩:=hc q (by simp);obtain⟨a1,w1,S1,m1,hinv⟩:=Zw ho hco hfx h h1;have ih:=LS l1 (fun z hz=>hc z (by simp only[aqE,aqh]; exact .inr hz)) (fun z hz=>hi z (by simp[hz])) hinv h2;obtain⟨r2,h3,h4⟩:=vl.1 ih;have hin:=hi q (by simp);have hs:q.2.sound=true∧p.2.sound=true:=by
      simp only[bi.indep,aqm] at hin;exact⟨hin.1.2,hin.2⟩
    obtain⟨r2',r1',g1,g2,g3⟩:=swap hin (fun id o ho=>(h.obj id o ho).2.1) (fun z hz=>by
      grind [Zx]) h1 h3
    refine vl.2 ⟨r2',g1,?_⟩;rw[aqE,apW];refine vl.2 ⟨r1',g2,?_⟩;rw[g3];exact h4
end
section
variable {P:Program} {G:au} {N:Nat} {Sin:aT} {w0:Gh} {σ:St} {a:Act} {w:World} {S:aT} {m:Mp} {H:Hint} {ops:Array Oper} {K:St→Prop} {Q:Exit→Act→World→Prop}
theorem WG {ms:List Nat} {o:Oper} {j:Nat} (h:(vJ ms o).testBit j=true):∃ e∈o.after,Region.binds .any e=true∧(e.on=j∨(ms.getD e.on 0).testBit j=true):=by
  have key:∀ (l:List Edge) (k:Nat),(l.foldl (fun m e=>if Region.binds .any e=true then m ||| (2^e.on) ||| ms.getD e.on 0 else m) k).testBit j=true→k.testBit j=true∨∃ e∈l,Region.binds .any e=true∧(e.on=j∨(ms.getD e.on 0).testBit j=true):=by
    intro l
    induction l with
    | nil=>intro k h; exact .inl h
    | cons e l ih =>
      grind
  rcases key _ _ h with h | ⟨e,h1,h2⟩
  ·simp at h
  ·exact⟨e,by simpa using h1,h2⟩
theorem Zy {ms:List Nat} {cs:List bi} (h:JE ms ops.toList cs=true):∀ i o so,ops[i]?=some o→cs[i]?=some so→ms.getD i 0=vJ ms o∧(∀ e∈o.after,Region.binds .any e=true→e.on<i)∧∀ j sj,j<i→cs[j]?=some sj→(ms.getD i 0).testBit j=true∨sj.indep so=true:=by
  intro i o so ho hso;unfold JE at h;grind
theorem WH {ms:List Nat} {cs:List bi} (hm:∀ i o so,ops[i]?=some o→cs[i]?=some so→ms.getD i 0=vJ ms o∧(∀ e∈o.after,Region.binds .any e=true→e.on<i)∧∀ j sj,j<i→cs[j]?=some sj→(ms.getD i 0).testBit j=true∨sj.indep so=true) (hlen:cs.length=ops.size)
    {listed:Array Bool} (hcl:∀ k o,ops[k]?=some o→listed.getD k false=true→∀ e∈o.after,Region.binds .any e=true→listed.getD e.on false=true) :
    ∀ i o,ops[i]?=some o→(∀ e∈o.after,Region.binds .any e=true→listed.getD e.on false=true)→∀ j,(ms.getD i 0).testBit j=true→listed.getD j false=true:=by
  intro i
  induction i using Nat.strongRecOn with
  | _ i ih =>
    intro o ho hd j hj;have hi:=(aqp.1 ho).1;have hso:cs[i]?=some cs[i]:=apR (by omega);obtain⟨h1,h2,_⟩:=hm i o _ ho hso;rw[h1] at hj;obtain⟨e,he,hb,h3⟩:=WG hj;rcases h3 with rfl | h3
    ·exact hd e he hb
    ·have hlt:=h2 e he hb;have hoe:ops[e.on]?=some ops[e.on]:=Array.getElem?_eq_getElem (by omega);exact ih e.on hlt _ hoe (hcl _ _ hoe (hd e he hb)) j h3
theorem VL {l:List (Nat×bi)} {p:Nat×bi} (hs:l.Pairwise fun x y=>x.1<y.1) (hp:p∈l):∃ l1 l2,l=l1++p::l2∧∀ q∈l1,q.1<p.1:=by
  obtain⟨l1,l2,rfl⟩:=List.append_of_mem hp;grind
theorem LU {ms:List Nat} {cs:List bi} (hlen:cs.length=ops.size) (hm:∀ i o so,ops[i]?=some o→cs[i]?=some so→ms.getD i 0=vJ ms o∧(∀ e∈o.after,Region.binds .any e=true→e.on<i)∧∀ j sj,j<i→cs[j]?=some sj→(ms.getD i 0).testBit j=true∨sj.indep so=true)
    (hQ:∀ a w,Nx G N Sin w0 K a w→Q .normal a w):∀ (n:Nat) (l:List (Nat×bi)) (listed:Array Bool) {σ:St} {a:Act} {w:World} {S:aT} {m:Mp},l.length=n→qD P H N w0.fx ops l→(∀ p∈l,cs[p.1]?=some p.2)→(l.Pairwise fun x y=>x.1<y.1) →
      listed.size=ops.size→(∀ j,listed.getD j true=false↔∃ so,(j,so)∈l)→(∀ k o,ops[k]?=some o→listed.getD k false=true→∀ e∈o.after,Region.binds .any e=true→listed.getD e.on false=true) →
      Inv G N Sin w0 σ a w S m→bg P G (l.map (·.2)) K σ→wpAny P .any ops Q n listed a w
  | 0,l,listed,σ,a,w,S,m,hn,_,_,_,_,hl,_,h,e=>by
    have:l=[]:=aqA.1 hn;subst this;refine⟨?_,hQ _ _ ⟨_,_,_,e,h⟩⟩;refine List.eq_nil_iff_forall_not_mem.2 fun i hi=>?_
    grind [mem_ready]
  | n+1,l,listed,σ,a,w,S,m,hn,hc,hcs,hsort,hsz,hl,hcl,h,e=>by
    have tf:∀ j,j<ops.size→¬ (∃ so,(j,so)∈l)→listed.getD j false=true:=by
      grind
    refine⟨fun hr=>?_,fun i hi=>?_⟩
    ·cases l with
     | nil=>simp at hn
     | cons p rest =>
       exfalso;obtain⟨o,ho,hco,hfx⟩:=hc p (by simp);have hp:p.1∈Region.ready .any ops listed:=by
         refine mem_ready.2 ⟨(hl p.1).2 ⟨p.2,by simp⟩,o,ho,fun ed he hb=>?_⟩;have hlt:=(hm p.1 o p.2 ho (hcs p (by simp))).2.1 ed he hb;have hsize:=(aqp.1 ho).1;refine tf _ (by omega) ?_;rintro⟨so,hso⟩;rw[List.pairwise_cons] at hsort;grind
       rw[hr] at hp;cases hp
    ·obtain⟨hun,o,ho,hedges⟩:=mem_ready.1 hi;obtain⟨so,hso⟩:=(hl i).1 hun;obtain⟨l1,l2,hsplit,hlt⟩:=VL hsort hso;have hanc:=WH hm hlen hcl i o ho hedges;have hind:∀ q∈l1,q.2.indep so=true:=by
       intro q hq;grind
     rw[hsplit] at e;have hc':qD P H N w0.fx ops (l1++(i,so)::l2):=hsplit ▸ hc;have hmv:=LS (p:=(i,so)) (l2:=l2) (K:=K) l1 hc' hind h e;obtain⟨r,h1,h2⟩:=vl.1 hmv;obtain⟨o',ho',hco,hfx⟩:=hc (i,so) hso;refine wpOp_mono ?_ (E9 ho' hco hfx h h1 h2);rintro a1 w1 ⟨σ1,S1,m1,k1,k2⟩;have hsub:∀ p,p∈l1++l2→p∈l:=fun p hp=>by
       grind
     have hsort2:(l1++l2).Pairwise fun x y=>x.1<y.1:=by
       grind
     have hnot:∀ s,(i,s)∉l1++l2:=by
       grind [List.pairwise_cons]
     have hisz:i<listed.size:=by rw[hsz]; exact (aqp.1 ho).1
     refine LU hlen hm hQ n (l1++l2) _ (by rw[hsplit] at hn; simp at hn ⊢; omega) (fun p hp=>hc p (hsub p hp)) (fun p hp=>hcs p (hsub p hp)) hsort2 (by simp[hsz]) (fun j=>?_) (fun k ok hok hk ed he hb=>?_) k2 k1
     ·by_cases hji:j=i
      ·simp_all
      ·rw[getD_set_ne true (fun h=>hji h.symm),hl j,hsplit];grind
     ·have up:∀ x,listed.getD x false=true→(listed.setIfInBounds i true).getD x false=true:=by
        intro x hx;by_cases hxi:i=x
        ·grind
        ·rw[getD_set_ne false hxi]; exact hx
      by_cases hki:i=k
      ·grind
      ·rw[getD_set_ne false hki] at hk;exact up _ (hcl k ok hok hk ed he hb)
theorem xL {α β:Type}:∀ (l:List α) (k:List β),l.length=k.length→(l.zip k).map (·.1)=l
  | [],_,_=>by simp
  | a::l,[],h=>by simp at h
  | a::l,b::k,h=>by simp only[List.zip_cons_cons,apW,xL l k (by simpa using h)]
theorem xM {α β:Type}:∀ (l:List α) (k:List β),l.length=k.length→(l.zip k).map (·.2)=k
  | [],[],_=>rfl
  | [],_::_,h=>by simp at h
  | a::l,[],h=>by simp at h
  | a::l,b::k,h=>by simp only[List.zip_cons_cons,apW,xM l k (by simpa using h)]
def Fr (r:Option Nat):Fence:={ fn:=fun _=>True,depth:=none,alive:=false,round:=r }
theorem PC {r:Option Nat} {n i:Nat} {K:Act→World→Prop} (hnd:∀ o:Oper,ops[i]?=some o→∀ c,o.op≠.defer c) (hQ:¬ LetsOut Q) (h:wpOp P ops Q i K a w):wpOpIn (Fr r) n P ops Q i K a w:=by
  unfold wpOp at h;unfold wpOpIn;cases ho:ops[i]? with
  | none=>rw[ho] at h; exact h
  | some o =>
    rw[ho] at h;simp only at h ⊢;split
    ·rename_i hw;rw[if_pos hw] at h;have h:=h.resolve_right fun k=>hQ k.2
     refine⟨fun _ _=>trivial,?_⟩;have hs:o.semAt (Fr r).round a.eval=execOp a.eval o:=by
       cases r with
       | none=>rfl
       | some l=>exact Oper.semAt_some l a.eval o (hnd o ho)
     rw[hs];unfold Oper.wp at h;cases hr:(execOp a.eval o).run P w with
     | ok x w' =>
       rw[hr] at h;cases x with
       | value v=>exact h
       | skip=>exact h
       | defer d=>exact h
       | enter f args=>exact⟨fun h=>(by cases h),(callsIn_wide (n:=n-1)).2 h⟩
       | row row args=>exact⟨fun h=>(by cases h),fun c cs _=>let ⟨v,w2,r,s⟩:=h c cs; ⟨v,w2,r,stepsIn_wide.2 s⟩⟩
       | _=>exact h.elim
     | halt x w' =>
       rw[hr] at h;cases x <;> first | exact h | exact h.elim
    ·rename_i hw;rw[if_neg hw] at h;exact⟨fun _ _=>trivial,h⟩
theorem AQ {r:Option Nat} {n:Nat} (hnd:∀ (i:Nat) (o:Oper),ops[i]?=some o→∀ c,o.op≠.defer c) (hQ:¬ LetsOut Q):∀ (l:List Nat) {a:Act} {w:World},wpOps P ops Q l a w→wpOpsIn (Fr r) n P ops Q l a w
  | [],_,_,h=>h
  | i::l,a,w,h=>by
    rw[wpOps_cons] at h;rw[wpOpsIn_cons];exact PC (hnd i) hQ (wpOp_mono (fun _ _ h=>AQ hnd hQ l h) h)
theorem NK {r:Option Nat} {n:Nat} (hnd:∀ (i:Nat) (o:Oper),ops[i]?=some o→∀ c,o.op≠.defer c) (hQ:¬ LetsOut Q):∀ (k:Nat) {listed:Array Bool} {a:Act} {w:World},wpAny P .any ops Q k listed a w→wpAnyIn (Fr r) n P .any ops Q k listed a w
  | 0,_,_,_,h=>h
  | k+1,listed,a,w,h=>⟨h.1,fun i hi=>PC (hnd i) hQ (wpOp_mono (fun _ _ h=>NK hnd hQ k h) (h.2 i hi))⟩
theorem EK {o:Oper} {so:bi} (h:jO P H ops N o=some so):∀ c,o.op≠.defer c:=by
  intro c e;have:=(LE h).1;simp[yD,e] at this
def Off (K:Act→World→Prop):Exit→Act→World→Prop | .normal,a,w=>K a w | _,_,_=>False
theorem Cb {K:Act→World→Prop}:¬ LetsOut (Off K):=fun ⟨_,_,h⟩=>h
theorem VX {r:Option Nat} {n id:Nat} {draws:Bool} {cs:List bi} (hc:E7 P H N ops draws=some cs) (hfx:∀ so∈cs,∀ t,so.dst=some t→w0.fx t=none) (h:Inv G N Sin w0 σ a w S m) (e:bg P G cs K σ) (hQ:∀ a w,Nx G N Sin w0 K a w→Q .normal a w):(Code.region id ops draws).wpIn (Fr r) n P Q a w:=by
  refine wpIn_mono (Q:=Off (Nx G N Sin w0 K)) ?_ fun e a w h=>by cases e <;> first | exact hQ _ _ h | exact h.elim
  clear hQ;have hQ:∀ a w,Nx G N Sin w0 K a w→Off (Nx G N Sin w0 K) .normal a w:=fun _ _ h=>h
  unfold E7 at hc;split at hc
  ·rename_i cs' hcs;have hall:aD (fun o so=>jO P H ops N o=some so) ops.toList cs':=mn (fun _ _ h=>h) hcs;have hlen:cs'.length=ops.size:=by have:=hall.length; simpa using this.symm
   have hzl:(List.range ops.size).length=cs'.length:=by simp[hlen]
   have hmem:∀ p∈(List.range ops.size).zip cs',p.1<ops.size∧cs'[p.1]?=some p.2:=by
     grind [aqs]
   have hfx':∀ so∈cs',∀ t,so.dst=some t→w0.fx t=none:=by
     grind
   have hnd:∀ (i:Nat) (o:Oper),ops[i]?=some o→∀ c,o.op≠.defer c:=by
     intro i o ho;obtain⟨so,h1,h2⟩:∃ so,cs'[i]?=some so∧jO P H ops N o=some so:=by
       have h1:i<cs'.length:=by rw[hlen]; exact (aqp.1 ho).1
       obtain⟨o',h2,h3⟩:=hall.get? (apR h1);grind
     exact EK h2
   have hcomp:qD P H N w0.fx ops ((List.range ops.size).zip cs'):=by
     intro p hp;obtain⟨h1,h2⟩:=hmem p hp;obtain⟨o,h3,h4⟩:=hall.get? h2;grind
   have e':cs'=cs→bg P G (((List.range ops.size).zip cs').map (·.2)) K σ:=by
     rintro rfl;rw[xM _ _ hzl]; exact e
   split at hc
   ·rename_i hd;cases hc;subst hd;have:=Fp hQ _ hcomp h (e' rfl);grind [xL,wpIn_region,AQ,Cb]
   ·rename_i hd;have hd':draws=true:=by simpa using hd
    subst hd';split at hc
    ·rename_i hk;cases hc;refine wpIn_region_any hk.1 (NK hnd Cb _ ?_);have hm:=Zy hk.2;have hzn:((List.range ops.size).zip cs).length=ops.size:=by simp[hlen]
     refine LU (G:=G) (N:=N) (Sin:=Sin) (w0:=w0) (H:=H) (K:=K) (Q:=Off (Nx G N Sin w0 K)) hlen hm hQ ops.size ((List.range ops.size).zip cs) (Array.replicate ops.size false) hzn hcomp (fun p hp=>(hmem p hp).2) ?_ (by simp) (fun j=>?_) (fun k o ho hk=>?_) (h.drew) (e' rfl)
     ·grind [List.pairwise_iff_getElem]
     ·constructor
      ·intro hh;have hj:j<ops.size:=by
         grind
       refine⟨cs[j]'(by omega),?_⟩;have h2:j<((List.range ops.size).zip cs).length:=by simp; omega
       have:((List.range ops.size).zip cs)[j]=(j,cs[j]'(by omega)):=by simp
       rw[← this];exact aqr h2
      ·rintro⟨so,hso⟩;have:=(hmem _ hso).1;simp_all
     ·exfalso;rw[ari] at hk;grind
    ·cases hc
  ·cases hc
theorem LW {e:MapEntry}:∀ (L:List MapEntry) (j:Nat),(L.map (·.born)).Nodup→L[j]?=some e→L.filter (fun x=>!(x.born==e.born))=L.eraseIdx j
  | [],j,_,h=>by simp at h
  | x::L,0,hn,h=>by
    simp_all
  | x::L,j+1,hn,h=>by
    rw[aqR] at h;rw[apW,arB] at hn;have:x.born≠e.born:=fun h2=>hn.1 (h2 ▸ aqa.2 ⟨e,aqX h,rfl⟩)
    rw[arR (by simpa using this),List.eraseIdx_cons_succ,LW L j hn.2 h]
theorem WI {E:Array MapEntry} {seen:Array Nat} {e:MapEntry} {j:Nat} (hn:(E.toList.map (·.born)).Nodup) (h:(qA E seen).toList[j]?=some e):(qA E (seen.push e.born)).toList=(qA E seen).toList.eraseIdx j:=by
  unfold qA at *
  simp only[Array.toList_filter] at *
  rw[← LW _ j (List.Nodup.sublist (List.Sublist.map _ List.filter_sublist) hn) h,List.filter_filter];grind
theorem aD.eraseIdx {α β:Type} {R:α→β→Prop}:∀ {l:List α} {m:List β},aD R l m→∀ j,aD R (l.eraseIdx j) (m.eraseIdx j)
  | _,_,.nil,_=>.nil
  | _,_,.cons _ h,0=>h
  | _,_,.cons h k,j+1=>.cons h (k.eraseIdx j)
theorem Zz {o:Oper} (it:Operand) (x:SX) (ho:o.op=.next it false) (hx:be it=some x) (h:Inv G N Sin w0 σ a w S m) {d:Nat} (hdst:o.dst=some d) (hd:d<N∧w0.fx d=none) (hn:BV σ d K (ev G σ.f x)):o.wp P a w (Nx G N Sin w0 K) Q:=by
  have hd':∀ t,o.dst=some t→t<N∧w0.fx t=none:=fun t ht=>by rw[hdst] at ht; cases ht; exact hd
  have hvx:=(h.operand hx).1;unfold BV at hn;split at hn
  ·rename_i id sz he;split at hn
   ·rename_i q left last hob;rw[he] at hvx;obtain⟨b,hm,hval⟩:=hvx;have hobj:=(h.obj id _ hob).1;unfold bT at hobj;rw[hm] at hobj;obtain⟨_,_,_,cur,ty,fz,hblk,_⟩:=hobj;have hval:a.eval it=.pointer (some ⟨b,0,none⟩):=by rw[hval]; simp
    have over:left=[]→(Instr.next (.pointer (some ⟨b,0,none⟩)) false o.type).run P w=.ok (.tuple #[.bool false]) w→o.wp P a w (Nx G N Sin w0 K) Q:=by
      intro e run;refine gg h hd' (v:=.tuple #[.bool false]) ?_ (x:=.tup [.c (.d (.bool false))]) ⟨[_],rfl,.cons (Reads.rw (.bool _)) .nil⟩ (fun i hi=>by simp[V.ids,W.ids,C.ids] at hi) (by rw[hdst]; exact hn.1 e);simp only[execOp,ho];rw[hval];exact dM run
    rcases hblk with ⟨h1,h2,h3⟩ | ⟨bm,c,seen,h1,h2,E,h3,h4,h5,h6⟩
    ·refine over h2 ?_;simp[Instr.next,getObj,Sem.run,h1,Result.andThen]
    ·rcases run_next_at (P:=P) w o.type b bm c c seen E c h1 h3 h4.2 (ap3 _) with ⟨hs,run⟩ | ⟨e,hem,w1,hw1,run⟩
     ·refine over ?_ run;have hl:=h5.length;have hs:(qA E seen).size=0:=hs;grind
     ·obtain⟨j,hj,hje⟩:=aqs (show e∈(qA E seen).toList from hem);have hj2:j<left.length:=by rw[← h5.length]; exact hj
      have hent:=h5.get j hj hj2;rw[hje] at hent;have heE:e∈E.toList:=(mem_left hem).1;have hI1:Inv G N Sin w0 σ a w1 S m:=by
        rcases hw1 with rfl | rfl
        ·exact h
        ·exact h.drew
      have heap1:w1.heap=w.heap:=by rcases hw1 with rfl | rfl <;> rfl
      have kp:bR S w w1:=uJ (fun b i hs=>(h.sin b i hs).1) (fun b _=>by rw[heap1]);have hI:=hI1.writeObj (ob':=.it q (left.eraseIdx j) (some left[j])) (y:=.mapIter (some bm) c (seen.push e.born) c) hob hm (by rw[heap1]; exact h1) rfl (fun _ _ _ e=>by cases e) rfl (fun _ _=>trivial) (fun w' _ _ _ k hb=>by
        have kE:∀ e p,t8 S w q e p→t8 S w' q e p:=fun e p h=>⟨h.1,(h.2.keep kp).keep k⟩
        refine .inr ⟨bm,c,seen.push e.born,hb,h2,E,k.map _ _ _ _ h2 (by rw[heap1]; exact h3),h4,?_,fun p hp=>?_⟩
        ·rw[WI h4.1 (by rw[apR hj,hje])];exact (h5.eraseIdx j).weak fun _ _ _ _ h=>kE _ _ h
        ·cases hp; exact⟨e,heE,seen,rfl,kE _ _ hent⟩) (fun j hj=>by cases hj)
      refine fM hI hd' (v:=.tuple #[.bool true,e.key,e.val]) ?_ (x:=.tup [.c (.d (.bool true)),.c (.d (.int q left[j].1)),.c (.d left[j].2)]) ⟨[_,_,_],rfl,.cons (Reads.rw (.bool _)) (.cons (by rw[hent.1]; exact Reads.rw (.int _ _)) (.cons ?_ .nil))⟩ (fun i hi=>by simp[V.ids,W.ids,C.ids] at hi) (by rw[hdst]; exact hn.2 j left[j] (apR hj2))
      ·simp only[execOp,ho];rw[hval];exact dM run
      ·refine Reads.rw (hent.2.keep (kp.trans ?_));refine⟨fun x i v hs hv=>?_,fun x s hs=>?_,fun x i E c hs hb=>?_⟩
       ·have hx:x≠b:=fun e=>(h.obj id _ hob).1.apart hm i (e ▸ hs)
        unfold World.cell? at *
        grind
       ·by_cases hx:x=b
        ·subst hx;unfold World.shape? at hs;rw[heap1,h1] at hs;cases hs
        ·unfold World.shape? at *
         grind
       grind
   ·exact hn.elim
  ·exact hn.elim
def CX (P:Program) (o:Oper):Option (Nat×Nat×Nat×SX×SX) :=
  match o.op,o.dst,o.guard with
  | .call c,some d,none=>match c.callee,c.argTypes.toList,c.args.toList with
    | .builtin .append,[t,u],[x,y]=>match gZ P t,be x,be y,P.underlying u with
      | some (e,s,b,_),some x,some y,some (.slice e')=>if e'=e then some (d,s,b,x,y) else none
      | _,_,_,_=>none
    | _,_,_=>none
  | _,_,_=>none
def F4 (P:Program) (H:Hint) (N:Nat) (ops:Array Oper) (draws:Bool):Option bp :=
  match H.md.find? fun p=>p.2.isEmpty&&ops.toList.any fun o=>o.dst==some p.1 with
  | some p=>let k:=ops.toList.findIdx fun o=>o.dst==some p.1
    match ops[k]? with
    | some o=>match CX P o,bE (jO P H ops N) (ops.toList.take k),bE (jO P H ops N) (ops.toList.drop (k+1)) with
      | some (d,s,b,x,y),some pre,some rest=>if draws=false∧d<N then some (.appD pre d s b x y rest) else none
      | _,_,_=>none
    | none=>none
  | none=>none
theorem XG {o:Oper} {d s b:Nat} {x y:SX} (ha:CX P o=some (d,s,b,x,y)) (h:Inv G N Sin w0 σ a w S m) (hd:d<N∧w0.fx d=none) (hn:tR G σ d s b x y K):o.wp P a w (Nx G N Sin w0 K) Q∧o.guard=none∧∀ c,o.op≠.defer c:=by
  grind [CX,tR,Nt]
theorem WJ {r:Option Nat} {n id:Nat} {draws:Bool} {sc:bp} {Q':AX→St→Prop} (hc:F4 P H N ops draws=some sc) (hfx:∀ t∈sc.writes,w0.fx t=none) (h:Inv G N Sin w0 σ a w S m) (e:cE P G sc Q' σ) (hQ:∀ a w,Nx G N Sin w0 (Q' .nrm) a w→Q .normal a w):(Code.region id ops draws).wpIn (Fr r) n P Q a w:=by
  refine wpIn_mono (Q:=Off (Nx G N Sin w0 (Q' .nrm))) ?_ fun e a w h=>by cases e <;> first | exact hQ _ _ h | exact h.elim
  clear hQ;unfold F4 at hc;split at hc
  ·rename_i p hp;dsimp only at hc;generalize hk:(ops.toList.findIdx fun o=>o.dst==some p.1)=k at hc;split at hc
   ·rename_i o hk0;split at hc
    ·rename_i d s b x y pre rest hat hpre hrest;split at hc
     ·rename_i hd;obtain⟨rfl,hdN⟩:=hd;cases hc;have hkl:k<ops.size:=(aqp.1 hk0).1;have hkt:k<ops.toList.length:=by rw[arC]; exact hkl
      have all1:aD (fun o so=>jO P H ops N o=some so) (ops.toList.take k) pre:=mn (fun _ _ h=>h) hpre;have all2:aD (fun o so=>jO P H ops N o=some so) (ops.toList.drop (k+1)) rest:=mn (fun _ _ h=>h) hrest;have l1:=all1.length;have l2:=all2.length;rw[ap0,aq0 (by omega)] at l1;rw[ap5,arC] at l2;have g1:∀ i,i<k→ops[i]?=(ops.toList.take k)[i]?:=fun i hi=>by rw[List.getElem?_take_of_lt hi,aq1]
      have g2:∀ i,ops[k+1+i]?=(ops.toList.drop (k+1))[i]?:=fun i=>by rw[aq7,aq1]
      have c1:qD P H N w0.fx ops ((List.range k).zip pre):=by
        intro p hp;obtain⟨i,hi,rfl⟩:=aqs hp;have hi1:i<k:=by simp at hi; omega
        have hi2:i<pre.length:=by omega
        have hi3:i<(ops.toList.take k).length:=by rw[all1.length]; exact hi2
        simp only[List.getElem_zip,aq8];exact⟨(ops.toList.take k)[i],by rw[g1 i hi1,apR hi3],all1.get i hi3 hi2,fun t ht=>hfx t (aqL _ (aru.2 ⟨pre[i],aqr hi2,ht⟩))⟩
      have c2:qD P H N w0.fx ops (((List.range (ops.size-(k+1))).map (k+1+·)).zip rest):=by
        intro p hp;obtain⟨i,hi,rfl⟩:=aqs hp;have hi2:i<rest.length:=by simp at hi; omega
        have hi3:i<(ops.toList.drop (k+1)).length:=by rw[all2.length]; exact hi2
        simp only[List.getElem_zip,aqn,aq8];exact⟨(ops.toList.drop (k+1))[i],by rw[g2,apR hi3],all2.get i hi3 hi2,fun t ht=>hfx t (aqi _ (aqf _ (aru.2 ⟨rest[i],aqr hi2,ht⟩)))⟩
      have z1:(List.range k).length=pre.length:=by rw[aqV,← l1]
      have z2:((List.range (ops.size-(k+1))).map (k+1+·)).length=rest.length:=by rw[ap1,aqV]; exact l2
      have hrg:List.range ops.size=List.range k++(k::(List.range (ops.size-(k+1))).map (k+1+·)):=by
        rw[show ops.size=k+(1+(ops.size-(k+1))) by omega,List.range_add,show 1+(ops.size-(k+1))=(ops.size-(k+1))+1 by omega,List.range_succ_eq_map,apW,aqQ,ark]
        congr 2
        rw[show k+(ops.size-(k+1)+1)-(k+1)=ops.size-(k+1) by omega];grind [aqu]
      have nd:∀ {so:bi} {o':Oper},jO P H ops N o'=some so→∀ c,o'.op≠.defer c:=fun h=>EK h
      have hnd:∀ (i:Nat) (o':Oper),ops[i]?=some o'→∀ c,o'.op≠.defer c:=by
        intro i o' ho;rcases Nat.lt_trichotomy i k with hi | rfl | hi
        ·rw[g1 i hi] at ho;obtain⟨hi',rfl⟩:=aqd.1 ho;exact nd (all1.get i hi' (by rw[← all1.length]; exact hi'))
        ·grind [CX]
        ·rw[show i=k+1+(i-(k+1)) by omega,g2] at ho;obtain⟨hi',rfl⟩:=aqd.1 ho;exact nd (all2.get _ hi' (by rw[← all2.length]; exact hi'))
      refine wpIn_region (AQ hnd Cb _ ?_);rw[hrg];have e:bg P G pre (fun τ=>tR G τ d s b x y (bg P G rest (Q' .nrm))) σ:=e;have:=Fa (Q:=Off (Nx G N Sin w0 (Q' .nrm))) (rest:=k::(List.range (ops.size-(k+1))).map (k+1+·)) ?_ _ c1 h (by rw[xM _ _ z1]; exact e)
      ·rw[xL _ _ z1] at this;exact this
      ·rintro a1 w1 ⟨σ1,S1,m1,k1,k2⟩;rw[wpOps_cons];unfold wpOp;simp only[hk0];obtain⟨hop,hgd,_⟩:=XG (P:=P) (K:=fun s=>bg P G rest (Q' .nrm) s) (Q:=Off (Nx G N Sin w0 (Q' .nrm))) hat k2 ⟨hdN,hfx d (aqi _ (aqj ..))⟩ k1;rw[if_pos (by simp[Region.wanted,hgd])];refine .inl (Oper.wp_mono (fun a2 w2 hk2=>?_) hop);obtain⟨σ2,S2,m2,j1,j2⟩:=hk2;have:=Fp (K:=Q' .nrm) (Q:=Off (Nx G N Sin w0 (Q' .nrm))) (fun _ _ h=>h) _ c2 j2 (by rw[xM _ _ z2]; exact j1);rw[xL _ _ z2] at this;exact this
     ·cases hc
    ·cases hc
   ·cases hc
  ·cases hc
def F5 (P:Program) (H:Hint) (N:Nat) (ops:Array Oper) (draws:Bool):Option bp :=
  match ops.toList with
  | o::rest=>match o.op,o.dst,o.guard with
    | .next it false,some d,none=>match be it,bE (jO P H ops N) rest with
      | some x,some cs=>if draws=false∧d<N then some (.nextM d x cs) else none
      | _,_=>none
    | _,_,_=>none
  | []=>none
theorem WK {r:Option Nat} {n id:Nat} {draws:Bool} {sc:bp} {Q':AX→St→Prop} (hc:F5 P H N ops draws=some sc) (hfx:∀ t∈sc.writes,w0.fx t=none) (h:Inv G N Sin w0 σ a w S m) (e:cE P G sc Q' σ) (hQ:∀ a w,Nx G N Sin w0 (Q' .nrm) a w→Q .normal a w):(Code.region id ops draws).wpIn (Fr r) n P Q a w:=by
  refine wpIn_mono (Q:=Off (Nx G N Sin w0 (Q' .nrm))) ?_ fun e a w h=>by cases e <;> first | exact hQ _ _ h | exact h.elim
  clear hQ;unfold F5 at hc;split at hc
  ·rename_i o rest hops;split at hc
   ·rename_i it d h1 h2 h3;split at hc
    ·rename_i x cs hx hcs;split at hc
     ·rename_i hd;obtain⟨rfl,hdN⟩:=hd;cases hc;have hall:aD (fun o so=>jO P H ops N o=some so) rest cs:=mn (fun _ _ h=>h) hcs;have hsz:ops.size=rest.length+1:=by rw[← arC,hops]; rfl
      have hget:∀ i,ops[i+1]?=rest[i]?:=fun i=>by rw[← aq1,hops,aqR]
      have h0:ops[0]?=some o:=by rw[← aq1,hops]; rfl
      have hcomp:qD P H N w0.fx ops (((List.range rest.length).map Nat.succ).zip cs):=by
        intro p hp;obtain⟨i,hi,rfl⟩:=aqs hp;have hi1:i<rest.length:=by simp at hi; omega
        have hi2:i<cs.length:=by simp at hi; omega
        simp only[List.getElem_zip,aqn,aq8];exact⟨rest[i],by rw[hget,apR hi1],hall.get i hi1 hi2,fun t ht=>hfx t (aqf _ (aru.2 ⟨cs[i],aqr hi2,ht⟩))⟩
      have hlen:((List.range rest.length).map Nat.succ).length=cs.length:=by simpa using hall.length
      have hnd:∀ (i:Nat) (o:Oper),ops[i]?=some o→∀ c,o.op≠.defer c:=by
        intro i o' ho;cases i with
        | zero=>rw[h0] at ho; cases ho; intro c e; rw[h1] at e; cases e
        | succ i =>
          rw[hget] at ho;obtain⟨so,hso⟩:∃ so,jO P H ops N o'=some so:=by
            obtain⟨hi,rfl⟩:=aqd.1 ho;exact⟨_,hall.get i hi (by rw[← hall.length]; exact hi)⟩
          exact EK hso
      refine wpIn_region (AQ hnd Cb _ ?_);rw[hsz,List.range_succ_eq_map,wpOps_cons];unfold wpOp;simp only[h0];have hw:Region.wanted o (yielded ops a.tmps)=true:=by simp[Region.wanted,h3]
      rw[if_pos hw];refine .inl ?_;have hop:=Zz (P:=P) (K:=fun s=>bg P G cs (Q' .nrm) s) (Q:=Off (Nx G N Sin w0 (Q' .nrm))) it x h1 hx h h2 ⟨hdN,hfx d (aqj ..)⟩ e;refine Oper.wp_mono (fun a1 w1 hk=>?_) hop;obtain⟨σ1,S1,m1,k1,k2⟩:=hk;have:=Fp (K:=Q' .nrm) (Q:=Off (Nx G N Sin w0 (Q' .nrm))) (fun _ _ h=>h) _ hcomp k2 (by rw[xM _ _ hlen]; exact k1);rw[xL _ _ hlen] at this;exact this
     ·cases hc
    ·cases hc
   ·cases hc
  ·cases hc
end
section
variable (P:Program) (H:Hint) (N:Nat)
def G6 (H:Hint) (id:Nat) (c:bp):bp:=match H.gh.find? fun p=>p.1==id with | some p=>.ghost p.2 c | none=>c
def gF (inr:Bool):Code→Option bp
  | .skip=>some .skip
  | .region id ops draws=>(match F4 P H N ops draws with | some c=>some c | none=>match E7 P H N ops draws with | some l=>some (bp.reg l) | none=>match F5 P H N ops draws with | some c=>some c | none=>if H.bad=true then some (bp.reg [⟨none,.lenStr .u,none⟩]) else none).map (G6 H id)
  | .seq a b=>match gF inr a,gF inr b with | some x,some y=>some (.seq x y) | _,_=>none
  | .cond c a b=>match be c,gF inr a,gF inr b with | some c,some x,some y=>some (.cond c x y) | _,_,_=>none
  | .block id c=>(gF inr c).map (.block id)
  | .loop c=>(gF inr c).map .loop
  | .exit id=>some (.exit id)
  | .scope c=>gF inr c
  | .label _=>some .skip
  | .ret=>some .ret
  | .rangeFunc g ps a b=>if inr=false∧ps.all (fun t=>decide (t<N))=true then match be g,gF true a,gF true b with | some x,some a,some b=>some (.rangeF x ps.toList a b) | _,_,_=>none else none
  | _=>none
def ym:ResultVar→Option (Nat×Option Kd)
  | .tmp t=>some (t,none)
  | .cell t ty=>(ga P ty).map fun kd=>(t,some kd)
def aM (fn:Func):Option aO :=
  match fn.body with
  | some c=>match gF P H fn.ntmps false c,bE (ym P) fn.results.toList with
    | some body,some res=>if fn.params.size+fn.nfree≤fn.ntmps then some ⟨fn.params.size+fn.nfree,fn.ntmps,body,res⟩ else none
    | _,_=>none
  | none=>none
end
section
variable {P:Program} {G:au} {N:Nat} {Sin:aT} {w0:Gh} {σ:St} {a:Act} {w:World} {S:aT} {m:Mp} {H:Hint}
theorem Inv.ent {τ:St} (h:Inv G N Sin w0 σ a w S m) (e:fv σ τ):∃ m',Inv G N Sin w0 τ a w S m':=by
  obtain⟨⟨g,g1,g2,g3⟩,g4,g5⟩:=e;refine⟨fun i=>m (g i),h.size,h.defers,fun t=>?_,g4,fun i o ho=>⟨?_,g5 i o ho⟩,fun i j b s s' h1 h2 h3 h4=>?_,h.sin,h.sub,h.glob,h.below,h.oth,h.kso,h.sso,h.fix⟩
  ·rcases g1 t with e | e
   ·rw[e]; trivial
   ·have:=h.slot t;rw[e] at this;exact this.ren
  ·have hob:=(h.obj (g i) _ (g2 i o ho)).1;unfold bT at hob ⊢
   show match m (g i) with | none=>_ | some (b,sz)=>_
   split at hob
   ·obtain⟨sz,e⟩:=hob;rename_i hm;rw[hm];cases o with
    | row s es=>exact⟨sz,e⟩
    | _=>cases e
   ·rename_i b sz hm;rw[hm];obtain⟨k1,k2,k3,cur,ty,fz,k4,k5,k6⟩:=hob;refine⟨?_,k2,k3,cur,ty,fz,k4.ren,k5,k6.ren⟩;rw[← k1];cases o <;> rfl
  ·refine g3 i j h1 h2 ?_;obtain⟨oi,hi⟩:=aqe.1 h1;obtain⟨oj,hj⟩:=aqe.1 h2;exact h.inj (g i) (g j) b s s' (by rw[g2 i oi hi]; simp) (by rw[g2 j oj hj]; simp) h3 h4
theorem NL {p:Nat→Prop} (h:∃ n,p n):∃ n,p n∧∀ k,p k→n≤k:=by
  obtain⟨n,hn⟩:=h
  induction n using Nat.strongRecOn with
  | _ n ih =>
    grind
theorem V5 {F:Fence} {k:Nat} {c:Code} {Q:Exit→Act→World→Prop} (I:Nat→Act→World→Prop) {n:Nat} (h:I n a w) (round:∀ n a w,I n a w→c.wpIn F k P (Exit.then (fun a' w'=>∃ n',n'<n∧I n' a' w') Q) a w):(Code.loop c).wpIn F k P Q a w:=by
  have hμ:∃ μ:Act→World→Nat,∀ a w,(∃ n,I n a w)→I (μ a w) a w∧∀ k,I k a w→μ a w≤k:=by
    have:∀ p:Act×World,∃ k,(∃ n,I n p.1 p.2)→I k p.1 p.2∧∀ j,I j p.1 p.2→k≤j:=by
      intro p;by_cases hp:∃ n,I n p.1 p.2
      ·grind [NL]
      ·exact⟨0,fun h=>absurd h hp⟩
    obtain⟨f,hf⟩:=Classical.axiomOfChoice this;exact⟨fun a w=>f (a,w),fun a w=>hf (a,w)⟩
  obtain⟨μ,hμ⟩:=hμ;refine wpIn_loop (fun a w=>∃ n,I n a w) μ ⟨n,h⟩ fun a w hI=>?_
  refine wpIn_mono (round _ a w (hμ a w hI).1) fun e a' w' he=>?_
  grind
def AX.toExit:AX→Exit
  | .nrm=>.normal
  | .ex id=>.exit id
  | .ret=>.ret
def AX.toCode:AX→Code
  | .nrm=>.skip
  | .ex id=>.exit id
  | .ret=>.ret
def DO (G:au) (N:Nat) (Sin:aT) (w0:Gh) (Q':AX→St→Prop) (Q:Exit→Act→World→Prop):Prop:=∀ e σ a w S m,Q' e σ→Inv G N Sin w0 σ a w S m→Q e.toExit a w
structure fQ (l:Nat) (W W':World):Prop where
  size:W.heap.size≤W'.heap.size
  same:∀ (k:Nat) (o:Obj),k≠l→W.heap[k]?=some o→wO o=false→W'.heap[k]?=some o
theorem fQ.of {l:Nat} {A B:World} (h:eX A B):fQ l A B:=⟨h.size,fun k o _ hk ho=>h.same k o hk ho⟩
theorem fQ.trans {l:Nat} {A B C:World} (h:fQ l A B) (k:fQ l B C):fQ l A C :=
  ⟨aqG h.size k.size,fun i o hl hi ho=>k.same i o hl (h.same i o hl hi ho) ho⟩
theorem fQ.put (W:World) (l:Nat) (o:Obj):fQ l W (W.putObj l o) :=
  ⟨(grownBy_putObj' W l o).size,fun k _ hl hk _=>(World.putObj_heap_other hl).trans hk⟩
theorem fQ.old {l:Nat} {A B C:World} (h:eX A B) (k:fQ l B C) (hl:A.heap.size≤l):eX A C :=
  ⟨aqG h.size k.size,fun i o hi ho=>k.same i o (fun e=>by have:=(aqp.1 hi).1; omega) (h.same i o hi ho) ho⟩
theorem l9.but {B l:Nat} {w w':World} (k:fQ l w w') (hl:∀ ds,w.heap[l]?≠some (.deferred ds)):∀ {ds:List Deferred},l9 B w ds→l9 B w' ds
  | [],_=>trivial
  | _::_,⟨⟨D,h1,h2,h3,h4⟩,h5⟩=>⟨⟨D,h1,h2,k.same _ _ (fun e=>hl _ (e ▸ h3)) h3 rfl,h4⟩,h5.but k hl⟩
def kv (w w':World):Prop:=∀ (b:Nat) o,w.heap[b]?=some o→wO o=true→w'.heap[b]?=some o
theorem kv.keeps {w w':World} (h:kv w w') (S:aT):bR S w w':=by
  refine⟨fun b i v _ hv=>?_,fun b s hs=>?_,fun b i E c _ hb=>h b _ hb rfl⟩
  ·unfold World.cell? at hv ⊢;cases hb:w.heap[b]? with
   | none=>simp[hb] at hv
   | some o =>
     cases o with
     | cells cur ty fz=>rw[h b _ hb rfl]; rw[hb] at hv; exact hv
     | _=>simp[hb] at hv
  ·unfold World.shape? at hs ⊢;cases hb:w.heap[b]? with
   | none=>simp[hb] at hs
   | some o =>
     cases o with
     | cells cur ty fz=>rw[h b _ hb rfl]; rw[hb] at hs; exact hs
     | _=>simp[hb] at hs
theorem kv.put {w:World} {l:Nat} {o o':Obj} (hl:w.heap[l]?=some o) (ho:wO o=false):kv w (w.putObj l o'):=fun b x hb hx=>by
  grind [World.putObj_heap_other]
theorem xV {B:Nat} {w:World} {l:Nat} {o:Obj} (o':Obj) (hl:B≤l) (h:w.heap[l]?=some o):Below B w (w.putObj l o') :=
  (Below.refl B w).grown (grownBy_putObj' w l o') (by have:=(aqp.1 h).1; omega) (fun k e=>by cases e; omega)
theorem Inv.turn (h:Inv G N Sin w0 σ a w S m) {w':World} (hc:kv w w') (hsz:w.heap.size≤w'.heap.size) {w1:Gh} (e1:w1.toWorld=w0.toWorld) (below:dz w0.heap.size w0.ext w0 w') {a':Act} (hts:a'.tmps.size=a.tmps.size)
    (ht:∀ t,σ.f t=.undef∨a'.tmps.getD t undef=a.tmps.getD t undef) (hdef:l9 w0.heap.size w' a'.defers) (oth:eX w1.wo w') (kso:bR w1.so w1.wo w') (sso:∀ b i,w1.so b i→S b i) (fix:∀ t v,w1.fx t=some v→a'.tmps.getD t undef=v) (e2:w1.ext=w0.ext:=by rfl) :
    Inv G N Sin w1 σ a' w' S m:=by
  have k:=hc.keeps S;have hmay:w1.may=w0.may:=by unfold Gh.may; rw[e1,e2]
  refine⟨hts.trans h.size,by rw[e1]; exact hdef,fun t=>?_,h.used,fun id o ho=>?_,h.inj,fun b i hs=>?_,h.sub,h.glob.step k (fun _ _ h=>h),by rw[e1,e2]; exact below,oth,kso,sso,fix⟩
  ·rcases ht t with e | e
   ·rw[e]; trivial
   ·rw[e]; exact (h.slot t).keep k
  ·refine⟨?_,(h.obj id o ho).2⟩;rw[hmay];refine (h.obj id o ho).1.step k (fun _ _ h=>h) (fun _ _=>rfl) rfl fun b s hm=>⟨?_,(h.obj id o ho).1.apart hm⟩
   have:=(h.obj id o ho).1;unfold bT at this;rw[hm] at this;obtain⟨_,_,_,cur,ty,fz,h4,_⟩:=this;obtain⟨x,h5,h6⟩:∃ x,w.heap[b]?=some x∧wO x=true:=by
     cases o with
     | row s es=>exact⟨_,h4,rfl⟩
     | box cs=>exact⟨_,h4,rfl⟩
     | mp q es=>obtain⟨E,c,h5,_⟩:=h4; exact⟨_,h5,rfl⟩
     | it q l p=>rcases h4 with ⟨h5,_⟩ | ⟨_,_,_,h5,_⟩ <;> exact⟨_,h5,rfl⟩
   rw[hc b x h5 h6,h5]
  ·rw[hmay];exact⟨Nat.lt_of_lt_of_le (h.sin b i hs).1 hsz,(h.sin b i hs).2⟩
theorem Inv.puts:∀ {ps:List Nat} {us:List Value} {r:List D} {σ:St} {a:Act},Inv G N Sin w0 σ a w S m→aD (fun v x=>RW (fun _=>none) S w v (.c (.d x))) us r→(∀ t∈ps,t<N∧w0.fx t=none)→r.length=ps.length →
    Inv G N Sin w0 ⟨v8 σ.f ps r,σ.h,σ.u⟩ { a with tmps:=(ps.zip us).foldl (fun t p=>t.setIfInBounds p.1 p.2) a.tmps } w S m
  | [],us,r,σ,a,h,hr,_,hl=>by
    have:r=[]:=aqA.1 hl;subst this;exact h
  | p::ps,us,r,σ,a,h,hr,hp,hl=>by
    cases hr with
    | nil=>cases hl
    | cons h1 h2 =>
      have:=h.put (some p) (fun t e=>by cases e; exact hp p (by simp)) (RV.mono (S:=S) (fun _ _ h=>h) (x:=vd _) (RW.congr h1 (fun i hi=>by cases hi))) (fun i hi=>by cases hi);exact this.puts h2 (fun t ht=>hp t (by simp[ht])) (by simpa using hl)
theorem V6 {g:Operand} {ps:Array Tmp} {asg body:Code} {x:SX} {sa sb:bp} (hx:be g=some x) (hps:∀ t∈ps.toList,t<N)
    (ha:∀ {w1:Gh} {r:Option Nat} {n:Nat} {Q':AX→St→Prop} {Q:Exit→Act→World→Prop} {σ:St} {a:Act} {w:World} {S:aT} {m:Mp},(∀ t∈sa.writes,w1.fx t=none)→DO G N Sin w1 Q' Q→Inv G N Sin w1 σ a w S m→cE P G sa Q' σ→asg.wpIn (Fr r) n P Q a w)
    (hb:∀ {w1:Gh} {r:Option Nat} {n:Nat} {Q':AX→St→Prop} {Q:Exit→Act→World→Prop} {σ:St} {a:Act} {w:World} {S:aT} {m:Mp},(∀ t∈sb.writes,w1.fx t=none)→DO G N Sin w1 Q' Q→Inv G N Sin w1 σ a w S m→cE P G sb Q' σ→body.wpIn (Fr r) n P Q a w)
    {n:Nat} {Q':AX→St→Prop} {Q:Exit→Act→World→Prop} (hp:DO G N Sin w0 Q' Q) (h:Inv G N Sin w0 σ a w S m) (e:cE P G (.rangeF x ps.toList sa sb) Q' σ):(Code.rangeFunc g ps asg body).wpIn (Fr none) n P Q a w:=by
  obtain⟨gf,caps,xs,f0,h0,u0,I,hev,hseq,hlen,hent,hun,hI0,hround,hdone⟩:=e;have hop:RV m S w (a.eval g) (ev G σ.f x):=(h.operand hx).1;rw[hev] at hop;obtain⟨lb,hg,hlb⟩:=VW (show Reads S w (a.eval g) (.fn gf caps) from hop);obtain⟨m0,hinv0⟩:=h.ent hent;refine wpIn_rangeFunc fun fn hfn=>?_
  obtain⟨rec,hrec⟩:∃ rec:LoopState→Option Code→Loop,rec=fun st pe=>{ state:=st,pending:=pe,fn,tmps:=a.tmps,params:=ps,assign:=asg,body,defers:=w.heap.size }:=⟨_,rfl⟩
  obtain⟨W1,hW1⟩:∃ W1,(w.alloc (.deferred (some []))).alloc (.loop (rec .ready none))=W1:=⟨_,rfl⟩
  obtain⟨a2,ha2⟩:∃ a2:Act,{ a with defers:={ target:=.collected w.heap.size,args:=#[] }::a.defers }=a2:=⟨_,rfl⟩
  have hL1:W1.heap[w.heap.size+1]?=some (.loop (rec .ready none)):=by
    grind [World.alloc_heap_new,World.size_alloc]
  have hK1:W1.heap[w.heap.size]?=some (.deferred (some [])):=by
    rw[← hW1]; exact (Below.heap_alloc _ _ _ (by simp)).trans (World.alloc_heap_new w _)
  have hold:∀ b,b<w.heap.size→W1.heap[b]?=w.heap[b]?:=fun b hlt=>by
    rw[← hW1]; exact (Below.heap_alloc _ _ _ (by simp; omega)).trans (Below.heap_alloc w _ b hlt)
  have hs1:W1.heap.size=w.heap.size+2:=by rw[← hW1]; simp
  have hko1:eX w W1:=Lw hold (by omega);have hw0:w0.heap.size≤w.heap.size:=h.bsize;have hbel1:dz w0.heap.size w0.ext w0 W1:=by
    rw[← hW1]; exact (h.below.step (ap3 _) ((Below.refl _ _).alloc (ap3 _) _)).step (ap3 _) ((Below.refl _ _).alloc (ap3 _) _)
  have hsame1:kv w W1:=fun b x hb _=>(hold b (aqp.1 hb).1).trans hb
  have hinv1:Inv G N Sin w0 ⟨f0,h0,u0⟩ a2 W1 S m0:=by
    subst ha2;refine hinv0.turn hsame1 (by omega) rfl hbel1 rfl (fun t=>.inr rfl) ⟨⟨w.heap.size,rfl,hw0,hK1,fun d' hd' e=>?_⟩,h.defers.keep hko1⟩ (h.oth.trans hko1) ?_ h.sso h.fix
    ·have key:∀ {ds:List Deferred},l9 w0.heap.size w ds→d'∈ds→d'.target≠.collected w.heap.size:=by
       intro ds
       induction ds with
       | nil=>intro _ h; cases h
       | cons d ds ih =>
         rintro⟨⟨D,h1,h2,h3,h4⟩,h5⟩ hm e;grind
     exact key h.defers hd' e
    ·exact h.kso.trans (hsame1.keeps _)
  have hat:a2.tmps=a.tmps:=by subst ha2; rfl
  refine⟨w.heap.size+1,[{ target:=.collected w.heap.size,args:=#[] }],W1,{ target:=.fn (.func gf) lb.toArray,args:=#[.func (.yield (w.heap.size+1)) #[] #[]] },W1,gf,
    #[.func (.yield (w.heap.size+1)) #[] #[]]++lb.toArray,W1,?_,?_,fun _ _=>trivial,?_,fun h=>(by cases h),?_⟩
  ·rw[← hW1,hrec]; exact run_enterLoop_outer _ _ _ _ _
  ·simp only[resolve,hg];simp[go_sem]
  ·simp[invoke,go_sem,hseq.1]
  ·
   obtain⟨J,hJ⟩:∃ J:LoopState→Option Code→(aI→(Nat→Bool)→Prop)→World→Prop,J=fun st pe R W =>
     ∃ h u S' m',R h u∧Inv G N Sin w0 ⟨f0,h,u⟩ a2 W S' m'∧W.heap[w.heap.size+1]?=some (.loop (rec st pe))∧(∀ b i,S b i→S' b i)∧bR S W1 W∧W1.heap.size≤W.heap.size:=⟨_,rfl⟩
   have Jgrow:∀ st pe R W W',J st pe R W→Below W.heap.size W W'→J st pe R W':=by
     intro st pe R W W' hj hbl;rw[hJ] at hj ⊢;obtain⟨h',u',S',m',k1,k2,k3,k4,k5,k6⟩:=hj;have hb:∀ b,b<W.heap.size→W'.heap[b]?=W.heap[b]?:=fun b hlt=>hbl.block b hlt
     refine⟨h',u',S',m',k1,k2.grow hb (k2.below.step (ap3 _) hbl) hbl.size,(hb _ (aqp.1 k3).1).trans k3,k4,k5.trans (uJ (fun b i hs=>(k2.sin b i (k4 b i hs)).1) hb),aqG k6 hbl.size⟩
   have key:=hseq.2 (n-1) W1 S lb (fun b i hs=>by have:=(h.sin b i hs).1; omega) (h.glob.step (hsame1.keeps S) (fun _ _ h=>h)) ?_ (w.heap.size+1) (fun k=>J .ready none (I k)) (fun W=>∃ c:AX,J .done (some c.toCode) (fun h u=>Q' c ⟨f0,h,u⟩∧c≠.nrm) W) ?_ (fun k W W'=>Jgrow _ _ _ W W') (fun W W'=>?_) ?_ ?_
   ·refine CallsIn.mono key ?_;rintro e W2 ⟨⟨v,rfl⟩,hj | ⟨c,hj⟩⟩
    ·rw[hJ] at hj;obtain⟨h',u',S',m',k1,k2,k3,k4,k5,k6⟩:=hj;refine⟨none,_,by have:=run_endLoop (P:=P) k3 (by rw[hrec]; simp); rw[hrec] at this; exact this,?_⟩
     show Q .normal { a with defers:=[{ target:=.collected w.heap.size,args:=#[] }]++a.defers } _
     rw[List.singleton_append,ha2]
     refine hp .nrm _ _ _ S' m' (hdone h' u' k1) (k2.turn (kv.put k3 rfl) (grownBy_putObj' _ _ _).size rfl (k2.below.trans (dz.of (xV _ (by omega) k3))) rfl (fun t=>.inr rfl) (k2.defers.but (fQ.put _ _ _) fun ds e=>by rw[k3] at e; cases e)
       ((fQ.old k2.oth (fQ.put _ _ _) (by have:=h.oth.size; omega))) (k2.kso.trans ((kv.put k3 rfl).keeps _)) k2.sso k2.fix)
    ·rw[hJ] at hj;obtain⟨h',u',S',m',⟨k1,kc⟩,k2,k3,k4,k5,k6⟩:=hj;refine⟨some c.toCode,_,by have:=run_endLoop (P:=P) k3 (by rw[hrec]; simp); rw[hrec] at this; exact this,?_⟩
     show c.toCode.wpIn (Fr none) n P Q { a with defers:=[{ target:=.collected w.heap.size,args:=#[] }]++a.defers } _
     rw[List.singleton_append,ha2]
     have hq:=hp c _ _ _ S' m' k1 (k2.turn (kv.put (o':=.loop { rec .done (some c.toCode) with state:=.exhausted }) k3 rfl) (grownBy_putObj' _ _ _).size rfl (k2.below.trans (dz.of (xV _ (by omega) k3))) rfl (fun t=>.inr rfl) (k2.defers.but (fQ.put _ _ _) fun ds e=>by rw[k3] at e; cases e)
       ((fQ.old k2.oth (fQ.put _ _ _) (by have:=h.oth.size; omega))) (k2.kso.trans ((kv.put k3 rfl).keeps _)) k2.sso k2.fix)
     rw[hrec] at hq;cases c with
     | nrm=>exact absurd rfl kc
     | ex id=>exact wpIn_exit hq
     | ret=>exact wpIn_ret hq
   ·refine hlb.weak fun v d _ _ hr=>?_
    exact Reads.rw (hr.keep (hsame1.keeps S))
   ·grind
   ·rintro⟨c,hj⟩ hbl;exact⟨c,Jgrow _ _ _ W W' hj hbl⟩
   ·
    intro k r W us hr hj hus;rw[hJ] at hj;obtain⟨h',u',S',m',k1,k2,k3,k4,k5,k6⟩:=hj;have hrl:r.length=ps.toList.length:=hlen r (aqX hr);have hul:us.length=ps.toList.length:=hus.length.trans hrl;have hy:=run_yield (P:=P) (args:=us.toArray) k3 (by rw[hrec]; simpa using hul);rw[hrec] at hy;obtain⟨wr,hwr⟩:∃ wr,wr=ps.toList++sa.writes++sb.writes:=⟨_,rfl⟩
    let fx:Nat→Option Value:=fun t=>if t∈wr then none else some (a.tmps.getD t undef)
    have hfx:∀ t∈wr,fx t=none:=fun t ht=>if_pos ht
    let wA:Gh:={ w0 with wo:=W,so:=S',fx:=fx }
    have hfold:(ps.zip us.toArray).foldl (fun tmps (x:Tmp×Value)=>tmps.setIfInBounds x.1 x.2) a.tmps=(ps.toList.zip us).foldl (fun t p=>t.setIfInBounds p.1 p.2) a.tmps:=by
      rw[← Array.foldl_toList]; simp
    have hinvA:Inv G N Sin wA ⟨v8 f0 ps.toList r,h',u'⟩ { tmps:=(ps.zip us.toArray).foldl (fun tmps (x:Tmp×Value)=>tmps.setIfInBounds x.1 x.2) a.tmps,defers:=[] } W S' m':=by
      rw[hfold];have:=k2.turn (w1:=wA) (a':={ tmps:=a.tmps,defers:=[] }) (w':=W) (fun _ _ h _=>h) (ap3 _) rfl k2.below (by rw[hat]) (fun t=>.inr (by rw[hat])) trivial (eX.refl W) (bR.refl _ _) (fun _ _ h=>h) (fun t v ht=>by
        grind)
      refine this.puts (hus.weak fun v d _ _ hv=>RW.mono k4 hv) (fun t ht=>⟨hps t ht,hfx t ?_⟩) hrl;rw[hwr]; simp[ht]
    refine⟨fn,_,asg,body,hy,roundIn_of_wpIn trivial ?_⟩;refine ha (w1:=wA) (r:=some (w.heap.size+1)) (fun t ht=>hfx t (by rw[hwr]; simp[ht])) ?_ hinvA (hround k r h' u' hr k1);rintro e1 σ1 a1 V1 S1 m1 q1 hinv1';cases e1 with
    | ex id=>exact q1.elim
    | ret=>exact q1.elim
    | nrm =>
      have hl1:V1.heap[w.heap.size+1]?=some (.loop (rec .ready none)):=hinv1'.oth.same _ _ k3 rfl;refine⟨_,run_beginRound hl1 (by rw[hrec]),?_⟩;obtain⟨V2,hV2⟩:∃ V2,V1.putObj (w.heap.size+1) (.loop { rec .ready none with state:=.busy })=V2:=⟨_,rfl⟩
      rw[hV2];have hl2:V2.heap[w.heap.size+1]?=some (.loop { rec .ready none with state:=.busy }):=by grind [World.putObj_heap_same]
      have hsc2:kv V1 V2:=by rw[← hV2]; exact kv.put hl1 rfl
      have hkb2:fQ (w.heap.size+1) V1 V2:=by rw[← hV2]; exact fQ.put _ _ _
      let wB:Gh:={ w0 with wo:=V2,so:=S1,fx:=fx }
      have hbelB:dz w0.heap.size w0.ext w0 V2:=by
        rw[← hV2]; exact dz.trans (show dz w0.heap.size w0.ext w0 V1 from hinv1'.below) (dz.of (xV _ (by omega) hl1))
      have hinvB:Inv G N Sin wB σ1 a1 V2 S1 m1:=by
        exact hinv1'.turn (w1:=wB) hsc2 hkb2.size rfl hbelB rfl (fun t=>.inr rfl) (hinv1'.defers.but hkb2 fun ds e=>by rw[hl1] at e; cases e) (eX.refl V2) (bR.refl _ _) (fun _ _ h=>h) hinv1'.fix
      refine hb (w1:=wB) (r:=some (w.heap.size+1)) (fun t ht=>hfx t (by rw[hwr]; simp[ht])) ?_ hinvB q1;rintro e2 σ2 a3 V3 S3 m3 q2 hinv3;have hl3:V3.heap[w.heap.size+1]?=some (.loop { rec .ready none with state:=.busy }):=hinv3.oth.same _ _ hl2 rfl;have fM:∀ (st:LoopState) (pe:Option Code) (R:aI→(Nat→Bool)→Prop) (h2:aI) (u2:Nat→Bool),R h2 u2→fv σ2 ⟨f0,h2,u2⟩→J st pe R (V3.putObj (w.heap.size+1) (.loop (rec st pe))):=by
        intro st pe R h2 u2 hR hent2;obtain⟨m4,hinv4⟩:=hinv3.ent hent2;have hsc4:kv V3 (V3.putObj (w.heap.size+1) (.loop (rec st pe))):=kv.put hl3 rfl;have hkb:fQ (w.heap.size+1) W (V3.putObj (w.heap.size+1) (.loop (rec st pe))) :=
          ((fQ.of hinv1'.oth).trans hkb2).trans ((fQ.of hinv3.oth).trans (fQ.put _ _ _))
        have hkp:bR S' W (V3.putObj (w.heap.size+1) (.loop (rec st pe))):=by
          have c1:bR S' W V1:=hinv1'.kso;have c2:bR S' V1 V2:=hsc2.keeps _;have c3:bR S1 V2 V3:=hinv3.kso;have c4:bR S' V3 _:=hsc4.keeps _;exact ((c1.trans c2).trans (c3.sub hinv1'.sso)).trans c4
        rw[hJ];refine⟨h2,u2,S3,m4,hR,?_,World.putObj_heap_same (aqp.1 hl3).1,fun b i hs=>hinv3.sso b i (hinv1'.sso b i (k4 b i hs)),k5.trans (hkp.sub k4),aqG k6 hkb.size⟩;have hbel4:dz w0.heap.size w0.ext w0 (V3.putObj (w.heap.size+1) (.loop (rec st pe))):=dz.trans (show dz w0.heap.size w0.ext w0 V3 from hinv3.below) (dz.of (xV _ (by omega) hl3))
        refine hinv4.turn (w1:=w0) hsc4 (grownBy_putObj' _ _ _).size rfl hbel4 (by rw[hat,h.size]; exact hinv3.size.symm) (fun t=>?_) (k2.defers.but hkb fun ds e=>by rw[k3] at e; cases e) (fQ.old k2.oth hkb (by have:=h.oth.size; omega))
          (k2.kso.trans (hkp.sub k2.sso)) (fun b i hs=>hinv3.sso b i (hinv1'.sso b i (k2.sso b i hs))) (fun t v ht=>?_)
        ·by_cases hm:t∈wr
         ·left; exact hun t (by rw[← hwr]; exact hm)
         ·right;rw[hat];exact (hinv3.fix t (a.tmps.getD t undef) (if_neg hm)).symm
        ·rw[hat]; exact h.fix t v ht
      have hend:=fun (jump:Option Code)=>run_endRound (P:=P) jump hl3
      cases e2 with
      | nrm =>
        obtain⟨h2,u2,hent2,hI2⟩:=q2;refine⟨_,_,hend none,.inl ⟨rfl,?_⟩⟩;grind
      | ex id =>
        obtain⟨h2,u2,hent2,hI2⟩:=q2;refine⟨_,_,hend (some (.exit id)),.inr ⟨rfl,.ex id,?_⟩⟩;have:=fM .done (some (.exit id)) (fun h u=>Q' (.ex id) ⟨f0,h,u⟩∧AX.ex id≠.nrm) h2 u2 ⟨hI2,by simp⟩ hent2;rw[hrec] at this ⊢;exact this
      | ret =>
        obtain⟨h2,u2,hent2,hI2⟩:=q2;refine⟨_,_,hend (some .ret),.inr ⟨rfl,.ret,?_⟩⟩;have:=fM .done (some .ret) (fun h u=>Q' .ret ⟨f0,h,u⟩∧AX.ret≠.nrm) h2 u2 ⟨hI2,by simp⟩ hent2;rw[hrec] at this ⊢;exact this
   ·rw[hJ];exact⟨h0,u0,S,m0,hI0,hinv1,hL1,fun _ _ h=>h,bR.refl _ _,ap3 _⟩
theorem EL {h:aI} {id:Nat} {o:Ob} (ho:h id=some o):∀ l:List C,killAll h l id=none→∃ sz off n,C.own id sz off n∈l
  | [],hh=>by simp only[killAll] at hh; rw[ho] at hh; cases hh
  | c::l,hh=>by
    cases c <;> simp only[killAll] at hh
    case own id2 sz2 off2 n2 =>
      by_cases e:id=id2
      ·subst e; exact⟨sz2,off2,n2,aqj ..⟩
      ·simp only[upd,e,if_false] at hh;obtain⟨x,y,z,hz⟩:=EL ho l hh;exact⟨x,y,z,aqf _ hz⟩
    all_goals (obtain⟨x,y,z,hz⟩:=EL ho l hh; exact⟨x,y,z,aqf _ hz⟩)
theorem NM (h:Inv G N Sin w0 σ a w S m) {T:aT} (hT:∀ b i,S b i→T b i) {q:IntKind}:∀ {E:List MapEntry} {es:List (Int×C)} {ds:List (Int×D)},aD (fun (e:MapEntry) (p:Int×C)=>e.key=.int q p.1∧RW m S w e.val (.c p.2)) E es→qC σ.h es=some ds →
    (∀ p∈es,∀ id∈p.2.ids,∀ o b s i,(∃ sz off n,p.2=.own id sz off n)→σ.h id=some o→m id=some (b,s)→T b i)→aD (t8 T w q) E ds
  | _,_,_,.nil,e,_=>by simp only[qC,ap2] at e; subst e; exact .nil
  | _,(k,c)::_,_,.cons h1 h2,e,hid=>by
    simp only[qC] at e;split at e
    ·rename_i d l hd hl;split at e
     ·rename_i hone;cases e;refine .cons ⟨h1.1,?_⟩ (NM h hT h2 hl fun p hp=>hid p (aqf _ hp));have h3:=h1.2;have hrc:∀ v,RW m S w v (.c c)→RC m S w v c:=by
        intro v h3;cases c with
        | d x =>
          cases x with
          | agg cs=>simp only[gm,ap2] at hd; subst hd; cases hone
          | _=>exact h3
        | _=>exact h3
      exact Ca h hT (fun id hi o b s i ho hm=>hid (k,c) (aqj ..) id hi o b s i (yk hd id hi) ho hm) (hrc _ h3) hd
     ·cases e
    ·cases e
theorem Inv.reob (h:Inv G N Sin w0 σ a w S m) {id:Nat} {o o':Ob} (ho:σ.h id=some o) (hk:bT m S w0.may w id o') (hids:∀ j∈o'.ids,σ.u j=true):Inv G N Sin w0 ⟨σ.f,upd σ.h id (some o'),σ.u⟩ a w S m:=by
  have sub:∀ i,upd σ.h id (some o') i≠none→σ.h i≠none:=fun i hi=>by
    grind [upd_ne]
  refine⟨h.size,h.defers,h.slot,h.used,fun i x hx=>?_,fun i j b s s' h1 h2 h3 h4=>h.inj i j b s s' (sub i h1) (sub j h2) h3 h4,h.sin,h.sub,h.glob,h.below,h.oth,h.kso,h.sso,h.fix⟩;have hx:upd σ.h id (some o') i=some x:=hx;by_cases e:i=id
  ·subst e;rw[upd_same] at hx;cases hx;exact⟨hk,(h.obj i o ho).2.1,hids⟩
  ·rw[upd_ne _ _ e] at hx;exact h.obj i x hx
theorem Au {h:aI}:∀ {cs cs':List C},jT h cs=some cs'→cs'.flatMap C.ids=[]
  | [],_,e=>by simp only[jT,ap2] at e; subst e; rfl
  | .nil::r,_,e=>by
    simp only[jT,apV] at e;obtain⟨l,hl,rfl⟩:=e;rw[aqb,Au hl]; rfl
  | .d x::r,_,e=>by
    simp only[jT,apV] at e;obtain⟨l,hl,rfl⟩:=e;rw[aqb,Au hl]; rfl
  | .own ..::r,_,e | .ptr ..::r,_,e | .pa ..::r,_,e | .rp ..::r,_,e | .cf ..::r,_,e | .mp ..::r,_,e=>by
    simp only[jT] at e;split at e
    ·rename_i d l hd hl;cases e;rw[aqb,Au hl]; rfl
    ·cases e
theorem WL {h:aI} {cs cs':List C} {id:Nat} {o1:Ob} (_:jT h cs=some cs') (hk:killAll h cs id=some o1) (ho:h id=some (.box cs)):o1=.box cs:=by
  have key:∀ (l:List C),killAll h l id=some o1→h id=some o1:=by
    intro l
    induction l with
    | nil=>exact fun e=>e
    | cons c r ih =>
      intro e;cases c <;> simp only[killAll] at e
      case own i2 s2 f2 n2 =>
        by_cases g:id=i2
        ·subst g; simp[upd] at e
        ·simp only[upd,g,if_false] at e;exact ih e
      all_goals exact ih e
  have:=key cs hk;rw[ho] at this;cases this;rfl
theorem ZA (h:Inv G N Sin w0 σ a w S m) {S1:aT} (h2:∀ b i,S b i→S1 b i) {cs0:List C} (h3:∀ id∈cs0.flatMap C.ids,∀ o b s i,(∃ sz off n,C.own id sz off n∈cs0)→σ.h id=some o→m id=some (b,s)→S1 b i) {cur:Array Value} {sz:Nat}
    (k:dw m S w sz cur (.box cs0)) {cs':List C} (hcs:jT σ.h cs0=some cs'):dw m S1 w sz cur (.box cs'):=by
  have key:∀ {cs cs':List C},(∀ c∈cs,c∈cs0)→jT σ.h cs=some cs'→cs'.length=cs.length∧∀ j (hj:j<cs.length) (hj':j<cs'.length) (v:Value),RC m S w v cs[j]→RC m S1 w v cs'[j]:=by
    intro cs
    induction cs with
    | nil=>grind [jT]
    | cons c r ih =>
      intro cs' hmem e;have hr:∀ x∈r,x∈cs0:=fun x hx=>hmem x (aqf _ hx)
      have step:∀ (c':C) (l:List C),cs'=c'::l→jT σ.h r=some l→(∀ v,RC m S w v c→RC m S1 w v c')→cs'.length=(c::r).length∧∀ j (hj:j<(c::r).length) (hj':j<cs'.length) (v:Value),RC m S w v (c::r)[j]→RC m S1 w v cs'[j]:=by
        grind
      have own:∀ d,gm σ.h c=some d→∀ v,RC m S w v c→RC m S1 w v (.d d):=fun d hd v hv=>by
        refine Ca h h2 (fun id hid o b s i ho hm=>?_) hv hd;grind [yk]
      cases c with
      | nil =>
        simp only[jT,apV] at e;obtain⟨l,hl,rfl⟩:=e;exact step _ _ rfl hl fun v hv=>hv
      | d x =>
        simp only[jT,apV] at e;obtain⟨l,hl,rfl⟩:=e;exact step _ _ rfl hl fun v hv=>Reads.mono hv h2
      | _ =>
        simp only[jT] at e;split at e
        ·rename_i d l hd hl;cases e;exact step _ _ rfl hl (own d hd)
        ·cases e
  obtain⟨q1,q2⟩:=key (fun _ h=>h) hcs;obtain⟨k1,k2⟩:=k;refine⟨by omega,fun j hj=>?_⟩;grind
theorem ac0 (h:Inv G N Sin w0 σ a w S m) {t:Nat} {τ:St} (e:sF σ t=some τ):∃ S',Inv G N Sin w0 τ a w S' m:=by
  unfold sF at e;split at e
  ·rename_i id hft;split at e
   ·rename_i q es hob;simp only[apV] at e;obtain⟨ds,hds,rfl⟩:=e;obtain⟨S1,h1,h2,h3⟩:=h.killAll (es.map (·.2));have hown:∀ p∈es,∀ id∈p.2.ids,∀ o b s i,(∃ sz off n,p.2=.own id sz off n)→σ.h id=some o→m id=some (b,s)→S1 b i:=by
      grind
    obtain⟨S2,hI,hS,hb2⟩:∃ S2,Inv G N Sin w0 ⟨σ.f,upd (Go.Proofs.YtnjhelpgohdajaaGreatDoor.killAll σ.h (es.map (·.2))) id none,σ.u⟩ a w S2 m∧(∀ b i,S1 b i→S2 b i)∧∀ b s,m id=some (b,s)→S2 b 0:=by
      cases hl:Go.Proofs.YtnjhelpgohdajaaGreatDoor.killAll σ.h (es.map (·.2)) id with
      | none =>
        obtain⟨sz,off,n,hmem⟩:=EL hob _ hl;exact⟨S1,h1.kill id,fun _ _ h=>h,fun b s hm=>h3 id (aqc.2 ⟨_,hmem,by simp[C.ids]⟩) _ b s 0 ⟨sz,off,n,hmem⟩ hob hm⟩
      | some o1=>exact⟨_,h1.freeze id o1 hl,fun _ _ h=>.inl h,fun b s hm=>.inr ⟨s,hm⟩⟩
    have hsl:=h.slot t;rw[hft] at hsl;obtain⟨b,hm,hval⟩:=hsl;have hobj:=(h.obj id _ hob).1;unfold bT at hobj;rw[hm] at hobj;obtain⟨_,_,_,cur,ty,fz,⟨E,c,hb,hE,hB⟩,_⟩:=hobj;have hread:Reads S2 w (a.tmps.getD t undef) (.mp q ds):=by
      rw[hval];exact Reads.of_map (hb2 b 1 hm) hb hB (NM h (fun b i hs=>hS _ _ (h2 _ _ hs)) hE hds fun p hp id hid o b s i h4 h5 h6=>hS _ _ (hown p hp id hid o b s i h4 h5 h6))
    refine⟨S2,hI.size,hI.defers,fun t'=>?_,fun t' i hi=>?_,hI.obj,hI.inj,hI.sin,hI.sub,hI.glob,hI.below,hI.oth,hI.kso,hI.sso,hI.fix⟩
    ·show RV m S2 w _ (upd σ.f t (vd (.mp q ds)) t')
     by_cases e:t'=t
     ·subst e;rw[upd_same];exact hread
     ·rw[upd_ne _ _ e];exact hI.slot t'
    ·have hi:i∈(upd σ.f t (vd (.mp q ds)) t').ids:=hi;by_cases e:t'=t
     ·subst e;rw[upd_same] at hi;cases hi
     ·rw[upd_ne _ _ e] at hi;exact hI.used t' i hi
   ·cases e
  ·rename_i id sz hft;split at e
   ·rename_i cs hob;split at e
    ·rename_i ds hds;cases e;have hI:=h.freeze id _ hob;have hsl:=h.slot t;rw[hft] at hsl;have href:pF σ.h id 0 0=some (.ref ds):=by
       unfold pF;rw[hob];simp[hds]
     have hread:=GY h (T:=fun b i=>S b i∨∃ s,m id=some (b,s)) (fun _ _ hs=>.inl hs) (fun _ b s _ _ hm=>.inr ⟨s,hm⟩) hsl href;obtain⟨a',hv,hc⟩:=hread.cellsAt;refine⟨_,hI.size,hI.defers,fun t'=>?_,fun t' i hi=>?_,hI.obj,hI.inj,hI.sin,hI.sub,hI.glob,hI.below,hI.oth,hI.kso,hI.sso,hI.fix⟩
     ·show RV m _ w _ (upd σ.f t (.w (.c (.rp ds))) t')
      by_cases e:t'=t
      ·subst e;rw[upd_same];exact⟨a',hv,hc⟩
      ·rw[upd_ne _ _ e];exact hI.slot t'
     ·have hi:i∈(upd σ.f t (.w (.c (.rp ds))) t').ids:=hi;by_cases e:t'=t
      ·subst e;rw[upd_same] at hi;cases hi
      ·rw[upd_ne _ _ e] at hi;exact hI.used t' i hi
    ·split at e
     ·rename_i cs' o1 hcs hk;cases e;obtain⟨S1,h1,h2,h3⟩:=h.killAll cs;refine⟨S1,h1.reob hk ?_ fun j hj=>?_⟩
      ·have hob1:=(h1.obj id _ hk).1;have hob0:=(h.obj id _ hob).1;have e1:=WL hcs hk hob;subst e1;unfold bT at hob1 hob0 ⊢;cases hm:m id with
       | none =>
         grind
       | some p =>
         obtain⟨b,s⟩:=p;rw[hm] at hob1 hob0;obtain⟨g1,g2,g3,cur,ty,fz,g4,g5,g6⟩:=hob1;obtain⟨_,_,_,cur0,ty0,fz0,k4,k5,k6⟩:=hob0;have g4':w.heap[b]?=some (.cells cur ty fz):=g4;have k4':w.heap[b]?=some (.cells cur0 ty0 fz0):=k4;rw[g4'] at k4';obtain⟨rfl,rfl,rfl⟩:cur=cur0∧ty=ty0∧fz=fz0:=by simpa using k4'
         exact⟨g1,g2,g3,cur,ty,fz,g4',g5,ZA h h2 h3 k6 hcs⟩
      grind [Au,Ob.ids]
     ·cases e
   ·cases e
  ·cases e
theorem uM {b:Frame} {k:List Item} {cs:List Frame} {c:Code}:step P (lone (b.atR a (.code (.scope c)::k)) cs w)=.next (lone (b.atR a (.code c::.inScope c::k)) cs w) :=
  step_lone_go (by simp[stepG,stepG.exec,Frame.atR])
theorem VQ {b:Frame} {k:List Item} {cs:List Frame} {c:Code}:step P (lone (b.atR a (.inScope c::k)) cs w)=.next (lone (b.atR a k) cs w) :=
  step_lone_go (by simp[stepG,stepG.exec,Frame.atR])
def apm (Q:Exit→Act→World→Prop):Exit→Act→World→Prop
  | .goto _,_,_=>False
  | e,a,w=>Q e a w
theorem WM {F:Fence} {k:Nat} {c:Code} {Q:Exit→Act→World→Prop} (h:c.wpIn F k P (apm Q) a w):(Code.scope c).wpIn F k P Q a w:=by
  intro b k cs hro hb hr;have h0:(lone (b.atR a (.code (.scope c)::k)) cs w).fenced P F:=fenced_calm hb hr rfl;obtain⟨e,a₁,w₁,hq,harr⟩:=h b (.inScope c::k) cs hro hb hr;cases e with
  | normal=>exact⟨.normal,a₁,w₁,hq,.head h0 uM (StepsIn.trans harr (.one (fenced_calm hb hr rfl) VQ))⟩
  | exit id =>
    have hx:exitTo id (.inScope c::k)=exitTo id k:=by simp[exitTo]
    exact⟨.exit id,a₁,w₁,hq,fun k' hk=>.head h0 uM (harr.1 k' (by rw[hx]; exact hk)),
      fun hr' hk=>let ⟨k₁,h1,h2⟩:=harr.2 hr' (by rw[hx]; exact hk); ⟨k₁,h1,.head h0 uM h2⟩⟩
  | goto l=>exact hq.elim
  | ret=>exact⟨_,a₁,w₁,hq,.of_steps (.one h0 uM) harr⟩
  | panic ch=>exact⟨_,a₁,w₁,hq,.of_steps (.one h0 uM) harr⟩
  | outgrown=>exact⟨_,a₁,w₁,hq,.of_steps (.one h0 uM) harr⟩
theorem nc:∀ (c:Code) {inr:Bool} {sc:bp},gF P H N inr c=some sc→∀ {r:Option Nat} {n:Nat} {w0:Gh} {Q':AX→St→Prop} {Q:Exit→Act→World→Prop} {σ:St} {a:Act} {w:World} {S:aT} {m:Mp},(inr=false→r=none)→(∀ t∈sc.writes,w0.fx t=none)→DO G N Sin w0 Q' Q→Inv G N Sin w0 σ a w S m→cE P G sc Q' σ→c.wpIn (Fr r) n P Q a w
  | .skip,inr,sc,hc,r,n,w0,Q',Q,σ,a,w,S,m,hr,hf,hp,h,e=>by
    simp only[gF,ap2] at hc;subst hc;exact wpIn_skip (hp _ _ _ _ _ _ e h)
  | .region id ops draws,inr,sc,hc,r,n,w0,Q',Q,σ,a,w,S,m,hr,hf,hp,h,e=>by
    simp only[gF,apV] at hc;obtain⟨c',hc,rfl⟩:=hc;have hf':∀ t∈c'.writes,w0.fx t=none:=fun t ht=>hf t (by unfold G6; split <;> exact ht)
    have base:∀ {σ:St} {S:aT},Inv G N Sin w0 σ a w S m→cE P G c' Q' σ→(Code.region id ops draws).wpIn (Fr r) n P Q a w:=by
      intro σ S h e;split at hc
      ·rename_i hcs;cases hc;refine WJ hcs hf' h e ?_;rintro a1 w1 ⟨σ1,S1,m1,k1,k2⟩;exact hp _ _ _ _ _ _ k1 k2
      split at hc
      ·rename_i cs hcs;cases hc;refine VX hcs (fun so hs t ht=>hf' t (aru.2 ⟨so,hs,ht⟩)) h e ?_;rintro a1 w1 ⟨σ1,S1,m1,k1,k2⟩;exact hp _ _ _ _ _ _ k1 k2
      ·split at hc
       ·rename_i hcs;cases hc;refine WK hcs hf' h e ?_;rintro a1 w1 ⟨σ1,S1,m1,k1,k2⟩;exact hp _ _ _ _ _ _ k1 k2
       ·split at hc <;> cases hc;exact False.elim e
    grind [G6,cE,ac0]
  | .seq x y,inr,sc,hc,r,n,w0,Q',Q,σ,a,w,S,m,hr,hf,hp,h,e=>by
    simp only[gF] at hc;split at hc
    ·rename_i x' y' hx hy;cases hc;refine wpIn_seq (nc x hx hr (fun t ht=>hf t (aqL _ ht)) ?_ h e);intro ax σ1 a1 w1 S1 m1 k1 k2;cases ax with
     | nrm=>exact nc y hy hr (fun t ht=>hf t (aqi _ ht)) hp k2 k1
     | ex id=>exact hp _ _ _ _ _ _ k1 k2
     | ret=>exact hp _ _ _ _ _ _ k1 k2
    ·cases hc
  | .cond x y z,inr,sc,hc,r,n,w0,Q',Q,σ,a,w,S,m,hr,hf,hp,h,e=>by
    simp only[gF] at hc;split at hc
    ·rename_i x' y' z' hx hy hz;cases hc;simp only[cE] at e;cases ht:eD (ev G σ.f x') with
     | none=>rw[ht] at e; exact e.elim
     | some t =>
       rw[ht] at e;have hv:=yE (h.operand hx).1 ht;exact wpIn_cond_split hv (fun g=>nc y hy hr (fun t ht=>hf t (aqL _ ht)) hp h (e.1 g)) fun g=>nc z hz hr (fun t ht=>hf t (aqi _ ht)) hp h (e.2 g)
    ·cases hc
  | .block id c,inr,sc,hc,r,n,w0,Q',Q,σ,a,w,S,m,hr,hf,hp,h,e=>by
    simp only[gF,apV] at hc;obtain⟨c',hcc,rfl⟩:=hc;refine wpIn_block (nc c hcc hr hf ?_ h e);intro ax σ1 a1 w1 S1 m1 k1 k2;cases ax with
    | nrm=>exact hp _ _ _ _ _ _ k1 k2
    | ex i =>
      show Exit.inBlock id Q (.exit i) a1 w1
      unfold Exit.inBlock;simp only at k1 ⊢;by_cases hi:i=id
      ·rw[if_pos hi] at k1 ⊢;exact hp _ _ _ _ _ _ k1 k2
      ·rw[if_neg hi] at k1 ⊢;exact hp _ _ _ _ _ _ k1 k2
    | ret=>exact hp _ _ _ _ _ _ k1 k2
  | .loop c,inr,sc,hc,r,n,w0,Q',Q,σ,a,w,S,m,hr,hf,hp,h,e=>by
    simp only[gF,apV] at hc;obtain⟨c',hcc,rfl⟩:=hc;obtain⟨I,⟨n0,τ,he,hI⟩,hround⟩:=e;obtain⟨m',hinv⟩:=h.ent he;refine V5 (fun n a w=>∃ τ S m,I n τ∧Inv G N Sin w0 τ a w S m) ⟨τ,S,m',hI,hinv⟩ ?_;rintro n a1 w1 ⟨τ,S1,m1,k1,k2⟩;refine nc c hcc hr hf ?_ k2 (hround n τ k1);intro ax σ2 a2 w2 S2 m2 q1 q2;cases ax with
    | nrm =>
      obtain⟨n',τ',g1,g2,g3⟩:=q1;obtain⟨m3,hinv3⟩:=q2.ent g2;exact⟨n',g1,τ',S2,m3,g3,hinv3⟩
    | ex i=>exact hp _ _ _ _ _ _ q1 q2
    | ret=>exact hp _ _ _ _ _ _ q1 q2
  | .exit id,inr,sc,hc,r,n,w0,Q',Q,σ,a,w,S,m,hr,hf,hp,h,e=>by
    simp only[gF,ap2] at hc;subst hc;exact wpIn_exit (hp _ _ _ _ _ _ e h)
  | .ret,inr,sc,hc,r,n,w0,Q',Q,σ,a,w,S,m,hr,hf,hp,h,e=>by
    simp only[gF,ap2] at hc;subst hc;exact wpIn_ret (hp _ _ _ _ _ _ e h)
  | .rangeFunc g ps x y,inr,sc,hc,r,n,w0,Q',Q,σ,a,w,S,m,hr,hf,hp,h,e=>by
    simp only[gF] at hc;split at hc
    ·rename_i hi;obtain rfl:=hr hi.1;split at hc
     ·rename_i g' x' y' hg hx hy;cases hc;refine V6 hg (fun t ht=>?_) (fun hf=>nc x hx (fun h=>by cases h) hf) (fun hf=>nc y hy (fun h=>by cases h) hf) hp h e;have:=hi.2;rw[← Array.all_toList,ap9] at this
      simpa using this t ht
     ·cases hc
    ·cases hc
  | .scope c,inr,sc,hc,r,n,w0,Q',Q,σ,a,w,S,m,hr,hf,hp,h,e=>by
    simp only[gF] at hc;refine WM (nc c hc hr hf ?_ h e);intro ax σ1 a1 w1 S1 m1 k1 k2;cases ax with
    | nrm=>exact hp _ _ _ _ _ _ k1 k2
    | ex i=>exact hp _ _ _ _ _ _ k1 k2
    | ret=>exact hp _ _ _ _ _ _ k1 k2
  | .label _,inr,sc,hc,r,n,w0,Q',Q,σ,a,w,S,m,hr,hf,hp,h,e=>by
    simp only[gF,ap2] at hc;subst hc;exact wpIn_label (hp _ _ _ _ _ _ e h)
  | .goto _,inr,sc,hc,r,n,w0,Q',Q,σ,a,w,S,m,hr,hf,hp,h,e=>by simp[gF] at hc
  | .refuse _,inr,sc,hc,r,n,w0,Q',Q,σ,a,w,S,m,hr,hf,hp,h,e=>by simp[gF] at hc
def DR (tmps:Array Value):ResultVar→Sem Value
  | .tmp t=>pure (tmps.getD t undef)
  | .cell a t=>do loadVar t (← asAddr (tmps.getD a undef))
theorem ac1 (h:Inv G N Sin w0 σ a w S m) {r:ResultVar} {l:Nat×Option Kd} (hc:ym P r=some l) {x:W} (hx:dd σ l=some x):∃ u,(DR a.tmps r).run P w=.ok u w∧RW m S w u x∧∀ i∈x.ids,σ.u i=true:=by
  cases r with
  | tmp t =>
    simp only[ym,ap2] at hc;subst hc;obtain⟨h1,h2⟩:=BX (h.slot t) hx;refine⟨_,rfl,h1,fun i hi=>h.used t i ?_⟩;rw[h2]; exact hi
  | cell t ty =>
    simp only[ym,apV] at hc;obtain⟨kd,hk,rfl⟩:=hc;obtain⟨ad,us,h1,h2,h3,h4,h5⟩:=T7 h (h.slot t) hx;refine⟨valOf kd us,?_,h4,h5⟩;simp only[DR,h1,asAddr];simp[Lz hk ad us h2 h3]
theorem Bs (h:Inv G N Sin w0 σ a w S m):∀ {rs:List ResultVar} {l:List (Nat×Option Kd)} {ws:List W},bE (ym P) rs=some l→bE (dd σ) l=some ws→∃ us:List Value,(rs.mapM (DR a.tmps)).run P w=.ok us w∧aD (RW m S w) us ws∧∀ i∈ws.flatMap W.ids,σ.u i=true
  | [],l,ws,h1,h2=>by
    simp only[bE,ap2] at h1;subst h1;simp only[bE,ap2] at h2;subst h2;exact⟨[],rfl,.nil,fun i hi=>by cases hi⟩
  | r::rs,l,ws,h1,h2=>by
    simp only[bE] at h1;split at h1
    ·rename_i y l' hy hl;cases h1;simp only[bE] at h2;split at h2
     ·rename_i x ws' hx hws;cases h2;obtain⟨u,k1,k2,k3⟩:=ac1 h hy hx;obtain⟨us,q1,q2,q3⟩:=Bs h hl hws;refine⟨u::us,?_,.cons k2 q2,fun i hi=>?_⟩
      ·simp[List.mapM_cons,k1,q1]
      ·rw[aqb] at hi;rcases aqg.1 hi with hi | hi
       ·exact k3 i hi
       ·exact q3 i hi
     ·cases h2
    ·cases h1
theorem EQ (fn:Func) (tmps:Array Value):results fn tmps=(do let vs ← fn.results.mapM (DR tmps); pure (if h:vs.size=1 then vs[0] else .tuple vs)):=by
  unfold results
  congr 1
def iO (σ:St) (m:Mp) (ids:List Nat) (bl:List Nat):Prop:=bl.Nodup∧∀ b∈bl,∃ id∈ids,∃ s,m id=some (b,s)∧σ.h id≠none
theorem iO.append (h:Inv G N Sin w0 σ a w S m) {l1 l2 b1 b2:List Nat} (hn:(l1++l2).Nodup) (h1:iO σ m l1 b1) (h2:iO σ m l2 b2):iO σ m (l1++l2) (b1++b2):=by
  refine⟨ara.2 ⟨h1.1,h2.1,fun b hb c hc e=>?_⟩,fun b hb=>?_⟩
  ·subst e;obtain⟨i,hi,s,e1,e2⟩:=h1.2 b hb;obtain⟨j,hj,s',e3,e4⟩:=h2.2 b hc;have:=h.inj i j b s s' e2 e4 e1 e3;subst this;exact (ara.1 hn).2.2 i hi i hj rfl
  ·rcases aqg.1 hb with hb | hb
   ·obtain⟨i,hi,r⟩:=h1.2 b hb;exact⟨i,aqL _ hi,r⟩
   ·obtain⟨i,hi,r⟩:=h2.2 b hb;exact⟨i,aqi _ hi,r⟩
theorem iO.none (σ:St) (m:Mp) (ids:List Nat):iO σ m ids []:=⟨.nil,fun b hb=>by cases hb⟩
theorem Io (h:Inv G N Sin w0 σ a w S m) (hx:∀ b,¬ w0.ext b) {u:Value} {c r:C} (hv:RC m S w u c) (he:xj σ.h c r):∃ bl,jY S w w0.heap.size u r bl∧iO σ m c.ids bl:=by
  unfold xj at he;split at he
  ·rename_i id sz off n sz' es;obtain⟨rfl,rfl,he⟩:=he;split at he
   ·rename_i o ho;obtain⟨he1,he2⟩:=he;cases o with
    | box cs=>exact he2.elim
    | mp q es=>exact he2.elim
    | it q l p=>exact he2.elim
    | row s0 es0 =>
      simp only[fZ] at he1;split at he1
      ·rename_i hle;cases he1;have hv':cO m w u id _ 0 n:=hv;have hob:=(h.obj id _ ho).1;unfold cO at hv';unfold bT at hob;split at hv'
       ·obtain⟨⟨ad,rfl⟩,_,rfl⟩:=hv';exact⟨[],.inl ⟨⟨ad,rfl⟩,by simp,rfl⟩,iO.none _ _ _⟩
       ·rename_i b sz2 hm;obtain⟨rfl,ad,cap,ty,M,rfl,g2,g3,g4,g5,g6⟩:=hv';rw[hm] at hob;obtain⟨k1,k2,k3,cur,ty',fz,k4,k5,k6⟩:=hob;have had:=g4 (.inr rfl);rw[ar4] at had;subst had;have hlen:((es0.drop 0).take n).length=n:=by rw[ap0,arm]; omega
        refine⟨[b],.inr ⟨b,cap,ty,M,rfl,by rw[hlen],by rw[hlen]; exact g2,g3,g5,by simpa using g6,k2.resolve_right (hx _),k3,cur,ty',fz,k4,k5,?_,fun i hi=>?_⟩,⟨by simp,fun b' hb'=>⟨id,by simp[C.ids],sz2,?_,by rw[ho]; simp⟩⟩⟩
        ·rw[hlen];exact aqG (aqt _ (by omega)) k6.1
        ·have hi':i<es0.length:=by rw[hlen] at hi; omega
         have he:((es0.drop 0).take n)[i]=es0[i]:=by simp
         rw[he];exact k6.2 i hi'
        grind
      ·cases he1
   ·exact he.elim
  ·subst he;exact⟨[],.inl ⟨hv,rfl,rfl⟩,iO.none _ _ _⟩
  ·subst he;refine⟨[],⟨?_,rfl⟩,iO.none _ _ _⟩;obtain⟨ad,rfl⟩:∃ ad,u=.slice ad 0 0:=hv
   exact Reads.zero ad
  ·subst he;exact⟨[],⟨hv,rfl⟩,iO.none _ _ _⟩
  ·exact he.elim
theorem PD (h:Inv G N Sin w0 σ a w S m) (hx:∀ b,¬ w0.ext b):∀ {us:List Value} {cs rs:List C},aD (RC m S w) us cs→aD (xj σ.h) cs rs→(cs.flatMap C.ids).Nodup→∃ bl,li S w w0.heap.size us rs bl∧iO σ m (cs.flatMap C.ids) bl
  | _,_,_,.nil,.nil,_=>⟨[],.nil,iO.none _ _ _⟩
  | _,_,_,.cons h1 h2,.cons k1 k2,hn=>by
    rw[aqb] at hn ⊢;obtain⟨b1,e1,e2⟩:=Io h hx h1 k1;obtain⟨b2,e3,e4⟩:=PD h hx h2 k2 (ara.1 hn).2.1;exact⟨b1++b2,.cons e1 e3,iO.append h hn e2 e4⟩
theorem RA (h:Inv G N Sin w0 σ a w S m) (hx:∀ b,¬ w0.ext b) {u:Value} {x r:W} (hv:RW m S w u x) (he:zS σ.h x r) (hn:x.ids.Nodup):∃ bl,i5 S w w0.heap.size u r bl∧iO σ m x.ids bl:=by
  unfold zS at he;split at he
  ·rename_i c d;cases c with
   | d y =>
     cases d with
     | d z =>
       have:y=z:=he;subst this;cases y with
       | agg cs=>exact⟨[],⟨hv,rfl⟩,iO.none _ _ _⟩
       | _=>exact⟨[],⟨hv,rfl⟩,iO.none _ _ _⟩
     | _=>exact he.elim
   | nil =>
     obtain⟨bl,h1,h2⟩:=Io (c:=.nil) h hx hv he;refine⟨bl,?_,h2⟩;cases d with
     | d z =>
       have:z=.sl []:=he;subst this;exact h1
     | _=>exact h1
   | own id sz off n =>
     obtain⟨bl,h1,h2⟩:=Io (c:=.own id sz off n) h hx hv he;refine⟨bl,?_,h2⟩;cases d with
     | fr s es=>exact h1
     | _=>exact he.elim
   | _=>exact he.elim
  ·rename_i cs ds;obtain⟨us,rfl,h2⟩:=hv;obtain⟨bl,k1,k2⟩:=PD h hx h2 he hn;exact⟨bl,⟨us,rfl,k1⟩,k2⟩
  ·rename_i cs ds;obtain⟨us,h1,h2⟩:=FX (x:=.mix cs) hv (d:=.agg ds) (by simp[my,he]);obtain⟨us',rfl,_⟩:=hv;have:us'=us:=by simpa [Value.cells] using h1
   subst this;exact⟨[],⟨⟨us',rfl,h2⟩,rfl⟩,iO.none _ _ _⟩
  ·exact he.elim
theorem PE (h:Inv G N Sin w0 σ a w S m) (hx:∀ b,¬ w0.ext b):∀ {us:List Value} {ws rs:List W},aD (RW m S w) us ws→aD (zS σ.h) ws rs→(ws.flatMap W.ids).Nodup→∃ bl,lZ S w w0.heap.size us rs bl∧iO σ m (ws.flatMap W.ids) bl
  | _,_,_,.nil,.nil,_=>⟨[],.nil,iO.none _ _ _⟩
  | _,_,_,.cons h1 h2,.cons k1 k2,hn=>by
    rw[aqb] at hn ⊢;obtain⟨b1,e1,e2⟩:=RA h hx h1 k1 (ara.1 hn).1;obtain⟨b2,e3,e4⟩:=PE h hx h2 k2 (ara.1 hn).2.1;exact⟨b1++b2,.cons e1 e3,iO.append h hn e2 e4⟩
def nv (us:List Value):Value:=if h:us.toArray.size=1 then us.toArray[0] else .tuple us.toArray
theorem PF (h:Inv G N Sin w0 σ a w S m) {u:Value} {x:W} {d:D} (hv:RW m S w u x) (e:toW σ.h x=some d):i5 (qN σ.h m S) w w0.heap.size u (.c (.d d)) []:=by
  have:=yG h (T:=qN σ.h m S) (fun _ _ h=>.inl h) (fun id _ o b s i h1 h2=>.inr ⟨id,o,s,h1,h2⟩) hv e;cases d with
  | agg cs=>exact⟨this,rfl⟩
  | _=>exact⟨this,rfl⟩
theorem PG (h:Inv G N Sin w0 σ a w S m):∀ {us:List Value} {ws rs:List W},aD (RW m S w) us ws→aD (fun x z=>∃ d,z=.c (.d d)∧toW σ.h x=some d) ws rs→lZ (qN σ.h m S) w w0.heap.size us rs []
  | _,_,_,.nil,.nil=>.nil
  | _,_,_,.cons h1 h2,.cons k1 k2=>by
    obtain⟨d,rfl,e⟩:=k1;exact .cons (b1:=[]) (b2:=[]) (PF h h1 e) (PG h h2 k2)
theorem RB (h:Inv G N Sin w0 σ a w S m) (hx:∀ b,¬ w0.ext b) {us:List Value} {ws:List W} {res:V} (hv:aD (RW m S w) us ws) (he:((ws.flatMap W.ids).Nodup∧K8 σ.h ws res)∨KE σ.h ws res) :
    ∃ S' bl,(∀ b i,S' b i→(Sin b i∨w0.heap.size≤b)∧b<w.heap.size)∧bl.Nodup∧mH S' w w0.heap.size (nv us) res bl:=by
  have sin:∀ b i,S b i→(Sin b i∨w0.heap.size≤b)∧b<w.heap.size:=fun b i hs=>⟨(h.sin b i hs).2.imp id fun k=>k.resolve_right (hx b),(h.sin b i hs).1⟩
  have shat:∀ b i,qN σ.h m S b i→(Sin b i∨w0.heap.size≤b)∧b<w.heap.size:=by
    rintro b i (hs | ⟨id,ob,s,ho,hm⟩)
    ·exact sin b i hs
    ·have hk:=(h.obj id ob ho).1;refine⟨.inr ?_,hk.lt hm⟩;unfold bT at hk;rw[hm] at hk;exact hk.2.1.resolve_right (hx _)
  rcases he with ⟨hn,he⟩ | he
  ·unfold K8 at he;split at he
   ·rename_i x y;cases hv with
    | cons h1 h2 =>
      cases h2;have hids:x.ids.Nodup:=by simpa using hn
      obtain⟨bl,k1,k2⟩:=RA h hx h1 he hids;exact⟨S,bl,sin,k2.1,k1⟩
   ·rename_i x y r ws';have hl:=hv.length;obtain⟨bl,k1,k2⟩:=PE h hx hv he hn;refine⟨S,bl,sin,k2.1,us,?_,k1⟩;unfold nv;rw[dif_neg (by simp at hl ⊢; omega)]
   ·subst he;cases hv;exact⟨S,[],sin,.nil,[],rfl,.nil⟩
   ·exact he.elim
  ·unfold KE at he;split at he
   ·rename_i x d;cases hv with
    | cons h1 h2 =>
      cases h2;exact⟨_,[],shat,.nil,PF h h1 he⟩
   ·rename_i x y r ws';have hl:=hv.length;refine⟨_,[],shat,.nil,us,?_,PG h hv he⟩;unfold nv;rw[dif_neg (by simp at hl ⊢; omega)]
   ·exact he.elim
theorem ZB (h:Inv G N Sin w0 σ a w S m) (hwo:w0.wo.heap.size≤w0.heap.size) {D:Nat} (hB:w0.heap.size≤D) (hD:w.heap[D]?=some (.deferred (some []))):Inv G N Sin w0 σ { a with defers:=[] } (w.putObj D (.deferred none)) S m :=
  h.turn (w1:=w0) (kv.put hD rfl) (grownBy_putObj' _ _ _).size rfl (h.below.trans (dz.of (xV _ hB hD))) rfl (fun t=>.inr rfl) trivial (fQ.old h.oth (fQ.put _ _ _) (aqG hwo hB)) (h.kso.trans ((kv.put hD rfl).keeps _)) h.sso h.fix
theorem Ag {F:Fence} {n:Nat} {fn:Func} {R:Ending→World→Prop}:∀ {ds:List Deferred} {a:Act} {w:World},Inv G N Sin w0 σ a w S m→w0.wo.heap.size≤w0.heap.size→l9 w0.heap.size w ds→(∀ (w':World) (a':Act),a'.tmps=a.tmps→Inv G N Sin w0 σ a' w' S m→∃ v,(results fn a.tmps).run P w'=.ok v w'∧R (.returned v) w')→LeavesInM F n P fn a.tmps R ds .returning w
  | [],a,w,h,_,_,k=>k w a rfl h
  | d::ds,a,w,h,hwo,⟨⟨D,h1,h2,h3,h4⟩,h5⟩,k=>by
    refine⟨by simp,.inl ⟨D,_,by rw[h1],run_takeDeferred h3,?_⟩⟩;have hd:l9 w0.heap.size (w.putObj D (.deferred none)) ds:=by
      have key:∀ {ds:List Deferred},l9 w0.heap.size w ds→(∀ d'∈ds,d'.target≠.collected D)→l9 w0.heap.size (w.putObj D (.deferred none)) ds:=by
        intro ds
        induction ds with
        | nil=>intro _ _; trivial
        | cons d ds ih =>
          rintro⟨⟨D',g1,g2,g3,g4⟩,g5⟩ hne;refine⟨⟨D',g1,g2,?_,g4⟩,ih g5 fun d' hd'=>hne d' (by simp[hd'])⟩;refine (World.putObj_heap_other fun e=>?_).trans g3;exact hne d (by simp) (by rw[g1,e])
      exact key h5 h4
    have:=ZB h hwo h2 h3;exact Ag (a:={ a with defers:=[] }) this hwo hd fun w' a' e2 hi=>k w' a' e2 hi
theorem ahQ {f:FuncId} {fn:Func} {sf:aO} (hf:P.funcs[f]?=some fn) (hc:aM P H fn=some sf) {args:List D} {res:V} (hlen:args.length=sf.np)
    (e:cE P G sf.body (fun ax σ=>match ax with | .nrm=>fi σ sf.res res | .ret=>fi σ sf.res res | .ex _=>False) (entry args)):aF P G f args res:=by
  unfold aM at hc;split at hc
  ·rename_i c hb;split at hc
   ·rename_i body rs hbody hres;split at hc
    ·rename_i hnp;cases hc;intro w S vs hS hG hargs;refine (callsIn_wide (n:=3)).1 (callsIn_of_wp_marks (F:=Fence.wide) hf hb trivial ?_);have hvl:vs.length=args.length:=hargs.length;have hnp':vs.length≤fn.ntmps:=by simp only at hlen; omega
     have hsize:(vs.toArray++Array.replicate (fn.ntmps-vs.toArray.size) undef).size=fn.ntmps:=by simp; omega
     have hinv:Inv G fn.ntmps S (Gh.of w) (entry args) { tmps:=vs.toArray++Array.replicate (fn.ntmps-vs.toArray.size) undef,defers:=[] } w S (fun _=>none):=by
       refine⟨hsize,trivial,fun t=>?_,fun t i hi=>?_,fun id o ho=>(by cases ho),fun i j b s s' h1=>absurd rfl h1,fun b i hs=>⟨hS b i hs,.inl hs⟩,fun _ _ h=>h,hG,dz.refl _ _ _,eX.refl _,bR.refl _ _,fun _ _ h=>h.elim,fun t v h=>by cases h⟩
       ·simp only[entry];cases ht:args[t]? with
        | none=>trivial
        | some x =>
          obtain⟨v,h1,h2⟩:=hargs.get? ht;have hlt:=(aqd.1 h1).1;have:(vs.toArray++Array.replicate (fn.ntmps-vs.toArray.size) undef).getD t undef=v:=by
            rw[ari,Array.getElem?_append_left (by simpa using hlt)];simp[h1]
          rw[this];exact h2
       ·simp only[entry] at hi;split at hi <;> cases hi
     refine nc c hbody (r:=none) (fun _=>rfl) (fun t _=>rfl) ?_ hinv e;intro ax σ a w1 S1 m q h;have key:fi σ rs res→LeavesInM Fence.wide 3 P fn a.tmps (fun e w'=>∃ v S' bl,e=.returned v∧Below w.heap.size w w'∧(∀ b i,S' b i→(S b i∨w.heap.size≤b)∧b<w'.heap.size)∧bl.Nodup∧mH S' w' w.heap.size v res bl) a.defers .returning w1:=by
       rintro⟨ws,hws,hex⟩;refine Ag h (ap3 _) h.defers fun w2 a' e2 h=>?_
       rw[← e2];obtain⟨us,h1,h2,h3⟩:=Bs h hres hws;obtain⟨S',bl,k1,k2,k3⟩:=RB h (fun _ hx=>hx) h2 hex;have hbel:Below w.heap.size w w2:=h.below.below fun _ _ hx=>hx
       refine⟨nv us,?_,_,S',bl,rfl,hbel,k1,k2,k3⟩;rw[EQ];simp[Array.mapM_eq_mapM_toList,h1,nv]
     cases ax with
     | nrm=>exact key q
     | ret=>exact key q
     | ex _=>exact q.elim
    ·cases hc
   ·cases hc
  ·cases hc
def En:List W→V | [x]=>.w x | ws=>.tup ws
def pj (args:List W) (h0:aI) (L:List Nat):St:=⟨fun t=>match args[t]? with | some x=>.w x | none=>.undef,h0,fun i=>L.contains i⟩
def W.lnk:W→List Nat
  | .c (.ptr id ..)=>[id]
  | .c (.pa id _)=>[id]
  | .c (.cf _ a b)=>a.flatMap Cp.ids++b.flatMap Cp.ids
  | _=>[]
theorem ahR {m m1:Mp} {S S1:aT} {w w1:World} {g:Nat→Nat} {us:List Value} {l:List Cp} (h:aD (fu m S w) us l):∀ {l':List Cp},l'=l.map (Cp.ren g)→aD (fu m1 S1 w1) us l'→∀ id∈l.flatMap Cp.ids,m1 (g id)=m id:=by
  induction h with
  | nil=>intro l' _ _ id hi; cases hi
  | cons h1 _ ih =>
    rename_i a b as bs h2;intro l' e h' id hi;rw[apW] at e;subst e;cases h' with
    | cons k1 k2 =>
    rw[aqb,aqg] at hi;rcases hi with hi | hi
    ·cases b with
     | d x=>cases hi
     | p i sz j o =>
       obtain rfl:id=i:=by simpa [Cp.ids] using hi
       obtain⟨b1,q1,q2⟩:∃ b,m id=some (b,sz)∧a=.pointer (some ⟨b,j*sz+o,none⟩):=h1
       obtain⟨b2,q3,q4⟩:∃ b,m1 (g id)=some (b,sz)∧a=.pointer (some ⟨b,j*sz+o,none⟩):=k1
       grind
    ·exact ih rfl k2 id hi
theorem am7 {m m1:Mp} {S S1:aT} {w w1:World} {g:Nat→Nat} {v:Value} {x:W} (h:RW m S w v x) (h':RW m1 S1 w1 v (x.ren g)):∀ id∈x.lnk,m1 (g id)=m id:=by
  intro id hi;unfold W.lnk at hi;split at hi
  ·rename_i i sz j o;obtain rfl:id=i:=by simpa using hi
   obtain⟨b1,q1,q2⟩:∃ b,m id=some (b,sz)∧v=.pointer (some ⟨b,j*sz+o,none⟩):=h
   obtain⟨b2,q3,q4⟩:∃ b,m1 (g id)=some (b,sz)∧v=.pointer (some ⟨b,j*sz+o,none⟩):=h'
   grind
  ·rename_i i sz;obtain rfl:id=i:=by simpa using hi
   obtain⟨b1,q1,q2⟩:∃ b,m id=some (b,sz)∧v=.pointer (some ⟨b,0,none⟩):=h
   obtain⟨b2,q3,q4⟩:∃ b,m1 (g id)=some (b,sz)∧v=.pointer (some ⟨b,0,none⟩):=h'
   grind
  ·rename_i f a b;obtain⟨us,vs,q1,q2,q3⟩:∃ us vs:List Value,v=.func (.func f) us.toArray vs.toArray∧aD (fu m S w) us a∧aD (fu m S w) vs b:=h
   obtain⟨us',vs',q4,q5,q6⟩:∃ us vs:List Value,v=.func (.func f) us.toArray vs.toArray∧aD (fu m1 S1 w1) us (a.map (Cp.ren g))∧aD (fu m1 S1 w1) vs (b.map (Cp.ren g)):=h'
   grind [ahR]
  ·cases hi
def DT (σ:St) (l:List (Nat×Option Kd)) (lk:List Nat) (args:List W) (L:List Nat) (res:V) (h1:aI) (L1:List Nat):Prop :=
  ∃ ws,bE (dd σ) l=some ws∧∃ g:Nat→Nat,En ws=res.ren g∧(∀ id o,h1 id=some o→σ.h (g id)=some (o.ren g))∧(∀ i j,h1 i≠none→h1 j≠none→g i=g j→i=j) ∧
    ∀ id∈L,id∈L1→∃ t∈lk,∃ x,args[t]?=some x∧id∈x.lnk∧σ.f t=.w (x.ren g)
def am8 (args:List W) (h0:aI) (L:List Nat) (res:V) (h1:aI) (L1:List Nat):Prop :=
  (∀ id o,h0 id=some o→id∈L∧∀ j∈o.ids,j∈L)∧(∀ id∈L,h0 id≠none)∧(∀ x∈args,∀ i∈x.ids,i∈L)∧(∀ id o,h1 id=some o→id∈L1∧∀ j∈o.ids,j∈L1)∧∀ i∈res.ids,i∈L1
theorem ahS {us:List Value} {ws:List W} (h:aD (RW m S w) us ws):RV m S w (nv us) (En ws):=by
  cases h with
  | nil=>exact⟨[],rfl,.nil⟩
  | cons h1 h2 =>
    cases h2 with
    | nil=>exact h1
    | cons h2 h3=>exact⟨_,by unfold nv; rw[dif_neg (by simp)],.cons h1 (.cons h2 h3)⟩
theorem PH {f:FuncId} {fn:Func} {sf:aO} (hf:P.funcs[f]?=some fn) (hc:aM P H fn=some sf) {args:List W} {h0 h1:aI} {L L1 lk:List Nat} {res:V} (hlen:args.length=sf.np) (hlk:lk.all (fun t=>!sf.body.writes.contains t)=true) (hp:am8 args h0 L res h1 L1)
    {Q':AX→St→Prop} (hq:∀ ax σ,Q' ax σ→(∀ id,ax≠.ex id)∧DT σ sf.res lk args L res h1 L1) (e:cE P G sf.body Q' (pj args h0 L)):sB P G f args h0 L res h1 L1:=by
  refine⟨hp,?_⟩;obtain⟨p1,p2,p3,p4,p5⟩:=hp;unfold aM at hc;split at hc
  ·rename_i c hb;split at hc
   ·rename_i body rs hbody hres;split at hc
    ·rename_i hnp;cases hc;intro w S vs m hS hG hobj hinj hargs;refine (callsIn_wide (n:=3)).1 (callsIn_of_wp_marks (F:=Fence.wide) hf hb trivial ?_);have hvl:vs.length=args.length:=hargs.length;have hnp':vs.length≤fn.ntmps:=by simp only at hlen; omega
     have hsize:(vs.toArray++Array.replicate (fn.ntmps-vs.toArray.size) undef).size=fn.ntmps:=by simp; omega
     have hget:∀ t v,vs[t]?=some v→(vs.toArray++Array.replicate (fn.ntmps-vs.toArray.size) undef).getD t undef=v:=by
       intro t v h1;have hlt:=(aqd.1 h1).1;rw[ari,Array.getElem?_append_left (by simpa using hlt)];simp[h1]
     obtain⟨w0,hw0⟩:∃ w0:Gh,w0={ w with wo:=w,so:=S,fx:=fun t=>if body.writes.contains t then none else vs[t]?,ext:=pg h0 m }:=⟨_,rfl⟩
     have hinv:Inv G fn.ntmps S w0 (pj args h0 L) { tmps:=vs.toArray++Array.replicate (fn.ntmps-vs.toArray.size) undef,defers:=[] } w S m:=by
       subst hw0;refine⟨hsize,trivial,fun t=>?_,fun t i hi=>?_,fun id o ho=>⟨?_,?_,fun j hj=>?_⟩,hinj,fun b i hs=>⟨hS b i hs,.inl hs⟩,fun _ _ h=>h,hG,dz.refl _ _ _,eX.refl _,bR.refl _ _,fun _ _ h=>h,fun t v h=>?_⟩
       ·simp only[pj];cases ht:args[t]? with
        | none=>trivial
        | some x =>
          obtain⟨v,h1,h2⟩:=hargs.get? ht;rw[hget t v h1];exact h2
       ·simp only[pj] at hi ⊢;split at hi
        ·rename_i x hx
         simpa using p3 x (aqX hx) i hi
        ·cases hi
       ·have hk:=hobj id o ho;unfold bT at hk ⊢;split at hk
        ·exact hk
        ·rename_i b s hm;exact⟨hk.1,.inr ⟨id,o,s,ho,hm⟩,hk.2.2⟩
       ·simpa [pj] using (p1 id o ho).1
       ·simpa [pj] using (p1 id o ho).2 j hj
       grind
     refine nc c hbody (r:=none) (fun _=>rfl) (fun t ht=>?_) ?_ hinv e
     ·subst hw0;simp only;rw[if_pos (by simpa using ht)]
     intro ax σ a w1 S1 m1 q h
     have key:DT σ rs lk args L res h1 L1→LeavesInM Fence.wide 3 P fn a.tmps (fun e w'=>∃ v S' m',e=.returned v∧dz w.heap.size (pg h0 m) w w'∧eX w w'∧bR S w w'∧(∀ b i,S b i→S' b i)∧(∀ b i,S' b i→b<w'.heap.size∧(S b i∨w.heap.size≤b∨pg h0 m b)) ∧
         (∀ i∈L,i∈L1→m' i=m i)∧(∀ id o,h1 id=some o→bT m' S' (fun b=>w.heap.size≤b∨pg h0 m b) w' id o) ∧
         (∀ i j b s s',h1 i≠none→h1 j≠none→m' i=some (b,s)→m' j=some (b,s')→i=j)∧RV m' S' w' v res) a.defers .returning w1:=by
       rintro⟨ws,hws,g,hv,hh,hgi,hl⟩;refine Ag h (by subst hw0; exact ap3 _) h.defers fun w2 a' e2 h=>?_
       rw[← e2];obtain⟨us,h1',h2,h3⟩:=Bs h hres hws;refine⟨nv us,?_,nv us,S1,fun i=>m1 (g i),rfl,?_,?_,?_,?_,?_,?_,?_,?_,?_⟩
       ·rw[EQ];simp[Array.mapM_eq_mapM_toList,h1',nv]
       ·subst hw0; exact h.below
       ·subst hw0; exact h.oth
       ·subst hw0; exact h.kso
       ·exact h.sub
       ·subst hw0; exact h.sin
       ·intro id hid hid1;obtain⟨t,htl,x,ha,hx,hs⟩:=hl id hid hid1;obtain⟨v,k1,k2⟩:=hargs.get? ha;have k5:=h.slot t;rw[hs] at k5;have hnw:=ap9.1 hlk t htl;have k8:a'.tmps.getD t undef=v:=h.fix t v (by
          subst hw0;grind)
        rw[k8] at k5;exact am7 k2 k5 id hx
       ·intro id o ho;have:=(h.obj _ _ (hh id o ho)).1.ren;subst hw0;exact this
       ·intro i j b s s' hi hj e1 e2;obtain⟨oi,hi'⟩:=aqe.1 hi;obtain⟨oj,hj'⟩:=aqe.1 hj;exact hgi i j hi hj (h.inj (g i) (g j) b s s' (by rw[hh i oi hi']; simp) (by rw[hh j oj hj']; simp) e1 e2)
       ·refine RV.ren (g:=g) ?_;rw[← hv];exact ahS h2
     have q:=hq ax σ q;cases ax with
     | nrm=>exact key q.2
     | ret=>exact key q.2
     | ex i=>exact absurd rfl (q.1 i)
    ·cases hc
   ·cases hc
  ·cases hc
end
theorem jR {a b : Prop} (l : a) (r : b) : a ∧ b := And.intro l r
def bI {α:Type} (o:Option α) (k:α→Prop):Prop:=match o with | some x=>k x | none=>False
theorem XH {α:Type} (x:α) (k:α→Prop):bI (some x) k=k x:=rfl
theorem iH {α β:Type} (o:Option α) (g:α→β) (k:β→Prop):bI (o.map g) k=bI o fun v=>k (g v):=by cases o <;> rfl
theorem PI {α:Type} {o:Option α} {k:α→Prop} (x:α) (h:o=some x) (e:k x):bI o k:=by rw[h]; exact e
def DU:V→Option ByteArray | .w (.c (.d (.str s)))=>some s | _=>none
def Vm:V→Option (List W) | .tup ws=>some ws | _=>none
section
variable (P:Program) (G:au)
def DV (b:bp) (Q:AX→St→Prop) (e:AX) (s:St):Prop:=match e with | .nrm=>cE P G b Q s | e=>Q e s
def t9 (id:Nat) (Q:AX→St→Prop) (e:AX) (s:St):Prop:=match e with | .ex i=>if i=id then Q .nrm s else Q (.ex i) s | e=>Q e s
def zt (l:List (Nat×Option Kd)) (res:V) (e:AX) (s:St):Prop:=match e with | .nrm=>fi s l res | .ret=>fi s l res | .ex _=>False
def zu (a b:bp) (Q:AX→St→Prop) (s:St) (t:Bool):Prop:=(t=true→cE P G a Q s)∧(t=false→cE P G b Q s)
def qQ (d:Option Nat) (o:bK) (w:Bool) (r:List bi) (K:St→Prop) (f:Nat→V) (h:aI) (u:Nat→Bool) (t:Bool):Prop :=
  ((t==w)=true→bg P G (⟨d,o,none⟩::r) K ⟨f,h,u⟩)∧((t==w)=false→bg P G r K ⟨bY f d (.tup []),h,u⟩)
def zw (d:Option Nat) (o:bK) (w:Bool) (r:List bi) (K:St→Prop) (f:Nat→V) (h:aI) (u:Nat→Bool) (v:V):Prop :=
  match eD v with | some t=>qQ P G d o w r K f h u t | none=>v=.tup []∧bg P G r K ⟨bY f d (.tup []),h,u⟩
section
variable (d:Option Nat) (r:List bi) (K:St→Prop) (f:Nat→V) (h:aI) (u:Nat→Bool)
def Lb (v:V):Prop:=bg P G r K ⟨bY f d v,h,u⟩
def mQ (v:W):Prop:=bg P G r K ⟨bY f d (.w v),h,u⟩
def goC (v:C):Prop:=bg P G r K ⟨bY f d (.w (.c v)),h,u⟩
def Eo (v:D):Prop:=bg P G r K ⟨bY f d (.w (.c (.d v))),h,u⟩
def dV (q:R):Prop:=bg P G r K ⟨bY f d q.1,q.2.1,q.2.2⟩
def Ep (h':aI):Prop:=bg P G r K ⟨bY f d .undef,h',u⟩
def Vy (k:IntKind) (v:IntKind×Int):Prop:=bg P G r K ⟨bY f d (.w (.c (.d (.int k (k.wrap v.2))))),h,u⟩
def Vz (n:Nat):Prop:=bg P G r K ⟨bY f d (.w (.c (.d (.int .i64 (n:Int))))),h,u⟩
def VA (s:ByteArray):Prop:=bg P G r K ⟨bY f d (.w (.c (.d (.int .i64 (s.size:Int))))),h,u⟩
def Lc (y z:V) (t:Bool):Prop:=bg P G r K ⟨bY f d (bif t then y else z),h,u⟩
def DW (b p q:Bool):Prop:=bg P G r K ⟨bY f d (.w (.c (.d (.bool (bif b then !(p==q) else (p==q)))))),h,u⟩
def VB (b:Bool) (y:V) (p:Bool):Prop:=bI (eD y) (DW P G d r K f h u b p)
def VC (k:Kd) (x:V) (w:W):Prop:=bI (aa h k x w) (Ep P G d r K f u)
def VD (o:Nat) (k:Kd) (cs:List C):Prop:=bI (mP cs o k) (mQ P G d r K f h u)
def KG (s:Nat) (k:Kd) (cs:List C) (j:Nat):Prop:=bI (mP cs (j*s) k) (mQ P G d r K f h u)
def VE (s n:Nat) (k:Kd) (y:SX) (cs:List C):Prop:=bI (lC (ev G f) y n) (KG P G d r K f h u s k cs)
def VF (cs:List C):Prop:=bg P G r K ⟨bY f d (.w (jC cs)),h,u⟩
def VG (i:Nat) (ws:List W):Prop:=bI ws[i]? (mQ P G d r K f h u)
end
end
section
variable {P:Program} {G:au} {Q:AX→St→Prop} {K:St→Prop} {r:List bi} {f:Nat→V} {h:aI} {u:Nat→Bool} {d:Option Nat} {x y z:SX}
theorem XI (a b:bp) (σ:St):zu P G a b Q σ true=cE P G a Q σ:=by simp[zu]
theorem WN (a b:bp) (σ:St):zu P G a b Q σ false=cE P G b Q σ:=by simp[zu]
theorem ac2 (o:bK) (w:Bool):qQ P G d o w r K f h u w=bg P G (⟨d,o,none⟩::r) K ⟨f,h,u⟩:=by simp[qQ]
theorem ZC (o:bK):qQ P G d o true r K f h u false=bg P G r K ⟨bY f d (.tup []),h,u⟩:=by simp[qQ]
theorem ZD (o:bK):qQ P G d o false r K f h u true=bg P G r K ⟨bY f d (.tup []),h,u⟩:=by simp[qQ]
theorem ahT (o:bK) (w t:Bool):zw P G d o w r K f h u (.w (.c (.d (.bool t))))=qQ P G d o w r K f h u t:=rfl
theorem XJ (o:bK) (w:Bool):zw P G d o w r K f h u (.tup [])=bg P G r K ⟨bY f d (.tup []),h,u⟩:=by simp[zw,eD]
theorem ZE (σ:St):cE P G .skip Q σ=Q .nrm σ:=rfl
theorem ac3 (l:List bi) (σ:St):cE P G (.reg l) Q σ=bg P G l (Q .nrm) σ:=rfl
theorem ac4 (a b:bp) (σ:St):cE P G (.seq a b) Q σ=cE P G a (DV P G b Q) σ:=by
  show cE P G a _ σ=_
  congr 1
theorem ZF (a b:bp):cE P G (.cond x a b) Q ⟨f,h,u⟩=bI (eD (ev G f x)) (zu P G a b Q ⟨f,h,u⟩):=by
  show (match eD (ev G f x) with | some t=>_ | none=>False)=_
  cases eD (ev G f x) <;> rfl
theorem XK (id:Nat) (c:bp) (σ:St):cE P G (.block id c) Q σ=cE P G c (t9 id Q) σ:=by
  show cE P G c _ σ=_
  congr 1
theorem ZG (id:Nat) (σ:St):cE P G (.exit id) Q σ=Q (.ex id) σ:=rfl
theorem ac5 (σ:St):cE P G .ret Q σ=Q .ret σ:=rfl
theorem ZH (b:bp) (σ:St):DV P G b Q .nrm σ=cE P G b Q σ:=rfl
theorem ac6 (b:bp) (i:Nat) (σ:St):DV P G b Q (.ex i) σ=Q (.ex i) σ:=rfl
theorem ZI (b:bp) (σ:St):DV P G b Q .ret σ=Q .ret σ:=rfl
theorem ZJ (id:Nat) (σ:St):t9 id Q .nrm σ=Q .nrm σ:=rfl
theorem ZK (id:Nat) (σ:St):t9 id Q .ret σ=Q .ret σ:=rfl
theorem ac7 (id:Nat) (σ:St):t9 id Q (.ex id) σ=Q .nrm σ:=by simp[t9]
theorem ac8 (id i:Nat) (σ:St) (hn:(i==id)=false):t9 id Q (.ex i) σ=Q (.ex i) σ:=by
  have:i≠id:=by simpa using hn
  simp[t9,this]
theorem ZL (l:List (Nat×Option Kd)) (res:V) (σ:St):zt l res .nrm σ=fi σ l res:=rfl
theorem ZM (l:List (Nat×Option Kd)) (res:V) (σ:St):zt l res .ret σ=fi σ l res:=rfl
theorem ZN (σ:St):bg P G [] K σ=K σ:=rfl
theorem ZO (s:bK) (t:Nat) (b:Bool):bg P G (⟨d,s,some (t,b)⟩::r) K ⟨f,h,u⟩=zw P G d s b r K f h u (f t):=by
  show (match eD (f t) with | some c=>_ | none=>_)=_
  unfold zw;cases eD (f t) with
  | none=>rfl
  | some c =>
    simp only[qQ];cases c <;> cases b <;> simp <;> rfl
def bK.isCall:bK→Bool | .call ..=>true | .callM ..=>true | _=>false
theorem cV (s:bK) (hs:s.isCall=false):bg P G (⟨d,s,none⟩::r) K ⟨f,h,u⟩=bI (ef (ev G f) h u (d.getD 0) s) (dV P G d r K f):=by
  have key:∀ J:R→Prop,oC P G s (ev G f) h u (d.getD 0) J=bI (ef (ev G f) h u (d.getD 0) s) J:=by
    intro J;have m:∀ o:Option R,(match o with | some r=>J r | none=>False)=bI o J:=fun o=>by cases o <;> rfl
    rw[← m];cases s <;> first | rfl | (simp[bK.isCall] at hs; done)
  exact key _
theorem ahU (v:V):Lb P G d r K f h u v=bg P G r K ⟨bY f d v,h,u⟩:=rfl
theorem ahV (v:W):mQ P G d r K f h u v=bg P G r K ⟨bY f d (.w v),h,u⟩:=rfl
theorem ahW (v:C):goC P G d r K f h u v=bg P G r K ⟨bY f d (.w (.c v)),h,u⟩:=rfl
theorem ahX (v:D):Eo P G d r K f h u v=bg P G r K ⟨bY f d (.w (.c (.d v))),h,u⟩:=rfl
theorem ahY (v:V) (h':aI) (u':Nat→Bool):dV P G d r K f (v,h',u')=bg P G r K ⟨bY f d v,h',u'⟩:=rfl
theorem ahZ (h':aI):Ep P G d r K f u h'=bg P G r K ⟨bY f d .undef,h',u⟩:=rfl
theorem ah0 (k k':IntKind) (n:Int):Vy P G d r K f h u k (k',n)=bg P G r K ⟨bY f d (.w (.c (.d (.int k (k.wrap n))))),h,u⟩:=rfl
theorem ah1 (n:Nat):Vz P G d r K f h u n=bg P G r K ⟨bY f d (.w (.c (.d (.int .i64 (n:Int))))),h,u⟩:=rfl
theorem ah2 (s:ByteArray):VA P G d r K f h u s=bg P G r K ⟨bY f d (.w (.c (.d (.int .i64 (s.size:Int))))),h,u⟩:=rfl
theorem ZP (y z:V):Lc P G d r K f h u y z true=bg P G r K ⟨bY f d y,h,u⟩:=rfl
theorem XL (y z:V):Lc P G d r K f h u y z false=bg P G r K ⟨bY f d z,h,u⟩:=rfl
theorem ah3 (p q:Bool):DW P G d r K f h u true p q=bg P G r K ⟨bY f d (.w (.c (.d (.bool (!(p==q)))))),h,u⟩:=rfl
theorem ah4 (p q:Bool):DW P G d r K f h u false p q=bg P G r K ⟨bY f d (.w (.c (.d (.bool (p==q))))),h,u⟩:=rfl
theorem ah5 (b:Bool) (y:V) (p:Bool):VB P G d r K f h u b y p=bI (eD y) (DW P G d r K f h u b p):=rfl
theorem ah6 (k:Kd) (v:V) (w:W):VC P G d r K f h u k v w=bI (aa h k v w) (Ep P G d r K f u):=rfl
theorem ah7 (o:Nat) (k:Kd) (cs:List C):VD P G d r K f h u o k cs=bI (mP cs o k) (mQ P G d r K f h u):=rfl
theorem ac9 (s:Nat) (k:Kd) (cs:List C) (j:Nat):KG P G d r K f h u s k cs j=bI (mP cs (j*s) k) (mQ P G d r K f h u):=rfl
theorem ah8 (s n:Nat) (k:Kd) (w:SX) (cs:List C):VE P G d r K f h u s n k w cs=bI (lC (ev G f) w n) (KG P G d r K f h u s k cs):=rfl
theorem ah9 (cs:List C):VF P G d r K f h u cs=bg P G r K ⟨bY f d (.w (jC cs)),h,u⟩:=rfl
theorem aia (i:Nat) (ws:List W):VG P G d r K f h u i ws=bI ws[i]? (mQ P G d r K f h u):=rfl
theorem am9 :bg P G (⟨d,.mv x,none⟩::r) K ⟨f,h,u⟩=bg P G r K ⟨bY f d (ev G f x),h,u⟩:=rfl
theorem XM (n:Nat):bg P G (⟨d,.lenArr n,none⟩::r) K ⟨f,h,u⟩=bg P G r K ⟨bY f d (.w (.c (.d (.int .i64 n)))),h,u⟩:=rfl
theorem ada :bg P G (⟨d,.pick x y z,none⟩::r) K ⟨f,h,u⟩=bI (eD (ev G f x)) (Lc P G d r K f h u (ev G f y) (ev G f z)):=by
  rw[cV _ rfl];simp only[ef];cases eD (ev G f x) with
  | none=>rfl
  | some t=>cases t <;> rfl
theorem aib (op:BinOp):bg P G (⟨d,.bin op x y,none⟩::r) K ⟨f,h,u⟩=bI (db op (ev G f x) (ev G f y)) (Eo P G d r K f h u):=by
  rw[cV _ rfl]; exact iH _ _ _
theorem aic (b:Bool) (ks:List Nat):bg P G (⟨d,.eqA b ks x y,none⟩::r) K ⟨f,h,u⟩=bI (zR b ks (ev G f x) (ev G f y)) (Eo P G d r K f h u):=by
  rw[cV _ rfl]; exact iH _ _ _
theorem ana (op:UnOp):bg P G (⟨d,.un op x,none⟩::r) K ⟨f,h,u⟩=bI (pS op (ev G f x)) (Eo P G d r K f h u):=by
  rw[cV _ rfl]; exact iH _ _ _
theorem adb (k:IntKind):bg P G (⟨d,.conv k x,none⟩::r) K ⟨f,h,u⟩=bI (fV (ev G f x)) (Vy P G d r K f h u k):=by
  rw[cV _ rfl]; exact iH _ _ _
theorem aid (b:Bool):bg P G (⟨d,.eqB b x y,none⟩::r) K ⟨f,h,u⟩=bI (eD (ev G f x)) (VB P G d r K f h u b (ev G f y)):=by
  rw[cV _ rfl];simp only[ef];cases hp:eD (ev G f x) with
  | none=>rfl
  | some p =>
    show _=bI (eD (ev G f y)) _
    cases eD (ev G f y) with
    | none=>rfl
    | some q=>cases b <;> rfl
theorem aie :bg P G (⟨d,.len x,none⟩::r) K ⟨f,h,u⟩=bI (mz (ev G f x)) (Vz P G d r K f h u):=by
  rw[cV _ rfl]; exact iH _ _ _
theorem XN :bg P G (⟨d,.lenStr x,none⟩::r) K ⟨f,h,u⟩=bI (DU (ev G f x)) (VA P G d r K f h u):=by
  rw[cV _ rfl];have:ef (ev G f) h u (d.getD 0) (.lenStr x)=(DU (ev G f x)).map fun s=>(vd (.int .i64 s.size),h,u):=by
    simp only[ef];unfold DU;split
    ·rename_i e; rw[e]; rfl
    ·rename_i hn;split
     ·rename_i e; exact absurd e (hn _)
     ·rfl
  rw[this];exact iH _ _ _
theorem adc (k:Kd):bg P G (⟨d,.load k x,none⟩::r) K ⟨f,h,u⟩=bI (fc h k (ev G f x)) (mQ P G d r K f h u):=by
  rw[cV _ rfl]; exact iH _ _ _
theorem ZQ (k:Kd):bg P G (⟨d,.loadB k x,none⟩::r) K ⟨f,h,u⟩=bI (jF h k (ev G f x)) (mQ P G d r K f h u):=by
  rw[cV _ rfl]; exact iH _ _ _
theorem XO (k:Kd):bg P G (⟨d,.loadX k x [],none⟩::r) K ⟨f,h,u⟩=bI (iy h k [] (ev G f x)) (mQ P G d r K f h u):=by
  rw[cV _ rfl]; exact iH _ _ _
theorem XP (k:Kd):bg P G (⟨d,.loadX k x [y],none⟩::r) K ⟨f,h,u⟩=bI (iy h k [ev G f y] (ev G f x)) (mQ P G d r K f h u):=by
  rw[cV _ rfl]; exact iH _ _ _
theorem XQ (k:Kd):bg P G (⟨d,.loadX k x [y,z],none⟩::r) K ⟨f,h,u⟩=bI (iy h k [ev G f y,ev G f z] (ev G f x)) (mQ P G d r K f h u):=by
  rw[cV _ rfl]; exact iH _ _ _
theorem ZR (k:Kd):bg P G (⟨d,.store k x y,none⟩::r) K ⟨f,h,u⟩=bI (j9 (ev G f y)) (VC P G d r K f h u k (ev G f x)):=by
  rw[cV _ rfl];simp only[ef];cases j9 (ev G f y) with
  | none=>rfl
  | some w=>exact iH _ _ _
theorem VY (o:Nat):bg P G (⟨d,.fieldAddr o x,none⟩::r) K ⟨f,h,u⟩=bI (xi o (ev G f x)) (goC P G d r K f h u):=by
  rw[cV _ rfl]; exact iH _ _ _
theorem ZS (o:Nat) (k:Kd):bg P G (⟨d,.field o k x,none⟩::r) K ⟨f,h,u⟩=bI (iZ (ev G f x)) (VD P G d r K f h u o k):=by
  rw[cV _ rfl];simp only[ef];cases iZ (ev G f x) with
  | none=>rfl
  | some w=>exact iH _ _ _
theorem XR (s n:Nat) (k:Kd):bg P G (⟨d,.idxArr s n k x y,none⟩::r) K ⟨f,h,u⟩=bI (iZ (ev G f x)) (VE P G d r K f h u s n k y):=by
  rw[cV _ rfl];simp only[ef];cases iZ (ev G f x) with
  | none=>rfl
  | some w =>
    show _=bI (lC (ev G f) y n) _
    cases lC (ev G f) y n with
    | none=>rfl
    | some j=>exact iH _ _ _
theorem WO (i:Nat):bg P G (⟨d,.extract x i,none⟩::r) K ⟨f,h,u⟩=bI (Vm (ev G f x)) (VG P G d r K f h u i):=by
  rw[cV _ rfl];simp only[ef];cases ev G f x with
  | tup ws=>exact iH _ _ _
  | _=>rfl
theorem ZT (c:List C) (ps:List (Nat×Nat×SX)):bg P G (⟨d,.build c ps,none⟩::r) K ⟨f,h,u⟩=bI (parts (ev G f) ps c) (VF P G d r K f h u):=by
  rw[cV _ rfl]; exact iH _ _ _
theorem ZU (c:List C):bg P G (⟨d,.alloc c,none⟩::r) K ⟨f,h,u⟩=bI (ef (ev G f) h u (d.getD 0) (.alloc c)) (dV P G d r K f):=cV _ rfl
theorem V7 (c:List D):bg P G (⟨d,.allocArr c,none⟩::r) K ⟨f,h,u⟩=bI (ef (ev G f) h u (d.getD 0) (.allocArr c)) (dV P G d r K f):=cV _ rfl
theorem XS (s:Nat):bg P G (⟨d,.nilOwn s,none⟩::r) K ⟨f,h,u⟩=bI (ef (ev G f) h u (d.getD 0) (.nilOwn s)) (dV P G d r K f):=cV _ rfl
theorem aif (m:Bx):bg P G (⟨d,.box m x,none⟩::r) K ⟨f,h,u⟩=bI (ef (ev G f) h u (d.getD 0) (.box m x)) (dV P G d r K f):=cV _ rfl
theorem ZV (b:Bool) (n s:Nat) (c:D) (ps:List (Nat×SX)):bg P G (⟨d,.bldSl b n s c ps,none⟩::r) K ⟨f,h,u⟩=bI (ef (ev G f) h u (d.getD 0) (.bldSl b n s c ps)) (dV P G d r K f):=cV _ rfl
theorem ZW (n s:Nat) (c:D) (ps:List (Nat×SX)):bg P G (⟨d,.bldFz n s c ps,none⟩::r) K ⟨f,h,u⟩=bI (ef (ev G f) h u (d.getD 0) (.bldFz n s c ps)) (dV P G d r K f):=cV _ rfl
theorem XT (c:List C) (ps:List (Nat×Nat×SX)):bg P G (⟨d,.buildF c ps,none⟩::r) K ⟨f,h,u⟩=bI (ef (ev G f) h u (d.getD 0) (.buildF c ps)) (dV P G d r K f):=cV _ rfl
theorem aig :bg P G (⟨d,.b2s x,none⟩::r) K ⟨f,h,u⟩=bI (ef (ev G f) h u (d.getD 0) (.b2s x)) (dV P G d r K f):=cV _ rfl
theorem aih (b:Bool):bg P G (⟨d,.s2b b x,none⟩::r) K ⟨f,h,u⟩=bI (ef (ev G f) h u (d.getD 0) (.s2b b x)) (dV P G d r K f):=cV _ rfl
theorem ade (w:Bool) (s b:Nat) (c:D):bg P G (⟨d,.make w s b c x y,none⟩::r) K ⟨f,h,u⟩=bI (ef (ev G f) h u (d.getD 0) (.make w s b c x y)) (dV P G d r K f):=cV _ rfl
theorem ZX (s:Nat) (a b c:Option SX):bg P G (⟨d,.slice s x a b c,none⟩::r) K ⟨f,h,u⟩=bI (ef (ev G f) h u (d.getD 0) (.slice s x a b c)) (dV P G d r K f):=cV _ rfl
theorem V8 (a b:Option SX):bg P G (⟨d,.sliceStr x a b,none⟩::r) K ⟨f,h,u⟩=bI (ef (ev G f) h u (d.getD 0) (.sliceStr x a b)) (dV P G d r K f):=cV _ rfl
theorem V9 (s n:Nat) (a b:Option SX):bg P G (⟨d,.sliceArr s n x a b,none⟩::r) K ⟨f,h,u⟩=bI (ef (ev G f) h u (d.getD 0) (.sliceArr s n x a b)) (dV P G d r K f):=cV _ rfl
theorem ZY (s:Nat):bg P G (⟨d,.idxSl s x y,none⟩::r) K ⟨f,h,u⟩=bI (ef (ev G f) h u (d.getD 0) (.idxSl s x y)) (dV P G d r K f):=cV _ rfl
theorem ZZ (s n:Nat):bg P G (⟨d,.idxPa s n x y,none⟩::r) K ⟨f,h,u⟩=bI (ef (ev G f) h u (d.getD 0) (.idxPa s n x y)) (dV P G d r K f):=cV _ rfl
theorem XU :bg P G (⟨d,.idxStr x y,none⟩::r) K ⟨f,h,u⟩=bI (ef (ev G f) h u (d.getD 0) (.idxStr x y)) (dV P G d r K f):=cV _ rfl
theorem aii (b:Bool) (s n:Nat):bg P G (⟨d,.app b s n x y,none⟩::r) K ⟨f,h,u⟩=bI (ef (ev G f) h u (d.getD 0) (.app b s n x y)) (dV P G d r K f):=cV _ rfl
theorem adf (b:Bool) (s n:Nat):bg P G (⟨d,.appN b s n x y,none⟩::r) K ⟨f,h,u⟩=bI (ef (ev G f) h u (d.getD 0) (.appN b s n x y)) (dV P G d r K f):=cV _ rfl
theorem adg (s:Nat):bg P G (⟨d,.copy s x y,none⟩::r) K ⟨f,h,u⟩=bI (ef (ev G f) h u (d.getD 0) (.copy s x y)) (dV P G d r K f):=cV _ rfl
theorem aij (l:List SX):bg P G (⟨d,.min l,none⟩::r) K ⟨f,h,u⟩=bI (ef (ev G f) h u (d.getD 0) (.min l)) (dV P G d r K f):=cV _ rfl
theorem aik (l:List SX):bg P G (⟨d,.max l,none⟩::r) K ⟨f,h,u⟩=bI (ef (ev G f) h u (d.getD 0) (.max l)) (dV P G d r K f):=cV _ rfl
theorem ail :bg P G (⟨d,.frz x,none⟩::r) K ⟨f,h,u⟩=bI (ef (ev G f) h u (d.getD 0) (.frz x)) (dV P G d r K f):=cV _ rfl
theorem adh :bg P G (⟨d,.mark x,none⟩::r) K ⟨f,h,u⟩=bI (ef (ev G f) h u (d.getD 0) (.mark x)) (dV P G d r K f):=cV _ rfl
theorem Z0 :bg P G (⟨d,.markF x,none⟩::r) K ⟨f,h,u⟩=bI (ef (ev G f) h u (d.getD 0) (.markF x)) (dV P G d r K f):=cV _ rfl
theorem LX {fn:FuncId} {xs:List SX} {own:Option (Nat×Nat)} {res:V} (h2:qv P G h fn (xs.map (ev G f)) res) (h3:qz h (xs.map (ev G f)) res)
    (e:bI (gM h u (d.getD 0) own res) (dV P G d r K f)) (hp:mu own (xs.map (ev G f))):bg P G (⟨d,.call fn xs own,none⟩::r) K ⟨f,h,u⟩:=by
  have e':(match gM h u (d.getD 0) own res with | some r'=>bg P G r K ⟨bY f d r'.1,r'.2.1,r'.2.2⟩ | none=>False):=by
    revert e
    cases gM h u (d.getD 0) own res <;> exact fun h=>h
  exact⟨res,h2,h3,hp,e'⟩
theorem Fq {fn:FuncId} {xs:List SX} {own:Option (Nat×Nat)} {res:V} (h2:qv P G h fn (xs.map (ev G f)) res) (h3:((xs.map (ev G f)).any V.hasOwn=false∨res.flat=true))
    (e:bI (gM h u (d.getD 0) own res) (dV P G d r K f)) (hp:mu own (xs.map (ev G f))):bg P G (⟨d,.call fn xs own,none⟩::r) K ⟨f,h,u⟩ :=
  LX h2 (fun hh=>by rcases h3 with h3 | h3; (· rw[h3] at hh; cases hh); exact .inl h3) e hp
theorem Z1 {fn:FuncId} {xs:List SX} {own:Option (Nat×Nat)} {ds:List D} {res:V} (h2:aF P G fn ds res) (h1:fK h (xs.map (ev G f))=some ds) (h3:res.byt=true) (h4:v7 (xs.map (ev G f)) ds=true)
    (e:bI (gM h u (d.getD 0) own res) (dV P G d r K f)) (hne:fn≠jD:=by decide) (hp:mu own (xs.map (ev G f)):=by first | exact uW _ | exact vk _ _ _ | exact uX _ _ rfl):bg P G (⟨d,.call fn xs own,none⟩::r) K ⟨f,h,u⟩ :=
  LX (.inl ⟨hne,ds,h1,h2⟩) (fun _=>.inr ⟨h3,ds,h1,h4⟩) e hp
theorem bM {fn:FuncId} {xs:List SX} {own:Option (Nat×Nat)} {ds:List D} {res:V} (h2:aF P G fn ds res) (h1:fK h (xs.map (ev G f))=some ds) (h3:((xs.map (ev G f)).any V.hasOwn=false∨res.flat=true))
    (e:bI (gM h u (d.getD 0) own res) (dV P G d r K f)) (hne:fn≠jD:=by decide) (hp:mu own (xs.map (ev G f)):=by first | exact uW _ | exact vk _ _ _ | exact uX _ _ rfl):bg P G (⟨d,.call fn xs own,none⟩::r) K ⟨f,h,u⟩ :=
  Fq (.inl ⟨hne,ds,h1,h2⟩) h3 e hp
theorem sC {fn:FuncId} {xs:List SX} {own:Option (Nat×Nat)} {ds:List D} {res:V} (h2:aF P G fn ds res) (e:bI (gM h u (d.getD 0) own res) (dV P G d r K f)) (h1:fK h (xs.map (ev G f))=some ds:=by exact rfl)
    (h3:((xs.map (ev G f)).any V.hasOwn=false∨res.flat=true):=by exact .inl rfl) (hne:fn≠jD:=by decide) (hp:mu own (xs.map (ev G f)):=by first | exact uW _ | exact vk _ _ _ | exact uX _ _ rfl):bg P G (⟨d,.call fn xs own,none⟩::r) K ⟨f,h,u⟩ :=
  bM h2 h1 h3 e hne hp
theorem uZ {g:FuncId} {caps:List D} {xs:List SX} {own:Option (Nat×Nat)} {ds:List D} {res:V} (h2:oo P G g caps ds res) (h1:fK h (xs.map (ev G f))=some (.fn g caps::ds)) (h3:((xs.map (ev G f)).any V.hasOwn=false∨res.flat=true))
    (e:bI (gM h u (d.getD 0) own res) (dV P G d r K f)) (hp:mu own (xs.map (ev G f)):=by first | exact uW _ | exact vk _ _ _ | exact uX _ _ rfl):bg P G (⟨d,.call 1000000007 xs own,none⟩::r) K ⟨f,h,u⟩ :=
  Fq (.inr (.inl ⟨rfl,g,caps,ds,h1,h2⟩)) h3 e hp
theorem Z2 {fn:FuncId} {xs:List SX} {own:Option (Nat×Nat)} {ws:List W} {res:V} (h2:zs P G fn ws res) (h1:xs.map (ev G f)=ws.map V.w) (h4:ws.all W.isPure=true) (h3:((xs.map (ev G f)).any V.hasOwn=false∨res.flat=true))
    (e:bI (gM h u (d.getD 0) own res) (dV P G d r K f)) (hne:fn≠jD:=by decide) (hp:mu own (xs.map (ev G f)):=by first | exact uW _ | exact vk _ _ _ | exact uX _ _ rfl):bg P G (⟨d,.call fn xs own,none⟩::r) K ⟨f,h,u⟩ :=
  Fq (.inr (.inr ⟨hne,ws,h1,ap9.1 h4,h2⟩)) h3 e hp
theorem adi {α:Type} (f:Nat→α) (i j:Nat) (x:α) (h:(j==i)=false):upd f i x j=f j:=upd_ne f x (by simpa using h)
theorem XV {α:Type} (f:Nat→α) (i:Nat) (x:α):bY f (some i) x=upd f i x:=rfl
theorem XW {α:Type} (f:Nat→α) (x:α):bY f none x=f:=rfl
theorem apn (n:Nat):ev G f (.t n)=f n:=rfl
theorem apo (v:W):ev G f (.k v)=.w v:=rfl
def uf:Nat→V:=fun _=>.undef
def hN:aI:=fun _=>none
def uN:Nat→Bool:=fun _=>false
def ai:Nat→List D→(Nat→V)→Nat→V
  | _,[],f=>f
  | i,x::r,f=>ai (i+1) r (upd f i (.w (.c (.d x))))
theorem LY:∀ (l:List D) (i:Nat) (f:Nat→V) (t:Nat),ai i l f t=if i≤t then (match l[t-i]? with | some x=>vd x | none=>f t) else f t
  | [],i,f,t=>by simp[ai]
  | x::l,i,f,t=>by
    rw[ai,LY l (i+1)];by_cases h:i=t
    ·subst h;rw[if_neg (by omega),if_pos (ap3 _)];simp[upd,vd]
    ·by_cases h2:i≤t
     ·rw[if_pos (by omega),if_pos h2];have:t-i=(t-(i+1))+1:=by omega
      rw[this,aqR];cases l[t-(i+1)]? with
      | some y=>rfl
      | none=>simp[upd,show t≠i from fun e=>h e.symm]
     ·rw[if_neg (by omega),if_neg h2];simp[upd,show t≠i from fun e=>h e.symm]
theorem entry_eq (args:List D):entry args=⟨ai 0 args uf,hN,uN⟩:=by
  unfold entry
  congr 1
  funext t
  rw[LY];simp only[apZ,if_true,Nat.sub_zero];rfl
theorem aim (i:Nat):hN i=none:=rfl
theorem ain (i:Nat):uN i=false:=rfl
theorem aio (i:Nat):uf i=.undef:=rfl
theorem aX {F:FuncId} {fn:Func} {sf:aO} {H:Hint} (hf:P.funcs[F]?=some fn) (hc:aM P H fn=some sf) {args:List D} {res:V} {f0:Nat→V} (hlen:args.length=sf.np) (h0:ai 0 args uf=f0)
    (e:cE P G sf.body (zt sf.res res) ⟨f0,hN,uN⟩):aF P G F args res:=by
  refine ahQ hf hc hlen ?_;rw[entry_eq,h0];exact e
end
theorem aip (k:IntKind) (n:Int):fV (.w (.c (.d (.int k n))))=some (k,n):=rfl
theorem aiq (b:Bool):eD (.w (.c (.d (.bool b))))=some b:=rfl
theorem air (w:W):j9 (.w w)=some w:=rfl
theorem ais (cs:List D):iZ (.w (.c (.d (.agg cs))))=some (cs.map C.d):=rfl
theorem ait (cs:List C):iZ (.w (.mix cs))=some cs:=rfl
theorem adj (s:ByteArray):DU (.w (.c (.d (.str s))))=some s:=rfl
theorem adk (ws:List W):Vm (.tup ws)=some ws:=rfl
theorem aiu (es:List D):mz (.w (.c (.d (.sl es))))=some es.length:=rfl
theorem Z3:mz (.w (.c .nil))=some 0:=rfl
theorem Z4 (id sz off n:Nat):mz (.w (.c (.own id sz off n)))=some n:=rfl
theorem adl (off id sz i o:Nat):xi off (.w (.c (.ptr id sz i o)))=some (.ptr id sz i (o+off)):=rfl
theorem aiv (off:Nat) (cs:List D):xi off (.w (.c (.rp cs)))=some (.rp (cs.drop off)):=rfl
theorem Z5 (op:BinOp) (k k':IntKind) (a b:Int):db op (.w (.c (.d (.int k a)))) (.w (.c (.d (.int k' b))))=cS op k a k' b:=rfl
theorem Z6 (op:BinOp) (a b:ByteArray):db op (.w (.c (.d (.str a)))) (.w (.c (.d (.str b))))=pH op a b:=rfl
theorem F6 (k:IntKind) (a b:Int):cS .add k a k b=some (.int k (k.wrap (a+b))):=by simp[cS]
theorem Z7 (k:IntKind) (a b:Int):cS .sub k a k b=some (.int k (k.wrap (a-b))):=by simp[cS]
theorem NO (k:IntKind) (a b:Int):cS .mul k a k b=some (.int k (k.wrap (a*b))):=by simp[cS]
theorem F7 (k:IntKind) (a b:Int):cS .eql k a k b=some (.bool (if a=b then true else false)):=by
  simp only[cS,ne_eq,not_true_eq_false,if_false,ap2,D.bool.injEq];by_cases h:a=b <;> simp[h]
theorem F8 (k:IntKind) (a b:Int):cS .neq k a k b=some (.bool (if a=b then false else true)):=by
  simp only[cS,ne_eq,not_true_eq_false,if_false,ap2,D.bool.injEq];by_cases h:a=b <;> simp[h]
theorem Z8 (k:IntKind) (a b:Int):cS .lss k a k b=some (.bool (if a<b then true else false)):=by
  simp only[cS,ne_eq,not_true_eq_false,if_false,ap2,D.bool.injEq];by_cases h:a<b <;> simp[h]
theorem Z9 (k:IntKind) (a b:Int):cS .leq k a k b=some (.bool (if a≤b then true else false)):=by
  simp only[cS,ne_eq,not_true_eq_false,if_false,ap2,D.bool.injEq];by_cases h:a≤b <;> simp[h]
theorem aaa (k:IntKind) (a b:Int):cS .gtr k a k b=some (.bool (if a>b then true else false)):=by
  simp only[cS,ne_eq,not_true_eq_false,if_false,ap2,D.bool.injEq];by_cases h:a>b <;> simp[h]
theorem aab (k:IntKind) (a b:Int):cS .geq k a k b=some (.bool (if a≥b then true else false)):=by
  simp only[cS,ne_eq,not_true_eq_false,if_false,ap2,D.bool.injEq];by_cases h:a≥b <;> simp[h]
theorem F9 (k:IntKind) (a b:Int):cS .and k a k b=some (.int k (bits .and k a b)):=by simp[cS]
theorem G7 (k:IntKind) (a b:Int):cS .or k a k b=some (.int k (bits .or k a b)):=by simp[cS]
theorem Ga (k:IntKind) (a b:Int):cS .xor k a k b=some (.int k (bits .xor k a b)):=by simp[cS]
theorem Wa (k:IntKind) (a b:Int):cS .andNot k a k b=some (.int k (bits .andNot k a b)):=by simp[cS]
theorem Gb (k k':IntKind) (a b:Int) (h:0≤b):cS .shl k a k' b=some (.int k (k.wrap (a*2^min b.toNat k.bits))):=by simp[cS,h]
theorem Gd (k k':IntKind) (a b:Int) (h:0≤b):cS .shr k a k' b=some (.int k (a / 2^min b.toNat k.bits)):=by simp[cS,h]
theorem aac (k:IntKind) (a b:Int) (h:b≠0):cS .quo k a k b=some (.int k (k.wrap (a.tdiv b))):=by simp[cS,h]
theorem aad (k:IntKind) (a b:Int) (h:b≠0):cS .rem k a k b=some (.int k (a.tmod b)):=by simp[cS,h]
theorem adm (k:IntKind) (n:Int):pS .neg (.w (.c (.d (.int k n))))=some (.int k (k.wrap (0-n))):=rfl
theorem adn (b:Bool):pS .not (.w (.c (.d (.bool b))))=some (.bool !b):=rfl
theorem ado (k:IntKind) (n:Int):pS .xor (.w (.c (.d (.int k n))))=some (.int k (bits .xor k (if k.signed then -1 else k.max) n)):=rfl
theorem adp (h:aI) (u:Nat→Bool) (n:Nat) (o:Ob) (c:C) (hu:u (8*n)=false):eU h u n o c=some (.w (.c c),upd h (8*n) (some o),upd u (8*n) true):=tp hu
theorem aae (ρ:SX→V) (h:aI) (u:Nat→Bool) (n:Nat) (c:List C):ef ρ h u n (.alloc c)=eU h u n (.box c) (.ptr (8*n) 1 0 0):=rfl
theorem Wb (ρ:SX→V) (h:aI) (u:Nat→Bool) (n:Nat) (c:List D):ef ρ h u n (.allocArr c)=eU h u n (.row 1 c) (.pa (8*n) 1):=rfl
theorem XX (ρ:SX→V) (h:aI) (u:Nat→Bool) (n s:Nat):ef ρ h u n (.nilOwn s)=eU h u n (.row s []) (.own (8*n) s 0 0):=rfl
theorem adq (kd:Kd) (y:W) (i o:Nat) (cs:List C):oA kd y i o (.box cs)=if (dX y).length=kd.size∧i+o+kd.size≤cs.length then some (.box (eO cs (i+o) (dX y))) else none:=rfl
theorem anb (n d:Nat):(some n).getD d=n:=rfl
theorem aiw (h:aI) (k:Kd) (cs:List D):iy h k [] (.w (.c (.rp cs)))=fc h k (.w (.c (.rp cs))):=rfl
theorem aix (h:aI) (k:Kd) (es:List D):iy h k [] (.w (.c (.ra es)))=fc h k (.w (.c (.ra es))):=rfl
theorem anc (h:aI) (k:Kd) (x:D):iy h k [] (.w (.c (.d x)))=fc h k (.w (.c (.d x))):=rfl
theorem ane (h:aI) (k:Kd) (j a b c i d e g:Nat):iy h k [.w (.c (.ptr j a b c))] (.w (.c (.ptr i d e g)))=if i=j then none else fc h k (.w (.c (.ptr i d e g))):=by
  unfold iy qM;by_cases hij:i=j
  ·simp[V.ids,W.ids,C.ids,hij,mG]
  ·simp[V.ids,W.ids,C.ids,hij,mG]
theorem anf (h:aI) (k:Kd) (j a b c l m n q i d e g:Nat):iy h k [.w (.c (.ptr j a b c)),.w (.c (.ptr l m n q))] (.w (.c (.ptr i d e g)))=if i=j then none else if i=l then none else fc h k (.w (.c (.ptr i d e g))):=by
  unfold iy qM;by_cases hij:i=j
  ·simp[V.ids,W.ids,C.ids,hij,mG]
  ·by_cases hil:i=l
   ·simp[V.ids,W.ids,C.ids,hil,mG]
   ·simp[V.ids,W.ids,C.ids,hij,hil,mG]
abbrev nm {p:Prop} (_:p):Prop:=p
theorem uq {p:Prop} (h:p):nm h:=h
theorem sx:nm (jR @ZE (jR @ac3 (jR @ac4 (jR @ZF (jR @XK (jR @ZG (jR @ac5 (jR @ZH (jR @ac6 (jR @ZI (jR @ZJ (jR @ZK (jR @ac7 (jR @ac8 (jR @ZL (jR @ZM (jR @ZN (jR @ZO (jR @ahT (jR @XJ (jR @XH (jR @XI (jR @WN (jR @ac2 (jR @ZC (jR @ZD (jR @ahU (jR @ahV (jR @ahW (jR @ahX (jR @ahY (jR @ahZ (jR @ah0 (jR @ah1 (jR @ah2 (jR @ZP (jR @XL (jR @ah3 (jR @ah4 (jR @ah5 (jR @ah6 (jR @ah7 (jR @ac9 (jR @ah8 (jR @ah9 (jR @aia (jR @am9 (jR @XM (jR @ada (jR @aib (jR @aic (jR @ana (jR @adb (jR @aid (jR @aie (jR @XN (jR @adc (jR @ZQ (jR @XO (jR @XP (jR @XQ (jR @ZR (jR @VY (jR @ZS (jR @XR (jR @WO (jR @ZT (jR @ZU (jR @V7 (jR @XS (jR @aif (jR @ZV (jR @ZW (jR @XT (jR @aig (jR @aih (jR @ade (jR @ZX (jR @V8 (jR @V9 (jR @ZY (jR @ZZ (jR @XU (jR @aii (jR @adf (jR @adg (jR @aij (jR @aik (jR @ail (jR @adh (jR @Z0 (jR @upd_same (jR @adi (jR @aim (jR @ain (jR @aio (jR @XV (jR @XW (jR @apn (jR @apo (jR @aiw (jR @aix (jR @anc (jR @ane (jR @anf (jR @aip (jR @aiq (jR @air (jR @ais (jR @ait (jR @adj (jR @adk (jR @aiu (jR @Z3 (jR @Z4 (jR @adl (jR @aiv (jR @Z5 (jR @Z6 (jR @F6 (jR @Z7 (jR @NO (jR @F7 (jR @F8 (jR @Z8 (jR @Z9 (jR @aaa (jR @aab (jR @F9 (jR @G7 (jR @Ga (jR @Wa (jR @Gb (jR @Gd (jR @aac (jR @aad (jR @adm (jR @adn (jR @ado (jR @adp (jR @aae (jR @Wb (jR @XX (@anb)))))))))))))))))))))))))))))))))))))))))))))))))))))))))))))))))))))))))))))))))))))))))))))))))))))))))))))))))))))))))))))))))))))))))))))))):=uq _
end Go.Proofs.YtnjhelpgohdajaaGreatDoor
