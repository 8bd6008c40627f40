/- Texts of one's own, merged: from: The plain logic (21): a law's frame: what reads as data in the model's words reads as data in mine; package-level variables; behind the call. Own work. -/
import Derived.ProofKit
import Derived.ChangeOld
import Derived.Handed
import Derived.Carry
import Derived.ChangeBears2
import GoSem.ClaimSeven
import Derived.Test.YtnjhelpgohdajaaGreatDoorMg17
set_option linter.unusedVariables false
set_option linter.unusedSimpArgs false
namespace Go.Proofs.YtnjhelpgohdajaaGreatDoor
open Go.RowKit Go.ChangeShapes
inductive Sh where
  | int (k:IntKind) | bool | str | sl (e:List Sh)
mutual
def jZ:Sh→D→Prop
  | .int k,.int k' n=>k'=k∧k.min≤n∧n≤k.max
  | .bool,.bool _=>True
  | .str,.str s=>s.size≤maxLen
  | .sl l,.sl es=>es.length≤maxLen∧∀ e∈es,(l.length=1→e.one=true)∧(l.length≠1→e=.agg e.cells)∧qG l e.cells
  | _,_=>False
def qG:List Sh→List D→Prop
  | [],[]=>True
  | s::r,d::ds=>jZ s d∧qG r ds
  | _,_=>False
end
theorem Av:∀ {l:List Sh} {ds:List D},qG l ds↔aD (fun d s=>jZ s d) ds l
  | [],[]=>by simp only[qG]; exact⟨fun _=>.nil,fun _=>trivial⟩
  | [],_::_=>by simp only[qG]; exact⟨fun h=>h.elim,fun h=>by cases h⟩
  | _::_,[]=>by simp only[qG]; exact⟨fun h=>h.elim,fun h=>by cases h⟩
  | s::r,d::ds=>by
    simp only[qG];exact⟨fun h=>.cons h.1 (Av.1 h.2),fun h=>by cases h with | cons a b=>exact⟨a,Av.2 b⟩⟩
def mh:List D→D
  | [x]=>x
  | l=>.agg l
theorem MB {l:List D} (h:∀ x∈l,x.cells=[x]):(mh l).cells=l:=by
  match l,h with
  | [],_=>rfl
  | [x],h=>exact h x (by simp)
  | x::y::r,_=>rfl
theorem VZ {x:D} (h:x.cells=[x]):x.one=true:=by
  cases x <;> simp[D.one];rename_i cs;have h:cs=[D.agg cs]:=h;have h2:SizeOf.sizeOf cs=SizeOf.sizeOf [D.agg cs]:=congrArg SizeOf.sizeOf h;simp at h2;omega
theorem adJ {l:List D} (h:∀ x∈l,x.cells=[x]) (h1:l.length=1):(mh l).one=true:=by
  match l,h,h1 with
  | [x],h,_=>exact VZ (h x (by simp))
theorem adK {l:List D} (h1:l.length≠1):mh l=.agg l:=by
  match l,h1 with
  | [],_=>rfl
  | [x],h=>simp at h
  | x::y::r,_=>rfl
def CZ (P:Program) (sh:TypeId→Option (List Sh)):List Field→Nat→Option (List Sh)
  | [],_=>some []
  | f::r,off=>if f.offset=off then match sh f.type with
    | some l=>if l.length=P.cellsOf f.type then (CZ P sh r (off+l.length)).map (l++·) else none
    | none=>none else none
def lr (P:Program):Nat→TypeId→Option (List Sh)
  | 0,_=>none
  | n+1,t=>match P.underlying t with
    | some .bool=>some [.bool]
    | some (.int k)=>some [.int k]
    | some .string=>some [.str]
    | some (.slice e)=>match lr P n e with | some l=>if l.length=P.cellsOf e then some [.sl l] else none | none=>none
    | some (.struct fs)=>match CZ P (lr P n) fs.toList 0 with | some l=>if l.length=P.cellsOf t then some l else none | none=>none
    | some (.array k e)=>match lr P n e with | some l=>if l.length=P.cellsOf e∧P.cellsOf t=k*P.cellsOf e then some ((List.replicate k l).flatten) else none | none=>none
    | _=>none
section
variable {H:Type}
mutual
def dS:DataW H→List D
  | .lit (.bool b)=>[.bool b]
  | .lit (.int k n)=>[.int k n]
  | .lit (.string l)=>[.str ⟨l.toArray⟩]
  | .nil=>[.sl []]
  | .slice es _=>[.sl (rT es)]
  | .agg xs=>zy xs
  | _=>[]
def zy:List (DataW H)→List D
  | []=>[]
  | x::r=>dS x++zy r
def rT:List (DataW H)→List D
  | []=>[]
  | x::r=>mh (dS x)::rT r
end
theorem Hc:∀ l:List (DataW H),zy l=l.flatMap dS
  | []=>by simp[zy]
  | x::r=>by simp[zy,Hc r]
theorem MC:∀ l:List (DataW H),rT l=l.map fun x=>mh (dS x)
  | []=>by simp[rT]
  | x::r=>by simp[rT,MC r]
end
theorem mapM_some {α β:Type} {f:α→Option β}:∀ {l:List α} {r:List β},l.mapM f=some r→r.length=l.length∧∀ i (h:i<l.length) (h2:i<r.length),f l[i]=some r[i]
  | [],r,h=>by simp at h; subst h; simp
  | x::l,r,h=>by
    simp only[List.mapM_cons,Option.bind_eq_bind,aqv,Option.pure_def,ap2] at h;obtain⟨y,hy,ys,hys,rfl⟩:=h;obtain⟨h1,h2⟩:=mapM_some hys;refine⟨by simp[h1],fun i hi hi2=>?_⟩;cases i with
    | zero=>exact hy
    | succ i=>exact h2 i (by simpa using hi) (by simpa using hi2)
theorem NR {w:World} {a:Addr} {v:Value} (h:w.cell? a=some v):a.block<w.heap.size:=by
  rcases aqk a.block w.heap.size with h' | h'
  ·exact h'
  ·simp[World.cell?,Array.getElem?_eq_none h'] at h
theorem aiP {w:World} {a:Addr} {n:Nat} {v:Value} (h:w.cell? (a.add n)=some v):w.cell? ⟨a.block,a.off+n,none⟩=some v:=by
  unfold Addr.add at h;split at h
  ·rename_i h0;subst h0;obtain⟨b,o,s⟩:=a;have:=cell_spot h;subst this;exact h
  ·exact h
def jG (w:World):aT:=fun b _=>b<w.heap.size
section
variable {H:Type} {enc:TypeId×Value→H} {P:Program} {w:World} {base:Nat} {spare:Nat→Bool} {held:Bool}
def Cc (enc:TypeId×Value→H) (P:Program) (w:World) (base:Nat) (spare:Nat→Bool) (held:Bool) (fuel:Nat) (sh:TypeId→Option (List Sh)):Prop :=
  ∀ t cs x l,DataW.trod enc P w base spare held fuel t cs=some x→sh t=some l→aD (Reads (jG w) w) cs (dS x.1)∧aD (fun d s=>jZ s d) (dS x.1) l
theorem RL {fuel:Nat} {sh:TypeId→Option (List Sh)} (ih:Cc enc P w base spare held fuel sh) (cs:List Value):∀ (fs:List Field) (off:Nat) (xs:List (DataW H×List MemPlace)) (l:List Sh),
    (fs.mapM fun f=>DataW.trod enc P w base spare held fuel f.type ((cs.drop f.offset).take (P.cellsOf f.type)))=some xs→CZ P sh fs off=some l →
    aD (Reads (jG w) w) ((cs.drop off).take l.length) (xs.flatMap fun x=>dS x.1)∧aD (fun d s=>jZ s d) (xs.flatMap fun x=>dS x.1) l
  | [],off,xs,l,h1,h2=>by
    simp at h1; subst h1
    cases h2;exact⟨by simpa using aD.nil,.nil⟩
  | f::r,off,xs,l,h1,h2=>by
    simp only[List.mapM_cons,Option.bind_eq_bind,aqv,Option.pure_def,ap2] at h1;obtain⟨y,hy,ys,hys,rfl⟩:=h1;simp only[CZ] at h2;split at h2
    ·rename_i hoff;split at h2
     ·rename_i l1 hl1;split at h2
      ·rename_i hlen;obtain⟨l2,hl2,rfl⟩:=apV.1 h2;obtain⟨a1,a2⟩:=ih _ _ _ _ hy hl1;obtain⟨b1,b2⟩:=RL ih cs r _ ys l2 hys hl2;rw[aqb,apS,List.take_add,arx];refine⟨aD.append ?_ b1,a2.append b2⟩;rw[hoff,← hlen] at a1;exact a1
      ·cases h2
     ·cases h2
    ·cases h2
theorem RN {fuel:Nat} {sh:TypeId→Option (List Sh)} (ih:Cc enc P w base spare held fuel sh) (cs:List Value) (e:TypeId) (l:List Sh) (hl:sh e=some l) (hlen:l.length=P.cellsOf e) (n:Nat) (xs:List (DataW H×List MemPlace))
    (h:((List.range n).mapM fun i=>DataW.trod enc P w base spare held fuel e ((cs.drop (i*P.cellsOf e)).take (P.cellsOf e)))=some xs) :
    xs.length=n∧(∀ i (hi:i<xs.length),aD (Reads (jG w) w) ((cs.drop (i*P.cellsOf e)).take (P.cellsOf e)) (dS xs[i].1)∧aD (fun d s=>jZ s d) (dS xs[i].1) l) ∧
    ∀ m,m≤n→aD (Reads (jG w) w) (cs.take (m*P.cellsOf e)) ((xs.take m).flatMap fun x=>dS x.1)∧aD (fun d s=>jZ s d) ((xs.take m).flatMap fun x=>dS x.1) (List.replicate m l).flatten:=by
  obtain⟨h1,h2⟩:=mapM_some h;rw[aqV] at h1;have each:∀ i (hi:i<xs.length),aD (Reads (jG w) w) ((cs.drop (i*P.cellsOf e)).take (P.cellsOf e)) (dS xs[i].1)∧aD (fun d s=>jZ s d) (dS xs[i].1) l:=by
    intro i hi;have:=h2 i (by simp; omega) hi;rw[aq8] at this;exact ih _ _ _ _ this hl
  refine⟨h1,each,fun m=>?_⟩
  induction m with
  | zero=>intro _; simp; exact⟨.nil,.nil⟩
  | succ m ihm =>
    intro hm;obtain⟨a1,a2⟩:=ihm (by omega);have hlt:m<xs.length:=by omega
    obtain⟨b1,b2⟩:=each m hlt;rw[aqT hlt,arn,aqb,ar5,ap7,ary,List.flatten_append,Nat.succ_mul,List.take_add];refine⟨a1.append b1,a2.append ?_⟩
    simpa using b2
theorem Reads.cells_one {S:aT}:∀ {cs:List Value} {l:List D},aD (Reads S w) cs l→∀ x∈l,x.cells=[x]
  | _,_,.nil,x,hx=>by cases hx
  | _,_,.cons h r,x,hx=>by
    rcases aqh.1 hx with rfl | hx
    ·exact h.cellsOf
    ·exact Reads.cells_one r x hx
theorem Bu:∀ fuel n,Cc enc P w base spare held fuel (lr P n)
  | 0,_,_,_,_,_,h,_=>by simp[DataW.trod] at h
  | _+1,0,_,_,_,_,_,h=>by cases h
  | fuel+1,n+1,t,cs,x,l,h,hl=>by
    have ih:∀ m,Cc enc P w base spare held fuel (lr P m):=fun m=>Bu fuel m
    simp only[lr] at hl;split at hl
    ·rename_i hu;cases hl;simp only[DataW.trod,hu] at h;split at h <;> first | (cases h; done) | (rename_i hx; cases hx; done) | skip
     cases h;exact⟨.cons (.bool _) .nil,.cons trivial .nil⟩
    ·rename_i k hu;cases hl;simp only[DataW.trod,hu] at h;split at h <;> first | (cases h; done) | (rename_i hx; cases hx; done) | skip
     rename_i hx;cases hx;split at h
     ·rename_i hk;obtain⟨rfl,hwf⟩:=hk;cases h;simp only[Lit.wf,aqm,decide_eq_true_eq] at hwf;exact⟨.cons (.int _ _) .nil,.cons ⟨rfl,hwf⟩ .nil⟩
     ·cases h
    ·rename_i hu;cases hl;simp only[DataW.trod,hu] at h;split at h <;> first | (cases h; done) | (rename_i hx; cases hx; done) | skip
     split at h
     ·rename_i hs;cases h;exact⟨.cons (.str _) .nil,.cons hs .nil⟩
     ·cases h
    ·rename_i e hu;split at hl
     ·rename_i l1 hl1;split at hl
      ·rename_i hlen;cases hl;simp only[DataW.trod,hu] at h;split at h <;> first | (cases h; done) | (rename_i hx; cases hx; done) | skip
       ·cases h;exact⟨.cons .nil .nil,.cons ⟨apZ _,fun e he=>by cases he⟩ .nil⟩
       ·rename_i a len cap hx;cases hx;split at h
        ·rename_i hb;simp only[aqv] at h;obtain⟨elems,hel,h⟩:=h;obtain⟨rest,_,rfl⟩:=apV.1 h;obtain⟨g1,g2⟩:=mapM_some hel;rw[aqV] at g1;have each:∀ i (hi:i<elems.length),∃ us,w.cells? base (a.add (i*P.cellsOf e)) (P.cellsOf e)=some us∧aD (Reads (jG w) w) us (dS elems[i].1)∧aD (fun d s=>jZ s d) (dS elems[i].1) l1:=by
           intro i hi;have:=g2 i (by simp; omega) hi;rw[aq8] at this;obtain⟨us,q1,q2⟩:=aqv.1 this;exact⟨us,q1,ih _ _ _ _ _ q2 hl1⟩
         have hD:rT (elems.map (·.1))=elems.map fun x=>mh (dS x.1):=by rw[MC,aqQ]; rfl
         have hcells:∀ i (hi:i<elems.length),(mh (dS elems[i].1)).cells=dS elems[i].1:=fun i hi=>by
           obtain⟨us,_,q2,_⟩:=each i hi;exact MB (Reads.cells_one q2)
         have hrow:fJ (jG w) w a (P.cellsOf e) (elems.map fun x=>mh (dS x.1)):=by
           intro i hi;rw[ap1] at hi;obtain⟨us,q1,q2,q3⟩:=each i hi;rw[aqn,hcells i hi];have hlen2:(dS elems[i].1).length=P.cellsOf e:=by rw[q3.length,hlen]
           refine⟨hlen2,fun j hj=>?_⟩;have hj2:j<us.length:=by rw[q2.length]; exact hj
           unfold World.cells? at q1;split at q1
           ·obtain⟨r1,r2⟩:=mapM_some q1;rw[aqV] at r1;have r3:=r2 j (by simp; omega) hj2;rw[aq8] at r3;have r4:=aiP r3;have e1:(a.add (i*P.cellsOf e)).block=a.block:=by unfold Addr.add; split <;> rfl
            have e2:(a.add (i*P.cellsOf e)).off=a.off+i*P.cellsOf e:=by unfold Addr.add; split <;> (rename_i h0; simp[h0])
            rw[e1,e2] at r4;have hsp:a.spot=none∨i*P.cellsOf e+j≠0:=by
              by_cases h0:i*P.cellsOf e+j=0
              ·have hi0:i*P.cellsOf e=0:=by omega
               have hj0:j=0:=by omega
               subst hj0;rw[hi0] at r3;exact .inl (cell_spot (b:=a.block) (i:=a.off) (s:=a.spot) (by simpa [Addr.add] using r3))
              ·exact .inr h0
            have r5:=NR r4;refine⟨us[j],r5,?_,q2.get j hj2 hj⟩
            show w.cell? ⟨a.block,a.off+i*P.cellsOf e+j,a.spot⟩=_
            rcases hsp with hsp | hsp
            ·rw[hsp]; exact r4
            ·cases hs:a.spot with
             | none=>exact r4
             | some s =>
               exfalso;have h00:=each 0 (by omega);obtain⟨us0,p1,p2,p3⟩:=h00;have hl0:us0.length=P.cellsOf e:=by rw[p2.length,p3.length,hlen]
               unfold World.cells? at p1;split at p1
               ·obtain⟨s1,s2⟩:=mapM_some p1;have s3:=s2 0 (by simp; omega) (by omega);rw[aq8] at s3;have:=cell_spot (b:=a.block) (i:=a.off) (s:=a.spot) (by simpa [Addr.add] using s3);rw[hs] at this;cases this
               ·cases p1
           ·cases q1
         have hlen3:(elems.map fun x=>mh (dS x.1)).length=len:=by rw[ap1]; omega
         have hR:=Reads.of_row hrow (cap:=cap) (by omega) (by omega);rw[hlen3] at hR;refine⟨?_,?_⟩
         ·show aD _ _ [D.sl (rT (elems.map (·.1)))]
          rw[hD];exact .cons hR .nil
         ·show aD _ [D.sl (rT (elems.map (·.1)))] _
          rw[hD];refine .cons ⟨by omega,fun d hd=>?_⟩ .nil;obtain⟨y,hy,rfl⟩:=aqa.1 hd;obtain⟨i,hi,rfl⟩:=aqs hy;obtain⟨us,q1,q2,q3⟩:=each i hi;refine⟨fun h1=>adJ (Reads.cells_one q2) (by rw[q3.length]; exact h1),fun h1=>?_,?_⟩
          ·rw[hcells i hi];exact adK (by rw[q3.length]; exact h1)
          ·rw[hcells i hi];exact Av.2 q3
        ·cases h
      ·cases hl
     ·cases hl
    ·rename_i fs hu;split at hl
     ·rename_i l1 hl1;split at hl
      ·rename_i hlen;cases hl;simp only[DataW.trod,hu] at h;split at h
       ·rename_i hc;obtain⟨xs,hxs,rfl⟩:=apV.1 h;obtain⟨a1,a2⟩:=RL (ih n) cs fs.toList 0 xs l hxs hl1;have e1:dS (DataW.agg (xs.map (·.1)))=xs.flatMap fun x=>dS x.1:=by
          simp only[dS,Hc,List.flatMap_map]
        rw[arm,apX (by omega)] at a1;simp only[e1];exact⟨a1,a2⟩
       ·cases h
      ·cases hl
     ·cases hl
    ·rename_i k e hu;split at hl
     ·rename_i l1 hl1;split at hl
      ·rename_i hlen;cases hl;simp only[DataW.trod,hu] at h;split at h
       ·rename_i hc;obtain⟨xs,hxs,rfl⟩:=apV.1 h;obtain⟨a0,_,a1⟩:=RN (ih n) cs e l1 hl1 hlen.1 k xs hxs;obtain⟨a1,a2⟩:=a1 k (ap3 _);have e1:dS (DataW.agg (xs.map (·.1)))=xs.flatMap fun x=>dS x.1:=by
          simp only[dS,Hc,List.flatMap_map]
        rw[apX (by omega)] at a1 a2;simp only[e1];rw[apX (by omega)] at a1;exact⟨a1,a2⟩
       ·cases h
      ·cases hl
     ·cases hl
    ·cases hl
end
inductive qH where
  | one (s:Sh) | many (l:List Sh)
def RO (P:Program) (t:TypeId):Bool:=match P.underlying t with | some (.struct _) | some (.array _ _)=>true | _=>false
def zg (P:Program) (t:TypeId):Option qH :=
  if RO P t then (lr P 50 t).map .many else match lr P 50 t with | some [s]=>some (.one s) | _=>none
def vL:D→qH→Prop
  | x,.one s=>jZ s x
  | .agg cs,.many l=>qG l cs
  | _,.many _=>False
section
variable {H:Type} {enc:TypeId×Value→H} {P:Program} {w:World} {base:Nat} {spare:Nat→Bool} {held:Bool}
theorem aiQ {t:TypeId} {s:qH} (hs:zg P t=some s) {v:Value} {b0:Nat} (hv:Value.okWide P w .any b0 t v) {d:DataW H} {ps:List MemPlace} (h:DataW.Trod enc P w base spare held t v d ps) :
    ∃ x,RW (fun _=>none) (jG w) w v (.c (.d x))∧vL x s:=by
  obtain⟨fuel,h⟩:=h;unfold zg RO at hs;unfold Value.okWide at hv;have key:∀ l,lr P 50 t=some l→aD (Reads (jG w) w) v.cells.toList (dS d)∧aD (fun d s=>jZ s d) (dS d) l:=fun l hl=>Bu fuel 50 t _ _ _ h hl
  have agg:(∃ cs,v=.agg cs)→(lr P 50 t).map qH.many=some s→∃ x,RW (fun _=>none) (jG w) w v (.c (.d x))∧vL x s:=by
    rintro⟨cs,rfl⟩ hs;obtain⟨l,hl,rfl⟩:=apV.1 hs;obtain⟨k1,k2⟩:=key l hl;exact⟨.agg (dS d),⟨cs.toList,by simp,k1⟩,Av.2 k2⟩
  have plain:(∀ cs,v≠.agg cs)→(match lr P 50 t with | some [s]=>some (qH.one s) | _=>none)=some s→∃ x,RW (fun _=>none) (jG w) w v (.c (.d x))∧vL x s:=by
    intro hne hs;split at hs
    ·rename_i s1 hl;cases hs;obtain⟨k1,k2⟩:=key _ hl;have hc:v.cells.toList=[v]:=by cases v <;> first | rfl | (exact absurd rfl (hne _))
     rw[hc] at k1;generalize dS d=ds at k1 k2;cases k1 with
     | cons a b =>
       cases b;cases k2 with
       | cons q _ =>
         refine⟨_,?_,q⟩;exact Reads.rw a
    ·cases hs
  split at hv
  ·rename_i hu;simp only[hu,if_true] at hs;obtain⟨cs,rfl,_⟩:=hv;exact agg ⟨cs,rfl⟩ hs
  ·rename_i hu;simp only[hu,if_true] at hs;obtain⟨cs,rfl,_⟩:=hv;exact agg ⟨cs,rfl⟩ hs
  ·rename_i h1 h2;have hb:(match P.underlying t with | some (.struct _) | some (.array _ _)=>true | _=>false)=false:=by
     split
     ·rename_i hu; exact absurd hu (h1 _)
     ·rename_i hu; exact absurd hu (h2 _ _)
     ·rfl
   rw[hb] at hs;refine plain ?_ hs;rintro cs rfl;unfold Cell.okWide Cell.ok at hv;split at hv <;> first | (rename_i hx; cases hx; done) | skip
   all_goals (split at hv <;> first | (rename_i hx; cases hx; done) | exact hv)
theorem PO:∀ {ts:List TypeId} {ss:List qH} {vs:List Value} {ds:List (DataW H)} {ps:List MemPlace},bE (zg P) ts=some ss →
    (∀ (j:Nat) (t:TypeId) (v:Value),ts[j]?=some t→vs[j]?=some v→∃ b0,Value.okWide P w .any b0 t v)→DataW.TrodAll enc P w base spare held ts vs ds ps →
    ∃ xs,aD (fun v x=>RW (fun _=>none) (jG w) w v (.c (.d x))) vs xs∧aD vL xs ss
  | [],ss,vs,ds,ps,h1,_,h3=>by
    cases h1;cases vs with
    | nil=>exact⟨[],.nil,.nil⟩
    | cons _ _=>cases ds <;> exact h3.elim
  | t::ts,ss,vs,ds,ps,h1,h2,h3=>by
    cases vs with
    | nil=>cases ds <;> exact h3.elim
    | cons v vs =>
      cases ds with
      | nil=>exact h3.elim
      | cons d ds =>
        obtain⟨p,q,a1,a2,_⟩:=h3;simp only[bE] at h1;split at h1
        ·rename_i s l hs hl;cases h1;obtain⟨b0,hv⟩:=h2 0 t v rfl rfl;obtain⟨x,r1,r2⟩:=aiQ hs hv a1;obtain⟨xs,r3,r4⟩:=PO hl (fun j t v ht hv=>h2 (j+1) t v ht hv) a2;exact⟨x::xs,.cons r1 r3,.cons r2 r4⟩
        ·cases h1
end
def tF {H:Type}:DataW H→List (DataW H) | .agg xs=>xs | _=>[]
def NS (P:Program) (t:TypeId) (d:DataW Unit):Option C :=
  match P.underlying t with
  | some (.array _ _)=>match lr P 50 t with | some _=>some (.ra ((tF d).map fun x=>mh (dS x))) | none=>none
  | _=>match lr P 50 t with | some _=>some (.rp (dS d)) | none=>none
def yH (P:Program):List (String×DataW Unit)→Option au
  | []=>some []
  | (n,d)::r=>match P.globalNamed n with
    | none=>none
    | some g=>match (P.globals[g]?).map (·.type) with
      | none=>none
      | some t=>match NS P t d,yH P r with
        | some c,some l=>some ((g,c)::l)
        | _,_=>none
section
variable {P:Program} {w:World}
theorem NT {cs:List Value} {l:List D} {g off:Nat} (h:aD (Reads (jG w) w) cs l) (hc:∀ j (hj:j<cs.length),w.cell? ⟨g,off+j,none⟩=some cs[j]):fI (jG w) w ⟨g,off,none⟩ l:=by
  intro j hj;have hj2:j<cs.length:=by rw[h.length]; exact hj
  have h1:=hc j hj2;have h2:=NR h1;exact⟨cs[j],h2,h1,h.get j hj2 hj⟩
theorem Yn {n:String} {g:Nat} {cs:Array Value} (hg:P.globalNamed n=some g) (hv:w.var? P n=some cs):∃ ty,w.shape? g=some (ty,cs.size):=by
  unfold World.var? at hv;rw[hg] at hv;simp only[Option.bind_some] at hv;unfold World.shape?;split at hv
  ·rename_i c t f hh;cases hv;exact⟨t,by rw[hh]⟩
  ·cases hv
theorem PP:∀ {l:List (String×DataW Unit)} {G:au} {ps:List MemPlace},yH P l=some G→DataW.LaidVars P w l ps→nY G (jG w) w
  | [],G,ps,h,_=>by cases h; intro p hp; cases hp
  | (n,d)::r,G,ps,h,h2=>by
    obtain⟨g,t,cs,fuel,p,q,hg,ht,hvar,htr,hrest,_⟩:=h2;simp only[yH,hg,ht] at h;split at h
    ·rename_i c G' hc hG';cases h;have hcell:∀ j (hj:j<cs.toList.length),w.cell? ⟨g,j,none⟩=some cs.toList[j]:=by
       intro j hj;rw[World.var?_cell hg hvar j];simp at hj;simp[hj]
     intro p hp;rcases aqh.1 hp with rfl | hp
     ·unfold NS at hc;split at hc
      ·rename_i k e hu;split at hc
       ·rename_i l hl;cases hc
        suffices key:fJ (jG w) w ⟨g,0,none⟩ (P.cellsOf e) ((tF d).map fun x=>mh (dS x))∧Ng w g (.ra ((tF d).map fun x=>mh (dS x))) from ⟨⟨_,P.cellsOf e,rfl,key.1⟩,rfl,key.2⟩
        cases fuel with
        | zero=>have htr:none=some _:=htr; cases htr
        | succ fuel =>
          obtain⟨n,hl⟩:∃ n,lr P (n+1) t=some l:=⟨49,hl⟩
          simp only[lr,hu] at hl;split at hl
          ·rename_i l1 hl1;split at hl
           ·rename_i hlen;simp only[DataW.trod,hu] at htr;split at htr
            ·rename_i hcn;obtain⟨xs,hxs,he⟩:=apV.1 htr;obtain⟨a0,a1,_⟩:=RN (Bu fuel n) cs.toList e l1 hl1 hlen.1 k xs hxs;cases he;have e1:∀ i (hi:i<xs.length),(mh (dS xs[i].1)).cells=dS xs[i].1:=fun i hi=>MB (Reads.cells_one (a1 i hi).1)
             refine⟨fun i hi=>?_,fun es hes h1=>?_⟩
             rotate_left
             ·cases hes;obtain⟨ty,hty⟩:=Yn hg hvar;refine⟨ty,?_⟩;have hk:xs.length=k:=by simpa using (mapM_some hxs).1
              rw[hty];have hsz:cs.size=k*P.cellsOf e:=by rw[← hlen.2,← hcn]; simp
              simp only[tF,ap1];rw[hsz,hk];rcases arh k with h0 | h0
              ·rw[h0,ar4]
              ·have h2:=h1 (mh (dS xs[0].1)) (by simp only[tF,aqQ]; exact aqa.2 ⟨xs[0],aqr (by omega),rfl⟩);rw[e1 0 (by omega),(a1 0 (by omega)).2.length,hlen.1] at h2;rw[h2,arD]
             simp only[tF,ap1] at hi;obtain⟨b1,b2⟩:=a1 i hi;simp only[tF,aqn];rw[e1 i hi];refine⟨by rw[b2.length,hlen.1],NT b1 fun j hj=>?_⟩;have hj':=hj;simp only[ap0,ap5] at hj';simp only[ar1,List.getElem_drop];have:=hcell (i*P.cellsOf e+j) (by omega)
             simpa using this
            ·cases htr
           ·cases hl
          ·cases hl
       ·cases hc
      ·split at hc
       ·rename_i l hl;cases hc;obtain⟨a1,_⟩:=Bu fuel 50 t _ _ _ htr hl;exact⟨⟨_,rfl,NT a1 fun j hj=>by simpa using hcell j hj⟩,rfl,fun es he=>by cases he⟩
       ·cases hc
     ·exact PP hG' hrest p hp
    ·cases h
end
section
variable {H:Type} {enc:TypeId×Value→H} {P:Program}
theorem Lp (hl:laidOutB P=true) {W W':World} (hb:Below W.heap.size W W'):∀ {ts:List TypeId} {vs:List Value} {ds:List (DataW H)} {ps:List MemPlace},
    (∀ t∈ts,P.readableRec t=true∧t<P.types.size)→DataW.TrodAll enc P W 0 (fun _=>true) true ts vs ds ps→DataW.TrodAll enc P W' 0 (fun b=>decide (b<W.heap.size)) true ts vs ds ps
  | [],[],[],_,_,h=>h
  | [],_::_,_,_,_,h=>by cases ‹List (DataW H)› <;> exact h.elim
  | [],[],_::_,_,_,h=>h.elim
  | _::_,[],ds,_,_,h=>by cases ds <;> exact h.elim
  | _::_,_::_,[],_,_,h=>h.elim
  | t::ts,v::vs,d::ds,ps,hr,h=>by
    obtain⟨p,q,a1,a2,rfl⟩:=h;have hlt:∀ x∈p,x.block<W.heap.size:=by obtain⟨m,hm⟩:=a1; exact DataW.trod_lt m _ _ _ hm
    exact⟨p,q,Below.trod hl (hr t (by simp)).1 (hr t (by simp)).2 a1 hb hlt,Lp hl hb (fun t ht=>hr t (by simp[ht])) a2,rfl⟩
theorem Ah:∀ {ts:List TypeId} {vs:List Value} {ds:List (DataW H)} {ps:List MemPlace} {w:World} {b:Nat} {sp:Nat→Bool} {he:Bool},DataW.TrodAll enc P w b sp he ts vs ds ps→ds.length=ts.length
  | [],[],[],_,_,_,_,_,_=>rfl
  | [],_::_,ds,_,_,_,_,_,h=>by cases ds <;> exact h.elim
  | [],[],_::_,_,_,_,_,_,h=>h.elim
  | _::_,[],ds,_,_,_,_,_,h=>by cases ds <;> exact h.elim
  | _::_,_::_,[],_,_,_,_,_,h=>h.elim
  | t::ts,v::vs,d::ds,_,_,_,_,_,h=>by
    obtain⟨p,q,a1,a2,_⟩:=h;simp[Ah a2]
theorem Yo {f:FuncId} {fn:Func} {s:ChangeSpec} {ts:List TypeId} {ss:List qH} {tb:TypeId} (hts:fn.params.toList=ts) (hss:bE (zg P) ts=some ss) (hvars:s.vars=[])
    (hlay:laidOutB P=true) (hread:∀ t∈ts,P.readableRec t=true∧t<P.types.size) (hres:fn.resultTypes=#[tb]) (htb:P.underlying tb=some .bool)
    (hspec:∀ ds:List (DataW H),ds.length=ts.length→s.fn H ds={ results:=[.lit (.bool true)],args:=ds }) {G:au}
    (den:∀ xs,aD vL xs ss→aF P G f xs (.w (.c (.d (.bool true)))))
    {W:World} {base:Nat} {args:Array Value} {ds gs:List (DataW H)} {before:List MemPlace}
    (hval:∀ (j:Nat) t v,fn.params[j]?=some t→args[j]?=some v→Value.okWide P W .any base t v) (hW:DataW.Whole enc P fn.params.toList s.vars false W args.toList ds gs before) (hG:nY G (jG W) W) :
    Calls P f args W fun e W'=>∃ v,e=.returned v∧s.post enc P fn false true false false W args v W':=by
  have hW':=hW;obtain⟨p,q,hA,hV,rfl,hfz,hnd⟩:=hW;rw[hts] at hA;obtain⟨xs,h1,h2⟩:=PO hss (fun j t v ht hv=>⟨base,hval j t v (by rw[← ht,← hts]; simp) (by rw[← hv]; simp)⟩) hA;have hg:gs=[]∧q=[]:=by
    rw[hvars] at hV;cases gs with
    | nil=>exact⟨rfl,hV⟩
    | cons _ _=>exact hV.elim
  obtain⟨rfl,rfl⟩:=hg;have hd:=den xs h2 W (jG W) args.toList (fun b i h=>h) hG h1;refine hd.mono ?_;rintro e W' ⟨v,S',bl,rfl,hb,_,_,hr⟩;have hv:v=.bool true:=by
    have:jY S' W' W.heap.size v (.d (.bool true)) bl:=hr;obtain⟨a,_⟩:=this;cases a;rfl
  subst hv;refine⟨_,rfl,ds,[],p++[],[],p,[],hW',?_,?_,?_,hb.frame _,fun h=>by cases h⟩
  ·rw[hres,ap7,hspec ds (Ah hA)];exact trodAll_mk1 (shut_bool htb _)
  ·rw[hts,ap7,hspec ds (Ah hA)];exact Lp hlay hb hread hA
  ·rw[ap7,hspec ds (Ah hA),hvars];rfl
end
def DX:MemPlace→MemPlace→Bool
  | .cell a b,.cell c d=>a==c&&b==d
  | .map a,.map b=>a==b
  | _,_=>false
def Cd:List MemPlace→Bool
  | []=>true
  | p::r=>!(r.any (DX p))&&Cd r
theorem Yp (p:MemPlace):DX p p=true:=by cases p <;> simp[DX]
theorem MD:∀ {l:List MemPlace},Cd l=true→l.Nodup
  | [],_=>.nil
  | p::r,h=>by
    simp only[Cd,aqm,Bool.not_eq_true'] at h;refine arB.2 ⟨fun hm=>?_,MD h.2⟩;have:r.any (DX p)=true:=aqP.2 ⟨p,hm,Yp p⟩;rw[h.1] at this;cases this
def zeroCell:Sh→Value | .int k=>.int k 0 | .bool=>.bool false | .str=>.string ByteArray.empty | .sl _=>.slice none 0 0
def PQ:qH→Value | .one s=>zeroCell s | .many l=>.agg (l.map zeroCell).toArray
mutual
def NU {H:Type}:DataW H→List Value
  | .lit (.bool b)=>[.bool b]
  | .lit (.int k n)=>[.int k n]
  | .lit (.string l)=>[.string ⟨l.toArray⟩]
  | .agg xs=>RP xs
  | _=>[]
def RP {H:Type}:List (DataW H)→List Value
  | []=>[]
  | x::r=>NU x++RP r
end
def aaR (P:Program) (l:List (String×DataW Unit)) (h:Array Obj):Array Obj :=
  l.foldl (fun h p=>match P.globalNamed p.1 with
    | some g=>h.modify g fun | .cells _ t fz=>.cells (NU p.2).toArray t fz | o=>o
    | none=>h) h
def x8 (P:Program) (w:World) (fuel:Nat):List String→Option (List (DataW Unit)×List MemPlace)
  | []=>some ([],[])
  | n::r=>match P.globalNamed n with
    | none=>none
    | some g=>match (P.globals[g]?).map (·.type),w.var? P n with
      | some t,some cs=>match DataW.trod (fun _=>()) P w 0 (fun _=>true) false fuel t cs.toList,x8 P w fuel r with
        | some (d,p),some (ds,q)=>some (d::ds,MemPlace.row ⟨g,0,none⟩ cs.size++p++q)
        | _,_=>none
      | _,_=>none
def NV (w:World):MemPlace→Bool
  | .cell b off=>(match w.heap[b]? with | some (.cells _ _ fz)=>fz==(0,0) | _=>false)&&(match w.cell? ⟨b,off,none⟩ with | some (.iface _ _)=>false | _=>true)
  | .map _=>true
theorem LF {P:Program} {w:World} {fuel:Nat}:∀ {l:List (String×DataW Unit)} {ps:List MemPlace},x8 P w fuel (l.map (·.1))=some (l.map (·.2),ps)→DataW.LaidVars P w l ps
  | [],ps,h=>by cases h; rfl
  | (n,d)::r,ps,h=>by
    simp only[apW,x8] at h;split at h
    ·cases h
    ·rename_i g hg;split at h
     ·rename_i t cs ht hcs;split at h
      ·rename_i d' p ds q htr hr;simp only[ap2,Prod.mk.injEq,List.cons.injEq] at h;obtain⟨⟨rfl,rfl⟩,rfl⟩:=h;exact⟨g,t,cs,fuel,p,q,hg,ht,hcs,htr,LF hr,rfl⟩
      ·cases h
     ·cases h
theorem WR {P:Program} {w:World} {l:List (String×DataW Unit)} (fuel:Nat) (ps:List MemPlace) (h:x8 P w fuel (l.map (·.1))=some (l.map (·.2),ps)) (hn:Cd ps=true) (hf:ps.all (NV w)=true):laidMet P l w:=by
  refine⟨ps,LF h,MD hn,fun b off hm=>?_⟩;have:=ap9.1 hf _ hm;simp only[NV,aqm] at this;obtain⟨h1,h2⟩:=this;constructor
  ·split at h1
   ·rename_i c t fz hc;have:fz=(0,0):=by simpa using h1
    subst this;exact⟨c,t,hc⟩
   ·cases h1
  ·intro u v hc;rw[hc] at h2;cases h2
theorem Wd {P:Program} {ts:List TypeId} (h:(ts.all fun t=>P.readableRec t&&decide (t<P.types.size))=true):∀ t∈ts,P.readableRec t=true∧t<P.types.size:=by
  intro t ht;have:=ap9.1 h t ht
  simpa using this
theorem Yq {P:Program} {ps:Array TypeId} (h:(ps.toList.all fun t=>!P.wantsStandIn t)=true):∀ (j:Nat) t,ps[j]?=some t→P.wantsStandIn t=false:=by
  intro j t ht;have hm:t∈ps.toList:=by
    obtain⟨hj,rfl⟩:=aqp.1 ht;simp
  simpa using ap9.1 h t hm
theorem Ft {α β:Type} {R:α→β→Prop} {xs:List α} {y:β} {ys:List β} (h:aD R xs (y::ys)):∃ x r,xs=x::r∧R x y∧aD R r ys:=by
  cases h with
  | cons a b=>exact⟨_,_,rfl,a,b⟩
theorem aaS {α β:Type} {R:α→β→Prop} {xs:List α} (h:aD R xs []):xs=[]:=by cases h; rfl
theorem aiR {k:IntKind} {x:D} (h:jZ (.int k) x):∃ n,x=.int k n∧k.min≤n∧n≤k.max:=by
  cases x <;> simp only[jZ] at h;obtain⟨rfl,h⟩:=h;exact⟨_,rfl,h⟩
theorem Is {x:D} (h:jZ (.int .i64) x):∃ n:Int,x=.int .i64 n∧-9223372036854775808≤n∧n≤9223372036854775807:=aiR h
theorem RQ {α:Type} (f:α→D) {P:D→Prop} (inv:∀ x,P x→∃ a,x=f a):∀ {es:List D},(∀ e∈es,P e)→∃ l:List α,es=l.map f
  | [],_=>⟨[],rfl⟩
  | e::es,h=>by
    obtain⟨a,rfl⟩:=inv e (h e (by simp));obtain⟨l,rfl⟩:=RQ f inv (es:=es) fun e he=>h e (by simp[he])
    exact⟨a::l,rfl⟩
theorem aiS {α:Type} (f:α→D) {s:Sh} (inv:∀ x,jZ s x→∃ a,x=f a) {x:D} (h:jZ (.sl [s]) x):∃ l:List α,x=.sl (l.map f)∧l.length≤maxLen:=by
  cases x <;> simp only[jZ] at h;obtain⟨h1,h2⟩:=h;obtain⟨l,rfl⟩:=RQ f (P:=fun e=>e.one=true∧qG [s] e.cells) (fun e ⟨a,b⟩=>by
    rw[D.one_cells a] at b;exact inv e b.1) (fun e he=>⟨(h2 e he).1 rfl,(h2 e he).2.2⟩)
  exact⟨l,rfl,by simpa using h1⟩
end Go.Proofs.YtnjhelpgohdajaaGreatDoor
namespace Go.Proofs.YtnjhelpgohdajaaGreatDoor
open Go.RowKit
section
variable {P:Program} {G:au} {H:Hint}
def tJ (args:List W):St:=⟨fun t=>match args[t]? with | some x=>.w x | none=>.undef,fun _=>none,fun _=>false⟩
theorem ae1 {f:FuncId} {fn:Func} {sf:aO} (hf:P.funcs[f]?=some fn) (hc:aM P H fn=some sf) {args:List W} {res:V} (hp:∀ x∈args,x.ids=[]) (hlen:args.length=sf.np)
    (e:cE P G sf.body (zt sf.res res) (tJ args)):zs P G f args res:=by
  have e:cE P G sf.body (fun ax σ=>match ax with | .nrm=>fi σ sf.res res | .ret=>fi σ sf.res res | .ex _=>False) (tJ args):=e;unfold aM at hc;split at hc
  ·rename_i c hb;split at hc
   ·rename_i body rs hbody hres;split at hc
    ·rename_i hnp;cases hc;intro w S vs hS hG hargs;refine (callsIn_wide (n:=3)).1 (callsIn_of_wp_marks (F:=Fence.wide) hf hb trivial ?_);have hvl:vs.length=args.length:=hargs.length;have hnp':vs.length≤fn.ntmps:=by simp only at hlen; omega
     have hsize:(vs.toArray++Array.replicate (fn.ntmps-vs.toArray.size) undef).size=fn.ntmps:=by simp; omega
     have hinv:Inv G fn.ntmps S (Gh.of w) (tJ args) { tmps:=vs.toArray++Array.replicate (fn.ntmps-vs.toArray.size) undef,defers:=[] } w S (fun _=>none):=by
       refine⟨hsize,trivial,fun t=>?_,fun t i hi=>?_,fun id o ho=>(by cases ho),fun i j b s s' h1=>absurd rfl h1,fun b i hs=>⟨hS b i hs,.inl hs⟩,fun _ _ h=>h,hG,dz.refl _ _ _,eX.refl _,bR.refl _ _,fun _ _ h=>h.elim,fun t v h=>by cases h⟩
       ·simp only[tJ];cases ht:args[t]? with
        | none=>trivial
        | some x =>
          obtain⟨v,h1,h2⟩:=hargs.get? ht;have hlt:=(aqd.1 h1).1;have:(vs.toArray++Array.replicate (fn.ntmps-vs.toArray.size) undef).getD t undef=v:=by
            rw[ari,Array.getElem?_append_left (by simpa using hlt)];simp[h1]
          rw[this];exact h2
       ·simp only[tJ] at hi;split at hi
        ·rename_i x hx;have:=hp x (aqX hx);have hi:i∈x.ids:=hi;rw[this] at hi;cases hi
        ·cases hi
     refine nc c hbody (r:=none) (fun _=>rfl) (fun t _=>rfl) ?_ hinv e;intro ax σ a w1 S1 m q h;have key:fi σ rs res→LeavesInM Fence.wide 3 P fn a.tmps (fun e w'=>∃ v S' bl,e=.returned v∧Below w.heap.size w w'∧(∀ b i,S' b i→(S b i∨w.heap.size≤b)∧b<w'.heap.size)∧bl.Nodup∧mH S' w' w.heap.size v res bl) a.defers .returning w1:=by
       rintro⟨ws,hws,hex⟩;refine Ag h (ap3 _) h.defers fun w2 a' e2 h=>?_
       rw[← e2];obtain⟨us,h1,h2,h3⟩:=Bs h hres hws;obtain⟨S',bl,k1,k2,k3⟩:=RB h (fun _ hx=>hx) h2 hex;have hbel:Below w.heap.size w w2:=h.below.below fun _ _ hx=>hx
       refine⟨nv us,?_,_,S',bl,rfl,hbel,k1,k2,k3⟩;rw[EQ];simp[Array.mapM_eq_mapM_toList,h1,nv]
     cases ax with
     | nrm=>exact key q
     | ret=>exact key q
     | ex _=>exact q.elim
    ·cases hc
   ·cases hc
  ·cases hc
def iM:Nat→List W→(Nat→V)→Nat→V
  | _,[],f=>f
  | i,x::r,f=>iM (i+1) r (upd f i (.w x))
theorem OJ:∀ (l:List W) (i:Nat) (f:Nat→V) (t:Nat),iM i l f t=if i≤t then (match l[t-i]? with | some x=>.w x | none=>f t) else f t
  | [],i,f,t=>by simp[iM]
  | x::l,i,f,t=>by
    rw[iM,OJ l (i+1)];by_cases h:i=t
    ·subst h;rw[if_neg (by omega),if_pos (ap3 _)];simp[upd]
    ·by_cases h2:i≤t
     ·rw[if_pos (by omega),if_pos h2];have:t-i=(t-(i+1))+1:=by omega
      rw[this,aqR];cases l[t-(i+1)]? with
      | some y=>rfl
      | none=>simp[upd,show t≠i from fun e=>h e.symm]
     ·rw[if_neg (by omega),if_neg h2];simp[upd,show t≠i from fun e=>h e.symm]
theorem FN (args:List W):tJ args=⟨iM 0 args uf,hN,uN⟩:=by
  unfold tJ
  congr 1
  funext t
  rw[OJ];simp only[apZ,if_true,Nat.sub_zero];rfl
def D.up:D→W
  | .ref cs=>.c (.rp cs)
  | x=>.c (.d x)
theorem ajW (x:D):x.up.ids=[]:=by cases x <;> rfl
theorem anI {S:aT} {w:World} {vs:List Value} {args:List D} (h:aD (fun v x=>RW (fun _=>none) S w v (.c (.d x))) vs args):aD (fun v x=>RW (fun _=>none) S w v x) vs (args.map D.up):=by
  induction h with
  | nil=>exact .nil
  | cons h _ ih =>
    refine .cons ?_ ih;rename_i v x _ _ _;cases x <;> first | exact h | exact Reads.cellsAt h
theorem M3 {F:FuncId} {fn:Func} {sf:aO} {H:Hint} (hf:P.funcs[F]?=some fn) (hc:aM P H fn=some sf) {args:List D} {res:V} {f0:Nat→V} (hlen:args.length=sf.np) (h0:iM 0 (args.map D.up) uf=f0)
    (e:cE P G sf.body (zt sf.res res) ⟨f0,hN,uN⟩):aF P G F args res:=by
  have h:zs P G F (args.map D.up) res:=by
    refine ae1 hf hc (fun x hx=>?_) (by rw[ap1]; exact hlen) ?_
    ·obtain⟨y,_,rfl⟩:=aqa.1 hx;exact ajW y
    ·rw[FN,h0];exact e
  exact fun w S vs hS hG hA=>h w S vs hS hG (anI hA)
end
end Go.Proofs.YtnjhelpgohdajaaGreatDoor
