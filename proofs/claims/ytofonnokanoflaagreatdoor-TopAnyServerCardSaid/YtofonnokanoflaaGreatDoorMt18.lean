/- Texts of one's own, merged: from: The plain logic (21): a law's frame: what reads as data in the model's words reads as data in mine; package-level variables; behind the call. Own work. -/
import Derived.ProofKit
import Derived.ChangeOld
import Derived.Handed
import Derived.Carry
import Derived.ChangeBears2
import GoSem.ClaimSeven
import Derived.Test.YtofonnokanoflaaGreatDoorMt17
set_option linter.unusedVariables false
set_option linter.unusedSimpArgs false
namespace Go.Proofs.YtofonnokanoflaaGreatDoor
open Go.RowKit Go.ChangeShapes
inductive Sh where
  | int (k:IntKind) | bool | str | sl (e:List Sh)
mutual
def mj:Sh→D→Prop
  | .int k,.int k' n=>k'=k∧k.min≤n∧n≤k.max
  | .bool,.bool _=>True
  | .str,.str s=>s.size≤maxLen
  | .sl l,.sl es=>es.length≤maxLen∧∀ e∈es,(l.length=1→e.one=true)∧(l.length≠1→e=.agg e.cells)∧rM l e.cells
  | _,_=>False
def rM:List Sh→List D→Prop
  | [],[]=>True
  | s::r,d::ds=>mj s d∧rM r ds
  | _,_=>False
end
theorem zX:∀ {l:List Sh} {ds:List D},rM l ds↔aD (fun d s=>mj s d) ds l
  | [],[]=>by simp only[rM]; exact⟨fun _=>.nil,fun _=>trivial⟩
  | [],_::_=>by simp only[rM]; exact⟨fun h=>h.elim,fun h=>by cases h⟩
  | _::_,[]=>by simp only[rM]; exact⟨fun h=>h.elim,fun h=>by cases h⟩
  | s::r,d::ds=>by
    simp only[rM];exact⟨fun h=>.cons h.1 (zX.1 h.2),fun h=>by cases h with | cons a b=>exact⟨a,zX.2 b⟩⟩
def lV:List D→D
  | [x]=>x
  | l=>.agg l
theorem MB {l:List D} (h:∀ x∈l,x.cells=[x]):(lV l).cells=l:=by
  match l,h with
  | [],_=>rfl
  | [x],h=>exact h x (by simp)
  | x::y::r,_=>rfl
theorem ZE {x:D} (h:x.cells=[x]):x.one=true:=by
  cases x <;> simp[D.one];rename_i cs;have h:cs=[D.agg cs]:=h;have h2:SizeOf.sizeOf cs=SizeOf.sizeOf [D.agg cs]:=congrArg SizeOf.sizeOf h;simp at h2;omega
theorem aer {l:List D} (h:∀ x∈l,x.cells=[x]) (h1:l.length=1):(lV l).one=true:=by
  match l,h,h1 with
  | [x],h,_=>exact ZE (h x (by simp))
theorem aes {l:List D} (h1:l.length≠1):lV l=.agg l:=by
  match l,h1 with
  | [],_=>rfl
  | [x],h=>simp at h
  | x::y::r,_=>rfl
def CR (P:Program) (sh:TypeId→Option (List Sh)):List Field→Nat→Option (List Sh)
  | [],_=>some []
  | f::r,off=>if f.offset=off then match sh f.type with
    | some l=>if l.length=P.cellsOf f.type then (CR P sh r (off+l.length)).map (l++·) else none
    | none=>none else none
def kY (P:Program):Nat→TypeId→Option (List Sh)
  | 0,_=>none
  | n+1,t=>match P.underlying t with
    | some .bool=>some [.bool]
    | some (.int k)=>some [.int k]
    | some .string=>some [.str]
    | some (.slice e)=>match kY P n e with | some l=>if l.length=P.cellsOf e then some [.sl l] else none | none=>none
    | some (.struct fs)=>match CR P (kY P n) fs.toList 0 with | some l=>if l.length=P.cellsOf t then some l else none | none=>none
    | some (.array k e)=>match kY P n e with | some l=>if l.length=P.cellsOf e∧P.cellsOf t=k*P.cellsOf e then some ((List.replicate k l).flatten) else none | none=>none
    | _=>none
section
variable {H:Type}
mutual
def dR:DataW H→List D
  | .lit (.bool b)=>[.bool b]
  | .lit (.int k n)=>[.int k n]
  | .lit (.string l)=>[.str ⟨l.toArray⟩]
  | .nil=>[.sl []]
  | .slice es _=>[.sl (rB es)]
  | .agg xs=>yY xs
  | _=>[]
def yY:List (DataW H)→List D
  | []=>[]
  | x::r=>dR x++yY r
def rB:List (DataW H)→List D
  | []=>[]
  | x::r=>lV (dR x)::rB r
end
theorem GM:∀ l:List (DataW H),yY l=l.flatMap dR
  | []=>by simp[yY]
  | x::r=>by simp[yY,GM r]
theorem MC:∀ l:List (DataW H),rB l=l.map fun x=>lV (dR x)
  | []=>by simp[rB]
  | x::r=>by simp[rB,MC r]
end
theorem mapM_some {α β:Type} {f:α→Option β}:∀ {l:List α} {r:List β},l.mapM f=some r→r.length=l.length∧∀ i (h:i<l.length) (h2:i<r.length),f l[i]=some r[i]
  | [],r,h=>by simp at h; subst h; simp
  | x::l,r,h=>by
    simp only[List.mapM_cons,Option.bind_eq_bind,ao4,Option.pure_def,aov] at h;obtain⟨y,hy,ys,hys,rfl⟩:=h;obtain⟨h1,h2⟩:=mapM_some hys;refine⟨by simp[h1],fun i hi hi2=>?_⟩;cases i with
    | zero=>exact hy
    | succ i=>exact h2 i (by simpa using hi) (by simpa using hi2)
theorem O5 {w:World} {a:Addr} {v:Value} (h:w.cell? a=some v):a.block<w.heap.size:=by
  rcases aoP a.block w.heap.size with h' | h'
  ·exact h'
  ·simp[World.cell?,Array.getElem?_eq_none h'] at h
theorem ah8 {w:World} {a:Addr} {n:Nat} {v:Value} (h:w.cell? (a.add n)=some v):w.cell? ⟨a.block,a.off+n,none⟩=some v:=by
  unfold Addr.add at h;split at h
  ·rename_i h0;subst h0;obtain⟨b,o,s⟩:=a;have:=cell_spot h;subst this;exact h
  ·exact h
def jw (w:World):aR:=fun b _=>b<w.heap.size
section
variable {H:Type} {enc:TypeId×Value→H} {P:Program} {w:World} {base:Nat} {spare:Nat→Bool} {held:Bool}
def BU (enc:TypeId×Value→H) (P:Program) (w:World) (base:Nat) (spare:Nat→Bool) (held:Bool) (fuel:Nat) (sh:TypeId→Option (List Sh)):Prop :=
  ∀ t cs x l,DataW.trod enc P w base spare held fuel t cs=some x→sh t=some l→aD (Reads (jw w) w) cs (dR x.1)∧aD (fun d s=>mj s d) (dR x.1) l
theorem U5 {fuel:Nat} {sh:TypeId→Option (List Sh)} (ih:BU enc P w base spare held fuel sh) (cs:List Value):∀ (fs:List Field) (off:Nat) (xs:List (DataW H×List MemPlace)) (l:List Sh),
    (fs.mapM fun f=>DataW.trod enc P w base spare held fuel f.type ((cs.drop f.offset).take (P.cellsOf f.type)))=some xs→CR P sh fs off=some l →
    aD (Reads (jw w) w) ((cs.drop off).take l.length) (xs.flatMap fun x=>dR x.1)∧aD (fun d s=>mj s d) (xs.flatMap fun x=>dR x.1) l
  | [],off,xs,l,h1,h2=>by
    simp at h1; subst h1
    cases h2;exact⟨by simpa using aD.nil,.nil⟩
  | f::r,off,xs,l,h1,h2=>by
    simp only[List.mapM_cons,Option.bind_eq_bind,ao4,Option.pure_def,aov] at h1;obtain⟨y,hy,ys,hys,rfl⟩:=h1;simp only[CR] at h2;split at h2
    ·rename_i hoff;split at h2
     ·rename_i l1 hl1;split at h2
      ·rename_i hlen;obtain⟨l2,hl2,rfl⟩:=aoo.1 h2;obtain⟨a1,a2⟩:=ih _ _ _ _ hy hl1;obtain⟨b1,b2⟩:=U5 ih cs r _ ys l2 hys hl2;rw[aoL,aoq,List.take_add,ap8];refine⟨aD.append ?_ b1,a2.append b2⟩;rw[hoff,← hlen] at a1;exact a1
      ·cases h2
     ·cases h2
    ·cases h2
theorem U6 {fuel:Nat} {sh:TypeId→Option (List Sh)} (ih:BU enc P w base spare held fuel sh) (cs:List Value) (e:TypeId) (l:List Sh) (hl:sh e=some l) (hlen:l.length=P.cellsOf e) (n:Nat) (xs:List (DataW H×List MemPlace))
    (h:((List.range n).mapM fun i=>DataW.trod enc P w base spare held fuel e ((cs.drop (i*P.cellsOf e)).take (P.cellsOf e)))=some xs) :
    xs.length=n∧(∀ i (hi:i<xs.length),aD (Reads (jw w) w) ((cs.drop (i*P.cellsOf e)).take (P.cellsOf e)) (dR xs[i].1)∧aD (fun d s=>mj s d) (dR xs[i].1) l) ∧
    ∀ m,m≤n→aD (Reads (jw w) w) (cs.take (m*P.cellsOf e)) ((xs.take m).flatMap fun x=>dR x.1)∧aD (fun d s=>mj s d) ((xs.take m).flatMap fun x=>dR x.1) (List.replicate m l).flatten:=by
  obtain⟨h1,h2⟩:=mapM_some h;rw[apG] at h1;have each:∀ i (hi:i<xs.length),aD (Reads (jw w) w) ((cs.drop (i*P.cellsOf e)).take (P.cellsOf e)) (dR xs[i].1)∧aD (fun d s=>mj s d) (dR xs[i].1) l:=by
    intro i hi;have:=h2 i (by simp; omega) hi;rw[apN] at this;exact ih _ _ _ _ this hl
  refine⟨h1,each,fun m=>?_⟩
  induction m with
  | zero=>intro _; simp; exact⟨.nil,.nil⟩
  | succ m ihm =>
    intro hm;obtain⟨a1,a2⟩:=ihm (by omega);have hlt:m<xs.length:=by omega
    obtain⟨b1,b2⟩:=each m hlt;rw[apr hlt,apY,aoL,aqI,aoF,List.replicate_succ',List.flatten_append,Nat.succ_mul,List.take_add];refine⟨a1.append b1,a2.append ?_⟩
    simpa using b2
theorem Reads.cells_one {S:aR}:∀ {cs:List Value} {l:List D},aD (Reads S w) cs l→∀ x∈l,x.cells=[x]
  | _,_,.nil,x,hx=>by cases hx
  | _,_,.cons h r,x,hx=>by
    rcases aoK.1 hx with rfl | hx
    ·exact h.cellsOf
    ·exact Reads.cells_one r x hx
theorem A5:∀ fuel n,BU enc P w base spare held fuel (kY P n)
  | 0,_,_,_,_,_,h,_=>by simp[DataW.trod] at h
  | _+1,0,_,_,_,_,_,h=>by cases h
  | fuel+1,n+1,t,cs,x,l,h,hl=>by
    have ih:∀ m,BU enc P w base spare held fuel (kY P m):=fun m=>A5 fuel m
    simp only[kY] at hl;split at hl
    ·rename_i hu;cases hl;simp only[DataW.trod,hu] at h;split at h <;> first | (cases h; done) | (rename_i hx; cases hx; done) | skip
     cases h;exact⟨.cons (.bool _) .nil,.cons trivial .nil⟩
    ·rename_i k hu;cases hl;simp only[DataW.trod,hu] at h;split at h <;> first | (cases h; done) | (rename_i hx; cases hx; done) | skip
     rename_i hx;cases hx;split at h
     ·rename_i hk;obtain⟨rfl,hwf⟩:=hk;cases h;simp only[Lit.wf,aoU,decide_eq_true_eq] at hwf;exact⟨.cons (.int _ _) .nil,.cons ⟨rfl,hwf⟩ .nil⟩
     ·cases h
    ·rename_i hu;cases hl;simp only[DataW.trod,hu] at h;split at h <;> first | (cases h; done) | (rename_i hx; cases hx; done) | skip
     split at h
     ·rename_i hs;cases h;exact⟨.cons (.str _) .nil,.cons hs .nil⟩
     ·cases h
    ·rename_i e hu;split at hl
     ·rename_i l1 hl1;split at hl
      ·rename_i hlen;cases hl;simp only[DataW.trod,hu] at h;split at h <;> first | (cases h; done) | (rename_i hx; cases hx; done) | skip
       ·cases h;exact⟨.cons .nil .nil,.cons ⟨aoy _,fun e he=>by cases he⟩ .nil⟩
       ·rename_i a len cap hx;cases hx;split at h
        ·rename_i hb;simp only[ao4] at h;obtain⟨elems,hel,h⟩:=h;obtain⟨rest,_,rfl⟩:=aoo.1 h;obtain⟨g1,g2⟩:=mapM_some hel;rw[apG] at g1;have each:∀ i (hi:i<elems.length),∃ us,w.cells? base (a.add (i*P.cellsOf e)) (P.cellsOf e)=some us∧aD (Reads (jw w) w) us (dR elems[i].1)∧aD (fun d s=>mj s d) (dR elems[i].1) l1:=by
           intro i hi;have:=g2 i (by simp; omega) hi;rw[apN] at this;obtain⟨us,q1,q2⟩:=ao4.1 this;exact⟨us,q1,ih _ _ _ _ _ q2 hl1⟩
         have hD:rB (elems.map (·.1))=elems.map fun x=>lV (dR x.1):=by rw[MC,apO]; rfl
         have hcells:∀ i (hi:i<elems.length),(lV (dR elems[i].1)).cells=dR elems[i].1:=fun i hi=>by
           obtain⟨us,_,q2,_⟩:=each i hi;exact MB (Reads.cells_one q2)
         have hrow:fJ (jw w) w a (P.cellsOf e) (elems.map fun x=>lV (dR x.1)):=by
           intro i hi;rw[aox] at hi;obtain⟨us,q1,q2,q3⟩:=each i hi;rw[aoT,hcells i hi];have hlen2:(dR elems[i].1).length=P.cellsOf e:=by rw[q3.length,hlen]
           refine⟨hlen2,fun j hj=>?_⟩;have hj2:j<us.length:=by rw[q2.length]; exact hj
           unfold World.cells? at q1;split at q1
           ·obtain⟨r1,r2⟩:=mapM_some q1;rw[apG] at r1;have r3:=r2 j (by simp; omega) hj2;rw[apN] at r3;have r4:=ah8 r3;have e1:(a.add (i*P.cellsOf e)).block=a.block:=by unfold Addr.add; split <;> rfl
            have e2:(a.add (i*P.cellsOf e)).off=a.off+i*P.cellsOf e:=by unfold Addr.add; split <;> (rename_i h0; simp[h0])
            rw[e1,e2] at r4;have hsp:a.spot=none∨i*P.cellsOf e+j≠0:=by
              by_cases h0:i*P.cellsOf e+j=0
              ·have hi0:i*P.cellsOf e=0:=by omega
               have hj0:j=0:=by omega
               subst hj0;rw[hi0] at r3;exact .inl (cell_spot (b:=a.block) (i:=a.off) (s:=a.spot) (by simpa [Addr.add] using r3))
              ·exact .inr h0
            have r5:=O5 r4;refine⟨us[j],r5,?_,q2.get j hj2 hj⟩
            show w.cell? ⟨a.block,a.off+i*P.cellsOf e+j,a.spot⟩=_
            rcases hsp with hsp | hsp
            ·rw[hsp]; exact r4
            ·cases hs:a.spot with
             | none=>exact r4
             | some s =>
               exfalso;have h00:=each 0 (by omega);obtain⟨us0,p1,p2,p3⟩:=h00;have hl0:us0.length=P.cellsOf e:=by rw[p2.length,p3.length,hlen]
               unfold World.cells? at p1;split at p1
               ·obtain⟨s1,s2⟩:=mapM_some p1;have s3:=s2 0 (by simp; omega) (by omega);rw[apN] at s3;have:=cell_spot (b:=a.block) (i:=a.off) (s:=a.spot) (by simpa [Addr.add] using s3);rw[hs] at this;cases this
               ·cases p1
           ·cases q1
         have hlen3:(elems.map fun x=>lV (dR x.1)).length=len:=by rw[aox]; omega
         have hR:=Reads.of_row hrow (cap:=cap) (by omega) (by omega);rw[hlen3] at hR;refine⟨?_,?_⟩
         ·show aD _ _ [D.sl (rB (elems.map (·.1)))]
          rw[hD];exact .cons hR .nil
         ·show aD _ [D.sl (rB (elems.map (·.1)))] _
          rw[hD];refine .cons ⟨by omega,fun d hd=>?_⟩ .nil;obtain⟨y,hy,rfl⟩:=aoN.1 hd;obtain⟨i,hi,rfl⟩:=ao0 hy;obtain⟨us,q1,q2,q3⟩:=each i hi;refine⟨fun h1=>aer (Reads.cells_one q2) (by rw[q3.length]; exact h1),fun h1=>?_,?_⟩
          ·rw[hcells i hi];exact aes (by rw[q3.length]; exact h1)
          ·rw[hcells i hi];exact zX.2 q3
        ·cases h
      ·cases hl
     ·cases hl
    ·rename_i fs hu;split at hl
     ·rename_i l1 hl1;split at hl
      ·rename_i hlen;cases hl;simp only[DataW.trod,hu] at h;split at h
       ·rename_i hc;obtain⟨xs,hxs,rfl⟩:=aoo.1 h;obtain⟨a1,a2⟩:=U5 (ih n) cs fs.toList 0 xs l hxs hl1;have e1:dR (DataW.agg (xs.map (·.1)))=xs.flatMap fun x=>dR x.1:=by
          simp only[dR,GM,List.flatMap_map]
        rw[apS,aot (by omega)] at a1;simp only[e1];exact⟨a1,a2⟩
       ·cases h
      ·cases hl
     ·cases hl
    ·rename_i k e hu;split at hl
     ·rename_i l1 hl1;split at hl
      ·rename_i hlen;cases hl;simp only[DataW.trod,hu] at h;split at h
       ·rename_i hc;obtain⟨xs,hxs,rfl⟩:=aoo.1 h;obtain⟨a0,_,a1⟩:=U6 (ih n) cs e l1 hl1 hlen.1 k xs hxs;obtain⟨a1,a2⟩:=a1 k (aoz _);have e1:dR (DataW.agg (xs.map (·.1)))=xs.flatMap fun x=>dR x.1:=by
          simp only[dR,GM,List.flatMap_map]
        rw[aot (by omega)] at a1 a2;simp only[e1];rw[aot (by omega)] at a1;exact⟨a1,a2⟩
       ·cases h
      ·cases hl
     ·cases hl
    ·cases hl
end
inductive qq where
  | one (s:Sh) | many (l:List Sh)
def U7 (P:Program) (t:TypeId):Bool:=match P.underlying t with | some (.struct _) | some (.array _ _)=>true | _=>false
def yG (P:Program) (t:TypeId):Option qq :=
  if U7 P t then (kY P 50 t).map .many else match kY P 50 t with | some [s]=>some (.one s) | _=>none
def vn:D→qq→Prop
  | x,.one s=>mj s x
  | .agg cs,.many l=>rM l cs
  | _,.many _=>False
section
variable {H:Type} {enc:TypeId×Value→H} {P:Program} {w:World} {base:Nat} {spare:Nat→Bool} {held:Bool}
theorem ah9 {t:TypeId} {s:qq} (hs:yG P t=some s) {v:Value} {b0:Nat} (hv:Value.okWide P w .any b0 t v) {d:DataW H} {ps:List MemPlace} (h:DataW.Trod enc P w base spare held t v d ps) :
    ∃ x,RW (fun _=>none) (jw w) w v (.c (.d x))∧vn x s:=by
  obtain⟨fuel,h⟩:=h;unfold yG U7 at hs;unfold Value.okWide at hv;have key:∀ l,kY P 50 t=some l→aD (Reads (jw w) w) v.cells.toList (dR d)∧aD (fun d s=>mj s d) (dR d) l:=fun l hl=>A5 fuel 50 t _ _ _ h hl
  have agg:(∃ cs,v=.agg cs)→(kY P 50 t).map qq.many=some s→∃ x,RW (fun _=>none) (jw w) w v (.c (.d x))∧vn x s:=by
    rintro⟨cs,rfl⟩ hs;obtain⟨l,hl,rfl⟩:=aoo.1 hs;obtain⟨k1,k2⟩:=key l hl;exact⟨.agg (dR d),⟨cs.toList,by simp,k1⟩,zX.2 k2⟩
  have plain:(∀ cs,v≠.agg cs)→(match kY P 50 t with | some [s]=>some (qq.one s) | _=>none)=some s→∃ x,RW (fun _=>none) (jw w) w v (.c (.d x))∧vn x s:=by
    intro hne hs;split at hs
    ·rename_i s1 hl;cases hs;obtain⟨k1,k2⟩:=key _ hl;have hc:v.cells.toList=[v]:=by cases v <;> first | rfl | (exact absurd rfl (hne _))
     rw[hc] at k1;generalize dR d=ds at k1 k2;cases k1 with
     | cons a b =>
       cases b;cases k2 with
       | cons q _ =>
         refine⟨_,?_,q⟩;exact Reads.rw a
    ·cases hs
  split at hv
  ·rename_i hu;simp only[hu,if_true] at hs;obtain⟨cs,rfl,_⟩:=hv;exact agg ⟨cs,rfl⟩ hs
  ·rename_i hu;simp only[hu,if_true] at hs;obtain⟨cs,rfl,_⟩:=hv;exact agg ⟨cs,rfl⟩ hs
  ·rename_i h1 h2;have hb:(match P.underlying t with | some (.struct _) | some (.array _ _)=>true | _=>false)=false:=by
     split
     ·rename_i hu; exact absurd hu (h1 _)
     ·rename_i hu; exact absurd hu (h2 _ _)
     ·rfl
   rw[hb] at hs;refine plain ?_ hs;rintro cs rfl;unfold Cell.okWide Cell.ok at hv;split at hv <;> first | (rename_i hx; cases hx; done) | skip
   all_goals (split at hv <;> first | (rename_i hx; cases hx; done) | exact hv)
theorem Rz:∀ {ts:List TypeId} {ss:List qq} {vs:List Value} {ds:List (DataW H)} {ps:List MemPlace},bB (yG P) ts=some ss →
    (∀ (j:Nat) (t:TypeId) (v:Value),ts[j]?=some t→vs[j]?=some v→∃ b0,Value.okWide P w .any b0 t v)→DataW.TrodAll enc P w base spare held ts vs ds ps →
    ∃ xs,aD (fun v x=>RW (fun _=>none) (jw w) w v (.c (.d x))) vs xs∧aD vn xs ss
  | [],ss,vs,ds,ps,h1,_,h3=>by
    cases h1;cases vs with
    | nil=>exact⟨[],.nil,.nil⟩
    | cons _ _=>cases ds <;> exact h3.elim
  | t::ts,ss,vs,ds,ps,h1,h2,h3=>by
    cases vs with
    | nil=>cases ds <;> exact h3.elim
    | cons v vs =>
      cases ds with
      | nil=>exact h3.elim
      | cons d ds =>
        obtain⟨p,q,a1,a2,_⟩:=h3;simp only[bB] at h1;split at h1
        ·rename_i s l hs hl;cases h1;obtain⟨b0,hv⟩:=h2 0 t v rfl rfl;obtain⟨x,r1,r2⟩:=ah9 hs hv a1;obtain⟨xs,r3,r4⟩:=Rz hl (fun j t v ht hv=>h2 (j+1) t v ht hv) a2;exact⟨x::xs,.cons r1 r3,.cons r2 r4⟩
        ·cases h1
end
def te {H:Type}:DataW H→List (DataW H) | .agg xs=>xs | _=>[]
def O6 (P:Program) (t:TypeId) (d:DataW Unit):Option C :=
  match P.underlying t with
  | some (.array _ _)=>match kY P 50 t with | some _=>some (.ra ((te d).map fun x=>lV (dR x))) | none=>none
  | _=>match kY P 50 t with | some _=>some (.rp (dR d)) | none=>none
def ya (P:Program):List (String×DataW Unit)→Option au
  | []=>some []
  | (n,d)::r=>match P.globalNamed n with
    | none=>none
    | some g=>match (P.globals[g]?).map (·.type) with
      | none=>none
      | some t=>match O6 P t d,ya P r with
        | some c,some l=>some ((g,c)::l)
        | _,_=>none
section
variable {P:Program} {w:World}
theorem O7 {cs:List Value} {l:List D} {g off:Nat} (h:aD (Reads (jw w) w) cs l) (hc:∀ j (hj:j<cs.length),w.cell? ⟨g,off+j,none⟩=some cs[j]):fI (jw w) w ⟨g,off,none⟩ l:=by
  intro j hj;have hj2:j<cs.length:=by rw[h.length]; exact hj
  have h1:=hc j hj2;have h2:=O5 h1;exact⟨cs[j],h2,h1,h.get j hj2 hj⟩
theorem aa0 {n:String} {g:Nat} {cs:Array Value} (hg:P.globalNamed n=some g) (hv:w.var? P n=some cs):∃ ty,w.shape? g=some (ty,cs.size):=by
  unfold World.var? at hv;rw[hg] at hv;simp only[Option.bind_some] at hv;unfold World.shape?;split at hv
  ·rename_i c t f hh;cases hv;exact⟨t,by rw[hh]⟩
  ·cases hv
theorem RA:∀ {l:List (String×DataW Unit)} {G:au} {ps:List MemPlace},ya P l=some G→DataW.LaidVars P w l ps→nR G (jw w) w
  | [],G,ps,h,_=>by cases h; intro p hp; cases hp
  | (n,d)::r,G,ps,h,h2=>by
    obtain⟨g,t,cs,fuel,p,q,hg,ht,hvar,htr,hrest,_⟩:=h2;simp only[ya,hg,ht] at h;split at h
    ·rename_i c G' hc hG';cases h;have hcell:∀ j (hj:j<cs.toList.length),w.cell? ⟨g,j,none⟩=some cs.toList[j]:=by
       intro j hj;rw[World.var?_cell hg hvar j];simp at hj;simp[hj]
     intro p hp;rcases aoK.1 hp with rfl | hp
     ·unfold O6 at hc;split at hc
      ·rename_i k e hu;split at hc
       ·rename_i l hl;cases hc
        suffices key:fJ (jw w) w ⟨g,0,none⟩ (P.cellsOf e) ((te d).map fun x=>lV (dR x))∧Nh w g (.ra ((te d).map fun x=>lV (dR x))) from ⟨⟨_,P.cellsOf e,rfl,key.1⟩,rfl,key.2⟩
        cases fuel with
        | zero=>have htr:none=some _:=htr; cases htr
        | succ fuel =>
          obtain⟨n,hl⟩:∃ n,kY P (n+1) t=some l:=⟨49,hl⟩
          simp only[kY,hu] at hl;split at hl
          ·rename_i l1 hl1;split at hl
           ·rename_i hlen;simp only[DataW.trod,hu] at htr;split at htr
            ·rename_i hcn;obtain⟨xs,hxs,he⟩:=aoo.1 htr;obtain⟨a0,a1,_⟩:=U6 (A5 fuel n) cs.toList e l1 hl1 hlen.1 k xs hxs;cases he;have e1:∀ i (hi:i<xs.length),(lV (dR xs[i].1)).cells=dR xs[i].1:=fun i hi=>MB (Reads.cells_one (a1 i hi).1)
             refine⟨fun i hi=>?_,fun es hes h1=>?_⟩
             rotate_left
             ·cases hes;obtain⟨ty,hty⟩:=aa0 hg hvar;refine⟨ty,?_⟩;have hk:xs.length=k:=by simpa using (mapM_some hxs).1
              rw[hty];have hsz:cs.size=k*P.cellsOf e:=by rw[← hlen.2,← hcn]; simp
              simp only[te,aox];rw[hsz,hk];rcases apt k with h0 | h0
              ·rw[h0,aqc]
              ·have h2:=h1 (lV (dR xs[0].1)) (by simp only[te,apO]; exact aoN.2 ⟨xs[0],aoS (by omega),rfl⟩);rw[e1 0 (by omega),(a1 0 (by omega)).2.length,hlen.1] at h2;rw[h2,apX]
             simp only[te,aox] at hi;obtain⟨b1,b2⟩:=a1 i hi;simp only[te,aoT];rw[e1 i hi];refine⟨by rw[b2.length,hlen.1],O7 b1 fun j hj=>?_⟩;have hj':=hj;simp only[aow,aoB] at hj';simp only[apE,aqE];have:=hcell (i*P.cellsOf e+j) (by omega)
             simpa using this
            ·cases htr
           ·cases hl
          ·cases hl
       ·cases hc
      ·split at hc
       ·rename_i l hl;cases hc;obtain⟨a1,_⟩:=A5 fuel 50 t _ _ _ htr hl;exact⟨⟨_,rfl,O7 a1 fun j hj=>by simpa using hcell j hj⟩,rfl,fun es he=>by cases he⟩
       ·cases hc
     ·exact RA hG' hrest p hp
    ·cases h
end
section
variable {H:Type} {enc:TypeId×Value→H} {P:Program}
theorem KJ (hl:laidOutB P=true) {W W':World} (hb:Below W.heap.size W W'):∀ {ts:List TypeId} {vs:List Value} {ds:List (DataW H)} {ps:List MemPlace},
    (∀ t∈ts,P.readableRec t=true∧t<P.types.size)→DataW.TrodAll enc P W 0 (fun _=>true) true ts vs ds ps→DataW.TrodAll enc P W' 0 (fun b=>decide (b<W.heap.size)) true ts vs ds ps
  | [],[],[],_,_,h=>h
  | [],_::_,_,_,_,h=>by cases ‹List (DataW H)› <;> exact h.elim
  | [],[],_::_,_,_,h=>h.elim
  | _::_,[],ds,_,_,h=>by cases ds <;> exact h.elim
  | _::_,_::_,[],_,_,h=>h.elim
  | t::ts,v::vs,d::ds,ps,hr,h=>by
    obtain⟨p,q,a1,a2,rfl⟩:=h;have hlt:∀ x∈p,x.block<W.heap.size:=by obtain⟨m,hm⟩:=a1; exact DataW.trod_lt m _ _ _ hm
    exact⟨p,q,Below.trod hl (hr t (by simp)).1 (hr t (by simp)).2 a1 hb hlt,KJ hl hb (fun t ht=>hr t (by simp[ht])) a2,rfl⟩
theorem zK:∀ {ts:List TypeId} {vs:List Value} {ds:List (DataW H)} {ps:List MemPlace} {w:World} {b:Nat} {sp:Nat→Bool} {he:Bool},DataW.TrodAll enc P w b sp he ts vs ds ps→ds.length=ts.length
  | [],[],[],_,_,_,_,_,_=>rfl
  | [],_::_,ds,_,_,_,_,_,h=>by cases ds <;> exact h.elim
  | [],[],_::_,_,_,_,_,_,h=>h.elim
  | _::_,[],ds,_,_,_,_,_,h=>by cases ds <;> exact h.elim
  | _::_,_::_,[],_,_,_,_,_,h=>h.elim
  | t::ts,v::vs,d::ds,_,_,_,_,_,h=>by
    obtain⟨p,q,a1,a2,_⟩:=h;simp[zK a2]
theorem aa1 {f:FuncId} {fn:Func} {s:ChangeSpec} {ts:List TypeId} {ss:List qq} {tb:TypeId} (hts:fn.params.toList=ts) (hss:bB (yG P) ts=some ss) (hvars:s.vars=[])
    (hlay:laidOutB P=true) (hread:∀ t∈ts,P.readableRec t=true∧t<P.types.size) (hres:fn.resultTypes=#[tb]) (htb:P.underlying tb=some .bool)
    (hspec:∀ ds:List (DataW H),ds.length=ts.length→s.fn H ds={ results:=[.lit (.bool true)],args:=ds }) {G:au}
    (den:∀ xs,aD vn xs ss→aF P G f xs (.w (.c (.d (.bool true)))))
    {W:World} {base:Nat} {args:Array Value} {ds gs:List (DataW H)} {before:List MemPlace}
    (hval:∀ (j:Nat) t v,fn.params[j]?=some t→args[j]?=some v→Value.okWide P W .any base t v) (hW:DataW.Whole enc P fn.params.toList s.vars false W args.toList ds gs before) (hG:nR G (jw W) W) :
    Calls P f args W fun e W'=>∃ v,e=.returned v∧s.post enc P fn false true false false W args v W':=by
  have hW':=hW;obtain⟨p,q,hA,hV,rfl,hfz,hnd⟩:=hW;rw[hts] at hA;obtain⟨xs,h1,h2⟩:=Rz hss (fun j t v ht hv=>⟨base,hval j t v (by rw[← ht,← hts]; simp) (by rw[← hv]; simp)⟩) hA;have hg:gs=[]∧q=[]:=by
    rw[hvars] at hV;cases gs with
    | nil=>exact⟨rfl,hV⟩
    | cons _ _=>exact hV.elim
  obtain⟨rfl,rfl⟩:=hg;have hd:=den xs h2 W (jw W) args.toList (fun b i h=>h) hG h1;refine hd.mono ?_;rintro e W' ⟨v,S',bl,rfl,hb,_,_,hr⟩;have hv:v=.bool true:=by
    have:jN S' W' W.heap.size v (.d (.bool true)) bl:=hr;obtain⟨a,_⟩:=this;cases a;rfl
  subst hv;refine⟨_,rfl,ds,[],p++[],[],p,[],hW',?_,?_,?_,hb.frame _,fun h=>by cases h⟩
  ·rw[hres,aoF,hspec ds (zK hA)];exact trodAll_mk1 (shut_bool htb _)
  ·rw[hts,aoF,hspec ds (zK hA)];exact KJ hlay hb hread hA
  ·rw[aoF,hspec ds (zK hA),hvars];rfl
end
def DL:MemPlace→MemPlace→Bool
  | .cell a b,.cell c d=>a==c&&b==d
  | .map a,.map b=>a==b
  | _,_=>false
def BV:List MemPlace→Bool
  | []=>true
  | p::r=>!(r.any (DL p))&&BV r
theorem aa2 (p:MemPlace):DL p p=true:=by cases p <;> simp[DL]
theorem MD:∀ {l:List MemPlace},BV l=true→l.Nodup
  | [],_=>.nil
  | p::r,h=>by
    simp only[BV,aoU,aqF] at h;refine ap2.2 ⟨fun hm=>?_,MD h.2⟩;have:r.any (DL p)=true:=apC.2 ⟨p,hm,aa2 p⟩;rw[h.1] at this;cases this
def zeroCell:Sh→Value | .int k=>.int k 0 | .bool=>.bool false | .str=>.string ByteArray.empty | .sl _=>.slice none 0 0
def RB:qq→Value | .one s=>zeroCell s | .many l=>.agg (l.map zeroCell).toArray
mutual
def O8 {H:Type}:DataW H→List Value
  | .lit (.bool b)=>[.bool b]
  | .lit (.int k n)=>[.int k n]
  | .lit (.string l)=>[.string ⟨l.toArray⟩]
  | .agg xs=>U8 xs
  | _=>[]
def U8 {H:Type}:List (DataW H)→List Value
  | []=>[]
  | x::r=>O8 x++U8 r
end
def acn (P:Program) (l:List (String×DataW Unit)) (h:Array Obj):Array Obj :=
  l.foldl (fun h p=>match P.globalNamed p.1 with
    | some g=>h.modify g fun | .cells _ t fz=>.cells (O8 p.2).toArray t fz | o=>o
    | none=>h) h
def xF (P:Program) (w:World) (fuel:Nat):List String→Option (List (DataW Unit)×List MemPlace)
  | []=>some ([],[])
  | n::r=>match P.globalNamed n with
    | none=>none
    | some g=>match (P.globals[g]?).map (·.type),w.var? P n with
      | some t,some cs=>match DataW.trod (fun _=>()) P w 0 (fun _=>true) false fuel t cs.toList,xF P w fuel r with
        | some (d,p),some (ds,q)=>some (d::ds,MemPlace.row ⟨g,0,none⟩ cs.size++p++q)
        | _,_=>none
      | _,_=>none
def O9 (w:World):MemPlace→Bool
  | .cell b off=>(match w.heap[b]? with | some (.cells _ _ fz)=>fz==(0,0) | _=>false)&&(match w.cell? ⟨b,off,none⟩ with | some (.iface _ _)=>false | _=>true)
  | .map _=>true
theorem La {P:Program} {w:World} {fuel:Nat}:∀ {l:List (String×DataW Unit)} {ps:List MemPlace},xF P w fuel (l.map (·.1))=some (l.map (·.2),ps)→DataW.LaidVars P w l ps
  | [],ps,h=>by cases h; rfl
  | (n,d)::r,ps,h=>by
    simp only[aos,xF] at h;split at h
    ·cases h
    ·rename_i g hg;split at h
     ·rename_i t cs ht hcs;split at h
      ·rename_i d' p ds q htr hr;simp only[aov,aqz,List.cons.injEq] at h;obtain⟨⟨rfl,rfl⟩,rfl⟩:=h;exact⟨g,t,cs,fuel,p,q,hg,ht,hcs,htr,La hr,rfl⟩
      ·cases h
     ·cases h
theorem Z9 {P:Program} {w:World} {l:List (String×DataW Unit)} (fuel:Nat) (ps:List MemPlace) (h:xF P w fuel (l.map (·.1))=some (l.map (·.2),ps)) (hn:BV ps=true) (hf:ps.all (O9 w)=true):laidMet P l w:=by
  refine⟨ps,La h,MD hn,fun b off hm=>?_⟩;have:=aoE.1 hf _ hm;simp only[O9,aoU] at this;obtain⟨h1,h2⟩:=this;constructor
  ·split at h1
   ·rename_i c t fz hc;have:fz=(0,0):=by simpa using h1
    subst this;exact⟨c,t,hc⟩
   ·cases h1
  ·intro u v hc;rw[hc] at h2;cases h2
theorem ZJ {P:Program} {ts:List TypeId} (h:(ts.all fun t=>P.readableRec t&&decide (t<P.types.size))=true):∀ t∈ts,P.readableRec t=true∧t<P.types.size:=by
  intro t ht;have:=aoE.1 h t ht
  simpa using this
theorem aa3 {P:Program} {ps:Array TypeId} (h:(ps.toList.all fun t=>!P.wantsStandIn t)=true):∀ (j:Nat) t,ps[j]?=some t→P.wantsStandIn t=false:=by
  intro j t ht;have hm:t∈ps.toList:=by
    obtain⟨hj,rfl⟩:=aoI.1 ht;simp
  simpa using aoE.1 h t hm
theorem Fg {α β:Type} {R:α→β→Prop} {xs:List α} {y:β} {ys:List β} (h:aD R xs (y::ys)):∃ x r,xs=x::r∧R x y∧aD R r ys:=by
  cases h with
  | cons a b=>exact⟨_,_,rfl,a,b⟩
theorem aco {α β:Type} {R:α→β→Prop} {xs:List α} (h:aD R xs []):xs=[]:=by cases h; rfl
theorem aia {k:IntKind} {x:D} (h:mj (.int k) x):∃ n,x=.int k n∧k.min≤n∧n≤k.max:=by
  cases x <;> simp only[mj] at h;obtain⟨rfl,h⟩:=h;exact⟨_,rfl,h⟩
theorem HS {x:D} (h:mj (.int .i64) x):∃ n:Int,x=.int .i64 n∧-9223372036854775808≤n∧n≤9223372036854775807:=aia h
end Go.Proofs.YtofonnokanoflaaGreatDoor
namespace Go.Proofs.YtofonnokanoflaaGreatDoor
open Go.RowKit
section
variable {P:Program} {G:au} {H:Hint}
def tj (args:List W):St:=⟨fun t=>match args[t]? with | some x=>.w x | none=>.undef,fun _=>none,fun _=>false⟩
theorem afH {f:FuncId} {fn:Func} {sf:aK} (hf:P.funcs[f]?=some fn) (hc:aI P H fn=some sf) {args:List W} {res:V} (hp:∀ x∈args,x.ids=[]) (hlen:args.length=sf.np)
    (e:cD P G sf.body (yU sf.res res) (tj args)):yT P G f args res:=by
  have e:cD P G sf.body (fun ax σ=>match ax with | .nrm=>fb σ sf.res res | .ret=>fb σ sf.res res | .ex _=>False) (tj args):=e;unfold aI at hc;split at hc
  ·rename_i c hb;split at hc
   ·rename_i body rs hbody hres;split at hc
    ·rename_i hnp;cases hc;intro w S vs hS hG hargs;refine (callsIn_wide (n:=3)).1 (callsIn_of_wp_marks (F:=Fence.wide) hf hb trivial ?_);have hvl:vs.length=args.length:=hargs.length;have hnp':vs.length≤fn.ntmps:=by simp only at hlen; omega
     have hsize:(vs.toArray++Array.replicate (fn.ntmps-vs.toArray.size) undef).size=fn.ntmps:=by simp; omega
     have hinv:Inv G fn.ntmps S (Gh.of w) (tj args) { tmps:=vs.toArray++Array.replicate (fn.ntmps-vs.toArray.size) undef,defers:=[] } w S (fun _=>none):=by
       refine⟨hsize,trivial,fun t=>?_,fun t i hi=>?_,fun id o ho=>(by cases ho),fun i j b s s' h1=>absurd rfl h1,fun b i hs=>⟨hS b i hs,.inl hs⟩,fun _ _ h=>h,hG,dw.refl _ _ _,eV.refl _,bP.refl _ _,fun _ _ h=>h.elim,fun t v h=>by cases h⟩
       ·simp only[tj];cases ht:args[t]? with
        | none=>trivial
        | some x =>
          obtain⟨v,h1,h2⟩:=hargs.get? ht;have hlt:=(aoJ.1 h1).1;have:(vs.toArray++Array.replicate (fn.ntmps-vs.toArray.size) undef).getD t undef=v:=by
            rw[apc,Array.getElem?_append_left (by simpa using hlt)];simp[h1]
          rw[this];exact h2
       ·simp only[tj] at hi;split at hi
        ·rename_i x hx;have:=hp x (aps hx);have hi:i∈x.ids:=hi;rw[this] at hi;cases hi
        ·cases hi
     refine mL c hbody (r:=none) (fun _=>rfl) (fun t _=>rfl) ?_ hinv e;intro ax σ a w1 S1 m q h;have key:fb σ rs res→LeavesInM Fence.wide 3 P fn a.tmps (fun e w'=>∃ v S' bl,e=.returned v∧Below w.heap.size w w'∧(∀ b i,S' b i→(S b i∨w.heap.size≤b)∧b<w'.heap.size)∧bl.Nodup∧mh S' w' w.heap.size v res bl) a.defers .returning w1:=by
       rintro⟨ws,hws,hex⟩;refine zJ h (aoz _) h.defers fun w2 a' e2 h=>?_
       rw[← e2];obtain⟨us,h1,h2,h3⟩:=AZ h hres hws;obtain⟨S',bl,k1,k2,k3⟩:=T5 h (fun _ hx=>hx) h2 hex;have hbel:Below w.heap.size w w2:=h.below.below fun _ _ hx=>hx
       refine⟨mX us,?_,_,S',bl,rfl,hbel,k1,k2,k3⟩;rw[EI];simp[Array.mapM_eq_mapM_toList,h1,mX]
     cases ax with
     | nrm=>exact key q
     | ret=>exact key q
     | ex _=>exact q.elim
    ·cases hc
   ·cases hc
  ·cases hc
def iH:Nat→List W→(Nat→V)→Nat→V
  | _,[],f=>f
  | i,x::r,f=>iH (i+1) r (upd f i (.w x))
theorem PQ:∀ (l:List W) (i:Nat) (f:Nat→V) (t:Nat),iH i l f t=if i≤t then (match l[t-i]? with | some x=>.w x | none=>f t) else f t
  | [],i,f,t=>by simp[iH]
  | x::l,i,f,t=>by
    rw[iH,PQ l (i+1)];by_cases h:i=t
    ·subst h;rw[if_neg (by omega),if_pos (aoz _)];simp[upd]
    ·by_cases h2:i≤t
     ·rw[if_pos (by omega),if_pos h2];have:t-i=(t-(i+1))+1:=by omega
      rw[this,ao2];cases l[t-(i+1)]? with
      | some y=>rfl
      | none=>simp[upd,show t≠i from fun e=>h e.symm]
     ·rw[if_neg (by omega),if_neg h2];simp[upd,show t≠i from fun e=>h e.symm]
theorem FE (args:List W):tj args=⟨iH 0 args uf,hN,uN⟩:=by
  unfold tj
  congr 1
  funext t
  rw[PQ];simp only[aoy,if_true,Nat.sub_zero];rfl
def D.up:D→W
  | .ref cs=>.c (.rp cs)
  | x=>.c (.d x)
theorem aje (x:D):x.up.ids=[]:=by cases x <;> rfl
theorem ams {S:aR} {w:World} {vs:List Value} {args:List D} (h:aD (fun v x=>RW (fun _=>none) S w v (.c (.d x))) vs args):aD (fun v x=>RW (fun _=>none) S w v x) vs (args.map D.up):=by
  induction h with
  | nil=>exact .nil
  | cons h _ ih =>
    refine .cons ?_ ih;rename_i v x _ _ _;cases x <;> first | exact h | exact Reads.cellsAt h
theorem M3 {F:FuncId} {fn:Func} {sf:aK} {H:Hint} (hf:P.funcs[F]?=some fn) (hc:aI P H fn=some sf) {args:List D} {res:V} {f0:Nat→V} (hlen:args.length=sf.np) (h0:iH 0 (args.map D.up) uf=f0)
    (e:cD P G sf.body (yU sf.res res) ⟨f0,hN,uN⟩):aF P G F args res:=by
  have h:yT P G F (args.map D.up) res:=by
    refine afH hf hc (fun x hx=>?_) (by rw[aox]; exact hlen) ?_
    ·obtain⟨y,_,rfl⟩:=aoN.1 hx;exact aje y
    ·rw[FE,h0];exact e
  exact fun w S vs hS hG hA=>h w S vs hS hG (ams hA)
end
end Go.Proofs.YtofonnokanoflaaGreatDoor
