/- Texts of one's own, merged: from: The plain logic (21): a law's frame: what reads as data in the model's words reads as data in mine; package-level variables; behind the call. Own work. -/
import Derived.ProofKit
import Derived.ChangeOld
import Derived.Handed
import Derived.Carry
import Derived.ChangeBears2
import GoSem.ClaimSeven
import Derived.Test.YtlghfnidknfakaaGreatDoorMg17
set_option linter.unusedVariables false
set_option linter.unusedSimpArgs false
namespace Go.Proofs.YtlghfnidknfakaaGreatDoor
open Go.RowKit Go.ChangeShapes
inductive Sh where
  | int (k:IntKind) | bool | str | sl (e:List Sh)
mutual
def dO:Sh→D→Prop
  | .int k,.int k' n=>k'=k∧k.min≤n∧n≤k.max
  | .bool,.bool _=>True
  | .str,.str s=>s.size≤maxLen
  | .sl l,.sl es=>es.length≤maxLen∧∀ e∈es,(l.length=1→e.one=true)∧(l.length≠1→e=.agg e.cells)∧fF l e.cells
  | _,_=>False
def fF:List Sh→List D→Prop
  | [],[]=>True
  | s::r,d::ds=>dO s d∧fF r ds
  | _,_=>False
end
theorem qy:∀ {l:List Sh} {ds:List D},fF l ds↔ai (fun d s=>dO s d) ds l
  | [],[]=>by simp only[fF]; exact⟨fun _=>.nil,fun _=>trivial⟩
  | [],_::_=>by simp only[fF]; exact⟨fun h=>h.elim,fun h=>by cases h⟩
  | _::_,[]=>by simp only[fF]; exact⟨fun h=>h.elim,fun h=>by cases h⟩
  | s::r,d::ds=>by
    simp only[fF];exact⟨fun h=>.cons h.1 (qy.1 h.2),fun h=>by cases h with | cons a b=>exact⟨a,qy.2 b⟩⟩
def gB:List D→D
  | [x]=>x
  | l=>.agg l
theorem BK {l:List D} (h:∀ x∈l,x.cells=[x]):(gB l).cells=l:=by
  match l,h with
  | [],_=>rfl
  | [x],h=>exact h x (by simp)
  | x::y::r,_=>rfl
theorem LN {x:D} (h:x.cells=[x]):x.one=true:=by
  cases x <;> simp[D.one];rename_i cs;have h:cs=[D.agg cs]:=h;have h2:SizeOf.sizeOf cs=SizeOf.sizeOf [D.agg cs]:=congrArg SizeOf.sizeOf h;simp at h2;omega
theorem Qr {l:List D} (h:∀ x∈l,x.cells=[x]) (h1:l.length=1):(gB l).one=true:=by
  match l,h,h1 with
  | [x],h,_=>exact LN (h x (by simp))
theorem Qs {l:List D} (h1:l.length≠1):gB l=.agg l:=by
  match l,h1 with
  | [],_=>rfl
  | [x],h=>simp at h
  | x::y::r,_=>rfl
def sU (P:Program) (sh:TypeId→Option (List Sh)):List Field→Nat→Option (List Sh)
  | [],_=>some []
  | f::r,off=>if f.offset=off then match sh f.type with
    | some l=>if l.length=P.cellsOf f.type then (sU P sh r (off+l.length)).map (l++·) else none
    | none=>none else none
def fW (P:Program):Nat→TypeId→Option (List Sh)
  | 0,_=>none
  | n+1,t=>match P.underlying t with
    | some .bool=>some [.bool]
    | some (.int k)=>some [.int k]
    | some .string=>some [.str]
    | some (.slice e)=>match fW P n e with | some l=>if l.length=P.cellsOf e then some [.sl l] else none | none=>none
    | some (.struct fs)=>match sU P (fW P n) fs.toList 0 with | some l=>if l.length=P.cellsOf t then some l else none | none=>none
    | some (.array k e)=>match fW P n e with | some l=>if l.length=P.cellsOf e∧P.cellsOf t=k*P.cellsOf e then some ((List.replicate k l).flatten) else none | none=>none
    | _=>none
section
variable {H:Type}
mutual
def bY:DataW H→List D
  | .lit (.bool b)=>[.bool b]
  | .lit (.int k n)=>[.int k n]
  | .lit (.string l)=>[.str ⟨l.toArray⟩]
  | .nil=>[.sl []]
  | .slice es _=>[.sl (kJ es)]
  | .agg xs=>pW xs
  | _=>[]
def pW:List (DataW H)→List D
  | []=>[]
  | x::r=>bY x++pW r
def kJ:List (DataW H)→List D
  | []=>[]
  | x::r=>gB (bY x)::kJ r
end
theorem wM:∀ l:List (DataW H),pW l=l.flatMap bY
  | []=>by simp[pW]
  | x::r=>by simp[pW,wM r]
theorem BL:∀ l:List (DataW H),kJ l=l.map fun x=>gB (bY x)
  | []=>by simp[kJ]
  | x::r=>by simp[kJ,BL r]
end
theorem mapM_some {α β:Type} {f:α→Option β}:∀ {l:List α} {r:List β},l.mapM f=some r→r.length=l.length∧∀ i (h:i<l.length) (h2:i<r.length),f l[i]=some r[i]
  | [],r,h=>by simp at h; subst h; simp
  | x::l,r,h=>by
    simp only[List.mapM_cons,Option.bind_eq_bind,Xy,Option.pure_def,WC] at h;obtain⟨y,hy,ys,hys,rfl⟩:=h;obtain⟨h1,h2⟩:=mapM_some hys;refine⟨by simp[h1],fun i hi hi2=>?_⟩;cases i with
    | zero=>exact hy
    | succ i=>exact h2 i (by simpa using hi) (by simpa using hi2)
theorem D6 {w:World} {a:Addr} {v:Value} (h:w.cell? a=some v):a.block<w.heap.size:=by
  rcases Xd a.block w.heap.size with h' | h'
  ·exact h'
  ·simp[World.cell?,Array.getElem?_eq_none h'] at h
theorem SI {w:World} {a:Addr} {n:Nat} {v:Value} (h:w.cell? (a.add n)=some v):w.cell? ⟨a.block,a.off+n,none⟩=some v:=by
  unfold Addr.add at h;split at h
  ·rename_i h0;subst h0;obtain⟨b,o,s⟩:=a;have:=cell_spot h;subst this;exact h
  ·exact h
def fa (w:World):aj:=fun b _=>b<w.heap.size
section
variable {H:Type} {enc:TypeId×Value→H} {P:Program} {w:World} {base:Nat} {spare:Nat→Bool} {held:Bool}
def rX (enc:TypeId×Value→H) (P:Program) (w:World) (base:Nat) (spare:Nat→Bool) (held:Bool) (fuel:Nat) (sh:TypeId→Option (List Sh)):Prop :=
  ∀ t cs x l,DataW.trod enc P w base spare held fuel t cs=some x→sh t=some l→ai (Reads (fa w) w) cs (bY x.1)∧ai (fun d s=>dO s d) (bY x.1) l
theorem IE {fuel:Nat} {sh:TypeId→Option (List Sh)} (ih:rX enc P w base spare held fuel sh) (cs:List Value):∀ (fs:List Field) (off:Nat) (xs:List (DataW H×List MemPlace)) (l:List Sh),
    (fs.mapM fun f=>DataW.trod enc P w base spare held fuel f.type ((cs.drop f.offset).take (P.cellsOf f.type)))=some xs→sU P sh fs off=some l →
    ai (Reads (fa w) w) ((cs.drop off).take l.length) (xs.flatMap fun x=>bY x.1)∧ai (fun d s=>dO s d) (xs.flatMap fun x=>bY x.1) l
  | [],off,xs,l,h1,h2=>by
    simp at h1; subst h1
    cases h2;exact⟨by simpa using ai.nil,.nil⟩
  | f::r,off,xs,l,h1,h2=>by
    simp only[List.mapM_cons,Option.bind_eq_bind,Xy,Option.pure_def,WC] at h1;obtain⟨y,hy,ys,hys,rfl⟩:=h1;simp only[sU] at h2;split at h2
    ·rename_i hoff;split at h2
     ·rename_i l1 hl1;split at h2
      ·rename_i hlen;obtain⟨l2,hl2,rfl⟩:=Wy.1 h2;obtain⟨a1,a2⟩:=ih _ _ _ _ hy hl1;obtain⟨b1,b2⟩:=IE ih cs r _ ys l2 hys hl2;rw[WQ,WA,List.take_add,Yv];refine⟨ai.append ?_ b1,a2.append b2⟩;rw[hoff,← hlen] at a1;exact a1
      ·cases h2
     ·cases h2
    ·cases h2
theorem IF {fuel:Nat} {sh:TypeId→Option (List Sh)} (ih:rX enc P w base spare held fuel sh) (cs:List Value) (e:TypeId) (l:List Sh) (hl:sh e=some l) (hlen:l.length=P.cellsOf e) (n:Nat) (xs:List (DataW H×List MemPlace))
    (h:((List.range n).mapM fun i=>DataW.trod enc P w base spare held fuel e ((cs.drop (i*P.cellsOf e)).take (P.cellsOf e)))=some xs) :
    xs.length=n∧(∀ i (hi:i<xs.length),ai (Reads (fa w) w) ((cs.drop (i*P.cellsOf e)).take (P.cellsOf e)) (bY xs[i].1)∧ai (fun d s=>dO s d) (bY xs[i].1) l) ∧
    ∀ m,m≤n→ai (Reads (fa w) w) (cs.take (m*P.cellsOf e)) ((xs.take m).flatMap fun x=>bY x.1)∧ai (fun d s=>dO s d) ((xs.take m).flatMap fun x=>bY x.1) (List.replicate m l).flatten:=by
  obtain⟨h1,h2⟩:=mapM_some h;rw[Yf] at h1;have each:∀ i (hi:i<xs.length),ai (Reads (fa w) w) ((cs.drop (i*P.cellsOf e)).take (P.cellsOf e)) (bY xs[i].1)∧ai (fun d s=>dO s d) (bY xs[i].1) l:=by
    intro i hi;have:=h2 i (by simp; omega) hi;rw[XS] at this;exact ih _ _ _ _ this hl
  refine⟨h1,each,fun m=>?_⟩
  induction m with
  | zero=>intro _; simp; exact⟨.nil,.nil⟩
  | succ m ihm =>
    intro hm;obtain⟨a1,a2⟩:=ihm (by omega);have hlt:m<xs.length:=by omega
    obtain⟨b1,b2⟩:=each m hlt;rw[XH hlt,XV,WQ,Yx,WS,List.replicate_succ',List.flatten_append,Nat.succ_mul,List.take_add];refine⟨a1.append b1,a2.append ?_⟩
    simpa using b2
theorem Reads.cells_one {S:aj}:∀ {cs:List Value} {l:List D},ai (Reads S w) cs l→∀ x∈l,x.cells=[x]
  | _,_,.nil,x,hx=>by cases hx
  | _,_,.cons h r,x,hx=>by
    rcases WR.1 hx with rfl | hx
    ·exact h.cellsOf
    ·exact Reads.cells_one r x hx
theorem rF:∀ fuel n,rX enc P w base spare held fuel (fW P n)
  | 0,_,_,_,_,_,h,_=>by simp[DataW.trod] at h
  | _+1,0,_,_,_,_,_,h=>by cases h
  | fuel+1,n+1,t,cs,x,l,h,hl=>by
    have ih:∀ m,rX enc P w base spare held fuel (fW P m):=fun m=>rF fuel m
    simp only[fW] at hl;split at hl
    ·rename_i hu;cases hl;simp only[DataW.trod,hu] at h;split at h <;> first | (cases h; done) | (rename_i hx; cases hx; done) | skip
     cases h;exact⟨.cons (.bool _) .nil,.cons trivial .nil⟩
    ·rename_i k hu;cases hl;simp only[DataW.trod,hu] at h;split at h <;> first | (cases h; done) | (rename_i hx; cases hx; done) | skip
     rename_i hx;cases hx;split at h
     ·rename_i hk;obtain⟨rfl,hwf⟩:=hk;cases h;simp only[Lit.wf,WX,decide_eq_true_eq] at hwf;exact⟨.cons (.int _ _) .nil,.cons ⟨rfl,hwf⟩ .nil⟩
     ·cases h
    ·rename_i hu;cases hl;simp only[DataW.trod,hu] at h;split at h <;> first | (cases h; done) | (rename_i hx; cases hx; done) | skip
     split at h
     ·rename_i hs;cases h;exact⟨.cons (.str _) .nil,.cons hs .nil⟩
     ·cases h
    ·rename_i e hu;split at hl
     ·rename_i l1 hl1;split at hl
      ·rename_i hlen;cases hl;simp only[DataW.trod,hu] at h;split at h <;> first | (cases h; done) | (rename_i hx; cases hx; done) | skip
       ·cases h;exact⟨.cons .nil .nil,.cons ⟨WI _,fun e he=>by cases he⟩ .nil⟩
       ·rename_i a len cap hx;cases hx;split at h
        ·rename_i hb;simp only[Xy] at h;obtain⟨elems,hel,h⟩:=h;obtain⟨rest,_,rfl⟩:=Wy.1 h;obtain⟨g1,g2⟩:=mapM_some hel;rw[Yf] at g1;have each:∀ i (hi:i<elems.length),∃ us,w.cells? base (a.add (i*P.cellsOf e)) (P.cellsOf e)=some us∧ai (Reads (fa w) w) us (bY elems[i].1)∧ai (fun d s=>dO s d) (bY elems[i].1) l1:=by
           intro i hi;have:=g2 i (by simp; omega) hi;rw[XS] at this;obtain⟨us,q1,q2⟩:=Xy.1 this;exact⟨us,q1,ih _ _ _ _ _ q2 hl1⟩
         have hD:kJ (elems.map (·.1))=elems.map fun x=>gB (bY x.1):=by rw[BL,Yy]; rfl
         have hcells:∀ i (hi:i<elems.length),(gB (bY elems[i].1)).cells=bY elems[i].1:=fun i hi=>by
           obtain⟨us,_,q2,_⟩:=each i hi;exact BK (Reads.cells_one q2)
         have hrow:dj (fa w) w a (P.cellsOf e) (elems.map fun x=>gB (bY x.1)):=by
           intro i hi;rw[WJ] at hi;obtain⟨us,q1,q2,q3⟩:=each i hi;rw[W4,hcells i hi];have hlen2:(bY elems[i].1).length=P.cellsOf e:=by rw[q3.length,hlen]
           refine⟨hlen2,fun j hj=>?_⟩;have hj2:j<us.length:=by rw[q2.length]; exact hj
           unfold World.cells? at q1;split at q1
           ·obtain⟨r1,r2⟩:=mapM_some q1;rw[Yf] at r1;have r3:=r2 j (by simp; omega) hj2;rw[XS] at r3;have r4:=SI r3;have e1:(a.add (i*P.cellsOf e)).block=a.block:=by unfold Addr.add; split <;> rfl
            have e2:(a.add (i*P.cellsOf e)).off=a.off+i*P.cellsOf e:=by unfold Addr.add; split <;> (rename_i h0; simp[h0])
            rw[e1,e2] at r4;have hsp:a.spot=none∨i*P.cellsOf e+j≠0:=by
              by_cases h0:i*P.cellsOf e+j=0
              ·have hi0:i*P.cellsOf e=0:=by omega
               have hj0:j=0:=by omega
               subst hj0;rw[hi0] at r3;exact .inl (cell_spot (b:=a.block) (i:=a.off) (s:=a.spot) (by simpa [Addr.add] using r3))
              ·exact .inr h0
            have r5:=D6 r4;refine⟨us[j],r5,?_,q2.get j hj2 hj⟩
            show w.cell? ⟨a.block,a.off+i*P.cellsOf e+j,a.spot⟩=_
            rcases hsp with hsp | hsp
            ·rw[hsp]; exact r4
            ·cases hs:a.spot with
             | none=>exact r4
             | some s =>
               exfalso;have h00:=each 0 (by omega);obtain⟨us0,p1,p2,p3⟩:=h00;have hl0:us0.length=P.cellsOf e:=by rw[p2.length,p3.length,hlen]
               unfold World.cells? at p1;split at p1
               ·obtain⟨s1,s2⟩:=mapM_some p1;have s3:=s2 0 (by simp; omega) (by omega);rw[XS] at s3;have:=cell_spot (b:=a.block) (i:=a.off) (s:=a.spot) (by simpa [Addr.add] using s3);rw[hs] at this;cases this
               ·cases p1
           ·cases q1
         have hlen3:(elems.map fun x=>gB (bY x.1)).length=len:=by rw[WJ]; omega
         have hR:=Reads.of_row hrow (cap:=cap) (by omega) (by omega);rw[hlen3] at hR;refine⟨?_,?_⟩
         ·show ai _ _ [D.sl (kJ (elems.map (·.1)))]
          rw[hD];exact .cons hR .nil
         ·show ai _ [D.sl (kJ (elems.map (·.1)))] _
          rw[hD];refine .cons ⟨by omega,fun d hd=>?_⟩ .nil;obtain⟨y,hy,rfl⟩:=WZ.1 hd;obtain⟨i,hi,rfl⟩:=Xh hy;obtain⟨us,q1,q2,q3⟩:=each i hi;refine⟨fun h1=>Qr (Reads.cells_one q2) (by rw[q3.length]; exact h1),fun h1=>?_,?_⟩
          ·rw[hcells i hi];exact Qs (by rw[q3.length]; exact h1)
          ·rw[hcells i hi];exact qy.2 q3
        ·cases h
      ·cases hl
     ·cases hl
    ·rename_i fs hu;split at hl
     ·rename_i l1 hl1;split at hl
      ·rename_i hlen;cases hl;simp only[DataW.trod,hu] at h;split at h
       ·rename_i hc;obtain⟨xs,hxs,rfl⟩:=Wy.1 h;obtain⟨a1,a2⟩:=IE (ih n) cs fs.toList 0 xs l hxs hl1;have e1:bY (DataW.agg (xs.map (·.1)))=xs.flatMap fun x=>bY x.1:=by
          simp only[bY,wM,List.flatMap_map]
        rw[X8,WE (by omega)] at a1;simp only[e1];exact⟨a1,a2⟩
       ·cases h
      ·cases hl
     ·cases hl
    ·rename_i k e hu;split at hl
     ·rename_i l1 hl1;split at hl
      ·rename_i hlen;cases hl;simp only[DataW.trod,hu] at h;split at h
       ·rename_i hc;obtain⟨xs,hxs,rfl⟩:=Wy.1 h;obtain⟨a0,_,a1⟩:=IF (ih n) cs e l1 hl1 hlen.1 k xs hxs;obtain⟨a1,a2⟩:=a1 k (WM _);have e1:bY (DataW.agg (xs.map (·.1)))=xs.flatMap fun x=>bY x.1:=by
          simp only[bY,wM,List.flatMap_map]
        rw[WE (by omega)] at a1 a2;simp only[e1];rw[WE (by omega)] at a1;exact⟨a1,a2⟩
       ·cases h
      ·cases hl
     ·cases hl
    ·cases hl
end
inductive jO where
  | one (s:Sh) | many (l:List Sh)
def IG (P:Program) (t:TypeId):Bool:=match P.underlying t with | some (.struct _) | some (.array _ _)=>true | _=>false
def pH (P:Program) (t:TypeId):Option jO :=
  if IG P t then (fW P 50 t).map .many else match fW P 50 t with | some [s]=>some (.one s) | _=>none
def na:D→jO→Prop
  | x,.one s=>dO s x
  | .agg cs,.many l=>fF l cs
  | _,.many _=>False
section
variable {H:Type} {enc:TypeId×Value→H} {P:Program} {w:World} {base:Nat} {spare:Nat→Bool} {held:Bool}
theorem SJ {t:TypeId} {s:jO} (hs:pH P t=some s) {v:Value} {b0:Nat} (hv:Value.okWide P w .any b0 t v) {d:DataW H} {ps:List MemPlace} (h:DataW.Trod enc P w base spare held t v d ps) :
    ∃ x,RW (fun _=>none) (fa w) w v (.c (.d x))∧na x s:=by
  obtain⟨fuel,h⟩:=h;unfold pH IG at hs;unfold Value.okWide at hv;have key:∀ l,fW P 50 t=some l→ai (Reads (fa w) w) v.cells.toList (bY d)∧ai (fun d s=>dO s d) (bY d) l:=fun l hl=>rF fuel 50 t _ _ _ h hl
  have agg:(∃ cs,v=.agg cs)→(fW P 50 t).map jO.many=some s→∃ x,RW (fun _=>none) (fa w) w v (.c (.d x))∧na x s:=by
    rintro⟨cs,rfl⟩ hs;obtain⟨l,hl,rfl⟩:=Wy.1 hs;obtain⟨k1,k2⟩:=key l hl;exact⟨.agg (bY d),⟨cs.toList,by simp,k1⟩,qy.2 k2⟩
  have plain:(∀ cs,v≠.agg cs)→(match fW P 50 t with | some [s]=>some (jO.one s) | _=>none)=some s→∃ x,RW (fun _=>none) (fa w) w v (.c (.d x))∧na x s:=by
    intro hne hs;split at hs
    ·rename_i s1 hl;cases hs;obtain⟨k1,k2⟩:=key _ hl;have hc:v.cells.toList=[v]:=by cases v <;> first | rfl | (exact absurd rfl (hne _))
     rw[hc] at k1;generalize bY d=ds at k1 k2;cases k1 with
     | cons a b =>
       cases b;cases k2 with
       | cons q _ =>
         refine⟨_,?_,q⟩;exact Reads.rw a
    ·cases hs
  split at hv
  ·rename_i hu;simp only[hu,if_true] at hs;obtain⟨cs,rfl,_⟩:=hv;exact agg ⟨cs,rfl⟩ hs
  ·rename_i hu;simp only[hu,if_true] at hs;obtain⟨cs,rfl,_⟩:=hv;exact agg ⟨cs,rfl⟩ hs
  ·rename_i h1 h2;have hb:(match P.underlying t with | some (.struct _) | some (.array _ _)=>true | _=>false)=false:=by
     split
     ·rename_i hu; exact absurd hu (h1 _)
     ·rename_i hu; exact absurd hu (h2 _ _)
     ·rfl
   rw[hb] at hs;refine plain ?_ hs;rintro cs rfl;unfold Cell.okWide Cell.ok at hv;split at hv <;> first | (rename_i hx; cases hx; done) | skip
   all_goals (split at hv <;> first | (rename_i hx; cases hx; done) | exact hv)
theorem Gk:∀ {ts:List TypeId} {ss:List jO} {vs:List Value} {ds:List (DataW H)} {ps:List MemPlace},aU (pH P) ts=some ss →
    (∀ (j:Nat) (t:TypeId) (v:Value),ts[j]?=some t→vs[j]?=some v→∃ b0,Value.okWide P w .any b0 t v)→DataW.TrodAll enc P w base spare held ts vs ds ps →
    ∃ xs,ai (fun v x=>RW (fun _=>none) (fa w) w v (.c (.d x))) vs xs∧ai na xs ss
  | [],ss,vs,ds,ps,h1,_,h3=>by
    cases h1;cases vs with
    | nil=>exact⟨[],.nil,.nil⟩
    | cons _ _=>cases ds <;> exact h3.elim
  | t::ts,ss,vs,ds,ps,h1,h2,h3=>by
    cases vs with
    | nil=>cases ds <;> exact h3.elim
    | cons v vs =>
      cases ds with
      | nil=>exact h3.elim
      | cons d ds =>
        obtain⟨p,q,a1,a2,_⟩:=h3;simp only[aU] at h1;split at h1
        ·rename_i s l hs hl;cases h1;obtain⟨b0,hv⟩:=h2 0 t v rfl rfl;obtain⟨x,r1,r2⟩:=SJ hs hv a1;obtain⟨xs,r3,r4⟩:=Gk hl (fun j t v ht hv=>h2 (j+1) t v ht hv) a2;exact⟨x::xs,.cons r1 r3,.cons r2 r4⟩
        ·cases h1
end
def lI {H:Type}:DataW H→List (DataW H) | .agg xs=>xs | _=>[]
def D7 (P:Program) (t:TypeId) (d:DataW Unit):Option C :=
  match P.underlying t with
  | some (.array _ _)=>match fW P 50 t with | some _=>some (.ra ((lI d).map fun x=>gB (bY x))) | none=>none
  | _=>match fW P 50 t with | some _=>some (.rp (bY d)) | none=>none
def pu (P:Program):List (String×DataW Unit)→Option ah
  | []=>some []
  | (n,d)::r=>match P.globalNamed n with
    | none=>none
    | some g=>match (P.globals[g]?).map (·.type) with
      | none=>none
      | some t=>match D7 P t d,pu P r with
        | some c,some l=>some ((g,c)::l)
        | _,_=>none
section
variable {P:Program} {w:World}
theorem D8 {cs:List Value} {l:List D} {g off:Nat} (h:ai (Reads (fa w) w) cs l) (hc:∀ j (hj:j<cs.length),w.cell? ⟨g,off+j,none⟩=some cs[j]):di (fa w) w ⟨g,off,none⟩ l:=by
  intro j hj;have hj2:j<cs.length:=by rw[h.length]; exact hj
  have h1:=hc j hj2;have h2:=D6 h1;exact⟨cs[j],h2,h1,h.get j hj2 hj⟩
theorem Ng {n:String} {g:Nat} {cs:Array Value} (hg:P.globalNamed n=some g) (hv:w.var? P n=some cs):∃ ty,w.shape? g=some (ty,cs.size):=by
  unfold World.var? at hv;rw[hg] at hv;simp only[Option.bind_some] at hv;unfold World.shape?;split at hv
  ·rename_i c t f hh;cases hv;exact⟨t,by rw[hh]⟩
  ·cases hv
theorem Gl:∀ {l:List (String×DataW Unit)} {G:ah} {ps:List MemPlace},pu P l=some G→DataW.LaidVars P w l ps→iK G (fa w) w
  | [],G,ps,h,_=>by cases h; intro p hp; cases hp
  | (n,d)::r,G,ps,h,h2=>by
    obtain⟨g,t,cs,fuel,p,q,hg,ht,hvar,htr,hrest,_⟩:=h2;simp only[pu,hg,ht] at h;split at h
    ·rename_i c G' hc hG';cases h;have hcell:∀ j (hj:j<cs.toList.length),w.cell? ⟨g,j,none⟩=some cs.toList[j]:=by
       intro j hj;rw[World.var?_cell hg hvar j];simp at hj;simp[hj]
     intro p hp;rcases WR.1 hp with rfl | hp
     ·unfold D7 at hc;split at hc
      ·rename_i k e hu;split at hc
       ·rename_i l hl;cases hc
        suffices key:dj (fa w) w ⟨g,0,none⟩ (P.cellsOf e) ((lI d).map fun x=>gB (bY x))∧Cm w g (.ra ((lI d).map fun x=>gB (bY x))) from ⟨⟨_,P.cellsOf e,rfl,key.1⟩,rfl,key.2⟩
        cases fuel with
        | zero=>have htr:none=some _:=htr; cases htr
        | succ fuel =>
          obtain⟨n,hl⟩:∃ n,fW P (n+1) t=some l:=⟨49,hl⟩
          simp only[fW,hu] at hl;split at hl
          ·rename_i l1 hl1;split at hl
           ·rename_i hlen;simp only[DataW.trod,hu] at htr;split at htr
            ·rename_i hcn;obtain⟨xs,hxs,he⟩:=Wy.1 htr;obtain⟨a0,a1,_⟩:=IF (rF fuel n) cs.toList e l1 hl1 hlen.1 k xs hxs;cases he;have e1:∀ i (hi:i<xs.length),(gB (bY xs[i].1)).cells=bY xs[i].1:=fun i hi=>BK (Reads.cells_one (a1 i hi).1)
             refine⟨fun i hi=>?_,fun es hes h1=>?_⟩
             rotate_left
             ·cases hes;obtain⟨ty,hty⟩:=Ng hg hvar;refine⟨ty,?_⟩;have hk:xs.length=k:=by simpa using (mapM_some hxs).1
              rw[hty];have hsz:cs.size=k*P.cellsOf e:=by rw[← hlen.2,← hcn]; simp
              simp only[lI,WJ];rw[hsz,hk];rcases Xw k with h0 | h0
              ·rw[h0,Yw]
              ·have h2:=h1 (gB (bY xs[0].1)) (by simp only[lI,Yy]; exact WZ.2 ⟨xs[0],W9 (by omega),rfl⟩);rw[e1 0 (by omega),(a1 0 (by omega)).2.length,hlen.1] at h2;rw[h2,X6]
             simp only[lI,WJ] at hi;obtain⟨b1,b2⟩:=a1 i hi;simp only[lI,W4];rw[e1 i hi];refine⟨by rw[b2.length,hlen.1],D8 b1 fun j hj=>?_⟩;have hj':=hj;simp only[WF,WL] at hj';simp only[XI,Yr];have:=hcell (i*P.cellsOf e+j) (by omega)
             simpa using this
            ·cases htr
           ·cases hl
          ·cases hl
       ·cases hc
      ·split at hc
       ·rename_i l hl;cases hc;obtain⟨a1,_⟩:=rF fuel 50 t _ _ _ htr hl;exact⟨⟨_,rfl,D8 a1 fun j hj=>by simpa using hcell j hj⟩,rfl,fun es he=>by cases he⟩
       ·cases hc
     ·exact Gl hG' hrest p hp
    ·cases h
end
section
variable {H:Type} {enc:TypeId×Value→H} {P:Program}
theorem zY (hl:laidOutB P=true) {W W':World} (hb:Below W.heap.size W W'):∀ {ts:List TypeId} {vs:List Value} {ds:List (DataW H)} {ps:List MemPlace},
    (∀ t∈ts,P.readableRec t=true∧t<P.types.size)→DataW.TrodAll enc P W 0 (fun _=>true) true ts vs ds ps→DataW.TrodAll enc P W' 0 (fun b=>decide (b<W.heap.size)) true ts vs ds ps
  | [],[],[],_,_,h=>h
  | [],_::_,_,_,_,h=>by cases ‹List (DataW H)› <;> exact h.elim
  | [],[],_::_,_,_,h=>h.elim
  | _::_,[],ds,_,_,h=>by cases ds <;> exact h.elim
  | _::_,_::_,[],_,_,h=>h.elim
  | t::ts,v::vs,d::ds,ps,hr,h=>by
    obtain⟨p,q,a1,a2,rfl⟩:=h;have hlt:∀ x∈p,x.block<W.heap.size:=by obtain⟨m,hm⟩:=a1; exact DataW.trod_lt m _ _ _ hm
    exact⟨p,q,Below.trod hl (hr t (by simp)).1 (hr t (by simp)).2 a1 hb hlt,zY hl hb (fun t ht=>hr t (by simp[ht])) a2,rfl⟩
theorem qk:∀ {ts:List TypeId} {vs:List Value} {ds:List (DataW H)} {ps:List MemPlace} {w:World} {b:Nat} {sp:Nat→Bool} {he:Bool},DataW.TrodAll enc P w b sp he ts vs ds ps→ds.length=ts.length
  | [],[],[],_,_,_,_,_,_=>rfl
  | [],_::_,ds,_,_,_,_,_,h=>by cases ds <;> exact h.elim
  | [],[],_::_,_,_,_,_,_,h=>h.elim
  | _::_,[],ds,_,_,_,_,_,h=>by cases ds <;> exact h.elim
  | _::_,_::_,[],_,_,_,_,_,h=>h.elim
  | t::ts,v::vs,d::ds,_,_,_,_,_,h=>by
    obtain⟨p,q,a1,a2,_⟩:=h;simp[qk a2]
theorem Nh {f:FuncId} {fn:Func} {s:ChangeSpec} {ts:List TypeId} {ss:List jO} {tb:TypeId} (hts:fn.params.toList=ts) (hss:aU (pH P) ts=some ss) (hvars:s.vars=[])
    (hlay:laidOutB P=true) (hread:∀ t∈ts,P.readableRec t=true∧t<P.types.size) (hres:fn.resultTypes=#[tb]) (htb:P.underlying tb=some .bool)
    (hspec:∀ ds:List (DataW H),ds.length=ts.length→s.fn H ds={ results:=[.lit (.bool true)],args:=ds }) {G:ah}
    (den:∀ xs,ai na xs ss→ak P G f xs (.w (.c (.d (.bool true)))))
    {W:World} {base:Nat} {args:Array Value} {ds gs:List (DataW H)} {before:List MemPlace}
    (hval:∀ (j:Nat) t v,fn.params[j]?=some t→args[j]?=some v→Value.okWide P W .any base t v) (hW:DataW.Whole enc P fn.params.toList s.vars false W args.toList ds gs before) (hG:iK G (fa W) W) :
    Calls P f args W fun e W'=>∃ v,e=.returned v∧s.post enc P fn false true false false W args v W':=by
  have hW':=hW;obtain⟨p,q,hA,hV,rfl,hfz,hnd⟩:=hW;rw[hts] at hA;obtain⟨xs,h1,h2⟩:=Gk hss (fun j t v ht hv=>⟨base,hval j t v (by rw[← ht,← hts]; simp) (by rw[← hv]; simp)⟩) hA;have hg:gs=[]∧q=[]:=by
    rw[hvars] at hV;cases gs with
    | nil=>exact⟨rfl,hV⟩
    | cons _ _=>exact hV.elim
  obtain⟨rfl,rfl⟩:=hg;have hd:=den xs h2 W (fa W) args.toList (fun b i h=>h) hG h1;refine hd.mono ?_;rintro e W' ⟨v,S',bl,rfl,hb,_,_,hr⟩;have hv:v=.bool true:=by
    have:gu S' W' W.heap.size v (.d (.bool true)) bl:=hr;obtain⟨a,_⟩:=this;cases a;rfl
  subst hv;refine⟨_,rfl,ds,[],p++[],[],p,[],hW',?_,?_,?_,hb.frame _,fun h=>by cases h⟩
  ·rw[hres,WS,hspec ds (qk hA)];exact trodAll_mk1 (shut_bool htb _)
  ·rw[hts,WS,hspec ds (qk hA)];exact zY hlay hb hread hA
  ·rw[WS,hspec ds (qk hA),hvars];rfl
end
def tP:MemPlace→MemPlace→Bool
  | .cell a b,.cell c d=>a==c&&b==d
  | .map a,.map b=>a==b
  | _,_=>false
def rY:List MemPlace→Bool
  | []=>true
  | p::r=>!(r.any (tP p))&&rY r
theorem Ni (p:MemPlace):tP p p=true:=by cases p <;> simp[tP]
theorem BM:∀ {l:List MemPlace},rY l=true→l.Nodup
  | [],_=>.nil
  | p::r,h=>by
    simp only[rY,WX,Ys] at h;refine List.nodup_cons.2 ⟨fun hm=>?_,BM h.2⟩;have:r.any (tP p)=true:=XO.2 ⟨p,hm,Ni p⟩;rw[h.1] at this;cases this
def zeroCell:Sh→Value | .int k=>.int k 0 | .bool=>.bool false | .str=>.string ByteArray.empty | .sl _=>.slice none 0 0
def Gm:jO→Value | .one s=>zeroCell s | .many l=>.agg (l.map zeroCell).toArray
mutual
def D9 {H:Type}:DataW H→List Value
  | .lit (.bool b)=>[.bool b]
  | .lit (.int k n)=>[.int k n]
  | .lit (.string l)=>[.string ⟨l.toArray⟩]
  | .agg xs=>IH xs
  | _=>[]
def IH {H:Type}:List (DataW H)→List Value
  | []=>[]
  | x::r=>D9 x++IH r
end
def OC (P:Program) (l:List (String×DataW Unit)) (h:Array Obj):Array Obj :=
  l.foldl (fun h p=>match P.globalNamed p.1 with
    | some g=>h.modify g fun | .cells _ t fz=>.cells (D9 p.2).toArray t fz | o=>o
    | none=>h) h
def oU (P:Program) (w:World) (fuel:Nat):List String→Option (List (DataW Unit)×List MemPlace)
  | []=>some ([],[])
  | n::r=>match P.globalNamed n with
    | none=>none
    | some g=>match (P.globals[g]?).map (·.type),w.var? P n with
      | some t,some cs=>match DataW.trod (fun _=>()) P w 0 (fun _=>true) false fuel t cs.toList,oU P w fuel r with
        | some (d,p),some (ds,q)=>some (d::ds,MemPlace.row ⟨g,0,none⟩ cs.size++p++q)
        | _,_=>none
      | _,_=>none
def Ea (w:World):MemPlace→Bool
  | .cell b off=>(match w.heap[b]? with | some (.cells _ _ fz)=>fz==(0,0) | _=>false)&&(match w.cell? ⟨b,off,none⟩ with | some (.iface _ _)=>false | _=>true)
  | .map _=>true
theorem Al {P:Program} {w:World} {fuel:Nat}:∀ {l:List (String×DataW Unit)} {ps:List MemPlace},oU P w fuel (l.map (·.1))=some (l.map (·.2),ps)→DataW.LaidVars P w l ps
  | [],ps,h=>by cases h; rfl
  | (n,d)::r,ps,h=>by
    simp only[WH,oU] at h;split at h
    ·cases h
    ·rename_i g hg;split at h
     ·rename_i t cs ht hcs;split at h
      ·rename_i d' p ds q htr hr;simp only[WC,Yp,List.cons.injEq] at h;obtain⟨⟨rfl,rfl⟩,rfl⟩:=h;exact⟨g,t,cs,fuel,p,q,hg,ht,hcs,htr,Al hr,rfl⟩
      ·cases h
     ·cases h
theorem Ml {P:Program} {w:World} {l:List (String×DataW Unit)} (fuel:Nat) (ps:List MemPlace) (h:oU P w fuel (l.map (·.1))=some (l.map (·.2),ps)) (hn:rY ps=true) (hf:ps.all (Ea w)=true):laidMet P l w:=by
  refine⟨ps,Al h,BM hn,fun b off hm=>?_⟩;have:=WU.1 hf _ hm;simp only[Ea,WX] at this;obtain⟨h1,h2⟩:=this;constructor
  ·split at h1
   ·rename_i c t fz hc;have:fz=(0,0):=by simpa using h1
    subst this;exact⟨c,t,hc⟩
   ·cases h1
  ·intro u v hc;rw[hc] at h2;cases h2
theorem LU {P:Program} {ts:List TypeId} (h:(ts.all fun t=>P.readableRec t&&decide (t<P.types.size))=true):∀ t∈ts,P.readableRec t=true∧t<P.types.size:=by
  intro t ht;have:=WU.1 h t ht
  simpa using this
theorem Nj {P:Program} {ps:Array TypeId} (h:(ps.toList.all fun t=>!P.wantsStandIn t)=true):∀ (j:Nat) t,ps[j]?=some t→P.wantsStandIn t=false:=by
  intro j t ht;have hm:t∈ps.toList:=by
    obtain⟨hj,rfl⟩:=WN.1 ht;simp
  simpa using WU.1 h t hm
theorem qz {α β:Type} {R:α→β→Prop} {xs:List α} {y:β} {ys:List β} (h:ai R xs (y::ys)):∃ x r,xs=x::r∧R x y∧ai R r ys:=by
  cases h with
  | cons a b=>exact⟨_,_,rfl,a,b⟩
theorem OD {α β:Type} {R:α→β→Prop} {xs:List α} (h:ai R xs []):xs=[]:=by cases h; rfl
theorem II {k:IntKind} {x:D} (h:dO (.int k) x):∃ n,x=.int k n∧k.min≤n∧n≤k.max:=by
  cases x <;> simp only[dO] at h;obtain⟨rfl,h⟩:=h;exact⟨_,rfl,h⟩
theorem IJ {x:D} (h:dO (.int .i64) x):∃ n:Int,x=.int .i64 n∧-9223372036854775808≤n∧n≤9223372036854775807:=II h
theorem Ve {x:D} (h:dO (.int .u8) x):∃ n:UInt8,x=bD n:=by
  obtain⟨n,rfl,h1,h2⟩:=II h;have h1:0≤n:=h1;have h2:n≤255:=h2;refine⟨UInt8.ofNat n.toNat,?_⟩;unfold bD;rw[UInt8.toNat_ofNat_of_lt' (by simp only[UInt8.size]; omega)]
  congr 1; omega
theorem Qt {x:D} (h:dO .bool x):∃ b,x=.bool b:=by
  cases x <;> simp only[dO] at h;exact⟨_,rfl⟩
theorem IK {α:Type} (f:α→D) {P:D→Prop} (inv:∀ x,P x→∃ a,x=f a):∀ {es:List D},(∀ e∈es,P e)→∃ l:List α,es=l.map f
  | [],_=>⟨[],rfl⟩
  | e::es,h=>by
    obtain⟨a,rfl⟩:=inv e (h e (by simp));obtain⟨l,rfl⟩:=IK f inv (es:=es) fun e he=>h e (by simp[he])
    exact⟨a::l,rfl⟩
theorem IL {α:Type} (f:α→D) {s:Sh} (inv:∀ x,dO s x→∃ a,x=f a) {x:D} (h:dO (.sl [s]) x):∃ l:List α,x=.sl (l.map f)∧l.length≤maxLen:=by
  cases x <;> simp only[dO] at h;obtain⟨h1,h2⟩:=h;obtain⟨l,rfl⟩:=IK f (P:=fun e=>e.one=true∧fF [s] e.cells) (fun e ⟨a,b⟩=>by
    rw[D.one_cells a] at b;exact inv e b.1) (fun e he=>⟨(h2 e he).1 rfl,(h2 e he).2.2⟩)
  exact⟨l,rfl,by simpa using h1⟩
theorem Eb {x:D} (h:dO (.sl [.int .u8]) x):∃ l:List UInt8,x=.sl (l.map bD)∧l.length≤maxLen:=IL bD (fun _=>Ve) h
theorem vL {s:Sh} {l:List Sh} {cs:List D} (h:fF (s::l) cs):∃ x r,cs=x::r∧dO s x∧fF l r:=by
  cases cs with
  | nil=>simp only[fF] at h
  | cons x r=>simp only[fF] at h; exact⟨x,r,rfl,h⟩
theorem Qu {cs:List D} (h:fF [] cs):cs=[]:=by
  cases cs with
  | nil=>rfl
  | cons x r=>simp only[fF] at h
end Go.Proofs.YtlghfnidknfakaaGreatDoor
namespace Go.Proofs.YtlghfnidknfakaaGreatDoor
open Go.RowKit
section
variable {P:Program} {G:ah} {H:Hint}
def D.up:D→W
  | .ref cs=>.c (.rp cs)
  | x=>.c (.d x)
end
end Go.Proofs.YtlghfnidknfakaaGreatDoor
