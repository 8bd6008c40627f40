/- Texts of one's own, merged: from: The plain logic (21): a law's frame: what reads as data in the model's words reads as data in mine; package-level variables; behind the call. Own work. -/
import Derived.ProofKit
import Derived.ChangeOld
import Derived.Handed
import Derived.Carry
import Derived.ChangeBears2
import GoSem.ClaimSeven
import Derived.Test.YteohdchecapkfaaMg47
set_option linter.unusedVariables false
set_option linter.unusedSimpArgs false
namespace Go.Proofs.Yteohdchecapkfaa
open Go.RowKit Go.ChangeShapes
inductive Sh where
  | int (k:IntKind) | bool | str | sl (e:List Sh)
mutual
def cG:Sh→D→Prop
  | .int k,.int k' n=>k'=k∧k.min≤n∧n≤k.max
  | .bool,.bool _=>True
  | .str,.str s=>s.size≤maxLen
  | .sl l,.sl es=>es.length≤maxLen∧∀ e∈es,(l.length=1→e.one=true)∧(l.length≠1→e=.agg e.cells)∧d8 l e.cells
  | _,_=>False
def d8:List Sh→List D→Prop
  | [],[]=>True
  | s::r,d::ds=>cG s d∧d8 r ds
  | _,_=>False
end
theorem gH:∀ {l:List Sh} {ds:List D},d8 l ds↔ab (fun d s=>cG s d) ds l
  | [],[]=>by simp only[d8]; exact⟨fun _=>.nil,fun _=>trivial⟩
  | [],_::_=>by simp only[d8]; exact⟨fun h=>h.elim,fun h=>by cases h⟩
  | _::_,[]=>by simp only[d8]; exact⟨fun h=>h.elim,fun h=>by cases h⟩
  | s::r,d::ds=>by
    simp only[d8];exact⟨fun h=>.cons h.1 (gH.1 h.2),fun h=>by cases h with | cons a b=>exact⟨a,gH.2 b⟩⟩
def dY:List D→D
  | [x]=>x
  | l=>.agg l
theorem v8 {l:List D} (h:∀ x∈l,x.cells=[x]):(dY l).cells=l:=by
  match l,h with
  | [],_=>rfl
  | [x],h=>exact h x (by simp)
  | x::y::r,_=>rfl
theorem uJ {x:D} (h:x.cells=[x]):x.one=true:=by
  cases x <;> simp[D.one];rename_i cs;have h:cs=[D.agg cs]:=h;have h2:SizeOf.sizeOf cs=SizeOf.sizeOf [D.agg cs]:=congrArg SizeOf.sizeOf h;simp at h2;omega
theorem xB {l:List D} (h:∀ x∈l,x.cells=[x]) (h1:l.length=1):(dY l).one=true:=by
  match l,h,h1 with
  | [x],h,_=>exact uJ (h x (by simp))
theorem xC {l:List D} (h1:l.length≠1):dY l=.agg l:=by
  match l,h1 with
  | [],_=>rfl
  | [x],h=>simp at h
  | x::y::r,_=>rfl
def hZ (P:Program) (sh:TypeId→Option (List Sh)):List Field→Nat→Option (List Sh)
  | [],_=>some []
  | f::r,off=>if f.offset=off then match sh f.type with
    | some l=>if l.length=P.cellsOf f.type then (hZ P sh r (off+l.length)).map (l++·) else none
    | none=>none else none
def di (P:Program):Nat→TypeId→Option (List Sh)
  | 0,_=>none
  | n+1,t=>match P.underlying t with
    | some .bool=>some [.bool]
    | some (.int k)=>some [.int k]
    | some .string=>some [.str]
    | some (.slice e)=>match di P n e with | some l=>if l.length=P.cellsOf e then some [.sl l] else none | none=>none
    | some (.struct fs)=>match hZ P (di P n) fs.toList 0 with | some l=>if l.length=P.cellsOf t then some l else none | none=>none
    | some (.array k e)=>match di P n e with | some l=>if l.length=P.cellsOf e∧P.cellsOf t=k*P.cellsOf e then some ((List.replicate k l).flatten) else none | none=>none
    | _=>none
section
variable {H:Type}
mutual
def aW:DataW H→List D
  | .lit (.bool b)=>[.bool b]
  | .lit (.int k n)=>[.int k n]
  | .lit (.string l)=>[.str ⟨l.toArray⟩]
  | .nil=>[.sl []]
  | .slice es _=>[.sl (d5 es)]
  | .agg xs=>gl xs
  | _=>[]
def gl:List (DataW H)→List D
  | []=>[]
  | x::r=>aW x++gl r
def d5:List (DataW H)→List D
  | []=>[]
  | x::r=>dY (aW x)::d5 r
end
theorem jC:∀ l:List (DataW H),gl l=l.flatMap aW
  | []=>by simp[gl]
  | x::r=>by simp[gl,jC r]
theorem mB:∀ l:List (DataW H),d5 l=l.map fun x=>dY (aW x)
  | []=>by simp[d5]
  | x::r=>by simp[d5,mB r]
end
theorem mapM_some {α β:Type} {f:α→Option β}:∀ {l:List α} {r:List β},l.mapM f=some r→r.length=l.length∧∀ i (h:i<l.length) (h2:i<r.length),f l[i]=some r[i]
  | [],r,h=>by simp at h; subst h; simp
  | x::l,r,h=>by
    simp only[List.mapM_cons,Option.bind_eq_bind,zl,Option.pure_def,yY] at h;obtain⟨y,hy,ys,hys,rfl⟩:=h;obtain⟨h1,h2⟩:=mapM_some hys;refine⟨by simp[h1],fun i hi hi2=>?_⟩;cases i with
    | zero=>exact hy
    | succ i=>exact h2 i (by simpa using hi) (by simpa using hi2)
theorem wX {w:World} {a:Addr} {v:Value} (h:w.cell? a=some v):a.block<w.heap.size:=by
  rcases zP a.block w.heap.size with h' | h'
  ·exact h'
  ·simp[World.cell?,Array.getElem?_eq_none h'] at h
theorem yf {w:World} {a:Addr} {n:Nat} {v:Value} (h:w.cell? (a.add n)=some v):w.cell? ⟨a.block,a.off+n,none⟩=some v:=by
  unfold Addr.add at h;split at h
  ·rename_i h0;subst h0;obtain⟨b,o,s⟩:=a;have:=cell_spot h;subst this;exact h
  ·exact h
def cL (w:World):ae:=fun b _=>b<w.heap.size
section
variable {H:Type} {enc:TypeId×Value→H} {P:Program} {w:World} {base:Nat} {spare:Nat→Bool} {held:Bool}
def hC (enc:TypeId×Value→H) (P:Program) (w:World) (base:Nat) (spare:Nat→Bool) (held:Bool) (fuel:Nat) (sh:TypeId→Option (List Sh)):Prop :=
  ∀ t cs x l,DataW.trod enc P w base spare held fuel t cs=some x→sh t=some l→ab (Reads (cL w) w) cs (aW x.1)∧ab (fun d s=>cG s d) (aW x.1) l
theorem sV {fuel:Nat} {sh:TypeId→Option (List Sh)} (ih:hC enc P w base spare held fuel sh) (cs:List Value):∀ (fs:List Field) (off:Nat) (xs:List (DataW H×List MemPlace)) (l:List Sh),
    (fs.mapM fun f=>DataW.trod enc P w base spare held fuel f.type ((cs.drop f.offset).take (P.cellsOf f.type)))=some xs→hZ P sh fs off=some l →
    ab (Reads (cL w) w) ((cs.drop off).take l.length) (xs.flatMap fun x=>aW x.1)∧ab (fun d s=>cG s d) (xs.flatMap fun x=>aW x.1) l
  | [],off,xs,l,h1,h2=>by
    simp at h1; subst h1
    cases h2;exact⟨by simpa using ab.nil,.nil⟩
  | f::r,off,xs,l,h1,h2=>by
    simp only[List.mapM_cons,Option.bind_eq_bind,zl,Option.pure_def,yY] at h1;obtain⟨y,hy,ys,hys,rfl⟩:=h1;simp only[hZ] at h2;split at h2
    ·rename_i hoff;split at h2
     ·rename_i l1 hl1;split at h2
      ·rename_i hlen;obtain⟨l2,hl2,rfl⟩:=yX.1 h2;obtain⟨a1,a2⟩:=ih _ _ _ _ hy hl1;obtain⟨b1,b2⟩:=sV ih cs r _ ys l2 hys hl2;rw[y4,zt,List.take_add,List.drop_drop];refine⟨ab.append ?_ b1,a2.append b2⟩;rw[hoff,← hlen] at a1;exact a1
      ·cases h2
     ·cases h2
    ·cases h2
theorem yg {fuel:Nat} {sh:TypeId→Option (List Sh)} (ih:hC enc P w base spare held fuel sh) (cs:List Value) (e:TypeId) (l:List Sh) (hl:sh e=some l) (hlen:l.length=P.cellsOf e) (n:Nat) (xs:List (DataW H×List MemPlace))
    (h:((List.range n).mapM fun i=>DataW.trod enc P w base spare held fuel e ((cs.drop (i*P.cellsOf e)).take (P.cellsOf e)))=some xs) :
    xs.length=n∧(∀ i (hi:i<xs.length),ab (Reads (cL w) w) ((cs.drop (i*P.cellsOf e)).take (P.cellsOf e)) (aW xs[i].1)∧ab (fun d s=>cG s d) (aW xs[i].1) l) ∧
    ∀ m,m≤n→ab (Reads (cL w) w) (cs.take (m*P.cellsOf e)) ((xs.take m).flatMap fun x=>aW x.1)∧ab (fun d s=>cG s d) ((xs.take m).flatMap fun x=>aW x.1) (List.replicate m l).flatten:=by
  obtain⟨h1,h2⟩:=mapM_some h;rw[List.length_range] at h1;have each:∀ i (hi:i<xs.length),ab (Reads (cL w) w) ((cs.drop (i*P.cellsOf e)).take (P.cellsOf e)) (aW xs[i].1)∧ab (fun d s=>cG s d) (aW xs[i].1) l:=by
    intro i hi;have:=h2 i (by simp; omega) hi;rw[zT] at this;exact ih _ _ _ _ this hl
  refine⟨h1,each,fun m=>?_⟩
  induction m with
  | zero=>intro _; simp; exact⟨.nil,.nil⟩
  | succ m ihm =>
    intro hm;obtain⟨a1,a2⟩:=ihm (by omega);have hlt:m<xs.length:=by omega
    obtain⟨b1,b2⟩:=each m hlt;rw[List.take_succ_eq_append_getElem hlt,zO,y4,List.flatMap_nil,List.append_nil,List.replicate_succ',List.flatten_append,Nat.succ_mul,List.take_add];refine⟨a1.append b1,a2.append ?_⟩
    simpa using b2
theorem Reads.cells_one {S:ae}:∀ {cs:List Value} {l:List D},ab (Reads S w) cs l→∀ x∈l,x.cells=[x]
  | _,_,.nil,x,hx=>by cases hx
  | _,_,.cons h r,x,hx=>by
    rcases zs.1 hx with rfl | hx
    ·exact h.cellsOf
    ·exact Reads.cells_one r x hx
theorem qq:∀ fuel n,hC enc P w base spare held fuel (di P n)
  | 0,_,_,_,_,_,h,_=>by simp[DataW.trod] at h
  | _+1,0,_,_,_,_,_,h=>by cases h
  | fuel+1,n+1,t,cs,x,l,h,hl=>by
    have ih:∀ m,hC enc P w base spare held fuel (di P m):=fun m=>qq fuel m
    simp only[di] at hl;split at hl
    ·rename_i hu;cases hl;simp only[DataW.trod,hu] at h;split at h <;> first | (cases h; done) | (rename_i hx; cases hx; done) | skip
     cases h;exact⟨.cons (.bool _) .nil,.cons trivial .nil⟩
    ·rename_i k hu;cases hl;simp only[DataW.trod,hu] at h;split at h <;> first | (cases h; done) | (rename_i hx; cases hx; done) | skip
     rename_i hx;cases hx;split at h
     ·rename_i hk;obtain⟨rfl,hwf⟩:=hk;cases h;simp only[Lit.wf,zi,decide_eq_true_eq] at hwf;exact⟨.cons (.int _ _) .nil,.cons ⟨rfl,hwf⟩ .nil⟩
     ·cases h
    ·rename_i hu;cases hl;simp only[DataW.trod,hu] at h;split at h <;> first | (cases h; done) | (rename_i hx; cases hx; done) | skip
     split at h
     ·rename_i hs;cases h;exact⟨.cons (.str _) .nil,.cons hs .nil⟩
     ·cases h
    ·rename_i e hu;split at hl
     ·rename_i l1 hl1;split at hl
      ·rename_i hlen;cases hl;simp only[DataW.trod,hu] at h;split at h <;> first | (cases h; done) | (rename_i hx; cases hx; done) | skip
       ·cases h;exact⟨.cons .nil .nil,.cons ⟨z0 _,fun e he=>by cases he⟩ .nil⟩
       ·rename_i a len cap hx;cases hx;split at h
        ·rename_i hb;simp only[zl] at h;obtain⟨elems,hel,h⟩:=h;obtain⟨rest,_,rfl⟩:=yX.1 h;obtain⟨g1,g2⟩:=mapM_some hel;rw[List.length_range] at g1;have each:∀ i (hi:i<elems.length),∃ us,w.cells? base (a.add (i*P.cellsOf e)) (P.cellsOf e)=some us∧ab (Reads (cL w) w) us (aW elems[i].1)∧ab (fun d s=>cG s d) (aW elems[i].1) l1:=by
           intro i hi;have:=g2 i (by simp; omega) hi;rw[zT] at this;obtain⟨us,q1,q2⟩:=zl.1 this;exact⟨us,q1,ih _ _ _ _ _ q2 hl1⟩
         have hD:d5 (elems.map (·.1))=elems.map fun x=>dY (aW x.1):=by rw[mB,List.map_map]; rfl
         have hcells:∀ i (hi:i<elems.length),(dY (aW elems[i].1)).cells=aW elems[i].1:=fun i hi=>by
           obtain⟨us,_,q2,_⟩:=each i hi;exact v8 (Reads.cells_one q2)
         have hrow:bB (cL w) w a (P.cellsOf e) (elems.map fun x=>dY (aW x.1)):=by
           intro i hi;rw[zq] at hi;obtain⟨us,q1,q2,q3⟩:=each i hi;rw[zk,hcells i hi];have hlen2:(aW elems[i].1).length=P.cellsOf e:=by rw[q3.length,hlen]
           refine⟨hlen2,fun j hj=>?_⟩;have hj2:j<us.length:=by rw[q2.length]; exact hj
           unfold World.cells? at q1;split at q1
           ·obtain⟨r1,r2⟩:=mapM_some q1;rw[List.length_range] at r1;have r3:=r2 j (by simp; omega) hj2;rw[zT] at r3;have r4:=yf r3;have e1:(a.add (i*P.cellsOf e)).block=a.block:=by unfold Addr.add; split <;> rfl
            have e2:(a.add (i*P.cellsOf e)).off=a.off+i*P.cellsOf e:=by unfold Addr.add; split <;> (rename_i h0; simp[h0])
            rw[e1,e2] at r4;have hsp:a.spot=none∨i*P.cellsOf e+j≠0:=by
              by_cases h0:i*P.cellsOf e+j=0
              ·have hi0:i*P.cellsOf e=0:=by omega
               have hj0:j=0:=by omega
               subst hj0;rw[hi0] at r3;exact .inl (cell_spot (b:=a.block) (i:=a.off) (s:=a.spot) (by simpa [Addr.add] using r3))
              ·exact .inr h0
            have r5:=wX r4;refine⟨us[j],r5,?_,q2.get j hj2 hj⟩
            show w.cell? ⟨a.block,a.off+i*P.cellsOf e+j,a.spot⟩=_
            rcases hsp with hsp | hsp
            ·rw[hsp]; exact r4
            ·cases hs:a.spot with
             | none=>exact r4
             | some s =>
               exfalso;have h00:=each 0 (by omega);obtain⟨us0,p1,p2,p3⟩:=h00;have hl0:us0.length=P.cellsOf e:=by rw[p2.length,p3.length,hlen]
               unfold World.cells? at p1;split at p1
               ·obtain⟨s1,s2⟩:=mapM_some p1;have s3:=s2 0 (by simp; omega) (by omega);rw[zT] at s3;have:=cell_spot (b:=a.block) (i:=a.off) (s:=a.spot) (by simpa [Addr.add] using s3);rw[hs] at this;cases this
               ·cases p1
           ·cases q1
         have hlen3:(elems.map fun x=>dY (aW x.1)).length=len:=by rw[zq]; omega
         have hR:=Reads.of_row hrow (cap:=cap) (by omega) (by omega);rw[hlen3] at hR;refine⟨?_,?_⟩
         ·show ab _ _ [D.sl (d5 (elems.map (·.1)))]
          rw[hD];exact .cons hR .nil
         ·show ab _ [D.sl (d5 (elems.map (·.1)))] _
          rw[hD];refine .cons ⟨by omega,fun d hd=>?_⟩ .nil;obtain⟨y,hy,rfl⟩:=za.1 hd;obtain⟨i,hi,rfl⟩:=zr hy;obtain⟨us,q1,q2,q3⟩:=each i hi;refine⟨fun h1=>xB (Reads.cells_one q2) (by rw[q3.length]; exact h1),fun h1=>?_,?_⟩
          ·rw[hcells i hi];exact xC (by rw[q3.length]; exact h1)
          ·rw[hcells i hi];exact gH.2 q3
        ·cases h
      ·cases hl
     ·cases hl
    ·rename_i fs hu;split at hl
     ·rename_i l1 hl1;split at hl
      ·rename_i hlen;cases hl;simp only[DataW.trod,hu] at h;split at h
       ·rename_i hc;obtain⟨xs,hxs,rfl⟩:=yX.1 h;obtain⟨a1,a2⟩:=sV (ih n) cs fs.toList 0 xs l hxs hl1;have e1:aW (DataW.agg (xs.map (·.1)))=xs.flatMap fun x=>aW x.1:=by
          simp only[aW,jC,List.flatMap_map]
        rw[List.drop_zero,zQ (by omega)] at a1;simp only[e1];exact⟨a1,a2⟩
       ·cases h
      ·cases hl
     ·cases hl
    ·rename_i k e hu;split at hl
     ·rename_i l1 hl1;split at hl
      ·rename_i hlen;cases hl;simp only[DataW.trod,hu] at h;split at h
       ·rename_i hc;obtain⟨xs,hxs,rfl⟩:=yX.1 h;obtain⟨a0,_,a1⟩:=yg (ih n) cs e l1 hl1 hlen.1 k xs hxs;obtain⟨a1,a2⟩:=a1 k (y8 _);have e1:aW (DataW.agg (xs.map (·.1)))=xs.flatMap fun x=>aW x.1:=by
          simp only[aW,jC,List.flatMap_map]
        rw[zQ (by omega)] at a1 a2;simp only[e1];rw[zQ (by omega)] at a1;exact⟨a1,a2⟩
       ·cases h
      ·cases hl
     ·cases hl
    ·cases hl
end
inductive dK where
  | one (s:Sh) | many (l:List Sh)
def sW (P:Program) (t:TypeId):Bool:=match P.underlying t with | some (.struct _) | some (.array _ _)=>true | _=>false
def gd (P:Program) (t:TypeId):Option dK :=
  if sW P t then (di P 50 t).map .many else match di P 50 t with | some [s]=>some (.one s) | _=>none
def fe:D→dK→Prop
  | x,.one s=>cG s x
  | .agg cs,.many l=>d8 l cs
  | _,.many _=>False
section
variable {H:Type} {enc:TypeId×Value→H} {P:Program} {w:World} {base:Nat} {spare:Nat→Bool} {held:Bool}
theorem yh {t:TypeId} {s:dK} (hs:gd P t=some s) {v:Value} {b0:Nat} (hv:Value.okWide P w .any b0 t v) {d:DataW H} {ps:List MemPlace} (h:DataW.Trod enc P w base spare held t v d ps) :
    ∃ x,RW (fun _=>none) (cL w) w v (.c (.d x))∧fe x s:=by
  obtain⟨fuel,h⟩:=h;unfold gd sW at hs;unfold Value.okWide at hv;have key:∀ l,di P 50 t=some l→ab (Reads (cL w) w) v.cells.toList (aW d)∧ab (fun d s=>cG s d) (aW d) l:=fun l hl=>qq fuel 50 t _ _ _ h hl
  have agg:(∃ cs,v=.agg cs)→(di P 50 t).map dK.many=some s→∃ x,RW (fun _=>none) (cL w) w v (.c (.d x))∧fe x s:=by
    rintro⟨cs,rfl⟩ hs;obtain⟨l,hl,rfl⟩:=yX.1 hs;obtain⟨k1,k2⟩:=key l hl;exact⟨.agg (aW d),⟨cs.toList,by simp,k1⟩,gH.2 k2⟩
  have plain:(∀ cs,v≠.agg cs)→(match di P 50 t with | some [s]=>some (dK.one s) | _=>none)=some s→∃ x,RW (fun _=>none) (cL w) w v (.c (.d x))∧fe x s:=by
    intro hne hs;split at hs
    ·rename_i s1 hl;cases hs;obtain⟨k1,k2⟩:=key _ hl;have hc:v.cells.toList=[v]:=by cases v <;> first | rfl | (exact absurd rfl (hne _))
     rw[hc] at k1;generalize aW d=ds at k1 k2;cases k1 with
     | cons a b =>
       cases b;cases k2 with
       | cons q _ =>
         refine⟨_,?_,q⟩;exact Reads.rw a
    ·cases hs
  split at hv
  ·rename_i hu;simp only[hu,if_true] at hs;obtain⟨cs,rfl,_⟩:=hv;exact agg ⟨cs,rfl⟩ hs
  ·rename_i hu;simp only[hu,if_true] at hs;obtain⟨cs,rfl,_⟩:=hv;exact agg ⟨cs,rfl⟩ hs
  ·rename_i h1 h2;have hb:(match P.underlying t with | some (.struct _) | some (.array _ _)=>true | _=>false)=false:=by
     split
     ·rename_i hu; exact absurd hu (h1 _)
     ·rename_i hu; exact absurd hu (h2 _ _)
     ·rfl
   rw[hb] at hs;refine plain ?_ hs;rintro cs rfl;unfold Cell.okWide Cell.ok at hv;split at hv <;> first | (rename_i hx; cases hx; done) | skip
   all_goals (split at hv <;> first | (rename_i hx; cases hx; done) | exact hv)
theorem qt:∀ {ts:List TypeId} {ss:List dK} {vs:List Value} {ds:List (DataW H)} {ps:List MemPlace},ar (gd P) ts=some ss →
    (∀ (j:Nat) (t:TypeId) (v:Value),ts[j]?=some t→vs[j]?=some v→∃ b0,Value.okWide P w .any b0 t v)→DataW.TrodAll enc P w base spare held ts vs ds ps →
    ∃ xs,ab (fun v x=>RW (fun _=>none) (cL w) w v (.c (.d x))) vs xs∧ab fe xs ss
  | [],ss,vs,ds,ps,h1,_,h3=>by
    cases h1;cases vs with
    | nil=>exact⟨[],.nil,.nil⟩
    | cons _ _=>cases ds <;> exact h3.elim
  | t::ts,ss,vs,ds,ps,h1,h2,h3=>by
    cases vs with
    | nil=>cases ds <;> exact h3.elim
    | cons v vs =>
      cases ds with
      | nil=>exact h3.elim
      | cons d ds =>
        obtain⟨p,q,a1,a2,_⟩:=h3;simp only[ar] at h1;split at h1
        ·rename_i s l hs hl;cases h1;obtain⟨b0,hv⟩:=h2 0 t v rfl rfl;obtain⟨x,r1,r2⟩:=yh hs hv a1;obtain⟨xs,r3,r4⟩:=qt hl (fun j t v ht hv=>h2 (j+1) t v ht hv) a2;exact⟨x::xs,.cons r1 r3,.cons r2 r4⟩
        ·cases h1
end
section
variable {P:Program} {w:World}
end
section
variable {H:Type} {enc:TypeId×Value→H} {P:Program}
theorem kA (hl:laidOutB P=true) {W W':World} (hb:Below W.heap.size W W'):∀ {ts:List TypeId} {vs:List Value} {ds:List (DataW H)} {ps:List MemPlace},
    (∀ t∈ts,P.readableRec t=true∧t<P.types.size)→DataW.TrodAll enc P W 0 (fun _=>true) true ts vs ds ps→DataW.TrodAll enc P W' 0 (fun b=>decide (b<W.heap.size)) true ts vs ds ps
  | [],[],[],_,_,h=>h
  | [],_::_,_,_,_,h=>by cases ‹List (DataW H)› <;> exact h.elim
  | [],[],_::_,_,_,h=>h.elim
  | _::_,[],ds,_,_,h=>by cases ds <;> exact h.elim
  | _::_,_::_,[],_,_,h=>h.elim
  | t::ts,v::vs,d::ds,ps,hr,h=>by
    obtain⟨p,q,a1,a2,rfl⟩:=h;have hlt:∀ x∈p,x.block<W.heap.size:=by obtain⟨m,hm⟩:=a1; exact DataW.trod_lt m _ _ _ hm
    exact⟨p,q,Below.trod hl (hr t (by simp)).1 (hr t (by simp)).2 a1 hb hlt,kA hl hb (fun t ht=>hr t (by simp[ht])) a2,rfl⟩
theorem gz:∀ {ts:List TypeId} {vs:List Value} {ds:List (DataW H)} {ps:List MemPlace} {w:World} {b:Nat} {sp:Nat→Bool} {he:Bool},DataW.TrodAll enc P w b sp he ts vs ds ps→ds.length=ts.length
  | [],[],[],_,_,_,_,_,_=>rfl
  | [],_::_,ds,_,_,_,_,_,h=>by cases ds <;> exact h.elim
  | [],[],_::_,_,_,_,_,_,h=>h.elim
  | _::_,[],ds,_,_,_,_,_,h=>by cases ds <;> exact h.elim
  | _::_,_::_,[],_,_,_,_,_,h=>h.elim
  | t::ts,v::vs,d::ds,_,_,_,_,_,h=>by
    obtain⟨p,q,a1,a2,_⟩:=h;simp[gz a2]
theorem v9 {f:FuncId} {fn:Func} {s:ChangeSpec} {ts:List TypeId} {ss:List dK} {tb:TypeId} (hts:fn.params.toList=ts) (hss:ar (gd P) ts=some ss) (hvars:s.vars=[])
    (hlay:laidOutB P=true) (hread:∀ t∈ts,P.readableRec t=true∧t<P.types.size) (hres:fn.resultTypes=#[tb]) (htb:P.underlying tb=some .bool)
    (hspec:∀ ds:List (DataW H),ds.length=ts.length→s.fn H ds={ results:=[.lit (.bool true)],args:=ds }) {G:au}
    (den:∀ xs,ab fe xs ss→a7 P G f xs (.w (.c (.d (.bool true)))))
    {W:World} {base:Nat} {args:Array Value} {ds gs:List (DataW H)} {before:List MemPlace}
    (hval:∀ (j:Nat) t v,fn.params[j]?=some t→args[j]?=some v→Value.okWide P W .any base t v) (hW:DataW.Whole enc P fn.params.toList s.vars false W args.toList ds gs before) (hG:dr G (cL W) W) :
    Calls P f args W fun e W'=>∃ v,e=.returned v∧s.post enc P fn false true false false W args v W':=by
  have hW':=hW;obtain⟨p,q,hA,hV,rfl,hfz,hnd⟩:=hW;rw[hts] at hA;obtain⟨xs,h1,h2⟩:=qt hss (fun j t v ht hv=>⟨base,hval j t v (by rw[← ht,← hts]; simp) (by rw[← hv]; simp)⟩) hA;have hg:gs=[]∧q=[]:=by
    rw[hvars] at hV;cases gs with
    | nil=>exact⟨rfl,hV⟩
    | cons _ _=>exact hV.elim
  obtain⟨rfl,rfl⟩:=hg;have hd:=den xs h2 W (cL W) args.toList (fun b i h=>h) hG h1;refine hd.mono ?_;rintro e W' ⟨v,S',bl,rfl,hb,_,_,hr⟩;have hv:v=.bool true:=by
    have:cp S' W' W.heap.size v (.d (.bool true)) bl:=hr;obtain⟨a,_⟩:=this;cases a;rfl
  subst hv;refine⟨_,rfl,ds,[],p++[],[],p,[],hW',?_,?_,?_,hb.frame _,fun h=>by cases h⟩
  ·rw[hres,List.append_nil,hspec ds (gz hA)];exact trodAll_mk1 (shut_bool htb _)
  ·rw[hts,List.append_nil,hspec ds (gz hA)];exact kA hlay hb hread hA
  ·rw[List.append_nil,hspec ds (gz hA),hvars];rfl
end
def zeroCell:Sh→Value | .int k=>.int k 0 | .bool=>.bool false | .str=>.string ByteArray.empty | .sl _=>.slice none 0 0
def xD:dK→Value | .one s=>zeroCell s | .many l=>.agg (l.map zeroCell).toArray
theorem uQ {P:Program} {ts:List TypeId} (h:(ts.all fun t=>P.readableRec t&&decide (t<P.types.size))=true):∀ t∈ts,P.readableRec t=true∧t<P.types.size:=by
  intro t ht;have:=zf.1 h t ht
  simpa using this
theorem mC {α β:Type} {R:α→β→Prop} {xs:List α} {y:β} {ys:List β} (h:ab R xs (y::ys)):∃ x r,xs=x::r∧R x y∧ab R r ys:=by
  cases h with
  | cons a b=>exact⟨_,_,rfl,a,b⟩
theorem wY {α β:Type} {R:α→β→Prop} {xs:List α} (h:ab R xs []):xs=[]:=by cases h; rfl
theorem sX {k:IntKind} {x:D} (h:cG (.int k) x):∃ n,x=.int k n∧k.min≤n∧n≤k.max:=by
  cases x <;> simp only[cG] at h;obtain⟨rfl,h⟩:=h;exact⟨_,rfl,h⟩
theorem yi {x:D} (h:cG (.int .u64) x):∃ n:Nat,x=.int .u64 (n:Int)∧n<18446744073709551616:=by
  obtain⟨n,rfl,h1,h2⟩:=sX h;have h1:0≤n:=h1;have h2:n≤18446744073709551615:=h2;obtain⟨m,rfl⟩:=Int.eq_ofNat_of_zero_le h1;exact⟨m,rfl,by omega⟩
theorem yG {x:D} (h:cG (.int .u8) x):∃ n:UInt8,x=bD n:=by
  obtain⟨n,rfl,h1,h2⟩:=sX h;have h1:0≤n:=h1;have h2:n≤255:=h2;refine⟨UInt8.ofNat n.toNat,?_⟩;unfold bD;rw[UInt8.toNat_ofNat_of_lt' (by simp only[UInt8.size]; omega)]
  congr 1; omega
end Go.Proofs.Yteohdchecapkfaa
namespace Go.Proofs.Yteohdchecapkfaa
open Go.RowKit
section
variable {P:Program} {G:au} {H:Hint}
def eE (args:List W):St:=⟨fun t=>match args[t]? with | some x=>.w x | none=>.undef,fun _=>none,fun _=>false⟩
theorem xE {f:FuncId} {fn:Func} {sf:bF} (hf:P.funcs[f]?=some fn) (hc:bq P H fn=some sf) {args:List W} {res:V} (hp:∀ x∈args,x.ids=[]) (hlen:args.length=sf.np)
    (e:aI P G sf.body (gg sf.res res) (eE args)):jY P G f args res:=by
  have e:aI P G sf.body (fun ax σ=>match ax with | .nrm=>bY σ sf.res res | .ret=>bY σ sf.res res | .ex _=>False) (eE args):=e;unfold bq at hc;split at hc
  ·rename_i c hb;split at hc
   ·rename_i body rs hbody hres;split at hc
    ·rename_i hnp;cases hc;intro w S vs hS hG hargs;refine (callsIn_wide (n:=3)).1 (callsIn_of_wp_marks (F:=Fence.wide) hf hb trivial ?_);have hvl:vs.length=args.length:=hargs.length;have hnp':vs.length≤fn.ntmps:=by simp only at hlen; omega
     have hsize:(vs.toArray++Array.replicate (fn.ntmps-vs.toArray.size) undef).size=fn.ntmps:=by simp; omega
     have hinv:Inv G fn.ntmps S (Gh.of w) (eE args) { tmps:=vs.toArray++Array.replicate (fn.ntmps-vs.toArray.size) undef,defers:=[] } w S (fun _=>none):=by
       refine⟨hsize,trivial,fun t=>?_,fun t i hi=>?_,fun id o ho=>(by cases ho),fun i j b s s' h1=>absurd rfl h1,fun b i hs=>⟨hS b i hs,.inl hs⟩,fun _ _ h=>h,hG,aJ.refl _ _ _,aY.refl _,aw.refl _ _,fun _ _ h=>h.elim,fun t v h=>by cases h⟩
       ·simp only[eE];cases ht:args[t]? with
        | none=>trivial
        | some x =>
          obtain⟨v,h1,h2⟩:=hargs.get? ht;have hlt:=(y6.1 h1).1;have:(vs.toArray++Array.replicate (fn.ntmps-vs.toArray.size) undef).getD t undef=v:=by
            rw[zo,Array.getElem?_append_left (by simpa using hlt)];simp[h1]
          rw[this];exact h2
       ·simp only[eE] at hi;split at hi
        ·rename_i x hx;have:=hp x (zK hx);have hi:i∈x.ids:=hi;rw[this] at hi;cases hi
        ·cases hi
     refine c8 c hbody (r:=none) (fun _=>rfl) (fun t _=>rfl) ?_ hinv e;intro ax σ a w1 S1 m q h;have key:bY σ rs res→LeavesInM Fence.wide 3 P fn a.tmps (fun e w'=>∃ v S' bl,e=.returned v∧Below w.heap.size w w'∧(∀ b i,S' b i→(S b i∨w.heap.size≤b)∧b<w'.heap.size)∧bl.Nodup∧cP S' w' w.heap.size v res bl) a.defers .returning w1:=by
       rintro⟨ws,hws,hex⟩;refine iM h (y8 _) h.defers fun w2 a' e2 h=>?_
       rw[← e2];obtain⟨us,h1,h2,h3⟩:=jy h hres hws;obtain⟨S',bl,k1,k2,k3⟩:=rA h (fun _ hx=>hx) h2 hex;have hbel:Below w.heap.size w w2:=h.below.below fun _ _ hx=>hx
       refine⟨eI us,?_,_,S',bl,rfl,hbel,k1,k2,k3⟩;rw[kP];simp[Array.mapM_eq_mapM_toList,h1,eI]
     cases ax with
     | nrm=>exact key q
     | ret=>exact key q
     | ex _=>exact q.elim
    ·cases hc
   ·cases hc
  ·cases hc
def ee:Nat→List W→(Nat→V)→Nat→V
  | _,[],f=>f
  | i,x::r,f=>ee (i+1) r (upd f i (.w x))
theorem oQ:∀ (l:List W) (i:Nat) (f:Nat→V) (t:Nat),ee i l f t=if i≤t then (match l[t-i]? with | some x=>.w x | none=>f t) else f t
  | [],i,f,t=>by simp[ee]
  | x::l,i,f,t=>by
    rw[ee,oQ l (i+1)];by_cases h:i=t
    ·subst h;rw[if_neg (by omega),if_pos (y8 _)];simp[upd]
    ·by_cases h2:i≤t
     ·rw[if_pos (by omega),if_pos h2];have:t-i=(t-(i+1))+1:=by omega
      rw[this,zn];cases l[t-(i+1)]? with
      | some y=>rfl
      | none=>simp[upd,show t≠i from fun e=>h e.symm]
     ·rw[if_neg (by omega),if_neg h2];simp[upd,show t≠i from fun e=>h e.symm]
theorem wa (args:List W):eE args=⟨ee 0 args uf,hN,uN⟩:=by
  unfold eE
  congr 1
  funext t
  rw[oQ];simp only[z0,if_true,Nat.sub_zero];rfl
def D.up:D→W
  | .ref cs=>.c (.rp cs)
  | x=>.c (.d x)
theorem yj (x:D):x.up.ids=[]:=by cases x <;> rfl
theorem yH {S:ae} {w:World} {vs:List Value} {args:List D} (h:ab (fun v x=>RW (fun _=>none) S w v (.c (.d x))) vs args):ab (fun v x=>RW (fun _=>none) S w v x) vs (args.map D.up):=by
  induction h with
  | nil=>exact .nil
  | cons h _ ih =>
    refine .cons ?_ ih;rename_i v x _ _ _;cases x <;> first | exact h | exact Reads.cellsAt h
theorem wb {F:FuncId} {fn:Func} {sf:bF} {H:Hint} (hf:P.funcs[F]?=some fn) (hc:bq P H fn=some sf) {args:List D} {res:V} {f0:Nat→V} (hlen:args.length=sf.np) (h0:ee 0 (args.map D.up) uf=f0)
    (e:aI P G sf.body (gg sf.res res) ⟨f0,hN,uN⟩):a7 P G F args res:=by
  have h:jY P G F (args.map D.up) res:=by
    refine xE hf hc (fun x hx=>?_) (by rw[zq]; exact hlen) ?_
    ·obtain⟨y,_,rfl⟩:=za.1 hx;exact yj y
    ·rw[wa,h0];exact e
  exact fun w S vs hS hG hA=>h w S vs hS hG (yH hA)
end
end Go.Proofs.Yteohdchecapkfaa
