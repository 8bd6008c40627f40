/- Texts of one's own, merged: from: The plain logic (21): a law's frame: what reads as data in the model's words reads as data in mine; package-level variables; behind the call. Own work. -/
import Derived.ProofKit
import Derived.ChangeOld
import Derived.Handed
import Derived.Carry
import Derived.ChangeBears2
import GoSem.ClaimSeven
import Derived.Test.YtjhaklohdflppaaMg17
set_option linter.unusedVariables false
set_option linter.unusedSimpArgs false
namespace Go.Proofs.Ytjhaklohdflppaa
open Go.RowKit Go.ChangeShapes
inductive Sh where
  | int (k:IntKind) | bool | str | sl (e:List Sh)
mutual
def cX:Sh→D→Prop
  | .int k,.int k' n=>k'=k∧k.min≤n∧n≤k.max
  | .bool,.bool _=>True
  | .str,.str s=>s.size≤maxLen
  | .sl l,.sl es=>es.length≤maxLen∧∀ e∈es,(l.length=1→e.one=true)∧(l.length≠1→e=.agg e.cells)∧fC l e.cells
  | _,_=>False
def fC:List Sh→List D→Prop
  | [],[]=>True
  | s::r,d::ds=>cX s d∧fC r ds
  | _,_=>False
end
theorem jw:∀ {l:List Sh} {ds:List D},fC l ds↔aj (fun d s=>cX s d) ds l
  | [],[]=>by simp only[fC]; exact⟨fun _=>.nil,fun _=>trivial⟩
  | [],_::_=>by simp only[fC]; exact⟨fun h=>h.elim,fun h=>by cases h⟩
  | _::_,[]=>by simp only[fC]; exact⟨fun h=>h.elim,fun h=>by cases h⟩
  | s::r,d::ds=>by
    simp only[fC];exact⟨fun h=>.cons h.1 (jw.1 h.2),fun h=>by cases h with | cons a b=>exact⟨a,jw.2 b⟩⟩
def fQ:List D→D
  | [x]=>x
  | l=>.agg l
theorem Aw {l:List D} (h:∀ x∈l,x.cells=[x]):(fQ l).cells=l:=by
  match l,h with
  | [],_=>rfl
  | [x],h=>exact h x (by simp)
  | x::y::r,_=>rfl
theorem za {x:D} (h:x.cells=[x]):x.one=true:=by
  cases x <;> simp[D.one];rename_i cs;have h:cs=[D.agg cs]:=h;have h2:SizeOf.sizeOf cs=SizeOf.sizeOf [D.agg cs]:=congrArg SizeOf.sizeOf h;simp at h2;omega
theorem B2 {l:List D} (h:∀ x∈l,x.cells=[x]) (h1:l.length=1):(fQ l).one=true:=by
  match l,h,h1 with
  | [x],h,_=>exact za (h x (by simp))
theorem B3 {l:List D} (h1:l.length≠1):fQ l=.agg l:=by
  match l,h1 with
  | [],_=>rfl
  | [x],h=>simp at h
  | x::y::r,_=>rfl
def ki (P:Program) (sh:TypeId→Option (List Sh)):List Field→Nat→Option (List Sh)
  | [],_=>some []
  | f::r,off=>if f.offset=off then match sh f.type with
    | some l=>if l.length=P.cellsOf f.type then (ki P sh r (off+l.length)).map (l++·) else none
    | none=>none else none
def eJ (P:Program):Nat→TypeId→Option (List Sh)
  | 0,_=>none
  | n+1,t=>match P.underlying t with
    | some .bool=>some [.bool]
    | some (.int k)=>some [.int k]
    | some .string=>some [.str]
    | some (.slice e)=>match eJ P n e with | some l=>if l.length=P.cellsOf e then some [.sl l] else none | none=>none
    | some (.struct fs)=>match ki P (eJ P n) fs.toList 0 with | some l=>if l.length=P.cellsOf t then some l else none | none=>none
    | some (.array k e)=>match eJ P n e with | some l=>if l.length=P.cellsOf e∧P.cellsOf t=k*P.cellsOf e then some ((List.replicate k l).flatten) else none | none=>none
    | _=>none
section
variable {H:Type}
mutual
def bw:DataW H→List D
  | .lit (.bool b)=>[.bool b]
  | .lit (.int k n)=>[.int k n]
  | .lit (.string l)=>[.str ⟨l.toArray⟩]
  | .nil=>[.sl []]
  | .slice es _=>[.sl (fT es)]
  | .agg xs=>je xs
  | _=>[]
def je:List (DataW H)→List D
  | []=>[]
  | x::r=>bw x++je r
def fT:List (DataW H)→List D
  | []=>[]
  | x::r=>fQ (bw x)::fT r
end
theorem mq:∀ l:List (DataW H),je l=l.flatMap bw
  | []=>by simp[je]
  | x::r=>by simp[je,mq r]
theorem pX:∀ l:List (DataW H),fT l=l.map fun x=>fQ (bw x)
  | []=>by simp[fT]
  | x::r=>by simp[fT,pX r]
end
theorem mapM_some {α β:Type} {f:α→Option β}:∀ {l:List α} {r:List β},l.mapM f=some r→r.length=l.length∧∀ i (h:i<l.length) (h2:i<r.length),f l[i]=some r[i]
  | [],r,h=>by simp at h; subst h; simp
  | x::l,r,h=>by
    simp only[List.mapM_cons,Option.bind_eq_bind,E0,Option.pure_def,Ej] at h;obtain⟨y,hy,ys,hys,rfl⟩:=h;obtain⟨h1,h2⟩:=mapM_some hys;refine⟨by simp[h1],fun i hi hi2=>?_⟩;cases i with
    | zero=>exact hy
    | succ i=>exact h2 i (by simpa using hi) (by simpa using hi2)
theorem Bh {w:World} {a:Addr} {v:Value} (h:w.cell? a=some v):a.block<w.heap.size:=by
  rcases Fg a.block w.heap.size with h' | h'
  ·exact h'
  ·simp[World.cell?,Array.getElem?_eq_none h'] at h
theorem CP {w:World} {a:Addr} {n:Nat} {v:Value} (h:w.cell? (a.add n)=some v):w.cell? ⟨a.block,a.off+n,none⟩=some v:=by
  unfold Addr.add at h;split at h
  ·rename_i h0;subst h0;obtain⟨b,o,s⟩:=a;have:=cell_spot h;subst this;exact h
  ·exact h
def dJ (w:World):al:=fun b _=>b<w.heap.size
section
variable {H:Type} {enc:TypeId×Value→H} {P:Program} {w:World} {base:Nat} {spare:Nat→Bool} {held:Bool}
def jV (enc:TypeId×Value→H) (P:Program) (w:World) (base:Nat) (spare:Nat→Bool) (held:Bool) (fuel:Nat) (sh:TypeId→Option (List Sh)):Prop :=
  ∀ t cs x l,DataW.trod enc P w base spare held fuel t cs=some x→sh t=some l→aj (Reads (dJ w) w) cs (bw x.1)∧aj (fun d s=>cX s d) (bw x.1) l
theorem wP {fuel:Nat} {sh:TypeId→Option (List Sh)} (ih:jV enc P w base spare held fuel sh) (cs:List Value):∀ (fs:List Field) (off:Nat) (xs:List (DataW H×List MemPlace)) (l:List Sh),
    (fs.mapM fun f=>DataW.trod enc P w base spare held fuel f.type ((cs.drop f.offset).take (P.cellsOf f.type)))=some xs→ki P sh fs off=some l →
    aj (Reads (dJ w) w) ((cs.drop off).take l.length) (xs.flatMap fun x=>bw x.1)∧aj (fun d s=>cX s d) (xs.flatMap fun x=>bw x.1) l
  | [],off,xs,l,h1,h2=>by
    simp at h1; subst h1
    cases h2;exact⟨by simpa using aj.nil,.nil⟩
  | f::r,off,xs,l,h1,h2=>by
    simp only[List.mapM_cons,Option.bind_eq_bind,E0,Option.pure_def,Ej] at h1;obtain⟨y,hy,ys,hys,rfl⟩:=h1;simp only[ki] at h2;split at h2
    ·rename_i hoff;split at h2
     ·rename_i l1 hl1;split at h2
      ·rename_i hlen;obtain⟨l2,hl2,rfl⟩:=Ei.1 h2;obtain⟨a1,a2⟩:=ih _ _ _ _ hy hl1;obtain⟨b1,b2⟩:=wP ih cs r _ ys l2 hys hl2;rw[Eo,EN,List.take_add,List.drop_drop];refine⟨aj.append ?_ b1,a2.append b2⟩;rw[hoff,← hlen] at a1;exact a1
      ·cases h2
     ·cases h2
    ·cases h2
theorem CQ {fuel:Nat} {sh:TypeId→Option (List Sh)} (ih:jV enc P w base spare held fuel sh) (cs:List Value) (e:TypeId) (l:List Sh) (hl:sh e=some l) (hlen:l.length=P.cellsOf e) (n:Nat) (xs:List (DataW H×List MemPlace))
    (h:((List.range n).mapM fun i=>DataW.trod enc P w base spare held fuel e ((cs.drop (i*P.cellsOf e)).take (P.cellsOf e)))=some xs) :
    xs.length=n∧(∀ i (hi:i<xs.length),aj (Reads (dJ w) w) ((cs.drop (i*P.cellsOf e)).take (P.cellsOf e)) (bw xs[i].1)∧aj (fun d s=>cX s d) (bw xs[i].1) l) ∧
    ∀ m,m≤n→aj (Reads (dJ w) w) (cs.take (m*P.cellsOf e)) ((xs.take m).flatMap fun x=>bw x.1)∧aj (fun d s=>cX s d) ((xs.take m).flatMap fun x=>bw x.1) (List.replicate m l).flatten:=by
  obtain⟨h1,h2⟩:=mapM_some h;rw[List.length_range] at h1;have each:∀ i (hi:i<xs.length),aj (Reads (dJ w) w) ((cs.drop (i*P.cellsOf e)).take (P.cellsOf e)) (bw xs[i].1)∧aj (fun d s=>cX s d) (bw xs[i].1) l:=by
    intro i hi;have:=h2 i (by simp; omega) hi;rw[Ff] at this;exact ih _ _ _ _ this hl
  refine⟨h1,each,fun m=>?_⟩
  induction m with
  | zero=>intro _; simp; exact⟨.nil,.nil⟩
  | succ m ihm =>
    intro hm;obtain⟨a1,a2⟩:=ihm (by omega);have hlt:m<xs.length:=by omega
    obtain⟨b1,b2⟩:=each m hlt;rw[List.take_succ_eq_append_getElem hlt,Fc,Eo,List.flatMap_nil,List.append_nil,List.replicate_succ',List.flatten_append,Nat.succ_mul,List.take_add];refine⟨a1.append b1,a2.append ?_⟩
    simpa using b2
theorem Reads.cells_one {S:al}:∀ {cs:List Value} {l:List D},aj (Reads S w) cs l→∀ x∈l,x.cells=[x]
  | _,_,.nil,x,hx=>by cases hx
  | _,_,.cons h r,x,hx=>by
    rcases EJ.1 hx with rfl | hx
    ·exact h.cellsOf
    ·exact Reads.cells_one r x hx
theorem ui:∀ fuel n,jV enc P w base spare held fuel (eJ P n)
  | 0,_,_,_,_,_,h,_=>by simp[DataW.trod] at h
  | _+1,0,_,_,_,_,_,h=>by cases h
  | fuel+1,n+1,t,cs,x,l,h,hl=>by
    have ih:∀ m,jV enc P w base spare held fuel (eJ P m):=fun m=>ui fuel m
    simp only[eJ] at hl;split at hl
    ·rename_i hu;cases hl;simp only[DataW.trod,hu] at h;split at h <;> first | (cases h; done) | (rename_i hx; cases hx; done) | skip
     cases h;exact⟨.cons (.bool _) .nil,.cons trivial .nil⟩
    ·rename_i k hu;cases hl;simp only[DataW.trod,hu] at h;split at h <;> first | (cases h; done) | (rename_i hx; cases hx; done) | skip
     rename_i hx;cases hx;split at h
     ·rename_i hk;obtain⟨rfl,hwf⟩:=hk;cases h;simp only[Lit.wf,Ey,decide_eq_true_eq] at hwf;exact⟨.cons (.int _ _) .nil,.cons ⟨rfl,hwf⟩ .nil⟩
     ·cases h
    ·rename_i hu;cases hl;simp only[DataW.trod,hu] at h;split at h <;> first | (cases h; done) | (rename_i hx; cases hx; done) | skip
     split at h
     ·rename_i hs;cases h;exact⟨.cons (.str _) .nil,.cons hs .nil⟩
     ·cases h
    ·rename_i e hu;split at hl
     ·rename_i l1 hl1;split at hl
      ·rename_i hlen;cases hl;simp only[DataW.trod,hu] at h;split at h <;> first | (cases h; done) | (rename_i hx; cases hx; done) | skip
       ·cases h;exact⟨.cons .nil .nil,.cons ⟨E6 _,fun e he=>by cases he⟩ .nil⟩
       ·rename_i a len cap hx;cases hx;split at h
        ·rename_i hb;simp only[E0] at h;obtain⟨elems,hel,h⟩:=h;obtain⟨rest,_,rfl⟩:=Ei.1 h;obtain⟨g1,g2⟩:=mapM_some hel;rw[List.length_range] at g1;have each:∀ i (hi:i<elems.length),∃ us,w.cells? base (a.add (i*P.cellsOf e)) (P.cellsOf e)=some us∧aj (Reads (dJ w) w) us (bw elems[i].1)∧aj (fun d s=>cX s d) (bw elems[i].1) l1:=by
           intro i hi;have:=g2 i (by simp; omega) hi;rw[Ff] at this;obtain⟨us,q1,q2⟩:=E0.1 this;exact⟨us,q1,ih _ _ _ _ _ q2 hl1⟩
         have hD:fT (elems.map (·.1))=elems.map fun x=>fQ (bw x.1):=by rw[pX,List.map_map]; rfl
         have hcells:∀ i (hi:i<elems.length),(fQ (bw elems[i].1)).cells=bw elems[i].1:=fun i hi=>by
           obtain⟨us,_,q2,_⟩:=each i hi;exact Aw (Reads.cells_one q2)
         have hrow:b9 (dJ w) w a (P.cellsOf e) (elems.map fun x=>fQ (bw x.1)):=by
           intro i hi;rw[EK] at hi;obtain⟨us,q1,q2,q3⟩:=each i hi;rw[EE,hcells i hi];have hlen2:(bw elems[i].1).length=P.cellsOf e:=by rw[q3.length,hlen]
           refine⟨hlen2,fun j hj=>?_⟩;have hj2:j<us.length:=by rw[q2.length]; exact hj
           unfold World.cells? at q1;split at q1
           ·obtain⟨r1,r2⟩:=mapM_some q1;rw[List.length_range] at r1;have r3:=r2 j (by simp; omega) hj2;rw[Ff] at r3;have r4:=CP r3;have e1:(a.add (i*P.cellsOf e)).block=a.block:=by unfold Addr.add; split <;> rfl
            have e2:(a.add (i*P.cellsOf e)).off=a.off+i*P.cellsOf e:=by unfold Addr.add; split <;> (rename_i h0; simp[h0])
            rw[e1,e2] at r4;have hsp:a.spot=none∨i*P.cellsOf e+j≠0:=by
              by_cases h0:i*P.cellsOf e+j=0
              ·have hi0:i*P.cellsOf e=0:=by omega
               have hj0:j=0:=by omega
               subst hj0;rw[hi0] at r3;exact .inl (cell_spot (b:=a.block) (i:=a.off) (s:=a.spot) (by simpa [Addr.add] using r3))
              ·exact .inr h0
            have r5:=Bh r4;refine⟨us[j],r5,?_,q2.get j hj2 hj⟩
            show w.cell? ⟨a.block,a.off+i*P.cellsOf e+j,a.spot⟩=_
            rcases hsp with hsp | hsp
            ·rw[hsp]; exact r4
            ·cases hs:a.spot with
             | none=>exact r4
             | some s =>
               exfalso;have h00:=each 0 (by omega);obtain⟨us0,p1,p2,p3⟩:=h00;have hl0:us0.length=P.cellsOf e:=by rw[p2.length,p3.length,hlen]
               unfold World.cells? at p1;split at p1
               ·obtain⟨s1,s2⟩:=mapM_some p1;have s3:=s2 0 (by simp; omega) (by omega);rw[Ff] at s3;have:=cell_spot (b:=a.block) (i:=a.off) (s:=a.spot) (by simpa [Addr.add] using s3);rw[hs] at this;cases this
               ·cases p1
           ·cases q1
         have hlen3:(elems.map fun x=>fQ (bw x.1)).length=len:=by rw[EK]; omega
         have hR:=Reads.of_row hrow (cap:=cap) (by omega) (by omega);rw[hlen3] at hR;refine⟨?_,?_⟩
         ·show aj _ _ [D.sl (fT (elems.map (·.1)))]
          rw[hD];exact .cons hR .nil
         ·show aj _ [D.sl (fT (elems.map (·.1)))] _
          rw[hD];refine .cons ⟨by omega,fun d hd=>?_⟩ .nil;obtain⟨y,hy,rfl⟩:=Es.1 hd;obtain⟨i,hi,rfl⟩:=EM hy;obtain⟨us,q1,q2,q3⟩:=each i hi;refine⟨fun h1=>B2 (Reads.cells_one q2) (by rw[q3.length]; exact h1),fun h1=>?_,?_⟩
          ·rw[hcells i hi];exact B3 (by rw[q3.length]; exact h1)
          ·rw[hcells i hi];exact jw.2 q3
        ·cases h
      ·cases hl
     ·cases hl
    ·rename_i fs hu;split at hl
     ·rename_i l1 hl1;split at hl
      ·rename_i hlen;cases hl;simp only[DataW.trod,hu] at h;split at h
       ·rename_i hc;obtain⟨xs,hxs,rfl⟩:=Ei.1 h;obtain⟨a1,a2⟩:=wP (ih n) cs fs.toList 0 xs l hxs hl1;have e1:bw (DataW.agg (xs.map (·.1)))=xs.flatMap fun x=>bw x.1:=by
          simp only[bw,mq,List.flatMap_map]
        rw[List.drop_zero,Fl (by omega)] at a1;simp only[e1];exact⟨a1,a2⟩
       ·cases h
      ·cases hl
     ·cases hl
    ·rename_i k e hu;split at hl
     ·rename_i l1 hl1;split at hl
      ·rename_i hlen;cases hl;simp only[DataW.trod,hu] at h;split at h
       ·rename_i hc;obtain⟨xs,hxs,rfl⟩:=Ei.1 h;obtain⟨a0,_,a1⟩:=CQ (ih n) cs e l1 hl1 hlen.1 k xs hxs;obtain⟨a1,a2⟩:=a1 k (Ew _);have e1:bw (DataW.agg (xs.map (·.1)))=xs.flatMap fun x=>bw x.1:=by
          simp only[bw,mq,List.flatMap_map]
        rw[Fl (by omega)] at a1 a2;simp only[e1];rw[Fl (by omega)] at a1;exact⟨a1,a2⟩
       ·cases h
      ·cases hl
     ·cases hl
    ·cases hl
end
inductive fD where
  | one (s:Sh) | many (l:List Sh)
def wQ (P:Program) (t:TypeId):Bool:=match P.underlying t with | some (.struct _) | some (.array _ _)=>true | _=>false
def iV (P:Program) (t:TypeId):Option fD :=
  if wQ P t then (eJ P 50 t).map .many else match eJ P 50 t with | some [s]=>some (.one s) | _=>none
def gW:D→fD→Prop
  | x,.one s=>cX s x
  | .agg cs,.many l=>fC l cs
  | _,.many _=>False
section
variable {H:Type} {enc:TypeId×Value→H} {P:Program} {w:World} {base:Nat} {spare:Nat→Bool} {held:Bool}
theorem CR {t:TypeId} {s:fD} (hs:iV P t=some s) {v:Value} {b0:Nat} (hv:Value.okWide P w .any b0 t v) {d:DataW H} {ps:List MemPlace} (h:DataW.Trod enc P w base spare held t v d ps) :
    ∃ x,RW (fun _=>none) (dJ w) w v (.c (.d x))∧gW x s:=by
  obtain⟨fuel,h⟩:=h;unfold iV wQ at hs;unfold Value.okWide at hv;have key:∀ l,eJ P 50 t=some l→aj (Reads (dJ w) w) v.cells.toList (bw d)∧aj (fun d s=>cX s d) (bw d) l:=fun l hl=>ui fuel 50 t _ _ _ h hl
  have agg:(∃ cs,v=.agg cs)→(eJ P 50 t).map fD.many=some s→∃ x,RW (fun _=>none) (dJ w) w v (.c (.d x))∧gW x s:=by
    rintro⟨cs,rfl⟩ hs;obtain⟨l,hl,rfl⟩:=Ei.1 hs;obtain⟨k1,k2⟩:=key l hl;exact⟨.agg (bw d),⟨cs.toList,by simp,k1⟩,jw.2 k2⟩
  have plain:(∀ cs,v≠.agg cs)→(match eJ P 50 t with | some [s]=>some (fD.one s) | _=>none)=some s→∃ x,RW (fun _=>none) (dJ w) w v (.c (.d x))∧gW x s:=by
    intro hne hs;split at hs
    ·rename_i s1 hl;cases hs;obtain⟨k1,k2⟩:=key _ hl;have hc:v.cells.toList=[v]:=by cases v <;> first | rfl | (exact absurd rfl (hne _))
     rw[hc] at k1;generalize bw d=ds at k1 k2;cases k1 with
     | cons a b =>
       cases b;cases k2 with
       | cons q _ =>
         refine⟨_,?_,q⟩;exact Reads.rw a
    ·cases hs
  split at hv
  ·rename_i hu;simp only[hu,if_true] at hs;obtain⟨cs,rfl,_⟩:=hv;exact agg ⟨cs,rfl⟩ hs
  ·rename_i hu;simp only[hu,if_true] at hs;obtain⟨cs,rfl,_⟩:=hv;exact agg ⟨cs,rfl⟩ hs
  ·rename_i h1 h2;have hb:(match P.underlying t with | some (.struct _) | some (.array _ _)=>true | _=>false)=false:=by
     split
     ·rename_i hu; exact absurd hu (h1 _)
     ·rename_i hu; exact absurd hu (h2 _ _)
     ·rfl
   rw[hb] at hs;refine plain ?_ hs;rintro cs rfl;unfold Cell.okWide Cell.ok at hv;split at hv <;> first | (rename_i hx; cases hx; done) | skip
   all_goals (split at hv <;> first | (rename_i hx; cases hx; done) | exact hv)
theorem uj:∀ {ts:List TypeId} {ss:List fD} {vs:List Value} {ds:List (DataW H)} {ps:List MemPlace},az (iV P) ts=some ss →
    (∀ (j:Nat) (t:TypeId) (v:Value),ts[j]?=some t→vs[j]?=some v→∃ b0,Value.okWide P w .any b0 t v)→DataW.TrodAll enc P w base spare held ts vs ds ps →
    ∃ xs,aj (fun v x=>RW (fun _=>none) (dJ w) w v (.c (.d x))) vs xs∧aj gW xs ss
  | [],ss,vs,ds,ps,h1,_,h3=>by
    cases h1;cases vs with
    | nil=>exact⟨[],.nil,.nil⟩
    | cons _ _=>cases ds <;> exact h3.elim
  | t::ts,ss,vs,ds,ps,h1,h2,h3=>by
    cases vs with
    | nil=>cases ds <;> exact h3.elim
    | cons v vs =>
      cases ds with
      | nil=>exact h3.elim
      | cons d ds =>
        obtain⟨p,q,a1,a2,_⟩:=h3;simp only[az] at h1;split at h1
        ·rename_i s l hs hl;cases h1;obtain⟨b0,hv⟩:=h2 0 t v rfl rfl;obtain⟨x,r1,r2⟩:=CR hs hv a1;obtain⟨xs,r3,r4⟩:=uj hl (fun j t v ht hv=>h2 (j+1) t v ht hv) a2;exact⟨x::xs,.cons r1 r3,.cons r2 r4⟩
        ·cases h1
end
section
variable {P:Program} {w:World}
end
section
variable {H:Type} {enc:TypeId×Value→H} {P:Program}
theorem nQ (hl:laidOutB P=true) {W W':World} (hb:Below W.heap.size W W'):∀ {ts:List TypeId} {vs:List Value} {ds:List (DataW H)} {ps:List MemPlace},
    (∀ t∈ts,P.readableRec t=true∧t<P.types.size)→DataW.TrodAll enc P W 0 (fun _=>true) true ts vs ds ps→DataW.TrodAll enc P W' 0 (fun b=>decide (b<W.heap.size)) true ts vs ds ps
  | [],[],[],_,_,h=>h
  | [],_::_,_,_,_,h=>by cases ‹List (DataW H)› <;> exact h.elim
  | [],[],_::_,_,_,h=>h.elim
  | _::_,[],ds,_,_,h=>by cases ds <;> exact h.elim
  | _::_,_::_,[],_,_,h=>h.elim
  | t::ts,v::vs,d::ds,ps,hr,h=>by
    obtain⟨p,q,a1,a2,rfl⟩:=h;have hlt:∀ x∈p,x.block<W.heap.size:=by obtain⟨m,hm⟩:=a1; exact DataW.trod_lt m _ _ _ hm
    exact⟨p,q,Below.trod hl (hr t (by simp)).1 (hr t (by simp)).2 a1 hb hlt,nQ hl hb (fun t ht=>hr t (by simp[ht])) a2,rfl⟩
theorem jo:∀ {ts:List TypeId} {vs:List Value} {ds:List (DataW H)} {ps:List MemPlace} {w:World} {b:Nat} {sp:Nat→Bool} {he:Bool},DataW.TrodAll enc P w b sp he ts vs ds ps→ds.length=ts.length
  | [],[],[],_,_,_,_,_,_=>rfl
  | [],_::_,ds,_,_,_,_,_,h=>by cases ds <;> exact h.elim
  | [],[],_::_,_,_,_,_,_,h=>h.elim
  | _::_,[],ds,_,_,_,_,_,h=>by cases ds <;> exact h.elim
  | _::_,_::_,[],_,_,_,_,_,h=>h.elim
  | t::ts,v::vs,d::ds,_,_,_,_,_,h=>by
    obtain⟨p,q,a1,a2,_⟩:=h;simp[jo a2]
theorem Ax {f:FuncId} {fn:Func} {s:ChangeSpec} {ts:List TypeId} {ss:List fD} {tb:TypeId} (hts:fn.params.toList=ts) (hss:az (iV P) ts=some ss) (hvars:s.vars=[])
    (hlay:laidOutB P=true) (hread:∀ t∈ts,P.readableRec t=true∧t<P.types.size) (hres:fn.resultTypes=#[tb]) (htb:P.underlying tb=some .bool)
    (hspec:∀ ds:List (DataW H),ds.length=ts.length→s.fn H ds={ results:=[.lit (.bool true)],args:=ds }) {G:av}
    (den:∀ xs,aj gW xs ss→bd P G f xs (.w (.c (.d (.bool true)))))
    {W:World} {base:Nat} {args:Array Value} {ds gs:List (DataW H)} {before:List MemPlace}
    (hval:∀ (j:Nat) t v,fn.params[j]?=some t→args[j]?=some v→Value.okWide P W .any base t v) (hW:DataW.Whole enc P fn.params.toList s.vars false W args.toList ds gs before) (hG:eX G (dJ W) W) :
    Calls P f args W fun e W'=>∃ v,e=.returned v∧s.post enc P fn false true false false W args v W':=by
  have hW':=hW;obtain⟨p,q,hA,hV,rfl,hfz,hnd⟩:=hW;rw[hts] at hA;obtain⟨xs,h1,h2⟩:=uj hss (fun j t v ht hv=>⟨base,hval j t v (by rw[← ht,← hts]; simp) (by rw[← hv]; simp)⟩) hA;have hg:gs=[]∧q=[]:=by
    rw[hvars] at hV;cases gs with
    | nil=>exact⟨rfl,hV⟩
    | cons _ _=>exact hV.elim
  obtain⟨rfl,rfl⟩:=hg;have hd:=den xs h2 W (dJ W) args.toList (fun b i h=>h) hG h1;refine hd.mono ?_;rintro e W' ⟨v,S',bl,rfl,hb,_,_,hr⟩;have hv:v=.bool true:=by
    have:di S' W' W.heap.size v (.d (.bool true)) bl:=hr;obtain⟨a,_⟩:=this;cases a;rfl
  subst hv;refine⟨_,rfl,ds,[],p++[],[],p,[],hW',?_,?_,?_,hb.frame _,fun h=>by cases h⟩
  ·rw[hres,List.append_nil,hspec ds (jo hA)];exact trodAll_mk1 (shut_bool htb _)
  ·rw[hts,List.append_nil,hspec ds (jo hA)];exact nQ hlay hb hread hA
  ·rw[List.append_nil,hspec ds (jo hA),hvars];rfl
end
def zeroCell:Sh→Value | .int k=>.int k 0 | .bool=>.bool false | .str=>.string ByteArray.empty | .sl _=>.slice none 0 0
def B4:fD→Value | .one s=>zeroCell s | .many l=>.agg (l.map zeroCell).toArray
theorem zg {P:Program} {ts:List TypeId} (h:(ts.all fun t=>P.readableRec t&&decide (t<P.types.size))=true):∀ t∈ts,P.readableRec t=true∧t<P.types.size:=by
  intro t ht;have:=Ep.1 h t ht
  simpa using this
theorem lA {α β:Type} {R:α→β→Prop} {xs:List α} {y:β} {ys:List β} (h:aj R xs (y::ys)):∃ x r,xs=x::r∧R x y∧aj R r ys:=by
  cases h with
  | cons a b=>exact⟨_,_,rfl,a,b⟩
theorem Bi {α β:Type} {R:α→β→Prop} {xs:List α} (h:aj R xs []):xs=[]:=by cases h; rfl
theorem CS {k:IntKind} {x:D} (h:cX (.int k) x):∃ n,x=.int k n∧k.min≤n∧n≤k.max:=by
  cases x <;> simp only[cX] at h;obtain⟨rfl,h⟩:=h;exact⟨_,rfl,h⟩
theorem mK {x:D} (h:cX (.int .i64) x):∃ n:Int,x=.int .i64 n∧-9223372036854775808≤n∧n≤9223372036854775807:=CS h
theorem wR {α:Type} (f:α→D) {P:D→Prop} (inv:∀ x,P x→∃ a,x=f a):∀ {es:List D},(∀ e∈es,P e)→∃ l:List α,es=l.map f
  | [],_=>⟨[],rfl⟩
  | e::es,h=>by
    obtain⟨a,rfl⟩:=inv e (h e (by simp));obtain⟨l,rfl⟩:=wR f inv (es:=es) fun e he=>h e (by simp[he])
    exact⟨a::l,rfl⟩
theorem CU {α:Type} (f:α→D) {s:Sh} (inv:∀ x,cX s x→∃ a,x=f a) {x:D} (h:cX (.sl [s]) x):∃ l:List α,x=.sl (l.map f)∧l.length≤maxLen:=by
  cases x <;> simp only[cX] at h;obtain⟨h1,h2⟩:=h;obtain⟨l,rfl⟩:=wR f (P:=fun e=>e.one=true∧fC [s] e.cells) (fun e ⟨a,b⟩=>by
    rw[D.one_cells a] at b;exact inv e b.1) (fun e he=>⟨(h2 e he).1 rfl,(h2 e he).2.2⟩)
  exact⟨l,rfl,by simpa using h1⟩
end Go.Proofs.Ytjhaklohdflppaa
namespace Go.Proofs.Ytjhaklohdflppaa
open Go.RowKit
section
variable {P:Program} {G:av} {H:Hint}
def wU (args:List W):St:=⟨fun t=>match args[t]? with | some x=>.w x | none=>.undef,fun _=>none,fun _=>false⟩
def cY:Nat→List W→(Nat→V)→Nat→V
  | _,[],f=>f
  | i,x::r,f=>cY (i+1) r (upd f i (.w x))
theorem sn:∀ (l:List W) (i:Nat) (f:Nat→V) (t:Nat),cY i l f t=if i≤t then (match l[t-i]? with | some x=>.w x | none=>f t) else f t
  | [],i,f,t=>by simp[cY]
  | x::l,i,f,t=>by
    rw[cY,sn l (i+1)];by_cases h:i=t
    ·subst h;rw[if_neg (by omega),if_pos (Ew _)];simp[upd]
    ·by_cases h2:i≤t
     ·rw[if_pos (by omega),if_pos h2];have:t-i=(t-(i+1))+1:=by omega
      rw[this,EG];cases l[t-(i+1)]? with
      | some y=>rfl
      | none=>simp[upd,show t≠i from fun e=>h e.symm]
     ·rw[if_neg (by omega),if_neg h2];simp[upd,show t≠i from fun e=>h e.symm]
theorem pZ (args:List W):wU args=⟨cY 0 args uf,hN,uN⟩:=by
  unfold wU
  congr 1
  funext t
  rw[sn];simp only[E6,if_true,Nat.sub_zero];rfl
def D.up:D→W
  | .ref cs=>.c (.rp cs)
  | x=>.c (.d x)
end
end Go.Proofs.Ytjhaklohdflppaa
