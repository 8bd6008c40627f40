/- Texts of one's own, merged: from: The plain logic (21): a law's frame: what reads as data in the model's words reads as data in mine; package-level variables; behind the call. Own work. -/
import Derived.ProofKit
import Derived.ChangeOld
import Derived.Handed
import Derived.Carry
import Derived.ChangeBears2
import GoSem.ClaimSeven
import Derived.Test.YtlghfnidknfakaaGreatDoorMg37
set_option linter.unusedVariables false
set_option linter.unusedSimpArgs false
namespace Go.Proofs.YtlghfnidknfakaaGreatDoor
open Go.RowKit Go.ChangeShapes
inductive Sh where
  | int (k:IntKind) | bool | str | sl (e:List Sh)
mutual
def fh:Sh→D→Prop
  | .int k,.int k' n=>k'=k∧k.min≤n∧n≤k.max
  | .bool,.bool _=>True
  | .str,.str s=>s.size≤maxLen
  | .sl l,.sl es=>es.length≤maxLen∧∀ e∈es,(l.length=1→e.one=true)∧(l.length≠1→e=.agg e.cells)∧jT l e.cells
  | _,_=>False
def jT:List Sh→List D→Prop
  | [],[]=>True
  | s::r,d::ds=>fh s d∧jT r ds
  | _,_=>False
end
theorem qz:∀ {l:List Sh} {ds:List D},jT l ds↔aj (fun d s=>fh s d) ds l
  | [],[]=>by simp only[jT]; exact⟨fun _=>.nil,fun _=>trivial⟩
  | [],_::_=>by simp only[jT]; exact⟨fun h=>h.elim,fun h=>by cases h⟩
  | _::_,[]=>by simp only[jT]; exact⟨fun h=>h.elim,fun h=>by cases h⟩
  | s::r,d::ds=>by
    simp only[jT];exact⟨fun h=>.cons h.1 (qz.1 h.2),fun h=>by cases h with | cons a b=>exact⟨a,qz.2 b⟩⟩
def gJ:List D→D
  | [x]=>x
  | l=>.agg l
theorem Bt {l:List D} (h:∀ x∈l,x.cells=[x]):(gJ l).cells=l:=by
  match l,h with
  | [],_=>rfl
  | [x],h=>exact h x (by simp)
  | x::y::r,_=>rfl
theorem Lq {x:D} (h:x.cells=[x]):x.one=true:=by
  cases x <;> simp[D.one];rename_i cs;have h:cs=[D.agg cs]:=h;have h2:SizeOf.sizeOf cs=SizeOf.sizeOf [D.agg cs]:=congrArg SizeOf.sizeOf h;simp at h2;omega
theorem P0 {l:List D} (h:∀ x∈l,x.cells=[x]) (h1:l.length=1):(gJ l).one=true:=by
  match l,h,h1 with
  | [x],h,_=>exact Lq (h x (by simp))
theorem P5 {l:List D} (h1:l.length≠1):gJ l=.agg l:=by
  match l,h1 with
  | [],_=>rfl
  | [x],h=>simp at h
  | x::y::r,_=>rfl
def sU (P:Program) (sh:TypeId→Option (List Sh)):List Field→Nat→Option (List Sh)
  | [],_=>some []
  | f::r,off=>if f.offset=off then match sh f.type with
    | some l=>if l.length=P.cellsOf f.type then (sU P sh r (off+l.length)).map (l++·) else none
    | none=>none else none
def ga (P:Program):Nat→TypeId→Option (List Sh)
  | 0,_=>none
  | n+1,t=>match P.underlying t with
    | some .bool=>some [.bool]
    | some (.int k)=>some [.int k]
    | some .string=>some [.str]
    | some (.slice e)=>match ga P n e with | some l=>if l.length=P.cellsOf e then some [.sl l] else none | none=>none
    | some (.struct fs)=>match sU P (ga P n) fs.toList 0 with | some l=>if l.length=P.cellsOf t then some l else none | none=>none
    | some (.array k e)=>match ga P n e with | some l=>if l.length=P.cellsOf e∧P.cellsOf t=k*P.cellsOf e then some ((List.replicate k l).flatten) else none | none=>none
    | _=>none
section
variable {H:Type}
mutual
def bZ:DataW H→List D
  | .lit (.bool b)=>[.bool b]
  | .lit (.int k n)=>[.int k n]
  | .lit (.string l)=>[.str ⟨l.toArray⟩]
  | .nil=>[.sl []]
  | .slice es _=>[.sl (kJ es)]
  | .agg xs=>pZ xs
  | _=>[]
def pZ:List (DataW H)→List D
  | []=>[]
  | x::r=>bZ x++pZ r
def kJ:List (DataW H)→List D
  | []=>[]
  | x::r=>gJ (bZ x)::kJ r
end
theorem wC:∀ l:List (DataW H),pZ l=l.flatMap bZ
  | []=>by simp[pZ]
  | x::r=>by simp[pZ,wC r]
theorem Bu:∀ l:List (DataW H),kJ l=l.map fun x=>gJ (bZ x)
  | []=>by simp[kJ]
  | x::r=>by simp[kJ,Bu r]
end
theorem mapM_some {α β:Type} {f:α→Option β}:∀ {l:List α} {r:List β},l.mapM f=some r→r.length=l.length∧∀ i (h:i<l.length) (h2:i<r.length),f l[i]=some r[i]
  | [],r,h=>by simp at h; subst h; simp
  | x::l,r,h=>by
    simp only[List.mapM_cons,Option.bind_eq_bind,WR,Option.pure_def,VT] at h;obtain⟨y,hy,ys,hys,rfl⟩:=h;obtain⟨h1,h2⟩:=mapM_some hys;refine⟨by simp[h1],fun i hi hi2=>?_⟩;cases i with
    | zero=>exact hy
    | succ i=>exact h2 i (by simpa using hi) (by simpa using hi2)
theorem DN {w:World} {a:Addr} {v:Value} (h:w.cell? a=some v):a.block<w.heap.size:=by
  rcases Wv a.block w.heap.size with h' | h'
  ·exact h'
  ·simp[World.cell?,Array.getElem?_eq_none h'] at h
theorem Sg {w:World} {a:Addr} {n:Nat} {v:Value} (h:w.cell? (a.add n)=some v):w.cell? ⟨a.block,a.off+n,none⟩=some v:=by
  unfold Addr.add at h;split at h
  ·rename_i h0;subst h0;obtain⟨b,o,s⟩:=a;have:=cell_spot h;subst this;exact h
  ·exact h
def fk (w:World):ak:=fun b _=>b<w.heap.size
section
variable {H:Type} {enc:TypeId×Value→H} {P:Program} {w:World} {base:Nat} {spare:Nat→Bool} {held:Bool}
def rT (enc:TypeId×Value→H) (P:Program) (w:World) (base:Nat) (spare:Nat→Bool) (held:Bool) (fuel:Nat) (sh:TypeId→Option (List Sh)):Prop :=
  ∀ t cs x l,DataW.trod enc P w base spare held fuel t cs=some x→sh t=some l→aj (Reads (fk w) w) cs (bZ x.1)∧aj (fun d s=>fh s d) (bZ x.1) l
theorem Ik {fuel:Nat} {sh:TypeId→Option (List Sh)} (ih:rT enc P w base spare held fuel sh) (cs:List Value):∀ (fs:List Field) (off:Nat) (xs:List (DataW H×List MemPlace)) (l:List Sh),
    (fs.mapM fun f=>DataW.trod enc P w base spare held fuel f.type ((cs.drop f.offset).take (P.cellsOf f.type)))=some xs→sU P sh fs off=some l →
    aj (Reads (fk w) w) ((cs.drop off).take l.length) (xs.flatMap fun x=>bZ x.1)∧aj (fun d s=>fh s d) (xs.flatMap fun x=>bZ x.1) l
  | [],off,xs,l,h1,h2=>by
    simp at h1; subst h1
    cases h2;exact⟨by simpa using aj.nil,.nil⟩
  | f::r,off,xs,l,h1,h2=>by
    simp only[List.mapM_cons,Option.bind_eq_bind,WR,Option.pure_def,VT] at h1;obtain⟨y,hy,ys,hys,rfl⟩:=h1;simp only[sU] at h2;split at h2
    ·rename_i hoff;split at h2
     ·rename_i l1 hl1;split at h2
      ·rename_i hlen;obtain⟨l2,hl2,rfl⟩:=VP.1 h2;obtain⟨a1,a2⟩:=ih _ _ _ _ hy hl1;obtain⟨b1,b2⟩:=Ik ih cs r _ ys l2 hys hl2;rw[Wa,VR,List.take_add,XQ];refine⟨aj.append ?_ b1,a2.append b2⟩;rw[hoff,← hlen] at a1;exact a1
      ·cases h2
     ·cases h2
    ·cases h2
theorem Il {fuel:Nat} {sh:TypeId→Option (List Sh)} (ih:rT enc P w base spare held fuel sh) (cs:List Value) (e:TypeId) (l:List Sh) (hl:sh e=some l) (hlen:l.length=P.cellsOf e) (n:Nat) (xs:List (DataW H×List MemPlace))
    (h:((List.range n).mapM fun i=>DataW.trod enc P w base spare held fuel e ((cs.drop (i*P.cellsOf e)).take (P.cellsOf e)))=some xs) :
    xs.length=n∧(∀ i (hi:i<xs.length),aj (Reads (fk w) w) ((cs.drop (i*P.cellsOf e)).take (P.cellsOf e)) (bZ xs[i].1)∧aj (fun d s=>fh s d) (bZ xs[i].1) l) ∧
    ∀ m,m≤n→aj (Reads (fk w) w) (cs.take (m*P.cellsOf e)) ((xs.take m).flatMap fun x=>bZ x.1)∧aj (fun d s=>fh s d) ((xs.take m).flatMap fun x=>bZ x.1) (List.replicate m l).flatten:=by
  obtain⟨h1,h2⟩:=mapM_some h;rw[XB] at h1;have each:∀ i (hi:i<xs.length),aj (Reads (fk w) w) ((cs.drop (i*P.cellsOf e)).take (P.cellsOf e)) (bZ xs[i].1)∧aj (fun d s=>fh s d) (bZ xs[i].1) l:=by
    intro i hi;have:=h2 i (by simp; omega) hi;rw[Xd] at this;exact ih _ _ _ _ this hl
  refine⟨h1,each,fun m=>?_⟩
  induction m with
  | zero=>intro _; simp; exact⟨.nil,.nil⟩
  | succ m ihm =>
    intro hm;obtain⟨a1,a2⟩:=ihm (by omega);have hlt:m<xs.length:=by omega
    obtain⟨b1,b2⟩:=each m hlt;rw[WX hlt,Xg,Wa,XS,Wc,List.replicate_succ',List.flatten_append,Nat.succ_mul,List.take_add];refine⟨a1.append b1,a2.append ?_⟩
    simpa using b2
theorem Reads.cells_one {S:ak}:∀ {cs:List Value} {l:List D},aj (Reads S w) cs l→∀ x∈l,x.cells=[x]
  | _,_,.nil,x,hx=>by cases hx
  | _,_,.cons h r,x,hx=>by
    rcases V6.1 hx with rfl | hx
    ·exact h.cellsOf
    ·exact Reads.cells_one r x hx
theorem rC:∀ fuel n,rT enc P w base spare held fuel (ga P n)
  | 0,_,_,_,_,_,h,_=>by simp[DataW.trod] at h
  | _+1,0,_,_,_,_,_,h=>by cases h
  | fuel+1,n+1,t,cs,x,l,h,hl=>by
    have ih:∀ m,rT enc P w base spare held fuel (ga P m):=fun m=>rC fuel m
    simp only[ga] at hl;split at hl
    ·rename_i hu;cases hl;simp only[DataW.trod,hu] at h;split at h <;> first | (cases h; done) | (rename_i hx; cases hx; done) | skip
     cases h;exact⟨.cons (.bool _) .nil,.cons trivial .nil⟩
    ·rename_i k hu;cases hl;simp only[DataW.trod,hu] at h;split at h <;> first | (cases h; done) | (rename_i hx; cases hx; done) | skip
     rename_i hx;cases hx;split at h
     ·rename_i hk;obtain⟨rfl,hwf⟩:=hk;cases h;simp only[Lit.wf,Wh,decide_eq_true_eq] at hwf;exact⟨.cons (.int _ _) .nil,.cons ⟨rfl,hwf⟩ .nil⟩
     ·cases h
    ·rename_i hu;cases hl;simp only[DataW.trod,hu] at h;split at h <;> first | (cases h; done) | (rename_i hx; cases hx; done) | skip
     split at h
     ·rename_i hs;cases h;exact⟨.cons (.str _) .nil,.cons hs .nil⟩
     ·cases h
    ·rename_i e hu;split at hl
     ·rename_i l1 hl1;split at hl
      ·rename_i hlen;cases hl;simp only[DataW.trod,hu] at h;split at h <;> first | (cases h; done) | (rename_i hx; cases hx; done) | skip
       ·cases h;exact⟨.cons .nil .nil,.cons ⟨VY _,fun e he=>by cases he⟩ .nil⟩
       ·rename_i a len cap hx;cases hx;split at h
        ·rename_i hb;simp only[WR] at h;obtain⟨elems,hel,h⟩:=h;obtain⟨rest,_,rfl⟩:=VP.1 h;obtain⟨g1,g2⟩:=mapM_some hel;rw[XB] at g1;have each:∀ i (hi:i<elems.length),∃ us,w.cells? base (a.add (i*P.cellsOf e)) (P.cellsOf e)=some us∧aj (Reads (fk w) w) us (bZ elems[i].1)∧aj (fun d s=>fh s d) (bZ elems[i].1) l1:=by
           intro i hi;have:=g2 i (by simp; omega) hi;rw[Xd] at this;obtain⟨us,q1,q2⟩:=WR.1 this;exact⟨us,q1,ih _ _ _ _ _ q2 hl1⟩
         have hD:kJ (elems.map (·.1))=elems.map fun x=>gJ (bZ x.1):=by rw[Bu,List.map_map]; rfl
         have hcells:∀ i (hi:i<elems.length),(gJ (bZ elems[i].1)).cells=bZ elems[i].1:=fun i hi=>by
           obtain⟨us,_,q2,_⟩:=each i hi;exact Bt (Reads.cells_one q2)
         have hrow:dm (fk w) w a (P.cellsOf e) (elems.map fun x=>gJ (bZ x.1)):=by
           intro i hi;rw[VZ] at hi;obtain⟨us,q1,q2,q3⟩:=each i hi;rw[Wn,hcells i hi];have hlen2:(bZ elems[i].1).length=P.cellsOf e:=by rw[q3.length,hlen]
           refine⟨hlen2,fun j hj=>?_⟩;have hj2:j<us.length:=by rw[q2.length]; exact hj
           unfold World.cells? at q1;split at q1
           ·obtain⟨r1,r2⟩:=mapM_some q1;rw[XB] at r1;have r3:=r2 j (by simp; omega) hj2;rw[Xd] at r3;have r4:=Sg r3;have e1:(a.add (i*P.cellsOf e)).block=a.block:=by unfold Addr.add; split <;> rfl
            have e2:(a.add (i*P.cellsOf e)).off=a.off+i*P.cellsOf e:=by unfold Addr.add; split <;> (rename_i h0; simp[h0])
            rw[e1,e2] at r4;have hsp:a.spot=none∨i*P.cellsOf e+j≠0:=by
              by_cases h0:i*P.cellsOf e+j=0
              ·have hi0:i*P.cellsOf e=0:=by omega
               have hj0:j=0:=by omega
               subst hj0;rw[hi0] at r3;exact .inl (cell_spot (b:=a.block) (i:=a.off) (s:=a.spot) (by simpa [Addr.add] using r3))
              ·exact .inr h0
            have r5:=DN r4;refine⟨us[j],r5,?_,q2.get j hj2 hj⟩
            show w.cell? ⟨a.block,a.off+i*P.cellsOf e+j,a.spot⟩=_
            rcases hsp with hsp | hsp
            ·rw[hsp]; exact r4
            ·cases hs:a.spot with
             | none=>exact r4
             | some s =>
               exfalso;have h00:=each 0 (by omega);obtain⟨us0,p1,p2,p3⟩:=h00;have hl0:us0.length=P.cellsOf e:=by rw[p2.length,p3.length,hlen]
               unfold World.cells? at p1;split at p1
               ·obtain⟨s1,s2⟩:=mapM_some p1;have s3:=s2 0 (by simp; omega) (by omega);rw[Xd] at s3;have:=cell_spot (b:=a.block) (i:=a.off) (s:=a.spot) (by simpa [Addr.add] using s3);rw[hs] at this;cases this
               ·cases p1
           ·cases q1
         have hlen3:(elems.map fun x=>gJ (bZ x.1)).length=len:=by rw[VZ]; omega
         have hR:=Reads.of_row hrow (cap:=cap) (by omega) (by omega);rw[hlen3] at hR;refine⟨?_,?_⟩
         ·show aj _ _ [D.sl (kJ (elems.map (·.1)))]
          rw[hD];exact .cons hR .nil
         ·show aj _ [D.sl (kJ (elems.map (·.1)))] _
          rw[hD];refine .cons ⟨by omega,fun d hd=>?_⟩ .nil;obtain⟨y,hy,rfl⟩:=Wm.1 hd;obtain⟨i,hi,rfl⟩:=WA hy;obtain⟨us,q1,q2,q3⟩:=each i hi;refine⟨fun h1=>P0 (Reads.cells_one q2) (by rw[q3.length]; exact h1),fun h1=>?_,?_⟩
          ·rw[hcells i hi];exact P5 (by rw[q3.length]; exact h1)
          ·rw[hcells i hi];exact qz.2 q3
        ·cases h
      ·cases hl
     ·cases hl
    ·rename_i fs hu;split at hl
     ·rename_i l1 hl1;split at hl
      ·rename_i hlen;cases hl;simp only[DataW.trod,hu] at h;split at h
       ·rename_i hc;obtain⟨xs,hxs,rfl⟩:=VP.1 h;obtain⟨a1,a2⟩:=Ik (ih n) cs fs.toList 0 xs l hxs hl1;have e1:bZ (DataW.agg (xs.map (·.1)))=xs.flatMap fun x=>bZ x.1:=by
          simp only[bZ,wC,List.flatMap_map]
        rw[Xt,VV (by omega)] at a1;simp only[e1];exact⟨a1,a2⟩
       ·cases h
      ·cases hl
     ·cases hl
    ·rename_i k e hu;split at hl
     ·rename_i l1 hl1;split at hl
      ·rename_i hlen;cases hl;simp only[DataW.trod,hu] at h;split at h
       ·rename_i hc;obtain⟨xs,hxs,rfl⟩:=VP.1 h;obtain⟨a0,_,a1⟩:=Il (ih n) cs e l1 hl1 hlen.1 k xs hxs;obtain⟨a1,a2⟩:=a1 k (V0 _);have e1:bZ (DataW.agg (xs.map (·.1)))=xs.flatMap fun x=>bZ x.1:=by
          simp only[bZ,wC,List.flatMap_map]
        rw[VV (by omega)] at a1 a2;simp only[e1];rw[VV (by omega)] at a1;exact⟨a1,a2⟩
       ·cases h
      ·cases hl
     ·cases hl
    ·cases hl
end
inductive jU where
  | one (s:Sh) | many (l:List Sh)
def Im (P:Program) (t:TypeId):Bool:=match P.underlying t with | some (.struct _) | some (.array _ _)=>true | _=>false
def pM (P:Program) (t:TypeId):Option jU :=
  if Im P t then (ga P 50 t).map .many else match ga P 50 t with | some [s]=>some (.one s) | _=>none
def na:D→jU→Prop
  | x,.one s=>fh s x
  | .agg cs,.many l=>jT l cs
  | _,.many _=>False
section
variable {H:Type} {enc:TypeId×Value→H} {P:Program} {w:World} {base:Nat} {spare:Nat→Bool} {held:Bool}
theorem Si {t:TypeId} {s:jU} (hs:pM P t=some s) {v:Value} {b0:Nat} (hv:Value.okWide P w .any b0 t v) {d:DataW H} {ps:List MemPlace} (h:DataW.Trod enc P w base spare held t v d ps) :
    ∃ x,RW (fun _=>none) (fk w) w v (.c (.d x))∧na x s:=by
  obtain⟨fuel,h⟩:=h;unfold pM Im at hs;unfold Value.okWide at hv;have key:∀ l,ga P 50 t=some l→aj (Reads (fk w) w) v.cells.toList (bZ d)∧aj (fun d s=>fh s d) (bZ d) l:=fun l hl=>rC fuel 50 t _ _ _ h hl
  have agg:(∃ cs,v=.agg cs)→(ga P 50 t).map jU.many=some s→∃ x,RW (fun _=>none) (fk w) w v (.c (.d x))∧na x s:=by
    rintro⟨cs,rfl⟩ hs;obtain⟨l,hl,rfl⟩:=VP.1 hs;obtain⟨k1,k2⟩:=key l hl;exact⟨.agg (bZ d),⟨cs.toList,by simp,k1⟩,qz.2 k2⟩
  have plain:(∀ cs,v≠.agg cs)→(match ga P 50 t with | some [s]=>some (jU.one s) | _=>none)=some s→∃ x,RW (fun _=>none) (fk w) w v (.c (.d x))∧na x s:=by
    intro hne hs;split at hs
    ·rename_i s1 hl;cases hs;obtain⟨k1,k2⟩:=key _ hl;have hc:v.cells.toList=[v]:=by cases v <;> first | rfl | (exact absurd rfl (hne _))
     rw[hc] at k1;generalize bZ d=ds at k1 k2;cases k1 with
     | cons a b =>
       cases b;cases k2 with
       | cons q _ =>
         refine⟨_,?_,q⟩;exact Reads.rw a
    ·cases hs
  split at hv
  ·rename_i hu;simp only[hu,if_true] at hs;obtain⟨cs,rfl,_⟩:=hv;exact agg ⟨cs,rfl⟩ hs
  ·rename_i hu;simp only[hu,if_true] at hs;obtain⟨cs,rfl,_⟩:=hv;exact agg ⟨cs,rfl⟩ hs
  ·rename_i h1 h2;have hb:(match P.underlying t with | some (.struct _) | some (.array _ _)=>true | _=>false)=false:=by
     split
     ·rename_i hu; exact absurd hu (h1 _)
     ·rename_i hu; exact absurd hu (h2 _ _)
     ·rfl
   rw[hb] at hs;refine plain ?_ hs;rintro cs rfl;unfold Cell.okWide Cell.ok at hv;split at hv <;> first | (rename_i hx; cases hx; done) | skip
   all_goals (split at hv <;> first | (rename_i hx; cases hx; done) | exact hv)
theorem FY:∀ {ts:List TypeId} {ss:List jU} {vs:List Value} {ds:List (DataW H)} {ps:List MemPlace},aT (pM P) ts=some ss →
    (∀ (j:Nat) (t:TypeId) (v:Value),ts[j]?=some t→vs[j]?=some v→∃ b0,Value.okWide P w .any b0 t v)→DataW.TrodAll enc P w base spare held ts vs ds ps →
    ∃ xs,aj (fun v x=>RW (fun _=>none) (fk w) w v (.c (.d x))) vs xs∧aj na xs ss
  | [],ss,vs,ds,ps,h1,_,h3=>by
    cases h1;cases vs with
    | nil=>exact⟨[],.nil,.nil⟩
    | cons _ _=>cases ds <;> exact h3.elim
  | t::ts,ss,vs,ds,ps,h1,h2,h3=>by
    cases vs with
    | nil=>cases ds <;> exact h3.elim
    | cons v vs =>
      cases ds with
      | nil=>exact h3.elim
      | cons d ds =>
        obtain⟨p,q,a1,a2,_⟩:=h3;simp only[aT] at h1;split at h1
        ·rename_i s l hs hl;cases h1;obtain⟨b0,hv⟩:=h2 0 t v rfl rfl;obtain⟨x,r1,r2⟩:=Si hs hv a1;obtain⟨xs,r3,r4⟩:=FY hl (fun j t v ht hv=>h2 (j+1) t v ht hv) a2;exact⟨x::xs,.cons r1 r3,.cons r2 r4⟩
        ·cases h1
end
def lH {H:Type}:DataW H→List (DataW H) | .agg xs=>xs | _=>[]
def DO (P:Program) (t:TypeId) (d:DataW Unit):Option C :=
  match P.underlying t with
  | some (.array _ _)=>match ga P 50 t with | some _=>some (.ra ((lH d).map fun x=>gJ (bZ x))) | none=>none
  | _=>match ga P 50 t with | some _=>some (.rp (bZ d)) | none=>none
def pz (P:Program):List (String×DataW Unit)→Option ai
  | []=>some []
  | (n,d)::r=>match P.globalNamed n with
    | none=>none
    | some g=>match (P.globals[g]?).map (·.type) with
      | none=>none
      | some t=>match DO P t d,pz P r with
        | some c,some l=>some ((g,c)::l)
        | _,_=>none
section
variable {P:Program} {w:World}
theorem DR {cs:List Value} {l:List D} {g off:Nat} (h:aj (Reads (fk w) w) cs l) (hc:∀ j (hj:j<cs.length),w.cell? ⟨g,off+j,none⟩=some cs[j]):dk (fk w) w ⟨g,off,none⟩ l:=by
  intro j hj;have hj2:j<cs.length:=by rw[h.length]; exact hj
  have h1:=hc j hj2;have h2:=DN h1;exact⟨cs[j],h2,h1,h.get j hj2 hj⟩
theorem MQ {n:String} {g:Nat} {cs:Array Value} (hg:P.globalNamed n=some g) (hv:w.var? P n=some cs):∃ ty,w.shape? g=some (ty,cs.size):=by
  unfold World.var? at hv;rw[hg] at hv;simp only[Option.bind_some] at hv;unfold World.shape?;split at hv
  ·rename_i c t f hh;cases hv;exact⟨t,by rw[hh]⟩
  ·cases hv
theorem FZ:∀ {l:List (String×DataW Unit)} {G:ai} {ps:List MemPlace},pz P l=some G→DataW.LaidVars P w l ps→iN G (fk w) w
  | [],G,ps,h,_=>by cases h; intro p hp; cases hp
  | (n,d)::r,G,ps,h,h2=>by
    obtain⟨g,t,cs,fuel,p,q,hg,ht,hvar,htr,hrest,_⟩:=h2;simp only[pz,hg,ht] at h;split at h
    ·rename_i c G' hc hG';cases h;have hcell:∀ j (hj:j<cs.toList.length),w.cell? ⟨g,j,none⟩=some cs.toList[j]:=by
       intro j hj;rw[World.var?_cell hg hvar j];simp at hj;simp[hj]
     intro p hp;rcases V6.1 hp with rfl | hp
     ·unfold DO at hc;split at hc
      ·rename_i k e hu;split at hc
       ·rename_i l hl;cases hc
        suffices key:dm (fk w) w ⟨g,0,none⟩ (P.cellsOf e) ((lH d).map fun x=>gJ (bZ x))∧B4 w g (.ra ((lH d).map fun x=>gJ (bZ x))) from ⟨⟨_,P.cellsOf e,rfl,key.1⟩,rfl,key.2⟩
        cases fuel with
        | zero=>have htr:none=some _:=htr; cases htr
        | succ fuel =>
          obtain⟨n,hl⟩:∃ n,ga P (n+1) t=some l:=⟨49,hl⟩
          simp only[ga,hu] at hl;split at hl
          ·rename_i l1 hl1;split at hl
           ·rename_i hlen;simp only[DataW.trod,hu] at htr;split at htr
            ·rename_i hcn;obtain⟨xs,hxs,he⟩:=VP.1 htr;obtain⟨a0,a1,_⟩:=Il (rC fuel n) cs.toList e l1 hl1 hlen.1 k xs hxs;cases he;have e1:∀ i (hi:i<xs.length),(gJ (bZ xs[i].1)).cells=bZ xs[i].1:=fun i hi=>Bt (Reads.cells_one (a1 i hi).1)
             refine⟨fun i hi=>?_,fun es hes h1=>?_⟩
             rotate_left
             ·cases hes;obtain⟨ty,hty⟩:=MQ hg hvar;refine⟨ty,?_⟩;have hk:xs.length=k:=by simpa using (mapM_some hxs).1
              rw[hty];have hsz:cs.size=k*P.cellsOf e:=by rw[← hlen.2,← hcn]; simp
              simp only[lH,VZ];rw[hsz,hk];rcases WN k with h0 | h0
              ·rw[h0,XR]
              ·have h2:=h1 (gJ (bZ xs[0].1)) (by simp only[lH,List.map_map]; exact Wm.2 ⟨xs[0],Wq (by omega),rfl⟩);rw[e1 0 (by omega),(a1 0 (by omega)).2.length,hlen.1] at h2;rw[h2,Xr]
             simp only[lH,VZ] at hi;obtain⟨b1,b2⟩:=a1 i hi;simp only[lH,Wn];rw[e1 i hi];refine⟨by rw[b2.length,hlen.1],DR b1 fun j hj=>?_⟩;have hj':=hj;simp only[VW,V5] at hj';simp only[WY,XM];have:=hcell (i*P.cellsOf e+j) (by omega)
             simpa using this
            ·cases htr
           ·cases hl
          ·cases hl
       ·cases hc
      ·split at hc
       ·rename_i l hl;cases hc;obtain⟨a1,_⟩:=rC fuel 50 t _ _ _ htr hl;exact⟨⟨_,rfl,DR a1 fun j hj=>by simpa using hcell j hj⟩,rfl,fun es he=>by cases he⟩
       ·cases hc
     ·exact FZ hG' hrest p hp
    ·cases h
end
section
variable {H:Type} {enc:TypeId×Value→H} {P:Program}
theorem zJ (hl:laidOutB P=true) {W W':World} (hb:Below W.heap.size W W'):∀ {ts:List TypeId} {vs:List Value} {ds:List (DataW H)} {ps:List MemPlace},
    (∀ t∈ts,P.readableRec t=true∧t<P.types.size)→DataW.TrodAll enc P W 0 (fun _=>true) true ts vs ds ps→DataW.TrodAll enc P W' 0 (fun b=>decide (b<W.heap.size)) true ts vs ds ps
  | [],[],[],_,_,h=>h
  | [],_::_,_,_,_,h=>by cases ‹List (DataW H)› <;> exact h.elim
  | [],[],_::_,_,_,h=>h.elim
  | _::_,[],ds,_,_,h=>by cases ds <;> exact h.elim
  | _::_,_::_,[],_,_,h=>h.elim
  | t::ts,v::vs,d::ds,ps,hr,h=>by
    obtain⟨p,q,a1,a2,rfl⟩:=h;have hlt:∀ x∈p,x.block<W.heap.size:=by obtain⟨m,hm⟩:=a1; exact DataW.trod_lt m _ _ _ hm
    exact⟨p,q,Below.trod hl (hr t (by simp)).1 (hr t (by simp)).2 a1 hb hlt,zJ hl hb (fun t ht=>hr t (by simp[ht])) a2,rfl⟩
theorem qm:∀ {ts:List TypeId} {vs:List Value} {ds:List (DataW H)} {ps:List MemPlace} {w:World} {b:Nat} {sp:Nat→Bool} {he:Bool},DataW.TrodAll enc P w b sp he ts vs ds ps→ds.length=ts.length
  | [],[],[],_,_,_,_,_,_=>rfl
  | [],_::_,ds,_,_,_,_,_,h=>by cases ds <;> exact h.elim
  | [],[],_::_,_,_,_,_,_,h=>h.elim
  | _::_,[],ds,_,_,_,_,_,h=>by cases ds <;> exact h.elim
  | _::_,_::_,[],_,_,_,_,_,h=>h.elim
  | t::ts,v::vs,d::ds,_,_,_,_,_,h=>by
    obtain⟨p,q,a1,a2,_⟩:=h;simp[qm a2]
theorem MR {f:FuncId} {fn:Func} {s:ChangeSpec} {ts:List TypeId} {ss:List jU} {tb:TypeId} (hts:fn.params.toList=ts) (hss:aT (pM P) ts=some ss) (hvars:s.vars=[])
    (hlay:laidOutB P=true) (hread:∀ t∈ts,P.readableRec t=true∧t<P.types.size) (hres:fn.resultTypes=#[tb]) (htb:P.underlying tb=some .bool)
    (hspec:∀ ds:List (DataW H),ds.length=ts.length→s.fn H ds={ results:=[.lit (.bool true)],args:=ds }) {G:ai}
    (den:∀ xs,aj na xs ss→au P G f xs (.w (.c (.d (.bool true)))))
    {W:World} {base:Nat} {args:Array Value} {ds gs:List (DataW H)} {before:List MemPlace}
    (hval:∀ (j:Nat) t v,fn.params[j]?=some t→args[j]?=some v→Value.okWide P W .any base t v) (hW:DataW.Whole enc P fn.params.toList s.vars false W args.toList ds gs before) (hG:iN G (fk W) W) :
    Calls P f args W fun e W'=>∃ v,e=.returned v∧s.post enc P fn false true false false W args v W':=by
  have hW':=hW;obtain⟨p,q,hA,hV,rfl,hfz,hnd⟩:=hW;rw[hts] at hA;obtain⟨xs,h1,h2⟩:=FY hss (fun j t v ht hv=>⟨base,hval j t v (by rw[← ht,← hts]; simp) (by rw[← hv]; simp)⟩) hA;have hg:gs=[]∧q=[]:=by
    rw[hvars] at hV;cases gs with
    | nil=>exact⟨rfl,hV⟩
    | cons _ _=>exact hV.elim
  obtain⟨rfl,rfl⟩:=hg;have hd:=den xs h2 W (fk W) args.toList (fun b i h=>h) hG h1;refine hd.mono ?_;rintro e W' ⟨v,S',bl,rfl,hb,_,_,hr⟩;have hv:v=.bool true:=by
    have:gB S' W' W.heap.size v (.d (.bool true)) bl:=hr;obtain⟨a,_⟩:=this;cases a;rfl
  subst hv;refine⟨_,rfl,ds,[],p++[],[],p,[],hW',?_,?_,?_,hb.frame _,fun h=>by cases h⟩
  ·rw[hres,Wc,hspec ds (qm hA)];exact trodAll_mk1 (shut_bool htb _)
  ·rw[hts,Wc,hspec ds (qm hA)];exact zJ hlay hb hread hA
  ·rw[Wc,hspec ds (qm hA),hvars];rfl
end
def tK:MemPlace→MemPlace→Bool
  | .cell a b,.cell c d=>a==c&&b==d
  | .map a,.map b=>a==b
  | _,_=>false
def rU:List MemPlace→Bool
  | []=>true
  | p::r=>!(r.any (tK p))&&rU r
theorem MS (p:MemPlace):tK p p=true:=by cases p <;> simp[tK]
theorem Bv:∀ {l:List MemPlace},rU l=true→l.Nodup
  | [],_=>.nil
  | p::r,h=>by
    simp only[rU,Wh,XN] at h;refine List.nodup_cons.2 ⟨fun hm=>?_,Bv h.2⟩;have:r.any (tK p)=true:=W9.2 ⟨p,hm,MS p⟩;rw[h.1] at this;cases this
def zeroCell:Sh→Value | .int k=>.int k 0 | .bool=>.bool false | .str=>.string ByteArray.empty | .sl _=>.slice none 0 0
def F0:jU→Value | .one s=>zeroCell s | .many l=>.agg (l.map zeroCell).toArray
mutual
def DT {H:Type}:DataW H→List Value
  | .lit (.bool b)=>[.bool b]
  | .lit (.int k n)=>[.int k n]
  | .lit (.string l)=>[.string ⟨l.toArray⟩]
  | .agg xs=>Io xs
  | _=>[]
def Io {H:Type}:List (DataW H)→List Value
  | []=>[]
  | x::r=>DT x++Io r
end
def Oc (P:Program) (l:List (String×DataW Unit)) (h:Array Obj):Array Obj :=
  l.foldl (fun h p=>match P.globalNamed p.1 with
    | some g=>h.modify g fun | .cells _ t fz=>.cells (DT p.2).toArray t fz | o=>o
    | none=>h) h
def oW (P:Program) (w:World) (fuel:Nat):List String→Option (List (DataW Unit)×List MemPlace)
  | []=>some ([],[])
  | n::r=>match P.globalNamed n with
    | none=>none
    | some g=>match (P.globals[g]?).map (·.type),w.var? P n with
      | some t,some cs=>match DataW.trod (fun _=>()) P w 0 (fun _=>true) false fuel t cs.toList,oW P w fuel r with
        | some (d,p),some (ds,q)=>some (d::ds,MemPlace.row ⟨g,0,none⟩ cs.size++p++q)
        | _,_=>none
      | _,_=>none
def DU (w:World):MemPlace→Bool
  | .cell b off=>(match w.heap[b]? with | some (.cells _ _ fz)=>fz==(0,0) | _=>false)&&(match w.cell? ⟨b,off,none⟩ with | some (.iface _ _)=>false | _=>true)
  | .map _=>true
theorem z6 {P:Program} {w:World} {fuel:Nat}:∀ {l:List (String×DataW Unit)} {ps:List MemPlace},oW P w fuel (l.map (·.1))=some (l.map (·.2),ps)→DataW.LaidVars P w l ps
  | [],ps,h=>by cases h; rfl
  | (n,d)::r,ps,h=>by
    simp only[VX,oW] at h;split at h
    ·cases h
    ·rename_i g hg;split at h
     ·rename_i t cs ht hcs;split at h
      ·rename_i d' p ds q htr hr;simp only[VT,XK,List.cons.injEq] at h;obtain⟨⟨rfl,rfl⟩,rfl⟩:=h;exact⟨g,t,cs,fuel,p,q,hg,ht,hcs,htr,z6 hr,rfl⟩
      ·cases h
     ·cases h
theorem LW {P:Program} {w:World} {l:List (String×DataW Unit)} (fuel:Nat) (ps:List MemPlace) (h:oW P w fuel (l.map (·.1))=some (l.map (·.2),ps)) (hn:rU ps=true) (hf:ps.all (DU w)=true):laidMet P l w:=by
  refine⟨ps,z6 h,Bv hn,fun b off hm=>?_⟩;have:=Wd.1 hf _ hm;simp only[DU,Wh] at this;obtain⟨h1,h2⟩:=this;constructor
  ·split at h1
   ·rename_i c t fz hc;have:fz=(0,0):=by simpa using h1
    subst this;exact⟨c,t,hc⟩
   ·cases h1
  ·intro u v hc;rw[hc] at h2;cases h2
theorem Lw {P:Program} {ts:List TypeId} (h:(ts.all fun t=>P.readableRec t&&decide (t<P.types.size))=true):∀ t∈ts,P.readableRec t=true∧t<P.types.size:=by
  intro t ht;have:=Wd.1 h t ht
  simpa using this
theorem MU {P:Program} {ps:Array TypeId} (h:(ps.toList.all fun t=>!P.wantsStandIn t)=true):∀ (j:Nat) t,ps[j]?=some t→P.wantsStandIn t=false:=by
  intro j t ht;have hm:t∈ps.toList:=by
    obtain⟨hj,rfl⟩:=V7.1 ht;simp
  simpa using Wd.1 h t hm
theorem qA {α β:Type} {R:α→β→Prop} {xs:List α} {y:β} {ys:List β} (h:aj R xs (y::ys)):∃ x r,xs=x::r∧R x y∧aj R r ys:=by
  cases h with
  | cons a b=>exact⟨_,_,rfl,a,b⟩
theorem Od {α β:Type} {R:α→β→Prop} {xs:List α} (h:aj R xs []):xs=[]:=by cases h; rfl
theorem Ip {k:IntKind} {x:D} (h:fh (.int k) x):∃ n,x=.int k n∧k.min≤n∧n≤k.max:=by
  cases x <;> simp only[fh] at h;obtain⟨rfl,h⟩:=h;exact⟨_,rfl,h⟩
theorem xr {x:D} (h:fh (.int .i64) x):∃ n:Int,x=.int .i64 n∧-9223372036854775808≤n∧n≤9223372036854775807:=Ip h
theorem UI {x:D} (h:fh (.int .u8) x):∃ n:UInt8,x=bD n:=by
  obtain⟨n,rfl,h1,h2⟩:=Ip h;have h1:0≤n:=h1;have h2:n≤255:=h2;refine⟨UInt8.ofNat n.toNat,?_⟩;unfold bD;rw[UInt8.toNat_ofNat_of_lt' (by simp only[UInt8.size]; omega)]
  congr 1; omega
theorem Iq {α:Type} (f:α→D) {P:D→Prop} (inv:∀ x,P x→∃ a,x=f a):∀ {es:List D},(∀ e∈es,P e)→∃ l:List α,es=l.map f
  | [],_=>⟨[],rfl⟩
  | e::es,h=>by
    obtain⟨a,rfl⟩:=inv e (h e (by simp));obtain⟨l,rfl⟩:=Iq f inv (es:=es) fun e he=>h e (by simp[he])
    exact⟨a::l,rfl⟩
theorem Sj {α:Type} (f:α→D) {s:Sh} (inv:∀ x,fh s x→∃ a,x=f a) {x:D} (h:fh (.sl [s]) x):∃ l:List α,x=.sl (l.map f)∧l.length≤maxLen:=by
  cases x <;> simp only[fh] at h;obtain⟨h1,h2⟩:=h;obtain⟨l,rfl⟩:=Iq f (P:=fun e=>e.one=true∧jT [s] e.cells) (fun e ⟨a,b⟩=>by
    rw[D.one_cells a] at b;exact inv e b.1) (fun e he=>⟨(h2 e he).1 rfl,(h2 e he).2.2⟩)
  exact⟨l,rfl,by simpa using h1⟩
theorem Oe {x:D} (h:fh (.sl [.int .u8]) x):∃ l:List UInt8,x=.sl (l.map bD)∧l.length≤maxLen:=Sj bD (fun _=>UI) h
end Go.Proofs.YtlghfnidknfakaaGreatDoor
namespace Go.Proofs.YtlghfnidknfakaaGreatDoor
open Go.RowKit
section
variable {P:Program} {G:ai} {H:Hint}
def D.up:D→W
  | .ref cs=>.c (.rp cs)
  | x=>.c (.d x)
end
end Go.Proofs.YtlghfnidknfakaaGreatDoor
