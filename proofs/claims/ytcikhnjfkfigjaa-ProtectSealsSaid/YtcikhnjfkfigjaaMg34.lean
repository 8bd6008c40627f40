/- Texts of one's own, merged: from: The plain logic (15): operations of a region in any order that its edges allow. Own work. -/
import Derived.Test.YtcikhnjfkfigjaaMg33
set_option linter.unusedVariables false
set_option linter.unusedSimpArgs false
namespace Go.Proofs.Ytcikhnjfkfigjaa
open Go.RowKit
def oX:Option SX→List SX | some x=>[x] | none=>[]
def SOp.xs:SOp→List SX
  | .mv x=>[x]
  | .nilOwn _=>[]
  | .pick c a b=>[c,a,b]
  | .alloc _=>[]
  | .allocArr _=>[]
  | .box _ x=>[x]
  | .build _ ps=>ps.map fun p=>p.2.2
  | .bldSl _ _ _ _ ps=>ps.map fun p=>p.2
  | .bldFz _ _ _ ps=>ps.map fun p=>p.2
  | .buildF _ ps=>ps.map fun p=>p.2.2
  | .load _ x=>[x]
  | .loadB _ x=>[x]
  | .loadX _ x ex=>x::ex
  | .store _ x y=>[x,y]
  | .bin _ x y=>[x,y]
  | .eqB _ x y=>[x,y]
  | .eqA _ _ x y=>[x,y]
  | .un _ x=>[x]
  | .conv _ x=>[x]
  | .b2s x=>[x]
  | .s2b _ x=>[x]
  | .make _ _ _ l c=>[l,c]
  | .slice _ x lo hi mx=>x::oX lo++oX hi++oX mx
  | .sliceStr x lo hi=>x::oX lo++oX hi
  | .sliceArr _ _ x lo hi=>x::oX lo++oX hi
  | .fieldAddr _ x=>[x]
  | .field _ _ x=>[x]
  | .idxSl _ x i=>[x,i]
  | .idxPa _ _ x i=>[x,i]
  | .idxArr _ _ _ x i=>[x,i]
  | .idxStr x i=>[x,i]
  | .extract x _=>[x]
  | .len x=>[x]
  | .lenStr x=>[x]
  | .lenArr _=>[]
  | .app _ _ _ x y=>[x,y]
  | .appN _ _ _ x y=>[x,y]
  | .copy _ x y=>[x,y]
  | .min xs=>xs
  | .max xs=>xs
  | .mark x=>[x]
  | .frz x=>[x]
  | .markF x=>[x]
  | .clos _ xs=>xs
  | .call _ xs _=>xs
  | .closM _ xs ys=>xs++ys
  | .callM _ xs=>xs
  | .nilChk x=>[x]
def SOp.cls:SOp→Nat
  | .nilOwn _ | .alloc _ | .allocArr _ | .make .. | .appN ..=>2
  | .box m _=>match m with | .ownBox | .ownArr=>2 | _=>0
  | .bldSl own ..=>if own then 2 else 0
  | .s2b own _=>if own then 2 else 0
  | .loadX _ _ ex=>if ex.isEmpty then 0 else 1
  | .load .. | .loadB .. | .b2s _ | .sliceArr .. | .mark _=>1
  | .store .. | .app .. | .copy .. | .frz _ | .markF _ | .bldFz .. | .buildF .. | .callM ..=>3
  | .call _ _ none=>1
  | .call _ _ (some (_,0))=>0
  | .call _ _ (some (_,_+1))=>2
  | _=>0
def SX.slot:SX→Option Nat | .t n=>some n | _=>none
def SX.kok:SX→Bool | .k v=>v.ids.isEmpty | _=>true
def SOper.looks (o:SOper):List Nat:=o.op.xs.filterMap SX.slot++(match o.guard with | some (t,_)=>[t] | none=>[])
def SOper.apart (x y:SOper):Bool :=
  (match x.dst with | some d=>!y.looks.contains d&&y.dst != some d | none=>true)&&(match y.dst with | some d=>!x.looks.contains d | none=>true)
def SOper.sound (o:SOper):Bool:=o.op.xs.all SX.kok&&(o.op.cls != 2 || o.dst.isSome)
def SOp.isLB:SOp→Bool | .loadB ..=>true | _=>false
def SOp.isApp:SOp→Bool | .app ..=>true | _=>false
def SOp.stL:SOp→SOp→Bool
  | .store _ (.t n) _,.loadX _ _ ex=>(ex.filterMap SX.slot).contains n
  | _,_=>false
def SOp.isAlc:SOp→Bool | .alloc _=>true | _=>false
def SOper.plain (o:SOper):Bool:=o.guard.isNone&&o.dst.isSome
def SOper.indep (x y:SOper):Bool:=x.apart y&&(x.op.cls==0 || y.op.cls==0 || (decide (x.op.cls≤2)&&decide (y.op.cls≤2)) || (x.op.isLB&&y.op.isApp) || (x.op.isApp&&y.op.isLB) || (((x.op.isApp&&y.op.isAlc) || (x.op.isAlc&&y.op.isApp))&&(x.plain&&y.plain)) || (x.op.stL y.op || y.op.stL x.op))&&x.sound&&y.sound
section
variable {P:Program} {G:Glob}
def opR (P:Program) (G:Glob) (s:SOp) (ρ:SX→V) (h:Heap) (u:Nat→Bool) (dst:Nat) (r:R):Prop :=
  match s with
  | .call f xs own=>∃ res,CallOk P G h f (xs.map ρ) res∧OwnOk h (xs.map ρ) res∧PureOk own (xs.map ρ)∧impV h u dst own res=some r
  | .callM f xs=>CallM P G h u f (xs.map ρ) r
  | s=>ef ρ h u dst s=some r
theorem opw_iff {s:SOp} {ρ:SX→V} {h:Heap} {u:Nat→Bool} {dst:Nat} {J:R→Prop}:opw P G s ρ h u dst J↔∃ r,opR P G s ρ h u dst r∧J r:=by
  have ne:∀ {x:Option R},(match x with | some r=>J r | none=>False)↔∃ r,x=some r∧J r:=by
    intro x
    cases x <;> simp
  cases s with
  | call f xs own =>
    constructor
    ·rintro⟨res,h2,h3,hp,h4⟩
     obtain⟨r,hr,h4⟩:=ne.1 h4
     exact⟨r,⟨res,h2,h3,hp,hr⟩,h4⟩
    ·rintro⟨r,⟨res,h2,h3,hp,hr⟩,h4⟩
     exact⟨res,h2,h3,hp,ne.2 ⟨r,hr,h4⟩⟩
  | callM f xs=>exact Iff.rfl
  | mv x=>exact @ne (ef ρ h u dst (.mv x))
  | lenArr n=>exact @ne (ef ρ h u dst (.lenArr n))
  | _=>exact @ne (ef ρ h u dst _)
def outR (P:Program) (G:Glob) (o:SOper) (σ:St) (r:R):Prop :=
  match o.guard with
  | none=>opR P G o.op (ev G σ.f) σ.h σ.u (o.dst.getD 0) r
  | some (t,want)=>(∃ b,asB (σ.f t)=some b∧((b=want∧opR P G o.op (ev G σ.f) σ.h σ.u (o.dst.getD 0) r)∨(b≠want∧r=(.tup [],σ.h,σ.u))))∨(σ.f t=.tup []∧r=(.tup [],σ.h,σ.u))
theorem aop_iff {o:SOper} {K:St→Prop} {σ:St}:aop P G o K σ↔∃ r,outR P G o σ r∧K (σ.put o.dst r):=by
  unfold aop outR
  cases hg:o.guard with
  | none=>exact opw_iff
  | some p =>
    obtain⟨t,want⟩:=p
    cases hb:asB (σ.f t) with
    | none =>
      simp only[hb]
      constructor
      ·rintro⟨h1,h2⟩
       exact⟨_,.inr ⟨h1,rfl⟩,h2⟩
      ·rintro⟨r,h1,h2⟩
       rcases h1 with ⟨b,h1,_⟩ | ⟨h1,rfl⟩
       ·cases h1
       ·exact⟨h1,h2⟩
    | some b =>
      have hne:¬ σ.f t=.tup []:=fun e=>by rw[e] at hb; cases hb
      simp only[hb,opw_iff,Option.some.injEq,exists_eq_left',hne,false_and,or_false]
      by_cases e:b=want
      ·simp[e]
      ·simp[e]
end
theorem parts_congr {ρ ρ':SX→V}:∀ {ps:List (Nat×Nat×SX)} {cs:List C},(∀ x∈ps.map (fun p=>p.2.2),ρ' x=ρ x)→parts ρ' ps cs=parts ρ ps cs
  | [],_,_=>rfl
  | (off,size,x)::r,cs,h=>by
    simp only[List.map_cons,List.mem_cons,forall_eq_or_imp] at h
    simp only[parts,h.1]
    split
    ·split
     ·exact parts_congr h.2
     ·rfl
    ·rfl
theorem elems_congr {ρ ρ':SX→V} {sz:Nat}:∀ {ps:List (Nat×SX)} {es:List D},(∀ x∈ps.map (fun p=>p.2),ρ' x=ρ x)→elems ρ' sz ps es=elems ρ sz ps es
  | [],_,_=>rfl
  | (i,x)::r,es,h=>by
    simp only[List.map_cons,List.mem_cons,forall_eq_or_imp] at h
    simp only[elems,h.1]
    split
    ·split
     ·exact elems_congr h.2
     ·rfl
    ·rfl
theorem ints_congr {ρ ρ':SX→V}:∀ {xs:List SX},(∀ x∈xs,ρ' x=ρ x)→ints ρ' xs=ints ρ xs
  | [],_=>rfl
  | [x],h=>by simp only[ints,h x (by simp)]
  | x::y::r,h=>by
    simp only[List.mem_cons,forall_eq_or_imp] at h
    have:=ints_congr (ρ:=ρ) (ρ':=ρ') (xs:=y::r) (by simpa using h.2)
    simp only[ints,h.1,this]
theorem bound_congr {ρ ρ':SX→V} {x:Option SX} {d:Nat} (h:∀ y∈oX x,ρ' y=ρ y):bound ρ' x d=bound ρ x d:=by
  cases x with
  | none=>rfl
  | some x=>simp only[bound,h x (by simp[oX])]
theorem ef_congr {ρ ρ':SX→V} {h:Heap} {u:Nat→Bool} {dst:Nat} {s:SOp} (hx:∀ x∈s.xs,ρ' x=ρ x):ef ρ' h u dst s=ef ρ h u dst s:=by
  cases s <;> simp only[SOp.xs,List.mem_cons,List.mem_append,forall_eq_or_imp,List.not_mem_nil,or_imp,forall_and,false_imp_iff,implies_true,and_true] at hx
  case build z ps=>simp only[ef,parts_congr (ρ:=ρ) (ρ':=ρ') hx]
  case bldSl own n sz z ps=>simp only[ef,elems_congr (ρ:=ρ) (ρ':=ρ') hx]
  case bldFz n sz z ps =>
    have h1:∀ x∈ps.map (fun p=>p.2),(fun x=>frzV h (ρ' x)) x=(fun x=>frzV h (ρ x)) x:=fun x hm=>by show frzV h (ρ' x)=_; rw[hx x hm]
    have h2:(ps.flatMap fun p=>cellsV (ρ' p.2))=ps.flatMap fun p=>cellsV (ρ p.2):=by
      rw[List.flatMap_def,List.flatMap_def]
      congr 1
      exact List.map_congr_left fun p hp=>by rw[hx p.2 (List.mem_map.2 ⟨p,hp,rfl⟩)]
    simp only[ef,elems_congr (ρ:=fun x=>frzV h (ρ x)) (ρ':=fun x=>frzV h (ρ' x)) h1,h2]
  case buildF z ps =>
    have h1:∀ x∈ps.map (fun p=>p.2.2),(fun x=>frzV h (ρ' x)) x=(fun x=>frzV h (ρ x)) x:=fun x hm=>by show frzV h (ρ' x)=_; rw[hx x hm]
    have h2:(ps.flatMap fun p=>cellsV (ρ' p.2.2))=ps.flatMap fun p=>cellsV (ρ p.2.2):=by
      rw[List.flatMap_def,List.flatMap_def]
      congr 1
      exact List.map_congr_left fun p hp=>by rw[hx p.2.2 (List.mem_map.2 ⟨p,hp,rfl⟩)]
    simp only[ef,parts_congr (ρ:=fun x=>frzV h (ρ x)) (ρ':=fun x=>frzV h (ρ' x)) h1,h2]
  case min xs=>simp only[ef,ints_congr (ρ:=ρ) (ρ':=ρ') hx]
  case max xs=>simp only[ef,ints_congr (ρ:=ρ) (ρ':=ρ') hx]
  case clos f xs =>
    have:xs.map ρ'=xs.map ρ:=List.map_congr_left hx
    simp only[ef,this]
  case closM f xs ys =>
    have h1:xs.map ρ'=xs.map ρ:=List.map_congr_left hx.1
    have h2:ys.map ρ'=ys.map ρ:=List.map_congr_left hx.2
    simp only[ef,h1,h2]
  case loadX kd x ex =>
    have:ex.map ρ'=ex.map ρ:=List.map_congr_left hx.2
    simp only[ef,hx.1,this]
  case slice sz x lo hi mx=>simp only[ef,hx.1.1.1 x rfl,bound_congr (ρ:=ρ) (ρ':=ρ') hx.1.1.2,bound_congr (ρ:=ρ) (ρ':=ρ') hx.1.2,bound_congr (ρ:=ρ) (ρ':=ρ') hx.2]
  case sliceStr x lo hi=>simp only[ef,hx.1.1 x rfl,bound_congr (ρ:=ρ) (ρ':=ρ') hx.1.2,bound_congr (ρ:=ρ) (ρ':=ρ') hx.2]
  case sliceArr sz n x lo hi=>simp only[ef,hx.1.1 x rfl,bound_congr (ρ:=ρ) (ρ':=ρ') hx.1.2,bound_congr (ρ:=ρ) (ρ':=ρ') hx.2]
  all_goals (simp only[ef,idx,hx])
theorem ldV_congr {h h2:Heap} {kd:Kd} {x:V} (e:∀ id∈x.ids,h2 id=h id):ldV h2 kd x=ldV h kd x:=by
  cases x with
  | w y =>
    cases y with
    | c c=>cases c with
      | d x=>cases x <;> rfl
      | _=>simp only[V.ids,W.ids,C.ids,List.mem_singleton,forall_eq] at e <;> simp only[ldV,e]
    | mix cs=>rfl
  | _=>rfl
theorem pure_op {ρ:SX→V} {h:Heap} {u:Nat→Bool} {dst:Nat} {s:SOp} {r:R} (hc:s.cls=0) (e:ef ρ h u dst s=some r):∃ v,r=(v,h,u)∧∀ h2 u2,ef ρ h2 u2 dst s=some (v,h2,u2):=by
  have mp:∀ {α:Type} {x:Option α} {g:α→V},(x.map fun y=>((g y,h,u):R))=some r→∃ v,r=(v,h,u)∧∀ (h2:Heap) (u2:Nat→Bool),(x.map fun y=>((g y,h2,u2):R))=some (v,h2,u2):=by
    intro α x g e
    cases x with
    | none=>cases e
    | some y=>cases e; exact⟨_,rfl,fun _ _=>rfl⟩
  cases s <;> simp only[SOp.cls] at hc <;> first | (simp at hc; done) | skip
  case mv x=>cases e; exact⟨_,rfl,fun _ _=>rfl⟩
  case pick c a b=>exact mp e
  case box m x =>
    simp only[ef] at e ⊢
    cases hy:asW (ρ x) with
    | none=>rw[hy] at e; cases e
    | some y =>
      rw[hy] at e
      cases m <;> first | (simp at hc; done) | skip
      ·exact mp e
      ·simp only at e ⊢
       split at e
       ·cases e; exact⟨_,rfl,fun _ _=>rfl⟩
       ·cases e
  case build z ps=>exact mp e
  case clos f xs=>exact mp e
  case closM f xs ys =>
    simp only[ef] at e ⊢
    split at e
    ·cases e; exact⟨_,rfl,fun _ _=>rfl⟩
    ·cases e
  case nilChk x =>
    simp only[ef] at e ⊢
    split at e
    ·rename_i hp; cases e; exact⟨_,rfl,fun _ _=>by rw[if_pos hp]⟩
    ·cases e
  case loadX kd x ex =>
    simp only[ef] at e ⊢
    cases hy:ldX h kd (ex.map ρ) (ρ x) with
    | none=>rw[hy] at e; cases e
    | some y =>
      rw[hy] at e
      cases e
      refine⟨_,rfl,fun h2 u2=>?_⟩
      obtain⟨hd,hl⟩:=ldX_ld hy
      have he:ex=[]:=by
        cases ex with
        | nil=>rfl
        | cons a l=>simp at hc
      have h0:=(disV_spec hd).1 (by rw[he]; rfl)
      unfold ldX
      rw[if_pos hd,ldV_congr (h:=h) (h2:=h2) (fun id hid=>by rw[h0] at hid; cases hid),hl]
      rfl
  case bldSl own n sz z ps =>
    cases own <;> first | (simp at hc; done) | skip
    simp only[ef] at e ⊢
    cases hy:elems ρ sz ps (List.replicate n z) with
    | none=>rw[hy] at e; cases e
    | some es=>rw[hy] at e; cases e; exact⟨_,rfl,fun _ _=>rfl⟩
  case bin op x y=>exact mp e
  case eqA neg ks x y=>exact mp e
  case eqB neg x y =>
    simp only[ef] at e ⊢
    split at e
    ·cases e; exact⟨_,rfl,fun _ _=>rfl⟩
    ·cases e
  case un op x=>exact mp e
  case conv k x =>
    simp only[ef] at e ⊢
    cases hy:asI (ρ x) with
    | none=>rw[hy] at e; cases e
    | some p=>rw[hy] at e; cases e; exact⟨_,rfl,fun _ _=>rfl⟩
  case s2b own x =>
    cases own <;> first | (simp at hc; done) | skip
    simp only[ef] at e ⊢
    split at e
    ·split at e
     ·simp only[Bool.false_eq_true,if_false] at e ⊢
      cases e
      rename_i hle
      simp only[if_pos hle]
      exact⟨_,rfl,fun _ _=>rfl⟩
     ·cases e
    ·cases e
  case slice sz x lo hi mx =>
    simp only[ef] at e ⊢
    cases h1:lenV' (ρ x) with
    | none=>rw[h1] at e; cases e
    | some n =>
      simp only[h1] at e ⊢
      cases h2:bound ρ lo 0 with
      | none=>rw[h2] at e; cases e
      | some l =>
        cases h3:bound ρ hi n with
        | none=>rw[h2,h3] at e; cases e
        | some k =>
          simp only[h2,h3] at e ⊢
          cases h4:bound ρ mx n with
          | none=>rw[h4] at e; cases e
          | some m =>
            simp only[h4] at e ⊢
            split at e
            ·rename_i hk
             simp only[if_pos hk]
             exact mp e
            ·cases e
  case sliceStr x lo hi =>
    simp only[ef] at e ⊢
    split at e
    ·split at e
     ·split at e
      ·rename_i hk
       cases e
       simp only[if_pos hk]
       exact⟨_,rfl,fun _ _=>rfl⟩
      ·cases e
     ·cases e
    ·cases e
  case fieldAddr off x=>exact mp e
  case field off kd x =>
    simp only[ef] at e ⊢
    split at e
    ·exact mp e
    ·cases e
  case idxSl sz x i =>
    simp only[ef] at e ⊢
    split at e
    ·split at e
     ·split at e
      ·split at e
       ·rename_i hk
        cases e
        simp only[if_pos hk]
        exact⟨_,rfl,fun _ _=>rfl⟩
       ·cases e
      ·cases e
     ·cases e
    ·split at e
     ·split at e
      ·rename_i hk
       cases e
       simp only[if_pos hk]
       exact⟨_,rfl,fun _ _=>rfl⟩
      ·cases e
     ·cases e
    ·cases e
  case idxPa sz n x i =>
    simp only[ef] at e ⊢
    split at e
    ·cases e
    ·split at e
     ·split at e
      ·rename_i hk
       cases e
       simp only[if_pos hk]
       exact⟨_,rfl,fun _ _=>rfl⟩
      ·cases e
     ·split at e
      ·split at e
       ·rename_i hk
        cases e
        simp only[if_pos hk]
        exact⟨_,rfl,fun _ _=>rfl⟩
       ·cases e
      ·cases e
     ·cases e; exact⟨_,rfl,fun _ _=>rfl⟩
     ·cases e; exact⟨_,rfl,fun _ _=>rfl⟩
     ·cases e
  case idxArr sz n kd x i =>
    simp only[ef] at e ⊢
    split at e
    ·exact mp e
    ·cases e
  case idxStr x i =>
    simp only[ef] at e ⊢
    split at e
    ·split at e
     ·exact mp e
     ·cases e
    ·cases e
  case extract x i =>
    simp only[ef] at e ⊢
    split at e
    ·exact mp e
    ·cases e
  case len x=>exact mp e
  case lenStr x =>
    simp only[ef] at e ⊢
    split at e
    ·cases e; exact⟨_,rfl,fun _ _=>rfl⟩
    ·cases e
  case lenArr n=>cases e; exact⟨_,rfl,fun _ _=>rfl⟩
  case min xs =>
    simp only[ef] at e ⊢
    cases hy:ints ρ xs with
    | none=>rw[hy] at e; cases e
    | some p=>rw[hy] at e; cases e; exact⟨_,rfl,fun _ _=>rfl⟩
  case max xs =>
    simp only[ef] at e ⊢
    cases hy:ints ρ xs with
    | none=>rw[hy] at e; cases e
    | some p=>rw[hy] at e; cases e; exact⟨_,rfl,fun _ _=>rfl⟩
  case call f xs own=>cases e
theorem ldB_congr {h h2:Heap} {kd:Kd} {x:V} (e:∀ id∈x.ids,h2 id=h id):ldB h2 kd x=ldB h kd x:=by
  cases x with
  | w y =>
    cases y with
    | c c=>cases c with
      | d x=>cases x <;> rfl
      | _=>simp only[V.ids,W.ids,C.ids,List.mem_singleton,forall_eq] at e <;> simp only[ldB,e]
    | mix cs=>rfl
  | _=>rfl
theorem ldB_box {h h2:Heap} {kd:Kd} {x:V} {y:W} (hl:ldB h kd x=some y) (e:∀ id∈x.ids,∀ cs,h id=some (.box cs)→h2 id=some (.box cs)):ldB h2 kd x=some y:=by
  unfold ldB at hl ⊢
  split at hl
  ·split at hl
   ·rename_i id sz i o ob cs hid
    have:=e id (by simp[V.ids,W.ids,C.ids]) cs hid
    simp only[this]
    exact hl
   ·cases hl
  ·exact hl
  ·exact hl
  ·exact hl
  ·cases hl
theorem toD_congr {h h2:Heap} {c:C} (e:∀ id∈c.ids,h2 id=h id):toD h2 c=toD h c:=by
  cases c <;> simp only[C.ids,List.mem_singleton,forall_eq] at e <;> simp only[toD,e]
theorem toDs_congr {h h2:Heap}:∀ {cs:List C},(∀ id∈cs.flatMap C.ids,h2 id=h id)→toDs h2 cs=toDs h cs
  | [],_=>rfl
  | c::r,e=>by
    simp only[List.flatMap_cons,List.mem_append] at e
    simp only[toDs,toD_congr (h:=h) (h2:=h2) fun id hid=>e id (.inl hid),toDs_congr (h:=h) (h2:=h2) fun id hid=>e id (.inr hid)]
theorem toV_congr {h h2:Heap} {x:V} (e:∀ id∈x.ids,h2 id=h id):toV h2 x=toV h x:=by
  cases x with
  | w y =>
    cases y with
    | c c=>exact toD_congr e
    | mix cs=>simp only[toV,toW,toDs_congr (h:=h) (h2:=h2) e]
  | _=>rfl
theorem toVs_congr {h h2:Heap}:∀ {vs:List V},(∀ v∈vs,∀ id∈v.ids,h2 id=h id)→toVs h2 vs=toVs h vs
  | [],_=>rfl
  | v::r,e=>by
    simp only[List.mem_cons,forall_eq_or_imp] at e
    simp only[toVs,toV_congr (h:=h) (h2:=h2) e.1,toVs_congr (h:=h) (h2:=h2) e.2]
theorem read_op {ρ:SX→V} {h:Heap} {u:Nat→Bool} {dst:Nat} {s:SOp} {r:R} (hc:s.cls=1) (hs:∀ f xs own,s≠.call f xs own) (e:ef ρ h u dst s=some r) :
    ∃ v,r=(v,h,u)∧∀ h2 u2,(∀ x∈s.xs,∀ id∈(ρ x).ids,h2 id=h id)→ef ρ h2 u2 dst s=some (v,h2,u2):=by
  cases s <;> simp only[SOp.cls] at hc <;> first | (simp at hc; done) | skip
  case box m x=>cases m <;> simp at hc
  case bldSl own n sz z ps=>cases own <;> simp at hc
  case s2b own x=>cases own <;> simp at hc
  case load kd x =>
    simp only[ef] at e ⊢
    cases hy:ldV h kd (ρ x) with
    | none=>rw[hy] at e; cases e
    | some y =>
      rw[hy] at e
      cases e
      refine⟨_,rfl,fun h2 u2 hag=>?_⟩
      rw[ldV_congr (hag x (by simp[SOp.xs])),hy]
      rfl
  case loadB kd x =>
    simp only[ef] at e ⊢
    cases hy:ldB h kd (ρ x) with
    | none=>rw[hy] at e; cases e
    | some y =>
      rw[hy] at e
      cases e
      refine⟨_,rfl,fun h2 u2 hag=>?_⟩
      rw[ldB_congr (hag x (by simp[SOp.xs])),hy]
      rfl
  case loadX kd x ex =>
    simp only[ef] at e ⊢
    cases hy:ldX h kd (ex.map ρ) (ρ x) with
    | none=>rw[hy] at e; cases e
    | some y =>
      rw[hy] at e
      cases e
      refine⟨_,rfl,fun h2 u2 hag=>?_⟩
      obtain⟨hd,hl⟩:=ldX_ld hy
      unfold ldX
      rw[if_pos hd,ldV_congr (hag x (by simp[SOp.xs])),hl]
      rfl
  case b2s x =>
    simp only[ef] at e ⊢
    cases hy:toV h (ρ x) with
    | none=>rw[hy] at e; cases e
    | some y =>
      rw[hy] at e
      cases y with
      | sl es =>
        simp only[Option.map_eq_some_iff] at e
        obtain⟨l,hl,rfl⟩:=e
        refine⟨_,rfl,fun h2 u2 hag=>?_⟩
        rw[toV_congr (hag x (by simp[SOp.xs])),hy]
        simp only[hl]
        rfl
      | _=>cases e
  case mark x =>
    simp only[ef] at e ⊢
    cases hx:ρ x with
    | w y =>
      rw[hx] at e
      cases y with
      | c c =>
        cases c with
        | own id sz off n =>
          simp only at e
          cases ho:h id with
          | none=>rw[ho] at e; cases e
          | some ob =>
            rw[ho] at e
            cases ob with
            | row s0 es =>
              simp only at e
              split at e
              ·rename_i hk2
               cases e
               refine⟨_,rfl,fun h2 u2 hag=>?_⟩
               have:=hag x (by simp[SOp.xs]) id (by rw[hx]; simp[V.ids,W.ids,C.ids])
               simp only[this,ho,if_pos hk2]
              ·cases e
            | box cs=>cases e
        | _=>cases e
      | mix cs=>cases e
    | _=>rw[hx] at e; cases e
  case sliceArr sz n x lo hi =>
    simp only[ef] at e ⊢
    cases h2:bound ρ lo 0 with
    | none=>rw[h2] at e; cases e
    | some l =>
      cases h3:bound ρ hi n with
      | none=>rw[h2,h3] at e; cases e
      | some k =>
        simp only[h2,h3] at e ⊢
        split at e
        ·rename_i hk
         simp only[if_pos hk]
         cases hx:ρ x with
         | w y =>
           rw[hx] at e
           cases y with
           | c c =>
             cases c with
             | pa id sz' =>
               simp only at e
               cases ho:h id with
               | none=>rw[ho] at e; cases e
               | some ob =>
                 rw[ho] at e
                 cases ob with
                 | row s0 es =>
                   simp only at e
                   split at e
                   ·rename_i hk2
                    cases e
                    refine⟨_,rfl,fun h2 u2 hag=>?_⟩
                    have:=hag x (by simp[SOp.xs]) id (by rw[hx]; simp[V.ids,W.ids,C.ids])
                    simp only[this,ho,if_pos hk2]
                   ·cases e
                 | box cs=>cases e
             | ra es =>
               simp only at e
               split at e
               ·rename_i hk2
                cases e
                refine⟨_,rfl,fun h2 u2 hag=>?_⟩
                simp only[if_pos hk2]
               ·cases e
             | ptr id sz' i o =>
               simp only at e
               cases ho:h id with
               | none=>rw[ho] at e; cases e
               | some ob =>
                 rw[ho] at e
                 cases ob with
                 | row s0 es=>cases e
                 | box cs =>
                   simp only at e
                   split at e
                   ·rename_i hk2
                    cases e
                    refine⟨_,rfl,fun h2 u2 hag=>?_⟩
                    have:=hag x (by simp[SOp.xs]) id (by rw[hx]; simp[V.ids,W.ids,C.ids])
                    simp only[this,ho,if_pos hk2]
                   ·cases e
             | _=>cases e
           | mix cs=>cases e
         | _=>rw[hx] at e; cases e
        ·cases e
  case call f xs own=>exact absurd rfl (hs _ _ _)
theorem newO_some {h:Heap} {u:Nat→Bool} {dst:Nat} {o:Ob} {c:C} {r:R} (e:newO h u dst o c=some r):u (8*dst)=false∧r=(.w (.c c),upd h (8*dst) (some o),upd u (8*dst) true):=by
  unfold newO at e
  split at e
  ·cases e
  ·rename_i hu
   cases e
   exact⟨by simpa using hu,rfl⟩
theorem newO_at {h:Heap} {u:Nat→Bool} {dst:Nat} {o:Ob} {c:C} (hu:u (8*dst)=false):newO h u dst o c=some (.w (.c c),upd h (8*dst) (some o),upd u (8*dst) true):=by
  unfold newO
  rw[if_neg (by simp[hu])]
theorem appN_op {ρ:SX→V} {h:Heap} {u:Nat→Bool} {dst:Nat} {str:Bool} {sz byt:Nat} {x y:SX} {r:R} (e:ef ρ h u dst (.appN str sz byt x y)=some r) :
    ∃ v ob,u (8*dst)=false∧r=(v,upd h (8*dst) (some ob),upd u (8*dst) true)∧∀ (h2:Heap) (u2:Nat→Bool),(∀ id∈(ρ y).ids,h2 id=h id)→u2 (8*dst)=false→ef ρ h2 u2 dst (.appN str sz byt x y)=some (v,upd h2 (8*dst) (some ob),upd u2 (8*dst) true):=by
  have src:∀ h2:Heap,(∀ id∈(ρ y).ids,h2 id=h id)→srcV h2 str (ρ y)=srcV h str (ρ y):=by
    intro h2 hag
    cases str with
    | true=>cases hy:ρ y with
      | w c=>cases c with
        | c d=>cases d with
          | d x=>cases x <;> rfl
          | _=>rfl
        | mix _=>rfl
      | _=>rfl
    | false=>simp only[srcV,toV_congr hag]
  simp only[ef] at e ⊢
  split at e
  ·cases e
  ·rename_i ys hys
   split at e
   ·rename_i hsz
    split at e
    ·split at e
     ·rename_i hk
      obtain⟨h1,h2⟩:=newO_some e
      refine⟨_,_,h1,h2,fun h2 u2 hag hu=>?_⟩
      simp only[src h2 hag,hys,if_pos hsz,if_pos hk]
      exact newO_at hu
     ·cases e
    ·cases e
   ·cases e
theorem new_op {ρ:SX→V} {h:Heap} {u:Nat→Bool} {dst:Nat} {s:SOp} {r:R} (hc:s.cls=2) (hs:∀ f xs own,s≠.call f xs own) (hs2:∀ a b c x y,s≠.appN a b c x y) (e:ef ρ h u dst s=some r) :
    ∃ v ob,u (8*dst)=false∧r=(v,upd h (8*dst) (some ob),upd u (8*dst) true)∧∀ h2 u2,u2 (8*dst)=false→ef ρ h2 u2 dst s=some (v,upd h2 (8*dst) (some ob),upd u2 (8*dst) true):=by
  have nw:∀ {o:Ob} {c:C},newO h u dst o c=some r→∃ v ob,u (8*dst)=false∧r=(v,upd h (8*dst) (some ob),upd u (8*dst) true)∧∀ (h2:Heap) (u2:Nat→Bool),u2 (8*dst)=false→newO h2 u2 dst o c=some (v,upd h2 (8*dst) (some ob),upd u2 (8*dst) true):=by
    intro o c e
    obtain⟨h1,h2⟩:=newO_some e
    exact⟨_,_,h1,h2,fun h2 u2 hu=>newO_at hu⟩
  cases s <;> simp only[SOp.cls] at hc <;> first | (simp at hc; done) | skip
  case loadX kd x ex=>split at hc <;> omega
  case nilOwn sz=>exact nw e
  case alloc cs=>exact nw e
  case allocArr es=>exact nw e
  case box m x =>
    simp only[ef] at e ⊢
    cases hy:asW (ρ x) with
    | none=>rw[hy] at e; cases e
    | some y =>
      rw[hy] at e
      cases m <;> first | (simp at hc; done) | skip
      ·exact nw e
      ·simp only at e ⊢
       split at e
       ·exact nw e
       ·cases e
  case bldSl own n sz z ps =>
    cases own <;> first | (simp at hc; done) | skip
    simp only[ef] at e ⊢
    cases hy:elems ρ sz ps (List.replicate n z) with
    | none=>rw[hy] at e; cases e
    | some es=>rw[hy] at e; exact nw e
  case s2b own x =>
    cases own <;> first | (simp at hc; done) | skip
    simp only[ef] at e ⊢
    split at e
    ·split at e
     ·rename_i hle
      simp only[if_pos hle]
      exact nw e
     ·cases e
    ·cases e
  case make sz byt z l c =>
    simp only[ef] at e ⊢
    split at e
    ·split at e
     ·rename_i hle
      simp only[if_pos hle]
      exact nw e
     ·cases e
    ·cases e
  case appN a b c x y=>exact absurd rfl (hs2 _ _ _ _ _)
  case call f xs own=>exact absurd rfl (hs _ _ _)
section
variable {P:Program} {G:Glob}
def setO (h:Heap) (id:Nat):Option Ob→Heap | some o=>upd h id (some o) | none=>h
def setU (u:Nat→Bool) (id:Nat):Option Ob→Nat→Bool | some _=>upd u id true | none=>u
theorem opR_congr {s:SOp} {ρ ρ':SX→V} {h:Heap} {u:Nat→Bool} {dst:Nat} {r:R} (hx:∀ x∈s.xs,ρ' x=ρ x) (e:opR P G s ρ h u dst r):opR P G s ρ' h u dst r:=by
  cases s with
  | call f xs own =>
    have:xs.map ρ'=xs.map ρ:=List.map_congr_left hx
    simp only[opR,this]
    exact e
  | callM f xs =>
    have:xs.map ρ'=xs.map ρ:=List.map_congr_left hx
    simp only[opR,this]
    exact e
  | _ =>
    show ef _ _ _ _ _=_
    rw[ef_congr hx]
    exact e
theorem ef_simple {s:SOp} {ρ:SX→V} {h:Heap} {u:Nat→Bool} {dst:Nat} {r:R} (hs:∀ f xs own,s≠.call f xs own) (hc:s.cls≤2) (e:ef ρ h u dst s=some r) :
    ∃ v c,r=(v,setO h (8*dst) c,setU u (8*dst) c)∧(s.cls≠2→c=none)∧(c≠none→u (8*dst)=false) ∧
      ∀ h2 u2,(s.cls=0∨∀ x∈s.xs,∀ id∈(ρ x).ids,h2 id=h id)→(c≠none→u2 (8*dst)=false)→ef ρ h2 u2 dst s=some (v,setO h2 (8*dst) c,setU u2 (8*dst) c):=by
  have h3:s.cls=0∨s.cls=1∨s.cls=2:=by omega
  rcases h3 with h0 | h1 | h2
  ·obtain⟨v,k1,k2⟩:=pure_op h0 e
   exact⟨v,none,k1,fun _=>rfl,fun h=>absurd rfl h,fun h2 u2 _ _=>k2 h2 u2⟩
  ·obtain⟨v,k1,k2⟩:=read_op h1 hs e
   exact⟨v,none,k1,fun _=>rfl,fun h=>absurd rfl h,fun h2 u2 hag _=>k2 h2 u2 (hag.resolve_left (by omega))⟩
  ·by_cases hn:∃ a b c x y,s=.appN a b c x y
   ·obtain⟨a,b,c,x,y,rfl⟩:=hn
    obtain⟨v,ob,k0,k1,k2⟩:=appN_op e
    exact⟨v,some ob,k1,fun h=>absurd h2 h,fun _=>k0,fun h3 u3 hag hu=>k2 h3 u3 ((hag.resolve_left (by omega)) y (by simp[SOp.xs])) (hu (by simp))⟩
   ·obtain⟨v,ob,k0,k1,k2⟩:=new_op h2 hs (fun a b c x y e=>hn ⟨a,b,c,x,y,e⟩) e
    exact⟨v,some ob,k1,fun h=>absurd h2 h,fun _=>k0,fun h2 u2 _ hu=>k2 h2 u2 (hu (by simp))⟩
theorem opR_simple {s:SOp} {ρ:SX→V} {h:Heap} {u:Nat→Bool} {dst:Nat} {r:R} (hc:s.cls≤2) (e:opR P G s ρ h u dst r) :
    ∃ v c,r=(v,setO h (8*dst) c,setU u (8*dst) c)∧(s.cls≠2→c=none)∧(c≠none→u (8*dst)=false) ∧
      ∀ h2 u2,(s.cls=0∨∀ x∈s.xs,∀ id∈(ρ x).ids,h2 id=h id)→(c≠none→u2 (8*dst)=false)→opR P G s ρ h2 u2 dst (v,setO h2 (8*dst) c,setU u2 (8*dst) c):=by
  cases s with
  | call f xs own =>
    obtain⟨res,h1,h3,hp,h4⟩:=e
    have args:∀ h2:Heap,(SOp.cls (.call f xs own)=0∨∀ x∈SOp.xs (.call f xs own),∀ id∈(ρ x).ids,h2 id=h id)→CallOk P G h2 f (xs.map ρ) res∧OwnOk h2 (xs.map ρ) res:=by
      intro h2 hag
      have e:toVs h2 (xs.map ρ)=toVs h (xs.map ρ):=by
        refine toVs_congr fun v hv=>?_
        obtain⟨x,hx,rfl⟩:=List.mem_map.1 hv
        rcases hag with hag | hag
        ·have hp2:(xs.map ρ).all (fun v=>v.ids.isEmpty)=true:=by
           match own,hag,hp with
           | none,hag,_=>simp[SOp.cls] at hag
           | some (k,0),_,hp=>exact hp k rfl
           | some (_,_+1),hag,_=>simp[SOp.cls] at hag
         have hi:=List.all_eq_true.1 hp2 _ hv
         intro id hid
         rw[List.isEmpty_iff.1 hi] at hid
         cases hid
        ·exact hag x hx
      unfold CallOk OwnOk
      rw[e]
      exact⟨h1,h3⟩
    match own,hp,h4,args with
    | none,hp,h4,args =>
      simp only[impV,Option.some.injEq] at h4
      subst h4
      exact⟨_,none,rfl,fun _=>rfl,fun h=>absurd rfl h,fun h2 u2 hag _=>⟨res,(args h2 hag).1,(args h2 hag).2,hp,rfl⟩⟩
    | some (k,0),hp,h4,args =>
      simp only[impV,Option.some.injEq] at h4
      subst h4
      exact⟨_,none,rfl,fun _=>rfl,fun h=>absurd rfl h,fun h2 u2 hag _=>⟨res,(args h2 hag).1,(args h2 hag).2,hp,rfl⟩⟩
    | some (k,sz+1),hp,h4,args =>
      simp only[impV] at h4
      have key:∃ v ob,u (8*dst)=false∧r=(v,upd h (8*dst) (some ob),upd u (8*dst) true)∧∀ (h2:Heap) (u2:Nat→Bool),u2 (8*dst)=false→ownV h2 u2 dst k (sz+1) res=some (v,upd h2 (8*dst) (some ob),upd u2 (8*dst) true):=by
        unfold ownV at h4 ⊢
        split at h4
        ·split at h4
         ·rename_i hk
          cases h4
          exact⟨_,_,hk.2.2,rfl,fun h2 u2 hu=>by rw[if_pos ⟨hk.1,hk.2.1,hu⟩]⟩
         ·cases h4
        ·split at h4
         ·split at h4
          ·rename_i ws sz' es hws hk
           cases h4
           exact⟨_,_,hk.2,rfl,fun h2 u2 hu=>by simp only[hws,if_pos (And.intro hk.1 hu)]⟩
          ·cases h4
         ·cases h4
        ·cases h4
      obtain⟨v,ob,k1,k2,k3⟩:=key
      exact⟨v,some ob,k2,fun h=>absurd rfl h,fun _=>k1,fun h2 u2 hag hu=>⟨res,(args h2 hag).1,(args h2 hag).2,hp,k3 h2 u2 (hu (by simp))⟩⟩
  | callM f xs=>simp[SOp.cls] at hc
  | _=>exact ef_simple (by intro _ _ _ e; cases e) hc e
end
section
variable {P:Program} {G:Glob}
theorem ev_agree {o:SOper} {f f2:Nat→V} (h:∀ t∈o.looks,f2 t=f t):∀ x∈o.op.xs,ev G f2 x=ev G f x:=by
  intro x hx
  cases x with
  | t n=>exact h n (List.mem_append_left _ (List.mem_filterMap.2 ⟨.t n,hx,rfl⟩))
  | _=>rfl
theorem guard_agree {o:SOper} {f f2:Nat→V} (h:∀ t∈o.looks,f2 t=f t) {t:Nat} {want:Bool} (hg:o.guard=some (t,want)):f2 t=f t :=
  h t (List.mem_append_right _ (by rw[hg]; simp))
theorem outR_congr {o:SOper} {σ:St} {f2:Nat→V} {r:R} (h:∀ t∈o.looks,f2 t=σ.f t) (e:outR P G o σ r):outR P G o ⟨f2,σ.h,σ.u⟩ r:=by
  unfold outR at *
  cases hg:o.guard with
  | none =>
    rw[hg] at e
    exact opR_congr (ev_agree h) e
  | some p =>
    obtain⟨t,want⟩:=p
    rw[hg] at e
    rcases e with ⟨b,h1,h2⟩ | ⟨h1,h2⟩
    ·refine .inl ⟨b,by rw[← h1]; exact congrArg asB (guard_agree h hg),?_⟩
     rcases h2 with ⟨h2,h3⟩ | h2
     ·exact .inl ⟨h2,opR_congr (ev_agree h) h3⟩
     ·exact .inr h2
    ·exact .inr ⟨by rw[← h1]; exact guard_agree h hg,h2⟩
theorem outR_simple {o:SOper} {σ:St} {r:R} (hc:o.op.cls≤2) (e:outR P G o σ r) :
    ∃ v c,r=(v,setO σ.h (8*o.dst.getD 0) c,setU σ.u (8*o.dst.getD 0) c)∧(o.op.cls≠2→c=none)∧(c≠none→σ.u (8*o.dst.getD 0)=false) ∧
      ∀ σ2:St,(∀ t∈o.looks,σ2.f t=σ.f t)→(o.op.cls=0∨∀ x∈o.op.xs,∀ id∈(ev G σ.f x).ids,σ2.h id=σ.h id)→(c≠none→σ2.u (8*o.dst.getD 0)=false) →
        outR P G o σ2 (v,setO σ2.h (8*o.dst.getD 0) c,setU σ2.u (8*o.dst.getD 0) c):=by
  unfold outR at *
  cases hg:o.guard with
  | none =>
    rw[hg] at e
    obtain⟨v,c,h1,h2,h3,h4⟩:=opR_simple hc e
    exact⟨v,c,h1,h2,h3,fun σ2 ha hh hu=>opR_congr (ev_agree ha) (h4 σ2.h σ2.u hh hu)⟩
  | some p =>
    obtain⟨t,want⟩:=p
    rw[hg] at e
    rcases e with ⟨b,k1,k2⟩ | ⟨k1,k3⟩
    ·rcases k2 with ⟨k2,k3⟩ | ⟨k2,k3⟩
     ·obtain⟨v,c,h1,h2,h3,h4⟩:=opR_simple hc k3
      exact⟨v,c,h1,h2,h3,fun σ2 ha hh hu=>.inl ⟨b,by rw[← k1]; exact congrArg asB (guard_agree ha hg),.inl ⟨k2,opR_congr (ev_agree ha) (h4 σ2.h σ2.u hh hu)⟩⟩⟩
     ·exact⟨.tup [],none,k3,fun _=>rfl,fun h=>absurd rfl h,fun σ2 ha hh hu=>.inl ⟨b,by rw[← k1]; exact congrArg asB (guard_agree ha hg),.inr ⟨k2,rfl⟩⟩⟩
    ·exact⟨.tup [],none,k3,fun _=>rfl,fun h=>absurd rfl h,fun σ2 ha hh hu=>.inr ⟨by rw[← k1]; exact guard_agree ha hg,rfl⟩⟩
theorem outR_lb {o:SOper} {σ:St} {r:R} (hb:o.op.isLB=true) (e:outR P G o σ r) :
    ∃ v,r=(v,σ.h,σ.u)∧∀ σ2:St,(∀ t∈o.looks,σ2.f t=σ.f t)→(∀ x∈o.op.xs,∀ id∈(ev G σ.f x).ids,∀ cs,σ.h id=some (.box cs)→σ2.h id=some (.box cs))→outR P G o σ2 (v,σ2.h,σ2.u):=by
  obtain⟨dst,op,guard⟩:=o
  cases op <;> first | (cases hb; done) | skip
  rename_i kd x
  have key:∀ r:R,opR P G (.loadB kd x) (ev G σ.f) σ.h σ.u (dst.getD 0) r→∃ v,r=(v,σ.h,σ.u)∧∀ σ2:St,(∀ t∈SOper.looks ⟨dst,.loadB kd x,guard⟩,σ2.f t=σ.f t)→(∀ z∈[x],∀ id∈(ev G σ.f z).ids,∀ cs,σ.h id=some (.box cs)→σ2.h id=some (.box cs))→opR P G (.loadB kd x) (ev G σ2.f) σ2.h σ2.u (dst.getD 0) (v,σ2.h,σ2.u):=by
    intro r e
    have e:ef (ev G σ.f) σ.h σ.u (dst.getD 0) (.loadB kd x)=some r:=e
    simp only[ef,Option.map_eq_some_iff] at e
    obtain⟨y,hy,rfl⟩:=e
    refine⟨_,rfl,fun σ2 ha hh=>?_⟩
    show ef (ev G σ2.f) σ2.h σ2.u (dst.getD 0) (.loadB kd x)=_
    have hev:ev G σ2.f x=ev G σ.f x:=ev_agree (o:=⟨dst,.loadB kd x,guard⟩) ha x (by simp[SOp.xs])
    simp only[ef,hev,ldB_box hy (hh x (by simp)),Option.map_some]
  unfold outR at *
  cases guard with
  | none =>
    obtain⟨v,h1,h2⟩:=key r e
    exact⟨v,h1,h2⟩
  | some p =>
    obtain⟨t,want⟩:=p
    simp only at e ⊢
    rcases e with ⟨b,k1,k2⟩ | ⟨k1,k3⟩
    ·rcases k2 with ⟨k2,k3⟩ | ⟨k2,k3⟩
     ·obtain⟨v,h1,h2⟩:=key r k3
      exact⟨v,h1,fun σ2 ha hh=>.inl ⟨b,by rw[← k1]; exact congrArg asB (guard_agree ha rfl),.inl ⟨k2,h2 σ2 ha hh⟩⟩⟩
     ·exact⟨.tup [],k3,fun σ2 ha hh=>.inl ⟨b,by rw[← k1]; exact congrArg asB (guard_agree ha rfl),.inr ⟨k2,rfl⟩⟩⟩
    ·exact⟨.tup [],k3,fun σ2 ha hh=>.inr ⟨by rw[← k1]; exact guard_agree ha rfl,rfl⟩⟩
theorem outR_lx {o:SOper} {σ:St} {r:R} {kd:Kd} {x:SX} {ex:List SX} (hb:o.op=.loadX kd x ex) (e:outR P G o σ r) :
    ∃ v,r=(v,σ.h,σ.u)∧∀ σ2:St,(∀ t∈o.looks,σ2.f t=σ.f t)→(∀ id∈(ev G σ.f x).ids,(∀ y∈ex,id∉(ev G σ.f y).ids)→σ2.h id=σ.h id)→outR P G o σ2 (v,σ2.h,σ2.u):=by
  obtain⟨dst,op,guard⟩:=o
  subst hb
  have key:∀ r:R,opR P G (.loadX kd x ex) (ev G σ.f) σ.h σ.u (dst.getD 0) r→∃ v,r=(v,σ.h,σ.u)∧∀ σ2:St,(∀ t∈SOper.looks ⟨dst,.loadX kd x ex,guard⟩,σ2.f t=σ.f t)→(∀ id∈(ev G σ.f x).ids,(∀ y∈ex,id∉(ev G σ.f y).ids)→σ2.h id=σ.h id)→opR P G (.loadX kd x ex) (ev G σ2.f) σ2.h σ2.u (dst.getD 0) (v,σ2.h,σ2.u):=by
    intro r e
    have e:ef (ev G σ.f) σ.h σ.u (dst.getD 0) (.loadX kd x ex)=some r:=e
    simp only[ef,Option.map_eq_some_iff] at e
    obtain⟨y,hy,rfl⟩:=e
    refine⟨_,rfl,fun σ2 ha hh=>?_⟩
    show ef (ev G σ2.f) σ2.h σ2.u (dst.getD 0) (.loadX kd x ex)=_
    have hev:∀ z∈x::ex,ev G σ2.f z=ev G σ.f z:=fun z hz=>ev_agree (o:=⟨dst,.loadX kd x ex,guard⟩) ha z (by simpa [SOp.xs] using hz)
    obtain⟨hd,hl⟩:=ldX_ld hy
    have h2:ex.map (ev G σ2.f)=ex.map (ev G σ.f):=List.map_congr_left fun z hz=>hev z (List.mem_cons_of_mem _ hz)
    have h3:ldV σ2.h kd (ev G σ.f x)=ldV σ.h kd (ev G σ.f x):=ldV_congr fun id hid=>hh id hid fun z hz=>(disV_spec hd).2 _ (List.mem_map.2 ⟨z,hz,rfl⟩) id hid
    simp only[ef,h2,hev x List.mem_cons_self]
    unfold ldX
    rw[if_pos hd,h3,hl]
    rfl
  unfold outR at *
  cases guard with
  | none =>
    obtain⟨v,h1,h2⟩:=key r e
    exact⟨v,h1,h2⟩
  | some p =>
    obtain⟨t,want⟩:=p
    simp only at e ⊢
    rcases e with ⟨b,k1,k2⟩ | ⟨k1,k3⟩
    ·rcases k2 with ⟨k2,k3⟩ | ⟨k2,k3⟩
     ·obtain⟨v,h1,h2⟩:=key r k3
      exact⟨v,h1,fun σ2 ha hh=>.inl ⟨b,by rw[← k1]; exact congrArg asB (guard_agree ha rfl),.inl ⟨k2,h2 σ2 ha hh⟩⟩⟩
     ·exact⟨.tup [],k3,fun σ2 ha hh=>.inl ⟨b,by rw[← k1]; exact congrArg asB (guard_agree ha rfl),.inr ⟨k2,rfl⟩⟩⟩
    ·exact⟨.tup [],k3,fun σ2 ha hh=>.inr ⟨by rw[← k1]; exact guard_agree ha rfl,rfl⟩⟩
theorem stV_other {h h':Heap} {kd:Kd} {v:V} {w:W} (e:stV h kd v w=some h') {id:Nat} (hi:id∉v.ids):h' id=h id:=by
  unfold stV at e
  split at e
  ·split at e
   ·simp only[Option.map_eq_some_iff] at e
    obtain⟨o',_,rfl⟩:=e
    exact upd_ne _ _ fun h=>hi (by simp[V.ids,W.ids,C.ids,h])
   ·cases e
  ·split at e
   ·split at e
    ·cases e
     exact upd_ne _ _ fun h=>hi (by simp[V.ids,W.ids,C.ids,h])
    ·cases e
   ·cases e
  ·cases e
theorem outR_st {o:SOper} {σ:St} {r:R} {kd:Kd} {x y:SX} (hb:o.op=.store kd x y) (e:outR P G o σ r):∀ id,id∉(ev G σ.f x).ids→r.2.1 id=σ.h id:=by
  obtain⟨dst,op,guard⟩:=o
  subst hb
  have key:∀ r:R,opR P G (.store kd x y) (ev G σ.f) σ.h σ.u (dst.getD 0) r→∀ id,id∉(ev G σ.f x).ids→r.2.1 id=σ.h id:=by
    intro r e
    have e:ef (ev G σ.f) σ.h σ.u (dst.getD 0) (.store kd x y)=some r:=e
    simp only[ef] at e
    split at e
    ·cases e
    ·simp only[Option.map_eq_some_iff] at e
     obtain⟨h',h1,rfl⟩:=e
     exact fun id hi=>stV_other h1 hi
  unfold outR at e
  cases guard with
  | none=>exact key r e
  | some p =>
    obtain⟨t,want⟩:=p
    rcases e with ⟨b,k1,k2⟩ | ⟨k1,k3⟩
    ·rcases k2 with ⟨k2,k3⟩ | ⟨k2,k3⟩
     ·exact key r k3
     ·subst k3; exact fun _ _=>rfl
    ·subst k3; exact fun _ _=>rfl
theorem stL_spec {x y:SOp} (h:x.stL y=true):∃ kd a b kd' c ex,x=.store kd a b∧y=.loadX kd' c ex∧a∈ex:=by
  unfold SOp.stL at h
  split at h
  ·rename_i kd n b kd' c ex
   refine⟨_,_,_,_,_,_,rfl,rfl,?_⟩
   have h:n∈ex.filterMap SX.slot:=by simpa using h
   obtain⟨z,hz,hn⟩:=List.mem_filterMap.1 h
   cases z with
   | t m=>cases hn; exact hz
   | _=>cases hn
  ·cases h
theorem newO_boxes {h:Heap} {u:Nat→Bool} {dst sz:Nat} {es:List D} {c:C} {r:R} (e:newO h u dst (.row sz es) c=some r):∀ id,u id=true→∀ cs,(h id=some (.box cs)↔r.2.1 id=some (.box cs)):=by
  obtain⟨h1,rfl⟩:=newO_some e
  intro id hu cs
  have hne:id≠8*dst:=fun h=>by rw[h,h1] at hu; cases hu
  simp only[upd,if_neg hne]
theorem outR_app {o:SOper} {σ:St} {r:R} (hb:o.op.isApp=true) (e:outR P G o σ r):∀ id,σ.u id=true→∀ cs,(σ.h id=some (.box cs)↔r.2.1 id=some (.box cs)):=by
  obtain⟨dst,op,guard⟩:=o
  cases op <;> first | (cases hb; done) | skip
  rename_i str sz byt x y
  have key:∀ r:R,opR P G (.app str sz byt x y) (ev G σ.f) σ.h σ.u (dst.getD 0) r→∀ id,σ.u id=true→∀ cs,(σ.h id=some (.box cs)↔r.2.1 id=some (.box cs)):=by
    intro r e
    have e:ef (ev G σ.f) σ.h σ.u (dst.getD 0) (.app str sz byt x y)=some r:=e
    simp only[ef] at e
    split at e
    ·cases e
    ·split at e
     ·split at e
      ·split at e
       ·exact newO_boxes e
       ·cases e
      ·split at e
       ·rename_i hid
        split at e
        ·intro id hu cs
         rw[← newO_boxes e id hu cs]
         simp only[upd]
         split
         ·rename_i hi
          rw[hi,hid]
          simp
         ·rfl
        ·cases e
       ·cases e
      ·cases e
     ·cases e
  unfold outR at e
  cases guard with
  | none=>exact key r e
  | some p =>
    obtain⟨t,want⟩:=p
    rcases e with ⟨b,k1,k2⟩ | ⟨k1,k3⟩
    ·rcases k2 with ⟨k2,k3⟩ | ⟨k2,k3⟩
     ·exact key r k3
     ·subst k3; exact fun _ _ _=>Iff.rfl
    ·subst k3; exact fun _ _ _=>Iff.rfl
theorem SOper.apart_spec {x y:SOper} (h:x.apart y=true):(∀ d,x.dst=some d→d∉y.looks)∧(∀ d,x.dst=some d→y.dst≠some d)∧(∀ d,y.dst=some d→d∉x.looks):=by
  refine⟨fun d hd=>?_,fun d hd=>?_,fun d hd=>?_⟩ <;> simp[SOper.apart,hd] at h
  ·exact h.1.1
  ·exact h.1.2
  ·exact h.2
theorem updO_agree {f:Nat→V} {d:Option Nat} {v:V} {l:List Nat} (h:∀ e,d=some e→e∉l):∀ t∈l,updO f d v t=f t:=by
  intro t ht
  cases d with
  | none=>rfl
  | some e=>exact upd_ne f v fun h'=>h e rfl (h' ▸ ht)
theorem updO_comm {f:Nat→V} {d e:Option Nat} {v u:V} (h:∀ x,d=some x→e≠some x):updO (updO f e u) d v=updO (updO f d v) e u:=by
  cases d with
  | none=>rfl
  | some x =>
    cases e with
    | none=>rfl
    | some y =>
      have hne:x≠y:=fun he=>h x rfl (he ▸ rfl)
      funext t
      simp only[updO,upd]
      split <;> split <;> simp_all
theorem upd_comm {α:Type} {f:Nat→α} {i j:Nat} {x y:α} (h:i≠j):upd (upd f j y) i x=upd (upd f i x) j y:=by
  funext t
  simp only[upd]
  split <;> split <;> simp_all
theorem setO_ne {h:Heap} {i j:Nat} {c:Option Ob} (hc:c≠none→j≠i):setO h i c j=h j:=by
  cases c with
  | none=>rfl
  | some o=>exact upd_ne _ _ (hc (by simp))
theorem setU_ne {u:Nat→Bool} {i j:Nat} {c:Option Ob} (hc:c≠none→j≠i):setU u i c j=u j:=by
  cases c with
  | none=>rfl
  | some o=>exact upd_ne _ _ (hc (by simp))
def killO (h:Heap):Option Nat→Heap | none=>h | some id=>upd h id none
theorem app_op {ρ:SX→V} {h:Heap} {u:Nat→Bool} {dst:Nat} {str:Bool} {sz byt:Nat} {x y:SX} {r:R} (e:ef ρ h u dst (.app str sz byt x y)=some r) :
    ∃ v ob k,u (8*dst)=false∧(∀ id,k=some id→id∈(ρ x).ids)∧r=(v,upd (killO h k) (8*dst) (some ob),upd u (8*dst) true)∧∀ (h2:Heap) (u2:Nat→Bool),(∀ id∈(ρ x).ids,h2 id=h id)→(∀ id∈(ρ y).ids,h2 id=h id)→u2 (8*dst)=false→ef ρ h2 u2 dst (.app str sz byt x y)=some (v,upd (killO h2 k) (8*dst) (some ob),upd u2 (8*dst) true):=by
  have src:∀ h2:Heap,(∀ id∈(ρ y).ids,h2 id=h id)→srcV h2 str (ρ y)=srcV h str (ρ y):=by
    intro h2 hag
    cases str with
    | true=>cases hy:ρ y with
      | w c=>cases c with
        | c d=>cases d with
          | d x=>cases x <;> rfl
          | _=>rfl
        | mix _=>rfl
      | _=>rfl
    | false=>simp only[srcV,toV_congr hag]
  simp only[ef] at e ⊢
  split at e
  ·cases e
  ·rename_i ys hys
   split at e
   ·rename_i hsz
    split at e
    ·rename_i hx
     split at e
     ·rename_i hk
      obtain⟨h1,h2⟩:=newO_some e
      refine⟨_,_,none,h1,(fun id h=>nomatch h),h2,fun h2 u2 _ hag hu=>?_⟩
      simp only[src h2 hag,hys,if_pos hsz,if_pos hk]
      exact newO_at hu
     ·cases e
    ·rename_i id sz' off n hx
     split at e
     ·rename_i sz2 es hid
      split at e
      ·rename_i hk
       obtain⟨h1,h2⟩:=newO_some e
       refine⟨_,_,some id,h1,fun i h=>?_,h2,fun h2 u2 hax hag hu=>?_⟩
       ·cases h
        rw[hx]; simp[V.ids,W.ids,C.ids]
       ·have hi:h2 id=some (.row sz2 es):=by
          rw[hax id (by rw[hx]; simp[V.ids,W.ids,C.ids])]; exact hid
        simp only[src h2 hag,hys,if_pos hsz,hi,if_pos hk]
        exact newO_at hu
      ·cases e
     ·cases e
    ·cases e
   ·cases e
theorem outR_appF {o:SOper} {σ:St} {r:R} (hb:o.op.isApp=true) (hg:o.guard=none) (e:outR P G o σ r) :
    ∃ v ob k,σ.u (8*o.dst.getD 0)=false∧(∀ id,k=some id→∃ x∈o.op.xs,id∈(ev G σ.f x).ids)∧r=(v,upd (killO σ.h k) (8*o.dst.getD 0) (some ob),upd σ.u (8*o.dst.getD 0) true) ∧
      ∀ σ2:St,(∀ t∈o.looks,σ2.f t=σ.f t)→(∀ x∈o.op.xs,∀ id∈(ev G σ.f x).ids,σ2.h id=σ.h id)→σ2.u (8*o.dst.getD 0)=false→outR P G o σ2 (v,upd (killO σ2.h k) (8*o.dst.getD 0) (some ob),upd σ2.u (8*o.dst.getD 0) true):=by
  obtain⟨dst,op,guard⟩:=o
  cases op <;> first | (cases hb; done) | skip
  rename_i str sz byt x y
  subst hg
  have e':ef (ev G σ.f) σ.h σ.u (dst.getD 0) (.app str sz byt x y)=some r:=e
  obtain⟨v,ob,k,h1,h2,h3,h4⟩:=app_op e'
  refine⟨v,ob,k,h1,fun id hk=>⟨x,List.mem_cons_self,h2 id hk⟩,h3,fun σ2 ha hh hu=>?_⟩
  have h5:=h4 σ2.h σ2.u (hh x List.mem_cons_self) (hh y (List.mem_cons_of_mem _ List.mem_cons_self)) hu
  have h6:opR P G (.app str sz byt x y) (ev G σ.f) σ2.h σ2.u (dst.getD 0) _:=h5
  exact opR_congr (ev_agree (o:=⟨dst,.app str sz byt x y,none⟩) ha) h6
theorem outR_alc {o:SOper} {σ:St} {r:R} (hb:o.op.isAlc=true) (hg:o.guard=none) (e:outR P G o σ r) :
    ∃ v ob,σ.u (8*o.dst.getD 0)=false∧r=(v,upd σ.h (8*o.dst.getD 0) (some ob),upd σ.u (8*o.dst.getD 0) true) ∧
      ∀ σ2:St,σ2.u (8*o.dst.getD 0)=false→outR P G o σ2 (v,upd σ2.h (8*o.dst.getD 0) (some ob),upd σ2.u (8*o.dst.getD 0) true):=by
  obtain⟨dst,op,guard⟩:=o
  cases op <;> first | (cases hb; done) | skip
  rename_i cs
  subst hg
  have e':ef (ev G σ.f) σ.h σ.u (dst.getD 0) (.alloc cs)=some r:=e
  simp only[ef] at e'
  obtain⟨h1,h2⟩:=newO_some e'
  refine⟨_,_,h1,h2,fun σ2 hu=>?_⟩
  show ef (ev G σ2.f) σ2.h σ2.u (dst.getD 0) (.alloc cs)=_
  simp only[ef]
  exact newO_at hu
theorem killO_upd {h:Heap} {k:Option Nat} {i:Nat} {o:Option Ob} (hk:∀ id,k=some id→id≠i):killO (upd h i o) k=upd (killO h k) i o:=by
  cases k with
  | none=>rfl
  | some id=>exact upd_comm (hk id rfl)
theorem swap_al {x y:SOper} (a2:∀ d,x.dst=some d→y.dst≠some d) (hp:x.plain=true∧y.plain=true):8*x.dst.getD 0≠8*y.dst.getD 0∧x.guard=none∧y.guard=none:=by
  unfold SOper.plain at hp
  simp only[Bool.and_eq_true,Option.isNone_iff_eq_none,Option.isSome_iff_exists] at hp
  obtain⟨⟨g1,d1,e1⟩,g2,d2,e2⟩:=hp
  refine⟨fun h=>?_,g1,g2⟩
  rw[e1,e2] at h
  simp only[Option.getD_some] at h
  have:d1=d2:=by omega
  exact a2 d1 e1 (this ▸ e2)
theorem swap {x y:SOper} (hi:x.indep y=true) {σ:St} (hw:∀ z,z=x∨z=y→∀ o∈z.op.xs,∀ id∈(ev G σ.f o).ids,σ.u id=true) {r1 r2:R} (hx:outR P G x σ r1) (hy:outR P G y (σ.put x.dst r1) r2) :
    ∃ r2' r1',outR P G y σ r2'∧outR P G x (σ.put y.dst r2') r1'∧(σ.put y.dst r2').put x.dst r1'=(σ.put x.dst r1).put y.dst r2:=by
  simp only[SOper.indep,Bool.and_eq_true,Bool.or_eq_true,beq_iff_eq,decide_eq_true_eq] at hi
  obtain⟨⟨⟨hap,hcl⟩,hsx⟩,hsy⟩:=hi
  obtain⟨a1,a2,a3⟩:=SOper.apart_spec hap
  have ay:∀ v,∀ t∈y.looks,σ.f t=updO σ.f x.dst v t:=fun v t ht=>(updO_agree (v:=v) a1 t ht).symm
  have ax:∀ v,∀ t∈x.looks,updO σ.f y.dst v t=σ.f t:=fun v t ht=>updO_agree (v:=v) a3 t ht
  have com:∀ v u,updO (updO σ.f y.dst u) x.dst v=updO (updO σ.f x.dst v) y.dst u:=fun v u=>updO_comm a2
  have evy0:∀ v,∀ o∈y.op.xs,ev G (updO σ.f x.dst v) o=ev G σ.f o:=fun v=>ev_agree fun t ht=>(ay v t ht).symm
  rcases hcl with (((((hcl | hcl) | hcl) | hcl) | hcl) | hcl) | hcl
  rotate_right
  ·rcases hcl with hcl | hcl
   ·
    obtain⟨kd,a,b,kd',c,ex,ex1,ey1,ha⟩:=stL_spec hcl
    obtain⟨v2,rfl,k4⟩:=outR_lx ey1 hy
    have hst:=outR_st ex1 hx
    have hxs:∀ z∈c::ex,ev G (updO σ.f x.dst r1.1) z=ev G σ.f z:=fun z hz=>evy0 _ z (by rw[ey1]; exact hz)
    refine⟨(v2,σ.h,σ.u),r1,k4 σ (ay _) (fun id hid hn=>?_),outR_congr (σ:=σ) (ax _) hx,?_⟩
    ·have h1:=hn a ha
     simp only[St.put] at h1 ⊢
     rw[hxs a (List.mem_cons_of_mem _ ha)] at h1
     exact (hst id h1).symm
    ·simp only[St.put,com]
   ·
    obtain⟨kd,a,b,kd',c,ex,ey1,ex1,ha⟩:=stL_spec hcl
    obtain⟨v1,rfl,k4⟩:=outR_lx ex1 hx
    have hy':outR P G y σ r2:=outR_congr (σ:=σ.put x.dst _) (ay v1) hy
    have hst:=outR_st ey1 hy'
    refine⟨r2,(v1,r2.2.1,r2.2.2),hy',k4 (σ.put y.dst r2) (ax _) (fun id hid hn=>hst id (hn a ha)),?_⟩
    simp only[St.put,com]
  rotate_right
  ·obtain⟨hcl,hpl⟩:=hcl
   obtain⟨nd,g1,g2⟩:=swap_al a2 hpl
   rcases hcl with ⟨c1,c2⟩ | ⟨c1,c2⟩
   ·
    obtain⟨v1,o1,k,p1,p2,rfl,p4⟩:=outR_appF c1 g1 hx
    obtain⟨v2,o2,q1,rfl,q3⟩:=outR_alc c2 g2 hy
    simp only[St.put] at q1
    rw[upd_ne _ _ (Ne.symm nd)] at q1
    have hk:∀ id,k=some id→id≠8*y.dst.getD 0:=fun id h e=>by
      obtain⟨z,hz,hi⟩:=p2 id h
      have:=hw x (.inl rfl) z hz id hi
      rw[e,q1] at this; cases this
    have hy':=q3 σ q1
    refine⟨_,_,hy',p4 (σ.put y.dst _) (ax _) (fun z hz id hid=>?_) ?_,?_⟩
    ·have h1:=hw x (.inl rfl) z hz id hid
     simp only[St.put]
     exact upd_ne _ _ fun e=>by rw[e,q1] at h1; cases h1
    ·simp only[St.put]
     rw[upd_ne _ _ nd]; exact p1
    ·simp only[St.put,com]
     rw[killO_upd hk,upd_comm nd,upd_comm nd]
   ·
    obtain⟨v1,o1,q1,rfl,q3⟩:=outR_alc c1 g1 hx
    obtain⟨v2,o2,k,p1,p2,rfl,p4⟩:=outR_appF c2 g2 hy
    simp only[St.put] at p1 p2 p4
    have hid:∀ z∈y.op.xs,∀ id∈(ev G σ.f z).ids,id≠8*x.dst.getD 0:=fun z hz id hi e=>by
      have:=hw y (.inr rfl) z hz id hi
      rw[e,q1] at this; cases this
    have hk:∀ id,k=some id→id≠8*x.dst.getD 0:=fun id h=>by
      obtain⟨z,hz,hi⟩:=p2 id h
      rw[evy0 _ z hz] at hi
      exact hid z hz id hi
    have p1':σ.u (8*y.dst.getD 0)=false:=by rwa [upd_ne _ _ (Ne.symm nd)] at p1
    have hy':=p4 σ (ay _) (fun z hz id hi=>by
      rw[evy0 _ z hz] at hi
      exact (upd_ne _ _ (hid z hz id hi)).symm) p1'
    refine⟨_,_,hy',q3 (σ.put y.dst _) ?_,?_⟩
    ·simp only[St.put]
     rw[upd_ne _ _ nd]; exact q1
    ·simp only[St.put,com]
     rw[killO_upd hk,upd_comm nd,upd_comm nd]
  rotate_right
  ·
   obtain⟨v2,rfl,k4⟩:=outR_lb hcl.2 hy
   refine⟨(v2,σ.h,σ.u),r1,k4 σ (ay _) (fun o ho id hid cs hb=>?_),outR_congr (σ:=σ) (ax _) hx,?_⟩
   ·simp only[St.put] at hid hb
    rw[evy0 _ o ho] at hid
    exact (outR_app hcl.1 hx id (hw y (.inr rfl) o ho id hid) cs).2 hb
   ·simp only[St.put,com]
  rotate_right
  ·
   obtain⟨v1,rfl,k4⟩:=outR_lb hcl.1 hx
   have hy':outR P G y σ r2:=outR_congr (σ:=σ.put x.dst _) (ay v1) hy
   refine⟨r2,(v1,r2.2.1,r2.2.2),hy',k4 (σ.put y.dst r2) (ax _) (fun o ho id hid cs hb=>?_),?_⟩
   ·exact (outR_app hcl.2 hy' id (hw x (.inl rfl) o ho id hid) cs).1 hb
   ·simp only[St.put,com]
  ·
   obtain⟨v1,c1,rfl,k2,_,k4⟩:=outR_simple (by omega) hx
   obtain rfl:=k2 (by omega)
   refine⟨r2,(v1,r2.2.1,r2.2.2),outR_congr (σ:=σ.put x.dst _) (ay v1) hy,k4 (σ.put y.dst r2) (ax _) (.inl hcl) (fun h=>absurd rfl h),?_⟩
   simp only[St.put,com]
  ·
   obtain⟨v2,c2,rfl,k2,_,k4⟩:=outR_simple (by omega) hy
   obtain rfl:=k2 (by omega)
   refine⟨(v2,σ.h,σ.u),r1,k4 σ (ay _) (.inl hcl) (fun h=>absurd rfl h),outR_congr (σ:=σ) (ax _) hx,?_⟩
   simp only[St.put,com,setO,setU]
  ·obtain⟨v1,c1,rfl,k2,k3,k4⟩:=outR_simple hcl.1 hx
   obtain⟨v2,c2,rfl,q2,q3,q4⟩:=outR_simple hcl.2 hy
   have dx:c1≠none→∃ d,x.dst=some d:=fun h=>by
     have h2:x.op.cls=2:=by
       rcases Nat.lt_or_ge x.op.cls 2 with hlt | hge
       ·exact absurd (k2 (by omega)) h
       ·omega
     simp only[SOper.sound,h2,Bool.and_eq_true] at hsx
     simpa [Option.isSome_iff_exists] using hsx.2
   have dy:c2≠none→∃ d,y.dst=some d:=fun h=>by
     have h2:y.op.cls=2:=by
       rcases Nat.lt_or_ge y.op.cls 2 with hlt | hge
       ·exact absurd (q2 (by omega)) h
       ·omega
     simp only[SOper.sound,h2,Bool.and_eq_true] at hsy
     simpa [Option.isSome_iff_exists] using hsy.2
   have ne:c1≠none→c2≠none→8*x.dst.getD 0≠8*y.dst.getD 0:=fun h1 h2 e=>by
     obtain⟨d1,e1⟩:=dx h1
     obtain⟨d2,e2⟩:=dy h2
     rw[e1,e2] at e
     simp only[Option.getD_some] at e
     have:d1=d2:=by omega
     exact a2 d1 e1 (this ▸ e2)
   have uy:c2≠none→σ.u (8*y.dst.getD 0)=false:=fun h=>by
     have h1:=q3 h
     simp only[St.put] at h1
     by_cases hc1:c1=none
     ·subst hc1; exact h1
     ·rwa [setU_ne fun _=>(ne hc1 h).symm] at h1
   have evy:∀ o∈y.op.xs,ev G (updO σ.f x.dst v1) o=ev G σ.f o:=ev_agree fun t ht=>(ay v1 t ht).symm
   have oy:=q4 σ (ay v1) (.inr fun o ho id hid=>by
     simp only[St.put] at hid ⊢
     rw[evy o ho] at hid
     have h1:=hw y (.inr rfl) o ho id hid
     refine (setO_ne fun hc e=>?_).symm
     have:=k3 hc
     rw[← e,h1] at this
     cases this) uy
   refine⟨_,_,oy,k4 (σ.put y.dst _) (ax _) (.inr fun o ho id hid=>?_) (fun h=>?_),?_⟩
   ·have h1:=hw x (.inl rfl) o ho id hid
    simp only[St.put]
    refine setO_ne fun hc e=>?_
    have:=uy hc
    rw[← e,h1] at this
    cases this
   ·simp only[St.put]
    rw[setU_ne fun hc=>ne h hc]
    exact k3 h
   ·simp only[St.put,com]
    cases c1 with
    | none=>rfl
    | some o1 =>
      cases c2 with
      | none=>rfl
      | some o2 =>
        have h:=ne (by simp) (by simp)
        simp only[setO,setU,upd_comm h]
end
end Go.Proofs.Ytcikhnjfkfigjaa
