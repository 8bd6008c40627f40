/- Texts of one's own, merged: from: The plain logic (19): loops; states by lists; bytes and words as data. Own work. -/
import Derived.IntWalk
import Derived.Test.YtbkhllchjbjhgaaDoorMg15
set_option linter.unusedVariables false
set_option linter.unusedSimpArgs false
namespace Go.Proofs.YtbkhllchjbjhgaaDoor
open Go.RowKit IntWalk
def ofL:List (Nat×V)→Nat→V
  | []=>uf
  | (i,v)::r=>upd (ofL r) i v
def hL:List (Nat×Ob)→Heap
  | []=>hN
  | (i,o)::r=>upd (hL r) i (some o)
def uL:List Nat→Nat→Bool
  | []=>uN
  | i::r=>upd (uL r) i true
theorem ofL_nil:ofL []=uf:=rfl
theorem ofL_cons (i:Nat) (v:V) (r:List (Nat×V)):ofL ((i,v)::r)=upd (ofL r) i v:=rfl
theorem hL_nil:hL []=hN:=rfl
theorem hL_cons (i:Nat) (o:Ob) (r:List (Nat×Ob)):hL ((i,o)::r)=upd (hL r) i (some o):=rfl
theorem uL_nil:uL []=uN:=rfl
theorem uL_cons (i:Nat) (r:List Nat):uL (i::r)=upd (uL r) i true:=rfl
theorem uL_mem {i:Nat}:∀ {l:List Nat},i∈l→uL l i=true
  | j::r,h=>by
    rw[uL_cons]
    by_cases e:i=j
    ·rw[e]; exact upd_same _ _ _
    ·rw[upd_ne _ _ e]
     exact uL_mem (by simpa [e] using h)
theorem ofL_or {f:Nat→V} {g:Nat→Nat}:∀ {l:List (Nat×V)},(∀ p∈l,f p.1=p.2.ren g)→∀ t,ofL l t=.undef∨f t=(ofL l t).ren g
  | [],_,_=>.inl rfl
  | (i,v)::r,h,t=>by
    rw[ofL_cons]
    by_cases e:t=i
    ·rw[e,upd_same]; exact .inr (h (i,v) (by simp))
    ·rw[upd_ne _ _ e]
     exact ofL_or (fun p hp=>h p (by simp[hp])) t
theorem hL_some {i:Nat} {o:Ob}:∀ {l:List (Nat×Ob)},hL l i=some o→(i,o)∈l
  | [],h=>by cases h
  | (j,q)::r,h=>by
    rw[hL_cons] at h
    by_cases e:i=j
    ·rw[e,upd_same] at h
     cases h
     rw[e]; simp
    ·rw[upd_ne _ _ e] at h
     exact List.mem_cons_of_mem _ (hL_some h)
theorem ofL_ids {l:List (Nat×V)} {i t:Nat} (h:i∈(ofL l t).ids):i∈l.flatMap fun p=>p.2.ids:=by
  induction l with
  | nil=>cases h
  | cons p r ih =>
    obtain⟨j,v⟩:=p
    rw[ofL_cons] at h
    rw[List.flatMap_cons,List.mem_append]
    by_cases e:t=j
    ·rw[e,upd_same] at h; exact .inl h
    ·rw[upd_ne _ _ e] at h; exact .inr (ih h)
def agF (f:Nat→V) (g:Nat→Nat):List (Nat×V)→Prop
  | []=>True
  | (i,v)::r=>f i=v.ren g∧agF f g r
def agH (h:Heap) (g:Nat→Nat):List (Nat×Ob)→Prop
  | []=>True
  | (i,o)::r=>h (g i)=some (o.ren g)∧agH h g r
def noDup:List Nat→Bool
  | []=>true
  | i::r=>!r.contains i&&noDup r
theorem agF_nil (f:Nat→V) (g:Nat→Nat):agF f g []=True:=rfl
theorem agF_cons (f:Nat→V) (g:Nat→Nat) (i:Nat) (v:V) (r:List (Nat×V)):agF f g ((i,v)::r)=(f i=v.ren g∧agF f g r):=rfl
theorem agH_nil (h:Heap) (g:Nat→Nat):agH h g []=True:=rfl
theorem agH_cons (h:Heap) (g:Nat→Nat) (i:Nat) (o:Ob) (r:List (Nat×Ob)):agH h g ((i,o)::r)=(h (g i)=some (o.ren g)∧agH h g r):=rfl
theorem agF_mem {f:Nat→V} {g:Nat→Nat}:∀ {l:List (Nat×V)},agF f g l→∀ p∈l,f p.1=p.2.ren g
  | (i,v)::r,h,p,hp=>by
    rcases List.mem_cons.1 hp with rfl | hp
    ·exact h.1
    ·exact agF_mem h.2 p hp
theorem agH_mem {f:Heap} {g:Nat→Nat}:∀ {l:List (Nat×Ob)},agH f g l→∀ p∈l,f (g p.1)=some (p.2.ren g)
  | (i,v)::r,h,p,hp=>by
    rcases List.mem_cons.1 hp with rfl | hp
    ·exact h.1
    ·exact agH_mem h.2 p hp
theorem noDup_ok:∀ {l:List Nat},noDup l=true→l.Nodup
  | [],_=>.nil
  | i::r,h=>by
    simp only[noDup,Bool.and_eq_true,Bool.not_eq_true'] at h
    refine List.nodup_cons.2 ⟨fun hi=>?_,noDup_ok h.2⟩
    have:=List.contains_iff_mem.2 hi
    rw[h.1] at this
    cases this
theorem ent_l {σ:St} (g:Nat→Nat) {fl:List (Nat×V)} {hl:List (Nat×Ob)} {ul:List Nat} (h1':agF σ.f g fl) (h2':agH σ.h g hl)
    (h3':noDup (hl.map fun p=>g p.1)=true) (h4:((fl.flatMap fun p=>p.2.ids)++(hl.flatMap fun p=>p.1::p.2.ids)).all (fun i=>ul.contains i)=true):Ent σ ⟨ofL fl,hL hl,uL ul⟩:=by
  have h1:=agF_mem h1'
  have h2:=agH_mem h2'
  have h3:=noDup_ok h3'
  have used:∀ i,i∈(fl.flatMap fun p=>p.2.ids)++(hl.flatMap fun p=>p.1::p.2.ids)→uL ul i=true:=by
    intro i hi
    rw[List.all_eq_true] at h4
    exact uL_mem (by simpa using h4 i hi)
  refine⟨⟨g,ofL_or h1,fun i o ho=>h2 (i,o) (hL_some ho),fun i j hi hj e=>?_⟩,fun t i hi=>used i (List.mem_append_left _ (ofL_ids hi)),fun i o ho=>⟨used i ?_,fun j hj=>used j ?_⟩⟩
  ·obtain⟨o,ho⟩:=Option.ne_none_iff_exists'.1 hi
   obtain⟨q,hq⟩:=Option.ne_none_iff_exists'.1 hj
   have m1:=hL_some ho
   have m2:=hL_some hq
   have key:∀ {l:List (Nat×Ob)},(l.map fun p=>g p.1).Nodup→∀ {x y:Nat×Ob},x∈l→y∈l→g x.1=g y.1→x=y:=by
     intro l
     induction l with
     | nil=>intro _ x y hx; cases hx
     | cons p r ih =>
       intro hn x y hx hy e
       rw[List.map_cons,List.nodup_cons] at hn
       rcases List.mem_cons.1 hx with rfl | hx' <;> rcases List.mem_cons.1 hy with rfl | hy'
       ·rfl
       ·exact (hn.1 (List.mem_map.2 ⟨y,hy',e.symm⟩)).elim
       ·exact (hn.1 (List.mem_map.2 ⟨x,hx',e⟩)).elim
       ·exact ih hn.2 hx' hy' e
   exact congrArg Prod.fst (key h3 m1 m2 e)
  ·exact List.mem_append_right _ (List.mem_flatMap.2 ⟨_,hL_some ho,by simp⟩)
  ·exact List.mem_append_right _ (List.mem_flatMap.2 ⟨_,hL_some ho,by simp[hj]⟩)
section
variable {P:Program} {G:Glob}
def lopQ {α:Type} (st:α→St) (μ:α→Nat) (ok:α→Prop) (a:α) (Q:AX→St→Prop) (e:AX) (s:St):Prop :=
  match e with | .nrm=>∃ b,μ b<μ a∧ok b∧Ent s (st b) | e=>Q e s
theorem lopQ_ex {α:Type} (st:α→St) (μ:α→Nat) (ok:α→Prop) (a:α) (Q:AX→St→Prop) (i:Nat) (s:St):lopQ st μ ok a Q (.ex i) s=Q (.ex i) s:=rfl
theorem lopQ_ret {α:Type} (st:α→St) (μ:α→Nat) (ok:α→Prop) (a:α) (Q:AX→St→Prop) (s:St):lopQ st μ ok a Q .ret s=Q .ret s:=rfl
theorem lop_next {α:Type} {st:α→St} {μ:α→Nat} {ok:α→Prop} {a:α} {Q:AX→St→Prop} {s:St} (b:α) (h1:μ b<μ a) (h2:ok b) (h3:Ent s (st b)):lopQ st μ ok a Q .nrm s:=⟨b,h1,h2,h3⟩
theorem loop_st {α:Type} {c:SCode} {Q:AX→St→Prop} {σ:St} (st:α→St) (μ:α→Nat) (ok:α→Prop) (a0:α) (h0:ok a0) (he:Ent σ (st a0)) (round:∀ a,ok a→awp P G c (lopQ st μ ok a Q) (st a)):awp P G (.loop c) Q σ:=by
  refine⟨fun n s=>∃ a,μ a=n∧ok a∧s=st a,⟨μ a0,st a0,he,a0,rfl,h0,rfl⟩,?_⟩
  rintro n s ⟨a,rfl,ha,rfl⟩
  have key:(lopQ st μ ok a Q)=(fun e s'=>match e with | .nrm=>∃ n' τ,n'<μ a∧Ent s' τ∧∃ a,μ a=n'∧ok a∧τ=st a | e=>Q e s'):=by
    funext e s'
    cases e with
    | nrm =>
      refine propext ⟨?_,?_⟩
      ·rintro⟨b,h1,h2,h3⟩
       exact⟨μ b,st b,h1,h3,b,rfl,h2,rfl⟩
      ·rintro⟨n',τ,h1,h2,b,rfl,h3,rfl⟩
       exact⟨b,h1,h3,h2⟩
    | ex i=>rfl
    | ret=>rfl
  have:=round a ha
  rw[key] at this
  exact this
end
theorem den_ro {P:Program} {G:Glob} {F:FuncId} {args:List D} {sz:Nat} {es:List D} (h:Den P G F args (.w (.c (.fr sz es)))):Den P G F args (.w (.c (.d (.sl es)))):=by
  intro w S vs h1 h2 h3
  refine (h w S vs h1 h2 h3).mono ?_
  rintro e w' ⟨v,S',bl,rfl,k1,k2,k3,k4⟩
  have hfresh:∀ b∈bl,w.heap.size≤b∧b<w'.heap.size:=by
    intro b hb
    rcases k4 with ⟨_,_,rfl⟩ | ⟨b',cap,ty,N,rfl,_,_,_,q1,_,q2⟩
    ·cases hb
    ·simp only[List.mem_singleton] at hb
     subst hb
     obtain⟨f1,_,cur,ty',fz,f3,_⟩:=q2
     exact⟨f1,(Array.getElem?_eq_some_iff.1 f3).1⟩
  refine⟨v,fun b i=>S' b i∨b∈bl,[],rfl,k1,fun b i hs=>?_,.nil,?_⟩
  ·rcases hs with hs | hs
   ·exact k2 b i hs
   ·exact⟨.inr (hfresh b hs).1,(hfresh b hs).2⟩
  ·have:=ro_ok (m:=fun _=>none) (x:=.c (.fr sz es)) k4 (T:=fun b i=>S' b i∨b∈bl) (fun _ _ h=>.inl h) (fun b hb _=>.inr hb)
   exact⟨this.1,rfl⟩
theorem resW_d {S S':Cells} {w:World} {B:Nat} {v:Value} {y:D} {bl:List Nat} (h:ResW S w B v (.c (.d y)) bl) (hS:∀ b i,S b i→S' b i):ResW S' w B v (.c (.d y)) []∧bl=[]:=by
  cases y with
  | agg cs =>
    obtain⟨⟨us,h1,h2⟩,h3⟩:=h
    exact⟨⟨⟨us,h1,h2.weak fun _ _ _ _ h=>h.mono hS⟩,rfl⟩,h3⟩
  | _ =>
    obtain⟨h1,h2⟩:=h
    exact⟨⟨h1.mono hS,rfl⟩,h2⟩
theorem den_ro2 {P:Program} {G:Glob} {F:FuncId} {args:List D} {sz:Nat} {es:List D} {y:D} (h:Den P G F args (.tup [.c (.fr sz es),.c (.d y)])):Den P G F args (.tup [.c (.d (.sl es)),.c (.d y)]):=by
  intro w S vs h1 h2 h3
  refine (h w S vs h1 h2 h3).mono ?_
  rintro e w' ⟨v,S',bl,rfl,k1,k2,k3,us,rfl,k4⟩
  cases k4 with
  | @cons v1 c1 b1 vs1 cs1 b2 q1 q2 =>
  cases q2 with
  | @cons v2 c2 b3 vs2 cs2 b4 q3 q4 =>
  cases q4
  have hfresh:∀ b∈b1,w.heap.size≤b∧b<w'.heap.size:=by
    intro b hb
    rcases q1 with ⟨_,_,rfl⟩ | ⟨b',cap,ty,N,rfl,_,_,_,q1,_,q2⟩
    ·cases hb
    ·simp only[List.mem_singleton] at hb
     subst hb
     obtain⟨f1,_,cur,ty',fz,f3,_⟩:=q2
     exact⟨f1,(Array.getElem?_eq_some_iff.1 f3).1⟩
  refine⟨_,fun b i=>S' b i∨b∈b1,[],rfl,k1,fun b i hs=>?_,.nil,_,rfl,?_⟩
  ·rcases hs with hs | hs
   ·exact k2 b i hs
   ·exact⟨.inr (hfresh b hs).1,(hfresh b hs).2⟩
  ·have hx:=ro_ok (m:=fun _=>none) (x:=.c (.fr sz es)) q1 (T:=fun b i=>S' b i∨b∈b1) (fun _ _ h=>.inl h) (fun b hb _=>.inr hb)
   exact .cons (b1:=[]) (b2:=[]) ⟨hx.1,rfl⟩ (.cons (b1:=[]) (b2:=[]) (resW_d q3 fun _ _ h=>.inl h).1 .nil)
abbrev bs (l:List UInt8):D:=.sl (l.map bD)
def wD (x:UInt32):D:=.int .u32 (x.toNat:Int)
theorem asI_b (x:UInt8):asI (.w (.c (.d (bD x))))=some (.u8,(x.toNat:Int)):=rfl
theorem asI_w (x:UInt32):asI (.w (.c (.d (wD x))))=some (.u32,(x.toNat:Int)):=rfl
theorem binV_bl (op:BinOp) (x:UInt8) (k:IntKind) (n:Int):binV op (.w (.c (.d (bD x)))) (.w (.c (.d (.int k n))))=binV op (.w (.c (.d (.int .u8 (x.toNat:Int))))) (.w (.c (.d (.int k n)))):=rfl
theorem binV_br (op:BinOp) (x:UInt8) (k:IntKind) (n:Int):binV op (.w (.c (.d (.int k n)))) (.w (.c (.d (bD x))))=binV op (.w (.c (.d (.int k n)))) (.w (.c (.d (.int .u8 (x.toNat:Int))))):=rfl
theorem binV_bb1 (x y:UInt8):binV .lss (.w (.c (.d (bD x)))) (.w (.c (.d (bD y))))=binV .lss (.w (.c (.d (.int .u8 (x.toNat:Int))))) (.w (.c (.d (.int .u8 (y.toNat:Int))))):=rfl
theorem binV_bb2 (x y:UInt8):binV .leq (.w (.c (.d (bD x)))) (.w (.c (.d (bD y))))=binV .leq (.w (.c (.d (.int .u8 (x.toNat:Int))))) (.w (.c (.d (.int .u8 (y.toNat:Int))))):=rfl
theorem binV_bb3 (x y:UInt8):binV .gtr (.w (.c (.d (bD x)))) (.w (.c (.d (bD y))))=binV .gtr (.w (.c (.d (.int .u8 (x.toNat:Int))))) (.w (.c (.d (.int .u8 (y.toNat:Int))))):=rfl
theorem binV_bb4 (x y:UInt8):binV .geq (.w (.c (.d (bD x)))) (.w (.c (.d (bD y))))=binV .geq (.w (.c (.d (.int .u8 (x.toNat:Int))))) (.w (.c (.d (.int .u8 (y.toNat:Int))))):=rfl
theorem binV_bb5 (x y:UInt8):binV .eql (.w (.c (.d (bD x)))) (.w (.c (.d (bD y))))=binV .eql (.w (.c (.d (.int .u8 (x.toNat:Int))))) (.w (.c (.d (.int .u8 (y.toNat:Int))))):=rfl
theorem binV_bb6 (x y:UInt8):binV .neq (.w (.c (.d (bD x)))) (.w (.c (.d (bD y))))=binV .neq (.w (.c (.d (.int .u8 (x.toNat:Int))))) (.w (.c (.d (.int .u8 (y.toNat:Int))))):=rfl
theorem binV_bb7 (x y:UInt8):binV .add (.w (.c (.d (bD x)))) (.w (.c (.d (bD y))))=binV .add (.w (.c (.d (.int .u8 (x.toNat:Int))))) (.w (.c (.d (.int .u8 (y.toNat:Int))))):=rfl
theorem binV_bb8 (x y:UInt8):binV .sub (.w (.c (.d (bD x)))) (.w (.c (.d (bD y))))=binV .sub (.w (.c (.d (.int .u8 (x.toNat:Int))))) (.w (.c (.d (.int .u8 (y.toNat:Int))))):=rfl
theorem unV_b (op:UnOp) (x:UInt8):unV op (.w (.c (.d (bD x))))=unV op (.w (.c (.d (.int .u8 (x.toNat:Int))))):=rfl
theorem cells_int (k:IntKind) (n:Int):D.cells (.int k n)=[.int k n]:=rfl
theorem cells_bool (b:Bool):D.cells (.bool b)=[.bool b]:=rfl
theorem cells_str (b:ByteArray):D.cells (.str b)=[.str b]:=rfl
theorem cells_sl (es:List D):D.cells (.sl es)=[.sl es]:=rfl
theorem cells_agg (cs:List D):D.cells (.agg cs)=cs:=rfl
theorem wD_cells (x:UInt32):(wD x).cells=[wD x]:=rfl
theorem allSz_b1 (a:UInt8):allSz 1 [bD a]=true:=rfl
theorem allSz_b2 (a b:UInt8):allSz 1 [bD a,bD b]=true:=rfl
theorem bD_cells (x:UInt8):(bD x).cells=[bD x]:=rfl
theorem allSz_map {α:Type} (f:α→D) (hf:∀ x,(f x).cells.length=1) (l:List α):allSz 1 (l.map f)=true:=by
  unfold allSz
  rw[List.all_eq_true]
  intro d hd
  obtain⟨x,_,rfl⟩:=List.mem_map.1 hd
  simp[hf x]
theorem allSz_bs (l:List UInt8):allSz 1 (l.map bD)=true:=allSz_map bD (fun _=>rfl) l
theorem allSz_ws (l:List UInt32):allSz 1 (l.map wD)=true:=allSz_map wD (fun _=>rfl) l
theorem ofBs_map:∀ l:List UInt8,ofBs (l.map bD)=some l
  | []=>rfl
  | x::l=>by
    have h:=x.toNat_lt
    simp only[List.map_cons,ofBs,ofBs_map l,bD,ofB]
    rw[if_pos (by omega)]
    simp
theorem take_map {α β:Type} (f:α→β) (l:List α) (n:Nat):(l.map f).take n=(l.take n).map f:=List.map_take.symm
theorem drop_map {α β:Type} (f:α→β) (l:List α) (n:Nat):(l.map f).drop n=(l.drop n).map f:=List.map_drop.symm
theorem len_map {α β:Type} (f:α→β) (l:List α):(l.map f).length=l.length:=List.length_map _
theorem app_map {α β:Type} (f:α→β) (l m:List α):l.map f++m.map f=(l++m).map f:=List.map_append.symm
theorem get_map {α β:Type} (f:α→β) (l:List α) (i:Nat):(l.map f)[i]?=(l[i]?).map f:=List.getElem?_map
theorem set_map {α β:Type} (f:α→β) (l:List α) (i:Nat) (x:α):(l.map f).set i (f x)=(l.set i x).map f:=List.map_set.symm
theorem flat_map1 {α:Type} (f:α→D) (hf:∀ x,(f x).cells=[f x]):∀ l:List α,(l.map f).flatMap D.cells=l.map f
  | []=>rfl
  | x::l=>by rw[List.map_cons,List.flatMap_cons,hf x,flat_map1 f hf l]; rfl
theorem flat_ws (l:List UInt32):(l.map wD).flatMap D.cells=l.map wD:=flat_map1 wD (fun _=>rfl) l
theorem flat_bs (l:List UInt8):(l.map bD).flatMap D.cells=l.map bD:=flat_map1 bD (fun _=>rfl) l
def wrapX (k:IntKind) (n:Int):Int:=k.wrap n
theorem wr_i64 (n:Int):IntKind.i64.wrap n=if -9223372036854775808≤n∧n≤9223372036854775807 then n else wrapX .i64 n:=by
  split
  ·exact IntWalk.i64_in _ ‹_›
  ·rfl
theorem wr_u64 (n:Int):IntKind.u64.wrap n=if 0≤n∧n≤18446744073709551615 then n else wrapX .u64 n:=by
  split
  ·exact IntWalk.u64_in _ (by omega)
  ·rfl
theorem wr_u32 (n:Int):IntKind.u32.wrap n=if 0≤n∧n≤4294967295 then n else wrapX .u32 n:=by
  split
  ·exact IntWalk.u32_in _ (by omega)
  ·rfl
theorem wr_u8 (n:Int):IntKind.u8.wrap n=if 0≤n∧n≤255 then n else wrapX .u8 n:=by
  split
  ·exact IntWalk.u8_in _ (by omega)
  ·rfl
theorem fl_w (s:Nat) (l:List UInt32):V.flat (.w (.c (.fr s (l.map wD))))=true:=by
  simp only[V.flat,W.flat,C.flat,List.all_map,List.all_eq_true]; intro x _; rfl
theorem fl_b (s:Nat) (l:List UInt8):V.flat (.w (.c (.fr s (l.map bD))))=true:=by
  simp only[V.flat,W.flat,C.flat,List.all_map,List.all_eq_true]; intro x _; rfl
theorem allSz_nil (sz:Nat):allSz sz []=true:=rfl
theorem allSz_cons (sz:Nat) (e:D) (es:List D):allSz sz (e::es)=(e.cells.length==sz&&allSz sz es):=rfl
theorem binS_refl (a:ByteArray):binS .eql a a=some (.bool true):=by simp[binS]
theorem rep1 {α:Type} (a:α):List.replicate 1 a=[a]:=rfl
theorem rep2 {α:Type} (a:α):List.replicate 2 a=[a,a]:=rfl
theorem rep3 {α:Type} (a:α):List.replicate 3 a=[a,a,a]:=rfl
theorem rep4 {α:Type} (a:α):List.replicate 4 a=[a,a,a,a]:=rfl
theorem rep5 {α:Type} (a:α):List.replicate 5 a=[a,a,a,a,a]:=rfl
theorem rep6 {α:Type} (a:α):List.replicate 6 a=[a,a,a,a,a,a]:=rfl
def stOx:=@stO
def optOne:Option D→Bool | some e=>e.one | none=>false
theorem optOne_some (e:D):optOne (some e)=e.one:=rfl
theorem stO_c (es:List D) (i s:Nat) (x:D):stO .sc (.c (.d x)) i 0 (.row s es)=bif optOne es[i]?&&x.one then some (.row s (es.set i x)) else stOx .sc (.c (.d x)) i 0 (.row s es):=by
  cases hc:(optOne es[i]?&&x.one) with
  | false=>rfl
  | true =>
    rw[Bool.and_eq_true] at hc
    obtain⟨h1,h2⟩:=hc
    cases he:es[i]? with
    | none=>rw[he] at h1; cases h1
    | some e =>
      rw[he] at h1
      simp only[stO,he,pureW,cond_true]
      cases e <;> first | (cases h1; done) | simp[h2]
theorem one_int (k:IntKind) (n:Int):D.one (.int k n)=true:=rfl
theorem one_bool (b:Bool):D.one (.bool b)=true:=rfl
theorem one_str (b:ByteArray):D.one (.str b)=true:=rfl
theorem one_sl (es:List D):D.one (.sl es)=true:=rfl
theorem one_b (x:UInt8):D.one (bD x)=true:=rfl
theorem one_w (x:UInt32):D.one (wD x)=true:=rfl
theorem wc_w (x:UInt32):wcells (.c (.d (wD x)))=[.d (wD x)]:=rfl
theorem wc_b (x:UInt8):wcells (.c (.d (bD x)))=[.d (bD x)]:=rfl
theorem wc_int (k:IntKind) (n:Int):wcells (.c (.d (.int k n)))=[.d (.int k n)]:=rfl
theorem wc_bool (b:Bool):wcells (.c (.d (.bool b)))=[.d (.bool b)]:=rfl
theorem wc_str (b:ByteArray):wcells (.c (.d (.str b)))=[.d (.str b)]:=rfl
theorem wc_sl (es:List D):wcells (.c (.d (.sl es)))=[.d (.sl es)]:=rfl
theorem wc_agg (cs:List D):wcells (.c (.d (.agg cs)))=cs.map C.d:=rfl
theorem wc_nil:wcells (.c .nil)=[.nil]:=rfl
theorem wc_own (id sz off n:Nat):wcells (.c (.own id sz off n))=[.own id sz off n]:=rfl
theorem wc_ptr (id sz i o:Nat):wcells (.c (.ptr id sz i o))=[.ptr id sz i o]:=rfl
theorem wc_pa (id sz:Nat):wcells (.c (.pa id sz))=[.pa id sz]:=rfl
theorem wc_mix (cs:List C):wcells (.mix cs)=cs:=rfl
theorem ret_d {σ:St} {p:Nat×Option Kd} {x:D} (h:resW σ p=some (.c (.d x))):RetOk σ [p] (.w (.c (.d x))) :=
  ⟨[.c (.d x)],by simp[allSome,h],.inl ⟨by simp[W.ids,C.ids],rfl⟩⟩
theorem ret_own {σ:St} {p:Nat×Option Kd} {id sz n s:Nat} {es:List D} (h:resW σ p=some (.c (.own id sz 0 n))) (e:σ.h id=some (.row s es)) (hn:n=es.length):RetOk σ [p] (.w (.c (.fr sz es))):=by
  refine⟨[.c (.own id sz 0 n)],by simp[allSome,h],.inl ⟨by simp[W.ids,C.ids],rfl,rfl,?_⟩⟩
  subst hn
  rw[e]
  exact⟨by simp[obSl],trivial⟩
theorem ret_ownN {σ:St} {p:Nat×Option Kd} {id sz n s:Nat} {full:List D} (h:resW σ p=some (.c (.own id sz 0 n))) (e:σ.h id=some (.row s full)) (hn:n≤full.length):RetOk σ [p] (.w (.c (.fr sz (full.take n)))):=by
  refine⟨[.c (.own id sz 0 n)],by simp[allSome,h],.inl ⟨by simp[W.ids,C.ids],rfl,rfl,?_⟩⟩
  rw[e]
  exact⟨by simp[obSl,hn],trivial⟩
theorem ret_nil {σ:St} {p:Nat×Option Kd} {sz:Nat} (h:resW σ p=some (.c .nil)):RetOk σ [p] (.w (.c (.fr sz []))) :=
  ⟨[.c .nil],by simp[allSome,h],.inl ⟨by simp[W.ids,C.ids],rfl⟩⟩
theorem ret_d1 {σ:St} {p:Nat×Option Kd} {x:D} (h1:(resW σ p).bind (toW σ.h)=some x):RetOk σ [p] (.w (.c (.d x))):=by
  obtain⟨w1,a1,b1⟩:=Option.bind_eq_some_iff.1 h1
  exact⟨[w1],by simp[allSome,a1],.inr b1⟩
theorem ret_d2 {σ:St} {p q:Nat×Option Kd} {x y:D} (h1:(resW σ p).bind (toW σ.h)=some x) (h2:(resW σ q).bind (toW σ.h)=some y):RetOk σ [p,q] (.tup [.c (.d x),.c (.d y)]):=by
  obtain⟨w1,a1,b1⟩:=Option.bind_eq_some_iff.1 h1
  obtain⟨w2,a2,b2⟩:=Option.bind_eq_some_iff.1 h2
  exact⟨[w1,w2],by simp[allSome,a1,a2],.inr (.cons ⟨x,rfl,b1⟩ (.cons ⟨y,rfl,b2⟩ .nil))⟩
theorem ret_d3 {σ:St} {p q r:Nat×Option Kd} {x y z:D} (h1:(resW σ p).bind (toW σ.h)=some x) (h2:(resW σ q).bind (toW σ.h)=some y) (h3:(resW σ r).bind (toW σ.h)=some z):RetOk σ [p,q,r] (.tup [.c (.d x),.c (.d y),.c (.d z)]):=by
  obtain⟨w1,a1,b1⟩:=Option.bind_eq_some_iff.1 h1
  obtain⟨w2,a2,b2⟩:=Option.bind_eq_some_iff.1 h2
  obtain⟨w3,a3,b3⟩:=Option.bind_eq_some_iff.1 h3
  exact⟨[w1,w2,w3],by simp[allSome,a1,a2,a3],.inr (.cons ⟨x,rfl,b1⟩ (.cons ⟨y,rfl,b2⟩ (.cons ⟨z,rfl,b3⟩ .nil)))⟩
theorem ret_own_d {σ:St} {p q:Nat×Option Kd} {id sz n s:Nat} {es:List D} {y:D} (h1:resW σ p=some (.c (.own id sz 0 n))) (e:σ.h id=some (.row s es)) (hn:n=es.length) (h2:resW σ q=some (.c (.d y))):RetOk σ [p,q] (.tup [.c (.fr sz es),.c (.d y)]):=by
  refine⟨[.c (.own id sz 0 n),.c (.d y)],by simp[allSome,h1,h2],.inl ⟨by simp[W.ids,C.ids],.cons ⟨rfl,rfl,?_⟩ (.cons ?_ .nil)⟩⟩
  ·subst hn
   rw[e]
   exact⟨by simp[obSl],trivial⟩
  ·cases y <;> rfl
theorem ret_nil_d {σ:St} {p q:Nat×Option Kd} {sz:Nat} {y:D} (h1:resW σ p=some (.c .nil)) (h2:resW σ q=some (.c (.d y))):RetOk σ [p,q] (.tup [.c (.fr sz []),.c (.d y)]):=by
  refine⟨[.c .nil,.c (.d y)],by simp[allSome,h1,h2],.inl ⟨by simp[W.ids,C.ids],.cons rfl (.cons ?_ .nil)⟩⟩
  cases y <;> rfl
def toFr (h:Heap) (sz:Nat):W→Option (List D)
  | .c (.own id sz' off n)=>match h id with
    | some (.row _ es)=>if off=0∧n=es.length∧sz'=sz then some es else none
    | _=>none
  | .c .nil=>some []
  | _=>none
theorem toFr_own (h:Heap) (sz id sz' off n:Nat):toFr h sz (.c (.own id sz' off n))=(match h id with
    | some (.row _ es)=>if off=0∧n=es.length∧sz'=sz then some es else none
    | _=>none):=rfl
theorem toFr_nil (h:Heap) (sz:Nat):toFr h sz (.c .nil)=some []:=rfl
theorem ret_f1 {σ:St} {p:Nat×Option Kd} {sz:Nat} {es:List D} (h1:(resW σ p).bind (toFr σ.h sz)=some es):RetOk σ [p] (.w (.c (.fr sz es))):=by
  obtain⟨w,a,b⟩:=Option.bind_eq_some_iff.1 h1
  unfold toFr at b
  split at b
  ·split at b
   ·rename_i e
    split at b
    ·rename_i hc
     obtain⟨rfl,rfl,rfl⟩:=hc
     obtain rfl:=Option.some.inj b
     exact ret_own a e rfl
    ·cases b
   ·cases b
  ·obtain rfl:=Option.some.inj b
   exact ret_nil a
  ·cases b
theorem ret_f2 {σ:St} {p q:Nat×Option Kd} {sz:Nat} {es:List D} {y:D} (h1:(resW σ p).bind (toFr σ.h sz)=some es) (h2:resW σ q=some (.c (.d y))):RetOk σ [p,q] (.tup [.c (.fr sz es),.c (.d y)]):=by
  obtain⟨w,a,b⟩:=Option.bind_eq_some_iff.1 h1
  unfold toFr at b
  split at b
  ·split at b
   ·rename_i e
    split at b
    ·rename_i hc
     obtain⟨rfl,rfl,rfl⟩:=hc
     obtain rfl:=Option.some.inj b
     exact ret_own_d a e rfl h2
    ·cases b
   ·cases b
  ·obtain rfl:=Option.some.inj b
   exact ret_nil_d a h2
  ·cases b
end Go.Proofs.YtbkhllchjbjhgaaDoor
