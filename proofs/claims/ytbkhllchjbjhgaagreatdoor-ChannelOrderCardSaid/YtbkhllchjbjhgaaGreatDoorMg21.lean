/- Texts of one's own, merged: from: The plain logic (1): data,what memory it lies in,and that it stays as it is while other memory is written. Own work,over any program. -/
import Derived.WalkKit
import Derived.Below
import Derived.Laws.AppendOwn
import Derived.RangeFuncNested
import Derived.RangeFuncCalls
import Derived.RangeFuncLeaves
set_option linter.unusedVariables false
set_option linter.unusedSimpArgs false
namespace Go.Proofs.YtbkhllchjbjhgaaGreatDoor
open Go.RowKit
inductive D where
  | int (k:IntKind) (n:Int)
  | bool (b:Bool)
  | str (s:ByteArray)
  | sl (es:List D)
  | agg (cs:List D)
  | ref (cs:List D)
  | fn (f:Nat) (caps:List D)
deriving Inhabited
def D.cells:D→List D
  | .agg cs=>cs
  | x=>[x]
def D.one:D→Bool
  | .agg _=>false
  | _=>true
theorem D.one_cells {x:D} (h:x.one=true):x.cells=[x]:=by cases x <;> first | rfl | simp[D.one] at h
inductive Cp where
  | d (x:D)
  | p (id sz i o:Nat)
deriving Inhabited
inductive C where
  | d (x:D)
  | nil
  | own (id sz off n:Nat)
  | ptr (id sz i o:Nat)
  | pa (id sz:Nat)
  | rp (cs:List D)
  | ra (es:List D)
  | fr (sz:Nat) (es:List D)
  | cf (f:Nat) (pre post:List Cp)
  | mp (id:Nat)
deriving Inhabited
inductive W where
  | c (x:C)
  | mix (cs:List C)
deriving Inhabited
inductive V where
  | w (x:W)
  | tup (ws:List W)
  | undef
deriving Inhabited
inductive Ob where
  | row (sz:Nat) (es:List D)
  | box (cs:List C)
  | mp (q:IntKind) (es:List (Int×D))
abbrev Heap:=Nat→Option Ob
structure St where
  f:Nat→V
  h:Heap
  u:Nat→Bool
inductive All2 {α β:Type} (R:α→β→Prop):List α→List β→Prop
  | nil:All2 R [] []
  | cons {a b as bs}:R a b→All2 R as bs→All2 R (a::as) (b::bs)
abbrev Cells:=Nat→Nat→Prop
abbrev Mp:=Nat→Option (Nat×Nat)
inductive Reads (S:Cells) (w:World):Value→D→Prop
  | int (k:IntKind) (n:Int):Reads S w (.int k n) (.int k n)
  | bool (b:Bool):Reads S w (.bool b) (.bool b)
  | str (s:ByteArray):Reads S w (.string s) (.str s)
  | nil:Reads S w (.slice none 0 0) (.sl [])
  | sl (a:Addr) (cap sz:Nat) (es:List D) (u:Nat→Nat→Value) (hcap:es.length≤cap) (hmax:cap≤maxLen)
      (hsz:∀ i (h:i<es.length),es[i].cells.length=sz)
      (hS:∀ i j,i<es.length→j<sz→S a.block (a.off+(i*sz+j)))
      (hc:∀ i j,i<es.length→j<sz→w.cell? ⟨a.block,a.off+(i*sz+j),a.spot⟩=some (u i j))
      (hr:∀ i j (h:i<es.length) (h2:j<es[i].cells.length),Reads S w (u i j) es[i].cells[j]) :
      Reads S w (.slice (some a) es.length cap) (.sl es)
  | ref (a:Addr) (cs:List D) (u:Nat→Value) (hS:∀ j,j<cs.length→S a.block (a.off+j))
      (hc:∀ j,j<cs.length→w.cell? ⟨a.block,a.off+j,a.spot⟩=some (u j)) (hr:∀ j (h:j<cs.length),Reads S w (u j) cs[j]):Reads S w (.pointer (some a)) (.ref cs)
  | fn (f:Nat) (vs:List Value) (caps:List D) (u:Nat→Value) (hl:vs.length=caps.length) (hv:∀ j,j<vs.length→vs[j]?=some (u j)) (hr:∀ j (h:j<caps.length),Reads S w (u j) caps[j]):Reads S w (.func (.func f) #[] vs.toArray) (.fn f caps)
def CellsAt (S:Cells) (w:World) (a:Addr) (cs:List D):Prop :=
  ∀ j (h:j<cs.length),∃ v,S a.block (a.off+j)∧w.cell? ⟨a.block,a.off+j,a.spot⟩=some v∧Reads S w v cs[j]
def RowAt (S:Cells) (w:World) (a:Addr) (sz:Nat) (es:List D):Prop :=
  ∀ i (h:i<es.length),es[i].cells.length=sz∧CellsAt S w ⟨a.block,a.off+i*sz,a.spot⟩ es[i].cells
theorem Reads.of_row {S:Cells} {w:World} {a:Addr} {cap sz:Nat} {es:List D} (h:RowAt S w a sz es) (hcap:es.length≤cap) (hmax:cap≤maxLen):Reads S w (.slice (some a) es.length cap) (.sl es):=by
  have h1:∀ i j,∃ v,∀ (h:i<es.length) (h2:j<es[i].cells.length),S a.block (a.off+(i*sz+j))∧w.cell? ⟨a.block,a.off+(i*sz+j),a.spot⟩=some v∧Reads S w v es[i].cells[j]:=by
    intro i j
    by_cases hi:i<es.length
    ·by_cases hj:j<es[i].cells.length
     ·obtain⟨v,a1,a2,a3⟩:=(h i hi).2 j hj
      simp only[Nat.add_assoc] at a1 a2
      exact⟨v,fun _ _=>⟨a1,a2,a3⟩⟩
     ·exact⟨.bool false,fun _ h2=>absurd h2 hj⟩
    ·exact⟨.bool false,fun h=>absurd h hi⟩
  obtain⟨u,hu⟩:=Classical.axiomOfChoice (fun i=>Classical.axiomOfChoice (h1 i))
  refine .sl a cap sz es u hcap hmax (fun i hi=>(h i hi).1) (fun i j hi hj=>(hu i j hi (by rw[(h i hi).1]; exact hj)).1) (fun i j hi hj=>(hu i j hi (by rw[(h i hi).1]; exact hj)).2.1) (fun i j hi h2=>(hu i j hi h2).2.2)
theorem Reads.zero {S:Cells} {w:World} (ad:Option Addr):Reads S w (.slice ad 0 0) (.sl []):=by
  cases ad with
  | none=>exact .nil
  | some a=>exact Reads.of_row (es:=[]) (sz:=0) (fun i hi=>by simp at hi) (Nat.le_refl _) (Nat.zero_le _)
theorem Reads.row {S:Cells} {w:World} {v:Value} {es:List D} (h:Reads S w v (.sl es)) :
    (v=.slice none 0 0∧es=[])∨∃ a cap sz,v=.slice (some a) es.length cap∧es.length≤cap∧cap≤maxLen∧RowAt S w a sz es:=by
  cases h with
  | nil=>exact .inl ⟨rfl,rfl⟩
  | sl a cap sz es u hcap hmax hsz hS hc hr =>
    refine .inr ⟨a,cap,sz,rfl,hcap,hmax,fun i hi=>⟨hsz i hi,fun j hj=>⟨u i j,?_,?_,hr i j hi hj⟩⟩⟩
    ·rw[Nat.add_assoc]; exact hS i j hi (by rw[← hsz i hi]; exact hj)
    ·simp only[Nat.add_assoc]; exact hc i j hi (by rw[← hsz i hi]; exact hj)
theorem Reads.oneCell {S:Cells} {w:World} {v:Value} {x:D} (h:Reads S w v x):v.oneCell'=true:=by cases h <;> rfl
theorem Reads.cellsOf {S:Cells} {w:World} {v:Value} {x:D} (h:Reads S w v x):x.cells=[x]:=by cases h <;> rfl
structure Keeps (S:Cells) (w w':World):Prop where
  cell:∀ b i v,S b i→w.cell? ⟨b,i,none⟩=some v→w'.cell? ⟨b,i,none⟩=some v
  shape:∀ b s,w.shape? b=some s→w'.shape? b=some s
theorem Keeps.refl (S:Cells) (w:World):Keeps S w w:=⟨fun _ _ _ _ h=>h,fun _ _ h=>h⟩
theorem Keeps.trans {S:Cells} {a b c:World} (h:Keeps S a b) (k:Keeps S b c):Keeps S a c :=
  ⟨fun x i v hs hv=>k.cell x i v hs (h.cell x i v hs hv),fun x s hs=>k.shape x s (h.shape x s hs)⟩
theorem cell_spot {w:World} {b i:Nat} {s:Option Nat} {v:Value} (h:w.cell? ⟨b,i,s⟩=some v):s=none:=by
  unfold World.cell? at h
  split at h
  ·cases s with
   | none=>rfl
   | some x=>simp at h
  ·cases h
theorem Keeps.at {S:Cells} {w w':World} (h:Keeps S w w') {b i:Nat} {s:Option Nat} {v:Value} (hs:S b i) (hv:w.cell? ⟨b,i,s⟩=some v):w'.cell? ⟨b,i,s⟩=some v:=by
  have:=cell_spot hv
  subst this
  exact h.cell b i v hs hv
theorem Reads.keep {S:Cells} {w w':World} {v:Value} {x:D} (h:Reads S w v x) (k:Keeps S w w'):Reads S w' v x:=by
  induction h with
  | int k n=>exact .int k n
  | bool b=>exact .bool b
  | str s=>exact .str s
  | nil=>exact .nil
  | sl a cap sz es u hcap hmax hsz hS hc hr ih=>exact .sl a cap sz es u hcap hmax hsz hS (fun i j hi hj=>k.at (hS i j hi hj) (hc i j hi hj)) ih
  | ref a cs u hS hc hr ih=>exact .ref a cs u hS (fun j hj=>k.at (hS j hj) (hc j hj)) ih
  | fn f vs caps u hl hv hr ih=>exact .fn f vs caps u hl hv ih
theorem Reads.mono {S S':Cells} {w:World} {v:Value} {x:D} (h:Reads S w v x) (k:∀ b i,S b i→S' b i):Reads S' w v x:=by
  induction h with
  | int k n=>exact .int k n
  | bool b=>exact .bool b
  | str s=>exact .str s
  | nil=>exact .nil
  | sl a cap sz es u hcap hmax hsz hS hc hr ih=>exact .sl a cap sz es u hcap hmax hsz (fun i j hi hj=>k _ _ (hS i j hi hj)) hc ih
  | ref a cs u hS hc hr ih=>exact .ref a cs u (fun j hj=>k _ _ (hS j hj)) hc ih
  | fn f vs caps u hl hv hr ih=>exact .fn f vs caps u hl hv ih
theorem CellsAt.keep {S:Cells} {w w':World} {a:Addr} {cs:List D} (h:CellsAt S w a cs) (k:Keeps S w w'):CellsAt S w' a cs:=by
  intro j hj
  obtain⟨v,h1,h2,h3⟩:=h j hj
  exact⟨v,h1,k.at h1 h2,h3.keep k⟩
theorem CellsAt.mono {S S':Cells} {w:World} {a:Addr} {cs:List D} (h:CellsAt S w a cs) (k:∀ b i,S b i→S' b i):CellsAt S' w a cs:=by
  intro j hj
  obtain⟨v,h1,h2,h3⟩:=h j hj
  exact⟨v,k _ _ h1,h2,h3.mono k⟩
theorem Reads.cellsAt {S:Cells} {w:World} {v:Value} {cs:List D} (h:Reads S w v (.ref cs)):∃ a,v=.pointer (some a)∧CellsAt S w a cs:=by
  cases h with
  | ref a cs u hS hc hr=>exact⟨a,rfl,fun j hj=>⟨u j,hS j hj,hc j hj,hr j hj⟩⟩
theorem Reads.of_cells {S:Cells} {w:World} {a:Addr} {cs:List D} (h:CellsAt S w a cs):Reads S w (.pointer (some a)) (.ref cs):=by
  obtain⟨u,hu⟩:=Classical.axiomOfChoice (r:=fun j v=>∀ h:j<cs.length,S a.block (a.off+j)∧w.cell? ⟨a.block,a.off+j,a.spot⟩=some v∧Reads S w v cs[j]) (fun j=>by
    by_cases hj:j<cs.length
    ·obtain⟨v,hv⟩:=h j hj; exact⟨v,fun _=>hv⟩
    ·exact⟨.bool false,fun h=>absurd h hj⟩)
  exact .ref a cs u (fun j hj=>(hu j hj).1) (fun j hj=>(hu j hj).2.1) (fun j hj=>(hu j hj).2.2)
theorem RowAt.keep {S:Cells} {w w':World} {a:Addr} {sz:Nat} {es:List D} (h:RowAt S w a sz es) (k:Keeps S w w'):RowAt S w' a sz es :=
  fun i hi=>⟨(h i hi).1,(h i hi).2.keep k⟩
theorem RowAt.mono {S S':Cells} {w:World} {a:Addr} {sz:Nat} {es:List D} (h:RowAt S w a sz es) (k:∀ b i,S b i→S' b i):RowAt S' w a sz es :=
  fun i hi=>⟨(h i hi).1,(h i hi).2.mono k⟩
def OwnV (m:Mp) (w:World) (v:Value) (id sz off n:Nat):Prop :=
  match m id with
  | none=>(∃ ad,v=.slice ad 0 0)∧off=0∧n=0
  | some (b,sz')=>sz'=sz∧∃ a cap ty N,v=.slice (some a) n cap∧n≤cap∧cap≤maxLen∧(0<cap∨off=0→a=⟨b,off*sz,none⟩)∧w.shape? b=some (ty,N)∧(off+cap)*sz≤N
def RCp (m:Mp) (S:Cells) (w:World) (v:Value):Cp→Prop
  | .d x=>Reads S w v x
  | .p id sz i o=>∃ b,m id=some (b,sz)∧v=.pointer (some ⟨b,i*sz+o,none⟩)
def RC (m:Mp) (S:Cells) (w:World) (v:Value):C→Prop
  | .d x=>Reads S w v x
  | .nil=>∃ ad,v=.slice ad 0 0
  | .own id sz off n=>OwnV m w v id sz off n
  | .ptr id sz i o=>∃ b,m id=some (b,sz)∧v=.pointer (some ⟨b,i*sz+o,none⟩)
  | .pa id sz=>∃ b,m id=some (b,sz)∧v=.pointer (some ⟨b,0,none⟩)
  | .rp cs=>∃ a,v=.pointer (some a)∧CellsAt S w a cs
  | .ra es=>∃ a sz,v=.pointer (some a)∧RowAt S w a sz es
  | .fr _ _=>False
  | .cf f pre post=>∃ us vs:List Value,v=.func (.func f) us.toArray vs.toArray∧All2 (RCp m S w) us pre∧All2 (RCp m S w) vs post
  | .mp id=>∃ b,m id=some (b,1)∧v=.map (some b)
def RW (m:Mp) (S:Cells) (w:World) (v:Value):W→Prop
  | .c (.d (.agg cs))=>∃ us:List Value,v=.agg us.toArray∧All2 (Reads S w) us cs
  | .c x=>RC m S w v x
  | .mix cs=>∃ us:List Value,v=.agg us.toArray∧All2 (RC m S w) us cs
def RV (m:Mp) (S:Cells) (w:World) (v:Value):V→Prop
  | .w x=>RW m S w v x
  | .tup ws=>∃ us:List Value,v=.tuple us.toArray∧All2 (RW m S w) us ws
  | .undef=>True
theorem All2.length {α β:Type} {R:α→β→Prop} {l:List α} {m:List β} (h:All2 R l m):l.length=m.length:=by
  induction h with
  | nil=>rfl
  | cons _ _ ih=>simp[ih]
theorem All2.weak {α β:Type} {R R':α→β→Prop} {l:List α} {m:List β} (h:All2 R l m) (k:∀ a b,a∈l→b∈m→R a b→R' a b):All2 R' l m:=by
  induction h with
  | nil=>exact .nil
  | cons h _ ih=>exact .cons (k _ _ (by simp) (by simp) h) (ih fun a b ha hb=>k a b (by simp[ha]) (by simp[hb]))
theorem All2.get {α β:Type} {R:α→β→Prop} {l:List α} {m:List β} (h:All2 R l m):∀ i (h1:i<l.length) (h2:i<m.length),R l[i] m[i]:=by
  induction h with
  | nil=>intro i h1; simp at h1
  | cons h _ ih =>
    intro i h1 h2
    cases i with
    | zero=>exact h
    | succ i=>exact ih i (by simpa using h1) (by simpa using h2)
theorem All2.mk {α β:Type} {R:α→β→Prop}:∀ {l:List α} {m:List β},l.length=m.length→(∀ i (h1:i<l.length) (h2:i<m.length),R l[i] m[i])→All2 R l m
  | [],[],_,_=>.nil
  | [],_::_,h,_=>by simp at h
  | _::_,[],h,_=>by simp at h
  | a::l,b::m,h,k=>.cons (k 0 (by simp) (by simp)) (All2.mk (by simpa using h) fun i h1 h2=>k (i+1) (by simpa using h1) (by simpa using h2))
theorem All2.append {α β:Type} {R:α→β→Prop} {l l':List α} {m m':List β} (h:All2 R l m) (k:All2 R l' m'):All2 R (l++l') (m++m'):=by
  induction h with
  | nil=>exact k
  | cons h _ ih=>exact .cons h ih
theorem All2.get? {α β:Type} {R:α→β→Prop} {l:List α} {m:List β} (h:All2 R l m) {i:Nat} {y:β} (hy:m[i]?=some y):∃ x,l[i]?=some x∧R x y:=by
  obtain⟨h2,rfl⟩:=List.getElem?_eq_some_iff.1 hy
  have h1:i<l.length:=by rw[h.length]; exact h2
  exact⟨l[i],List.getElem?_eq_getElem h1,h.get i h1 h2⟩
theorem All2.take {α β:Type} {R:α→β→Prop} {l:List α} {m:List β} (h:All2 R l m) (n:Nat):All2 R (l.take n) (m.take n):=by
  have hl:=h.length
  refine .mk (by simp[hl]) fun i h1 h2=>?_
  simp only[List.getElem_take]
  exact h.get i (by simp at h1; omega) (by simp at h2; omega)
theorem All2.drop {α β:Type} {R:α→β→Prop} {l:List α} {m:List β} (h:All2 R l m) (n:Nat):All2 R (l.drop n) (m.drop n):=by
  have hl:=h.length
  refine .mk (by simp[hl]) fun i h1 h2=>?_
  simp only[List.getElem_drop]
  exact h.get _ (by simp at h1; omega) (by simp at h2; omega)
theorem OwnV.keep {m:Mp} {S:Cells} {w w':World} {v:Value} {id sz off n:Nat} (h:OwnV m w v id sz off n) (k:Keeps S w w'):OwnV m w' v id sz off n:=by
  unfold OwnV at *
  split at h
  ·exact h
  ·obtain⟨h0,a,cap,ty,N,h1,h2,h3,h4,h5,h6⟩:=h
   exact⟨h0,a,cap,ty,N,h1,h2,h3,h4,k.shape _ _ h5,h6⟩
theorem RCp.keep {m:Mp} {S:Cells} {w w':World} {v:Value} {x:Cp} (h:RCp m S w v x) (k:Keeps S w w'):RCp m S w' v x:=by
  cases x
  ·exact Reads.keep h k
  ·exact h
theorem RCp.mono {m:Mp} {S S':Cells} {w:World} {v:Value} {x:Cp} (h:RCp m S w v x) (k:∀ b i,S b i→S' b i):RCp m S' w v x:=by
  cases x
  ·exact Reads.mono h k
  ·exact h
theorem RC.keep {m:Mp} {S:Cells} {w w':World} {v:Value} {x:C} (h:RC m S w v x) (k:Keeps S w w'):RC m S w' v x:=by
  cases x <;> simp only[RC] at *
  ·exact h.keep k
  ·exact h
  ·exact h.keep k
  ·exact h
  ·exact h
  ·obtain⟨a,h1,h2⟩:=h; exact⟨a,h1,h2.keep k⟩
  ·obtain⟨a,sz,h1,h2⟩:=h; exact⟨a,sz,h1,h2.keep k⟩
  ·obtain⟨us,vs,h1,h2,h3⟩:=h; exact⟨us,vs,h1,h2.weak fun _ _ _ _ h=>h.keep k,h3.weak fun _ _ _ _ h=>h.keep k⟩
  ·exact h
theorem RC.mono {m:Mp} {S S':Cells} {w:World} {v:Value} {x:C} (h:RC m S w v x) (k:∀ b i,S b i→S' b i):RC m S' w v x:=by
  cases x <;> simp only[RC] at *
  ·exact h.mono k
  ·exact h
  ·exact h
  ·exact h
  ·exact h
  ·obtain⟨a,h1,h2⟩:=h; exact⟨a,h1,h2.mono k⟩
  ·obtain⟨a,sz,h1,h2⟩:=h; exact⟨a,sz,h1,h2.mono k⟩
  ·obtain⟨us,vs,h1,h2,h3⟩:=h; exact⟨us,vs,h1,h2.weak fun _ _ _ _ h=>h.mono k,h3.weak fun _ _ _ _ h=>h.mono k⟩
  ·exact h
theorem RW.keep {m:Mp} {S:Cells} {w w':World} (k:Keeps S w w') {x:W} {v:Value} (h:RW m S w v x):RW m S w' v x:=by
  unfold RW at *
  split at h
  ·obtain⟨us,h1,h2⟩:=h
   exact⟨us,h1,h2.weak fun _ _ _ _ h=>h.keep k⟩
  ·exact RC.keep h k
  ·obtain⟨us,h1,h2⟩:=h
   exact⟨us,h1,h2.weak fun _ _ _ _ h=>h.keep k⟩
theorem RW.mono {m:Mp} {S S':Cells} {w:World} (k:∀ b i,S b i→S' b i) {x:W} {v:Value} (h:RW m S w v x):RW m S' w v x:=by
  unfold RW at *
  split at h
  ·obtain⟨us,h1,h2⟩:=h
   exact⟨us,h1,h2.weak fun _ _ _ _ h=>h.mono k⟩
  ·exact RC.mono h k
  ·obtain⟨us,h1,h2⟩:=h
   exact⟨us,h1,h2.weak fun _ _ _ _ h=>h.mono k⟩
theorem RV.keep {m:Mp} {S:Cells} {w w':World} (k:Keeps S w w') {x:V} {v:Value} (h:RV m S w v x):RV m S w' v x:=by
  cases x with
  | w x=>exact RW.keep k h
  | tup ws=>obtain⟨us,h1,h2⟩:=h; exact⟨us,h1,h2.weak fun _ _ _ _ h=>h.keep k⟩
  | undef=>trivial
theorem RV.mono {m:Mp} {S S':Cells} {w:World} (k:∀ b i,S b i→S' b i) {x:V} {v:Value} (h:RV m S w v x):RV m S' w v x:=by
  cases x with
  | w x=>exact RW.mono k h
  | tup ws=>obtain⟨us,h1,h2⟩:=h; exact⟨us,h1,h2.weak fun _ _ _ _ h=>h.mono k⟩
  | undef=>trivial
def allSome {α β:Type} (f:α→Option β):List α→Option (List β)
  | []=>some []
  | x::r=>match f x,allSome f r with | some y,some l=>some (y::l) | _,_=>none
def upd {α:Type} (f:Nat→α) (i:Nat) (x:α):Nat→α:=fun j=>if j=i then x else f j
def updO {α:Type} (f:Nat→α) (i:Option Nat) (x:α):Nat→α:=match i with | some i=>upd f i x | none=>f
theorem upd_same {α:Type} (f:Nat→α) (i:Nat) (x:α):upd f i x i=x:=by simp[upd]
theorem upd_ne {α:Type} (f:Nat→α) {i j:Nat} (x:α) (h:j≠i):upd f i x j=f j:=by simp[upd,h]
inductive SX where
  | t (n:Nat)
  | k (v:W)
  | g (n:Nat)
  | u
deriving Inhabited
inductive Kd where
  | sc
  | ag (n:Nat)
deriving Inhabited,DecidableEq
def Kd.size:Kd→Nat | .sc=>1 | .ag n=>n
inductive Bx where
  | ownBox | ownArr | roBox | roArr
deriving Inhabited,DecidableEq
inductive SOp where
  | mv (x:SX)
  | nilOwn (sz:Nat)
  | pick (c a b:SX)
  | alloc (cs:List C)
  | allocArr (es:List D)
  | box (m:Bx) (x:SX)
  | build (z:List C) (ps:List (Nat×Nat×SX))
  | bldSl (own:Bool) (n sz:Nat) (z:D) (ps:List (Nat×SX))
  | bldFz (n sz:Nat) (z:D) (ps:List (Nat×SX))
  | buildF (z:List C) (ps:List (Nat×Nat×SX))
  | load (kd:Kd) (x:SX)
  | loadB (kd:Kd) (x:SX)
  | loadX (kd:Kd) (x:SX) (ex:List SX)
  | store (kd:Kd) (x y:SX)
  | bin (op:BinOp) (x y:SX)
  | eqB (neg:Bool) (x y:SX)
  | eqA (neg:Bool) (ks:List Nat) (x y:SX)
  | un (op:UnOp) (x:SX)
  | conv (k:IntKind) (x:SX)
  | b2s (x:SX)
  | s2b (own:Bool) (x:SX)
  | make (own:Bool) (sz byt:Nat) (z:D) (l c:SX)
  | slice (sz:Nat) (x:SX) (lo hi mx:Option SX)
  | sliceStr (x:SX) (lo hi:Option SX)
  | sliceArr (sz n:Nat) (x:SX) (lo hi:Option SX)
  | fieldAddr (off:Nat) (x:SX)
  | field (off:Nat) (kd:Kd) (x:SX)
  | idxSl (sz:Nat) (x i:SX)
  | idxPa (sz n:Nat) (x i:SX)
  | idxArr (sz n:Nat) (kd:Kd) (x i:SX)
  | idxStr (x i:SX)
  | extract (x:SX) (i:Nat)
  | len (x:SX)
  | lenStr (x:SX)
  | lenArr (n:Nat)
  | app (str:Bool) (sz byt:Nat) (x y:SX)
  | appN (str:Bool) (sz byt:Nat) (x y:SX)
  | copy (sz:Nat) (x y:SX)
  | min (xs:List SX)
  | max (xs:List SX)
  | mark (x:SX)
  | frz (x:SX)
  | markF (x:SX)
  | clos (f:Nat) (xs:List SX)
  | call (f:FuncId) (xs:List SX) (own:Option (Nat×Nat))
  | closM (f:Nat) (xs ys:List SX)
  | callM (f:FuncId) (xs:List SX)
  | nilChk (x:SX)
  | mkMp (q:IntKind) (r:Option SX)
  | mpGet (q:IntKind) (z:D) (co:Bool) (x i:SX)
  | mpSet (q:IntKind) (x i y:SX)
deriving Inhabited
def vd (x:D):V:=.w (.c (.d x))
def asI:V→Option (IntKind×Int) | .w (.c (.d (.int k n)))=>some (k,n) | _=>none
def lkM {α:Type} (es:List (Int×α)) (x:Int):Option α:=(es.find? fun p=>p.1==x).map (·.2)
def putM {α:Type}:List (Int×α)→Int→α→List (Int×α)
  | [],x,v=>[(x,v)]
  | (y,u)::r,x,v=>if y=x then (x,v)::r else (y,u)::putM r x v
def asMp:V→Option Nat | .w (.c (.mp id))=>some id | _=>none
def asDt:V→Option D | .w (.c (.d x))=>some x | _=>none
def hint0 (ρ:SX→V):Option SX→Bool | none=>true | some r=>(asI (ρ r)).isSome
def getM (h:Heap) (q:IntKind) (z:D) (co:Bool):Option Nat→Option (IntKind×Int)→Option V
  | some id,some (k,n)=>match h id with
    | some (.mp q' es)=>if k=q∧q'=q then some (if co then .tup [.c (.d ((lkM es n).getD z)),.c (.d (.bool (lkM es n).isSome))] else .w (.c (.d ((lkM es n).getD z)))) else none
    | _=>none
  | _,_=>none
def setM (h:Heap) (q:IntKind):Option Nat→Option (IntKind×Int)→Option D→Option Heap
  | some id,some (k,n),some d=>match h id with
    | some (.mp q' es)=>if k=q∧q'=q then some (upd h id (some (.mp q (putM es n d)))) else none
    | _=>none
  | _,_,_=>none
def asB:V→Option Bool | .w (.c (.d (.bool b)))=>some b | _=>none
def asW:V→Option W | .w x=>some x | _=>none
def wcells:W→List C
  | .c (.d (.agg cs))=>cs.map C.d
  | .c x=>[x]
  | .mix cs=>cs
def aggW:W→Option (List C)
  | .c (.d (.agg cs))=>some (cs.map C.d)
  | .mix cs=>some cs
  | _=>none
def aggV:V→Option (List C) | .w x=>aggW x | _=>none
def eqC:Nat→C→C→Option Bool
  | 0,.d (.int k a),.d (.int k' b)=>if k=k' then some (a==b) else none
  | 1,.d (.bool a),.d (.bool b)=>some (a==b)
  | 2,.d (.str a),.d (.str b)=>some (a.toList==b.toList)
  | _,_,_=>none
theorem eqC_i (k:IntKind) (a b:Int):eqC 0 (.d (.int k a)) (.d (.int k b))=some (if a=b then true else false):=by
  show (if k=k then some (a==b) else none)=_
  rw[if_pos rfl]
  by_cases h:a=b <;> simp[h]
theorem eqC_b (a b:Bool):eqC 1 (.d (.bool a)) (.d (.bool b))=some (a==b):=rfl
theorem eqC_s (a b:ByteArray):eqC 2 (.d (.str a)) (.d (.str b))=some (a.toList==b.toList):=rfl
def andO:Option Bool→Option Bool→Option Bool | some p,some q=>some (p&&q) | _,_=>none
def eqCs:List Nat→List C→List C→Option Bool
  | [],[],[]=>some true
  | k::ks,a::r,b::s=>andO (eqC k a b) (eqCs ks r s)
  | _,_,_=>none
def eqV3 (neg:Bool):Option Bool→Option D | some r=>some (.bool (if neg then !r else r)) | none=>none
def eqV2 (neg:Bool) (ks:List Nat):Option (List C)→Option (List C)→Option D | some a,some b=>eqV3 neg (eqCs ks a b) | _,_=>none
def eqV (neg:Bool) (ks:List Nat) (x y:V):Option D:=eqV2 neg ks (aggV x) (aggV y)
theorem andO_do (p q:Bool):andO (some p) (some q)=some (p&&q):=rfl
theorem eqCs_n:eqCs [] [] []=some true:=rfl
theorem eqCs_c (k:Nat) (ks:List Nat) (a b:C) (r s:List C):eqCs (k::ks) (a::r) (b::s)=andO (eqC k a b) (eqCs ks r s):=rfl
theorem eqV_do (neg:Bool) (ks:List Nat) (x y:V):eqV neg ks x y=eqV2 neg ks (aggV x) (aggV y):=rfl
theorem eqV2_do (neg:Bool) (ks:List Nat) (a b:List C):eqV2 neg ks (some a) (some b)=eqV3 neg (eqCs ks a b):=rfl
theorem eqV3_t (r:Bool):eqV3 true (some r)=some (.bool (!r)):=rfl
theorem eqV3_f (r:Bool):eqV3 false (some r)=some (.bool r):=rfl
theorem eqV_ok {neg:Bool} {ks:List Nat} {x y:V} {d:D} (h:eqV neg ks x y=some d):∃ cs ds b,aggV x=some cs∧aggV y=some ds∧eqCs ks cs ds=some b∧d=.bool (if neg then !b else b):=by
  rw[eqV_do] at h
  cases hx:aggV x with
  | none=>rw[hx] at h; cases h
  | some cs =>
    cases hy:aggV y with
    | none=>rw[hx,hy] at h; cases h
    | some ds =>
      rw[hx,hy,eqV2_do] at h
      cases hc:eqCs ks cs ds with
      | none=>rw[hc] at h; cases h
      | some b =>
        rw[hc] at h
        cases h
        exact⟨cs,ds,b,rfl,rfl,hc,rfl⟩
def allD:List C→Option (List D)
  | []=>some []
  | .d x::r=>(allD r).map (x::·)
  | _::_=>none
def allDn:List C→Option (List D)
  | []=>some []
  | .d x::r=>(allDn r).map (x::·)
  | .nil::r=>(allDn r).map (.sl []::·)
  | _::_=>none
def mkAgg (cs:List C):W:=match allD cs with | some ds=>.c (.d (.agg ds)) | none=>.mix cs
def pureW:W→Option D
  | .c (.d x)=>some x
  | .c .nil=>some (.sl [])
  | .mix cs=>(allDn cs).map .agg
  | _=>none
def pureV:V→Option D | .w x=>pureW x | _=>none
def obSl (o:Ob) (off n:Nat):Option (List D) :=
  match o with
  | .row _ es=>if off+n≤es.length then some ((es.drop off).take n) else none
  | .box cs=>if off+n≤cs.length then allD ((cs.drop off).take n) else none
  | .mp ..=>none
def Ob.sz:Ob→Nat | .row sz _=>sz | .box _=>1 | .mp ..=>1
def toD (h:Heap):C→Option D
  | .d x=>some x
  | .nil=>some (.sl [])
  | .own id _ off n=>match h id with | some o=>(obSl o off n).map .sl | none=>none
  | _=>none
def toDs (h:Heap):List C→Option (List D)
  | []=>some []
  | c::r=>match toD h c,toDs h r with | some x,some l=>some (x::l) | _,_=>none
def toW (h:Heap):W→Option D
  | .c x=>toD h x
  | .mix cs=>(toDs h cs).map .agg
def refD (h:Heap) (id i o:Nat):Option D:=match h id with
  | some (.box cs)=>if i=0∧o=0 then (allDn cs).map .ref else none
  | _=>none
def cpDs (h:Heap):List Cp→Option (List D)
  | []=>some []
  | .d x::r=>(cpDs h r).map (x::·)
  | .p id _ i o::r=>match refD h id i o,cpDs h r with | some x,some l=>some (x::l) | _,_=>none
def toE (h:Heap):C→Option D
  | .d x=>some x
  | .nil=>some (.sl [])
  | .own id sz off n=>toD h (.own id sz off n)
  | .ptr id _ i o=>refD h id i o
  | .cf g pre post=>if pre.isEmpty=true then (cpDs h post).map (.fn g) else none
  | .pa ..=>none
  | .rp _=>none
  | .ra _=>none
  | .fr ..=>none
  | .mp _=>none
def toV (h:Heap):V→Option D
  | .w (.c x)=>toE h x
  | .w (.mix cs)=>(toDs h cs).map .agg
  | _=>none
def toVs (h:Heap):List V→Option (List D)
  | []=>some []
  | v::r=>match toV h v,toVs h r with | some x,some l=>some (x::l) | _,_=>none
def killAll (h:Heap):List C→Heap
  | []=>h
  | .own id ..::r=>upd (killAll h r) id none
  | _::r=>killAll h r
def frzV (h:Heap):V→V
  | .w (.c (.own id _ off n))=>match h id with
    | some o=>match obSl o off n with | some es=>.w (.c (.d (.sl es))) | none=>.undef
    | none=>.undef
  | .w (.c .nil)=>.w (.c (.d (.sl [])))
  | .w (.mix cs)=>match toDs h cs with | some ds=>.w (.c (.d (.agg ds))) | none=>.undef
  | v=>v
def cellsV:V→List C | .w y=>wcells y | _=>[]
def Cp.isP:Cp→Bool | .p ..=>true | .d _=>false
def C.isOwn:C→Bool | .own ..=>true | .ptr ..=>true | .cf _ _ post=>post.any Cp.isP | _=>false
def V.hasOwn:V→Bool
  | .w (.c x)=>x.isOwn
  | .w (.mix cs)=>cs.any C.isOwn
  | _=>false
def D.flat:D→Bool | .int .. | .bool _ | .str _=>true | .sl _=>false | .agg cs=>cs.all (fun | .int .. | .bool _ | .str _=>true | _=>false) | .ref _=>false | .fn ..=>false
def C.flat:C→Bool | .d x=>x.flat | .fr _ es=>es.all D.flat | _=>false
def W.flat:W→Bool | .c x=>x.flat | .mix cs=>cs.all C.flat
def V.flat:V→Bool | .w x=>x.flat | .tup ws=>ws.all W.flat | .undef=>false
def D.isU8:D→Bool | .int .u8 _=>true | _=>false
def D.byt1:D→Bool | .int .. | .bool _ | .str _=>true | .sl es=>es.all D.isU8 | _=>false
def C.byt:C→Bool | .d x=>x.byt1 | .fr _ es=>es.all (fun e=>e.cells.all D.byt1) | _=>false
def W.byt:W→Bool | .c (.d (.agg cs))=>cs.all D.byt1 | .c x=>x.byt | .mix cs=>cs.all C.byt
def V.byt:V→Bool | .w x=>x.byt | .tup ws=>ws.all W.byt | .undef=>false
def V.own1:V→Bool | .w (.c (.own ..))=>true | _=>false
def D.noU8:D→Bool | .sl es=>es.all (fun e=>e.cells.all fun x=>!x.isU8) | _=>false
def noU8s:List V→List D→Bool
  | v::vs,d::ds=>(!v.hasOwn || (v.own1&&d.noU8))&&noU8s vs ds
  | _,_=>true
def OwnOk (h:Heap) (vs:List V) (res:V):Prop:=vs.any V.hasOwn=true→res.flat=true∨(res.byt=true∧∃ ds,toVs h vs=some ds∧noU8s vs ds=true)
def setR {α:Type} (l:List α) (off:Nat) (cs:List α):List α:=l.take off++cs++l.drop (off+cs.length)
def allSz (sz:Nat) (es:List D):Bool:=es.all fun e=>e.cells.length==sz
abbrev R:=V×Heap×(Nat→Bool)
section
variable (ρ:SX→V) (h:Heap) (u:Nat→Bool) (dst:Nat)
def newO (o:Ob) (v:C):Option R:=if u (8*dst) then none else some (.w (.c v),upd h (8*dst) (some o),upd u (8*dst) true)
def ldV (h:Heap) (kd:Kd):V→Option W
  | .w (.c (.ptr id _ i o)) =>
    match h id with
    | some (.box cs)=>match kd with
      | .sc=>(cs[i+o]?).map .c
      | .ag n=>if i+o+n≤cs.length then some (mkAgg ((cs.drop (i+o)).take n)) else none
    | some (.row _ es)=>match es[i]? with
      | some e=>match kd with
        | .sc=>(e.cells[o]?).map fun x=>.c (.d x)
        | .ag n=>if o+n≤e.cells.length then some (.c (.d (.agg ((e.cells.drop o).take n)))) else none
      | none=>none
    | some (.mp ..)=>none
    | none=>none
  | .w (.c (.pa id _)) =>
    match h id with
    | some (.row sz es)=>if sz=1∧kd=.ag es.length then some (.c (.d (.agg (es.flatMap D.cells)))) else none
    | _=>none
  | .w (.c (.rp cs))=>match kd with
    | .sc=>(cs[0]?).map fun x=>.c (.d x)
    | .ag n=>if n≤cs.length then some (.c (.d (.agg (cs.take n)))) else none
  | .w (.c (.ra es))=>if allSz 1 es=true∧kd=.ag es.length then some (.c (.d (.agg (es.flatMap D.cells)))) else none
  | .w (.c (.d (.ref cs)))=>match kd with
    | .sc=>(cs[0]?).map fun x=>.c (.d x)
    | .ag n=>if n≤cs.length then some (.c (.d (.agg (cs.take n)))) else none
  | _=>none
def ldB (h:Heap) (kd:Kd):V→Option W
  | .w (.c (.ptr id _ i o)) =>
    match h id with
    | some (.box cs)=>match kd with
      | .sc=>(cs[i+o]?).map .c
      | .ag n=>if i+o+n≤cs.length then some (mkAgg ((cs.drop (i+o)).take n)) else none
    | _=>none
  | .w (.c (.rp cs))=>match kd with
    | .sc=>(cs[0]?).map fun x=>.c (.d x)
    | .ag n=>if n≤cs.length then some (.c (.d (.agg (cs.take n)))) else none
  | .w (.c (.ra es))=>if allSz 1 es=true∧kd=.ag es.length then some (.c (.d (.agg (es.flatMap D.cells)))) else none
  | .w (.c (.d (.ref cs)))=>match kd with
    | .sc=>(cs[0]?).map fun x=>.c (.d x)
    | .ag n=>if n≤cs.length then some (.c (.d (.agg (cs.take n)))) else none
  | _=>none
def Cp.ids:Cp→List Nat
  | .d _=>[]
  | .p id ..=>[id]
def C.ids:C→List Nat
  | .own id ..=>[id]
  | .ptr id ..=>[id]
  | .pa id ..=>[id]
  | .cf _ pre post=>pre.flatMap Cp.ids++post.flatMap Cp.ids
  | .mp id=>[id]
  | _=>[]
def W.ids:W→List Nat
  | .c x=>x.ids
  | .mix cs=>cs.flatMap C.ids
def V.ids:V→List Nat
  | .w x=>x.ids
  | .tup ws=>ws.flatMap W.ids
  | .undef=>[]
def disV (l:List V) (x:V):Bool:=if l.isEmpty then x.ids.isEmpty else l.all fun y=>x.ids.all fun i=>!y.ids.contains i
def ldX (h:Heap) (kd:Kd) (l:List V) (x:V):Option W:=if disV l x=true then ldV h kd x else none
theorem ldX_ld {h:Heap} {kd:Kd} {l:List V} {v:V} {y:W} (e:ldX h kd l v=some y):disV l v=true∧ldV h kd v=some y:=by
  unfold ldX at e
  split at e
  ·rename_i hd; exact⟨hd,e⟩
  ·cases e
theorem disV_spec {l:List V} {x:V} (h:disV l x=true):(l=[]→x.ids=[])∧∀ y∈l,∀ i∈x.ids,i∉y.ids:=by
  unfold disV at h
  cases l with
  | nil=>exact⟨fun _=>List.isEmpty_iff.1 h,fun y hy=>by cases hy⟩
  | cons a l =>
    refine⟨fun e=>(by cases e),fun y hy i hi hc=>?_⟩
    have:=List.all_eq_true.1 (List.all_eq_true.1 h y hy) i hi
    simp[hc] at this
theorem ldB_ld {h:Heap} {kd:Kd} {v:V} {y:W} (e:ldB h kd v=some y):ldV h kd v=some y:=by
  unfold ldB at e
  split at e
  ·split at e
   ·rename_i id _ i o cs hid
    simp only[ldV,hid]
    exact e
   ·cases e
  ·exact e
  ·exact e
  ·exact e
  ·cases e
def capV:V→Option D
  | .w (.c (.rp cs))=>some (.ref cs)
  | .w (.c (.d x))=>match x with | .agg _=>none | x=>some x
  | _=>none
def capVs:List V→Option (List D)
  | []=>some []
  | v::r=>match capV v,capVs r with | some x,some l=>some (x::l) | _,_=>none
def capP:V→Option Cp
  | .w (.c (.ptr id sz i o))=>some (.p id sz i o)
  | v=>(capV v).map .d
def capPs:List V→Option (List Cp)
  | []=>some []
  | v::r=>match capP v,capPs r with | some x,some l=>some (x::l) | _,_=>none
def Cp.w:Cp→W | .d x=>.c (.d x) | .p id sz i o=>.c (.ptr id sz i o)
def isPtr:V→Bool
  | .w (.c (.ptr ..))=>true
  | .w (.c (.pa ..))=>true
  | .w (.c (.rp _))=>true
  | .w (.c (.ra _))=>true
  | .w (.c (.d (.ref _)))=>true
  | .w (.c (.d (.fn ..)))=>true
  | .w (.c (.cf ..))=>true
  | _=>false
def stO (kd:Kd) (y:W) (i o:Nat):Ob→Option Ob
  | .box cs=>if (wcells y).length=kd.size∧i+o+kd.size≤cs.length then some (.box (setR cs (i+o) (wcells y))) else none
  | .row sz es=>match es[i]?,pureW y with
    | some e,some x=>match e with
      | .agg ds=>if x.cells.length=kd.size∧o+kd.size≤ds.length then some (.row sz (es.set i (.agg (setR ds o x.cells)))) else none
      | _=>if kd=.sc∧o=0∧x.one=true then some (.row sz (es.set i x)) else none
    | _,_=>none
  | .mp ..=>none
def stV (h:Heap) (kd:Kd) (x:V) (y:W):Option Heap :=
  match x with
  | .w (.c (.ptr id _ i o))=>match h id with
    | some ob=>(stO kd y i o ob).map fun o'=>upd h id (some o')
    | none=>none
  | .w (.c (.pa id _))=>match h id,y with
    | some (.row sz es),.c (.d (.agg cs))=>if sz=1∧kd=.ag es.length∧cs.length=es.length then some (upd h id (some (.row sz cs))) else none
    | _,_=>none
  | _=>none
def binI (op:BinOp) (k:IntKind) (a:Int) (k':IntKind) (b:Int):Option D :=
  match op with
  | .shl=>if 0≤b then some (.int k (k.wrap (a*2^min b.toNat k.bits))) else none
  | .shr=>if 0≤b then some (.int k (a / 2^min b.toNat k.bits)) else none
  | _=>if k≠k' then none else match op with
    | .add=>some (.int k (k.wrap (a+b)))
    | .sub=>some (.int k (k.wrap (a-b)))
    | .mul=>some (.int k (k.wrap (a*b)))
    | .quo=>if b≠0 then some (.int k (k.wrap (a.tdiv b))) else none
    | .rem=>if b≠0 then some (.int k (a.tmod b)) else none
    | .and | .or | .xor | .andNot=>some (.int k (bits op k a b))
    | .eql=>some (.bool (a==b))
    | .neq=>some (.bool (a != b))
    | .lss=>some (.bool (a<b))
    | .leq=>some (.bool (a≤b))
    | .gtr=>some (.bool (a>b))
    | .geq=>some (.bool (a≥b))
    | _=>none
def binS (op:BinOp) (a b:ByteArray):Option D :=
  let eq:=a.toList==b.toList
  let lt:=Op.bytesLess a.toList b.toList
  match op with
  | .add=>if a.size+b.size≤9223372036854775807 then some (.str (a++b)) else none
  | .eql=>some (.bool eq)
  | .neq=>some (.bool !eq)
  | .lss=>some (.bool lt)
  | .leq=>some (.bool (lt || eq))
  | .gtr=>some (.bool !(lt || eq))
  | .geq=>some (.bool !lt)
  | _=>none
def binV (op:BinOp):V→V→Option D
  | .w (.c (.d (.int k a))),.w (.c (.d (.int k' b)))=>binI op k a k' b
  | .w (.c (.d (.str a))),.w (.c (.d (.str b)))=>binS op a b
  | _,_=>none
def unV (op:UnOp):V→Option D
  | .w (.c (.d (.int k n)))=>match op with
    | .neg=>some (.int k (k.wrap (0-n)))
    | .xor=>some (.int k (bits .xor k (if k.signed then -1 else k.max) n))
    | _=>none
  | .w (.c (.d (.bool b)))=>match op with | .not=>some (.bool !b) | _=>none
  | _=>none
def bD (x:UInt8):D:=.int .u8 (x.toNat:Int)
def ofB:D→Option UInt8 | .int .u8 n=>if 0≤n∧n<256 then some (UInt8.ofNat n.toNat) else none | _=>none
def ofBs:List D→Option (List UInt8)
  | []=>some []
  | x::r=>match ofB x,ofBs r with | some a,some l=>some (a::l) | _,_=>none
def srcV (h:Heap):Bool→V→Option (List D)
  | true,.w (.c (.d (.str s)))=>some (s.data.toList.map bD)
  | false,v=>match toV h v with | some (.sl ys)=>some ys | _=>none
  | _,_=>none
def bound:Option SX→Nat→Option Nat
  | none,d=>some d
  | some x,_=>match asI (ρ x) with | some (_,n)=>if 0≤n then some n.toNat else none | none=>none
def slV (sz lo hi:Nat):V→Option C
  | .w (.c (.d (.sl es)))=>if lo≤hi∧hi≤es.length∧allSz sz es=true then some (.d (.sl ((es.drop lo).take (hi-lo)))) else none
  | .w (.c .nil)=>if lo=0∧hi=0 then some .nil else none
  | .w (.c (.own id sz' off n))=>if lo≤hi∧hi≤n∧sz'=sz then some (.own id sz (off+lo) (hi-lo)) else none
  | _=>none
def lenV':V→Option Nat
  | .w (.c (.d (.sl es)))=>some es.length
  | .w (.c .nil)=>some 0
  | .w (.c (.own _ _ _ n))=>some n
  | _=>none
def fdV (off:Nat):V→Option C
  | .w (.c (.ptr id sz i o))=>some (.ptr id sz i (o+off))
  | .w (.c (.rp cs))=>some (.rp (cs.drop off))
  | _=>none
def prt (cs:List C) (off:Nat):Kd→Option W
  | .sc=>(cs[off]?).map .c
  | .ag n=>if off+n≤cs.length then some (mkAgg ((cs.drop off).take n)) else none
def idx (i:SX) (n:Nat):Option Nat:=match asI (ρ i) with | some (_,j)=>if 0≤j∧j<n then some j.toNat else none | none=>none
def parts (ps:List (Nat×Nat×SX)) (cs:List C):Option (List C) :=
  match ps with
  | []=>some cs
  | (off,size,x)::r=>match asW (ρ x) with
    | some y=>if (wcells y).length=size∧off+size≤cs.length then parts r (setR cs off (wcells y)) else none
    | none=>none
def elems (sz:Nat) (ps:List (Nat×SX)) (es:List D):Option (List D) :=
  match ps with
  | []=>some es
  | (i,x)::r=>match pureV (ρ x) with
    | some e=>if e.cells.length=sz∧i<es.length then elems sz r (es.set i e) else none
    | none=>none
def ints (xs:List SX):Option (IntKind×List Int) :=
  match xs with
  | []=>none
  | [x]=>(asI (ρ x)).map fun (k,n)=>(k,[n])
  | x::r=>match asI (ρ x),ints r with | some (k,n),some (k',l)=>if k=k' then some (k,n::l) else none | _,_=>none
def ef:SOp→Option R
  | .mv x=>some (ρ x,h,u)
  | .nilOwn sz=>newO h u dst (.row sz []) (.own (8*dst) sz 0 0)
  | .pick c a b=>(asB (ρ c)).map fun t=>(if t then ρ a else ρ b,h,u)
  | .alloc cs=>newO h u dst (.box cs) (.ptr (8*dst) 1 0 0)
  | .allocArr es=>newO h u dst (.row 1 es) (.pa (8*dst) 1)
  | .box m x=>match asW (ρ x) with
    | none=>none
    | some y=>match m with
      | .ownBox=>newO h u dst (.box (wcells y)) (.ptr (8*dst) 1 0 0)
      | .ownArr=>match y with | .c (.d (.agg cs))=>newO h u dst (.row 1 cs) (.pa (8*dst) 1) | _=>none
      | .roBox=>(allDn (wcells y)).map fun cs=>(.w (.c (.rp cs)),h,u)
      | .roArr=>match y with | .c (.d (.agg cs))=>some (.w (.c (.ra cs)),h,u) | _=>none
  | .build z ps=>(parts ρ ps z).map fun cs=>(.w (mkAgg cs),h,u)
  | .bldSl own n sz z ps=>match elems ρ sz ps (List.replicate n z) with
    | none=>none
    | some es=>if own then newO h u dst (.row sz es) (.own (8*dst) sz 0 n) else some (if n=0 then .w (.c .nil) else vd (.sl es),h,u)
  | .bldFz n sz z ps=>(elems (fun x=>frzV h (ρ x)) sz ps (List.replicate n z)).map fun es=>(vd (.sl es),killAll h (ps.flatMap fun p=>cellsV (ρ p.2)),u)
  | .buildF z ps=>(parts (fun x=>frzV h (ρ x)) ps z).map fun cs=>(.w (mkAgg cs),killAll h (ps.flatMap fun p=>cellsV (ρ p.2.2)),u)
  | .load kd x=>(ldV h kd (ρ x)).map fun w=>(.w w,h,u)
  | .loadB kd x=>(ldB h kd (ρ x)).map fun w=>(.w w,h,u)
  | .loadX kd x ex=>(ldX h kd (ex.map ρ) (ρ x)).map fun w=>(.w w,h,u)
  | .store kd x y=>match asW (ρ y) with
    | none=>none
    | some w=>(stV h kd (ρ x) w).map fun h'=>(.undef,h',u)
  | .bin op x y=>(binV op (ρ x) (ρ y)).map fun d=>(vd d,h,u)
  | .eqB neg x y=>match asB (ρ x),asB (ρ y) with
    | some a,some b=>some (vd (.bool (if neg then !(a==b) else (a==b))),h,u)
    | _,_=>none
  | .eqA neg ks x y=>(eqV neg ks (ρ x) (ρ y)).map fun d=>(vd d,h,u)
  | .un op x=>(unV op (ρ x)).map fun d=>(vd d,h,u)
  | .conv k x=>(asI (ρ x)).map fun (_,n)=>(vd (.int k (k.wrap n)),h,u)
  | .b2s x=>match toV h (ρ x) with
    | some (.sl es)=>(ofBs es).map fun l=>(vd (.str ⟨l.toArray⟩),h,u)
    | _=>none
  | .s2b own x=>match ρ x with
    | .w (.c (.d (.str s)))=>if s.size≤maxLen then if own then newO h u dst (.row 1 (s.data.toList.map bD)) (.own (8*dst) 1 0 s.size) else some (vd (.sl (s.data.toList.map bD)),h,u) else none
    | _=>none
  | .make own sz byt z l c=>match asI (ρ l),asI (ρ c) with
    | some (.i64,a),some (.i64,b)=>if 0≤a∧a≤b∧b*byt≤140737488355328∧b≤140737488355328 then (if own then newO h u dst (.row sz (List.replicate a.toNat z)) (.own (8*dst) sz 0 a.toNat) else some (vd (.sl (List.replicate a.toNat z)),h,u)) else none
    | _,_=>none
  | .slice sz x lo hi mx=>match lenV' (ρ x) with
    | none=>none
    | some n=>match bound ρ lo 0,bound ρ hi n with
      | some l,some k=>match bound ρ mx n with
        | some m=>if k≤m∧m≤n then (slV sz l k (ρ x)).map fun c=>(.w (.c c),h,u) else none
        | none=>none
      | _,_=>none
  | .sliceStr x lo hi=>match ρ x with
    | .w (.c (.d (.str s)))=>match bound ρ lo 0,bound ρ hi s.size with
      | some l,some k=>if l≤k∧k≤s.size then some (vd (.str (s.extract l k)),h,u) else none
      | _,_=>none
    | _=>none
  | .sliceArr sz n x lo hi=>match bound ρ lo 0,bound ρ hi n with
    | some l,some k=>if l≤k∧k≤n then match ρ x with
      | .w (.c (.pa id sz'))=>match h id with
        | some (.row _ es)=>if sz'=sz∧es.length=n then some (.w (.c (.own id sz l (k-l))),h,u) else none
        | _=>none
      | .w (.c (.ra es))=>if es.length=n∧allSz sz es=true then some (vd (.sl ((es.drop l).take (k-l))),h,u) else none
      | .w (.c (.ptr id sz' i o))=>match h id with
        | some (.box cs)=>if sz=1∧sz'=1∧i+o+n≤cs.length then some (.w (.c (.own id 1 (i+o+l) (k-l))),h,u) else none
        | _=>none
      | _=>none
      else none
    | _,_=>none
  | .fieldAddr off x=>(fdV off (ρ x)).map fun c=>(.w (.c c),h,u)
  | .field off kd x=>match aggV (ρ x) with
    | some cs=>(prt cs off kd).map fun w=>(.w w,h,u)
    | none=>none
  | .idxSl sz x i=>match ρ x with
    | .w (.c (.d (.sl es)))=>match idx ρ i es.length with
      | some j=>match es[j]? with
        | some e=>if e.cells.length=sz then some (.w (.c (.rp e.cells)),h,u) else none
        | none=>none
      | none=>none
    | .w (.c (.own id sz' off n))=>match idx ρ i n with
      | some j=>if sz'=sz then some (.w (.c (.ptr id sz (off+j) 0)),h,u) else none
      | none=>none
    | _=>none
  | .idxPa sz n x i=>match idx ρ i n with
    | none=>none
    | some j=>match ρ x with
      | .w (.c (.pa id sz'))=>if sz'=sz then some (.w (.c (.ptr id sz j 0)),h,u) else none
      | .w (.c (.ra es))=>match es[j]? with | some e=>if e.cells.length=sz∧es.length=n then some (.w (.c (.rp e.cells)),h,u) else none | none=>none
      | .w (.c (.ptr id sz' i o))=>some (.w (.c (.ptr id sz' i (o+j*sz))),h,u)
      | .w (.c (.rp cs))=>some (.w (.c (.rp ((cs.drop (j*sz)).take sz))),h,u)
      | _=>none
  | .idxArr sz n kd x i=>match aggV (ρ x),idx ρ i n with
    | some cs,some j=>(prt cs (j*sz) kd).map fun w=>(.w w,h,u)
    | _,_=>none
  | .idxStr x i=>match ρ x with
    | .w (.c (.d (.str s)))=>match idx ρ i s.size with
      | some j=>(s.data.toList[j]?).map fun b=>(vd (bD b),h,u)
      | none=>none
    | _=>none
  | .extract x i=>match ρ x with
    | .tup ws=>(ws[i]?).map fun w=>(.w w,h,u)
    | _=>none
  | .len x=>(lenV' (ρ x)).map fun (n:Nat)=>(vd (.int .i64 (n:Int)),h,u)
  | .lenStr x=>match ρ x with
    | .w (.c (.d (.str s)))=>some (vd (.int .i64 s.size),h,u)
    | _=>none
  | .lenArr n=>some (vd (.int .i64 n),h,u)
  | .app str sz byt x y=>match srcV h str (ρ y) with
    | none=>none
    | some ys=>if allSz sz ys=true then match ρ x with
      | .w (.c .nil)=>if ys.length*byt≤140737488355328∧ys.length≤140737488355328 then newO h u dst (.row sz ys) (.own (8*dst) sz 0 ys.length) else none
      | .w (.c (.own id _ off n))=>match h id with
        | some (.row sz' es)=>if off=0∧n=es.length∧sz'=sz∧(es.length+ys.length)*byt≤140737488355328∧es.length+ys.length≤140737488355328 then
            newO (upd h id none) u dst (.row sz (es++ys)) (.own (8*dst) sz 0 (es++ys).length) else none
        | _=>none
      | _=>none
      else none
  | .appN str sz byt x y=>match srcV h str (ρ y) with
    | none=>none
    | some ys=>if allSz sz ys=true then match ρ x with
      | .w (.c .nil)=>if ys.length*byt≤140737488355328∧ys.length≤140737488355328 then newO h u dst (.row sz ys) (.own (8*dst) sz 0 ys.length) else none
      | _=>none
      else none
  | .copy sz x y=>match toV h (ρ y) with
    | some (.sl ys)=>if allSz sz ys=true then match ρ x with
      | .w (.c .nil)=>some (vd (.int .i64 0),h,u)
      | .w (.c (.own id _ off n))=>match h id with
        | some (.row sz' es)=>if sz'=sz∧off+n≤es.length then some (vd (.int .i64 (Nat.min ys.length n:Nat)),upd h id (some (.row sz (setR es off (ys.take n)))),u) else none
        | some (.box cs)=>if sz=1∧off+n≤cs.length then some (vd (.int .i64 (Nat.min ys.length n:Nat)),upd h id (some (.box (setR cs off (((ys.take n).flatMap D.cells).map C.d)))),u) else none
        | some (.mp ..)=>none
        | none=>none
      | _=>none
      else none
    | _=>none
  | .min xs=>(ints ρ xs).map fun (k,l)=>(vd (.int k (match l with | []=>0 | a::r=>r.foldl (fun x y=>if y<x then y else x) a)),h,u)
  | .max xs=>(ints ρ xs).map fun (k,l)=>(vd (.int k (match l with | []=>0 | a::r=>r.foldl (fun x y=>if y>x then y else x) a)),h,u)
  | .mark x=>match ρ x with
    | .w (.c (.own id sz off n))=>match h id with
      | some (.row sz' es)=>if sz'=sz∧0<n then some (.w (.c (.own id sz off n)),h,u) else none
      | _=>none
    | _=>none
  | .markF x=>match ρ x with
    | .w (.c (.own id sz off n))=>match h id with
      | some (.row sz' es)=>if sz'=sz∧0<n∧off+n≤es.length then some (vd (.sl ((es.drop off).take n)),upd h id none,u) else none
      | _=>none
    | _=>none
  | .frz x=>match ρ x with
    | .w y=>(toW h y).map fun d=>(vd d,killAll h (wcells y),u)
    | _=>none
  | .clos f xs=>(capVs (xs.map ρ)).map fun ds=>(vd (.fn f ds),h,u)
  | .call ..=>none
  | .closM f xs ys=>match capPs (xs.map ρ),capPs (ys.map ρ) with
    | some a,some b=>some (.w (.c (.cf f a b)),h,u)
    | _,_=>none
  | .callM ..=>none
  | .mkMp q r=>if hint0 ρ r=true then newO h u dst (.mp q []) (.mp (8*dst)) else none
  | .mpGet q z co x i=>(getM h q z co (asMp (ρ x)) (asI (ρ i))).map fun v=>(v,h,u)
  | .mpSet q x i y=>(setM h q (asMp (ρ x)) (asI (ρ i)) (asDt (ρ y))).map fun h'=>(.undef,h',u)
  | .nilChk x=>if isPtr (ρ x)=true then some (ρ x,h,u) else none
end
abbrev Glob:=List (Nat×C)
def Glob.at (G:Glob) (g:Nat):Option C:=(G.find? (·.1==g)).map (·.2)
def C.isR:C→Bool | .rp _=>true | .ra _=>true | _=>false
def WholeRow (w:World) (g:Nat) (c:C):Prop:=∀ es,c=.ra es→(∀ x∈es,x.cells.length=1)→∃ ty,w.shape? g=some (ty,es.length)
def GlobOk (G:Glob) (S:Cells) (w:World):Prop:=∀ p∈G,RC (fun _=>none) S w (.pointer (some ⟨p.1,0,none⟩)) p.2∧p.2.isR=true∧WholeRow w p.1 p.2
def Thawed (cur:Array Value) (fz:Nat×Nat):Prop:=fz.1≤fz.2∧(fz.1<fz.2→cur.size≤fz.1)
theorem Thawed.cell {cur:Array Value} {fz:Nat×Nat} (h:Thawed cur fz):∀ i,i<cur.size→¬ (fz.1≤i∧i<fz.2):=fun i hi hh=>by have:=h.2 (by omega); omega
theorem Thawed.of_size {cur cur':Array Value} {fz:Nat×Nat} (h:Thawed cur fz) (e:cur'.size=cur.size):Thawed cur' fz:=by unfold Thawed; rw[e]; exact h
def FreshRow (S:Cells) (w:World) (B b sz:Nat) (es:List D):Prop :=
  B≤b∧(∀ i,¬ S b i)∧∃ cur ty fz,w.heap[b]?=some (.cells cur ty fz)∧Thawed cur fz∧es.length*sz≤cur.size ∧
   ∀ i (h:i<es.length),es[i].cells.length=sz∧∀ j (h2:j<es[i].cells.length),∃ v,cur[i*sz+j]?=some v∧Reads S w v es[i].cells[j]
def ResC (S:Cells) (w:World) (B:Nat) (v:Value) (c:C) (bl:List Nat):Prop :=
  match c with
  | .d x=>Reads S w v x∧bl=[]
  | .fr sz es=>((∃ ad,v=.slice ad 0 0)∧es=[]∧bl=[])∨∃ b cap ty N,bl=[b]∧v=.slice (some ⟨b,0,none⟩) es.length cap∧es.length≤cap∧cap≤maxLen∧w.shape? b=some (ty,N)∧cap*sz≤N∧FreshRow S w B b sz es
  | _=>False
inductive ResCs (S:Cells) (w:World) (B:Nat):List Value→List C→List Nat→Prop
  | nil:ResCs S w B [] [] []
  | cons {v c b1 vs cs b2}:ResC S w B v c b1→ResCs S w B vs cs b2→ResCs S w B (v::vs) (c::cs) (b1++b2)
def ResW (S:Cells) (w:World) (B:Nat) (v:Value) (x:W) (bl:List Nat):Prop :=
  match x with
  | .c (.d (.agg cs))=>(∃ us:List Value,v=.agg us.toArray∧All2 (Reads S w) us cs)∧bl=[]
  | .c x=>ResC S w B v x bl
  | .mix cs=>∃ us:List Value,v=.agg us.toArray∧ResCs S w B us cs bl
inductive ResWs (S:Cells) (w:World) (B:Nat):List Value→List W→List Nat→Prop
  | nil:ResWs S w B [] [] []
  | cons {v c b1 vs cs b2}:ResW S w B v c b1→ResWs S w B vs cs b2→ResWs S w B (v::vs) (c::cs) (b1++b2)
def ResV (S:Cells) (w:World) (B:Nat) (v:Value) (x:V) (bl:List Nat):Prop :=
  match x with
  | .w x=>ResW S w B v x bl
  | .tup ws=>∃ us:List Value,v=.tuple us.toArray∧ResWs S w B us ws bl
  | .undef=>False
def Ob.ids:Ob→List Nat
  | .row ..=>[]
  | .box cs=>cs.flatMap C.ids
  | .mp ..=>[]
def CellsOk (m:Mp) (S:Cells) (w:World) (sz:Nat) (cur:Array Value):Ob→Prop
  | .row _ es=>es.length*sz≤cur.size∧∀ i (h:i<es.length),es[i].cells.length=sz∧∀ j (h2:j<es[i].cells.length),∃ v,cur[i*sz+j]?=some v∧Reads S w v es[i].cells[j]
  | .box cs=>cs.length≤cur.size∧∀ j (h:j<cs.length),∃ v,cur[j]?=some v∧RC m S w v cs[j]
  | .mp ..=>True
def EntsOk (S:Cells) (w:World) (q:IntKind) (E:Array MapEntry) (es:List (Int×D)):Prop:=All2 (fun e p=>e.key=.int q p.1∧RW (fun _=>none) S w e.val (.c (.d p.2))) E.toList es
def BlkIs (S:Cells) (w:World) (b:Nat) (cur:Array Value) (ty:TypeId) (fz:Nat×Nat):Ob→Prop
  | .mp q es=>∃ E clock,w.heap[b]?=some (.map E clock)∧EntsOk S w q E es
  | _=>w.heap[b]?=some (.cells cur ty fz)
def Ob.isMp:Ob→Bool | .mp ..=>true | _=>false
theorem BlkIs.of {S:Cells} {w:World} {b:Nat} {cur:Array Value} {ty:TypeId} {fz:Nat×Nat} {o:Ob} (h:w.heap[b]?=some (.cells cur ty fz)) (ho:o.isMp=false):BlkIs S w b cur ty fz o:=by
  cases o
  ·exact h
  ·exact h
  ·cases ho
theorem BlkIs.cells {S:Cells} {w:World} {b:Nat} {cur cur':Array Value} {ty ty':TypeId} {fz fz':Nat×Nat} {o:Ob} (h:BlkIs S w b cur ty fz o) (hc:w.heap[b]?=some (.cells cur' ty' fz')):w.heap[b]?=some (.cells cur ty fz)∧o.isMp=false:=by
  cases o
  ·exact⟨h,rfl⟩
  ·exact⟨h,rfl⟩
  ·obtain⟨E,c,h1,_⟩:=h
   rw[hc] at h1; cases h1
theorem BlkIs.some {S:Cells} {w:World} {b:Nat} {cur:Array Value} {ty:TypeId} {fz:Nat×Nat} {o:Ob} (h:BlkIs S w b cur ty fz o):∃ x,w.heap[b]?=some x:=by
  cases o
  ·exact⟨_,h⟩
  ·exact⟨_,h⟩
  ·obtain⟨E,c,h1,_⟩:=h; exact⟨_,h1⟩
theorem BlkIs.no {S:Cells} {w:World} {b:Nat} {cur:Array Value} {ty:TypeId} {fz:Nat×Nat} {o:Ob} (h:BlkIs S w b cur ty fz o) (ho:o.isMp=false):w.heap[b]?=Option.some (.cells cur ty fz):=by
  cases o
  ·exact h
  ·exact h
  ·cases ho
def ObjOk (m:Mp) (S:Cells) (B:Nat→Prop) (w:World) (id:Nat) (o:Ob):Prop :=
  match m id with
  | none=>∃ sz,o=.row sz []
  | some (b,sz)=>o.sz=sz∧B b∧(∀ i,¬ S b i)∧∃ cur ty fz,BlkIs S w b cur ty fz o∧Thawed cur fz∧CellsOk m S w sz cur o
def lies:Obj→Bool
  | .cells ..=>true
  | .map ..=>true
  | _=>false
structure KeepsO (W W':World):Prop where
  size:W.heap.size≤W'.heap.size
  same:∀ (k:Nat) (o:Obj),W.heap[k]?=some o→lies o=false→W'.heap[k]?=some o
theorem KeepsO.refl (W:World):KeepsO W W:=⟨Nat.le_refl _,fun _ _ h _=>h⟩
theorem KeepsO.trans {A B C:World} (h:KeepsO A B) (k:KeepsO B C):KeepsO A C :=
  ⟨Nat.le_trans h.size k.size,fun i o hi ho=>k.same i o (h.same i o hi ho) ho⟩
theorem KeepsO.alloc (W:World) (o:Obj):KeepsO W (W.alloc o) :=
  ⟨by simp,fun k o' hk _=>(Below.heap_alloc W o k (Array.getElem?_eq_some_iff.1 hk).1).trans hk⟩
structure Bel (n:Nat) (B:Nat→Prop) (w w':World):Prop where
  os:w'.os=w.os
  tape:w'.tape=w.tape
  output:w'.output=w.output
  size:w.heap.size≤w'.heap.size
  block:∀ k,k<n→¬ B k→w'.heap[k]?=w.heap[k]?
theorem Bel.refl (n:Nat) (B:Nat→Prop) (w:World):Bel n B w w:=⟨rfl,rfl,rfl,Nat.le_refl _,fun _ _ _=>rfl⟩
theorem Bel.trans {n:Nat} {B:Nat→Prop} {a b c:World} (h:Bel n B a b) (k:Bel n B b c):Bel n B a c :=
  ⟨k.os.trans h.os,k.tape.trans h.tape,k.output.trans h.output,Nat.le_trans h.size k.size,fun i hi hb=>(k.block i hi hb).trans (h.block i hi hb)⟩
theorem Bel.of {n:Nat} {B:Nat→Prop} {w w':World} (h:Below n w w'):Bel n B w w':=⟨h.os,h.tape,h.output,h.size,fun k hk _=>h.block k hk⟩
theorem Bel.mono {n k:Nat} {B C:Nat→Prop} {w w':World} (h:Bel k C w w') (hk:n≤k) (hB:∀ b,b<n→C b→B b):Bel n B w w' :=
  ⟨h.os,h.tape,h.output,h.size,fun i hi hb=>h.block i (Nat.lt_of_lt_of_le hi hk) fun hc=>hb (hB i hi hc)⟩
theorem Bel.below {n:Nat} {w w':World} {B:Nat→Prop} (h:Bel n B w w') (hB:∀ b,b<n→¬ B b):Below n w w' :=
  ⟨h.os,h.tape,h.output,h.size,fun k hk=>h.block k hk (hB k hk)⟩
theorem Bel.step {n:Nat} {B:Nat→Prop} {a w w':World} (h:Bel n B a w) (hn:n≤a.heap.size) (k:Below w.heap.size w w'):Bel n B a w' :=
  h.trans (Bel.of (k.mono (Nat.le_trans hn h.size)))
def HeapBl (h:Heap) (m:Mp) (b:Nat):Prop:=∃ id o s,h id=some o∧m id=some (b,s)
def DenM (P:Program) (G:Glob) (f:FuncId) (args:List W) (h0:Heap) (L:List Nat) (res:V) (h1:Heap) (L1:List Nat):Prop :=
  ((∀ id o,h0 id=some o→id∈L∧∀ j∈o.ids,j∈L)∧(∀ id∈L,h0 id≠none)∧(∀ x∈args,∀ i∈x.ids,i∈L)∧(∀ id o,h1 id=some o→id∈L1∧∀ j∈o.ids,j∈L1)∧∀ i∈res.ids,i∈L1) ∧
  ∀ (w:World) (S:Cells) (vs:List Value) (m:Mp),(∀ b i,S b i→b<w.heap.size)→GlobOk G S w→(∀ id o,h0 id=some o→ObjOk m S (fun _=>True) w id o) →
    (∀ i j b s s',h0 i≠none→h0 j≠none→m i=some (b,s)→m j=some (b,s')→i=j)→All2 (fun v x=>RW m S w v x) vs args →
    Calls P f vs.toArray w fun e w'=>∃ v S' m',e=.returned v∧Bel w.heap.size (HeapBl h0 m) w w'∧KeepsO w w'∧Keeps S w w'∧(∀ b i,S b i→S' b i)∧(∀ b i,S' b i→b<w'.heap.size∧(S b i∨w.heap.size≤b∨HeapBl h0 m b)) ∧
      (∀ i∈L,i∈L1→m' i=m i)∧(∀ id o,h1 id=some o→ObjOk m' S' (fun b=>w.heap.size≤b∨HeapBl h0 m b) w' id o) ∧
      (∀ i j b s s',h1 i≠none→h1 j≠none→m' i=some (b,s)→m' j=some (b,s')→i=j)∧RV m' S' w' v res
def C.isPure:C→Bool | .d _=>true | .nil=>true | _=>false
def W.isPure:W→Bool | .c x=>x.isPure | .mix _=>false
def Den (P:Program) (G:Glob) (f:FuncId) (args:List D) (res:V):Prop :=
  ∀ (w:World) (S:Cells) (vs:List Value),(∀ b i,S b i→b<w.heap.size)→GlobOk G S w→All2 (fun v x=>RW (fun _=>none) S w v (.c (.d x))) vs args →
    Calls P f vs.toArray w fun e w'=>∃ v S' bl,e=.returned v∧Below w.heap.size w w'∧(∀ b i,S' b i→(S b i∨w.heap.size≤b)∧b<w'.heap.size)∧bl.Nodup∧ResV S' w' w.heap.size v res bl
def DenW (P:Program) (G:Glob) (f:FuncId) (args:List W) (res:V):Prop :=
  ∀ (w:World) (S:Cells) (vs:List Value),(∀ b i,S b i→b<w.heap.size)→GlobOk G S w→All2 (fun v x=>RW (fun _=>none) S w v x) vs args →
    Calls P f vs.toArray w fun e w'=>∃ v S' bl,e=.returned v∧Below w.heap.size w w'∧(∀ b i,S' b i→(S b i∨w.heap.size≤b)∧b<w'.heap.size)∧bl.Nodup∧ResV S' w' w.heap.size v res bl
def DenF (P:Program) (G:Glob) (g:FuncId) (caps ds:List D) (res:V):Prop :=
  (∀ (args:Array Value) (w:World),(callFunc g args).run P w=.ok (.enter g args) w)∧Den P G g (ds++caps) res
def dynF:Nat:=1000000007
def CallOk (P:Program) (G:Glob) (h:Heap) (f:FuncId) (vs:List V) (res:V):Prop :=
  (f≠dynF∧∃ ds,toVs h vs=some ds∧Den P G f ds res)∨(f=dynF∧∃ g caps ds,toVs h vs=some (.fn g caps::ds)∧DenF P G g caps ds res) ∨
   (f≠dynF∧∃ xs:List W,vs=xs.map V.w∧(∀ x∈xs,x.isPure=true)∧DenW P G f xs res)
def SeqD (P:Program) (G:Glob) (g:Nat) (caps:List D) (xs:List (List D)):Prop :=
  (∀ (args:Array Value) (w:World),(callFunc g args).run P w=.ok (.enter g args) w)∧∀ (n:Nat) (w:World) (S:Cells) (lb:List Value),(∀ b i,S b i→b<w.heap.size)→GlobOk G S w→All2 (fun v x=>RW (fun _=>none) S w v (.c (.d x))) lb caps →
    ∀ (l:Nat) (J:Nat→World→Prop) (Jx:World→Prop),(∀ k W,J k W→Keeps S w W∧w.heap.size≤W.heap.size) →
      (∀ k W W',J k W→Below W.heap.size W W'→J k W')→(∀ W W',Jx W→Below W.heap.size W W'→Jx W') →
      (∀ k r W us,xs[k]?=some r→J k W→All2 (fun v x=>RW (fun _=>none) S W v (.c (.d x))) us r→YieldAt Fence.wide n P l us.toArray W fun e W'=>(e=.returned (.bool true)∧J (k+1) W')∨(e=.returned (.bool false)∧Jx W')) →
      J 0 w→CallsIn Fence.wide n P g (#[.func (.yield l) #[] #[]]++lb.toArray) w fun e W'=>(∃ v,e=.returned v)∧(J xs.length W'∨Jx W')
structure SOper where
  dst:Option Nat
  op:SOp
  guard:Option (Nat×Bool)
deriving Inhabited
def oO (d:Nat) (x:SOp):SOper:=⟨some d,x,none⟩
def oG (d:Nat) (x:SOp) (g:Nat) (b:Bool):SOper:=⟨some d,x,some (g,b)⟩
def oN (x:SOp):SOper:=⟨none,x,none⟩
def oM (d s:Nat):SOper:=⟨some d,.mv (.t s),none⟩
def kI (n:Int):SX:=.k (.c (.d (.int .i64 n)))
theorem oO_do (d:Nat) (x:SOp):oO d x=⟨some d,x,none⟩:=rfl
theorem oG_do (d:Nat) (x:SOp) (g:Nat) (b:Bool):oG d x g b=⟨some d,x,some (g,b)⟩:=rfl
theorem oN_do (x:SOp):oN x=⟨none,x,none⟩:=rfl
theorem oM_do (d s:Nat):oM d s=⟨some d,.mv (.t s),none⟩:=rfl
theorem kI_do (n:Int):kI n=.k (.c (.d (.int .i64 n))):=rfl
inductive SCode where
  | skip
  | reg (ops:List SOper)
  | seq (a b:SCode)
  | cond (c:SX) (a b:SCode)
  | block (id:Nat) (c:SCode)
  | loop (c:SCode)
  | exit (id:Nat)
  | ret
  | rangeF (x:SX) (ps:List Nat) (asg body:SCode)
deriving Inhabited
inductive AX where
  | nrm | ex (id:Nat) | ret
structure SFn where
  np:Nat
  nt:Nat
  body:SCode
  res:List (Nat×Option Kd)
deriving Inhabited
def ev (G:Glob) (f:Nat→V):SX→V
  | .t n=>f n
  | .k v=>.w v
  | .g n=>match G.at n with | some c=>.w (.c c) | none=>.undef
  | .u=>.undef
def C.ro:C→C | .fr _ es=>.d (.sl es) | c=>c
def W.ro:W→W | .c x=>.c x.ro | .mix cs=>mkAgg (cs.map C.ro)
def V.ro:V→V | .w x=>.w x.ro | .tup ws=>.tup (ws.map W.ro) | .undef=>.undef
def ownV (h:Heap) (u:Nat→Bool) (dst k sz:Nat):V→Option R
  | .w (.c (.fr sz' es))=>if k=0∧sz'=sz∧u (8*dst)=false then some (.w (.c (.own (8*dst) sz 0 es.length)),upd h (8*dst) (some (.row sz es)),upd u (8*dst) true) else none
  | .tup ws=>match ws[k]? with
    | some (.c (.fr sz' es))=>if sz'=sz∧u (8*dst)=false then some (.tup ((ws.map W.ro).set k (.c (.own (8*dst) sz 0 es.length))),upd h (8*dst) (some (.row sz es)),upd u (8*dst) true) else none
    | _=>none
  | _=>none
def impV (h:Heap) (u:Nat→Bool) (dst:Nat) (own:Option (Nat×Nat)) (res:V):Option R :=
  match own with
  | none=>some (res.ro,h,u)
  | some (_,0)=>some (res.ro,h,u)
  | some (k,sz+1)=>ownV h u dst k (sz+1) res
def PureOk (own:Option (Nat×Nat)) (vs:List V):Prop:=∀ k,own=some (k,0)→vs.all (fun v=>v.ids.isEmpty)=true
theorem pok_none (vs:List V):PureOk none vs:=fun _ e=>by cases e
theorem pok_own (k sz:Nat) (vs:List V):PureOk (some (k,sz+1)) vs:=fun _ e=>by cases e
theorem pok_pure (own:Option (Nat×Nat)) (vs:List V) (h:vs.all (fun v=>v.ids.isEmpty)=true):PureOk own vs:=fun _ _=>h
def Cp.ren (g:Nat→Nat):Cp→Cp
  | .d x=>.d x
  | .p id sz i o=>.p (g id) sz i o
def C.ren (g:Nat→Nat):C→C
  | .own id sz off n=>.own (g id) sz off n
  | .ptr id sz i o=>.ptr (g id) sz i o
  | .pa id sz=>.pa (g id) sz
  | .cf f pre post=>.cf f (pre.map (Cp.ren g)) (post.map (Cp.ren g))
  | .mp id=>.mp (g id)
  | c=>c
def W.ren (g:Nat→Nat):W→W
  | .c x=>.c (x.ren g)
  | .mix cs=>.mix (cs.map (C.ren g))
def V.ren (g:Nat→Nat):V→V
  | .w x=>.w (x.ren g)
  | .tup ws=>.tup (ws.map (W.ren g))
  | .undef=>.undef
def Ob.ren (g:Nat→Nat):Ob→Ob
  | .row sz es=>.row sz es
  | .box cs=>.box (cs.map (C.ren g))
  | .mp q es=>.mp q es
def heapM (h:Heap) (g:Nat→Nat) (L L1:List Nat) (h1:Heap):Heap:=fun i=>match L1.find? (fun id=>g id==i) with
  | some id=>(h1 id).map (Ob.ren g)
  | none=>if (L.any fun id=>g id==i) then none else h i
def usedM (u:Nat→Bool) (g:Nat→Nat) (L1:List Nat):Nat→Bool:=fun i=>u i || L1.any fun id=>g id==i
def GoM (P:Program) (G:Glob) (h:Heap) (u:Nat→Bool) (f:FuncId) (xs:List W) (r:R):Prop :=
  ∃ (g:Nat→Nat) (args:List W) (h0:Heap) (L:List Nat) (res:V) (h1:Heap) (L1:List Nat),DenM P G f args h0 L res h1 L1∧xs=args.map (W.ren g)∧(∀ id o,h0 id=some o→h (g id)=some (o.ren g)) ∧
    (∀ i∈L++L1,∀ j∈L++L1,g i=g j→i=j)∧(∀ id∈L1,id∉L→u (g id)=false)∧r=(res.ren g,heapM h g L L1 h1,usedM u g L1)
def CallM (P:Program) (G:Glob) (h:Heap) (u:Nat→Bool) (f:FuncId) (vs:List V) (r:R):Prop :=
  (f≠dynF∧∃ xs:List W,vs=xs.map V.w∧GoM P G h u f xs r) ∨
   (f=dynF∧∃ (g:FuncId) (pre post:List Cp) (xs:List W),vs=.w (.c (.cf g pre post))::xs.map V.w∧(∀ (args:Array Value) (w:World),(callFunc g args).run P w=.ok (.enter g args) w)∧GoM P G h u g (pre.map Cp.w++xs++post.map Cp.w) r)
section
variable (P:Program) (G:Glob)
def opw (s:SOp) (ρ:SX→V) (h:Heap) (u:Nat→Bool) (dst:Nat) (K:R→Prop):Prop :=
  match s with
  | .call f xs own=>∃ res,CallOk P G h f (xs.map ρ) res∧OwnOk h (xs.map ρ) res∧PureOk own (xs.map ρ)∧(match impV h u dst own res with | some r=>K r | none=>False)
  | .callM f xs=>∃ r,CallM P G h u f (xs.map ρ) r∧K r
  | s=>match ef ρ h u dst s with | some r=>K r | none=>False
def St.put (σ:St) (dst:Option Nat) (r:R):St:=⟨updO σ.f dst r.1,r.2.1,r.2.2⟩
def aop (o:SOper) (K:St→Prop) (σ:St):Prop :=
  match o.guard with
  | none=>opw P G o.op (ev G σ.f) σ.h σ.u (o.dst.getD 0) (fun r=>K (σ.put o.dst r))
  | some (t,want)=>match asB (σ.f t) with
    | some b=>(b=want→opw P G o.op (ev G σ.f) σ.h σ.u (o.dst.getD 0) (fun r=>K (σ.put o.dst r)))∧(b≠want→K (σ.put o.dst (.tup [],σ.h,σ.u)))
    | none=>σ.f t=.tup []∧K (σ.put o.dst (.tup [],σ.h,σ.u))
def aops:List SOper→(St→Prop)→St→Prop
  | [],K,σ=>K σ
  | o::r,K,σ=>aop P G o (aops r K) σ
structure Ent (σ τ:St):Prop where
  ex:∃ g:Nat→Nat,(∀ t,τ.f t=.undef∨σ.f t=(τ.f t).ren g)∧(∀ i o,τ.h i=some o→σ.h (g i)=some (o.ren g))∧(∀ i j,τ.h i≠none→τ.h j≠none→g i=g j→i=j)
  slots:∀ t,∀ i∈(τ.f t).ids,τ.u i=true
  objs:∀ i o,τ.h i=some o→τ.u i=true∧∀ j∈o.ids,τ.u j=true
def SCode.writes:SCode→List Nat
  | .reg ops=>ops.filterMap SOper.dst
  | .seq a b=>a.writes++b.writes
  | .cond _ a b=>a.writes++b.writes
  | .block _ c=>c.writes
  | .loop c=>c.writes
  | .rangeF _ ps a b=>ps++a.writes++b.writes
  | _=>[]
def parsL (f:Nat→V):List Nat→List D→(Nat→V)
  | t::ts,x::xs=>parsL (upd f t (vd x)) ts xs
  | _,_=>f
def awp:SCode→(AX→St→Prop)→St→Prop
  | .skip,Q,σ=>Q .nrm σ
  | .reg ops,Q,σ=>aops P G ops (Q .nrm) σ
  | .seq a b,Q,σ=>awp a (fun e s=>match e with | .nrm=>awp b Q s | e=>Q e s) σ
  | .cond c a b,Q,σ=>match asB (ev G σ.f c) with
    | some t=>(t=true→awp a Q σ)∧(t=false→awp b Q σ)
    | none=>False
  | .block id c,Q,σ=>awp c (fun e s=>match e with | .ex i=>if i=id then Q .nrm s else Q (.ex i) s | e=>Q e s) σ
  | .loop c,Q,σ=>∃ I:Nat→St→Prop,(∃ n τ,Ent σ τ∧I n τ)∧∀ n s,I n s→awp c (fun e s'=>match e with | .nrm=>∃ n' τ,n'<n∧Ent s' τ∧I n' τ | e=>Q e s') s
  | .exit id,Q,σ=>Q (.ex id) σ
  | .ret,Q,σ=>Q .ret σ
  | .rangeF x ps asg body,Q,σ=>∃ (g:Nat) (caps:List D) (xs:List (List D)) (f0:Nat→V) (h0:Heap) (u0:Nat→Bool) (I:Nat→Heap→(Nat→Bool)→Prop),
      ev G σ.f x=.w (.c (.d (.fn g caps)))∧SeqD P G g caps xs∧(∀ r∈xs,r.length=ps.length)∧Ent σ ⟨f0,h0,u0⟩∧(∀ t∈ps++asg.writes++body.writes,f0 t=.undef)∧I 0 h0 u0 ∧
      (∀ k r h u,xs[k]?=some r→I k h u→awp asg (fun e s=>match e with
        | .nrm=>awp body (fun e s'=>match e with
          | .nrm=>∃ h' u',Ent s' ⟨f0,h',u'⟩∧I (k+1) h' u'
          | e=>∃ h' u',Ent s' ⟨f0,h',u'⟩∧Q e ⟨f0,h',u'⟩) s
        | _=>False) ⟨parsL f0 ps r,h,u⟩) ∧
      ∀ h u,I xs.length h u→Q .nrm ⟨f0,h,u⟩
def exC (h:Heap):C→C→Prop
  | .own id sz off n,.fr sz' es=>off=0∧sz'=sz∧match h id with | some o=>obSl o 0 n=some es∧(match o with | .row ..=>True | .box _=>False | .mp ..=>False) | none=>False
  | .nil,.fr _ es=>es=[]
  | .nil,.d x=>x=.sl []
  | .d x,.d y=>x=y
  | _,_=>False
def exW (h:Heap):W→W→Prop
  | .c x,.c y=>exC h x y
  | .mix cs,.mix ds=>All2 (exC h) cs ds
  | .mix cs,.c (.d (.agg ds))=>allDn cs=some ds
  | _,_=>False
def resW (σ:St):Nat×Option Kd→Option W
  | (t,none)=>asW (σ.f t)
  | (t,some kd)=>ldV σ.h kd (σ.f t)
def exV (h:Heap):List W→V→Prop
  | [x],.w y=>exW h x y
  | x::y::r,.tup ws=>All2 (exW h) (x::y::r) ws
  | [],.tup ws=>ws=[]
  | _,_=>False
def exDs (h:Heap):List W→V→Prop
  | [x],.w (.c (.d d))=>toW h x=some d
  | x::y::r,.tup ws=>All2 (fun x z=>∃ d,z=.c (.d d)∧toW h x=some d) (x::y::r) ws
  | _,_=>False
def RetOk (σ:St) (l:List (Nat×Option Kd)) (res:V):Prop :=
  ∃ ws,allSome (resW σ) l=some ws∧(((ws.flatMap W.ids).Nodup∧exV σ.h ws res)∨exDs σ.h ws res)
def entry (args:List D):St:=⟨fun t=>match args[t]? with | some x=>vd x | none=>.undef,fun _=>none,fun _=>false⟩
end
structure Gh extends World where
  wo:World
  so:Cells
  fx:Nat→Option Value
  ext:Nat→Prop
def Gh.may (w0:Gh) (b:Nat):Prop:=w0.heap.size≤b∨w0.ext b
instance:CoeOut Gh World:=⟨Gh.toWorld⟩
def Gh.of (w:World):Gh:={ w with wo:=w,so:=fun _ _=>False,fx:=fun _=>none,ext:=fun _=>False }
def DefOk (B:Nat) (w:World):List Deferred→Prop
  | []=>True
  | d::ds=>(∃ D,d={ target:=.collected D,args:=#[] }∧B≤D∧w.heap[D]?=some (.deferred (some []))∧∀ d'∈ds,d'.target≠.collected D)∧DefOk B w ds
theorem DefOk.keep {B:Nat} {w w':World} (k:KeepsO w w'):∀ {ds:List Deferred},DefOk B w ds→DefOk B w' ds
  | [],_=>trivial
  | _::_,⟨⟨D,h1,h2,h3,h4⟩,h5⟩=>⟨⟨D,h1,h2,k.same _ _ h3 rfl,h4⟩,h5.keep k⟩
theorem keepsO_heap {w w':World} (hb:∀ b,b<w.heap.size→w'.heap[b]?=w.heap[b]?) (hsz:w.heap.size≤w'.heap.size):KeepsO w w' :=
  ⟨hsz,fun k o hk _=>(hb k (Array.getElem?_eq_some_iff.1 hk).1).trans hk⟩
theorem keepsO_block {w w':World} {b:Nat} {cur:Array Value} {ty:TypeId} {fz:Nat×Nat} (hc:w.heap[b]?=some (.cells cur ty fz)) (hother:∀ k,k≠b→w'.heap[k]?=w.heap[k]?) (hsize:w'.heap.size=w.heap.size):KeepsO w w' :=
  ⟨Nat.le_of_eq hsize.symm,fun k o hk ho=>by
    by_cases e:k=b
    ·subst e; rw[hc] at hk; cases hk; cases ho
    ·rw[hother k e]; exact hk⟩
structure Inv (G:Glob) (N:Nat) (Sin:Cells) (w0:Gh) (σ:St) (a:Act) (w:World) (S:Cells) (m:Mp):Prop where
  size:a.tmps.size=N
  defers:DefOk w0.heap.size w a.defers
  slot:∀ t,RV m S w (a.tmps.getD t undef) (σ.f t)
  used:∀ t,∀ i∈(σ.f t).ids,σ.u i=true
  obj:∀ id o,σ.h id=some o→ObjOk m S w0.may w id o∧σ.u id=true∧∀ j∈o.ids,σ.u j=true
  inj:∀ i j b s s',σ.h i≠none→σ.h j≠none→m i=some (b,s)→m j=some (b,s')→i=j
  sin:∀ b i,S b i→b<w.heap.size∧(Sin b i∨w0.may b)
  sub:∀ b i,Sin b i→S b i
  glob:GlobOk G S w
  below:Bel w0.heap.size w0.ext w0 w
  oth:KeepsO w0.wo w
  kso:Keeps w0.so w0.wo w
  sso:∀ b i,w0.so b i→S b i
  fix:∀ t v,w0.fx t=some v→a.tmps.getD t undef=v
theorem OwnV.congr {m m':Mp} {w:World} {v:Value} {id sz off n:Nat} (h:OwnV m w v id sz off n) (e:m' id=m id):OwnV m' w v id sz off n:=by
  unfold OwnV at *; rw[e]; exact h
theorem RCp.congr {m m':Mp} {S:Cells} {w:World} {v:Value} {x:Cp} (h:RCp m S w v x) (e:∀ i∈x.ids,m' i=m i):RCp m' S w v x:=by
  cases x with
  | d x=>exact h
  | p id sz i o =>
    obtain⟨b,h1,h2⟩:=h
    exact⟨b,by rw[e id (by simp[Cp.ids])]; exact h1,h2⟩
theorem RC.congr {m m':Mp} {S:Cells} {w:World} {v:Value} {x:C} (h:RC m S w v x) (e:∀ i∈x.ids,m' i=m i):RC m' S w v x:=by
  cases x <;> simp only[RC,C.ids] at *
  ·exact h
  ·exact h
  ·exact h.congr (e _ (by simp))
  ·rw[e _ (by simp)]; exact h
  ·rw[e _ (by simp)]; exact h
  ·exact h
  ·exact h
  ·obtain⟨us,vs,h1,h2,h3⟩:=h
   exact⟨us,vs,h1,h2.weak fun _ c _ hc h=>h.congr fun i hi=>e i (List.mem_append_left _ (List.mem_flatMap.2 ⟨c,hc,hi⟩)),h3.weak fun _ c _ hc h=>h.congr fun i hi=>e i (List.mem_append_right _ (List.mem_flatMap.2 ⟨c,hc,hi⟩))⟩
  ·obtain⟨b,h1,h2⟩:=h
   exact⟨b,by rw[e _ (by simp)]; exact h1,h2⟩
theorem All2.congrC {m m':Mp} {S:Cells} {w:World} {us:List Value} {cs:List C} (h:All2 (RC m S w) us cs) (e:∀ i∈cs.flatMap C.ids,m' i=m i):All2 (RC m' S w) us cs :=
  h.weak fun _ c _ hc h=>h.congr fun i hi=>e i (List.mem_flatMap.2 ⟨c,hc,hi⟩)
theorem RW.congr {m m':Mp} {S:Cells} {w:World} {v:Value} {x:W} (h:RW m S w v x) (e:∀ i∈x.ids,m' i=m i):RW m' S w v x:=by
  unfold RW at *
  split at h
  ·exact h
  ·exact RC.congr h e
  ·obtain⟨us,h1,h2⟩:=h; exact⟨us,h1,h2.congrC e⟩
theorem RV.congr {m m':Mp} {S:Cells} {w:World} {v:Value} {x:V} (h:RV m S w v x) (e:∀ i∈x.ids,m' i=m i):RV m' S w v x:=by
  cases x with
  | w x=>exact RW.congr h e
  | tup ws =>
    obtain⟨us,h1,h2⟩:=h
    exact⟨us,h1,h2.weak fun _ c _ hc h=>h.congr fun i hi=>e i (List.mem_flatMap.2 ⟨c,hc,hi⟩)⟩
  | undef=>trivial
theorem CellsOk.step {m m':Mp} {S S':Cells} {w w':World} {sz:Nat} {cur:Array Value} {o:Ob} (h:CellsOk m S w sz cur o) (k:Keeps S w w') (hS:∀ b i,S b i→S' b i) (e:∀ i∈o.ids,m' i=m i):CellsOk m' S' w' sz cur o:=by
  cases o with
  | row s es =>
    refine⟨h.1,fun i hi=>⟨(h.2 i hi).1,fun j hj=>?_⟩⟩
    obtain⟨v,h1,h2⟩:=(h.2 i hi).2 j hj
    exact⟨v,h1,(h2.keep k).mono hS⟩
  | box cs =>
    refine⟨h.1,fun j hj=>?_⟩
    obtain⟨v,h1,h2⟩:=h.2 j hj
    refine⟨v,h1,((h2.keep k).mono hS).congr fun i hi=>e i ?_⟩
    exact List.mem_flatMap.2 ⟨cs[j],List.getElem_mem hj,hi⟩
  | mp q es=>trivial
theorem BlkIs.step {S S':Cells} {w w':World} {b:Nat} {cur:Array Value} {ty:TypeId} {fz:Nat×Nat} {o:Ob} (h:BlkIs S w b cur ty fz o) (k:Keeps S w w') (hS:∀ b i,S b i→S' b i) (hb:w'.heap[b]?=w.heap[b]?):BlkIs S' w' b cur ty fz o:=by
  cases o with
  | row s es=>exact hb.trans h
  | box cs=>exact hb.trans h
  | mp q es =>
    obtain⟨E,c,h1,h2⟩:=h
    exact⟨E,c,hb.trans h1,h2.weak fun _ _ _ _ h=>⟨h.1,(h.2.keep k).mono hS⟩⟩
theorem ObjOk.step {m m':Mp} {S S':Cells} {B:Nat→Prop} {w w':World} {id:Nat} {o:Ob} (h:ObjOk m S B w id o) (k:Keeps S w w') (hS:∀ b i,S b i→S' b i) (e:∀ i∈o.ids,m' i=m i) (e0:m' id=m id)
    (hb:∀ b s,m id=some (b,s)→w'.heap[b]?=w.heap[b]?∧∀ i,¬ S' b i):ObjOk m' S' B w' id o:=by
  unfold ObjOk at *
  rw[e0]
  split at h
  ·exact h
  ·rename_i b s hm
   obtain⟨h1,h2,h3,cur,ty,fz,h4,h5,h6⟩:=h
   obtain⟨g1,g2⟩:=hb b s hm
   exact⟨h1,h2,g2,cur,ty,fz,h4.step k hS g1,h5,h6.step k hS e⟩
theorem ObjOk.lt {m:Mp} {S:Cells} {B:Nat→Prop} {w:World} {id:Nat} {o:Ob} (h:ObjOk m S B w id o) {b s:Nat} (hm:m id=some (b,s)):b<w.heap.size:=by
  unfold ObjOk at h
  rw[hm] at h
  obtain⟨_,_,_,cur,ty,fz,h4,_⟩:=h
  rcases Nat.lt_or_ge b w.heap.size with hlt | hge
  ·exact hlt
  ·obtain⟨x,hx⟩:=h4.some
   rw[Array.getElem?_eq_none hge] at hx; cases hx
theorem ObjOk.apart {m:Mp} {S:Cells} {B:Nat→Prop} {w:World} {id:Nat} {o:Ob} (h:ObjOk m S B w id o) {b s:Nat} (hm:m id=some (b,s)):∀ i,¬ S b i:=by
  unfold ObjOk at h
  rw[hm] at h
  exact h.2.2.1
theorem GlobOk.step {G:Glob} {S S':Cells} {w w':World} (h:GlobOk G S w) (k:Keeps S w w') (hS:∀ b i,S b i→S' b i):GlobOk G S' w' :=
  fun p hp=>⟨((h p hp).1.keep k).mono hS,(h p hp).2.1,fun es he h1=>by obtain⟨ty,h2⟩:=(h p hp).2.2 es he h1; exact⟨ty,k.shape _ _ h2⟩⟩
theorem getD_put {a:Act} {d:Option Tmp} {v:Value} {t:Nat}:(a.put d v).tmps.getD t undef=if d=some t∧t<a.tmps.size then v else a.tmps.getD t undef:=by
  cases d with
  | none=>simp[Act.put]
  | some i =>
    simp only[Act.put,Option.some.injEq]
    by_cases h:i=t
    ·subst h
     by_cases h2:i<a.tmps.size
     ·simp[h2]
     ·simp[h2]
    ·simp only[h,false_and,if_false]
     simp[Array.getElem?_setIfInBounds_ne h]
theorem size_put (a:Act) (d:Option Tmp) (v:Value):(a.put d v).tmps.size=a.tmps.size:=by cases d <;> simp[Act.put]
theorem defers_put (a:Act) (d:Option Tmp) (v:Value):(a.put d v).defers=a.defers:=by cases d <;> rfl
section
variable {G:Glob} {N:Nat} {Sin:Cells} {w0:Gh} {σ:St} {a:Act} {w:World} {S:Cells} {m:Mp}
theorem Inv.put (h:Inv G N Sin w0 σ a w S m) (d:Option Nat) (hd:∀ t,d=some t→t<N∧w0.fx t=none) {v:Value} {x:V} (hv:RV m S w v x) (hx:∀ i∈x.ids,σ.u i=true) :
    Inv G N Sin w0 ⟨updO σ.f d x,σ.h,σ.u⟩ (a.put d v) w S m:=by
  refine⟨by rw[size_put]; exact h.size,by rw[defers_put]; exact h.defers,fun t=>?_,fun t i hi=>?_,h.obj,h.inj,h.sin,h.sub,h.glob,h.below,h.oth,h.kso,h.sso,fun t v ht=>?_⟩
  ·rw[getD_put]
   by_cases e:d=some t
   ·subst e
    rw[if_pos ⟨rfl,by rw[h.size]; exact (hd t rfl).1⟩]
    simp only[updO,upd,if_true]
    exact hv
   ·rw[if_neg (fun k=>e k.1)]
    have:updO σ.f d x t=σ.f t:=by
      cases d with
      | none=>rfl
      | some i=>simp only[updO,upd]; rw[if_neg (fun k=>e (by rw[k]))]
    show RV m S w _ (updO σ.f d x t)
    rw[this]; exact h.slot t
  ·show σ.u i=true
   have hi':i∈(updO σ.f d x t).ids:=hi
   cases d with
   | none=>exact h.used t i hi'
   | some k =>
     simp only[updO,upd] at hi'
     split at hi'
     ·exact hx i hi'
     ·exact h.used t i hi'
  ·rw[getD_put,if_neg (fun k=>by have:=(hd t k.1).2; rw[ht] at this; cases this)]
   exact h.fix t v ht
theorem Inv.move (h:Inv G N Sin w0 σ a w S m) {w':World} {S':Cells} {m':Mp} {h':Heap} {u':Nat→Bool} (k:Keeps S w w') (ko:KeepsO w w') (hS:∀ b i,S b i→S' b i) (hm:∀ i,σ.u i=true→m' i=m i) (hu:∀ i,σ.u i=true→u' i=true)
    (obj:∀ id o,h' id=some o→ObjOk m' S' w0.may w' id o∧u' id=true∧∀ j∈o.ids,u' j=true)
    (inj:∀ i j b s s',h' i≠none→h' j≠none→m' i=some (b,s)→m' j=some (b,s')→i=j)
    (sin:∀ b i,S' b i→b<w'.heap.size∧(Sin b i∨w0.may b)) (below:Bel w0.heap.size w0.ext w0 w') :
    Inv G N Sin w0 ⟨σ.f,h',u'⟩ a w' S' m' :=
  ⟨h.size,h.defers.keep ko,fun t=>(((h.slot t).keep k).mono hS).congr fun i hi=>hm i (h.used t i hi),fun t i hi=>hu i (h.used t i hi),obj,inj,sin,fun b i hi=>hS b i (h.sub b i hi),h.glob.step k hS,below,h.oth.trans ko,h.kso.trans ⟨fun b i v hs hv=>k.cell b i v (h.sso b i hs) hv,k.shape⟩,fun b i hs=>hS b i (h.sso b i hs),h.fix⟩
theorem Inv.bsize (h:Inv G N Sin w0 σ a w S m):w0.heap.size≤w.heap.size:=h.below.size
theorem keeps_of_heap {w w':World} {S:Cells} (hS:∀ b i,S b i→b<w.heap.size) (h:∀ b,b<w.heap.size→w'.heap[b]?=w.heap[b]?):Keeps S w w':=by
  refine⟨fun b i v hs hv=>?_,fun b s hs=>?_⟩
  ·unfold World.cell? at *; rw[h b (hS b i hs)]; exact hv
  ·have hb:b<w.heap.size:=by
     unfold World.shape? at hs
     rcases Nat.lt_or_ge b w.heap.size with hlt | hge
     ·exact hlt
     ·rw[Array.getElem?_eq_none hge] at hs; cases hs
   unfold World.shape? at *; rw[h b hb]; exact hs
theorem Inv.grow (h:Inv G N Sin w0 σ a w S m) {w':World} (hb:∀ b,b<w.heap.size→w'.heap[b]?=w.heap[b]?) (below:Bel w0.heap.size w0.ext w0 w') (hsz:w.heap.size≤w'.heap.size):Inv G N Sin w0 σ a w' S m:=by
  have k:Keeps S w w':=keeps_of_heap (fun b i hs=>(h.sin b i hs).1) hb
  have:=h.move (h':=σ.h) (u':=σ.u) (S':=S) (m':=m) k (keepsO_heap hb hsz) (fun _ _ h=>h) (fun _ _=>rfl) (fun _ h=>h)
    (fun id o ho=>⟨(h.obj id o ho).1.step k (fun _ _ h=>h) (fun _ _=>rfl) rfl fun b s hm=>⟨hb b ((h.obj id o ho).1.lt hm),(h.obj id o ho).1.apart hm⟩,(h.obj id o ho).2⟩)
    h.inj (fun b i hs=>⟨Nat.lt_of_lt_of_le (h.sin b i hs).1 hsz,(h.sin b i hs).2⟩) below
  exact this
theorem Inv.drew (h:Inv G N Sin w0 σ a w S m):Inv G N Sin w0 σ a w.drew S m :=
  h.grow (fun _ _=>rfl) (h.below.step (Nat.le_refl _) (Below.refl _ w).drew) (Nat.le_refl _)
theorem Inv.newRo (h:Inv G N Sin w0 σ a w S m) (o:Obj):Inv G N Sin w0 σ a (w.alloc o) (fun b i=>S b i∨b=w.heap.size) m:=by
  have hb:∀ b,b<w.heap.size→(w.alloc o).heap[b]?=w.heap[b]?:=fun b hlt=>Below.heap_alloc w o b hlt
  have k:Keeps S w (w.alloc o):=keeps_of_heap (fun b i hs=>(h.sin b i hs).1) hb
  refine h.move k (KeepsO.alloc w o) (fun _ _ h=>.inl h) (fun _ _=>rfl) (fun _ h=>h) (fun id ob ho=>?_) h.inj (fun b i hs=>?_) (h.below.step (Nat.le_refl _) ((Below.refl _ w).alloc (Nat.le_refl _) o))
  ·refine⟨(h.obj id ob ho).1.step k (fun _ _ h=>.inl h) (fun _ _=>rfl) rfl fun b s hm=>?_,(h.obj id ob ho).2⟩
   have hlt:=(h.obj id ob ho).1.lt hm
   exact⟨hb b hlt,fun i hi=>hi.elim ((h.obj id ob ho).1.apart hm i) (fun e=>by omega)⟩
  ·rcases hs with hs | rfl
   ·exact⟨by have:=(h.sin b i hs).1; simp; omega,(h.sin b i hs).2⟩
   ·exact⟨by simp,.inr (.inl h.bsize)⟩
theorem Inv.newObj (o2:Obj) (h:Inv G N Sin w0 σ a w S m) {id sz:Nat} {ob:Ob} {cur:Array Value} {ty:TypeId} {fz:Nat×Nat} (hu:σ.u id=false) (hsz:ob.sz=sz) (hfz:Thawed cur fz) (hc:CellsOk m S w sz cur ob) (hids:∀ j∈ob.ids,σ.u j=true) (hblk:BlkIs S (w.alloc o2) w.heap.size cur ty fz ob) :
    Inv G N Sin w0 ⟨σ.f,upd σ.h id (some ob),upd σ.u id true⟩ a (w.alloc o2) S (upd m id (some (w.heap.size,sz))):=by
  have hb:∀ b,b<w.heap.size→(w.alloc o2).heap[b]?=w.heap[b]?:=fun b hlt=>Below.heap_alloc w _ b hlt
  have k:Keeps S w (w.alloc o2):=keeps_of_heap (fun b i hs=>(h.sin b i hs).1) hb
  have hm:∀ i,σ.u i=true→upd m id (some (w.heap.size,sz)) i=m i:=fun i hi=>by
    unfold upd; rw[if_neg (fun e=>by rw[e,hu] at hi; cases hi)]
  have huu:∀ i,σ.u i=true→upd σ.u id true i=true:=fun i hi=>by unfold upd; split <;> simp_all
  refine h.move k (KeepsO.alloc w _) (fun _ _ h=>h) hm huu (fun i o ho=>?_) (fun i j b s s' h1 h2 h3 h4=>?_) (fun b i hs=>⟨by have:=(h.sin b i hs).1; simp; omega,(h.sin b i hs).2⟩) (h.below.step (Nat.le_refl _) ((Below.refl _ w).alloc (Nat.le_refl _) _))
  ·by_cases e:i=id
   ·subst e
    simp only[upd,if_true,Option.some.injEq] at ho
    subst ho
    refine⟨?_,by simp[upd],fun j hj=>huu j (hids j hj)⟩
    unfold ObjOk
    simp only[upd,if_true]
    exact⟨hsz,.inl h.bsize,fun q hq=>by have:=(h.sin _ q hq).1; omega,cur,ty,fz,hblk,hfz,hc.step k (fun _ _ h=>h) fun j hj=>hm j (hids j hj)⟩
   ·simp only[upd,e,if_false] at ho
    have ho':=h.obj i o ho
    refine⟨ho'.1.step k (fun _ _ h=>h) (fun j hj=>hm j (ho'.2.2 j hj)) (hm i ho'.2.1) fun b s hb'=>⟨hb b (ho'.1.lt hb'),ho'.1.apart hb'⟩,huu i ho'.2.1,fun j hj=>huu j (ho'.2.2 j hj)⟩
  ·have live:∀ i b s,upd σ.h id (some ob) i≠none→upd m id (some (w.heap.size,sz)) i=some (b,s)→i≠id→σ.h i≠none∧m i=some (b,s)∧b<w.heap.size:=by
     intro i b s g1 g2 e
     simp only[upd,e,if_false] at g1 g2
     obtain⟨o,ho⟩:=Option.ne_none_iff_exists'.1 g1
     exact⟨g1,g2,(h.obj i o ho).1.lt g2⟩
   by_cases e1:i=id
   ·by_cases e2:j=id
    ·rw[e1,e2]
    ·have:=live j b s' h2 h4 e2
     subst e1
     simp only[upd,if_true,Option.some.injEq,Prod.mk.injEq] at h3
     omega
   ·have l1:=live i b s h1 h3 e1
    by_cases e2:j=id
    ·subst e2
     simp only[upd,if_true,Option.some.injEq,Prod.mk.injEq] at h4
     omega
    ·have l2:=live j b s' h2 h4 e2
     exact h.inj i j b s s' l1.1 l2.1 l1.2.1 l2.2.1
theorem Inv.newOb (h:Inv G N Sin w0 σ a w S m) {id sz:Nat} {ob:Ob} {cur:Array Value} {ty:TypeId} {fz:Nat×Nat} (hu:σ.u id=false) (hsz:ob.sz=sz) (hfz:Thawed cur fz) (hc:CellsOk m S w sz cur ob) (hids:∀ j∈ob.ids,σ.u j=true) (hmp:ob.isMp=false:=by rfl) :
    Inv G N Sin w0 ⟨σ.f,upd σ.h id (some ob),upd σ.u id true⟩ a (w.alloc (.cells cur ty fz)) S (upd m id (some (w.heap.size,sz))) :=
  h.newObj _ hu hsz hfz hc hids (BlkIs.of (heap_alloc_new w _) hmp)
theorem Inv.newNil (h:Inv G N Sin w0 σ a w S m) {id sz:Nat} (hu:σ.u id=false) :
    Inv G N Sin w0 ⟨σ.f,upd σ.h id (some (.row sz [])),upd σ.u id true⟩ a w S (upd m id none):=by
  have hm:∀ i,σ.u i=true→upd m id none i=m i:=fun i hi=>by
    unfold upd; rw[if_neg (fun e=>by rw[e,hu] at hi; cases hi)]
  have huu:∀ i,σ.u i=true→upd σ.u id true i=true:=fun i hi=>by unfold upd; split <;> simp_all
  refine h.move (Keeps.refl _ _) (KeepsO.refl _) (fun _ _ h=>h) hm huu (fun i o ho=>?_) (fun i j b s s' h1 h2 h3 h4=>?_) h.sin h.below
  ·by_cases e:i=id
   ·subst e
    simp only[upd,if_true,Option.some.injEq] at ho
    subst ho
    refine⟨?_,by simp[upd],fun j hj=>by simp[Ob.ids] at hj⟩
    unfold ObjOk
    simp only[upd,if_true]
    exact⟨_,rfl⟩
   ·simp only[upd,e,if_false] at ho
    have ho':=h.obj i o ho
    exact⟨ho'.1.step (Keeps.refl _ _) (fun _ _ h=>h) (fun j hj=>hm j (ho'.2.2 j hj)) (hm i ho'.2.1) fun b s hb'=>⟨rfl,ho'.1.apart hb'⟩,huu i ho'.2.1,fun j hj=>huu j (ho'.2.2 j hj)⟩
  ·have ne:∀ i b s,upd m id none i=some (b,s)→i≠id:=fun i b s g e=>by rw[e] at g; simp[upd] at g
   have e1:=ne i b s h3
   have e2:=ne j b s' h4
   simp only[upd,e1,e2,if_false] at h1 h2 h3 h4
   exact h.inj i j b s s' h1 h2 h3 h4
theorem Inv.kill (h:Inv G N Sin w0 σ a w S m) (id:Nat):Inv G N Sin w0 ⟨σ.f,upd σ.h id none,σ.u⟩ a w S m:=by
  have sub:∀ i o,upd σ.h id none i=some o→σ.h i=some o:=fun i o hi=>by
    unfold upd at hi; split at hi
    ·cases hi
    ·exact hi
  refine⟨h.size,h.defers,h.slot,h.used,fun i o ho=>h.obj i o (sub i o ho),fun i j b s s' h1 h2 h3 h4=>?_,h.sin,h.sub,h.glob,h.below,h.oth,h.kso,h.sso,h.fix⟩
  refine h.inj i j b s s' ?_ ?_ h3 h4
  ·obtain⟨o,ho⟩:=Option.ne_none_iff_exists'.1 h1; rw[sub i o ho]; simp
  ·obtain⟨o,ho⟩:=Option.ne_none_iff_exists'.1 h2; rw[sub j o ho]; simp
theorem Inv.freeze (h:Inv G N Sin w0 σ a w S m) (id:Nat) (o:Ob) (ho:σ.h id=some o) :
    Inv G N Sin w0 ⟨σ.f,upd σ.h id none,σ.u⟩ a w (fun b i=>S b i∨∃ s,m id=some (b,s)) m:=by
  have hk:=h.kill id
  have hS:∀ b i,S b i→S b i∨∃ s,m id=some (b,s):=fun _ _ h=>.inl h
  refine hk.move (Keeps.refl _ _) (KeepsO.refl _) hS (fun _ _=>rfl) (fun _ h=>h) (fun i ob hi=>?_) hk.inj (fun b i hs=>?_) h.below
  ·have h1:=hk.obj i ob hi
   refine⟨h1.1.step (Keeps.refl _ _) hS (fun _ _=>rfl) rfl fun b s hb=>⟨rfl,fun q hq=>?_⟩,h1.2⟩
   rcases hq with hq | ⟨s',hs'⟩
   ·exact h1.1.apart hb q hq
   ·have hne:i≠id:=fun e=>by subst e; simp[upd] at hi
    have hi':σ.h i=some ob:=by simpa [upd,hne] using hi
    exact hne (h.inj i id b s s' (by rw[hi']; simp) (by rw[ho]; simp) hb hs')
  ·rcases hs with hs | ⟨s,hs⟩
   ·exact h.sin b i hs
   ·refine⟨(h.obj id o ho).1.lt hs,.inr ?_⟩
    have:=(h.obj id o ho).1
    unfold ObjOk at this
    rw[hs] at this
    exact this.2.1
theorem Inv.write (h:Inv G N Sin w0 σ a w S m) {id b sz:Nat} {o o':Ob} {cur cur':Array Value} {ty:TypeId} {fz:Nat×Nat} {w':World} (ho:σ.h id=some o) (hm:m id=some (b,sz)) (hsz:o'.sz=sz)
    (hcur:w.heap[b]?=some (.cells cur ty fz)) (hcur':w'.heap[b]?=some (.cells cur' ty fz)) (hlen:cur'.size=cur.size)
    (hother:∀ k,k≠b→w'.heap[k]?=w.heap[k]?) (hc:CellsOk m S w sz cur' o') (hids:∀ j∈o'.ids,σ.u j=true) (below:Bel w0.heap.size w0.ext w0 w') (hsize:w'.heap.size=w.heap.size) (hmp:o'.isMp=false:=by rfl) :
    Inv G N Sin w0 ⟨σ.f,upd σ.h id (some o'),σ.u⟩ a w' S m:=by
  have hob:=(h.obj id o ho).1
  have hap:=hob.apart hm
  unfold ObjOk at hob
  rw[hm] at hob
  obtain⟨g1,g2,g3,cur0,ty0,fz0,g4,g5,g6⟩:=hob
  have g4:=(g4.cells hcur).1
  rw[hcur] at g4
  obtain⟨rfl,rfl,rfl⟩:cur=cur0∧ty=ty0∧fz=fz0:=by simpa using g4
  have k:Keeps S w w':=by
    refine⟨fun x i v hs hv=>?_,fun x s hs=>?_⟩
    ·have hx:x≠b:=fun e=>hap i (e ▸ hs)
     unfold World.cell? at *; rw[hother x hx]; exact hv
    ·by_cases hx:x=b
     ·subst hx
      unfold World.shape? at *
      rw[hcur] at hs
      rw[hcur',← hs]
      simp[hlen]
     ·unfold World.shape? at *; rw[hother x hx]; exact hs
  refine h.move k (keepsO_block hcur hother hsize) (fun _ _ h=>h) (fun _ _=>rfl) (fun _ h=>h) (fun i ob hi=>?_) (fun i j x s s' h1 h2 h3 h4=>?_) (fun x i hs=>by rw[hsize]; exact h.sin x i hs) below
  ·by_cases e:i=id
   ·subst e
    simp only[upd,if_true,Option.some.injEq] at hi
    subst hi
    refine⟨?_,(h.obj i o ho).2.1,hids⟩
    unfold ObjOk
    rw[hm]
    exact⟨hsz,g2,g3,cur',ty,fz,BlkIs.of hcur' hmp,g5.of_size hlen,hc.step k (fun _ _ h=>h) fun _ _=>rfl⟩
   ·simp only[upd,e,if_false] at hi
    have h1:=h.obj i ob hi
    refine⟨h1.1.step k (fun _ _ h=>h) (fun _ _=>rfl) rfl fun x s hx=>⟨?_,h1.1.apart hx⟩,h1.2⟩
    refine hother x fun e'=>e ?_
    subst e'
    exact h.inj i id x s sz (by rw[hi]; simp) (by rw[ho]; simp) hx hm
  ·have live:∀ i,upd σ.h id (some o') i≠none→σ.h i≠none:=by
     intro i g
     unfold upd at g
     split at g
     ·rename_i e; rw[e,ho]; simp
     ·exact g
   exact h.inj i j x s s' (live i h1) (live j h2) h3 h4
theorem Inv.writeMp (h:Inv G N Sin w0 σ a w S m) {id b sz:Nat} {q:IntKind} {es es':List (Int×D)} {E E':Array MapEntry} {clock clock':Nat} (ho:σ.h id=some (.mp q es)) (hm:m id=some (b,sz))
    (hcur:w.heap[b]?=some (.map E clock)) (hE:EntsOk S w q E' es') :
    Inv G N Sin w0 ⟨σ.f,upd σ.h id (some (.mp q es')),σ.u⟩ a { w with heap:=w.heap.setIfInBounds b (.map E' clock') } S m:=by
  have hob:=(h.obj id _ ho).1
  have hap:=hob.apart hm
  have hlt:=hob.lt hm
  unfold ObjOk at hob
  rw[hm] at hob
  obtain⟨g1,g2,g3,cur0,ty0,fz0,g4,g5,g6⟩:=hob
  have hother:∀ k,k≠b→(w.heap.setIfInBounds b (.map E' clock'))[k]?=w.heap[k]?:=fun k hk=>by
    rw[Array.getElem?_setIfInBounds_ne (fun e=>hk e.symm)]
  have hcur':(w.heap.setIfInBounds b (.map E' clock'))[b]?=some (.map E' clock'):=by
    simp[hlt]
  have k:Keeps S w { w with heap:=w.heap.setIfInBounds b (.map E' clock') }:=by
    refine⟨fun x i v hs hv=>?_,fun x s hs=>?_⟩
    ·have hx:x≠b:=fun e=>hap i (e ▸ hs)
     unfold World.cell? at *; simp only[hother x hx]; exact hv
    ·by_cases hx:x=b
     ·subst hx
      unfold World.shape? at hs
      rw[hcur] at hs
      cases hs
     ·unfold World.shape? at *; simp only[hother x hx]; exact hs
  refine h.move k ⟨by simp,fun x o hx hl=>?_⟩ (fun _ _ h=>h) (fun _ _=>rfl) (fun _ h=>h) (fun i ob hi=>?_) (fun i j x s s' h1 h2 h3 h4=>?_) (fun x i hs=>by simpa using h.sin x i hs) (h.below.trans ⟨rfl,rfl,rfl,by simp,fun x hx hB=>hother x fun e=>?_⟩)
  ·refine (hother x fun e=>?_).trans hx
   subst e; rw[hcur] at hx; cases hx; cases hl
  ·by_cases e:i=id
   ·subst e
    simp only[upd,if_true,Option.some.injEq] at hi
    subst hi
    refine⟨?_,(h.obj i _ ho).2.1,fun j hj=>by cases hj⟩
    unfold ObjOk
    rw[hm]
    exact⟨g1,g2,g3,cur0,ty0,fz0,⟨E',clock',hcur',hE.weak fun _ _ _ _ h=>⟨h.1,h.2.keep k⟩⟩,g5,trivial⟩
   ·simp only[upd,e,if_false] at hi
    have h1:=h.obj i ob hi
    refine⟨h1.1.step k (fun _ _ h=>h) (fun _ _=>rfl) rfl fun x s hx=>⟨?_,h1.1.apart hx⟩,h1.2⟩
    refine hother x fun e'=>e ?_
    subst e'
    exact h.inj i id x s sz (by rw[hi]; simp) (by rw[ho]; simp) hx hm
  ·have live:∀ i,upd σ.h id (some (.mp q es')) i≠none→σ.h i≠none:=by
     intro i g
     unfold upd at g
     split at g
     ·rename_i e; rw[e,ho]; simp
     ·exact g
   exact h.inj i j x s s' (live i h1) (live j h2) h3 h4
  ·subst e
   rcases g2 with g2 | g2
   ·omega
   ·exact hB g2
theorem Inv.mark (h:Inv G N Sin w0 σ a w S m) {id b sz:Nat} {o:Ob} {cur:Array Value} {ty:TypeId} {fz fz':Nat×Nat} {w':World} (ho:σ.h id=some o) (hm:m id=some (b,sz))
    (hcur:w.heap[b]?=some (.cells cur ty fz)) (hcur':w'.heap[b]?=some (.cells cur ty fz')) (hth:Thawed cur fz')
    (hother:∀ k,k≠b→w'.heap[k]?=w.heap[k]?) (below:Bel w0.heap.size w0.ext w0 w') (hsize:w'.heap.size=w.heap.size) :
    Inv G N Sin w0 σ a w' S m:=by
  have hob:=(h.obj id o ho).1
  have hap:=hob.apart hm
  unfold ObjOk at hob
  rw[hm] at hob
  obtain⟨g1,g2,g3,cur0,ty0,fz0,g4,g5,g6⟩:=hob
  have hmp:=(g4.cells hcur).2
  have g4:=(g4.cells hcur).1
  rw[hcur] at g4
  obtain⟨rfl,rfl,rfl⟩:cur=cur0∧ty=ty0∧fz=fz0:=by simpa using g4
  have k:Keeps S w w':=by
    refine⟨fun x i v hs hv=>?_,fun x s hs=>?_⟩
    ·have hx:x≠b:=fun e=>hap i (e ▸ hs)
     unfold World.cell? at *; rw[hother x hx]; exact hv
    ·by_cases hx:x=b
     ·subst hx
      unfold World.shape? at *
      rw[hcur] at hs
      rw[hcur',← hs]
     ·unfold World.shape? at *; rw[hother x hx]; exact hs
  refine h.move k (keepsO_block hcur hother hsize) (fun _ _ h=>h) (fun _ _=>rfl) (fun _ h=>h) (fun i ob hi=>?_) (fun i j x s s' h1 h2 h3 h4=>h.inj i j x s s' h1 h2 h3 h4) (fun x i hs=>by rw[hsize]; exact h.sin x i hs) below
  by_cases e:i=id
  ·subst e
   rw[ho] at hi
   cases hi
   refine⟨?_,(h.obj i o ho).2.1,(h.obj i o ho).2.2⟩
   unfold ObjOk
   rw[hm]
   exact⟨g1,g2,g3,cur,ty,fz',BlkIs.of hcur' hmp,hth,g6.step k (fun _ _ h=>h) fun _ _=>rfl⟩
  ·have h1:=h.obj i ob hi
   refine⟨h1.1.step k (fun _ _ h=>h) (fun _ _=>rfl) rfl fun x s hx=>⟨?_,h1.1.apart hx⟩,h1.2⟩
   refine hother x fun e'=>e ?_
   subst e'
   exact h.inj i id x s sz (by rw[hi]; simp) (by rw[ho]; simp) hx hm
end
structure Hint where
  own:List Nat:=[]
  comp:List (Nat×Nat):=[]
  frz:List Nat:=[]
  nils:List Nat:=[]
  bx:List Nat:=[]
  lx:List (Nat×List Nat):=[]
  pur:List Nat:=[]
  bad:Bool:=false
  mt:List Nat:=[]
  mv:Bool:=false
deriving Inhabited
def constC:Value→Option C
  | .int k n=>some (.d (.int k n))
  | .bool b=>some (.d (.bool b))
  | .string s=>some (.d (.str s))
  | .slice none 0 0=>some .nil
  | _=>none
def constD:Value→Option D
  | .int k n=>some (.int k n)
  | .bool b=>some (.bool b)
  | .string s=>some (.str s)
  | .slice none 0 0=>some (.sl [])
  | _=>none
def constW:Value→Option W
  | .agg cs=>(allSome constD cs.toList).map fun ds=>.c (.d (.agg ds))
  | v=>(constC v).map .c
def compX:Operand→Option SX
  | .tmp t=>some (.t t)
  | .const v=>match constW v with | some x=>some (.k x) | none=>some .u
  | .global g=>some (.g g)
  | .func f=>some (.k (.c (.d (.fn f []))))
def compXo:Option Operand→Option (Option SX)
  | none=>some none
  | some x=>(compX x).map some
section
variable (P:Program)
def tyKd (t:TypeId):Option Kd :=
  match P.info? t,P.underlying t with
  | some i,some (.struct _)=>some (.ag i.size)
  | some i,some (.array _ _)=>some (.ag i.size)
  | some i,some _=>if i.size=1 then some .sc else none
  | _,_=>none
def elTy (e:TypeId):Option (Nat×Nat×D) :=
  match tyKd P e,P.info? e with
  | some .sc,some i=>match i.zero with | some z=>(constD z).map fun d=>(1,i.bytes,d) | none=>none
  | some (.ag n),some i=>match i.zero with | some z=>(match allSome constD z.cells.toList with | some ds=>if 0<n∧ds.length=n then some (n,i.bytes,.agg ds) else none | none=>none) | none=>none
  | _,_=>none
def mpZ (e:TypeId):Option D :=
  match P.info? e with
  | some i=>(match i.zero with | some (.agg cs)=>if cs.size=0 then some (.agg []) else none | some z=>constD z | none=>none)
  | none=>none
def mpTy (t:TypeId):Option (IntKind×D) :=
  match P.underlying t with
  | some (.map k e)=>(match P.underlying k,mpZ P e with | some (.int q),some z=>some (q,z) | _,_=>none)
  | _=>none
def slTy (t:TypeId):Option (TypeId×Nat×Nat×D) :=
  match P.underlying t with
  | some (.slice e)=>(elTy P e).map fun (s,b,z)=>(e,s,b,z)
  | _=>none
def isNil (H:Hint) (o:Oper):SX→Bool
  | .k (.c .nil)=>true
  | _=>match o.dst with | some d=>decide (d∈H.nils) | none=>false
def compOwn (H:Hint) (o:Oper):Option (Option (Nat×Nat)) :=
  match o.dst with
  | some d=>if d∈H.pur then some (some (0,0)) else if d∈H.own then (match slTy P o.type with | some (_,s,_,_)=>some (some (0,s)) | none=>none)
    else match H.comp.find? (·.1==d) with
      | some (_,k)=>match P.underlying o.type with
        | some (.tuple ts)=>match (ts[k]?).bind (slTy P) with | some (_,s,_,_)=>some (some (k,s)) | none=>none
        | _=>none
      | none=>some none
  | none=>some none
def isM (H:Hint) (o:Oper):Bool:=match o.dst with | some d=>decide (d∈H.mt) | none=>H.mv
def compCall (H:Hint) (o:Oper) (c:Call):Option SOp :=
  match c.callee with
  | .value (.func f)=>match P.funcs[f]?,allSome compX c.args.toList,compOwn P H o with
    | some fn, some xs, some own => if fn.body.isSome ∧ (fn.name == "runtime.NumGoroutine") = false ∧ f ≠ dynF then some (if isM H o = true then .callM f xs else .call f xs own) else none
    | _,_,_=>none
  | .value x=>match allSome compX (x::c.args.toList),compOwn P H o with
    | some xs,some own=>some (if isM H o=true then .callM dynF xs else .call dynF xs own)
    | _,_=>none
  | .builtin .len=>match c.argTypes.toList,c.args.toList with
    | [t],[x]=>match P.underlying t,compX x with
      | some (.slice _),some x=>some (.len x)
      | some .string,some x=>some (.lenStr x)
      | some (.array n _),_=>some (.lenArr n)
      | _,_=>none
    | _,_=>none
  | .builtin .append=>match c.argTypes.toList,c.args.toList with
    | [t,u],[x,y]=>match slTy P t,compX x,compX y with
      | some (e,s,b,_),some x,some y=>match P.underlying u with
        | some (.slice e')=>if e'=e then some (if isNil H o x then .appN false s b x y else .app false s b x y) else none
        | some .string=>if s=1 then some (if isNil H o x then .appN true s b x y else .app true s b x y) else none
        | _=>none
      | _,_,_=>none
    | _,_=>none
  | .builtin .copy=>match c.argTypes.toList,c.args.toList with
    | [t,u],[x,y]=>match slTy P t,compX x,compX y with
      | some (e,s,_,_),some x,some y=>match P.underlying u with
        | some (.slice e')=>if e'=e then some (.copy s x y) else none
        | _=>none
      | _,_,_=>none
    | _,_=>none
  | .builtin .min=>(allSome compX c.args.toList).map .min
  | .builtin .max=>(allSome compX c.args.toList).map .max
  | _=>none
def ownOf (H:Hint) (o:Oper):Bool:=match o.dst with | some d=>decide (d∈H.own) | none=>false
def bxOf (H:Hint) (o:Oper):Bool:=match o.dst with | some d=>decide (d∈H.bx) | none=>false
def lxOf (H:Hint) (o:Oper):Option (List Nat):=match o.dst with | some d=>(H.lx.find? fun p=>p.1==d).map (·.2) | none=>none
def frzOf (H:Hint) (o:Oper):Bool:=match o.dst with | some d=>decide (d∈H.frz) | none=>false
def compMv (H:Hint) (o:Oper) (x:Operand):Option SOp :=
  match compX x with
  | some y=>if frzOf H o=true then some (.frz y) else if ownOf H o=true then (match y with
      | .k (.c .nil)=>(match slTy P o.type with | some (_,s,_,_)=>some (.nilOwn s) | none=>none)
      | _=>some (.mv y))
    else some (.mv y)
  | none=>none
def eqK (t:TypeId):Option Nat:=match P.underlying t with
  | some (.int _)=>some 0
  | some .bool=>some 1
  | some .string=>some 2
  | _=>none
def eqFs:List Field→Nat→Option (List Nat)
  | [],_=>some []
  | f :: r, i => if f.name ≠ "_" ∧ f.offset = i then match eqK P f.type, eqFs r (i + 1) with
    | some k,some ks=>some (k::ks)
    | _,_=>none
    else none
def eqTy (t:TypeId):Option (List Nat):=match P.underlying t with
  | some (.struct fs)=>if P.stoodInHeld t=false∧P.eqGuardType P.depth t=false then eqFs P fs.toList 0 else none
  | _=>none
def compOp (H:Hint) (o:Oper):Option SOp :=
  match o.op with
  | .move x=>compMv P H o x
  | .assign x=>compMv P H o x
  | .pick c a b=>match compX c,compX a,compX b with | some c,some a,some b=>some (.pick c a b) | _,_,_=>none
  | .alloc t=>match P.info? t,P.underlying t with
    | some i,some (.array n e)=>match i.zero,tyKd P e with
      | some z,some .sc=>match allSome constD z.cells.toList with | some ds=>if ds.length=n then some (.allocArr ds) else none | none=>none
      | some z,some (.ag _)=>(allSome constC z.cells.toList).map .alloc
      | _,_=>none
    | some i,some _=>match i.zero with
      | some z=>(allSome constC z.cells.toList).map .alloc
      | none=>none
    | _,_=>none
  | .box t x=>match compX x,P.underlying t with
    | some x,some (.array _ e)=>match tyKd P e with
      | some .sc=>some (.box (if ownOf H o then .ownArr else .roArr) x)
      | some (.ag _)=>some (.box (if ownOf H o then .ownBox else .roBox) x)
      | _=>none
    | some x,some _=>some (.box (if ownOf H o then .ownBox else .roBox) x)
    | _,_=>none
  | .build t ps=>match P.info? t,P.underlying t with
    | some i,some (.struct fs)=>match i.zero with
      | some z=>match allSome constC z.cells.toList,allSome (fun p:Nat×Operand=>match fs[p.1]?,compX p.2 with
          | some f,some x=>match P.info? f.type with | some j=>some (f.offset,j.size,x) | none=>none
          | _,_=>none) ps.toList with
        | some cs,some ps=>if fs.all fun f=>(P.info? f.type).isSome then some (if frzOf H o=true then .buildF cs ps else .build cs ps) else none
        | _,_=>none
      | none=>none
    | some i,some (.array _ e)=>match i.zero,P.info? e with
      | some z,some j=>match allSome constC z.cells.toList,allSome (fun p:Nat×Operand=>(compX p.2).map fun x=>(p.1*j.size,j.size,x)) ps.toList with
        | some cs,some ps=>some (.build cs ps)
        | _,_=>none
      | _,_=>none
    | _,_=>none
  | .buildSlice t n ps=>match slTy P t with
    | some (_,s,_,z)=>match allSome (fun p:Nat×Operand=>(compX p.2).map fun x=>(p.1,x)) ps.toList with
      | some ps=>if n*s≤2^24 then if frzOf H o=true∧0<n then some (.bldFz n s z ps) else some (.bldSl (ownOf H o) n s z ps) else none
      | none=>none
    | none=>none
  | .load t x=>match tyKd P t,compX x with | some kd,some x=>some (match lxOf H o with | some l=>.loadX kd x (l.map SX.t) | none=>if bxOf H o=true then .loadB kd x else .load kd x) | _,_=>none
  | .store t x y=>match tyKd P t,compX x,compX y with | some kd,some x,some y=>if o.dst=none then some (.store kd x y) else none | _,_,_=>none
  | .binOp op t x y _=>match P.underlying t,compX x,compX y with
    | some (.int _),some x,some y=>some (.bin op x y)
    | some .string,some x,some y=>some (.bin op x y)
    | some .bool,some x,some y=>match op with
      | .eql=>some (.eqB false x y)
      | .neq=>some (.eqB true x y)
      | _=>none
    | some (.struct _),some x,some y=>match eqTy P t,op with
      | some ks,.eql=>some (.eqA false ks x y)
      | some ks,.neq=>some (.eqA true ks x y)
      | _,_=>none
    | _,_,_=>none
  | .unOp op _ x=>(compX x).map (.un op)
  | .convert s d x=>match P.underlying s,P.underlying d,compX x with
    | some (.int _),some (.int k),some x=>some (.conv k x)
    | some (.slice e),some .string,some x=>match P.underlying e with | some (.int .u8)=>some (.b2s x) | _=>none
    | some .string,some (.slice e),some x=>match P.underlying e with | some (.int .u8)=>some (.s2b (ownOf H o) x) | _=>none
    | some (.slice e),some (.slice _),some x=>match P.underlying e with | some (.int .u8)=>if s=d then some (if frzOf H o=true then .markF x else .mark x) else none | _=>none
    | _,_,_=>none
  | .makeSlice t l c=>match slTy P t,compX l,compX c with
    | some (_,s,b,z),some l,some c=>if 0<s then some (.make (!frzOf H o) s b z l c) else none
    | _,_,_=>none
  | .slice t x lo hi mx=>match P.underlying t,compX x,compXo lo,compXo hi,compXo mx with
    | some (.slice _),some x,some lo,some hi,some mx=>match slTy P t with
      | some (_,s,_,_)=>if mx.isSome&&hi.isNone then none else some (.slice s x lo hi mx)
      | none=>none
    | some .string,some x,some lo,some hi,some none=>some (.sliceStr x lo hi)
    | some (.array n e),some x,some lo,some hi,some none=>match elTy P e with
      | some (s,_,_)=>if n≤16777216 then some (.sliceArr s n x lo hi) else none
      | none=>none
    | _,_,_,_,_=>none
  | .fieldAddr t x f=>match P.underlying t,compX x with
    | some (.struct fs),some x=>match fs[f]? with
      | some f=>match P.info? f.type with | some i=>if i.size≠0 then some (.fieldAddr f.offset x) else none | none=>none
      | none=>none
    | _,_=>none
  | .field t x f=>match P.underlying t,compX x with
    | some (.struct fs),some x=>match fs[f]? with
      | some f=>(tyKd P f.type).map fun kd=>.field f.offset kd x
      | none=>none
    | _,_=>none
  | .indexAddr t x i=>match P.underlying t,compX x,compX i with
    | some (.slice _),some x,some i=>match slTy P t with | some (_,s,_,_)=>some (.idxSl s x i) | none=>none
    | some (.array n e),some x,some i=>match elTy P e with | some (s,_,_)=>some (.idxPa s n x i) | none=>none
    | _,_,_=>none
  | .index t x i=>match P.underlying t,compX x,compX i with
    | some (.array n e),some x,some i=>match tyKd P e,elTy P e with | some kd,some (s,_,_)=>some (.idxArr s n kd x i) | _,_=>none
    | some .string,some x,some i=>some (.idxStr x i)
    | _,_,_=>none
  | .extract x i=>(compX x).map fun x=>.extract x i
  | .makeFunc (.func f) fs cs=>if fs=#[]∧isM H o=false then (allSome compX cs.toList).map (.clos f) else match allSome compX fs.toList,allSome compX cs.toList with | some xs,some ys=>some (.closM f xs ys) | _,_=>none
  | .nilCheck x=>(compX x).map .nilChk
  | .makeMap t r=>match mpTy P t,compXo r with | some (q,_),some r=>some (.mkMp q r) | _,_=>none
  | .lookup t x i co=>match mpTy P t,compX x,compX i with | some (q,z),some x,some i=>some (.mpGet q z co x i) | _,_,_=>none
  | .mapUpdate t x i y=>match mpTy P t,compX x,compX i,compX y with | some (q,_),some x,some i,some y=>if o.dst=none then some (.mpSet q x i y) else none | _,_,_,_=>none
  | .call c=>compCall P H o c
  | _=>none
end
theorem constC_ok {m:Mp} {S:Cells} {w:World} {v:Value} {c:C} (h:constC v=some c):RC m S w v c∧c.ids=[]∧v.cells=#[v]:=by
  unfold constC at h
  split at h <;> first | (cases h; done) | (cases h; refine⟨?_,rfl,rfl⟩)
  ·exact .int _ _
  ·exact .bool _
  ·exact .str _
  ·exact⟨none,rfl⟩
theorem constD_ok {S:Cells} {w:World} {v:Value} {x:D} (h:constD v=some x):Reads S w v x:=by
  unfold constD at h
  split at h <;> first | (cases h; done) | (cases h)
  ·exact .int _ _
  ·exact .bool _
  ·exact .str _
  ·exact .nil
theorem allSome_ok {α β:Type} {f:α→Option β} {R:α→β→Prop}:∀ {l:List α} {k:List β},(∀ x y,f x=some y→R x y)→allSome f l=some k→All2 R l k
  | [],k,_,h=>by simp[allSome] at h; subst h; exact .nil
  | x::r,k,hf,h=>by
    simp only[allSome] at h
    split at h
    ·rename_i y l h1 h2
     cases h
     exact .cons (hf _ _ h1) (allSome_ok hf h2)
    ·cases h
theorem constW_ok {m:Mp} {S:Cells} {w:World} {v:Value} {x:W} (h:constW v=some x):RW m S w v x∧x.ids=[]:=by
  unfold constW at h
  split at h
  ·rename_i cs
   simp only[Option.map_eq_some_iff] at h
   obtain⟨ds,h1,rfl⟩:=h
   exact⟨⟨cs.toList,by simp,allSome_ok (fun _ _=>constD_ok) h1⟩,rfl⟩
  ·simp only[Option.map_eq_some_iff] at h
   obtain⟨c,h1,rfl⟩:=h
   have:=constC_ok (m:=m) (S:=S) (w:=w) h1
   refine⟨?_,this.2.1⟩
   unfold RW
   split
   ·rename_i hc; cases hc; exact absurd this.1 (by intro h; cases h)
   ·rename_i hc; cases hc; exact this.1
   ·rename_i hc; cases hc
theorem RC.rpra {m m':Mp} {S:Cells} {w:World} {v:Value} {c:C} (h:RC m S w v c) (hc:c.isR=true):RW m' S w v (.c c)∧c.ids=[]:=by
  cases c <;> first | (simp[C.isR] at hc; done) | exact⟨h,rfl⟩
section
variable {G:Glob} {N:Nat} {Sin:Cells} {w0:Gh} {σ:St} {a:Act} {w:World} {S:Cells} {m:Mp}
theorem Inv.operand (h:Inv G N Sin w0 σ a w S m) {x:Operand} {y:SX} (hx:compX x=some y):RV m S w (a.eval x) (ev G σ.f y)∧∀ i∈(ev G σ.f y).ids,σ.u i=true:=by
  unfold compX at hx
  split at hx
  ·cases hx; exact⟨h.slot _,h.used _⟩
  ·rename_i v
   split at hx
   ·rename_i x h1
    cases hx
    have:=constW_ok (m:=m) (S:=S) (w:=w) h1
    refine⟨this.1,fun i hi=>?_⟩
    have hi':i∈x.ids:=hi
    rw[this.2] at hi'
    cases hi'
   ·cases hx
    exact⟨trivial,fun i hi=>by cases hi⟩
  ·rename_i g
   cases hx
   show RV m S w (.pointer (some ⟨g,0,none⟩)) (match G.at g with | some c=>.w (.c c) | none=>.undef)∧_
   cases hg:G.at g with
   | none=>exact⟨trivial,fun i hi=>by simp[ev,hg,V.ids] at hi⟩
   | some c =>
     unfold Glob.at at hg
     simp only[Option.map_eq_some_iff] at hg
     obtain⟨p,hp,rfl⟩:=hg
     have hm:=List.mem_of_find?_eq_some hp
     have he:p.1=g:=by simpa using List.find?_some hp
     have hk:=h.glob p hm
     have h2:=hk.1.rpra (m':=m) hk.2.1
     rw[he] at h2
     refine⟨h2.1,fun i hi=>?_⟩
     simp only[ev,Glob.at,hp,Option.map_some,V.ids,W.ids,h2.2] at hi
     cases hi
  ·rename_i f
   cases hx
   exact⟨Reads.fn f [] [] (fun _=>.bool false) rfl (fun j hj=>by cases hj) (fun j hj=>by cases hj),fun i hi=>by cases hi⟩
end
end Go.Proofs.YtbkhllchjbjhgaaGreatDoor
