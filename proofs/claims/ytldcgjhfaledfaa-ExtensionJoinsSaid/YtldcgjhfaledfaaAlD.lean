/- The plain logic (4): what ties the data to the memory, and that each change keeps it. Own work. -/
import Derived.Test.YtldcgjhfaledfaaAlC
set_option linter.unusedVariables false
set_option linter.unusedSimpArgs false
namespace Go.Proofs.Ytldcgjhfaledfaa
open Go.RowKit

/-- Where a function's body, or a round of a range over a function, began: the function's world; the round's, and what was read there; the slots that nothing writes. -/
structure Gh extends World where
  wo : World
  so : Cells
  fx : Nat → Option Value
  ext : Nat → Prop
/-- What may be written: what is new, and the caller's variables that were handed over. -/
def Gh.may (w0 : Gh) (b : Nat) : Prop := w0.heap.size ≤ b ∨ w0.ext b
instance : CoeOut Gh World := ⟨Gh.toWorld⟩
def Gh.of (w : World) : Gh := { w with wo := w, so := fun _ _ => False, fx := fun _ => none, ext := fun _ => False }
/-- The marks of the loops over functions that have run. -/
def DefOk (B : Nat) (w : World) : List Deferred → Prop
  | [] => True
  | d :: ds => (∃ D, d = { target := .collected D, args := #[] } ∧ B ≤ D ∧ w.heap[D]? = some (.deferred (some [])) ∧ ∀ d' ∈ ds, d'.target ≠ .collected D) ∧ DefOk B w ds
theorem DefOk.keep {B : Nat} {w w' : World} (k : KeepsOthers w w') : ∀ {ds : List Deferred}, DefOk B w ds → DefOk B w' ds
  | [], _ => trivial
  | _ :: _, ⟨⟨D, h1, h2, h3, h4⟩, h5⟩ => ⟨⟨D, h1, h2, k.same _ _ h3 rfl, h4⟩, h5.keep k⟩
theorem keepsO_heap {w w' : World} (hb : ∀ b, b < w.heap.size → w'.heap[b]? = w.heap[b]?) (hsz : w.heap.size ≤ w'.heap.size) : KeepsOthers w w' :=
  ⟨hsz, fun k o hk _ => (hb k (Array.getElem?_eq_some_iff.1 hk).1).trans hk⟩
theorem keepsO_block {w w' : World} {b : Nat} {cur : Array Value} {ty : TypeId} {fz : Nat × Nat} (hc : w.heap[b]? = some (.cells cur ty fz)) (hother : ∀ k, k ≠ b → w'.heap[k]? = w.heap[k]?) (hsize : w'.heap.size = w.heap.size) : KeepsOthers w w' :=
  ⟨Nat.le_of_eq hsize.symm, fun k o hk ho => by
    by_cases e : k = b
    · subst e; rw [hc] at hk; cases hk; cases ho
    · rw [hother k e]; exact hk⟩
structure Inv (G : Glob) (N : Nat) (Sin : Cells) (w0 : Gh) (σ : St) (a : Act) (w : World) (S : Cells) (m : Mp) : Prop where
  size : a.tmps.size = N
  defers : DefOk w0.heap.size w a.defers
  slot : ∀ t, RV m S w (a.tmps.getD t undef) (σ.f t)
  used : ∀ t, ∀ i ∈ (σ.f t).ids, σ.u i = true
  obj : ∀ id o, σ.h id = some o → ObjOk m S w0.may w id o ∧ σ.u id = true ∧ ∀ j ∈ o.ids, σ.u j = true
  inj : ∀ i j b s s', σ.h i ≠ none → σ.h j ≠ none → m i = some (b, s) → m j = some (b, s') → i = j
  sin : ∀ b i, S b i → b < w.heap.size ∧ (Sin b i ∨ w0.may b)
  sub : ∀ b i, Sin b i → S b i
  glob : GlobOk G S w
  below : Bel w0.heap.size w0.ext w0 w
  oth : KeepsOthers w0.wo w
  kso : Keeps w0.so w0.wo w
  sso : ∀ b i, w0.so b i → S b i
  fix : ∀ t v, w0.fx t = some v → a.tmps.getD t undef = v

theorem OwnV.congr {m m' : Mp} {w : World} {v : Value} {id sz off n : Nat} (h : OwnV m w v id sz off n) (e : m' id = m id) : OwnV m' w v id sz off n := by
  unfold OwnV at *; rw [e]; exact h
theorem RCp.congr {m m' : Mp} {S : Cells} {w : World} {v : Value} {x : Cp} (h : RCp m S w v x) (e : ∀ i ∈ x.ids, m' i = m i) : RCp m' S w v x := by
  cases x with
  | d x => exact h
  | p id sz i o =>
    obtain ⟨b, h1, h2⟩ := h
    exact ⟨b, by rw [e id (by simp [Cp.ids])]; exact h1, h2⟩
theorem RC.congr {m m' : Mp} {S : Cells} {w : World} {v : Value} {x : C} (h : RC m S w v x) (e : ∀ i ∈ x.ids, m' i = m i) : RC m' S w v x := by
  cases x <;> simp only [RC, C.ids] at *
  · exact h
  · exact h
  · exact h.congr (e _ (by simp))
  · rw [e _ (by simp)]; exact h
  · rw [e _ (by simp)]; exact h
  · exact h
  · exact h
  · obtain ⟨us, vs, h1, h2, h3⟩ := h
    exact ⟨us, vs, h1, h2.weak fun _ c _ hc h => h.congr fun i hi => e i (List.mem_append_left _ (List.mem_flatMap.2 ⟨c, hc, hi⟩)), h3.weak fun _ c _ hc h => h.congr fun i hi => e i (List.mem_append_right _ (List.mem_flatMap.2 ⟨c, hc, hi⟩))⟩
theorem All2.congrC {m m' : Mp} {S : Cells} {w : World} {us : List Value} {cs : List C} (h : All2 (RC m S w) us cs) (e : ∀ i ∈ cs.flatMap C.ids, m' i = m i) : All2 (RC m' S w) us cs :=
  h.weak fun _ c _ hc h => h.congr fun i hi => e i (List.mem_flatMap.2 ⟨c, hc, hi⟩)
theorem RW.congr {m m' : Mp} {S : Cells} {w : World} {v : Value} {x : W} (h : RW m S w v x) (e : ∀ i ∈ x.ids, m' i = m i) : RW m' S w v x := by
  unfold RW at *
  split at h
  · exact h
  · exact RC.congr h e
  · obtain ⟨us, h1, h2⟩ := h; exact ⟨us, h1, h2.congrC e⟩
theorem RV.congr {m m' : Mp} {S : Cells} {w : World} {v : Value} {x : V} (h : RV m S w v x) (e : ∀ i ∈ x.ids, m' i = m i) : RV m' S w v x := by
  cases x with
  | w x => exact RW.congr h e
  | tup ws =>
    obtain ⟨us, h1, h2⟩ := h
    exact ⟨us, h1, h2.weak fun _ c _ hc h => h.congr fun i hi => e i (List.mem_flatMap.2 ⟨c, hc, hi⟩)⟩
  | undef => trivial
theorem CellsOk.step {m m' : Mp} {S S' : Cells} {w w' : World} {sz : Nat} {cur : Array Value} {o : Ob} (h : CellsOk m S w sz cur o) (k : Keeps S w w') (hS : ∀ b i, S b i → S' b i) (e : ∀ i ∈ o.ids, m' i = m i) : CellsOk m' S' w' sz cur o := by
  cases o with
  | row s es =>
    refine ⟨h.1, fun i hi => ⟨(h.2 i hi).1, fun j hj => ?_⟩⟩
    obtain ⟨v, h1, h2⟩ := (h.2 i hi).2 j hj
    exact ⟨v, h1, (h2.keep k).mono hS⟩
  | box cs =>
    refine ⟨h.1, fun j hj => ?_⟩
    obtain ⟨v, h1, h2⟩ := h.2 j hj
    refine ⟨v, h1, ((h2.keep k).mono hS).congr fun i hi => e i ?_⟩
    exact List.mem_flatMap.2 ⟨cs[j], List.getElem_mem hj, hi⟩
theorem ObjOk.step {m m' : Mp} {S S' : Cells} {B : Nat → Prop} {w w' : World} {id : Nat} {o : Ob} (h : ObjOk m S B w id o) (k : Keeps S w w') (hS : ∀ b i, S b i → S' b i) (e : ∀ i ∈ o.ids, m' i = m i) (e0 : m' id = m id)
    (hb : ∀ b s, m id = some (b, s) → w'.heap[b]? = w.heap[b]? ∧ ∀ i, ¬ S' b i) : ObjOk m' S' B w' id o := by
  unfold ObjOk at *
  rw [e0]
  split at h
  · exact h
  · rename_i b s hm
    obtain ⟨h1, h2, h3, cur, ty, fz, h4, h5, h6⟩ := h
    obtain ⟨g1, g2⟩ := hb b s hm
    exact ⟨h1, h2, g2, cur, ty, fz, g1.trans h4, h5, h6.step k hS e⟩
theorem ObjOk.lt {m : Mp} {S : Cells} {B : Nat → Prop} {w : World} {id : Nat} {o : Ob} (h : ObjOk m S B w id o) {b s : Nat} (hm : m id = some (b, s)) : b < w.heap.size := by
  unfold ObjOk at h
  rw [hm] at h
  obtain ⟨_, _, _, cur, ty, fz, h4, _⟩ := h
  rcases Nat.lt_or_ge b w.heap.size with hlt | hge
  · exact hlt
  · rw [Array.getElem?_eq_none hge] at h4; cases h4
theorem ObjOk.apart {m : Mp} {S : Cells} {B : Nat → Prop} {w : World} {id : Nat} {o : Ob} (h : ObjOk m S B w id o) {b s : Nat} (hm : m id = some (b, s)) : ∀ i, ¬ S b i := by
  unfold ObjOk at h
  rw [hm] at h
  exact h.2.2.1

theorem GlobOk.step {G : Glob} {S S' : Cells} {w w' : World} (h : GlobOk G S w) (k : Keeps S w w') (hS : ∀ b i, S b i → S' b i) : GlobOk G S' w' :=
  fun p hp => ⟨((h p hp).1.keep k).mono hS, (h p hp).2.1, fun es he h1 => by obtain ⟨ty, h2⟩ := (h p hp).2.2 es he h1; exact ⟨ty, k.shape _ _ h2⟩⟩

theorem getD_put {a : Act} {d : Option Tmp} {v : Value} {t : Nat} : (a.put d v).tmps.getD t undef = if d = some t ∧ t < a.tmps.size then v else a.tmps.getD t undef := by
  cases d with
  | none => simp [Act.put]
  | some i =>
    simp only [Act.put, Option.some.injEq]
    by_cases h : i = t
    · subst h
      by_cases h2 : i < a.tmps.size
      · simp [h2]
      · simp [h2]
    · simp only [h, false_and, if_false]
      simp [Array.getElem?_setIfInBounds_ne h]
theorem size_put (a : Act) (d : Option Tmp) (v : Value) : (a.put d v).tmps.size = a.tmps.size := by cases d <;> simp [Act.put]
theorem defers_put (a : Act) (d : Option Tmp) (v : Value) : (a.put d v).defers = a.defers := by cases d <;> rfl

section
variable {G : Glob} {N : Nat} {Sin : Cells} {w0 : Gh} {σ : St} {a : Act} {w : World} {S : Cells} {m : Mp}
/-- A value goes into a slot. -/
theorem Inv.put (h : Inv G N Sin w0 σ a w S m) (d : Option Nat) (hd : ∀ t, d = some t → t < N ∧ w0.fx t = none) {v : Value} {x : V} (hv : RV m S w v x) (hx : ∀ i ∈ x.ids, σ.u i = true) :
    Inv G N Sin w0 ⟨updO σ.f d x, σ.h, σ.u⟩ (a.put d v) w S m := by
  refine ⟨by rw [size_put]; exact h.size, by rw [defers_put]; exact h.defers, fun t => ?_, fun t i hi => ?_, h.obj, h.inj, h.sin, h.sub, h.glob, h.below, h.oth, h.kso, h.sso, fun t v ht => ?_⟩
  · rw [getD_put]
    by_cases e : d = some t
    · subst e
      rw [if_pos ⟨rfl, by rw [h.size]; exact (hd t rfl).1⟩]
      simp only [updO, upd, if_true]
      exact hv
    · rw [if_neg (fun k => e k.1)]
      have : updO σ.f d x t = σ.f t := by
        cases d with
        | none => rfl
        | some i => simp only [updO, upd]; rw [if_neg (fun k => e (by rw [k]))]
      show RV m S w _ (updO σ.f d x t)
      rw [this]; exact h.slot t
  · show σ.u i = true
    have hi' : i ∈ (updO σ.f d x t).ids := hi
    cases d with
    | none => exact h.used t i hi'
    | some k =>
      simp only [updO, upd] at hi'
      split at hi'
      · exact hx i hi'
      · exact h.used t i hi'
  · rw [getD_put, if_neg (fun k => by have := (hd t k.1).2; rw [ht] at this; cases this)]
    exact h.fix t v ht
/-- The memory changes, and with it what is known of it. -/
theorem Inv.move (h : Inv G N Sin w0 σ a w S m) {w' : World} {S' : Cells} {m' : Mp} {h' : Heap} {u' : Nat → Bool} (k : Keeps S w w') (ko : KeepsOthers w w') (hS : ∀ b i, S b i → S' b i) (hm : ∀ i, σ.u i = true → m' i = m i) (hu : ∀ i, σ.u i = true → u' i = true)
    (obj : ∀ id o, h' id = some o → ObjOk m' S' w0.may w' id o ∧ u' id = true ∧ ∀ j ∈ o.ids, u' j = true)
    (inj : ∀ i j b s s', h' i ≠ none → h' j ≠ none → m' i = some (b, s) → m' j = some (b, s') → i = j)
    (sin : ∀ b i, S' b i → b < w'.heap.size ∧ (Sin b i ∨ w0.may b)) (below : Bel w0.heap.size w0.ext w0 w') :
    Inv G N Sin w0 ⟨σ.f, h', u'⟩ a w' S' m' :=
  ⟨h.size, h.defers.keep ko, fun t => (((h.slot t).keep k).mono hS).congr fun i hi => hm i (h.used t i hi), fun t i hi => hu i (h.used t i hi), obj, inj, sin, fun b i hi => hS b i (h.sub b i hi), h.glob.step k hS, below, h.oth.trans ko, h.kso.trans ⟨fun b i v hs hv => k.cell b i v (h.sso b i hs) hv, k.shape⟩, fun b i hs => hS b i (h.sso b i hs), h.fix⟩
theorem Inv.bsize (h : Inv G N Sin w0 σ a w S m) : w0.heap.size ≤ w.heap.size := h.below.size

/-- Nothing changes but what lies beyond all that is known. -/
theorem keeps_of_heap {w w' : World} {S : Cells} (hS : ∀ b i, S b i → b < w.heap.size) (h : ∀ b, b < w.heap.size → w'.heap[b]? = w.heap[b]?) : Keeps S w w' := by
  refine ⟨fun b i v hs hv => ?_, fun b s hs => ?_⟩
  · unfold World.cell? at *; rw [h b (hS b i hs)]; exact hv
  · have hb : b < w.heap.size := by
      unfold World.shape? at hs
      rcases Nat.lt_or_ge b w.heap.size with hlt | hge
      · exact hlt
      · rw [Array.getElem?_eq_none hge] at hs; cases hs
    unfold World.shape? at *; rw [h b hb]; exact hs
theorem Inv.grow (h : Inv G N Sin w0 σ a w S m) {w' : World} (hb : ∀ b, b < w.heap.size → w'.heap[b]? = w.heap[b]?) (below : Bel w0.heap.size w0.ext w0 w') (hsz : w.heap.size ≤ w'.heap.size) : Inv G N Sin w0 σ a w' S m := by
  have k : Keeps S w w' := keeps_of_heap (fun b i hs => (h.sin b i hs).1) hb
  have := h.move (h' := σ.h) (u' := σ.u) (S' := S) (m' := m) k (keepsO_heap hb hsz) (fun _ _ h => h) (fun _ _ => rfl) (fun _ h => h)
    (fun id o ho => ⟨(h.obj id o ho).1.step k (fun _ _ h => h) (fun _ _ => rfl) rfl fun b s hm => ⟨hb b ((h.obj id o ho).1.lt hm), (h.obj id o ho).1.apart hm⟩, (h.obj id o ho).2⟩)
    h.inj (fun b i hs => ⟨Nat.lt_of_lt_of_le (h.sin b i hs).1 hsz, (h.sin b i hs).2⟩) below
  exact this
theorem Inv.drew (h : Inv G N Sin w0 σ a w S m) : Inv G N Sin w0 σ a w.drew S m :=
  h.grow (fun _ _ => rfl) (h.below.step (Nat.le_refl _) (Below.refl _ w).drew) (Nat.le_refl _)
/-- A new block that is only read. -/
theorem Inv.newRo (h : Inv G N Sin w0 σ a w S m) (o : Obj) : Inv G N Sin w0 σ a (w.alloc o) (fun b i => S b i ∨ b = w.heap.size) m := by
  have hb : ∀ b, b < w.heap.size → (w.alloc o).heap[b]? = w.heap[b]? := fun b hlt => Below.heap_alloc w o b hlt
  have k : Keeps S w (w.alloc o) := keeps_of_heap (fun b i hs => (h.sin b i hs).1) hb
  refine h.move k (KeepsOthers.alloc w o) (fun _ _ h => .inl h) (fun _ _ => rfl) (fun _ h => h) (fun id ob ho => ?_) h.inj (fun b i hs => ?_) (h.below.step (Nat.le_refl _) ((Below.refl _ w).alloc (Nat.le_refl _) o))
  · refine ⟨(h.obj id ob ho).1.step k (fun _ _ h => .inl h) (fun _ _ => rfl) rfl fun b s hm => ?_, (h.obj id ob ho).2⟩
    have hlt := (h.obj id ob ho).1.lt hm
    exact ⟨hb b hlt, fun i hi => hi.elim ((h.obj id ob ho).1.apart hm i) (fun e => by omega)⟩
  · rcases hs with hs | rfl
    · exact ⟨by have := (h.sin b i hs).1; simp; omega, (h.sin b i hs).2⟩
    · exact ⟨by simp, .inr (.inl h.bsize)⟩
/-- A new variable in a new block. -/
theorem Inv.newOb (h : Inv G N Sin w0 σ a w S m) {id sz : Nat} {ob : Ob} {cur : Array Value} {ty : TypeId} {fz : Nat × Nat} (hu : σ.u id = false) (hsz : ob.sz = sz) (hfz : Thawed cur fz) (hc : CellsOk m S w sz cur ob) (hids : ∀ j ∈ ob.ids, σ.u j = true) :
    Inv G N Sin w0 ⟨σ.f, upd σ.h id (some ob), upd σ.u id true⟩ a (w.alloc (.cells cur ty fz)) S (upd m id (some (w.heap.size, sz))) := by
  have hb : ∀ b, b < w.heap.size → (w.alloc (.cells cur ty fz)).heap[b]? = w.heap[b]? := fun b hlt => Below.heap_alloc w _ b hlt
  have k : Keeps S w (w.alloc (.cells cur ty fz)) := keeps_of_heap (fun b i hs => (h.sin b i hs).1) hb
  have hm : ∀ i, σ.u i = true → upd m id (some (w.heap.size, sz)) i = m i := fun i hi => by
    unfold upd; rw [if_neg (fun e => by rw [e, hu] at hi; cases hi)]
  have huu : ∀ i, σ.u i = true → upd σ.u id true i = true := fun i hi => by unfold upd; split <;> simp_all
  refine h.move k (KeepsOthers.alloc w _) (fun _ _ h => h) hm huu (fun i o ho => ?_) (fun i j b s s' h1 h2 h3 h4 => ?_) (fun b i hs => ⟨by have := (h.sin b i hs).1; simp; omega, (h.sin b i hs).2⟩) (h.below.step (Nat.le_refl _) ((Below.refl _ w).alloc (Nat.le_refl _) _))
  · by_cases e : i = id
    · subst e
      simp only [upd, if_true, Option.some.injEq] at ho
      subst ho
      refine ⟨?_, by simp [upd], fun j hj => huu j (hids j hj)⟩
      unfold ObjOk
      simp only [upd, if_true]
      exact ⟨hsz, .inl h.bsize, fun q hq => by have := (h.sin _ q hq).1; omega, cur, ty, fz, heap_alloc_new w _, hfz, hc.step k (fun _ _ h => h) fun j hj => hm j (hids j hj)⟩
    · simp only [upd, e, if_false] at ho
      have ho' := h.obj i o ho
      refine ⟨ho'.1.step k (fun _ _ h => h) (fun j hj => hm j (ho'.2.2 j hj)) (hm i ho'.2.1) fun b s hb' => ⟨hb b (ho'.1.lt hb'), ho'.1.apart hb'⟩, huu i ho'.2.1, fun j hj => huu j (ho'.2.2 j hj)⟩
  · have live : ∀ i b s, upd σ.h id (some ob) i ≠ none → upd m id (some (w.heap.size, sz)) i = some (b, s) → i ≠ id → σ.h i ≠ none ∧ m i = some (b, s) ∧ b < w.heap.size := by
      intro i b s g1 g2 e
      simp only [upd, e, if_false] at g1 g2
      obtain ⟨o, ho⟩ := Option.ne_none_iff_exists'.1 g1
      exact ⟨g1, g2, (h.obj i o ho).1.lt g2⟩
    by_cases e1 : i = id
    · by_cases e2 : j = id
      · rw [e1, e2]
      · have := live j b s' h2 h4 e2
        subst e1
        simp only [upd, if_true, Option.some.injEq, Prod.mk.injEq] at h3
        omega
    · have l1 := live i b s h1 h3 e1
      by_cases e2 : j = id
      · subst e2
        simp only [upd, if_true, Option.some.injEq, Prod.mk.injEq] at h4
        omega
      · have l2 := live j b s' h2 h4 e2
        exact h.inj i j b s s' l1.1 l2.1 l1.2.1 l2.2.1
/-- A new variable that has no block: a nil slice. -/
theorem Inv.newNil (h : Inv G N Sin w0 σ a w S m) {id sz : Nat} (hu : σ.u id = false) :
    Inv G N Sin w0 ⟨σ.f, upd σ.h id (some (.row sz [])), upd σ.u id true⟩ a w S (upd m id none) := by
  have hm : ∀ i, σ.u i = true → upd m id none i = m i := fun i hi => by
    unfold upd; rw [if_neg (fun e => by rw [e, hu] at hi; cases hi)]
  have huu : ∀ i, σ.u i = true → upd σ.u id true i = true := fun i hi => by unfold upd; split <;> simp_all
  refine h.move (Keeps.refl _ _) (KeepsOthers.refl _) (fun _ _ h => h) hm huu (fun i o ho => ?_) (fun i j b s s' h1 h2 h3 h4 => ?_) h.sin h.below
  · by_cases e : i = id
    · subst e
      simp only [upd, if_true, Option.some.injEq] at ho
      subst ho
      refine ⟨?_, by simp [upd], fun j hj => by simp [Ob.ids] at hj⟩
      unfold ObjOk
      simp only [upd, if_true]
      exact ⟨_, rfl⟩
    · simp only [upd, e, if_false] at ho
      have ho' := h.obj i o ho
      exact ⟨ho'.1.step (Keeps.refl _ _) (fun _ _ h => h) (fun j hj => hm j (ho'.2.2 j hj)) (hm i ho'.2.1) fun b s hb' => ⟨rfl, ho'.1.apart hb'⟩, huu i ho'.2.1, fun j hj => huu j (ho'.2.2 j hj)⟩
  · have ne : ∀ i b s, upd m id none i = some (b, s) → i ≠ id := fun i b s g e => by rw [e] at g; simp [upd] at g
    have e1 := ne i b s h3
    have e2 := ne j b s' h4
    simp only [upd, e1, e2, if_false] at h1 h2 h3 h4
    exact h.inj i j b s s' h1 h2 h3 h4
/-- A variable is forgotten. -/
theorem Inv.kill (h : Inv G N Sin w0 σ a w S m) (id : Nat) : Inv G N Sin w0 ⟨σ.f, upd σ.h id none, σ.u⟩ a w S m := by
  have sub : ∀ i o, upd σ.h id none i = some o → σ.h i = some o := fun i o hi => by
    unfold upd at hi; split at hi
    · cases hi
    · exact hi
  refine ⟨h.size, h.defers, h.slot, h.used, fun i o ho => h.obj i o (sub i o ho), fun i j b s s' h1 h2 h3 h4 => ?_, h.sin, h.sub, h.glob, h.below, h.oth, h.kso, h.sso, h.fix⟩
  refine h.inj i j b s s' ?_ ?_ h3 h4
  · obtain ⟨o, ho⟩ := Option.ne_none_iff_exists'.1 h1; rw [sub i o ho]; simp
  · obtain ⟨o, ho⟩ := Option.ne_none_iff_exists'.1 h2; rw [sub j o ho]; simp
/-- Its cells, as data, are from now on only read. -/
theorem Inv.freeze (h : Inv G N Sin w0 σ a w S m) (id : Nat) (o : Ob) (ho : σ.h id = some o) :
    Inv G N Sin w0 ⟨σ.f, upd σ.h id none, σ.u⟩ a w (fun b i => S b i ∨ ∃ s, m id = some (b, s)) m := by
  have hk := h.kill id
  have hS : ∀ b i, S b i → S b i ∨ ∃ s, m id = some (b, s) := fun _ _ h => .inl h
  refine hk.move (Keeps.refl _ _) (KeepsOthers.refl _) hS (fun _ _ => rfl) (fun _ h => h) (fun i ob hi => ?_) hk.inj (fun b i hs => ?_) h.below
  · have h1 := hk.obj i ob hi
    refine ⟨h1.1.step (Keeps.refl _ _) hS (fun _ _ => rfl) rfl fun b s hb => ⟨rfl, fun q hq => ?_⟩, h1.2⟩
    rcases hq with hq | ⟨s', hs'⟩
    · exact h1.1.apart hb q hq
    · have hne : i ≠ id := fun e => by subst e; simp [upd] at hi
      have hi' : σ.h i = some ob := by simpa [upd, hne] using hi
      exact hne (h.inj i id b s s' (by rw [hi']; simp) (by rw [ho]; simp) hb hs')
  · rcases hs with hs | ⟨s, hs⟩
    · exact h.sin b i hs
    · refine ⟨(h.obj id o ho).1.lt hs, .inr ?_⟩
      have := (h.obj id o ho).1
      unfold ObjOk at this
      rw [hs] at this
      exact this.2.1
/-- A variable's cells are written. -/
theorem Inv.write (h : Inv G N Sin w0 σ a w S m) {id b sz : Nat} {o o' : Ob} {cur cur' : Array Value} {ty : TypeId} {fz : Nat × Nat} {w' : World} (ho : σ.h id = some o) (hm : m id = some (b, sz)) (hsz : o'.sz = sz)
    (hcur : w.heap[b]? = some (.cells cur ty fz)) (hcur' : w'.heap[b]? = some (.cells cur' ty fz)) (hlen : cur'.size = cur.size)
    (hother : ∀ k, k ≠ b → w'.heap[k]? = w.heap[k]?) (hc : CellsOk m S w sz cur' o') (hids : ∀ j ∈ o'.ids, σ.u j = true) (below : Bel w0.heap.size w0.ext w0 w') (hsize : w'.heap.size = w.heap.size) :
    Inv G N Sin w0 ⟨σ.f, upd σ.h id (some o'), σ.u⟩ a w' S m := by
  have hob := (h.obj id o ho).1
  have hap := hob.apart hm
  unfold ObjOk at hob
  rw [hm] at hob
  obtain ⟨g1, g2, g3, cur0, ty0, fz0, g4, g5, g6⟩ := hob
  rw [hcur] at g4
  obtain ⟨rfl, rfl, rfl⟩ : cur = cur0 ∧ ty = ty0 ∧ fz = fz0 := by simpa using g4
  have k : Keeps S w w' := by
    refine ⟨fun x i v hs hv => ?_, fun x s hs => ?_⟩
    · have hx : x ≠ b := fun e => hap i (e ▸ hs)
      unfold World.cell? at *; rw [hother x hx]; exact hv
    · by_cases hx : x = b
      · subst hx
        unfold World.shape? at *
        rw [hcur] at hs
        rw [hcur', ← hs]
        simp [hlen]
      · unfold World.shape? at *; rw [hother x hx]; exact hs
  refine h.move k (keepsO_block hcur hother hsize) (fun _ _ h => h) (fun _ _ => rfl) (fun _ h => h) (fun i ob hi => ?_) (fun i j x s s' h1 h2 h3 h4 => ?_) (fun x i hs => by rw [hsize]; exact h.sin x i hs) below
  · by_cases e : i = id
    · subst e
      simp only [upd, if_true, Option.some.injEq] at hi
      subst hi
      refine ⟨?_, (h.obj i o ho).2.1, hids⟩
      unfold ObjOk
      rw [hm]
      exact ⟨hsz, g2, g3, cur', ty, fz, hcur', g5.of_size hlen, hc.step k (fun _ _ h => h) fun _ _ => rfl⟩
    · simp only [upd, e, if_false] at hi
      have h1 := h.obj i ob hi
      refine ⟨h1.1.step k (fun _ _ h => h) (fun _ _ => rfl) rfl fun x s hx => ⟨?_, h1.1.apart hx⟩, h1.2⟩
      refine hother x fun e' => e ?_
      subst e'
      exact h.inj i id x s sz (by rw [hi]; simp) (by rw [ho]; simp) hx hm
  · have live : ∀ i, upd σ.h id (some o') i ≠ none → σ.h i ≠ none := by
      intro i g
      unfold upd at g
      split at g
      · rename_i e; rw [e, ho]; simp
      · exact g
    exact h.inj i j x s s' (live i h1) (live j h2) h3 h4
/-- A variable's block is marked as a string's bytes: the cell behind its last one is frozen. -/
theorem Inv.mark (h : Inv G N Sin w0 σ a w S m) {id b sz : Nat} {o : Ob} {cur : Array Value} {ty : TypeId} {fz fz' : Nat × Nat} {w' : World} (ho : σ.h id = some o) (hm : m id = some (b, sz))
    (hcur : w.heap[b]? = some (.cells cur ty fz)) (hcur' : w'.heap[b]? = some (.cells cur ty fz')) (hth : Thawed cur fz')
    (hother : ∀ k, k ≠ b → w'.heap[k]? = w.heap[k]?) (below : Bel w0.heap.size w0.ext w0 w') (hsize : w'.heap.size = w.heap.size) :
    Inv G N Sin w0 σ a w' S m := by
  have hob := (h.obj id o ho).1
  have hap := hob.apart hm
  unfold ObjOk at hob
  rw [hm] at hob
  obtain ⟨g1, g2, g3, cur0, ty0, fz0, g4, g5, g6⟩ := hob
  rw [hcur] at g4
  obtain ⟨rfl, rfl, rfl⟩ : cur = cur0 ∧ ty = ty0 ∧ fz = fz0 := by simpa using g4
  have k : Keeps S w w' := by
    refine ⟨fun x i v hs hv => ?_, fun x s hs => ?_⟩
    · have hx : x ≠ b := fun e => hap i (e ▸ hs)
      unfold World.cell? at *; rw [hother x hx]; exact hv
    · by_cases hx : x = b
      · subst hx
        unfold World.shape? at *
        rw [hcur] at hs
        rw [hcur', ← hs]
      · unfold World.shape? at *; rw [hother x hx]; exact hs
  refine h.move k (keepsO_block hcur hother hsize) (fun _ _ h => h) (fun _ _ => rfl) (fun _ h => h) (fun i ob hi => ?_) (fun i j x s s' h1 h2 h3 h4 => h.inj i j x s s' h1 h2 h3 h4) (fun x i hs => by rw [hsize]; exact h.sin x i hs) below
  by_cases e : i = id
  · subst e
    rw [ho] at hi
    cases hi
    refine ⟨?_, (h.obj i o ho).2.1, (h.obj i o ho).2.2⟩
    unfold ObjOk
    rw [hm]
    exact ⟨g1, g2, g3, cur, ty, fz', hcur', hth, g6.step k (fun _ _ h => h) fun _ _ => rfl⟩
  · have h1 := h.obj i ob hi
    refine ⟨h1.1.step k (fun _ _ h => h) (fun _ _ => rfl) rfl fun x s hx => ⟨?_, h1.1.apart hx⟩, h1.2⟩
    refine hother x fun e' => e ?_
    subst e'
    exact h.inj i id x s sz (by rw [hi]; simp) (by rw [ho]; simp) hx hm
end
end Go.Proofs.Ytldcgjhfaledfaa
