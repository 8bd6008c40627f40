/- The plain logic (13): calls. Own work. -/
import Derived.Test.YtldcgjhfaledfaaAlL
set_option linter.unusedVariables false
set_option linter.unusedSimpArgs false
namespace Go.Proofs.Ytldcgjhfaledfaa
open Go.RowKit

section
variable {P : Program} {G : Glob} {N : Nat} {Sin : Cells} {w0 : Gh} {σ : St} {a : Act} {w : World} {S : Cells} {m : Mp} {o : Oper} {K : St → Prop} {Q : Exit → Act → World → Prop}

theorem toVs_ok (h : Inv G N Sin w0 σ a w S m) : ∀ {xs : List Operand} {ys : List SX} {ds : List D}, allSome compX xs = some ys → toVs σ.h (ys.map (ev G σ.f)) = some ds → All2 (fun v x => RW (fun _ => none) (Shat σ.h m S) w v (.c (.d x))) (xs.map a.eval) ds
  | [], ys, ds, h1, h2 => by
    simp only [allSome, Option.some.injEq] at h1
    subst h1
    simp only [List.map_nil, toVs, Option.some.injEq] at h2
    subst h2
    exact .nil
  | x :: xs, ys, ds, h1, h2 => by
    simp only [allSome] at h1
    split at h1
    · rename_i y ys' hx hxs
      cases h1
      simp only [List.map_cons, toVs] at h2
      split at h2
      · rename_i d l h3 h4
        cases h2
        exact .cons (toV_ok h (h.operand hx).1 h3) (toVs_ok h hxs h4)
      · cases h2
    · cases h1
/-- Without rows of the function's own: by the cells that are only read. -/
theorem toVs_ok0 (h : Inv G N Sin w0 σ a w S m) : ∀ {xs : List Operand} {ys : List SX} {ds : List D}, allSome compX xs = some ys → toVs σ.h (ys.map (ev G σ.f)) = some ds → (ys.map (ev G σ.f)).any V.hasOwn = false → All2 (fun v x => RW (fun _ => none) S w v (.c (.d x))) (xs.map a.eval) ds
  | [], ys, ds, h1, h2, _ => by
    simp only [allSome, Option.some.injEq] at h1
    subst h1
    simp only [List.map_nil, toVs, Option.some.injEq] at h2
    subst h2
    exact .nil
  | x :: xs, ys, ds, h1, h2, h5 => by
    simp only [allSome] at h1
    split at h1
    · rename_i y ys' hx hxs
      cases h1
      simp only [List.map_cons, toVs] at h2
      simp only [List.map_cons, List.any_cons, Bool.or_eq_false_iff] at h5
      split at h2
      · rename_i d l h3 h4
        cases h2
        refine .cons ?_ (toVs_ok0 h hxs h4 h5.2)
        have hv := (h.operand hx).1
        unfold toV at h3
        split at h3
        · rename_i yw ey
          rw [ey] at hv h5
          refine toW_ok h (fun _ _ h => h) (fun id hid ob b s i ho hm => ?_) hv h3
          exfalso
          cases yw with
          | c c =>
            obtain ⟨sz, off, n, rfl⟩ := toD_own h3 id hid
            simp [V.hasOwn, C.isOwn] at h5
          | mix cs =>
            simp only [toW, Option.map_eq_some_iff] at h3
            obtain ⟨ds', he, _⟩ := h3
            obtain ⟨c, hc1, hc2⟩ := List.mem_flatMap.1 hid
            obtain ⟨sz, off, n, rfl⟩ := toDs_own he c hc1 id hc2
            have := h5.1
            simp only [V.hasOwn, List.any_eq_false] at this
            exact this _ hc1 rfl
        · cases h3
      · cases h2
    · cases h1

theorem RW.mono0 {S T : Cells} {v : Value} {x : D} (h : RW (fun _ => none) S w v (.c (.d x))) (hT : ∀ b i, S b i → T b i) : RW (fun _ => none) T w v (.c (.d x)) := by
  by_cases hc : ∃ cs, x = .agg cs
  · obtain ⟨cs, rfl⟩ := hc
    obtain ⟨us, h1, h2⟩ := h
    exact ⟨us, h1, h2.weak fun _ _ _ _ h => h.mono hT⟩
  · have h' : Reads S w v x := by
      unfold RW at h
      split at h
      · rename_i e1; cases e1; exact absurd ⟨_, rfl⟩ hc
      · rename_i e1; cases e1; exact h
      · rename_i e1; cases e1
    exact (h'.mono hT).rw
/-- With rows of the function's own in which no cell is a byte. -/
theorem toVs_okB (h : Inv G N Sin w0 σ a w S m) : ∀ {xs : List Operand} {ys : List SX} {ds : List D}, allSome compX xs = some ys → toVs σ.h (ys.map (ev G σ.f)) = some ds → noU8s (ys.map (ev G σ.f)) ds = true → All2 (fun v x => RW (fun _ => none) (Shot σ.h m S w) w v (.c (.d x))) (xs.map a.eval) ds
  | [], ys, ds, h1, h2, _ => by
    simp only [allSome, Option.some.injEq] at h1
    subst h1
    simp only [List.map_nil, toVs, Option.some.injEq] at h2
    subst h2
    exact .nil
  | x :: xs, ys, ds, h1, h2, h5 => by
    simp only [allSome] at h1
    split at h1
    · rename_i y ys' hx hxs
      cases h1
      simp only [List.map_cons, toVs] at h2
      split at h2
      · rename_i d l h3 h4
        cases h2
        simp only [List.map_cons, noU8s, Bool.and_eq_true, Bool.or_eq_true, Bool.not_eq_true'] at h5
        refine .cons ?_ (toVs_okB h hxs h4 h5.2)
        rcases h5.1 with h6 | h6
        · have h7 := toVs_ok0 h (xs := [x]) (ys := [y]) (ds := [d]) (by simp [allSome, hx]) (by simp [toVs, h3]) (by simp [h6])
          cases h7 with
          | cons h8 _ => exact h8.mono0 fun _ _ h => .inl h
        · exact toV_okB h (h.operand hx).1 h3 h6.1 h6.2
      · cases h2
    · cases h1

/-! ### What a call hands back -/
theorem Reads.flat {T T' : Cells} {v : Value} {x : D} (hx : x.flat = true) (h : Reads T w v x) : Reads T' w v x := by
  cases h with
  | int => exact .int _ _
  | bool => exact .bool _
  | str => exact .str _
  | nil => exact .nil
  | sl => simp [D.flat] at hx
  | ref => simp [D.flat] at hx
  | fn => simp [D.flat] at hx
theorem flatAgg {T T' : Cells} {us : List Value} {cs : List D} (hx : (D.agg cs).flat = true) (h : All2 (Reads T w) us cs) : All2 (Reads T' w) us cs := by
  refine h.weak fun u c _ hc hr => ?_
  simp only [D.flat, List.all_eq_true] at hx
  have := hx c hc
  cases hr with
  | int => exact .int _ _
  | bool => exact .bool _
  | str => exact .str _
  | nil => exact .nil
  | sl => simp at this
  | ref => simp at this
  | fn => simp at this
theorem freshRow_at {S' T : Cells} {w' : World} {B b sz cap : Nat} {es : List D} (h : FreshRow S' w' B b sz es) (hT : ∀ b i, S' b i → T b i) (hb : ∀ i, T b i) (hcap : es.length ≤ cap) (hmax : cap ≤ maxLen) : Reads T w' (.slice (some ⟨b, 0, none⟩) es.length cap) (.sl es) := by
  obtain ⟨_, _, cur, ty, fz, h1, _, h2, h3⟩ := h
  refine Reads.of_row (sz := sz) (fun i hi => ?_) hcap hmax
  obtain ⟨h4, h5⟩ := h3 i hi
  refine ⟨h4, fun j hj => ?_⟩
  obtain ⟨v, h6, h7⟩ := h5 j hj
  refine ⟨v, hb _, ?_, h7.mono hT⟩
  rw [cell_of_row w' b _ cur ty fz h1, Nat.zero_add]
  exact h6
/-- A cell that is only read by the caller. -/
theorem ro_cell {S' T : Cells} {w' : World} {B : Nat} {v : Value} {c : C} {bl : List Nat} (h : ResC S' w' B v c bl) (hT : ∀ b i, S' b i → T b i) (hb : ∀ b ∈ bl, ∀ i, T b i) : RC m T w' v c.ro ∧ c.ro.ids = [] := by
  cases c <;> simp only [ResC] at h <;> first | exact h.elim | skip
  · exact ⟨h.1.mono hT, rfl⟩
  · rename_i sz es
    refine ⟨?_, rfl⟩
    rcases h with ⟨⟨ad, rfl⟩, rfl, _⟩ | ⟨b, cap, ty, N', rfl, rfl, h1, h2, _, _, h3⟩
    · exact Reads.zero ad
    · exact freshRow_at h3 hT (hb b (by simp)) h1 h2
theorem ro_cells {S' T : Cells} {w' : World} {B : Nat} {us : List Value} {cs : List C} {bl : List Nat} (h : ResCs S' w' B us cs bl) (hT : ∀ b i, S' b i → T b i) (hb : ∀ b ∈ bl, ∀ i, T b i) : All2 (RC m T w') us (cs.map C.ro) ∧ (cs.map C.ro).flatMap C.ids = [] := by
  induction h with
  | nil => exact ⟨.nil, rfl⟩
  | cons h1 _ ih =>
    have h2 := ro_cell (m := m) h1 hT fun b hb' => hb b (List.mem_append_left _ hb')
    have h3 := ih fun b hb' => hb b (List.mem_append_right _ hb')
    exact ⟨.cons h2.1 h3.1, by rw [List.map_cons, List.flatMap_cons, h2.2, h3.2]; rfl⟩
theorem ro_ok {S' T : Cells} {w' : World} {B : Nat} {v : Value} {x : W} {bl : List Nat} (h : ResW S' w' B v x bl) (hT : ∀ b i, S' b i → T b i) (hb : ∀ b ∈ bl, ∀ i, T b i) : RW m T w' v x.ro ∧ x.ro.ids = [] := by
  unfold ResW at h
  split at h
  · rename_i cs
    obtain ⟨⟨us, h1, h2⟩, _⟩ := h
    exact ⟨⟨us, h1, h2.weak fun _ _ _ _ h => h.mono hT⟩, rfl⟩
  · rename_i c hc
    have := ro_cell (m := m) h hT hb
    exact ⟨RC.rw this.1, this.2⟩
  · rename_i cs
    obtain ⟨us, rfl, h2⟩ := h
    have h3 := ro_cells (m := m) h2 hT hb
    have h4 := mkAgg_ok h3.1
    refine ⟨h4.1, ?_⟩
    cases hids : (mkAgg (cs.map C.ro)).ids with
    | nil => exact hids
    | cons i r =>
      have := h4.2 i (by rw [hids]; simp)
      rw [h3.2] at this
      cases this
/-- Nothing is read but what is new: then what was read does not matter. -/
theorem freshRow_flat {S' : Cells} {w' : World} {B b sz : Nat} {es : List D} (h : FreshRow S' w' B b sz es) : FreshRow S' w' B b sz es := h
theorem resWs_get {S' : Cells} {w' : World} {B : Nat} {us : List Value} {ws : List W} {bl : List Nat} (h : ResWs S' w' B us ws bl) (hn : bl.Nodup) : ∀ (k : Nat) (y : W), ws[k]? = some y → ∃ u bk, us[k]? = some u ∧ ResW S' w' B u y bk ∧ (∀ b ∈ bk, b ∈ bl) ∧ ∀ (j : Nat), j ≠ k → ∀ (z : W), ws[j]? = some z → ∃ u' bj, us[j]? = some u' ∧ ResW S' w' B u' z bj ∧ (∀ b ∈ bj, b ∈ bl ∧ b ∉ bk) := by
  induction h with
  | nil => intro k y hy; simp at hy
  | cons h1 h2 ih =>
    rename_i v c b1 vs cs b2
    have hn2 := List.nodup_append.1 hn
    intro k y hy
    cases k with
    | zero =>
      simp only [List.getElem?_cons_zero, Option.some.injEq] at hy
      subst hy
      refine ⟨v, b1, rfl, h1, fun b hb => List.mem_append_left _ hb, fun j hj z hz => ?_⟩
      cases j with
      | zero => exact absurd rfl hj
      | succ j =>
        simp only [List.getElem?_cons_succ] at hz
        obtain ⟨u, bk, g1, g2, g3, _⟩ := ih hn2.2.1 j z hz
        exact ⟨u, bk, by simpa using g1, g2, fun b hb => ⟨List.mem_append_right _ (g3 b hb), fun hb1 => hn2.2.2 b hb1 b (g3 b hb) rfl⟩⟩
    | succ k =>
      simp only [List.getElem?_cons_succ] at hy
      obtain ⟨u, bk, g1, g2, g3, g4⟩ := ih hn2.2.1 k y hy
      refine ⟨u, bk, by simpa using g1, g2, fun b hb => List.mem_append_right _ (g3 b hb), fun j hj z hz => ?_⟩
      cases j with
      | zero =>
        simp only [List.getElem?_cons_zero, Option.some.injEq] at hz
        subst hz
        exact ⟨v, b1, rfl, h1, fun b hb => ⟨List.mem_append_left _ hb, fun hbk => hn2.2.2 b hb b (g3 b hbk) rfl⟩⟩
      | succ j =>
        simp only [List.getElem?_cons_succ] at hz
        obtain ⟨u', bj, q1, q2, q3⟩ := g4 j (by omega) z hz
        exact ⟨u', bj, by simpa using q1, q2, fun b hb => ⟨List.mem_append_right _ (q3 b hb).1, (q3 b hb).2⟩⟩
theorem resWs_len {S' : Cells} {w' : World} {B : Nat} {us : List Value} {ws : List W} {bl : List Nat} (h : ResWs S' w' B us ws bl) : us.length = ws.length := by
  induction h with
  | nil => rfl
  | cons _ _ ih => simp [ih]

/-- The callee's memory, as far as it is only read. -/
theorem Inv.callee (h : Inv G N Sin w0 σ a w S m) {w' : World} (hb : Below w.heap.size w w') (T : Cells) (hT : ∀ b i, T b i → w.heap.size ≤ b ∧ b < w'.heap.size) : Inv G N Sin w0 σ a w' (fun b i => S b i ∨ T b i) m := by
  have hg := h.grow (w' := w') (fun b hlt => hb.block b hlt) (h.below.step (Nat.le_refl _) hb) hb.size
  refine hg.move (Keeps.refl _ _) (KeepsOthers.refl _) (fun _ _ h => .inl h) (fun _ _ => rfl) (fun _ h => h) (fun id ob ho => ?_) hg.inj (fun b i hs => ?_) hg.below
  · have h1 := hg.obj id ob ho
    refine ⟨h1.1.step (Keeps.refl _ _) (fun _ _ h => .inl h) (fun _ _ => rfl) rfl fun b s hm => ⟨rfl, fun i hi => ?_⟩, h1.2⟩
    rcases hi with hi | hi
    · exact h1.1.apart hm i hi
    · have := (h.obj id ob ho).1.lt hm
      have := (hT b i hi).1
      omega
  · rcases hs with hs | hs
    · exact hg.sin b i hs
    · have := hT b i hs
      exact ⟨this.2, .inr (.inl (Nat.le_trans h.bsize this.1))⟩
/-- A row of the callee's becomes the function's own. -/
theorem Inv.adopt (h : Inv G N Sin w0 σ a w S m) {id b sz : Nat} {es : List D} (hu : σ.u id = false) {B : Nat} {S' : Cells} (hf : FreshRow S' w B b sz es) (hS : ∀ v x, Reads S' w v x → (∃ i j, ∃ h1 : i < es.length, ∃ h2 : j < es[i].cells.length, x = es[i].cells[j]) → Reads S w v x) (hB : w0.heap.size ≤ B) (hno : ∀ i, ¬ S b i) (hnew : ∀ id' ob b' s, σ.h id' = some ob → m id' = some (b', s) → b' ≠ b) :
    Inv G N Sin w0 ⟨σ.f, upd σ.h id (some (.row sz es)), upd σ.u id true⟩ a w S (upd m id (some (b, sz))) := by
  have hm : ∀ i, σ.u i = true → upd m id (some (b, sz)) i = m i := fun i hi => by
    unfold upd; rw [if_neg (fun e => by rw [e, hu] at hi; cases hi)]
  have huu : ∀ i, σ.u i = true → upd σ.u id true i = true := fun i hi => by unfold upd; split <;> simp_all
  obtain ⟨f1, f2, cur, ty, fz, f3, f4, f5, f6⟩ := hf
  refine h.move (Keeps.refl _ _) (KeepsOthers.refl _) (fun _ _ h => h) hm huu (fun i o ho => ?_) (fun i j b' s s' h1 h2 h3 h4 => ?_) h.sin h.below
  · by_cases e : i = id
    · subst e
      simp only [upd, if_true, Option.some.injEq] at ho
      subst ho
      refine ⟨?_, by simp [upd], fun j hj => by cases hj⟩
      unfold ObjOk
      simp only [upd, if_true]
      refine ⟨rfl, .inl (by omega), hno, cur, ty, fz, f3, f4, f5, fun i hi => ⟨(f6 i hi).1, fun j hj => ?_⟩⟩
      obtain ⟨v, g1, g2⟩ := (f6 i hi).2 j hj
      exact ⟨v, g1, hS v _ g2 ⟨i, j, hi, hj, rfl⟩⟩
    · simp only [upd, e, if_false] at ho
      have ho' := h.obj i o ho
      exact ⟨ho'.1.step (Keeps.refl _ _) (fun _ _ h => h) (fun j hj => hm j (ho'.2.2 j hj)) (hm i ho'.2.1) fun b s hb' => ⟨rfl, ho'.1.apart hb'⟩, huu i ho'.2.1, fun j hj => huu j (ho'.2.2 j hj)⟩
  · have live : ∀ i s, upd σ.h id (some (.row sz es)) i ≠ none → upd m id (some (b, sz)) i = some (b', s) → (i = id ∧ b' = b) ∨ (i ≠ id ∧ σ.h i ≠ none ∧ m i = some (b', s) ∧ b' ≠ b) := by
      intro i s g1 g2
      by_cases e : i = id
      · subst e
        simp only [upd, if_true, Option.some.injEq, Prod.mk.injEq] at g2
        exact .inl ⟨rfl, g2.1.symm⟩
      · simp only [upd, e, if_false] at g1 g2
        obtain ⟨o, ho⟩ := Option.ne_none_iff_exists'.1 g1
        exact .inr ⟨e, g1, g2, hnew i o b' s ho g2⟩
    rcases live i s h1 h3 with ⟨e1, e2⟩ | ⟨e1, e2, e3, e4⟩ <;> rcases live j s' h2 h4 with ⟨k1, k2⟩ | ⟨k1, k2, k3, k4⟩
    · rw [e1, k1]
    · exact absurd e2 k4
    · exact absurd k2 e4
    · exact h.inj i j b' s s' e2 k2 e3 k3
/-- The same for no memory at all. -/
theorem rv_own {id b sz n cap N' : Nat} {ty : TypeId} (hcap : n ≤ cap) (hmax : cap ≤ maxLen) (hs : w.shape? b = some (ty, N')) (hle : cap * sz ≤ N') : RW (upd m id (some (b, sz))) S w (.slice (some ⟨b, 0, none⟩) n cap) (.c (.own id sz 0 n)) := by
  show OwnV _ _ _ _ _ _ _
  unfold OwnV
  simp only [upd, if_true]
  exact ⟨trivial, _, cap, ty, N', rfl, hcap, hmax, fun _ => by simp, hs, by simpa using hle⟩
theorem rv_ownNil {id sz : Nat} {ad : Option Addr} : RW (upd m id none) S w (.slice ad 0 0) (.c (.own id sz 0 0)) := by
  show OwnV _ _ _ _ _ _ _
  unfold OwnV
  simp only [upd, if_true]
  exact ⟨⟨_, rfl⟩, trivial, trivial⟩
theorem W.ro_flat {x : W} (h : x.flat = true) : True := trivial

theorem D.flat_cells {x : D} (h : x.flat = true) : ∀ y ∈ x.cells, y.flat = true := by
  cases x with
  | agg cs =>
    intro y hy
    simp only [D.flat, List.all_eq_true] at h
    have := h y hy
    cases y <;> simp at this <;> rfl
  | _ => intro y hy; simp only [D.cells, List.mem_singleton] at hy; subst hy; exact h
/-- Flat results do not depend on the cells that are read. -/
theorem resC_flat {S' S'' : Cells} {w' : World} {B : Nat} {v : Value} {c : C} {bl : List Nat} (hs : ∀ b i, S'' b i → S' b i) (hf : c.flat = true) (h : ResC S' w' B v c bl) : ResC S'' w' B v c bl := by
  cases c <;> simp only [ResC] at * <;> first | exact h.elim | skip
  · exact ⟨h.1.flat hf, h.2⟩
  · rename_i sz es
    rcases h with h | ⟨b, cap, ty, N', h1, h2, h3, h4, h5, h6, f1, f2, cur, ty', fz, f3, f4, f5, f6⟩
    · exact .inl h
    · refine .inr ⟨b, cap, ty, N', h1, h2, h3, h4, h5, h6, f1, fun i hi => f2 i (hs _ _ hi), cur, ty', fz, f3, f4, f5, fun i hi => ⟨(f6 i hi).1, fun j hj => ?_⟩⟩
      obtain ⟨u, g1, g2⟩ := (f6 i hi).2 j hj
      refine ⟨u, g1, g2.flat ?_⟩
      simp only [C.flat, List.all_eq_true] at hf
      have h7 := hf es[i] (List.getElem_mem hi)
      exact D.flat_cells h7 _ (List.getElem_mem hj)
theorem resCs_flat {S' S'' : Cells} {w' : World} {B : Nat} (hs : ∀ b i, S'' b i → S' b i) {us : List Value} {cs : List C} {bl : List Nat} (h : ResCs S' w' B us cs bl) : cs.all C.flat = true → ResCs S'' w' B us cs bl := by
  induction h with
  | nil => intro _; exact .nil
  | cons h1 _ ih =>
    intro hf
    simp only [List.all_cons, Bool.and_eq_true] at hf
    exact .cons (resC_flat hs hf.1 h1) (ih hf.2)
theorem resW_flat {S' S'' : Cells} {w' : World} {B : Nat} {v : Value} {x : W} {bl : List Nat} (hs : ∀ b i, S'' b i → S' b i) (hf : x.flat = true) (h : ResW S' w' B v x bl) : ResW S'' w' B v x bl := by
  unfold ResW at *
  split at h
  · obtain ⟨⟨us, h1, h2⟩, h3⟩ := h
    exact ⟨⟨us, h1, flatAgg hf h2⟩, h3⟩
  · exact resC_flat hs hf h
  · obtain ⟨us, h1, h2⟩ := h
    exact ⟨us, h1, resCs_flat hs h2 hf⟩
theorem resWs_flat {S' S'' : Cells} {w' : World} {B : Nat} (hs : ∀ b i, S'' b i → S' b i) {us : List Value} {cs : List W} {bl : List Nat} (h : ResWs S' w' B us cs bl) : cs.all W.flat = true → ResWs S'' w' B us cs bl := by
  induction h with
  | nil => intro _; exact .nil
  | cons h1 _ ih =>
    intro hf
    simp only [List.all_cons, Bool.and_eq_true] at hf
    exact .cons (resW_flat hs hf.1 h1) (ih hf.2)
theorem resV_flat {S' S'' : Cells} {w' : World} {B : Nat} {v : Value} {x : V} {bl : List Nat} (hs : ∀ b i, S'' b i → S' b i) (hf : x.flat = true) (h : ResV S' w' B v x bl) : ResV S'' w' B v x bl := by
  cases x with
  | w x => exact resW_flat hs hf h
  | tup ws => obtain ⟨us, h1, h2⟩ := h; exact ⟨us, h1, resWs_flat hs h2 hf⟩
  | undef => exact h
/-- Results that read only bytes read no other cells. -/
theorem Reads.byt {T T' : Cells} {v : Value} {x : D} (hx : x.byt1 = true) (h : Reads T w v x) (H : ∀ b i n, T b i → w.cell? ⟨b, i, none⟩ = some (.int .u8 n) → T' b i) : Reads T' w v x := by
  cases h with
  | int => exact .int _ _
  | bool => exact .bool _
  | str => exact .str _
  | nil => exact .nil
  | sl a cap sz es u hcap hmax hsz hS hc hr =>
    simp only [D.byt1, List.all_eq_true] at hx
    have one : ∀ i (hi : i < es.length), ∃ n, es[i] = .int .u8 n := fun i hi => by
      have := hx es[i] (List.getElem_mem hi)
      unfold D.isU8 at this
      split at this
      · exact ⟨_, by assumption⟩
      · cases this
    have key : ∀ i j, i < es.length → j < sz → ∃ n, u i j = .int .u8 n := fun i j hi hj => by
      obtain ⟨n, hn⟩ := one i hi
      have hjl : j < es[i].cells.length := by rw [hsz i hi]; exact hj
      have := hr i j hi hjl
      have hce : es[i].cells = [.int .u8 n] := by rw [hn]; rfl
      have hj0 : j = 0 := by rw [hce] at hjl; simpa using hjl
      subst hj0
      have he : es[i].cells[0] = .int .u8 n := by simp only [hce, List.getElem_cons_zero]
      rw [he] at this
      generalize u i 0 = v0 at this
      cases this
      exact ⟨n, rfl⟩
    refine .sl a cap sz es u hcap hmax hsz (fun i j hi hj => ?_) hc fun i j hi h2 => ?_
    · obtain ⟨n, hn⟩ := key i j hi hj
      have hcc := hc i j hi hj
      have hsp := cell_spot hcc
      rw [hn, hsp] at hcc
      exact H _ _ n (hS i j hi hj) hcc
    · obtain ⟨n, hn⟩ := key i j hi (by rw [← hsz i hi]; exact h2)
      have hrr := hr i j hi h2
      rw [hn] at hrr ⊢
      generalize es[i].cells[j] = y at *
      cases hrr
      exact .int _ _
  | ref => simp [D.byt1] at hx
  | fn => simp [D.byt1] at hx
theorem bytAgg {T T' : Cells} {us : List Value} {cs : List D} (hx : cs.all D.byt1 = true) (h : All2 (Reads T w) us cs) (H : ∀ b i n, T b i → w.cell? ⟨b, i, none⟩ = some (.int .u8 n) → T' b i) : All2 (Reads T' w) us cs := by
  refine h.weak fun u c _ hc hr => ?_
  simp only [List.all_eq_true] at hx
  exact hr.byt (hx c hc) H
theorem resC_byt {S' S'' : Cells} {w' : World} {B : Nat} {v : Value} {c : C} {bl : List Nat} (hs : ∀ b i, S'' b i → S' b i) (H : ∀ b i n, S' b i → w'.cell? ⟨b, i, none⟩ = some (.int .u8 n) → S'' b i) (hf : c.byt = true) (h : ResC S' w' B v c bl) : ResC S'' w' B v c bl := by
  cases c <;> simp only [ResC] at * <;> first | exact h.elim | skip
  · exact ⟨h.1.byt hf H, h.2⟩
  · rename_i sz es
    rcases h with h | ⟨b, cap, ty, N', h1, h2, h3, h4, h5, h6, f1, f2, cur, ty', fz, f3, f4, f5, f6⟩
    · exact .inl h
    · refine .inr ⟨b, cap, ty, N', h1, h2, h3, h4, h5, h6, f1, fun i hi => f2 i (hs _ _ hi), cur, ty', fz, f3, f4, f5, fun i hi => ⟨(f6 i hi).1, fun j hj => ?_⟩⟩
      obtain ⟨u, g1, g2⟩ := (f6 i hi).2 j hj
      refine ⟨u, g1, g2.byt ?_ H⟩
      simp only [C.byt, List.all_eq_true] at hf
      exact hf es[i] (List.getElem_mem hi) _ (List.getElem_mem hj)
theorem resCs_byt {S' S'' : Cells} {w' : World} {B : Nat} (hs : ∀ b i, S'' b i → S' b i) (H : ∀ b i n, S' b i → w'.cell? ⟨b, i, none⟩ = some (.int .u8 n) → S'' b i) {us : List Value} {cs : List C} {bl : List Nat} (h : ResCs S' w' B us cs bl) : cs.all C.byt = true → ResCs S'' w' B us cs bl := by
  induction h with
  | nil => intro _; exact .nil
  | cons h1 _ ih =>
    intro hf
    simp only [List.all_cons, Bool.and_eq_true] at hf
    exact .cons (resC_byt hs H hf.1 h1) (ih hf.2)
theorem resW_byt {S' S'' : Cells} {w' : World} {B : Nat} {v : Value} {x : W} {bl : List Nat} (hs : ∀ b i, S'' b i → S' b i) (H : ∀ b i n, S' b i → w'.cell? ⟨b, i, none⟩ = some (.int .u8 n) → S'' b i) (hf : x.byt = true) (h : ResW S' w' B v x bl) : ResW S'' w' B v x bl := by
  unfold ResW at *
  split at h
  · obtain ⟨⟨us, h1, h2⟩, h3⟩ := h
    exact ⟨⟨us, h1, bytAgg hf h2 H⟩, h3⟩
  · rename_i hne
    refine resC_byt hs H ?_ h
    unfold W.byt at hf
    split at hf
    · rename_i e1; cases e1; exact absurd rfl (hne _)
    · rename_i e1; cases e1; exact hf
    · rename_i e1; cases e1
  · obtain ⟨us, h1, h2⟩ := h
    exact ⟨us, h1, resCs_byt hs H h2 hf⟩
theorem resWs_byt {S' S'' : Cells} {w' : World} {B : Nat} (hs : ∀ b i, S'' b i → S' b i) (H : ∀ b i n, S' b i → w'.cell? ⟨b, i, none⟩ = some (.int .u8 n) → S'' b i) {us : List Value} {cs : List W} {bl : List Nat} (h : ResWs S' w' B us cs bl) : cs.all W.byt = true → ResWs S'' w' B us cs bl := by
  induction h with
  | nil => intro _; exact .nil
  | cons h1 _ ih =>
    intro hf
    simp only [List.all_cons, Bool.and_eq_true] at hf
    exact .cons (resW_byt hs H hf.1 h1) (ih hf.2)
theorem resV_byt {S' S'' : Cells} {w' : World} {B : Nat} {v : Value} {x : V} {bl : List Nat} (hs : ∀ b i, S'' b i → S' b i) (H : ∀ b i n, S' b i → w'.cell? ⟨b, i, none⟩ = some (.int .u8 n) → S'' b i) (hf : x.byt = true) (h : ResV S' w' B v x bl) : ResV S'' w' B v x bl := by
  cases x with
  | w x => exact resW_byt hs H hf h
  | tup ws => obtain ⟨us, h1, h2⟩ := h; exact ⟨us, h1, resWs_byt hs H h2 hf⟩
  | undef => exact h
theorem ros_ok {S' T : Cells} {w' : World} {B : Nat} {us : List Value} {ws : List W} {bl : List Nat} (h : ResWs S' w' B us ws bl) (hT : ∀ b i, S' b i → T b i) (hb : ∀ b ∈ bl, ∀ i, T b i) : All2 (RW m T w') us (ws.map W.ro) ∧ (ws.map W.ro).flatMap W.ids = [] := by
  induction h with
  | nil => exact ⟨.nil, rfl⟩
  | cons h1 _ ih =>
    have h2 := ro_ok (m := m) h1 hT fun b hb' => hb b (List.mem_append_left _ hb')
    have h3 := ih fun b hb' => hb b (List.mem_append_right _ hb')
    exact ⟨.cons h2.1 h3.1, by rw [List.map_cons, List.flatMap_cons, h2.2, h3.2]; rfl⟩

/-- The result of a call, taken over. -/
theorem take_ok (h : Inv G N Sin w0 σ a w S m) (hd : ∀ t, o.dst = some t → t < N ∧ w0.fx t = none) {w' : World} (hb : Below w.heap.size w w') {own : Option (Nat × Nat)} {v : Value} {res : V} {S' : Cells} {bl : List Nat} (hS' : ∀ b i, S' b i → (S b i ∨ w.heap.size ≤ b) ∧ b < w'.heap.size) (hn : bl.Nodup) (hres : ResV S' w' w.heap.size v res bl)
    {r : R} (hr : impV σ.h σ.u (o.dst.getD 0) own res = some r) (hK : K (σ.put o.dst r)) : Nx G N Sin w0 K (a.put o.dst v) w' := by
  have fresh : ∀ {c : W} {u : Value} {bk : List Nat}, ResW S' w' w.heap.size u c bk → ∀ b ∈ bk, w.heap.size ≤ b ∧ b < w'.heap.size ∧ ∀ i, ¬ S' b i := by
    have c0 : ∀ {c : C} {u : Value} {bk : List Nat}, ResC S' w' w.heap.size u c bk → ∀ b ∈ bk, w.heap.size ≤ b ∧ b < w'.heap.size ∧ ∀ i, ¬ S' b i := by
      intro c u bk hc b hbk
      cases c <;> simp only [ResC] at hc <;> first | exact hc.elim | skip
      · rw [hc.2] at hbk; cases hbk
      · rcases hc with ⟨_, _, rfl⟩ | ⟨b', cap, ty, N', rfl, _, _, _, _, _, hf⟩
        · cases hbk
        · simp only [List.mem_singleton] at hbk
          subst hbk
          obtain ⟨f1, f2, cur, ty', fz, f3, _⟩ := hf
          exact ⟨f1, (Array.getElem?_eq_some_iff.1 f3).1, f2⟩
    have cs0 : ∀ {us : List Value} {cs : List C} {bk : List Nat}, ResCs S' w' w.heap.size us cs bk → ∀ b ∈ bk, w.heap.size ≤ b ∧ b < w'.heap.size ∧ ∀ i, ¬ S' b i := by
      intro us cs bk hc
      induction hc with
      | nil => intro b hb; cases hb
      | cons h1 _ ih =>
        intro b hb
        rcases List.mem_append.1 hb with hb | hb
        · exact c0 h1 b hb
        · exact ih b hb
    intro c u bk hc
    unfold ResW at hc
    split at hc
    · rw [hc.2]; intro b hb; cases hb
    · exact c0 hc
    · obtain ⟨us, _, hc⟩ := hc; exact cs0 hc
  have freshs : ∀ {us : List Value} {ws : List W} {bk : List Nat}, ResWs S' w' w.heap.size us ws bk → ∀ b ∈ bk, w.heap.size ≤ b ∧ b < w'.heap.size ∧ ∀ i, ¬ S' b i := by
    intro us ws bk hc
    induction hc with
    | nil => intro b hb; cases hb
    | cons h1 _ ih =>
      intro b hb
      rcases List.mem_append.1 hb with hb | hb
      · exact fresh h1 b hb
      · exact ih b hb
  have allfresh : ∀ b ∈ bl, w.heap.size ≤ b ∧ b < w'.heap.size ∧ ∀ i, ¬ S' b i := by
    unfold ResV at hres
    split at hres
    · exact fresh hres
    · obtain ⟨us, _, hres⟩ := hres; exact freshs hres
    · exact hres.elim
  -- what is only read, but for one block
  have T0 : ∀ (bx : Option Nat), ∃ T : Cells, (∀ b i, T b i → w.heap.size ≤ b ∧ b < w'.heap.size) ∧ (∀ b i, S' b i → S b i ∨ T b i) ∧ (∀ b ∈ bl, bx ≠ some b → ∀ i, S b i ∨ T b i) ∧ (∀ b, bx = some b → b ∈ bl → ∀ i, ¬ (S b i ∨ T b i)) := by
    intro bx
    refine ⟨fun b i => (S' b i ∧ w.heap.size ≤ b) ∨ (b ∈ bl ∧ bx ≠ some b), fun b i ht => ?_, fun b i hs => ?_, fun b hbl hne i => .inr (.inr ⟨hbl, hne⟩), fun b he hbl i hh => ?_⟩
    · rcases ht with ⟨h1, h2⟩ | h1
      · exact ⟨h2, (hS' b i h1).2⟩
      · exact ⟨(allfresh b h1.1).1, (allfresh b h1.1).2.1⟩
    · rcases (hS' b i hs).1 with h1 | h1
      · exact .inl h1
      · exact .inr (.inl ⟨hs, h1⟩)
    · rcases hh with hh | hh | hh
      · have := (h.sin b i hh).1
        have := (allfresh b hbl).1
        omega
      · exact (allfresh b hbl).2.2 i hh.1
      · exact hh.2 he
  have only : r = (res.ro, σ.h, σ.u) → Nx G N Sin w0 K (a.put o.dst v) w' := by
    intro er
    subst er
    obtain ⟨T, t1, t2, t3, _⟩ := T0 none
    have h1 := h.callee hb T t1
    have hv : RV m (fun b i => S b i ∨ T b i) w' v res.ro ∧ res.ro.ids = [] := by
      unfold ResV at hres
      split at hres
      · exact ro_ok hres t2 fun b hb => t3 b hb (by simp)
      · obtain ⟨us, h2, h3⟩ := hres
        have := ros_ok (m := m) h3 t2 fun b hb => t3 b hb (by simp)
        exact ⟨⟨us, h2, this.1⟩, this.2⟩
      · exact hres.elim
    exact ⟨_, _, _, hK, h1.put o.dst hd hv.1 fun i hi => by rw [hv.2] at hi; cases hi⟩
  unfold impV at hr
  split at hr
  · exact only (Option.some.inj hr).symm
  · exact only (Option.some.inj hr).symm
  · rename_i k sz0
    obtain ⟨sz, hsz⟩ : ∃ sz, sz = sz0 + 1 := ⟨_, rfl⟩
    rw [← hsz] at hr
    -- one component of its own
    have own1 : ∀ {u : Value} {es : List D} {bk : List Nat}, σ.u (8 * o.dst.getD 0) = false → ResW S' w' w.heap.size u (.c (.fr sz es)) bk → (∀ b ∈ bk, b ∈ bl) →
        ∃ (T : Cells) (m' : Mp), Inv G N Sin w0 ⟨σ.f, upd σ.h (8 * o.dst.getD 0) (some (.row sz es)), upd σ.u (8 * o.dst.getD 0) true⟩ a w' (fun b i => S b i ∨ T b i) m' ∧ RW m' (fun b i => S b i ∨ T b i) w' u (.c (.own (8 * o.dst.getD 0) sz 0 es.length)) ∧ (∀ b i, S' b i → S b i ∨ T b i) ∧ (∀ b ∈ bl, b ∉ bk → ∀ i, S b i ∨ T b i) := by
      intro u es bk hu hw hbk
      rcases hw with ⟨⟨ad, rfl⟩, rfl, rfl⟩ | ⟨b, cap, ty, N', rfl, rfl, c1, c2, c3, c4, c5⟩
      · obtain ⟨T, t1, t2, t3, _⟩ := T0 none
        have h1 := (h.callee hb T t1).newNil (sz := sz) hu
        exact ⟨T, _, h1, rv_ownNil, t2, fun b hb _ => t3 b hb (by simp)⟩
      · obtain ⟨T, t1, t2, t3, t4⟩ := T0 (some b)
        have hbl := hbk b (by simp)
        have h1 := (h.callee hb T t1).adopt hu c5 (fun v x hr _ => hr.mono t2) h.bsize (t4 b rfl hbl) (fun id' ob b' s g1 g2 e => by
          have := (h.obj id' ob g1).1.lt g2
          have := (allfresh b hbl).1
          omega)
        exact ⟨T, _, h1, rv_own c1 c2 c3 c4, t2, fun b' hb' hn' => t3 b' hb' fun e => hn' (by cases e; simp)⟩
    unfold ownV at hr
    split at hr
    · rename_i sz' es
      split at hr
      · rename_i hc
        obtain ⟨rfl, rfl, hu⟩ := hc
        cases hr
        obtain ⟨T, m', h1, h2, _⟩ := own1 hu hres fun b hb => hb
        exact ⟨_, _, _, hK, h1.put o.dst hd (x := .w (.c (.own (8 * o.dst.getD 0) sz' 0 es.length))) h2 fun i hi => by
          simp only [V.ids, W.ids, C.ids, List.mem_singleton] at hi
          subst hi
          simp [upd]⟩
      · cases hr
    · rename_i ws
      split at hr
      · rename_i sz' es hk
        split at hr
        · rename_i hc
          obtain ⟨rfl, hu⟩ := hc
          cases hr
          obtain ⟨us, rfl, hws⟩ := hres
          obtain ⟨u, bk, g1, g2, g3, g4⟩ := resWs_get hws hn k _ hk
          obtain ⟨T, m', h1, h2, h3, h4⟩ := own1 hu g2 g3
          have hlen := resWs_len hws
          have hkl : k < ws.length := (List.getElem?_eq_some_iff.1 hk).1
          have all : ∀ j z, ws[j]? = some z → j ≠ k → ∃ u', us[j]? = some u' ∧ RW m' (fun b i => S b i ∨ T b i) w' u' z.ro ∧ z.ro.ids = [] := by
            intro j z hz hj
            obtain ⟨u', bj, q1, q2, q3⟩ := g4 j hj z hz
            have := ro_ok (m := m') q2 h3 fun b hb => h4 b (q3 b hb).1 (q3 b hb).2
            exact ⟨u', q1, this⟩
          refine ⟨_, _, _, hK, h1.put o.dst hd (x := .tup _) ⟨us, rfl, .mk (by simp [hlen]) fun j j1 j2 => ?_⟩ fun i hi => ?_⟩
          · simp only [List.getElem_set, List.getElem_map]
            by_cases e : k = j
            · subst e
              rw [if_pos rfl]
              have e2 : us[k] = u := by
                have := List.getElem?_eq_getElem j1
                rw [g1] at this
                exact (Option.some.inj this).symm
              rw [e2]; exact h2
            · rw [if_neg e]
              have j3 : j < ws.length := by omega
              obtain ⟨u', q1, q2, _⟩ := all j ws[j] (List.getElem?_eq_getElem j3) (fun e' => e e'.symm)
              have e2 : us[j] = u' := by
                have := List.getElem?_eq_getElem j1
                rw [q1] at this
                exact (Option.some.inj this).symm
              rw [e2]; exact q2
          · simp only [V.ids, List.mem_flatMap] at hi
            obtain ⟨z, hz, hi⟩ := hi
            obtain ⟨j, hj, rfl⟩ := List.getElem_of_mem hz
            simp only [List.getElem_set, List.getElem_map] at hi
            by_cases e : k = j
            · rw [if_pos e] at hi
              simp only [W.ids, C.ids, List.mem_singleton] at hi
              subst hi
              simp [upd]
            · rw [if_neg e] at hi
              have j3 : j < ws.length := by simpa using hj
              obtain ⟨u', q1, _, q2⟩ := all j ws[j] (List.getElem?_eq_getElem j3) (fun e' => e e'.symm)
              rw [q2] at hi
              cases hi
        · cases hr
      · cases hr
    · cases hr
/-! ### Calls that change variables of the caller's -/
theorem ren_get {g : Nat → Nat} {cs : List C} {us : List Value} {m : Mp} (h : All2 (RC m S w) us (cs.map (C.ren g))) (k : ∀ v c, RC m S w v (c.ren g) → RC (fun i => m (g i)) S w v c) : All2 (RC (fun i => m (g i)) S w) us cs := by
  have hl := h.length
  rw [List.length_map] at hl
  refine .mk hl fun i h1 h2 => ?_
  have := h.get i h1 (by simpa using h2)
  rw [List.getElem_map] at this
  exact k _ _ this
theorem rcp_ren {g : Nat → Nat} {us : List Value} : ∀ {cs : List Cp}, All2 (RCp m S w) us (cs.map (Cp.ren g)) ↔ All2 (RCp (fun i => m (g i)) S w) us cs := by
  have one : ∀ (v : Value) (c : Cp), RCp m S w v (c.ren g) ↔ RCp (fun i => m (g i)) S w v c := fun v c => by cases c <;> exact Iff.rfl
  intro cs
  constructor <;> intro h
  · have hl := h.length
    rw [List.length_map] at hl
    refine .mk hl fun i h1 h2 => ?_
    have := h.get i h1 (by simpa using h2)
    rw [List.getElem_map] at this
    exact (one _ _).1 this
  · have hl := h.length
    refine .mk (by simpa using hl) fun i h1 h2 => ?_
    rw [List.getElem_map]
    exact (one _ _).2 (h.get i h1 (by simpa using h2))
theorem RC.ren {g : Nat → Nat} {v : Value} {c : C} (h : RC m S w v (c.ren g)) : RC (fun i => m (g i)) S w v c := by
  cases c with
  | cf f pre post =>
    obtain ⟨us, vs, h1, h2, h3⟩ := h
    exact ⟨us, vs, h1, rcp_ren.1 h2, rcp_ren.1 h3⟩
  | _ => exact h
theorem RC.unren {g : Nat → Nat} {v : Value} {c : C} (h : RC (fun i => m (g i)) S w v c) : RC m S w v (c.ren g) := by
  cases c with
  | cf f pre post =>
    obtain ⟨us, vs, h1, h2, h3⟩ := h
    exact ⟨us, vs, h1, rcp_ren.2 h2, rcp_ren.2 h3⟩
  | _ => exact h
theorem All2.mapR {α β γ : Type} {R : α → γ → Prop} {R' : α → β → Prop} {f : β → γ} {us : List α} {cs : List β} (h : All2 R' us cs) (k : ∀ u c, R' u c → R u (f c)) : All2 R us (cs.map f) := by
  induction h with
  | nil => exact .nil
  | cons h1 _ ih => exact .cons (k _ _ h1) ih
theorem RW.unren {g : Nat → Nat} {v : Value} {x : W} (h : RW (fun i => m (g i)) S w v x) : RW m S w v (x.ren g) := by
  cases x with
  | c c =>
    cases c with
    | d x => cases x <;> exact h
    | cf f pre post => exact RC.unren (c := .cf f pre post) h
    | _ => exact h
  | mix cs =>
    obtain ⟨us, h1, h2⟩ := h
    exact ⟨us, h1, h2.mapR fun _ _ h => h.unren⟩
theorem RV.unren {g : Nat → Nat} {v : Value} {x : V} (h : RV (fun i => m (g i)) S w v x) : RV m S w v (x.ren g) := by
  cases x with
  | w x => exact RW.unren h
  | tup ws =>
    obtain ⟨us, h1, h2⟩ := h
    exact ⟨us, h1, h2.mapR fun _ _ h => h.unren⟩
  | undef => trivial
theorem CellsOk.unren {g : Nat → Nat} {sz : Nat} {cur : Array Value} {o : Ob} (h : CellsOk (fun i => m (g i)) S w sz cur o) : CellsOk m S w sz cur (o.ren g) := by
  cases o with
  | row s es => exact h
  | box cs =>
    obtain ⟨h1, h2⟩ := h
    refine ⟨by rw [List.length_map]; exact h1, fun j hj => ?_⟩
    obtain ⟨v, k1, k2⟩ := h2 j (by simpa using hj)
    refine ⟨v, k1, ?_⟩
    rw [List.getElem_map]
    exact k2.unren
theorem Cp.ids_ren (g : Nat → Nat) (c : Cp) : (c.ren g).ids = c.ids.map g := by cases c <;> rfl
theorem flat_ren {α : Type} (f : α → List Nat) (r : α → α) (g : Nat → Nat) (h : ∀ x, f (r x) = (f x).map g) (l : List α) : (l.map r).flatMap f = (l.flatMap f).map g := by
  induction l with
  | nil => rfl
  | cons a l ih => simp only [List.map_cons, List.flatMap_cons, ih, h, List.map_append]
theorem C.ids_ren (g : Nat → Nat) (c : C) : (c.ren g).ids = c.ids.map g := by
  cases c with
  | cf f pre post => simp only [C.ren, C.ids, flat_ren _ _ g (Cp.ids_ren g), List.map_append]
  | _ => rfl
theorem W.ids_ren (g : Nat → Nat) (x : W) : (x.ren g).ids = x.ids.map g := by
  cases x with
  | c c => exact C.ids_ren g c
  | mix cs => exact flat_ren _ _ g (C.ids_ren g) cs
theorem V.ids_ren (g : Nat → Nat) (x : V) : (x.ren g).ids = x.ids.map g := by
  cases x with
  | w x => exact W.ids_ren g x
  | tup ws => exact flat_ren _ _ g (W.ids_ren g) ws
  | undef => rfl
theorem Ob.ids_ren (g : Nat → Nat) (o : Ob) : (o.ren g).ids = o.ids.map g := by
  cases o with
  | row s es => rfl
  | box cs => exact flat_ren _ _ g (C.ids_ren g) cs
theorem Ob.sz_ren (g : Nat → Nat) (o : Ob) : (o.ren g).sz = o.sz := by cases o <;> rfl
theorem RW.ren {g : Nat → Nat} {v : Value} {x : W} (h : RW m S w v (x.ren g)) : RW (fun i => m (g i)) S w v x := by
  cases x with
  | c c =>
    cases c with
    | d x => cases x <;> exact h
    | cf f pre post => exact RC.ren (c := .cf f pre post) h
    | _ => exact h
  | mix cs =>
    obtain ⟨us, h1, h2⟩ := h
    exact ⟨us, h1, ren_get h2 fun _ _ h => h.ren⟩
theorem RV.ren {g : Nat → Nat} {v : Value} {x : V} (h : RV m S w v (x.ren g)) : RV (fun i => m (g i)) S w v x := by
  cases x with
  | w x => exact RW.ren h
  | tup ws =>
    obtain ⟨us, h1, h2⟩ := h
    have hl := h2.length
    rw [List.length_map] at hl
    refine ⟨us, h1, .mk hl fun i k1 k2 => ?_⟩
    have := h2.get i k1 (by simpa using k2)
    rw [List.getElem_map] at this
    exact this.ren
  | undef => trivial
theorem CellsOk.ren {g : Nat → Nat} {sz : Nat} {cur : Array Value} {o : Ob} (h : CellsOk m S w sz cur (o.ren g)) : CellsOk (fun i => m (g i)) S w sz cur o := by
  cases o with
  | row s es => exact h
  | box cs =>
    obtain ⟨h1, h2⟩ := h
    rw [List.length_map] at h1
    refine ⟨h1, fun j hj => ?_⟩
    obtain ⟨v, k1, k2⟩ := h2 j (by simpa using hj)
    rw [List.getElem_map] at k2
    exact ⟨v, k1, k2.ren⟩
theorem ObjOk.ren {g : Nat → Nat} {B : Nat → Prop} {id : Nat} {o : Ob} (h : ObjOk m S B w (g id) (o.ren g)) : ObjOk (fun i => m (g i)) S B w id o := by
  unfold ObjOk at h ⊢
  show match m (g id) with | none => _ | some (b, sz) => _
  split at h
  · obtain ⟨sz, e⟩ := h
    rename_i hm
    rw [hm]
    cases o with
    | row s es => exact ⟨sz, e⟩
    | box cs => cases e
  · rename_i b sz hm
    rw [hm]
    obtain ⟨k1, k2, k3, cur, ty, fz, k4, k5, k6⟩ := h
    exact ⟨(Ob.sz_ren g o).symm.trans k1, k2, k3, cur, ty, fz, k4, k5, k6.ren⟩
theorem ObjOk.unren {g : Nat → Nat} {B : Nat → Prop} {id : Nat} {o : Ob} (h : ObjOk (fun i => m (g i)) S B w id o) : ObjOk m S B w (g id) (o.ren g) := by
  unfold ObjOk at h ⊢
  change (match m (g id) with | none => _ | some (b, sz) => _) at h
  split at h
  · obtain ⟨sz, e⟩ := h
    rename_i hm
    rw [hm]
    exact ⟨sz, by rw [e]; rfl⟩
  · rename_i b sz hm
    rw [hm]
    obtain ⟨k1, k2, k3, cur, ty, fz, k4, k5, k6⟩ := h
    exact ⟨(Ob.sz_ren g o).trans k1, k2, k3, cur, ty, fz, k4, k5, k6.unren⟩
theorem ObjOk.may {B C : Nat → Prop} {id : Nat} {o : Ob} (h : ObjOk m S B w id o) (k : ∀ b, B b → C b) : ObjOk m S C w id o := by
  unfold ObjOk at h ⊢
  split at h
  · exact h
  · obtain ⟨k1, k2, k3⟩ := h
    exact ⟨k1, k _ k2, k3⟩
theorem CellsOk.congr {m' : Mp} {sz : Nat} {cur : Array Value} {o : Ob} (h : CellsOk m S w sz cur o) (e : ∀ i ∈ o.ids, m' i = m i) : CellsOk m' S w sz cur o := h.step (Keeps.refl _ _) (fun _ _ h => h) e
theorem ObjOk.congr {m' : Mp} {B : Nat → Prop} {id : Nat} {o : Ob} (h : ObjOk m S B w id o) (e0 : m' id = m id) (e : ∀ i ∈ o.ids, m' i = m i) : ObjOk m' S B w id o := by
  unfold ObjOk at h ⊢
  rw [e0]
  split at h
  · exact h
  · obtain ⟨k1, k2, k3, cur, ty, fz, k4, k5, k6⟩ := h
    exact ⟨k1, k2, k3, cur, ty, fz, k4, k5, k6.congr e⟩
theorem ObjOk.blk {B : Nat → Prop} {id : Nat} {o : Ob} (h : ObjOk m S B w id o) {b s : Nat} (hm : m id = some (b, s)) : B b := by
  unfold ObjOk at h
  rw [hm] at h
  exact h.2.1

theorem goM_ok (h : Inv G N Sin w0 σ a w S m) (hd : ∀ t, o.dst = some t → t < N ∧ w0.fx t = none) {f : FuncId} {xs : List W} {vs : List Value} (hvs : All2 (fun v x => RW m S w v x) vs xs) {r : R} (hr : GoM P G σ.h σ.u f xs r) (hK : K (σ.put o.dst r)) :
    Calls P f vs.toArray w fun e w' => ∃ v, e = .returned v ∧ Nx G N Sin w0 K (a.put o.dst v) w' := by
  obtain ⟨g, args, h0, L, res, h1, L1, ⟨⟨p1, p2, p3, p4, p5⟩, hden⟩, rfl, hh0, hinj, hfresh, rfl⟩ := hr
  have live : ∀ id ∈ L, ∃ o, h0 id = some o ∧ σ.h (g id) = some (o.ren g) := fun id hid => by
    obtain ⟨o, ho⟩ := Option.ne_none_iff_exists'.1 (p2 id hid)
    exact ⟨o, ho, hh0 id o ho⟩
  have usedL : ∀ id ∈ L, σ.u (g id) = true := fun id hid => by obtain ⟨o, _, ho⟩ := live id hid; exact (h.obj _ _ ho).2.1
  refine (hden w S vs (fun i => m (g i)) (fun b i hs => (h.sin b i hs).1) h.glob (fun id o ho => ?_) (fun i j b s s' hi hj e1 e2 => ?_) ?_).mono ?_
  · exact ((h.obj _ _ (hh0 id o ho)).1.may fun _ _ => trivial).ren
  · obtain ⟨oi, hi'⟩ := Option.ne_none_iff_exists'.1 hi
    obtain ⟨oj, hj'⟩ := Option.ne_none_iff_exists'.1 hj
    exact hinj i (List.mem_append_left _ (p1 i oi hi').1) j (List.mem_append_left _ (p1 j oj hj').1) (h.inj (g i) (g j) b s s' (by rw [hh0 i oi hi']; simp) (by rw [hh0 j oj hj']; simp) e1 e2)
  · have hl := hvs.length
    rw [List.length_map] at hl
    refine .mk hl fun i i1 i2 => ?_
    have := hvs.get i i1 (by simpa using i2)
    rw [List.getElem_map] at this
    exact this.ren
  rintro e w' ⟨v, S', m', rfl, hbel, hko, hkeep, hSS, hS', hmL, hob1, hinj1, hres⟩
  refine ⟨v, rfl, ?_⟩
  -- the blocks that were handed over
  have blkMay : ∀ b, HeapBl h0 (fun i => m (g i)) b → w0.may b := by
    rintro b ⟨id, o, s, ho, hm⟩
    exact (h.obj _ _ (hh0 id o ho)).1.blk hm
  -- where everything lies now
  obtain ⟨m2, hm2⟩ : ∃ m2 : Mp, m2 = fun i => match L1.find? (fun id => g id == i && !L.contains id) with | some id => m' id | none => m i := ⟨_, rfl⟩
  have mold : ∀ i, σ.u i = true → m2 i = m i := by
    intro i hi
    rw [hm2]
    simp only
    split
    · rename_i id hf
      have h1 := List.mem_of_find?_eq_some hf
      have h2 := List.find?_some hf
      simp only [Bool.and_eq_true, beq_iff_eq, Bool.not_eq_true', List.contains_eq_mem, decide_eq_false_iff_not] at h2
      have := hfresh id h1 h2.2
      rw [h2.1, hi] at this
      cases this
    · rfl
  have mnew : ∀ id ∈ L1, m2 (g id) = m' id := by
    intro id hl1
    by_cases hl : id ∈ L
    · rw [mold _ (usedL id hl), hmL id hl hl1]
    · rw [hm2]
      simp only
      split
      · rename_i id' hf
        have h1 := List.mem_of_find?_eq_some hf
        have h2 := List.find?_some hf
        simp only [Bool.and_eq_true, beq_iff_eq] at h2
        rw [hinj id' (List.mem_append_right _ h1) id (List.mem_append_right _ hl1) h2.1]
      · rename_i hf
        have := List.find?_eq_none.1 hf id hl1
        simp [hl] at this
  have unew : ∀ id ∈ L1, usedM σ.u g L1 (g id) = true := by
    intro id hl
    unfold usedM
    rw [Bool.or_eq_true]
    exact .inr (List.any_eq_true.2 ⟨id, hl, by simp⟩)
  -- a variable of the caller's that was not handed over
  have frame : ∀ i ob b s, σ.h i = some ob → (∀ id ∈ L, g id ≠ i) → m i = some (b, s) → b < w.heap.size ∧ ¬ HeapBl h0 (fun i => m (g i)) b ∧ w'.heap[b]? = w.heap[b]? ∧ ∀ j, ¬ S' b j := by
    intro i ob b s ho hn hm
    have hlt := (h.obj i ob ho).1.lt hm
    have hnb : ¬ HeapBl h0 (fun i => m (g i)) b := by
      rintro ⟨id, o', s', ho', hm'⟩
      exact hn id (p1 id o' ho').1 (h.inj (g id) i b s' s (by rw [hh0 id o' ho']; simp) (by rw [ho]; simp) hm' hm)
    refine ⟨hlt, hnb, hbel.block b hlt hnb, fun j hj => ?_⟩
    rcases (hS' b j hj).2 with h1 | h1 | h1
    · exact (h.obj i ob ho).1.apart hm j h1
    · omega
    · exact hnb h1
  -- what the heap holds
  have split : ∀ i ob, heapM σ.h g L L1 h1 i = some ob → (∃ id o, id ∈ L1 ∧ g id = i ∧ h1 id = some o ∧ ob = o.ren g) ∨ ((∀ id ∈ L, g id ≠ i) ∧ (∀ id ∈ L1, g id ≠ i) ∧ σ.h i = some ob) := by
    intro i ob hi
    unfold heapM at hi
    split at hi
    · rename_i id hf
      have k1 := List.mem_of_find?_eq_some hf
      have k2 := List.find?_some hf
      simp only [beq_iff_eq] at k2
      simp only [Option.map_eq_some_iff] at hi
      obtain ⟨o, ho, rfl⟩ := hi
      exact .inl ⟨id, o, k1, k2, ho, rfl⟩
    · rename_i hf
      split at hi
      · cases hi
      · rename_i hany
        refine .inr ⟨fun id hid e => hany (List.any_eq_true.2 ⟨id, hid, by simp [e]⟩), fun id hid e => ?_, hi⟩
        have := List.find?_eq_none.1 hf id hid
        simp [e] at this
  have hI : Inv G N Sin w0 ⟨σ.f, heapM σ.h g L L1 h1, usedM σ.u g L1⟩ a w' S' m2 := by
    refine h.move hkeep hko hSS mold (fun i hi => by unfold usedM; rw [hi, Bool.true_or]) (fun i ob hi => ?_) (fun i j b s s' hi hj e1 e2 => ?_) (fun b i hs => ?_) (h.below.trans (hbel.mono h.bsize fun b hb hx => (blkMay b hx).resolve_left (by omega)))
    · rcases split i ob hi with ⟨id, o, k1, rfl, k3, rfl⟩ | ⟨k1, k2, k3⟩
      · have k4 := hob1 id o k3
        have k5 := (p4 id o k3).2
        refine ⟨ObjOk.unren ((k4.congr (m' := fun i => m2 (g i)) (mnew id k1) fun j hj => mnew j (k5 j hj)).may fun b hb => ?_), unew id k1, fun j hj => ?_⟩
        · rcases hb with hb | hb
          · exact .inl (Nat.le_trans h.bsize hb)
          · exact blkMay b hb
        · rw [Ob.ids_ren] at hj
          obtain ⟨j', hj', rfl⟩ := List.mem_map.1 hj
          exact unew j' (k5 j' hj')
      · have k4 := h.obj i ob k3
        refine ⟨k4.1.step hkeep hSS (fun j hj => mold j (k4.2.2 j hj)) (mold i k4.2.1) fun b s hm => ?_, ?_, fun j hj => ?_⟩
        · obtain ⟨_, _, q3, q4⟩ := frame i ob b s k3 k1 hm
          exact ⟨q3, q4⟩
        · unfold usedM; rw [k4.2.1, Bool.true_or]
        · unfold usedM; rw [k4.2.2 j hj, Bool.true_or]
    · obtain ⟨oi, hi'⟩ := Option.ne_none_iff_exists'.1 hi
      obtain ⟨oj, hj'⟩ := Option.ne_none_iff_exists'.1 hj
      have mixed : ∀ i j b s s' oi id o, (∀ id ∈ L, g id ≠ i) → σ.h i = some oi → id ∈ L1 → h1 id = some o → g id = j → m2 i = some (b, s) → m2 j = some (b, s') → False := by
        rintro i j b s s' oi id o q1 q2 q3 q4 rfl e1 e2
        rw [mold i (h.obj i oi q2).2.1] at e1
        rw [mnew id q3] at e2
        obtain ⟨t1, t2, _, _⟩ := frame i oi b s q2 q1 e1
        rcases (hob1 id o q4).blk e2 with hb | hb
        · omega
        · exact t2 hb
      rcases split i oi hi' with ⟨id, o, k1, k2, k3, _⟩ | ⟨k1, k2, k3⟩ <;> rcases split j oj hj' with ⟨id', o', q1, q2, q3, _⟩ | ⟨q1, q2, q3⟩
      · subst k2 q2
        rw [mnew id k1] at e1
        rw [mnew id' q1] at e2
        rw [hinj1 id id' b s s' (by rw [k3]; simp) (by rw [q3]; simp) e1 e2]
      · exact (mixed j i b s' s oj id o q1 q3 k1 k3 k2 e2 e1).elim
      · exact (mixed i j b s s' oi id' o' k1 k3 q1 q3 q2 e1 e2).elim
      · rw [mold i (h.obj i oi k3).2.1] at e1
        rw [mold j (h.obj j oj q3).2.1] at e2
        exact h.inj i j b s s' (by rw [k3]; simp) (by rw [q3]; simp) e1 e2
    · obtain ⟨k1, k2⟩ := hS' b i hs
      refine ⟨k1, ?_⟩
      rcases k2 with k2 | k2 | k2
      · exact (h.sin b i k2).2
      · exact .inr (.inl (Nat.le_trans h.bsize k2))
      · exact .inr (blkMay b k2)
  refine ⟨_, S', m2, hK, hI.put o.dst hd (x := res.ren g) (RV.unren (hres.congr fun i hi => mnew i (p5 i hi))) fun i hi => ?_⟩
  rw [V.ids_ren] at hi
  obtain ⟨i', hi', rfl⟩ := List.mem_map.1 hi
  exact unew i' (p5 i' hi')
end
end Go.Proofs.Ytldcgjhfaledfaa
