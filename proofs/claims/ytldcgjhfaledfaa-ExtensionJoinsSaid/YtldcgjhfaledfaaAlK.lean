/- The plain logic (11): literals, append, copy. Own work. -/
import Derived.Test.YtldcgjhfaledfaaAlJ
set_option linter.unusedVariables false
set_option linter.unusedSimpArgs false
namespace Go.Proofs.Ytldcgjhfaledfaa
open Go.RowKit

section
variable {P : Program} {G : Glob} {N : Nat} {Sin : Cells} {w0 : Gh} {σ : St} {a : Act} {w : World} {S : Cells} {m : Mp} {o : Oper} {K : St → Prop} {Q : Exit → Act → World → Prop}

theorem All2.mk? {α β : Type} {R : α → β → Prop} {l : List α} {k : List β} (hl : l.length = k.length) (h : ∀ (i : Nat) (x : α) (y : β), l[i]? = some x → k[i]? = some y → R x y) : All2 R l k :=
  .mk hl fun i h1 h2 => h i _ _ (List.getElem?_eq_getElem h1) (List.getElem?_eq_getElem h2)
theorem fold_set (off : Nat) : ∀ (us : List Value) (k : Nat) (cells : Array Value), (us.zipIdx k).foldl (fun cs (x : Value × Nat) => cs.setIfInBounds (off + x.2) x.1) cells = setL cells (off + k) us
  | [], _, _ => rfl
  | v :: r, k, cells => by
    rw [List.zipIdx_cons, List.foldl_cons, fold_set off r (k + 1), setL]
    rfl
theorem all2_set {cur : Array Value} {cs : List C} (h : All2 (RC m S w) cur.toList cs) {us : List Value} {ds : List C} (k : All2 (RC m S w) us ds) {off : Nat} (hle : off + ds.length ≤ cs.length) : All2 (RC m S w) (setL cur off us).toList (setR cs off ds) := by
  have hl := h.length
  have hk := k.length
  simp only [Array.length_toList] at hl
  refine .mk? (by rw [Array.length_toList, setL_size, setR_length _ _ _ hle]; exact hl) fun i x y hx hy => ?_
  rw [setR_get _ _ _ hle] at hy
  rw [Array.getElem?_toList] at hx
  by_cases hin : off ≤ i ∧ i < off + ds.length
  · rw [if_pos hin] at hy
    obtain ⟨v, h1, h2⟩ := k.get? hy
    obtain ⟨h3, h4⟩ := List.getElem?_eq_some_iff.1 h1
    have := setL_in us cur off (i - off) (by omega) h3
    rw [show off + (i - off) = i by omega, hx, h4, Option.some.injEq] at this
    rw [this]; exact h2
  · rw [if_neg hin] at hy
    rw [setL_out us cur off i (by omega)] at hx
    obtain ⟨v, h1, h2⟩ := h.get? hy
    rw [Array.getElem?_toList, hx, Option.some.injEq] at h1
    rw [h1]; exact h2
theorem setR_ids {cs ds : List C} {off : Nat} {p : Nat → Prop} (h1 : ∀ i ∈ cs.flatMap C.ids, p i) (h2 : ∀ i ∈ ds.flatMap C.ids, p i) : ∀ i ∈ (setR cs off ds).flatMap C.ids, p i := by
  intro i hi
  unfold setR at hi
  simp only [List.flatMap_append, List.mem_append] at hi
  rcases hi with (hm1 | hm1) | hm1
  · obtain ⟨c, hc1, hc2⟩ := List.mem_flatMap.1 hm1
    exact h1 i (List.mem_flatMap.2 ⟨c, List.mem_of_mem_take hc1, hc2⟩)
  · exact h2 i hm1
  · obtain ⟨c, hc1, hc2⟩ := List.mem_flatMap.1 hm1
    exact h1 i (List.mem_flatMap.2 ⟨c, List.mem_of_mem_drop hc1, hc2⟩)
theorem fill_gen {u : Nat → Bool} {ρ : SX → V} (place : Nat → Option (Nat × Nat)) : ∀ {ps : List (Nat × Operand)} {qs : List (Nat × Nat × SX)} {cs cs' : List C} {cur : Array Value}, All2 (RC m S w) cur.toList cs → (∀ i ∈ cs.flatMap C.ids, u i = true) →
    All2 (fun p q => place p.1 = some (q.1, q.2.1) ∧ RV m S w (a.eval p.2) (ρ q.2.2) ∧ ∀ i ∈ (ρ q.2.2).ids, u i = true) ps qs → parts ρ qs cs = some cs' → ∃ cur', Instr.fill place cur (ps.map fun x => (x.1, a.eval x.2)) = some cur' ∧ All2 (RC m S w) cur'.toList cs' ∧ ∀ i ∈ cs'.flatMap C.ids, u i = true
  | _, _, cs, cs', cur, hall, hids, .nil, e => by
    simp only [parts, Option.some.injEq] at e
    subst e
    exact ⟨cur, rfl, hall, hids⟩
  | (i, x) :: ps, (off, size, x') :: qs, cs, cs', cur, hall, hids, .cons hpq hrest, e => by
    obtain ⟨hp, h1⟩ := hpq
    simp only [parts] at e
    split at e
    · rename_i y hy
      split at e
      · rename_i hc
        obtain ⟨hv, hyx⟩ := asW_ok h1.1 hy
        obtain ⟨us, hus, hus2, hi⟩ := wcells_ok hv
        have hul : us.length = size := by rw [hus2.length]; exact hc.1
        have hcl : cur.size = cs.length := by have := hall.length; simpa using this
        have hnew := all2_set hall hus2 (off := off) (by omega)
        obtain ⟨cur', g1, g2, g3⟩ := fill_gen place hnew (setR_ids hids fun j hj => h1.2 j (by rw [hyx]; show j ∈ y.ids; rw [← hi]; exact hj)) hrest e
        refine ⟨cur', ?_, g2, g3⟩
        simp only [List.map_cons, Instr.fill, hp, hus]
        have hsz : us.toArray.size = size := by simpa using hul
        rw [if_neg (by simp [hsz]; omega)]
        have := fold_set off us 0 cur
        simp only [Nat.add_zero] at this
        rw [show (us.toArray.zipIdx.foldl (fun cs (x : Value × Nat) => cs.setIfInBounds (off + x.2) x.1) cur) = setL cur off us by simpa using this]
        exact g1
      · cases e
    · cases e
theorem fill_ok (h : Inv G N Sin w0 σ a w S m) (place : Nat → Option (Nat × Nat)) {ps : List (Nat × Operand)} {qs : List (Nat × Nat × SX)} {cs cs' : List C} {cur : Array Value} (hall : All2 (RC m S w) cur.toList cs) (hids : ∀ i ∈ cs.flatMap C.ids, σ.u i = true)
    (hq : All2 (fun p q => place p.1 = some (q.1, q.2.1) ∧ compX p.2 = some q.2.2) ps qs) (e : parts (ev G σ.f) qs cs = some cs') : ∃ cur', Instr.fill place cur (ps.map fun x => (x.1, a.eval x.2)) = some cur' ∧ All2 (RC m S w) cur'.toList cs' ∧ ∀ i ∈ cs'.flatMap C.ids, σ.u i = true :=
  fill_gen place hall hids (hq.weak fun _ _ _ _ h1 => ⟨h1.1, h.operand h1.2⟩) e
theorem snd_build (t : TypeId) (ps : Array (Nat × Operand)) (ho : o.op = .build t ps) (place : Nat → Option (Nat × Nat)) (zv : Value) (hb : ∀ l cells, Instr.fill place zv.cells l = some cells → P.built t l = some cells) {cs : List C} (hcs : allSome constC zv.cells.toList = some cs)
    {qs : List (Nat × Nat × SX)} (hq : All2 (fun p q => place p.1 = some (q.1, q.2.1) ∧ compX p.2 = some q.2.2) ps.toList qs) (h : Inv G N Sin w0 σ a w S m) (hd : ∀ t, o.dst = some t → t < N ∧ w0.fx t = none)
    {cs' : List C} (hp : parts (ev G σ.f) qs cs = some cs') (hK : K (σ.put o.dst (.w (mkAgg cs'), σ.h, σ.u))) : o.wp P a w (Nx G N Sin w0 K) Q := by
  have hz := allSome_const (m := m) (S := S) (w := w) hcs
  obtain ⟨cur', h1, h2, h3⟩ := fill_ok h place hz.1 (fun i hi => by rw [hz.2] at hi; cases hi) hq hp
  have hmk := mkAgg_ok h2
  rw [Array.toArray_toList] at hmk
  refine fin0 h hd (x := .w (mkAgg cs')) ?_ hmk.1 (fun i hi => h3 i (hmk.2 i hi)) hK
  simp only [execOp, ho]
  refine run_v (run_build w t _ cur' (hb _ _ ?_))
  rw [← h1]
  congr 1
  simp
theorem row_set {s sz : Nat} {es : List D} {cur : Array Value} (h : CellsOk m S w sz cur (.row s es)) {i : Nat} (hi : i < es.length) {e : D} {us : List Value} (he : e.cells.length = sz) (hall : All2 (Reads S w) us e.cells) : CellsOk m S w sz (setL cur (i * sz) us) (.row s (es.set i e)) := by
  obtain ⟨hle, krow⟩ := h
  have hmi : i * sz + sz ≤ cur.size := by
    have := Nat.mul_le_mul_right sz (show i + 1 ≤ es.length by omega)
    rw [Nat.add_mul] at this
    omega
  have hul := hall.length
  refine ⟨by rw [List.length_set, setL_size]; exact hle, fun q hq => ?_⟩
  rw [List.length_set] at hq
  rw [List.getElem_set]
  by_cases hqi : i = q
  · subst hqi
    rw [if_pos rfl]
    refine ⟨he, fun j hj => ?_⟩
    have hju : j < us.length := by omega
    exact ⟨us[j], setL_in us cur (i * sz) j (by omega) hju, hall.get j hju hj⟩
  · rw [if_neg hqi]
    obtain ⟨p1, p2⟩ := krow q hq
    refine ⟨p1, fun j hj => ?_⟩
    obtain ⟨v, q1, q2⟩ := p2 j hj
    refine ⟨v, ?_, q2⟩
    rw [setL_out us cur (i * sz) _ ?_]
    · exact q1
    · rcases Nat.lt_or_ge q i with hlt | hge
      · have := Nat.mul_le_mul_right sz (show q + 1 ≤ i by omega)
        rw [Nat.add_mul] at this
        omega
      · have := Nat.mul_le_mul_right sz (show i + 1 ≤ q by omega)
        rw [Nat.add_mul] at this
        omega
theorem fillE_gen {ρ : SX → V} {sz : Nat} : ∀ {ps : List (Nat × Operand)} {qs : List (Nat × SX)} {es es' : List D} {cur : Array Value}, CellsOk m S w sz cur (.row sz es) →
    All2 (fun p q => p.1 = q.1 ∧ RV m S w (a.eval p.2) (ρ q.2)) ps qs → elems ρ sz qs es = some es' → ∃ cur', Instr.fill (fun i => some (i * sz, sz)) cur (ps.map fun x => (x.1, a.eval x.2)) = some cur' ∧ CellsOk m S w sz cur' (.row sz es') ∧ es'.length = es.length ∧ cur'.size = cur.size
  | _, _, es, es', cur, hall, .nil, e => by
    simp only [elems, Option.some.injEq] at e
    subst e
    exact ⟨cur, rfl, hall, rfl, rfl⟩
  | (i, x) :: ps, (i', x') :: qs, es, es', cur, hall, .cons hpq hrest, e => by
    obtain ⟨hp, hx⟩ := hpq
    simp only at hp
    subst hp
    simp only [elems] at e
    split at e
    · rename_i y hy
      split at e
      · rename_i hc
        have h1 := hx
        have hpw : ∃ wv, ρ x' = .w wv ∧ pureW wv = some y := by
          unfold pureV at hy
          split at hy
          · rename_i wv hw; exact ⟨wv, hw, hy⟩
          · cases hy
        obtain ⟨wv, hw, hpy⟩ := hpw
        rw [hw] at h1
        obtain ⟨us, hus, hus2⟩ := pureW_ok h1 hpy
        have hul : us.length = sz := by rw [hus2.length]; exact hc.1
        have hmi : i * sz + sz ≤ cur.size := by
          have := Nat.mul_le_mul_right sz (show i + 1 ≤ es.length by omega)
          rw [Nat.add_mul] at this
          have := hall.1
          omega
        obtain ⟨cur', g1, g2, g3, g4⟩ := fillE_gen (row_set hall hc.2 hc.1 hus2) hrest e
        refine ⟨cur', ?_, g2, by rw [g3, List.length_set], by rw [g4, setL_size]⟩
        simp only [List.map_cons, Instr.fill, hus]
        have hsz : us.toArray.size = sz := by simpa using hul
        rw [if_neg (by simp [hsz]; omega)]
        have := fold_set (i * sz) us 0 cur
        simp only [Nat.add_zero] at this
        rw [show (us.toArray.zipIdx.foldl (fun cs (x : Value × Nat) => cs.setIfInBounds (i * sz + x.2) x.1) cur) = setL cur (i * sz) us by simpa using this]
        exact g1
      · cases e
    · cases e
theorem fillE_ok (h : Inv G N Sin w0 σ a w S m) {sz : Nat} {ps : List (Nat × Operand)} {qs : List (Nat × SX)} {es es' : List D} {cur : Array Value} : CellsOk m S w sz cur (.row sz es) →
    All2 (fun p q => p.1 = q.1 ∧ compX p.2 = some q.2) ps qs → elems (ev G σ.f) sz qs es = some es' → ∃ cur', Instr.fill (fun i => some (i * sz, sz)) cur (ps.map fun x => (x.1, a.eval x.2)) = some cur' ∧ CellsOk m S w sz cur' (.row sz es') ∧ es'.length = es.length ∧ cur'.size = cur.size :=
  fun hall hpq e => fillE_gen hall (hpq.weak fun _ _ _ _ h1 => ⟨h1.1, (h.operand h1.2).1⟩) e
theorem readsNew {sz : Nat} {es : List D} {cur : Array Value} {ty : TypeId} {cap : Nat} (h : Inv G N Sin w0 σ a w S m) (hc : CellsOk m S w sz cur (.row sz es)) (hcap : es.length ≤ cap) (hmax : cap ≤ maxLen) :
    Reads (fun b i => S b i ∨ b = w.heap.size) (w.alloc (.cells cur ty)) (.slice (some ⟨w.heap.size, 0, none⟩) es.length cap) (.sl es) := by
  have k := Keeps.alloc h (.cells cur ty)
  refine Reads.of_row (sz := sz) (fun i hi => ?_) hcap hmax
  obtain ⟨h1, h2⟩ := hc.2 i hi
  refine ⟨h1, fun j hj => ?_⟩
  obtain ⟨v, h3, h4⟩ := h2 j hj
  refine ⟨v, .inr rfl, ?_, (h4.keep k).mono fun _ _ h => .inl h⟩
  show (w.alloc _).cell? ⟨w.heap.size, 0 + i * sz + j, none⟩ = _
  rw [cell_fresh, Nat.zero_add]
  exact h3
theorem snd_bldSl (t e : TypeId) {s b : Nat} {z : D} (ht : slTy P t = some (e, s, b, z)) (n : Nat) (hn : n * s ≤ 2 ^ 24) (ps : Array (Nat × Operand)) (ho : o.op = .buildSlice t n ps) (own : Bool) {qs : List (Nat × SX)} (hq : All2 (fun p q => p.1 = q.1 ∧ compX p.2 = some q.2) ps.toList qs)
    (h : Inv G N Sin w0 σ a w S m) (hd : ∀ t, o.dst = some t → t < N ∧ w0.fx t = none) {r : R} (hr : ef (ev G σ.f) σ.h σ.u (o.dst.getD 0) (.bldSl own n s z qs) = some r) (hK : K (σ.put o.dst r)) : o.wp P a w (Nx G N Sin w0 K) Q := by
  obtain ⟨hu0, he⟩ := slTy_ok ht
  obtain ⟨i, zv, hi, hs, hb, hz, hpos, hlen, hrd⟩ := elTy_ok he
  have hn2 : n ≤ 16777216 := by
    have := Nat.le_mul_of_pos_right n hpos
    have : (2 : Nat) ^ 24 = 16777216 := by decide
    omega
  simp only [ef] at hr
  split at hr
  · cases hr
  · rename_i es hes
    have h0 := cellsMade (m := m) (S := S) (w := w) (e := e) (b := b) (zv := zv) hrd hlen hpos n n (Nat.le_refl _) s
    obtain ⟨cur, g1, g2, g3, g4⟩ := fillE_ok h h0 hq hes
    rw [List.length_replicate] at g3
    rw [size_madeCells] at g4
    have hn3 : ¬ 16777216 < n * s := by have : (2 : Nat) ^ 24 = 16777216 := by decide
                                        omega
    have run : (execOp a.eval o).run P w = .ok (.value (.slice (some ⟨w.heap.size, 0, none⟩) n n)) (w.alloc (.cells cur e)) := by
      simp only [execOp, ho]
      refine run_v ?_
      have hfill : Instr.fill (fun i => some (i * s, s)) (madeCells zv.cells (n * s)) ((ps.map fun x => (x.1, a.eval x.2)).toList) = some cur := by
        rw [← g1]; congr 1; simp
      by_cases hns : n * s = 0
      · have hfill' : Instr.fill (fun i => some (i * s, s)) #[] (List.map (fun x => (x.1, a.eval x.2)) ps.toList) = some cur := by
          rw [← hfill, hns]
          simp [madeCells, Array.range_zero']
        simp [Instr.buildSlice, run_underlying hu0, sizeOf, typeInfo, hi, hs, hns, newRow, hfill', Array.range_zero']
      · have hfill' : Instr.fill (fun i => some (i * s, s)) (Array.map (fun x => zv.cells[x % zv.cells.size]!) (Array.range (n * s))) (List.map (fun x => (x.1, a.eval x.2)) ps.toList) = some cur := by
          rw [← hfill]
          simp [madeCells]
        simp [Instr.buildSlice, run_underlying hu0, sizeOf, typeInfo, hi, hs, hn3, hns, zeroValue, hz, newRow, hfill']
    split at hr
    · obtain ⟨hu, rfl⟩ := newO_ok hr
      exact finNew (sz := s) (ob := .row s es) (c := .own (8 * o.dst.getD 0) s 0 n) h hd hu rfl (thawed0 _) g2 (fun j hj => by cases hj) run (ownNew (Nat.le_refl _) (by simp only [maxLen]; omega) (by rw [g4]; exact Nat.le_refl _)) rfl hK
    · rename_i hown
      cases hr
      by_cases hn0 : n = 0
      · subst hn0
        exact fin (h' := σ.h) (u' := σ.u) (h.newRo _) hd run (x := .w (.c .nil)) ⟨_, rfl⟩ (fun i hi => by cases hi) hK
      rw [if_neg hn0] at hK
      have hr2 := readsNew (ty := e) (cap := n) h g2 (by omega) (by simp only [maxLen]; omega)
      rw [g3] at hr2
      exact fin (h' := σ.h) (u' := σ.u) (h.newRo _) hd run (x := vd (.sl es)) (hr2.rw (m := m)) (fun i hi => by cases hi) hK

/-! ### append, copy -/
/-- A variable gets another name. -/
theorem Inv.rename (h : Inv G N Sin w0 σ a w S m) {id id' : Nat} {ob : Ob} (ho : σ.h id = some ob) (hu : σ.u id' = false) (hbox : ob.ids = []) :
    Inv G N Sin w0 ⟨σ.f, upd (upd σ.h id none) id' (some ob), upd σ.u id' true⟩ a w S (upd m id' (m id)) := by
  have hob := h.obj id ob ho
  have hne : id ≠ id' := fun e => by rw [← e, hob.2.1] at hu; cases hu
  have hm : ∀ i, σ.u i = true → upd m id' (m id) i = m i := fun i hi => by
    unfold upd; rw [if_neg (fun e => by rw [e, hu] at hi; cases hi)]
  have huu : ∀ i, σ.u i = true → upd σ.u id' true i = true := fun i hi => by unfold upd; split <;> simp_all
  have sub : ∀ i o, i ≠ id' → upd (upd σ.h id none) id' (some ob) i = some o → i ≠ id ∧ σ.h i = some o := fun i o hi g => by
    simp only [upd, hi, if_false] at g
    split at g
    · cases g
    · rename_i e; exact ⟨e, g⟩
  refine h.move (Keeps.refl _ _) (KeepsOthers.refl _) (fun _ _ h => h) hm huu (fun i o' g => ?_) (fun i j b s s' h1 h2 h3 h4 => ?_) h.sin h.below
  · by_cases e : i = id'
    · subst e
      simp only [upd, if_true, Option.some.injEq] at g
      subst g
      refine ⟨?_, by simp [upd], fun j hj => by rw [hbox] at hj; cases hj⟩
      have h1 := hob.1
      unfold ObjOk at *
      simp only [upd, if_true]
      split at h1
      · exact h1
      · rename_i b s hmi
        obtain ⟨q1, q2, q3, cur, ty, fz, q4, q5, q6⟩ := h1
        exact ⟨q1, q2, q3, cur, ty, fz, q4, q5, q6.step (Keeps.refl _ _) (fun _ _ h => h) fun j hj => by rw [hbox] at hj; cases hj⟩
    · obtain ⟨_, g'⟩ := sub i o' e g
      have h1 := h.obj i o' g'
      exact ⟨h1.1.step (Keeps.refl _ _) (fun _ _ h => h) (fun j hj => hm j (h1.2.2 j hj)) (hm i h1.2.1) fun b s hb => ⟨rfl, h1.1.apart hb⟩, huu i h1.2.1, fun j hj => huu j (h1.2.2 j hj)⟩
  · have red : ∀ i, upd (upd σ.h id none) id' (some ob) i ≠ none → upd m id' (m id) i = some (b, s) ∨ upd m id' (m id) i = some (b, s') → ∃ k s2, σ.h k ≠ none ∧ m k = some (b, s2) ∧ (if i = id' then k = id else k = i ∧ i ≠ id) := by
      intro i g g2
      by_cases e : i = id'
      · subst e
        refine ⟨id, ?_⟩
        simp only [upd, if_true] at g2
        rcases g2 with g2 | g2
        · exact ⟨s, by rw [ho]; simp, g2, by simp⟩
        · exact ⟨s', by rw [ho]; simp, g2, by simp⟩
      · obtain ⟨o', ho'⟩ := Option.ne_none_iff_exists'.1 g
        obtain ⟨g3, g4⟩ := sub i o' e ho'
        refine ⟨i, ?_⟩
        simp only [upd, e, if_false] at g2
        rcases g2 with g2 | g2
        · exact ⟨s, by rw [g4]; simp, g2, by simp [e, g3]⟩
        · exact ⟨s', by rw [g4]; simp, g2, by simp [e, g3]⟩
    obtain ⟨k1, s1, a1, a2, a3⟩ := red i h1 (.inl h3)
    obtain ⟨k2, s2, b1, b2, b3⟩ := red j h2 (.inr h4)
    have hk := h.inj k1 k2 b s1 s2 a1 b1 a2 b2
    by_cases e1 : i = id'
    · by_cases e2 : j = id'
      · rw [e1, e2]
      · rw [if_pos e1] at a3; rw [if_neg e2] at b3; omega
    · by_cases e2 : j = id'
      · rw [if_neg e1] at a3; rw [if_pos e2] at b3; omega
      · rw [if_neg e1] at a3; rw [if_neg e2] at b3; omega
theorem flat_cut {sz : Nat} {es : List D} (h : ∀ e ∈ es, e.cells.length = sz) {off n : Nat} (hle : off + n ≤ es.length) : ((es.drop off).take n).flatMap D.cells = ((es.flatMap D.cells).drop (off * sz)).take (n * sz) := by
  have e1 : es.flatMap D.cells = (es.take off).flatMap D.cells ++ (es.drop off).flatMap D.cells := by rw [← List.flatMap_append, List.take_append_drop]
  have l1 : ((es.take off).flatMap D.cells).length = off * sz := by
    rw [flat_len fun e he => h e (List.mem_of_mem_take he), List.length_take]; congr 1; omega
  have e2 : (es.drop off).flatMap D.cells = ((es.drop off).take n).flatMap D.cells ++ ((es.drop off).drop n).flatMap D.cells := by rw [← List.flatMap_append, List.take_append_drop]
  have l2 : (((es.drop off).take n).flatMap D.cells).length = n * sz := by
    rw [flat_len fun e he => h e (List.mem_of_mem_drop (List.mem_of_mem_take he)), List.length_take, List.length_drop]; congr 1; omega
  rw [e1, ← l1, List.drop_left, e2, ← l2, List.take_left]
theorem flat_one : ∀ {es : List D} {us : List Value}, All2 (Reads S w) us es → es.flatMap D.cells = es
  | _, _, .nil => rfl
  | _, _, .cons h1 h2 => by rw [List.flatMap_cons, flat_one h2, h1.cellsOf]; rfl
/-- The cells of a cut of a row of the function's own. -/
theorem obSl_cells (h : Inv G N Sin w0 σ a w S m) {v : Value} {id sz off n : Nat} (hv : OwnV m w v id sz off n) {ob : Ob} (ho : σ.h id = some ob) {es : List D} (e : obSl ob off n = some es) :
    (v = .slice none 0 0 ∧ es = [] ∧ n = 0) ∨ ∃ ad cap news, v = .slice (some ad) n cap ∧ es.length = n ∧ All2 (Reads S w) news (es.flatMap D.cells) ∧ (∀ e ∈ es, e.cells.length = sz) ∧ ∀ j u, news[j]? = some u → w.cell? (ad.add j) = some u := by
  have hk := (h.obj id ob ho).1
  unfold OwnV at hv
  unfold ObjOk at hk
  split at hv
  · rename_i hm
    rw [hm] at hk
    obtain ⟨s, rfl⟩ := hk
    obtain ⟨⟨ad, rfl⟩, rfl, rfl⟩ := hv
    simp only [obSl] at e
    split at e
    · cases e
      cases ad with
      | none => exact .inl ⟨rfl, rfl, rfl⟩
      | some ad => exact .inr ⟨ad, 0, [], rfl, rfl, .nil, fun e he => (by cases he), fun j u hj => by simp at hj⟩
    · cases e
  · rename_i b sz' hm
    rw [hm] at hk
    obtain ⟨rfl, ad, cap, ty, M, rfl, h2, h3, h4, h5, h6⟩ := hv
    obtain ⟨k1, k2, k3, cur, ty', fz, k4, k5, k6⟩ := hk
    have addr : ∀ j, 0 < cap → ad.add j = ⟨b, off * sz' + j, none⟩ := fun j hc => by rw [h4 (.inl hc), add_none]
    cases ob with
    | row s es' =>
      simp only [Ob.sz] at k1
      subst k1
      simp only [obSl] at e
      split at e
      · rename_i hle
        cases e
        obtain ⟨q1, q2⟩ := cells_flat k6
        have hlen : ((es'.drop off).take n).length = n := by rw [List.length_take, List.length_drop]; omega
        have hsz : ∀ x ∈ (es'.drop off).take n, x.cells.length = s := fun x hx => q1 x (List.mem_of_mem_drop (List.mem_of_mem_take hx))
        have hall := (q2.drop (off * s)).take (n * s)
        refine .inr ⟨ad, cap, ((cur.toList.take (es'.length * s)).drop (off * s)).take (n * s), rfl, hlen, by rw [flat_cut q1 hle]; exact hall, hsz, fun j u hj => ?_⟩
        have hjn : j < n * s := by
          have := (List.getElem?_eq_some_iff.1 hj).1
          rw [List.length_take] at this
          omega
        have hn : 0 < n := by
          rcases Nat.eq_zero_or_pos n with h0 | h0
          · rw [h0] at hjn; simp at hjn
          · exact h0
        rw [addr j (by omega), cell_of_row w b _ cur ty' fz k4]
        rw [List.getElem?_take, if_pos hjn, List.getElem?_drop, List.getElem?_take] at hj
        split at hj
        · simpa using hj
        · cases hj
      · cases e
    | box cs =>
      simp only [Ob.sz] at k1
      subst k1
      simp only [obSl] at e
      split at e
      · rename_i hle
        have hall := allD_ok e
        have hb := ((all2_box k6).drop off).take n
        rw [hall] at hb
        have hb' : All2 (Reads S w) (((cur.toList.take cs.length).drop off).take n) es := by
          have hl := hb.length
          rw [List.length_map] at hl
          refine .mk hl fun i g1 g2 => ?_
          have := hb.get i g1 (by rw [List.length_map]; exact g2)
          rw [List.getElem_map] at this
          exact this
        have hlen : es.length = n := by
          have := congrArg List.length hall
          rw [List.length_take, List.length_drop, List.length_map] at this
          omega
        refine .inr ⟨ad, cap, _, rfl, hlen, by rw [flat_one hb']; exact hb', fun x hx => ?_, fun j u hj => ?_⟩
        · obtain ⟨i, hi, rfl⟩ := List.getElem_of_mem hx
          have := (hb'.get i (by rw [hb'.length]; exact hi) hi).cellsOf
          rw [this]; rfl
        · have hjn : j < n := by
            have := (List.getElem?_eq_some_iff.1 hj).1
            rw [List.length_take] at this
            omega
          rw [addr j (by omega), cell_of_row w b _ cur ty' fz k4]
          rw [List.getElem?_take, if_pos hjn, List.getElem?_drop, List.getElem?_take] at hj
          split at hj
          · simpa using hj
          · cases hj
      · cases e
/-- What is appended or copied: the cells news. -/
theorem toV_cells (h : Inv G N Sin w0 σ a w S m) {v : Value} {x : V} (hv : RV m S w v x) {ys : List D} (e : toV σ.h x = some (.sl ys)) {s : Nat} (hsz : allSz s ys = true) :
    (v = .slice none 0 0 ∧ ys = []) ∨ ∃ ad cap news, v = .slice (some ad) ys.length cap ∧ All2 (Reads S w) news (ys.flatMap D.cells) ∧ ∀ j u, news[j]? = some u → w.cell? (ad.add j) = some u := by
  unfold toV at e
  split at e
  · rename_i y
    unfold toW at e
    split at e
    · rename_i c
      cases c <;> simp only [toD] at e <;> first | (cases e; done) | skip
      · cases e
        have hv' : Reads S w v (.sl ys) := hv
        rcases hv'.row with h1 | ⟨ad, cap, sz', h1, h2, h3, h4⟩
        · exact .inl h1
        · obtain ⟨us, hall, hcell⟩ := (h4.size (allSz_ok hsz)).flat.list
          exact .inr ⟨ad, cap, us, h1, hall, hcell⟩
      · cases e
        obtain ⟨ad, rfl⟩ : ∃ ad, v = .slice ad 0 0 := hv
        cases ad with
        | none => exact .inl ⟨rfl, rfl⟩
        | some ad => exact .inr ⟨ad, 0, [], rfl, .nil, fun j u hj => by simp at hj⟩
      · split at e
        · rename_i ob ho
          simp only [Option.map_eq_some_iff] at e
          obtain ⟨es, he, e2⟩ := e
          cases e2
          rcases obSl_cells h hv ho he with ⟨h1, h2, _⟩ | ⟨ad, cap, news, h1, h2, h3, _, h4⟩
          · exact .inl ⟨h1, h2⟩
          · exact .inr ⟨ad, cap, news, by rw [h2]; exact h1, h3, h4⟩
        · cases e
    · simp only [Option.map_eq_some_iff] at e
      obtain ⟨_, _, e2⟩ := e
      cases e2
  · cases e
theorem src_ok (h : Inv G N Sin w0 σ a w S m) {u e : TypeId} {s : Nat} {str : Bool} (hu : (str = false ∧ P.underlying u = some (.slice e)) ∨ (str = true ∧ P.underlying u = some .string ∧ s = 1)) {v : Value} {x : V} (hv : RV m S w v x) {ys : List D} (e1 : srcV σ.h str x = some ys) (hsz : allSz s ys = true) :
    ∃ news, Src P s u v ys.length news w ∧ All2 (Reads S w) news (ys.flatMap D.cells) := by
  unfold srcV at e1
  split at e1
  · rename_i st
    cases e1
    obtain ⟨hus, rfl⟩ : P.underlying u = some .string ∧ s = 1 := by
      rcases hu with hu | hu
      · cases hu.1
      · exact hu.2
    rw [rv_str hv]
    refine ⟨byteCells st, ?_, ?_⟩
    · have := Src.ofString (P := P) w hus st
      have hl : (st.data.toList.map bD).length = st.size := by simp
      rw [hl]; exact this
    · have e2 : ∀ l : List UInt8, (l.map bD).flatMap D.cells = l.map bD := by
        intro l
        induction l with
        | nil => rfl
        | cons b r ih => simp only [List.map_cons, List.flatMap_cons]; rw [ih]; rfl
      rw [e2]
      refine .mk (by simp [byteCells]) fun i g1 g2 => ?_
      simp only [byteCells, List.getElem_map]
      exact .int _ _
  · split at e1
    · rename_i ys' hy
      cases e1
      have hkind : P.underlying u = some (.slice e) := by
        rcases hu with hu | hu
        · exact hu.2
        · cases hu.1
      rcases toV_cells h hv hy hsz with ⟨h1, rfl⟩ | ⟨ad, cap, news, h1, hall, hcell⟩
      · rw [h1]
        exact ⟨[], Src.ofNil w hkind 0, .nil⟩
      · refine ⟨news, ?_, hall⟩
        rw [h1]
        refine Src.ofSlice w hkind ad ys.length cap news ?_ hcell fun u hu' => ?_
        · rw [hall.length, flat_len (allSz_ok hsz)]
        · obtain ⟨j, hj, rfl⟩ := List.getElem_of_mem hu'
          exact (hall.get j hj (by rw [← hall.length]; exact hj)).oneCell
    · cases e1
  · cases e1
/-- All elements of a row have the cells that its type has. -/
theorem allSz_append {s : Nat} {es ys : List D} (h1 : ∀ e ∈ es, e.cells.length = s) (h2 : ∀ e ∈ ys, e.cells.length = s) : ∀ e ∈ es ++ ys, e.cells.length = s := by
  intro e he
  rcases List.mem_append.1 he with he | he
  · exact h1 e he
  · exact h2 e he
theorem rowApp {s : Nat} {es ys : List D} {cur : Array Value} (h : CellsOk m S w s cur (.row s es)) (hys : ∀ e ∈ ys, e.cells.length = s) {news : List Value} (hall : All2 (Reads S w) news (ys.flatMap D.cells)) (hle : (es.length + ys.length) * s ≤ cur.size) : CellsOk m S w s (setL cur (es.length * s) news) (.row s (es ++ ys)) := by
  obtain ⟨h1, h2⟩ := cells_flat h
  have hl := hall.length
  rw [flat_len hys] at hl
  rw [Nat.add_mul] at hle
  refine cells_of_flat (allSz_append h1 hys) (by rw [setL_size, List.length_append, Nat.add_mul]; exact hle) ?_
  rw [List.flatMap_append, List.length_append, Nat.add_mul]
  have e1 : (setL cur (es.length * s) news).toList.take (es.length * s + ys.length * s) = cur.toList.take (es.length * s) ++ news := by
    have hcl : cur.toList.length = cur.size := Array.length_toList
    have htl : (cur.toList.take (es.length * s)).length = es.length * s := by rw [List.length_take, hcl]; omega
    apply List.ext_getElem?
    intro i
    rw [List.getElem?_take]
    by_cases h3 : i < es.length * s
    · rw [if_pos (by omega), List.getElem?_append_left (by omega), List.getElem?_take, if_pos h3, Array.getElem?_toList, Array.getElem?_toList, setL_out _ _ _ _ (.inl h3)]
    · rw [List.getElem?_append_right (by omega), htl]
      by_cases h4 : i < es.length * s + ys.length * s
      · rw [if_pos h4, Array.getElem?_toList]
        have := setL_in news cur (es.length * s) (i - es.length * s) (by omega) (by omega)
        rw [show es.length * s + (i - es.length * s) = i by omega] at this
        rw [this, List.getElem?_eq_getElem]
      · rw [if_neg h4, List.getElem?_eq_none (by omega)]
  rw [e1]
  exact h2.append hall
theorem rowNew {s : Nat} {es : List D} (hes : ∀ e ∈ es, e.cells.length = s) {news : List Value} (hall : All2 (Reads S w) news (es.flatMap D.cells)) (rest : Array Value) : CellsOk m S w s (news.toArray ++ rest) (.row s es) := by
  have hl := hall.length
  rw [flat_len hes] at hl
  refine cells_of_flat hes (by simp; omega) ?_
  have : (news.toArray ++ rest).toList.take (es.length * s) = news := by
    rw [Array.toList_append, ← hl]
    simp
  rw [this]
  exact hall
theorem firstCells_zero (ad : Option Addr) (s : Nat) (w : World) : (Builtin.firstCells s 0 (.slice ad 0 0)).run P w = .ok ([] : List Value).toArray w := by
  cases ad with
  | none => exact run_firstCells_none _ _ _ _ _
  | some ad => exact run_firstCells_some w s 0 ad 0 0 [] (by simp) fun j v hj => by simp at hj
theorem snd_app (t e u : TypeId) {s b : Nat} {z : D} (ht : slTy P t = some (e, s, b, z)) {str : Bool} (hu : (str = false ∧ P.underlying u = some (.slice e)) ∨ (str = true ∧ P.underlying u = some .string ∧ s = 1)) (x y : Operand) (x' y' : SX) (c : Call) (ho : o.op = .call c) (hc : c.callee = .builtin .append) (hts : c.argTypes.toList = [t, u]) (hargs : c.args.toList = [x, y]) (hx : compX x = some x') (hy : compX y = some y')
    (h : Inv G N Sin w0 σ a w S m) (hd : ∀ t, o.dst = some t → t < N ∧ w0.fx t = none) {r : R} (hr : ef (ev G σ.f) σ.h σ.u (o.dst.getD 0) (.app str s b x' y') = some r) (hK : K (σ.put o.dst r)) : o.wp P a w (Nx G N Sin w0 K) Q := by
  obtain ⟨hu0, he⟩ := slTy_ok ht
  obtain ⟨i, zv, hi, hs, hb, hz, hpos, hlen, hrd⟩ := elTy_ok he
  have e1 : c.argTypes = #[t, u] := by apply Array.ext'; simpa using hts
  have e2 : c.args = #[x, y] := by apply Array.ext'; simpa using hargs
  have h1 := h.operand hx
  have h2 := h.operand hy
  have hexec : ∀ v w', (Builtin.append_ #[t, u] o.type #[a.eval x, a.eval y]).run P w = .ok v w' → (execOp a.eval o).run P w = .ok (.value v) w' := fun v w' hv => by
    simp only [execOp, ho, resolve, hc, invoke, builtin, e1, e2]
    simp [hv]
  simp only [ef] at hr
  split at hr
  · cases hr
  · rename_i ys hys
    split at hr
    · rename_i hsz
      obtain ⟨news, hsrc, hall⟩ := src_ok h hu h2.1 hys hsz
      have hysz := allSz_ok hsz
      have hnl := hall.length
      rw [flat_len hysz] at hnl
      -- a new row
      have grow : ∀ (base : Option Addr) (n cap : Nat) (es : List D) (olds : List Value), a.eval x = .slice base n cap → (∀ e ∈ es, e.cells.length = s) → es.length = n → All2 (Reads S w) olds (es.flatMap D.cells) → (Builtin.firstCells s n (.slice base n cap)).run P w.drew = .ok olds.toArray w.drew →
          cap < n + ys.length → (n + ys.length) * b ≤ 140737488355328 → n + ys.length ≤ 140737488355328 → ∀ (h0 : Heap), (∃ id, h0 = upd σ.h id none) ∨ h0 = σ.h → σ.u (8 * o.dst.getD 0) = false →
          K (σ.put o.dst (.w (.c (.own (8 * o.dst.getD 0) s 0 (es ++ ys).length)), upd h0 (8 * o.dst.getD 0) (some (.row s (es ++ ys))), upd σ.u (8 * o.dst.getD 0) true)) → o.wp P a w (Nx G N Sin w0 K) Q := by
        intro base n cap es olds hval hes hesn holds hfc hlt hby h47 h0 hh0 huu hK'
        have run := run_append_grow_src (P := P) w t u o.type e i zv hu0 hi hz base n cap olds (by rw [hs]; exact hfc) (a.eval y) ys.length news (by rw [hs]; exact hsrc) hlt (by omega) (by rw [hb]; exact growslice_fits hlt hby)
        have hI0 : Inv G N Sin w0 ⟨σ.f, h0, σ.u⟩ a w.drew S m := by
          rcases hh0 with ⟨id, rfl⟩ | rfl
          · exact (h.kill id).drew
          · exact h.drew
        have hge := grownCap_ge w (n + ys.length) cap e
        have hcm := grownCap_le_maxLen w (n + ys.length) cap e (by simp only [maxLen]; omega)
        have hcell : CellsOk m S w.drew s ((olds ++ news).toArray ++ Builtin.zeroCells zv.cells (grownCap w (n + ys.length) cap e - (n + ys.length))) (.row s (es ++ ys)) :=
          rowNew (w := w.drew) (allSz_append hes hysz) (by rw [List.flatMap_append]; exact ((holds.append hall).weak fun _ _ _ _ h => h.keep ⟨fun _ _ _ _ h => h, fun _ _ h => h⟩)) _
        have hzs : zv.cells.size = s := by have := (hrd S w).length; rw [hlen] at this; simpa using this
        have hol := holds.length
        rw [flat_len hes, hesn] at hol
        have hsize : ((olds ++ news).toArray ++ Builtin.zeroCells zv.cells (grownCap w (n + ys.length) cap e - (n + ys.length))).size = grownCap w (n + ys.length) cap e * s := by
          rw [Array.size_append, List.size_toArray, List.length_append, size_zeroCells, hzs, hol, hnl, ← Nat.add_mul, ← Nat.add_mul]
          congr 1; omega
        refine finNewD (σ := ⟨σ.f, h0, σ.u⟩) (sz := s) (ob := .row s (es ++ ys)) (c := .own (8 * o.dst.getD 0) s 0 (es ++ ys).length) hI0 hd huu rfl (thawed0 _) hcell (fun j hj => by cases hj) (hexec _ _ (by rw [hval]; exact run)) ?_ rfl hK'
        have hel : (es ++ ys).length = n + ys.length := by rw [List.length_append, hesn]
        rw [hel]
        exact ownNew (w := w.drew) hge hcm (by rw [hsize]; exact Nat.le_refl _)
      split at hr
      · rename_i ex
        split at hr
        · rename_i hcond
          obtain ⟨huu, rfl⟩ := newO_ok hr
          rw [ex] at h1
          obtain ⟨ad0, hval⟩ : ∃ ad, a.eval x = .slice ad 0 0 := h1.1
          rcases Nat.eq_zero_or_pos ys.length with h0 | h0
          · have hy0 : ys = [] := List.eq_nil_of_length_eq_zero h0
            subst hy0
            have hn0 : news = [] := List.eq_nil_of_length_eq_zero (by rw [hnl]; simp)
            subst hn0
            have run : (Builtin.append_ #[t, u] o.type #[a.eval x, a.eval y]).run P w = .ok (.slice ad0 0 0) w := by
              rw [hval]
              have hl0 := hsrc.len w
              have hc0 := hsrc.cells
              simp only [List.length_nil] at hl0 hc0
              rcases hsrc.kind with ⟨e', hk⟩ | hk <;> cases ad0 <;> simp [Builtin.append_, run_underlying hu0, run_underlying hk, sizeOf, typeInfo, hi, hs, hl0, hc0, storeCells]
            refine fin (h.newNil (sz := s) huu) hd (hexec _ _ run) (x := .w (.c (.own (8 * o.dst.getD 0) s 0 0))) ?_ (fun i hi => ?_) hK
            · show OwnV _ _ _ _ _ _ _
              unfold OwnV
              simp only [upd, if_true]
              exact ⟨⟨_, rfl⟩, trivial, trivial⟩
            · have : i ∈ [8 * o.dst.getD 0] := hi
              simp only [List.mem_singleton] at this
              simp [upd, this]
          · exact grow ad0 0 0 [] [] hval (fun e he => by cases he) rfl .nil (firstCells_zero _ _ _) (by omega) (by simpa using hcond.1) (by simpa using hcond.2) σ.h (.inr rfl) huu hK
        · cases hr
      · rename_i id sz' off n ex
        split at hr
        · rename_i szr es hob
          split at hr
          · rename_i hcond
            obtain ⟨rfl, rfl, rfl, hby, h47⟩ := hcond
            obtain ⟨huu, rfl⟩ := newO_ok hr
            rw [ex] at h1
            have hobj := h.obj id _ hob
            have hv' : OwnV m w (a.eval x) id sz' 0 es.length := h1.1
            have hk := hobj.1
            unfold OwnV at hv'
            unfold ObjOk at hk
            split at hv'
            · rename_i hm
              rw [hm] at hk
              obtain ⟨s2, hrow⟩ := hk
              cases hrow
              obtain ⟨⟨ad0, hval⟩, _, _⟩ := hv'
              rcases Nat.eq_zero_or_pos ys.length with h0 | h0
              · have hy0 : ys = [] := List.eq_nil_of_length_eq_zero h0
                subst hy0
                have hn0 : news = [] := List.eq_nil_of_length_eq_zero (by rw [hnl]; simp)
                subst hn0
                have run : (Builtin.append_ #[t, u] o.type #[a.eval x, a.eval y]).run P w = .ok (.slice ad0 0 0) w := by
                  rw [hval]
                  have hl0 := hsrc.len w
                  have hc0 := hsrc.cells
                  simp only [List.length_nil] at hl0 hc0
                  rcases hsrc.kind with ⟨e', hk⟩ | hk <;> cases ad0 <;> simp [Builtin.append_, run_underlying hu0, run_underlying hk, sizeOf, typeInfo, hi, hs, hl0, hc0, storeCells]
                refine fin ((h.kill id).newNil (sz := szr) huu) hd (hexec _ _ run) (x := .w (.c (.own (8 * o.dst.getD 0) szr 0 0))) ?_ (fun i hi => ?_) hK
                · show OwnV _ _ _ _ _ _ _
                  unfold OwnV
                  simp only [upd, if_true]
                  exact ⟨⟨_, rfl⟩, trivial, trivial⟩
                · have : i ∈ [8 * o.dst.getD 0] := hi
                  simp only [List.mem_singleton] at this
                  simp [upd, this]
              · exact grow ad0 0 0 [] [] hval (fun e he => by cases he) rfl .nil (firstCells_zero _ _ _) (by omega) (by simpa using hby) (by simpa using h47) _ (.inl ⟨id, rfl⟩) huu hK
            · rename_i bb sz2 hm
              rw [hm] at hk
              obtain ⟨rfl, ad, cap, ty, M, hval, g2, g3, g4, g5, g6⟩ := hv'
              obtain ⟨k1, k2, k3, cur, ty', fz, k4, k5, k6⟩ := hk
              simp only [Ob.sz] at k1
              subst k1
              have hM : M = cur.size := by
                unfold World.shape? at g5
                rw [k4] at g5
                simp only [Option.some.injEq, Prod.mk.injEq] at g5
                exact g5.2.symm
              subst hM
              obtain ⟨hes, hflat⟩ := cells_flat k6
              by_cases hroom : es.length + ys.length ≤ cap
              · -- there is room
                have hfit : (es.length + ys.length) * szr ≤ cur.size := Nat.le_trans (Nat.mul_le_mul_right _ hroom) (by simpa using g6)
                have hfit' := hfit
                rw [Nat.add_mul] at hfit'
                have run : (Builtin.append_ #[t, u] o.type #[a.eval x, a.eval y]).run P w = .ok (.slice (some ad) (es.length + ys.length) cap) (w.setCells bb (es.length * szr) news) := by
                  rw [hval]
                  rcases Nat.eq_zero_or_pos cap with hc0 | hc0
                  · subst hc0
                    have hy0 : ys = [] := List.eq_nil_of_length_eq_zero (by omega)
                    have he0 : es.length = 0 := by omega
                    subst hy0
                    have hn0 : news = [] := List.eq_nil_of_length_eq_zero (by rw [hnl]; simp)
                    subst hn0
                    rw [he0]
                    have hl0 := hsrc.len w
                    have hc0 := hsrc.cells
                    simp only [List.length_nil] at hl0 hc0
                    rcases hsrc.kind with ⟨e', hk⟩ | hk <;> simp [Builtin.append_, run_underlying hu0, run_underlying hk, sizeOf, typeInfo, hi, hs, hl0, hc0, storeCells, World.setCells]
                  · have := run_append_room_src (P := P) w t u o.type e i hu0 hi bb 0 es.length cap (a.eval y) ys.length news (by rw [hs]; exact hsrc) hroom (fun j hj => by
                      rw [hs, cell_of_row w bb _ cur ty' fz k4]
                      have : 0 + es.length * szr + j < cur.size := by omega
                      simp only [Array.getElem?_eq_getElem this, Option.isSome_some]) (fun j hj => frozen_of k4 k5 (by rw [hs]; omega))
                    rw [hs] at this
                    have had := g4 (.inr rfl)
                    simp only [Nat.zero_mul] at had
                    rw [had]
                    simpa using this
                have hI := h.write (w' := w.setCells bb (es.length * szr) news) (o' := .row szr (es ++ ys)) hob hm rfl k4 (setCells_heap news _ w cur k4) (setL_size _ _ _) (fun k hk => setCells_other news _ w k hk) (rowApp k6 hysz hall hfit) (fun j hj => by cases hj) (setCells_below k2 news _ w h.below) (setCells_size news _ w)
                have hI2 := hI.rename (id := id) (id' := 8 * o.dst.getD 0) (ob := .row szr (es ++ ys)) (by simp [upd]) huu rfl
                have hcol : upd (upd σ.h id (some (.row szr (es ++ ys)))) id none = upd σ.h id none := by
                  funext k; simp only [upd]; split <;> rfl
                rw [hcol, hm] at hI2
                refine fin hI2 hd (hexec _ _ run) (x := .w (.c (.own (8 * o.dst.getD 0) szr 0 (es ++ ys).length))) ?_ (fun i hi => ?_) hK
                · show OwnV _ _ _ _ _ _ _
                  unfold OwnV
                  simp only [upd, if_true]
                  refine ⟨trivial, ad, cap, ty', cur.size, by rw [List.length_append], by rw [List.length_append]; omega, g3, fun _ => g4 (.inr rfl), ?_, g6⟩
                  unfold World.shape?
                  rw [setCells_heap news _ w cur k4]
                  simp only [setL_size]
                · have : i ∈ [8 * o.dst.getD 0] := hi
                  simp only [List.mem_singleton] at this
                  simp [upd, this]
              · -- there is none
                refine grow (some ad) es.length cap es (cur.toList.take (es.length * szr)) hval hes rfl hflat ?_ (by omega) hby h47 _ (.inl ⟨id, rfl⟩) huu hK
                have hle := k6.1
                have hcl : cur.toList.length = cur.size := Array.length_toList
                refine run_firstCells_some w.drew szr es.length ad es.length cap _ (by rw [List.length_take, hcl]; omega) fun j v hj => ?_
                have hjl : j < es.length * szr := by
                  have := (List.getElem?_eq_some_iff.1 hj).1
                  rw [List.length_take] at this; omega
                have hpos2 : 0 < cap := by
                  rcases Nat.eq_zero_or_pos es.length with h0 | h0
                  · rw [h0] at hjl; simp at hjl
                  · omega
                have had := g4 (.inr rfl)
                simp only [Nat.zero_mul] at had
                rw [had, add_none]
                show w.cell? _ = _
                rw [cell_of_row w bb _ cur ty' fz k4]
                rw [List.getElem?_take, if_pos hjl] at hj
                simpa using hj
          · cases hr
        · cases hr
      · cases hr
    · cases hr
theorem ef_appN {ρ : SX → V} {h : Heap} {u : Nat → Bool} {dst : Nat} {str : Bool} {s b : Nat} {x y : SX} {r : R} (e : ef ρ h u dst (.appN str s b x y) = some r) : ef ρ h u dst (.app str s b x y) = some r := by
  simp only [ef] at e ⊢
  split at e
  · cases e
  · split at e
    · rename_i hsz
      rw [if_pos hsz]
      split at e
      · rename_i hx
        simp only [hx]
        exact e
      · cases e
    · cases e
end
end Go.Proofs.Ytldcgjhfaledfaa
