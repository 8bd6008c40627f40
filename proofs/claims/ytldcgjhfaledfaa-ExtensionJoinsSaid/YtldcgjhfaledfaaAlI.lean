/- The plain logic (9): loads; new memory. Own work. -/
import Derived.Test.YtldcgjhfaledfaaAlH
set_option linter.unusedVariables false
set_option linter.unusedSimpArgs false
namespace Go.Proofs.Ytldcgjhfaledfaa
open Go.RowKit

section
variable {P : Program} {G : Glob} {N : Nat} {Sin : Cells} {w0 : Gh} {σ : St} {a : Act} {w : World} {S : Cells} {m : Mp} {o : Oper} {K : St → Prop} {Q : Exit → Act → World → Prop}

theorem tyKd_ag {t : TypeId} {n : Nat} (h : tyKd P t = some (.ag n)) : (isAgg t).run P w = .ok true w ∧ (sizeOf t).run P w = .ok n w := by
  unfold tyKd at h
  split at h
  · rename_i i fs hi hu
    cases h
    exact ⟨by unfold isAgg; simp [run_underlying hu], by simp [sizeOf, typeInfo, hi]⟩
  · rename_i i n' el hi hu
    cases h
    exact ⟨by unfold isAgg; simp [run_underlying hu], by simp [sizeOf, typeInfo, hi]⟩
  · split at h <;> cases h
  · cases h
theorem tyKd_sc {t : TypeId} (h : tyKd P t = some .sc) : (isAgg t).run P w = .ok false w ∧ (sizeOf t).run P w = .ok 1 w := by
  unfold tyKd at h
  split at h
  · cases h
  · cases h
  · rename_i i d hn1 hn2 hi hu
    split at h
    · rename_i h1
      refine ⟨?_, by simp [sizeOf, typeInfo, hi, h1]⟩
      unfold isAgg
      simp only [Sem.run_bind, run_underlying hu, Result.andThen_ok]
      cases d <;> first | rfl | exact absurd rfl (hn1 _) | exact absurd rfl (hn2 _ _)
    · cases h
  · cases h
theorem tyKd_size {t : TypeId} {kd : Kd} (h : tyKd P t = some kd) : (sizeOf t).run P w = .ok kd.size w := by
  cases kd with
  | sc => exact (tyKd_sc h).2
  | ag n => exact (tyKd_ag h).2
def valOf : Kd → List Value → Value
  | .sc, us => us.headD undef
  | .ag _, us => .agg us.toArray
theorem run_loadVar {t : TypeId} {kd : Kd} (ht : tyKd P t = some kd) (ad : Addr) (us : List Value) (hl : us.length = kd.size) (hc : ∀ j v, us[j]? = some v → w.cell? (ad.add j) = some v) : (loadVar t ad).run P w = .ok (valOf kd us) w := by
  cases kd with
  | sc =>
    match us, hl with
    | [u], _ =>
      have := hc 0 u rfl
      rw [Addr.add_zero'] at this
      simp [loadVar, (tyKd_sc (w := w) ht).1, this, valOf]
  | ag n =>
    have hlen : us.length = n := hl
    have := run_loadCells_list (P := P) w ad us hc
    rw [hlen] at this
    simp [loadVar, (tyKd_ag (w := w) ht).1, (tyKd_ag (w := w) ht).2, this, valOf]
theorem snd_load' {t : TypeId} {kd : Kd} (ht : tyKd P t = some kd) (x : Operand) (ho : o.op = .load t x) (h : Inv G N Sin w0 σ a w S m) (hd : ∀ t, o.dst = some t → t < N ∧ w0.fx t = none) (ad : Addr) (hv : a.eval x = .pointer (some ad)) (us : List Value) (hl : us.length = kd.size) (hc : ∀ j v, us[j]? = some v → w.cell? (ad.add j) = some v)
    {y : W} (hy : RW m S w (valOf kd us) y) (hids : ∀ i ∈ y.ids, σ.u i = true) (hK : K (σ.put o.dst (.w y, σ.h, σ.u))) : o.wp P a w (Nx G N Sin w0 K) Q := by
  refine fin0 h hd (x := .w y) ?_ hy hids hK
  simp only [execOp, ho, hv]
  refine run_v ?_
  simp [Instr.loadAt, Instr.sureAddr, run_loadVar ht ad us hl hc]
/-- The cells at an address, as a list. -/
theorem CellsAt.list {ad : Addr} {cs : List D} (h : CellsAt S w ad cs) : ∃ us : List Value, All2 (Reads S w) us cs ∧ ∀ j v, us[j]? = some v → w.cell? (ad.add j) = some v := by
  have h1 : ∀ j, ∃ v, ∀ hj : j < cs.length, w.cell? ⟨ad.block, ad.off + j, ad.spot⟩ = some v ∧ Reads S w v cs[j] := by
    intro j
    by_cases hj : j < cs.length
    · obtain ⟨v, _, h2, h3⟩ := h j hj
      exact ⟨v, fun _ => ⟨h2, h3⟩⟩
    · exact ⟨undef, fun h => absurd h hj⟩
  obtain ⟨u, hu⟩ := Classical.axiomOfChoice h1
  refine ⟨(List.range cs.length).map u, .mk (by simp) fun i g1 g2 => by simpa using (hu i g2).2, fun j v hv => ?_⟩
  have hj : j < cs.length := by
    have := (List.getElem?_eq_some_iff.1 hv).1
    simpa using this
  simp [hj] at hv
  subst hv
  have h2 := (hu j hj).1
  have hs := cell_spot h2
  obtain ⟨b, off, sp⟩ := ad
  simp only at hs
  subst hs
  rw [add_none]
  exact h2
theorem all2_box {cs : List C} {cur : Array Value} {sz : Nat} (h : CellsOk m S w sz cur (.box cs)) : All2 (RC m S w) (cur.toList.take cs.length) cs := by
  have hle := h.1
  refine .mk (by simp; omega) fun i g1 g2 => ?_
  obtain ⟨v, h1, h2⟩ := h.2 i g2
  have : (cur.toList.take cs.length)[i] = v := by
    rw [List.getElem_take]
    have := (Array.getElem?_eq_some_iff.1 h1).2
    simpa using this
  rw [this]
  exact h2
theorem all2_row {s : Nat} {es : List D} {cur : Array Value} {sz : Nat} (h : CellsOk m S w sz cur (.row s es)) {i : Nat} (hi : i < es.length) : All2 (Reads S w) ((cur.toList.drop (i * sz)).take sz) es[i].cells := by
  have hle : i * sz + sz ≤ cur.size := by
    have := Nat.mul_le_mul_right sz (show i + 1 ≤ es.length by omega)
    rw [Nat.add_mul] at this
    have := h.1
    omega
  obtain ⟨h0, h1⟩ := h.2 i hi
  refine .mk (by simp [h0]; omega) fun j g1 g2 => ?_
  obtain ⟨v, h2, h3⟩ := h1 j g2
  have : ((cur.toList.drop (i * sz)).take sz)[j] = v := by
    rw [List.getElem_take, List.getElem_drop]
    have := (Array.getElem?_eq_some_iff.1 h2).2
    simpa using this
  rw [this]
  exact h3
theorem all2_flat : ∀ {es : List D} {us : List Value}, us.length = es.length → (∀ i (h : i < es.length) (h2 : i < us.length), es[i].cells.length = 1 ∧ ∀ h3 : 0 < es[i].cells.length, Reads S w us[i] es[i].cells[0]) → All2 (Reads S w) us (es.flatMap D.cells)
  | [], [], _, _ => .nil
  | [], _ :: _, h, _ => by simp at h
  | _ :: _, [], h, _ => by simp at h
  | e :: es, u :: us, hl, h => by
    have h0 := h 0 (by simp) (by simp)
    simp only [List.getElem_cons_zero] at h0
    have he : ∃ x, e.cells = [x] := by
      match e.cells, h0.1 with
      | [x], _ => exact ⟨x, rfl⟩
    obtain ⟨x, hx⟩ := he
    rw [List.flatMap_cons, hx]
    refine .cons ?_ (all2_flat (by simpa using hl) fun i g1 g2 => ?_)
    · have := h0.2 (by rw [hx]; simp)
      simpa [hx] using this
    · have := h (i + 1) (by simpa using g1) (by simpa using g2)
      simpa using this
theorem ld_at {kd : Kd} {v : Value} {y : W} (ad : Addr) (hv : v = .pointer (some ad)) (us : List Value) (hl : us.length = kd.size) (hc : ∀ j u, us[j]? = some u → w.cell? (ad.add j) = some u) (hy : RW m S w (valOf kd us) y) (hids : ∀ i ∈ y.ids, σ.u i = true) :
    ∃ (ad : Addr) (us : List Value), v = .pointer (some ad) ∧ us.length = kd.size ∧ (∀ j u, us[j]? = some u → w.cell? (ad.add j) = some u) ∧ RW m S w (valOf kd us) y ∧ ∀ i ∈ y.ids, σ.u i = true := ⟨ad, us, hv, hl, hc, hy, hids⟩
/-- Cells that are only read. -/
theorem ld_ro {vv : Value} {cs : List D} {ad : Addr} {kd : Kd} {y : W} (hv : vv = .pointer (some ad)) (hcs : CellsAt S w ad cs)
    (hy : (match kd with | .sc => (cs[0]?).map fun x => W.c (C.d x) | .ag n => if n ≤ cs.length then some (W.c (C.d (D.agg (cs.take n)))) else none) = some y) :
    ∃ (ad : Addr) (us : List Value), vv = .pointer (some ad) ∧ us.length = kd.size ∧ (∀ j u, us[j]? = some u → w.cell? (ad.add j) = some u) ∧ RW m S w (valOf kd us) y ∧ ∀ i ∈ y.ids, σ.u i = true := by
  obtain ⟨us, hall, hcell⟩ := hcs.list
  split at hy
  · simp only [Option.map_eq_some_iff] at hy
    obtain ⟨c, hc, rfl⟩ := hy
    obtain ⟨v, hv2, hr⟩ := hall.get? hc
    refine ld_at _ hv [v] rfl (fun j u hj => ?_) (y := .c (.d c)) (Reads.rw hr) (fun j hj => by cases hj)
    match j, hj with
    | 0, hj => simp at hj; subst hj; exact hcell 0 _ hv2
  · rename_i n
    split at hy
    · rename_i hle
      cases hy
      refine ld_at _ hv (us.take n) ?_ (fun j u hj => ?_) (y := .c (.d (.agg (cs.take n)))) ⟨_, rfl, hall.take n⟩ (fun j hj => by cases hj)
      · rw [(hall.take n).length]; simp [Kd.size]; omega
      · rw [List.getElem?_take] at hj
        split at hj
        · exact hcell j u hj
        · cases hj
    · cases hy
/-- What is loaded through a pointer. -/
theorem ld_ok (h : Inv G N Sin w0 σ a w S m) {vv : Value} {X : V} (h1 : RV m S w vv X) {kd : Kd} {y : W} (hy : ldV σ.h kd X = some y) :
    ∃ (ad : Addr) (us : List Value), vv = .pointer (some ad) ∧ us.length = kd.size ∧ (∀ j u, us[j]? = some u → w.cell? (ad.add j) = some u) ∧ RW m S w (valOf kd us) y ∧ ∀ i ∈ y.ids, σ.u i = true := by
  unfold ldV at hy
  split at hy
  · rename_i id sz i off
    obtain ⟨b, hm, hv⟩ := h1
    split at hy
    · rename_i cs hob
      have hobj := h.obj id _ hob
      have hk := hobj.1
      unfold ObjOk at hk
      rw [hm] at hk
      obtain ⟨hsz, _, _, cur, ty, fz, g4, _, g6⟩ := hk
      simp only [Ob.sz] at hsz
      subst hsz
      have hall := all2_box g6
      have hcell : ∀ j v, (cur.toList.take cs.length)[i + off + j]? = some v → w.cell? ((⟨b, i * 1 + off, none⟩ : Addr).add j) = some v := fun j v hj => by
        rw [add_none, cell_of_row w b _ cur ty fz g4]
        rw [List.getElem?_take] at hj
        split at hj
        · simpa using hj
        · cases hj
      split at hy
      · simp only [Option.map_eq_some_iff] at hy
        obtain ⟨c, hc, rfl⟩ := hy
        obtain ⟨v, hv2, hr⟩ := hall.get? hc
        refine ld_at _ hv [v] rfl (fun j u hj => ?_) (y := .c c) (RC.rw hr) (fun j hj => hobj.2.2 j (List.mem_flatMap.2 ⟨c, List.mem_of_getElem? hc, hj⟩))
        match j, hj with
        | 0, hj => simp at hj; subst hj; exact hcell 0 _ hv2
      · rename_i n
        split at hy
        · rename_i hle
          cases hy
          have hs := (hall.drop (i + off)).take n
          have hmk := mkAgg_ok hs
          refine ld_at _ hv (((cur.toList.take cs.length).drop (i + off)).take n) ?_ (fun j u hj => ?_) hmk.1 (fun j hj => ?_)
          · have := hs.length
            rw [this]
            simp [Kd.size]; omega
          · refine hcell j u ?_
            rw [List.getElem?_take] at hj
            split at hj
            · rwa [List.getElem?_drop] at hj
            · cases hj
          · obtain ⟨c, hc, hj'⟩ := List.mem_flatMap.1 (hmk.2 j hj)
            exact hobj.2.2 j (List.mem_flatMap.2 ⟨c, List.mem_of_mem_drop (List.mem_of_mem_take hc), hj'⟩)
        · cases hy
    · rename_i szr es hob
      have hobj := h.obj id _ hob
      have hk := hobj.1
      unfold ObjOk at hk
      rw [hm] at hk
      obtain ⟨hsz, _, _, cur, ty, fz, g4, _, g6⟩ := hk
      split at hy
      · rename_i e he
        obtain ⟨hlt, rfl⟩ := List.getElem?_eq_some_iff.1 he
        have hall := all2_row g6 hlt
        have hcell : ∀ j v, ((cur.toList.drop (i * sz)).take sz)[off + j]? = some v → w.cell? ((⟨b, i * sz + off, none⟩ : Addr).add j) = some v := fun j v hj => by
          rw [add_none, cell_of_row w b _ cur ty fz g4]
          rw [List.getElem?_take] at hj
          split at hj
          · rw [List.getElem?_drop] at hj; rw [Nat.add_assoc]; simpa using hj
          · cases hj
        split at hy
        · simp only [Option.map_eq_some_iff] at hy
          obtain ⟨c, hc, rfl⟩ := hy
          obtain ⟨v, hv2, hr⟩ := hall.get? hc
          refine ld_at _ hv [v] rfl (fun j u hj => ?_) (y := .c (.d c)) (Reads.rw hr) (fun j hj => by cases hj)
          match j, hj with
          | 0, hj => simp at hj; subst hj; exact hcell 0 _ hv2
        · rename_i n
          split at hy
          · rename_i hle
            cases hy
            have hs := (hall.drop off).take n
            refine ld_at _ hv ((((cur.toList.drop (i * sz)).take sz).drop off).take n) ?_ (fun j u hj => ?_) (y := .c (.d (.agg ((es[i].cells.drop off).take n)))) ⟨_, rfl, hs⟩ (fun j hj => by cases hj)
            · rw [hs.length]
              simp [Kd.size]; omega
            · refine hcell j u ?_
              rw [List.getElem?_take] at hj
              split at hj
              · rwa [List.getElem?_drop] at hj
              · cases hj
          · cases hy
      · cases hy
    · cases hy
  · rename_i id sz
    obtain ⟨b, hm, hv⟩ := h1
    split at hy
    · rename_i szr es hob
      split at hy
      · rename_i hc
        obtain ⟨rfl, rfl⟩ := hc
        cases hy
        have hobj := h.obj id _ hob
        have hk := hobj.1
        unfold ObjOk at hk
        rw [hm] at hk
        obtain ⟨hsz, _, _, cur, ty, fz, g4, _, g6⟩ := hk
        simp only [Ob.sz] at hsz
        subst hsz
        have hle := g6.1
        have hall : All2 (Reads S w) (cur.toList.take es.length) (es.flatMap D.cells) := by
          refine all2_flat (by simp; omega) fun i q1 q2 => ?_
          obtain ⟨k1, k2⟩ := g6.2 i q1
          refine ⟨k1, fun q3 => ?_⟩
          obtain ⟨v, k3, k4⟩ := k2 0 q3
          have : (cur.toList.take es.length)[i] = v := by
            rw [List.getElem_take]
            have := (Array.getElem?_eq_some_iff.1 k3).2
            simpa using this
          rw [this]
          exact k4
        refine ld_at _ hv (cur.toList.take es.length) (by simp [Kd.size]; omega) (fun j u hj => ?_) (y := .c (.d (.agg (es.flatMap D.cells)))) ⟨_, rfl, hall⟩ (fun j hj => by cases hj)
        rw [add_none, cell_of_row w b _ cur ty fz g4]
        rw [List.getElem?_take] at hj
        split at hj
        · simpa using hj
        · cases hj
      · cases hy
    · cases hy
  · obtain ⟨ad, hv, hcs⟩ := h1
    exact ld_ro hv hcs hy
  · rename_i es
    obtain ⟨ad, sz, hv, hrow⟩ := h1
    split at hy
    · rename_i hc
      obtain ⟨hc1, rfl⟩ := hc
      cases hy
      have hrow := hrow.size (allSz_ok hc1)
      have h2 : ∀ i, ∃ v, ∀ hi : i < es.length, w.cell? ⟨ad.block, ad.off + i, ad.spot⟩ = some v ∧ es[i].cells.length = 1 ∧ ∀ h3 : 0 < es[i].cells.length, Reads S w v es[i].cells[0] := by
        intro i
        by_cases hi : i < es.length
        · obtain ⟨q1, q2⟩ := hrow i hi
          obtain ⟨v, _, q3, q4⟩ := q2 0 (by omega)
          exact ⟨v, fun _ => ⟨by simpa using q3, q1, fun _ => q4⟩⟩
        · exact ⟨undef, fun h => absurd h hi⟩
      obtain ⟨u, hu⟩ := Classical.axiomOfChoice h2
      refine ld_at _ hv ((List.range es.length).map u) (by simp [Kd.size]) (fun j v hj => ?_) (y := .c (.d (.agg (es.flatMap D.cells)))) ⟨_, rfl, ?_⟩ (fun j hj => by cases hj)
      · have hjl : j < es.length := by
          have := (List.getElem?_eq_some_iff.1 hj).1
          simpa using this
        simp [hjl] at hj
        subst hj
        have q := (hu j hjl).1
        have hs := cell_spot q
        obtain ⟨b, off, sp⟩ := ad
        simp only at hs
        subst hs
        rw [add_none]
        exact q
      · refine all2_flat (by simp) fun i q1 q2 => ?_
        have := hu i q1
        exact ⟨this.2.1, fun h3 => by simpa using this.2.2 h3⟩
    · cases hy
  · obtain ⟨ad, hv, hcs⟩ := Reads.cellsAt h1
    exact ld_ro hv hcs hy
  · cases hy

/-! ### New memory -/
theorem snd_load {t : TypeId} {kd : Kd} (ht : tyKd P t = some kd) (x : Operand) (x' : SX) (ho : o.op = .load t x) (hx : compX x = some x') (h : Inv G N Sin w0 σ a w S m) (hd : ∀ t, o.dst = some t → t < N ∧ w0.fx t = none)
    {y : W} (hy : ldV σ.h kd (ev G σ.f x') = some y) (hK : K (σ.put o.dst (.w y, σ.h, σ.u))) : o.wp P a w (Nx G N Sin w0 K) Q := by
  obtain ⟨ad, us, h1, h2, h3, h4, h5⟩ := ld_ok h (h.operand hx).1 hy
  exact snd_load' ht x ho h hd ad h1 us h2 h3 h4 h5 hK
theorem Keeps.alloc (h : Inv G N Sin w0 σ a w S m) (ob : Obj) : Keeps S w (w.alloc ob) :=
  keeps_of_heap (fun b i hs => (h.sin b i hs).1) fun b hlt => Below.heap_alloc w ob b hlt
theorem finNew (h : Inv G N Sin w0 σ a w S m) (hd : ∀ t, o.dst = some t → t < N ∧ w0.fx t = none) {id sz : Nat} {ob : Ob} {c : C} {v : Value} {cur : Array Value} {ty : TypeId} {fz : Nat × Nat} (hu : σ.u id = false) (hsz : ob.sz = sz) (hfz : Thawed cur fz)
    (hc : CellsOk m S w sz cur ob) (hids : ∀ j ∈ ob.ids, σ.u j = true) (hr : (execOp a.eval o).run P w = .ok (.value v) (w.alloc (.cells cur ty fz)))
    (hv : RC (upd m id (some (w.heap.size, sz))) S (w.alloc (.cells cur ty fz)) v c) (hci : c.ids = [id]) (hK : K (σ.put o.dst (.w (.c c), upd σ.h id (some ob), upd σ.u id true))) : o.wp P a w (Nx G N Sin w0 K) Q :=
  fin (x := .w (.c c)) (h.newOb hu hsz hfz hc hids) hd hr (RC.rw hv) (fun i hi => by
    have : i ∈ c.ids := hi
    rw [hci] at this
    simp only [List.mem_singleton] at this
    simp [upd, this]) hK
theorem finNewD (h : Inv G N Sin w0 σ a w.drew S m) (hd : ∀ t, o.dst = some t → t < N ∧ w0.fx t = none) {id sz : Nat} {ob : Ob} {c : C} {v : Value} {cur : Array Value} {ty : TypeId} {fz : Nat × Nat} (hu : σ.u id = false) (hsz : ob.sz = sz) (hfz : Thawed cur fz)
    (hc : CellsOk m S w.drew sz cur ob) (hids : ∀ j ∈ ob.ids, σ.u j = true) (hr : (execOp a.eval o).run P w = .ok (.value v) (w.drew.alloc (.cells cur ty fz)))
    (hv : RC (upd m id (some (w.heap.size, sz))) S (w.drew.alloc (.cells cur ty fz)) v c) (hci : c.ids = [id]) (hK : K (σ.put o.dst (.w (.c c), upd σ.h id (some ob), upd σ.u id true))) : o.wp P a w (Nx G N Sin w0 K) Q :=
  fin (x := .w (.c c)) (h.newOb hu hsz hfz hc hids) hd hr (RC.rw hv) (fun i hi => by
    have : i ∈ c.ids := hi
    rw [hci] at this
    simp only [List.mem_singleton] at this
    simp [upd, this]) hK
theorem thawed0 (cur : Array Value) : Thawed cur (0, 0) := ⟨Nat.le_refl _, fun h => by simp at h⟩
theorem newO_ok {h : Heap} {u : Nat → Bool} {dst : Nat} {ob : Ob} {c : C} {r : R} (e : newO h u dst ob c = some r) : u (8 * dst) = false ∧ r = (.w (.c c), upd h (8 * dst) (some ob), upd u (8 * dst) true) := by
  unfold newO at e
  split at e
  · cases e
  · rename_i hu
    cases e
    exact ⟨by simpa using hu, rfl⟩
theorem shape_new (w : World) (cur : Array Value) (ty : TypeId) (fz : Nat × Nat) : (w.alloc (.cells cur ty fz)).shape? w.heap.size = some (ty, cur.size) := by
  unfold World.shape?
  rw [heap_alloc_new]
theorem cell_fresh (w : World) (cur : Array Value) (ty : TypeId) (fz : Nat × Nat) (i : Nat) : (w.alloc (.cells cur ty fz)).cell? ⟨w.heap.size, i, none⟩ = cur[i]? := by
  rw [cell_of_row _ _ i cur ty fz (heap_alloc_new w _)]
theorem ownNew {id sz n cap : Nat} {cur : Array Value} {ty : TypeId} {fz : Nat × Nat} (hn : n ≤ cap) (hcap : cap ≤ maxLen) (hs : cap * sz ≤ cur.size) :
    RC (upd m id (some (w.heap.size, sz))) S (w.alloc (.cells cur ty fz)) (.slice (some ⟨w.heap.size, 0, none⟩) n cap) (.own id sz 0 n) := by
  show OwnV _ _ _ _ _ _ _
  unfold OwnV
  simp only [upd, if_true]
  exact ⟨trivial, _, cap, ty, cur.size, rfl, hn, hcap, fun _ => by simp, shape_new _ _ _ _, by simpa using hs⟩
theorem cellsBox {cs : List C} {us : List Value} {sz : Nat} (h : All2 (RC m S w) us cs) : CellsOk m S w sz us.toArray (.box cs) := by
  refine ⟨by simp [h.length], fun j hj => ?_⟩
  have hj' : j < us.length := by rw [h.length]; exact hj
  exact ⟨us[j], by simp [hj'], h.get j hj' hj⟩
theorem cellsRow1 {cs : List D} {us : List Value} (h : All2 (Reads S w) us cs) (s : Nat) : CellsOk m S w 1 us.toArray (.row s cs) := by
  refine ⟨by simp [h.length], fun i hi => ?_⟩
  have hi' : i < us.length := by rw [h.length]; exact hi
  have hr := h.get i hi' hi
  have hc := hr.cellsOf
  refine ⟨by rw [hc]; rfl, fun j hj => ⟨us[i], ?_, ?_⟩⟩
  · obtain rfl : j = 0 := by rw [hc] at hj; simpa using hj
    simp [hi']
  · obtain rfl : j = 0 := by rw [hc] at hj; simpa using hj
    have : cs[i].cells[0] = cs[i] := by simp [hc]
    rw [this]
    exact hr
theorem allSome_const {l : List Value} {cs : List C} (h : allSome constC l = some cs) : All2 (RC m S w) l cs ∧ cs.flatMap C.ids = [] := by
  refine ⟨(allSome_ok (R := fun v c => RC m S w v c ∧ c.ids = []) (fun x y hxy => ⟨(constC_ok hxy).1, (constC_ok (m := m) (S := S) (w := w) hxy).2.1⟩) h).weak fun _ _ _ _ h => h.1, ?_⟩
  have := allSome_ok (R := fun v c => c.ids = []) (fun x y hxy => (constC_ok (m := m) (S := S) (w := w) hxy).2.1) h
  clear h
  induction this with
  | nil => rfl
  | cons h _ ih => simp [h, ih]
theorem snd_alloc (t : TypeId) (ho : o.op = .alloc t) {i : TypeInfo} (hi : P.info? t = some i) {zv : Value} (hz : i.zero = some zv) {cs : List C} (hcs : allSome constC zv.cells.toList = some cs)
    (h : Inv G N Sin w0 σ a w S m) (hd : ∀ t, o.dst = some t → t < N ∧ w0.fx t = none) {r : R} (hr : ef (ev G σ.f) σ.h σ.u (o.dst.getD 0) (.alloc cs) = some r) (hK : K (σ.put o.dst r)) : o.wp P a w (Nx G N Sin w0 K) Q := by
  obtain ⟨hu, rfl⟩ := newO_ok hr
  have hc := allSome_const (m := m) (S := S) (w := w) hcs
  have hcell := cellsBox (sz := 1) hc.1
  rw [Array.toArray_toList] at hcell
  refine finNew (sz := 1) (ob := .box cs) (c := .ptr (8 * o.dst.getD 0) 1 0 0) h hd hu rfl (thawed0 _) hcell (fun j hj => by simp only [Ob.ids, hc.2] at hj; cases hj) (v := .pointer (some ⟨w.heap.size, 0, none⟩)) (ty := t) ?_ ⟨w.heap.size, by simp [upd], by simp⟩ rfl hK
  simp only [execOp, ho]
  refine run_v ?_
  simp [Instr.alloc, zeroValue, typeInfo, hi, hz, newVar, newRow]
theorem snd_allocArr (t : TypeId) (ho : o.op = .alloc t) {i : TypeInfo} (hi : P.info? t = some i) {zv : Value} (hz : i.zero = some zv) {es : List D} (hes : allSome constD zv.cells.toList = some es)
    (h : Inv G N Sin w0 σ a w S m) (hd : ∀ t, o.dst = some t → t < N ∧ w0.fx t = none) {r : R} (hr : ef (ev G σ.f) σ.h σ.u (o.dst.getD 0) (.allocArr es) = some r) (hK : K (σ.put o.dst r)) : o.wp P a w (Nx G N Sin w0 K) Q := by
  obtain ⟨hu, rfl⟩ := newO_ok hr
  have hcell := cellsRow1 (m := m) (allSome_ok (R := Reads S w) (fun x y hxy => constD_ok hxy) hes) 1
  rw [Array.toArray_toList] at hcell
  refine finNew (sz := 1) (ob := .row 1 es) (c := .pa (8 * o.dst.getD 0) 1) h hd hu rfl (thawed0 _) hcell (fun j hj => by cases hj) (v := .pointer (some ⟨w.heap.size, 0, none⟩)) (ty := t) ?_ ⟨w.heap.size, by simp [upd], rfl⟩ rfl hK
  simp only [execOp, ho]
  refine run_v ?_
  simp [Instr.alloc, zeroValue, typeInfo, hi, hz, newVar, newRow]
theorem snd_box (t : TypeId) (x : Operand) (x' : SX) (mode : Bx) (ho : o.op = .box t x) (hx : compX x = some x') (h : Inv G N Sin w0 σ a w S m) (hd : ∀ t, o.dst = some t → t < N ∧ w0.fx t = none) {r : R} (hr : ef (ev G σ.f) σ.h σ.u (o.dst.getD 0) (.box mode x') = some r) (hK : K (σ.put o.dst r)) : o.wp P a w (Nx G N Sin w0 K) Q := by
  have h1 := h.operand hx
  simp only [ef] at hr
  split at hr
  · cases hr
  · rename_i y hy
    obtain ⟨hv, hxy⟩ := asW_ok h1.1 hy
    have hids : ∀ i ∈ y.ids, σ.u i = true := fun i hi => h1.2 i (by rw [hxy]; exact hi)
    have run : (execOp a.eval o).run P w = .ok (.value (.pointer (some ⟨w.heap.size, 0, none⟩))) (w.alloc (.cells (a.eval x).cells t)) := by
      simp only [execOp, ho]
      exact run_v (by simp [Instr.box, newVar, newRow])
    obtain ⟨us, hus, hall, hi⟩ := wcells_ok hv
    rw [hus] at run
    split at hr
    · obtain ⟨hu, rfl⟩ := newO_ok hr
      exact finNew (sz := 1) (ob := .box (wcells y)) (c := .ptr (8 * o.dst.getD 0) 1 0 0) h hd hu rfl (thawed0 _) (cellsBox hall) (fun j hj => hids j (hi ▸ hj)) run ⟨w.heap.size, by simp [upd], by simp⟩ rfl hK
    · split at hr
      · rename_i cs
        obtain ⟨hu, rfl⟩ := newO_ok hr
        obtain ⟨us', e1, hall'⟩ := hv
        have : us'.toArray = us.toArray := by rw [← hus, e1]; rfl
        rw [← this] at run
        exact finNew (sz := 1) (ob := .row 1 cs) (c := .pa (8 * o.dst.getD 0) 1) h hd hu rfl (thawed0 _) (cellsRow1 hall' 1) (fun j hj => by cases hj) run ⟨w.heap.size, by simp [upd], rfl⟩ rfl hK
      · cases hr
    · simp only [Option.map_eq_some_iff] at hr
      obtain ⟨cs, hcs, rfl⟩ := hr
      have hall' := allDn_ok hcs hall
      have k := Keeps.alloc h (.cells us.toArray t)
      refine fin (h' := σ.h) (u' := σ.u) (h.newRo (.cells us.toArray t)) hd run (x := .w (.c (.rp cs))) ⟨_, rfl, fun j hj => ?_⟩ (fun i hi => by cases hi) hK
      have hj' : j < us.length := by rw [hall'.length]; exact hj
      refine ⟨us[j], .inr rfl, ?_, ((hall'.get j hj' hj).keep k).mono fun _ _ h => .inl h⟩
      show (w.alloc _).cell? ⟨w.heap.size, 0 + j, none⟩ = _
      rw [cell_fresh]
      simp [hj']
    · split at hr
      · rename_i cs
        cases hr
        obtain ⟨us', e1, hall'⟩ := hv
        have : us'.toArray = us.toArray := by rw [← hus, e1]; rfl
        rw [← this] at run
        have k := Keeps.alloc h (.cells us'.toArray t)
        refine fin (h' := σ.h) (u' := σ.u) (h.newRo (.cells us'.toArray t)) hd run (x := .w (.c (.ra cs))) ⟨_, 1, rfl, fun i hi => ?_⟩ (fun i hi => by cases hi) hK
        have hi' : i < us'.length := by rw [hall'.length]; exact hi
        have hrd := hall'.get i hi' hi
        have hc := hrd.cellsOf
        refine ⟨by rw [hc]; rfl, fun j hj => ?_⟩
        obtain rfl : j = 0 := by rw [hc] at hj; simpa using hj
        refine ⟨us'[i], .inr rfl, ?_, ?_⟩
        · show (w.alloc _).cell? ⟨w.heap.size, 0 + i * 1 + 0, none⟩ = _
          rw [cell_fresh]
          simp [hi']
        · have : cs[i].cells[0] = cs[i] := by simp [hc]
          rw [this]
          exact (hrd.keep k).mono fun _ _ h => .inl h
      · cases hr
theorem snd_nilOwn (x : Operand) (ho : o.op = .move x ∨ o.op = .assign x) (hx : compX x = some (.k (.c .nil))) (s : Nat) (h : Inv G N Sin w0 σ a w S m) (hd : ∀ t, o.dst = some t → t < N ∧ w0.fx t = none) {r : R} (hr : ef (ev G σ.f) σ.h σ.u (o.dst.getD 0) (.nilOwn s) = some r) (hK : K (σ.put o.dst r)) : o.wp P a w (Nx G N Sin w0 K) Q := by
  obtain ⟨hu, rfl⟩ := newO_ok hr
  obtain ⟨ad, hv⟩ : ∃ ad, a.eval x = .slice ad 0 0 := (h.operand hx).1
  refine fin (h.newNil (sz := s) hu) hd (v := .slice ad 0 0) ?_ (x := .w (.c (.own (8 * o.dst.getD 0) s 0 0))) ?_ (fun i hi => ?_) hK
  · unfold execOp
    rcases ho with ho | ho <;> rw [ho] <;> simp [hv]
  · show OwnV _ _ _ _ _ _ _
    unfold OwnV
    simp only [upd, if_true]
    exact ⟨⟨_, rfl⟩, trivial, trivial⟩
  · have : i ∈ [8 * o.dst.getD 0] := hi
    simp only [List.mem_singleton] at this
    simp [upd, this]
theorem madeCells_get {z : Array Value} {n i : Nat} (h : i < n) (hz : 0 < z.size) : (madeCells z n)[i]? = z[i % z.size]? := by
  have hlt : i % z.size < z.size := Nat.mod_lt _ hz
  simp [madeCells, h, hlt]
theorem mul_add_mod_lt {i sz j : Nat} (h : j < sz) : (i * sz + j) % sz = j := by
  rw [Nat.add_comm, Nat.add_mul_mod_self_right, Nat.mod_eq_of_lt h]
theorem cellsMade {e : TypeId} {s b : Nat} {z : D} {zv : Value} (hz : ∀ S w, All2 (Reads S w) zv.cells.toList z.cells) (hlen : z.cells.length = s) (hpos : 0 < s) (n c : Nat) (hn : n ≤ c) (s' : Nat) : CellsOk m S w s (madeCells zv.cells (c * s)) (.row s' (List.replicate n z)) := by
  have hzs : zv.cells.size = s := by have := (hz S w).length; rw [← hlen, ← this]; simp
  refine ⟨by rw [size_madeCells, List.length_replicate]; exact Nat.mul_le_mul_right _ hn, fun i hi => ?_⟩
  rw [List.length_replicate] at hi
  rw [List.getElem_replicate]
  refine ⟨hlen, fun j hj => ?_⟩
  have hj' : j < s := by omega
  have hj2 : j < zv.cells.toList.length := by simp; omega
  refine ⟨zv.cells.toList[j], ?_, (hz S w).get j hj2 hj⟩
  have hlt : i * s + j < c * s := by
    have := Nat.mul_le_mul_right s (show i + 1 ≤ c by omega)
    rw [Nat.add_mul] at this
    omega
  rw [madeCells_get hlt (by omega), hzs, mul_add_mod_lt hj']
  simp only [Array.length_toList] at hj2
  simp [hj2]
theorem snd_make (t e : TypeId) {s b : Nat} {z : D} (ht : slTy P t = some (e, s, b, z)) (l c : Operand) (l' c' : SX) (ho : o.op = .makeSlice t l c) (hl : compX l = some l') (hc : compX c = some c') (h : Inv G N Sin w0 σ a w S m) (hd : ∀ t, o.dst = some t → t < N ∧ w0.fx t = none)
    {r : R} (hr : ef (ev G σ.f) σ.h σ.u (o.dst.getD 0) (.make s b z l' c') = some r) (hK : K (σ.put o.dst r)) : o.wp P a w (Nx G N Sin w0 K) Q := by
  obtain ⟨hu0, he⟩ := slTy_ok ht
  obtain ⟨i, zv, hi, hs, hb, hz, hpos, hlen, hrd⟩ := elTy_ok he
  simp only [ef] at hr
  split at hr
  · rename_i x y hx hy
    split at hr
    · rename_i hcond
      obtain ⟨hu, rfl⟩ := newO_ok hr
      have e1 := asI_ok (h.operand hl).1 hx
      have e2 := asI_ok (h.operand hc).1 hy
      have hbb : (i.bytes : Int) * y ≤ 281474976710656 := by rw [hb, Int.mul_comm]; omega
      have run := run_make (P := P) w t e i zv hu0 hi hz .i64 .i64 x y hcond.1 hcond.2.1 hbb (by omega)
      rw [hs] at run
      refine finNew (sz := s) (ob := .row s (List.replicate x.toNat z)) (c := .own (8 * o.dst.getD 0) s 0 x.toNat) h hd hu rfl (thawed0 _) (cellsMade (e := e) (b := b) hrd hlen hpos x.toNat y.toNat (by omega) s) (fun j hj => by cases hj) (v := .slice (some ⟨w.heap.size, 0, none⟩) x.toNat y.toNat) (ty := e) ?_ (ownNew (by omega) (by simp only [maxLen]; omega) (by rw [size_madeCells]; exact Nat.le_refl _)) rfl hK
      simp only [execOp, ho, e1, e2]
      exact run_v run
    · cases hr
  · cases hr
theorem bytesRow_get (s : ByteArray) (cap i : Nat) (hi : i < s.data.toList.length) : (bytesRow s cap)[i]? = some (.int .u8 (s.data.toList[i].toNat : Int)) := by
  have := bytesRow_at s cap i (by simpa using hi)
  simpa using this
theorem snd_s2b (src t e : TypeId) (hsrc : P.underlying src = some .string) (ht : P.underlying t = some (.slice e)) (he : P.underlying e = some (.int .u8)) (own : Bool) (x : Operand) (x' : SX) (ho : o.op = .convert src t x) (hx : compX x = some x') (h : Inv G N Sin w0 σ a w S m) (hd : ∀ t, o.dst = some t → t < N ∧ w0.fx t = none) {r : R} (hr : ef (ev G σ.f) σ.h σ.u (o.dst.getD 0) (.s2b own x') = some r) (hK : K (σ.put o.dst r)) : o.wp P a w (Nx G N Sin w0 K) Q := by
  have hv := (h.operand hx).1
  simp only [ef] at hr
  split at hr
  · rename_i s e1
    split at hr
    case isFalse => cases hr
    rename_i h63
    rw [e1] at hv
    have hval := rv_str hv
    have run := run_bytes_of_string (P := P) w src t e s hsrc ht he
    have hrun : (execOp a.eval o).run P w = .ok (.value (.slice (some ⟨w.heap.size, 0, none⟩) s.size (grownCap w s.size 0 e))) (w.drew.alloc (.cells (bytesRow s (grownCap w s.size 0 e)) e ((bytesRow s (grownCap w s.size 0 e)).size, (bytesRow s (grownCap w s.size 0 e)).size + 1))) := by
      simp only [execOp, ho, hval]
      exact run_v run
    have hcap := grownCap_ge w s.size 0 e
    have hcm := grownCap_le_maxLen w s.size 0 e h63
    have hsz : (bytesRow s (grownCap w s.size 0 e)).size = grownCap w s.size 0 e := by
      simp only [bytesRow, Array.size_append, Array.size_map, Array.size_replicate]
      show s.size + _ = _
      omega
    have hlen : (s.data.toList.map bD).length = s.size := by simp
    have hth : Thawed (bytesRow s (grownCap w s.size 0 e)) ((bytesRow s (grownCap w s.size 0 e)).size, (bytesRow s (grownCap w s.size 0 e)).size + 1) := ⟨Nat.le_succ _, fun _ => Nat.le_refl _⟩
    split at hr
    · obtain ⟨hu, rfl⟩ := newO_ok hr
      refine finNewD (sz := 1) (ob := .row 1 (s.data.toList.map bD)) (c := .own (8 * o.dst.getD 0) 1 0 s.size) h.drew hd hu rfl hth ?_ (fun j hj => by cases hj) hrun (ownNew (w := w.drew) (by omega) hcm (by rw [hsz]; omega)) rfl hK
      refine ⟨by rw [hlen, hsz]; omega, fun i hi => ?_⟩
      rw [List.length_map] at hi
      simp only [List.getElem_map, bD, D.cells]
      refine ⟨rfl, fun j hj => ?_⟩
      simp only [List.length_singleton] at hj
      obtain rfl : j = 0 := by omega
      exact ⟨_, by rw [Nat.mul_one, Nat.add_zero]; exact bytesRow_get s _ i hi, .int _ _⟩
    · cases hr
      refine fin (h' := σ.h) (u' := σ.u) (h.drew.newRo _) hd hrun (x := vd (.sl (s.data.toList.map bD))) ?_ (fun i hi => by cases hi) hK
      have rd := Reads.of_row (S := fun b i => S b i ∨ b = w.drew.heap.size) (w := w.drew.alloc (.cells (bytesRow s (grownCap w s.size 0 e)) e ((bytesRow s (grownCap w s.size 0 e)).size, (bytesRow s (grownCap w s.size 0 e)).size + 1)))
        (a := ⟨w.heap.size, 0, none⟩) (cap := grownCap w s.size 0 e) (sz := 1) (es := s.data.toList.map bD) (fun i hi => by
          rw [List.length_map] at hi
          simp only [List.getElem_map, bD, D.cells]
          refine ⟨rfl, fun j hj => ?_⟩
          simp only [List.length_singleton] at hj
          obtain rfl : j = 0 := by omega
          refine ⟨.int .u8 (s.data.toList[i].toNat : Int), .inr rfl, ?_, .int _ _⟩
          show (w.drew.alloc _).cell? ⟨w.drew.heap.size, 0 + i * 1 + 0, none⟩ = _
          rw [cell_fresh]
          simpa using bytesRow_get s (grownCap w s.size 0 e) i hi) (by rw [hlen]; exact hcap) hcm
      rw [hlen] at rd
      exact rd.rw (m := m)
  · cases hr
/-- A constant string's bytes: the row is there already. -/
theorem mark_ok (t e : TypeId) (ht : P.underlying t = some (.slice e)) (he : P.underlying e = some (.int .u8)) (x : Operand) (x' : SX) (ho : o.op = .convert t t x) (hx : compX x = some x') (h : Inv G N Sin w0 σ a w S m) {id sz off n sz' : Nat} {es : List D} (e1 : ev G σ.f x' = .w (.c (.own id sz off n))) (ho1 : σ.h id = some (.row sz' es)) (hn : 0 < n) :
    ∃ v w1, (execOp a.eval o).run P w = .ok (.value v) w1 ∧ Inv G N Sin w0 σ a w1 S m ∧ RV m S w1 v (.w (.c (.own id sz off n))) ∧ ∀ i ∈ (V.w (.c (.own id sz off n))).ids, σ.u i = true := by
  have hv := h.operand hx
  rw [e1] at hv
  obtain ⟨ok1, ok2, ok3⟩ := h.obj id _ ho1
  have hw : OwnV m w (a.eval x) id sz off n := hv.1
  unfold OwnV at hw
  unfold ObjOk at ok1
  cases hm : m id with
  | none => simp [hm] at hw; obtain ⟨⟨ad, hval⟩, rfl, rfl⟩ := hw; exact absurd hn (by omega)
  | some p =>
    obtain ⟨b, s⟩ := p
    rw [hm] at ok1
    simp only [hm] at hw
    obtain ⟨rfl, ad, cap, ty, M, hval, hc1, hc2, hc3, hc4, hc5⟩ := hw
    obtain ⟨g1, g2, g3, cur, ty0, fz, g4, g5, g6⟩ := ok1
    have hb : ad.block = b := by rw [hc3 (.inl (by omega))]
    obtain ⟨lo, hi⟩ := fz
    have hshape : w.shape? ad.block = some (ty0, cur.size) := by unfold World.shape?; rw [hb, g4]
    have hfz : w.freeze ⟨ad.block, cur.size, none⟩ 1 = { w with heap := w.heap.modify b fun | .cells c elem (lo, hi) => .cells c elem (if lo == hi then (cur.size, cur.size + 1) else (min lo cur.size, max hi (cur.size + 1))) | o => o } := by
      unfold World.freeze
      rw [if_neg (by decide), hb]
      rfl
    have run : (execOp a.eval o).run P w = .ok (.value (.slice (some ad) n cap)) (w.freeze ⟨ad.block, cur.size, none⟩ 1) := by
      simp only [execOp, ho, hval]
      refine run_v ?_
      simp [convert, run_underlying ht, run_underlying he, markStringish, hshape]
    have hcur' : (w.freeze ⟨ad.block, cur.size, none⟩ 1).heap[b]? = some (.cells cur ty0 (if lo == hi then (cur.size, cur.size + 1) else (min lo cur.size, max hi (cur.size + 1)))) := by
      rw [hfz]
      simp [Array.getElem?_modify, g4]
    have hother : ∀ k, k ≠ b → (w.freeze ⟨ad.block, cur.size, none⟩ 1).heap[k]? = w.heap[k]? := fun k hk => by
      rw [hfz]
      simp only [Array.getElem?_modify]
      rw [if_neg (by omega)]
    have hth : Thawed cur (if lo == hi then (cur.size, cur.size + 1) else (min lo cur.size, max hi (cur.size + 1))) := by
      obtain ⟨t1, t2⟩ := g5
      simp only at t1 t2
      split
      · exact ⟨Nat.le_succ _, fun _ => Nat.le_refl _⟩
      · rename_i hne
        have hne : lo ≠ hi := by simpa using hne
        have := t2 (by omega)
        exact ⟨by simp only; omega, fun _ => by simp only; omega⟩
    have hbel : Bel w0.heap.size w0.ext w0 (w.freeze ⟨ad.block, cur.size, none⟩ 1) := by
      refine h.below.trans ?_
      rw [hfz]
      exact ⟨rfl, rfl, rfl, by simp, fun k hk hx => by
        simp only [Array.getElem?_modify]
        rw [if_neg fun e => by
          have e' : k = b := by omega
          subst e'
          exact (g2 : w0.may k).elim (fun h => by omega) hx]⟩
    have hinv := h.mark ho1 hm g4 hcur' hth hother hbel (by rw [hfz]; simp)
    refine ⟨_, _, run, hinv, ?_, fun i hi => hv.2 i hi⟩
    show OwnV m _ _ _ _ _ _
    unfold OwnV
    simp only [hm]
    refine ⟨trivial, ad, cap, ty0, cur.size, rfl, hc1, hc2, hc3, ?_, ?_⟩
    · unfold World.shape?; rw [hcur']
    · have : w.shape? b = some (ty0, cur.size) := by rw [← hb]; exact hshape
      rw [this] at hc4
      cases hc4
      exact hc5
theorem snd_mark (t e : TypeId) (ht : P.underlying t = some (.slice e)) (he : P.underlying e = some (.int .u8)) (x : Operand) (x' : SX) (ho : o.op = .convert t t x) (hx : compX x = some x') (h : Inv G N Sin w0 σ a w S m) (hd : ∀ t, o.dst = some t → t < N ∧ w0.fx t = none) {r : R} (hr : ef (ev G σ.f) σ.h σ.u (o.dst.getD 0) (.mark x') = some r) (hK : K (σ.put o.dst r)) : o.wp P a w (Nx G N Sin w0 K) Q := by
  simp only [ef] at hr
  split at hr
  · rename_i id sz off n e1
    split at hr
    · rename_i sz' es ho1
      split at hr
      · rename_i hsz
        cases hr
        obtain ⟨v, w1, run, hinv, hv, hu⟩ := mark_ok t e ht he x x' ho hx h e1 ho1 hsz.2
        exact fin (h' := σ.h) (u' := σ.u) hinv hd run (x := .w (.c (.own id sz off n))) hv hu hK
      · cases hr
    · cases hr
  · cases hr
end
end Go.Proofs.Ytldcgjhfaledfaa
