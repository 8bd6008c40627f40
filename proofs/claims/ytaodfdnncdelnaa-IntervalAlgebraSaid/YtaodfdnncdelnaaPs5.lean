/- Package slices on data: Clone of spans, and SortFunc of spans by their first numbers: by the kit's walk and the kit's shelf. Own work. -/
import Derived.Shelf.SlSortCmp.NoneTotal
import Derived.Shelf.Abstract
import Derived.Lib.SliceRun
import Derived.Lib.Walk
import Derived.Deep.LoopGhost
import Derived.Test.YtaodfdnncdelnaaShs
import Derived.Test.YtaodfdnncdelnaaAlZ
set_option linter.unusedVariables false
set_option linter.unusedSimpArgs false
namespace Go.Proofs.Ytaodfdnncdelnaa
open Go.RowKit Go.Shelf
open Go.Sort hiding Below

/-! ### Spans in cells -/
abbrev Sp2 := Int × Int
def cS (l : List Sp2) (t : Nat) : Value := .int .i64 (if t % 2 = 0 then (l.getD (t / 2) (0, 0)).1 else (l.getD (t / 2) (0, 0)).2)
def cellsS (l : List Sp2) : List Value := (List.range (l.length * 2)).map (cS l)
theorem cellsS_len (l : List Sp2) : (cellsS l).length = l.length * 2 := by unfold cellsS; rw [List.length_map, List.length_range]
theorem cellsS_get {l : List Sp2} {t : Nat} (h : t < l.length * 2) : (cellsS l)[t]? = some (cS l t) := by
  unfold cellsS; rw [List.getElem?_map, List.getElem?_range h]; rfl
theorem cS_two {l : List Sp2} {i j : Nat} (hi : i < l.length) (hj : j < 2) : some (cS l (i * 2 + j)) = [Value.int .i64 l[i].1, .int .i64 l[i].2][j]? := by
  have hd : (i * 2 + j) / 2 = i := by omega
  have e : l.getD i (0, 0) = l[i] := by rw [List.getD_eq_getElem?_getD, List.getElem?_eq_getElem hi]; rfl
  unfold cS
  rw [hd, e]
  rcases j with _ | _ | j
  · rw [if_pos (by omega)]; rfl
  · rw [if_neg (by omega)]; rfl
  · omega
theorem reads_i {S : Cells} {w : World} {v : Value} {k : IntKind} {n : Int} (h : Reads S w v (.int k n)) : v = .int k n := by cases h; rfl
theorem spS_get {l : List Sp2} {i : Nat} (h : i < (l.map spD).length) : (l.map spD)[i].cells = [.int .i64 (l[i]'(by simpa using h)).1, .int .i64 (l[i]'(by simpa using h)).2] := by
  rw [List.getElem_map]; rfl
theorem rowS {S : Cells} {w : World} {a : Addr} {sz : Nat} {l : List Sp2} (h : RowAt S w a sz (l.map spD)) (hne : 0 < l.length) : sz = 2 ∧ a.spot = none ∧ ∀ t, t < l.length * 2 → w.cell? ⟨a.block, a.off + t, none⟩ = some (cS l t) := by
  have hlen : (l.map spD).length = l.length := List.length_map _
  have h2 : sz = 2 := by
    have := (h 0 (by omega)).1
    rw [spS_get] at this
    exact this.symm
  subst h2
  have hs : a.spot = none := by
    obtain ⟨v, _, c, _⟩ := (h 0 (by omega)).2 0 (by rw [spS_get]; exact Nat.zero_lt_two)
    exact cell_spot c
  refine ⟨rfl, hs, fun t ht => ?_⟩
  have hi : t / 2 < l.length := by omega
  have hj : t % 2 < 2 := by omega
  obtain ⟨v, _, c, r⟩ := (h (t / 2) (by omega)).2 (t % 2) (by rw [spS_get]; exact hj)
  simp only [hs] at c
  have e : a.off + t / 2 * 2 + t % 2 = a.off + t := by omega
  rw [e] at c
  rw [c]
  have k := cS_two (l := l) hi hj
  rw [show t / 2 * 2 + t % 2 = t by omega] at k
  rw [k]
  have hcell : (l.map spD)[t / 2].cells = [.int .i64 l[t / 2].1, .int .i64 l[t / 2].2] := spS_get (by omega)
  generalize hj2 : t % 2 = j at *
  rcases j with _ | _ | j
  · have : Reads S w v (.int .i64 l[t / 2].1) := by
      have := r
      simp only [hcell] at this
      exact this
    rw [reads_i this]; rfl
  · have : Reads S w v (.int .i64 l[t / 2].2) := by
      have := r
      simp only [hcell] at this
      exact this
    rw [reads_i this]; rfl
  · omega
theorem freshS {S : Cells} {w : World} {B b : Nat} {l : List Sp2} (hB : B ≤ b) (hS : ∀ i, ¬ S b i) {cur : Array Value} {ty : TypeId} {fz : Nat × Nat} (hh : w.heap[b]? = some (.cells cur ty fz)) (ht : Thawed cur fz) (hl : l.length * 2 ≤ cur.size)
    (hc : ∀ t, t < l.length * 2 → cur[t]? = some (cS l t)) : FreshRow S w B b 2 (l.map spD) := by
  refine ⟨hB, hS, cur, ty, fz, hh, ht, by rw [List.length_map]; exact hl, fun i hi => ?_⟩
  have hi' : i < l.length := by simpa using hi
  have hcell := spS_get hi
  refine ⟨by rw [hcell]; rfl, fun j hj => ?_⟩
  have hj' : j < 2 := by rw [hcell] at hj; exact hj
  have k := hc (i * 2 + j) (by omega)
  rw [cS_two hi' hj'] at k
  simp only [hcell]
  rcases j with _ | _ | j
  · exact ⟨_, k, .int _ _⟩
  · exact ⟨_, k, .int _ _⟩
  · omega
theorem ofFreshS {S : Cells} {w : World} {B b : Nat} {l : List Sp2} (h : FreshRow S w B b 2 (l.map spD)) : B ≤ b ∧ (∀ i, ¬ S b i) ∧ ∃ cur ty fz, w.heap[b]? = some (.cells cur ty fz) ∧ Thawed cur fz ∧ l.length * 2 ≤ cur.size ∧ ∀ t, t < l.length * 2 → cur[t]? = some (cS l t) := by
  obtain ⟨h1, h2, cur, ty, fz, hh, ht, hl, hc⟩ := h
  refine ⟨h1, h2, cur, ty, fz, hh, ht, by rw [List.length_map] at hl; exact hl, fun t htl => ?_⟩
  have hi : t / 2 < l.length := by omega
  have hj : t % 2 < 2 := by omega
  have hi' : t / 2 < (l.map spD).length := by rw [List.length_map]; exact hi
  obtain ⟨v, c, r⟩ := (hc (t / 2) hi').2 (t % 2) (by rw [spS_get]; exact hj)
  rw [show t / 2 * 2 + t % 2 = t by omega] at c
  rw [c]
  have k := cS_two (l := l) hi hj
  rw [show t / 2 * 2 + t % 2 = t by omega] at k
  rw [k]
  have hcell := spS_get hi'
  generalize hj2 : t % 2 = j at *
  rcases j with _ | _ | j
  · have : Reads S w v (.int .i64 l[t / 2].1) := by
      have := r
      simp only [hcell] at this
      exact this
    rw [reads_i this]; rfl
  · have : Reads S w v (.int .i64 l[t / 2].2) := by
      have := r
      simp only [hcell] at this
      exact this
    rw [reads_i this]; rfl
  · omega

/-! ### Clone -/
set_option maxHeartbeats 2000000 in
theorem cln_f (G : Glob) (l : List Sp2) (hl : l.length ≤ 1000000) : Den Try.prog G 54 [.sl (l.map spD)] (.w (.c (.fr 2 (l.map spD)))) := by
  intro w S vs hS hG hA
  obtain ⟨v, rfl, hv⟩ : ∃ v, vs = [v] ∧ Reads S w v (.sl (l.map spD)) := by
    cases hA with | cons h1 h2 => cases h2; exact ⟨_, rfl, h1⟩
  have t1 : Try.prog.underlying 37 = some (TypeDesc.slice 23) := by kernel_rfl
  have q1 : ∀ (w : World) (a : Option Addr) (n c n' c' : Nat), (binOp .eql 37 (.slice a n c) (.slice none n' c')).run Try.prog w = .ok (.bool a.isNone) w := fun w a n c n' c' => Lib.run_eql_slice_nil w _ _ a n c n' c' t1
  rcases hv.row with ⟨rfl, hnil⟩ | ⟨a, cap, sz, rfl, hcap, hmax, hrow⟩
  · have h0 : l = [] := by simpa using hnil
    subst h0
    clear hv hA hG
    have hS' : Aside (∀ b i, S b i → b < w.heap.size) := hS
    clear hS
    go_enter Try.func54, Try.ntmps54
    go_wp2
    go_ret
    exact ⟨_, S, [], rfl, Below.refl _ _, fun b i hs => ⟨.inl hs, hS'.out b i hs⟩, .nil, .inl ⟨⟨none, rfl⟩, rfl, rfl⟩⟩
  · have hlen : (l.map spD).length = l.length := List.length_map _
    rw [hlen] at hcap ⊢
    have hcells : ∀ t, t < l.length * 2 → a.spot = none ∧ w.cell? ⟨a.block, a.off + t, none⟩ = some (cS l t) := fun t ht =>
      ⟨(rowS hrow (by omega)).2.1, (rowS hrow (by omega)).2.2 t ht⟩
    have A : Aside ((∀ t, t < l.length * 2 → a.spot = none ∧ w.cell? ⟨a.block, a.off + t, none⟩ = some (cS l t)) ∧ ∀ b i, S b i → b < w.heap.size) := ⟨hcells, hS⟩
    clear hcells hrow hv hA hG hS
    obtain ⟨i0, hi, hz0, hz1, hz2⟩ : ∃ i, Try.prog.info? 23 = some i ∧ i.zero = some (.agg #[.int .i64 0, .int .i64 0]) ∧ i.size = 2 ∧ i.bytes = 16 := by
      have h : ((Try.prog.info? 23).map fun i => (i.zero, i.size, i.bytes)) = some (some (.agg #[.int .i64 0, .int .i64 0]), 2, 16) := by kernel_rfl
      cases hi : Try.prog.info? 23 with
      | none => rw [hi] at h; cases h
      | some i =>
        rw [hi] at h
        simp only [Option.map_some, Option.some.injEq, Prod.mk.injEq] at h
        exact ⟨i, rfl, h.1, h.2.1, h.2.2⟩
    obtain ⟨ab, ao, asp⟩ := a
    go_enter Try.func54, Try.ntmps54
    go_wp2_with (at_builtin; refine wpList_append_own _ rfl _ _ 37 rfl w.heap.size 23 i0 (.agg #[.int .i64 0, .int .i64 0]) 2 16 t1 hi hz0 hz1 hz2 rfl (by decide) _ _ _ rfl (World.ownsRow_made w #[] 0 (Nat.le_refl _) (Nat.zero_le _) rfl) ⟨ab, ao, asp⟩ l.length cap (cellsS l) rfl ?qc1 ?qc2 ?qc3 ?qc4 ?qc5 ?qc6 ?_)
    case qc1 => rw [cellsS_len]
    case qc2 =>
      intro j u hj
      have hjl : j < l.length * 2 := by
        have := (List.getElem?_eq_some_iff.1 hj).1
        rwa [cellsS_len] at this
      obtain ⟨e1, e2⟩ := A.out.1 j hjl
      subst e1
      rw [cellsS_get hjl] at hj
      rw [← hj, Addr.add_lit]
      exact Lib.cell?_alloc_some _ e2
    case qc3 => intro u hu; obtain ⟨x, _, rfl⟩ := List.mem_map.1 hu; rfl
    case qc4 => unfold maxLen; omega
    case qc5 => omega
    intro v' w1 hown hgrow hnil
    go_wp2
    go_ret
    have hbel : Below w.heap.size w w1 := ((Below.refl _ w).alloc (Nat.le_refl _) _).grown hgrow (by simp) (by intro k hk; simp [Value.ownBlock] at hk; omega)
    rcases hown.2 with ⟨h1, _⟩ | ⟨g, cp, cur, rfl, hb, hh, hn, hm, hsz, htk⟩
    · exact absurd h1 hnil
    · have hg : g < w1.heap.size := by
        rcases Nat.lt_or_ge g w1.heap.size with h | h
        · exact h
        · rw [Array.getElem?_eq_none h] at hh; cases hh
      refine ⟨_, S, [g], rfl, hbel, fun b i hs => ⟨.inl hs, Nat.lt_of_lt_of_le (A.out.2 b i hs) hbel.size⟩, by simp, .inr ⟨g, cp, 23, cur.size, rfl, ?_, by rw [hlen]; exact hn, hm, ?_, ?_, ?_⟩⟩
      · rw [hlen]; rfl
      · unfold World.shape?; rw [hh]
      · omega
      · refine freshS hb (fun i hs => ?_) hh ⟨Nat.le_refl _, fun h => absurd h (Nat.lt_irrefl _)⟩ (by omega) (fun t ht => ?_)
        · have := A.out.2 g i hs; omega
        · have h2 := congrArg (fun z => z[t]?) htk
          simp only [List.nil_append, List.getElem?_take, ht, if_true] at h2
          rw [cellsS_get ht] at h2
          rw [← h2]; simp
/-! ### Sorted by the first number -/
def loC (x y : Sp2) : Int := Lib.compareInt x.1 y.1
theorem ltLo (x y : Sp2) : ltOf loC x y = decide (x.1 < y.1) := by
  unfold ltOf loC Lib.compareInt
  by_cases h1 : x.1 < y.1
  · simp [h1]
  · by_cases h2 : y.1 < x.1 <;> simp [h1, h2]
theorem swoLo : Sort.SWO (ltOf loC) where
  irrefl x := by rw [ltLo]; simp
  trans x y z h1 h2 := by rw [ltLo] at *; simp at *; omega
  ntrans x y z h1 h2 := by rw [ltLo] at *; simp at *; omega
/-- The same spans, by their first numbers. -/
structure SrtOk (l s : List Sp2) : Prop where
  len : s.length = l.length
  mem : ∀ p, p ∈ s ↔ p ∈ l
  asc : ∀ i j, i < j → j < s.length → (s.getD i (0, 0)).1 ≤ (s.getD j (0, 0)).1
theorem toL_getD (d : Array Sp2) (i : Nat) (h : i < d.size) : d[i]! = d.toList.getD i (0, 0) := by
  rw [getElem!_pos d i h, List.getD_eq_getElem?_getD, List.getElem?_eq_getElem (by simpa using h)]
  simp
theorem srt_ok (l : List Sp2) {d : Array Sp2} (hp : Sort.PermIn 0 l.toArray.size l.toArray d) (hs : Sort.SortedIn (ltOf loC) 0 l.toArray.size d) : SrtOk l d.toList := by
  have hsz : d.size = l.length := by have := hp.1; simpa using this
  refine ⟨by simpa using hsz, fun p => ?_, fun i j h1 h2 => ?_⟩
  · have := hp.2.2
    rw [show (l.toArray.size) = l.length from by simp] at this
    have e1 : (d.extract 0 l.length).toList = d.toList := by
      rw [← hsz]; simp
    have e2 : (l.toArray.extract 0 l.length).toList = l := by simp
    rw [e1, e2] at this
    exact this.mem_iff
  · have hj : j < d.size := by simpa using h2
    have k := hs i j (Nat.zero_le _) h1 (by simpa [hsz] using hj)
    rw [ltLo, toL_getD d j hj, toL_getD d i (by omega)] at k
    have := of_decide_eq_false k
    omega

theorem isn_w (x : Int) (w : World) : Calls Try.prog 60 #[.int .i64 x] w fun e w' => e = .returned (.bool false) ∧ w' = w := by
  go_enter Try.func60, Try.ntmps60
  go_wp2
  go_ret
  exact ⟨by simp, rfl⟩
set_option maxHeartbeats 1000000 in
theorem cmpi_w (x y : Int) (w : World) : Calls Try.prog 57 #[.int .i64 x, .int .i64 y] w fun e w' => e = .returned (.int .i64 (Lib.compareInt x y)) ∧ w' = w := by
  go_enter Try.func57, Try.ntmps57
  go_wp2_with (go_at_call 60; refine (isn_w _ _).mono ?_; rintro e w' ⟨rfl, rfl⟩)
  all_goals (go_ret; refine ⟨?_, rfl⟩; unfold Lib.compareInt; (repeat' split) <;> first | rfl | (exfalso; omega))
set_option maxHeartbeats 1000000 in
theorem acl_w (x y : Sp2) (W : World) : Calls Try.prog 56 #[.agg #[.int .i64 x.1, .int .i64 x.2], .agg #[.int .i64 y.1, .int .i64 y.2]] W fun e w' => e = .returned (.int .i64 (Lib.compareInt x.1 y.1)) ∧ ∃ q os', w' = Sort.grow (W.drewN q) os' := by
  have hcon := fun W' => cmpi_w x.1 y.1 W'
  generalize Lib.compareInt x.1 y.1 = r at hcon ⊢
  go_enter Try.func56, Try.ntmps56
  go_wp2_with (go_at_call 57; refine (hcon _).mono ?_; rintro e w' ⟨rfl, rfl⟩)
  go_ret
  exact ⟨rfl, 0, _, by rw [Sort.alloc_eq_grow, Sort.alloc_eq_grow, Sort.grow_grow]; rfl⟩
/-- The sort's world: the row's block holds the sorted spans; what lay below is as it was. -/
def encS (x : Sp2) : List Value := [.int .i64 x.1, .int .i64 x.2]
theorem flatS_get {d : Array Sp2} {t : Nat} (h : t < d.size * 2) : (flatK encS 2 d)[t]! = cS d.toList t := by
  rw [get_flatK encS 2 d t h, toL_getD d (t / 2) (by omega)]
  unfold cS encS
  generalize d.toList.getD (t / 2) (0, 0) = p
  have : t % 2 < 2 := by omega
  generalize t % 2 = j at *
  rcases j with _ | _ | j
  · rfl
  · rfl
  · omega
theorem holdsS {w : World} {b : Nat} {l : List Sp2} {cur : Array Value} {ty : TypeId} {fz : Nat × Nat} (hh : w.heap[b]? = some (.cells cur ty fz)) (ht : Thawed cur fz) (hl : l.length * 2 ≤ cur.size) (hc : ∀ t, t < l.length * 2 → cur[t]? = some (cS l t)) : HoldsK encS 2 w b 0 l.toArray := by
  intro j hj
  have hj' : j < l.length * 2 := by simpa using hj
  have hf := flatS_get (d := l.toArray) (t := j) (by simpa using hj')
  have ht2 := ht.cell j (by omega)
  constructor
  · unfold World.cell?
    simp only [Nat.zero_add, hh, Option.isSome_none, Bool.false_eq_true, if_false]
    rw [hf, hc j hj']; rfl
  · unfold World.frozen?
    obtain ⟨lo, hi⟩ := fz
    simp only [Nat.zero_add, hh]
    simpa using ht2
theorem sorted_heap (w : World) (b n : Nat) (d : Array Sp2) (os : Array Obj) {cur : Array Value} {ty : TypeId} {fz : Nat × Nat} (hh : w.heap[b]? = some (.cells cur ty fz)) :
    (sortWorldK encS 2 w b 0 n d os).heap[b]? = some (.cells (Sort.putCells id 0 (flatK encS 2 d) cur) ty fz) ∧ ∀ k, k < w.heap.size → k ≠ b → (sortWorldK encS 2 w b 0 n d os).heap[k]? = w.heap[k]? := by
  have hb : b < w.heap.size := by
    rcases Nat.lt_or_ge b w.heap.size with h | h
    · exact h
    · rw [Array.getElem?_eq_none h] at hh; cases hh
  have key : ∀ k, k < w.heap.size → (sortWorldK encS 2 w b 0 n d os).heap[k]? = (w.heap.modify b (Sort.onCells (Sort.putCells id 0 (flatK encS 2 d))))[k]? := fun k hk => by
    show ((w.heap.modify b _) ++ os)[k]? = _
    rw [Array.getElem?_append_left (by simpa using hk)]
  refine ⟨?_, fun k hk hne => ?_⟩
  · rw [key b hb, Array.getElem?_modify, if_pos rfl, hh]; rfl
  · rw [key k hk, Array.getElem?_modify, if_neg (fun h => hne h.symm)]
theorem put_get (l : List Sp2) (d : Array Sp2) (cur : Array Value) (h : d.size = l.length) (hl : l.length * 2 ≤ cur.size) : (Sort.putCells id 0 (flatK encS 2 d) cur).size = cur.size ∧ ∀ t, t < l.length * 2 → (Sort.putCells id 0 (flatK encS 2 d) cur)[t]? = some (cS d.toList t) := by
  unfold Sort.putCells
  refine ⟨by simp, fun t ht => ?_⟩
  rw [Array.getElem?_mapIdx, Array.getElem?_eq_getElem (by omega)]
  simp only [Option.map_some, Nat.zero_le, Nat.zero_add, true_and, size_flatK, Nat.sub_zero]
  rw [if_pos (by omega), flatS_get (by omega)]; rfl
set_option maxHeartbeats 2000000 in
theorem asc_ex (G : Glob) (l : List Sp2) (hl : l.length ≤ 1000000) : ∃ s, SrtOk l s ∧ Den Try.prog G 52 [.sl (l.map spD)] (.w (.c (.fr 2 (s.map spD)))) := by
  refine ⟨(Sort.pdq (ltOf loC) l.toArray 0 l.toArray.size (Lib.bitLen l.toArray.size) true true).toList, ?_, ?_⟩
  · obtain ⟨h1, h2⟩ := Sort.pdq_sorts (ltOf loC) swoLo l.toArray 0 l.toArray.size (Lib.bitLen l.toArray.size) true true (Nat.zero_le _) (Nat.le_refl _) (Or.inl rfl)
    exact srt_ok l h1 h2
  · have hsok : SrtOk l (Sort.pdq (ltOf loC) l.toArray 0 l.toArray.size (Lib.bitLen l.toArray.size) true true).toList := by
      obtain ⟨h1, h2⟩ := Sort.pdq_sorts (ltOf loC) swoLo l.toArray 0 l.toArray.size (Lib.bitLen l.toArray.size) true true (Nat.zero_le _) (Nat.le_refl _) (Or.inl rfl)
      exact srt_ok l h1 h2
    have hcon : ∀ (b cap : Nat) (w : World) (cur : Array Value) (ty : TypeId) (fz : Nat × Nat), w.heap[b]? = some (.cells cur ty fz) → Thawed cur fz → l.length * 2 ≤ cur.size → (∀ t, t < l.length * 2 → cur[t]? = some (cS l t)) →
        Calls Try.prog 55 #[.slice (some ⟨b, 0, none⟩) l.length cap, .func (.func 56) #[] #[]] w fun e w' => e = .returned (.tuple #[]) ∧ ∃ n os, w' = sortWorldK encS 2 w b 0 n (Sort.pdq (ltOf loC) l.toArray 0 l.toArray.size (Lib.bitLen l.toArray.size) true true) os := by
      intro b cap w cur ty fz hh ht hc1 hc
      have hb : b < w.heap.size := by
        rcases Nat.lt_or_ge b w.heap.size with h | h
        · exact h
        · rw [Array.getElem?_eq_none h] at hh; cases hh
      exact AnyQ.slices_SortFunc_eq Try.sortSp 2 Try.isAgg23 Try.sizeOf23 encS (fun _ => rfl) (fun x v hv => by simp [encS] at hv; rcases hv with rfl | rfl <;> rfl) loC swoLo 56 #[] b 0 cap l.toArray w
        (enters_of Try.func56 (by kernel_rfl) rfl) (fun _ _ _ _ x y => acl_w x y _) (holdsS (l := l) hh ht hc1 hc) hb (by simp only [List.size_toArray]; omega)
    generalize Sort.pdq (ltOf loC) l.toArray 0 l.toArray.size (Lib.bitLen l.toArray.size) true true = d at *
    have hdl : d.size = l.length := by have := hsok.len; simpa using this
    intro w S vs hS hG hA
    have key : ∀ u w1 S1 bl, w.heap.size ≤ w1.heap.size → (∀ b i, S1 b i → b < w1.heap.size) → ResV S1 w1 w.heap.size u (.w (.c (.fr 2 (l.map spD)))) bl → Calls Try.prog 55 #[u, .func (.func 56) #[] #[]] w1 fun e w2 =>
        e = .returned (.tuple #[]) ∧ Below w.heap.size w1 w2 ∧ ResV S1 w2 w.heap.size u (.w (.c (.fr 2 (d.toList.map spD)))) bl := by
      intro u w1 S1 bl hw hS1 hres
      rcases hres with ⟨⟨ad, rfl⟩, hnil, rfl⟩ | ⟨b, cap, ty, N, rfl, rfl, hn, hm, hsh, hN, hf⟩
      · have h0 : l = [] := by simpa using hnil
        have h1 : d.toList = [] := List.length_eq_zero_iff.1 (by rw [hsok.len, h0]; rfl)
        rw [h1]
        refine (show Calls Try.prog 55 _ w1 _ from AnyF.slices_SortFunc_none Try.sortSp ad 0 _ w1).mono ?_
        rintro e w2 ⟨rfl, rfl⟩
        exact ⟨rfl, Below.refl _ _, .inl ⟨⟨ad, rfl⟩, rfl, rfl⟩⟩
      · obtain ⟨hB, hSb, cur, ty2, fz, hh, ht, hc1, hc⟩ := ofFreshS hf
        have hlen : (l.map spD).length = l.length := List.length_map _
        have hlen2 : (d.toList.map spD).length = l.length := by rw [List.length_map]; exact hsok.len
        rw [hlen] at hn ⊢
        refine (hcon b cap w1 cur ty2 fz hh ht hc1 hc).mono ?_
        rintro e w2 ⟨rfl, n, os, rfl⟩
        obtain ⟨k1, k2⟩ := sorted_heap w1 b n d os hh
        obtain ⟨p1, p2⟩ := put_get l d cur hdl hc1
        refine ⟨rfl, ⟨rfl, rfl, rfl, size_sortWorldK_c encS 2 w1 b 0 n d os, fun k hk => k2 k (by omega) (by omega)⟩, .inr ⟨b, cap, ty2, cur.size, rfl, ?_, by rw [hlen2]; exact hn, hm, ?_, ?_, ?_⟩⟩
        · rw [hlen2]
        · unfold World.shape?; rw [k1]; simp only [p1]
        · unfold World.shape? at hsh; rw [hh] at hsh
          have := (Prod.mk.inj (Option.some.inj hsh)).2
          omega
        · exact freshS hB hSb k1 (ht.of_size p1) (by rw [p1]; have := hsok.len; omega) (fun t ht' => p2 t (by have := hsok.len; omega))
    obtain ⟨v, rfl⟩ : ∃ v, vs = [v] := by
      cases hA with | cons h1 h2 => cases h2; exact ⟨_, rfl⟩
    have hcl := cln_f G l hl w S [v] hS hG hA
    have key' : Aside (∀ u w1 S1 bl, w.heap.size ≤ w1.heap.size → (∀ b i, S1 b i → b < w1.heap.size) → ResV S1 w1 w.heap.size u (.w (.c (.fr 2 (l.map spD)))) bl → Calls Try.prog 55 #[u, .func (.func 56) #[] #[]] w1 fun e w2 =>
        e = .returned (.tuple #[]) ∧ Below w.heap.size w1 w2 ∧ ResV S1 w2 w.heap.size u (.w (.c (.fr 2 (d.toList.map spD)))) bl) := key
    clear key hcon hA hG hS
    go_enter Try.func52, Try.ntmps52
    go_wp2_with (first | (go_at_call 54; refine hcl.mono ?_; rintro e w1 ⟨u, S1, bl, rfl, hbel, hS1, hnd, hres⟩) | (go_at_call 55; refine (key'.out u w1 S1 bl hbel.size (fun b i h => (hS1 b i h).2) hres).mono ?_; rintro e w2 ⟨rfl, hbel2, hres2⟩))
    go_ret
    exact ⟨_, S1, bl, rfl, hbel.trans hbel2, fun b i h => ⟨(hS1 b i h).1, Nat.lt_of_lt_of_le (hS1 b i h).2 hbel2.size⟩, hnd, hres2⟩
end Go.Proofs.Ytaodfdnncdelnaa
