/- Layer 11: spans, as functions of numbers and lists: what Union returns. Pure. Own work. -/
import Derived.Below
set_option linter.unusedVariables false
set_option linter.unusedSimpArgs false
namespace Go.Proofs.Ytjebhdadegfbdaa

/-! ### Lists of spans with gaps between them -/
abbrev Spn := Int × Int
def inS (t : Int) (p : Spn) : Prop := p.1 ≤ t ∧ t ≤ p.2
def inU (t : Int) (l : List Spn) : Prop := ∃ p ∈ l, inS t p
def normU : List Spn → Prop
  | [] => True
  | p :: r => p.1 ≤ p.2 ∧ (∀ q ∈ r, p.2 + 2 ≤ q.1) ∧ normU r
theorem inU_nil (t : Int) : ¬ inU t [] := fun ⟨_, h, _⟩ => by cases h
theorem inU_cons (t : Int) (p : Spn) (r : List Spn) : inU t (p :: r) ↔ inS t p ∨ inU t r := by
  constructor
  · rintro ⟨q, h, k⟩
    rcases List.mem_cons.1 h with rfl | h
    · exact .inl k
    · exact .inr ⟨q, h, k⟩
  · rintro (h | ⟨q, h, k⟩)
    · exact ⟨p, List.mem_cons_self, h⟩
    · exact ⟨q, List.mem_cons_of_mem _ h, k⟩
theorem inU_append (t : Int) (l m : List Spn) : inU t (l ++ m) ↔ inU t l ∨ inU t m := by
  constructor
  · rintro ⟨q, h, k⟩
    rcases List.mem_append.1 h with h | h
    · exact .inl ⟨q, h, k⟩
    · exact .inr ⟨q, h, k⟩
  · rintro (⟨q, h, k⟩ | ⟨q, h, k⟩)
    · exact ⟨q, List.mem_append_left _ h, k⟩
    · exact ⟨q, List.mem_append_right _ h, k⟩
theorem norm_ge {p : Spn} {r : List Spn} (h : normU (p :: r)) {t : Int} (k : inU t r) : p.2 + 2 ≤ t := by
  obtain ⟨q, hq, h1, _⟩ := k
  have := h.2.1 q hq
  omega
theorem norm_lo {p : Spn} {r : List Spn} (h : normU (p :: r)) {t : Int} (k : inU t (p :: r)) : p.1 ≤ t := by
  rcases (inU_cons _ _ _).1 k with k | k
  · exact k.1
  · have := norm_ge h k; have := h.1; omega
/-- There is one such list only for what it covers. -/
theorem norm_uniq : ∀ {u v : List Spn}, normU u → normU v → (∀ t, inU t u ↔ inU t v) → u = v
  | [], [], _, _, _ => rfl
  | [], q :: s, _, hv, h => absurd ((h q.1).2 ⟨q, List.mem_cons_self, Int.le_refl _, hv.1⟩) (inU_nil _)
  | p :: r, [], hu, _, h => absurd ((h p.1).1 ⟨p, List.mem_cons_self, Int.le_refl _, hu.1⟩) (inU_nil _)
  | p :: r, q :: s, hu, hv, h => by
    have p1 : inU p.1 (p :: r) := ⟨p, List.mem_cons_self, Int.le_refl _, hu.1⟩
    have q1 : inU q.1 (q :: s) := ⟨q, List.mem_cons_self, Int.le_refl _, hv.1⟩
    have e1 : p.1 = q.1 := Int.le_antisymm (norm_lo hu ((h q.1).2 q1)) (norm_lo hv ((h p.1).1 p1))
    have pu := hu.1
    have qu := hv.1
    have e2 : p.2 = q.2 := by
      rcases Int.lt_trichotomy p.2 q.2 with hlt | he | hgt
      · have h1 : inU (p.2 + 1) (q :: s) := ⟨q, List.mem_cons_self, by omega, by omega⟩
        rcases (inU_cons _ _ _).1 ((h _).2 h1) with k | k
        · have := k.2; omega
        · have := norm_ge hu k; omega
      · exact he
      · have h1 : inU (q.2 + 1) (p :: r) := ⟨p, List.mem_cons_self, by omega, by omega⟩
        rcases (inU_cons _ _ _).1 ((h _).1 h1) with k | k
        · have := k.2; omega
        · have := norm_ge hv k; omega
    obtain rfl : p = q := Prod.ext e1 e2
    have hrs : ∀ t, inU t r ↔ inU t s := fun t => by
      constructor
      · intro k
        have hge := norm_ge hu k
        rcases (inU_cons _ _ _).1 ((h t).1 ((inU_cons _ _ _).2 (.inr k))) with k2 | k2
        · have := k2.2; omega
        · exact k2
      · intro k
        have hge := norm_ge hv k
        rcases (inU_cons _ _ _).1 ((h t).2 ((inU_cons _ _ _).2 (.inr k))) with k2 | k2
        · have := k2.2; omega
        · exact k2
    rw [norm_uniq hu.2.2 hv.2.2 hrs]
theorem norm_snoc : ∀ {u : List Spn} {p : Spn}, normU u → p.1 ≤ p.2 → (∀ q ∈ u, q.2 + 2 ≤ p.1) → normU (u ++ [p])
  | [], p, _, h, _ => ⟨h, fun q hq => by (cases hq), trivial⟩
  | q :: r, p, hu, h, k => by
    refine ⟨hu.1, fun x hx => ?_, norm_snoc hu.2.2 h fun x hx => k x (List.mem_cons_of_mem _ hx)⟩
    rcases List.mem_append.1 hx with hx | hx
    · exact hu.2.1 x hx
    · rw [List.mem_singleton.1 hx]; exact k q List.mem_cons_self

/-! ### One pass over the spans that are left -/
structure Pas where
  hi : Int
  again : Bool
  left : List Spn
def scanS (s : Pas) (p : Spn) : Pas := if p.1 ≤ s.hi + 1 then ⟨max s.hi p.2, s.again || decide (p.2 > s.hi), s.left⟩ else ⟨s.hi, s.again, s.left ++ [p]⟩
def scanU (l : List Spn) (h : Int) : Pas := l.foldl scanS ⟨h, false, []⟩
theorem scan_keep : ∀ (l : List Spn) (s : Pas), s.again = true → (l.foldl scanS s).again = true
  | [], _, h => h
  | p :: l, s, h => by
    rw [List.foldl_cons]
    refine scan_keep l _ ?_
    unfold scanS
    split
    · dsimp only; rw [h]; rfl
    · exact h
theorem scan_len : ∀ (l : List Spn) (s : Pas), (l.foldl scanS s).left.length ≤ s.left.length + l.length
  | [], s => Nat.le_refl _
  | p :: l, s => by
    rw [List.foldl_cons, List.length_cons]
    have h := scan_len l (scanS s p)
    have : (scanS s p).left.length ≤ s.left.length + 1 := by
      unfold scanS
      split
      · exact Nat.le_succ _
      · rw [List.length_append, List.length_singleton]; exact Nat.le_refl _
    omega
theorem scan_lt : ∀ (l : List Spn) (s : Pas), (∃ p ∈ l, p.1 ≤ s.hi + 1) → (l.foldl scanS s).left.length < s.left.length + l.length
  | [], s, ⟨_, h, _⟩ => by cases h
  | p :: l, s, ⟨q, hq, h1⟩ => by
    rw [List.foldl_cons, List.length_cons]
    by_cases hj : p.1 ≤ s.hi + 1
    · have e : scanS s p = ⟨max s.hi p.2, s.again || decide (p.2 > s.hi), s.left⟩ := if_pos hj
      have h := scan_len l (scanS s p)
      rw [e] at h ⊢
      dsimp only at h
      omega
    · have e : scanS s p = ⟨s.hi, s.again, s.left ++ [p]⟩ := if_neg hj
      have hq' : q ∈ l := by
        rcases List.mem_cons.1 hq with rfl | hq
        · exact absurd h1 hj
        · exact hq
      have h := scan_lt l ⟨s.hi, s.again, s.left ++ [p]⟩ ⟨q, hq', h1⟩
      rw [e]
      rw [List.length_append, List.length_singleton] at h
      omega
theorem scan_spec (L : Int) : ∀ (l : List Spn) (s : Pas), L ≤ s.hi → (∀ p ∈ l, L ≤ p.1 ∧ p.1 ≤ p.2) →
    s.hi ≤ (l.foldl scanS s).hi ∧ (l.foldl scanS s).left.length ≤ s.left.length + l.length ∧
    ((l.foldl scanS s).again = true → s.again = true ∨ (l.foldl scanS s).left.length < s.left.length + l.length) ∧
    ((l.foldl scanS s).again = false → (l.foldl scanS s).hi = s.hi ∧ (∀ p ∈ (l.foldl scanS s).left, p ∈ s.left ∨ s.hi + 2 ≤ p.1)) ∧
    (∀ p ∈ (l.foldl scanS s).left, p ∈ s.left ∨ p ∈ l) ∧
    (∀ t, (L ≤ t ∧ t ≤ (l.foldl scanS s).hi) ∨ inU t (l.foldl scanS s).left ↔ (L ≤ t ∧ t ≤ s.hi) ∨ inU t s.left ∨ inU t l)
  | [], s, hL, _ => by
    refine ⟨Int.le_refl _, Nat.le_refl _, fun h => .inl h, fun _ => ⟨rfl, fun p hp => .inl hp⟩, fun p hp => .inl hp, fun t => ?_⟩
    simp only [List.foldl_nil]
    constructor
    · rintro (h | h)
      · exact .inl h
      · exact .inr (.inl h)
    · rintro (h | h | h)
      · exact .inl h
      · exact .inr h
      · exact absurd h (inU_nil t)
  | p :: l, s, hL, hp => by
    have hp0 := hp p List.mem_cons_self
    have hp1 : ∀ q ∈ l, L ≤ q.1 ∧ q.1 ≤ q.2 := fun q hq => hp q (List.mem_cons_of_mem _ hq)
    rw [List.foldl_cons, List.length_cons]
    by_cases hj : p.1 ≤ s.hi + 1
    · have e : scanS s p = ⟨max s.hi p.2, s.again || decide (p.2 > s.hi), s.left⟩ := if_pos hj
      rw [e]
      have hm : max s.hi p.2 = if s.hi ≤ p.2 then p.2 else s.hi := by rw [Int.max_def]
      obtain ⟨a1, a2, a3, a4, a5, a6⟩ := scan_spec L l ⟨max s.hi p.2, s.again || decide (p.2 > s.hi), s.left⟩ (by dsimp only; rw [hm]; split <;> omega) hp1
      dsimp only at a1 a2 a3 a4 a5 a6
      have hkeep : (l.foldl scanS ⟨max s.hi p.2, s.again || decide (p.2 > s.hi), s.left⟩).again = false → (s.again || decide (p.2 > s.hi)) = false := fun h => by
        cases hg : (s.again || decide (p.2 > s.hi)) with
        | false => rfl
        | true => rw [scan_keep l _ (by dsimp only; exact hg)] at h; cases h
      generalize l.foldl scanS ⟨max s.hi p.2, s.again || decide (p.2 > s.hi), s.left⟩ = R at *
      refine ⟨by rw [hm] at a1; split at a1 <;> omega, by omega, fun _ => .inr (by omega), fun h => ?_, fun q hq => ?_, fun t => ?_⟩
      · obtain ⟨b1, b2⟩ := a4 h
        have hag := hkeep h
        rw [Bool.or_eq_false_iff] at hag
        have hle : p.2 ≤ s.hi := by have := of_decide_eq_false hag.2; omega
        have hmx : max s.hi p.2 = s.hi := by rw [hm]; split <;> omega
        rw [hmx] at b1 b2
        exact ⟨b1, b2⟩
      · rcases a5 q hq with h | h
        · exact .inl h
        · exact .inr (List.mem_cons_of_mem _ h)
      · rw [a6 t, inU_cons]
        constructor
        · rintro (h | h | h)
          · by_cases k : t ≤ s.hi
            · exact .inl ⟨h.1, k⟩
            · refine .inr (.inr (.inl ⟨?_, ?_⟩))
              · omega
              · have := h.2; rw [hm] at this; split at this <;> omega
          · exact .inr (.inl h)
          · exact .inr (.inr (.inr h))
        · rintro (h | h | h | h)
          · exact .inl ⟨h.1, by rw [hm]; split <;> omega⟩
          · exact .inr (.inl h)
          · exact .inl ⟨by have := h.1; omega, by have := h.2; rw [hm]; split <;> omega⟩
          · exact .inr (.inr h)
    · have e : scanS s p = ⟨s.hi, s.again, s.left ++ [p]⟩ := if_neg hj
      rw [e]
      obtain ⟨a1, a2, a3, a4, a5, a6⟩ := scan_spec L l ⟨s.hi, s.again, s.left ++ [p]⟩ hL hp1
      dsimp only at a1 a2 a3 a4 a5 a6
      rw [List.length_append, List.length_singleton] at a2 a3
      generalize l.foldl scanS ⟨s.hi, s.again, s.left ++ [p]⟩ = R at *
      refine ⟨a1, by omega, fun h => ?_, fun h => ?_, fun q hq => ?_, fun t => ?_⟩
      · rcases a3 h with k | k
        · exact .inl k
        · exact .inr (by omega)
      · obtain ⟨b1, b2⟩ := a4 h
        refine ⟨b1, fun q hq => ?_⟩
        rcases b2 q hq with k | k
        · rcases List.mem_append.1 k with k | k
          · exact .inl k
          · rw [List.mem_singleton.1 k]; exact .inr (by omega)
        · exact .inr k
      · rcases a5 q hq with k | k
        · rcases List.mem_append.1 k with k | k
          · exact .inl k
          · rw [List.mem_singleton.1 k]; exact .inr List.mem_cons_self
        · exact .inr (List.mem_cons_of_mem _ k)
      · rw [a6 t, inU_append, inU_cons, inU_cons]
        have : ¬ inU t [] := inU_nil t
        constructor
        · rintro (h | (h | h | h) | h)
          · exact .inl h
          · exact .inr (.inl h)
          · exact .inr (.inr (.inl h))
          · exact absurd h this
          · exact .inr (.inr (.inr h))
        · rintro (h | h | h | h)
          · exact .inl h
          · exact .inr (.inl (.inl h))
          · exact .inr (.inl (.inr (.inl h)))
          · exact .inr (.inr h)
/-! ### Passes, until nothing grows -/
def passS (s : Pas) : Pas := scanU s.left s.hi
def passN (h : Int) (rest : List Spn) : Nat → Pas
  | 0 => ⟨h, true, rest⟩
  | k + 1 => passS (passN h rest k)
/-- How many passes there are. -/
def passM (s : Pas) : Nat := 2 * s.left.length + (if s.again then 1 else 0)
structure PasOk (L h : Int) (rest : List Spn) (s : Pas) : Prop where
  lo : L ≤ s.hi
  ge : h ≤ s.hi
  mem : ∀ p ∈ s.left, p ∈ rest
  len : s.left.length ≤ rest.length
  cov : ∀ t, (L ≤ t ∧ t ≤ s.hi) ∨ inU t s.left ↔ (L ≤ t ∧ t ≤ h) ∨ inU t rest
  gap : s.again = false → ∀ p ∈ s.left, s.hi + 2 ≤ p.1
theorem pass_ok {L h : Int} {rest : List Spn} (hL : L ≤ h) (hp : ∀ p ∈ rest, L ≤ p.1 ∧ p.1 ≤ p.2) (s : Pas) (k : PasOk L h rest s) : PasOk L h rest (passS s) ∧ (s.again = true → passM (passS s) < passM s) ∧ (passS s).left.length ≤ s.left.length := by
  obtain ⟨a1, a2, a3, a4, a5, a6⟩ := scan_spec L s.left ⟨s.hi, false, []⟩ k.lo (fun p hq => hp p (k.mem p hq))
  have e : passS s = s.left.foldl scanS ⟨s.hi, false, []⟩ := rfl
  rw [e]
  generalize s.left.foldl scanS ⟨s.hi, false, []⟩ = R at *
  simp only [List.length_nil, Nat.zero_add] at a2 a3
  have n0 : ∀ (p : Spn), p ∉ ([] : List Spn) := fun p h => by cases h
  refine ⟨⟨Int.le_trans k.lo a1, Int.le_trans k.ge a1, fun p hq => ?_, Nat.le_trans a2 k.len, fun t => ?_, fun hg p hq => ?_⟩, fun hg => ?_, a2⟩
  · rcases a5 p hq with h | h
    · exact absurd h (n0 p)
    · exact k.mem p h
  · rw [a6 t, ← k.cov t]
    constructor
    · rintro (h | h | h)
      · exact .inl h
      · exact absurd h (inU_nil t)
      · exact .inr h
    · rintro (h | h)
      · exact .inl h
      · exact .inr (.inr h)
  · obtain ⟨b1, b2⟩ := a4 hg
    rcases b2 p hq with h | h
    · exact absurd h (n0 p)
    · rw [b1]; exact h
  · unfold passM
    rw [hg, if_pos rfl]
    cases hr : R.again
    · rw [if_neg (by simp)]; omega
    · rw [if_pos rfl]
      rcases a3 hr with h | h
      · cases h
      · omega
theorem passN_ok {L h : Int} {rest : List Spn} (hL : L ≤ h) (hp : ∀ p ∈ rest, L ≤ p.1 ∧ p.1 ≤ p.2) : ∀ k, PasOk L h rest (passN h rest k)
  | 0 => ⟨hL, Int.le_refl _, fun _ h => h, Nat.le_refl _, fun t => Iff.rfl, fun h => by cases h⟩
  | k + 1 => (pass_ok hL hp _ (passN_ok hL hp k)).1
/-- The pass behind which nothing grows. -/
def passE (h : Int) (rest : List Spn) : Nat → Nat → Nat
  | 0, k => k
  | n + 1, k => if (passN h rest k).again = true then passE h rest n (k + 1) else k
theorem passE_end {L h : Int} {rest : List Spn} (hL : L ≤ h) (hp : ∀ p ∈ rest, L ≤ p.1 ∧ p.1 ≤ p.2) : ∀ n k, passM (passN h rest k) ≤ n → (passN h rest (passE h rest n k)).again = false ∧ k ≤ passE h rest n k ∧ ∀ i, k ≤ i → i < passE h rest n k → (passN h rest i).again = true
  | 0, k, hm => by
    unfold passM at hm
    refine ⟨?_, Nat.le_refl _, fun i h1 h2 => absurd h2 (by unfold passE; omega)⟩
    unfold passE
    cases hg : (passN h rest k).again
    · rfl
    · rw [hg, if_pos rfl] at hm; omega
  | n + 1, k, hm => by
    unfold passE
    cases hg : (passN h rest k).again
    · rw [if_neg (by simp)]
      exact ⟨hg, Nat.le_refl _, fun i h1 h2 => absurd h2 (by omega)⟩
    · rw [if_pos rfl]
      have hlt := (pass_ok hL hp _ (passN_ok hL hp k)).2.1 hg
      obtain ⟨b1, b2, b3⟩ := passE_end hL hp n (k + 1) (by show passM (passS (passN h rest k)) ≤ n; omega)
      refine ⟨b1, by omega, fun i h1 h2 => ?_⟩
      rcases Nat.lt_or_ge k i with h | h
      · exact b3 i h h2
      · rw [show i = k by omega]; exact hg
/-- A span, joined with all that touch it; and what is left. -/
def joinE (p : Spn) (rest : List Spn) : Nat := passE p.2 rest (2 * rest.length + 1) 0
def joinP (p : Spn) (rest : List Spn) : Pas := passN p.2 rest (joinE p rest)
theorem join_ok {p : Spn} {rest : List Spn} (h1 : p.1 ≤ p.2) (hp : ∀ q ∈ rest, p.1 ≤ q.1 ∧ q.1 ≤ q.2) : PasOk p.1 p.2 rest (joinP p rest) ∧ (joinP p rest).again = false ∧ ∀ i, i < joinE p rest → (passN p.2 rest i).again = true := by
  obtain ⟨b1, b2, b3⟩ := passE_end h1 hp (2 * rest.length + 1) 0 (by unfold passM passN; simp)
  exact ⟨passN_ok h1 hp _, b1, fun i h => b3 i (Nat.zero_le _) h⟩
/-! ### The least -/
def leastS (l : List Spn) (a i : Nat) : Nat := if (l.getD i (0, 0)).1 < (l.getD a (0, 0)).1 then i else a
def leastN (l : List Spn) : Nat → Nat
  | 0 => 0
  | i + 1 => leastS l (leastN l i) i
def leastI (l : List Spn) : Nat := leastN l l.length
theorem leastN_le (l : List Spn) : ∀ i, leastN l i ≤ i - 1
  | 0 => Nat.le_refl _
  | i + 1 => by
    have := leastN_le l i
    unfold leastN leastS
    split <;> omega
theorem leastN_min (l : List Spn) : ∀ i, ∀ j, j < i → (l.getD (leastN l i) (0, 0)).1 ≤ (l.getD j (0, 0)).1
  | i + 1, j, h => by
    unfold leastN leastS
    rcases Nat.lt_or_ge j i with hj | hj
    · have := leastN_min l i j hj
      split <;> omega
    · obtain rfl : j = i := by omega
      split
      · exact Int.le_refl _
      · omega
def leastP (l : List Spn) : Spn := l.getD (leastI l) (0, 0)
theorem least_ok {l : List Spn} (h : l ≠ []) : leastI l < l.length ∧ leastP l ∈ l ∧ ∀ q ∈ l, (leastP l).1 ≤ q.1 := by
  have hl : 0 < l.length := List.length_pos_iff.2 h
  have h1 : leastI l < l.length := by have := leastN_le l l.length; unfold leastI; omega
  refine ⟨h1, ?_, fun q hq => ?_⟩
  · unfold leastP
    rw [List.getD_eq_getElem?_getD, List.getElem?_eq_getElem h1]
    exact List.getElem_mem h1
  · obtain ⟨j, hj, rfl⟩ := List.getElem_of_mem hq
    have := leastN_min l l.length j hj
    rw [show l.getD j (0, 0) = l[j] by rw [List.getD_eq_getElem?_getD, List.getElem?_eq_getElem hj]; rfl] at this
    exact this
/-! ### Union -/
structure Unj where
  rest : List Spn
  out : List Spn
def unjS (u : Unj) : Unj := ⟨(joinP (leastP u.rest) u.rest).left, u.out ++ [((leastP u.rest).1, (joinP (leastP u.rest) u.rest).hi)]⟩
def unjN (l : List Spn) : Nat → Unj
  | 0 => ⟨l, []⟩
  | k + 1 => unjS (unjN l k)
structure UnjOk (l : List Spn) (u : Unj) : Prop where
  ok : ∀ p ∈ u.rest, p.1 ≤ p.2
  mem : ∀ p ∈ u.rest, p ∈ l
  norm : normU u.out
  gap : ∀ p ∈ u.out, ∀ q ∈ u.rest, p.2 + 2 ≤ q.1
  cov : ∀ t, inU t u.out ∨ inU t u.rest ↔ inU t l
  len : u.rest.length + u.out.length ≤ l.length
theorem unj_ok {l : List Spn} {u : Unj} (k : UnjOk l u) (hne : u.rest ≠ []) : UnjOk l (unjS u) ∧ (unjS u).rest.length < u.rest.length := by
  obtain ⟨h1, h2, h3⟩ := least_ok hne
  have hP := k.ok _ h2
  obtain ⟨j1, j2, _⟩ := join_ok hP (fun q hq => ⟨h3 q hq, k.ok q hq⟩)
  have hlt : (joinP (leastP u.rest) u.rest).left.length < u.rest.length := by
    -- the least span itself is joined
    have hE : 1 ≤ joinE (leastP u.rest) u.rest := by
      rcases Nat.eq_zero_or_pos (joinE (leastP u.rest) u.rest) with h | h
      · unfold joinP at j2
        rw [h] at j2
        cases j2
      · exact h
    obtain ⟨n, hn⟩ : ∃ n, joinE (leastP u.rest) u.rest = n + 1 := ⟨_, (Nat.succ_pred_eq_of_pos hE).symm⟩
    have hall : ∀ i, (passN (leastP u.rest).2 u.rest (i + 1)).left.length < u.rest.length := by
      intro i
      induction i with
      | zero =>
        have := scan_lt u.rest ⟨(leastP u.rest).2, false, []⟩ ⟨_, h2, by dsimp only; omega⟩
        rw [List.length_nil, Nat.zero_add] at this
        exact this
      | succ i ih =>
        have h5 := scan_len (passN (leastP u.rest).2 u.rest (i + 1)).left ⟨(passN (leastP u.rest).2 u.rest (i + 1)).hi, false, []⟩
        have e : passN (leastP u.rest).2 u.rest (i + 1 + 1) = (passN (leastP u.rest).2 u.rest (i + 1)).left.foldl scanS ⟨(passN (leastP u.rest).2 u.rest (i + 1)).hi, false, []⟩ := rfl
        rw [e]
        simp only [List.length_nil, Nat.zero_add] at h5
        omega
    unfold joinP
    rw [hn]
    exact hall n
  refine ⟨⟨fun p hp => k.ok p (j1.mem p hp), fun p hp => k.mem p (j1.mem p hp), ?_, fun p hp q hq => ?_, fun t => ?_, ?_⟩, hlt⟩
  · refine norm_snoc k.norm (Int.le_trans hP j1.ge) fun q hq => ?_
    exact k.gap q hq (leastP u.rest) h2
  · have hq' : q ∈ (joinP (leastP u.rest) u.rest).left := hq
    rcases List.mem_append.1 hp with hp | hp
    · exact k.gap p hp q (j1.mem q hq')
    · rw [List.mem_singleton.1 hp]
      exact j1.gap j2 q hq'
  · have c1 := j1.cov t
    have c2 := k.cov t
    unfold unjS
    dsimp only
    rw [inU_append, inU_cons, ← c2]
    have hn := inU_nil t
    constructor
    · rintro ((h | h | h) | h)
      · exact .inl h
      · rcases c1.1 (.inl h) with h | h
        · exact .inr ⟨_, h2, h⟩
        · exact .inr h
      · exact absurd h hn
      · rcases c1.1 (.inr h) with h | h
        · exact .inr ⟨_, h2, h⟩
        · exact .inr h
    · rintro (h | h)
      · exact .inl (.inl h)
      · rcases c1.2 (.inr h) with h | h
        · exact .inl (.inr (.inl h))
        · exact .inr h
  · unfold unjS
    dsimp only
    rw [List.length_append, List.length_singleton]
    have := k.len
    omega
theorem unjN_ok {l : List Spn} (h : ∀ p ∈ l, p.1 ≤ p.2) : ∀ k, (∀ i, i < k → (unjN l i).rest ≠ []) → UnjOk l (unjN l k)
  | 0, _ => ⟨h, fun _ h => h, trivial, fun p hp => (by cases hp), fun t => ⟨fun k => k.elim (fun k => absurd k (inU_nil t)) id, .inr⟩, Nat.le_refl _⟩
  | k + 1, hk => (unj_ok (unjN_ok h k fun i hi => hk i (by omega)) (hk k (by omega))).1
/-- How many spans are taken. -/
def unjE (l : List Spn) : Nat → Nat → Nat
  | 0, k => k
  | n + 1, k => if (unjN l k).rest = [] then k else unjE l n (k + 1)
theorem unjE_end {l : List Spn} (h : ∀ p ∈ l, p.1 ≤ p.2) : ∀ n k, (∀ i, i < k → (unjN l i).rest ≠ []) → (unjN l k).rest.length ≤ n → (unjN l (unjE l n k)).rest = [] ∧ ∀ i, i < unjE l n k → (unjN l i).rest ≠ []
  | 0, k, hk, hn => ⟨List.length_eq_zero_iff.1 (Nat.le_zero.1 hn), hk⟩
  | n + 1, k, hk, hn => by
    unfold unjE
    by_cases he : (unjN l k).rest = []
    · rw [if_pos he]; exact ⟨he, hk⟩
    · rw [if_neg he]
      have hlt := (unj_ok (unjN_ok h k hk) he).2
      refine unjE_end h n (k + 1) (fun i hi => ?_) (by show (unjS (unjN l k)).rest.length ≤ n; omega)
      rcases Nat.lt_or_ge i k with h2 | h2
      · exact hk i h2
      · rw [show i = k by omega]; exact he
def unionK (l : List Spn) : Nat := unjE l l.length 0
/-- What Union returns. -/
def unionL (l : List Spn) : List Spn := (unjN l (unionK l)).out
theorem union_k {l : List Spn} (h : ∀ p ∈ l, p.1 ≤ p.2) : (unjN l (unionK l)).rest = [] ∧ ∀ i, i < unionK l → (unjN l i).rest ≠ [] := unjE_end h l.length 0 (fun i hi => by omega) (Nat.le_refl _)
theorem union_ok {l : List Spn} (h : ∀ p ∈ l, p.1 ≤ p.2) : normU (unionL l) ∧ (∀ t, inU t (unionL l) ↔ inU t l) ∧ (unionL l).length ≤ l.length := by
  obtain ⟨h1, h2⟩ := union_k h
  have k := unjN_ok h (unionK l) h2
  refine ⟨k.norm, fun t => ?_, by have := k.len; unfold unionL; omega⟩
  have := k.cov t
  rw [h1] at this
  rw [← this]
  exact ⟨.inl, fun h => h.elim id fun h => absurd h (inU_nil t)⟩
/-- Whatever has the gaps and covers the same is it. -/
theorem union_is {l u : List Spn} (h : ∀ p ∈ l, p.1 ≤ p.2) (hn : normU u) (hc : ∀ t, inU t u ↔ inU t l) : u = unionL l := by
  obtain ⟨h1, h2, _⟩ := union_ok h
  exact norm_uniq hn h1 fun t => (hc t).trans (h2 t).symm
theorem norm_mem : ∀ {u : List Spn}, normU u → ∀ p ∈ u, p.1 ≤ p.2
  | q :: r, h, p, hp => by
    rcases List.mem_cons.1 hp with rfl | hp
    · exact h.1
    · exact norm_mem h.2.2 p hp
end Go.Proofs.Ytjebhdadegfbdaa
