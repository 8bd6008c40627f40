/- Layer 11: spans: the common part. Pure. Own work. -/
import Derived.Test.YtjebhdadegfbdaaPi0
set_option linter.unusedVariables false
set_option linter.unusedSimpArgs false
namespace Go.Proofs.Ytjebhdadegfbdaa

def okP (p : Spn) : Bool := decide (-1152921504606846976 ≤ p.1 ∧ p.2 ≤ 1152921504606846976 ∧ p.1 ≤ p.2)
theorem okP_t {p : Spn} (h : okP p = true) : -1152921504606846976 ≤ p.1 ∧ p.2 ≤ 1152921504606846976 ∧ p.1 ≤ p.2 := of_decide_eq_true h
def meetV (p q : Spn) : Spn := (max p.1 q.1, min p.2 q.2)
def meetB (p q : Spn) : Bool := okP p && okP q && decide (max p.1 q.1 ≤ min p.2 q.2)
theorem max_if (a b : Int) : max a b = if a ≤ b then b else a := by rw [Int.max_def]
theorem min_if (a b : Int) : min a b = if a ≤ b then a else b := by rw [Int.min_def]
theorem meetB_t {p q : Spn} (h : meetB p q = true) : okP p = true ∧ okP q = true ∧ okP (meetV p q) = true := by
  unfold meetB at h
  rw [Bool.and_eq_true, Bool.and_eq_true] at h
  have h1 := okP_t h.1.1
  have h2 := okP_t h.1.2
  have h3 := of_decide_eq_true h.2
  refine ⟨h.1.1, h.1.2, decide_eq_true ?_⟩
  unfold meetV
  dsimp only
  rw [max_if, min_if] at h3 ⊢
  refine ⟨?_, ?_, h3⟩
  · split <;> omega
  · split <;> omega
theorem meet_in {p q : Spn} (t : Int) : inS t (meetV p q) ↔ inS t p ∧ inS t q := by
  unfold inS meetV
  dsimp only
  rw [max_if, min_if]
  split <;> split <;> omega
theorem meetB_of {p q : Spn} (h1 : okP p = true) (h2 : okP q = true) {t : Int} (h3 : inS t p) (h4 : inS t q) : meetB p q = true := by
  have k := (meet_in (p := p) (q := q) t).2 ⟨h3, h4⟩
  have : max p.1 q.1 ≤ min p.2 q.2 := Int.le_trans k.1 k.2
  unfold meetB
  rw [h1, h2, decide_eq_true this]; rfl
theorem span_uniq {p q : Spn} (hp : p.1 ≤ p.2) (hq : q.1 ≤ q.2) (h : ∀ t, inS t p ↔ inS t q) : p = q := by
  have a := (h p.1).1 ⟨Int.le_refl _, hp⟩
  have b := (h p.2).1 ⟨hp, Int.le_refl _⟩
  have c := (h q.1).2 ⟨Int.le_refl _, hq⟩
  have d := (h q.2).2 ⟨hq, Int.le_refl _⟩
  unfold inS at *
  exact Prod.ext (by omega) (by omega)
def comF : Option Spn → Spn → Option Spn
  | none, _ => none
  | some p, q => if meetB p q = true then some (meetV p q) else none
def comL : List Spn → Option Spn
  | [] => none
  | p :: r => if okP p = true then r.foldl comF (some p) else none
theorem comF_none : ∀ l : List Spn, l.foldl comF none = none
  | [] => rfl
  | p :: l => by rw [List.foldl_cons]; exact comF_none l
theorem comF_some : ∀ (l : List Spn) (p c : Spn), okP p = true → l.foldl comF (some p) = some c → (∀ q ∈ l, okP q = true) ∧ okP c = true ∧ ∀ t, inS t c ↔ inS t p ∧ ∀ q ∈ l, inS t q
  | [], p, c, hp, h => by
    cases h
    exact ⟨fun q hq => (by cases hq), hp, fun t => ⟨fun k => ⟨k, fun q hq => by cases hq⟩, fun k => k.1⟩⟩
  | q :: l, p, c, hp, h => by
    rw [List.foldl_cons] at h
    by_cases hm : meetB p q = true
    · have e : comF (some p) q = some (meetV p q) := if_pos hm
      rw [e] at h
      obtain ⟨m1, m2, m3⟩ := meetB_t hm
      obtain ⟨a, b, d⟩ := comF_some l (meetV p q) c m3 h
      refine ⟨fun x hx => ?_, b, fun t => ?_⟩
      · rcases List.mem_cons.1 hx with rfl | hx
        · exact m2
        · exact a x hx
      · rw [d t, meet_in]
        constructor
        · rintro ⟨⟨k1, k2⟩, k3⟩
          refine ⟨k1, fun x hx => ?_⟩
          rcases List.mem_cons.1 hx with rfl | hx
          · exact k2
          · exact k3 x hx
        · rintro ⟨k1, k2⟩
          exact ⟨⟨k1, k2 q List.mem_cons_self⟩, fun x hx => k2 x (List.mem_cons_of_mem _ hx)⟩
    · have e : comF (some p) q = none := if_neg hm
      rw [e, comF_none] at h
      cases h
theorem comF_ex : ∀ (l : List Spn) (p : Spn), okP p = true → (∀ q ∈ l, okP q = true) → ∀ t, inS t p → (∀ q ∈ l, inS t q) → (l.foldl comF (some p)).isSome = true
  | [], _, _, _, _, _, _ => rfl
  | q :: l, p, hp, hq, t, h1, h2 => by
    rw [List.foldl_cons]
    have hm := meetB_of hp (hq q List.mem_cons_self) h1 (h2 q List.mem_cons_self)
    have e : comF (some p) q = some (meetV p q) := if_pos hm
    rw [e]
    exact comF_ex l _ (meetB_t hm).2.2 (fun x hx => hq x (List.mem_cons_of_mem _ hx)) t ((meet_in t).2 ⟨h1, h2 q List.mem_cons_self⟩) fun x hx => h2 x (List.mem_cons_of_mem _ hx)
theorem com_some {l : List Spn} {c : Spn} (h : comL l = some c) : l ≠ [] ∧ (∀ q ∈ l, okP q = true) ∧ okP c = true ∧ ∀ t, inS t c ↔ ∀ q ∈ l, inS t q := by
  cases l with
  | nil => cases h
  | cons p r =>
    by_cases hp : okP p = true
    · rw [show comL (p :: r) = r.foldl comF (some p) from if_pos hp] at h
      obtain ⟨a, b, d⟩ := comF_some r p c hp h
      refine ⟨by simp, fun x hx => ?_, b, fun t => ?_⟩
      · rcases List.mem_cons.1 hx with rfl | hx
        · exact hp
        · exact a x hx
      · rw [d t]
        constructor
        · rintro ⟨k1, k2⟩ x hx
          rcases List.mem_cons.1 hx with rfl | hx
          · exact k1
          · exact k2 x hx
        · intro k
          exact ⟨k p List.mem_cons_self, fun x hx => k x (List.mem_cons_of_mem _ hx)⟩
    · rw [show comL (p :: r) = none from if_neg hp] at h
      cases h
theorem com_ex {l : List Spn} (hne : l ≠ []) (hq : ∀ q ∈ l, okP q = true) {t : Int} (h : ∀ q ∈ l, inS t q) : (comL l).isSome = true := by
  cases l with
  | nil => exact absurd rfl hne
  | cons p r =>
    rw [show comL (p :: r) = r.foldl comF (some p) from if_pos (hq p List.mem_cons_self)]
    exact comF_ex r p (hq p List.mem_cons_self) (fun x hx => hq x (List.mem_cons_of_mem _ hx)) t (h p List.mem_cons_self) fun x hx => h x (List.mem_cons_of_mem _ hx)
/-- Whatever is valid and has just the common instants is it. -/
theorem com_is {l : List Spn} {c : Spn} (hne : l ≠ []) (hq : ∀ q ∈ l, okP q = true) (hc : c.1 ≤ c.2) (h : ∀ t, inS t c ↔ ∀ q ∈ l, inS t q) : comL l = some c := by
  have := com_ex hne hq (t := c.1) ((h c.1).1 ⟨Int.le_refl _, hc⟩)
  cases k : comL l with
  | none => rw [k] at this; cases this
  | some d =>
    obtain ⟨_, _, a, b⟩ := com_some k
    rw [span_uniq (okP_t a).2.2 hc fun t => (b t).trans (h t).symm]
end Go.Proofs.Ytjebhdadegfbdaa
