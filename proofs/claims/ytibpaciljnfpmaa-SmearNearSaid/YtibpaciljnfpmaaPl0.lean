/- Layer 12: leap seconds, as functions of numbers and lists. Pure. Own work. -/
import Derived.Below
set_option linter.unusedVariables false
set_option linter.unusedSimpArgs false
namespace Go.Proofs.Ytibpaciljnfpmaa

/-! ### Tables -/
abbrev Lp := Int × Int
/-- The offset of a second, behind a table's elements. -/
def offN (f : Int) : List Lp → Int → Int
  | [], _ => f
  | p :: r, s => if p.1 ≤ s then offN p.2 r s else f
/-- Elements that follow one another: the first one not before lo, behind the offset f. -/
def leapOk (lo f : Int) : List Lp → Prop
  | [] => True
  | p :: r => lo ≤ p.1 ∧ p.1 ≤ 137438953472 ∧ p.1 % 86400 = 0 ∧ (p.2 = f + 1 ∨ p.2 = f - 1) ∧ leapOk (p.1 + 172800) p.2 r
theorem leapOk_mono {a b f : Int} (h : b ≤ a) : ∀ {l : List Lp}, leapOk a f l → leapOk b f l
  | [], _ => trivial
  | _ :: _, k => ⟨by have := k.1; omega, k.2⟩
/-- TAI's second at the beginning of a second. -/
def taiN (f : Int) (l : List Lp) (s : Int) : Int := s + offN f l s
theorem off_before {f lo : Int} {l : List Lp} (h : leapOk lo f l) {s : Int} (hs : s < lo) : offN f l s = f := by
  cases l with
  | nil => rfl
  | cons p r => exact if_neg (by have := h.1; omega)
/-- What the offset does from a second to the next one. -/
theorem off_step : ∀ {l : List Lp} {f lo : Int}, leapOk lo f l → ∀ s : Int, offN f l (s + 1) - offN f l s = 0 ∨ offN f l (s + 1) - offN f l s = 1 ∨ offN f l (s + 1) - offN f l s = -1
  | [], f, lo, h, s => by simp [offN]
  | p :: r, f, lo, h, s => by
    unfold offN
    by_cases h1 : p.1 ≤ s
    · rw [if_pos h1, if_pos (by omega)]
      exact off_step h.2.2.2.2 s
    · rw [if_neg h1]
      by_cases h2 : p.1 ≤ s + 1
      · rw [if_pos h2, off_before h.2.2.2.2 (by omega)]
        have := h.2.2.2.1
        omega
      · rw [if_neg h2]; omega
theorem tai_step {l : List Lp} {f lo : Int} (h : leapOk lo f l) (s : Int) : taiN f l s ≤ taiN f l (s + 1) ∧ taiN f l (s + 1) ≤ taiN f l s + 2 := by
  have := off_step h s
  unfold taiN
  omega
theorem tai_mono {l : List Lp} {f lo : Int} (h : leapOk lo f l) {a b : Int} (hab : a ≤ b) : taiN f l a ≤ taiN f l b := by
  obtain ⟨n, rfl⟩ : ∃ n : Nat, b = a + n := ⟨(b - a).toNat, by omega⟩
  clear hab
  induction n with
  | zero => simp
  | succ n ih =>
    have := (tai_step h (a + n)).1
    have e : a + ((n + 1 : Nat) : Int) = a + n + 1 := by omega
    rw [e]; omega
/-- The second whose readings hold a second of TAI is one alone. -/
theorem tai_uniq {l : List Lp} {f lo : Int} (h : leapOk lo f l) {T a b : Int} (a1 : taiN f l a ≤ T) (a2 : T < taiN f l (a + 1)) (b1 : taiN f l b ≤ T) (b2 : T < taiN f l (b + 1)) : a = b := by
  rcases Int.lt_trichotomy a b with k | k | k
  · have := tai_mono h (show a + 1 ≤ b by omega); omega
  · exact k
  · have := tai_mono h (show b + 1 ≤ a by omega); omega
theorem off_range : ∀ {l : List Lp} {f lo : Int}, leapOk lo f l → ∀ s : Int, f - l.length ≤ offN f l s ∧ offN f l s ≤ f + l.length
  | [], f, lo, h, s => by simp [offN]
  | p :: r, f, lo, h, s => by
    unfold offN
    rw [List.length_cons]
    split
    · have := off_range h.2.2.2.2 s
      have := h.2.2.2.1
      omega
    · omega
/-- There is one. -/
theorem tai_ex {l : List Lp} {f lo : Int} (h : leapOk lo f l) (T : Int) : ∃ s, taiN f l s ≤ T ∧ T < taiN f l (s + 1) := by
  have h0 : taiN f l (T - f - l.length) ≤ T := by
    have := off_range h (T - f - l.length)
    unfold taiN; omega
  have h1 : ∀ n : Nat, (∃ s, taiN f l s ≤ T ∧ T < taiN f l (s + 1)) ∨ taiN f l (T - f - l.length + n) ≤ T := by
    intro n
    induction n with
    | zero => right; simpa using h0
    | succ n ih =>
      rcases ih with ih | ih
      · exact .inl ih
      · rcases Int.lt_or_le T (taiN f l (T - f - l.length + n + 1)) with k | k
        · exact .inl ⟨_, ih, k⟩
        · right
          have e : T - f - (l.length : Int) + ((n + 1 : Nat) : Int) = T - f - l.length + n + 1 := by omega
          rw [e]; exact k
  rcases h1 (2 * l.length + 1) with k | k
  · exact k
  · exfalso
    have := off_range h (T - f - l.length + ((2 * l.length + 1 : Nat) : Int))
    unfold taiN at k
    omega
/-- .. near it. -/
theorem tai_near {l : List Lp} {f lo : Int} (h : leapOk lo f l) {T s : Int} (h1 : taiN f l s ≤ T) (h2 : T < taiN f l (s + 1)) : T - f - l.length - 1 ≤ s ∧ s ≤ T - f + l.length := by
  have a := off_range h s
  have b := off_range h (s + 1)
  unfold taiN at h1 h2
  omega
theorem off_snoc : ∀ {l : List Lp} {f lo : Int} (p : Lp), leapOk lo f (l ++ [p]) → ∀ s : Int, offN f (l ++ [p]) s = if p.1 ≤ s then p.2 else offN f l s
  | [], f, lo, p, h, s => by simp [offN]
  | q :: r, f, lo, p, h, s => by
    have ih := off_snoc (l := r) (f := q.2) (lo := q.1 + 172800) p h.2.2.2.2 s
    have hq : q.1 ≤ p.1 := by
      have key : ∀ (r : List Lp) (a f : Int), leapOk a f (r ++ [p]) → a ≤ p.1 := by
        intro r
        induction r with
        | nil => intro a f h; exact h.1
        | cons x r ih =>
          intro a f h
          have h1 := h.1
          have := ih _ _ h.2.2.2.2
          omega
      have := key r _ _ h.2.2.2.2
      omega
    show (if q.1 ≤ s then offN q.2 (r ++ [p]) s else f) = _
    by_cases h1 : q.1 ≤ s
    · rw [if_pos h1, ih]
      show _ = if p.1 ≤ s then p.2 else (if q.1 ≤ s then offN q.2 r s else f)
      rw [if_pos h1]
    · rw [if_neg h1, if_neg (by omega)]
      exact (if_neg h1).symm
end Go.Proofs.Ytibpaciljnfpmaa
