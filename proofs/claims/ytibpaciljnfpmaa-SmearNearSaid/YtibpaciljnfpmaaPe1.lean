/- Layer 13: smeared clocks: by a table's elements; the least instant at which so much is shown. Pure. Own work. -/
import Derived.Test.YtibpaciljnfpmaaPe0
import Derived.Test.YtibpaciljnfpmaaPl2
import Derived.Test.YtibpaciljnfpmaaPr0
set_option linter.unusedVariables false
set_option linter.unusedSimpArgs false
namespace Go.Proofs.Ytibpaciljnfpmaa

/-! ### By elements -/
def frA (p : Lp) : Int := (p.1 - 43200) * 1048576
def frB (p : Lp) : Int := (p.1 + 43200) * 1048576
theorem win_gel {l : List Lp} {f lo : Int} (h : leapOk lo f l) (i : Nat) (hi : i < l.length) : (lo - 43200 + f) * 1048576 ≤ winA (lastO f l i) (lpG l i) ∧ winA (lastO f l i) (lpG l i) + 86399 * 1048576 ≤ winB (lpG l i) ∧ ((lpG l i).2 = lastO f l i + 1 ∨ (lpG l i).2 = lastO f l i - 1) := win_ge h i hi
theorem fr_ge : ∀ {l : List Lp} {f lo : Int}, leapOk lo f l → ∀ i, i < l.length → (lo - 43200) * 1048576 ≤ frA (lpG l i)
  | p :: r, f, lo, h, 0, _ => by
    have h1 := h.1
    show _ ≤ frA p
    unfold frA; omega
  | p :: r, f, lo, h, i + 1, hi => by
    have h1 := h.1
    have ih := fr_ge h.2.2.2.2 i (by simpa using hi)
    rw [lpG_cons]
    omega
theorem sm_at1 : ∀ {l : List Lp} {f lo : Int}, leapOk lo f l → ∀ {t : Int} {i : Nat}, i < l.length → winB (lpG l i) ≤ t → (i + 1 < l.length → t < winA (lpG l i).2 (lpG l (i + 1))) → smN f l t = t - (lpG l i).2 * 1048576
  | p :: r, f, lo, h, t, 0, _, h1, h2 => by
    have h1 : winB p ≤ t := h1
    rw [sm_skip h h1]
    show _ = t - p.2 * 1048576
    cases r with
    | nil => rfl
    | cons q r => exact if_pos (h2 (by simp))
  | p :: r, f, lo, h, t, i + 1, hi, h1, h2 => by
    have hi' : i < r.length := by simpa using hi
    obtain ⟨w1, w2, _⟩ := win_gel h.2.2.2.2 i hi'
    rw [lpG_cons] at h1 h2 ⊢
    have hB : winB p ≤ t := by unfold winB at *; omega
    rw [sm_skip h hB]
    exact sm_at1 h.2.2.2.2 hi' h1 (fun k => h2 (by simpa using k))
theorem sm_at2 : ∀ {l : List Lp} {f lo : Int}, leapOk lo f l → ∀ {t : Int} {i : Nat}, i < l.length → winA (lastO f l i) (lpG l i) ≤ t → t < winB (lpG l i) → smN f l t = frA (lpG l i) + (t - winA (lastO f l i) (lpG l i)) * 86400 / (86400 + (lpG l i).2 - lastO f l i)
  | p :: r, f, lo, h, t, 0, _, h1, h2 => by
    have h1 : winA f p ≤ t := h1
    have h2 : t < winB p := h2
    show (if t < winA f p then _ else if t < winB p then _ else _) = _
    rw [if_neg (by omega), if_pos h2]; rfl
  | p :: r, f, lo, h, t, i + 1, hi, h1, h2 => by
    have hi' : i < r.length := by simpa using hi
    obtain ⟨w1, w2, _⟩ := win_gel h.2.2.2.2 i hi'
    rw [lpG_cons] at h1 h2 ⊢
    rw [lastO_cons] at h1 ⊢
    have hB : winB p ≤ t := by unfold winB at *; omega
    rw [sm_skip h hB]
    exact sm_at2 h.2.2.2.2 hi' h1 h2
theorem sm_at3 {l : List Lp} {f : Int} {t : Int} (h : 0 < l.length → t < winA f (lpG l 0)) : smN f l t = t - f * 1048576 := by
  cases l with
  | nil => rfl
  | cons p r => exact if_pos (h (by simp))
/-- A later element's window begins behind the end of an earlier one's. -/
theorem win_next {l : List Lp} {f lo : Int} (h : leapOk lo f l) {i : Nat} (hi : i + 1 < l.length) : winB (lpG l i) ≤ winA (lpG l i).2 (lpG l (i + 1)) := by
  induction i generalizing l f lo with
  | zero =>
    cases l with
    | nil => simp at hi
    | cons p r =>
      obtain ⟨w1, _⟩ := win_gel h.2.2.2.2 0 (by simpa using hi)
      have w1 : (p.1 + 172800 - 43200 + p.2) * 1048576 ≤ winA p.2 (lpG r 0) := w1
      show winB p ≤ winA p.2 (lpG r 0)
      unfold winB; omega
  | succ i ih =>
    cases l with
    | nil => simp at hi
    | cons p r =>
      rw [lpG_cons, lpG_cons]
      exact ih h.2.2.2.2 (by simpa using hi)
/-! ### The least instant at which the clock shows at least s -/
def lsN (f : Int) : List Lp → Int → Int
  | [], s => s + f * 1048576
  | p :: r, s => if s < frA p then s + f * 1048576 else if s < frB p then winA f p + roundI ((s - frA p) * (86400 + p.2 - f)) 86400 true else lsN p.2 r s
theorem up_le (a x : Int) : roundI a 86400 true ≤ x ↔ a ≤ 86400 * x := by
  have h := round_enclose a (b := 86400) (by decide)
  have e : roundI a 86400 false = a / 86400 := by unfold roundI; rw [if_neg (by intro k; cases k.1)]
  rw [e] at h
  omega
theorem sm_winA {p : Lp} {r : List Lp} {f lo : Int} (h : leapOk lo f (p :: r)) : smN f (p :: r) (winA f p) = frA p := (sm_win h 0 (by simp)).1
theorem sm_winB {p : Lp} {r : List Lp} {f lo : Int} (h : leapOk lo f (p :: r)) : smN f (p :: r) (winB p) = frB p := (sm_win h 0 (by simp)).2
theorem ls_gal : ∀ {l : List Lp} {f lo : Int}, leapOk lo f l → ∀ s t : Int, s ≤ smN f l t ↔ lsN f l s ≤ t
  | [], f, lo, _, s, t => by
    show s ≤ t - f * 1048576 ↔ s + f * 1048576 ≤ t
    omega
  | p :: r, f, lo, h, s, t => by
    have hd := h.2.2.2.1
    have eA : winA f p = frA p + f * 1048576 := by unfold winA frA; omega
    have eB : winB p = winA f p + (86400 + (p.2 - f)) * 1048576 := by unfold winB winA; omega
    have eF : frB p = frA p + 90596966400 := by unfold frA frB; omega
    have hA := sm_winA h
    have hB := sm_winB h
    have sm1 : t < winA f p → smN f (p :: r) t = t - f * 1048576 := fun k => if_pos k
    have sm2 : ¬ t < winA f p → t < winB p → smN f (p :: r) t = frA p + (t - winA f p) * 86400 / (86400 + p.2 - f) := fun k1 k2 => by
      show (if t < winA f p then _ else if t < winB p then _ else _) = _
      rw [if_neg k1, if_pos k2]; rfl
    show _ ↔ (if s < frA p then s + f * 1048576 else if s < frB p then winA f p + roundI ((s - frA p) * (86400 + p.2 - f)) 86400 true else lsN p.2 r s) ≤ t
    by_cases c1 : s < frA p
    · rw [if_pos c1]
      by_cases k : t < winA f p
      · rw [sm1 k]; omega
      · have := sm_mono h (show winA f p ≤ t by omega)
        omega
    · rw [if_neg c1]
      by_cases c2 : s < frB p
      · rw [if_pos c2]
        have key : ∀ x, winA f p + roundI ((s - frA p) * (86400 + p.2 - f)) 86400 true ≤ x ↔ (s - frA p) * (86400 + p.2 - f) ≤ 86400 * (x - winA f p) := fun x => by
          have := up_le ((s - frA p) * (86400 + p.2 - f)) (x - winA f p)
          omega
        rw [key]
        by_cases k1 : t < winA f p
        · rw [sm1 k1]
          rcases hd with hd | hd
          · rw [hd, show 86400 + (f + 1) - f = 86401 by omega]; omega
          · rw [hd, show 86400 + (f - 1) - f = 86399 by omega]; omega
        · by_cases k2 : t < winB p
          · rw [sm2 k1 k2]
            rcases hd with hd | hd
            · rw [hd, show 86400 + (f + 1) - f = 86401 by omega]; omega
            · rw [hd, show 86400 + (f - 1) - f = 86399 by omega]; omega
          · have := sm_mono h (show winB p ≤ t by omega)
            rcases hd with hd | hd
            · rw [hd, show 86400 + (f + 1) - f = 86401 by omega]
              rw [hd, show f + 1 - f = 1 by omega] at eB
              omega
            · rw [hd, show 86400 + (f - 1) - f = 86399 by omega]
              rw [hd, show f - 1 - f = -1 by omega] at eB
              omega
      · rw [if_neg c2]
        have ih := ls_gal h.2.2.2.2 s t
        by_cases k2 : t < winB p
        · have hb := sm_before h.2.2.2.2 (t := t) (by unfold winB at k2; omega)
          rw [hb] at ih
          have e3 : frB p = winB p - p.2 * 1048576 := by unfold frB winB; omega
          have n1 : smN f (p :: r) t < frB p := by
            by_cases k1 : t < winA f p
            · rw [sm1 k1]; omega
            · rw [sm2 k1 k2]
              rcases hd with hd | hd
              · rw [hd, show 86400 + (f + 1) - f = 86401 by omega]
                rw [hd, show f + 1 - f = 1 by omega] at eB
                omega
              · rw [hd, show 86400 + (f - 1) - f = 86399 by omega]
                rw [hd, show f - 1 - f = -1 by omega] at eB
                omega
          omega
        · rw [sm_skip h (by omega)]; exact ih
theorem ls_before {f lo : Int} {l : List Lp} (h : leapOk lo f l) {s : Int} (hs : s ≤ (lo - 43200) * 1048576) : lsN f l s = s + f * 1048576 := by
  cases l with
  | nil => rfl
  | cons p r =>
    have h1 := h.1
    show (if s < frA p then s + f * 1048576 else if s < frB p then _ else _) = _
    by_cases k : s < frA p
    · rw [if_pos k]
    · have e : s = frA p := by unfold frA at *; omega
      rw [if_neg k, if_pos (by unfold frA frB at *; omega), e, Int.sub_self, Int.zero_mul]
      have : roundI 0 86400 true = 0 := by decide
      rw [this]
      unfold winA frA; omega
theorem ls_skip {p : Lp} {r : List Lp} {f : Int} {s : Int} (hs : frB p ≤ s) : lsN f (p :: r) s = lsN p.2 r s := by
  show (if s < frA p then s + f * 1048576 else if s < frB p then _ else _) = _
  rw [if_neg (by unfold frA frB at *; omega), if_neg (by omega)]
theorem ls_at1 : ∀ {l : List Lp} {f lo : Int}, leapOk lo f l → ∀ {s : Int} {i : Nat}, i < l.length → frB (lpG l i) ≤ s → (i + 1 < l.length → s ≤ frA (lpG l (i + 1))) → lsN f l s = s + (lpG l i).2 * 1048576
  | p :: r, f, lo, h, s, 0, _, h1, h2 => by
    have h1 : frB p ≤ s := h1
    rw [ls_skip h1]
    show _ = s + p.2 * 1048576
    cases r with
    | nil => rfl
    | cons q r =>
      have h2 : s ≤ frA q := h2 (by simp)
      refine ls_before (lo := q.1) (l := q :: r) ⟨Int.le_refl _, h.2.2.2.2.2⟩ ?_
      unfold frA at h2; exact h2
  | p :: r, f, lo, h, s, i + 1, hi, h1, h2 => by
    have hi' : i < r.length := by simpa using hi
    have w1 := fr_ge h.2.2.2.2 i hi'
    rw [lpG_cons] at h1 h2 ⊢
    have hB : frB p ≤ s := by unfold frA frB at *; omega
    rw [ls_skip hB]
    exact ls_at1 h.2.2.2.2 hi' h1 (fun k => h2 (by simpa using k))
theorem ls_at2 : ∀ {l : List Lp} {f lo : Int}, leapOk lo f l → ∀ {s : Int} {i : Nat}, i < l.length → frA (lpG l i) ≤ s → s ≤ frB (lpG l i) → lsN f l s = winA (lastO f l i) (lpG l i) + roundI ((s - frA (lpG l i)) * (86400 + (lpG l i).2 - lastO f l i)) 86400 true
  | p :: r, f, lo, h, s, 0, _, h1, h2 => by
    have h1 : frA p ≤ s := h1
    have h2 : s ≤ frB p := h2
    show _ = winA f p + roundI ((s - frA p) * (86400 + p.2 - f)) 86400 true
    by_cases k : s < frB p
    · show (if s < frA p then s + f * 1048576 else if s < frB p then _ else _) = _
      rw [if_neg (by omega), if_pos k]
    · have e : s = frB p := by omega
      have hd := h.2.2.2.1
      have e2 : frB p - frA p = 90596966400 := by unfold frA frB; omega
      rw [ls_skip (by omega), ls_before h.2.2.2.2 (by unfold frB at e; omega), e, e2]
      have u := round_enclose (90596966400 * (86400 + p.2 - f)) (b := 86400) (by decide)
      have e3 : roundI (90596966400 * (86400 + p.2 - f)) 86400 false = 90596966400 * (86400 + p.2 - f) / 86400 := by unfold roundI; rw [if_neg (by intro k; cases k.1)]
      rw [e3] at u
      unfold frB winA
      omega
  | p :: r, f, lo, h, s, i + 1, hi, h1, h2 => by
    have hi' : i < r.length := by simpa using hi
    have w1 := fr_ge h.2.2.2.2 i hi'
    rw [lpG_cons] at h1 h2 ⊢
    rw [lastO_cons]
    have hB : frB p ≤ s := by unfold frA frB at *; omega
    rw [ls_skip hB]
    exact ls_at2 h.2.2.2.2 hi' h1 h2
theorem ls_at3 {l : List Lp} {f lo : Int} (h : leapOk lo f l) {s : Int} (k : 0 < l.length → s ≤ frA (lpG l 0)) : lsN f l s = s + f * 1048576 := by
  cases l with
  | nil => rfl
  | cons p r =>
    refine ls_before (lo := p.1) (l := p :: r) ⟨Int.le_refl _, h.2⟩ ?_
    have := k (by simp)
    unfold frA at this; exact this
theorem ls_mono {l : List Lp} {f lo : Int} (h : leapOk lo f l) {a b : Int} (hab : a ≤ b) : lsN f l a ≤ lsN f l b := by
  refine (ls_gal h a _).1 ?_
  have := (ls_gal h b _).2 (Int.le_refl _)
  omega
/-! ### Bounds -/
theorem utN_range : ∀ {l : List Lp} {f lo : Int}, leapOk lo f l → ∀ t : Int, t - (f + l.length) * 1048576 ≤ utN f l t ∧ utN f l t ≤ t - (f - l.length) * 1048576
  | [], f, lo, _, t => by
    show t - (f + (0 : Nat)) * 1048576 ≤ t - f * 1048576 ∧ t - f * 1048576 ≤ t - (f - (0 : Nat)) * 1048576
    omega
  | p :: r, f, lo, h, t => by
    have ih := utN_range h.2.2.2.2 t
    have hd := h.2.2.2.1
    rw [List.length_cons]
    show t - _ ≤ (if t < (p.1 + p.2) * 1048576 then t - f * 1048576 else utN p.2 r t) ∧ (if t < (p.1 + p.2) * 1048576 then t - f * 1048576 else utN p.2 r t) ≤ _
    split <;> omega
theorem sm_range {l : List Lp} {f : Int} (h : okB f l = true) (t : Int) : t - 173015040 ≤ smN f l t ∧ smN f l t ≤ t + 68157440 := by
  have a := utN_range (okB_leap h) t
  have b := err_in (okB_leap h) t
  have c := (okB_iff.1 h).1
  omega
theorem ls_range {l : List Lp} {f : Int} (h : okB f l = true) (s : Int) : s - 68157440 ≤ lsN f l s ∧ lsN f l s ≤ s + 173015040 := by
  constructor
  · have := (ls_gal (okB_leap h) s _).2 (Int.le_refl (lsN f l s))
    have := sm_range h (lsN f l s)
    omega
  · refine (ls_gal (okB_leap h) s _).1 ?_
    have := sm_range h (s + 173015040)
    omega
/-- At most a tick. -/
theorem ls_two {l : List Lp} {f lo : Int} (h : leapOk lo f l) (s : Int) : lsN f l (s + 1) ≤ lsN f l s + 2 := by
  refine (ls_gal h _ _).1 ?_
  have a := (ls_gal h s _).2 (Int.le_refl _)
  have b := sm_two h (lsN f l s)
  omega
/-! ### What the functions return -/
def smvB (f : Int) (l : List Lp) (t : Int) : Bool := okB f l && decide (134217728 ≤ t ∧ t ≤ 288230376151711744)
def smvE (f : Int) (l : List Lp) (t : Int) : Int := if okB f l = true then (if 134217728 ≤ t ∧ t ≤ 288230376151711744 then 0 else 4) else 3
def smvV (f : Int) (l : List Lp) (t : Int) : Int := if smvB f l t = true then smN f l t else 0
def clrR (f : Int) (l : List Lp) (s : Int) : Bool := okB f l && decide (268435456 ≤ s ∧ s ≤ 144115188075855872)
def clrN (f : Int) (l : List Lp) (s : Int) : Bool := decide (lsN f l s = lsN f l (s + 1))
def clrE (f : Int) (l : List Lp) (s : Int) : Int := if okB f l = true then (if 268435456 ≤ s ∧ s ≤ 144115188075855872 then (if clrN f l s = true then 10 else 0) else 4) else 3
def clrB (f : Int) (l : List Lp) (s : Int) : Bool := clrR f l s && !clrN f l s
def clrLo (f : Int) (l : List Lp) (s : Int) : Int := if clrB f l s = true then lsN f l s else 0
def clrHi (f : Int) (l : List Lp) (s : Int) : Int := if clrB f l s = true then lsN f l (s + 1) - 1 else 0
def errB (f : Int) (l : List Lp) (t : Int) : Bool := smvB f l t && utcB f l t
def errE (f : Int) (l : List Lp) (t : Int) : Int := if smvE f l t = 0 then (if utcB f l t = true then 0 else 9) else smvE f l t
def errV (f : Int) (l : List Lp) (t : Int) : Int := if errB f l t = true then smN f l t - (((shwN f l (t / 1048576)).1 + bI (shwN f l (t / 1048576)).2) * 1048576 + t % 1048576) else 0
def wdwB (f : Int) (l : List Lp) (i : Int) : Bool := okB f l && decide (0 ≤ i ∧ i < (l.length : Int))
def wdwE (f : Int) (l : List Lp) (i : Int) : Int := if okB f l = true then (if 0 ≤ i ∧ i < (l.length : Int) then 0 else 4) else 3
def wdwV (f : Int) (l : List Lp) (i x : Int) : Int := if wdwB f l i = true then x else 0
end Go.Proofs.Ytibpaciljnfpmaa
