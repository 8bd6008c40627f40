/- Layer 13: smeared clocks, as functions of numbers and lists. Pure. Own work. -/
import Derived.Test.YtibpaciljnfpmaaPl0
set_option linter.unusedVariables false
set_option linter.unusedSimpArgs false
namespace Go.Proofs.Ytibpaciljnfpmaa

/-! ### What the clock shows -/
/-- The instants at which a window begins and ends. -/
def winA (f : Int) (p : Lp) : Int := (p.1 - 43200 + f) * 1048576
def winB (p : Lp) : Int := (p.1 + 43200 + p.2) * 1048576
def smN (f : Int) : List Lp → Int → Int
  | [], t => t - f * 1048576
  | p :: r, t => if t < winA f p then t - f * 1048576 else if t < winB p then (p.1 - 43200) * 1048576 + (t - winA f p) * 86400 / (86400 + p.2 - f) else smN p.2 r t
/-- The same, times 86401 times 86399, not rounded. -/
def gK (f : Int) : List Lp → Int → Int
  | [], t => (t - f * 1048576) * 7464959999
  | p :: r, t => if t < winA f p then (t - f * 1048576) * 7464959999 else if t < winB p then (p.1 - 43200) * 1048576 * 7464959999 + (t - winA f p) * (86400 * (86400 - (p.2 - f))) else gK p.2 r t
theorem gK_before {f lo : Int} {l : List Lp} (h : leapOk lo f l) {t : Int} (ht : t ≤ (lo - 43200 + f) * 1048576) : gK f l t = (t - f * 1048576) * 7464959999 := by
  cases l with
  | nil => rfl
  | cons p r =>
    have h1 := h.1
    have hd := h.2.2.2.1
    unfold gK winA winB
    by_cases k : t < (p.1 - 43200 + f) * 1048576
    · rw [if_pos k]
    · rw [if_neg k]
      have e : t = (p.1 - 43200 + f) * 1048576 := by omega
      rw [if_pos (by omega), e]
      rw [Int.sub_self, Int.zero_mul]
      omega
theorem sm_gK : ∀ {l : List Lp} {f lo : Int}, leapOk lo f l → ∀ t, smN f l t = gK f l t / 7464959999
  | [], f, lo, _, t => by
    unfold smN gK
    rw [Int.mul_ediv_cancel _ (by decide)]
  | p :: r, f, lo, h, t => by
    have hd := h.2.2.2.1
    unfold smN gK
    by_cases k1 : t < winA f p
    · rw [if_pos k1, if_pos k1, Int.mul_ediv_cancel _ (by decide)]
    · rw [if_neg k1, if_neg k1]
      by_cases k2 : t < winB p
      · rw [if_pos k2, if_pos k2, Int.add_comm (_ * 7464959999), Int.add_mul_ediv_right _ _ (by decide), Int.add_comm]
        congr 1
        generalize t - winA f p = x
        rcases hd with hd | hd
        · rw [hd, show 86400 + (f + 1) - f = 86401 by omega, show (86400 : Int) * (86400 - (f + 1 - f)) = 86400 * 86399 by rw [show f + 1 - f = 1 by omega]; decide,
            show x * (86400 * 86399) = x * 86400 * 86399 by rw [Int.mul_assoc], show (7464959999 : Int) = 86401 * 86399 by decide, Int.mul_ediv_mul_of_pos_left _ _ (by decide)]
        · rw [hd, show 86400 + (f - 1) - f = 86399 by omega, show (86400 : Int) * (86400 - (f - 1 - f)) = 86400 * 86401 by rw [show f - 1 - f = -1 by omega]; decide,
            show x * (86400 * 86401) = x * 86400 * 86401 by rw [Int.mul_assoc], show (7464959999 : Int) = 86399 * 86401 by decide, Int.mul_ediv_mul_of_pos_left _ _ (by decide)]
      · rw [if_neg k2, if_neg k2]
        exact sm_gK h.2.2.2.2 t
/-- What a tick adds. -/
theorem gK_step : ∀ {l : List Lp} {f lo : Int}, leapOk lo f l → ∀ t, gK f l t + 86400 * 86399 ≤ gK f l (t + 1) ∧ gK f l (t + 1) ≤ gK f l t + 86400 * 86401
  | [], f, lo, _, t => by
    unfold gK
    omega
  | p :: r, f, lo, h, t => by
    have hd := h.2.2.2.1
    have hlen : winB p = winA f p + (86400 + (p.2 - f)) * 1048576 := by unfold winA winB; omega
    by_cases k1 : t + 1 < winA f p
    · unfold gK
      rw [if_pos (show t < winA f p by omega), if_pos k1]; omega
    · by_cases k2 : t < winA f p
      · have e : t + 1 = winA f p := by omega
        unfold gK
        rw [if_pos k2, if_neg k1, if_pos (show t + 1 < winB p by omega), e, Int.sub_self, Int.zero_mul]
        have : t = (p.1 - 43200 + f) * 1048576 - 1 := by unfold winA at e; omega
        omega
      · by_cases k3 : t + 1 < winB p
        · unfold gK
          rw [if_neg k2, if_pos (show t < winB p by omega), if_neg k1, if_pos k3]
          generalize winA f p = A at *
          rcases hd with hd | hd
          · rw [hd, show (86400 : Int) * (86400 - (f + 1 - f)) = 7464873600 by rw [show f + 1 - f = 1 by omega]; decide]; omega
          · rw [hd, show (86400 : Int) * (86400 - (f - 1 - f)) = 7465046400 by rw [show f - 1 - f = -1 by omega]; decide]; omega
        · by_cases k4 : t < winB p
          · have e : t + 1 = winB p := by omega
            have hb := gK_before h.2.2.2.2 (t := t + 1) (by rw [e]; unfold winB; omega)
            unfold gK
            rw [if_neg k2, if_pos k4, if_neg k1, if_neg k3, hb]
            have e2 : t + 1 = (p.1 + 43200 + p.2) * 1048576 := e
            have e3 : t - winA f p = (86400 + (p.2 - f)) * 1048576 - 1 := by omega
            rw [e3]
            rcases hd with hd | hd
            · rw [hd, show (86400 : Int) * (86400 - (f + 1 - f)) = 7464873600 by rw [show f + 1 - f = 1 by omega]; decide]
              rw [hd] at e2
              omega
            · rw [hd, show (86400 : Int) * (86400 - (f - 1 - f)) = 7465046400 by rw [show f - 1 - f = -1 by omega]; decide]
              rw [hd] at e2
              omega
          · have ih := gK_step h.2.2.2.2 t
            unfold gK
            rw [if_neg k2, if_neg k4, if_neg k1, if_neg k3]
            exact ih
theorem gK_add {l : List Lp} {f lo : Int} (h : leapOk lo f l) (t : Int) (d : Nat) : gK f l t + d * 7464873600 ≤ gK f l (t + d) ∧ gK f l (t + d) ≤ gK f l t + d * 7465046400 := by
  induction d with
  | zero => simp
  | succ d ih =>
    have := gK_step h (t + d)
    have e : t + ((d + 1 : Nat) : Int) = t + d + 1 := by omega
    rw [e]
    have e2 : ((d + 1 : Nat) : Int) = (d : Int) + 1 := by omega
    rw [e2]
    omega
theorem sm_mono {l : List Lp} {f lo : Int} (h : leapOk lo f l) {a b : Int} (hab : a ≤ b) : smN f l a ≤ smN f l b := by
  obtain ⟨n, rfl⟩ : ∃ n : Nat, b = a + n := ⟨(b - a).toNat, by omega⟩
  have := gK_add h a n
  rw [sm_gK h, sm_gK h]
  exact Int.ediv_le_ediv (by decide) (by omega)
/-- Two ticks further it shows more. -/
theorem sm_two {l : List Lp} {f lo : Int} (h : leapOk lo f l) (t : Int) : smN f l t + 1 ≤ smN f l (t + 2) := by
  have := gK_add h t 2
  have e : t + ((2 : Nat) : Int) = t + 2 := rfl
  rw [e] at this
  rw [sm_gK h, sm_gK h]
  omega
theorem sm_rate {l : List Lp} {f lo : Int} (h : leapOk lo f l) (t : Int) (d : Nat) : (d : Int) - d / 86399 - 2 ≤ smN f l (t + d) - smN f l t ∧ smN f l (t + d) - smN f l t ≤ d + d / 86399 + 2 := by
  have := gK_add h t d
  rw [sm_gK h, sm_gK h]
  omega
theorem sm_before {f lo : Int} {l : List Lp} (h : leapOk lo f l) {t : Int} (ht : t ≤ (lo - 43200 + f) * 1048576) : smN f l t = t - f * 1048576 := by
  rw [sm_gK h, gK_before h ht, Int.mul_ediv_cancel _ (by decide)]
/-! ### Windows -/
/-- The offset ahead of an element. -/
def oldN (f : Int) (l : List Lp) : Nat → Int
  | 0 => f
  | i + 1 => (l.getD i (0, 0)).2
def elN (l : List Lp) (i : Nat) : Lp := l.getD i (0, 0)
theorem oldN_cons (f : Int) (p : Lp) (r : List Lp) (i : Nat) : oldN f (p :: r) (i + 1) = oldN p.2 r i := by
  cases i with
  | zero => rfl
  | succ i => rfl
theorem elN_cons (p : Lp) (r : List Lp) (i : Nat) : elN (p :: r) (i + 1) = elN r i := rfl
theorem win_ge : ∀ {l : List Lp} {f lo : Int}, leapOk lo f l → ∀ i, i < l.length → (lo - 43200 + f) * 1048576 ≤ winA (oldN f l i) (elN l i) ∧ winA (oldN f l i) (elN l i) + 86399 * 1048576 ≤ winB (elN l i) ∧ ((elN l i).2 = oldN f l i + 1 ∨ (elN l i).2 = oldN f l i - 1)
  | p :: r, f, lo, h, 0, _ => by
    have h1 := h.1
    have hd := h.2.2.2.1
    show (lo - 43200 + f) * 1048576 ≤ winA f p ∧ winA f p + 86399 * 1048576 ≤ winB p ∧ (p.2 = f + 1 ∨ p.2 = f - 1)
    unfold winA winB
    omega
  | p :: r, f, lo, h, i + 1, hi => by
    have h1 := h.1
    have hd := h.2.2.2.1
    rw [oldN_cons, elN_cons]
    have ih := win_ge h.2.2.2.2 i (by simpa using hi)
    omega
theorem sm_skip {p : Lp} {r : List Lp} {f lo : Int} (h : leapOk lo f (p :: r)) {t : Int} (ht : winB p ≤ t) : smN f (p :: r) t = smN p.2 r t := by
  have hd := h.2.2.2.1
  have : winA f p ≤ t := by unfold winA winB at *; omega
  show (if t < winA f p then _ else if t < winB p then _ else _) = _
  rw [if_neg (by omega), if_neg (by omega)]
/-- Both ends of a window show what UTC shows. -/
theorem sm_win : ∀ {l : List Lp} {f lo : Int}, leapOk lo f l → ∀ i, i < l.length → smN f l (winA (oldN f l i) (elN l i)) = ((elN l i).1 - 43200) * 1048576 ∧ smN f l (winB (elN l i)) = ((elN l i).1 + 43200) * 1048576
  | p :: r, f, lo, h, 0, _ => by
    have hd := h.2.2.2.1
    show smN f (p :: r) (winA f p) = (p.1 - 43200) * 1048576 ∧ smN f (p :: r) (winB p) = (p.1 + 43200) * 1048576
    constructor
    · have : winA f p < winB p := by unfold winA winB; omega
      show (if winA f p < winA f p then _ else if winA f p < winB p then _ else _) = _
      rw [if_neg (by omega), if_pos this, Int.sub_self, Int.zero_mul, Int.zero_ediv, Int.add_zero]
    · rw [sm_skip h (Int.le_refl _), sm_before h.2.2.2.2 (by unfold winB; omega)]
      unfold winB; omega
  | p :: r, f, lo, h, i + 1, hi => by
    have hi' : i < r.length := by simpa using hi
    rw [oldN_cons, elN_cons]
    obtain ⟨w1, w2, _⟩ := win_ge h.2.2.2.2 i hi'
    have hB : winB p ≤ winA (oldN p.2 r i) (elN r i) := by unfold winB; omega
    obtain ⟨a, b⟩ := sm_win h.2.2.2.2 i hi'
    rw [sm_skip h hB, sm_skip h (by omega)]
    exact ⟨a, b⟩
/-! ### What UTC shows, on the same scale -/
def utN (f : Int) : List Lp → Int → Int
  | [], t => t - f * 1048576
  | p :: r, t => if t < (p.1 + p.2) * 1048576 then t - f * 1048576 else utN p.2 r t
theorem u_off : ∀ {l : List Lp} {f lo : Int}, leapOk lo f l → ∀ {t s : Int}, taiN f l s ≤ t / 1048576 → t / 1048576 < taiN f l (s + 1) → utN f l t = t - offN f l s * 1048576
  | [], f, lo, _, t, s, _, _ => rfl
  | p :: r, f, lo, h, t, s, h1, h2 => by
    have hb := off_before h.2.2.2.2 (show p.1 < p.1 + 172800 by omega)
    have hp : taiN f (p :: r) p.1 = p.1 + p.2 := by
      unfold taiN
      show p.1 + (if p.1 ≤ p.1 then offN p.2 r p.1 else f) = _
      rw [if_pos (Int.le_refl _), hb]
    show (if t < (p.1 + p.2) * 1048576 then t - f * 1048576 else utN p.2 r t) = t - (if p.1 ≤ s then offN p.2 r s else f) * 1048576
    by_cases k : p.1 ≤ s
    · have := tai_mono h k
      rw [if_neg (by omega), if_pos k]
      refine u_off h.2.2.2.2 ?_ ?_
      · have e : taiN f (p :: r) s = taiN p.2 r s := by
          unfold taiN
          show s + (if p.1 ≤ s then offN p.2 r s else f) = _
          rw [if_pos k]
        rw [← e]; exact h1
      · have e : taiN f (p :: r) (s + 1) = taiN p.2 r (s + 1) := by
          unfold taiN
          show s + 1 + (if p.1 ≤ s + 1 then offN p.2 r (s + 1) else f) = _
          rw [if_pos (by omega)]
        rw [← e]; exact h2
    · have := tai_mono h (show s + 1 ≤ p.1 by omega)
      rw [if_pos (by omega), if_neg k]
/-- How far both are apart: by at most half a second and 8 ticks; outside of the windows not at all. -/
theorem err_in : ∀ {l : List Lp} {f lo : Int}, leapOk lo f l → ∀ t, -524296 ≤ smN f l t - utN f l t ∧ smN f l t - utN f l t ≤ 524296 ∧ (smN f l t = utN f l t ∨ ∃ i, i < l.length ∧ winA (oldN f l i) (elN l i) ≤ t ∧ t < winB (elN l i))
  | [], f, lo, _, t => by
    show -524296 ≤ t - f * 1048576 - (t - f * 1048576) ∧ t - f * 1048576 - (t - f * 1048576) ≤ 524296 ∧ _
    exact ⟨by omega, by omega, .inl rfl⟩
  | p :: r, f, lo, h, t => by
    have hd := h.2.2.2.1
    by_cases k1 : t < winA f p
    · have e1 : smN f (p :: r) t = t - f * 1048576 := if_pos k1
      have e2 : utN f (p :: r) t = t - f * 1048576 := if_pos (by unfold winA at k1; omega)
      rw [e1, e2]
      exact ⟨by omega, by omega, .inl rfl⟩
    · by_cases k2 : t < winB p
      · have e1 : smN f (p :: r) t = (p.1 - 43200) * 1048576 + (t - winA f p) * 86400 / (86400 + p.2 - f) := by
          show (if t < winA f p then _ else if t < winB p then _ else _) = _
          rw [if_neg k1, if_pos k2]
        have e2 : utN f (p :: r) t = if t < (p.1 + p.2) * 1048576 then t - f * 1048576 else t - p.2 * 1048576 := by
          show (if t < (p.1 + p.2) * 1048576 then t - f * 1048576 else utN p.2 r t) = _
          split
          · rfl
          · cases r with
            | nil => rfl
            | cons q r =>
              have hq := h.2.2.2.2.1
              have hq2 := h.2.2.2.2.2.2.2.1
              exact if_pos (by unfold winB at k2; omega)
        refine ⟨?_, ?_, .inr ⟨0, by simp, by show winA f p ≤ t; omega, k2⟩⟩
        all_goals
          rw [e1, e2]
          obtain ⟨x, hx⟩ : ∃ x, t - winA f p = x := ⟨_, rfl⟩
          rw [hx]
          have ht : t = x + (p.1 - 43200 + f) * 1048576 := by unfold winA at hx; omega
          have hx0 : 0 ≤ x := by omega
          have hx1 : x < (86400 + (p.2 - f)) * 1048576 := by unfold winB at k2; omega
          rcases hd with hd | hd
          · rw [hd, show 86400 + (f + 1) - f = 86401 by omega]
            split <;> omega
          · rw [hd, show 86400 + (f - 1) - f = 86399 by omega]
            split <;> omega
      · have e1 := sm_skip h (show winB p ≤ t by omega)
        have e2 : utN f (p :: r) t = utN p.2 r t := if_neg (by unfold winB at k2; omega)
        rw [e1, e2]
        obtain ⟨a, b, c⟩ := err_in h.2.2.2.2 t
        refine ⟨a, b, ?_⟩
        rcases c with c | ⟨i, hi, c1, c2⟩
        · exact .inl c
        · exact .inr ⟨i + 1, by simp; omega, by rw [oldN_cons, elN_cons]; exact c1, by rw [elN_cons]; exact c2⟩
end Go.Proofs.Ytibpaciljnfpmaa
