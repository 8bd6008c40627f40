/- Texts of one's own, merged: from: Layer 12: leap seconds, as functions of numbers and lists. Pure. Own work. -/
import Derived.Below
set_option linter.unusedVariables false
set_option linter.unusedSimpArgs false
namespace Go.Proofs.Ytjebhdadegfbdaa

/-! ### Tables -/
abbrev Lp := Int × Int
/-- The offset of a second, behind a table's elements. -/
def offN (f : Int) : List Lp → Int → Int
  | [], _ => f
  | p :: r, s => if p.1 ≤ s then offN p.2 r s else f
/-- Elements that follow one another: the first one not before lo, behind the offset f. -/
def leapOk (lo f : Int) : List Lp → Prop
  | [] => True
  | p :: r => lo ≤ p.1 ∧ p.1 ≤ 137438953472 ∧ p.1 % 86400 = 0 ∧ (p.2 = f + 1 ∨ p.2 = f - 1) ∧ leapOk (p.1 + 172800) p.2 r
theorem leapOk_mono {a b f : Int} (h : b ≤ a) : ∀ {l : List Lp}, leapOk a f l → leapOk b f l
  | [], _ => trivial
  | _ :: _, k => ⟨by have := k.1; omega, k.2⟩
/-- TAI's second at the beginning of a second. -/
def taiN (f : Int) (l : List Lp) (s : Int) : Int := s + offN f l s
theorem off_before {f lo : Int} {l : List Lp} (h : leapOk lo f l) {s : Int} (hs : s < lo) : offN f l s = f := by
  cases l with
  | nil => rfl
  | cons p r => exact if_neg (by have := h.1; omega)
/-- What the offset does from a second to the next one. -/
theorem off_step : ∀ {l : List Lp} {f lo : Int}, leapOk lo f l → ∀ s : Int, offN f l (s + 1) - offN f l s = 0 ∨ offN f l (s + 1) - offN f l s = 1 ∨ offN f l (s + 1) - offN f l s = -1
  | [], f, lo, h, s => by simp [offN]
  | p :: r, f, lo, h, s => by
    unfold offN
    by_cases h1 : p.1 ≤ s
    · rw [if_pos h1, if_pos (by omega)]
      exact off_step h.2.2.2.2 s
    · rw [if_neg h1]
      by_cases h2 : p.1 ≤ s + 1
      · rw [if_pos h2, off_before h.2.2.2.2 (by omega)]
        have := h.2.2.2.1
        omega
      · rw [if_neg h2]; omega
theorem tai_step {l : List Lp} {f lo : Int} (h : leapOk lo f l) (s : Int) : taiN f l s ≤ taiN f l (s + 1) ∧ taiN f l (s + 1) ≤ taiN f l s + 2 := by
  have := off_step h s
  unfold taiN
  omega
theorem tai_mono {l : List Lp} {f lo : Int} (h : leapOk lo f l) {a b : Int} (hab : a ≤ b) : taiN f l a ≤ taiN f l b := by
  obtain ⟨n, rfl⟩ : ∃ n : Nat, b = a + n := ⟨(b - a).toNat, by omega⟩
  clear hab
  induction n with
  | zero => simp
  | succ n ih =>
    have := (tai_step h (a + n)).1
    have e : a + ((n + 1 : Nat) : Int) = a + n + 1 := by omega
    rw [e]; omega
/-- The second whose readings hold a second of TAI is one alone. -/
theorem tai_uniq {l : List Lp} {f lo : Int} (h : leapOk lo f l) {T a b : Int} (a1 : taiN f l a ≤ T) (a2 : T < taiN f l (a + 1)) (b1 : taiN f l b ≤ T) (b2 : T < taiN f l (b + 1)) : a = b := by
  rcases Int.lt_trichotomy a b with k | k | k
  · have := tai_mono h (show a + 1 ≤ b by omega); omega
  · exact k
  · have := tai_mono h (show b + 1 ≤ a by omega); omega
theorem off_range : ∀ {l : List Lp} {f lo : Int}, leapOk lo f l → ∀ s : Int, f - l.length ≤ offN f l s ∧ offN f l s ≤ f + l.length
  | [], f, lo, h, s => by simp [offN]
  | p :: r, f, lo, h, s => by
    unfold offN
    rw [List.length_cons]
    split
    · have := off_range h.2.2.2.2 s
      have := h.2.2.2.1
      omega
    · omega
/-- There is one. -/
theorem tai_ex {l : List Lp} {f lo : Int} (h : leapOk lo f l) (T : Int) : ∃ s, taiN f l s ≤ T ∧ T < taiN f l (s + 1) := by
  have h0 : taiN f l (T - f - l.length) ≤ T := by
    have := off_range h (T - f - l.length)
    unfold taiN; omega
  have h1 : ∀ n : Nat, (∃ s, taiN f l s ≤ T ∧ T < taiN f l (s + 1)) ∨ taiN f l (T - f - l.length + n) ≤ T := by
    intro n
    induction n with
    | zero => right; simpa using h0
    | succ n ih =>
      rcases ih with ih | ih
      · exact .inl ih
      · rcases Int.lt_or_le T (taiN f l (T - f - l.length + n + 1)) with k | k
        · exact .inl ⟨_, ih, k⟩
        · right
          have e : T - f - (l.length : Int) + ((n + 1 : Nat) : Int) = T - f - l.length + n + 1 := by omega
          rw [e]; exact k
  rcases h1 (2 * l.length + 1) with k | k
  · exact k
  · exfalso
    have := off_range h (T - f - l.length + ((2 * l.length + 1 : Nat) : Int))
    unfold taiN at k
    omega
/-- .. near it. -/
theorem tai_near {l : List Lp} {f lo : Int} (h : leapOk lo f l) {T s : Int} (h1 : taiN f l s ≤ T) (h2 : T < taiN f l (s + 1)) : T - f - l.length - 1 ≤ s ∧ s ≤ T - f + l.length := by
  have a := off_range h s
  have b := off_range h (s + 1)
  unfold taiN at h1 h2
  omega
theorem off_snoc : ∀ {l : List Lp} {f lo : Int} (p : Lp), leapOk lo f (l ++ [p]) → ∀ s : Int, offN f (l ++ [p]) s = if p.1 ≤ s then p.2 else offN f l s
  | [], f, lo, p, h, s => by simp [offN]
  | q :: r, f, lo, p, h, s => by
    have ih := off_snoc (l := r) (f := q.2) (lo := q.1 + 172800) p h.2.2.2.2 s
    have hq : q.1 ≤ p.1 := by
      have key : ∀ (r : List Lp) (a f : Int), leapOk a f (r ++ [p]) → a ≤ p.1 := by
        intro r
        induction r with
        | nil => intro a f h; exact h.1
        | cons x r ih =>
          intro a f h
          have h1 := h.1
          have := ih _ _ h.2.2.2.2
          omega
      have := key r _ _ h.2.2.2.2
      omega
    show (if q.1 ≤ s then offN q.2 (r ++ [p]) s else f) = _
    by_cases h1 : q.1 ≤ s
    · rw [if_pos h1, ih]
      show _ = if p.1 ≤ s then p.2 else (if q.1 ≤ s then offN q.2 r s else f)
      rw [if_pos h1]
    · rw [if_neg h1, if_neg (by omega)]
      exact (if_neg h1).symm
end Go.Proofs.Ytjebhdadegfbdaa
set_option linter.unusedVariables false
set_option linter.unusedSimpArgs false
namespace Go.Proofs.Ytjebhdadegfbdaa

/-! ### What the clock shows -/
/-- The instants at which a window begins and ends. -/
def winA (f : Int) (p : Lp) : Int := (p.1 - 43200 + f) * 1048576
def winB (p : Lp) : Int := (p.1 + 43200 + p.2) * 1048576
def smN (f : Int) : List Lp → Int → Int
  | [], t => t - f * 1048576
  | p :: r, t => if t < winA f p then t - f * 1048576 else if t < winB p then (p.1 - 43200) * 1048576 + (t - winA f p) * 86400 / (86400 + p.2 - f) else smN p.2 r t
/-- The same, times 86401 times 86399, not rounded. -/
def gK (f : Int) : List Lp → Int → Int
  | [], t => (t - f * 1048576) * 7464959999
  | p :: r, t => if t < winA f p then (t - f * 1048576) * 7464959999 else if t < winB p then (p.1 - 43200) * 1048576 * 7464959999 + (t - winA f p) * (86400 * (86400 - (p.2 - f))) else gK p.2 r t
theorem gK_before {f lo : Int} {l : List Lp} (h : leapOk lo f l) {t : Int} (ht : t ≤ (lo - 43200 + f) * 1048576) : gK f l t = (t - f * 1048576) * 7464959999 := by
  cases l with
  | nil => rfl
  | cons p r =>
    have h1 := h.1
    have hd := h.2.2.2.1
    unfold gK winA winB
    by_cases k : t < (p.1 - 43200 + f) * 1048576
    · rw [if_pos k]
    · rw [if_neg k]
      have e : t = (p.1 - 43200 + f) * 1048576 := by omega
      rw [if_pos (by omega), e]
      rw [Int.sub_self, Int.zero_mul]
      omega
theorem sm_gK : ∀ {l : List Lp} {f lo : Int}, leapOk lo f l → ∀ t, smN f l t = gK f l t / 7464959999
  | [], f, lo, _, t => by
    unfold smN gK
    rw [Int.mul_ediv_cancel _ (by decide)]
  | p :: r, f, lo, h, t => by
    have hd := h.2.2.2.1
    unfold smN gK
    by_cases k1 : t < winA f p
    · rw [if_pos k1, if_pos k1, Int.mul_ediv_cancel _ (by decide)]
    · rw [if_neg k1, if_neg k1]
      by_cases k2 : t < winB p
      · rw [if_pos k2, if_pos k2, Int.add_comm (_ * 7464959999), Int.add_mul_ediv_right _ _ (by decide), Int.add_comm]
        congr 1
        generalize t - winA f p = x
        rcases hd with hd | hd
        · rw [hd, show 86400 + (f + 1) - f = 86401 by omega, show (86400 : Int) * (86400 - (f + 1 - f)) = 86400 * 86399 by rw [show f + 1 - f = 1 by omega]; decide,
            show x * (86400 * 86399) = x * 86400 * 86399 by rw [Int.mul_assoc], show (7464959999 : Int) = 86401 * 86399 by decide, Int.mul_ediv_mul_of_pos_left _ _ (by decide)]
        · rw [hd, show 86400 + (f - 1) - f = 86399 by omega, show (86400 : Int) * (86400 - (f - 1 - f)) = 86400 * 86401 by rw [show f - 1 - f = -1 by omega]; decide,
            show x * (86400 * 86401) = x * 86400 * 86401 by rw [Int.mul_assoc], show (7464959999 : Int) = 86399 * 86401 by decide, Int.mul_ediv_mul_of_pos_left _ _ (by decide)]
      · rw [if_neg k2, if_neg k2]
        exact sm_gK h.2.2.2.2 t
/-- What a tick adds. -/
theorem gK_step : ∀ {l : List Lp} {f lo : Int}, leapOk lo f l → ∀ t, gK f l t + 86400 * 86399 ≤ gK f l (t + 1) ∧ gK f l (t + 1) ≤ gK f l t + 86400 * 86401
  | [], f, lo, _, t => by
    unfold gK
    omega
  | p :: r, f, lo, h, t => by
    have hd := h.2.2.2.1
    have hlen : winB p = winA f p + (86400 + (p.2 - f)) * 1048576 := by unfold winA winB; omega
    by_cases k1 : t + 1 < winA f p
    · unfold gK
      rw [if_pos (show t < winA f p by omega), if_pos k1]; omega
    · by_cases k2 : t < winA f p
      · have e : t + 1 = winA f p := by omega
        unfold gK
        rw [if_pos k2, if_neg k1, if_pos (show t + 1 < winB p by omega), e, Int.sub_self, Int.zero_mul]
        have : t = (p.1 - 43200 + f) * 1048576 - 1 := by unfold winA at e; omega
        omega
      · by_cases k3 : t + 1 < winB p
        · unfold gK
          rw [if_neg k2, if_pos (show t < winB p by omega), if_neg k1, if_pos k3]
          generalize winA f p = A at *
          rcases hd with hd | hd
          · rw [hd, show (86400 : Int) * (86400 - (f + 1 - f)) = 7464873600 by rw [show f + 1 - f = 1 by omega]; decide]; omega
          · rw [hd, show (86400 : Int) * (86400 - (f - 1 - f)) = 7465046400 by rw [show f - 1 - f = -1 by omega]; decide]; omega
        · by_cases k4 : t < winB p
          · have e : t + 1 = winB p := by omega
            have hb := gK_before h.2.2.2.2 (t := t + 1) (by rw [e]; unfold winB; omega)
            unfold gK
            rw [if_neg k2, if_pos k4, if_neg k1, if_neg k3, hb]
            have e2 : t + 1 = (p.1 + 43200 + p.2) * 1048576 := e
            have e3 : t - winA f p = (86400 + (p.2 - f)) * 1048576 - 1 := by omega
            rw [e3]
            rcases hd with hd | hd
            · rw [hd, show (86400 : Int) * (86400 - (f + 1 - f)) = 7464873600 by rw [show f + 1 - f = 1 by omega]; decide]
              rw [hd] at e2
              omega
            · rw [hd, show (86400 : Int) * (86400 - (f - 1 - f)) = 7465046400 by rw [show f - 1 - f = -1 by omega]; decide]
              rw [hd] at e2
              omega
          · have ih := gK_step h.2.2.2.2 t
            unfold gK
            rw [if_neg k2, if_neg k4, if_neg k1, if_neg k3]
            exact ih
theorem gK_add {l : List Lp} {f lo : Int} (h : leapOk lo f l) (t : Int) (d : Nat) : gK f l t + d * 7464873600 ≤ gK f l (t + d) ∧ gK f l (t + d) ≤ gK f l t + d * 7465046400 := by
  induction d with
  | zero => simp
  | succ d ih =>
    have := gK_step h (t + d)
    have e : t + ((d + 1 : Nat) : Int) = t + d + 1 := by omega
    rw [e]
    have e2 : ((d + 1 : Nat) : Int) = (d : Int) + 1 := by omega
    rw [e2]
    omega
theorem sm_mono {l : List Lp} {f lo : Int} (h : leapOk lo f l) {a b : Int} (hab : a ≤ b) : smN f l a ≤ smN f l b := by
  obtain ⟨n, rfl⟩ : ∃ n : Nat, b = a + n := ⟨(b - a).toNat, by omega⟩
  have := gK_add h a n
  rw [sm_gK h, sm_gK h]
  exact Int.ediv_le_ediv (by decide) (by omega)
/-- Two ticks further it shows more. -/
theorem sm_two {l : List Lp} {f lo : Int} (h : leapOk lo f l) (t : Int) : smN f l t + 1 ≤ smN f l (t + 2) := by
  have := gK_add h t 2
  have e : t + ((2 : Nat) : Int) = t + 2 := rfl
  rw [e] at this
  rw [sm_gK h, sm_gK h]
  omega
theorem sm_rate {l : List Lp} {f lo : Int} (h : leapOk lo f l) (t : Int) (d : Nat) : (d : Int) - d / 86399 - 2 ≤ smN f l (t + d) - smN f l t ∧ smN f l (t + d) - smN f l t ≤ d + d / 86399 + 2 := by
  have := gK_add h t d
  rw [sm_gK h, sm_gK h]
  omega
theorem sm_before {f lo : Int} {l : List Lp} (h : leapOk lo f l) {t : Int} (ht : t ≤ (lo - 43200 + f) * 1048576) : smN f l t = t - f * 1048576 := by
  rw [sm_gK h, gK_before h ht, Int.mul_ediv_cancel _ (by decide)]
/-! ### Windows -/
/-- The offset ahead of an element. -/
def oldN (f : Int) (l : List Lp) : Nat → Int
  | 0 => f
  | i + 1 => (l.getD i (0, 0)).2
def elN (l : List Lp) (i : Nat) : Lp := l.getD i (0, 0)
theorem oldN_cons (f : Int) (p : Lp) (r : List Lp) (i : Nat) : oldN f (p :: r) (i + 1) = oldN p.2 r i := by
  cases i with
  | zero => rfl
  | succ i => rfl
theorem elN_cons (p : Lp) (r : List Lp) (i : Nat) : elN (p :: r) (i + 1) = elN r i := rfl
theorem win_ge : ∀ {l : List Lp} {f lo : Int}, leapOk lo f l → ∀ i, i < l.length → (lo - 43200 + f) * 1048576 ≤ winA (oldN f l i) (elN l i) ∧ winA (oldN f l i) (elN l i) + 86399 * 1048576 ≤ winB (elN l i) ∧ ((elN l i).2 = oldN f l i + 1 ∨ (elN l i).2 = oldN f l i - 1)
  | p :: r, f, lo, h, 0, _ => by
    have h1 := h.1
    have hd := h.2.2.2.1
    show (lo - 43200 + f) * 1048576 ≤ winA f p ∧ winA f p + 86399 * 1048576 ≤ winB p ∧ (p.2 = f + 1 ∨ p.2 = f - 1)
    unfold winA winB
    omega
  | p :: r, f, lo, h, i + 1, hi => by
    have h1 := h.1
    have hd := h.2.2.2.1
    rw [oldN_cons, elN_cons]
    have ih := win_ge h.2.2.2.2 i (by simpa using hi)
    omega
theorem sm_skip {p : Lp} {r : List Lp} {f lo : Int} (h : leapOk lo f (p :: r)) {t : Int} (ht : winB p ≤ t) : smN f (p :: r) t = smN p.2 r t := by
  have hd := h.2.2.2.1
  have : winA f p ≤ t := by unfold winA winB at *; omega
  show (if t < winA f p then _ else if t < winB p then _ else _) = _
  rw [if_neg (by omega), if_neg (by omega)]
/-- Both ends of a window show what UTC shows. -/
theorem sm_win : ∀ {l : List Lp} {f lo : Int}, leapOk lo f l → ∀ i, i < l.length → smN f l (winA (oldN f l i) (elN l i)) = ((elN l i).1 - 43200) * 1048576 ∧ smN f l (winB (elN l i)) = ((elN l i).1 + 43200) * 1048576
  | p :: r, f, lo, h, 0, _ => by
    have hd := h.2.2.2.1
    show smN f (p :: r) (winA f p) = (p.1 - 43200) * 1048576 ∧ smN f (p :: r) (winB p) = (p.1 + 43200) * 1048576
    constructor
    · have : winA f p < winB p := by unfold winA winB; omega
      show (if winA f p < winA f p then _ else if winA f p < winB p then _ else _) = _
      rw [if_neg (by omega), if_pos this, Int.sub_self, Int.zero_mul, Int.zero_ediv, Int.add_zero]
    · rw [sm_skip h (Int.le_refl _), sm_before h.2.2.2.2 (by unfold winB; omega)]
      unfold winB; omega
  | p :: r, f, lo, h, i + 1, hi => by
    have hi' : i < r.length := by simpa using hi
    rw [oldN_cons, elN_cons]
    obtain ⟨w1, w2, _⟩ := win_ge h.2.2.2.2 i hi'
    have hB : winB p ≤ winA (oldN p.2 r i) (elN r i) := by unfold winB; omega
    obtain ⟨a, b⟩ := sm_win h.2.2.2.2 i hi'
    rw [sm_skip h hB, sm_skip h (by omega)]
    exact ⟨a, b⟩
/-! ### What UTC shows, on the same scale -/
def utN (f : Int) : List Lp → Int → Int
  | [], t => t - f * 1048576
  | p :: r, t => if t < (p.1 + p.2) * 1048576 then t - f * 1048576 else utN p.2 r t
theorem u_off : ∀ {l : List Lp} {f lo : Int}, leapOk lo f l → ∀ {t s : Int}, taiN f l s ≤ t / 1048576 → t / 1048576 < taiN f l (s + 1) → utN f l t = t - offN f l s * 1048576
  | [], f, lo, _, t, s, _, _ => rfl
  | p :: r, f, lo, h, t, s, h1, h2 => by
    have hb := off_before h.2.2.2.2 (show p.1 < p.1 + 172800 by omega)
    have hp : taiN f (p :: r) p.1 = p.1 + p.2 := by
      unfold taiN
      show p.1 + (if p.1 ≤ p.1 then offN p.2 r p.1 else f) = _
      rw [if_pos (Int.le_refl _), hb]
    show (if t < (p.1 + p.2) * 1048576 then t - f * 1048576 else utN p.2 r t) = t - (if p.1 ≤ s then offN p.2 r s else f) * 1048576
    by_cases k : p.1 ≤ s
    · have := tai_mono h k
      rw [if_neg (by omega), if_pos k]
      refine u_off h.2.2.2.2 ?_ ?_
      · have e : taiN f (p :: r) s = taiN p.2 r s := by
          unfold taiN
          show s + (if p.1 ≤ s then offN p.2 r s else f) = _
          rw [if_pos k]
        rw [← e]; exact h1
      · have e : taiN f (p :: r) (s + 1) = taiN p.2 r (s + 1) := by
          unfold taiN
          show s + 1 + (if p.1 ≤ s + 1 then offN p.2 r (s + 1) else f) = _
          rw [if_pos (by omega)]
        rw [← e]; exact h2
    · have := tai_mono h (show s + 1 ≤ p.1 by omega)
      rw [if_pos (by omega), if_neg k]
/-- How far both are apart: by at most half a second and 8 ticks; outside of the windows not at all. -/
theorem err_in : ∀ {l : List Lp} {f lo : Int}, leapOk lo f l → ∀ t, -524296 ≤ smN f l t - utN f l t ∧ smN f l t - utN f l t ≤ 524296 ∧ (smN f l t = utN f l t ∨ ∃ i, i < l.length ∧ winA (oldN f l i) (elN l i) ≤ t ∧ t < winB (elN l i))
  | [], f, lo, _, t => by
    show -524296 ≤ t - f * 1048576 - (t - f * 1048576) ∧ t - f * 1048576 - (t - f * 1048576) ≤ 524296 ∧ _
    exact ⟨by omega, by omega, .inl rfl⟩
  | p :: r, f, lo, h, t => by
    have hd := h.2.2.2.1
    by_cases k1 : t < winA f p
    · have e1 : smN f (p :: r) t = t - f * 1048576 := if_pos k1
      have e2 : utN f (p :: r) t = t - f * 1048576 := if_pos (by unfold winA at k1; omega)
      rw [e1, e2]
      exact ⟨by omega, by omega, .inl rfl⟩
    · by_cases k2 : t < winB p
      · have e1 : smN f (p :: r) t = (p.1 - 43200) * 1048576 + (t - winA f p) * 86400 / (86400 + p.2 - f) := by
          show (if t < winA f p then _ else if t < winB p then _ else _) = _
          rw [if_neg k1, if_pos k2]
        have e2 : utN f (p :: r) t = if t < (p.1 + p.2) * 1048576 then t - f * 1048576 else t - p.2 * 1048576 := by
          show (if t < (p.1 + p.2) * 1048576 then t - f * 1048576 else utN p.2 r t) = _
          split
          · rfl
          · cases r with
            | nil => rfl
            | cons q r =>
              have hq := h.2.2.2.2.1
              have hq2 := h.2.2.2.2.2.2.2.1
              exact if_pos (by unfold winB at k2; omega)
        refine ⟨?_, ?_, .inr ⟨0, by simp, by show winA f p ≤ t; omega, k2⟩⟩
        all_goals
          rw [e1, e2]
          obtain ⟨x, hx⟩ : ∃ x, t - winA f p = x := ⟨_, rfl⟩
          rw [hx]
          have ht : t = x + (p.1 - 43200 + f) * 1048576 := by unfold winA at hx; omega
          have hx0 : 0 ≤ x := by omega
          have hx1 : x < (86400 + (p.2 - f)) * 1048576 := by unfold winB at k2; omega
          rcases hd with hd | hd
          · rw [hd, show 86400 + (f + 1) - f = 86401 by omega]
            split <;> omega
          · rw [hd, show 86400 + (f - 1) - f = 86399 by omega]
            split <;> omega
      · have e1 := sm_skip h (show winB p ≤ t by omega)
        have e2 : utN f (p :: r) t = utN p.2 r t := if_neg (by unfold winB at k2; omega)
        rw [e1, e2]
        obtain ⟨a, b, c⟩ := err_in h.2.2.2.2 t
        refine ⟨a, b, ?_⟩
        rcases c with c | ⟨i, hi, c1, c2⟩
        · exact .inl c
        · exact .inr ⟨i + 1, by simp; omega, by rw [oldN_cons, elN_cons]; exact c1, by rw [elN_cons]; exact c2⟩
end Go.Proofs.Ytjebhdadegfbdaa
set_option linter.unusedVariables false
set_option linter.unusedSimpArgs false
namespace Go.Proofs.Ytjebhdadegfbdaa

/-! ### Elements by their numbers -/
def lpG (l : List Lp) (i : Nat) : Lp := l.getD i (0, 0)
theorem lpG_cons (p : Lp) (r : List Lp) (i : Nat) : lpG (p :: r) (i + 1) = lpG r i := rfl
theorem lpG_get {l : List Lp} {i : Nat} (h : i < l.length) : l[i]? = some (lpG l i) := by
  unfold lpG; rw [List.getD_eq_getElem?_getD, List.getElem?_eq_getElem h]; rfl
/-- The offset behind so many elements. -/
def lastO (f : Int) (l : List Lp) : Nat → Int
  | 0 => f
  | i + 1 => (lpG l i).2
theorem lastO_cons (f : Int) (p : Lp) (r : List Lp) (i : Nat) : lastO f (p :: r) (i + 1) = lastO p.2 r i := by
  cases i <;> rfl
/-- Element i is as it must be. -/
def okE (f : Int) (l : List Lp) (i : Nat) : Bool :=
  decide (86400 ≤ (lpG l i).1 ∧ (lpG l i).1 ≤ 137438953472 ∧ (lpG l i).1 % 86400 = 0 ∧ (0 < i → (lpG l (i - 1)).1 + 172800 ≤ (lpG l i).1) ∧ ((lpG l i).2 = lastO f l i + 1 ∨ (lpG l i).2 = lastO f l i - 1))
def headB (f : Int) (l : List Lp) : Bool := decide (0 ≤ f ∧ f ≤ 100 ∧ l.length ≤ 64)
def okB (f : Int) (l : List Lp) : Bool := headB f l && (List.range l.length).all (okE f l)
theorem okB_iff {f : Int} {l : List Lp} : okB f l = true ↔ (0 ≤ f ∧ f ≤ 100 ∧ l.length ≤ 64) ∧ ∀ i, i < l.length → okE f l i = true := by
  unfold okB headB
  rw [Bool.and_eq_true, decide_eq_true_iff, List.all_eq_true]
  constructor
  · rintro ⟨h, k⟩; exact ⟨h, fun i hi => k i (List.mem_range.2 hi)⟩
  · rintro ⟨h, k⟩; exact ⟨h, fun i hi => k i (List.mem_range.1 hi)⟩
theorem okB_no {f : Int} {l : List Lp} {i : Nat} (hi : i < l.length) (h : okE f l i = false) : okB f l = false := by
  cases k : okB f l
  · rfl
  · have := (okB_iff.1 k).2 i hi
    rw [h] at this; cases this
theorem leapOk_of : ∀ (l : List Lp) (f lo : Int), (∀ i, i < l.length → (0 < i → (lpG l (i - 1)).1 + 172800 ≤ (lpG l i).1) ∧ (lpG l i).1 ≤ 137438953472 ∧ (lpG l i).1 % 86400 = 0 ∧ ((lpG l i).2 = lastO f l i + 1 ∨ (lpG l i).2 = lastO f l i - 1)) → (0 < l.length → lo ≤ (lpG l 0).1) → leapOk lo f l
  | [], _, _, _, _ => trivial
  | p :: r, f, lo, h, h0 => by
    obtain ⟨_, a2, a3, a4⟩ := h 0 (Nat.succ_pos _)
    refine ⟨h0 (Nat.succ_pos _), a2, a3, a4, leapOk_of r p.2 (p.1 + 172800) (fun i hi => ?_) fun hr => ?_⟩
    · obtain ⟨b1, b2, b3, b4⟩ := h (i + 1) (Nat.succ_lt_succ hi)
      rw [lastO_cons] at b4
      refine ⟨fun hi0 => ?_, b2, b3, b4⟩
      obtain ⟨j, rfl⟩ : ∃ j, i = j + 1 := ⟨i - 1, by omega⟩
      exact b1 (by omega)
    · exact (h 1 (Nat.succ_lt_succ hr)).1 (by omega)
theorem okB_leap {f : Int} {l : List Lp} (h : okB f l = true) : leapOk 86400 f l := by
  obtain ⟨_, h2⟩ := okB_iff.1 h
  refine leapOk_of l f 86400 (fun i hi => ?_) fun h0 => ?_
  · have := of_decide_eq_true (h2 i hi)
    exact ⟨this.2.2.2.1, this.2.1, this.2.2.1, this.2.2.2.2⟩
  · exact (of_decide_eq_true (h2 0 h0)).1
/-- The offset of a second: behind the elements that are at most there. -/
theorem off_at : ∀ (l : List Lp) (f s : Int) (i : Nat), i ≤ l.length → (∀ j, j < i → (lpG l j).1 ≤ s) → (i < l.length → s < (lpG l i).1) → offN f l s = lastO f l i
  | [], f, s, i, hi, _, _ => by
    have : i = 0 := by simpa using hi
    subst this; rfl
  | p :: r, f, s, 0, _, _, h => by
    have : s < p.1 := h (Nat.succ_pos _)
    exact if_neg (by omega)
  | p :: r, f, s, i + 1, hi, hj, h => by
    have h0 : p.1 ≤ s := hj 0 (Nat.succ_pos _)
    show (if p.1 ≤ s then offN p.2 r s else f) = _
    rw [if_pos h0, lastO_cons]
    exact off_at r p.2 s i (Nat.le_of_succ_le_succ hi) (fun j hj' => hj (j + 1) (Nat.succ_lt_succ hj')) (fun k => h (Nat.succ_lt_succ k))
def stpN (f : Int) (l : List Lp) (s : Int) : Int := offN f l (s + 1) - offN f l s
theorem off_in {f : Int} {l : List Lp} (h : okB f l = true) (s : Int) : -64 ≤ offN f l s ∧ offN f l s ≤ 164 := by
  have := off_range (okB_leap h) s
  have := (okB_iff.1 h).1
  omega
theorem stp_3 {f : Int} {l : List Lp} (h : okB f l = true) (s : Int) : stpN f l s = 0 ∨ stpN f l s = 1 ∨ stpN f l s = -1 := off_step (okB_leap h) s
/-! ### Readings -/
def secIn (s : Int) : Bool := decide (0 ≤ s ∧ s ≤ 274877906944)
def tikIn (k : Int) : Bool := decide (0 ≤ k ∧ k < 1048576)
/-- No reading: an inserted second that is none, or one that is left out. -/
def noneB (f : Int) (l : List Lp) (s : Int) (b : Bool) : Bool := (b && decide (stpN f l s ≠ 1)) || decide (stpN f l s = -1)
def bI (b : Bool) : Int := if b = true then 1 else 0
def taiS (f : Int) (l : List Lp) (s : Int) (b : Bool) : Int := taiN f l s + bI b
def taiB (f : Int) (l : List Lp) (s : Int) (b : Bool) (k : Int) : Bool := okB f l && (secIn s && tikIn k) && !noneB f l s b
def taiV (f : Int) (l : List Lp) (s : Int) (b : Bool) (k : Int) : Int := if taiB f l s b k = true then taiS f l s b * 1048576 + k else 0
/-- The reading (s, b) is of TAI's second T. -/
structure IsR (f : Int) (l : List Lp) (T s : Int) (b : Bool) : Prop where
  sec : secIn s = true
  some : noneB f l s b = false
  tai : taiS f l s b = T
theorem isR_at {f : Int} {l : List Lp} (h : okB f l = true) {T s : Int} {b : Bool} (k : IsR f l T s b) : taiN f l s ≤ T ∧ T < taiN f l (s + 1) := by
  have h3 := stp_3 h s
  have e := k.some
  have t := k.tai
  unfold noneB at e
  unfold taiS bI at t
  unfold taiN at *
  unfold stpN at *
  cases b
  · simp only [Bool.false_and, Bool.false_or, decide_eq_false_iff_not, Bool.false_eq_true, if_false] at e t
    omega
  · simp only [Bool.true_and, Bool.or_eq_false_iff, decide_eq_false_iff_not, if_true] at e t
    omega
theorem isR_uniq {f : Int} {l : List Lp} (h : okB f l = true) {T s s' : Int} {b b' : Bool} (k : IsR f l T s b) (k' : IsR f l T s' b') : s = s' ∧ b = b' := by
  obtain ⟨a1, a2⟩ := isR_at h k
  obtain ⟨c1, c2⟩ := isR_at h k'
  have e := tai_uniq (okB_leap h) a1 a2 c1 c2
  subst e
  refine ⟨rfl, ?_⟩
  have t := k.tai
  have t' := k'.tai
  unfold taiS bI at t t'
  cases b <;> cases b' <;> simp at t t' <;> first | rfl | (exfalso; omega)
/-- Where TAI's second is, there is a reading, unless it is too early or too late. -/
theorem isR_ex {f : Int} {l : List Lp} (h : okB f l = true) (T : Int) : ∃ s b, noneB f l s b = false ∧ taiS f l s b = T := by
  obtain ⟨s, h1, h2⟩ := tai_ex (okB_leap h) T
  have h3 := stp_3 h s
  unfold taiN at h1 h2
  by_cases e : T = s + offN f l s
  · refine ⟨s, false, ?_, ?_⟩
    · unfold noneB
      rw [Bool.false_and, Bool.false_or, decide_eq_false_iff_not]
      unfold stpN at *; omega
    · unfold taiS bI taiN; rw [if_neg (by simp)]; omega
  · refine ⟨s, true, ?_, ?_⟩
    · unfold noneB
      rw [Bool.true_and, Bool.or_eq_false_iff, decide_eq_false_iff_not, decide_eq_false_iff_not]
      unfold stpN at *; omega
    · unfold taiS bI taiN; rw [if_pos rfl]; unfold stpN at *; omega
theorem isR_near {f : Int} {l : List Lp} (h : okB f l = true) {T s : Int} {b : Bool} (k : IsR f l T s b) : T - 170 ≤ s ∧ s ≤ T + 70 := by
  have t := k.tai
  have o := off_in h s
  unfold taiS bI taiN at t
  cases b <;> simp at t <;> omega
end Go.Proofs.Ytjebhdadegfbdaa
set_option linter.unusedVariables false
set_option linter.unusedSimpArgs false
namespace Go.Proofs.Ytjebhdadegfbdaa

/-- The reading at the beginning of TAI's second n, along the elements, behind the offset b. -/
def shwN (b : Int) : List Lp → Int → Int × Bool
  | [], n => (n - b, false)
  | p :: r, n => if n = p.1 + p.2 - 1 ∧ p.2 > b then (p.1 - 1, true) else if n < p.1 + p.2 then (n - b, false) else shwN p.2 r n
theorem stp_cons_hi {f : Int} {p : Lp} {r : List Lp} {s : Int} (h : p.1 ≤ s) : stpN f (p :: r) s = stpN p.2 r s := by
  unfold stpN
  show (if p.1 ≤ s + 1 then offN p.2 r (s + 1) else f) - (if p.1 ≤ s then offN p.2 r s else f) = _
  rw [if_pos h, if_pos (by omega)]
theorem off_cons_hi {f : Int} {p : Lp} {r : List Lp} {s : Int} (h : p.1 ≤ s) : offN f (p :: r) s = offN p.2 r s := if_pos h
theorem off_cons_lo {f : Int} {p : Lp} {r : List Lp} {s : Int} (h : s < p.1) : offN f (p :: r) s = f := if_neg (by omega)
theorem stp_before {f lo : Int} {l : List Lp} (h : leapOk lo f l) {s : Int} (hs : s + 1 < lo) : stpN f l s = 0 := by
  unfold stpN; rw [off_before h hs, off_before h (by omega)]; omega
theorem none_f {f : Int} {l : List Lp} {s : Int} {b : Bool} (h1 : b = true → stpN f l s = 1) (h2 : stpN f l s ≠ -1) : noneB f l s b = false := by
  unfold noneB
  cases b
  · simp [h2]
  · simp [h1 rfl]
theorem none_ff {f : Int} {l : List Lp} {s : Int} {b : Bool} (h : noneB f l s b = false) : (b = true → stpN f l s = 1) ∧ stpN f l s ≠ -1 := by
  unfold noneB at h
  cases b
  · simpa using h
  · have := by simpa using h
    exact ⟨fun _ => this.1, this.2⟩
theorem shw_ok : ∀ {l : List Lp} {b lo : Int}, leapOk lo b l → ∀ n : Int, noneB b l (shwN b l n).1 (shwN b l n).2 = false ∧ taiS b l (shwN b l n).1 (shwN b l n).2 = n
  | [], b, lo, h, n => by
    refine ⟨none_f (fun h => nomatch h) ?_, ?_⟩
    · simp [stpN, offN]
    · simp [shwN, taiS, taiN, offN, bI]
  | p :: r, b, lo, h, n => by
    have hp := h.2.2.2.1
    have hr := h.2.2.2.2
    unfold shwN
    by_cases c1 : n = p.1 + p.2 - 1 ∧ p.2 > b
    · rw [if_pos c1]
      have e1 : offN b (p :: r) (p.1 - 1) = b := off_cons_lo (by omega)
      have e2 : offN b (p :: r) (p.1 - 1 + 1) = p.2 := by
        rw [off_cons_hi (by omega), off_before hr (by omega)]
      have e3 : stpN b (p :: r) (p.1 - 1) = 1 := by unfold stpN; rw [e1, e2]; omega
      refine ⟨none_f (fun _ => e3) (fun k => by have := e3.symm.trans k; omega), ?_⟩
      unfold taiS taiN bI
      simp only [if_true, e1]
      omega
    · rw [if_neg c1]
      by_cases c2 : n < p.1 + p.2
      · rw [if_pos c2]
        have hs : n - b < p.1 := by omega
        have e1 : offN b (p :: r) (n - b) = b := off_cons_lo hs
        refine ⟨none_f (fun h => nomatch h) fun k => ?_, ?_⟩
        · simp only at k
          unfold stpN at k
          rw [e1] at k
          by_cases c3 : n - b + 1 < p.1
          · rw [off_cons_lo c3] at k; omega
          · rw [off_cons_hi (by omega), off_before hr (by omega)] at k; omega
        · unfold taiS taiN bI
          simp only [e1]
          simp
      · rw [if_neg c2]
        obtain ⟨i1, i2⟩ := shw_ok hr n
        generalize hS : (shwN p.2 r n).1 = S at *
        generalize hF : (shwN p.2 r n).2 = F at *
        have hge : p.1 ≤ S := by
          rcases Int.lt_or_le S p.1 with k | k
          · exfalso
            have o1 : offN p.2 r S = p.2 := off_before hr (by omega)
            have o2 : stpN p.2 r S = 0 := stp_before hr (by omega)
            have := (none_ff i1).1
            unfold taiS taiN bI at i2
            rw [o1] at i2
            cases F
            · simp at i2; omega
            · have := this rfl; omega
          · exact k
        obtain ⟨j1, j2⟩ := none_ff i1
        refine ⟨none_f (fun h => ?_) ?_, ?_⟩
        · rw [stp_cons_hi hge]; exact j1 h
        · rw [stp_cons_hi hge]; exact j2
        · unfold taiS taiN at i2 ⊢
          rw [off_cons_hi hge]; exact i2
/-- The reading at TAI's second n, if there is one. -/
theorem shw_isR {f : Int} {l : List Lp} (h : okB f l = true) {n : Int} (hs : secIn (shwN f l n).1 = true) : IsR f l n (shwN f l n).1 (shwN f l n).2 :=
  ⟨hs, (shw_ok (okB_leap h) n).1, (shw_ok (okB_leap h) n).2⟩
theorem shw_is {f : Int} {l : List Lp} (h : okB f l = true) {n s : Int} {b : Bool} (k : IsR f l n s b) : shwN f l n = (s, b) := by
  have hu : secIn (shwN f l n).1 = true ∨ secIn (shwN f l n).1 = false := by cases secIn (shwN f l n).1 <;> simp
  obtain ⟨a1, a2⟩ := shw_ok (okB_leap h) n
  have h1 := isR_at h k
  have b3 := stp_3 h (shwN f l n).1
  have hx : taiN f l (shwN f l n).1 ≤ n ∧ n < taiN f l ((shwN f l n).1 + 1) := by
    obtain ⟨j1, j2⟩ := none_ff a1
    generalize hS : (shwN f l n).1 = S at *
    generalize hF : (shwN f l n).2 = F at *
    unfold taiS at a2
    have e : taiN f l (S + 1) = taiN f l S + 1 + stpN f l S := by unfold taiN stpN; omega
    rw [e]
    unfold bI at a2
    cases F
    · simp at a2; omega
    · have := j1 rfl
      simp at a2; omega
  have e := tai_uniq (okB_leap h) h1.1 h1.2 hx.1 hx.2
  have k2 : secIn (shwN f l n).1 = true := by rw [← e]; exact k.sec
  have := isR_uniq h k (shw_isR h k2)
  exact Prod.ext this.1.symm this.2.symm
/-! ### Tables, element by element -/
theorem drop_lp {l : List Lp} {i : Nat} (h : i < l.length) : l.drop i = lpG l i :: l.drop (i + 1) := by
  rw [List.drop_eq_getElem_cons h]
  congr 1
  unfold lpG
  rw [List.getD_eq_getElem?_getD, List.getElem?_eq_getElem h]; rfl
theorem lastO_s (f : Int) (l : List Lp) (i : Nat) : lastO f l (i + 1) = (lpG l i).2 := rfl
theorem okE_e {f : Int} {l : List Lp} {i : Nat} (h : okE f l i = true) : 86400 ≤ (lpG l i).1 ∧ (lpG l i).1 ≤ 137438953472 ∧ (lpG l i).1 % 86400 = 0 ∧ (0 < i → (lpG l (i - 1)).1 + 172800 ≤ (lpG l i).1) ∧ ((lpG l i).2 = lastO f l i + 1 ∨ (lpG l i).2 = lastO f l i - 1) := of_decide_eq_true h
theorem okE_f {f : Int} {l : List Lp} {i : Nat} (h : ¬ (86400 ≤ (lpG l i).1 ∧ (lpG l i).1 ≤ 137438953472 ∧ (lpG l i).1 % 86400 = 0 ∧ (0 < i → (lpG l (i - 1)).1 + 172800 ≤ (lpG l i).1) ∧ ((lpG l i).2 = lastO f l i + 1 ∨ (lpG l i).2 = lastO f l i - 1))) : okE f l i = false := decide_eq_false h
theorem lastO_in {f : Int} {l : List Lp} : ∀ {i : Nat}, (∀ j, j < i → okE f l j = true) → f - i ≤ lastO f l i ∧ lastO f l i ≤ f + i
  | 0, _ => by simp [lastO]
  | i + 1, h => by
    have ih := lastO_in (i := i) fun j hj => h j (by omega)
    have := (okE_e (h i (by omega))).2.2.2.2
    rw [lastO_s]
    omega
/-- The first second that the next element may have. -/
def erlN (l : List Lp) : Nat → Int
  | 0 => 86400
  | i + 1 => (lpG l i).1 + 172800
theorem erlN_0 (l : List Lp) : erlN l 0 = 86400 := rfl
theorem erlN_s (l : List Lp) (i : Nat) : erlN l (i + 1) = (lpG l i).1 + 172800 := rfl
theorem erlN_ge {f : Int} {l : List Lp} {i : Nat} (h : ∀ j, j < i → okE f l j = true) : 86400 ≤ erlN l i ∧ erlN l i ≤ 137439126272 := by
  cases i with
  | zero => simp [erlN]
  | succ i =>
    have := okE_e (h i (by omega))
    rw [erlN_s]; omega
theorem okE_erl {f : Int} {l : List Lp} {i : Nat} (h : ∀ j, j < i → okE f l j = true) : okE f l i = decide ((lpG l i).1 % 86400 = 0 ∧ erlN l i ≤ (lpG l i).1 ∧ (lpG l i).1 ≤ 137438953472 ∧ ((lpG l i).2 = lastO f l i + 1 ∨ (lpG l i).2 = lastO f l i - 1)) := by
  unfold okE
  apply decide_eq_decide.2
  have := erlN_ge h
  cases i with
  | zero => rw [erlN_0] at *; omega
  | succ i => rw [erlN_s] at *; rw [Nat.add_sub_cancel]; omega
/-! ### Bounds of a valid table -/
theorem ok_el {f : Int} {l : List Lp} (h : okB f l = true) {i : Nat} (hi : i < l.length) : 86400 ≤ (lpG l i).1 ∧ (lpG l i).1 ≤ 137438953472 ∧ -64 ≤ (lpG l i).2 ∧ (lpG l i).2 ≤ 164 ∧ -64 ≤ lastO f l i ∧ lastO f l i ≤ 164 := by
  obtain ⟨h1, h2⟩ := okB_iff.1 h
  have a := okE_e (h2 i hi)
  have b := lastO_in (f := f) (l := l) (i := i) fun j hj => h2 j (by omega)
  have c := lastO_in (f := f) (l := l) (i := i + 1) fun j hj => h2 j (by omega)
  rw [lastO_s] at c
  omega
theorem ok_last {f : Int} {l : List Lp} (h : okB f l = true) {i : Nat} (hi : i ≤ l.length) : -64 ≤ lastO f l i ∧ lastO f l i ≤ 164 := by
  obtain ⟨h1, h2⟩ := okB_iff.1 h
  have b := lastO_in (f := f) (l := l) (i := i) fun j hj => h2 j (by omega)
  omega
/-! ### What the functions return -/
def scdE (f : Int) (l : List Lp) (s : Int) : Int := if okB f l = true then (if secIn s = true then 0 else 4) else 3
def offV (f : Int) (l : List Lp) (s : Int) : Int := if (okB f l && secIn s) = true then offN f l s else 0
def stpV (f : Int) (l : List Lp) (s : Int) : Int := if (okB f l && secIn s) = true then stpN f l s else 0
def redE (f : Int) (l : List Lp) (s k : Int) : Int := if okB f l = true then (if (secIn s && tikIn k) = true then 0 else 4) else 3
def taiE (f : Int) (l : List Lp) (s : Int) (b : Bool) (k : Int) : Int := if okB f l = true then (if (secIn s && tikIn k) = true then (if noneB f l s b = true then 10 else 0) else 4) else 3
def numHi (f : Int) (l : List Lp) (s k : Int) : Int := if taiB f l s false k = true then (taiN f l s + (if stpN f l s = 1 then 1 else 0)) * 1048576 + k else 0
def utcB (f : Int) (l : List Lp) (t : Int) : Bool := okB f l && secIn (shwN f l (t / 1048576)).1
def utcE (f : Int) (l : List Lp) (t : Int) : Int := if okB f l = true then (if secIn (shwN f l (t / 1048576)).1 = true then 0 else 9) else 3
theorem sec_t {s : Int} (h : 0 ≤ s ∧ s ≤ 274877906944) : secIn s = true := decide_eq_true h
theorem sec_f {s : Int} (h : ¬ (0 ≤ s ∧ s ≤ 274877906944)) : secIn s = false := decide_eq_false h
theorem sec_i {s : Int} (h : secIn s = true) : 0 ≤ s ∧ s ≤ 274877906944 := of_decide_eq_true h
theorem sec_n {s : Int} (h : secIn s = false) : ¬ (0 ≤ s ∧ s ≤ 274877906944) := of_decide_eq_false h
theorem tik_i {s : Int} (h : tikIn s = true) : 0 ≤ s ∧ s < 1048576 := of_decide_eq_true h
theorem tik_n {s : Int} (h : tikIn s = false) : ¬ (0 ≤ s ∧ s < 1048576) := of_decide_eq_false h
end Go.Proofs.Ytjebhdadegfbdaa
set_option linter.unusedVariables false
set_option linter.unusedSimpArgs false
namespace Go.Proofs.Ytjebhdadegfbdaa

/-! ### While -/
section
variable {α : Type}
def itN (S : α → α) (a : α) : Nat → α
  | 0 => a
  | k + 1 => S (itN S a k)
def itE (c : α → Bool) (S : α → α) (a : α) : Nat → Nat → Nat
  | 0, k => k
  | n + 1, k => if c (itN S a k) = true then itE c S a n (k + 1) else k
theorem itN_inv {c : α → Bool} {S : α → α} {I : α → Prop} (hS : ∀ x, I x → c x = true → I (S x)) {a : α} (h : I a) : ∀ k, (∀ i, i < k → c (itN S a i) = true) → I (itN S a k)
  | 0, _ => h
  | k + 1, hk => hS _ (itN_inv hS h k fun i hi => hk i (by omega)) (hk k (by omega))
theorem itE_end {c : α → Bool} {S : α → α} {I : α → Prop} (m : α → Nat) (hS : ∀ x, I x → c x = true → I (S x)) (hm : ∀ x, I x → c x = true → m (S x) < m x) (h0 : ∀ x, I x → m x = 0 → c x = false) {a : α} (h : I a) :
    ∀ n k, (∀ i, i < k → c (itN S a i) = true) → m (itN S a k) ≤ n → c (itN S a (itE c S a n k)) = false ∧ ∀ i, i < itE c S a n k → c (itN S a i) = true
  | 0, k, hk, hn => ⟨h0 _ (itN_inv hS h k hk) (Nat.le_zero.1 hn), hk⟩
  | n + 1, k, hk, hn => by
    unfold itE
    by_cases hc : c (itN S a k) = true
    · rw [if_pos hc]
      have hk' : ∀ i, i < k + 1 → c (itN S a i) = true := fun i hi => by
        rcases Nat.lt_or_ge i k with h | h
        · exact hk i h
        · rw [show i = k by omega]; exact hc
      have := hm _ (itN_inv hS h k hk) hc
      exact itE_end m hS hm h0 h n (k + 1) hk' (by show m (S (itN S a k)) ≤ n; omega)
    · rw [if_neg hc]
      exact ⟨by cases hh : c (itN S a k) with | false => rfl | true => exact absurd hh hc, hk⟩
/-- How many rounds there are, and what is there behind them. -/
def whE (c : α → Bool) (S : α → α) (m : α → Nat) (a : α) : Nat := itE c S a (m a) 0
def whV (c : α → Bool) (S : α → α) (m : α → Nat) (a : α) : α := itN S a (whE c S m a)
theorem wh_end {c : α → Bool} {S : α → α} {I : α → Prop} (m : α → Nat) (hS : ∀ x, I x → c x = true → I (S x)) (hm : ∀ x, I x → c x = true → m (S x) < m x) (h0 : ∀ x, I x → m x = 0 → c x = false) {a : α} (h : I a) :
    c (whV c S m a) = false ∧ I (whV c S m a) ∧ ∀ i, i < whE c S m a → c (itN S a i) = true ∧ I (itN S a i) := by
  obtain ⟨h1, h2⟩ := itE_end m hS hm h0 h (m a) 0 (fun i hi => by omega) (Nat.le_refl _)
  exact ⟨h1, itN_inv hS h _ h2, fun i hi => ⟨h2 i hi, itN_inv hS h i fun j hj => h2 j (Nat.lt_trans hj hi)⟩⟩
end
/-! ### Search by halving: the least number from lo on that has a property (hi, if there is none) -/
def bisC (s : Int × Int) : Bool := decide (s.1 < s.2)
def bisS (P : Int → Bool) (s : Int × Int) : Int × Int := if P ((s.1 + s.2) / 2) = true then (s.1, (s.1 + s.2) / 2) else ((s.1 + s.2) / 2 + 1, s.2)
def bisM (s : Int × Int) : Nat := (s.2 - s.1).toNat
structure BisI (P : Int → Bool) (lo hi : Int) (s : Int × Int) : Prop where
  a : lo ≤ s.1
  b : s.1 ≤ s.2
  c : s.2 ≤ hi
  no : ∀ t, lo ≤ t → t < s.1 → P t = false
  yes : s.2 < hi → P s.2 = true
def bisE (P : Int → Bool) (lo hi : Int) : Nat := whE bisC (bisS P) bisM (lo, hi)
def bisV (P : Int → Bool) (lo hi : Int) : Int := (whV bisC (bisS P) bisM (lo, hi)).1
def bisK (P : Int → Bool) (lo hi : Int) (k : Nat) : Int × Int := itN (bisS P) (lo, hi) k
theorem bis_ok {P : Int → Bool} {lo hi : Int} (h : lo ≤ hi) (hP : ∀ a b, lo ≤ a → a ≤ b → b < hi → P a = true → P b = true) :
    (lo ≤ bisV P lo hi ∧ bisV P lo hi ≤ hi ∧ (∀ t, lo ≤ t → t < bisV P lo hi → P t = false) ∧ (bisV P lo hi < hi → P (bisV P lo hi) = true)) ∧
    (bisK P lo hi (bisE P lo hi)).1 = bisV P lo hi ∧ ¬ (bisK P lo hi (bisE P lo hi)).1 < (bisK P lo hi (bisE P lo hi)).2 ∧
    ∀ i, i < bisE P lo hi → (bisK P lo hi i).1 < (bisK P lo hi i).2 ∧ lo ≤ (bisK P lo hi i).1 ∧ (bisK P lo hi i).2 ≤ hi := by
  obtain ⟨h1, h2, h3⟩ := wh_end (c := bisC) (S := bisS P) (I := BisI P lo hi) bisM (fun x hx hc => by
      have hlt : x.1 < x.2 := of_decide_eq_true hc
      obtain ⟨k1, k2, k3, k4, k5⟩ := hx
      unfold bisS
      by_cases hp : P ((x.1 + x.2) / 2) = true
      · rw [if_pos hp]
        exact ⟨k1, by dsimp only; omega, by dsimp only; omega, k4, fun _ => hp⟩
      · rw [if_neg hp]
        refine ⟨by dsimp only; omega, by dsimp only; omega, k3, fun t h1 h2 => ?_, k5⟩
        dsimp only at h2
        cases ht : P t with
        | false => rfl
        | true => exact absurd (hP t _ h1 (show t ≤ (x.1 + x.2) / 2 by omega) (by omega) ht) hp)
    (fun x hx hc => by
      have hlt : x.1 < x.2 := of_decide_eq_true hc
      unfold bisS bisM
      split <;> dsimp only <;> omega)
    (fun x hx h0 => decide_eq_false (by have := hx.b; unfold bisM at h0; omega)) (a := (lo, hi)) ⟨Int.le_refl _, h, Int.le_refl _, fun t h1 h2 => by dsimp only at h2; omega, fun h => by dsimp only at h; omega⟩
  have he : ¬ (whV bisC (bisS P) bisM (lo, hi)).1 < (whV bisC (bisS P) bisM (lo, hi)).2 := of_decide_eq_false h1
  have hb := h2.b
  have heq : (whV bisC (bisS P) bisM (lo, hi)).1 = (whV bisC (bisS P) bisM (lo, hi)).2 := by omega
  refine ⟨⟨h2.a, by unfold bisV; have := h2.c; omega, h2.no, fun h => ?_⟩, rfl, he, fun i hi => ?_⟩
  · unfold bisV at h ⊢
    rw [heq] at h ⊢
    exact h2.yes h
  · obtain ⟨a1, a2⟩ := h3 i hi
    exact ⟨of_decide_eq_true a1, a2.a, a2.c⟩
/-- Only one number is the least. -/
theorem least_uniq {P : Int → Bool} {lo hi a b : Int} (a1 : lo ≤ a) (a2 : a ≤ hi) (a3 : ∀ t, lo ≤ t → t < a → P t = false) (a4 : a < hi → P a = true) (b1 : lo ≤ b) (b2 : b ≤ hi) (b3 : ∀ t, lo ≤ t → t < b → P t = false) (b4 : b < hi → P b = true) : a = b := by
  rcases Int.lt_trichotomy a b with h | h | h
  · have := b3 a a1 h
    rw [a4 (by omega)] at this; cases this
  · exact h
  · have := a3 b b1 h
    rw [b4 (by omega)] at this; cases this
end Go.Proofs.Ytjebhdadegfbdaa
set_option linter.unusedVariables false
set_option linter.unusedSimpArgs false
namespace Go.Proofs.Ytjebhdadegfbdaa

/-! ### Lists of spans with gaps between them -/
abbrev Spn := Int × Int
def inS (t : Int) (p : Spn) : Prop := p.1 ≤ t ∧ t ≤ p.2
def inU (t : Int) (l : List Spn) : Prop := ∃ p ∈ l, inS t p
def normU : List Spn → Prop
  | [] => True
  | p :: r => p.1 ≤ p.2 ∧ (∀ q ∈ r, p.2 + 2 ≤ q.1) ∧ normU r
theorem inU_nil (t : Int) : ¬ inU t [] := fun ⟨_, h, _⟩ => by cases h
theorem inU_cons (t : Int) (p : Spn) (r : List Spn) : inU t (p :: r) ↔ inS t p ∨ inU t r := by
  constructor
  · rintro ⟨q, h, k⟩
    rcases List.mem_cons.1 h with rfl | h
    · exact .inl k
    · exact .inr ⟨q, h, k⟩
  · rintro (h | ⟨q, h, k⟩)
    · exact ⟨p, List.mem_cons_self, h⟩
    · exact ⟨q, List.mem_cons_of_mem _ h, k⟩
theorem inU_append (t : Int) (l m : List Spn) : inU t (l ++ m) ↔ inU t l ∨ inU t m := by
  constructor
  · rintro ⟨q, h, k⟩
    rcases List.mem_append.1 h with h | h
    · exact .inl ⟨q, h, k⟩
    · exact .inr ⟨q, h, k⟩
  · rintro (⟨q, h, k⟩ | ⟨q, h, k⟩)
    · exact ⟨q, List.mem_append_left _ h, k⟩
    · exact ⟨q, List.mem_append_right _ h, k⟩
theorem norm_ge {p : Spn} {r : List Spn} (h : normU (p :: r)) {t : Int} (k : inU t r) : p.2 + 2 ≤ t := by
  obtain ⟨q, hq, h1, _⟩ := k
  have := h.2.1 q hq
  omega
theorem norm_lo {p : Spn} {r : List Spn} (h : normU (p :: r)) {t : Int} (k : inU t (p :: r)) : p.1 ≤ t := by
  rcases (inU_cons _ _ _).1 k with k | k
  · exact k.1
  · have := norm_ge h k; have := h.1; omega
/-- There is one such list only for what it covers. -/
theorem norm_uniq : ∀ {u v : List Spn}, normU u → normU v → (∀ t, inU t u ↔ inU t v) → u = v
  | [], [], _, _, _ => rfl
  | [], q :: s, _, hv, h => absurd ((h q.1).2 ⟨q, List.mem_cons_self, Int.le_refl _, hv.1⟩) (inU_nil _)
  | p :: r, [], hu, _, h => absurd ((h p.1).1 ⟨p, List.mem_cons_self, Int.le_refl _, hu.1⟩) (inU_nil _)
  | p :: r, q :: s, hu, hv, h => by
    have p1 : inU p.1 (p :: r) := ⟨p, List.mem_cons_self, Int.le_refl _, hu.1⟩
    have q1 : inU q.1 (q :: s) := ⟨q, List.mem_cons_self, Int.le_refl _, hv.1⟩
    have e1 : p.1 = q.1 := Int.le_antisymm (norm_lo hu ((h q.1).2 q1)) (norm_lo hv ((h p.1).1 p1))
    have pu := hu.1
    have qu := hv.1
    have e2 : p.2 = q.2 := by
      rcases Int.lt_trichotomy p.2 q.2 with hlt | he | hgt
      · have h1 : inU (p.2 + 1) (q :: s) := ⟨q, List.mem_cons_self, by omega, by omega⟩
        rcases (inU_cons _ _ _).1 ((h _).2 h1) with k | k
        · have := k.2; omega
        · have := norm_ge hu k; omega
      · exact he
      · have h1 : inU (q.2 + 1) (p :: r) := ⟨p, List.mem_cons_self, by omega, by omega⟩
        rcases (inU_cons _ _ _).1 ((h _).1 h1) with k | k
        · have := k.2; omega
        · have := norm_ge hv k; omega
    obtain rfl : p = q := Prod.ext e1 e2
    have hrs : ∀ t, inU t r ↔ inU t s := fun t => by
      constructor
      · intro k
        have hge := norm_ge hu k
        rcases (inU_cons _ _ _).1 ((h t).1 ((inU_cons _ _ _).2 (.inr k))) with k2 | k2
        · have := k2.2; omega
        · exact k2
      · intro k
        have hge := norm_ge hv k
        rcases (inU_cons _ _ _).1 ((h t).2 ((inU_cons _ _ _).2 (.inr k))) with k2 | k2
        · have := k2.2; omega
        · exact k2
    rw [norm_uniq hu.2.2 hv.2.2 hrs]
theorem norm_snoc : ∀ {u : List Spn} {p : Spn}, normU u → p.1 ≤ p.2 → (∀ q ∈ u, q.2 + 2 ≤ p.1) → normU (u ++ [p])
  | [], p, _, h, _ => ⟨h, fun q hq => by (cases hq), trivial⟩
  | q :: r, p, hu, h, k => by
    refine ⟨hu.1, fun x hx => ?_, norm_snoc hu.2.2 h fun x hx => k x (List.mem_cons_of_mem _ hx)⟩
    rcases List.mem_append.1 hx with hx | hx
    · exact hu.2.1 x hx
    · rw [List.mem_singleton.1 hx]; exact k q List.mem_cons_self

/-! ### One pass over the spans that are left -/
structure Pas where
  hi : Int
  again : Bool
  left : List Spn
def scanS (s : Pas) (p : Spn) : Pas := if p.1 ≤ s.hi + 1 then ⟨max s.hi p.2, s.again || decide (p.2 > s.hi), s.left⟩ else ⟨s.hi, s.again, s.left ++ [p]⟩
def scanU (l : List Spn) (h : Int) : Pas := l.foldl scanS ⟨h, false, []⟩
theorem scan_keep : ∀ (l : List Spn) (s : Pas), s.again = true → (l.foldl scanS s).again = true
  | [], _, h => h
  | p :: l, s, h => by
    rw [List.foldl_cons]
    refine scan_keep l _ ?_
    unfold scanS
    split
    · dsimp only; rw [h]; rfl
    · exact h
theorem scan_len : ∀ (l : List Spn) (s : Pas), (l.foldl scanS s).left.length ≤ s.left.length + l.length
  | [], s => Nat.le_refl _
  | p :: l, s => by
    rw [List.foldl_cons, List.length_cons]
    have h := scan_len l (scanS s p)
    have : (scanS s p).left.length ≤ s.left.length + 1 := by
      unfold scanS
      split
      · exact Nat.le_succ _
      · rw [List.length_append, List.length_singleton]; exact Nat.le_refl _
    omega
theorem scan_lt : ∀ (l : List Spn) (s : Pas), (∃ p ∈ l, p.1 ≤ s.hi + 1) → (l.foldl scanS s).left.length < s.left.length + l.length
  | [], s, ⟨_, h, _⟩ => by cases h
  | p :: l, s, ⟨q, hq, h1⟩ => by
    rw [List.foldl_cons, List.length_cons]
    by_cases hj : p.1 ≤ s.hi + 1
    · have e : scanS s p = ⟨max s.hi p.2, s.again || decide (p.2 > s.hi), s.left⟩ := if_pos hj
      have h := scan_len l (scanS s p)
      rw [e] at h ⊢
      dsimp only at h
      omega
    · have e : scanS s p = ⟨s.hi, s.again, s.left ++ [p]⟩ := if_neg hj
      have hq' : q ∈ l := by
        rcases List.mem_cons.1 hq with rfl | hq
        · exact absurd h1 hj
        · exact hq
      have h := scan_lt l ⟨s.hi, s.again, s.left ++ [p]⟩ ⟨q, hq', h1⟩
      rw [e]
      rw [List.length_append, List.length_singleton] at h
      omega
theorem scan_spec (L : Int) : ∀ (l : List Spn) (s : Pas), L ≤ s.hi → (∀ p ∈ l, L ≤ p.1 ∧ p.1 ≤ p.2) →
    s.hi ≤ (l.foldl scanS s).hi ∧ (l.foldl scanS s).left.length ≤ s.left.length + l.length ∧
    ((l.foldl scanS s).again = true → s.again = true ∨ (l.foldl scanS s).left.length < s.left.length + l.length) ∧
    ((l.foldl scanS s).again = false → (l.foldl scanS s).hi = s.hi ∧ (∀ p ∈ (l.foldl scanS s).left, p ∈ s.left ∨ s.hi + 2 ≤ p.1)) ∧
    (∀ p ∈ (l.foldl scanS s).left, p ∈ s.left ∨ p ∈ l) ∧
    (∀ t, (L ≤ t ∧ t ≤ (l.foldl scanS s).hi) ∨ inU t (l.foldl scanS s).left ↔ (L ≤ t ∧ t ≤ s.hi) ∨ inU t s.left ∨ inU t l)
  | [], s, hL, _ => by
    refine ⟨Int.le_refl _, Nat.le_refl _, fun h => .inl h, fun _ => ⟨rfl, fun p hp => .inl hp⟩, fun p hp => .inl hp, fun t => ?_⟩
    simp only [List.foldl_nil]
    constructor
    · rintro (h | h)
      · exact .inl h
      · exact .inr (.inl h)
    · rintro (h | h | h)
      · exact .inl h
      · exact .inr h
      · exact absurd h (inU_nil t)
  | p :: l, s, hL, hp => by
    have hp0 := hp p List.mem_cons_self
    have hp1 : ∀ q ∈ l, L ≤ q.1 ∧ q.1 ≤ q.2 := fun q hq => hp q (List.mem_cons_of_mem _ hq)
    rw [List.foldl_cons, List.length_cons]
    by_cases hj : p.1 ≤ s.hi + 1
    · have e : scanS s p = ⟨max s.hi p.2, s.again || decide (p.2 > s.hi), s.left⟩ := if_pos hj
      rw [e]
      have hm : max s.hi p.2 = if s.hi ≤ p.2 then p.2 else s.hi := by rw [Int.max_def]
      obtain ⟨a1, a2, a3, a4, a5, a6⟩ := scan_spec L l ⟨max s.hi p.2, s.again || decide (p.2 > s.hi), s.left⟩ (by dsimp only; rw [hm]; split <;> omega) hp1
      dsimp only at a1 a2 a3 a4 a5 a6
      have hkeep : (l.foldl scanS ⟨max s.hi p.2, s.again || decide (p.2 > s.hi), s.left⟩).again = false → (s.again || decide (p.2 > s.hi)) = false := fun h => by
        cases hg : (s.again || decide (p.2 > s.hi)) with
        | false => rfl
        | true => rw [scan_keep l _ (by dsimp only; exact hg)] at h; cases h
      generalize l.foldl scanS ⟨max s.hi p.2, s.again || decide (p.2 > s.hi), s.left⟩ = R at *
      refine ⟨by rw [hm] at a1; split at a1 <;> omega, by omega, fun _ => .inr (by omega), fun h => ?_, fun q hq => ?_, fun t => ?_⟩
      · obtain ⟨b1, b2⟩ := a4 h
        have hag := hkeep h
        rw [Bool.or_eq_false_iff] at hag
        have hle : p.2 ≤ s.hi := by have := of_decide_eq_false hag.2; omega
        have hmx : max s.hi p.2 = s.hi := by rw [hm]; split <;> omega
        rw [hmx] at b1 b2
        exact ⟨b1, b2⟩
      · rcases a5 q hq with h | h
        · exact .inl h
        · exact .inr (List.mem_cons_of_mem _ h)
      · rw [a6 t, inU_cons]
        constructor
        · rintro (h | h | h)
          · by_cases k : t ≤ s.hi
            · exact .inl ⟨h.1, k⟩
            · refine .inr (.inr (.inl ⟨?_, ?_⟩))
              · omega
              · have := h.2; rw [hm] at this; split at this <;> omega
          · exact .inr (.inl h)
          · exact .inr (.inr (.inr h))
        · rintro (h | h | h | h)
          · exact .inl ⟨h.1, by rw [hm]; split <;> omega⟩
          · exact .inr (.inl h)
          · exact .inl ⟨by have := h.1; omega, by have := h.2; rw [hm]; split <;> omega⟩
          · exact .inr (.inr h)
    · have e : scanS s p = ⟨s.hi, s.again, s.left ++ [p]⟩ := if_neg hj
      rw [e]
      obtain ⟨a1, a2, a3, a4, a5, a6⟩ := scan_spec L l ⟨s.hi, s.again, s.left ++ [p]⟩ hL hp1
      dsimp only at a1 a2 a3 a4 a5 a6
      rw [List.length_append, List.length_singleton] at a2 a3
      generalize l.foldl scanS ⟨s.hi, s.again, s.left ++ [p]⟩ = R at *
      refine ⟨a1, by omega, fun h => ?_, fun h => ?_, fun q hq => ?_, fun t => ?_⟩
      · rcases a3 h with k | k
        · exact .inl k
        · exact .inr (by omega)
      · obtain ⟨b1, b2⟩ := a4 h
        refine ⟨b1, fun q hq => ?_⟩
        rcases b2 q hq with k | k
        · rcases List.mem_append.1 k with k | k
          · exact .inl k
          · rw [List.mem_singleton.1 k]; exact .inr (by omega)
        · exact .inr k
      · rcases a5 q hq with k | k
        · rcases List.mem_append.1 k with k | k
          · exact .inl k
          · rw [List.mem_singleton.1 k]; exact .inr List.mem_cons_self
        · exact .inr (List.mem_cons_of_mem _ k)
      · rw [a6 t, inU_append, inU_cons, inU_cons]
        have : ¬ inU t [] := inU_nil t
        constructor
        · rintro (h | (h | h | h) | h)
          · exact .inl h
          · exact .inr (.inl h)
          · exact .inr (.inr (.inl h))
          · exact absurd h this
          · exact .inr (.inr (.inr h))
        · rintro (h | h | h | h)
          · exact .inl h
          · exact .inr (.inl (.inl h))
          · exact .inr (.inl (.inr (.inl h)))
          · exact .inr (.inr h)
/-! ### Passes, until nothing grows -/
def passS (s : Pas) : Pas := scanU s.left s.hi
def passN (h : Int) (rest : List Spn) : Nat → Pas
  | 0 => ⟨h, true, rest⟩
  | k + 1 => passS (passN h rest k)
/-- How many passes there are. -/
def passM (s : Pas) : Nat := 2 * s.left.length + (if s.again then 1 else 0)
structure PasOk (L h : Int) (rest : List Spn) (s : Pas) : Prop where
  lo : L ≤ s.hi
  ge : h ≤ s.hi
  mem : ∀ p ∈ s.left, p ∈ rest
  len : s.left.length ≤ rest.length
  cov : ∀ t, (L ≤ t ∧ t ≤ s.hi) ∨ inU t s.left ↔ (L ≤ t ∧ t ≤ h) ∨ inU t rest
  gap : s.again = false → ∀ p ∈ s.left, s.hi + 2 ≤ p.1
theorem pass_ok {L h : Int} {rest : List Spn} (hL : L ≤ h) (hp : ∀ p ∈ rest, L ≤ p.1 ∧ p.1 ≤ p.2) (s : Pas) (k : PasOk L h rest s) : PasOk L h rest (passS s) ∧ (s.again = true → passM (passS s) < passM s) ∧ (passS s).left.length ≤ s.left.length := by
  obtain ⟨a1, a2, a3, a4, a5, a6⟩ := scan_spec L s.left ⟨s.hi, false, []⟩ k.lo (fun p hq => hp p (k.mem p hq))
  have e : passS s = s.left.foldl scanS ⟨s.hi, false, []⟩ := rfl
  rw [e]
  generalize s.left.foldl scanS ⟨s.hi, false, []⟩ = R at *
  simp only [List.length_nil, Nat.zero_add] at a2 a3
  have n0 : ∀ (p : Spn), p ∉ ([] : List Spn) := fun p h => by cases h
  refine ⟨⟨Int.le_trans k.lo a1, Int.le_trans k.ge a1, fun p hq => ?_, Nat.le_trans a2 k.len, fun t => ?_, fun hg p hq => ?_⟩, fun hg => ?_, a2⟩
  · rcases a5 p hq with h | h
    · exact absurd h (n0 p)
    · exact k.mem p h
  · rw [a6 t, ← k.cov t]
    constructor
    · rintro (h | h | h)
      · exact .inl h
      · exact absurd h (inU_nil t)
      · exact .inr h
    · rintro (h | h)
      · exact .inl h
      · exact .inr (.inr h)
  · obtain ⟨b1, b2⟩ := a4 hg
    rcases b2 p hq with h | h
    · exact absurd h (n0 p)
    · rw [b1]; exact h
  · unfold passM
    rw [hg, if_pos rfl]
    cases hr : R.again
    · rw [if_neg (by simp)]; omega
    · rw [if_pos rfl]
      rcases a3 hr with h | h
      · cases h
      · omega
theorem passN_ok {L h : Int} {rest : List Spn} (hL : L ≤ h) (hp : ∀ p ∈ rest, L ≤ p.1 ∧ p.1 ≤ p.2) : ∀ k, PasOk L h rest (passN h rest k)
  | 0 => ⟨hL, Int.le_refl _, fun _ h => h, Nat.le_refl _, fun t => Iff.rfl, fun h => by cases h⟩
  | k + 1 => (pass_ok hL hp _ (passN_ok hL hp k)).1
/-- The pass behind which nothing grows. -/
def passE (h : Int) (rest : List Spn) : Nat → Nat → Nat
  | 0, k => k
  | n + 1, k => if (passN h rest k).again = true then passE h rest n (k + 1) else k
theorem passE_end {L h : Int} {rest : List Spn} (hL : L ≤ h) (hp : ∀ p ∈ rest, L ≤ p.1 ∧ p.1 ≤ p.2) : ∀ n k, passM (passN h rest k) ≤ n → (passN h rest (passE h rest n k)).again = false ∧ k ≤ passE h rest n k ∧ ∀ i, k ≤ i → i < passE h rest n k → (passN h rest i).again = true
  | 0, k, hm => by
    unfold passM at hm
    refine ⟨?_, Nat.le_refl _, fun i h1 h2 => absurd h2 (by unfold passE; omega)⟩
    unfold passE
    cases hg : (passN h rest k).again
    · rfl
    · rw [hg, if_pos rfl] at hm; omega
  | n + 1, k, hm => by
    unfold passE
    cases hg : (passN h rest k).again
    · rw [if_neg (by simp)]
      exact ⟨hg, Nat.le_refl _, fun i h1 h2 => absurd h2 (by omega)⟩
    · rw [if_pos rfl]
      have hlt := (pass_ok hL hp _ (passN_ok hL hp k)).2.1 hg
      obtain ⟨b1, b2, b3⟩ := passE_end hL hp n (k + 1) (by show passM (passS (passN h rest k)) ≤ n; omega)
      refine ⟨b1, by omega, fun i h1 h2 => ?_⟩
      rcases Nat.lt_or_ge k i with h | h
      · exact b3 i h h2
      · rw [show i = k by omega]; exact hg
/-- A span, joined with all that touch it; and what is left. -/
def joinE (p : Spn) (rest : List Spn) : Nat := passE p.2 rest (2 * rest.length + 1) 0
def joinP (p : Spn) (rest : List Spn) : Pas := passN p.2 rest (joinE p rest)
theorem join_ok {p : Spn} {rest : List Spn} (h1 : p.1 ≤ p.2) (hp : ∀ q ∈ rest, p.1 ≤ q.1 ∧ q.1 ≤ q.2) : PasOk p.1 p.2 rest (joinP p rest) ∧ (joinP p rest).again = false ∧ ∀ i, i < joinE p rest → (passN p.2 rest i).again = true := by
  obtain ⟨b1, b2, b3⟩ := passE_end h1 hp (2 * rest.length + 1) 0 (by unfold passM passN; simp)
  exact ⟨passN_ok h1 hp _, b1, fun i h => b3 i (Nat.zero_le _) h⟩
/-! ### The least -/
def leastS (l : List Spn) (a i : Nat) : Nat := if (l.getD i (0, 0)).1 < (l.getD a (0, 0)).1 then i else a
def leastN (l : List Spn) : Nat → Nat
  | 0 => 0
  | i + 1 => leastS l (leastN l i) i
def leastI (l : List Spn) : Nat := leastN l l.length
theorem leastN_le (l : List Spn) : ∀ i, leastN l i ≤ i - 1
  | 0 => Nat.le_refl _
  | i + 1 => by
    have := leastN_le l i
    unfold leastN leastS
    split <;> omega
theorem leastN_min (l : List Spn) : ∀ i, ∀ j, j < i → (l.getD (leastN l i) (0, 0)).1 ≤ (l.getD j (0, 0)).1
  | i + 1, j, h => by
    unfold leastN leastS
    rcases Nat.lt_or_ge j i with hj | hj
    · have := leastN_min l i j hj
      split <;> omega
    · obtain rfl : j = i := by omega
      split
      · exact Int.le_refl _
      · omega
def leastP (l : List Spn) : Spn := l.getD (leastI l) (0, 0)
theorem least_ok {l : List Spn} (h : l ≠ []) : leastI l < l.length ∧ leastP l ∈ l ∧ ∀ q ∈ l, (leastP l).1 ≤ q.1 := by
  have hl : 0 < l.length := List.length_pos_iff.2 h
  have h1 : leastI l < l.length := by have := leastN_le l l.length; unfold leastI; omega
  refine ⟨h1, ?_, fun q hq => ?_⟩
  · unfold leastP
    rw [List.getD_eq_getElem?_getD, List.getElem?_eq_getElem h1]
    exact List.getElem_mem h1
  · obtain ⟨j, hj, rfl⟩ := List.getElem_of_mem hq
    have := leastN_min l l.length j hj
    rw [show l.getD j (0, 0) = l[j] by rw [List.getD_eq_getElem?_getD, List.getElem?_eq_getElem hj]; rfl] at this
    exact this
/-! ### Union -/
structure Unj where
  rest : List Spn
  out : List Spn
def unjS (u : Unj) : Unj := ⟨(joinP (leastP u.rest) u.rest).left, u.out ++ [((leastP u.rest).1, (joinP (leastP u.rest) u.rest).hi)]⟩
def unjN (l : List Spn) : Nat → Unj
  | 0 => ⟨l, []⟩
  | k + 1 => unjS (unjN l k)
structure UnjOk (l : List Spn) (u : Unj) : Prop where
  ok : ∀ p ∈ u.rest, p.1 ≤ p.2
  mem : ∀ p ∈ u.rest, p ∈ l
  norm : normU u.out
  gap : ∀ p ∈ u.out, ∀ q ∈ u.rest, p.2 + 2 ≤ q.1
  cov : ∀ t, inU t u.out ∨ inU t u.rest ↔ inU t l
  len : u.rest.length + u.out.length ≤ l.length
theorem unj_ok {l : List Spn} {u : Unj} (k : UnjOk l u) (hne : u.rest ≠ []) : UnjOk l (unjS u) ∧ (unjS u).rest.length < u.rest.length := by
  obtain ⟨h1, h2, h3⟩ := least_ok hne
  have hP := k.ok _ h2
  obtain ⟨j1, j2, _⟩ := join_ok hP (fun q hq => ⟨h3 q hq, k.ok q hq⟩)
  have hlt : (joinP (leastP u.rest) u.rest).left.length < u.rest.length := by
    -- the least span itself is joined
    have hE : 1 ≤ joinE (leastP u.rest) u.rest := by
      rcases Nat.eq_zero_or_pos (joinE (leastP u.rest) u.rest) with h | h
      · unfold joinP at j2
        rw [h] at j2
        cases j2
      · exact h
    obtain ⟨n, hn⟩ : ∃ n, joinE (leastP u.rest) u.rest = n + 1 := ⟨_, (Nat.succ_pred_eq_of_pos hE).symm⟩
    have hall : ∀ i, (passN (leastP u.rest).2 u.rest (i + 1)).left.length < u.rest.length := by
      intro i
      induction i with
      | zero =>
        have := scan_lt u.rest ⟨(leastP u.rest).2, false, []⟩ ⟨_, h2, by dsimp only; omega⟩
        rw [List.length_nil, Nat.zero_add] at this
        exact this
      | succ i ih =>
        have h5 := scan_len (passN (leastP u.rest).2 u.rest (i + 1)).left ⟨(passN (leastP u.rest).2 u.rest (i + 1)).hi, false, []⟩
        have e : passN (leastP u.rest).2 u.rest (i + 1 + 1) = (passN (leastP u.rest).2 u.rest (i + 1)).left.foldl scanS ⟨(passN (leastP u.rest).2 u.rest (i + 1)).hi, false, []⟩ := rfl
        rw [e]
        simp only [List.length_nil, Nat.zero_add] at h5
        omega
    unfold joinP
    rw [hn]
    exact hall n
  refine ⟨⟨fun p hp => k.ok p (j1.mem p hp), fun p hp => k.mem p (j1.mem p hp), ?_, fun p hp q hq => ?_, fun t => ?_, ?_⟩, hlt⟩
  · refine norm_snoc k.norm (Int.le_trans hP j1.ge) fun q hq => ?_
    exact k.gap q hq (leastP u.rest) h2
  · have hq' : q ∈ (joinP (leastP u.rest) u.rest).left := hq
    rcases List.mem_append.1 hp with hp | hp
    · exact k.gap p hp q (j1.mem q hq')
    · rw [List.mem_singleton.1 hp]
      exact j1.gap j2 q hq'
  · have c1 := j1.cov t
    have c2 := k.cov t
    unfold unjS
    dsimp only
    rw [inU_append, inU_cons, ← c2]
    have hn := inU_nil t
    constructor
    · rintro ((h | h | h) | h)
      · exact .inl h
      · rcases c1.1 (.inl h) with h | h
        · exact .inr ⟨_, h2, h⟩
        · exact .inr h
      · exact absurd h hn
      · rcases c1.1 (.inr h) with h | h
        · exact .inr ⟨_, h2, h⟩
        · exact .inr h
    · rintro (h | h)
      · exact .inl (.inl h)
      · rcases c1.2 (.inr h) with h | h
        · exact .inl (.inr (.inl h))
        · exact .inr h
  · unfold unjS
    dsimp only
    rw [List.length_append, List.length_singleton]
    have := k.len
    omega
theorem unjN_ok {l : List Spn} (h : ∀ p ∈ l, p.1 ≤ p.2) : ∀ k, (∀ i, i < k → (unjN l i).rest ≠ []) → UnjOk l (unjN l k)
  | 0, _ => ⟨h, fun _ h => h, trivial, fun p hp => (by cases hp), fun t => ⟨fun k => k.elim (fun k => absurd k (inU_nil t)) id, .inr⟩, Nat.le_refl _⟩
  | k + 1, hk => (unj_ok (unjN_ok h k fun i hi => hk i (by omega)) (hk k (by omega))).1
/-- How many spans are taken. -/
def unjE (l : List Spn) : Nat → Nat → Nat
  | 0, k => k
  | n + 1, k => if (unjN l k).rest = [] then k else unjE l n (k + 1)
theorem unjE_end {l : List Spn} (h : ∀ p ∈ l, p.1 ≤ p.2) : ∀ n k, (∀ i, i < k → (unjN l i).rest ≠ []) → (unjN l k).rest.length ≤ n → (unjN l (unjE l n k)).rest = [] ∧ ∀ i, i < unjE l n k → (unjN l i).rest ≠ []
  | 0, k, hk, hn => ⟨List.length_eq_zero_iff.1 (Nat.le_zero.1 hn), hk⟩
  | n + 1, k, hk, hn => by
    unfold unjE
    by_cases he : (unjN l k).rest = []
    · rw [if_pos he]; exact ⟨he, hk⟩
    · rw [if_neg he]
      have hlt := (unj_ok (unjN_ok h k hk) he).2
      refine unjE_end h n (k + 1) (fun i hi => ?_) (by show (unjS (unjN l k)).rest.length ≤ n; omega)
      rcases Nat.lt_or_ge i k with h2 | h2
      · exact hk i h2
      · rw [show i = k by omega]; exact he
def unionK (l : List Spn) : Nat := unjE l l.length 0
/-- What Union returns. -/
def unionL (l : List Spn) : List Spn := (unjN l (unionK l)).out
theorem union_k {l : List Spn} (h : ∀ p ∈ l, p.1 ≤ p.2) : (unjN l (unionK l)).rest = [] ∧ ∀ i, i < unionK l → (unjN l i).rest ≠ [] := unjE_end h l.length 0 (fun i hi => by omega) (Nat.le_refl _)
theorem union_ok {l : List Spn} (h : ∀ p ∈ l, p.1 ≤ p.2) : normU (unionL l) ∧ (∀ t, inU t (unionL l) ↔ inU t l) ∧ (unionL l).length ≤ l.length := by
  obtain ⟨h1, h2⟩ := union_k h
  have k := unjN_ok h (unionK l) h2
  refine ⟨k.norm, fun t => ?_, by have := k.len; unfold unionL; omega⟩
  have := k.cov t
  rw [h1] at this
  rw [← this]
  exact ⟨.inl, fun h => h.elim id fun h => absurd h (inU_nil t)⟩
/-- Whatever has the gaps and covers the same is it. -/
theorem union_is {l u : List Spn} (h : ∀ p ∈ l, p.1 ≤ p.2) (hn : normU u) (hc : ∀ t, inU t u ↔ inU t l) : u = unionL l := by
  obtain ⟨h1, h2, _⟩ := union_ok h
  exact norm_uniq hn h1 fun t => (hc t).trans (h2 t).symm
theorem norm_mem : ∀ {u : List Spn}, normU u → ∀ p ∈ u, p.1 ≤ p.2
  | q :: r, h, p, hp => by
    rcases List.mem_cons.1 hp with rfl | hp
    · exact h.1
    · exact norm_mem h.2.2 p hp
end Go.Proofs.Ytjebhdadegfbdaa
set_option linter.unusedVariables false
set_option linter.unusedSimpArgs false
namespace Go.Proofs.Ytjebhdadegfbdaa

def okP (p : Spn) : Bool := decide (-1152921504606846976 ≤ p.1 ∧ p.2 ≤ 1152921504606846976 ∧ p.1 ≤ p.2)
theorem okP_t {p : Spn} (h : okP p = true) : -1152921504606846976 ≤ p.1 ∧ p.2 ≤ 1152921504606846976 ∧ p.1 ≤ p.2 := of_decide_eq_true h
def meetV (p q : Spn) : Spn := (max p.1 q.1, min p.2 q.2)
def meetB (p q : Spn) : Bool := okP p && okP q && decide (max p.1 q.1 ≤ min p.2 q.2)
theorem max_if (a b : Int) : max a b = if a ≤ b then b else a := by rw [Int.max_def]
theorem min_if (a b : Int) : min a b = if a ≤ b then a else b := by rw [Int.min_def]
theorem meetB_t {p q : Spn} (h : meetB p q = true) : okP p = true ∧ okP q = true ∧ okP (meetV p q) = true := by
  unfold meetB at h
  rw [Bool.and_eq_true, Bool.and_eq_true] at h
  have h1 := okP_t h.1.1
  have h2 := okP_t h.1.2
  have h3 := of_decide_eq_true h.2
  refine ⟨h.1.1, h.1.2, decide_eq_true ?_⟩
  unfold meetV
  dsimp only
  rw [max_if, min_if] at h3 ⊢
  refine ⟨?_, ?_, h3⟩
  · split <;> omega
  · split <;> omega
theorem meet_in {p q : Spn} (t : Int) : inS t (meetV p q) ↔ inS t p ∧ inS t q := by
  unfold inS meetV
  dsimp only
  rw [max_if, min_if]
  split <;> split <;> omega
theorem meetB_of {p q : Spn} (h1 : okP p = true) (h2 : okP q = true) {t : Int} (h3 : inS t p) (h4 : inS t q) : meetB p q = true := by
  have k := (meet_in (p := p) (q := q) t).2 ⟨h3, h4⟩
  have : max p.1 q.1 ≤ min p.2 q.2 := Int.le_trans k.1 k.2
  unfold meetB
  rw [h1, h2, decide_eq_true this]; rfl
theorem span_uniq {p q : Spn} (hp : p.1 ≤ p.2) (hq : q.1 ≤ q.2) (h : ∀ t, inS t p ↔ inS t q) : p = q := by
  have a := (h p.1).1 ⟨Int.le_refl _, hp⟩
  have b := (h p.2).1 ⟨hp, Int.le_refl _⟩
  have c := (h q.1).2 ⟨Int.le_refl _, hq⟩
  have d := (h q.2).2 ⟨hq, Int.le_refl _⟩
  unfold inS at *
  exact Prod.ext (by omega) (by omega)
def comF : Option Spn → Spn → Option Spn
  | none, _ => none
  | some p, q => if meetB p q = true then some (meetV p q) else none
def comL : List Spn → Option Spn
  | [] => none
  | p :: r => if okP p = true then r.foldl comF (some p) else none
theorem comF_none : ∀ l : List Spn, l.foldl comF none = none
  | [] => rfl
  | p :: l => by rw [List.foldl_cons]; exact comF_none l
theorem comF_some : ∀ (l : List Spn) (p c : Spn), okP p = true → l.foldl comF (some p) = some c → (∀ q ∈ l, okP q = true) ∧ okP c = true ∧ ∀ t, inS t c ↔ inS t p ∧ ∀ q ∈ l, inS t q
  | [], p, c, hp, h => by
    cases h
    exact ⟨fun q hq => (by cases hq), hp, fun t => ⟨fun k => ⟨k, fun q hq => by cases hq⟩, fun k => k.1⟩⟩
  | q :: l, p, c, hp, h => by
    rw [List.foldl_cons] at h
    by_cases hm : meetB p q = true
    · have e : comF (some p) q = some (meetV p q) := if_pos hm
      rw [e] at h
      obtain ⟨m1, m2, m3⟩ := meetB_t hm
      obtain ⟨a, b, d⟩ := comF_some l (meetV p q) c m3 h
      refine ⟨fun x hx => ?_, b, fun t => ?_⟩
      · rcases List.mem_cons.1 hx with rfl | hx
        · exact m2
        · exact a x hx
      · rw [d t, meet_in]
        constructor
        · rintro ⟨⟨k1, k2⟩, k3⟩
          refine ⟨k1, fun x hx => ?_⟩
          rcases List.mem_cons.1 hx with rfl | hx
          · exact k2
          · exact k3 x hx
        · rintro ⟨k1, k2⟩
          exact ⟨⟨k1, k2 q List.mem_cons_self⟩, fun x hx => k2 x (List.mem_cons_of_mem _ hx)⟩
    · have e : comF (some p) q = none := if_neg hm
      rw [e, comF_none] at h
      cases h
theorem comF_ex : ∀ (l : List Spn) (p : Spn), okP p = true → (∀ q ∈ l, okP q = true) → ∀ t, inS t p → (∀ q ∈ l, inS t q) → (l.foldl comF (some p)).isSome = true
  | [], _, _, _, _, _, _ => rfl
  | q :: l, p, hp, hq, t, h1, h2 => by
    rw [List.foldl_cons]
    have hm := meetB_of hp (hq q List.mem_cons_self) h1 (h2 q List.mem_cons_self)
    have e : comF (some p) q = some (meetV p q) := if_pos hm
    rw [e]
    exact comF_ex l _ (meetB_t hm).2.2 (fun x hx => hq x (List.mem_cons_of_mem _ hx)) t ((meet_in t).2 ⟨h1, h2 q List.mem_cons_self⟩) fun x hx => h2 x (List.mem_cons_of_mem _ hx)
theorem com_some {l : List Spn} {c : Spn} (h : comL l = some c) : l ≠ [] ∧ (∀ q ∈ l, okP q = true) ∧ okP c = true ∧ ∀ t, inS t c ↔ ∀ q ∈ l, inS t q := by
  cases l with
  | nil => cases h
  | cons p r =>
    by_cases hp : okP p = true
    · rw [show comL (p :: r) = r.foldl comF (some p) from if_pos hp] at h
      obtain ⟨a, b, d⟩ := comF_some r p c hp h
      refine ⟨by simp, fun x hx => ?_, b, fun t => ?_⟩
      · rcases List.mem_cons.1 hx with rfl | hx
        · exact hp
        · exact a x hx
      · rw [d t]
        constructor
        · rintro ⟨k1, k2⟩ x hx
          rcases List.mem_cons.1 hx with rfl | hx
          · exact k1
          · exact k2 x hx
        · intro k
          exact ⟨k p List.mem_cons_self, fun x hx => k x (List.mem_cons_of_mem _ hx)⟩
    · rw [show comL (p :: r) = none from if_neg hp] at h
      cases h
theorem com_ex {l : List Spn} (hne : l ≠ []) (hq : ∀ q ∈ l, okP q = true) {t : Int} (h : ∀ q ∈ l, inS t q) : (comL l).isSome = true := by
  cases l with
  | nil => exact absurd rfl hne
  | cons p r =>
    rw [show comL (p :: r) = r.foldl comF (some p) from if_pos (hq p List.mem_cons_self)]
    exact comF_ex r p (hq p List.mem_cons_self) (fun x hx => hq x (List.mem_cons_of_mem _ hx)) t (h p List.mem_cons_self) fun x hx => h x (List.mem_cons_of_mem _ hx)
/-- Whatever is valid and has just the common instants is it. -/
theorem com_is {l : List Spn} {c : Spn} (hne : l ≠ []) (hq : ∀ q ∈ l, okP q = true) (hc : c.1 ≤ c.2) (h : ∀ t, inS t c ↔ ∀ q ∈ l, inS t q) : comL l = some c := by
  have := com_ex hne hq (t := c.1) ((h c.1).1 ⟨Int.le_refl _, hc⟩)
  cases k : comL l with
  | none => rw [k] at this; cases this
  | some d =>
    obtain ⟨_, _, a, b⟩ := com_some k
    rw [span_uniq (okP_t a).2.2 hc fun t => (b t).trans (h t).symm]
end Go.Proofs.Ytjebhdadegfbdaa
set_option linter.unusedVariables false
set_option linter.unusedSimpArgs false
namespace Go.Proofs.Ytjebhdadegfbdaa

/-! ### Products in two words -/
/-- The upper word (of 62 bits) of a product, and the lower one, from parts of 31 bits. -/
def prodA (a b : Int) : Int := a / 2147483648 * (b / 2147483648) + (a / 2147483648 * (b % 2147483648) + a % 2147483648 * (b % 2147483648) / 2147483648) / 2147483648 + (a % 2147483648 * (b / 2147483648) + (a / 2147483648 * (b % 2147483648) + a % 2147483648 * (b % 2147483648) / 2147483648) % 2147483648) / 2147483648
def prodB (a b : Int) : Int := (a % 2147483648 * (b / 2147483648) + (a / 2147483648 * (b % 2147483648) + a % 2147483648 * (b % 2147483648) / 2147483648) % 2147483648) % 2147483648 * 2147483648 + a % 2147483648 * (b % 2147483648) % 2147483648
theorem prod_ok (a b : Int) : prodA a b * 4611686018427387904 + prodB a b = a * b ∧ 0 ≤ prodB a b ∧ prodB a b < 4611686018427387904 := by
  have ea := Int.emod_add_mul_ediv a 2147483648
  have eb := Int.emod_add_mul_ediv b 2147483648
  have hab : a * b = a % 2147483648 * (b % 2147483648) + (a / 2147483648 * (b % 2147483648)) * 2147483648 + (a % 2147483648 * (b / 2147483648)) * 2147483648 + (a / 2147483648 * (b / 2147483648)) * 4611686018427387904 := by
    have : a * b = (a % 2147483648 + 2147483648 * (a / 2147483648)) * (b % 2147483648 + 2147483648 * (b / 2147483648)) := by rw [ea, eb]
    rw [this, Int.add_mul, Int.mul_add, Int.mul_add]
    generalize a % 2147483648 = x
    generalize b % 2147483648 = y
    generalize a / 2147483648 = u
    generalize b / 2147483648 = v
    have e1 : x * (2147483648 * v) = x * v * 2147483648 := by rw [Int.mul_left_comm, Int.mul_comm]
    have e2 : 2147483648 * u * y = u * y * 2147483648 := by rw [Int.mul_assoc, Int.mul_comm]
    have e3 : 2147483648 * u * (2147483648 * v) = u * v * 4611686018427387904 := by
      rw [Int.mul_assoc, Int.mul_left_comm u, ← Int.mul_assoc, Int.mul_comm]; rfl
    rw [e1, e2, e3]
    omega
  unfold prodA prodB
  rw [hab]
  generalize a % 2147483648 * (b % 2147483648) = P
  generalize a / 2147483648 * (b % 2147483648) = Q
  generalize a % 2147483648 * (b / 2147483648) = R
  generalize a / 2147483648 * (b / 2147483648) = T
  omega
/-- Words compared are products compared. -/
theorem prod_le (a b c d : Int) : (prodA a b < prodA c d ∨ prodA a b = prodA c d ∧ prodB a b ≤ prodB c d) ↔ a * b ≤ c * d := by
  obtain ⟨h1, h2, h3⟩ := prod_ok a b
  obtain ⟨k1, k2, k3⟩ := prod_ok c d
  rw [← h1, ← k1]
  generalize prodA a b = A at *
  generalize prodB a b = B at *
  generalize prodA c d = C at *
  generalize prodB c d = D at *
  omega

/-! ### Which advance fits -/
def fitP (e d p : Int) : Prop := e * (1000000000 - p) ≤ d * 1000000000 ∧ d * 1000000000 ≤ e * (1000000000 + p)
theorem fit_iff (e d p : Int) : fitP e d p ↔ e * 1000000000 - e * p ≤ d * 1000000000 ∧ d * 1000000000 ≤ e * 1000000000 + e * p := by
  unfold fitP
  rw [Int.mul_sub, Int.mul_add]
theorem fit_mono {e d p q : Int} (he : 0 ≤ e) (h : p ≤ q) (k : fitP e d p) : fitP e d q := by
  rw [fit_iff] at k ⊢
  have := Int.mul_le_mul_of_nonneg_left h he
  omega
theorem fit_same {e p : Int} (he : 0 ≤ e) (hp : 0 ≤ p) : fitP e e p := by
  rw [fit_iff]
  have := Int.mul_nonneg he hp
  omega
theorem fit_add {e d f c p : Int} (h : fitP e d p) (k : fitP f c p) : fitP (e + f) (d + c) p := by
  rw [fit_iff] at h k ⊢
  rw [Int.add_mul, Int.add_mul, Int.add_mul]
  omega
/-! ### Quotients of products -/
/-- a b / c, rounded up. -/
def upQ (x c : Int) : Int := -(-x / c)
theorem upQ_le {x c : Int} (hc : 0 < c) {y : Int} : upQ x c ≤ y ↔ x ≤ y * c := by
  unfold upQ
  have h : -x / c ≥ -y ↔ -y * c ≤ -x := Int.le_ediv_iff_mul_le hc
  rw [Int.neg_mul] at h
  omega
theorem dnQ_le {x c : Int} (hc : 0 < c) {y : Int} : y ≤ x / c ↔ y * c ≤ x := Int.le_ediv_iff_mul_le hc
/-- The least and the greatest true time that an advance stands for. -/
def elA (d p : Int) : Int := d * 1000000000 / (1000000000 + p)
def elB (d p : Int) : Int := upQ (d * 1000000000) (1000000000 - p)
def adA (e p : Int) : Int := e * (1000000000 - p) / 1000000000
def adB (e p : Int) : Int := upQ (e * (1000000000 + p)) 1000000000
/-- The rest, multiplied apart. -/
theorem ratio_dn (a b : Int) {c : Int} (hc : 0 < c) : a / c * b + (a - a / c * c) * b / c = a * b / c := by
  have e := Int.emod_add_mul_ediv a c
  have h1 : a * b = (a - a / c * c) * b + a / c * b * c := by
    rw [Int.sub_mul, Int.mul_right_comm (a / c) b c]; omega
  rw [h1, Int.add_mul_ediv_right _ _ (by omega)]
  omega
theorem ratio_up (a b : Int) {c : Int} (hc : 0 < c) : a / c * b + upQ ((a - a / c * c) * b) c = upQ (a * b) c := by
  have h1 : -(a * b) = -((a - a / c * c) * b) + -(a / c * b) * c := by
    rw [Int.sub_mul, Int.neg_mul, Int.mul_right_comm (a / c) b c]; omega
  unfold upQ
  rw [h1, Int.add_mul_ediv_right _ _ (by omega)]
  omega
theorem el_fit {e d p : Int} (hp : p ≤ 1000000) (h0 : 0 ≤ p) (h : fitP e d p) : elA d p ≤ e ∧ e ≤ elB d p := by
  obtain ⟨h1, h2⟩ := h
  constructor
  · have : d * 1000000000 / (1000000000 + p) < e + 1 := (Int.ediv_lt_iff_lt_mul (by omega)).2 (by
      rw [Int.add_mul]; omega)
    unfold elA; omega
  · unfold elB
    rcases Int.lt_or_le (upQ (d * 1000000000) (1000000000 - p)) e with k | k
    · exfalso
      have := (upQ_le (x := d * 1000000000) (c := 1000000000 - p) (by omega) (y := e - 1)).1 (by omega)
      rw [Int.sub_mul] at this
      omega
    · exact k
theorem ad_fit {e d p : Int} (h : fitP e d p) : adA e p ≤ d ∧ d ≤ adB e p := by
  obtain ⟨h1, h2⟩ := h
  unfold adA adB
  constructor
  · have := Int.ediv_le_ediv (c := 1000000000) (by decide) h1
    rw [Int.mul_ediv_cancel _ (by decide)] at this
    exact this
  · rcases Int.lt_or_le (upQ (e * (1000000000 + p)) 1000000000) d with k | k
    · exfalso
      have := (upQ_le (x := e * (1000000000 + p)) (c := 1000000000) (by decide) (y := d - 1)).1 (by omega)
      omega
    · exact k
theorem el_order (d p : Int) (hd : 0 ≤ d) (h0 : 0 ≤ p) (hp : p ≤ 1000000) : 0 ≤ elA d p ∧ elA d p ≤ d ∧ d ≤ elB d p := by
  have f := el_fit hp h0 (fit_same hd h0)
  refine ⟨?_, f.1, f.2⟩
  unfold elA
  exact Int.ediv_nonneg (by omega) (by omega)
theorem elB_le (d p : Int) (hd : 0 ≤ d) (h0 : 0 ≤ p) (hp : p ≤ 1000000) : elB d p ≤ 2 * d := by
  unfold elB
  rw [upQ_le (by omega)]
  have h1 : 2 * d * (1000000000 - p) = 2 * (d * 1000000000) - 2 * (d * p) := by
    rw [Int.mul_sub, Int.mul_assoc, Int.mul_assoc]
  have h2 : d * p ≤ d * 1000000 := Int.mul_le_mul_of_nonneg_left hp hd
  omega
theorem el_zero (d : Int) : elA d 0 = d ∧ elB d 0 = d := by
  unfold elA elB upQ
  omega
theorem el_mono {d e p : Int} (h : d ≤ e) (h0 : 0 ≤ p) (hp : p ≤ 1000000) : elA d p ≤ elA e p ∧ elB d p ≤ elB e p := by
  constructor
  · exact Int.ediv_le_ediv (by omega) (by omega)
  · unfold elB
    rw [upQ_le (by omega)]
    have := (upQ_le (x := e * 1000000000) (c := 1000000000 - p) (by omega)).1 (Int.le_refl _)
    omega
theorem el_wide {d p q : Int} (hd : 0 ≤ d) (h : p ≤ q) (h0 : 0 ≤ p) (hq : q ≤ 1000000) : elA d q ≤ elA d p ∧ elB d p ≤ elB d q := by
  constructor
  · unfold elA
    rw [dnQ_le (by omega)]
    have h1 : d * 1000000000 / (1000000000 + q) * (1000000000 + q) ≤ d * 1000000000 := Int.ediv_mul_le _ (by omega)
    have h2 : 0 ≤ d * 1000000000 / (1000000000 + q) := Int.ediv_nonneg (by omega) (by omega)
    have h3 := Int.mul_le_mul_of_nonneg_left (show 1000000000 + p ≤ 1000000000 + q by omega) h2
    omega
  · unfold elB
    rw [upQ_le (by omega)]
    have h1 := (upQ_le (x := d * 1000000000) (c := 1000000000 - q) (by omega)).1 (Int.le_refl _)
    have h2 : 0 ≤ upQ (d * 1000000000) (1000000000 - q) := by
      have := (el_order d q hd (by omega) hq).2.2
      unfold elB at this; omega
    have h3 := Int.mul_le_mul_of_nonneg_left (show 1000000000 - q ≤ 1000000000 - p by omega) h2
    omega
theorem el_parts {c d p : Int} (h0 : 0 ≤ p) (hp : p ≤ 1000000) : elA c p + elA d p ≤ elA (c + d) p ∧ elB (c + d) p ≤ elB c p + elB d p := by
  constructor
  · unfold elA
    rw [dnQ_le (by omega), Int.add_mul, Int.add_mul]
    have h1 := Int.ediv_mul_le (c * 1000000000) (show 1000000000 + p ≠ 0 by omega)
    have h2 := Int.ediv_mul_le (d * 1000000000) (show 1000000000 + p ≠ 0 by omega)
    omega
  · unfold elB
    rw [upQ_le (by omega), Int.add_mul, Int.add_mul]
    have h1 := (upQ_le (x := c * 1000000000) (c := 1000000000 - p) (by omega)).1 (Int.le_refl _)
    have h2 := (upQ_le (x := d * 1000000000) (c := 1000000000 - p) (by omega)).1 (Int.le_refl _)
    omega
theorem ad_order (e p : Int) (he : 0 ≤ e) (h0 : 0 ≤ p) (hp : p ≤ 1000000) : 0 ≤ adA e p ∧ adA e p ≤ e ∧ e ≤ adB e p ∧ adB e p ≤ 2 * e := by
  have f := ad_fit (fit_same he h0)
  refine ⟨?_, f.1, f.2, ?_⟩
  · unfold adA
    exact Int.ediv_nonneg (Int.mul_nonneg he (by omega)) (by decide)
  · unfold adB
    rw [upQ_le (by decide)]
    have h2 : e * p ≤ e * 1000000 := Int.mul_le_mul_of_nonneg_left hp he
    rw [Int.mul_add]
    omega
end Go.Proofs.Ytjebhdadegfbdaa
set_option linter.unusedVariables false
set_option linter.unusedSimpArgs false
namespace Go.Proofs.Ytjebhdadegfbdaa

/-! ### The spans of a timestamp: its ticks are d, rounded down, and u, rounded up -/
def eraS (d u k : Int) : Int × Int := (k * 4503599627370496 + d, k * 4503599627370496 + u)
/-- The first and the last era that meets a span. -/
def eraA (lo u : Int) : Int := -((u - lo) / 4503599627370496)
def eraB (hi d : Int) : Int := (hi - d) / 4503599627370496
theorem era_meet (d u lo hi k : Int) : ((eraS d u k).1 ≤ hi ∧ lo ≤ (eraS d u k).2) ↔ eraA lo u ≤ k ∧ k ≤ eraB hi d := by
  unfold eraS eraA eraB
  dsimp only
  omega
def unfN (d u lo hi : Int) : Nat := (eraB hi d - eraA lo u + 1).toNat
def unfP (d u lo : Int) (n : Nat) : List (Int × Int) := (List.range n).map fun (i : Nat) => eraS d u (eraA lo u + (i : Int))
def unfL (d u lo hi : Int) : List (Int × Int) := unfP d u lo (unfN d u lo hi)
theorem unfP_len (d u lo : Int) (n : Nat) : (unfP d u lo n).length = n := by unfold unfP; rw [List.length_map, List.length_range]
theorem unfP_succ (d u lo : Int) (n : Nat) : unfP d u lo (n + 1) = unfP d u lo n ++ [eraS d u (eraA lo u + n)] := by
  unfold unfP; rw [List.range_succ, List.map_append]; rfl
theorem unfP_get {d u lo : Int} {n i : Nat} (h : i < n) : (unfP d u lo n)[i]? = some (eraS d u (eraA lo u + i)) := by
  unfold unfP; rw [List.getElem?_map, List.getElem?_range h]; rfl
theorem unf_count {d u lo hi : Int} (h : lo ≤ hi) (h1 : d ≤ u) (h2 : u ≤ d + 1) : (unfN d u lo hi : Int) ≥ (hi - lo) / 4503599627370496 ∧ (unfN d u lo hi : Int) ≤ (hi - lo) / 4503599627370496 + 2 := by
  unfold unfN eraA eraB
  omega
/-- Two parts of a span. -/
theorem unf_parts {d u a c b : Int} (h1 : a ≤ c) (h2 : c ≤ b) (h3 : d ≤ u) (h4 : u ≤ d + 1) :
    (eraB c d < eraA c u ∧ eraB c d + 1 = eraA c u) ∨ (eraA c u = eraB c d) := by
  unfold eraA eraB
  omega
/-- The timestamp of an instant has its ticks. -/
theorem era_only {t lo hi : Int} (h1 : lo ≤ t) (h2 : t ≤ hi) (h3 : hi - lo < 4503599627370496 - 2) : eraA lo (t % 4503599627370496) = t / 4503599627370496 ∧ eraB hi (t % 4503599627370496) = t / 4503599627370496 := by
  unfold eraA eraB
  omega
/-! ### The nearest -/
def farD (t : Int) (p : Int × Int) : Int := max (max (p.1 - t) (t - p.2)) 0
theorem far_eq (t : Int) {p : Int × Int} (h : p.1 ≤ p.2) : farD t p = if t < p.1 then p.1 - t else if p.2 < t then t - p.2 else 0 := by
  unfold farD
  rw [Int.max_def, Int.max_def]
  split <;> split <;> split <;> omega
/-- The era whose span is the nearest to t: of two the earlier one. -/
def nearK (d u t : Int) : Int :=
  if (if (t - d) % 4503599627370496 ≤ u - d then 0 else (t - d) % 4503599627370496 - (u - d)) ≤ 4503599627370496 - (t - d) % 4503599627370496 then (t - d) / 4503599627370496 else (t - d) / 4503599627370496 + 1
theorem near_le {d u t : Int} (h3 : d ≤ u) (h4 : u ≤ d + 1) (k : Int) : farD t (eraS d u (nearK d u t)) ≤ farD t (eraS d u k) ∧ (farD t (eraS d u k) = farD t (eraS d u (nearK d u t)) → nearK d u t ≤ k) := by
  have hle : ∀ k, (eraS d u k).1 ≤ (eraS d u k).2 := fun k => by unfold eraS; dsimp only; omega
  rw [far_eq t (hle _), far_eq t (hle _)]
  unfold nearK eraS
  dsimp only
  have e := Int.emod_add_mul_ediv (t - d) 4503599627370496
  have h1 := Int.emod_nonneg (t - d) (show (4503599627370496 : Int) ≠ 0 by decide)
  have h2 := Int.emod_lt_of_pos (t - d) (show (0 : Int) < 4503599627370496 by decide)
  generalize (t - d) % 4503599627370496 = r at *
  generalize (t - d) / 4503599627370496 = q at *
  rcases Int.lt_trichotomy k q with hk | hk | hk
  · obtain ⟨n, hn⟩ : ∃ n : Int, k = q - 1 - n ∧ 0 ≤ n := ⟨q - 1 - k, by omega, by omega⟩
    rw [hn.1]
    repeat' split
    all_goals omega
  · subst hk
    repeat' split
    all_goals omega
  · obtain ⟨n, hn⟩ : ∃ n : Int, k = q + 1 + n ∧ 0 ≤ n := ⟨k - q - 1, by omega, by omega⟩
    rw [hn.1]
    repeat' split
    all_goals omega
theorem near_in {d u t : Int} (hd : 0 ≤ d) (h2 : d < 4503599627370496) : t / 4503599627370496 - 1 ≤ nearK d u t ∧ nearK d u t ≤ t / 4503599627370496 + 1 := by
  unfold nearK
  split <;> omega
theorem near_half {d u t : Int} (h3 : d ≤ u) (h4 : u ≤ d + 1) : farD t (eraS d u (nearK d u t)) ≤ 2251799813685248 := by
  rw [far_eq t (show (eraS d u (nearK d u t)).1 ≤ (eraS d u (nearK d u t)).2 by unfold eraS; dsimp only; omega)]
  unfold nearK eraS
  dsimp only
  have e := Int.emod_add_mul_ediv (t - d) 4503599627370496
  have h1 := Int.emod_nonneg (t - d) (show (4503599627370496 : Int) ≠ 0 by decide)
  have h2 := Int.emod_lt_of_pos (t - d) (show (0 : Int) < 4503599627370496 by decide)
  generalize (t - d) % 4503599627370496 = r at *
  generalize (t - d) / 4503599627370496 = q at *
  repeat' split
  all_goals omega
theorem near_self (t : Int) : nearK (t % 4503599627370496) (t % 4503599627370496) t = t / 4503599627370496 := by
  unfold nearK
  split <;> split at * <;> omega
/-! ### The best so far, of candidates in order -/
def bestS (d u t : Int) (b : Int) (k : Int) : Int := if farD t (eraS d u k) < farD t (eraS d u b) then k else b
def bestN (d u t a : Int) : Nat → Int
  | 0 => a
  | n + 1 => bestS d u t (bestN d u t a n) (a + (n : Int) + 1)
theorem bestN_ok (d u t a : Int) : ∀ n : Nat, a ≤ bestN d u t a n ∧ bestN d u t a n ≤ a + n ∧ ∀ j, a ≤ j → j ≤ a + n → farD t (eraS d u (bestN d u t a n)) ≤ farD t (eraS d u j) ∧ (farD t (eraS d u j) = farD t (eraS d u (bestN d u t a n)) → bestN d u t a n ≤ j)
  | 0 => by
    refine ⟨Int.le_refl _, by simp [bestN], fun j h1 h2 => ?_⟩
    obtain rfl : j = a := by omega
    exact ⟨Int.le_refl _, fun _ => Int.le_refl _⟩
  | n + 1 => by
    obtain ⟨b1, b2, b3⟩ := bestN_ok d u t a n
    unfold bestN bestS
    have e : ((n + 1 : Nat) : Int) = (n : Int) + 1 := by omega
    rw [e]
    split
    · rename_i hlt
      refine ⟨by omega, by omega, fun j h1 h2 => ?_⟩
      rcases Int.lt_or_le j (a + (n : Int) + 1) with h | h
      · have := (b3 j h1 (by omega)).1
        exact ⟨by omega, fun _ => by omega⟩
      · obtain rfl : j = a + (n : Int) + 1 := by omega
        exact ⟨Int.le_refl _, fun _ => Int.le_refl _⟩
    · rename_i hge
      refine ⟨b1, by omega, fun j h1 h2 => ?_⟩
      rcases Int.lt_or_le j (a + (n : Int) + 1) with h | h
      · exact b3 j h1 (by omega)
      · obtain rfl : j = a + (n : Int) + 1 := by omega
        exact ⟨by omega, fun _ => by omega⟩
theorem best_near {d u t a : Int} {n : Nat} (h3 : d ≤ u) (h4 : u ≤ d + 1) (h1 : a ≤ nearK d u t) (h2 : nearK d u t ≤ a + n) : bestN d u t a n = nearK d u t := by
  obtain ⟨b1, b2, b3⟩ := bestN_ok d u t a n
  obtain ⟨c1, c2⟩ := near_le (t := t) h3 h4 (bestN d u t a n)
  obtain ⟨c3, c4⟩ := b3 _ h1 h2
  have e := Int.le_antisymm c1 c3
  exact Int.le_antisymm (c4 e) (c2 e.symm)
end Go.Proofs.Ytjebhdadegfbdaa
