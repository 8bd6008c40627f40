/- Layer 15: drift, as functions of numbers. Pure. Own work. -/
import Derived.Below
set_option linter.unusedVariables false
set_option linter.unusedSimpArgs false
namespace Go.Proofs.Ytjebhdadegfbdaa

/-! ### Products in two words -/
/-- The upper word (of 62 bits) of a product, and the lower one, from parts of 31 bits. -/
def prodA (a b : Int) : Int := a / 2147483648 * (b / 2147483648) + (a / 2147483648 * (b % 2147483648) + a % 2147483648 * (b % 2147483648) / 2147483648) / 2147483648 + (a % 2147483648 * (b / 2147483648) + (a / 2147483648 * (b % 2147483648) + a % 2147483648 * (b % 2147483648) / 2147483648) % 2147483648) / 2147483648
def prodB (a b : Int) : Int := (a % 2147483648 * (b / 2147483648) + (a / 2147483648 * (b % 2147483648) + a % 2147483648 * (b % 2147483648) / 2147483648) % 2147483648) % 2147483648 * 2147483648 + a % 2147483648 * (b % 2147483648) % 2147483648
theorem prod_ok (a b : Int) : prodA a b * 4611686018427387904 + prodB a b = a * b ∧ 0 ≤ prodB a b ∧ prodB a b < 4611686018427387904 := by
  have ea := Int.emod_add_mul_ediv a 2147483648
  have eb := Int.emod_add_mul_ediv b 2147483648
  have hab : a * b = a % 2147483648 * (b % 2147483648) + (a / 2147483648 * (b % 2147483648)) * 2147483648 + (a % 2147483648 * (b / 2147483648)) * 2147483648 + (a / 2147483648 * (b / 2147483648)) * 4611686018427387904 := by
    have : a * b = (a % 2147483648 + 2147483648 * (a / 2147483648)) * (b % 2147483648 + 2147483648 * (b / 2147483648)) := by rw [ea, eb]
    rw [this, Int.add_mul, Int.mul_add, Int.mul_add]
    generalize a % 2147483648 = x
    generalize b % 2147483648 = y
    generalize a / 2147483648 = u
    generalize b / 2147483648 = v
    have e1 : x * (2147483648 * v) = x * v * 2147483648 := by rw [Int.mul_left_comm, Int.mul_comm]
    have e2 : 2147483648 * u * y = u * y * 2147483648 := by rw [Int.mul_assoc, Int.mul_comm]
    have e3 : 2147483648 * u * (2147483648 * v) = u * v * 4611686018427387904 := by
      rw [Int.mul_assoc, Int.mul_left_comm u, ← Int.mul_assoc, Int.mul_comm]; rfl
    rw [e1, e2, e3]
    omega
  unfold prodA prodB
  rw [hab]
  generalize a % 2147483648 * (b % 2147483648) = P
  generalize a / 2147483648 * (b % 2147483648) = Q
  generalize a % 2147483648 * (b / 2147483648) = R
  generalize a / 2147483648 * (b / 2147483648) = T
  omega
/-- Words compared are products compared. -/
theorem prod_le (a b c d : Int) : (prodA a b < prodA c d ∨ prodA a b = prodA c d ∧ prodB a b ≤ prodB c d) ↔ a * b ≤ c * d := by
  obtain ⟨h1, h2, h3⟩ := prod_ok a b
  obtain ⟨k1, k2, k3⟩ := prod_ok c d
  rw [← h1, ← k1]
  generalize prodA a b = A at *
  generalize prodB a b = B at *
  generalize prodA c d = C at *
  generalize prodB c d = D at *
  omega

/-! ### Which advance fits -/
def fitP (e d p : Int) : Prop := e * (1000000000 - p) ≤ d * 1000000000 ∧ d * 1000000000 ≤ e * (1000000000 + p)
theorem fit_iff (e d p : Int) : fitP e d p ↔ e * 1000000000 - e * p ≤ d * 1000000000 ∧ d * 1000000000 ≤ e * 1000000000 + e * p := by
  unfold fitP
  rw [Int.mul_sub, Int.mul_add]
theorem fit_mono {e d p q : Int} (he : 0 ≤ e) (h : p ≤ q) (k : fitP e d p) : fitP e d q := by
  rw [fit_iff] at k ⊢
  have := Int.mul_le_mul_of_nonneg_left h he
  omega
theorem fit_same {e p : Int} (he : 0 ≤ e) (hp : 0 ≤ p) : fitP e e p := by
  rw [fit_iff]
  have := Int.mul_nonneg he hp
  omega
theorem fit_add {e d f c p : Int} (h : fitP e d p) (k : fitP f c p) : fitP (e + f) (d + c) p := by
  rw [fit_iff] at h k ⊢
  rw [Int.add_mul, Int.add_mul, Int.add_mul]
  omega
/-! ### Quotients of products -/
/-- a b / c, rounded up. -/
def upQ (x c : Int) : Int := -(-x / c)
theorem upQ_le {x c : Int} (hc : 0 < c) {y : Int} : upQ x c ≤ y ↔ x ≤ y * c := by
  unfold upQ
  have h : -x / c ≥ -y ↔ -y * c ≤ -x := Int.le_ediv_iff_mul_le hc
  rw [Int.neg_mul] at h
  omega
theorem dnQ_le {x c : Int} (hc : 0 < c) {y : Int} : y ≤ x / c ↔ y * c ≤ x := Int.le_ediv_iff_mul_le hc
/-- The least and the greatest true time that an advance stands for. -/
def elA (d p : Int) : Int := d * 1000000000 / (1000000000 + p)
def elB (d p : Int) : Int := upQ (d * 1000000000) (1000000000 - p)
def adA (e p : Int) : Int := e * (1000000000 - p) / 1000000000
def adB (e p : Int) : Int := upQ (e * (1000000000 + p)) 1000000000
/-- The rest, multiplied apart. -/
theorem ratio_dn (a b : Int) {c : Int} (hc : 0 < c) : a / c * b + (a - a / c * c) * b / c = a * b / c := by
  have e := Int.emod_add_mul_ediv a c
  have h1 : a * b = (a - a / c * c) * b + a / c * b * c := by
    rw [Int.sub_mul, Int.mul_right_comm (a / c) b c]; omega
  rw [h1, Int.add_mul_ediv_right _ _ (by omega)]
  omega
theorem ratio_up (a b : Int) {c : Int} (hc : 0 < c) : a / c * b + upQ ((a - a / c * c) * b) c = upQ (a * b) c := by
  have h1 : -(a * b) = -((a - a / c * c) * b) + -(a / c * b) * c := by
    rw [Int.sub_mul, Int.neg_mul, Int.mul_right_comm (a / c) b c]; omega
  unfold upQ
  rw [h1, Int.add_mul_ediv_right _ _ (by omega)]
  omega
theorem el_fit {e d p : Int} (hp : p ≤ 1000000) (h0 : 0 ≤ p) (h : fitP e d p) : elA d p ≤ e ∧ e ≤ elB d p := by
  obtain ⟨h1, h2⟩ := h
  constructor
  · have : d * 1000000000 / (1000000000 + p) < e + 1 := (Int.ediv_lt_iff_lt_mul (by omega)).2 (by
      rw [Int.add_mul]; omega)
    unfold elA; omega
  · unfold elB
    rcases Int.lt_or_le (upQ (d * 1000000000) (1000000000 - p)) e with k | k
    · exfalso
      have := (upQ_le (x := d * 1000000000) (c := 1000000000 - p) (by omega) (y := e - 1)).1 (by omega)
      rw [Int.sub_mul] at this
      omega
    · exact k
theorem ad_fit {e d p : Int} (h : fitP e d p) : adA e p ≤ d ∧ d ≤ adB e p := by
  obtain ⟨h1, h2⟩ := h
  unfold adA adB
  constructor
  · have := Int.ediv_le_ediv (c := 1000000000) (by decide) h1
    rw [Int.mul_ediv_cancel _ (by decide)] at this
    exact this
  · rcases Int.lt_or_le (upQ (e * (1000000000 + p)) 1000000000) d with k | k
    · exfalso
      have := (upQ_le (x := e * (1000000000 + p)) (c := 1000000000) (by decide) (y := d - 1)).1 (by omega)
      omega
    · exact k
theorem el_order (d p : Int) (hd : 0 ≤ d) (h0 : 0 ≤ p) (hp : p ≤ 1000000) : 0 ≤ elA d p ∧ elA d p ≤ d ∧ d ≤ elB d p := by
  have f := el_fit hp h0 (fit_same hd h0)
  refine ⟨?_, f.1, f.2⟩
  unfold elA
  exact Int.ediv_nonneg (by omega) (by omega)
theorem elB_le (d p : Int) (hd : 0 ≤ d) (h0 : 0 ≤ p) (hp : p ≤ 1000000) : elB d p ≤ 2 * d := by
  unfold elB
  rw [upQ_le (by omega)]
  have h1 : 2 * d * (1000000000 - p) = 2 * (d * 1000000000) - 2 * (d * p) := by
    rw [Int.mul_sub, Int.mul_assoc, Int.mul_assoc]
  have h2 : d * p ≤ d * 1000000 := Int.mul_le_mul_of_nonneg_left hp hd
  omega
theorem el_zero (d : Int) : elA d 0 = d ∧ elB d 0 = d := by
  unfold elA elB upQ
  omega
theorem el_mono {d e p : Int} (h : d ≤ e) (h0 : 0 ≤ p) (hp : p ≤ 1000000) : elA d p ≤ elA e p ∧ elB d p ≤ elB e p := by
  constructor
  · exact Int.ediv_le_ediv (by omega) (by omega)
  · unfold elB
    rw [upQ_le (by omega)]
    have := (upQ_le (x := e * 1000000000) (c := 1000000000 - p) (by omega)).1 (Int.le_refl _)
    omega
theorem el_wide {d p q : Int} (hd : 0 ≤ d) (h : p ≤ q) (h0 : 0 ≤ p) (hq : q ≤ 1000000) : elA d q ≤ elA d p ∧ elB d p ≤ elB d q := by
  constructor
  · unfold elA
    rw [dnQ_le (by omega)]
    have h1 : d * 1000000000 / (1000000000 + q) * (1000000000 + q) ≤ d * 1000000000 := Int.ediv_mul_le _ (by omega)
    have h2 : 0 ≤ d * 1000000000 / (1000000000 + q) := Int.ediv_nonneg (by omega) (by omega)
    have h3 := Int.mul_le_mul_of_nonneg_left (show 1000000000 + p ≤ 1000000000 + q by omega) h2
    omega
  · unfold elB
    rw [upQ_le (by omega)]
    have h1 := (upQ_le (x := d * 1000000000) (c := 1000000000 - q) (by omega)).1 (Int.le_refl _)
    have h2 : 0 ≤ upQ (d * 1000000000) (1000000000 - q) := by
      have := (el_order d q hd (by omega) hq).2.2
      unfold elB at this; omega
    have h3 := Int.mul_le_mul_of_nonneg_left (show 1000000000 - q ≤ 1000000000 - p by omega) h2
    omega
theorem el_parts {c d p : Int} (h0 : 0 ≤ p) (hp : p ≤ 1000000) : elA c p + elA d p ≤ elA (c + d) p ∧ elB (c + d) p ≤ elB c p + elB d p := by
  constructor
  · unfold elA
    rw [dnQ_le (by omega), Int.add_mul, Int.add_mul]
    have h1 := Int.ediv_mul_le (c * 1000000000) (show 1000000000 + p ≠ 0 by omega)
    have h2 := Int.ediv_mul_le (d * 1000000000) (show 1000000000 + p ≠ 0 by omega)
    omega
  · unfold elB
    rw [upQ_le (by omega), Int.add_mul, Int.add_mul]
    have h1 := (upQ_le (x := c * 1000000000) (c := 1000000000 - p) (by omega)).1 (Int.le_refl _)
    have h2 := (upQ_le (x := d * 1000000000) (c := 1000000000 - p) (by omega)).1 (Int.le_refl _)
    omega
theorem ad_order (e p : Int) (he : 0 ≤ e) (h0 : 0 ≤ p) (hp : p ≤ 1000000) : 0 ≤ adA e p ∧ adA e p ≤ e ∧ e ≤ adB e p ∧ adB e p ≤ 2 * e := by
  have f := ad_fit (fit_same he h0)
  refine ⟨?_, f.1, f.2, ?_⟩
  · unfold adA
    exact Int.ediv_nonneg (Int.mul_nonneg he (by omega)) (by decide)
  · unfold adB
    rw [upQ_le (by decide)]
    have h2 : e * p ≤ e * 1000000 := Int.mul_le_mul_of_nonneg_left hp he
    rw [Int.mul_add]
    omega
end Go.Proofs.Ytjebhdadegfbdaa
