/- Layer 15: what the functions return, as functions of numbers. Own work. -/
import Derived.Test.YtjebhdadegfbdaaPd0
import Derived.Test.YtjebhdadegfbdaaPb0
import Derived.Test.YtjebhdadegfbdaaPi3
set_option linter.unusedVariables false
set_option linter.unusedSimpArgs false
namespace Go.Proofs.Ytjebhdadegfbdaa
open Go.RowKit

/-! ### Rounded quotients -/
theorem round_dnQ (a : Int) {b : Int} : roundI a b false = a / b := by
  unfold roundI; rw [if_neg (by simp)]
theorem round_upQ (a : Int) {b : Int} (h : 0 < b) : roundI a b true = upQ a b := by
  have h5 : a.tmod b = 0 ↔ a % b = 0 := by rw [← Int.dvd_iff_tmod_eq_zero, Int.dvd_iff_emod_eq_zero]
  have e1 := Int.emod_add_mul_ediv a b
  have e2 := Int.emod_nonneg a (show b ≠ 0 by omega)
  have e3 := Int.emod_lt_of_pos a h
  unfold roundI upQ
  by_cases hz : a % b = 0
  · rw [if_neg (by rw [h5.2 hz]; simp)]
    have : -a = b * -(a / b) := by rw [Int.mul_neg]; omega
    rw [this, Int.mul_ediv_cancel_left _ (by omega)]; omega
  · rw [if_pos ⟨rfl, fun e => hz (h5.1 e)⟩]
    have key : (b - a % b) + b * (-(a / b) - 1) = -a := by rw [Int.mul_sub, Int.mul_neg]; omega
    have := (Int.ediv_emod_unique (a := -a) h (r := b - a % b) (q := -(a / b) - 1)).2 ⟨by omega, by omega, by omega⟩
    omega
theorem ratio_I (a b : Int) {c : Int} (hc : 0 < c) (up : Bool) : a / c * b + roundI ((a - a / c * c) * b) c up = if up = true then upQ (a * b) c else a * b / c := by
  cases up
  · rw [round_dnQ, ratio_dn a b hc]; rfl
  · rw [round_upQ _ hc, ratio_up a b hc]; rfl
theorem emod_sub (a c : Int) : a - a / c * c = a % c := by
  have := Int.emod_add_mul_ediv a c
  rw [Int.mul_comm] at this; omega
theorem sca_dn (e p : Int) : scaN e p false = e * p / 1000000000 := by
  unfold scaN
  rw [← emod_sub, ratio_I e p (by decide) false]; rfl
theorem sca_up (e p : Int) : scaN e p true = upQ (e * p) 1000000000 := by
  unfold scaN
  rw [← emod_sub, ratio_I e p (by decide) true]; rfl
/-! ### What the functions return -/
def fitR (e d p : Int) : Prop := 0 ≤ e ∧ e ≤ 1152921504606846976 ∧ 0 ≤ d ∧ d ≤ 1152921504606846976 ∧ 0 ≤ p ∧ p ≤ 1000000
instance (e d p : Int) : Decidable (fitR e d p) := by unfold fitR; infer_instance
instance (e d p : Int) : Decidable (fitP e d p) := by unfold fitP; infer_instance
def fitB (e d p : Int) : Bool := decide (fitR e d p) && decide (fitP e d p)
def inD (d p : Int) : Bool := decide (0 ≤ d ∧ d ≤ 576460752303423488 ∧ 0 ≤ p ∧ p ≤ 1000000)
def elaE (d p : Int) : Int := if inD d p = true then 0 else 4
theorem inD_t {d p : Int} (h : inD d p = true) : 0 ≤ d ∧ d ≤ 576460752303423488 ∧ 0 ≤ p ∧ p ≤ 1000000 := of_decide_eq_true h
theorem inD_d {d p : Int} (h : 0 ≤ d ∧ d ≤ 576460752303423488 ∧ 0 ≤ p ∧ p ≤ 1000000) : inD d p = true := decide_eq_true h
theorem inD_f {d p : Int} (h : ¬ (0 ≤ d ∧ d ≤ 576460752303423488 ∧ 0 ≤ p ∧ p ≤ 1000000)) : inD d p = false := decide_eq_false h
theorem fitB_t {e d p : Int} (h : fitB e d p = true) : fitR e d p ∧ fitP e d p := by
  unfold fitB at h
  rw [Bool.and_eq_true] at h
  exact ⟨of_decide_eq_true h.1, of_decide_eq_true h.2⟩
theorem fitB_d {e d p : Int} (h : fitR e d p) (k : fitP e d p) : fitB e d p = true := by
  unfold fitB; rw [decide_eq_true h, decide_eq_true k]; rfl
theorem fitB_f {e d p : Int} (h : ¬ fitR e d p) : fitB e d p = false := by
  unfold fitB; rw [decide_eq_false h]; rfl
/-- The difference is at most the part, rounded down. -/
theorem fit_sca (e d p : Int) : fitP e d p ↔ d - e ≤ e * p / 1000000000 ∧ e - d ≤ e * p / 1000000000 := by
  rw [fit_iff, dnQ_le (by decide), dnQ_le (by decide)]
  omega
theorem ad_sca (e p : Int) : adA e p = e - upQ (e * p) 1000000000 ∧ adB e p = e + upQ (e * p) 1000000000 := by
  unfold adA adB upQ
  rw [Int.mul_sub, Int.mul_add]
  omega
/-! ### Rate -/
def ratP (e d : Int) (p : Int) : Bool := fitB e d p
def ratR (e d : Int) : Bool := inD e 0 && inD d 0
def ratN (e d : Int) : Int := bisV (ratP e d) 0 1000001
def ratV (e d : Int) : Int := if ratR e d = true then (if ratN e d ≤ 1000000 then ratN e d else 0) else 0
def ratE (e d : Int) : Int := if ratR e d = true then (if ratN e d ≤ 1000000 then 0 else 10) else 4
theorem ratP_mono (e d : Int) : ∀ a b, 0 ≤ a → a ≤ b → b < 1000001 → ratP e d a = true → ratP e d b = true := by
  intro a b h0 h1 h2 h
  obtain ⟨⟨r1, r2, r3, r4, _, _⟩, k⟩ := fitB_t h
  exact fitB_d ⟨r1, r2, r3, r4, by omega, by omega⟩ (fit_mono r1 h1 k)
theorem rat_ok (e d : Int) : 0 ≤ ratN e d ∧ ratN e d ≤ 1000001 ∧ (∀ t, 0 ≤ t → t < ratN e d → ratP e d t = false) ∧ (ratN e d < 1000001 → ratP e d (ratN e d) = true) :=
  (bis_ok (P := ratP e d) (lo := 0) (hi := 1000001) (by decide) (ratP_mono e d)).1
theorem rat_top (e d : Int) : ratN e d ≤ 1000000 ↔ ratP e d 1000000 = true := by
  obtain ⟨h1, h2, h3, h4⟩ := rat_ok e d
  constructor
  · intro h
    exact ratP_mono e d _ _ h1 h (by decide) (h4 (by omega))
  · intro h
    rcases Int.lt_or_le 1000000 (ratN e d) with k | k
    · rw [h3 1000000 (by decide) k] at h; cases h
    · exact k
/-- The search up to the greatest bound. -/
theorem rat_ref {e d : Int} (h : ratP e d 1000000 = true) : bisV (ratP e d) 0 1000000 = ratN e d := by
  have hm := ratP_mono e d
  obtain ⟨a1, a2, a3, a4⟩ := (bis_ok (P := ratP e d) (lo := 0) (hi := 1000000) (by decide) (fun a b h0 h1 h2 => hm a b h0 h1 (by omega))).1
  obtain ⟨b1, b2, b3, b4⟩ := rat_ok e d
  have := (rat_top e d).2 h
  exact least_uniq (P := ratP e d) (lo := 0) (hi := 1000000) a1 a2 a3 a4 b1 this b3 (fun k => b4 (by omega))
end Go.Proofs.Ytjebhdadegfbdaa
