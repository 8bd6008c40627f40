/- Loops that go on while a condition holds; search by halving. Pure. Own work. -/
import Derived.Below
set_option linter.unusedVariables false
set_option linter.unusedSimpArgs false
namespace Go.Proofs.Ytjebhdadegfbdaa

/-! ### While -/
section
variable {α : Type}
def itN (S : α → α) (a : α) : Nat → α
  | 0 => a
  | k + 1 => S (itN S a k)
def itE (c : α → Bool) (S : α → α) (a : α) : Nat → Nat → Nat
  | 0, k => k
  | n + 1, k => if c (itN S a k) = true then itE c S a n (k + 1) else k
theorem itN_inv {c : α → Bool} {S : α → α} {I : α → Prop} (hS : ∀ x, I x → c x = true → I (S x)) {a : α} (h : I a) : ∀ k, (∀ i, i < k → c (itN S a i) = true) → I (itN S a k)
  | 0, _ => h
  | k + 1, hk => hS _ (itN_inv hS h k fun i hi => hk i (by omega)) (hk k (by omega))
theorem itE_end {c : α → Bool} {S : α → α} {I : α → Prop} (m : α → Nat) (hS : ∀ x, I x → c x = true → I (S x)) (hm : ∀ x, I x → c x = true → m (S x) < m x) (h0 : ∀ x, I x → m x = 0 → c x = false) {a : α} (h : I a) :
    ∀ n k, (∀ i, i < k → c (itN S a i) = true) → m (itN S a k) ≤ n → c (itN S a (itE c S a n k)) = false ∧ ∀ i, i < itE c S a n k → c (itN S a i) = true
  | 0, k, hk, hn => ⟨h0 _ (itN_inv hS h k hk) (Nat.le_zero.1 hn), hk⟩
  | n + 1, k, hk, hn => by
    unfold itE
    by_cases hc : c (itN S a k) = true
    · rw [if_pos hc]
      have hk' : ∀ i, i < k + 1 → c (itN S a i) = true := fun i hi => by
        rcases Nat.lt_or_ge i k with h | h
        · exact hk i h
        · rw [show i = k by omega]; exact hc
      have := hm _ (itN_inv hS h k hk) hc
      exact itE_end m hS hm h0 h n (k + 1) hk' (by show m (S (itN S a k)) ≤ n; omega)
    · rw [if_neg hc]
      exact ⟨by cases hh : c (itN S a k) with | false => rfl | true => exact absurd hh hc, hk⟩
/-- How many rounds there are, and what is there behind them. -/
def whE (c : α → Bool) (S : α → α) (m : α → Nat) (a : α) : Nat := itE c S a (m a) 0
def whV (c : α → Bool) (S : α → α) (m : α → Nat) (a : α) : α := itN S a (whE c S m a)
theorem wh_end {c : α → Bool} {S : α → α} {I : α → Prop} (m : α → Nat) (hS : ∀ x, I x → c x = true → I (S x)) (hm : ∀ x, I x → c x = true → m (S x) < m x) (h0 : ∀ x, I x → m x = 0 → c x = false) {a : α} (h : I a) :
    c (whV c S m a) = false ∧ I (whV c S m a) ∧ ∀ i, i < whE c S m a → c (itN S a i) = true ∧ I (itN S a i) := by
  obtain ⟨h1, h2⟩ := itE_end m hS hm h0 h (m a) 0 (fun i hi => by omega) (Nat.le_refl _)
  exact ⟨h1, itN_inv hS h _ h2, fun i hi => ⟨h2 i hi, itN_inv hS h i fun j hj => h2 j (Nat.lt_trans hj hi)⟩⟩
end
/-! ### Search by halving: the least number from lo on that has a property (hi, if there is none) -/
def bisC (s : Int × Int) : Bool := decide (s.1 < s.2)
def bisS (P : Int → Bool) (s : Int × Int) : Int × Int := if P ((s.1 + s.2) / 2) = true then (s.1, (s.1 + s.2) / 2) else ((s.1 + s.2) / 2 + 1, s.2)
def bisM (s : Int × Int) : Nat := (s.2 - s.1).toNat
structure BisI (P : Int → Bool) (lo hi : Int) (s : Int × Int) : Prop where
  a : lo ≤ s.1
  b : s.1 ≤ s.2
  c : s.2 ≤ hi
  no : ∀ t, lo ≤ t → t < s.1 → P t = false
  yes : s.2 < hi → P s.2 = true
def bisE (P : Int → Bool) (lo hi : Int) : Nat := whE bisC (bisS P) bisM (lo, hi)
def bisV (P : Int → Bool) (lo hi : Int) : Int := (whV bisC (bisS P) bisM (lo, hi)).1
def bisK (P : Int → Bool) (lo hi : Int) (k : Nat) : Int × Int := itN (bisS P) (lo, hi) k
theorem bis_ok {P : Int → Bool} {lo hi : Int} (h : lo ≤ hi) (hP : ∀ a b, lo ≤ a → a ≤ b → b < hi → P a = true → P b = true) :
    (lo ≤ bisV P lo hi ∧ bisV P lo hi ≤ hi ∧ (∀ t, lo ≤ t → t < bisV P lo hi → P t = false) ∧ (bisV P lo hi < hi → P (bisV P lo hi) = true)) ∧
    (bisK P lo hi (bisE P lo hi)).1 = bisV P lo hi ∧ ¬ (bisK P lo hi (bisE P lo hi)).1 < (bisK P lo hi (bisE P lo hi)).2 ∧
    ∀ i, i < bisE P lo hi → (bisK P lo hi i).1 < (bisK P lo hi i).2 ∧ lo ≤ (bisK P lo hi i).1 ∧ (bisK P lo hi i).2 ≤ hi := by
  obtain ⟨h1, h2, h3⟩ := wh_end (c := bisC) (S := bisS P) (I := BisI P lo hi) bisM (fun x hx hc => by
      have hlt : x.1 < x.2 := of_decide_eq_true hc
      obtain ⟨k1, k2, k3, k4, k5⟩ := hx
      unfold bisS
      by_cases hp : P ((x.1 + x.2) / 2) = true
      · rw [if_pos hp]
        exact ⟨k1, by dsimp only; omega, by dsimp only; omega, k4, fun _ => hp⟩
      · rw [if_neg hp]
        refine ⟨by dsimp only; omega, by dsimp only; omega, k3, fun t h1 h2 => ?_, k5⟩
        dsimp only at h2
        cases ht : P t with
        | false => rfl
        | true => exact absurd (hP t _ h1 (show t ≤ (x.1 + x.2) / 2 by omega) (by omega) ht) hp)
    (fun x hx hc => by
      have hlt : x.1 < x.2 := of_decide_eq_true hc
      unfold bisS bisM
      split <;> dsimp only <;> omega)
    (fun x hx h0 => decide_eq_false (by have := hx.b; unfold bisM at h0; omega)) (a := (lo, hi)) ⟨Int.le_refl _, h, Int.le_refl _, fun t h1 h2 => by dsimp only at h2; omega, fun h => by dsimp only at h; omega⟩
  have he : ¬ (whV bisC (bisS P) bisM (lo, hi)).1 < (whV bisC (bisS P) bisM (lo, hi)).2 := of_decide_eq_false h1
  have hb := h2.b
  have heq : (whV bisC (bisS P) bisM (lo, hi)).1 = (whV bisC (bisS P) bisM (lo, hi)).2 := by omega
  refine ⟨⟨h2.a, by unfold bisV; have := h2.c; omega, h2.no, fun h => ?_⟩, rfl, he, fun i hi => ?_⟩
  · unfold bisV at h ⊢
    rw [heq] at h ⊢
    exact h2.yes h
  · obtain ⟨a1, a2⟩ := h3 i hi
    exact ⟨of_decide_eq_true a1, a2.a, a2.c⟩
/-- Only one number is the least. -/
theorem least_uniq {P : Int → Bool} {lo hi a b : Int} (a1 : lo ≤ a) (a2 : a ≤ hi) (a3 : ∀ t, lo ≤ t → t < a → P t = false) (a4 : a < hi → P a = true) (b1 : lo ≤ b) (b2 : b ≤ hi) (b3 : ∀ t, lo ≤ t → t < b → P t = false) (b4 : b < hi → P b = true) : a = b := by
  rcases Int.lt_trichotomy a b with h | h | h
  · have := b3 a a1 h
    rw [a4 (by omega)] at this; cases this
  · exact h
  · have := a3 b b1 h
    rw [b4 (by omega)] at this; cases this
end Go.Proofs.Ytjebhdadegfbdaa
