/- Layer 14: eras, as functions of numbers and lists. Pure. Own work. -/
import Derived.Below
set_option linter.unusedVariables false
set_option linter.unusedSimpArgs false
namespace Go.Proofs.Ytjebhdadegfbdaa

/-! ### The spans of a timestamp: its ticks are d, rounded down, and u, rounded up -/
def eraS (d u k : Int) : Int × Int := (k * 4503599627370496 + d, k * 4503599627370496 + u)
/-- The first and the last era that meets a span. -/
def eraA (lo u : Int) : Int := -((u - lo) / 4503599627370496)
def eraB (hi d : Int) : Int := (hi - d) / 4503599627370496
theorem era_meet (d u lo hi k : Int) : ((eraS d u k).1 ≤ hi ∧ lo ≤ (eraS d u k).2) ↔ eraA lo u ≤ k ∧ k ≤ eraB hi d := by
  unfold eraS eraA eraB
  dsimp only
  omega
def unfN (d u lo hi : Int) : Nat := (eraB hi d - eraA lo u + 1).toNat
def unfP (d u lo : Int) (n : Nat) : List (Int × Int) := (List.range n).map fun (i : Nat) => eraS d u (eraA lo u + (i : Int))
def unfL (d u lo hi : Int) : List (Int × Int) := unfP d u lo (unfN d u lo hi)
theorem unfP_len (d u lo : Int) (n : Nat) : (unfP d u lo n).length = n := by unfold unfP; rw [List.length_map, List.length_range]
theorem unfP_succ (d u lo : Int) (n : Nat) : unfP d u lo (n + 1) = unfP d u lo n ++ [eraS d u (eraA lo u + n)] := by
  unfold unfP; rw [List.range_succ, List.map_append]; rfl
theorem unfP_get {d u lo : Int} {n i : Nat} (h : i < n) : (unfP d u lo n)[i]? = some (eraS d u (eraA lo u + i)) := by
  unfold unfP; rw [List.getElem?_map, List.getElem?_range h]; rfl
theorem unf_count {d u lo hi : Int} (h : lo ≤ hi) (h1 : d ≤ u) (h2 : u ≤ d + 1) : (unfN d u lo hi : Int) ≥ (hi - lo) / 4503599627370496 ∧ (unfN d u lo hi : Int) ≤ (hi - lo) / 4503599627370496 + 2 := by
  unfold unfN eraA eraB
  omega
/-- Two parts of a span. -/
theorem unf_parts {d u a c b : Int} (h1 : a ≤ c) (h2 : c ≤ b) (h3 : d ≤ u) (h4 : u ≤ d + 1) :
    (eraB c d < eraA c u ∧ eraB c d + 1 = eraA c u) ∨ (eraA c u = eraB c d) := by
  unfold eraA eraB
  omega
/-- The timestamp of an instant has its ticks. -/
theorem era_only {t lo hi : Int} (h1 : lo ≤ t) (h2 : t ≤ hi) (h3 : hi - lo < 4503599627370496 - 2) : eraA lo (t % 4503599627370496) = t / 4503599627370496 ∧ eraB hi (t % 4503599627370496) = t / 4503599627370496 := by
  unfold eraA eraB
  omega
/-! ### The nearest -/
def farD (t : Int) (p : Int × Int) : Int := max (max (p.1 - t) (t - p.2)) 0
theorem far_eq (t : Int) {p : Int × Int} (h : p.1 ≤ p.2) : farD t p = if t < p.1 then p.1 - t else if p.2 < t then t - p.2 else 0 := by
  unfold farD
  rw [Int.max_def, Int.max_def]
  split <;> split <;> split <;> omega
/-- The era whose span is the nearest to t: of two the earlier one. -/
def nearK (d u t : Int) : Int :=
  if (if (t - d) % 4503599627370496 ≤ u - d then 0 else (t - d) % 4503599627370496 - (u - d)) ≤ 4503599627370496 - (t - d) % 4503599627370496 then (t - d) / 4503599627370496 else (t - d) / 4503599627370496 + 1
theorem near_le {d u t : Int} (h3 : d ≤ u) (h4 : u ≤ d + 1) (k : Int) : farD t (eraS d u (nearK d u t)) ≤ farD t (eraS d u k) ∧ (farD t (eraS d u k) = farD t (eraS d u (nearK d u t)) → nearK d u t ≤ k) := by
  have hle : ∀ k, (eraS d u k).1 ≤ (eraS d u k).2 := fun k => by unfold eraS; dsimp only; omega
  rw [far_eq t (hle _), far_eq t (hle _)]
  unfold nearK eraS
  dsimp only
  have e := Int.emod_add_mul_ediv (t - d) 4503599627370496
  have h1 := Int.emod_nonneg (t - d) (show (4503599627370496 : Int) ≠ 0 by decide)
  have h2 := Int.emod_lt_of_pos (t - d) (show (0 : Int) < 4503599627370496 by decide)
  generalize (t - d) % 4503599627370496 = r at *
  generalize (t - d) / 4503599627370496 = q at *
  rcases Int.lt_trichotomy k q with hk | hk | hk
  · obtain ⟨n, hn⟩ : ∃ n : Int, k = q - 1 - n ∧ 0 ≤ n := ⟨q - 1 - k, by omega, by omega⟩
    rw [hn.1]
    repeat' split
    all_goals omega
  · subst hk
    repeat' split
    all_goals omega
  · obtain ⟨n, hn⟩ : ∃ n : Int, k = q + 1 + n ∧ 0 ≤ n := ⟨k - q - 1, by omega, by omega⟩
    rw [hn.1]
    repeat' split
    all_goals omega
theorem near_in {d u t : Int} (hd : 0 ≤ d) (h2 : d < 4503599627370496) : t / 4503599627370496 - 1 ≤ nearK d u t ∧ nearK d u t ≤ t / 4503599627370496 + 1 := by
  unfold nearK
  split <;> omega
theorem near_half {d u t : Int} (h3 : d ≤ u) (h4 : u ≤ d + 1) : farD t (eraS d u (nearK d u t)) ≤ 2251799813685248 := by
  rw [far_eq t (show (eraS d u (nearK d u t)).1 ≤ (eraS d u (nearK d u t)).2 by unfold eraS; dsimp only; omega)]
  unfold nearK eraS
  dsimp only
  have e := Int.emod_add_mul_ediv (t - d) 4503599627370496
  have h1 := Int.emod_nonneg (t - d) (show (4503599627370496 : Int) ≠ 0 by decide)
  have h2 := Int.emod_lt_of_pos (t - d) (show (0 : Int) < 4503599627370496 by decide)
  generalize (t - d) % 4503599627370496 = r at *
  generalize (t - d) / 4503599627370496 = q at *
  repeat' split
  all_goals omega
theorem near_self (t : Int) : nearK (t % 4503599627370496) (t % 4503599627370496) t = t / 4503599627370496 := by
  unfold nearK
  split <;> split at * <;> omega
/-! ### The best so far, of candidates in order -/
def bestS (d u t : Int) (b : Int) (k : Int) : Int := if farD t (eraS d u k) < farD t (eraS d u b) then k else b
def bestN (d u t a : Int) : Nat → Int
  | 0 => a
  | n + 1 => bestS d u t (bestN d u t a n) (a + (n : Int) + 1)
theorem bestN_ok (d u t a : Int) : ∀ n : Nat, a ≤ bestN d u t a n ∧ bestN d u t a n ≤ a + n ∧ ∀ j, a ≤ j → j ≤ a + n → farD t (eraS d u (bestN d u t a n)) ≤ farD t (eraS d u j) ∧ (farD t (eraS d u j) = farD t (eraS d u (bestN d u t a n)) → bestN d u t a n ≤ j)
  | 0 => by
    refine ⟨Int.le_refl _, by simp [bestN], fun j h1 h2 => ?_⟩
    obtain rfl : j = a := by omega
    exact ⟨Int.le_refl _, fun _ => Int.le_refl _⟩
  | n + 1 => by
    obtain ⟨b1, b2, b3⟩ := bestN_ok d u t a n
    unfold bestN bestS
    have e : ((n + 1 : Nat) : Int) = (n : Int) + 1 := by omega
    rw [e]
    split
    · rename_i hlt
      refine ⟨by omega, by omega, fun j h1 h2 => ?_⟩
      rcases Int.lt_or_le j (a + (n : Int) + 1) with h | h
      · have := (b3 j h1 (by omega)).1
        exact ⟨by omega, fun _ => by omega⟩
      · obtain rfl : j = a + (n : Int) + 1 := by omega
        exact ⟨Int.le_refl _, fun _ => Int.le_refl _⟩
    · rename_i hge
      refine ⟨b1, by omega, fun j h1 h2 => ?_⟩
      rcases Int.lt_or_le j (a + (n : Int) + 1) with h | h
      · exact b3 j h1 (by omega)
      · obtain rfl : j = a + (n : Int) + 1 := by omega
        exact ⟨by omega, fun _ => by omega⟩
theorem best_near {d u t a : Int} {n : Nat} (h3 : d ≤ u) (h4 : u ≤ d + 1) (h1 : a ≤ nearK d u t) (h2 : nearK d u t ≤ a + n) : bestN d u t a n = nearK d u t := by
  obtain ⟨b1, b2, b3⟩ := bestN_ok d u t a n
  obtain ⟨c1, c2⟩ := near_le (t := t) h3 h4 (bestN d u t a n)
  obtain ⟨c3, c4⟩ := b3 _ h1 h2
  have e := Int.le_antisymm c1 c3
  exact Int.le_antisymm (c4 e) (c2 e.symm)
end Go.Proofs.Ytjebhdadegfbdaa
