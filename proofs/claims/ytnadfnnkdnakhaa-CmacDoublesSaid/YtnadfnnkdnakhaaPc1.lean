/- Layer 4: the cipher as a function of lists; different blocks have different encryptions. Own work. -/
import Derived.Test.YtnadfnnkdnakhaaPc0
set_option linter.unusedVariables false
set_option linter.unusedSimpArgs false
namespace Go.Proofs.Ytnadfnnkdnakhaa
open Go.RowKit

instance : Std.Associative xorB := ⟨xorB_assoc⟩
instance : Std.Commutative xorB := ⟨xorB_comm⟩
def twB (x : UInt8) : UInt8 := timesK x 2
theorem twB_lin : linB twB := times_lin1 2
/-! ### A column -/
def mix4 (a b c d : UInt8) : UInt8 := xorB (xorB (xorB (xorB (twB a) (twB b)) b) c) d
def unmix4 (a b c d : UInt8) : UInt8 := xorB (xorB (xorB (timesK 14 a) (timesK 11 b)) (timesK 13 c)) (timesK 9 d)
theorem unmix_mix (a b c d : UInt8) : unmix4 (mix4 a b c d) (mix4 b c d a) (mix4 c d a b) (mix4 d a b c) = a := by
  have h : ∀ k x y, timesK k (xorB x y) = xorB (timesK k x) (timesK k y) := fun k => times_lin2 k
  have ha : ∀ a, xorB (xorB (xorB (xorB (timesK 14 (twB a)) (timesK 11 a)) (timesK 13 a)) (timesK 9 (twB a))) (timesK 9 a) = a := fun a => by
    have := all_b (p := fun a => xorB (xorB (xorB (xorB (timesK 14 (twB a)) (timesK 11 a)) (timesK 13 a)) (timesK 9 (twB a))) (timesK 9 a) == a) (by decide +kernel) a
    simpa using this
  have hb : ∀ a, xorB (xorB (xorB (xorB (timesK 14 (twB a)) (timesK 14 a)) (timesK 11 (twB a))) (timesK 13 a)) (timesK 9 a) = 0 := fun a => by
    have := all_b (p := fun a => xorB (xorB (xorB (xorB (timesK 14 (twB a)) (timesK 14 a)) (timesK 11 (twB a))) (timesK 13 a)) (timesK 9 a) == 0) (by decide +kernel) a
    simpa using this
  have hc : ∀ a, xorB (xorB (xorB (xorB (timesK 14 a) (timesK 11 (twB a))) (timesK 11 a)) (timesK 13 (twB a))) (timesK 9 a) = 0 := fun a => by
    have := all_b (p := fun a => xorB (xorB (xorB (xorB (timesK 14 a) (timesK 11 (twB a))) (timesK 11 a)) (timesK 13 (twB a))) (timesK 9 a) == 0) (by decide +kernel) a
    simpa using this
  have hd : ∀ a, xorB (xorB (xorB (xorB (timesK 14 a) (timesK 11 a)) (timesK 13 (twB a))) (timesK 13 a)) (timesK 9 (twB a)) = 0 := fun a => by
    have := all_b (p := fun a => xorB (xorB (xorB (xorB (timesK 14 a) (timesK 11 a)) (timesK 13 (twB a))) (timesK 13 a)) (timesK 9 (twB a)) == 0) (by decide +kernel) a
    simpa using this
  have e : unmix4 (mix4 a b c d) (mix4 b c d a) (mix4 c d a b) (mix4 d a b c) = xorB (xorB (xorB (xorB (xorB (xorB (xorB (timesK 14 (twB a)) (timesK 11 a)) (timesK 13 a)) (timesK 9 (twB a))) (timesK 9 a)) (xorB (xorB (xorB (xorB (timesK 14 (twB b)) (timesK 14 b)) (timesK 11 (twB b))) (timesK 13 b)) (timesK 9 b))) (xorB (xorB (xorB (xorB (timesK 14 c) (timesK 11 (twB c))) (timesK 11 c)) (timesK 13 (twB c))) (timesK 9 c))) (xorB (xorB (xorB (xorB (timesK 14 d) (timesK 11 d)) (timesK 13 (twB d))) (timesK 13 d)) (timesK 9 (twB d))) := by
    unfold unmix4 mix4
    simp only [h]
    ac_rfl
  rw [e, ha, hb, hc, hd, xorB_zero, xorB_zero, xorB_zero]
theorem mix_inj {a b c d a' b' c' d' : UInt8} (h0 : mix4 a b c d = mix4 a' b' c' d') (h1 : mix4 b c d a = mix4 b' c' d' a') (h2 : mix4 c d a b = mix4 c' d' a' b') (h3 : mix4 d a b c = mix4 d' a' b' c') : a = a' := by
  rw [← unmix_mix a b c d, h0, h1, h2, h3, unmix_mix]

/-! ### Blocks of 16 bytes, as functions of the place -/
abbrev B16 := Nat → UInt8
def addF (s k : B16) : B16 := fun j => xorB (s j) (k j)
def shiftF (s : B16) : B16 := fun j => subK (s (j % 4 + 4 * ((j / 4 + j % 4) % 4)))
def mixF (t : B16) : B16 := fun j => mix4 (t (4 * (j / 4) + j % 4)) (t (4 * (j / 4) + (j % 4 + 1) % 4)) (t (4 * (j / 4) + (j % 4 + 2) % 4)) (t (4 * (j / 4) + (j % 4 + 3) % 4))
def sameF (s t : B16) : Prop := ∀ j, j < 16 → s j = t j
theorem addF_inj {s t k : B16} (h : sameF (addF s k) (addF t k)) : sameF s t := by
  intro j hj
  have := h j hj
  unfold addF at this
  rw [← xorB_zero (s j), ← xorB_self (k j), ← xorB_assoc, this, xorB_assoc, xorB_self, xorB_zero]
theorem lt16 {p : Nat → Prop} (h : p 0 ∧ p 1 ∧ p 2 ∧ p 3 ∧ p 4 ∧ p 5 ∧ p 6 ∧ p 7 ∧ p 8 ∧ p 9 ∧ p 10 ∧ p 11 ∧ p 12 ∧ p 13 ∧ p 14 ∧ p 15) : ∀ j, j < 16 → p j := by
  obtain ⟨h0, h1, h2, h3, h4, h5, h6, h7, h8, h9, h10, h11, h12, h13, h14, h15⟩ := h
  intro j hj
  rcases j with _ | _ | _ | _ | _ | _ | _ | _ | _ | _ | _ | _ | _ | _ | _ | _ | j <;> first | assumption | omega
theorem shiftF_inj {s t : B16} (h : sameF (shiftF s) (shiftF t)) : sameF s t := by
  have g : ∀ j, j < 16 → s (j % 4 + 4 * ((j / 4 + j % 4) % 4)) = t (j % 4 + 4 * ((j / 4 + j % 4) % 4)) := fun j hj => sub_inj (h j hj)
  exact lt16 ⟨g 0 (by decide), g 13 (by decide), g 10 (by decide), g 7 (by decide), g 4 (by decide), g 1 (by decide), g 14 (by decide), g 11 (by decide), g 8 (by decide), g 5 (by decide), g 2 (by decide), g 15 (by decide), g 12 (by decide), g 9 (by decide), g 6 (by decide), g 3 (by decide)⟩
theorem mixF_inj {s t : B16} (h : sameF (mixF s) (mixF t)) : sameF s t := by
  have g := fun j hj => h j hj
  unfold mixF at g
  exact lt16 ⟨mix_inj (g 0 (by decide)) (g 1 (by decide)) (g 2 (by decide)) (g 3 (by decide)), mix_inj (g 1 (by decide)) (g 2 (by decide)) (g 3 (by decide)) (g 0 (by decide)), mix_inj (g 2 (by decide)) (g 3 (by decide)) (g 0 (by decide)) (g 1 (by decide)), mix_inj (g 3 (by decide)) (g 0 (by decide)) (g 1 (by decide)) (g 2 (by decide)),
    mix_inj (g 4 (by decide)) (g 5 (by decide)) (g 6 (by decide)) (g 7 (by decide)), mix_inj (g 5 (by decide)) (g 6 (by decide)) (g 7 (by decide)) (g 4 (by decide)), mix_inj (g 6 (by decide)) (g 7 (by decide)) (g 4 (by decide)) (g 5 (by decide)), mix_inj (g 7 (by decide)) (g 4 (by decide)) (g 5 (by decide)) (g 6 (by decide)),
    mix_inj (g 8 (by decide)) (g 9 (by decide)) (g 10 (by decide)) (g 11 (by decide)), mix_inj (g 9 (by decide)) (g 10 (by decide)) (g 11 (by decide)) (g 8 (by decide)), mix_inj (g 10 (by decide)) (g 11 (by decide)) (g 8 (by decide)) (g 9 (by decide)), mix_inj (g 11 (by decide)) (g 8 (by decide)) (g 9 (by decide)) (g 10 (by decide)),
    mix_inj (g 12 (by decide)) (g 13 (by decide)) (g 14 (by decide)) (g 15 (by decide)), mix_inj (g 13 (by decide)) (g 14 (by decide)) (g 15 (by decide)) (g 12 (by decide)), mix_inj (g 14 (by decide)) (g 15 (by decide)) (g 12 (by decide)) (g 13 (by decide)), mix_inj (g 15 (by decide)) (g 12 (by decide)) (g 13 (by decide)) (g 14 (by decide))⟩
/-- The state behind round n; k n: the n-th round key. -/
def roundF (k : Nat → B16) (s : B16) (n : Nat) : B16 := if n < 10 then addF (mixF (shiftF s)) (k n) else addF (shiftF s) (k n)
def encF (k : Nat → B16) (s : B16) : Nat → B16
  | 0 => addF s (k 0)
  | n + 1 => roundF k (encF k s n) (n + 1)
theorem roundF_inj {k : Nat → B16} {s t : B16} {n : Nat} (h : sameF (roundF k s n) (roundF k t n)) : sameF s t := by
  unfold roundF at h
  split at h
  · exact shiftF_inj (mixF_inj (addF_inj h))
  · exact shiftF_inj (addF_inj h)
theorem encF_inj {k : Nat → B16} {s t : B16} : ∀ {n}, sameF (encF k s n) (encF k t n) → sameF s t
  | 0, h => addF_inj h
  | n + 1, h => encF_inj (n := n) (roundF_inj h)
end Go.Proofs.Ytnadfnnkdnakhaa
