/- The laws of layer 12: there and back; numbers; offsets. Own work. -/
import Derived.Test.YtibpaciljnfpmaaAlV
import Derived.Test.YtibpaciljnfpmaaLl0
set_option linter.unusedVariables false
set_option linter.unusedSimpArgs false
namespace Go.Proofs.Ytibpaciljnfpmaa
open Go.RowKit

theorem rd_ex {f : Int} {l : List Lp} (h : okB f l = true) {T : Int} (h1 : 512 ≤ T) (h2 : T ≤ 137438953472) : ∃ s b, IsR f l T s b ∧ 300 ≤ s ∧ s ≤ 137438953600 := by
  obtain ⟨s, b, h3, h4⟩ := isR_ex h T
  have o := off_in h s
  have t := h4
  unfold taiS taiN bI at t
  have hs : 300 ≤ s ∧ s ≤ 137438953600 := by cases b <;> simp at t <;> omega
  exact ⟨s, b, ⟨sec_t (by omega), h3, h4⟩, hs⟩
/-- The next second of TAI is shown later. -/
theorem rd_next {f : Int} {l : List Lp} (h : okB f l = true) {T s s' : Int} {b b' : Bool} (k : IsR f l T s b) (k' : IsR f l (T + 1) s' b') : s < s' ∨ (s' = s ∧ b = false ∧ b' = true) := by
  obtain ⟨a1, a2⟩ := isR_at h k
  obtain ⟨c1, c2⟩ := isR_at h k'
  rcases Int.lt_trichotomy s s' with e | e | e
  · exact .inl e
  · subst e
    right
    have t := k.tai
    have t' := k'.tai
    unfold taiS bI at t t'
    refine ⟨rfl, ?_⟩
    cases b <;> cases b' <;> simp at t t' ⊢ <;> omega
  · have := tai_mono (okB_leap h) (show s' + 1 ≤ s by omega); omega
theorem wl_el (tb : List Int) : elmB (wlT tb) := by
  intro i hi
  have hk : wlK tb ≤ 4 := Nat.min_le_left _ _
  unfold wlT at hi ⊢
  rw [wlL_len] at hi
  rw [wlL_g tb _ i hi]
  have a := wlA_b tb (i + 1)
  have o := wlO_b tb (i + 1)
  simp only
  omega
theorem wl_len (tb : List Int) : (wlT tb).length ≤ 4 := by
  unfold wlT; rw [wlL_len]; exact Nat.min_le_left _ _
end Go.Proofs.Ytibpaciljnfpmaa
