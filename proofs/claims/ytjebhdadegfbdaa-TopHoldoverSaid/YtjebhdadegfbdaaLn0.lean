/- The laws of layer 14: the sanity check; what the functions return for the timestamp of an instant. Own work. -/
import Derived.Test.YtjebhdadegfbdaaPg2
import Derived.Test.YtjebhdadegfbdaaAlZ
import Derived.Test.YtjebhdadegfbdaaPw0
import Derived.Test.YtjebhdadegfbdaaPi4
set_option linter.unusedVariables false
set_option linter.unusedSimpArgs false
namespace Go.Proofs.Ytjebhdadegfbdaa
open Go.RowKit

/-! ### The timestamp of an instant -/
theorem onl_at {t lo hi : Int} (h1 : lo ≤ t) (h2 : t ≤ hi) (h3 : hi - lo < 4503599627370496 - 2) (h4 : -1152921504606846976 ≤ lo) (h5 : hi ≤ 1152921504606846976) :
    okP (lo, hi) = true ∧ unfN (t % 4503599627370496) (t % 4503599627370496) lo hi = 1 ∧ eraA lo (t % 4503599627370496) * 4503599627370496 + t % 4503599627370496 = t := by
  obtain ⟨a, b⟩ := era_only h1 h2 h3
  obtain ⟨n, _⟩ := unfN_i (d := t % 4503599627370496) (u := t % 4503599627370496) (Int.le_trans h1 h2) (Int.le_refl _) (by omega)
  exact ⟨okP_d ⟨h4, h5, by omega⟩, by omega, by rw [a]; omega⟩
theorem near_at {t : Int} : nearK (t % 4503599627370496) (t % 4503599627370496) t * 4503599627370496 + t % 4503599627370496 = t := by
  rw [near_self]; omega
end Go.Proofs.Ytjebhdadegfbdaa
