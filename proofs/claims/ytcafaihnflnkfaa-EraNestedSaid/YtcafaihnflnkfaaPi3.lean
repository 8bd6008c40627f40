/- Layer 11 on data: spans: the reference, for one span and two. Own work. -/
import Derived.Test.YtcafaihnflnkfaaPr1
import Derived.Test.YtcafaihnflnkfaaPi2
set_option linter.unusedVariables false
set_option linter.unusedSimpArgs false
namespace Go.Proofs.Ytcafaihnflnkfaa
open Go.RowKit

theorem okP_v (a b : Int) : okP (a, b) = (valT a && valT b && decide (a ≤ b)) := by
  unfold okP valT
  rw [← Bool.decide_and, ← Bool.decide_and]
  apply decide_eq_decide.2
  omega
theorem okP_i {a b : Int} (h : okP (a, b) = true) : -1152921504606846976 ≤ a ∧ b ≤ 1152921504606846976 ∧ a ≤ b := okP_t h
theorem okP_f {a b : Int} (h : okP (a, b) = false) : ¬ (-1152921504606846976 ≤ a ∧ b ≤ 1152921504606846976 ∧ a ≤ b) := of_decide_eq_false h
theorem okP_d {a b : Int} (h : -1152921504606846976 ≤ a ∧ b ≤ 1152921504606846976 ∧ a ≤ b) : okP (a, b) = true := decide_eq_true h
theorem okP_n {a b : Int} (h : ¬ (-1152921504606846976 ≤ a ∧ b ≤ 1152921504606846976 ∧ a ≤ b)) : okP (a, b) = false := decide_eq_false h
/-! ### Holds, Inside, Width, Middle -/
def hldB (a b t : Int) : Bool := okP (a, b) && decide (a ≤ t ∧ t ≤ b)
def insB (a b c d : Int) : Bool := okP (a, b) && okP (c, d) && decide (c ≤ a ∧ b ≤ d)
def widV (a b : Int) : Int := if okP (a, b) = true then b - a else 0
def midV (a b : Int) : Int := if okP (a, b) = true then (a + b) / 2 else 0
/-! ### Meet, Hull -/
theorem max2 (a c : Int) : [c].foldl (fun x y => if y > x then y else x) a = max a c := by
  simp only [List.foldl_cons, List.foldl_nil]
  rw [Int.max_def]; split <;> split <;> omega
theorem min2 (a c : Int) : [c].foldl (fun x y => if y < x then y else x) a = min a c := by
  simp only [List.foldl_cons, List.foldl_nil]
  rw [Int.min_def]; split <;> split <;> omega
def spA (k : Bool) (x y : Int) : D := .agg [.int .i64 (if k = true then x else 0), .int .i64 (if k = true then y else 0)]
def mtB (a b c d : Int) : Bool := meetB (a, b) (c, d)
def hulB (a b c d : Int) : Bool := okP (a, b) && okP (c, d)
/-! ### Sums -/
/-- A span made of sums, if two spans are valid. -/
def smsB (a b c d x y : Int) : Bool := okP (a, b) && okP (c, d) && okP (x, y)
def sumE (a b c d x y : Int) : Int := if (okP (a, b) && okP (c, d)) = true then (if okP (x, y) = true then 0 else 4) else 3
def shfB (a b d : Int) : Bool := okP (a, b) && valT d && okP (a + d, b + d)
def shfE (a b d : Int) : Int := if okP (a, b) = true then (if (valT d && okP (a + d, b + d)) = true then 0 else 4) else 3
def groK (x y : Int) : Bool := decide (0 ≤ x ∧ x ≤ 1152921504606846976 ∧ 0 ≤ y ∧ y ≤ 1152921504606846976)
def groB (a b x y : Int) : Bool := okP (a, b) && groK x y && okP (a - x, b + y)
def groE (a b x y : Int) : Int := if okP (a, b) = true then (if (groK x y && okP (a - x, b + y)) = true then 0 else 4) else 3
end Go.Proofs.Ytcafaihnflnkfaa
