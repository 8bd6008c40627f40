/- SHA-256 in parts: what the models say of one another. Own work. -/
import Derived.Test.YtakkgbpgobbcmaaDoorPh7
set_option linter.unusedVariables false
set_option linter.unusedSimpArgs false
namespace Go.Proofs.YtakkgbpgobbcmaaDoor
open Go.RowKit

theorem foldB_add (h : List UInt32) (y : List UInt8) (n : Nat) : ∀ m, foldB h y (n + m) = foldB (foldB h y n) (y.drop (64 * n)) m
  | 0 => rfl
  | m + 1 => by
    rw [← Nat.add_assoc, foldB, foldB, foldB_add h y n m, List.drop_drop, ← Nat.mul_add]
theorem foldB_app (h : List UInt32) (x b : List UInt8) : ∀ n, 64 * n ≤ x.length → foldB h (x ++ b) n = foldB h x n
  | 0, _ => rfl
  | n + 1, hn => by
    rw [foldB, foldB, foldB_app h x b n (by omega), List.drop_append_of_le_length (by omega), List.take_append_of_le_length (by rw [List.length_drop]; omega)]
/-- The computation behind the bytes x. -/
def wK (x : List UInt8) : List UInt32 := foldB firstK x (x.length / 64)
def rK (x : List UInt8) : List UInt8 := x.drop (64 * (x.length / 64))
theorem wK_len (x : List UInt8) : (wK x).length = 8 := foldB_len firstK_len _ _
theorem rK_len (x : List UInt8) : (rK x).length = x.length % 64 := by unfold rK; rw [List.length_drop]; omega
theorem validK_at (x : List UInt8) (h : x.length ≤ 1099511627776) : validK (wK x) (rK x) x.length = true := by
  simp only [validK, decide_eq_true_eq]
  have := rK_len x
  exact ⟨wK_len x, by omega, by omega, by omega⟩
theorem moreK_at (x b : List UInt8) (h : x.length + b.length ≤ 1099511627776) : moreK (wK x) (rK x) x.length b = ((wK (x ++ b), rK (x ++ b), ((x ++ b).length : Int)), 0) := by
  rw [moreK_ok (validK_at x (by omega)) (by omega)]
  have hr := rK_len x
  have hn : (x ++ b).length / 64 = x.length / 64 + (rK x ++ b).length / 64 := by
    rw [List.length_append, List.length_append, hr]; omega
  have hd : (x ++ b).drop (64 * (x.length / 64)) = rK x ++ b := by
    unfold rK; rw [List.drop_append_of_le_length (by omega)]
  have e1 : foldB (wK x) (rK x ++ b) ((rK x ++ b).length / 64) = wK (x ++ b) := by
    unfold wK
    rw [hn, foldB_add, hd, foldB_app firstK x b _ (by omega)]
  have e2 : (rK x ++ b).drop (64 * ((rK x ++ b).length / 64)) = rK (x ++ b) := by
    have : rK (x ++ b) = (x ++ b).drop (64 * (x.length / 64 + (rK x ++ b).length / 64)) := by rw [← hn]; rfl
    rw [this, Nat.mul_add, ← List.drop_drop, hd]
  rw [e1, e2, List.length_append]
  simp
theorem endK_at (x : List UInt8) (h : x.length ≤ 1099511627776) : endK (wK x) (rK x) x.length = (sumK x, 0) := by
  rw [endK_ok (validK_at x h)]
  rfl
theorem wK_nil : wK [] = firstK := rfl
theorem rK_nil : rK [] = [] := rfl
theorem chainK_add (b : List UInt8) (n : Nat) : ∀ m, chainK (chainK b n) m = chainK b (n + m)
  | 0 => rfl
  | m + 1 => by rw [chainK, chainK_add b n m, ← Nat.add_assoc, chainK]
theorem sameH_refl (w : List UInt32) (r : List UInt8) (c : Int) : sameH w w r r c c = true := by simp [sameH]
abbrev stD (x : List UInt8) : D := hsD (wK x) (rK x) (x.length : Int)
theorem more_at (G : Glob) (hG : G.at 1 = some (.ra (constK.map wD))) (x b y : List UInt8) (e : x ++ b = y) (h : y.length ≤ 1099511627776) : Den Tryd.prog G 19 [stD x, .sl (b.map bD)] (.tup [.c (.d (stD y)), .c (.d (.int .i64 0))]) := by
  subst e
  rw [List.length_append] at h
  have := more_c G hG (wK x) (rK x) x.length b
  rw [moreK_at x b h] at this
  exact this
theorem end_at (G : Glob) (hG : G.at 1 = some (.ra (constK.map wD))) (x : List UInt8) (h : x.length ≤ 1099511627776) : Den Tryd.prog G 21 [stD x] (.tup [.c (.d (.sl ((sumK x).map bD))), .c (.d (.int .i64 0))]) := by
  have := end_c G hG (wK x) (rK x) x.length
  rw [endK_at x h] at this
  exact this
theorem beg_at (G : Glob) (hF : G.at 0 = some (.ra (firstK.map wD))) : Den Tryd.prog G 26 [] (.w (.c (.d (stD [])))) := beg_c G hF
theorem valid_at (G : Glob) (x : List UInt8) (h : x.length ≤ 1099511627776) : Den Tryd.prog G 23 [stD x] (.w (.c (.d (.bool true)))) := by
  have := valid_c G (wK x) (rK x) x.length
  rw [validK_at x h] at this
  exact this
theorem rss_at (G : Glob) (x : List UInt8) : Den Tryd.prog G 25 [stD x, stD x] (.w (.c (.d (.bool true)))) := by
  have := rss_c G (wK x) (wK x) (rK x) (rK x) x.length x.length (by rw [wK_len]; decide)
  rw [sameH_refl] at this
  exact this
theorem same_self (l : List UInt8) : (l == l) = true := by simp
end Go.Proofs.YtakkgbpgobbcmaaDoor
