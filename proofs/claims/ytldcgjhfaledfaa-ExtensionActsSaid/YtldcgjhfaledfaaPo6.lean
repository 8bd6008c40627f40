/- Layer 1 on data: a number in so many bytes, at most 64. Own work. -/
import Derived.Test.YtldcgjhfaledfaaAlW
import Derived.Test.YtldcgjhfaledfaaPp0
set_option linter.unusedVariables false
set_option linter.unusedSimpArgs false
namespace Go.Proofs.Ytldcgjhfaledfaa
open Go.RowKit

theorem putk_c (G : Glob) (v : Nat) (k : Int) (hk : 0 ≤ k ∧ k ≤ 64) : Den Try.prog G 40 [.int .u64 (v : Int), .int .i64 k] (.w (.c (.fr 1 ((putL v k.toNat).map bD)))) := by
  have c := put_c G v k
  rw [show putN v k = putL v k.toNat from if_pos hk] at c
  exact c
theorem rputk_c (G : Glob) (v : Nat) (k : Int) (hk : 0 ≤ k ∧ k ≤ 64) : Den Try.prog G 30 [.int .u64 (v : Int), .int .i64 k] (.w (.c (.fr 1 ((putL v k.toNat).map bD)))) := by
  have c := rput_c G v k
  rw [show putN v k = putL v k.toNat from if_pos hk] at c
  exact c
end Go.Proofs.Ytldcgjhfaledfaa
