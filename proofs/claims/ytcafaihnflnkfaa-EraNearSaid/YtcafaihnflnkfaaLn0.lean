/- The laws of layer 14: the sanity check; what the functions return for the timestamp of an instant. Own work. -/
import Derived.Test.YtcafaihnflnkfaaPg2
import Derived.Test.YtcafaihnflnkfaaAlZ
import Derived.Test.YtcafaihnflnkfaaPw0
import Derived.Test.YtcafaihnflnkfaaPi4
set_option linter.unusedVariables false
set_option linter.unusedSimpArgs false
namespace Go.Proofs.Ytcafaihnflnkfaa
open Go.RowKit

def sf_known14 : SFn := ⟨0, 41,
  .seq (.reg [⟨(some 0), .mv (.k (.c (.d (.bool false)))), none⟩])
  (.seq (.reg [⟨(some 6), .build [(.d (.int .i64 0)), (.d (.int .i64 0))] [(0, 1, (.k (.c (.d (.int .i64 4503599627370491))))), (1, 1, (.k (.c (.d (.int .i64 4503599627370501)))))], none⟩,
    ⟨(some 7), .call 11 [(.t 6), (.k (.c (.d (.int .u64 0))))] none, none⟩,
    ⟨(some 5), .mv (.t 7), none⟩,
    ⟨(some 8), .extract (.t 5) 0, none⟩,
    ⟨(some 9), .extract (.t 5) 1, none⟩,
    ⟨(some 1), .mv (.t 8), none⟩,
    ⟨(some 2), .mv (.t 9), none⟩])
  (.seq (.reg [⟨(some 11), .call 13 [(.k (.c (.d (.int .i64 (-3))))), (.k (.c (.d (.int .u64 4294967296))))] none, none⟩,
    ⟨(some 10), .mv (.t 11), none⟩,
    ⟨(some 12), .extract (.t 10) 0, none⟩,
    ⟨(some 13), .extract (.t 10) 1, none⟩,
    ⟨(some 3), .alloc [(.d (.int .i64 0)), (.d (.int .i64 0))], none⟩,
    ⟨none, .store (.ag 2) (.t 3) (.t 12), none⟩,
    ⟨(some 4), .mv (.t 13), none⟩])
  (.seq (.reg [⟨(some 14), .mv (.t 2), none⟩,
    ⟨(some 15), .bin .eql (.t 14) (.k (.c (.d (.int .i64 0)))), none⟩,
    ⟨(some 16), .mv (.t 15), none⟩,
    ⟨(some 17), .mv (.t 4), (some (16, true))⟩,
    ⟨(some 18), .bin .eql (.t 17) (.k (.c (.d (.int .i64 0)))), (some (16, true))⟩,
    ⟨(some 19), .pick (.t 16) (.t 18) (.k (.c (.d (.bool false)))), none⟩,
    ⟨(some 20), .mv (.t 19), none⟩,
    ⟨(some 21), .mv (.t 1), (some (20, true))⟩,
    ⟨(some 22), .len (.t 21), (some (20, true))⟩,
    ⟨(some 23), .bin .eql (.t 22) (.k (.c (.d (.int .i64 1)))), (some (20, true))⟩,
    ⟨(some 24), .pick (.t 20) (.t 23) (.k (.c (.d (.bool false)))), none⟩,
    ⟨(some 25), .mv (.t 24), none⟩,
    ⟨(some 26), .mv (.t 1), (some (25, true))⟩,
    ⟨(some 27), .idxSl 2 (.t 26) (.k (.c (.d (.int .i64 0)))), (some (25, true))⟩,
    ⟨(some 28), .load (.ag 2) (.t 27), (some (25, true))⟩,
    ⟨(some 29), .build [(.d (.int .i64 0)), (.d (.int .i64 0))] [(0, 1, (.k (.c (.d (.int .i64 4503599627370496))))), (1, 1, (.k (.c (.d (.int .i64 4503599627370496)))))], (some (25, true))⟩,
    ⟨(some 30), .eqA false [0, 0] (.t 28) (.t 29), (some (25, true))⟩,
    ⟨(some 31), .pick (.t 25) (.t 30) (.k (.c (.d (.bool false)))), none⟩,
    ⟨(some 32), .mv (.t 31), none⟩,
    ⟨(some 33), .load (.ag 2) (.t 3), (some (32, true))⟩,
    ⟨(some 34), .build [(.d (.int .i64 0)), (.d (.int .i64 0))] [(0, 1, (.k (.c (.d (.int .i64 1048576))))), (1, 1, (.k (.c (.d (.int .i64 1048576)))))], (some (32, true))⟩,
    ⟨(some 35), .eqA false [0, 0] (.t 33) (.t 34), (some (32, true))⟩,
    ⟨(some 36), .pick (.t 32) (.t 35) (.k (.c (.d (.bool false)))), none⟩,
    ⟨(some 37), .mv (.t 36), none⟩,
    ⟨(some 38), .call 14 [(.k (.c (.d (.int .u64 1)))), (.k (.c (.d (.int .u64 2))))] none, (some (37, true))⟩,
    ⟨(some 39), .bin .eql (.t 38) (.k (.c (.d (.int .i64 (-1))))), (some (37, true))⟩,
    ⟨(some 40), .pick (.t 37) (.t 39) (.k (.c (.d (.bool false)))), none⟩,
    ⟨(some 0), .mv (.t 40), none⟩])
  (.ret)))),
  [(0, none)]⟩
theorem cf_known14 : compFn Try.prog { own := [], comp := [], frz := [], nils := [] } Try.f12 = some sf_known14 := by kernel_rfl
theorem known14_c (G : Glob) : Den Try.prog G 12 [] (.w (.c (.d (.bool true)))) := by
  refine den_walk Try.func12 cf_known14 rfl rfl ?_
  have c1 := gunf_c G 4503599627370491 4503599627370501 0 (by decide) (by decide)
  rw [show unfW (0 / 4096) (upV 0) 4503599627370491 4503599627370501 = [(4503599627370496, 4503599627370496)] by decide +kernel, show unfE (0 / 4096) (upV 0) 4503599627370491 4503599627370501 = 0 by decide +kernel] at c1
  have c2 := gner_c G (-3) 4294967296 (by decide) (by decide)
  rw [show nerB (-3) = true by decide, show nearK (4294967296 / 4096) (upV 4294967296) (-3) = 0 by decide +kernel, show nerE (-3) = 0 by decide, show upV 4294967296 = 1048576 by decide] at c2
  have c3 := gahe_c G 1 2
  rw [show IntKind.i64.wrap (IntKind.u64.wrap (1 - 2)) = -1 by decide +kernel] at c3
  simp only [List.map_cons, List.map_nil, spD] at c1
  simp only [sf_known14, putAll, wx, wy, wz, stV, seval, IntWalk.iteOmega, IntWalk.toNatUp, reduceCtorEq]
  refine st_call (c1) rfl (.inl rfl) ?_
  simp only [wx, wy, wz, stV, seval, IntWalk.iteOmega, IntWalk.toNatUp, reduceCtorEq]
  refine st_call (c2) rfl (.inl rfl) ?_
  simp only [spA, wx, wy, wz, stV, seval, IntWalk.iteOmega, IntWalk.toNatUp, reduceCtorEq]
  refine st_call (c3) rfl (.inl rfl) ?_
  simp only [wx, wy, wz, stV, seval, IntWalk.iteOmega, IntWalk.toNatUp, reduceCtorEq]
  exact ret_d1 (by simp only [wx, wy, wz, stV, seval, IntWalk.iteOmega, IntWalk.toNatUp, reduceCtorEq])
/-! ### The timestamp of an instant -/
theorem onl_at {t lo hi : Int} (h1 : lo ≤ t) (h2 : t ≤ hi) (h3 : hi - lo < 4503599627370496 - 2) (h4 : -1152921504606846976 ≤ lo) (h5 : hi ≤ 1152921504606846976) :
    okP (lo, hi) = true ∧ unfN (t % 4503599627370496) (t % 4503599627370496) lo hi = 1 ∧ eraA lo (t % 4503599627370496) * 4503599627370496 + t % 4503599627370496 = t := by
  obtain ⟨a, b⟩ := era_only h1 h2 h3
  obtain ⟨n, _⟩ := unfN_i (d := t % 4503599627370496) (u := t % 4503599627370496) (Int.le_trans h1 h2) (Int.le_refl _) (by omega)
  exact ⟨okP_d ⟨h4, h5, by omega⟩, by omega, by rw [a]; omega⟩
theorem near_at {t : Int} : nearK (t % 4503599627370496) (t % 4503599627370496) t * 4503599627370496 + t % 4503599627370496 = t := by
  rw [near_self]; omega
end Go.Proofs.Ytcafaihnflnkfaa
