/- world.Within on data: a number within bounds. Own work. -/
import Derived.Test.YtldcgjhfaledfaaProg
import Derived.Test.YtldcgjhfaledfaaAlW
set_option linter.unusedVariables false
set_option linter.unusedSimpArgs false
namespace Go.Proofs.Ytldcgjhfaledfaa
open Go.RowKit

def withinN (v m : Int) : Int := if m < 1 then 0 else v % m
theorem withinN_range (v m : Int) (h : 1 ≤ m) : 0 ≤ withinN v m ∧ withinN v m < m := by
  unfold withinN
  rw [if_neg (by omega)]
  exact ⟨Int.emod_nonneg _ (by omega), Int.emod_lt_of_pos _ (by omega)⟩
theorem tmod_neg {v m : Int} (hm : 0 < m) (h : v.tmod m < 0) : v.tmod m + m = v % m := by
  have h1 := Int.emod_add_mul_ediv v m
  have h2 := Int.tmod_add_mul_tdiv v m
  have h3 := Int.emod_nonneg v (show m ≠ 0 by omega)
  have h4 := Int.emod_lt_of_pos v hm
  have h5 := Int.lt_tmod_of_pos v hm
  have e : m * (v.tdiv m - v / m) = v % m - v.tmod m := by rw [Int.mul_sub]; omega
  have k1 : v.tdiv m - v / m = 1 := by
    rcases Int.lt_trichotomy (v.tdiv m - v / m) 1 with hlt | heq | hgt
    · exfalso
      have : v.tdiv m - v / m ≤ 0 := by omega
      have := Int.mul_le_mul_of_nonneg_left this (show 0 ≤ m by omega)
      omega
    · exact heq
    · exfalso
      have : 2 ≤ v.tdiv m - v / m := by omega
      have := Int.mul_le_mul_of_nonneg_left this (show 0 ≤ m by omega)
      omega
  rw [k1] at e
  omega
theorem tmod_pos {v m : Int} (hm : 0 < m) (h : 0 ≤ v.tmod m) : v.tmod m = v % m := by
  have h1 := Int.emod_add_mul_ediv v m
  have h2 := Int.tmod_add_mul_tdiv v m
  have h3 := Int.emod_nonneg v (show m ≠ 0 by omega)
  have h4 := Int.emod_lt_of_pos v hm
  have h5 := Int.tmod_lt_of_pos v hm
  have e : m * (v.tdiv m - v / m) = v % m - v.tmod m := by rw [Int.mul_sub]; omega
  have k1 : v.tdiv m - v / m = 0 := by
    rcases Int.lt_trichotomy (v.tdiv m - v / m) 0 with hlt | heq | hgt
    · exfalso
      have : v.tdiv m - v / m ≤ -1 := by omega
      have := Int.mul_le_mul_of_nonneg_left this (show 0 ≤ m by omega)
      omega
    · exact heq
    · exfalso
      have : 1 ≤ v.tdiv m - v / m := by omega
      have := Int.mul_le_mul_of_nonneg_left this (show 0 ≤ m by omega)
      omega
  rw [k1] at e
  omega
def sf_within : SFn := ⟨2, 16,
  .seq (.reg [⟨(some 4), .mv (.k (.c (.d (.int .i64 0)))), none⟩])
  (.seq (.seq (.reg [⟨(some 5), .mv (.t 1), none⟩,
    ⟨(some 6), .bin .lss (.t 5) (.k (.c (.d (.int .i64 1)))), none⟩])
  (.cond (.t 6) (.seq (.reg [⟨(some 4), .mv (.k (.c (.d (.int .i64 0)))), none⟩])
   (.ret))
   (.skip)))
  (.seq (.reg [⟨(some 7), .mv (.t 0), none⟩,
    ⟨(some 8), .mv (.t 1), none⟩,
    ⟨(some 9), .bin .rem (.t 7) (.t 8), none⟩,
    ⟨(some 0), .mv (.t 9), none⟩])
  (.seq (.seq (.reg [⟨(some 10), .mv (.t 0), none⟩,
    ⟨(some 11), .bin .lss (.t 10) (.k (.c (.d (.int .i64 0)))), none⟩])
  (.cond (.t 11) (.reg [⟨(some 12), .mv (.t 0), none⟩,
     ⟨(some 13), .mv (.t 1), none⟩,
     ⟨(some 14), .bin .add (.t 12) (.t 13), none⟩,
     ⟨(some 0), .mv (.t 14), none⟩])
   (.skip)))
  (.seq (.reg [⟨(some 15), .mv (.t 0), none⟩,
    ⟨(some 4), .mv (.t 15), none⟩])
  (.ret))))),
  [(4, none)]⟩
theorem cf_within : compFn Try.prog { own := [], comp := [], frz := [], nils := [] } Try.f26 = some sf_within := by kernel_rfl
theorem within_c (G : Glob) (v m : Int) (hm : m ≤ 9223372036854775807) : Den Try.prog G 26 [.int .i64 v, .int .i64 m] (.w (.c (.d (.int .i64 (withinN v m))))) := by
  refine den_walk Try.func26 cf_within rfl rfl ?_
  unfold withinN
  by_cases h : m < 1
  · rw [if_pos h]
    simp only [sf_within, putAll, wx, wy, wz, stV, seval, IntWalk.iteOmega, IntWalk.toNatUp, reduceCtorEq]
    exact ret_d1 (by simp only [wx, wy, wz, stV, seval, IntWalk.iteOmega, IntWalk.toNatUp, reduceCtorEq])
  · rw [if_neg h]
    have hne : ¬ m = 0 := by omega
    have h4 := Int.tmod_lt_of_pos v (show 0 < m by omega)
    by_cases hn : v.tmod m < 0
    · have e := tmod_neg (by omega) hn
      have h3 := Int.emod_lt_of_pos v (show 0 < m by omega)
      have h5 := Int.emod_nonneg v (show m ≠ 0 by omega)
      simp only [sf_within, putAll, wx, wy, wz, stV, seval, IntWalk.iteOmega, IntWalk.toNatUp, reduceCtorEq, hne]
      exact ret_d1 (by simp only [wx, wy, wz, stV, seval, IntWalk.iteOmega, IntWalk.toNatUp, reduceCtorEq, e])
    · have e := tmod_pos (v := v) (show 0 < m by omega) (by omega)
      simp only [sf_within, putAll, wx, wy, wz, stV, seval, IntWalk.iteOmega, IntWalk.toNatUp, reduceCtorEq, hne]
      exact ret_d1 (by simp only [wx, wy, wz, stV, seval, IntWalk.iteOmega, IntWalk.toNatUp, reduceCtorEq, e])
end Go.Proofs.Ytldcgjhfaledfaa
