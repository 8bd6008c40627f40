/- Layer 2 on data: bytes that follow from a number; the sanity check. Own work. -/
import Derived.Test.YtgepbpcolddgoaaPh6
set_option linter.unusedVariables false
set_option linter.unusedSimpArgs false
namespace Go.Proofs.Ytgepbpcolddgoaa
open Go.RowKit

def withinN (v m : Int) : Int := if m < 1 then 0 else v % m
theorem withinN_range (v m : Int) (h : 1 ≤ m) : 0 ≤ withinN v m ∧ withinN v m < m := by
  unfold withinN
  rw [if_neg (by omega)]
  exact ⟨Int.emod_nonneg _ (by omega), Int.emod_lt_of_pos _ (by omega)⟩
theorem tmod_neg {v m : Int} (hm : 0 < m) (h : v.tmod m < 0) : v.tmod m + m = v % m := by
  have h1 := Int.emod_add_mul_ediv v m
  have h2 := Int.tmod_add_mul_tdiv v m
  have h3 := Int.emod_nonneg v (show m ≠ 0 by omega)
  have h4 := Int.emod_lt_of_pos v hm
  have h5 := Int.lt_tmod_of_pos v hm
  have e : m * (v.tdiv m - v / m) = v % m - v.tmod m := by rw [Int.mul_sub]; omega
  have k1 : v.tdiv m - v / m = 1 := by
    rcases Int.lt_trichotomy (v.tdiv m - v / m) 1 with hlt | heq | hgt
    · exfalso
      have : v.tdiv m - v / m ≤ 0 := by omega
      have := Int.mul_le_mul_of_nonneg_left this (show 0 ≤ m by omega)
      omega
    · exact heq
    · exfalso
      have : 2 ≤ v.tdiv m - v / m := by omega
      have := Int.mul_le_mul_of_nonneg_left this (show 0 ≤ m by omega)
      omega
  rw [k1] at e
  omega
theorem tmod_pos {v m : Int} (hm : 0 < m) (h : 0 ≤ v.tmod m) : v.tmod m = v % m := by
  have h1 := Int.emod_add_mul_ediv v m
  have h2 := Int.tmod_add_mul_tdiv v m
  have h3 := Int.emod_nonneg v (show m ≠ 0 by omega)
  have h4 := Int.emod_lt_of_pos v hm
  have h5 := Int.tmod_lt_of_pos v hm
  have e : m * (v.tdiv m - v / m) = v % m - v.tmod m := by rw [Int.mul_sub]; omega
  have k1 : v.tdiv m - v / m = 0 := by
    rcases Int.lt_trichotomy (v.tdiv m - v / m) 0 with hlt | heq | hgt
    · exfalso
      have : v.tdiv m - v / m ≤ -1 := by omega
      have := Int.mul_le_mul_of_nonneg_left this (show 0 ≤ m by omega)
      omega
    · exact heq
    · exfalso
      have : 1 ≤ v.tdiv m - v / m := by omega
      have := Int.mul_le_mul_of_nonneg_left this (show 0 ≤ m by omega)
      omega
  rw [k1] at e
  omega

/-! ### Bytes of a number -/
def hashAt (s i : Nat) : List UInt8 := sumK (putL s 8 ++ putL i 4)
def bytesN (s : Nat) (k : Nat) : List UInt8 := ((List.range k).map (hashAt s)).flatten
theorem bytesN_succ (s k : Nat) : bytesN s k ++ hashAt s k = bytesN s (k + 1) := by simp [bytesN, List.range_succ]
theorem bytesN_len (s : Nat) : ∀ k, (bytesN s k).length = 32 * k
  | 0 => rfl
  | k + 1 => by rw [← bytesN_succ, List.length_append, bytesN_len s k]; unfold hashAt; rw [sumK_len]; omega
def bytesK (seed n : Int) : List UInt8 := (bytesN (seed % 18446744073709551616).toNat ((n.toNat + 31) / 32)).take n.toNat
theorem bytesK_len (seed n : Int) : (bytesK seed n).length = n.toNat := by
  unfold bytesK; rw [List.length_take, bytesN_len]; omega
def byLSt (seed n : Int) (s : Nat) (k : Nat) : St := ⟨ofL [(0, .w (.c (.d (.int .i64 seed)))), (1, .w (.c (.d (.int .i64 n)))), (5, .w (.c (.own 1 1 0 (bytesN s k).length))), (6, .w (.c (.d (.int .i64 (k : Int)))))], hL [(1, .row 1 ((bytesN s k).map bD))], uL [1]⟩

/-! ### The sanity check -/
theorem abc_hex : hexL (sumK [97, 98, 99]) = [98, 97, 55, 56, 49, 54, 98, 102, 56, 102, 48, 49, 99, 102, 101, 97, 52, 49, 52, 49, 52, 48, 100, 101, 53, 100, 97, 101, 50, 50, 50, 51, 98, 48, 48, 51, 54, 49, 97, 51, 57, 54, 49, 55, 55, 97, 57, 99, 98, 52, 49, 48, 102, 102, 54, 49, 102, 50, 48, 48, 49, 53, 97, 100] := by decide +kernel
end Go.Proofs.Ytgepbpcolddgoaa
