/- Texts of one's own, merged: from: Layer 10 on data: numbers of ticks: the program and the reference. Own work. -/
import Derived.Test.YtjebhdadegfbdaaProg
import Derived.Laws.Bits128
import Derived.Laws.BitsAllLaws
import Derived.Test.YtjebhdadegfbdaaMg7
import Derived.Test.YtjebhdadegfbdaaMg10
set_option linter.unusedVariables false
set_option linter.unusedSimpArgs false
namespace Go.Proofs.Ytjebhdadegfbdaa
open Go.RowKit

/-! ### Bits -/
theorem i64_andM (k : Nat) (M : Int) (hM : (BitVec.ofInt 64 M).toNat = 2 ^ k - 1) (n : Int) (hk : k < 63) : bits .and .i64 n M = n % ((2 ^ k : Nat) : Int) := by
  have key : (BitVec.ofInt 64 n &&& BitVec.ofInt 64 M).toNat = (n % ((2 ^ 64 : Nat) : Int)).toNat % 2 ^ k := by
    rw [BitVec.toNat_and, BitVec.toNat_ofInt, hM, Nat.and_two_pow_sub_one_eq_mod]
  show IntKind.i64.wrap ((BitVec.ofInt 64 n &&& BitVec.ofInt 64 M).toNat : Nat) = _
  rw [key, IntKind.wrap_i64]
  have hd : ((2 ^ k : Nat) : Int) ∣ ((2 ^ 64 : Nat) : Int) := Int.natCast_dvd_natCast.2 (Nat.pow_dvd_pow 2 (by omega))
  have hp : 0 < 2 ^ k := Nat.two_pow_pos k
  have hlt : 2 ^ k ≤ 2 ^ 62 := Nat.pow_le_pow_right (by decide) (by omega)
  have h0 : 0 ≤ n % ((2 ^ 64 : Nat) : Int) := Int.emod_nonneg _ (by decide)
  have e1 : (((n % ((2 ^ 64 : Nat) : Int)).toNat % 2 ^ k : Nat) : Int) = n % ((2 ^ k : Nat) : Int) := by
    rw [Int.natCast_emod, Int.toNat_of_nonneg h0, Int.emod_emod_of_dvd n hd]
  rw [e1]
  have h1 : 0 ≤ n % ((2 ^ k : Nat) : Int) := Int.emod_nonneg _ (by omega)
  have h2 : n % ((2 ^ k : Nat) : Int) < ((2 ^ k : Nat) : Int) := Int.emod_lt_of_pos _ (by omega)
  have h3 : ((2 ^ k : Nat) : Int) ≤ 4611686018427387904 := by
    have : ((2 ^ 62 : Nat) : Int) = 4611686018427387904 := by decide
    rw [← this]; exact Int.ofNat_le.2 hlt
  have := IntWalk.i64_in (n % ((2 ^ k : Nat) : Int)) (by omega)
  rw [IntKind.wrap_i64] at this
  exact this
theorem i64_and20 (n : Int) : bits .and .i64 n 1048575 = n % 1048576 := i64_andM 20 1048575 (by decide) n (by decide)
theorem i64_and32 (n : Int) : bits .and .i64 n 4294967295 = n % 4294967296 := i64_andM 32 4294967295 (by decide) n (by decide)
theorem i64_and52 (n : Int) : bits .and .i64 n 4503599627370495 = n % 4503599627370496 := i64_andM 52 4503599627370495 (by decide) n (by decide)
theorem u64_and12 (n : Int) (h1 : 0 ≤ n) (h2 : n < 18446744073709551616) : bits .and .u64 n 4095 = n % 4096 := by
  obtain ⟨N, rfl⟩ := Int.eq_ofNat_of_zero_le h1
  have := Go.u64_and_nat N 4095 (by omega) (by decide)
  have e : N &&& 4095 = N % 4096 := Nat.and_two_pow_sub_one_eq_mod N 12
  rw [e] at this
  rw [show ((4095 : Nat) : Int) = 4095 from rfl] at this
  rw [this]; omega
/-- The upper 32 bits, and what lies below. -/
theorem u64_orW (s p : Int) (h1 : 0 ≤ s) (h2 : s < 4294967296) (h3 : 0 ≤ p) (h4 : p < 4294967296) : bits .or .u64 (s * 4294967296) p = s * 4294967296 + p := by
  obtain ⟨S, rfl⟩ := Int.eq_ofNat_of_zero_le h1
  obtain ⟨Q, rfl⟩ := Int.eq_ofNat_of_zero_le h3
  have := Go.u64_or_nat (S * 4294967296) Q (by omega) (by omega)
  have e : S * 4294967296 ||| Q = S * 4294967296 + Q := by
    have := Nat.two_pow_add_eq_or_of_lt (i := 32) (b := Q) (by omega) S
    rw [Nat.mul_comm] at this
    exact this.symm
  rw [e] at this
  simpa using this

theorem bI64 : IntKind.i64.bits = 64 := rfl
theorem bU64 : IntKind.u64.bits = 64 := rfl
/-! ### Quotients -/
theorem tdiv_facts (a : Int) {b : Int} (h : 1 ≤ b) : (0 ≤ a.tmod b → a.tdiv b = a / b) ∧ (a.tmod b < 0 → a.tdiv b = a / b + 1) ∧ (0 < a.tmod b → 0 ≤ a.tdiv b ∧ a.tdiv b < a) ∧ (a.tmod b < 0 → a.tdiv b ≤ 0 ∧ a < a.tdiv b) ∧ (a.tmod b = 0 → (0 ≤ a → 0 ≤ a.tdiv b ∧ a.tdiv b ≤ a) ∧ (a ≤ 0 → a.tdiv b ≤ 0 ∧ a ≤ a.tdiv b)) := by
  have hb := below_ediv a (show 0 < b by omega)
  unfold belowI at hb
  have e := Int.tmod_add_mul_tdiv a b
  have up : ∀ q : Int, 0 ≤ q → q ≤ b * q := fun q hq => by
    have := Int.mul_le_mul_of_nonneg_right h hq
    omega
  have dn : ∀ q : Int, q ≤ 0 → b * q ≤ q := fun q hq => by
    have := up (-q) (by omega)
    rw [Int.mul_neg] at this; omega
  have s1 : 0 ≤ a → 0 ≤ a.tdiv b ∧ 0 ≤ a.tmod b := fun ha => ⟨Int.tdiv_nonneg ha (by omega), Int.tmod_nonneg b ha⟩
  have s2 : a ≤ 0 → a.tdiv b ≤ 0 ∧ a.tmod b ≤ 0 := fun ha => by
    have := Int.tdiv_nonneg (show 0 ≤ -a by omega) (show 0 ≤ b by omega)
    have h2 := Int.tmod_nonneg b (show 0 ≤ -a by omega)
    rw [Int.neg_tdiv] at this
    rw [Int.neg_tmod] at h2
    omega
  refine ⟨fun h0 => ?_, fun h0 => ?_, fun h0 => ?_, fun h0 => ?_, fun h0 => ⟨fun ha => ?_, fun ha => ?_⟩⟩
  · rw [if_neg (by omega)] at hb; exact hb
  · rw [if_pos h0] at hb; omega
  · have : 0 ≤ a := by
      rcases Int.le_total 0 a with h | h
      · exact h
      · have := (s2 h).2; omega
    have := s1 this
    have := up _ this.1
    omega
  · have : a ≤ 0 := by
      rcases Int.le_total a 0 with h | h
      · exact h
      · have := (s1 h).2; omega
    have := s2 this
    have := dn _ this.1
    omega
  · have := s1 ha
    have := up _ this.1
    omega
  · have := s2 ha
    have := dn _ this.1
    omega
theorem round_up (a : Int) {b : Int} (h : 1 ≤ b) : roundI a b true = if 0 < a.tmod b then a.tdiv b + 1 else a.tdiv b := by
  obtain ⟨f1, f2, _⟩ := tdiv_facts a h
  unfold roundI
  by_cases h0 : 0 < a.tmod b
  · rw [if_pos ⟨rfl, by omega⟩, if_pos h0, f1 (by omega)]
  · rw [if_neg h0]
    by_cases h1 : a.tmod b = 0
    · rw [if_neg (by intro k; exact k.2 h1), f1 (by omega)]
    · rw [if_pos ⟨rfl, h1⟩, f2 (by omega)]
theorem round_dn (a : Int) {b : Int} (h : 1 ≤ b) : roundI a b false = if a.tmod b < 0 then a.tdiv b - 1 else a.tdiv b := by
  have hb := below_ediv a (show 0 < b by omega)
  unfold belowI at hb
  unfold roundI
  rw [if_neg (by intro k; cases k.1)]
  exact hb.symm
theorem round_le (a : Int) {b : Int} (h : 1 ≤ b) (up : Bool) (h1 : -9223372036854775808 ≤ a) (h2 : a ≤ 9223372036854775807) : -9223372036854775808 ≤ roundI a b up ∧ roundI a b up ≤ 9223372036854775807 := by
  obtain ⟨f1, f2, f3, f4, f5⟩ := tdiv_facts a h
  cases up
  · rw [round_dn a h]; split <;> omega
  · rw [round_up a h]; split <;> omega
def sf_quo : SFn := ⟨3, 33,
  .seq (.reg [⟨(some 6), .mv (.k (.c (.d (.int .i64 0)))), none⟩])
  (.seq (.reg [⟨(some 9), .mv (.t 0), none⟩,
    ⟨(some 10), .mv (.t 1), none⟩,
    ⟨(some 11), .bin .quo (.t 9) (.t 10), none⟩,
    ⟨(some 12), .mv (.t 0), none⟩,
    ⟨(some 13), .mv (.t 1), none⟩,
    ⟨(some 14), .bin .rem (.t 12) (.t 13), none⟩,
    ⟨(some 7), .mv (.t 11), none⟩,
    ⟨(some 8), .mv (.t 14), none⟩])
  (.seq (.block 0 (.seq (.reg [⟨(some 16), .mv (.t 2), none⟩,
     ⟨(some 17), .mv (.t 16), none⟩,
     ⟨(some 18), .mv (.t 8), (some (17, true))⟩,
     ⟨(some 19), .bin .gtr (.t 18) (.k (.c (.d (.int .i64 0)))), (some (17, true))⟩,
     ⟨(some 20), .pick (.t 17) (.t 19) (.k (.c (.d (.bool false)))), none⟩,
     ⟨(some 15), .mv (.t 20), none⟩])
   (.cond (.t 15) (.seq (.reg [⟨(some 21), .mv (.t 7), none⟩,
      ⟨(some 22), .bin .add (.t 21) (.k (.c (.d (.int .i64 1)))), none⟩,
      ⟨(some 6), .mv (.t 22), none⟩])
    (.ret))
    (.seq (.reg [⟨(some 24), .mv (.t 2), none⟩,
      ⟨(some 25), .un .not (.t 24), none⟩,
      ⟨(some 26), .mv (.t 25), none⟩,
      ⟨(some 27), .mv (.t 8), (some (26, true))⟩,
      ⟨(some 28), .bin .lss (.t 27) (.k (.c (.d (.int .i64 0)))), (some (26, true))⟩,
      ⟨(some 29), .pick (.t 26) (.t 28) (.k (.c (.d (.bool false)))), none⟩,
      ⟨(some 23), .mv (.t 29), none⟩])
    (.cond (.t 23) (.seq (.reg [⟨(some 30), .mv (.t 7), none⟩,
       ⟨(some 31), .bin .sub (.t 30) (.k (.c (.d (.int .i64 1)))), none⟩,
       ⟨(some 6), .mv (.t 31), none⟩])
     (.ret))
     (.skip))))))
  (.seq (.reg [⟨(some 32), .mv (.t 7), none⟩,
    ⟨(some 6), .mv (.t 32), none⟩])
  (.ret)))),
  [(6, none)]⟩
theorem cf_quo : compFn Try.prog { own := [], comp := [], frz := [], nils := [] } Try.f79 = some sf_quo := by kernel_rfl
theorem quo_c (G : Glob) (a b : Int) (up : Bool) (h1 : -9223372036854775808 ≤ a) (h2 : a ≤ 9223372036854775807) (hb : 1 ≤ b) : Den Try.prog G 79 [.int .i64 a, .int .i64 b, .bool up] (.w (.c (.d (.int .i64 (roundI a b up))))) := by
  refine den_walk Try.func79 cf_quo rfl rfl ?_
  obtain ⟨f1, f2, f3, f4, f5⟩ := tdiv_facts a hb
  have hb0 : b ≠ 0 := by omega
  cases up
  · rw [round_dn a hb]
    by_cases k : a.tmod b < 0
    · simp only [sf_quo, putAll, wx, wy, wz, stV, seval, IntWalk.iteOmega, IntWalk.toNatUp, reduceCtorEq, hb0]
      exact ret_d1 (by simp only [wx, wy, wz, stV, seval, IntWalk.iteOmega, IntWalk.toNatUp, reduceCtorEq])
    · simp only [sf_quo, putAll, wx, wy, wz, stV, seval, IntWalk.iteOmega, IntWalk.toNatUp, reduceCtorEq, hb0]
      exact ret_d1 (by simp only [wx, wy, wz, stV, seval, IntWalk.iteOmega, IntWalk.toNatUp, reduceCtorEq])
  · rw [round_up a hb]
    by_cases k : 0 < a.tmod b
    · have hgt : (a.tmod b > 0) = True := eq_true k
      simp only [sf_quo, putAll, wx, wy, wz, stV, seval, IntWalk.iteOmega, IntWalk.toNatUp, reduceCtorEq, hb0, hgt]
      exact ret_d1 (by simp only [wx, wy, wz, stV, seval, IntWalk.iteOmega, IntWalk.toNatUp, reduceCtorEq])
    · have hgt : (a.tmod b > 0) = False := eq_false k
      simp only [sf_quo, putAll, wx, wy, wz, stV, seval, IntWalk.iteOmega, IntWalk.toNatUp, reduceCtorEq, hb0, hgt]
      exact ret_d1 (by simp only [wx, wy, wz, stV, seval, IntWalk.iteOmega, IntWalk.toNatUp, reduceCtorEq])
def sf_rbel : SFn := ⟨2, 16,
  .seq (.reg [⟨(some 4), .mv (.k (.c (.d (.int .i64 0)))), none⟩])
  (.seq (.reg [⟨(some 6), .mv (.t 0), none⟩,
    ⟨(some 7), .mv (.t 1), none⟩,
    ⟨(some 8), .bin .quo (.t 6) (.t 7), none⟩,
    ⟨(some 5), .mv (.t 8), none⟩])
  (.seq (.seq (.reg [⟨(some 9), .mv (.t 0), none⟩,
    ⟨(some 10), .mv (.t 1), none⟩,
    ⟨(some 11), .bin .rem (.t 9) (.t 10), none⟩,
    ⟨(some 12), .bin .lss (.t 11) (.k (.c (.d (.int .i64 0)))), none⟩])
  (.cond (.t 12) (.reg [⟨(some 13), .mv (.t 5), none⟩,
     ⟨(some 14), .bin .sub (.t 13) (.k (.c (.d (.int .i64 1)))), none⟩,
     ⟨(some 5), .mv (.t 14), none⟩])
   (.skip)))
  (.seq (.reg [⟨(some 15), .mv (.t 5), none⟩,
    ⟨(some 4), .mv (.t 15), none⟩])
  (.ret)))),
  [(4, none)]⟩
theorem cf_rbel : compFn Try.prog { own := [], comp := [], frz := [], nils := [] } Try.f96 = some sf_rbel := by kernel_rfl
theorem rbel_c (G : Glob) (a b : Int) (h1 : -9223372036854775808 ≤ a) (h2 : a ≤ 9223372036854775807) (hb : 1 ≤ b) : Den Try.prog G 96 [.int .i64 a, .int .i64 b] (.w (.c (.d (.int .i64 (a / b))))) := by
  refine den_walk Try.func96 cf_rbel rfl rfl ?_
  obtain ⟨f1, f2, f3, f4, f5⟩ := tdiv_facts a hb
  have hb0 : b ≠ 0 := by omega
  rw [← below_ediv a (by omega)]
  unfold belowI
  by_cases k : a.tmod b < 0
  · simp only [sf_rbel, putAll, wx, wy, wz, stV, seval, IntWalk.iteOmega, IntWalk.toNatUp, reduceCtorEq, hb0]
    exact ret_d1 (by simp only [wx, wy, wz, stV, seval, IntWalk.iteOmega, IntWalk.toNatUp, reduceCtorEq])
  · simp only [sf_rbel, putAll, wx, wy, wz, stV, seval, IntWalk.iteOmega, IntWalk.toNatUp, reduceCtorEq, hb0]
    exact ret_d1 (by simp only [wx, wy, wz, stV, seval, IntWalk.iteOmega, IntWalk.toNatUp, reduceCtorEq])
def sf_rquo : SFn := ⟨3, 21,
  .seq (.reg [⟨(some 6), .mv (.k (.c (.d (.int .i64 0)))), none⟩])
  (.seq (.reg [⟨(some 8), .mv (.t 0), none⟩,
    ⟨(some 9), .mv (.t 1), none⟩,
    ⟨(some 10), .call 96 [(.t 8), (.t 9)] none, none⟩,
    ⟨(some 7), .mv (.t 10), none⟩])
  (.seq (.seq (.reg [⟨(some 11), .mv (.t 2), none⟩,
    ⟨(some 12), .mv (.t 11), none⟩,
    ⟨(some 13), .mv (.t 0), (some (12, true))⟩,
    ⟨(some 14), .mv (.t 1), (some (12, true))⟩,
    ⟨(some 15), .bin .rem (.t 13) (.t 14), (some (12, true))⟩,
    ⟨(some 16), .bin .neq (.t 15) (.k (.c (.d (.int .i64 0)))), (some (12, true))⟩,
    ⟨(some 17), .pick (.t 12) (.t 16) (.k (.c (.d (.bool false)))), none⟩])
  (.cond (.t 17) (.reg [⟨(some 18), .mv (.t 7), none⟩,
     ⟨(some 19), .bin .add (.t 18) (.k (.c (.d (.int .i64 1)))), none⟩,
     ⟨(some 7), .mv (.t 19), none⟩])
   (.skip)))
  (.seq (.reg [⟨(some 20), .mv (.t 7), none⟩,
    ⟨(some 6), .mv (.t 20), none⟩])
  (.ret)))),
  [(6, none)]⟩
theorem cf_rquo : compFn Try.prog { own := [], comp := [], frz := [], nils := [] } Try.f78 = some sf_rquo := by kernel_rfl
theorem rquo_c (G : Glob) (a b : Int) (up : Bool) (h1 : -9223372036854775808 ≤ a) (h2 : a ≤ 9223372036854775807) (hb : 1 ≤ b) : Den Try.prog G 78 [.int .i64 a, .int .i64 b, .bool up] (.w (.c (.d (.int .i64 (roundI a b up))))) := by
  refine den_walk Try.func78 cf_rquo rfl rfl ?_
  have hb0 : b ≠ 0 := by omega
  have hl := round_le a hb up h1 h2
  unfold roundI at hl ⊢
  cases up
  · simp only [Bool.false_eq_true, false_and, if_false] at hl ⊢
    simp only [sf_rquo, putAll, wx, wy, wz, stV, seval, IntWalk.iteOmega, IntWalk.toNatUp, reduceCtorEq]
    refine st_call (rbel_c G a b h1 h2 hb) rfl (.inl rfl) ?_
    simp only [wx, wy, wz, stV, seval, IntWalk.iteOmega, IntWalk.toNatUp, reduceCtorEq]
    exact ret_d1 (by simp only [wx, wy, wz, stV, seval, IntWalk.iteOmega, IntWalk.toNatUp, reduceCtorEq])
  · simp only [true_and] at hl ⊢
    by_cases k : a.tmod b = 0
    · rw [if_neg (by omega)]
      simp only [sf_rquo, putAll, wx, wy, wz, stV, seval, IntWalk.iteOmega, IntWalk.toNatUp, reduceCtorEq]
      refine st_call (rbel_c G a b h1 h2 hb) rfl (.inl rfl) ?_
      simp only [hb0, k, wx, wy, wz, stV, seval, IntWalk.iteOmega, IntWalk.toNatUp, reduceCtorEq]
      exact ret_d1 (by simp only [wx, wy, wz, stV, seval, IntWalk.iteOmega, IntWalk.toNatUp, reduceCtorEq])
    · rw [if_pos k] at hl ⊢
      simp only [sf_rquo, putAll, wx, wy, wz, stV, seval, IntWalk.iteOmega, IntWalk.toNatUp, reduceCtorEq]
      refine st_call (rbel_c G a b h1 h2 hb) rfl (.inl rfl) ?_
      simp only [hb0, k, wx, wy, wz, stV, seval, IntWalk.iteOmega, IntWalk.toNatUp, reduceCtorEq]
      exact ret_d1 (by simp only [wx, wy, wz, stV, seval, IntWalk.iteOmega, IntWalk.toNatUp, reduceCtorEq])
/-! ### Valid, Second, Part -/
def valT (t : Int) : Bool := decide (-1152921504606846976 ≤ t ∧ t ≤ 1152921504606846976)
theorem valT_t {t : Int} (h : -1152921504606846976 ≤ t ∧ t ≤ 1152921504606846976) : valT t = true := decide_eq_true h
theorem valT_f {t : Int} (h : ¬ (-1152921504606846976 ≤ t ∧ t ≤ 1152921504606846976)) : valT t = false := decide_eq_false h
def sf_val : SFn := ⟨1, 9,
  .seq (.reg [⟨(some 2), .mv (.k (.c (.d (.bool false)))), none⟩])
  (.seq (.reg [⟨(some 3), .mv (.t 0), none⟩,
    ⟨(some 4), .bin .geq (.t 3) (.k (.c (.d (.int .i64 (-1152921504606846976))))), none⟩,
    ⟨(some 5), .mv (.t 4), none⟩,
    ⟨(some 6), .mv (.t 0), (some (5, true))⟩,
    ⟨(some 7), .bin .leq (.t 6) (.k (.c (.d (.int .i64 1152921504606846976)))), (some (5, true))⟩,
    ⟨(some 8), .pick (.t 5) (.t 7) (.k (.c (.d (.bool false)))), none⟩,
    ⟨(some 2), .mv (.t 8), none⟩])
  (.ret)),
  [(2, none)]⟩
theorem cf_val : compFn Try.prog { own := [], comp := [], frz := [], nils := [] } Try.f71 = some sf_val := by kernel_rfl
theorem val_c (G : Glob) (t : Int) : Den Try.prog G 71 [.int .i64 t] (.w (.c (.d (.bool (valT t))))) := by
  refine den_walk Try.func71 cf_val rfl rfl ?_
  by_cases h : t ≥ -1152921504606846976
  · by_cases h2 : t ≤ 1152921504606846976
    · rw [valT_t ⟨h, h2⟩]
      simp only [sf_val, putAll, wx, wy, wz, stV, seval, IntWalk.iteOmega, IntWalk.toNatUp, reduceCtorEq, eq_true h, eq_true h2]
      exact ret_d1 (by simp only [wx, wy, wz, stV, seval, IntWalk.iteOmega, IntWalk.toNatUp, reduceCtorEq])
    · rw [valT_f (by omega)]
      simp only [sf_val, putAll, wx, wy, wz, stV, seval, IntWalk.iteOmega, IntWalk.toNatUp, reduceCtorEq, eq_true h, eq_false h2]
      exact ret_d1 (by simp only [wx, wy, wz, stV, seval, IntWalk.iteOmega, IntWalk.toNatUp, reduceCtorEq])
  · rw [valT_f (by omega)]
    simp only [sf_val, putAll, wx, wy, wz, stV, seval, IntWalk.iteOmega, IntWalk.toNatUp, reduceCtorEq, eq_false h]
    exact ret_d1 (by simp only [wx, wy, wz, stV, seval, IntWalk.iteOmega, IntWalk.toNatUp, reduceCtorEq])
def sf_rval : SFn := ⟨1, 9,
  .seq (.reg [⟨(some 2), .mv (.k (.c (.d (.bool false)))), none⟩])
  (.seq (.reg [⟨(some 3), .mv (.t 0), none⟩,
    ⟨(some 4), .bin .geq (.t 3) (.k (.c (.d (.int .i64 (-1152921504606846976))))), none⟩,
    ⟨(some 5), .mv (.t 4), none⟩,
    ⟨(some 6), .mv (.t 0), (some (5, true))⟩,
    ⟨(some 7), .bin .leq (.t 6) (.k (.c (.d (.int .i64 1152921504606846976)))), (some (5, true))⟩,
    ⟨(some 8), .pick (.t 5) (.t 7) (.k (.c (.d (.bool false)))), none⟩,
    ⟨(some 2), .mv (.t 8), none⟩])
  (.ret)),
  [(2, none)]⟩
theorem cf_rval : compFn Try.prog { own := [], comp := [], frz := [], nils := [] } Try.f81 = some sf_rval := by kernel_rfl
theorem rval_c (G : Glob) (t : Int) : Den Try.prog G 81 [.int .i64 t] (.w (.c (.d (.bool (valT t))))) := by
  refine den_walk Try.func81 cf_rval rfl rfl ?_
  by_cases h : t ≥ -1152921504606846976
  · by_cases h2 : t ≤ 1152921504606846976
    · rw [valT_t ⟨h, h2⟩]
      simp only [sf_rval, putAll, wx, wy, wz, stV, seval, IntWalk.iteOmega, IntWalk.toNatUp, reduceCtorEq, eq_true h, eq_true h2]
      exact ret_d1 (by simp only [wx, wy, wz, stV, seval, IntWalk.iteOmega, IntWalk.toNatUp, reduceCtorEq])
    · rw [valT_f (by omega)]
      simp only [sf_rval, putAll, wx, wy, wz, stV, seval, IntWalk.iteOmega, IntWalk.toNatUp, reduceCtorEq, eq_true h, eq_false h2]
      exact ret_d1 (by simp only [wx, wy, wz, stV, seval, IntWalk.iteOmega, IntWalk.toNatUp, reduceCtorEq])
  · rw [valT_f (by omega)]
    simp only [sf_rval, putAll, wx, wy, wz, stV, seval, IntWalk.iteOmega, IntWalk.toNatUp, reduceCtorEq, eq_false h]
    exact ret_d1 (by simp only [wx, wy, wz, stV, seval, IntWalk.iteOmega, IntWalk.toNatUp, reduceCtorEq])
def sf_snd : SFn := ⟨1, 5,
  .seq (.reg [⟨(some 2), .mv (.k (.c (.d (.int .i64 0)))), none⟩])
  (.seq (.reg [⟨(some 3), .mv (.t 0), none⟩,
    ⟨(some 4), .bin .shr (.t 3) (.k (.c (.d (.int .u64 20)))), none⟩,
    ⟨(some 2), .mv (.t 4), none⟩])
  (.ret)),
  [(2, none)]⟩
theorem cf_snd : compFn Try.prog { own := [], comp := [], frz := [], nils := [] } Try.f61 = some sf_snd := by kernel_rfl
theorem snd_c (G : Glob) (t : Int) : Den Try.prog G 61 [.int .i64 t] (.w (.c (.d (.int .i64 (t / 1048576))))) := by
  refine den_walk Try.func61 cf_snd rfl rfl ?_
  simp only [sf_snd, putAll, wx, wy, wz, stV, seval, IntWalk.iteOmega, IntWalk.toNatUp, reduceCtorEq, bI64]
  exact ret_d1 (by simp only [wx, wy, wz, stV, seval, IntWalk.iteOmega, IntWalk.toNatUp, reduceCtorEq])
def sf_prt : SFn := ⟨1, 5,
  .seq (.reg [⟨(some 2), .mv (.k (.c (.d (.int .i64 0)))), none⟩])
  (.seq (.reg [⟨(some 3), .mv (.t 0), none⟩,
    ⟨(some 4), .bin .and (.t 3) (.k (.c (.d (.int .i64 1048575)))), none⟩,
    ⟨(some 2), .mv (.t 4), none⟩])
  (.ret)),
  [(2, none)]⟩
theorem cf_prt : compFn Try.prog { own := [], comp := [], frz := [], nils := [] } Try.f63 = some sf_prt := by kernel_rfl
theorem prt_c (G : Glob) (t : Int) : Den Try.prog G 63 [.int .i64 t] (.w (.c (.d (.int .i64 (t % 1048576))))) := by
  refine den_walk Try.func63 cf_prt rfl rfl ?_
  simp only [sf_prt, putAll, wx, wy, wz, stV, seval, IntWalk.iteOmega, IntWalk.toNatUp, reduceCtorEq, i64_and20]
  exact ret_d1 (by simp only [wx, wy, wz, stV, seval, IntWalk.iteOmega, IntWalk.toNatUp, reduceCtorEq])
/-! ### Divide, Scale -/
def divE (a b : Int) : Int := if b < 1 ∨ valT a = false then 4 else 0
def divV (a b : Int) (up : Bool) : Int := if b < 1 ∨ valT a = false then 0 else roundI a b up
def sf_div : SFn := ⟨3, 19,
  .seq (.reg [⟨(some 6), .mv (.k (.c (.d (.int .i64 0)))), none⟩,
    ⟨(some 7), .mv (.k (.c (.d (.int .i64 0)))), none⟩])
  (.seq (.seq (.reg [⟨(some 8), .mv (.t 1), none⟩,
    ⟨(some 9), .bin .lss (.t 8) (.k (.c (.d (.int .i64 1)))), none⟩,
    ⟨(some 10), .mv (.t 9), none⟩,
    ⟨(some 11), .mv (.t 0), (some (10, false))⟩,
    ⟨(some 12), .call 71 [(.t 11)] none, (some (10, false))⟩,
    ⟨(some 13), .un .not (.t 12), (some (10, false))⟩,
    ⟨(some 14), .pick (.t 10) (.k (.c (.d (.bool true)))) (.t 13), none⟩])
  (.cond (.t 14) (.seq (.reg [⟨(some 6), .mv (.k (.c (.d (.int .i64 0)))), none⟩,
     ⟨(some 7), .mv (.k (.c (.d (.int .i64 4)))), none⟩])
   (.ret))
   (.skip)))
  (.seq (.reg [⟨(some 15), .mv (.t 0), none⟩,
    ⟨(some 16), .mv (.t 1), none⟩,
    ⟨(some 17), .mv (.t 2), none⟩,
    ⟨(some 18), .call 79 [(.t 15), (.t 16), (.t 17)] none, none⟩,
    ⟨(some 6), .mv (.t 18), none⟩,
    ⟨(some 7), .mv (.k (.c (.d (.int .i64 0)))), none⟩])
  (.ret))),
  [(6, none), (7, none)]⟩
theorem cf_div : compFn Try.prog { own := [], comp := [], frz := [], nils := [] } Try.f77 = some sf_div := by kernel_rfl
theorem div_c (G : Glob) (a b : Int) (up : Bool) (h1 : -9223372036854775808 ≤ a) (h2 : a ≤ 9223372036854775807) : Den Try.prog G 77 [.int .i64 a, .int .i64 b, .bool up] (.tup [.c (.d (.int .i64 (divV a b up))), .c (.d (.int .i64 (divE a b)))]) := by
  refine den_walk Try.func77 cf_div rfl rfl ?_
  unfold divV divE
  by_cases hb : b < 1
  · rw [if_pos (.inl hb), if_pos (.inl hb)]
    simp only [sf_div, putAll, wx, wy, wz, stV, seval, IntWalk.iteOmega, IntWalk.toNatUp, reduceCtorEq]
    exact ret_d2 (by simp only [wx, wy, wz, stV, seval, IntWalk.iteOmega, IntWalk.toNatUp, reduceCtorEq]) (by simp only [wx, wy, wz, stV, seval, IntWalk.iteOmega, IntWalk.toNatUp, reduceCtorEq])
  · cases hv : valT a
    · rw [if_pos (.inr rfl), if_pos (.inr rfl)]
      simp only [sf_div, putAll, wx, wy, wz, stV, seval, IntWalk.iteOmega, IntWalk.toNatUp, reduceCtorEq]
      refine st_call (val_c G a) rfl (.inl rfl) ?_
      simp only [hv, wx, wy, wz, stV, seval, IntWalk.iteOmega, IntWalk.toNatUp, reduceCtorEq]
      exact ret_d2 (by simp only [wx, wy, wz, stV, seval, IntWalk.iteOmega, IntWalk.toNatUp, reduceCtorEq]) (by simp only [wx, wy, wz, stV, seval, IntWalk.iteOmega, IntWalk.toNatUp, reduceCtorEq])
    · rw [if_neg (by simp; omega), if_neg (by simp; omega)]
      simp only [sf_div, putAll, wx, wy, wz, stV, seval, IntWalk.iteOmega, IntWalk.toNatUp, reduceCtorEq]
      refine st_call (val_c G a) rfl (.inl rfl) ?_
      simp only [hv, wx, wy, wz, stV, seval, IntWalk.iteOmega, IntWalk.toNatUp, reduceCtorEq]
      refine st_call (quo_c G a b up h1 h2 (by omega)) rfl (.inl rfl) ?_
      simp only [wx, wy, wz, stV, seval, IntWalk.iteOmega, IntWalk.toNatUp, reduceCtorEq]
      exact ret_d2 (by simp only [wx, wy, wz, stV, seval, IntWalk.iteOmega, IntWalk.toNatUp, reduceCtorEq]) (by simp only [wx, wy, wz, stV, seval, IntWalk.iteOmega, IntWalk.toNatUp, reduceCtorEq])
def scaB (d ppb : Int) : Bool := valT d && decide (0 ≤ ppb ∧ ppb ≤ 1000000)
def scaN (d ppb : Int) (up : Bool) : Int := d / 1000000000 * ppb + roundI (d % 1000000000 * ppb) 1000000000 up
def scaV (d ppb : Int) (up : Bool) : Int := if scaB d ppb = true then scaN d ppb up else 0
def scaE (d ppb : Int) : Int := if scaB d ppb = true then 0 else 4
theorem scaB_t {d ppb : Int} (h : -1152921504606846976 ≤ d ∧ d ≤ 1152921504606846976) (h2 : 0 ≤ ppb) (h3 : ppb ≤ 1000000) : scaB d ppb = true := by
  unfold scaB; rw [valT_t h, decide_eq_true ⟨h2, h3⟩]; rfl
theorem mul_in {x p A B : Int} (h1 : -A ≤ x) (h2 : x ≤ A) (h3 : 0 ≤ p) (h4 : p ≤ B) (hA : 0 ≤ A) : -(A * B) ≤ x * p ∧ x * p ≤ A * B := by
  have a1 : x * p ≤ A * p := Int.mul_le_mul_of_nonneg_right h2 h3
  have a2 : A * p ≤ A * B := Int.mul_le_mul_of_nonneg_left h4 hA
  have a3 : -A * p ≤ x * p := Int.mul_le_mul_of_nonneg_right h1 h3
  rw [Int.neg_mul] at a3
  omega
theorem round_in (a : Int) {b : Int} (h : 1 ≤ b) (up : Bool) : (0 ≤ a → 0 ≤ roundI a b up ∧ roundI a b up ≤ a + 1) ∧ (a ≤ 0 → a - 1 ≤ roundI a b up ∧ roundI a b up ≤ 0) := by
  obtain ⟨f1, f2, f3, f4, f5⟩ := tdiv_facts a h
  have s1 : 0 ≤ a → 0 ≤ a.tmod b := fun ha => Int.tmod_nonneg b ha
  have s2 : a ≤ 0 → a.tmod b ≤ 0 := fun ha => by
    have h2 := Int.tmod_nonneg b (show 0 ≤ -a by omega)
    rw [Int.neg_tmod] at h2; omega
  cases up
  · rw [round_dn a h]; constructor <;> intro ha <;> split <;> omega
  · rw [round_up a h]; constructor <;> intro ha <;> split <;> omega
def sf_sca : SFn := ⟨3, 36,
  .seq (.reg [⟨(some 6), .mv (.k (.c (.d (.int .i64 0)))), none⟩,
    ⟨(some 7), .mv (.k (.c (.d (.int .i64 0)))), none⟩])
  (.seq (.seq (.reg [⟨(some 10), .mv (.t 0), none⟩,
    ⟨(some 11), .call 71 [(.t 10)] none, none⟩,
    ⟨(some 12), .un .not (.t 11), none⟩,
    ⟨(some 13), .mv (.t 12), none⟩,
    ⟨(some 14), .mv (.t 1), (some (13, false))⟩,
    ⟨(some 15), .bin .lss (.t 14) (.k (.c (.d (.int .i64 0)))), (some (13, false))⟩,
    ⟨(some 16), .pick (.t 13) (.k (.c (.d (.bool true)))) (.t 15), none⟩,
    ⟨(some 17), .mv (.t 16), none⟩,
    ⟨(some 18), .mv (.t 1), (some (17, false))⟩,
    ⟨(some 19), .bin .gtr (.t 18) (.k (.c (.d (.int .i64 1000000)))), (some (17, false))⟩,
    ⟨(some 20), .pick (.t 17) (.k (.c (.d (.bool true)))) (.t 19), none⟩])
  (.cond (.t 20) (.seq (.reg [⟨(some 6), .mv (.k (.c (.d (.int .i64 0)))), none⟩,
     ⟨(some 7), .mv (.k (.c (.d (.int .i64 4)))), none⟩])
   (.ret))
   (.skip)))
  (.seq (.reg [⟨(some 21), .mv (.t 0), none⟩,
    ⟨(some 22), .call 79 [(.t 21), (.k (.c (.d (.int .i64 1000000000)))), (.k (.c (.d (.bool false))))] none, none⟩,
    ⟨(some 8), .mv (.t 22), none⟩])
  (.seq (.reg [⟨(some 23), .mv (.t 0), none⟩,
    ⟨(some 24), .mv (.t 8), none⟩,
    ⟨(some 25), .bin .mul (.t 24) (.k (.c (.d (.int .i64 1000000000)))), none⟩,
    ⟨(some 26), .bin .sub (.t 23) (.t 25), none⟩,
    ⟨(some 9), .mv (.t 26), none⟩])
  (.seq (.reg [⟨(some 27), .mv (.t 8), none⟩,
    ⟨(some 28), .mv (.t 1), none⟩,
    ⟨(some 29), .bin .mul (.t 27) (.t 28), none⟩,
    ⟨(some 30), .mv (.t 9), none⟩,
    ⟨(some 31), .mv (.t 1), none⟩,
    ⟨(some 32), .bin .mul (.t 30) (.t 31), none⟩,
    ⟨(some 33), .mv (.t 2), none⟩,
    ⟨(some 34), .call 79 [(.t 32), (.k (.c (.d (.int .i64 1000000000)))), (.t 33)] none, none⟩,
    ⟨(some 35), .bin .add (.t 29) (.t 34), none⟩,
    ⟨(some 6), .mv (.t 35), none⟩,
    ⟨(some 7), .mv (.k (.c (.d (.int .i64 0)))), none⟩])
  (.ret))))),
  [(6, none), (7, none)]⟩
theorem cf_sca : compFn Try.prog { own := [], comp := [], frz := [], nils := [] } Try.f47 = some sf_sca := by kernel_rfl
theorem sca_c (G : Glob) (d ppb : Int) (up : Bool) (h1 : -9223372036854775808 ≤ d) (h2 : d ≤ 9223372036854775807) : Den Try.prog G 47 [.int .i64 d, .int .i64 ppb, .bool up] (.tup [.c (.d (.int .i64 (scaV d ppb up))), .c (.d (.int .i64 (scaE d ppb)))]) := by
  refine den_walk Try.func47 cf_sca rfl rfl ?_
  cases hv : valT d
  · have e : scaB d ppb = false := by unfold scaB; rw [hv]; rfl
    unfold scaV scaE
    rw [e]
    simp only [sf_sca, putAll, wx, wy, wz, stV, seval, IntWalk.iteOmega, IntWalk.toNatUp, reduceCtorEq]
    refine st_call (val_c G d) rfl (.inl rfl) ?_
    simp only [hv, wx, wy, wz, stV, seval, IntWalk.iteOmega, IntWalk.toNatUp, reduceCtorEq]
    exact ret_d2 (by simp only [wx, wy, wz, stV, seval, IntWalk.iteOmega, IntWalk.toNatUp, reduceCtorEq]) (by simp only [wx, wy, wz, stV, seval, IntWalk.iteOmega, IntWalk.toNatUp, reduceCtorEq])
  · by_cases hp : ppb < 0
    · have e : scaB d ppb = false := by unfold scaB; rw [decide_eq_false (by omega), Bool.and_false]
      unfold scaV scaE
      rw [e]
      simp only [sf_sca, putAll, wx, wy, wz, stV, seval, IntWalk.iteOmega, IntWalk.toNatUp, reduceCtorEq]
      refine st_call (val_c G d) rfl (.inl rfl) ?_
      simp only [hv, wx, wy, wz, stV, seval, IntWalk.iteOmega, IntWalk.toNatUp, reduceCtorEq]
      exact ret_d2 (by simp only [wx, wy, wz, stV, seval, IntWalk.iteOmega, IntWalk.toNatUp, reduceCtorEq]) (by simp only [wx, wy, wz, stV, seval, IntWalk.iteOmega, IntWalk.toNatUp, reduceCtorEq])
    · by_cases hq : ppb > 1000000
      · have e : scaB d ppb = false := by unfold scaB; rw [decide_eq_false (by omega), Bool.and_false]
        unfold scaV scaE
        rw [e]
        simp only [sf_sca, putAll, wx, wy, wz, stV, seval, IntWalk.iteOmega, IntWalk.toNatUp, reduceCtorEq]
        refine st_call (val_c G d) rfl (.inl rfl) ?_
        simp only [hv, eq_true hq, wx, wy, wz, stV, seval, IntWalk.iteOmega, IntWalk.toNatUp, reduceCtorEq]
        exact ret_d2 (by simp only [wx, wy, wz, stV, seval, IntWalk.iteOmega, IntWalk.toNatUp, reduceCtorEq]) (by simp only [wx, wy, wz, stV, seval, IntWalk.iteOmega, IntWalk.toNatUp, reduceCtorEq])
      · have hd : -1152921504606846976 ≤ d ∧ d ≤ 1152921504606846976 := of_decide_eq_true hv
        have e : scaB d ppb = true := scaB_t hd (by omega) (by omega)
        have e0 : roundI d 1000000000 false = d / 1000000000 := if_neg (by intro k; cases k.1)
        have q1 := mul_in (x := d / 1000000000) (p := ppb) (A := 1152921505) (B := 1000000) (by omega) (by omega) (by omega) (by omega) (by omega)
        have q2 := mul_in (x := d % 1000000000) (p := ppb) (A := 1000000000) (B := 1000000) (by omega) (by omega) (by omega) (by omega) (by omega)
        have er : d - d / 1000000000 * 1000000000 = d % 1000000000 := by omega
        have q3 := round_in (d % 1000000000 * ppb) (b := 1000000000) (by decide) up
        have c1 := quo_c G d 1000000000 false h1 h2 (by decide)
        rw [e0] at c1
        have c2 := quo_c G (d % 1000000000 * ppb) 1000000000 up (by omega) (by omega) (by decide)
        unfold scaV scaE scaN
        rw [if_pos e, if_pos e]
        generalize hX : d / 1000000000 * ppb = X at *
        generalize hY : d % 1000000000 * ppb = Y at *
        generalize hR : roundI Y 1000000000 up = R at *
        simp only [sf_sca, putAll, wx, wy, wz, stV, seval, IntWalk.iteOmega, IntWalk.toNatUp, reduceCtorEq]
        refine st_call (val_c G d) rfl (.inl rfl) ?_
        simp only [hv, eq_false hq, wx, wy, wz, stV, seval, IntWalk.iteOmega, IntWalk.toNatUp, reduceCtorEq]
        refine st_call (c1) rfl (.inl rfl) ?_
        simp only [hX, hY, er, wx, wy, wz, stV, seval, IntWalk.iteOmega, IntWalk.toNatUp, reduceCtorEq]
        refine st_call (c2) rfl (.inl rfl) ?_
        simp only [wx, wy, wz, stV, seval, IntWalk.iteOmega, IntWalk.toNatUp, reduceCtorEq]
        exact ret_d2 (by simp only [wx, wy, wz, stV, seval, IntWalk.iteOmega, IntWalk.toNatUp, reduceCtorEq]) (by simp only [wx, wy, wz, stV, seval, IntWalk.iteOmega, IntWalk.toNatUp, reduceCtorEq])
/-! ### Wire timestamps -/
def wirN (t : Int) : Int := t / 1048576 % 4294967296 * 4294967296 + t % 1048576 * 4096
def wirV (t : Int) : Int := if valT t = true then wirN t else 0
def wirE (t : Int) : Int := if valT t = true then 0 else 4
def sf_wir : SFn := ⟨1, 17,
  .seq (.reg [⟨(some 2), .mv (.k (.c (.d (.int .u64 0)))), none⟩,
    ⟨(some 3), .mv (.k (.c (.d (.int .i64 0)))), none⟩])
  (.seq (.seq (.reg [⟨(some 4), .mv (.t 0), none⟩,
    ⟨(some 5), .call 71 [(.t 4)] none, none⟩,
    ⟨(some 6), .un .not (.t 5), none⟩])
  (.cond (.t 6) (.seq (.reg [⟨(some 2), .mv (.k (.c (.d (.int .u64 0)))), none⟩,
     ⟨(some 3), .mv (.k (.c (.d (.int .i64 4)))), none⟩])
   (.ret))
   (.skip)))
  (.seq (.reg [⟨(some 7), .mv (.t 0), none⟩,
    ⟨(some 8), .call 61 [(.t 7)] none, none⟩,
    ⟨(some 9), .conv .u32 (.t 8), none⟩,
    ⟨(some 10), .conv .u64 (.t 9), none⟩,
    ⟨(some 11), .bin .shl (.t 10) (.k (.c (.d (.int .u64 32)))), none⟩,
    ⟨(some 12), .mv (.t 0), none⟩,
    ⟨(some 13), .call 63 [(.t 12)] none, none⟩,
    ⟨(some 14), .conv .u64 (.t 13), none⟩,
    ⟨(some 15), .bin .shl (.t 14) (.k (.c (.d (.int .u64 12)))), none⟩,
    ⟨(some 16), .bin .or (.t 11) (.t 15), none⟩,
    ⟨(some 2), .mv (.t 16), none⟩,
    ⟨(some 3), .mv (.k (.c (.d (.int .i64 0)))), none⟩])
  (.ret))),
  [(2, none), (3, none)]⟩
theorem cf_wir : compFn Try.prog { own := [], comp := [], frz := [], nils := [] } Try.f36 = some sf_wir := by kernel_rfl
theorem wir_c (G : Glob) (t : Int) (h1 : -9223372036854775808 ≤ t) (h2 : t ≤ 9223372036854775807) : Den Try.prog G 36 [.int .i64 t] (.tup [.c (.d (.int .u64 (wirV t))), .c (.d (.int .i64 (wirE t)))]) := by
  refine den_walk Try.func36 cf_wir rfl rfl ?_
  unfold wirV wirE
  cases hv : valT t
  · simp only [sf_wir, putAll, wx, wy, wz, stV, seval, IntWalk.iteOmega, IntWalk.toNatUp, reduceCtorEq]
    refine st_call (val_c G t) rfl (.inl rfl) ?_
    simp only [hv, wx, wy, wz, stV, seval, IntWalk.iteOmega, IntWalk.toNatUp, reduceCtorEq]
    exact ret_d2 (by simp only [wx, wy, wz, stV, seval, IntWalk.iteOmega, IntWalk.toNatUp, reduceCtorEq]) (by simp only [wx, wy, wz, stV, seval, IntWalk.iteOmega, IntWalk.toNatUp, reduceCtorEq])
  · have e1 := u64_orW (t / 1048576 % 4294967296) (t % 1048576 * 4096) (by omega) (by omega) (by omega) (by omega)
    have e2 : IntKind.u32.wrap (t / 1048576) = t / 1048576 % 4294967296 := IntKind.wrap_u32 _
    simp only [sf_wir, putAll, wx, wy, wz, stV, seval, IntWalk.iteOmega, IntWalk.toNatUp, reduceCtorEq]
    refine st_call (val_c G t) rfl (.inl rfl) ?_
    simp only [hv, wx, wy, wz, stV, seval, IntWalk.iteOmega, IntWalk.toNatUp, reduceCtorEq]
    refine st_call (snd_c G t) rfl (.inl rfl) ?_
    simp only [bU64, e2, wx, wy, wz, stV, seval, IntWalk.iteOmega, IntWalk.toNatUp, reduceCtorEq]
    refine st_call (prt_c G t) rfl (.inl rfl) ?_
    simp only [bU64, e1, wx, wy, wz, stV, seval, IntWalk.iteOmega, IntWalk.toNatUp, reduceCtorEq]
    unfold wirN
    exact ret_d2 (by simp only [wx, wy, wz, stV, seval, IntWalk.iteOmega, IntWalk.toNatUp, reduceCtorEq]) (by simp only [wx, wy, wz, stV, seval, IntWalk.iteOmega, IntWalk.toNatUp, reduceCtorEq])
def sf_dwn : SFn := ⟨1, 6,
  .seq (.reg [⟨(some 2), .mv (.k (.c (.d (.int .i64 0)))), none⟩])
  (.seq (.reg [⟨(some 3), .mv (.t 0), none⟩,
    ⟨(some 4), .bin .shr (.t 3) (.k (.c (.d (.int .u64 12)))), none⟩,
    ⟨(some 5), .conv .i64 (.t 4), none⟩,
    ⟨(some 2), .mv (.t 5), none⟩])
  (.ret)),
  [(2, none)]⟩
theorem cf_dwn : compFn Try.prog { own := [], comp := [], frz := [], nils := [] } Try.f98 = some sf_dwn := by kernel_rfl
theorem dwn_c (G : Glob) (w : Int) (h1 : 0 ≤ w) (h2 : w < 18446744073709551616) : Den Try.prog G 98 [.int .u64 w] (.w (.c (.d (.int .i64 (w / 4096))))) := by
  refine den_walk Try.func98 cf_dwn rfl rfl ?_
  simp only [sf_dwn, putAll, wx, wy, wz, stV, seval, IntWalk.iteOmega, IntWalk.toNatUp, reduceCtorEq, bU64]
  exact ret_d1 (by simp only [wx, wy, wz, stV, seval, IntWalk.iteOmega, IntWalk.toNatUp, reduceCtorEq])
def upV (w : Int) : Int := if w % 4096 = 0 then w / 4096 else w / 4096 + 1
def sf_upp : SFn := ⟨1, 11,
  .seq (.reg [⟨(some 2), .mv (.k (.c (.d (.int .i64 0)))), none⟩])
  (.seq (.seq (.reg [⟨(some 3), .mv (.t 0), none⟩,
    ⟨(some 4), .bin .rem (.t 3) (.k (.c (.d (.int .u64 4096)))), none⟩,
    ⟨(some 5), .bin .eql (.t 4) (.k (.c (.d (.int .u64 0)))), none⟩])
  (.cond (.t 5) (.seq (.reg [⟨(some 6), .mv (.t 0), none⟩,
     ⟨(some 7), .call 98 [(.t 6)] none, none⟩,
     ⟨(some 2), .mv (.t 7), none⟩])
   (.ret))
   (.skip)))
  (.seq (.reg [⟨(some 8), .mv (.t 0), none⟩,
    ⟨(some 9), .call 98 [(.t 8)] none, none⟩,
    ⟨(some 10), .bin .add (.t 9) (.k (.c (.d (.int .i64 1)))), none⟩,
    ⟨(some 2), .mv (.t 10), none⟩])
  (.ret))),
  [(2, none)]⟩
theorem cf_upp : compFn Try.prog { own := [], comp := [], frz := [], nils := [] } Try.f91 = some sf_upp := by kernel_rfl
theorem upp_c (G : Glob) (w : Int) (h1 : 0 ≤ w) (h2 : w < 18446744073709551616) : Den Try.prog G 91 [.int .u64 w] (.w (.c (.d (.int .i64 (upV w))))) := by
  refine den_walk Try.func91 cf_upp rfl rfl ?_
  unfold upV
  have e : w.tmod 4096 = w % 4096 := Int.tmod_eq_emod_of_nonneg h1
  by_cases k : w % 4096 = 0
  · rw [if_pos k]
    simp only [sf_upp, putAll, wx, wy, wz, stV, seval, IntWalk.iteOmega, IntWalk.toNatUp, reduceCtorEq, e, k]
    refine st_call (dwn_c G w h1 h2) rfl (.inl rfl) ?_
    simp only [wx, wy, wz, stV, seval, IntWalk.iteOmega, IntWalk.toNatUp, reduceCtorEq]
    exact ret_d1 (by simp only [wx, wy, wz, stV, seval, IntWalk.iteOmega, IntWalk.toNatUp, reduceCtorEq])
  · rw [if_neg k]
    simp only [sf_upp, putAll, wx, wy, wz, stV, seval, IntWalk.iteOmega, IntWalk.toNatUp, reduceCtorEq, e, k]
    refine st_call (dwn_c G w h1 h2) rfl (.inl rfl) ?_
    simp only [wx, wy, wz, stV, seval, IntWalk.iteOmega, IntWalk.toNatUp, reduceCtorEq]
    exact ret_d1 (by simp only [wx, wy, wz, stV, seval, IntWalk.iteOmega, IntWalk.toNatUp, reduceCtorEq])
/-! ### Delay, Units -/
def uniB (d : Int) (up : Bool) : Bool := decide (0 ≤ d ∧ roundI d 16 up ≤ 4294967295)
def uniV (d : Int) (up : Bool) : Int := if uniB d up = true then roundI d 16 up else 0
def uniE (d : Int) (up : Bool) : Int := if uniB d up = true then 0 else 4
theorem round16 (d : Int) (up : Bool) : d / 16 ≤ roundI d 16 up ∧ roundI d 16 up ≤ d / 16 + 1 := by
  unfold roundI; split <;> omega
end Go.Proofs.Ytjebhdadegfbdaa
set_option linter.unusedVariables false
set_option linter.unusedSimpArgs false
namespace Go.Proofs.Ytjebhdadegfbdaa
open Go.RowKit

theorem okP_v (a b : Int) : okP (a, b) = (valT a && valT b && decide (a ≤ b)) := by
  unfold okP valT
  rw [← Bool.decide_and, ← Bool.decide_and]
  apply decide_eq_decide.2
  omega
theorem okP_i {a b : Int} (h : okP (a, b) = true) : -1152921504606846976 ≤ a ∧ b ≤ 1152921504606846976 ∧ a ≤ b := okP_t h
theorem okP_f {a b : Int} (h : okP (a, b) = false) : ¬ (-1152921504606846976 ≤ a ∧ b ≤ 1152921504606846976 ∧ a ≤ b) := of_decide_eq_false h
theorem okP_d {a b : Int} (h : -1152921504606846976 ≤ a ∧ b ≤ 1152921504606846976 ∧ a ≤ b) : okP (a, b) = true := decide_eq_true h
theorem okP_n {a b : Int} (h : ¬ (-1152921504606846976 ≤ a ∧ b ≤ 1152921504606846976 ∧ a ≤ b)) : okP (a, b) = false := decide_eq_false h
def sf_rsv : SFn := ⟨1, 18,
  .seq (.reg [⟨(some 1), .box .roBox (.t 0), none⟩,
    ⟨(some 2), .mv (.k (.c (.d (.bool false)))), none⟩])
  (.seq (.reg [⟨(some 3), .fieldAddr 0 (.t 1), none⟩,
    ⟨(some 4), .load .sc (.t 3), none⟩,
    ⟨(some 5), .call 81 [(.t 4)] none, none⟩,
    ⟨(some 6), .mv (.t 5), none⟩,
    ⟨(some 7), .fieldAddr 1 (.t 1), (some (6, true))⟩,
    ⟨(some 8), .load .sc (.t 7), (some (6, true))⟩,
    ⟨(some 9), .call 81 [(.t 8)] none, (some (6, true))⟩,
    ⟨(some 10), .pick (.t 6) (.t 9) (.k (.c (.d (.bool false)))), none⟩,
    ⟨(some 11), .mv (.t 10), none⟩,
    ⟨(some 12), .fieldAddr 0 (.t 1), (some (11, true))⟩,
    ⟨(some 13), .load .sc (.t 12), (some (11, true))⟩,
    ⟨(some 14), .fieldAddr 1 (.t 1), (some (11, true))⟩,
    ⟨(some 15), .load .sc (.t 14), (some (11, true))⟩,
    ⟨(some 16), .bin .leq (.t 13) (.t 15), (some (11, true))⟩,
    ⟨(some 17), .pick (.t 11) (.t 16) (.k (.c (.d (.bool false)))), none⟩,
    ⟨(some 2), .mv (.t 17), none⟩])
  (.ret)),
  [(2, none)]⟩
theorem cf_rsv : compFn Try.prog { own := [], comp := [], frz := [], nils := [] } Try.f51 = some sf_rsv := by kernel_rfl
theorem rsv_c (G : Glob) (a b : Int) : Den Try.prog G 51 [.agg [.int .i64 a, .int .i64 b]] (.w (.c (.d (.bool (okP (a, b)))))) := by
  refine den_walk Try.func51 cf_rsv rfl rfl ?_
  rw [okP_v]
  cases h1 : valT a
  · simp only [sf_rsv, putAll, wx, wy, wz, stV, seval, IntWalk.iteOmega, IntWalk.toNatUp, reduceCtorEq]
    refine st_call (rval_c G a) rfl (.inl rfl) ?_
    simp only [h1, wx, wy, wz, stV, seval, IntWalk.iteOmega, IntWalk.toNatUp, reduceCtorEq]
    exact ret_d1 (by simp only [wx, wy, wz, stV, seval, IntWalk.iteOmega, IntWalk.toNatUp, reduceCtorEq])
  · cases h2 : valT b
    · simp only [sf_rsv, putAll, wx, wy, wz, stV, seval, IntWalk.iteOmega, IntWalk.toNatUp, reduceCtorEq]
      refine st_call (rval_c G a) rfl (.inl rfl) ?_
      simp only [h1, wx, wy, wz, stV, seval, IntWalk.iteOmega, IntWalk.toNatUp, reduceCtorEq]
      refine st_call (rval_c G b) rfl (.inl rfl) ?_
      simp only [h2, wx, wy, wz, stV, seval, IntWalk.iteOmega, IntWalk.toNatUp, reduceCtorEq]
      exact ret_d1 (by simp only [wx, wy, wz, stV, seval, IntWalk.iteOmega, IntWalk.toNatUp, reduceCtorEq])
    · by_cases h3 : a ≤ b
      · rw [decide_eq_true h3]
        simp only [sf_rsv, putAll, wx, wy, wz, stV, seval, IntWalk.iteOmega, IntWalk.toNatUp, reduceCtorEq]
        refine st_call (rval_c G a) rfl (.inl rfl) ?_
        simp only [h1, wx, wy, wz, stV, seval, IntWalk.iteOmega, IntWalk.toNatUp, reduceCtorEq]
        refine st_call (rval_c G b) rfl (.inl rfl) ?_
        simp only [h2, wx, wy, wz, stV, seval, IntWalk.iteOmega, IntWalk.toNatUp, reduceCtorEq]
        exact ret_d1 (by simp only [wx, wy, wz, stV, seval, IntWalk.iteOmega, IntWalk.toNatUp, reduceCtorEq])
      · rw [decide_eq_false h3]
        simp only [sf_rsv, putAll, wx, wy, wz, stV, seval, IntWalk.iteOmega, IntWalk.toNatUp, reduceCtorEq]
        refine st_call (rval_c G a) rfl (.inl rfl) ?_
        simp only [h1, wx, wy, wz, stV, seval, IntWalk.iteOmega, IntWalk.toNatUp, reduceCtorEq]
        refine st_call (rval_c G b) rfl (.inl rfl) ?_
        simp only [h2, wx, wy, wz, stV, seval, IntWalk.iteOmega, IntWalk.toNatUp, reduceCtorEq]
        exact ret_d1 (by simp only [wx, wy, wz, stV, seval, IntWalk.iteOmega, IntWalk.toNatUp, reduceCtorEq])
/-! ### Holds, Inside, Width, Middle -/
def hldB (a b t : Int) : Bool := okP (a, b) && decide (a ≤ t ∧ t ≤ b)
def insB (a b c d : Int) : Bool := okP (a, b) && okP (c, d) && decide (c ≤ a ∧ b ≤ d)
def widV (a b : Int) : Int := if okP (a, b) = true then b - a else 0
def midV (a b : Int) : Int := if okP (a, b) = true then (a + b) / 2 else 0
def sf_rhld : SFn := ⟨2, 19,
  .seq (.reg [⟨(some 2), .box .roBox (.t 0), none⟩,
    ⟨(some 4), .mv (.k (.c (.d (.bool false)))), none⟩])
  (.seq (.reg [⟨(some 5), .load (.ag 2) (.t 2), none⟩,
    ⟨(some 6), .call 51 [(.t 5)] none, none⟩,
    ⟨(some 7), .mv (.t 6), none⟩,
    ⟨(some 8), .fieldAddr 0 (.t 2), (some (7, true))⟩,
    ⟨(some 9), .load .sc (.t 8), (some (7, true))⟩,
    ⟨(some 10), .mv (.t 1), (some (7, true))⟩,
    ⟨(some 11), .bin .leq (.t 9) (.t 10), (some (7, true))⟩,
    ⟨(some 12), .pick (.t 7) (.t 11) (.k (.c (.d (.bool false)))), none⟩,
    ⟨(some 13), .mv (.t 12), none⟩,
    ⟨(some 14), .mv (.t 1), (some (13, true))⟩,
    ⟨(some 15), .fieldAddr 1 (.t 2), (some (13, true))⟩,
    ⟨(some 16), .load .sc (.t 15), (some (13, true))⟩,
    ⟨(some 17), .bin .leq (.t 14) (.t 16), (some (13, true))⟩,
    ⟨(some 18), .pick (.t 13) (.t 17) (.k (.c (.d (.bool false)))), none⟩,
    ⟨(some 4), .mv (.t 18), none⟩])
  (.ret)),
  [(4, none)]⟩
theorem cf_rhld : compFn Try.prog { own := [], comp := [], frz := [], nils := [] } Try.f28 = some sf_rhld := by kernel_rfl
theorem rhld_c (G : Glob) (a b t : Int) : Den Try.prog G 28 [.agg [.int .i64 a, .int .i64 b], .int .i64 t] (.w (.c (.d (.bool (hldB a b t))))) := by
  refine den_walk Try.func28 cf_rhld rfl rfl ?_
  unfold hldB
  cases hv : okP (a, b)
  · simp only [sf_rhld, putAll, wx, wy, wz, stV, seval, IntWalk.iteOmega, IntWalk.toNatUp, reduceCtorEq]
    refine st_call (rsv_c G a b) rfl (.inl rfl) ?_
    simp only [hv, wx, wy, wz, stV, seval, IntWalk.iteOmega, IntWalk.toNatUp, reduceCtorEq]
    exact ret_d1 (by simp only [wx, wy, wz, stV, seval, IntWalk.iteOmega, IntWalk.toNatUp, reduceCtorEq])
  · by_cases h1 : a ≤ t
    · by_cases h2 : t ≤ b
      · rw [decide_eq_true ⟨h1, h2⟩]
        simp only [sf_rhld, putAll, wx, wy, wz, stV, seval, IntWalk.iteOmega, IntWalk.toNatUp, reduceCtorEq]
        refine st_call (rsv_c G a b) rfl (.inl rfl) ?_
        simp only [hv, wx, wy, wz, stV, seval, IntWalk.iteOmega, IntWalk.toNatUp, reduceCtorEq]
        exact ret_d1 (by simp only [wx, wy, wz, stV, seval, IntWalk.iteOmega, IntWalk.toNatUp, reduceCtorEq])
      · rw [decide_eq_false (by omega)]
        simp only [sf_rhld, putAll, wx, wy, wz, stV, seval, IntWalk.iteOmega, IntWalk.toNatUp, reduceCtorEq]
        refine st_call (rsv_c G a b) rfl (.inl rfl) ?_
        simp only [hv, wx, wy, wz, stV, seval, IntWalk.iteOmega, IntWalk.toNatUp, reduceCtorEq]
        exact ret_d1 (by simp only [wx, wy, wz, stV, seval, IntWalk.iteOmega, IntWalk.toNatUp, reduceCtorEq])
    · rw [decide_eq_false (by omega)]
      simp only [sf_rhld, putAll, wx, wy, wz, stV, seval, IntWalk.iteOmega, IntWalk.toNatUp, reduceCtorEq]
      refine st_call (rsv_c G a b) rfl (.inl rfl) ?_
      simp only [hv, wx, wy, wz, stV, seval, IntWalk.iteOmega, IntWalk.toNatUp, reduceCtorEq]
      exact ret_d1 (by simp only [wx, wy, wz, stV, seval, IntWalk.iteOmega, IntWalk.toNatUp, reduceCtorEq])
def sf_rins : SFn := ⟨2, 25,
  .seq (.reg [⟨(some 2), .box .roBox (.t 0), none⟩,
    ⟨(some 3), .box .roBox (.t 1), none⟩,
    ⟨(some 4), .mv (.k (.c (.d (.bool false)))), none⟩])
  (.seq (.reg [⟨(some 5), .load (.ag 2) (.t 2), none⟩,
    ⟨(some 6), .call 51 [(.t 5)] none, none⟩,
    ⟨(some 7), .mv (.t 6), none⟩,
    ⟨(some 8), .load (.ag 2) (.t 3), (some (7, true))⟩,
    ⟨(some 9), .call 51 [(.t 8)] none, (some (7, true))⟩,
    ⟨(some 10), .pick (.t 7) (.t 9) (.k (.c (.d (.bool false)))), none⟩,
    ⟨(some 11), .mv (.t 10), none⟩,
    ⟨(some 12), .fieldAddr 0 (.t 3), (some (11, true))⟩,
    ⟨(some 13), .load .sc (.t 12), (some (11, true))⟩,
    ⟨(some 14), .fieldAddr 0 (.t 2), (some (11, true))⟩,
    ⟨(some 15), .load .sc (.t 14), (some (11, true))⟩,
    ⟨(some 16), .bin .leq (.t 13) (.t 15), (some (11, true))⟩,
    ⟨(some 17), .pick (.t 11) (.t 16) (.k (.c (.d (.bool false)))), none⟩,
    ⟨(some 18), .mv (.t 17), none⟩,
    ⟨(some 19), .fieldAddr 1 (.t 2), (some (18, true))⟩,
    ⟨(some 20), .load .sc (.t 19), (some (18, true))⟩,
    ⟨(some 21), .fieldAddr 1 (.t 3), (some (18, true))⟩,
    ⟨(some 22), .load .sc (.t 21), (some (18, true))⟩,
    ⟨(some 23), .bin .leq (.t 20) (.t 22), (some (18, true))⟩,
    ⟨(some 24), .pick (.t 18) (.t 23) (.k (.c (.d (.bool false)))), none⟩,
    ⟨(some 4), .mv (.t 24), none⟩])
  (.ret)),
  [(4, none)]⟩
theorem cf_rins : compFn Try.prog { own := [], comp := [], frz := [], nils := [] } Try.f29 = some sf_rins := by kernel_rfl
theorem rins_c (G : Glob) (a b c d : Int) : Den Try.prog G 29 [.agg [.int .i64 a, .int .i64 b], .agg [.int .i64 c, .int .i64 d]] (.w (.c (.d (.bool (insB a b c d))))) := by
  refine den_walk Try.func29 cf_rins rfl rfl ?_
  unfold insB
  cases hv : okP (a, b)
  · simp only [sf_rins, putAll, wx, wy, wz, stV, seval, IntWalk.iteOmega, IntWalk.toNatUp, reduceCtorEq]
    refine st_call (rsv_c G a b) rfl (.inl rfl) ?_
    simp only [hv, wx, wy, wz, stV, seval, IntWalk.iteOmega, IntWalk.toNatUp, reduceCtorEq]
    exact ret_d1 (by simp only [wx, wy, wz, stV, seval, IntWalk.iteOmega, IntWalk.toNatUp, reduceCtorEq])
  · cases hv2 : okP (c, d)
    · simp only [sf_rins, putAll, wx, wy, wz, stV, seval, IntWalk.iteOmega, IntWalk.toNatUp, reduceCtorEq]
      refine st_call (rsv_c G a b) rfl (.inl rfl) ?_
      simp only [hv, wx, wy, wz, stV, seval, IntWalk.iteOmega, IntWalk.toNatUp, reduceCtorEq]
      refine st_call (rsv_c G c d) rfl (.inl rfl) ?_
      simp only [hv2, wx, wy, wz, stV, seval, IntWalk.iteOmega, IntWalk.toNatUp, reduceCtorEq]
      exact ret_d1 (by simp only [wx, wy, wz, stV, seval, IntWalk.iteOmega, IntWalk.toNatUp, reduceCtorEq])
    · by_cases h1 : c ≤ a
      · by_cases h2 : b ≤ d
        · rw [decide_eq_true ⟨h1, h2⟩]
          simp only [sf_rins, putAll, wx, wy, wz, stV, seval, IntWalk.iteOmega, IntWalk.toNatUp, reduceCtorEq]
          refine st_call (rsv_c G a b) rfl (.inl rfl) ?_
          simp only [hv, wx, wy, wz, stV, seval, IntWalk.iteOmega, IntWalk.toNatUp, reduceCtorEq]
          refine st_call (rsv_c G c d) rfl (.inl rfl) ?_
          simp only [hv2, wx, wy, wz, stV, seval, IntWalk.iteOmega, IntWalk.toNatUp, reduceCtorEq]
          exact ret_d1 (by simp only [wx, wy, wz, stV, seval, IntWalk.iteOmega, IntWalk.toNatUp, reduceCtorEq])
        · rw [decide_eq_false (by omega)]
          simp only [sf_rins, putAll, wx, wy, wz, stV, seval, IntWalk.iteOmega, IntWalk.toNatUp, reduceCtorEq]
          refine st_call (rsv_c G a b) rfl (.inl rfl) ?_
          simp only [hv, wx, wy, wz, stV, seval, IntWalk.iteOmega, IntWalk.toNatUp, reduceCtorEq]
          refine st_call (rsv_c G c d) rfl (.inl rfl) ?_
          simp only [hv2, wx, wy, wz, stV, seval, IntWalk.iteOmega, IntWalk.toNatUp, reduceCtorEq]
          exact ret_d1 (by simp only [wx, wy, wz, stV, seval, IntWalk.iteOmega, IntWalk.toNatUp, reduceCtorEq])
      · rw [decide_eq_false (by omega)]
        simp only [sf_rins, putAll, wx, wy, wz, stV, seval, IntWalk.iteOmega, IntWalk.toNatUp, reduceCtorEq]
        refine st_call (rsv_c G a b) rfl (.inl rfl) ?_
        simp only [hv, wx, wy, wz, stV, seval, IntWalk.iteOmega, IntWalk.toNatUp, reduceCtorEq]
        refine st_call (rsv_c G c d) rfl (.inl rfl) ?_
        simp only [hv2, wx, wy, wz, stV, seval, IntWalk.iteOmega, IntWalk.toNatUp, reduceCtorEq]
        exact ret_d1 (by simp only [wx, wy, wz, stV, seval, IntWalk.iteOmega, IntWalk.toNatUp, reduceCtorEq])
/-! ### Meet, Hull -/
theorem max2 (a c : Int) : [c].foldl (fun x y => if y > x then y else x) a = max a c := by
  simp only [List.foldl_cons, List.foldl_nil]
  rw [Int.max_def]; split <;> split <;> omega
theorem min2 (a c : Int) : [c].foldl (fun x y => if y < x then y else x) a = min a c := by
  simp only [List.foldl_cons, List.foldl_nil]
  rw [Int.min_def]; split <;> split <;> omega
def spA (k : Bool) (x y : Int) : D := .agg [.int .i64 (if k = true then x else 0), .int .i64 (if k = true then y else 0)]
def mtB (a b c d : Int) : Bool := meetB (a, b) (c, d)
def hulB (a b c d : Int) : Bool := okP (a, b) && okP (c, d)
/-! ### Sums -/
def sf_rmad : SFn := ⟨2, 15,
  .seq (.reg [⟨(some 4), .alloc [(.d (.int .i64 0)), (.d (.int .i64 0))], none⟩,
    ⟨(some 5), .mv (.k (.c (.d (.int .i64 0)))), none⟩])
  (.seq (.reg [⟨(some 7), .mv (.t 0), none⟩,
    ⟨(some 8), .mv (.t 1), none⟩,
    ⟨(some 9), .build [(.d (.int .i64 0)), (.d (.int .i64 0))] [(0, 1, (.t 7)), (1, 1, (.t 8))], none⟩,
    ⟨(some 6), .alloc [(.d (.int .i64 0)), (.d (.int .i64 0))], none⟩,
    ⟨none, .store (.ag 2) (.t 6) (.t 9), none⟩])
  (.seq (.seq (.reg [⟨(some 10), .load (.ag 2) (.t 6), none⟩,
    ⟨(some 11), .call 51 [(.t 10)] none, none⟩,
    ⟨(some 12), .un .not (.t 11), none⟩])
  (.cond (.t 12) (.seq (.reg [⟨(some 13), .build [(.d (.int .i64 0)), (.d (.int .i64 0))] [], none⟩,
     ⟨none, .store (.ag 2) (.t 4) (.t 13), none⟩,
     ⟨(some 5), .mv (.k (.c (.d (.int .i64 4)))), none⟩])
   (.ret))
   (.skip)))
  (.seq (.reg [⟨(some 14), .load (.ag 2) (.t 6), none⟩,
    ⟨none, .store (.ag 2) (.t 4) (.t 14), none⟩,
    ⟨(some 5), .mv (.k (.c (.d (.int .i64 0)))), none⟩])
  (.ret)))),
  [(4, (some (.ag 2))), (5, none)]⟩
theorem cf_rmad : compFn Try.prog { own := [], comp := [], frz := [], nils := [] } Try.f82 = some sf_rmad := by kernel_rfl
theorem rmad_c (G : Glob) (a b : Int) : Den Try.prog G 82 [.int .i64 a, .int .i64 b] (.tup [.c (.d (spA (okP (a, b)) a b)), .c (.d (.int .i64 (if okP (a, b) = true then 0 else 4)))]) := by
  refine den_walk Try.func82 cf_rmad rfl rfl ?_
  unfold spA
  cases hv : okP (a, b)
  · simp only [sf_rmad, putAll, wx, wy, wz, stV, seval, IntWalk.iteOmega, IntWalk.toNatUp, reduceCtorEq]
    refine st_call (rsv_c G a b) rfl (.inl rfl) ?_
    simp only [hv, wx, wy, wz, stV, seval, IntWalk.iteOmega, IntWalk.toNatUp, reduceCtorEq]
    exact ret_d2 (by simp only [wx, wy, wz, stV, seval, IntWalk.iteOmega, IntWalk.toNatUp, reduceCtorEq]) (by simp only [wx, wy, wz, stV, seval, IntWalk.iteOmega, IntWalk.toNatUp, reduceCtorEq])
  · simp only [sf_rmad, putAll, wx, wy, wz, stV, seval, IntWalk.iteOmega, IntWalk.toNatUp, reduceCtorEq]
    refine st_call (rsv_c G a b) rfl (.inl rfl) ?_
    simp only [hv, wx, wy, wz, stV, seval, IntWalk.iteOmega, IntWalk.toNatUp, reduceCtorEq]
    exact ret_d2 (by simp only [wx, wy, wz, stV, seval, IntWalk.iteOmega, IntWalk.toNatUp, reduceCtorEq]) (by simp only [wx, wy, wz, stV, seval, IntWalk.iteOmega, IntWalk.toNatUp, reduceCtorEq])
/-- A span made of sums, if two spans are valid. -/
def smsB (a b c d x y : Int) : Bool := okP (a, b) && okP (c, d) && okP (x, y)
def sumE (a b c d x y : Int) : Int := if (okP (a, b) && okP (c, d)) = true then (if okP (x, y) = true then 0 else 4) else 3
def sf_radd : SFn := ⟨2, 28,
  .seq (.reg [⟨(some 2), .box .roBox (.t 0), none⟩,
    ⟨(some 3), .box .roBox (.t 1), none⟩,
    ⟨(some 4), .alloc [(.d (.int .i64 0)), (.d (.int .i64 0))], none⟩,
    ⟨(some 5), .mv (.k (.c (.d (.int .i64 0)))), none⟩])
  (.seq (.seq (.reg [⟨(some 6), .load (.ag 2) (.t 2), none⟩,
    ⟨(some 7), .call 51 [(.t 6)] none, none⟩,
    ⟨(some 8), .un .not (.t 7), none⟩,
    ⟨(some 9), .mv (.t 8), none⟩,
    ⟨(some 10), .load (.ag 2) (.t 3), (some (9, false))⟩,
    ⟨(some 11), .call 51 [(.t 10)] none, (some (9, false))⟩,
    ⟨(some 12), .un .not (.t 11), (some (9, false))⟩,
    ⟨(some 13), .pick (.t 9) (.k (.c (.d (.bool true)))) (.t 12), none⟩])
  (.cond (.t 13) (.seq (.reg [⟨(some 14), .build [(.d (.int .i64 0)), (.d (.int .i64 0))] [], none⟩,
     ⟨none, .store (.ag 2) (.t 4) (.t 14), none⟩,
     ⟨(some 5), .mv (.k (.c (.d (.int .i64 3)))), none⟩])
   (.ret))
   (.skip)))
  (.seq (.reg [⟨(some 15), .fieldAddr 0 (.t 2), none⟩,
    ⟨(some 16), .load .sc (.t 15), none⟩,
    ⟨(some 17), .fieldAddr 0 (.t 3), none⟩,
    ⟨(some 18), .load .sc (.t 17), none⟩,
    ⟨(some 19), .bin .add (.t 16) (.t 18), none⟩,
    ⟨(some 20), .fieldAddr 1 (.t 2), none⟩,
    ⟨(some 21), .load .sc (.t 20), none⟩,
    ⟨(some 22), .fieldAddr 1 (.t 3), none⟩,
    ⟨(some 23), .load .sc (.t 22), none⟩,
    ⟨(some 24), .bin .add (.t 21) (.t 23), none⟩,
    ⟨(some 25), .call 82 [(.t 19), (.t 24)] none, none⟩,
    ⟨(some 26), .extract (.t 25) 0, none⟩,
    ⟨(some 27), .extract (.t 25) 1, none⟩,
    ⟨none, .store (.ag 2) (.t 4) (.t 26), none⟩,
    ⟨(some 5), .mv (.t 27), none⟩])
  (.ret))),
  [(4, (some (.ag 2))), (5, none)]⟩
theorem cf_radd : compFn Try.prog { own := [], comp := [], frz := [], nils := [] } Try.f52 = some sf_radd := by kernel_rfl
theorem radd_c (G : Glob) (a b c d : Int) : Den Try.prog G 52 [.agg [.int .i64 a, .int .i64 b], .agg [.int .i64 c, .int .i64 d]] (.tup [.c (.d (spA (smsB a b c d (a + c) (b + d)) (a + c) (b + d))), .c (.d (.int .i64 (sumE a b c d (a + c) (b + d))))]) := by
  refine den_walk Try.func52 cf_radd rfl rfl ?_
  unfold smsB sumE
  cases hv : okP (a, b)
  · simp only [sf_radd, putAll, wx, wy, wz, stV, seval, IntWalk.iteOmega, IntWalk.toNatUp, reduceCtorEq]
    refine st_call (rsv_c G a b) rfl (.inl rfl) ?_
    simp only [hv, wx, wy, wz, stV, seval, IntWalk.iteOmega, IntWalk.toNatUp, reduceCtorEq]
    unfold spA
    exact ret_d2 (by simp only [wx, wy, wz, stV, seval, IntWalk.iteOmega, IntWalk.toNatUp, reduceCtorEq]) (by simp only [wx, wy, wz, stV, seval, IntWalk.iteOmega, IntWalk.toNatUp, reduceCtorEq])
  · cases hv2 : okP (c, d)
    · simp only [sf_radd, putAll, wx, wy, wz, stV, seval, IntWalk.iteOmega, IntWalk.toNatUp, reduceCtorEq]
      refine st_call (rsv_c G a b) rfl (.inl rfl) ?_
      simp only [hv, wx, wy, wz, stV, seval, IntWalk.iteOmega, IntWalk.toNatUp, reduceCtorEq]
      refine st_call (rsv_c G c d) rfl (.inl rfl) ?_
      simp only [hv2, wx, wy, wz, stV, seval, IntWalk.iteOmega, IntWalk.toNatUp, reduceCtorEq]
      unfold spA
      exact ret_d2 (by simp only [wx, wy, wz, stV, seval, IntWalk.iteOmega, IntWalk.toNatUp, reduceCtorEq]) (by simp only [wx, wy, wz, stV, seval, IntWalk.iteOmega, IntWalk.toNatUp, reduceCtorEq])
    · obtain ⟨h1, h2, h3⟩ := okP_i hv
      obtain ⟨k1, k2, k3⟩ := okP_i hv2
      have cm := rmad_c G (a + c) (b + d)
      simp only [sf_radd, putAll, wx, wy, wz, stV, seval, IntWalk.iteOmega, IntWalk.toNatUp, reduceCtorEq]
      refine st_call (rsv_c G a b) rfl (.inl rfl) ?_
      simp only [hv, wx, wy, wz, stV, seval, IntWalk.iteOmega, IntWalk.toNatUp, reduceCtorEq]
      refine st_call (rsv_c G c d) rfl (.inl rfl) ?_
      simp only [hv2, wx, wy, wz, stV, seval, IntWalk.iteOmega, IntWalk.toNatUp, reduceCtorEq]
      refine st_call (cm) rfl (.inl rfl) ?_
      simp only [spA, wx, wy, wz, stV, seval, IntWalk.iteOmega, IntWalk.toNatUp, reduceCtorEq]
      exact ret_d2 (by simp only [wx, wy, wz, stV, seval, IntWalk.iteOmega, IntWalk.toNatUp, reduceCtorEq]) (by simp only [wx, wy, wz, stV, seval, IntWalk.iteOmega, IntWalk.toNatUp, reduceCtorEq])
def sf_rsbs : SFn := ⟨2, 28,
  .seq (.reg [⟨(some 2), .box .roBox (.t 0), none⟩,
    ⟨(some 3), .box .roBox (.t 1), none⟩,
    ⟨(some 4), .alloc [(.d (.int .i64 0)), (.d (.int .i64 0))], none⟩,
    ⟨(some 5), .mv (.k (.c (.d (.int .i64 0)))), none⟩])
  (.seq (.seq (.reg [⟨(some 6), .load (.ag 2) (.t 2), none⟩,
    ⟨(some 7), .call 51 [(.t 6)] none, none⟩,
    ⟨(some 8), .un .not (.t 7), none⟩,
    ⟨(some 9), .mv (.t 8), none⟩,
    ⟨(some 10), .load (.ag 2) (.t 3), (some (9, false))⟩,
    ⟨(some 11), .call 51 [(.t 10)] none, (some (9, false))⟩,
    ⟨(some 12), .un .not (.t 11), (some (9, false))⟩,
    ⟨(some 13), .pick (.t 9) (.k (.c (.d (.bool true)))) (.t 12), none⟩])
  (.cond (.t 13) (.seq (.reg [⟨(some 14), .build [(.d (.int .i64 0)), (.d (.int .i64 0))] [], none⟩,
     ⟨none, .store (.ag 2) (.t 4) (.t 14), none⟩,
     ⟨(some 5), .mv (.k (.c (.d (.int .i64 3)))), none⟩])
   (.ret))
   (.skip)))
  (.seq (.reg [⟨(some 15), .fieldAddr 0 (.t 2), none⟩,
    ⟨(some 16), .load .sc (.t 15), none⟩,
    ⟨(some 17), .fieldAddr 1 (.t 3), none⟩,
    ⟨(some 18), .load .sc (.t 17), none⟩,
    ⟨(some 19), .bin .sub (.t 16) (.t 18), none⟩,
    ⟨(some 20), .fieldAddr 1 (.t 2), none⟩,
    ⟨(some 21), .load .sc (.t 20), none⟩,
    ⟨(some 22), .fieldAddr 0 (.t 3), none⟩,
    ⟨(some 23), .load .sc (.t 22), none⟩,
    ⟨(some 24), .bin .sub (.t 21) (.t 23), none⟩,
    ⟨(some 25), .call 82 [(.t 19), (.t 24)] none, none⟩,
    ⟨(some 26), .extract (.t 25) 0, none⟩,
    ⟨(some 27), .extract (.t 25) 1, none⟩,
    ⟨none, .store (.ag 2) (.t 4) (.t 26), none⟩,
    ⟨(some 5), .mv (.t 27), none⟩])
  (.ret))),
  [(4, (some (.ag 2))), (5, none)]⟩
theorem cf_rsbs : compFn Try.prog { own := [], comp := [], frz := [], nils := [] } Try.f54 = some sf_rsbs := by kernel_rfl
theorem rsbs_c (G : Glob) (a b c d : Int) : Den Try.prog G 54 [.agg [.int .i64 a, .int .i64 b], .agg [.int .i64 c, .int .i64 d]] (.tup [.c (.d (spA (smsB a b c d (a - d) (b - c)) (a - d) (b - c))), .c (.d (.int .i64 (sumE a b c d (a - d) (b - c))))]) := by
  refine den_walk Try.func54 cf_rsbs rfl rfl ?_
  unfold smsB sumE
  cases hv : okP (a, b)
  · simp only [sf_rsbs, putAll, wx, wy, wz, stV, seval, IntWalk.iteOmega, IntWalk.toNatUp, reduceCtorEq]
    refine st_call (rsv_c G a b) rfl (.inl rfl) ?_
    simp only [hv, wx, wy, wz, stV, seval, IntWalk.iteOmega, IntWalk.toNatUp, reduceCtorEq]
    unfold spA
    exact ret_d2 (by simp only [wx, wy, wz, stV, seval, IntWalk.iteOmega, IntWalk.toNatUp, reduceCtorEq]) (by simp only [wx, wy, wz, stV, seval, IntWalk.iteOmega, IntWalk.toNatUp, reduceCtorEq])
  · cases hv2 : okP (c, d)
    · simp only [sf_rsbs, putAll, wx, wy, wz, stV, seval, IntWalk.iteOmega, IntWalk.toNatUp, reduceCtorEq]
      refine st_call (rsv_c G a b) rfl (.inl rfl) ?_
      simp only [hv, wx, wy, wz, stV, seval, IntWalk.iteOmega, IntWalk.toNatUp, reduceCtorEq]
      refine st_call (rsv_c G c d) rfl (.inl rfl) ?_
      simp only [hv2, wx, wy, wz, stV, seval, IntWalk.iteOmega, IntWalk.toNatUp, reduceCtorEq]
      unfold spA
      exact ret_d2 (by simp only [wx, wy, wz, stV, seval, IntWalk.iteOmega, IntWalk.toNatUp, reduceCtorEq]) (by simp only [wx, wy, wz, stV, seval, IntWalk.iteOmega, IntWalk.toNatUp, reduceCtorEq])
    · obtain ⟨h1, h2, h3⟩ := okP_i hv
      obtain ⟨k1, k2, k3⟩ := okP_i hv2
      have cm := rmad_c G (a - d) (b - c)
      simp only [sf_rsbs, putAll, wx, wy, wz, stV, seval, IntWalk.iteOmega, IntWalk.toNatUp, reduceCtorEq]
      refine st_call (rsv_c G a b) rfl (.inl rfl) ?_
      simp only [hv, wx, wy, wz, stV, seval, IntWalk.iteOmega, IntWalk.toNatUp, reduceCtorEq]
      refine st_call (rsv_c G c d) rfl (.inl rfl) ?_
      simp only [hv2, wx, wy, wz, stV, seval, IntWalk.iteOmega, IntWalk.toNatUp, reduceCtorEq]
      refine st_call (cm) rfl (.inl rfl) ?_
      simp only [spA, wx, wy, wz, stV, seval, IntWalk.iteOmega, IntWalk.toNatUp, reduceCtorEq]
      exact ret_d2 (by simp only [wx, wy, wz, stV, seval, IntWalk.iteOmega, IntWalk.toNatUp, reduceCtorEq]) (by simp only [wx, wy, wz, stV, seval, IntWalk.iteOmega, IntWalk.toNatUp, reduceCtorEq])
def shfB (a b d : Int) : Bool := okP (a, b) && valT d && okP (a + d, b + d)
def shfE (a b d : Int) : Int := if okP (a, b) = true then (if (valT d && okP (a + d, b + d)) = true then 0 else 4) else 3
def groK (x y : Int) : Bool := decide (0 ≤ x ∧ x ≤ 1152921504606846976 ∧ 0 ≤ y ∧ y ≤ 1152921504606846976)
def groB (a b x y : Int) : Bool := okP (a, b) && groK x y && okP (a - x, b + y)
def groE (a b x y : Int) : Int := if okP (a, b) = true then (if (groK x y && okP (a - x, b + y)) = true then 0 else 4) else 3
end Go.Proofs.Ytjebhdadegfbdaa
set_option linter.unusedVariables false
set_option linter.unusedSimpArgs false
namespace Go.Proofs.Ytjebhdadegfbdaa
open Go.RowKit

/-! ### Rounded quotients -/
theorem round_dnQ (a : Int) {b : Int} : roundI a b false = a / b := by
  unfold roundI; rw [if_neg (by simp)]
theorem round_upQ (a : Int) {b : Int} (h : 0 < b) : roundI a b true = upQ a b := by
  have h5 : a.tmod b = 0 ↔ a % b = 0 := by rw [← Int.dvd_iff_tmod_eq_zero, Int.dvd_iff_emod_eq_zero]
  have e1 := Int.emod_add_mul_ediv a b
  have e2 := Int.emod_nonneg a (show b ≠ 0 by omega)
  have e3 := Int.emod_lt_of_pos a h
  unfold roundI upQ
  by_cases hz : a % b = 0
  · rw [if_neg (by rw [h5.2 hz]; simp)]
    have : -a = b * -(a / b) := by rw [Int.mul_neg]; omega
    rw [this, Int.mul_ediv_cancel_left _ (by omega)]; omega
  · rw [if_pos ⟨rfl, fun e => hz (h5.1 e)⟩]
    have key : (b - a % b) + b * (-(a / b) - 1) = -a := by rw [Int.mul_sub, Int.mul_neg]; omega
    have := (Int.ediv_emod_unique (a := -a) h (r := b - a % b) (q := -(a / b) - 1)).2 ⟨by omega, by omega, by omega⟩
    omega
theorem ratio_I (a b : Int) {c : Int} (hc : 0 < c) (up : Bool) : a / c * b + roundI ((a - a / c * c) * b) c up = if up = true then upQ (a * b) c else a * b / c := by
  cases up
  · rw [round_dnQ, ratio_dn a b hc]; rfl
  · rw [round_upQ _ hc, ratio_up a b hc]; rfl
theorem emod_sub (a c : Int) : a - a / c * c = a % c := by
  have := Int.emod_add_mul_ediv a c
  rw [Int.mul_comm] at this; omega
theorem sca_dn (e p : Int) : scaN e p false = e * p / 1000000000 := by
  unfold scaN
  rw [← emod_sub, ratio_I e p (by decide) false]; rfl
theorem sca_up (e p : Int) : scaN e p true = upQ (e * p) 1000000000 := by
  unfold scaN
  rw [← emod_sub, ratio_I e p (by decide) true]; rfl
/-! ### What the functions return -/
def fitR (e d p : Int) : Prop := 0 ≤ e ∧ e ≤ 1152921504606846976 ∧ 0 ≤ d ∧ d ≤ 1152921504606846976 ∧ 0 ≤ p ∧ p ≤ 1000000
instance (e d p : Int) : Decidable (fitR e d p) := by unfold fitR; infer_instance
instance (e d p : Int) : Decidable (fitP e d p) := by unfold fitP; infer_instance
def fitB (e d p : Int) : Bool := decide (fitR e d p) && decide (fitP e d p)
def inD (d p : Int) : Bool := decide (0 ≤ d ∧ d ≤ 576460752303423488 ∧ 0 ≤ p ∧ p ≤ 1000000)
def elaE (d p : Int) : Int := if inD d p = true then 0 else 4
theorem inD_t {d p : Int} (h : inD d p = true) : 0 ≤ d ∧ d ≤ 576460752303423488 ∧ 0 ≤ p ∧ p ≤ 1000000 := of_decide_eq_true h
theorem inD_d {d p : Int} (h : 0 ≤ d ∧ d ≤ 576460752303423488 ∧ 0 ≤ p ∧ p ≤ 1000000) : inD d p = true := decide_eq_true h
theorem inD_f {d p : Int} (h : ¬ (0 ≤ d ∧ d ≤ 576460752303423488 ∧ 0 ≤ p ∧ p ≤ 1000000)) : inD d p = false := decide_eq_false h
theorem fitB_t {e d p : Int} (h : fitB e d p = true) : fitR e d p ∧ fitP e d p := by
  unfold fitB at h
  rw [Bool.and_eq_true] at h
  exact ⟨of_decide_eq_true h.1, of_decide_eq_true h.2⟩
theorem fitB_d {e d p : Int} (h : fitR e d p) (k : fitP e d p) : fitB e d p = true := by
  unfold fitB; rw [decide_eq_true h, decide_eq_true k]; rfl
theorem fitB_f {e d p : Int} (h : ¬ fitR e d p) : fitB e d p = false := by
  unfold fitB; rw [decide_eq_false h]; rfl
/-- The difference is at most the part, rounded down. -/
theorem fit_sca (e d p : Int) : fitP e d p ↔ d - e ≤ e * p / 1000000000 ∧ e - d ≤ e * p / 1000000000 := by
  rw [fit_iff, dnQ_le (by decide), dnQ_le (by decide)]
  omega
theorem ad_sca (e p : Int) : adA e p = e - upQ (e * p) 1000000000 ∧ adB e p = e + upQ (e * p) 1000000000 := by
  unfold adA adB upQ
  rw [Int.mul_sub, Int.mul_add]
  omega
/-! ### Rate -/
def ratP (e d : Int) (p : Int) : Bool := fitB e d p
def ratR (e d : Int) : Bool := inD e 0 && inD d 0
def ratN (e d : Int) : Int := bisV (ratP e d) 0 1000001
def ratV (e d : Int) : Int := if ratR e d = true then (if ratN e d ≤ 1000000 then ratN e d else 0) else 0
def ratE (e d : Int) : Int := if ratR e d = true then (if ratN e d ≤ 1000000 then 0 else 10) else 4
theorem ratP_mono (e d : Int) : ∀ a b, 0 ≤ a → a ≤ b → b < 1000001 → ratP e d a = true → ratP e d b = true := by
  intro a b h0 h1 h2 h
  obtain ⟨⟨r1, r2, r3, r4, _, _⟩, k⟩ := fitB_t h
  exact fitB_d ⟨r1, r2, r3, r4, by omega, by omega⟩ (fit_mono r1 h1 k)
theorem rat_ok (e d : Int) : 0 ≤ ratN e d ∧ ratN e d ≤ 1000001 ∧ (∀ t, 0 ≤ t → t < ratN e d → ratP e d t = false) ∧ (ratN e d < 1000001 → ratP e d (ratN e d) = true) :=
  (bis_ok (P := ratP e d) (lo := 0) (hi := 1000001) (by decide) (ratP_mono e d)).1
theorem rat_top (e d : Int) : ratN e d ≤ 1000000 ↔ ratP e d 1000000 = true := by
  obtain ⟨h1, h2, h3, h4⟩ := rat_ok e d
  constructor
  · intro h
    exact ratP_mono e d _ _ h1 h (by decide) (h4 (by omega))
  · intro h
    rcases Int.lt_or_le 1000000 (ratN e d) with k | k
    · rw [h3 1000000 (by decide) k] at h; cases h
    · exact k
/-- The search up to the greatest bound. -/
theorem rat_ref {e d : Int} (h : ratP e d 1000000 = true) : bisV (ratP e d) 0 1000000 = ratN e d := by
  have hm := ratP_mono e d
  obtain ⟨a1, a2, a3, a4⟩ := (bis_ok (P := ratP e d) (lo := 0) (hi := 1000000) (by decide) (fun a b h0 h1 h2 => hm a b h0 h1 (by omega))).1
  obtain ⟨b1, b2, b3, b4⟩ := rat_ok e d
  have := (rat_top e d).2 h
  exact least_uniq (P := ratP e d) (lo := 0) (hi := 1000000) a1 a2 a3 a4 b1 this b3 (fun k => b4 (by omega))
end Go.Proofs.Ytjebhdadegfbdaa
set_option linter.unusedVariables false
set_option linter.unusedSimpArgs false
namespace Go.Proofs.Ytjebhdadegfbdaa

def erL (d u a : Int) (n : Nat) : List (Int × Int) := (List.range n).map fun (i : Nat) => eraS d u (a + (i : Int))
theorem unfP_er (d u lo : Int) (n : Nat) : unfP d u lo n = erL d u (eraA lo u) n := rfl
theorem unfL_er (d u lo hi : Int) : unfL d u lo hi = erL d u (eraA lo u) (unfN d u lo hi) := rfl
theorem erL_len (d u a : Int) (n : Nat) : (erL d u a n).length = n := by unfold erL; rw [List.length_map, List.length_range]
theorem erL_get {d u a : Int} {n i : Nat} (h : i < n) : (erL d u a n)[i]? = some (eraS d u (a + i)) := by
  unfold erL; rw [List.getElem?_map, List.getElem?_range h]; rfl
theorem erL_add (d u a : Int) (n : Nat) : ∀ m, erL d u a (n + m) = erL d u a n ++ erL d u (a + n) m
  | 0 => by simp [erL]
  | m + 1 => by
    have e1 : erL d u a (n + m + 1) = erL d u a (n + m) ++ [eraS d u (a + ((n + m : Nat) : Int))] := by
      unfold erL; rw [List.range_succ, List.map_append]; rfl
    have e2 : erL d u (a + n) (m + 1) = erL d u (a + n) m ++ [eraS d u (a + n + (m : Int))] := by
      unfold erL; rw [List.range_succ, List.map_append]; rfl
    rw [← Nat.add_assoc, e1, e2, erL_add d u a n m, List.append_assoc]
    congr 4
    omega
theorem erL_drop (d u a : Int) (m : Nat) : (erL d u a (m + 1)).drop 1 = erL d u (a + 1) m := by
  rw [Nat.add_comm, erL_add]
  rfl
/-- What Unfold returns. -/
def unfE (d u lo hi : Int) : Int := if okP (lo, hi) = true then (if unfN d u lo hi ≤ 64 then 0 else 8) else 3
def unfW (d u lo hi : Int) : List (Int × Int) := if okP (lo, hi) = true ∧ unfN d u lo hi ≤ 64 then unfL d u lo hi else []
theorem unfN_i {d u lo hi : Int} (h : lo ≤ hi) (h1 : d ≤ u) (h2 : u ≤ d + 1) : (unfN d u lo hi : Int) = eraB hi d - eraA lo u + 1 ∧ (lo - 1 - u) / 4503599627370496 = eraA lo u - 1 ∧ (hi - d) / 4503599627370496 = eraB hi d := by
  unfold unfN eraA eraB
  omega
/-- What Only returns. -/
def onlB (d u lo hi : Int) : Bool := okP (lo, hi) && decide (unfN d u lo hi = 1)
def onlE (d u lo hi : Int) : Int := if okP (lo, hi) = true then (if unfN d u lo hi = 0 then 10 else if unfN d u lo hi = 1 then 0 else 9) else 3
/-- What Near returns. -/
def nerB (t : Int) : Bool := decide (-576460752303423488 ≤ t ∧ t ≤ 576460752303423488)
def nerE (t : Int) : Int := if nerB t = true then 0 else 4
/-! ### The timestamp of an instant -/
theorem wir_at {t : Int} (h : -1152921504606846976 ≤ t ∧ t ≤ 1152921504606846976) : wirV t = t % 4503599627370496 * 4096 ∧ wirE t = 0 := by
  unfold wirV wirE wirN
  rw [valT_t h, if_pos rfl, if_pos rfl]
  omega
theorem wir_dn (t : Int) : t % 4503599627370496 * 4096 / 4096 = t % 4503599627370496 := by omega
theorem wir_up (t : Int) : upV (t % 4503599627370496 * 4096) = t % 4503599627370496 := by
  unfold upV
  rw [if_pos (by omega)]
  omega
theorem upw_in {w : Int} (h1 : 0 ≤ w) (h2 : w < 18446744073709551616) : 0 ≤ w / 4096 ∧ w / 4096 < 4503599627370496 ∧ w / 4096 ≤ upV w ∧ upV w ≤ w / 4096 + 1 ∧ (upV w = w / 4096 ↔ w % 4096 = 0) := by
  unfold upV
  split <;> omega
/-! ### Two parts -/
theorem nest_a {d u a c b : Int} (h1 : a ≤ c) (h2 : c ≤ b) (h3 : d ≤ u) (h4 : u ≤ d + 1) (h : eraB c d + 1 = eraA c u) :
    unfL d u a c ++ unfL d u c b = unfL d u a b := by
  obtain ⟨e1, _⟩ := unfN_i h1 h3 h4
  obtain ⟨e2, _⟩ := unfN_i h2 h3 h4
  obtain ⟨e3, _⟩ := unfN_i (Int.le_trans h1 h2) h3 h4
  rw [unfL_er, unfL_er, unfL_er, show unfN d u a b = unfN d u a c + unfN d u c b by omega, erL_add, show eraA a u + (unfN d u a c : Int) = eraA c u by omega]
theorem nest_b {d u a c b : Int} (h1 : a ≤ c) (h2 : c ≤ b) (h3 : d ≤ u) (h4 : u ≤ d + 1) (h : eraA c u = eraB c d) :
    unfL d u a c ++ (unfL d u c b).drop 1 = unfL d u a b := by
  obtain ⟨e1, _⟩ := unfN_i h1 h3 h4
  obtain ⟨e2, _⟩ := unfN_i h2 h3 h4
  obtain ⟨e3, _⟩ := unfN_i (Int.le_trans h1 h2) h3 h4
  obtain ⟨m, hm⟩ : ∃ m, unfN d u c b = m + 1 := by
    have : eraB c d ≤ eraB b d := by unfold eraB; omega
    exact ⟨unfN d u c b - 1, by omega⟩
  rw [unfL_er, unfL_er, unfL_er, hm, erL_drop, show unfN d u a b = unfN d u a c + m by omega, erL_add, show eraA a u + (unfN d u a c : Int) = eraA c u + 1 by omega]
end Go.Proofs.Ytjebhdadegfbdaa
