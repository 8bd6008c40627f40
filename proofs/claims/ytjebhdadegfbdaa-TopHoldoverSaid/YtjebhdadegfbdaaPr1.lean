/- Layer 10 on data: numbers of ticks: the program and the reference. Own work. -/
import Derived.Test.YtjebhdadegfbdaaProg
import Derived.Test.YtjebhdadegfbdaaAlW
import Derived.Test.YtjebhdadegfbdaaPr0
import Derived.Laws.Bits128
import Derived.Laws.BitsAllLaws
set_option linter.unusedVariables false
set_option linter.unusedSimpArgs false
namespace Go.Proofs.Ytjebhdadegfbdaa
open Go.RowKit

/-! ### Bits -/
theorem i64_andM (k : Nat) (M : Int) (hM : (BitVec.ofInt 64 M).toNat = 2 ^ k - 1) (n : Int) (hk : k < 63) : bits .and .i64 n M = n % ((2 ^ k : Nat) : Int) := by
  have key : (BitVec.ofInt 64 n &&& BitVec.ofInt 64 M).toNat = (n % ((2 ^ 64 : Nat) : Int)).toNat % 2 ^ k := by
    rw [BitVec.toNat_and, BitVec.toNat_ofInt, hM, Nat.and_two_pow_sub_one_eq_mod]
  show IntKind.i64.wrap ((BitVec.ofInt 64 n &&& BitVec.ofInt 64 M).toNat : Nat) = _
  rw [key, IntKind.wrap_i64]
  have hd : ((2 ^ k : Nat) : Int) ∣ ((2 ^ 64 : Nat) : Int) := Int.natCast_dvd_natCast.2 (Nat.pow_dvd_pow 2 (by omega))
  have hp : 0 < 2 ^ k := Nat.two_pow_pos k
  have hlt : 2 ^ k ≤ 2 ^ 62 := Nat.pow_le_pow_right (by decide) (by omega)
  have h0 : 0 ≤ n % ((2 ^ 64 : Nat) : Int) := Int.emod_nonneg _ (by decide)
  have e1 : (((n % ((2 ^ 64 : Nat) : Int)).toNat % 2 ^ k : Nat) : Int) = n % ((2 ^ k : Nat) : Int) := by
    rw [Int.natCast_emod, Int.toNat_of_nonneg h0, Int.emod_emod_of_dvd n hd]
  rw [e1]
  have h1 : 0 ≤ n % ((2 ^ k : Nat) : Int) := Int.emod_nonneg _ (by omega)
  have h2 : n % ((2 ^ k : Nat) : Int) < ((2 ^ k : Nat) : Int) := Int.emod_lt_of_pos _ (by omega)
  have h3 : ((2 ^ k : Nat) : Int) ≤ 4611686018427387904 := by
    have : ((2 ^ 62 : Nat) : Int) = 4611686018427387904 := by decide
    rw [← this]; exact Int.ofNat_le.2 hlt
  have := IntWalk.i64_in (n % ((2 ^ k : Nat) : Int)) (by omega)
  rw [IntKind.wrap_i64] at this
  exact this
theorem i64_and20 (n : Int) : bits .and .i64 n 1048575 = n % 1048576 := i64_andM 20 1048575 (by decide) n (by decide)
theorem i64_and32 (n : Int) : bits .and .i64 n 4294967295 = n % 4294967296 := i64_andM 32 4294967295 (by decide) n (by decide)
theorem i64_and52 (n : Int) : bits .and .i64 n 4503599627370495 = n % 4503599627370496 := i64_andM 52 4503599627370495 (by decide) n (by decide)
theorem u64_and12 (n : Int) (h1 : 0 ≤ n) (h2 : n < 18446744073709551616) : bits .and .u64 n 4095 = n % 4096 := by
  obtain ⟨N, rfl⟩ := Int.eq_ofNat_of_zero_le h1
  have := Go.u64_and_nat N 4095 (by omega) (by decide)
  have e : N &&& 4095 = N % 4096 := Nat.and_two_pow_sub_one_eq_mod N 12
  rw [e] at this
  rw [show ((4095 : Nat) : Int) = 4095 from rfl] at this
  rw [this]; omega
/-- The upper 32 bits, and what lies below. -/
theorem u64_orW (s p : Int) (h1 : 0 ≤ s) (h2 : s < 4294967296) (h3 : 0 ≤ p) (h4 : p < 4294967296) : bits .or .u64 (s * 4294967296) p = s * 4294967296 + p := by
  obtain ⟨S, rfl⟩ := Int.eq_ofNat_of_zero_le h1
  obtain ⟨Q, rfl⟩ := Int.eq_ofNat_of_zero_le h3
  have := Go.u64_or_nat (S * 4294967296) Q (by omega) (by omega)
  have e : S * 4294967296 ||| Q = S * 4294967296 + Q := by
    have := Nat.two_pow_add_eq_or_of_lt (i := 32) (b := Q) (by omega) S
    rw [Nat.mul_comm] at this
    exact this.symm
  rw [e] at this
  simpa using this

theorem bI64 : IntKind.i64.bits = 64 := rfl
theorem bU64 : IntKind.u64.bits = 64 := rfl
/-! ### Quotients -/
theorem tdiv_facts (a : Int) {b : Int} (h : 1 ≤ b) : (0 ≤ a.tmod b → a.tdiv b = a / b) ∧ (a.tmod b < 0 → a.tdiv b = a / b + 1) ∧ (0 < a.tmod b → 0 ≤ a.tdiv b ∧ a.tdiv b < a) ∧ (a.tmod b < 0 → a.tdiv b ≤ 0 ∧ a < a.tdiv b) ∧ (a.tmod b = 0 → (0 ≤ a → 0 ≤ a.tdiv b ∧ a.tdiv b ≤ a) ∧ (a ≤ 0 → a.tdiv b ≤ 0 ∧ a ≤ a.tdiv b)) := by
  have hb := below_ediv a (show 0 < b by omega)
  unfold belowI at hb
  have e := Int.tmod_add_mul_tdiv a b
  have up : ∀ q : Int, 0 ≤ q → q ≤ b * q := fun q hq => by
    have := Int.mul_le_mul_of_nonneg_right h hq
    omega
  have dn : ∀ q : Int, q ≤ 0 → b * q ≤ q := fun q hq => by
    have := up (-q) (by omega)
    rw [Int.mul_neg] at this; omega
  have s1 : 0 ≤ a → 0 ≤ a.tdiv b ∧ 0 ≤ a.tmod b := fun ha => ⟨Int.tdiv_nonneg ha (by omega), Int.tmod_nonneg b ha⟩
  have s2 : a ≤ 0 → a.tdiv b ≤ 0 ∧ a.tmod b ≤ 0 := fun ha => by
    have := Int.tdiv_nonneg (show 0 ≤ -a by omega) (show 0 ≤ b by omega)
    have h2 := Int.tmod_nonneg b (show 0 ≤ -a by omega)
    rw [Int.neg_tdiv] at this
    rw [Int.neg_tmod] at h2
    omega
  refine ⟨fun h0 => ?_, fun h0 => ?_, fun h0 => ?_, fun h0 => ?_, fun h0 => ⟨fun ha => ?_, fun ha => ?_⟩⟩
  · rw [if_neg (by omega)] at hb; exact hb
  · rw [if_pos h0] at hb; omega
  · have : 0 ≤ a := by
      rcases Int.le_total 0 a with h | h
      · exact h
      · have := (s2 h).2; omega
    have := s1 this
    have := up _ this.1
    omega
  · have : a ≤ 0 := by
      rcases Int.le_total a 0 with h | h
      · exact h
      · have := (s1 h).2; omega
    have := s2 this
    have := dn _ this.1
    omega
  · have := s1 ha
    have := up _ this.1
    omega
  · have := s2 ha
    have := dn _ this.1
    omega
theorem round_up (a : Int) {b : Int} (h : 1 ≤ b) : roundI a b true = if 0 < a.tmod b then a.tdiv b + 1 else a.tdiv b := by
  obtain ⟨f1, f2, _⟩ := tdiv_facts a h
  unfold roundI
  by_cases h0 : 0 < a.tmod b
  · rw [if_pos ⟨rfl, by omega⟩, if_pos h0, f1 (by omega)]
  · rw [if_neg h0]
    by_cases h1 : a.tmod b = 0
    · rw [if_neg (by intro k; exact k.2 h1), f1 (by omega)]
    · rw [if_pos ⟨rfl, h1⟩, f2 (by omega)]
theorem round_dn (a : Int) {b : Int} (h : 1 ≤ b) : roundI a b false = if a.tmod b < 0 then a.tdiv b - 1 else a.tdiv b := by
  have hb := below_ediv a (show 0 < b by omega)
  unfold belowI at hb
  unfold roundI
  rw [if_neg (by intro k; cases k.1)]
  exact hb.symm
theorem round_le (a : Int) {b : Int} (h : 1 ≤ b) (up : Bool) (h1 : -9223372036854775808 ≤ a) (h2 : a ≤ 9223372036854775807) : -9223372036854775808 ≤ roundI a b up ∧ roundI a b up ≤ 9223372036854775807 := by
  obtain ⟨f1, f2, f3, f4, f5⟩ := tdiv_facts a h
  cases up
  · rw [round_dn a h]; split <;> omega
  · rw [round_up a h]; split <;> omega
def sf_quo : SFn := ⟨3, 33,
  .seq (.reg [⟨(some 6), .mv (.k (.c (.d (.int .i64 0)))), none⟩])
  (.seq (.reg [⟨(some 9), .mv (.t 0), none⟩,
    ⟨(some 10), .mv (.t 1), none⟩,
    ⟨(some 11), .bin .quo (.t 9) (.t 10), none⟩,
    ⟨(some 12), .mv (.t 0), none⟩,
    ⟨(some 13), .mv (.t 1), none⟩,
    ⟨(some 14), .bin .rem (.t 12) (.t 13), none⟩,
    ⟨(some 7), .mv (.t 11), none⟩,
    ⟨(some 8), .mv (.t 14), none⟩])
  (.seq (.block 0 (.seq (.reg [⟨(some 16), .mv (.t 2), none⟩,
     ⟨(some 17), .mv (.t 16), none⟩,
     ⟨(some 18), .mv (.t 8), (some (17, true))⟩,
     ⟨(some 19), .bin .gtr (.t 18) (.k (.c (.d (.int .i64 0)))), (some (17, true))⟩,
     ⟨(some 20), .pick (.t 17) (.t 19) (.k (.c (.d (.bool false)))), none⟩,
     ⟨(some 15), .mv (.t 20), none⟩])
   (.cond (.t 15) (.seq (.reg [⟨(some 21), .mv (.t 7), none⟩,
      ⟨(some 22), .bin .add (.t 21) (.k (.c (.d (.int .i64 1)))), none⟩,
      ⟨(some 6), .mv (.t 22), none⟩])
    (.ret))
    (.seq (.reg [⟨(some 24), .mv (.t 2), none⟩,
      ⟨(some 25), .un .not (.t 24), none⟩,
      ⟨(some 26), .mv (.t 25), none⟩,
      ⟨(some 27), .mv (.t 8), (some (26, true))⟩,
      ⟨(some 28), .bin .lss (.t 27) (.k (.c (.d (.int .i64 0)))), (some (26, true))⟩,
      ⟨(some 29), .pick (.t 26) (.t 28) (.k (.c (.d (.bool false)))), none⟩,
      ⟨(some 23), .mv (.t 29), none⟩])
    (.cond (.t 23) (.seq (.reg [⟨(some 30), .mv (.t 7), none⟩,
       ⟨(some 31), .bin .sub (.t 30) (.k (.c (.d (.int .i64 1)))), none⟩,
       ⟨(some 6), .mv (.t 31), none⟩])
     (.ret))
     (.skip))))))
  (.seq (.reg [⟨(some 32), .mv (.t 7), none⟩,
    ⟨(some 6), .mv (.t 32), none⟩])
  (.ret)))),
  [(6, none)]⟩
theorem cf_quo : compFn Try.prog { own := [], comp := [], frz := [], nils := [] } Try.f79 = some sf_quo := by kernel_rfl
theorem quo_c (G : Glob) (a b : Int) (up : Bool) (h1 : -9223372036854775808 ≤ a) (h2 : a ≤ 9223372036854775807) (hb : 1 ≤ b) : Den Try.prog G 79 [.int .i64 a, .int .i64 b, .bool up] (.w (.c (.d (.int .i64 (roundI a b up))))) := by
  refine den_walk Try.func79 cf_quo rfl rfl ?_
  obtain ⟨f1, f2, f3, f4, f5⟩ := tdiv_facts a hb
  have hb0 : b ≠ 0 := by omega
  cases up
  · rw [round_dn a hb]
    by_cases k : a.tmod b < 0
    · simp only [sf_quo, putAll, wx, wy, wz, stV, seval, IntWalk.iteOmega, IntWalk.toNatUp, reduceCtorEq, hb0]
      exact ret_d1 (by simp only [wx, wy, wz, stV, seval, IntWalk.iteOmega, IntWalk.toNatUp, reduceCtorEq])
    · simp only [sf_quo, putAll, wx, wy, wz, stV, seval, IntWalk.iteOmega, IntWalk.toNatUp, reduceCtorEq, hb0]
      exact ret_d1 (by simp only [wx, wy, wz, stV, seval, IntWalk.iteOmega, IntWalk.toNatUp, reduceCtorEq])
  · rw [round_up a hb]
    by_cases k : 0 < a.tmod b
    · have hgt : (a.tmod b > 0) = True := eq_true k
      simp only [sf_quo, putAll, wx, wy, wz, stV, seval, IntWalk.iteOmega, IntWalk.toNatUp, reduceCtorEq, hb0, hgt]
      exact ret_d1 (by simp only [wx, wy, wz, stV, seval, IntWalk.iteOmega, IntWalk.toNatUp, reduceCtorEq])
    · have hgt : (a.tmod b > 0) = False := eq_false k
      simp only [sf_quo, putAll, wx, wy, wz, stV, seval, IntWalk.iteOmega, IntWalk.toNatUp, reduceCtorEq, hb0, hgt]
      exact ret_d1 (by simp only [wx, wy, wz, stV, seval, IntWalk.iteOmega, IntWalk.toNatUp, reduceCtorEq])
def sf_rbel : SFn := ⟨2, 16,
  .seq (.reg [⟨(some 4), .mv (.k (.c (.d (.int .i64 0)))), none⟩])
  (.seq (.reg [⟨(some 6), .mv (.t 0), none⟩,
    ⟨(some 7), .mv (.t 1), none⟩,
    ⟨(some 8), .bin .quo (.t 6) (.t 7), none⟩,
    ⟨(some 5), .mv (.t 8), none⟩])
  (.seq (.seq (.reg [⟨(some 9), .mv (.t 0), none⟩,
    ⟨(some 10), .mv (.t 1), none⟩,
    ⟨(some 11), .bin .rem (.t 9) (.t 10), none⟩,
    ⟨(some 12), .bin .lss (.t 11) (.k (.c (.d (.int .i64 0)))), none⟩])
  (.cond (.t 12) (.reg [⟨(some 13), .mv (.t 5), none⟩,
     ⟨(some 14), .bin .sub (.t 13) (.k (.c (.d (.int .i64 1)))), none⟩,
     ⟨(some 5), .mv (.t 14), none⟩])
   (.skip)))
  (.seq (.reg [⟨(some 15), .mv (.t 5), none⟩,
    ⟨(some 4), .mv (.t 15), none⟩])
  (.ret)))),
  [(4, none)]⟩
theorem cf_rbel : compFn Try.prog { own := [], comp := [], frz := [], nils := [] } Try.f96 = some sf_rbel := by kernel_rfl
theorem rbel_c (G : Glob) (a b : Int) (h1 : -9223372036854775808 ≤ a) (h2 : a ≤ 9223372036854775807) (hb : 1 ≤ b) : Den Try.prog G 96 [.int .i64 a, .int .i64 b] (.w (.c (.d (.int .i64 (a / b))))) := by
  refine den_walk Try.func96 cf_rbel rfl rfl ?_
  obtain ⟨f1, f2, f3, f4, f5⟩ := tdiv_facts a hb
  have hb0 : b ≠ 0 := by omega
  rw [← below_ediv a (by omega)]
  unfold belowI
  by_cases k : a.tmod b < 0
  · simp only [sf_rbel, putAll, wx, wy, wz, stV, seval, IntWalk.iteOmega, IntWalk.toNatUp, reduceCtorEq, hb0]
    exact ret_d1 (by simp only [wx, wy, wz, stV, seval, IntWalk.iteOmega, IntWalk.toNatUp, reduceCtorEq])
  · simp only [sf_rbel, putAll, wx, wy, wz, stV, seval, IntWalk.iteOmega, IntWalk.toNatUp, reduceCtorEq, hb0]
    exact ret_d1 (by simp only [wx, wy, wz, stV, seval, IntWalk.iteOmega, IntWalk.toNatUp, reduceCtorEq])
def sf_rquo : SFn := ⟨3, 21,
  .seq (.reg [⟨(some 6), .mv (.k (.c (.d (.int .i64 0)))), none⟩])
  (.seq (.reg [⟨(some 8), .mv (.t 0), none⟩,
    ⟨(some 9), .mv (.t 1), none⟩,
    ⟨(some 10), .call 96 [(.t 8), (.t 9)] none, none⟩,
    ⟨(some 7), .mv (.t 10), none⟩])
  (.seq (.seq (.reg [⟨(some 11), .mv (.t 2), none⟩,
    ⟨(some 12), .mv (.t 11), none⟩,
    ⟨(some 13), .mv (.t 0), (some (12, true))⟩,
    ⟨(some 14), .mv (.t 1), (some (12, true))⟩,
    ⟨(some 15), .bin .rem (.t 13) (.t 14), (some (12, true))⟩,
    ⟨(some 16), .bin .neq (.t 15) (.k (.c (.d (.int .i64 0)))), (some (12, true))⟩,
    ⟨(some 17), .pick (.t 12) (.t 16) (.k (.c (.d (.bool false)))), none⟩])
  (.cond (.t 17) (.reg [⟨(some 18), .mv (.t 7), none⟩,
     ⟨(some 19), .bin .add (.t 18) (.k (.c (.d (.int .i64 1)))), none⟩,
     ⟨(some 7), .mv (.t 19), none⟩])
   (.skip)))
  (.seq (.reg [⟨(some 20), .mv (.t 7), none⟩,
    ⟨(some 6), .mv (.t 20), none⟩])
  (.ret)))),
  [(6, none)]⟩
theorem cf_rquo : compFn Try.prog { own := [], comp := [], frz := [], nils := [] } Try.f78 = some sf_rquo := by kernel_rfl
theorem rquo_c (G : Glob) (a b : Int) (up : Bool) (h1 : -9223372036854775808 ≤ a) (h2 : a ≤ 9223372036854775807) (hb : 1 ≤ b) : Den Try.prog G 78 [.int .i64 a, .int .i64 b, .bool up] (.w (.c (.d (.int .i64 (roundI a b up))))) := by
  refine den_walk Try.func78 cf_rquo rfl rfl ?_
  have hb0 : b ≠ 0 := by omega
  have hl := round_le a hb up h1 h2
  unfold roundI at hl ⊢
  cases up
  · simp only [Bool.false_eq_true, false_and, if_false] at hl ⊢
    simp only [sf_rquo, putAll, wx, wy, wz, stV, seval, IntWalk.iteOmega, IntWalk.toNatUp, reduceCtorEq]
    refine st_call (rbel_c G a b h1 h2 hb) rfl (.inl rfl) ?_
    simp only [wx, wy, wz, stV, seval, IntWalk.iteOmega, IntWalk.toNatUp, reduceCtorEq]
    exact ret_d1 (by simp only [wx, wy, wz, stV, seval, IntWalk.iteOmega, IntWalk.toNatUp, reduceCtorEq])
  · simp only [true_and] at hl ⊢
    by_cases k : a.tmod b = 0
    · rw [if_neg (by omega)]
      simp only [sf_rquo, putAll, wx, wy, wz, stV, seval, IntWalk.iteOmega, IntWalk.toNatUp, reduceCtorEq]
      refine st_call (rbel_c G a b h1 h2 hb) rfl (.inl rfl) ?_
      simp only [hb0, k, wx, wy, wz, stV, seval, IntWalk.iteOmega, IntWalk.toNatUp, reduceCtorEq]
      exact ret_d1 (by simp only [wx, wy, wz, stV, seval, IntWalk.iteOmega, IntWalk.toNatUp, reduceCtorEq])
    · rw [if_pos k] at hl ⊢
      simp only [sf_rquo, putAll, wx, wy, wz, stV, seval, IntWalk.iteOmega, IntWalk.toNatUp, reduceCtorEq]
      refine st_call (rbel_c G a b h1 h2 hb) rfl (.inl rfl) ?_
      simp only [hb0, k, wx, wy, wz, stV, seval, IntWalk.iteOmega, IntWalk.toNatUp, reduceCtorEq]
      exact ret_d1 (by simp only [wx, wy, wz, stV, seval, IntWalk.iteOmega, IntWalk.toNatUp, reduceCtorEq])
/-! ### Valid, Second, Part -/
def valT (t : Int) : Bool := decide (-1152921504606846976 ≤ t ∧ t ≤ 1152921504606846976)
theorem valT_t {t : Int} (h : -1152921504606846976 ≤ t ∧ t ≤ 1152921504606846976) : valT t = true := decide_eq_true h
theorem valT_f {t : Int} (h : ¬ (-1152921504606846976 ≤ t ∧ t ≤ 1152921504606846976)) : valT t = false := decide_eq_false h
def sf_val : SFn := ⟨1, 9,
  .seq (.reg [⟨(some 2), .mv (.k (.c (.d (.bool false)))), none⟩])
  (.seq (.reg [⟨(some 3), .mv (.t 0), none⟩,
    ⟨(some 4), .bin .geq (.t 3) (.k (.c (.d (.int .i64 (-1152921504606846976))))), none⟩,
    ⟨(some 5), .mv (.t 4), none⟩,
    ⟨(some 6), .mv (.t 0), (some (5, true))⟩,
    ⟨(some 7), .bin .leq (.t 6) (.k (.c (.d (.int .i64 1152921504606846976)))), (some (5, true))⟩,
    ⟨(some 8), .pick (.t 5) (.t 7) (.k (.c (.d (.bool false)))), none⟩,
    ⟨(some 2), .mv (.t 8), none⟩])
  (.ret)),
  [(2, none)]⟩
theorem cf_val : compFn Try.prog { own := [], comp := [], frz := [], nils := [] } Try.f71 = some sf_val := by kernel_rfl
theorem val_c (G : Glob) (t : Int) : Den Try.prog G 71 [.int .i64 t] (.w (.c (.d (.bool (valT t))))) := by
  refine den_walk Try.func71 cf_val rfl rfl ?_
  by_cases h : t ≥ -1152921504606846976
  · by_cases h2 : t ≤ 1152921504606846976
    · rw [valT_t ⟨h, h2⟩]
      simp only [sf_val, putAll, wx, wy, wz, stV, seval, IntWalk.iteOmega, IntWalk.toNatUp, reduceCtorEq, eq_true h, eq_true h2]
      exact ret_d1 (by simp only [wx, wy, wz, stV, seval, IntWalk.iteOmega, IntWalk.toNatUp, reduceCtorEq])
    · rw [valT_f (by omega)]
      simp only [sf_val, putAll, wx, wy, wz, stV, seval, IntWalk.iteOmega, IntWalk.toNatUp, reduceCtorEq, eq_true h, eq_false h2]
      exact ret_d1 (by simp only [wx, wy, wz, stV, seval, IntWalk.iteOmega, IntWalk.toNatUp, reduceCtorEq])
  · rw [valT_f (by omega)]
    simp only [sf_val, putAll, wx, wy, wz, stV, seval, IntWalk.iteOmega, IntWalk.toNatUp, reduceCtorEq, eq_false h]
    exact ret_d1 (by simp only [wx, wy, wz, stV, seval, IntWalk.iteOmega, IntWalk.toNatUp, reduceCtorEq])
def sf_rval : SFn := ⟨1, 9,
  .seq (.reg [⟨(some 2), .mv (.k (.c (.d (.bool false)))), none⟩])
  (.seq (.reg [⟨(some 3), .mv (.t 0), none⟩,
    ⟨(some 4), .bin .geq (.t 3) (.k (.c (.d (.int .i64 (-1152921504606846976))))), none⟩,
    ⟨(some 5), .mv (.t 4), none⟩,
    ⟨(some 6), .mv (.t 0), (some (5, true))⟩,
    ⟨(some 7), .bin .leq (.t 6) (.k (.c (.d (.int .i64 1152921504606846976)))), (some (5, true))⟩,
    ⟨(some 8), .pick (.t 5) (.t 7) (.k (.c (.d (.bool false)))), none⟩,
    ⟨(some 2), .mv (.t 8), none⟩])
  (.ret)),
  [(2, none)]⟩
theorem cf_rval : compFn Try.prog { own := [], comp := [], frz := [], nils := [] } Try.f81 = some sf_rval := by kernel_rfl
theorem rval_c (G : Glob) (t : Int) : Den Try.prog G 81 [.int .i64 t] (.w (.c (.d (.bool (valT t))))) := by
  refine den_walk Try.func81 cf_rval rfl rfl ?_
  by_cases h : t ≥ -1152921504606846976
  · by_cases h2 : t ≤ 1152921504606846976
    · rw [valT_t ⟨h, h2⟩]
      simp only [sf_rval, putAll, wx, wy, wz, stV, seval, IntWalk.iteOmega, IntWalk.toNatUp, reduceCtorEq, eq_true h, eq_true h2]
      exact ret_d1 (by simp only [wx, wy, wz, stV, seval, IntWalk.iteOmega, IntWalk.toNatUp, reduceCtorEq])
    · rw [valT_f (by omega)]
      simp only [sf_rval, putAll, wx, wy, wz, stV, seval, IntWalk.iteOmega, IntWalk.toNatUp, reduceCtorEq, eq_true h, eq_false h2]
      exact ret_d1 (by simp only [wx, wy, wz, stV, seval, IntWalk.iteOmega, IntWalk.toNatUp, reduceCtorEq])
  · rw [valT_f (by omega)]
    simp only [sf_rval, putAll, wx, wy, wz, stV, seval, IntWalk.iteOmega, IntWalk.toNatUp, reduceCtorEq, eq_false h]
    exact ret_d1 (by simp only [wx, wy, wz, stV, seval, IntWalk.iteOmega, IntWalk.toNatUp, reduceCtorEq])
def sf_snd : SFn := ⟨1, 5,
  .seq (.reg [⟨(some 2), .mv (.k (.c (.d (.int .i64 0)))), none⟩])
  (.seq (.reg [⟨(some 3), .mv (.t 0), none⟩,
    ⟨(some 4), .bin .shr (.t 3) (.k (.c (.d (.int .u64 20)))), none⟩,
    ⟨(some 2), .mv (.t 4), none⟩])
  (.ret)),
  [(2, none)]⟩
theorem cf_snd : compFn Try.prog { own := [], comp := [], frz := [], nils := [] } Try.f61 = some sf_snd := by kernel_rfl
theorem snd_c (G : Glob) (t : Int) : Den Try.prog G 61 [.int .i64 t] (.w (.c (.d (.int .i64 (t / 1048576))))) := by
  refine den_walk Try.func61 cf_snd rfl rfl ?_
  simp only [sf_snd, putAll, wx, wy, wz, stV, seval, IntWalk.iteOmega, IntWalk.toNatUp, reduceCtorEq, bI64]
  exact ret_d1 (by simp only [wx, wy, wz, stV, seval, IntWalk.iteOmega, IntWalk.toNatUp, reduceCtorEq])
def sf_prt : SFn := ⟨1, 5,
  .seq (.reg [⟨(some 2), .mv (.k (.c (.d (.int .i64 0)))), none⟩])
  (.seq (.reg [⟨(some 3), .mv (.t 0), none⟩,
    ⟨(some 4), .bin .and (.t 3) (.k (.c (.d (.int .i64 1048575)))), none⟩,
    ⟨(some 2), .mv (.t 4), none⟩])
  (.ret)),
  [(2, none)]⟩
theorem cf_prt : compFn Try.prog { own := [], comp := [], frz := [], nils := [] } Try.f63 = some sf_prt := by kernel_rfl
theorem prt_c (G : Glob) (t : Int) : Den Try.prog G 63 [.int .i64 t] (.w (.c (.d (.int .i64 (t % 1048576))))) := by
  refine den_walk Try.func63 cf_prt rfl rfl ?_
  simp only [sf_prt, putAll, wx, wy, wz, stV, seval, IntWalk.iteOmega, IntWalk.toNatUp, reduceCtorEq, i64_and20]
  exact ret_d1 (by simp only [wx, wy, wz, stV, seval, IntWalk.iteOmega, IntWalk.toNatUp, reduceCtorEq])
/-! ### Divide, Scale -/
def divE (a b : Int) : Int := if b < 1 ∨ valT a = false then 4 else 0
def divV (a b : Int) (up : Bool) : Int := if b < 1 ∨ valT a = false then 0 else roundI a b up
def sf_div : SFn := ⟨3, 19,
  .seq (.reg [⟨(some 6), .mv (.k (.c (.d (.int .i64 0)))), none⟩,
    ⟨(some 7), .mv (.k (.c (.d (.int .i64 0)))), none⟩])
  (.seq (.seq (.reg [⟨(some 8), .mv (.t 1), none⟩,
    ⟨(some 9), .bin .lss (.t 8) (.k (.c (.d (.int .i64 1)))), none⟩,
    ⟨(some 10), .mv (.t 9), none⟩,
    ⟨(some 11), .mv (.t 0), (some (10, false))⟩,
    ⟨(some 12), .call 71 [(.t 11)] none, (some (10, false))⟩,
    ⟨(some 13), .un .not (.t 12), (some (10, false))⟩,
    ⟨(some 14), .pick (.t 10) (.k (.c (.d (.bool true)))) (.t 13), none⟩])
  (.cond (.t 14) (.seq (.reg [⟨(some 6), .mv (.k (.c (.d (.int .i64 0)))), none⟩,
     ⟨(some 7), .mv (.k (.c (.d (.int .i64 4)))), none⟩])
   (.ret))
   (.skip)))
  (.seq (.reg [⟨(some 15), .mv (.t 0), none⟩,
    ⟨(some 16), .mv (.t 1), none⟩,
    ⟨(some 17), .mv (.t 2), none⟩,
    ⟨(some 18), .call 79 [(.t 15), (.t 16), (.t 17)] none, none⟩,
    ⟨(some 6), .mv (.t 18), none⟩,
    ⟨(some 7), .mv (.k (.c (.d (.int .i64 0)))), none⟩])
  (.ret))),
  [(6, none), (7, none)]⟩
theorem cf_div : compFn Try.prog { own := [], comp := [], frz := [], nils := [] } Try.f77 = some sf_div := by kernel_rfl
theorem div_c (G : Glob) (a b : Int) (up : Bool) (h1 : -9223372036854775808 ≤ a) (h2 : a ≤ 9223372036854775807) : Den Try.prog G 77 [.int .i64 a, .int .i64 b, .bool up] (.tup [.c (.d (.int .i64 (divV a b up))), .c (.d (.int .i64 (divE a b)))]) := by
  refine den_walk Try.func77 cf_div rfl rfl ?_
  unfold divV divE
  by_cases hb : b < 1
  · rw [if_pos (.inl hb), if_pos (.inl hb)]
    simp only [sf_div, putAll, wx, wy, wz, stV, seval, IntWalk.iteOmega, IntWalk.toNatUp, reduceCtorEq]
    exact ret_d2 (by simp only [wx, wy, wz, stV, seval, IntWalk.iteOmega, IntWalk.toNatUp, reduceCtorEq]) (by simp only [wx, wy, wz, stV, seval, IntWalk.iteOmega, IntWalk.toNatUp, reduceCtorEq])
  · cases hv : valT a
    · rw [if_pos (.inr rfl), if_pos (.inr rfl)]
      simp only [sf_div, putAll, wx, wy, wz, stV, seval, IntWalk.iteOmega, IntWalk.toNatUp, reduceCtorEq]
      refine st_call (val_c G a) rfl (.inl rfl) ?_
      simp only [hv, wx, wy, wz, stV, seval, IntWalk.iteOmega, IntWalk.toNatUp, reduceCtorEq]
      exact ret_d2 (by simp only [wx, wy, wz, stV, seval, IntWalk.iteOmega, IntWalk.toNatUp, reduceCtorEq]) (by simp only [wx, wy, wz, stV, seval, IntWalk.iteOmega, IntWalk.toNatUp, reduceCtorEq])
    · rw [if_neg (by simp; omega), if_neg (by simp; omega)]
      simp only [sf_div, putAll, wx, wy, wz, stV, seval, IntWalk.iteOmega, IntWalk.toNatUp, reduceCtorEq]
      refine st_call (val_c G a) rfl (.inl rfl) ?_
      simp only [hv, wx, wy, wz, stV, seval, IntWalk.iteOmega, IntWalk.toNatUp, reduceCtorEq]
      refine st_call (quo_c G a b up h1 h2 (by omega)) rfl (.inl rfl) ?_
      simp only [wx, wy, wz, stV, seval, IntWalk.iteOmega, IntWalk.toNatUp, reduceCtorEq]
      exact ret_d2 (by simp only [wx, wy, wz, stV, seval, IntWalk.iteOmega, IntWalk.toNatUp, reduceCtorEq]) (by simp only [wx, wy, wz, stV, seval, IntWalk.iteOmega, IntWalk.toNatUp, reduceCtorEq])
def scaB (d ppb : Int) : Bool := valT d && decide (0 ≤ ppb ∧ ppb ≤ 1000000)
def scaN (d ppb : Int) (up : Bool) : Int := d / 1000000000 * ppb + roundI (d % 1000000000 * ppb) 1000000000 up
def scaV (d ppb : Int) (up : Bool) : Int := if scaB d ppb = true then scaN d ppb up else 0
def scaE (d ppb : Int) : Int := if scaB d ppb = true then 0 else 4
theorem scaB_t {d ppb : Int} (h : -1152921504606846976 ≤ d ∧ d ≤ 1152921504606846976) (h2 : 0 ≤ ppb) (h3 : ppb ≤ 1000000) : scaB d ppb = true := by
  unfold scaB; rw [valT_t h, decide_eq_true ⟨h2, h3⟩]; rfl
theorem mul_in {x p A B : Int} (h1 : -A ≤ x) (h2 : x ≤ A) (h3 : 0 ≤ p) (h4 : p ≤ B) (hA : 0 ≤ A) : -(A * B) ≤ x * p ∧ x * p ≤ A * B := by
  have a1 : x * p ≤ A * p := Int.mul_le_mul_of_nonneg_right h2 h3
  have a2 : A * p ≤ A * B := Int.mul_le_mul_of_nonneg_left h4 hA
  have a3 : -A * p ≤ x * p := Int.mul_le_mul_of_nonneg_right h1 h3
  rw [Int.neg_mul] at a3
  omega
theorem round_in (a : Int) {b : Int} (h : 1 ≤ b) (up : Bool) : (0 ≤ a → 0 ≤ roundI a b up ∧ roundI a b up ≤ a + 1) ∧ (a ≤ 0 → a - 1 ≤ roundI a b up ∧ roundI a b up ≤ 0) := by
  obtain ⟨f1, f2, f3, f4, f5⟩ := tdiv_facts a h
  have s1 : 0 ≤ a → 0 ≤ a.tmod b := fun ha => Int.tmod_nonneg b ha
  have s2 : a ≤ 0 → a.tmod b ≤ 0 := fun ha => by
    have h2 := Int.tmod_nonneg b (show 0 ≤ -a by omega)
    rw [Int.neg_tmod] at h2; omega
  cases up
  · rw [round_dn a h]; constructor <;> intro ha <;> split <;> omega
  · rw [round_up a h]; constructor <;> intro ha <;> split <;> omega
def sf_sca : SFn := ⟨3, 36,
  .seq (.reg [⟨(some 6), .mv (.k (.c (.d (.int .i64 0)))), none⟩,
    ⟨(some 7), .mv (.k (.c (.d (.int .i64 0)))), none⟩])
  (.seq (.seq (.reg [⟨(some 10), .mv (.t 0), none⟩,
    ⟨(some 11), .call 71 [(.t 10)] none, none⟩,
    ⟨(some 12), .un .not (.t 11), none⟩,
    ⟨(some 13), .mv (.t 12), none⟩,
    ⟨(some 14), .mv (.t 1), (some (13, false))⟩,
    ⟨(some 15), .bin .lss (.t 14) (.k (.c (.d (.int .i64 0)))), (some (13, false))⟩,
    ⟨(some 16), .pick (.t 13) (.k (.c (.d (.bool true)))) (.t 15), none⟩,
    ⟨(some 17), .mv (.t 16), none⟩,
    ⟨(some 18), .mv (.t 1), (some (17, false))⟩,
    ⟨(some 19), .bin .gtr (.t 18) (.k (.c (.d (.int .i64 1000000)))), (some (17, false))⟩,
    ⟨(some 20), .pick (.t 17) (.k (.c (.d (.bool true)))) (.t 19), none⟩])
  (.cond (.t 20) (.seq (.reg [⟨(some 6), .mv (.k (.c (.d (.int .i64 0)))), none⟩,
     ⟨(some 7), .mv (.k (.c (.d (.int .i64 4)))), none⟩])
   (.ret))
   (.skip)))
  (.seq (.reg [⟨(some 21), .mv (.t 0), none⟩,
    ⟨(some 22), .call 79 [(.t 21), (.k (.c (.d (.int .i64 1000000000)))), (.k (.c (.d (.bool false))))] none, none⟩,
    ⟨(some 8), .mv (.t 22), none⟩])
  (.seq (.reg [⟨(some 23), .mv (.t 0), none⟩,
    ⟨(some 24), .mv (.t 8), none⟩,
    ⟨(some 25), .bin .mul (.t 24) (.k (.c (.d (.int .i64 1000000000)))), none⟩,
    ⟨(some 26), .bin .sub (.t 23) (.t 25), none⟩,
    ⟨(some 9), .mv (.t 26), none⟩])
  (.seq (.reg [⟨(some 27), .mv (.t 8), none⟩,
    ⟨(some 28), .mv (.t 1), none⟩,
    ⟨(some 29), .bin .mul (.t 27) (.t 28), none⟩,
    ⟨(some 30), .mv (.t 9), none⟩,
    ⟨(some 31), .mv (.t 1), none⟩,
    ⟨(some 32), .bin .mul (.t 30) (.t 31), none⟩,
    ⟨(some 33), .mv (.t 2), none⟩,
    ⟨(some 34), .call 79 [(.t 32), (.k (.c (.d (.int .i64 1000000000)))), (.t 33)] none, none⟩,
    ⟨(some 35), .bin .add (.t 29) (.t 34), none⟩,
    ⟨(some 6), .mv (.t 35), none⟩,
    ⟨(some 7), .mv (.k (.c (.d (.int .i64 0)))), none⟩])
  (.ret))))),
  [(6, none), (7, none)]⟩
theorem cf_sca : compFn Try.prog { own := [], comp := [], frz := [], nils := [] } Try.f47 = some sf_sca := by kernel_rfl
theorem sca_c (G : Glob) (d ppb : Int) (up : Bool) (h1 : -9223372036854775808 ≤ d) (h2 : d ≤ 9223372036854775807) : Den Try.prog G 47 [.int .i64 d, .int .i64 ppb, .bool up] (.tup [.c (.d (.int .i64 (scaV d ppb up))), .c (.d (.int .i64 (scaE d ppb)))]) := by
  refine den_walk Try.func47 cf_sca rfl rfl ?_
  cases hv : valT d
  · have e : scaB d ppb = false := by unfold scaB; rw [hv]; rfl
    unfold scaV scaE
    rw [e]
    simp only [sf_sca, putAll, wx, wy, wz, stV, seval, IntWalk.iteOmega, IntWalk.toNatUp, reduceCtorEq]
    refine st_call (val_c G d) rfl (.inl rfl) ?_
    simp only [hv, wx, wy, wz, stV, seval, IntWalk.iteOmega, IntWalk.toNatUp, reduceCtorEq]
    exact ret_d2 (by simp only [wx, wy, wz, stV, seval, IntWalk.iteOmega, IntWalk.toNatUp, reduceCtorEq]) (by simp only [wx, wy, wz, stV, seval, IntWalk.iteOmega, IntWalk.toNatUp, reduceCtorEq])
  · by_cases hp : ppb < 0
    · have e : scaB d ppb = false := by unfold scaB; rw [decide_eq_false (by omega), Bool.and_false]
      unfold scaV scaE
      rw [e]
      simp only [sf_sca, putAll, wx, wy, wz, stV, seval, IntWalk.iteOmega, IntWalk.toNatUp, reduceCtorEq]
      refine st_call (val_c G d) rfl (.inl rfl) ?_
      simp only [hv, wx, wy, wz, stV, seval, IntWalk.iteOmega, IntWalk.toNatUp, reduceCtorEq]
      exact ret_d2 (by simp only [wx, wy, wz, stV, seval, IntWalk.iteOmega, IntWalk.toNatUp, reduceCtorEq]) (by simp only [wx, wy, wz, stV, seval, IntWalk.iteOmega, IntWalk.toNatUp, reduceCtorEq])
    · by_cases hq : ppb > 1000000
      · have e : scaB d ppb = false := by unfold scaB; rw [decide_eq_false (by omega), Bool.and_false]
        unfold scaV scaE
        rw [e]
        simp only [sf_sca, putAll, wx, wy, wz, stV, seval, IntWalk.iteOmega, IntWalk.toNatUp, reduceCtorEq]
        refine st_call (val_c G d) rfl (.inl rfl) ?_
        simp only [hv, eq_true hq, wx, wy, wz, stV, seval, IntWalk.iteOmega, IntWalk.toNatUp, reduceCtorEq]
        exact ret_d2 (by simp only [wx, wy, wz, stV, seval, IntWalk.iteOmega, IntWalk.toNatUp, reduceCtorEq]) (by simp only [wx, wy, wz, stV, seval, IntWalk.iteOmega, IntWalk.toNatUp, reduceCtorEq])
      · have hd : -1152921504606846976 ≤ d ∧ d ≤ 1152921504606846976 := of_decide_eq_true hv
        have e : scaB d ppb = true := scaB_t hd (by omega) (by omega)
        have e0 : roundI d 1000000000 false = d / 1000000000 := if_neg (by intro k; cases k.1)
        have q1 := mul_in (x := d / 1000000000) (p := ppb) (A := 1152921505) (B := 1000000) (by omega) (by omega) (by omega) (by omega) (by omega)
        have q2 := mul_in (x := d % 1000000000) (p := ppb) (A := 1000000000) (B := 1000000) (by omega) (by omega) (by omega) (by omega) (by omega)
        have er : d - d / 1000000000 * 1000000000 = d % 1000000000 := by omega
        have q3 := round_in (d % 1000000000 * ppb) (b := 1000000000) (by decide) up
        have c1 := quo_c G d 1000000000 false h1 h2 (by decide)
        rw [e0] at c1
        have c2 := quo_c G (d % 1000000000 * ppb) 1000000000 up (by omega) (by omega) (by decide)
        unfold scaV scaE scaN
        rw [if_pos e, if_pos e]
        generalize hX : d / 1000000000 * ppb = X at *
        generalize hY : d % 1000000000 * ppb = Y at *
        generalize hR : roundI Y 1000000000 up = R at *
        simp only [sf_sca, putAll, wx, wy, wz, stV, seval, IntWalk.iteOmega, IntWalk.toNatUp, reduceCtorEq]
        refine st_call (val_c G d) rfl (.inl rfl) ?_
        simp only [hv, eq_false hq, wx, wy, wz, stV, seval, IntWalk.iteOmega, IntWalk.toNatUp, reduceCtorEq]
        refine st_call (c1) rfl (.inl rfl) ?_
        simp only [hX, hY, er, wx, wy, wz, stV, seval, IntWalk.iteOmega, IntWalk.toNatUp, reduceCtorEq]
        refine st_call (c2) rfl (.inl rfl) ?_
        simp only [wx, wy, wz, stV, seval, IntWalk.iteOmega, IntWalk.toNatUp, reduceCtorEq]
        exact ret_d2 (by simp only [wx, wy, wz, stV, seval, IntWalk.iteOmega, IntWalk.toNatUp, reduceCtorEq]) (by simp only [wx, wy, wz, stV, seval, IntWalk.iteOmega, IntWalk.toNatUp, reduceCtorEq])
/-! ### Wire timestamps -/
def wirN (t : Int) : Int := t / 1048576 % 4294967296 * 4294967296 + t % 1048576 * 4096
def wirV (t : Int) : Int := if valT t = true then wirN t else 0
def wirE (t : Int) : Int := if valT t = true then 0 else 4
def sf_wir : SFn := ⟨1, 17,
  .seq (.reg [⟨(some 2), .mv (.k (.c (.d (.int .u64 0)))), none⟩,
    ⟨(some 3), .mv (.k (.c (.d (.int .i64 0)))), none⟩])
  (.seq (.seq (.reg [⟨(some 4), .mv (.t 0), none⟩,
    ⟨(some 5), .call 71 [(.t 4)] none, none⟩,
    ⟨(some 6), .un .not (.t 5), none⟩])
  (.cond (.t 6) (.seq (.reg [⟨(some 2), .mv (.k (.c (.d (.int .u64 0)))), none⟩,
     ⟨(some 3), .mv (.k (.c (.d (.int .i64 4)))), none⟩])
   (.ret))
   (.skip)))
  (.seq (.reg [⟨(some 7), .mv (.t 0), none⟩,
    ⟨(some 8), .call 61 [(.t 7)] none, none⟩,
    ⟨(some 9), .conv .u32 (.t 8), none⟩,
    ⟨(some 10), .conv .u64 (.t 9), none⟩,
    ⟨(some 11), .bin .shl (.t 10) (.k (.c (.d (.int .u64 32)))), none⟩,
    ⟨(some 12), .mv (.t 0), none⟩,
    ⟨(some 13), .call 63 [(.t 12)] none, none⟩,
    ⟨(some 14), .conv .u64 (.t 13), none⟩,
    ⟨(some 15), .bin .shl (.t 14) (.k (.c (.d (.int .u64 12)))), none⟩,
    ⟨(some 16), .bin .or (.t 11) (.t 15), none⟩,
    ⟨(some 2), .mv (.t 16), none⟩,
    ⟨(some 3), .mv (.k (.c (.d (.int .i64 0)))), none⟩])
  (.ret))),
  [(2, none), (3, none)]⟩
theorem cf_wir : compFn Try.prog { own := [], comp := [], frz := [], nils := [] } Try.f36 = some sf_wir := by kernel_rfl
theorem wir_c (G : Glob) (t : Int) (h1 : -9223372036854775808 ≤ t) (h2 : t ≤ 9223372036854775807) : Den Try.prog G 36 [.int .i64 t] (.tup [.c (.d (.int .u64 (wirV t))), .c (.d (.int .i64 (wirE t)))]) := by
  refine den_walk Try.func36 cf_wir rfl rfl ?_
  unfold wirV wirE
  cases hv : valT t
  · simp only [sf_wir, putAll, wx, wy, wz, stV, seval, IntWalk.iteOmega, IntWalk.toNatUp, reduceCtorEq]
    refine st_call (val_c G t) rfl (.inl rfl) ?_
    simp only [hv, wx, wy, wz, stV, seval, IntWalk.iteOmega, IntWalk.toNatUp, reduceCtorEq]
    exact ret_d2 (by simp only [wx, wy, wz, stV, seval, IntWalk.iteOmega, IntWalk.toNatUp, reduceCtorEq]) (by simp only [wx, wy, wz, stV, seval, IntWalk.iteOmega, IntWalk.toNatUp, reduceCtorEq])
  · have e1 := u64_orW (t / 1048576 % 4294967296) (t % 1048576 * 4096) (by omega) (by omega) (by omega) (by omega)
    have e2 : IntKind.u32.wrap (t / 1048576) = t / 1048576 % 4294967296 := IntKind.wrap_u32 _
    simp only [sf_wir, putAll, wx, wy, wz, stV, seval, IntWalk.iteOmega, IntWalk.toNatUp, reduceCtorEq]
    refine st_call (val_c G t) rfl (.inl rfl) ?_
    simp only [hv, wx, wy, wz, stV, seval, IntWalk.iteOmega, IntWalk.toNatUp, reduceCtorEq]
    refine st_call (snd_c G t) rfl (.inl rfl) ?_
    simp only [bU64, e2, wx, wy, wz, stV, seval, IntWalk.iteOmega, IntWalk.toNatUp, reduceCtorEq]
    refine st_call (prt_c G t) rfl (.inl rfl) ?_
    simp only [bU64, e1, wx, wy, wz, stV, seval, IntWalk.iteOmega, IntWalk.toNatUp, reduceCtorEq]
    unfold wirN
    exact ret_d2 (by simp only [wx, wy, wz, stV, seval, IntWalk.iteOmega, IntWalk.toNatUp, reduceCtorEq]) (by simp only [wx, wy, wz, stV, seval, IntWalk.iteOmega, IntWalk.toNatUp, reduceCtorEq])
def sf_dwn : SFn := ⟨1, 6,
  .seq (.reg [⟨(some 2), .mv (.k (.c (.d (.int .i64 0)))), none⟩])
  (.seq (.reg [⟨(some 3), .mv (.t 0), none⟩,
    ⟨(some 4), .bin .shr (.t 3) (.k (.c (.d (.int .u64 12)))), none⟩,
    ⟨(some 5), .conv .i64 (.t 4), none⟩,
    ⟨(some 2), .mv (.t 5), none⟩])
  (.ret)),
  [(2, none)]⟩
theorem cf_dwn : compFn Try.prog { own := [], comp := [], frz := [], nils := [] } Try.f98 = some sf_dwn := by kernel_rfl
theorem dwn_c (G : Glob) (w : Int) (h1 : 0 ≤ w) (h2 : w < 18446744073709551616) : Den Try.prog G 98 [.int .u64 w] (.w (.c (.d (.int .i64 (w / 4096))))) := by
  refine den_walk Try.func98 cf_dwn rfl rfl ?_
  simp only [sf_dwn, putAll, wx, wy, wz, stV, seval, IntWalk.iteOmega, IntWalk.toNatUp, reduceCtorEq, bU64]
  exact ret_d1 (by simp only [wx, wy, wz, stV, seval, IntWalk.iteOmega, IntWalk.toNatUp, reduceCtorEq])
def upV (w : Int) : Int := if w % 4096 = 0 then w / 4096 else w / 4096 + 1
def sf_upp : SFn := ⟨1, 11,
  .seq (.reg [⟨(some 2), .mv (.k (.c (.d (.int .i64 0)))), none⟩])
  (.seq (.seq (.reg [⟨(some 3), .mv (.t 0), none⟩,
    ⟨(some 4), .bin .rem (.t 3) (.k (.c (.d (.int .u64 4096)))), none⟩,
    ⟨(some 5), .bin .eql (.t 4) (.k (.c (.d (.int .u64 0)))), none⟩])
  (.cond (.t 5) (.seq (.reg [⟨(some 6), .mv (.t 0), none⟩,
     ⟨(some 7), .call 98 [(.t 6)] none, none⟩,
     ⟨(some 2), .mv (.t 7), none⟩])
   (.ret))
   (.skip)))
  (.seq (.reg [⟨(some 8), .mv (.t 0), none⟩,
    ⟨(some 9), .call 98 [(.t 8)] none, none⟩,
    ⟨(some 10), .bin .add (.t 9) (.k (.c (.d (.int .i64 1)))), none⟩,
    ⟨(some 2), .mv (.t 10), none⟩])
  (.ret))),
  [(2, none)]⟩
theorem cf_upp : compFn Try.prog { own := [], comp := [], frz := [], nils := [] } Try.f91 = some sf_upp := by kernel_rfl
theorem upp_c (G : Glob) (w : Int) (h1 : 0 ≤ w) (h2 : w < 18446744073709551616) : Den Try.prog G 91 [.int .u64 w] (.w (.c (.d (.int .i64 (upV w))))) := by
  refine den_walk Try.func91 cf_upp rfl rfl ?_
  unfold upV
  have e : w.tmod 4096 = w % 4096 := Int.tmod_eq_emod_of_nonneg h1
  by_cases k : w % 4096 = 0
  · rw [if_pos k]
    simp only [sf_upp, putAll, wx, wy, wz, stV, seval, IntWalk.iteOmega, IntWalk.toNatUp, reduceCtorEq, e, k]
    refine st_call (dwn_c G w h1 h2) rfl (.inl rfl) ?_
    simp only [wx, wy, wz, stV, seval, IntWalk.iteOmega, IntWalk.toNatUp, reduceCtorEq]
    exact ret_d1 (by simp only [wx, wy, wz, stV, seval, IntWalk.iteOmega, IntWalk.toNatUp, reduceCtorEq])
  · rw [if_neg k]
    simp only [sf_upp, putAll, wx, wy, wz, stV, seval, IntWalk.iteOmega, IntWalk.toNatUp, reduceCtorEq, e, k]
    refine st_call (dwn_c G w h1 h2) rfl (.inl rfl) ?_
    simp only [wx, wy, wz, stV, seval, IntWalk.iteOmega, IntWalk.toNatUp, reduceCtorEq]
    exact ret_d1 (by simp only [wx, wy, wz, stV, seval, IntWalk.iteOmega, IntWalk.toNatUp, reduceCtorEq])
/-! ### Delay, Units -/
def uniB (d : Int) (up : Bool) : Bool := decide (0 ≤ d ∧ roundI d 16 up ≤ 4294967295)
def uniV (d : Int) (up : Bool) : Int := if uniB d up = true then roundI d 16 up else 0
def uniE (d : Int) (up : Bool) : Int := if uniB d up = true then 0 else 4
theorem round16 (d : Int) (up : Bool) : d / 16 ≤ roundI d 16 up ∧ roundI d 16 up ≤ d / 16 + 1 := by
  unfold roundI; split <;> omega
end Go.Proofs.Ytjebhdadegfbdaa
