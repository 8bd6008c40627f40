/- Layer 10 on data: numbers of ticks: the program and the reference. Own work. -/
import Derived.Test.YtcafaihnflnkfaaProg
import Derived.Test.YtcafaihnflnkfaaAlW
import Derived.Test.YtcafaihnflnkfaaPr0
import Derived.Laws.Bits128
import Derived.Laws.BitsAllLaws
set_option linter.unusedVariables false
set_option linter.unusedSimpArgs false
namespace Go.Proofs.Ytcafaihnflnkfaa
open Go.RowKit

/-! ### Bits -/
theorem i64_andM (k : Nat) (M : Int) (hM : (BitVec.ofInt 64 M).toNat = 2 ^ k - 1) (n : Int) (hk : k < 63) : bits .and .i64 n M = n % ((2 ^ k : Nat) : Int) := by
  have key : (BitVec.ofInt 64 n &&& BitVec.ofInt 64 M).toNat = (n % ((2 ^ 64 : Nat) : Int)).toNat % 2 ^ k := by
    rw [BitVec.toNat_and, BitVec.toNat_ofInt, hM, Nat.and_two_pow_sub_one_eq_mod]
  show IntKind.i64.wrap ((BitVec.ofInt 64 n &&& BitVec.ofInt 64 M).toNat : Nat) = _
  rw [key, IntKind.wrap_i64]
  have hd : ((2 ^ k : Nat) : Int) ∣ ((2 ^ 64 : Nat) : Int) := Int.natCast_dvd_natCast.2 (Nat.pow_dvd_pow 2 (by omega))
  have hp : 0 < 2 ^ k := Nat.two_pow_pos k
  have hlt : 2 ^ k ≤ 2 ^ 62 := Nat.pow_le_pow_right (by decide) (by omega)
  have h0 : 0 ≤ n % ((2 ^ 64 : Nat) : Int) := Int.emod_nonneg _ (by decide)
  have e1 : (((n % ((2 ^ 64 : Nat) : Int)).toNat % 2 ^ k : Nat) : Int) = n % ((2 ^ k : Nat) : Int) := by
    rw [Int.natCast_emod, Int.toNat_of_nonneg h0, Int.emod_emod_of_dvd n hd]
  rw [e1]
  have h1 : 0 ≤ n % ((2 ^ k : Nat) : Int) := Int.emod_nonneg _ (by omega)
  have h2 : n % ((2 ^ k : Nat) : Int) < ((2 ^ k : Nat) : Int) := Int.emod_lt_of_pos _ (by omega)
  have h3 : ((2 ^ k : Nat) : Int) ≤ 4611686018427387904 := by
    have : ((2 ^ 62 : Nat) : Int) = 4611686018427387904 := by decide
    rw [← this]; exact Int.ofNat_le.2 hlt
  have := IntWalk.i64_in (n % ((2 ^ k : Nat) : Int)) (by omega)
  rw [IntKind.wrap_i64] at this
  exact this
theorem i64_and20 (n : Int) : bits .and .i64 n 1048575 = n % 1048576 := i64_andM 20 1048575 (by decide) n (by decide)
theorem i64_and32 (n : Int) : bits .and .i64 n 4294967295 = n % 4294967296 := i64_andM 32 4294967295 (by decide) n (by decide)
theorem i64_and52 (n : Int) : bits .and .i64 n 4503599627370495 = n % 4503599627370496 := i64_andM 52 4503599627370495 (by decide) n (by decide)
theorem u64_and12 (n : Int) (h1 : 0 ≤ n) (h2 : n < 18446744073709551616) : bits .and .u64 n 4095 = n % 4096 := by
  obtain ⟨N, rfl⟩ := Int.eq_ofNat_of_zero_le h1
  have := Go.u64_and_nat N 4095 (by omega) (by decide)
  have e : N &&& 4095 = N % 4096 := Nat.and_two_pow_sub_one_eq_mod N 12
  rw [e] at this
  rw [show ((4095 : Nat) : Int) = 4095 from rfl] at this
  rw [this]; omega
/-- The upper 32 bits, and what lies below. -/
theorem u64_orW (s p : Int) (h1 : 0 ≤ s) (h2 : s < 4294967296) (h3 : 0 ≤ p) (h4 : p < 4294967296) : bits .or .u64 (s * 4294967296) p = s * 4294967296 + p := by
  obtain ⟨S, rfl⟩ := Int.eq_ofNat_of_zero_le h1
  obtain ⟨Q, rfl⟩ := Int.eq_ofNat_of_zero_le h3
  have := Go.u64_or_nat (S * 4294967296) Q (by omega) (by omega)
  have e : S * 4294967296 ||| Q = S * 4294967296 + Q := by
    have := Nat.two_pow_add_eq_or_of_lt (i := 32) (b := Q) (by omega) S
    rw [Nat.mul_comm] at this
    exact this.symm
  rw [e] at this
  simpa using this

theorem bI64 : IntKind.i64.bits = 64 := rfl
theorem bU64 : IntKind.u64.bits = 64 := rfl
/-! ### Quotients -/
theorem tdiv_facts (a : Int) {b : Int} (h : 1 ≤ b) : (0 ≤ a.tmod b → a.tdiv b = a / b) ∧ (a.tmod b < 0 → a.tdiv b = a / b + 1) ∧ (0 < a.tmod b → 0 ≤ a.tdiv b ∧ a.tdiv b < a) ∧ (a.tmod b < 0 → a.tdiv b ≤ 0 ∧ a < a.tdiv b) ∧ (a.tmod b = 0 → (0 ≤ a → 0 ≤ a.tdiv b ∧ a.tdiv b ≤ a) ∧ (a ≤ 0 → a.tdiv b ≤ 0 ∧ a ≤ a.tdiv b)) := by
  have hb := below_ediv a (show 0 < b by omega)
  unfold belowI at hb
  have e := Int.tmod_add_mul_tdiv a b
  have up : ∀ q : Int, 0 ≤ q → q ≤ b * q := fun q hq => by
    have := Int.mul_le_mul_of_nonneg_right h hq
    omega
  have dn : ∀ q : Int, q ≤ 0 → b * q ≤ q := fun q hq => by
    have := up (-q) (by omega)
    rw [Int.mul_neg] at this; omega
  have s1 : 0 ≤ a → 0 ≤ a.tdiv b ∧ 0 ≤ a.tmod b := fun ha => ⟨Int.tdiv_nonneg ha (by omega), Int.tmod_nonneg b ha⟩
  have s2 : a ≤ 0 → a.tdiv b ≤ 0 ∧ a.tmod b ≤ 0 := fun ha => by
    have := Int.tdiv_nonneg (show 0 ≤ -a by omega) (show 0 ≤ b by omega)
    have h2 := Int.tmod_nonneg b (show 0 ≤ -a by omega)
    rw [Int.neg_tdiv] at this
    rw [Int.neg_tmod] at h2
    omega
  refine ⟨fun h0 => ?_, fun h0 => ?_, fun h0 => ?_, fun h0 => ?_, fun h0 => ⟨fun ha => ?_, fun ha => ?_⟩⟩
  · rw [if_neg (by omega)] at hb; exact hb
  · rw [if_pos h0] at hb; omega
  · have : 0 ≤ a := by
      rcases Int.le_total 0 a with h | h
      · exact h
      · have := (s2 h).2; omega
    have := s1 this
    have := up _ this.1
    omega
  · have : a ≤ 0 := by
      rcases Int.le_total a 0 with h | h
      · exact h
      · have := (s1 h).2; omega
    have := s2 this
    have := dn _ this.1
    omega
  · have := s1 ha
    have := up _ this.1
    omega
  · have := s2 ha
    have := dn _ this.1
    omega
theorem round_up (a : Int) {b : Int} (h : 1 ≤ b) : roundI a b true = if 0 < a.tmod b then a.tdiv b + 1 else a.tdiv b := by
  obtain ⟨f1, f2, _⟩ := tdiv_facts a h
  unfold roundI
  by_cases h0 : 0 < a.tmod b
  · rw [if_pos ⟨rfl, by omega⟩, if_pos h0, f1 (by omega)]
  · rw [if_neg h0]
    by_cases h1 : a.tmod b = 0
    · rw [if_neg (by intro k; exact k.2 h1), f1 (by omega)]
    · rw [if_pos ⟨rfl, h1⟩, f2 (by omega)]
theorem round_dn (a : Int) {b : Int} (h : 1 ≤ b) : roundI a b false = if a.tmod b < 0 then a.tdiv b - 1 else a.tdiv b := by
  have hb := below_ediv a (show 0 < b by omega)
  unfold belowI at hb
  unfold roundI
  rw [if_neg (by intro k; cases k.1)]
  exact hb.symm
theorem round_le (a : Int) {b : Int} (h : 1 ≤ b) (up : Bool) (h1 : -9223372036854775808 ≤ a) (h2 : a ≤ 9223372036854775807) : -9223372036854775808 ≤ roundI a b up ∧ roundI a b up ≤ 9223372036854775807 := by
  obtain ⟨f1, f2, f3, f4, f5⟩ := tdiv_facts a h
  cases up
  · rw [round_dn a h]; split <;> omega
  · rw [round_up a h]; split <;> omega
/-! ### Valid, Second, Part -/
def valT (t : Int) : Bool := decide (-1152921504606846976 ≤ t ∧ t ≤ 1152921504606846976)
theorem valT_t {t : Int} (h : -1152921504606846976 ≤ t ∧ t ≤ 1152921504606846976) : valT t = true := decide_eq_true h
theorem valT_f {t : Int} (h : ¬ (-1152921504606846976 ≤ t ∧ t ≤ 1152921504606846976)) : valT t = false := decide_eq_false h
def sf_val : SFn := ⟨1, 9,
  .seq (.reg [⟨(some 2), .mv (.k (.c (.d (.bool false)))), none⟩])
  (.seq (.reg [⟨(some 3), .mv (.t 0), none⟩,
    ⟨(some 4), .bin .geq (.t 3) (.k (.c (.d (.int .i64 (-1152921504606846976))))), none⟩,
    ⟨(some 5), .mv (.t 4), none⟩,
    ⟨(some 6), .mv (.t 0), (some (5, true))⟩,
    ⟨(some 7), .bin .leq (.t 6) (.k (.c (.d (.int .i64 1152921504606846976)))), (some (5, true))⟩,
    ⟨(some 8), .pick (.t 5) (.t 7) (.k (.c (.d (.bool false)))), none⟩,
    ⟨(some 2), .mv (.t 8), none⟩])
  (.ret)),
  [(2, none)]⟩
theorem cf_val : compFn Try.prog { own := [], comp := [], frz := [], nils := [] } Try.f16 = some sf_val := by kernel_rfl
theorem val_c (G : Glob) (t : Int) : Den Try.prog G 16 [.int .i64 t] (.w (.c (.d (.bool (valT t))))) := by
  refine den_walk Try.func16 cf_val rfl rfl ?_
  by_cases h : t ≥ -1152921504606846976
  · by_cases h2 : t ≤ 1152921504606846976
    · rw [valT_t ⟨h, h2⟩]
      simp only [sf_val, putAll, wx, wy, wz, stV, seval, IntWalk.iteOmega, IntWalk.toNatUp, reduceCtorEq, eq_true h, eq_true h2]
      exact ret_d1 (by simp only [wx, wy, wz, stV, seval, IntWalk.iteOmega, IntWalk.toNatUp, reduceCtorEq])
    · rw [valT_f (by omega)]
      simp only [sf_val, putAll, wx, wy, wz, stV, seval, IntWalk.iteOmega, IntWalk.toNatUp, reduceCtorEq, eq_true h, eq_false h2]
      exact ret_d1 (by simp only [wx, wy, wz, stV, seval, IntWalk.iteOmega, IntWalk.toNatUp, reduceCtorEq])
  · rw [valT_f (by omega)]
    simp only [sf_val, putAll, wx, wy, wz, stV, seval, IntWalk.iteOmega, IntWalk.toNatUp, reduceCtorEq, eq_false h]
    exact ret_d1 (by simp only [wx, wy, wz, stV, seval, IntWalk.iteOmega, IntWalk.toNatUp, reduceCtorEq])
def sf_snd : SFn := ⟨1, 5,
  .seq (.reg [⟨(some 2), .mv (.k (.c (.d (.int .i64 0)))), none⟩])
  (.seq (.reg [⟨(some 3), .mv (.t 0), none⟩,
    ⟨(some 4), .bin .shr (.t 3) (.k (.c (.d (.int .u64 20)))), none⟩,
    ⟨(some 2), .mv (.t 4), none⟩])
  (.ret)),
  [(2, none)]⟩
theorem cf_snd : compFn Try.prog { own := [], comp := [], frz := [], nils := [] } Try.f17 = some sf_snd := by kernel_rfl
theorem snd_c (G : Glob) (t : Int) : Den Try.prog G 17 [.int .i64 t] (.w (.c (.d (.int .i64 (t / 1048576))))) := by
  refine den_walk Try.func17 cf_snd rfl rfl ?_
  simp only [sf_snd, putAll, wx, wy, wz, stV, seval, IntWalk.iteOmega, IntWalk.toNatUp, reduceCtorEq, bI64]
  exact ret_d1 (by simp only [wx, wy, wz, stV, seval, IntWalk.iteOmega, IntWalk.toNatUp, reduceCtorEq])
def sf_prt : SFn := ⟨1, 5,
  .seq (.reg [⟨(some 2), .mv (.k (.c (.d (.int .i64 0)))), none⟩])
  (.seq (.reg [⟨(some 3), .mv (.t 0), none⟩,
    ⟨(some 4), .bin .and (.t 3) (.k (.c (.d (.int .i64 1048575)))), none⟩,
    ⟨(some 2), .mv (.t 4), none⟩])
  (.ret)),
  [(2, none)]⟩
theorem cf_prt : compFn Try.prog { own := [], comp := [], frz := [], nils := [] } Try.f18 = some sf_prt := by kernel_rfl
theorem prt_c (G : Glob) (t : Int) : Den Try.prog G 18 [.int .i64 t] (.w (.c (.d (.int .i64 (t % 1048576))))) := by
  refine den_walk Try.func18 cf_prt rfl rfl ?_
  simp only [sf_prt, putAll, wx, wy, wz, stV, seval, IntWalk.iteOmega, IntWalk.toNatUp, reduceCtorEq, i64_and20]
  exact ret_d1 (by simp only [wx, wy, wz, stV, seval, IntWalk.iteOmega, IntWalk.toNatUp, reduceCtorEq])
/-! ### Divide, Scale -/
def divE (a b : Int) : Int := if b < 1 ∨ valT a = false then 4 else 0
def divV (a b : Int) (up : Bool) : Int := if b < 1 ∨ valT a = false then 0 else roundI a b up
def scaB (d ppb : Int) : Bool := valT d && decide (0 ≤ ppb ∧ ppb ≤ 1000000)
def scaN (d ppb : Int) (up : Bool) : Int := d / 1000000000 * ppb + roundI (d % 1000000000 * ppb) 1000000000 up
def scaV (d ppb : Int) (up : Bool) : Int := if scaB d ppb = true then scaN d ppb up else 0
def scaE (d ppb : Int) : Int := if scaB d ppb = true then 0 else 4
theorem scaB_t {d ppb : Int} (h : -1152921504606846976 ≤ d ∧ d ≤ 1152921504606846976) (h2 : 0 ≤ ppb) (h3 : ppb ≤ 1000000) : scaB d ppb = true := by
  unfold scaB; rw [valT_t h, decide_eq_true ⟨h2, h3⟩]; rfl
theorem mul_in {x p A B : Int} (h1 : -A ≤ x) (h2 : x ≤ A) (h3 : 0 ≤ p) (h4 : p ≤ B) (hA : 0 ≤ A) : -(A * B) ≤ x * p ∧ x * p ≤ A * B := by
  have a1 : x * p ≤ A * p := Int.mul_le_mul_of_nonneg_right h2 h3
  have a2 : A * p ≤ A * B := Int.mul_le_mul_of_nonneg_left h4 hA
  have a3 : -A * p ≤ x * p := Int.mul_le_mul_of_nonneg_right h1 h3
  rw [Int.neg_mul] at a3
  omega
theorem round_in (a : Int) {b : Int} (h : 1 ≤ b) (up : Bool) : (0 ≤ a → 0 ≤ roundI a b up ∧ roundI a b up ≤ a + 1) ∧ (a ≤ 0 → a - 1 ≤ roundI a b up ∧ roundI a b up ≤ 0) := by
  obtain ⟨f1, f2, f3, f4, f5⟩ := tdiv_facts a h
  have s1 : 0 ≤ a → 0 ≤ a.tmod b := fun ha => Int.tmod_nonneg b ha
  have s2 : a ≤ 0 → a.tmod b ≤ 0 := fun ha => by
    have h2 := Int.tmod_nonneg b (show 0 ≤ -a by omega)
    rw [Int.neg_tmod] at h2; omega
  cases up
  · rw [round_dn a h]; constructor <;> intro ha <;> split <;> omega
  · rw [round_up a h]; constructor <;> intro ha <;> split <;> omega
/-! ### Wire timestamps -/
def wirN (t : Int) : Int := t / 1048576 % 4294967296 * 4294967296 + t % 1048576 * 4096
def wirV (t : Int) : Int := if valT t = true then wirN t else 0
def wirE (t : Int) : Int := if valT t = true then 0 else 4
def sf_wir : SFn := ⟨1, 17,
  .seq (.reg [⟨(some 2), .mv (.k (.c (.d (.int .u64 0)))), none⟩,
    ⟨(some 3), .mv (.k (.c (.d (.int .i64 0)))), none⟩])
  (.seq (.seq (.reg [⟨(some 4), .mv (.t 0), none⟩,
    ⟨(some 5), .call 16 [(.t 4)] none, none⟩,
    ⟨(some 6), .un .not (.t 5), none⟩])
  (.cond (.t 6) (.seq (.reg [⟨(some 2), .mv (.k (.c (.d (.int .u64 0)))), none⟩,
     ⟨(some 3), .mv (.k (.c (.d (.int .i64 4)))), none⟩])
   (.ret))
   (.skip)))
  (.seq (.reg [⟨(some 7), .mv (.t 0), none⟩,
    ⟨(some 8), .call 17 [(.t 7)] none, none⟩,
    ⟨(some 9), .conv .u32 (.t 8), none⟩,
    ⟨(some 10), .conv .u64 (.t 9), none⟩,
    ⟨(some 11), .bin .shl (.t 10) (.k (.c (.d (.int .u64 32)))), none⟩,
    ⟨(some 12), .mv (.t 0), none⟩,
    ⟨(some 13), .call 18 [(.t 12)] none, none⟩,
    ⟨(some 14), .conv .u64 (.t 13), none⟩,
    ⟨(some 15), .bin .shl (.t 14) (.k (.c (.d (.int .u64 12)))), none⟩,
    ⟨(some 16), .bin .or (.t 11) (.t 15), none⟩,
    ⟨(some 2), .mv (.t 16), none⟩,
    ⟨(some 3), .mv (.k (.c (.d (.int .i64 0)))), none⟩])
  (.ret))),
  [(2, none), (3, none)]⟩
theorem cf_wir : compFn Try.prog { own := [], comp := [], frz := [], nils := [] } Try.f9 = some sf_wir := by kernel_rfl
theorem wir_c (G : Glob) (t : Int) (h1 : -9223372036854775808 ≤ t) (h2 : t ≤ 9223372036854775807) : Den Try.prog G 9 [.int .i64 t] (.tup [.c (.d (.int .u64 (wirV t))), .c (.d (.int .i64 (wirE t)))]) := by
  refine den_walk Try.func9 cf_wir rfl rfl ?_
  unfold wirV wirE
  cases hv : valT t
  · simp only [sf_wir, putAll, wx, wy, wz, stV, seval, IntWalk.iteOmega, IntWalk.toNatUp, reduceCtorEq]
    refine st_call (val_c G t) rfl (.inl rfl) ?_
    simp only [hv, wx, wy, wz, stV, seval, IntWalk.iteOmega, IntWalk.toNatUp, reduceCtorEq]
    exact ret_d2 (by simp only [wx, wy, wz, stV, seval, IntWalk.iteOmega, IntWalk.toNatUp, reduceCtorEq]) (by simp only [wx, wy, wz, stV, seval, IntWalk.iteOmega, IntWalk.toNatUp, reduceCtorEq])
  · have e1 := u64_orW (t / 1048576 % 4294967296) (t % 1048576 * 4096) (by omega) (by omega) (by omega) (by omega)
    have e2 : IntKind.u32.wrap (t / 1048576) = t / 1048576 % 4294967296 := IntKind.wrap_u32 _
    simp only [sf_wir, putAll, wx, wy, wz, stV, seval, IntWalk.iteOmega, IntWalk.toNatUp, reduceCtorEq]
    refine st_call (val_c G t) rfl (.inl rfl) ?_
    simp only [hv, wx, wy, wz, stV, seval, IntWalk.iteOmega, IntWalk.toNatUp, reduceCtorEq]
    refine st_call (snd_c G t) rfl (.inl rfl) ?_
    simp only [bU64, e2, wx, wy, wz, stV, seval, IntWalk.iteOmega, IntWalk.toNatUp, reduceCtorEq]
    refine st_call (prt_c G t) rfl (.inl rfl) ?_
    simp only [bU64, e1, wx, wy, wz, stV, seval, IntWalk.iteOmega, IntWalk.toNatUp, reduceCtorEq]
    unfold wirN
    exact ret_d2 (by simp only [wx, wy, wz, stV, seval, IntWalk.iteOmega, IntWalk.toNatUp, reduceCtorEq]) (by simp only [wx, wy, wz, stV, seval, IntWalk.iteOmega, IntWalk.toNatUp, reduceCtorEq])
def sf_dwn : SFn := ⟨1, 6,
  .seq (.reg [⟨(some 2), .mv (.k (.c (.d (.int .i64 0)))), none⟩])
  (.seq (.reg [⟨(some 3), .mv (.t 0), none⟩,
    ⟨(some 4), .bin .shr (.t 3) (.k (.c (.d (.int .u64 12)))), none⟩,
    ⟨(some 5), .conv .i64 (.t 4), none⟩,
    ⟨(some 2), .mv (.t 5), none⟩])
  (.ret)),
  [(2, none)]⟩
theorem cf_dwn : compFn Try.prog { own := [], comp := [], frz := [], nils := [] } Try.f23 = some sf_dwn := by kernel_rfl
theorem dwn_c (G : Glob) (w : Int) (h1 : 0 ≤ w) (h2 : w < 18446744073709551616) : Den Try.prog G 23 [.int .u64 w] (.w (.c (.d (.int .i64 (w / 4096))))) := by
  refine den_walk Try.func23 cf_dwn rfl rfl ?_
  simp only [sf_dwn, putAll, wx, wy, wz, stV, seval, IntWalk.iteOmega, IntWalk.toNatUp, reduceCtorEq, bU64]
  exact ret_d1 (by simp only [wx, wy, wz, stV, seval, IntWalk.iteOmega, IntWalk.toNatUp, reduceCtorEq])
def upV (w : Int) : Int := if w % 4096 = 0 then w / 4096 else w / 4096 + 1
def sf_upp : SFn := ⟨1, 11,
  .seq (.reg [⟨(some 2), .mv (.k (.c (.d (.int .i64 0)))), none⟩])
  (.seq (.seq (.reg [⟨(some 3), .mv (.t 0), none⟩,
    ⟨(some 4), .bin .rem (.t 3) (.k (.c (.d (.int .u64 4096)))), none⟩,
    ⟨(some 5), .bin .eql (.t 4) (.k (.c (.d (.int .u64 0)))), none⟩])
  (.cond (.t 5) (.seq (.reg [⟨(some 6), .mv (.t 0), none⟩,
     ⟨(some 7), .call 23 [(.t 6)] none, none⟩,
     ⟨(some 2), .mv (.t 7), none⟩])
   (.ret))
   (.skip)))
  (.seq (.reg [⟨(some 8), .mv (.t 0), none⟩,
    ⟨(some 9), .call 23 [(.t 8)] none, none⟩,
    ⟨(some 10), .bin .add (.t 9) (.k (.c (.d (.int .i64 1)))), none⟩,
    ⟨(some 2), .mv (.t 10), none⟩])
  (.ret))),
  [(2, none)]⟩
theorem cf_upp : compFn Try.prog { own := [], comp := [], frz := [], nils := [] } Try.f20 = some sf_upp := by kernel_rfl
theorem upp_c (G : Glob) (w : Int) (h1 : 0 ≤ w) (h2 : w < 18446744073709551616) : Den Try.prog G 20 [.int .u64 w] (.w (.c (.d (.int .i64 (upV w))))) := by
  refine den_walk Try.func20 cf_upp rfl rfl ?_
  unfold upV
  have e : w.tmod 4096 = w % 4096 := Int.tmod_eq_emod_of_nonneg h1
  by_cases k : w % 4096 = 0
  · rw [if_pos k]
    simp only [sf_upp, putAll, wx, wy, wz, stV, seval, IntWalk.iteOmega, IntWalk.toNatUp, reduceCtorEq, e, k]
    refine st_call (dwn_c G w h1 h2) rfl (.inl rfl) ?_
    simp only [wx, wy, wz, stV, seval, IntWalk.iteOmega, IntWalk.toNatUp, reduceCtorEq]
    exact ret_d1 (by simp only [wx, wy, wz, stV, seval, IntWalk.iteOmega, IntWalk.toNatUp, reduceCtorEq])
  · rw [if_neg k]
    simp only [sf_upp, putAll, wx, wy, wz, stV, seval, IntWalk.iteOmega, IntWalk.toNatUp, reduceCtorEq, e, k]
    refine st_call (dwn_c G w h1 h2) rfl (.inl rfl) ?_
    simp only [wx, wy, wz, stV, seval, IntWalk.iteOmega, IntWalk.toNatUp, reduceCtorEq]
    exact ret_d1 (by simp only [wx, wy, wz, stV, seval, IntWalk.iteOmega, IntWalk.toNatUp, reduceCtorEq])
/-! ### Delay, Units -/
def uniB (d : Int) (up : Bool) : Bool := decide (0 ≤ d ∧ roundI d 16 up ≤ 4294967295)
def uniV (d : Int) (up : Bool) : Int := if uniB d up = true then roundI d 16 up else 0
def uniE (d : Int) (up : Bool) : Int := if uniB d up = true then 0 else 4
theorem round16 (d : Int) (up : Bool) : d / 16 ≤ roundI d 16 up ∧ roundI d 16 up ≤ d / 16 + 1 := by
  unfold roundI; split <;> omega
end Go.Proofs.Ytcafaihnflnkfaa
