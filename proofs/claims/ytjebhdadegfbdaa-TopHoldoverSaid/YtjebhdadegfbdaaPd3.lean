/- Layer 15 on data: the reference. Own work. -/
import Derived.Test.YtjebhdadegfbdaaPd2
set_option linter.unusedVariables false
set_option linter.unusedSimpArgs false
namespace Go.Proofs.Ytjebhdadegfbdaa
open Go.RowKit

theorem i64_and31 (n : Int) : bits .and .i64 n 2147483647 = n % 2147483648 := i64_andM 31 2147483647 (by decide) n (by decide)
/-- The upper bits, and the 31 below. -/
theorem i64_orW (s p : Int) (h1 : 0 ≤ s) (h2 : s < 2147483648) (h3 : 0 ≤ p) (h4 : p < 2147483648) : bits .or .i64 (s * 2147483648) p = s * 2147483648 + p := by
  obtain ⟨S, rfl⟩ := Int.eq_ofNat_of_zero_le h1
  obtain ⟨Q, rfl⟩ := Int.eq_ofNat_of_zero_le h3
  have e1 : (BitVec.ofInt 64 ((S : Int) * 2147483648)).toNat = S * 2147483648 := by rw [BitVec.toNat_ofInt]; omega
  have e2 : (BitVec.ofInt 64 (Q : Int)).toNat = Q := by rw [BitVec.toNat_ofInt]; omega
  have e : S * 2147483648 ||| Q = S * 2147483648 + Q := by
    have := Nat.two_pow_add_eq_or_of_lt (i := 31) (b := Q) (by omega) S
    rw [Nat.mul_comm] at this
    exact this.symm
  show IntKind.i64.wrap ((BitVec.ofInt 64 ((S : Int) * 2147483648) ||| BitVec.ofInt 64 (Q : Int)).toNat : Nat) = _
  rw [BitVec.toNat_or, e1, e2, e, IntKind.wrap_i64]
  omega
theorem mulN {a b A B : Int} (h1 : 0 ≤ a) (h2 : a ≤ A) (h3 : 0 ≤ b) (h4 : b ≤ B) : 0 ≤ a * b ∧ a * b ≤ A * B :=
  ⟨Int.mul_nonneg h1 h3, Int.mul_le_mul h2 h4 h3 (Int.le_trans h1 h2)⟩
def sf_rprd : SFn := ⟨2, 51,
  .seq (.reg [⟨(some 4), .mv (.k (.c (.d (.int .i64 0)))), none⟩,
    ⟨(some 5), .mv (.k (.c (.d (.int .i64 0)))), none⟩])
  (.seq (.reg [⟨(some 13), .mv (.t 0), none⟩,
    ⟨(some 14), .bin .shr (.t 13) (.k (.c (.d (.int .u64 31)))), none⟩,
    ⟨(some 15), .mv (.t 0), none⟩,
    ⟨(some 16), .bin .and (.t 15) (.k (.c (.d (.int .i64 2147483647)))), none⟩,
    ⟨(some 17), .mv (.t 1), none⟩,
    ⟨(some 18), .bin .shr (.t 17) (.k (.c (.d (.int .u64 31)))), none⟩,
    ⟨(some 19), .mv (.t 1), none⟩,
    ⟨(some 20), .bin .and (.t 19) (.k (.c (.d (.int .i64 2147483647)))), none⟩,
    ⟨(some 6), .mv (.t 14), none⟩,
    ⟨(some 7), .mv (.t 16), none⟩,
    ⟨(some 8), .mv (.t 18), none⟩,
    ⟨(some 9), .mv (.t 20), none⟩])
  (.seq (.reg [⟨(some 21), .mv (.t 7), none⟩,
    ⟨(some 22), .mv (.t 9), none⟩,
    ⟨(some 23), .bin .mul (.t 21) (.t 22), none⟩,
    ⟨(some 10), .mv (.t 23), none⟩])
  (.seq (.reg [⟨(some 24), .mv (.t 6), none⟩,
    ⟨(some 25), .mv (.t 9), none⟩,
    ⟨(some 26), .bin .mul (.t 24) (.t 25), none⟩,
    ⟨(some 27), .mv (.t 10), none⟩,
    ⟨(some 28), .bin .shr (.t 27) (.k (.c (.d (.int .u64 31)))), none⟩,
    ⟨(some 29), .bin .add (.t 26) (.t 28), none⟩,
    ⟨(some 11), .mv (.t 29), none⟩])
  (.seq (.reg [⟨(some 30), .mv (.t 7), none⟩,
    ⟨(some 31), .mv (.t 8), none⟩,
    ⟨(some 32), .bin .mul (.t 30) (.t 31), none⟩,
    ⟨(some 33), .mv (.t 11), none⟩,
    ⟨(some 34), .bin .and (.t 33) (.k (.c (.d (.int .i64 2147483647)))), none⟩,
    ⟨(some 35), .bin .add (.t 32) (.t 34), none⟩,
    ⟨(some 12), .mv (.t 35), none⟩])
  (.seq (.reg [⟨(some 36), .mv (.t 6), none⟩,
    ⟨(some 37), .mv (.t 8), none⟩,
    ⟨(some 38), .bin .mul (.t 36) (.t 37), none⟩,
    ⟨(some 39), .mv (.t 11), none⟩,
    ⟨(some 40), .bin .shr (.t 39) (.k (.c (.d (.int .u64 31)))), none⟩,
    ⟨(some 41), .bin .add (.t 38) (.t 40), none⟩,
    ⟨(some 42), .mv (.t 12), none⟩,
    ⟨(some 43), .bin .shr (.t 42) (.k (.c (.d (.int .u64 31)))), none⟩,
    ⟨(some 44), .bin .add (.t 41) (.t 43), none⟩,
    ⟨(some 45), .mv (.t 12), none⟩,
    ⟨(some 46), .bin .and (.t 45) (.k (.c (.d (.int .i64 2147483647)))), none⟩,
    ⟨(some 47), .bin .shl (.t 46) (.k (.c (.d (.int .u64 31)))), none⟩,
    ⟨(some 48), .mv (.t 10), none⟩,
    ⟨(some 49), .bin .and (.t 48) (.k (.c (.d (.int .i64 2147483647)))), none⟩,
    ⟨(some 50), .bin .or (.t 47) (.t 49), none⟩,
    ⟨(some 4), .mv (.t 44), none⟩,
    ⟨(some 5), .mv (.t 50), none⟩])
  (.ret)))))),
  [(4, none), (5, none)]⟩
theorem cf_rprd : compFn Try.prog { own := [], comp := [], frz := [], nils := [] } Try.f83 = some sf_rprd := by kernel_rfl
set_option maxHeartbeats 800000 in
theorem rprd_c (G : Glob) (a b : Int) (h1 : 0 ≤ a) (h2 : a ≤ 2305843009213693952) (h3 : 0 ≤ b) (h4 : b ≤ 2305843009213693952) : Den Try.prog G 83 [.int .i64 a, .int .i64 b] (.tup [.c (.d (.int .i64 (prodA a b))), .c (.d (.int .i64 (prodB a b)))]) := by
  refine den_walk Try.func83 cf_rprd rfl rfl ?_
  have a1 : 0 ≤ a / 2147483648 ∧ a / 2147483648 ≤ 1073741824 := by omega
  have a0 : 0 ≤ a % 2147483648 ∧ a % 2147483648 ≤ 2147483647 := by omega
  have b1 : 0 ≤ b / 2147483648 ∧ b / 2147483648 ≤ 1073741824 := by omega
  have b0 : 0 ≤ b % 2147483648 ∧ b % 2147483648 ≤ 2147483647 := by omega
  unfold prodA prodB
  simp only [sf_rprd, putAll, wx, wy, wz, stV, seval, IntWalk.iteOmega, IntWalk.toNatUp, reduceCtorEq, bI64, i64_and31]
  generalize a / 2147483648 = x at *
  generalize a % 2147483648 = y at *
  generalize b / 2147483648 = z at *
  generalize b % 2147483648 = w at *
  have p1 := mulN a0.1 a0.2 b0.1 b0.2
  have p2 := mulN a1.1 a1.2 b0.1 b0.2
  have p3 := mulN a0.1 a0.2 b1.1 b1.2
  have p4 := mulN a1.1 a1.2 b1.1 b1.2
  generalize y * w = P at *
  generalize x * w = Q at *
  generalize y * z = R at *
  generalize x * z = T at *
  have o := i64_orW ((R + (Q + P / 2147483648) % 2147483648) % 2147483648) (P % 2147483648) (by omega) (by omega) (by omega) (by omega)
  simp only [wx, wy, wz, stV, seval, IntWalk.iteOmega, IntWalk.toNatUp, reduceCtorEq, bI64, i64_and31, o]
  exact ret_d2 (by simp only [wx, wy, wz, stV, seval, IntWalk.iteOmega, IntWalk.toNatUp, reduceCtorEq]) (by simp only [wx, wy, wz, stV, seval, IntWalk.iteOmega, IntWalk.toNatUp, reduceCtorEq])
def sf_rmst : SFn := ⟨4, 38,
  .seq (.reg [⟨(some 8), .mv (.k (.c (.d (.bool false)))), none⟩])
  (.seq (.reg [⟨(some 14), .mv (.t 0), none⟩,
    ⟨(some 15), .mv (.t 1), none⟩,
    ⟨(some 16), .call 83 [(.t 14), (.t 15)] none, none⟩,
    ⟨(some 13), .mv (.t 16), none⟩,
    ⟨(some 17), .extract (.t 13) 0, none⟩,
    ⟨(some 18), .extract (.t 13) 1, none⟩,
    ⟨(some 9), .mv (.t 17), none⟩,
    ⟨(some 10), .mv (.t 18), none⟩])
  (.seq (.reg [⟨(some 20), .mv (.t 2), none⟩,
    ⟨(some 21), .mv (.t 3), none⟩,
    ⟨(some 22), .call 83 [(.t 20), (.t 21)] none, none⟩,
    ⟨(some 19), .mv (.t 22), none⟩,
    ⟨(some 23), .extract (.t 19) 0, none⟩,
    ⟨(some 24), .extract (.t 19) 1, none⟩,
    ⟨(some 11), .mv (.t 23), none⟩,
    ⟨(some 12), .mv (.t 24), none⟩])
  (.seq (.reg [⟨(some 25), .mv (.t 9), none⟩,
    ⟨(some 26), .mv (.t 11), none⟩,
    ⟨(some 27), .bin .lss (.t 25) (.t 26), none⟩,
    ⟨(some 28), .mv (.t 27), none⟩,
    ⟨(some 29), .mv (.t 9), (some (28, false))⟩,
    ⟨(some 30), .mv (.t 11), (some (28, false))⟩,
    ⟨(some 31), .bin .eql (.t 29) (.t 30), (some (28, false))⟩,
    ⟨(some 32), .mv (.t 31), (some (28, false))⟩,
    ⟨(some 33), .mv (.t 10), (some (32, true))⟩,
    ⟨(some 34), .mv (.t 12), (some (32, true))⟩,
    ⟨(some 35), .bin .leq (.t 33) (.t 34), (some (32, true))⟩,
    ⟨(some 36), .pick (.t 32) (.t 35) (.k (.c (.d (.bool false)))), (some (28, false))⟩,
    ⟨(some 37), .pick (.t 28) (.k (.c (.d (.bool true)))) (.t 36), none⟩,
    ⟨(some 8), .mv (.t 37), none⟩])
  (.ret)))),
  [(8, none)]⟩
theorem cf_rmst : compFn Try.prog { own := [], comp := [], frz := [], nils := [] } Try.f58 = some sf_rmst := by kernel_rfl
theorem rmst_c (G : Glob) (a b c d : Int) (a1 : 0 ≤ a) (a2 : a ≤ 2305843009213693952) (b1 : 0 ≤ b) (b2 : b ≤ 2305843009213693952) (c1 : 0 ≤ c) (c2 : c ≤ 2305843009213693952) (d1 : 0 ≤ d) (d2 : d ≤ 2305843009213693952) : Den Try.prog G 58 [.int .i64 a, .int .i64 b, .int .i64 c, .int .i64 d] (.w (.c (.d (.bool (decide (a * b ≤ c * d)))))) := by
  refine den_walk Try.func58 cf_rmst rfl rfl ?_
  have k1 := rprd_c G a b a1 a2 b1 b2
  have k2 := rprd_c G c d c1 c2 d1 d2
  have hl := prod_le a b c d
  generalize prodA a b = A at *
  generalize prodB a b = B at *
  generalize prodA c d = C at *
  generalize prodB c d = E at *
  by_cases h : A < C
  · rw [decide_eq_true (hl.1 (.inl h))]
    simp only [sf_rmst, putAll, wx, wy, wz, stV, seval, IntWalk.iteOmega, IntWalk.toNatUp, reduceCtorEq]
    refine st_call (k1) rfl (.inl rfl) ?_
    simp only [wx, wy, wz, stV, seval, IntWalk.iteOmega, IntWalk.toNatUp, reduceCtorEq]
    refine st_call (k2) rfl (.inl rfl) ?_
    simp only [wx, wy, wz, stV, seval, IntWalk.iteOmega, IntWalk.toNatUp, reduceCtorEq]
    exact ret_d1 (by simp only [wx, wy, wz, stV, seval, IntWalk.iteOmega, IntWalk.toNatUp, reduceCtorEq])
  · by_cases h2 : A = C
    · by_cases h3 : B ≤ E
      · rw [decide_eq_true (hl.1 (.inr ⟨h2, h3⟩))]
        simp only [sf_rmst, putAll, wx, wy, wz, stV, seval, IntWalk.iteOmega, IntWalk.toNatUp, reduceCtorEq]
        refine st_call (k1) rfl (.inl rfl) ?_
        simp only [wx, wy, wz, stV, seval, IntWalk.iteOmega, IntWalk.toNatUp, reduceCtorEq]
        refine st_call (k2) rfl (.inl rfl) ?_
        simp only [h, h2, h3, wx, wy, wz, stV, seval, IntWalk.iteOmega, IntWalk.toNatUp, reduceCtorEq]
        exact ret_d1 (by simp only [wx, wy, wz, stV, seval, IntWalk.iteOmega, IntWalk.toNatUp, reduceCtorEq])
      · rw [decide_eq_false (fun k => by have := hl.2 k; omega)]
        simp only [sf_rmst, putAll, wx, wy, wz, stV, seval, IntWalk.iteOmega, IntWalk.toNatUp, reduceCtorEq]
        refine st_call (k1) rfl (.inl rfl) ?_
        simp only [wx, wy, wz, stV, seval, IntWalk.iteOmega, IntWalk.toNatUp, reduceCtorEq]
        refine st_call (k2) rfl (.inl rfl) ?_
        simp only [h, h2, h3, wx, wy, wz, stV, seval, IntWalk.iteOmega, IntWalk.toNatUp, reduceCtorEq]
        exact ret_d1 (by simp only [wx, wy, wz, stV, seval, IntWalk.iteOmega, IntWalk.toNatUp, reduceCtorEq])
    · rw [decide_eq_false (fun k => by have := hl.2 k; omega)]
      simp only [sf_rmst, putAll, wx, wy, wz, stV, seval, IntWalk.iteOmega, IntWalk.toNatUp, reduceCtorEq]
      refine st_call (k1) rfl (.inl rfl) ?_
      simp only [wx, wy, wz, stV, seval, IntWalk.iteOmega, IntWalk.toNatUp, reduceCtorEq]
      refine st_call (k2) rfl (.inl rfl) ?_
      simp only [h, h2, wx, wy, wz, stV, seval, IntWalk.iteOmega, IntWalk.toNatUp, reduceCtorEq]
      exact ret_d1 (by simp only [wx, wy, wz, stV, seval, IntWalk.iteOmega, IntWalk.toNatUp, reduceCtorEq])
def sf_rfit : SFn := ⟨3, 41,
  .seq (.reg [⟨(some 6), .mv (.k (.c (.d (.bool false)))), none⟩])
  (.seq (.seq (.reg [⟨(some 7), .mv (.t 0), none⟩,
    ⟨(some 8), .bin .lss (.t 7) (.k (.c (.d (.int .i64 0)))), none⟩,
    ⟨(some 9), .mv (.t 8), none⟩,
    ⟨(some 10), .mv (.t 0), (some (9, false))⟩,
    ⟨(some 11), .bin .gtr (.t 10) (.k (.c (.d (.int .i64 1152921504606846976)))), (some (9, false))⟩,
    ⟨(some 12), .pick (.t 9) (.k (.c (.d (.bool true)))) (.t 11), none⟩,
    ⟨(some 13), .mv (.t 12), none⟩,
    ⟨(some 14), .mv (.t 1), (some (13, false))⟩,
    ⟨(some 15), .bin .lss (.t 14) (.k (.c (.d (.int .i64 0)))), (some (13, false))⟩,
    ⟨(some 16), .pick (.t 13) (.k (.c (.d (.bool true)))) (.t 15), none⟩,
    ⟨(some 17), .mv (.t 16), none⟩,
    ⟨(some 18), .mv (.t 1), (some (17, false))⟩,
    ⟨(some 19), .bin .gtr (.t 18) (.k (.c (.d (.int .i64 1152921504606846976)))), (some (17, false))⟩,
    ⟨(some 20), .pick (.t 17) (.k (.c (.d (.bool true)))) (.t 19), none⟩,
    ⟨(some 21), .mv (.t 20), none⟩,
    ⟨(some 22), .mv (.t 2), (some (21, false))⟩,
    ⟨(some 23), .bin .lss (.t 22) (.k (.c (.d (.int .i64 0)))), (some (21, false))⟩,
    ⟨(some 24), .pick (.t 21) (.k (.c (.d (.bool true)))) (.t 23), none⟩,
    ⟨(some 25), .mv (.t 24), none⟩,
    ⟨(some 26), .mv (.t 2), (some (25, false))⟩,
    ⟨(some 27), .bin .gtr (.t 26) (.k (.c (.d (.int .i64 1000000)))), (some (25, false))⟩,
    ⟨(some 28), .pick (.t 25) (.k (.c (.d (.bool true)))) (.t 27), none⟩])
  (.cond (.t 28) (.seq (.reg [⟨(some 6), .mv (.k (.c (.d (.bool false)))), none⟩])
   (.ret))
   (.skip)))
  (.seq (.reg [⟨(some 29), .mv (.t 0), none⟩,
    ⟨(some 30), .mv (.t 2), none⟩,
    ⟨(some 31), .bin .sub (.k (.c (.d (.int .i64 1000000000)))) (.t 30), none⟩,
    ⟨(some 32), .mv (.t 1), none⟩,
    ⟨(some 33), .call 58 [(.t 29), (.t 31), (.t 32), (.k (.c (.d (.int .i64 1000000000))))] none, none⟩,
    ⟨(some 34), .mv (.t 33), none⟩,
    ⟨(some 35), .mv (.t 1), (some (34, true))⟩,
    ⟨(some 36), .mv (.t 0), (some (34, true))⟩,
    ⟨(some 37), .mv (.t 2), (some (34, true))⟩,
    ⟨(some 38), .bin .add (.k (.c (.d (.int .i64 1000000000)))) (.t 37), (some (34, true))⟩,
    ⟨(some 39), .call 58 [(.t 35), (.k (.c (.d (.int .i64 1000000000)))), (.t 36), (.t 38)] none, (some (34, true))⟩,
    ⟨(some 40), .pick (.t 34) (.t 39) (.k (.c (.d (.bool false)))), none⟩,
    ⟨(some 6), .mv (.t 40), none⟩])
  (.ret))),
  [(6, none)]⟩
theorem cf_rfit : compFn Try.prog { own := [], comp := [], frz := [], nils := [] } Try.f24 = some sf_rfit := by kernel_rfl
set_option maxHeartbeats 800000 in
theorem rfit_c (G : Glob) (e d p : Int) : Den Try.prog G 24 [.int .i64 e, .int .i64 d, .int .i64 p] (.w (.c (.d (.bool (fitB e d p))))) := by
  refine den_walk Try.func24 cf_rfit rfl rfl ?_
  by_cases h1 : e < 0
  · rw [fitB_f (fun h => by have := h.1; omega)]
    simp only [sf_rfit, putAll, wx, wy, wz, stV, seval, IntWalk.iteOmega, IntWalk.toNatUp, reduceCtorEq]
    exact ret_d1 (by simp only [wx, wy, wz, stV, seval, IntWalk.iteOmega, IntWalk.toNatUp, reduceCtorEq])
  by_cases h2 : e > 1152921504606846976
  · rw [fitB_f (fun h => by have := h.2.1; omega)]
    simp only [sf_rfit, putAll, wx, wy, wz, stV, seval, IntWalk.iteOmega, IntWalk.toNatUp, reduceCtorEq, eq_true h2]
    exact ret_d1 (by simp only [wx, wy, wz, stV, seval, IntWalk.iteOmega, IntWalk.toNatUp, reduceCtorEq])
  have g2 := eq_false h2
  by_cases h3 : d < 0
  · rw [fitB_f (fun h => by have := h.2.2.1; omega)]
    simp only [sf_rfit, putAll, wx, wy, wz, stV, seval, IntWalk.iteOmega, IntWalk.toNatUp, reduceCtorEq, g2]
    exact ret_d1 (by simp only [wx, wy, wz, stV, seval, IntWalk.iteOmega, IntWalk.toNatUp, reduceCtorEq])
  by_cases h4 : d > 1152921504606846976
  · rw [fitB_f (fun h => by have := h.2.2.2.1; omega)]
    simp only [sf_rfit, putAll, wx, wy, wz, stV, seval, IntWalk.iteOmega, IntWalk.toNatUp, reduceCtorEq, g2, eq_true h4]
    exact ret_d1 (by simp only [wx, wy, wz, stV, seval, IntWalk.iteOmega, IntWalk.toNatUp, reduceCtorEq])
  have g4 := eq_false h4
  by_cases h5 : p < 0
  · rw [fitB_f (fun h => by have := h.2.2.2.2.1; omega)]
    simp only [sf_rfit, putAll, wx, wy, wz, stV, seval, IntWalk.iteOmega, IntWalk.toNatUp, reduceCtorEq, g2, g4]
    exact ret_d1 (by simp only [wx, wy, wz, stV, seval, IntWalk.iteOmega, IntWalk.toNatUp, reduceCtorEq])
  by_cases h6 : p > 1000000
  · rw [fitB_f (fun h => by have := h.2.2.2.2.2; omega)]
    simp only [sf_rfit, putAll, wx, wy, wz, stV, seval, IntWalk.iteOmega, IntWalk.toNatUp, reduceCtorEq, g2, g4, eq_true h6]
    exact ret_d1 (by simp only [wx, wy, wz, stV, seval, IntWalk.iteOmega, IntWalk.toNatUp, reduceCtorEq])
  have g6 := eq_false h6
  have c1 := rmst_c G e (1000000000 - p) d 1000000000 (by omega) (by omega) (by omega) (by omega) (by omega) (by omega) (by omega) (by omega)
  have c2 := rmst_c G d 1000000000 e (1000000000 + p) (by omega) (by omega) (by omega) (by omega) (by omega) (by omega) (by omega) (by omega)
  have hb : fitB e d p = (decide (e * (1000000000 - p) ≤ d * 1000000000) && decide (d * 1000000000 ≤ e * (1000000000 + p))) := by
    have key : ∀ (A B : Prop) [Decidable A] [Decidable B] (i : Decidable (A ∧ B)), @decide (A ∧ B) i = (decide A && decide B) := fun A B _ _ i => by
      by_cases a : A <;> by_cases b : B <;> simp [a, b]
    unfold fitB
    rw [decide_eq_true (show fitR e d p from ⟨by omega, by omega, by omega, by omega, by omega, by omega⟩), Bool.true_and]
    exact key _ _ _
  rw [hb]
  clear hb
  generalize decide (e * (1000000000 - p) ≤ d * 1000000000) = A at *
  generalize decide (d * 1000000000 ≤ e * (1000000000 + p)) = B at *
  cases A
  · simp only [sf_rfit, putAll, wx, wy, wz, stV, seval, IntWalk.iteOmega, IntWalk.toNatUp, reduceCtorEq, g2, g4, g6]
    refine st_call (c1) rfl (.inl rfl) ?_
    simp only [wx, wy, wz, stV, seval, IntWalk.iteOmega, IntWalk.toNatUp, reduceCtorEq]
    exact ret_d1 (by simp only [wx, wy, wz, stV, seval, IntWalk.iteOmega, IntWalk.toNatUp, reduceCtorEq])
  · simp only [sf_rfit, putAll, wx, wy, wz, stV, seval, IntWalk.iteOmega, IntWalk.toNatUp, reduceCtorEq, g2, g4, g6]
    refine st_call (c1) rfl (.inl rfl) ?_
    simp only [wx, wy, wz, stV, seval, IntWalk.iteOmega, IntWalk.toNatUp, reduceCtorEq]
    refine st_call (c2) rfl (.inl rfl) ?_
    simp only [wx, wy, wz, stV, seval, IntWalk.iteOmega, IntWalk.toNatUp, reduceCtorEq]
    exact ret_d1 (by simp only [wx, wy, wz, stV, seval, IntWalk.iteOmega, IntWalk.toNatUp, reduceCtorEq])
def sf_rrat : SFn := ⟨4, 27,
  .seq (.reg [⟨(some 8), .mv (.k (.c (.d (.int .i64 0)))), none⟩])
  (.seq (.reg [⟨(some 10), .mv (.t 0), none⟩,
    ⟨(some 11), .mv (.t 2), none⟩,
    ⟨(some 12), .bin .quo (.t 10) (.t 11), none⟩,
    ⟨(some 9), .mv (.t 12), none⟩])
  (.seq (.reg [⟨(some 13), .mv (.t 9), none⟩,
    ⟨(some 14), .mv (.t 1), none⟩,
    ⟨(some 15), .bin .mul (.t 13) (.t 14), none⟩,
    ⟨(some 16), .mv (.t 0), none⟩,
    ⟨(some 17), .mv (.t 9), none⟩,
    ⟨(some 18), .mv (.t 2), none⟩,
    ⟨(some 19), .bin .mul (.t 17) (.t 18), none⟩,
    ⟨(some 20), .bin .sub (.t 16) (.t 19), none⟩,
    ⟨(some 21), .mv (.t 1), none⟩,
    ⟨(some 22), .bin .mul (.t 20) (.t 21), none⟩,
    ⟨(some 23), .mv (.t 2), none⟩,
    ⟨(some 24), .mv (.t 3), none⟩,
    ⟨(some 25), .call 78 [(.t 22), (.t 23), (.t 24)] none, none⟩,
    ⟨(some 26), .bin .add (.t 15) (.t 25), none⟩,
    ⟨(some 8), .mv (.t 26), none⟩])
  (.ret))),
  [(8, none)]⟩
theorem cf_rrat : compFn Try.prog { own := [], comp := [], frz := [], nils := [] } Try.f46 = some sf_rrat := by kernel_rfl
theorem rrat_c (G : Glob) (a b c : Int) (up : Bool) (a1 : 0 ≤ a) (a2 : a ≤ 576460752303423488) (b1 : 998000000 ≤ b) (b2 : b ≤ 1002000000) (c1 : 998000000 ≤ c) (c2 : c ≤ 1002000000) : Den Try.prog G 46 [.int .i64 a, .int .i64 b, .int .i64 c, .bool up] (.w (.c (.d (.int .i64 (if up = true then upQ (a * b) c else a * b / c))))) := by
  refine den_walk Try.func46 cf_rrat rfl rfl ?_
  have ck := ratio_I a b (c := c) (by omega) up
  have q1 : 0 ≤ a / c := Int.ediv_nonneg a1 (by omega)
  have q2 : a / c ≤ 577615984 := by
    have : a / c ≤ a / 998000000 := by
      rw [Int.le_ediv_iff_mul_le (by decide)]
      have x := Int.mul_le_mul_of_nonneg_left c1 q1
      have y := Int.ediv_mul_le a (show c ≠ 0 by omega)
      omega
    omega
  have e3 := Int.emod_nonneg a (show c ≠ 0 by omega)
  have e4 := Int.emod_lt_of_pos a (show 0 < c by omega)
  have e5 := mulN e3 (show a % c ≤ 1002000000 by omega) (show 0 ≤ b by omega) b2
  have e6 := mulN q1 q2 (show 0 ≤ b by omega) b2
  have qr : a / c * c ≤ a := Int.ediv_mul_le a (by omega)
  have qr0 : 0 ≤ a / c * c := Int.mul_nonneg q1 (by omega)
  have es := emod_sub a c
  have hq : a.tdiv c = a / c := Int.tdiv_eq_ediv_of_nonneg a1
  have cr := rquo_c G ((a - a / c * c) * b) c up (by rw [es]; omega) (by rw [es]; omega) (by omega)
  have q3 := (round_in ((a - a / c * c) * b) (show 1 ≤ c by omega) up).1 (by rw [es]; omega)
  rw [es] at q3
  rw [← ck]
  rw [es] at cr ⊢
  clear ck
  generalize roundI (a % c * b) c up = R at *
  generalize hX : a / c * c = X at *
  generalize hY : a / c * b = Y at *
  generalize hM : a % c = M at *
  have hZ : (a - X) * b = M * b := by rw [es]
  generalize hQ : a / c = Q at *
  generalize hZ2 : M * b = Z at *
  have hc0 : ¬ c = 0 := by omega
  simp only [sf_rrat, putAll, wx, wy, wz, stV, seval, IntWalk.iteOmega, IntWalk.toNatUp, reduceCtorEq, hq, hQ, hX, hY, es, hZ2, hc0]
  refine st_call (cr) rfl (.inl rfl) ?_
  simp only [wx, wy, wz, stV, seval, IntWalk.iteOmega, IntWalk.toNatUp, reduceCtorEq]
  exact ret_d1 (by simp only [wx, wy, wz, stV, seval, IntWalk.iteOmega, IntWalk.toNatUp, reduceCtorEq])
def sf_rind : SFn := ⟨2, 19,
  .seq (.reg [⟨(some 4), .mv (.k (.c (.d (.bool false)))), none⟩])
  (.seq (.reg [⟨(some 5), .mv (.t 0), none⟩,
    ⟨(some 6), .bin .geq (.t 5) (.k (.c (.d (.int .i64 0)))), none⟩,
    ⟨(some 7), .mv (.t 6), none⟩,
    ⟨(some 8), .mv (.t 0), (some (7, true))⟩,
    ⟨(some 9), .bin .leq (.t 8) (.k (.c (.d (.int .i64 576460752303423488)))), (some (7, true))⟩,
    ⟨(some 10), .pick (.t 7) (.t 9) (.k (.c (.d (.bool false)))), none⟩,
    ⟨(some 11), .mv (.t 10), none⟩,
    ⟨(some 12), .mv (.t 1), (some (11, true))⟩,
    ⟨(some 13), .bin .geq (.t 12) (.k (.c (.d (.int .i64 0)))), (some (11, true))⟩,
    ⟨(some 14), .pick (.t 11) (.t 13) (.k (.c (.d (.bool false)))), none⟩,
    ⟨(some 15), .mv (.t 14), none⟩,
    ⟨(some 16), .mv (.t 1), (some (15, true))⟩,
    ⟨(some 17), .bin .leq (.t 16) (.k (.c (.d (.int .i64 1000000)))), (some (15, true))⟩,
    ⟨(some 18), .pick (.t 15) (.t 17) (.k (.c (.d (.bool false)))), none⟩,
    ⟨(some 4), .mv (.t 18), none⟩])
  (.ret)),
  [(4, none)]⟩
theorem cf_rind : compFn Try.prog { own := [], comp := [], frz := [], nils := [] } Try.f45 = some sf_rind := by kernel_rfl
theorem rind_c (G : Glob) (d p : Int) : Den Try.prog G 45 [.int .i64 d, .int .i64 p] (.w (.c (.d (.bool (inD d p))))) := by
  refine den_walk Try.func45 cf_rind rfl rfl ?_
  by_cases h1 : d ≥ 0
  · by_cases h2 : d ≤ 576460752303423488
    · by_cases h3 : p ≥ 0
      · by_cases h4 : p ≤ 1000000
        · rw [inD_d ⟨h1, h2, h3, h4⟩]
          simp only [sf_rind, putAll, wx, wy, wz, stV, seval, IntWalk.iteOmega, IntWalk.toNatUp, reduceCtorEq, eq_true h1, eq_true h2, eq_true h3, eq_true h4]
          exact ret_d1 (by simp only [wx, wy, wz, stV, seval, IntWalk.iteOmega, IntWalk.toNatUp, reduceCtorEq])
        · rw [inD_f (by omega)]
          simp only [sf_rind, putAll, wx, wy, wz, stV, seval, IntWalk.iteOmega, IntWalk.toNatUp, reduceCtorEq, eq_true h1, eq_true h2, eq_true h3, eq_false h4]
          exact ret_d1 (by simp only [wx, wy, wz, stV, seval, IntWalk.iteOmega, IntWalk.toNatUp, reduceCtorEq])
      · rw [inD_f (by omega)]
        simp only [sf_rind, putAll, wx, wy, wz, stV, seval, IntWalk.iteOmega, IntWalk.toNatUp, reduceCtorEq, eq_true h1, eq_true h2, eq_false h3]
        exact ret_d1 (by simp only [wx, wy, wz, stV, seval, IntWalk.iteOmega, IntWalk.toNatUp, reduceCtorEq])
    · rw [inD_f (by omega)]
      simp only [sf_rind, putAll, wx, wy, wz, stV, seval, IntWalk.iteOmega, IntWalk.toNatUp, reduceCtorEq, eq_true h1, eq_false h2]
      exact ret_d1 (by simp only [wx, wy, wz, stV, seval, IntWalk.iteOmega, IntWalk.toNatUp, reduceCtorEq])
  · rw [inD_f (by omega)]
    simp only [sf_rind, putAll, wx, wy, wz, stV, seval, IntWalk.iteOmega, IntWalk.toNatUp, reduceCtorEq, eq_false h1]
    exact ret_d1 (by simp only [wx, wy, wz, stV, seval, IntWalk.iteOmega, IntWalk.toNatUp, reduceCtorEq])
def sf_rela : SFn := ⟨2, 20,
  .seq (.reg [⟨(some 4), .alloc [(.d (.int .i64 0)), (.d (.int .i64 0))], none⟩,
    ⟨(some 5), .mv (.k (.c (.d (.int .i64 0)))), none⟩])
  (.seq (.seq (.reg [⟨(some 6), .mv (.t 0), none⟩,
    ⟨(some 7), .mv (.t 1), none⟩,
    ⟨(some 8), .call 45 [(.t 6), (.t 7)] none, none⟩,
    ⟨(some 9), .un .not (.t 8), none⟩])
  (.cond (.t 9) (.seq (.reg [⟨(some 10), .build [(.d (.int .i64 0)), (.d (.int .i64 0))] [], none⟩,
     ⟨none, .store (.ag 2) (.t 4) (.t 10), none⟩,
     ⟨(some 5), .mv (.k (.c (.d (.int .i64 4)))), none⟩])
   (.ret))
   (.skip)))
  (.seq (.reg [⟨(some 11), .mv (.t 0), none⟩,
    ⟨(some 12), .mv (.t 1), none⟩,
    ⟨(some 13), .bin .add (.k (.c (.d (.int .i64 1000000000)))) (.t 12), none⟩,
    ⟨(some 14), .call 46 [(.t 11), (.k (.c (.d (.int .i64 1000000000)))), (.t 13), (.k (.c (.d (.bool false))))] none, none⟩,
    ⟨(some 15), .mv (.t 0), none⟩,
    ⟨(some 16), .mv (.t 1), none⟩,
    ⟨(some 17), .bin .sub (.k (.c (.d (.int .i64 1000000000)))) (.t 16), none⟩,
    ⟨(some 18), .call 46 [(.t 15), (.k (.c (.d (.int .i64 1000000000)))), (.t 17), (.k (.c (.d (.bool true))))] none, none⟩,
    ⟨(some 19), .build [(.d (.int .i64 0)), (.d (.int .i64 0))] [(0, 1, (.t 14)), (1, 1, (.t 18))], none⟩,
    ⟨none, .store (.ag 2) (.t 4) (.t 19), none⟩,
    ⟨(some 5), .mv (.k (.c (.d (.int .i64 0)))), none⟩])
  (.ret))),
  [(4, (some (.ag 2))), (5, none)]⟩
theorem cf_rela : compFn Try.prog { own := [], comp := [], frz := [], nils := [] } Try.f13 = some sf_rela := by kernel_rfl
theorem rela_c (G : Glob) (d p : Int) : Den Try.prog G 13 [.int .i64 d, .int .i64 p] (.tup [.c (.d (spA (inD d p) (elA d p) (elB d p))), .c (.d (.int .i64 (elaE d p)))]) := by
  refine den_walk Try.func13 cf_rela rfl rfl ?_
  have c1 := rind_c G d p
  unfold spA elaE
  cases hv : inD d p
  · rw [hv] at c1
    simp only [sf_rela, putAll, wx, wy, wz, stV, seval, IntWalk.iteOmega, IntWalk.toNatUp, reduceCtorEq]
    refine st_call (c1) rfl (.inl rfl) ?_
    simp only [wx, wy, wz, stV, seval, IntWalk.iteOmega, IntWalk.toNatUp, reduceCtorEq]
    exact ret_d2 (by simp only [wx, wy, wz, stV, seval, IntWalk.iteOmega, IntWalk.toNatUp, reduceCtorEq]) (by simp only [wx, wy, wz, stV, seval, IntWalk.iteOmega, IntWalk.toNatUp, reduceCtorEq])
  · rw [hv] at c1
    obtain ⟨h1, h2, h3, h4⟩ := inD_t hv
    have c2 := rrat_c G d 1000000000 (1000000000 + p) false h1 h2 (by decide) (by decide) (by omega) (by omega)
    have c3 := rrat_c G d 1000000000 (1000000000 - p) true h1 h2 (by decide) (by decide) (by omega) (by omega)
    rw [if_pos rfl] at c3
    rw [if_neg (by decide)] at c2
    rw [if_pos rfl, if_pos rfl, if_pos rfl]
    unfold elA elB
    generalize d * 1000000000 / (1000000000 + p) = A at *
    generalize upQ (d * 1000000000) (1000000000 - p) = B at *
    simp only [sf_rela, putAll, wx, wy, wz, stV, seval, IntWalk.iteOmega, IntWalk.toNatUp, reduceCtorEq]
    refine st_call (c1) rfl (.inl rfl) ?_
    simp only [wx, wy, wz, stV, seval, IntWalk.iteOmega, IntWalk.toNatUp, reduceCtorEq]
    refine st_call (c2) rfl (.inl rfl) ?_
    simp only [wx, wy, wz, stV, seval, IntWalk.iteOmega, IntWalk.toNatUp, reduceCtorEq]
    refine st_call (c3) rfl (.inl rfl) ?_
    simp only [wx, wy, wz, stV, seval, IntWalk.iteOmega, IntWalk.toNatUp, reduceCtorEq]
    exact ret_d2 (by simp only [wx, wy, wz, stV, seval, IntWalk.iteOmega, IntWalk.toNatUp, reduceCtorEq]) (by simp only [wx, wy, wz, stV, seval, IntWalk.iteOmega, IntWalk.toNatUp, reduceCtorEq])
def sf_radv : SFn := ⟨2, 20,
  .seq (.reg [⟨(some 4), .alloc [(.d (.int .i64 0)), (.d (.int .i64 0))], none⟩,
    ⟨(some 5), .mv (.k (.c (.d (.int .i64 0)))), none⟩])
  (.seq (.seq (.reg [⟨(some 6), .mv (.t 0), none⟩,
    ⟨(some 7), .mv (.t 1), none⟩,
    ⟨(some 8), .call 45 [(.t 6), (.t 7)] none, none⟩,
    ⟨(some 9), .un .not (.t 8), none⟩])
  (.cond (.t 9) (.seq (.reg [⟨(some 10), .build [(.d (.int .i64 0)), (.d (.int .i64 0))] [], none⟩,
     ⟨none, .store (.ag 2) (.t 4) (.t 10), none⟩,
     ⟨(some 5), .mv (.k (.c (.d (.int .i64 4)))), none⟩])
   (.ret))
   (.skip)))
  (.seq (.reg [⟨(some 11), .mv (.t 0), none⟩,
    ⟨(some 12), .mv (.t 1), none⟩,
    ⟨(some 13), .bin .sub (.k (.c (.d (.int .i64 1000000000)))) (.t 12), none⟩,
    ⟨(some 14), .call 46 [(.t 11), (.t 13), (.k (.c (.d (.int .i64 1000000000)))), (.k (.c (.d (.bool false))))] none, none⟩,
    ⟨(some 15), .mv (.t 0), none⟩,
    ⟨(some 16), .mv (.t 1), none⟩,
    ⟨(some 17), .bin .add (.k (.c (.d (.int .i64 1000000000)))) (.t 16), none⟩,
    ⟨(some 18), .call 46 [(.t 15), (.t 17), (.k (.c (.d (.int .i64 1000000000)))), (.k (.c (.d (.bool true))))] none, none⟩,
    ⟨(some 19), .build [(.d (.int .i64 0)), (.d (.int .i64 0))] [(0, 1, (.t 14)), (1, 1, (.t 18))], none⟩,
    ⟨none, .store (.ag 2) (.t 4) (.t 19), none⟩,
    ⟨(some 5), .mv (.k (.c (.d (.int .i64 0)))), none⟩])
  (.ret))),
  [(4, (some (.ag 2))), (5, none)]⟩
theorem cf_radv : compFn Try.prog { own := [], comp := [], frz := [], nils := [] } Try.f15 = some sf_radv := by kernel_rfl
theorem radv_c (G : Glob) (e p : Int) : Den Try.prog G 15 [.int .i64 e, .int .i64 p] (.tup [.c (.d (spA (inD e p) (adA e p) (adB e p))), .c (.d (.int .i64 (elaE e p)))]) := by
  refine den_walk Try.func15 cf_radv rfl rfl ?_
  have c1 := rind_c G e p
  unfold spA elaE
  cases hv : inD e p
  · rw [hv] at c1
    simp only [sf_radv, putAll, wx, wy, wz, stV, seval, IntWalk.iteOmega, IntWalk.toNatUp, reduceCtorEq]
    refine st_call (c1) rfl (.inl rfl) ?_
    simp only [wx, wy, wz, stV, seval, IntWalk.iteOmega, IntWalk.toNatUp, reduceCtorEq]
    exact ret_d2 (by simp only [wx, wy, wz, stV, seval, IntWalk.iteOmega, IntWalk.toNatUp, reduceCtorEq]) (by simp only [wx, wy, wz, stV, seval, IntWalk.iteOmega, IntWalk.toNatUp, reduceCtorEq])
  · rw [hv] at c1
    obtain ⟨h1, h2, h3, h4⟩ := inD_t hv
    have c2 := rrat_c G e (1000000000 - p) 1000000000 false h1 h2 (by omega) (by omega) (by decide) (by decide)
    have c3 := rrat_c G e (1000000000 + p) 1000000000 true h1 h2 (by omega) (by omega) (by decide) (by decide)
    rw [if_pos rfl] at c3
    rw [if_neg (by decide)] at c2
    rw [if_pos rfl, if_pos rfl, if_pos rfl]
    unfold adA adB
    generalize e * (1000000000 - p) / 1000000000 = A at *
    generalize upQ (e * (1000000000 + p)) 1000000000 = B at *
    simp only [sf_radv, putAll, wx, wy, wz, stV, seval, IntWalk.iteOmega, IntWalk.toNatUp, reduceCtorEq]
    refine st_call (c1) rfl (.inl rfl) ?_
    simp only [wx, wy, wz, stV, seval, IntWalk.iteOmega, IntWalk.toNatUp, reduceCtorEq]
    refine st_call (c2) rfl (.inl rfl) ?_
    simp only [wx, wy, wz, stV, seval, IntWalk.iteOmega, IntWalk.toNatUp, reduceCtorEq]
    refine st_call (c3) rfl (.inl rfl) ?_
    simp only [wx, wy, wz, stV, seval, IntWalk.iteOmega, IntWalk.toNatUp, reduceCtorEq]
    exact ret_d2 (by simp only [wx, wy, wz, stV, seval, IntWalk.iteOmega, IntWalk.toNatUp, reduceCtorEq]) (by simp only [wx, wy, wz, stV, seval, IntWalk.iteOmega, IntWalk.toNatUp, reduceCtorEq])
def sf_rprj : SFn := ⟨3, 29,
  .seq (.reg [⟨(some 3), .box .roBox (.t 0), none⟩,
    ⟨(some 6), .alloc [(.d (.int .i64 0)), (.d (.int .i64 0))], none⟩,
    ⟨(some 7), .mv (.k (.c (.d (.int .i64 0)))), none⟩])
  (.seq (.seq (.reg [⟨(some 10), .load (.ag 2) (.t 3), none⟩,
    ⟨(some 11), .call 51 [(.t 10)] none, none⟩,
    ⟨(some 12), .un .not (.t 11), none⟩])
  (.cond (.t 12) (.seq (.reg [⟨(some 13), .build [(.d (.int .i64 0)), (.d (.int .i64 0))] [], none⟩,
     ⟨none, .store (.ag 2) (.t 6) (.t 13), none⟩,
     ⟨(some 7), .mv (.k (.c (.d (.int .i64 3)))), none⟩])
   (.ret))
   (.skip)))
  (.seq (.reg [⟨(some 15), .mv (.t 1), none⟩,
    ⟨(some 16), .mv (.t 2), none⟩,
    ⟨(some 17), .call 13 [(.t 15), (.t 16)] none, none⟩,
    ⟨(some 14), .mv (.t 17), none⟩,
    ⟨(some 18), .extract (.t 14) 0, none⟩,
    ⟨(some 19), .extract (.t 14) 1, none⟩,
    ⟨(some 8), .alloc [(.d (.int .i64 0)), (.d (.int .i64 0))], none⟩,
    ⟨none, .store (.ag 2) (.t 8) (.t 18), none⟩,
    ⟨(some 9), .mv (.t 19), none⟩])
  (.seq (.seq (.reg [⟨(some 20), .mv (.t 9), none⟩,
    ⟨(some 21), .bin .neq (.t 20) (.k (.c (.d (.int .i64 0)))), none⟩])
  (.cond (.t 21) (.seq (.reg [⟨(some 22), .build [(.d (.int .i64 0)), (.d (.int .i64 0))] [], none⟩,
     ⟨(some 23), .mv (.t 9), none⟩,
     ⟨none, .store (.ag 2) (.t 6) (.t 22), none⟩,
     ⟨(some 7), .mv (.t 23), none⟩])
   (.ret))
   (.skip)))
  (.seq (.reg [⟨(some 24), .load (.ag 2) (.t 3), none⟩,
    ⟨(some 25), .load (.ag 2) (.t 8), none⟩,
    ⟨(some 26), .call 52 [(.t 24), (.t 25)] none, none⟩,
    ⟨(some 27), .extract (.t 26) 0, none⟩,
    ⟨(some 28), .extract (.t 26) 1, none⟩,
    ⟨none, .store (.ag 2) (.t 6) (.t 27), none⟩,
    ⟨(some 7), .mv (.t 28), none⟩])
  (.ret))))),
  [(6, (some (.ag 2))), (7, none)]⟩
theorem cf_rprj : compFn Try.prog { own := [], comp := [], frz := [], nils := [] } Try.f17 = some sf_rprj := by kernel_rfl
theorem rprj_c (G : Glob) (a b d p : Int) : Den Try.prog G 17 [.agg [.int .i64 a, .int .i64 b], .int .i64 d, .int .i64 p] (.tup [.c (.d (spA (carB a b d p (a + elA d p) (b + elB d p)) (a + elA d p) (b + elB d p))), .c (.d (.int .i64 (carE a b d p (a + elA d p) (b + elB d p))))]) := by
  refine den_walk Try.func17 cf_rprj rfl rfl ?_
  have c1 := rsv_c G a b
  have c2 := rela_c G d p
  have c3 := radd_c G a b (elA d p) (elB d p)
  cases h1 : okP (a, b)
  · rw [h1] at c1
    have e1 : carB a b d p (a + elA d p) (b + elB d p) = false := by unfold carB; rw [h1]; rfl
    have e2 : carE a b d p (a + elA d p) (b + elB d p) = 3 := by unfold carE; rw [h1]; rfl
    rw [e1, e2]
    simp only [sf_rprj, putAll, wx, wy, wz, stV, seval, IntWalk.iteOmega, IntWalk.toNatUp, reduceCtorEq]
    refine st_call (c1) rfl (.inl rfl) ?_
    simp only [wx, wy, wz, stV, seval, IntWalk.iteOmega, IntWalk.toNatUp, reduceCtorEq]
    unfold spA
    exact ret_d2 (by simp only [wx, wy, wz, stV, seval, IntWalk.iteOmega, IntWalk.toNatUp, reduceCtorEq]) (by simp only [wx, wy, wz, stV, seval, IntWalk.iteOmega, IntWalk.toNatUp, reduceCtorEq])
  · rw [h1] at c1
    unfold elaE at c2
    cases h2 : inD d p
    · have e1 : carB a b d p (a + elA d p) (b + elB d p) = false := by unfold carB; rw [h1, h2]; rfl
      have e2 : carE a b d p (a + elA d p) (b + elB d p) = 4 := by unfold carE; rw [h1, h2]; rfl
      rw [e1, e2]
      rw [h2] at c2
      simp only [sf_rprj, putAll, wx, wy, wz, stV, seval, IntWalk.iteOmega, IntWalk.toNatUp, reduceCtorEq]
      refine st_call (c1) rfl (.inl rfl) ?_
      simp only [wx, wy, wz, stV, seval, IntWalk.iteOmega, IntWalk.toNatUp, reduceCtorEq]
      refine st_call (c2) rfl (.inl rfl) ?_
      simp only [spA, wx, wy, wz, stV, seval, IntWalk.iteOmega, IntWalk.toNatUp, reduceCtorEq]
      exact ret_d2 (by simp only [wx, wy, wz, stV, seval, IntWalk.iteOmega, IntWalk.toNatUp, reduceCtorEq]) (by simp only [wx, wy, wz, stV, seval, IntWalk.iteOmega, IntWalk.toNatUp, reduceCtorEq])
    · obtain ⟨e1, e2⟩ := car_sum h1 h2 (a + elA d p) (b + elB d p)
      rw [e1, e2] at c3
      rw [h2] at c2
      unfold spA at c2 c3
      simp only [if_true] at c2
      generalize carB a b d p (a + elA d p) (b + elB d p) = B at *
      generalize carE a b d p (a + elA d p) (b + elB d p) = E at *
      generalize (a + elA d p) = x at *
      generalize (b + elB d p) = y at *
      generalize elA d p = u at *
      generalize elB d p = v at *
      simp only [sf_rprj, putAll, wx, wy, wz, stV, seval, IntWalk.iteOmega, IntWalk.toNatUp, reduceCtorEq]
      refine st_call (c1) rfl (.inl rfl) ?_
      simp only [wx, wy, wz, stV, seval, IntWalk.iteOmega, IntWalk.toNatUp, reduceCtorEq]
      refine st_call (c2) rfl (.inl rfl) ?_
      simp only [wx, wy, wz, stV, seval, IntWalk.iteOmega, IntWalk.toNatUp, reduceCtorEq]
      refine st_call (c3) rfl (.inl rfl) ?_
      simp only [wx, wy, wz, stV, seval, IntWalk.iteOmega, IntWalk.toNatUp, reduceCtorEq]
      unfold spA
      exact ret_d2 (by simp only [wx, wy, wz, stV, seval, IntWalk.iteOmega, IntWalk.toNatUp, reduceCtorEq]) (by simp only [wx, wy, wz, stV, seval, IntWalk.iteOmega, IntWalk.toNatUp, reduceCtorEq])
def sf_rbck : SFn := ⟨3, 29,
  .seq (.reg [⟨(some 3), .box .roBox (.t 0), none⟩,
    ⟨(some 6), .alloc [(.d (.int .i64 0)), (.d (.int .i64 0))], none⟩,
    ⟨(some 7), .mv (.k (.c (.d (.int .i64 0)))), none⟩])
  (.seq (.seq (.reg [⟨(some 10), .load (.ag 2) (.t 3), none⟩,
    ⟨(some 11), .call 51 [(.t 10)] none, none⟩,
    ⟨(some 12), .un .not (.t 11), none⟩])
  (.cond (.t 12) (.seq (.reg [⟨(some 13), .build [(.d (.int .i64 0)), (.d (.int .i64 0))] [], none⟩,
     ⟨none, .store (.ag 2) (.t 6) (.t 13), none⟩,
     ⟨(some 7), .mv (.k (.c (.d (.int .i64 3)))), none⟩])
   (.ret))
   (.skip)))
  (.seq (.reg [⟨(some 15), .mv (.t 1), none⟩,
    ⟨(some 16), .mv (.t 2), none⟩,
    ⟨(some 17), .call 13 [(.t 15), (.t 16)] none, none⟩,
    ⟨(some 14), .mv (.t 17), none⟩,
    ⟨(some 18), .extract (.t 14) 0, none⟩,
    ⟨(some 19), .extract (.t 14) 1, none⟩,
    ⟨(some 8), .alloc [(.d (.int .i64 0)), (.d (.int .i64 0))], none⟩,
    ⟨none, .store (.ag 2) (.t 8) (.t 18), none⟩,
    ⟨(some 9), .mv (.t 19), none⟩])
  (.seq (.seq (.reg [⟨(some 20), .mv (.t 9), none⟩,
    ⟨(some 21), .bin .neq (.t 20) (.k (.c (.d (.int .i64 0)))), none⟩])
  (.cond (.t 21) (.seq (.reg [⟨(some 22), .build [(.d (.int .i64 0)), (.d (.int .i64 0))] [], none⟩,
     ⟨(some 23), .mv (.t 9), none⟩,
     ⟨none, .store (.ag 2) (.t 6) (.t 22), none⟩,
     ⟨(some 7), .mv (.t 23), none⟩])
   (.ret))
   (.skip)))
  (.seq (.reg [⟨(some 24), .load (.ag 2) (.t 3), none⟩,
    ⟨(some 25), .load (.ag 2) (.t 8), none⟩,
    ⟨(some 26), .call 54 [(.t 24), (.t 25)] none, none⟩,
    ⟨(some 27), .extract (.t 26) 0, none⟩,
    ⟨(some 28), .extract (.t 26) 1, none⟩,
    ⟨none, .store (.ag 2) (.t 6) (.t 27), none⟩,
    ⟨(some 7), .mv (.t 28), none⟩])
  (.ret))))),
  [(6, (some (.ag 2))), (7, none)]⟩
theorem cf_rbck : compFn Try.prog { own := [], comp := [], frz := [], nils := [] } Try.f19 = some sf_rbck := by kernel_rfl
theorem rbck_c (G : Glob) (a b d p : Int) : Den Try.prog G 19 [.agg [.int .i64 a, .int .i64 b], .int .i64 d, .int .i64 p] (.tup [.c (.d (spA (carB a b d p (a - elB d p) (b - elA d p)) (a - elB d p) (b - elA d p))), .c (.d (.int .i64 (carE a b d p (a - elB d p) (b - elA d p))))]) := by
  refine den_walk Try.func19 cf_rbck rfl rfl ?_
  have c1 := rsv_c G a b
  have c2 := rela_c G d p
  have c3 := rsbs_c G a b (elA d p) (elB d p)
  cases h1 : okP (a, b)
  · rw [h1] at c1
    have e1 : carB a b d p (a - elB d p) (b - elA d p) = false := by unfold carB; rw [h1]; rfl
    have e2 : carE a b d p (a - elB d p) (b - elA d p) = 3 := by unfold carE; rw [h1]; rfl
    rw [e1, e2]
    simp only [sf_rbck, putAll, wx, wy, wz, stV, seval, IntWalk.iteOmega, IntWalk.toNatUp, reduceCtorEq]
    refine st_call (c1) rfl (.inl rfl) ?_
    simp only [wx, wy, wz, stV, seval, IntWalk.iteOmega, IntWalk.toNatUp, reduceCtorEq]
    unfold spA
    exact ret_d2 (by simp only [wx, wy, wz, stV, seval, IntWalk.iteOmega, IntWalk.toNatUp, reduceCtorEq]) (by simp only [wx, wy, wz, stV, seval, IntWalk.iteOmega, IntWalk.toNatUp, reduceCtorEq])
  · rw [h1] at c1
    unfold elaE at c2
    cases h2 : inD d p
    · have e1 : carB a b d p (a - elB d p) (b - elA d p) = false := by unfold carB; rw [h1, h2]; rfl
      have e2 : carE a b d p (a - elB d p) (b - elA d p) = 4 := by unfold carE; rw [h1, h2]; rfl
      rw [e1, e2]
      rw [h2] at c2
      simp only [sf_rbck, putAll, wx, wy, wz, stV, seval, IntWalk.iteOmega, IntWalk.toNatUp, reduceCtorEq]
      refine st_call (c1) rfl (.inl rfl) ?_
      simp only [wx, wy, wz, stV, seval, IntWalk.iteOmega, IntWalk.toNatUp, reduceCtorEq]
      refine st_call (c2) rfl (.inl rfl) ?_
      simp only [spA, wx, wy, wz, stV, seval, IntWalk.iteOmega, IntWalk.toNatUp, reduceCtorEq]
      exact ret_d2 (by simp only [wx, wy, wz, stV, seval, IntWalk.iteOmega, IntWalk.toNatUp, reduceCtorEq]) (by simp only [wx, wy, wz, stV, seval, IntWalk.iteOmega, IntWalk.toNatUp, reduceCtorEq])
    · obtain ⟨e1, e2⟩ := car_sum h1 h2 (a - elB d p) (b - elA d p)
      rw [e1, e2] at c3
      rw [h2] at c2
      unfold spA at c2 c3
      simp only [if_true] at c2
      generalize carB a b d p (a - elB d p) (b - elA d p) = B at *
      generalize carE a b d p (a - elB d p) (b - elA d p) = E at *
      generalize (a - elB d p) = x at *
      generalize (b - elA d p) = y at *
      generalize elA d p = u at *
      generalize elB d p = v at *
      simp only [sf_rbck, putAll, wx, wy, wz, stV, seval, IntWalk.iteOmega, IntWalk.toNatUp, reduceCtorEq]
      refine st_call (c1) rfl (.inl rfl) ?_
      simp only [wx, wy, wz, stV, seval, IntWalk.iteOmega, IntWalk.toNatUp, reduceCtorEq]
      refine st_call (c2) rfl (.inl rfl) ?_
      simp only [wx, wy, wz, stV, seval, IntWalk.iteOmega, IntWalk.toNatUp, reduceCtorEq]
      refine st_call (c3) rfl (.inl rfl) ?_
      simp only [wx, wy, wz, stV, seval, IntWalk.iteOmega, IntWalk.toNatUp, reduceCtorEq]
      unfold spA
      exact ret_d2 (by simp only [wx, wy, wz, stV, seval, IntWalk.iteOmega, IntWalk.toNatUp, reduceCtorEq]) (by simp only [wx, wy, wz, stV, seval, IntWalk.iteOmega, IntWalk.toNatUp, reduceCtorEq])
def rrtSt (e d : Int) (k : Nat) : St := ⟨ofL [(0, .w (.c (.d (.int .i64 e)))), (1, .w (.c (.d (.int .i64 d)))), (6, .w (.c (.d (.int .i64 (bisK (ratP e d) 0 1000000 k).1)))), (7, .w (.c (.d (.int .i64 (bisK (ratP e d) 0 1000000 k).2))))], hL [], uL []⟩
def lp_rrte_0 : SCode :=
  .seq (.seq (.reg [⟨(some 21), .mv (.t 6), none⟩,
    ⟨(some 22), .mv (.t 7), none⟩,
    ⟨(some 23), .bin .lss (.t 21) (.t 22), none⟩])
  (.cond (.t 23) (.skip)
   (.exit 0)))
  (.block 1 (.seq (.reg [⟨(some 24), .mv (.t 6), none⟩,
     ⟨(some 25), .mv (.t 7), none⟩,
     ⟨(some 26), .bin .add (.t 24) (.t 25), none⟩,
     ⟨(some 27), .bin .quo (.t 26) (.k (.c (.d (.int .i64 2)))), none⟩,
     ⟨(some 8), .mv (.t 27), none⟩])
   (.seq (.reg [⟨(some 28), .mv (.t 0), none⟩,
     ⟨(some 29), .mv (.t 1), none⟩,
     ⟨(some 30), .mv (.t 8), none⟩,
     ⟨(some 31), .call 24 [(.t 28), (.t 29), (.t 30)] none, none⟩])
   (.cond (.t 31) (.reg [⟨(some 32), .mv (.t 8), none⟩,
      ⟨(some 7), .mv (.t 32), none⟩])
    (.reg [⟨(some 33), .mv (.t 8), none⟩,
      ⟨(some 34), .bin .add (.t 33) (.k (.c (.d (.int .i64 1)))), none⟩,
      ⟨(some 6), .mv (.t 34), none⟩])))))
def sf_rrte : SFn := ⟨2, 36,
  .seq (.reg [⟨(some 4), .mv (.k (.c (.d (.int .i64 0)))), none⟩,
    ⟨(some 5), .mv (.k (.c (.d (.int .i64 0)))), none⟩])
  (.seq (.seq (.reg [⟨(some 9), .mv (.t 0), none⟩,
    ⟨(some 10), .call 45 [(.t 9), (.k (.c (.d (.int .i64 0))))] none, none⟩,
    ⟨(some 11), .un .not (.t 10), none⟩,
    ⟨(some 12), .mv (.t 11), none⟩,
    ⟨(some 13), .mv (.t 1), (some (12, false))⟩,
    ⟨(some 14), .call 45 [(.t 13), (.k (.c (.d (.int .i64 0))))] none, (some (12, false))⟩,
    ⟨(some 15), .un .not (.t 14), (some (12, false))⟩,
    ⟨(some 16), .pick (.t 12) (.k (.c (.d (.bool true)))) (.t 15), none⟩])
  (.cond (.t 16) (.seq (.reg [⟨(some 4), .mv (.k (.c (.d (.int .i64 0)))), none⟩,
     ⟨(some 5), .mv (.k (.c (.d (.int .i64 4)))), none⟩])
   (.ret))
   (.skip)))
  (.seq (.seq (.reg [⟨(some 17), .mv (.t 0), none⟩,
    ⟨(some 18), .mv (.t 1), none⟩,
    ⟨(some 19), .call 24 [(.t 17), (.t 18), (.k (.c (.d (.int .i64 1000000))))] none, none⟩,
    ⟨(some 20), .un .not (.t 19), none⟩])
  (.cond (.t 20) (.seq (.reg [⟨(some 4), .mv (.k (.c (.d (.int .i64 0)))), none⟩,
     ⟨(some 5), .mv (.k (.c (.d (.int .i64 10)))), none⟩])
   (.ret))
   (.skip)))
  (.seq (.reg [⟨(some 6), .mv (.k (.c (.d (.int .i64 0)))), none⟩,
    ⟨(some 7), .mv (.k (.c (.d (.int .i64 1000000)))), none⟩])
  (.seq (.block 0 (.loop lp_rrte_0))
  (.seq (.reg [⟨(some 35), .mv (.t 6), none⟩,
    ⟨(some 4), .mv (.t 35), none⟩,
    ⟨(some 5), .mv (.k (.c (.d (.int .i64 0)))), none⟩])
  (.ret)))))),
  [(4, none), (5, none)]⟩
theorem cf_rrte : compFn Try.prog { own := [], comp := [], frz := [], nils := [] } Try.f21 = some sf_rrte := by kernel_rfl
set_option maxHeartbeats 800000 in
theorem rrte_c (G : Glob) (e d : Int) : Den Try.prog G 21 [.int .i64 e, .int .i64 d] (.tup [.c (.d (.int .i64 (ratV e d))), .c (.d (.int .i64 (ratE e d)))]) := by
  refine den_walk Try.func21 cf_rrte rfl rfl ?_
  have c1 := rind_c G e 0
  have c2 := rind_c G d 0
  have c3 := rfit_c G e d 1000000
  have rt := rat_top e d
  unfold ratV ratE ratR
  cases h1 : inD e 0
  · rw [h1] at c1
    simp only [Bool.false_and, Bool.false_eq_true, if_false]
    simp only [sf_rrte, putAll, wx, wy, wz, stV, seval, IntWalk.iteOmega, IntWalk.toNatUp, reduceCtorEq]
    refine st_call (c1) rfl (.inl rfl) ?_
    simp only [wx, wy, wz, stV, seval, IntWalk.iteOmega, IntWalk.toNatUp, reduceCtorEq]
    exact ret_d2 (by simp only [wx, wy, wz, stV, seval, IntWalk.iteOmega, IntWalk.toNatUp, reduceCtorEq]) (by simp only [wx, wy, wz, stV, seval, IntWalk.iteOmega, IntWalk.toNatUp, reduceCtorEq])
  · rw [h1] at c1
    cases h2 : inD d 0
    · rw [h2] at c2
      simp only [Bool.and_false, Bool.false_eq_true, if_false]
      simp only [sf_rrte, putAll, wx, wy, wz, stV, seval, IntWalk.iteOmega, IntWalk.toNatUp, reduceCtorEq]
      refine st_call (c1) rfl (.inl rfl) ?_
      simp only [wx, wy, wz, stV, seval, IntWalk.iteOmega, IntWalk.toNatUp, reduceCtorEq]
      refine st_call (c2) rfl (.inl rfl) ?_
      simp only [wx, wy, wz, stV, seval, IntWalk.iteOmega, IntWalk.toNatUp, reduceCtorEq]
      exact ret_d2 (by simp only [wx, wy, wz, stV, seval, IntWalk.iteOmega, IntWalk.toNatUp, reduceCtorEq]) (by simp only [wx, wy, wz, stV, seval, IntWalk.iteOmega, IntWalk.toNatUp, reduceCtorEq])
    · rw [h2] at c2
      simp only [Bool.and_self, if_true]
      cases hp : fitB e d 1000000
      · rw [hp] at c3
        have hn : ¬ ratN e d ≤ 1000000 := fun h => by have := rt.1 h; unfold ratP at this; rw [hp] at this; cases this
        rw [if_neg hn, if_neg hn]
        simp only [sf_rrte, putAll, wx, wy, wz, stV, seval, IntWalk.iteOmega, IntWalk.toNatUp, reduceCtorEq]
        refine st_call (c1) rfl (.inl rfl) ?_
        simp only [wx, wy, wz, stV, seval, IntWalk.iteOmega, IntWalk.toNatUp, reduceCtorEq]
        refine st_call (c2) rfl (.inl rfl) ?_
        simp only [wx, wy, wz, stV, seval, IntWalk.iteOmega, IntWalk.toNatUp, reduceCtorEq]
        refine st_call (c3) rfl (.inl rfl) ?_
        simp only [wx, wy, wz, stV, seval, IntWalk.iteOmega, IntWalk.toNatUp, reduceCtorEq]
        exact ret_d2 (by simp only [wx, wy, wz, stV, seval, IntWalk.iteOmega, IntWalk.toNatUp, reduceCtorEq]) (by simp only [wx, wy, wz, stV, seval, IntWalk.iteOmega, IntWalk.toNatUp, reduceCtorEq])
      · rw [hp] at c3
        have hn : ratN e d ≤ 1000000 := rt.2 hp
        rw [if_pos hn, if_pos hn, ← rat_ref hp]
        obtain ⟨_, hv, hend, hgo⟩ := bis_ok (P := ratP e d) (lo := 0) (hi := 1000000) (by decide) (fun a b h0 h1 h2 => ratP_mono e d a b h0 h1 (by omega))
        simp only [sf_rrte, putAll, wx, wy, wz, stV, seval, IntWalk.iteOmega, IntWalk.toNatUp, reduceCtorEq]
        refine st_call (c1) rfl (.inl rfl) ?_
        simp only [wx, wy, wz, stV, seval, IntWalk.iteOmega, IntWalk.toNatUp, reduceCtorEq]
        refine st_call (c2) rfl (.inl rfl) ?_
        simp only [wx, wy, wz, stV, seval, IntWalk.iteOmega, IntWalk.toNatUp, reduceCtorEq]
        refine st_call (c3) rfl (.inl rfl) ?_
        simp only [wx, wy, wz, stV, seval, IntWalk.iteOmega, IntWalk.toNatUp, reduceCtorEq]
        refine loop_st (rrtSt e d) (fun k => bisE (ratP e d) 0 1000000 - k) (fun k => k ≤ bisE (ratP e d) 0 1000000) 0 (Nat.zero_le _) ?_ ?_
        · have e1 : (bisK (ratP e d) 0 1000000 0).1 = 0 := rfl
          have e2 : (bisK (ratP e d) 0 1000000 0).2 = 1000000 := rfl
          refine ent_l (fun i => i) ?_ ?_ rfl rfl <;> simp only [wx, wex, wez, stV, seval, IntWalk.iteOmega, IntWalk.toNatUp, reduceCtorEq, e1, e2]
        · intro k hk
          by_cases hlt : k < bisE (ratP e d) 0 1000000
          · obtain ⟨g1, g2, g3⟩ := hgo k hlt
            have es : bisK (ratP e d) 0 1000000 (k + 1) = bisS (ratP e d) (bisK (ratP e d) 0 1000000 k) := rfl
            obtain ⟨x, hx⟩ : ∃ x, (bisK (ratP e d) 0 1000000 k).1 = x := ⟨_, rfl⟩
            obtain ⟨y, hy⟩ : ∃ y, (bisK (ratP e d) 0 1000000 k).2 = y := ⟨_, rfl⟩
            unfold bisS at es
            rw [hx, hy, show ratP e d ((x + y) / 2) = fitB e d ((x + y) / 2) from rfl] at es
            rw [hx] at g1 g2
            rw [hy] at g1 g3
            have hq : (x + y).tdiv 2 = (x + y) / 2 := Int.tdiv_eq_ediv_of_nonneg (by omega)
            have cs := rfit_c G e d ((x + y) / 2)
            have m1 : x ≤ (x + y) / 2 := by omega
            have m2 : (x + y) / 2 < y := by omega
            generalize hM : (x + y) / 2 = m at *
            cases c : fitB e d m
            · rw [c] at cs
              rw [c, if_neg (by simp)] at es
              simp only [lp_rrte_0, rrtSt, hx, hy, wx, wy, wz, stV, seval, IntWalk.iteOmega, IntWalk.toNatUp, reduceCtorEq, hq]
              refine st_call (cs) rfl (.inl rfl) ?_
              simp only [wx, wy, wz, stV, seval, IntWalk.iteOmega, IntWalk.toNatUp, reduceCtorEq]
              refine lop_next (k + 1) (by omega) (by omega) (ent_l (fun i => i) ?_ ?_ rfl rfl) <;> simp only [wx, wex, wez, stV, seval, IntWalk.iteOmega, IntWalk.toNatUp, reduceCtorEq, es]
            · rw [c] at cs
              rw [c, if_pos rfl] at es
              simp only [lp_rrte_0, rrtSt, hx, hy, wx, wy, wz, stV, seval, IntWalk.iteOmega, IntWalk.toNatUp, reduceCtorEq, hq]
              refine st_call (cs) rfl (.inl rfl) ?_
              simp only [wx, wy, wz, stV, seval, IntWalk.iteOmega, IntWalk.toNatUp, reduceCtorEq]
              refine lop_next (k + 1) (by omega) (by omega) (ent_l (fun i => i) ?_ ?_ rfl rfl) <;> simp only [wx, wex, wez, stV, seval, IntWalk.iteOmega, IntWalk.toNatUp, reduceCtorEq, es]
          · obtain rfl : k = bisE (ratP e d) 0 1000000 := by omega
            generalize bisE (ratP e d) 0 1000000 = k at *
            rw [← hv]
            obtain ⟨x, hx⟩ : ∃ x, (bisK (ratP e d) 0 1000000 k).1 = x := ⟨_, rfl⟩
            obtain ⟨y, hy⟩ : ∃ y, (bisK (ratP e d) 0 1000000 k).2 = y := ⟨_, rfl⟩
            rw [hx] at hend ⊢
            rw [hy] at hend
            simp only [lp_rrte_0, rrtSt, hx, hy, wx, wy, wz, stV, seval, IntWalk.iteOmega, IntWalk.toNatUp, reduceCtorEq]
            exact ret_d2 (by simp only [wx, wy, wz, stV, seval, IntWalk.iteOmega, IntWalk.toNatUp, reduceCtorEq]) (by simp only [wx, wy, wz, stV, seval, IntWalk.iteOmega, IntWalk.toNatUp, reduceCtorEq])
end Go.Proofs.Ytjebhdadegfbdaa
