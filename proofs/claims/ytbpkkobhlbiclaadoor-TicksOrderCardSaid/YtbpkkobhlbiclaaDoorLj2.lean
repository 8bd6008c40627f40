/- The laws of layer 10: what its functions mean. Own work. -/
import Derived.Test.YtbpkkobhlbiclaaDoorAlV
import Derived.Test.YtbpkkobhlbiclaaDoorLj0
set_option linter.unusedVariables false
set_option linter.unusedSimpArgs false
namespace Go.Proofs.YtbpkkobhlbiclaaDoor
open Go.RowKit

theorem asList2 (s : ByteArray) : ∃ l : List UInt8, s = ⟨l.toArray⟩ := ⟨s.data.toList, (mkS s).symm⟩
theorem round_f (a b : Int) : roundI a b false = a / b := if_neg (by intro k; cases k.1)
theorem round_t (a : Int) {b : Int} (h : 0 < b) : roundI a b true = -(-a / b) := by
  have e := Int.emod_add_mul_ediv a b
  have e' := Int.emod_add_mul_ediv (-a) b
  have h1 := Int.emod_nonneg a (show b ≠ 0 by omega)
  have h2 := Int.emod_lt_of_pos a h
  have h5 : a.tmod b = 0 ↔ a % b = 0 := by rw [← Int.dvd_iff_tmod_eq_zero, Int.dvd_iff_emod_eq_zero]
  unfold roundI
  by_cases hz : a % b = 0
  · rw [if_neg (by intro k; exact k.2 (h5.2 hz))]
    have hd : b ∣ a := Int.dvd_of_emod_eq_zero hz
    rw [Int.neg_ediv_of_dvd hd]; omega
  · rw [if_pos ⟨rfl, fun k => hz (h5.1 k)⟩]
    have key := (Int.ediv_emod_unique (a := -a) h (r := b - a % b) (q := -(a / b) - 1)).2 ⟨by
      have : b * (-(a / b) - 1) = -(b * (a / b)) - b := by rw [Int.mul_sub, Int.mul_neg, Int.mul_one]
      rw [this]; omega, by omega, by omega⟩
    rw [key.1]; omega
def sf_tdiv10 : SFn := ⟨2, 87,
  .seq (.reg [⟨(some 4), .mv (.k (.c (.d (.bool false)))), none⟩])
  (.seq (.seq (.reg [⟨(some 11), .mv (.t 0), none⟩,
    ⟨(some 12), .call 22 [(.t 11)] none, none⟩,
    ⟨(some 13), .un .not (.t 12), none⟩])
  (.cond (.t 13) (.seq (.reg [⟨(some 14), .call 10 [] none, none⟩,
     ⟨(some 4), .mv (.t 14), none⟩])
   (.ret))
   (.skip)))
  (.seq (.reg [⟨(some 15), .mv (.t 1), none⟩,
    ⟨(some 16), .call 35 [(.t 15), (.k (.c (.d (.int .i64 1073741824))))] none, none⟩,
    ⟨(some 17), .bin .add (.k (.c (.d (.int .i64 1)))) (.t 16), none⟩,
    ⟨(some 1), .mv (.t 17), none⟩])
  (.seq (.reg [⟨(some 19), .mv (.t 0), none⟩,
    ⟨(some 20), .mv (.t 1), none⟩,
    ⟨(some 21), .call 11 [(.t 19), (.t 20), (.k (.c (.d (.bool false))))] none, none⟩,
    ⟨(some 18), .mv (.t 21), none⟩,
    ⟨(some 22), .extract (.t 18) 0, none⟩,
    ⟨(some 23), .extract (.t 18) 1, none⟩,
    ⟨(some 5), .mv (.t 22), none⟩,
    ⟨(some 6), .mv (.t 23), none⟩])
  (.seq (.reg [⟨(some 25), .mv (.t 0), none⟩,
    ⟨(some 26), .mv (.t 1), none⟩,
    ⟨(some 27), .call 11 [(.t 25), (.t 26), (.k (.c (.d (.bool true))))] none, none⟩,
    ⟨(some 24), .mv (.t 27), none⟩,
    ⟨(some 28), .extract (.t 24) 0, none⟩,
    ⟨(some 29), .extract (.t 24) 1, none⟩,
    ⟨(some 7), .mv (.t 28), none⟩,
    ⟨(some 8), .mv (.t 29), none⟩])
  (.seq (.reg [⟨(some 30), .mv (.t 0), none⟩,
    ⟨(some 31), .call 25 [(.t 30)] none, none⟩,
    ⟨(some 9), .mv (.t 31), none⟩])
  (.seq (.seq (.reg [⟨(some 32), .mv (.t 6), none⟩,
    ⟨(some 33), .bin .neq (.t 32) (.k (.c (.d (.int .i64 0)))), none⟩,
    ⟨(some 34), .mv (.t 33), none⟩,
    ⟨(some 35), .mv (.t 8), (some (34, false))⟩,
    ⟨(some 36), .bin .neq (.t 35) (.k (.c (.d (.int .i64 0)))), (some (34, false))⟩,
    ⟨(some 37), .pick (.t 34) (.k (.c (.d (.bool true)))) (.t 36), none⟩,
    ⟨(some 38), .mv (.t 37), none⟩,
    ⟨(some 39), .mv (.t 9), (some (38, false))⟩,
    ⟨(some 40), .bin .lss (.t 39) (.k (.c (.d (.int .i64 0)))), (some (38, false))⟩,
    ⟨(some 41), .pick (.t 38) (.k (.c (.d (.bool true)))) (.t 40), none⟩,
    ⟨(some 42), .mv (.t 41), none⟩,
    ⟨(some 43), .mv (.t 9), (some (42, false))⟩,
    ⟨(some 44), .bin .geq (.t 43) (.k (.c (.d (.int .i64 1048576)))), (some (42, false))⟩,
    ⟨(some 45), .pick (.t 42) (.k (.c (.d (.bool true)))) (.t 44), none⟩,
    ⟨(some 46), .mv (.t 45), none⟩,
    ⟨(some 47), .mv (.t 0), (some (46, false))⟩,
    ⟨(some 48), .call 23 [(.t 47)] none, (some (46, false))⟩,
    ⟨(some 49), .bin .shl (.t 48) (.k (.c (.d (.int .u64 20)))), (some (46, false))⟩,
    ⟨(some 50), .mv (.t 9), (some (46, false))⟩,
    ⟨(some 51), .bin .add (.t 49) (.t 50), (some (46, false))⟩,
    ⟨(some 52), .mv (.t 0), (some (46, false))⟩,
    ⟨(some 53), .bin .neq (.t 51) (.t 52), (some (46, false))⟩,
    ⟨(some 54), .pick (.t 46) (.k (.c (.d (.bool true)))) (.t 53), none⟩])
  (.cond (.t 54) (.seq (.reg [⟨(some 4), .mv (.k (.c (.d (.bool false)))), none⟩])
   (.ret))
   (.skip)))
  (.seq (.seq (.reg [⟨(some 55), .mv (.t 5), none⟩,
    ⟨(some 56), .mv (.t 7), none⟩,
    ⟨(some 57), .bin .neq (.t 55) (.t 56), none⟩,
    ⟨(some 58), .mv (.t 57), none⟩,
    ⟨(some 59), .mv (.t 7), (some (58, true))⟩,
    ⟨(some 60), .mv (.t 5), (some (58, true))⟩,
    ⟨(some 61), .bin .add (.t 60) (.k (.c (.d (.int .i64 1)))), (some (58, true))⟩,
    ⟨(some 62), .bin .neq (.t 59) (.t 61), (some (58, true))⟩,
    ⟨(some 63), .pick (.t 58) (.t 62) (.k (.c (.d (.bool false)))), none⟩])
  (.cond (.t 63) (.seq (.reg [⟨(some 4), .mv (.k (.c (.d (.bool false)))), none⟩])
   (.ret))
   (.skip)))
  (.seq (.reg [⟨(some 64), .mv (.t 0), none⟩,
    ⟨(some 65), .mv (.t 5), none⟩,
    ⟨(some 66), .mv (.t 1), none⟩,
    ⟨(some 67), .bin .mul (.t 65) (.t 66), none⟩,
    ⟨(some 68), .bin .sub (.t 64) (.t 67), none⟩,
    ⟨(some 10), .mv (.t 68), none⟩])
  (.seq (.reg [⟨(some 69), .call 10 [] none, none⟩,
    ⟨(some 70), .mv (.t 69), none⟩,
    ⟨(some 71), .mv (.t 10), (some (70, true))⟩,
    ⟨(some 72), .bin .geq (.t 71) (.k (.c (.d (.int .i64 0)))), (some (70, true))⟩,
    ⟨(some 73), .pick (.t 70) (.t 72) (.k (.c (.d (.bool false)))), none⟩,
    ⟨(some 74), .mv (.t 73), none⟩,
    ⟨(some 75), .mv (.t 10), (some (74, true))⟩,
    ⟨(some 76), .mv (.t 1), (some (74, true))⟩,
    ⟨(some 77), .bin .lss (.t 75) (.t 76), (some (74, true))⟩,
    ⟨(some 78), .pick (.t 74) (.t 77) (.k (.c (.d (.bool false)))), none⟩,
    ⟨(some 79), .mv (.t 78), none⟩,
    ⟨(some 80), .mv (.t 10), (some (79, true))⟩,
    ⟨(some 81), .bin .eql (.t 80) (.k (.c (.d (.int .i64 0)))), (some (79, true))⟩,
    ⟨(some 82), .mv (.t 5), (some (79, true))⟩,
    ⟨(some 83), .mv (.t 7), (some (79, true))⟩,
    ⟨(some 84), .bin .eql (.t 82) (.t 83), (some (79, true))⟩,
    ⟨(some 85), .eqB false (.t 81) (.t 84), (some (79, true))⟩,
    ⟨(some 86), .pick (.t 79) (.t 85) (.k (.c (.d (.bool false)))), none⟩,
    ⟨(some 4), .mv (.t 86), none⟩])
  (.ret)))))))))),
  [(4, none)]⟩
theorem cf_tdiv10 : compFn Tryd.prog { own := [], comp := [], frz := [], nils := [] } Tryd.f4 = some sf_tdiv10 := by kernel_rfl
set_option maxHeartbeats 1600000 in
theorem tdiv10_c (G : Glob) (a : Int) (ha1 : -9223372036854775808 ≤ a) (ha2 : a ≤ 9223372036854775807) (b : Int) (hb1 : -9223372036854775808 ≤ b) (hb2 : b ≤ 9223372036854775807) (hP : G.at 1 = some (.ra (Lib.pow10Tab.map fun z => D.int .u64 z))) : Den Tryd.prog G 4 [.int .i64 a, .int .i64 b] (.w (.c (.d (.bool true)))) := by
  refine den_walk Tryd.func4 cf_tdiv10 rfl rfl ?_
  have hk := known10_c G hP
  cases hv : valT a
  · simp only [sf_tdiv10, putAll, wx, wy, wz, stV, seval, IntWalk.iteOmega, IntWalk.toNatUp, reduceCtorEq]
    refine st_call (rval_c G a) rfl (.inl rfl) ?_
    simp only [hv, wx, wy, wz, stV, seval, IntWalk.iteOmega, IntWalk.toNatUp, reduceCtorEq]
    refine st_call (hk) rfl (.inl rfl) ?_
    simp only [wx, wy, wz, stV, seval, IntWalk.iteOmega, IntWalk.toNatUp, reduceCtorEq]
    exact ret_d1 (by simp only [wx, wy, wz, stV, seval, IntWalk.iteOmega, IntWalk.toNatUp, reduceCtorEq])
  · have hva : -1152921504606846976 ≤ a ∧ a ≤ 1152921504606846976 := of_decide_eq_true hv
    have hw := withinN_range b 1073741824 (by decide)
    have cw := within_c G b 1073741824 (by decide)
    obtain ⟨B, hB⟩ : ∃ B, 1 + withinN b 1073741824 = B := ⟨_, rfl⟩
    have hB1 : 1 ≤ B := by omega
    have hB2 : B ≤ 1073741824 := by omega
    have c1 := div_c G a B false ha1 ha2
    have c2 := div_c G a B true ha1 ha2
    have hn : ¬ (B < 1 ∨ valT a = false) := by rw [hv]; intro h; rcases h with h | h; omega; cases h
    have d0 : divE a B = 0 := if_neg hn
    have d1 : divV a B false = roundI a B false := if_neg hn
    have d2 : divV a B true = roundI a B true := if_neg hn
    rw [d0, d1] at c1
    rw [d0, d2] at c2
    obtain ⟨r1, r2, r3, r4, r5⟩ := round_enclose a (b := B) (by omega)
    rw [round_f] at c1 r1 r3 r4 r5
    have em := Int.emod_add_mul_ediv a B
    rw [Int.mul_comm] at em
    have m0 := Int.emod_nonneg a (show B ≠ 0 by omega)
    have m1 := Int.emod_lt_of_pos a (show 0 < B by omega)
    have hl := round_in a hB1 false
    rw [round_f] at hl
    have hl2 : -1152921504606846977 ≤ a / B ∧ a / B ≤ 1152921504606846977 := by omega
    clear hl
    generalize roundI a B true = Y at *
    generalize hXX : a / B = X at *
    generalize hMM : a % B = M at *
    have hmul : X * B = a - M := by omega
    have ea : a - (a - M) = M := by omega
    have hp0 : 0 ≤ a % 1048576 := by omega
    have hp1 : a % 1048576 < 1048576 := by omega
    have hp2 : a / 1048576 * 1048576 + a % 1048576 = a := by omega
    have hge : (a % 1048576 ≥ 1048576) = False := eq_false (by omega)
    have hge0 : (M ≥ 0) = True := eq_true m0
    have hrange : -1152921504606846976 ≤ a / 1048576 * 1048576 ∧ a / 1048576 * 1048576 ≤ 1152921504606846976 := by omega
    have hsec : -1152921504606846976 ≤ a / 1048576 ∧ a / 1048576 ≤ 1152921504606846976 := by omega
    by_cases hz : M = 0
    · have hy : Y = X := r5.2 hz
      simp only [sf_tdiv10, putAll, wx, wy, wz, stV, seval, IntWalk.iteOmega, IntWalk.toNatUp, reduceCtorEq]
      refine st_call (rval_c G a) rfl (.inl rfl) ?_
      simp only [hv, wx, wy, wz, stV, seval, IntWalk.iteOmega, IntWalk.toNatUp, reduceCtorEq]
      refine st_call (cw) rfl (.inl rfl) ?_
      simp only [hB, wx, wy, wz, stV, seval, IntWalk.iteOmega, IntWalk.toNatUp, reduceCtorEq]
      refine st_call (c1) rfl (.inl rfl) ?_
      simp only [wx, wy, wz, stV, seval, IntWalk.iteOmega, IntWalk.toNatUp, reduceCtorEq]
      refine st_call (c2) rfl (.inl rfl) ?_
      simp only [wx, wy, wz, stV, seval, IntWalk.iteOmega, IntWalk.toNatUp, reduceCtorEq]
      refine st_call (prt_c G a) rfl (.inl rfl) ?_
      simp only [hge, wx, wy, wz, stV, seval, IntWalk.iteOmega, IntWalk.toNatUp, reduceCtorEq]
      refine st_call (snd_c G a) rfl (.inl rfl) ?_
      simp only [bI64, hp2, hmul, hy, ea, wx, wy, wz, stV, seval, IntWalk.iteOmega, IntWalk.toNatUp, reduceCtorEq]
      refine st_call (hk) rfl (.inl rfl) ?_
      simp only [hge0, hz, wx, wy, wz, stV, seval, IntWalk.iteOmega, IntWalk.toNatUp, reduceCtorEq]
      exact ret_d1 (by simp only [wx, wy, wz, stV, seval, IntWalk.iteOmega, IntWalk.toNatUp, reduceCtorEq])
    · have hy : Y = X + 1 := by
        have : Y ≠ X := fun h => hz (r5.1 h)
        omega
      have hxy : (X = X + 1) = False := eq_false (by omega)
      simp only [sf_tdiv10, putAll, wx, wy, wz, stV, seval, IntWalk.iteOmega, IntWalk.toNatUp, reduceCtorEq]
      refine st_call (rval_c G a) rfl (.inl rfl) ?_
      simp only [hv, wx, wy, wz, stV, seval, IntWalk.iteOmega, IntWalk.toNatUp, reduceCtorEq]
      refine st_call (cw) rfl (.inl rfl) ?_
      simp only [hB, wx, wy, wz, stV, seval, IntWalk.iteOmega, IntWalk.toNatUp, reduceCtorEq]
      refine st_call (c1) rfl (.inl rfl) ?_
      simp only [wx, wy, wz, stV, seval, IntWalk.iteOmega, IntWalk.toNatUp, reduceCtorEq]
      refine st_call (c2) rfl (.inl rfl) ?_
      simp only [wx, wy, wz, stV, seval, IntWalk.iteOmega, IntWalk.toNatUp, reduceCtorEq]
      refine st_call (prt_c G a) rfl (.inl rfl) ?_
      simp only [hge, wx, wy, wz, stV, seval, IntWalk.iteOmega, IntWalk.toNatUp, reduceCtorEq]
      refine st_call (snd_c G a) rfl (.inl rfl) ?_
      simp only [bI64, hp2, hmul, hy, ea, wx, wy, wz, stV, seval, IntWalk.iteOmega, IntWalk.toNatUp, reduceCtorEq]
      refine st_call (hk) rfl (.inl rfl) ?_
      simp only [hge0, hz, hxy, wx, wy, wz, stV, seval, IntWalk.iteOmega, IntWalk.toNatUp, reduceCtorEq]
      exact ret_d1 (by simp only [wx, wy, wz, stV, seval, IntWalk.iteOmega, IntWalk.toNatUp, reduceCtorEq])
def sf_twire : SFn := ⟨2, 76,
  .seq (.reg [⟨(some 4), .mv (.k (.c (.d (.bool false)))), none⟩])
  (.seq (.reg [⟨(some 11), .mv (.t 0), none⟩,
    ⟨(some 12), .call 35 [(.t 11), (.k (.c (.d (.int .i64 288230376151711744))))] none, none⟩,
    ⟨(some 0), .mv (.t 12), none⟩])
  (.seq (.reg [⟨(some 14), .mv (.t 0), none⟩,
    ⟨(some 15), .call 15 [(.t 14)] none, none⟩,
    ⟨(some 13), .mv (.t 15), none⟩,
    ⟨(some 16), .extract (.t 13) 0, none⟩,
    ⟨(some 17), .extract (.t 13) 1, none⟩,
    ⟨(some 5), .mv (.t 16), none⟩,
    ⟨(some 6), .mv (.t 17), none⟩])
  (.seq (.reg [⟨(some 19), .mv (.t 0), none⟩,
    ⟨(some 20), .bin .add (.t 19) (.k (.c (.d (.int .i64 4503599627370496)))), none⟩,
    ⟨(some 21), .call 15 [(.t 20)] none, none⟩,
    ⟨(some 18), .mv (.t 21), none⟩,
    ⟨(some 22), .extract (.t 18) 0, none⟩,
    ⟨(some 23), .extract (.t 18) 1, none⟩,
    ⟨(some 7), .mv (.t 22), none⟩,
    ⟨(some 8), .mv (.t 23), none⟩])
  (.seq (.reg [⟨(some 24), .mv (.t 1), none⟩,
    ⟨(some 25), .call 27 [(.t 24)] none, none⟩,
    ⟨(some 26), .mv (.t 1), none⟩,
    ⟨(some 27), .call 29 [(.t 26)] none, none⟩,
    ⟨(some 9), .mv (.t 25), none⟩,
    ⟨(some 10), .mv (.t 27), none⟩])
  (.seq (.reg [⟨(some 28), .call 10 [] none, none⟩,
    ⟨(some 29), .mv (.t 28), none⟩,
    ⟨(some 30), .mv (.t 6), (some (29, true))⟩,
    ⟨(some 31), .bin .eql (.t 30) (.k (.c (.d (.int .i64 0)))), (some (29, true))⟩,
    ⟨(some 32), .pick (.t 29) (.t 31) (.k (.c (.d (.bool false)))), none⟩,
    ⟨(some 33), .mv (.t 32), none⟩,
    ⟨(some 34), .mv (.t 8), (some (33, true))⟩,
    ⟨(some 35), .bin .eql (.t 34) (.k (.c (.d (.int .i64 0)))), (some (33, true))⟩,
    ⟨(some 36), .pick (.t 33) (.t 35) (.k (.c (.d (.bool false)))), none⟩,
    ⟨(some 37), .mv (.t 36), none⟩,
    ⟨(some 38), .mv (.t 5), (some (37, true))⟩,
    ⟨(some 39), .mv (.t 7), (some (37, true))⟩,
    ⟨(some 40), .bin .eql (.t 38) (.t 39), (some (37, true))⟩,
    ⟨(some 41), .pick (.t 37) (.t 40) (.k (.c (.d (.bool false)))), none⟩,
    ⟨(some 42), .mv (.t 41), none⟩,
    ⟨(some 43), .mv (.t 5), (some (42, true))⟩,
    ⟨(some 44), .call 27 [(.t 43)] none, (some (42, true))⟩,
    ⟨(some 45), .mv (.t 0), (some (42, true))⟩,
    ⟨(some 46), .bin .and (.t 45) (.k (.c (.d (.int .i64 4503599627370495)))), (some (42, true))⟩,
    ⟨(some 47), .bin .eql (.t 44) (.t 46), (some (42, true))⟩,
    ⟨(some 48), .pick (.t 42) (.t 47) (.k (.c (.d (.bool false)))), none⟩,
    ⟨(some 49), .mv (.t 48), none⟩,
    ⟨(some 50), .mv (.t 5), (some (49, true))⟩,
    ⟨(some 51), .call 29 [(.t 50)] none, (some (49, true))⟩,
    ⟨(some 52), .mv (.t 5), (some (49, true))⟩,
    ⟨(some 53), .call 27 [(.t 52)] none, (some (49, true))⟩,
    ⟨(some 54), .bin .eql (.t 51) (.t 53), (some (49, true))⟩,
    ⟨(some 55), .pick (.t 49) (.t 54) (.k (.c (.d (.bool false)))), none⟩,
    ⟨(some 56), .mv (.t 55), none⟩,
    ⟨(some 57), .mv (.t 10), (some (56, true))⟩,
    ⟨(some 58), .mv (.t 9), (some (56, true))⟩,
    ⟨(some 59), .bin .eql (.t 57) (.t 58), (some (56, true))⟩,
    ⟨(some 60), .mv (.t 59), (some (56, true))⟩,
    ⟨(some 61), .mv (.t 10), (some (60, false))⟩,
    ⟨(some 62), .mv (.t 9), (some (60, false))⟩,
    ⟨(some 63), .bin .add (.t 62) (.k (.c (.d (.int .i64 1)))), (some (60, false))⟩,
    ⟨(some 64), .bin .eql (.t 61) (.t 63), (some (60, false))⟩,
    ⟨(some 65), .pick (.t 60) (.k (.c (.d (.bool true)))) (.t 64), (some (56, true))⟩,
    ⟨(some 66), .pick (.t 56) (.t 65) (.k (.c (.d (.bool false)))), none⟩,
    ⟨(some 67), .mv (.t 66), none⟩,
    ⟨(some 68), .mv (.t 10), (some (67, true))⟩,
    ⟨(some 69), .mv (.t 9), (some (67, true))⟩,
    ⟨(some 70), .bin .eql (.t 68) (.t 69), (some (67, true))⟩,
    ⟨(some 71), .mv (.t 1), (some (67, true))⟩,
    ⟨(some 72), .bin .and (.t 71) (.k (.c (.d (.int .u64 4095)))), (some (67, true))⟩,
    ⟨(some 73), .bin .eql (.t 72) (.k (.c (.d (.int .u64 0)))), (some (67, true))⟩,
    ⟨(some 74), .eqB false (.t 70) (.t 73), (some (67, true))⟩,
    ⟨(some 75), .pick (.t 67) (.t 74) (.k (.c (.d (.bool false)))), none⟩,
    ⟨(some 4), .mv (.t 75), none⟩])
  (.ret)))))),
  [(4, none)]⟩
theorem cf_twire : compFn Tryd.prog { own := [], comp := [], frz := [], nils := [] } Tryd.f5 = some sf_twire := by kernel_rfl
set_option maxHeartbeats 1600000 in
theorem twire_c (G : Glob) (t : Int) (ht1 : -9223372036854775808 ≤ t) (ht2 : t ≤ 9223372036854775807) (w : Nat) (hw : w < 18446744073709551616) (hP : G.at 1 = some (.ra (Lib.pow10Tab.map fun z => D.int .u64 z))) : Den Tryd.prog G 5 [.int .i64 t, .int .u64 (w : Int)] (.w (.c (.d (.bool true)))) := by
  refine den_walk Tryd.func5 cf_twire rfl rfl ?_
  have hk := known10_c G hP
  have hw := withinN_range t 288230376151711744 (by decide)
  have cw := within_c G t 288230376151711744 (by decide)
  generalize withinN t 288230376151711744 = T at *
  have c1 := wir_c G T (by omega) (by omega)
  have c2 := wir_c G (T + 4503599627370496) (by omega) (by omega)
  have v1 : valT T = true := valT_t ⟨by omega, by omega⟩
  have v2 : valT (T + 4503599627370496) = true := valT_t ⟨by omega, by omega⟩
  have x1 : wirV T = wirN T := if_pos v1
  have x2 : wirV (T + 4503599627370496) = wirN T := by
    unfold wirV
    rw [if_pos v2]
    unfold wirN; omega
  have e1 : wirE T = 0 := if_pos v1
  have e2 : wirE (T + 4503599627370496) = 0 := if_pos v2
  rw [x1, e1] at c1
  rw [x2, e2] at c2
  have b1 : 0 ≤ wirN T := by unfold wirN; omega
  have b2 : wirN T < 18446744073709551616 := by unfold wirN; omega
  have b3 : wirN T / 4096 = T % 4503599627370496 := by unfold wirN; omega
  have b4 : upV (wirN T) = T % 4503599627370496 := by
    unfold upV
    rw [if_pos (by unfold wirN; omega), b3]
  generalize wirN T = X at *
  have c3 := dwn_c G X b1 b2
  have c4 := upp_c G X b1 b2
  rw [b3] at c3
  rw [b4] at c4
  have hw0 : (0 : Int) ≤ (w : Int) := Int.natCast_nonneg _
  have hw1 : (w : Int) < 18446744073709551616 := by omega
  generalize (w : Int) = W at *
  have c5 := dwn_c G W hw0 hw1
  have c6 := upp_c G W hw0 hw1
  have a12 := u64_and12 W hw0 hw1
  by_cases hz : W % 4096 = 0
  · rw [show upV W = W / 4096 from if_pos hz] at c6
    simp only [sf_twire, putAll, wx, wy, wz, stV, seval, IntWalk.iteOmega, IntWalk.toNatUp, reduceCtorEq]
    refine st_call (cw) rfl (.inl rfl) ?_
    simp only [wx, wy, wz, stV, seval, IntWalk.iteOmega, IntWalk.toNatUp, reduceCtorEq]
    refine st_call (c1) rfl (.inl rfl) ?_
    simp only [wx, wy, wz, stV, seval, IntWalk.iteOmega, IntWalk.toNatUp, reduceCtorEq]
    refine st_call (c2) rfl (.inl rfl) ?_
    simp only [wx, wy, wz, stV, seval, IntWalk.iteOmega, IntWalk.toNatUp, reduceCtorEq]
    refine st_call (c5) rfl (.inl rfl) ?_
    simp only [wx, wy, wz, stV, seval, IntWalk.iteOmega, IntWalk.toNatUp, reduceCtorEq]
    refine st_call (c6) rfl (.inl rfl) ?_
    simp only [wx, wy, wz, stV, seval, IntWalk.iteOmega, IntWalk.toNatUp, reduceCtorEq]
    refine st_call (hk) rfl (.inl rfl) ?_
    simp only [wx, wy, wz, stV, seval, IntWalk.iteOmega, IntWalk.toNatUp, reduceCtorEq]
    refine st_call (c3) rfl (.inl rfl) ?_
    simp only [i64_and52, wx, wy, wz, stV, seval, IntWalk.iteOmega, IntWalk.toNatUp, reduceCtorEq]
    refine st_call (c4) rfl (.inl rfl) ?_
    simp only [wx, wy, wz, stV, seval, IntWalk.iteOmega, IntWalk.toNatUp, reduceCtorEq]
    refine st_call (c3) rfl (.inl rfl) ?_
    simp only [a12, hz, wx, wy, wz, stV, seval, IntWalk.iteOmega, IntWalk.toNatUp, reduceCtorEq]
    exact ret_d1 (by simp only [wx, wy, wz, stV, seval, IntWalk.iteOmega, IntWalk.toNatUp, reduceCtorEq])
  · rw [show upV W = W / 4096 + 1 from if_neg hz] at c6
    have hne : (W / 4096 + 1 = W / 4096) = False := eq_false (by omega)
    simp only [sf_twire, putAll, wx, wy, wz, stV, seval, IntWalk.iteOmega, IntWalk.toNatUp, reduceCtorEq]
    refine st_call (cw) rfl (.inl rfl) ?_
    simp only [wx, wy, wz, stV, seval, IntWalk.iteOmega, IntWalk.toNatUp, reduceCtorEq]
    refine st_call (c1) rfl (.inl rfl) ?_
    simp only [wx, wy, wz, stV, seval, IntWalk.iteOmega, IntWalk.toNatUp, reduceCtorEq]
    refine st_call (c2) rfl (.inl rfl) ?_
    simp only [wx, wy, wz, stV, seval, IntWalk.iteOmega, IntWalk.toNatUp, reduceCtorEq]
    refine st_call (c5) rfl (.inl rfl) ?_
    simp only [wx, wy, wz, stV, seval, IntWalk.iteOmega, IntWalk.toNatUp, reduceCtorEq]
    refine st_call (c6) rfl (.inl rfl) ?_
    simp only [wx, wy, wz, stV, seval, IntWalk.iteOmega, IntWalk.toNatUp, reduceCtorEq]
    refine st_call (hk) rfl (.inl rfl) ?_
    simp only [wx, wy, wz, stV, seval, IntWalk.iteOmega, IntWalk.toNatUp, reduceCtorEq]
    refine st_call (c3) rfl (.inl rfl) ?_
    simp only [i64_and52, wx, wy, wz, stV, seval, IntWalk.iteOmega, IntWalk.toNatUp, reduceCtorEq]
    refine st_call (c4) rfl (.inl rfl) ?_
    simp only [wx, wy, wz, stV, seval, IntWalk.iteOmega, IntWalk.toNatUp, reduceCtorEq]
    refine st_call (c3) rfl (.inl rfl) ?_
    simp only [a12, hz, hne, wx, wy, wz, stV, seval, IntWalk.iteOmega, IntWalk.toNatUp, reduceCtorEq]
    exact ret_d1 (by simp only [wx, wy, wz, stV, seval, IntWalk.iteOmega, IntWalk.toNatUp, reduceCtorEq])
/-! ### Scale -/
theorem sca_f (d p : Int) : scaN d p false = d * p / 1000000000 := by
  have e := Int.emod_add_mul_ediv d 1000000000
  have : d * p = d % 1000000000 * p + d / 1000000000 * p * 1000000000 := by
    have h2 : d * p = (d % 1000000000 + 1000000000 * (d / 1000000000)) * p := by rw [e]
    rw [h2, Int.add_mul, Int.mul_comm 1000000000, Int.mul_right_comm]
  unfold scaN
  rw [round_f, this, Int.add_mul_ediv_right _ _ (by decide)]
  omega
theorem sca_t (d p : Int) : scaN d p true = -(-(d * p) / 1000000000) := by
  have e := Int.emod_add_mul_ediv d 1000000000
  have : -(d * p) = -(d % 1000000000 * p) + -(d / 1000000000 * p) * 1000000000 := by
    have h2 : d * p = (d % 1000000000 + 1000000000 * (d / 1000000000)) * p := by rw [e]
    rw [h2, Int.add_mul, Int.mul_comm 1000000000, Int.mul_right_comm, Int.neg_add, Int.neg_mul]
  unfold scaN
  rw [round_t _ (by decide), this, Int.add_mul_ediv_right _ _ (by decide)]
  omega
theorem sca_neg (d p : Int) : scaN (-d) p false = -(scaN d p true) := by
  rw [sca_f, sca_t, Int.neg_neg, Int.neg_mul]
theorem sca_mono {d e p : Int} (h : d ≤ e) (hp : 0 ≤ p) : scaN d p false ≤ scaN e p false := by
  rw [sca_f, sca_f]
  exact Int.ediv_le_ediv (by decide) (Int.mul_le_mul_of_nonneg_right h hp)
theorem sca_ex (q p : Int) : scaN (q * 1000000000) p false = q * p := by
  rw [sca_f, Int.mul_right_comm, Int.mul_ediv_cancel _ (by decide)]
theorem sca_two (d p : Int) : scaN d p true = scaN d p false ∨ scaN d p true = scaN d p false + 1 := by
  rw [sca_f, sca_t]
  generalize d * p = x
  omega
theorem sca_in {d p : Int} (h1 : -1152921504606846976 ≤ d) (h2 : d ≤ 1152921504606846976) (h3 : 0 ≤ p) (h4 : p ≤ 1000000) (up : Bool) : -2305843009213693952 ≤ scaN d p up ∧ scaN d p up ≤ 2305843009213693952 := by
  have q1 := mul_in (x := d / 1000000000) (p := p) (A := 1152921505) (B := 1000000) (by omega) (by omega) (by omega) (by omega) (by omega)
  have q2 := mul_in (x := d % 1000000000) (p := p) (A := 1000000000) (B := 1000000) (by omega) (by omega) (by omega) (by omega) (by omega)
  have q3 := round_in (d % 1000000000 * p) (b := 1000000000) (by decide) up
  unfold scaN
  omega
def sf_tscal : SFn := ⟨3, 120,
  .seq (.reg [⟨(some 6), .mv (.k (.c (.d (.bool false)))), none⟩])
  (.seq (.reg [⟨(some 17), .mv (.t 0), none⟩,
    ⟨(some 18), .call 35 [(.t 17), (.k (.c (.d (.int .i64 576460752303423488))))] none, none⟩,
    ⟨(some 19), .mv (.t 1), none⟩,
    ⟨(some 20), .call 35 [(.t 19), (.k (.c (.d (.int .i64 576460752303423488))))] none, none⟩,
    ⟨(some 21), .mv (.t 2), none⟩,
    ⟨(some 22), .call 35 [(.t 21), (.k (.c (.d (.int .i64 1000001))))] none, none⟩,
    ⟨(some 0), .mv (.t 18), none⟩,
    ⟨(some 1), .mv (.t 20), none⟩,
    ⟨(some 2), .mv (.t 22), none⟩])
  (.seq (.reg [⟨(some 24), .mv (.t 0), none⟩,
    ⟨(some 25), .mv (.t 2), none⟩,
    ⟨(some 26), .call 13 [(.t 24), (.t 25), (.k (.c (.d (.bool false))))] none, none⟩,
    ⟨(some 23), .mv (.t 26), none⟩,
    ⟨(some 27), .extract (.t 23) 0, none⟩,
    ⟨(some 28), .extract (.t 23) 1, none⟩,
    ⟨(some 7), .mv (.t 27), none⟩,
    ⟨(some 8), .mv (.t 28), none⟩])
  (.seq (.reg [⟨(some 30), .mv (.t 0), none⟩,
    ⟨(some 31), .mv (.t 2), none⟩,
    ⟨(some 32), .call 13 [(.t 30), (.t 31), (.k (.c (.d (.bool true))))] none, none⟩,
    ⟨(some 29), .mv (.t 32), none⟩,
    ⟨(some 33), .extract (.t 29) 0, none⟩,
    ⟨(some 34), .extract (.t 29) 1, none⟩,
    ⟨(some 9), .mv (.t 33), none⟩,
    ⟨(some 10), .mv (.t 34), none⟩])
  (.seq (.reg [⟨(some 36), .mv (.t 1), none⟩,
    ⟨(some 37), .mv (.t 2), none⟩,
    ⟨(some 38), .call 13 [(.t 36), (.t 37), (.k (.c (.d (.bool false))))] none, none⟩,
    ⟨(some 35), .mv (.t 38), none⟩,
    ⟨(some 39), .extract (.t 35) 0, none⟩,
    ⟨(some 40), .extract (.t 35) 1, none⟩,
    ⟨(some 11), .mv (.t 39), none⟩,
    ⟨(some 12), .mv (.t 40), none⟩])
  (.seq (.reg [⟨(some 42), .mv (.t 0), none⟩,
    ⟨(some 43), .un .neg (.t 42), none⟩,
    ⟨(some 44), .mv (.t 2), none⟩,
    ⟨(some 45), .call 13 [(.t 43), (.t 44), (.k (.c (.d (.bool false))))] none, none⟩,
    ⟨(some 41), .mv (.t 45), none⟩,
    ⟨(some 46), .extract (.t 41) 0, none⟩,
    ⟨(some 47), .extract (.t 41) 1, none⟩,
    ⟨(some 13), .mv (.t 46), none⟩,
    ⟨(some 14), .mv (.t 47), none⟩])
  (.seq (.reg [⟨(some 49), .mv (.t 0), none⟩,
    ⟨(some 50), .bin .quo (.t 49) (.k (.c (.d (.int .i64 1000000000)))), none⟩,
    ⟨(some 51), .bin .mul (.t 50) (.k (.c (.d (.int .i64 1000000000)))), none⟩,
    ⟨(some 52), .mv (.t 2), none⟩,
    ⟨(some 53), .call 13 [(.t 51), (.t 52), (.k (.c (.d (.bool false))))] none, none⟩,
    ⟨(some 48), .mv (.t 53), none⟩,
    ⟨(some 54), .extract (.t 48) 0, none⟩,
    ⟨(some 55), .extract (.t 48) 1, none⟩,
    ⟨(some 15), .mv (.t 54), none⟩,
    ⟨(some 16), .mv (.t 55), none⟩])
  (.seq (.seq (.reg [⟨(some 56), .mv (.t 8), none⟩,
    ⟨(some 57), .bin .neq (.t 56) (.k (.c (.d (.int .i64 0)))), none⟩,
    ⟨(some 58), .mv (.t 57), none⟩,
    ⟨(some 59), .mv (.t 10), (some (58, false))⟩,
    ⟨(some 60), .bin .neq (.t 59) (.k (.c (.d (.int .i64 0)))), (some (58, false))⟩,
    ⟨(some 61), .pick (.t 58) (.k (.c (.d (.bool true)))) (.t 60), none⟩,
    ⟨(some 62), .mv (.t 61), none⟩,
    ⟨(some 63), .mv (.t 12), (some (62, false))⟩,
    ⟨(some 64), .bin .neq (.t 63) (.k (.c (.d (.int .i64 0)))), (some (62, false))⟩,
    ⟨(some 65), .pick (.t 62) (.k (.c (.d (.bool true)))) (.t 64), none⟩,
    ⟨(some 66), .mv (.t 65), none⟩,
    ⟨(some 67), .mv (.t 14), (some (66, false))⟩,
    ⟨(some 68), .bin .neq (.t 67) (.k (.c (.d (.int .i64 0)))), (some (66, false))⟩,
    ⟨(some 69), .pick (.t 66) (.k (.c (.d (.bool true)))) (.t 68), none⟩,
    ⟨(some 70), .mv (.t 69), none⟩,
    ⟨(some 71), .mv (.t 16), (some (70, false))⟩,
    ⟨(some 72), .bin .neq (.t 71) (.k (.c (.d (.int .i64 0)))), (some (70, false))⟩,
    ⟨(some 73), .pick (.t 70) (.k (.c (.d (.bool true)))) (.t 72), none⟩])
  (.cond (.t 73) (.seq (.reg [⟨(some 6), .mv (.k (.c (.d (.bool false)))), none⟩])
   (.ret))
   (.skip)))
  (.seq (.reg [⟨(some 74), .call 10 [] none, none⟩,
    ⟨(some 75), .mv (.t 74), none⟩,
    ⟨(some 76), .mv (.t 9), (some (75, true))⟩,
    ⟨(some 77), .mv (.t 7), (some (75, true))⟩,
    ⟨(some 78), .bin .eql (.t 76) (.t 77), (some (75, true))⟩,
    ⟨(some 79), .mv (.t 78), (some (75, true))⟩,
    ⟨(some 80), .mv (.t 9), (some (79, false))⟩,
    ⟨(some 81), .mv (.t 7), (some (79, false))⟩,
    ⟨(some 82), .bin .add (.t 81) (.k (.c (.d (.int .i64 1)))), (some (79, false))⟩,
    ⟨(some 83), .bin .eql (.t 80) (.t 82), (some (79, false))⟩,
    ⟨(some 84), .pick (.t 79) (.k (.c (.d (.bool true)))) (.t 83), (some (75, true))⟩,
    ⟨(some 85), .pick (.t 75) (.t 84) (.k (.c (.d (.bool false)))), none⟩,
    ⟨(some 86), .mv (.t 85), none⟩,
    ⟨(some 87), .mv (.t 13), (some (86, true))⟩,
    ⟨(some 88), .mv (.t 9), (some (86, true))⟩,
    ⟨(some 89), .un .neg (.t 88), (some (86, true))⟩,
    ⟨(some 90), .bin .eql (.t 87) (.t 89), (some (86, true))⟩,
    ⟨(some 91), .pick (.t 86) (.t 90) (.k (.c (.d (.bool false)))), none⟩,
    ⟨(some 92), .mv (.t 91), none⟩,
    ⟨(some 93), .mv (.t 0), (some (92, true))⟩,
    ⟨(some 94), .mv (.t 1), (some (92, true))⟩,
    ⟨(some 95), .bin .gtr (.t 93) (.t 94), (some (92, true))⟩,
    ⟨(some 96), .mv (.t 95), (some (92, true))⟩,
    ⟨(some 97), .mv (.t 7), (some (96, false))⟩,
    ⟨(some 98), .mv (.t 11), (some (96, false))⟩,
    ⟨(some 99), .bin .leq (.t 97) (.t 98), (some (96, false))⟩,
    ⟨(some 100), .pick (.t 96) (.k (.c (.d (.bool true)))) (.t 99), (some (92, true))⟩,
    ⟨(some 101), .pick (.t 92) (.t 100) (.k (.c (.d (.bool false)))), none⟩,
    ⟨(some 102), .mv (.t 101), none⟩,
    ⟨(some 103), .mv (.t 0), (some (102, true))⟩,
    ⟨(some 104), .mv (.t 1), (some (102, true))⟩,
    ⟨(some 105), .bin .lss (.t 103) (.t 104), (some (102, true))⟩,
    ⟨(some 106), .mv (.t 105), (some (102, true))⟩,
    ⟨(some 107), .mv (.t 7), (some (106, false))⟩,
    ⟨(some 108), .mv (.t 11), (some (106, false))⟩,
    ⟨(some 109), .bin .geq (.t 107) (.t 108), (some (106, false))⟩,
    ⟨(some 110), .pick (.t 106) (.k (.c (.d (.bool true)))) (.t 109), (some (102, true))⟩,
    ⟨(some 111), .pick (.t 102) (.t 110) (.k (.c (.d (.bool false)))), none⟩,
    ⟨(some 112), .mv (.t 111), none⟩,
    ⟨(some 113), .mv (.t 15), (some (112, true))⟩,
    ⟨(some 114), .mv (.t 0), (some (112, true))⟩,
    ⟨(some 115), .bin .quo (.t 114) (.k (.c (.d (.int .i64 1000000000)))), (some (112, true))⟩,
    ⟨(some 116), .mv (.t 2), (some (112, true))⟩,
    ⟨(some 117), .bin .mul (.t 115) (.t 116), (some (112, true))⟩,
    ⟨(some 118), .bin .eql (.t 113) (.t 117), (some (112, true))⟩,
    ⟨(some 119), .pick (.t 112) (.t 118) (.k (.c (.d (.bool false)))), none⟩,
    ⟨(some 6), .mv (.t 119), none⟩])
  (.ret))))))))),
  [(6, none)]⟩
theorem cf_tscal : compFn Tryd.prog { own := [], comp := [], frz := [], nils := [] } Tryd.f6 = some sf_tscal := by kernel_rfl
set_option maxHeartbeats 1600000 in
theorem tscal_c (G : Glob) (d : Int) (hd1 : -9223372036854775808 ≤ d) (hd2 : d ≤ 9223372036854775807) (o : Int) (ho1 : -9223372036854775808 ≤ o) (ho2 : o ≤ 9223372036854775807) (p : Int) (hp1 : -9223372036854775808 ≤ p) (hp2 : p ≤ 9223372036854775807) (hP : G.at 1 = some (.ra (Lib.pow10Tab.map fun z => D.int .u64 z))) : Den Tryd.prog G 6 [.int .i64 d, .int .i64 o, .int .i64 p] (.w (.c (.d (.bool true)))) := by
  refine den_walk Tryd.func6 cf_tscal rfl rfl ?_
  have hk := known10_c G hP
  have w1 := withinN_range d 576460752303423488 (by decide)
  have cw1 := within_c G d 576460752303423488 (by decide)
  have w2 := withinN_range o 576460752303423488 (by decide)
  have cw2 := within_c G o 576460752303423488 (by decide)
  have w3 := withinN_range p 1000001 (by decide)
  have cw3 := within_c G p 1000001 (by decide)
  generalize withinN d 576460752303423488 = D at *
  generalize withinN o 576460752303423488 = O at *
  generalize withinN p 1000001 = Q at *
  have ok : ∀ x : Int, -1152921504606846976 ≤ x → x ≤ 1152921504606846976 → ∀ up, scaV x Q up = scaN x Q up ∧ scaE x Q = 0 := fun x h1 h2 up => by
    have := scaB_t (d := x) (ppb := Q) ⟨h1, h2⟩ (by omega) (by omega)
    exact ⟨if_pos this, if_pos this⟩
  have tq : D.tdiv 1000000000 = D / 1000000000 := Int.tdiv_eq_ediv_of_nonneg (by omega)
  have c1 := sca_c G D Q false (by omega) (by omega)
  have c2 := sca_c G D Q true (by omega) (by omega)
  have c3 := sca_c G O Q false (by omega) (by omega)
  have c4 := sca_c G (0 - D) Q false (by omega) (by omega)
  have c5 := sca_c G (D / 1000000000 * 1000000000) Q false (by omega) (by omega)
  rw [(ok D (by omega) (by omega) _).1, (ok D (by omega) (by omega) false).2] at c1
  rw [(ok D (by omega) (by omega) _).1, (ok D (by omega) (by omega) false).2] at c2
  rw [(ok O (by omega) (by omega) _).1, (ok O (by omega) (by omega) false).2] at c3
  rw [(ok (0 - D) (by omega) (by omega) _).1, (ok (0 - D) (by omega) (by omega) false).2, show 0 - D = -D by omega, sca_neg] at c4
  rw [(ok (D / 1000000000 * 1000000000) (by omega) (by omega) _).1, (ok (D / 1000000000 * 1000000000) (by omega) (by omega) false).2, sca_ex] at c5
  have i1 := sca_in (d := D) (p := Q) (by omega) (by omega) (by omega) (by omega) false
  have i2 := sca_in (d := D) (p := Q) (by omega) (by omega) (by omega) (by omega) true
  have i3 := mul_in (x := D / 1000000000) (p := Q) (A := 1152921505) (B := 1000000) (by omega) (by omega) (by omega) (by omega) (by omega)
  have m1 : D ≤ O → scaN D Q false ≤ scaN O Q false := fun h => sca_mono h (by omega)
  have m2 : O ≤ D → scaN O Q false ≤ scaN D Q false := fun h => sca_mono h (by omega)
  have two := sca_two D Q
  generalize scaN D Q false = X at *
  generalize scaN D Q true = Y at *
  generalize scaN O Q false = Z at *
  generalize hU : D / 1000000000 * Q = U at *
  have e0 : (0 : Int) - D = -D := by omega
  have e1 : (0 : Int) - Y = -Y := by omega
  have key : ∀ (g1 : Prop) (g2 : Prop) (g3 : Prop), True := fun _ _ _ => trivial
  rcases two with two | two
  · rcases Int.lt_trichotomy D O with h | h | h
    · have n1 := m1 (by omega)
      have f1 : (D > O) = False := eq_false (by omega)
      have f2 : (D < O) = True := eq_true h
      simp only [sf_tscal, putAll, wx, wy, wz, stV, seval, IntWalk.iteOmega, IntWalk.toNatUp, reduceCtorEq]
      refine st_call (cw1) rfl (.inl rfl) ?_
      simp only [wx, wy, wz, stV, seval, IntWalk.iteOmega, IntWalk.toNatUp, reduceCtorEq]
      refine st_call (cw2) rfl (.inl rfl) ?_
      simp only [wx, wy, wz, stV, seval, IntWalk.iteOmega, IntWalk.toNatUp, reduceCtorEq]
      refine st_call (cw3) rfl (.inl rfl) ?_
      simp only [wx, wy, wz, stV, seval, IntWalk.iteOmega, IntWalk.toNatUp, reduceCtorEq]
      refine st_call (c1) rfl (.inl rfl) ?_
      simp only [wx, wy, wz, stV, seval, IntWalk.iteOmega, IntWalk.toNatUp, reduceCtorEq]
      refine st_call (c2) rfl (.inl rfl) ?_
      simp only [wx, wy, wz, stV, seval, IntWalk.iteOmega, IntWalk.toNatUp, reduceCtorEq]
      refine st_call (c3) rfl (.inl rfl) ?_
      simp only [e0, wx, wy, wz, stV, seval, IntWalk.iteOmega, IntWalk.toNatUp, reduceCtorEq]
      refine st_call (c4) rfl (.inl rfl) ?_
      simp only [tq, wx, wy, wz, stV, seval, IntWalk.iteOmega, IntWalk.toNatUp, reduceCtorEq]
      refine st_call (c5) rfl (.inl rfl) ?_
      simp only [wx, wy, wz, stV, seval, IntWalk.iteOmega, IntWalk.toNatUp, reduceCtorEq]
      refine st_call (hk) rfl (.inl rfl) ?_
      simp only [two, e1, f1, f2, tq, hU, wx, wy, wz, stV, seval, IntWalk.iteOmega, IntWalk.toNatUp, reduceCtorEq]
      exact ret_d1 (by simp only [wx, wy, wz, stV, seval, IntWalk.iteOmega, IntWalk.toNatUp, reduceCtorEq])
    · subst h
      have n1 := m1 (by omega)
      have n2 := m2 (by omega)
      have f1 : (D > D) = False := eq_false (by omega)
      have f2 : (D < D) = False := eq_false (by omega)
      have f3 : (X ≥ Z) = True := eq_true n2
      simp only [sf_tscal, putAll, wx, wy, wz, stV, seval, IntWalk.iteOmega, IntWalk.toNatUp, reduceCtorEq]
      refine st_call (cw1) rfl (.inl rfl) ?_
      simp only [wx, wy, wz, stV, seval, IntWalk.iteOmega, IntWalk.toNatUp, reduceCtorEq]
      refine st_call (cw2) rfl (.inl rfl) ?_
      simp only [wx, wy, wz, stV, seval, IntWalk.iteOmega, IntWalk.toNatUp, reduceCtorEq]
      refine st_call (cw3) rfl (.inl rfl) ?_
      simp only [wx, wy, wz, stV, seval, IntWalk.iteOmega, IntWalk.toNatUp, reduceCtorEq]
      refine st_call (c1) rfl (.inl rfl) ?_
      simp only [wx, wy, wz, stV, seval, IntWalk.iteOmega, IntWalk.toNatUp, reduceCtorEq]
      refine st_call (c2) rfl (.inl rfl) ?_
      simp only [wx, wy, wz, stV, seval, IntWalk.iteOmega, IntWalk.toNatUp, reduceCtorEq]
      refine st_call (c3) rfl (.inl rfl) ?_
      simp only [e0, wx, wy, wz, stV, seval, IntWalk.iteOmega, IntWalk.toNatUp, reduceCtorEq]
      refine st_call (c4) rfl (.inl rfl) ?_
      simp only [tq, wx, wy, wz, stV, seval, IntWalk.iteOmega, IntWalk.toNatUp, reduceCtorEq]
      refine st_call (c5) rfl (.inl rfl) ?_
      simp only [wx, wy, wz, stV, seval, IntWalk.iteOmega, IntWalk.toNatUp, reduceCtorEq]
      refine st_call (hk) rfl (.inl rfl) ?_
      simp only [two, e1, f1, f2, f3, tq, hU, wx, wy, wz, stV, seval, IntWalk.iteOmega, IntWalk.toNatUp, reduceCtorEq]
      exact ret_d1 (by simp only [wx, wy, wz, stV, seval, IntWalk.iteOmega, IntWalk.toNatUp, reduceCtorEq])
    · have n2 := m2 (by omega)
      have f1 : (D > O) = True := eq_true h
      have f2 : (D < O) = False := eq_false (by omega)
      have f3 : (X ≥ Z) = True := eq_true n2
      simp only [sf_tscal, putAll, wx, wy, wz, stV, seval, IntWalk.iteOmega, IntWalk.toNatUp, reduceCtorEq]
      refine st_call (cw1) rfl (.inl rfl) ?_
      simp only [wx, wy, wz, stV, seval, IntWalk.iteOmega, IntWalk.toNatUp, reduceCtorEq]
      refine st_call (cw2) rfl (.inl rfl) ?_
      simp only [wx, wy, wz, stV, seval, IntWalk.iteOmega, IntWalk.toNatUp, reduceCtorEq]
      refine st_call (cw3) rfl (.inl rfl) ?_
      simp only [wx, wy, wz, stV, seval, IntWalk.iteOmega, IntWalk.toNatUp, reduceCtorEq]
      refine st_call (c1) rfl (.inl rfl) ?_
      simp only [wx, wy, wz, stV, seval, IntWalk.iteOmega, IntWalk.toNatUp, reduceCtorEq]
      refine st_call (c2) rfl (.inl rfl) ?_
      simp only [wx, wy, wz, stV, seval, IntWalk.iteOmega, IntWalk.toNatUp, reduceCtorEq]
      refine st_call (c3) rfl (.inl rfl) ?_
      simp only [e0, wx, wy, wz, stV, seval, IntWalk.iteOmega, IntWalk.toNatUp, reduceCtorEq]
      refine st_call (c4) rfl (.inl rfl) ?_
      simp only [tq, wx, wy, wz, stV, seval, IntWalk.iteOmega, IntWalk.toNatUp, reduceCtorEq]
      refine st_call (c5) rfl (.inl rfl) ?_
      simp only [wx, wy, wz, stV, seval, IntWalk.iteOmega, IntWalk.toNatUp, reduceCtorEq]
      refine st_call (hk) rfl (.inl rfl) ?_
      simp only [two, e1, f1, f2, f3, tq, hU, wx, wy, wz, stV, seval, IntWalk.iteOmega, IntWalk.toNatUp, reduceCtorEq]
      exact ret_d1 (by simp only [wx, wy, wz, stV, seval, IntWalk.iteOmega, IntWalk.toNatUp, reduceCtorEq])
  · have hne : (Y = X) = False := eq_false (by omega)
    rcases Int.lt_trichotomy D O with h | h | h
    · have n1 := m1 (by omega)
      have f1 : (D > O) = False := eq_false (by omega)
      have f2 : (D < O) = True := eq_true h
      simp only [sf_tscal, putAll, wx, wy, wz, stV, seval, IntWalk.iteOmega, IntWalk.toNatUp, reduceCtorEq]
      refine st_call (cw1) rfl (.inl rfl) ?_
      simp only [wx, wy, wz, stV, seval, IntWalk.iteOmega, IntWalk.toNatUp, reduceCtorEq]
      refine st_call (cw2) rfl (.inl rfl) ?_
      simp only [wx, wy, wz, stV, seval, IntWalk.iteOmega, IntWalk.toNatUp, reduceCtorEq]
      refine st_call (cw3) rfl (.inl rfl) ?_
      simp only [wx, wy, wz, stV, seval, IntWalk.iteOmega, IntWalk.toNatUp, reduceCtorEq]
      refine st_call (c1) rfl (.inl rfl) ?_
      simp only [wx, wy, wz, stV, seval, IntWalk.iteOmega, IntWalk.toNatUp, reduceCtorEq]
      refine st_call (c2) rfl (.inl rfl) ?_
      simp only [wx, wy, wz, stV, seval, IntWalk.iteOmega, IntWalk.toNatUp, reduceCtorEq]
      refine st_call (c3) rfl (.inl rfl) ?_
      simp only [e0, wx, wy, wz, stV, seval, IntWalk.iteOmega, IntWalk.toNatUp, reduceCtorEq]
      refine st_call (c4) rfl (.inl rfl) ?_
      simp only [tq, wx, wy, wz, stV, seval, IntWalk.iteOmega, IntWalk.toNatUp, reduceCtorEq]
      refine st_call (c5) rfl (.inl rfl) ?_
      simp only [wx, wy, wz, stV, seval, IntWalk.iteOmega, IntWalk.toNatUp, reduceCtorEq]
      refine st_call (hk) rfl (.inl rfl) ?_
      simp only [two, e1, f1, f2, tq, hU, wx, wy, wz, stV, seval, IntWalk.iteOmega, IntWalk.toNatUp, reduceCtorEq]
      exact ret_d1 (by simp only [wx, wy, wz, stV, seval, IntWalk.iteOmega, IntWalk.toNatUp, reduceCtorEq])
    · subst h
      have n1 := m1 (by omega)
      have n2 := m2 (by omega)
      have f1 : (D > D) = False := eq_false (by omega)
      have f2 : (D < D) = False := eq_false (by omega)
      have f3 : (X ≥ Z) = True := eq_true n2
      simp only [sf_tscal, putAll, wx, wy, wz, stV, seval, IntWalk.iteOmega, IntWalk.toNatUp, reduceCtorEq]
      refine st_call (cw1) rfl (.inl rfl) ?_
      simp only [wx, wy, wz, stV, seval, IntWalk.iteOmega, IntWalk.toNatUp, reduceCtorEq]
      refine st_call (cw2) rfl (.inl rfl) ?_
      simp only [wx, wy, wz, stV, seval, IntWalk.iteOmega, IntWalk.toNatUp, reduceCtorEq]
      refine st_call (cw3) rfl (.inl rfl) ?_
      simp only [wx, wy, wz, stV, seval, IntWalk.iteOmega, IntWalk.toNatUp, reduceCtorEq]
      refine st_call (c1) rfl (.inl rfl) ?_
      simp only [wx, wy, wz, stV, seval, IntWalk.iteOmega, IntWalk.toNatUp, reduceCtorEq]
      refine st_call (c2) rfl (.inl rfl) ?_
      simp only [wx, wy, wz, stV, seval, IntWalk.iteOmega, IntWalk.toNatUp, reduceCtorEq]
      refine st_call (c3) rfl (.inl rfl) ?_
      simp only [e0, wx, wy, wz, stV, seval, IntWalk.iteOmega, IntWalk.toNatUp, reduceCtorEq]
      refine st_call (c4) rfl (.inl rfl) ?_
      simp only [tq, wx, wy, wz, stV, seval, IntWalk.iteOmega, IntWalk.toNatUp, reduceCtorEq]
      refine st_call (c5) rfl (.inl rfl) ?_
      simp only [wx, wy, wz, stV, seval, IntWalk.iteOmega, IntWalk.toNatUp, reduceCtorEq]
      refine st_call (hk) rfl (.inl rfl) ?_
      simp only [two, e1, f1, f2, f3, tq, hU, wx, wy, wz, stV, seval, IntWalk.iteOmega, IntWalk.toNatUp, reduceCtorEq]
      exact ret_d1 (by simp only [wx, wy, wz, stV, seval, IntWalk.iteOmega, IntWalk.toNatUp, reduceCtorEq])
    · have n2 := m2 (by omega)
      have f1 : (D > O) = True := eq_true h
      have f2 : (D < O) = False := eq_false (by omega)
      have f3 : (X ≥ Z) = True := eq_true n2
      simp only [sf_tscal, putAll, wx, wy, wz, stV, seval, IntWalk.iteOmega, IntWalk.toNatUp, reduceCtorEq]
      refine st_call (cw1) rfl (.inl rfl) ?_
      simp only [wx, wy, wz, stV, seval, IntWalk.iteOmega, IntWalk.toNatUp, reduceCtorEq]
      refine st_call (cw2) rfl (.inl rfl) ?_
      simp only [wx, wy, wz, stV, seval, IntWalk.iteOmega, IntWalk.toNatUp, reduceCtorEq]
      refine st_call (cw3) rfl (.inl rfl) ?_
      simp only [wx, wy, wz, stV, seval, IntWalk.iteOmega, IntWalk.toNatUp, reduceCtorEq]
      refine st_call (c1) rfl (.inl rfl) ?_
      simp only [wx, wy, wz, stV, seval, IntWalk.iteOmega, IntWalk.toNatUp, reduceCtorEq]
      refine st_call (c2) rfl (.inl rfl) ?_
      simp only [wx, wy, wz, stV, seval, IntWalk.iteOmega, IntWalk.toNatUp, reduceCtorEq]
      refine st_call (c3) rfl (.inl rfl) ?_
      simp only [e0, wx, wy, wz, stV, seval, IntWalk.iteOmega, IntWalk.toNatUp, reduceCtorEq]
      refine st_call (c4) rfl (.inl rfl) ?_
      simp only [tq, wx, wy, wz, stV, seval, IntWalk.iteOmega, IntWalk.toNatUp, reduceCtorEq]
      refine st_call (c5) rfl (.inl rfl) ?_
      simp only [wx, wy, wz, stV, seval, IntWalk.iteOmega, IntWalk.toNatUp, reduceCtorEq]
      refine st_call (hk) rfl (.inl rfl) ?_
      simp only [two, e1, f1, f2, f3, tq, hU, wx, wy, wz, stV, seval, IntWalk.iteOmega, IntWalk.toNatUp, reduceCtorEq]
      exact ret_d1 (by simp only [wx, wy, wz, stV, seval, IntWalk.iteOmega, IntWalk.toNatUp, reduceCtorEq])
/-! ### Text -/
theorem prsT_some {l : List UInt8} {v : Int} (h : prsT l = some v) : -1152921504606846976 ≤ v ∧ v ≤ 1152921504606846976 ∧ fmtL v = l := prs_some h
def sf_ttext : SFn := ⟨2, 53,
  .seq (.reg [⟨(some 4), .mv (.k (.c (.d (.bool false)))), none⟩])
  (.seq (.seq (.reg [⟨(some 9), .mv (.t 1), none⟩,
    ⟨(some 10), .lenStr (.t 9), none⟩,
    ⟨(some 11), .bin .gtr (.t 10) (.k (.c (.d (.int .i64 60)))), none⟩])
  (.cond (.t 11) (.seq (.reg [⟨(some 12), .call 10 [] none, none⟩,
     ⟨(some 4), .mv (.t 12), none⟩])
   (.ret))
   (.skip)))
  (.seq (.reg [⟨(some 13), .mv (.t 0), none⟩,
    ⟨(some 14), .call 35 [(.t 13), (.k (.c (.d (.int .i64 2305843009213693953))))] none, none⟩,
    ⟨(some 15), .bin .sub (.t 14) (.k (.c (.d (.int .i64 1152921504606846976)))), none⟩,
    ⟨(some 0), .mv (.t 15), none⟩])
  (.seq (.reg [⟨(some 17), .mv (.t 0), none⟩,
    ⟨(some 18), .call 33 [(.t 17)] none, none⟩,
    ⟨(some 19), .call 19 [(.t 18)] none, none⟩,
    ⟨(some 16), .mv (.t 19), none⟩,
    ⟨(some 20), .extract (.t 16) 0, none⟩,
    ⟨(some 21), .extract (.t 16) 1, none⟩,
    ⟨(some 5), .mv (.t 20), none⟩,
    ⟨(some 6), .mv (.t 21), none⟩])
  (.seq (.reg [⟨(some 23), .mv (.t 1), none⟩,
    ⟨(some 24), .call 19 [(.t 23)] none, none⟩,
    ⟨(some 22), .mv (.t 24), none⟩,
    ⟨(some 25), .extract (.t 22) 0, none⟩,
    ⟨(some 26), .extract (.t 22) 1, none⟩,
    ⟨(some 7), .mv (.t 25), none⟩,
    ⟨(some 8), .mv (.t 26), none⟩])
  (.seq (.reg [⟨(some 27), .call 10 [] none, none⟩,
    ⟨(some 28), .mv (.t 27), none⟩,
    ⟨(some 29), .mv (.t 6), (some (28, true))⟩,
    ⟨(some 30), .pick (.t 28) (.t 29) (.k (.c (.d (.bool false)))), none⟩,
    ⟨(some 31), .mv (.t 30), none⟩,
    ⟨(some 32), .mv (.t 5), (some (31, true))⟩,
    ⟨(some 33), .mv (.t 0), (some (31, true))⟩,
    ⟨(some 34), .bin .eql (.t 32) (.t 33), (some (31, true))⟩,
    ⟨(some 35), .pick (.t 31) (.t 34) (.k (.c (.d (.bool false)))), none⟩,
    ⟨(some 36), .mv (.t 35), none⟩,
    ⟨(some 37), .mv (.t 8), (some (36, true))⟩,
    ⟨(some 38), .un .not (.t 37), (some (36, true))⟩,
    ⟨(some 39), .mv (.t 38), (some (36, true))⟩,
    ⟨(some 40), .mv (.t 7), (some (39, true))⟩,
    ⟨(some 41), .bin .eql (.t 40) (.k (.c (.d (.int .i64 0)))), (some (39, true))⟩,
    ⟨(some 42), .pick (.t 39) (.t 41) (.k (.c (.d (.bool false)))), (some (36, true))⟩,
    ⟨(some 43), .mv (.t 42), (some (36, true))⟩,
    ⟨(some 44), .mv (.t 8), (some (43, false))⟩,
    ⟨(some 45), .mv (.t 44), (some (43, false))⟩,
    ⟨(some 46), .mv (.t 7), (some (45, true))⟩,
    ⟨(some 47), .call 33 [(.t 46)] none, (some (45, true))⟩,
    ⟨(some 48), .mv (.t 1), (some (45, true))⟩,
    ⟨(some 49), .bin .eql (.t 47) (.t 48), (some (45, true))⟩,
    ⟨(some 50), .pick (.t 45) (.t 49) (.k (.c (.d (.bool false)))), (some (43, false))⟩,
    ⟨(some 51), .pick (.t 43) (.k (.c (.d (.bool true)))) (.t 50), (some (36, true))⟩,
    ⟨(some 52), .pick (.t 36) (.t 51) (.k (.c (.d (.bool false)))), none⟩,
    ⟨(some 4), .mv (.t 52), none⟩])
  (.ret)))))),
  [(4, none)]⟩
theorem cf_ttext : compFn Tryd.prog { own := [], comp := [], frz := [], nils := [] } Tryd.f7 = some sf_ttext := by kernel_rfl
set_option maxHeartbeats 1600000 in
theorem ttext_c (G : Glob) (t : Int) (ht1 : -9223372036854775808 ≤ t) (ht2 : t ≤ 9223372036854775807) (s : ByteArray) (hs : s.size ≤ maxLen) (hP : G.at 1 = some (.ra (Lib.pow10Tab.map fun z => D.int .u64 z))) : Den Tryd.prog G 7 [.int .i64 t, .str s] (.w (.c (.d (.bool true)))) := by
  refine den_walk Tryd.func7 cf_ttext rfl rfl ?_
  obtain ⟨l, rfl⟩ := asList2 s
  have zl := szS l
  rw [zl] at hs
  have hk := known10_c G hP
  by_cases k : l.length > 60
  · have k' : ((l.length : Int) > 60) = True := eq_true (by omega)
    simp only [sf_ttext, putAll, wx, wy, wz, stV, seval, IntWalk.iteOmega, IntWalk.toNatUp, reduceCtorEq, zl, k']
    refine st_call (hk) rfl (.inl rfl) ?_
    simp only [wx, wy, wz, stV, seval, IntWalk.iteOmega, IntWalk.toNatUp, reduceCtorEq]
    exact ret_d1 (by simp only [wx, wy, wz, stV, seval, IntWalk.iteOmega, IntWalk.toNatUp, reduceCtorEq])
  · have k' : ((l.length : Int) > 60) = False := eq_false (by omega)
    have hw := withinN_range t 2305843009213693953 (by decide)
    have cw := within_c G t 2305843009213693953 (by decide)
    generalize withinN t 2305843009213693953 = W at *
    obtain ⟨T, hT⟩ : ∃ T, W - 1152921504606846976 = T := ⟨_, rfl⟩
    have c1 := fmt_c G hP T (by omega) (by omega)
    have fl := fmt_le T (by omega) (by omega)
    have c2 := prs_c G hP (fmtL T) (by omega)
    have e2 : prsT (fmtL T) = some T := prs_fmt (by decide) (by omega) (by omega)
    rw [e2] at c2
    have c3 := prs_c G hP l (by omega)
    cases hp : prsT l with
    | none =>
      rw [hp] at c3
      simp only [oV, Option.getD_none, Option.isSome_none, Option.getD_some, Option.isSome_some] at c2 c3
      simp only [sf_ttext, putAll, wx, wy, wz, stV, seval, IntWalk.iteOmega, IntWalk.toNatUp, reduceCtorEq, zl, k']
      refine st_call (cw) rfl (.inl rfl) ?_
      simp only [hT, wx, wy, wz, stV, seval, IntWalk.iteOmega, IntWalk.toNatUp, reduceCtorEq]
      refine st_call (c1) rfl (.inl rfl) ?_
      simp only [wx, wy, wz, stV, seval, IntWalk.iteOmega, IntWalk.toNatUp, reduceCtorEq]
      refine st_call (c2) rfl (.inl rfl) ?_
      simp only [wx, wy, wz, stV, seval, IntWalk.iteOmega, IntWalk.toNatUp, reduceCtorEq]
      refine st_call (c3) rfl (.inl rfl) ?_
      simp only [wx, wy, wz, stV, seval, IntWalk.iteOmega, IntWalk.toNatUp, reduceCtorEq]
      refine st_call (hk) rfl (.inl rfl) ?_
      simp only [wx, wy, wz, stV, seval, IntWalk.iteOmega, IntWalk.toNatUp, reduceCtorEq]
      exact ret_d1 (by simp only [wx, wy, wz, stV, seval, IntWalk.iteOmega, IntWalk.toNatUp, reduceCtorEq])
    | some y =>
      rw [hp] at c3
      obtain ⟨y1, y2, y3⟩ := prsT_some hp
      have c4 := fmt_c G hP y (by omega) (by omega)
      rw [y3] at c4
      simp only [oV, Option.getD_some, Option.isSome_some] at c2 c3
      simp only [sf_ttext, putAll, wx, wy, wz, stV, seval, IntWalk.iteOmega, IntWalk.toNatUp, reduceCtorEq, zl, k']
      refine st_call (cw) rfl (.inl rfl) ?_
      simp only [hT, wx, wy, wz, stV, seval, IntWalk.iteOmega, IntWalk.toNatUp, reduceCtorEq]
      refine st_call (c1) rfl (.inl rfl) ?_
      simp only [wx, wy, wz, stV, seval, IntWalk.iteOmega, IntWalk.toNatUp, reduceCtorEq]
      refine st_call (c2) rfl (.inl rfl) ?_
      simp only [wx, wy, wz, stV, seval, IntWalk.iteOmega, IntWalk.toNatUp, reduceCtorEq]
      refine st_call (c3) rfl (.inl rfl) ?_
      simp only [wx, wy, wz, stV, seval, IntWalk.iteOmega, IntWalk.toNatUp, reduceCtorEq]
      refine st_call (hk) rfl (.inl rfl) ?_
      simp only [wx, wy, wz, stV, seval, IntWalk.iteOmega, IntWalk.toNatUp, reduceCtorEq]
      refine st_call (c4) rfl (.inl rfl) ?_
      simp only [wx, wy, wz, stV, seval, IntWalk.iteOmega, IntWalk.toNatUp, reduceCtorEq]
      exact ret_d1 (by simp only [wx, wy, wz, stV, seval, IntWalk.iteOmega, IntWalk.toNatUp, reduceCtorEq])
/-! ### Units -/
def sf_tunit : SFn := ⟨2, 82,
  .seq (.reg [⟨(some 4), .mv (.k (.c (.d (.bool false)))), none⟩])
  (.seq (.reg [⟨(some 14), .mv (.t 0), none⟩,
    ⟨(some 15), .call 31 [(.t 14)] none, none⟩,
    ⟨(some 16), .call 17 [(.t 15), (.k (.c (.d (.bool false))))] none, none⟩,
    ⟨(some 13), .mv (.t 16), none⟩,
    ⟨(some 17), .extract (.t 13) 0, none⟩,
    ⟨(some 18), .extract (.t 13) 1, none⟩,
    ⟨(some 5), .mv (.t 17), none⟩,
    ⟨(some 6), .mv (.t 18), none⟩])
  (.seq (.reg [⟨(some 20), .mv (.t 0), none⟩,
    ⟨(some 21), .call 31 [(.t 20)] none, none⟩,
    ⟨(some 22), .call 17 [(.t 21), (.k (.c (.d (.bool true))))] none, none⟩,
    ⟨(some 19), .mv (.t 22), none⟩,
    ⟨(some 23), .extract (.t 19) 0, none⟩,
    ⟨(some 24), .extract (.t 19) 1, none⟩,
    ⟨(some 7), .mv (.t 23), none⟩,
    ⟨(some 8), .mv (.t 24), none⟩])
  (.seq (.reg [⟨(some 25), .mv (.t 1), none⟩,
    ⟨(some 26), .call 35 [(.t 25), (.k (.c (.d (.int .i64 34359738368))))] none, none⟩,
    ⟨(some 1), .mv (.t 26), none⟩])
  (.seq (.reg [⟨(some 28), .mv (.t 1), none⟩,
    ⟨(some 29), .call 17 [(.t 28), (.k (.c (.d (.bool false))))] none, none⟩,
    ⟨(some 27), .mv (.t 29), none⟩,
    ⟨(some 30), .extract (.t 27) 0, none⟩,
    ⟨(some 31), .extract (.t 27) 1, none⟩,
    ⟨(some 9), .mv (.t 30), none⟩,
    ⟨(some 10), .mv (.t 31), none⟩])
  (.seq (.reg [⟨(some 33), .mv (.t 1), none⟩,
    ⟨(some 34), .call 17 [(.t 33), (.k (.c (.d (.bool true))))] none, none⟩,
    ⟨(some 32), .mv (.t 34), none⟩,
    ⟨(some 35), .extract (.t 32) 0, none⟩,
    ⟨(some 36), .extract (.t 32) 1, none⟩,
    ⟨(some 11), .mv (.t 35), none⟩,
    ⟨(some 12), .mv (.t 36), none⟩])
  (.seq (.reg [⟨(some 37), .call 10 [] none, none⟩,
    ⟨(some 38), .mv (.t 37), none⟩,
    ⟨(some 39), .mv (.t 6), (some (38, true))⟩,
    ⟨(some 40), .bin .eql (.t 39) (.k (.c (.d (.int .i64 0)))), (some (38, true))⟩,
    ⟨(some 41), .pick (.t 38) (.t 40) (.k (.c (.d (.bool false)))), none⟩,
    ⟨(some 42), .mv (.t 41), none⟩,
    ⟨(some 43), .mv (.t 8), (some (42, true))⟩,
    ⟨(some 44), .bin .eql (.t 43) (.k (.c (.d (.int .i64 0)))), (some (42, true))⟩,
    ⟨(some 45), .pick (.t 42) (.t 44) (.k (.c (.d (.bool false)))), none⟩,
    ⟨(some 46), .mv (.t 45), none⟩,
    ⟨(some 47), .mv (.t 10), (some (46, true))⟩,
    ⟨(some 48), .bin .eql (.t 47) (.k (.c (.d (.int .i64 0)))), (some (46, true))⟩,
    ⟨(some 49), .pick (.t 46) (.t 48) (.k (.c (.d (.bool false)))), none⟩,
    ⟨(some 50), .mv (.t 49), none⟩,
    ⟨(some 51), .mv (.t 12), (some (50, true))⟩,
    ⟨(some 52), .bin .eql (.t 51) (.k (.c (.d (.int .i64 0)))), (some (50, true))⟩,
    ⟨(some 53), .pick (.t 50) (.t 52) (.k (.c (.d (.bool false)))), none⟩,
    ⟨(some 54), .mv (.t 53), none⟩,
    ⟨(some 55), .mv (.t 5), (some (54, true))⟩,
    ⟨(some 56), .mv (.t 0), (some (54, true))⟩,
    ⟨(some 57), .bin .eql (.t 55) (.t 56), (some (54, true))⟩,
    ⟨(some 58), .pick (.t 54) (.t 57) (.k (.c (.d (.bool false)))), none⟩,
    ⟨(some 59), .mv (.t 58), none⟩,
    ⟨(some 60), .mv (.t 7), (some (59, true))⟩,
    ⟨(some 61), .mv (.t 0), (some (59, true))⟩,
    ⟨(some 62), .bin .eql (.t 60) (.t 61), (some (59, true))⟩,
    ⟨(some 63), .pick (.t 59) (.t 62) (.k (.c (.d (.bool false)))), none⟩,
    ⟨(some 64), .mv (.t 63), none⟩,
    ⟨(some 65), .mv (.t 9), (some (64, true))⟩,
    ⟨(some 66), .call 31 [(.t 65)] none, (some (64, true))⟩,
    ⟨(some 67), .mv (.t 1), (some (64, true))⟩,
    ⟨(some 68), .bin .leq (.t 66) (.t 67), (some (64, true))⟩,
    ⟨(some 69), .pick (.t 64) (.t 68) (.k (.c (.d (.bool false)))), none⟩,
    ⟨(some 70), .mv (.t 69), none⟩,
    ⟨(some 71), .mv (.t 1), (some (70, true))⟩,
    ⟨(some 72), .mv (.t 11), (some (70, true))⟩,
    ⟨(some 73), .call 31 [(.t 72)] none, (some (70, true))⟩,
    ⟨(some 74), .bin .leq (.t 71) (.t 73), (some (70, true))⟩,
    ⟨(some 75), .pick (.t 70) (.t 74) (.k (.c (.d (.bool false)))), none⟩,
    ⟨(some 76), .mv (.t 75), none⟩,
    ⟨(some 77), .mv (.t 11), (some (76, true))⟩,
    ⟨(some 78), .mv (.t 9), (some (76, true))⟩,
    ⟨(some 79), .bin .sub (.t 77) (.t 78), (some (76, true))⟩,
    ⟨(some 80), .bin .leq (.t 79) (.k (.c (.d (.int .u32 1)))), (some (76, true))⟩,
    ⟨(some 81), .pick (.t 76) (.t 80) (.k (.c (.d (.bool false)))), none⟩,
    ⟨(some 4), .mv (.t 81), none⟩])
  (.ret))))))),
  [(4, none)]⟩
theorem cf_tunit : compFn Tryd.prog { own := [], comp := [], frz := [], nils := [] } Tryd.f8 = some sf_tunit := by kernel_rfl
set_option maxHeartbeats 1600000 in
theorem tunit_c (G : Glob) (x : UInt32) (d : Int) (hd1 : -9223372036854775808 ≤ d) (hd2 : d ≤ 9223372036854775807) (hP : G.at 1 = some (.ra (Lib.pow10Tab.map fun z => D.int .u64 z))) : Den Tryd.prog G 8 [wD x, .int .i64 d] (.w (.c (.d (.bool true)))) := by
  refine den_walk Tryd.func8 cf_tunit rfl rfl ?_
  have hk := known10_c G hP
  have hx : (x.toNat : Int) < 4294967296 := by have := x.toNat_lt; omega
  have hxd : wD x = .int .u32 (x.toNat : Int) := rfl
  have hx0 : (0 : Int) ≤ (x.toNat : Int) := Int.natCast_nonneg _
  rw [hxd]
  generalize (x.toNat : Int) = X at *
  have hw := withinN_range d 34359738368 (by decide)
  have cw := within_c G d 34359738368 (by decide)
  generalize withinN d 34359738368 = D at *
  have c0 := dly_c G X hx0 hx
  have r1 : roundI (X * 16) 16 false = X := by rw [round_f]; omega
  have r2 : roundI (X * 16) 16 true = X := by rw [round_t _ (by decide)]; omega
  have r3 : roundI D 16 false = D / 16 := round_f _ _
  have r4 : roundI D 16 true = -(-D / 16) := round_t _ (by decide)
  have u1 : uniB (X * 16) false = true := decide_eq_true (by rw [r1]; omega)
  have u2 : uniB (X * 16) true = true := decide_eq_true (by rw [r2]; omega)
  have u3 : uniB D false = true := decide_eq_true (by rw [r3]; omega)
  have u4 : uniB D true = true := decide_eq_true (by rw [r4]; omega)
  have c1 := uni_c G (X * 16) false (by omega) (by omega)
  have c2 := uni_c G (X * 16) true (by omega) (by omega)
  have c3 := uni_c G D false (by omega) (by omega)
  have c4 := uni_c G D true (by omega) (by omega)
  rw [show uniV (X * 16) false = X from (if_pos u1).trans r1, show uniE (X * 16) false = 0 from if_pos u1] at c1
  rw [show uniV (X * 16) true = X from (if_pos u2).trans r2, show uniE (X * 16) true = 0 from if_pos u2] at c2
  rw [show uniV D false = D / 16 from (if_pos u3).trans r3, show uniE D false = 0 from if_pos u3] at c3
  rw [show uniV D true = -(-D / 16) from (if_pos u4).trans r4, show uniE D true = 0 from if_pos u4] at c4
  have c5 := dly_c G (D / 16) (by omega) (by omega)
  have c6 := dly_c G (-(-D / 16)) (by omega) (by omega)
  have q1 : D / 16 * 16 ≤ D := by omega
  have q2 : D ≤ -(-D / 16) * 16 := by omega
  have q3 : -(-D / 16) - D / 16 ≤ 1 := by omega
  have q4 : 0 ≤ -(-D / 16) - D / 16 := by omega
  simp only [sf_tunit, putAll, wx, wy, wz, stV, seval, IntWalk.iteOmega, IntWalk.toNatUp, reduceCtorEq]
  refine st_call (c0) rfl (.inl rfl) ?_
  simp only [wx, wy, wz, stV, seval, IntWalk.iteOmega, IntWalk.toNatUp, reduceCtorEq]
  refine st_call (c1) rfl (.inl rfl) ?_
  simp only [wx, wy, wz, stV, seval, IntWalk.iteOmega, IntWalk.toNatUp, reduceCtorEq]
  refine st_call (c0) rfl (.inl rfl) ?_
  simp only [wx, wy, wz, stV, seval, IntWalk.iteOmega, IntWalk.toNatUp, reduceCtorEq]
  refine st_call (c2) rfl (.inl rfl) ?_
  simp only [wx, wy, wz, stV, seval, IntWalk.iteOmega, IntWalk.toNatUp, reduceCtorEq]
  refine st_call (cw) rfl (.inl rfl) ?_
  simp only [wx, wy, wz, stV, seval, IntWalk.iteOmega, IntWalk.toNatUp, reduceCtorEq]
  refine st_call (c3) rfl (.inl rfl) ?_
  simp only [wx, wy, wz, stV, seval, IntWalk.iteOmega, IntWalk.toNatUp, reduceCtorEq]
  refine st_call (c4) rfl (.inl rfl) ?_
  simp only [wx, wy, wz, stV, seval, IntWalk.iteOmega, IntWalk.toNatUp, reduceCtorEq]
  refine st_call (hk) rfl (.inl rfl) ?_
  simp only [wx, wy, wz, stV, seval, IntWalk.iteOmega, IntWalk.toNatUp, reduceCtorEq]
  refine st_call (c5) rfl (.inl rfl) ?_
  simp only [wx, wy, wz, stV, seval, IntWalk.iteOmega, IntWalk.toNatUp, reduceCtorEq]
  refine st_call (c6) rfl (.inl rfl) ?_
  simp only [wx, wy, wz, stV, seval, IntWalk.iteOmega, IntWalk.toNatUp, reduceCtorEq]
  exact ret_d1 (by simp only [wx, wy, wz, stV, seval, IntWalk.iteOmega, IntWalk.toNatUp, reduceCtorEq])
/-! ### Order -/
theorem dec07 : decL 0 7 = [48, 48, 48, 48, 48, 48, 48] := by simp [dec_s, dec_0]
theorem fmt_whole {q : Int} (h : 0 ≤ q) : fmtL (q * 1048576) = decL q.toNat 1 ++ [46, 48, 48, 48, 48, 48, 48, 48] := by
  unfold fmtL fmtU
  rw [if_neg (by omega), show (q * 1048576 % 1048576).toNat = 0 by omega, show q * 1048576 / 1048576 = q by omega, dec07]
def sf_torde : SFn := ⟨3, 100,
  .seq (.reg [⟨(some 6), .mv (.k (.c (.d (.bool false)))), none⟩])
  (.seq (.reg [⟨(some 17), .mv (.t 0), none⟩,
    ⟨(some 18), .call 35 [(.t 17), (.k (.c (.d (.int .i64 7))))] none, none⟩,
    ⟨(some 19), .bin .shl (.t 18) (.k (.c (.d (.int .u64 52)))), none⟩,
    ⟨(some 7), .mv (.t 19), none⟩])
  (.seq (.reg [⟨(some 20), .mv (.t 7), none⟩,
    ⟨(some 21), .mv (.t 0), none⟩,
    ⟨(some 22), .call 35 [(.t 21), (.k (.c (.d (.int .i64 4503599627370496))))] none, none⟩,
    ⟨(some 23), .bin .add (.t 20) (.t 22), none⟩,
    ⟨(some 24), .mv (.t 7), none⟩,
    ⟨(some 25), .mv (.t 1), none⟩,
    ⟨(some 26), .call 35 [(.t 25), (.k (.c (.d (.int .i64 4503599627370496))))] none, none⟩,
    ⟨(some 27), .bin .add (.t 24) (.t 26), none⟩,
    ⟨(some 0), .mv (.t 23), none⟩,
    ⟨(some 1), .mv (.t 27), none⟩])
  (.seq (.reg [⟨(some 29), .mv (.t 0), none⟩,
    ⟨(some 30), .call 15 [(.t 29)] none, none⟩,
    ⟨(some 28), .mv (.t 30), none⟩,
    ⟨(some 31), .extract (.t 28) 0, none⟩,
    ⟨(some 32), .extract (.t 28) 1, none⟩,
    ⟨(some 8), .mv (.t 31), none⟩,
    ⟨(some 9), .mv (.t 32), none⟩])
  (.seq (.reg [⟨(some 34), .mv (.t 1), none⟩,
    ⟨(some 35), .call 15 [(.t 34)] none, none⟩,
    ⟨(some 33), .mv (.t 35), none⟩,
    ⟨(some 36), .extract (.t 33) 0, none⟩,
    ⟨(some 37), .extract (.t 33) 1, none⟩,
    ⟨(some 10), .mv (.t 36), none⟩,
    ⟨(some 11), .mv (.t 37), none⟩])
  (.seq (.reg [⟨(some 39), .mv (.t 0), none⟩,
    ⟨(some 40), .call 13 [(.t 39), (.k (.c (.d (.int .i64 0)))), (.k (.c (.d (.bool true))))] none, none⟩,
    ⟨(some 38), .mv (.t 40), none⟩,
    ⟨(some 41), .extract (.t 38) 0, none⟩,
    ⟨(some 42), .extract (.t 38) 1, none⟩,
    ⟨(some 12), .mv (.t 41), none⟩,
    ⟨(some 13), .mv (.t 42), none⟩])
  (.seq (.reg [⟨(some 44), .mv (.t 2), none⟩,
    ⟨(some 45), .call 35 [(.t 44), (.k (.c (.d (.int .i64 1000001))))] none, none⟩,
    ⟨(some 46), .call 13 [(.k (.c (.d (.int .i64 0)))), (.t 45), (.k (.c (.d (.bool true))))] none, none⟩,
    ⟨(some 43), .mv (.t 46), none⟩,
    ⟨(some 47), .extract (.t 43) 0, none⟩,
    ⟨(some 48), .extract (.t 43) 1, none⟩,
    ⟨(some 14), .mv (.t 47), none⟩,
    ⟨(some 15), .mv (.t 48), none⟩])
  (.seq (.reg [⟨(some 49), .mv (.t 0), none⟩,
    ⟨(some 50), .call 23 [(.t 49)] none, none⟩,
    ⟨(some 51), .bin .shl (.t 50) (.k (.c (.d (.int .u64 20)))), none⟩,
    ⟨(some 52), .call 33 [(.t 51)] none, none⟩,
    ⟨(some 16), .mv (.t 52), none⟩])
  (.seq (.reg [⟨(some 53), .call 10 [] none, none⟩,
    ⟨(some 54), .mv (.t 53), none⟩,
    ⟨(some 55), .mv (.t 9), (some (54, true))⟩,
    ⟨(some 56), .bin .eql (.t 55) (.k (.c (.d (.int .i64 0)))), (some (54, true))⟩,
    ⟨(some 57), .pick (.t 54) (.t 56) (.k (.c (.d (.bool false)))), none⟩,
    ⟨(some 58), .mv (.t 57), none⟩,
    ⟨(some 59), .mv (.t 11), (some (58, true))⟩,
    ⟨(some 60), .bin .eql (.t 59) (.k (.c (.d (.int .i64 0)))), (some (58, true))⟩,
    ⟨(some 61), .pick (.t 58) (.t 60) (.k (.c (.d (.bool false)))), none⟩,
    ⟨(some 62), .mv (.t 61), none⟩,
    ⟨(some 63), .mv (.t 13), (some (62, true))⟩,
    ⟨(some 64), .bin .eql (.t 63) (.k (.c (.d (.int .i64 0)))), (some (62, true))⟩,
    ⟨(some 65), .pick (.t 62) (.t 64) (.k (.c (.d (.bool false)))), none⟩,
    ⟨(some 66), .mv (.t 65), none⟩,
    ⟨(some 67), .mv (.t 15), (some (66, true))⟩,
    ⟨(some 68), .bin .eql (.t 67) (.k (.c (.d (.int .i64 0)))), (some (66, true))⟩,
    ⟨(some 69), .pick (.t 66) (.t 68) (.k (.c (.d (.bool false)))), none⟩,
    ⟨(some 70), .mv (.t 69), none⟩,
    ⟨(some 71), .mv (.t 8), (some (70, true))⟩,
    ⟨(some 72), .mv (.t 10), (some (70, true))⟩,
    ⟨(some 73), .bin .lss (.t 71) (.t 72), (some (70, true))⟩,
    ⟨(some 74), .mv (.t 0), (some (70, true))⟩,
    ⟨(some 75), .mv (.t 1), (some (70, true))⟩,
    ⟨(some 76), .bin .lss (.t 74) (.t 75), (some (70, true))⟩,
    ⟨(some 77), .eqB false (.t 73) (.t 76), (some (70, true))⟩,
    ⟨(some 78), .pick (.t 70) (.t 77) (.k (.c (.d (.bool false)))), none⟩,
    ⟨(some 79), .mv (.t 78), none⟩,
    ⟨(some 80), .mv (.t 12), (some (79, true))⟩,
    ⟨(some 81), .bin .eql (.t 80) (.k (.c (.d (.int .i64 0)))), (some (79, true))⟩,
    ⟨(some 82), .pick (.t 79) (.t 81) (.k (.c (.d (.bool false)))), none⟩,
    ⟨(some 83), .mv (.t 82), none⟩,
    ⟨(some 84), .mv (.t 14), (some (83, true))⟩,
    ⟨(some 85), .bin .eql (.t 84) (.k (.c (.d (.int .i64 0)))), (some (83, true))⟩,
    ⟨(some 86), .pick (.t 83) (.t 85) (.k (.c (.d (.bool false)))), none⟩,
    ⟨(some 87), .mv (.t 86), none⟩,
    ⟨(some 88), .mv (.t 16), (some (87, true))⟩,
    ⟨(some 89), .lenStr (.t 88), (some (87, true))⟩,
    ⟨(some 90), .bin .gtr (.t 89) (.k (.c (.d (.int .i64 8)))), (some (87, true))⟩,
    ⟨(some 91), .pick (.t 87) (.t 90) (.k (.c (.d (.bool false)))), none⟩,
    ⟨(some 92), .mv (.t 91), none⟩,
    ⟨(some 93), .mv (.t 16), (some (92, true))⟩,
    ⟨(some 94), .mv (.t 16), (some (92, true))⟩,
    ⟨(some 95), .lenStr (.t 94), (some (92, true))⟩,
    ⟨(some 96), .bin .sub (.t 95) (.k (.c (.d (.int .i64 8)))), (some (92, true))⟩,
    ⟨(some 97), .sliceStr (.t 93) (some (.t 96)) none, (some (92, true))⟩,
    ⟨(some 98), .bin .eql (.t 97) (.k (.c (.d (.str ⟨#[46, 48, 48, 48, 48, 48, 48, 48]⟩)))), (some (92, true))⟩,
    ⟨(some 99), .pick (.t 92) (.t 98) (.k (.c (.d (.bool false)))), none⟩,
    ⟨(some 6), .mv (.t 99), none⟩])
  (.ret))))))))),
  [(6, none)]⟩
theorem cf_torde : compFn Tryd.prog { own := [], comp := [], frz := [], nils := [] } Tryd.f9 = some sf_torde := by kernel_rfl
set_option maxHeartbeats 1600000 in
theorem torde_c (G : Glob) (t : Int) (ht1 : -9223372036854775808 ≤ t) (ht2 : t ≤ 9223372036854775807) (u : Int) (hu1 : -9223372036854775808 ≤ u) (hu2 : u ≤ 9223372036854775807) (p : Int) (hp1 : -9223372036854775808 ≤ p) (hp2 : p ≤ 9223372036854775807) (hP : G.at 1 = some (.ra (Lib.pow10Tab.map fun z => D.int .u64 z))) : Den Tryd.prog G 9 [.int .i64 t, .int .i64 u, .int .i64 p] (.w (.c (.d (.bool true)))) := by
  refine den_walk Tryd.func9 cf_torde rfl rfl ?_
  have hk := known10_c G hP
  have w0 := withinN_range t 7 (by decide)
  have cw0 := within_c G t 7 (by decide)
  have w1 := withinN_range t 4503599627370496 (by decide)
  have cw1 := within_c G t 4503599627370496 (by decide)
  have w2 := withinN_range u 4503599627370496 (by decide)
  have cw2 := within_c G u 4503599627370496 (by decide)
  have w3 := withinN_range p 1000001 (by decide)
  have cw3 := within_c G p 1000001 (by decide)
  generalize withinN t 7 = E at *
  generalize withinN t 4503599627370496 = A at *
  generalize withinN u 4503599627370496 = B at *
  generalize withinN p 1000001 = Q at *
  obtain ⟨T, hT⟩ : ∃ T, E * 4503599627370496 + A = T := ⟨_, rfl⟩
  obtain ⟨U, hU⟩ : ∃ U, E * 4503599627370496 + B = U := ⟨_, rfl⟩
  have vT : valT T = true := valT_t ⟨by omega, by omega⟩
  have vU : valT U = true := valT_t ⟨by omega, by omega⟩
  have c1 := wir_c G T (by omega) (by omega)
  have c2 := wir_c G U (by omega) (by omega)
  rw [show wirV T = wirN T from if_pos vT, show wirE T = 0 from if_pos vT, show wirN T = A * 4096 by unfold wirN; omega] at c1
  rw [show wirV U = wirN U from if_pos vU, show wirE U = 0 from if_pos vU, show wirN U = B * 4096 by unfold wirN; omega] at c2
  have s0 : ∀ x : Int, scaN x 0 true = 0 := fun x => by rw [sca_t, Int.mul_zero]; rfl
  have s1 : ∀ x : Int, scaN 0 x true = 0 := fun x => by rw [sca_t, Int.zero_mul]; rfl
  have b1 := scaB_t (d := T) (ppb := 0) ⟨by omega, by omega⟩ (by omega) (by omega)
  have b2 := scaB_t (d := 0) (ppb := Q) ⟨by omega, by omega⟩ (by omega) (by omega)
  have c3 := sca_c G T 0 true (by omega) (by omega)
  have c4 := sca_c G 0 Q true (by omega) (by omega)
  rw [show scaV T 0 true = 0 from (if_pos b1).trans (s0 T), show scaE T 0 = 0 from if_pos b1] at c3
  rw [show scaV 0 Q true = 0 from (if_pos b2).trans (s1 Q), show scaE 0 Q = 0 from if_pos b2] at c4
  have c5 := snd_c G T
  have c6 := fmt_c G hP (T / 1048576 * 1048576) (by omega) (by omega)
  have fl := fmt_le (T / 1048576 * 1048576) (by omega) (by omega)
  have fw := fmt_whole (q := T / 1048576) (by omega)
  have dg := dec_ge (T / 1048576).toNat 1
  generalize hL : fmtL (T / 1048576 * 1048576) = L at *
  have hlen : L.length = (decL (T / 1048576).toNat 1).length + 8 := by rw [fw, List.length_append]; rfl
  have hgt : ((L.length : Int) > 8) = True := eq_true (by omega)
  have ex := extS L (L.length - 8) L.length (Nat.le_refl _)
  have hd : L.drop (L.length - 8) = [46, 48, 48, 48, 48, 48, 48, 48] := by
    rw [hlen, Nat.add_sub_cancel, fw, List.drop_left]
  rw [hd, show L.length - (L.length - 8) = 8 by omega] at ex
  have zL := szS L
  by_cases hab : A < B
  · have f1 : (A * 4096 < B * 4096) = True := eq_true (by omega)
    have f2 : (T < U) = True := eq_true (by omega)
    simp only [sf_torde, putAll, wx, wy, wz, stV, seval, IntWalk.iteOmega, IntWalk.toNatUp, reduceCtorEq]
    refine st_call (cw0) rfl (.inl rfl) ?_
    simp only [bI64, wx, wy, wz, stV, seval, IntWalk.iteOmega, IntWalk.toNatUp, reduceCtorEq]
    refine st_call (cw1) rfl (.inl rfl) ?_
    simp only [wx, wy, wz, stV, seval, IntWalk.iteOmega, IntWalk.toNatUp, reduceCtorEq]
    refine st_call (cw2) rfl (.inl rfl) ?_
    simp only [hT, hU, wx, wy, wz, stV, seval, IntWalk.iteOmega, IntWalk.toNatUp, reduceCtorEq]
    refine st_call (c1) rfl (.inl rfl) ?_
    simp only [wx, wy, wz, stV, seval, IntWalk.iteOmega, IntWalk.toNatUp, reduceCtorEq]
    refine st_call (c2) rfl (.inl rfl) ?_
    simp only [wx, wy, wz, stV, seval, IntWalk.iteOmega, IntWalk.toNatUp, reduceCtorEq]
    refine st_call (c3) rfl (.inl rfl) ?_
    simp only [wx, wy, wz, stV, seval, IntWalk.iteOmega, IntWalk.toNatUp, reduceCtorEq]
    refine st_call (cw3) rfl (.inl rfl) ?_
    simp only [wx, wy, wz, stV, seval, IntWalk.iteOmega, IntWalk.toNatUp, reduceCtorEq]
    refine st_call (c4) rfl (.inl rfl) ?_
    simp only [wx, wy, wz, stV, seval, IntWalk.iteOmega, IntWalk.toNatUp, reduceCtorEq]
    refine st_call (c5) rfl (.inl rfl) ?_
    simp only [bI64, wx, wy, wz, stV, seval, IntWalk.iteOmega, IntWalk.toNatUp, reduceCtorEq]
    refine st_call (c6) rfl (.inl rfl) ?_
    simp only [wx, wy, wz, stV, seval, IntWalk.iteOmega, IntWalk.toNatUp, reduceCtorEq]
    refine st_call (hk) rfl (.inl rfl) ?_
    simp only [f1, f2, zL, hgt, ex, wx, wy, wz, stV, seval, IntWalk.iteOmega, IntWalk.toNatUp, reduceCtorEq]
    exact ret_d1 (by simp only [wx, wy, wz, stV, seval, IntWalk.iteOmega, IntWalk.toNatUp, reduceCtorEq])
  · have f1 : (A * 4096 < B * 4096) = False := eq_false (by omega)
    have f2 : (T < U) = False := eq_false (by omega)
    simp only [sf_torde, putAll, wx, wy, wz, stV, seval, IntWalk.iteOmega, IntWalk.toNatUp, reduceCtorEq]
    refine st_call (cw0) rfl (.inl rfl) ?_
    simp only [bI64, wx, wy, wz, stV, seval, IntWalk.iteOmega, IntWalk.toNatUp, reduceCtorEq]
    refine st_call (cw1) rfl (.inl rfl) ?_
    simp only [wx, wy, wz, stV, seval, IntWalk.iteOmega, IntWalk.toNatUp, reduceCtorEq]
    refine st_call (cw2) rfl (.inl rfl) ?_
    simp only [hT, hU, wx, wy, wz, stV, seval, IntWalk.iteOmega, IntWalk.toNatUp, reduceCtorEq]
    refine st_call (c1) rfl (.inl rfl) ?_
    simp only [wx, wy, wz, stV, seval, IntWalk.iteOmega, IntWalk.toNatUp, reduceCtorEq]
    refine st_call (c2) rfl (.inl rfl) ?_
    simp only [wx, wy, wz, stV, seval, IntWalk.iteOmega, IntWalk.toNatUp, reduceCtorEq]
    refine st_call (c3) rfl (.inl rfl) ?_
    simp only [wx, wy, wz, stV, seval, IntWalk.iteOmega, IntWalk.toNatUp, reduceCtorEq]
    refine st_call (cw3) rfl (.inl rfl) ?_
    simp only [wx, wy, wz, stV, seval, IntWalk.iteOmega, IntWalk.toNatUp, reduceCtorEq]
    refine st_call (c4) rfl (.inl rfl) ?_
    simp only [wx, wy, wz, stV, seval, IntWalk.iteOmega, IntWalk.toNatUp, reduceCtorEq]
    refine st_call (c5) rfl (.inl rfl) ?_
    simp only [bI64, wx, wy, wz, stV, seval, IntWalk.iteOmega, IntWalk.toNatUp, reduceCtorEq]
    refine st_call (c6) rfl (.inl rfl) ?_
    simp only [wx, wy, wz, stV, seval, IntWalk.iteOmega, IntWalk.toNatUp, reduceCtorEq]
    refine st_call (hk) rfl (.inl rfl) ?_
    simp only [f1, f2, zL, hgt, ex, wx, wy, wz, stV, seval, IntWalk.iteOmega, IntWalk.toNatUp, reduceCtorEq]
    exact ret_d1 (by simp only [wx, wy, wz, stV, seval, IntWalk.iteOmega, IntWalk.toNatUp, reduceCtorEq])
end Go.Proofs.YtbpkkobhlbiclaaDoor
