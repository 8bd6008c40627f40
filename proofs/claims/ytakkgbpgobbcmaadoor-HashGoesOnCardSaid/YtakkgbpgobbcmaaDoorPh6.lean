/- Layer 2 on data: hashes in steps, both codes. Own work. -/
import Derived.Test.YtakkgbpgobbcmaaDoorPh5
set_option linter.unusedVariables false
set_option linter.unusedSimpArgs false
namespace Go.Proofs.YtakkgbpgobbcmaaDoor
open Go.RowKit

/-- A computation. -/
abbrev hsD (ws : List UInt32) (rest : List UInt8) (count : Int) : D := .agg [.sl (ws.map wD), .sl (rest.map bD), .int .i64 count]
def validK (ws : List UInt32) (rest : List UInt8) (count : Int) : Bool := decide (ws.length = 8 ∧ 0 ≤ count ∧ count ≤ 1099511627776 ∧ (rest.length : Int) = count % 64)
def sf_valid : SFn := ⟨1, 26,
  .seq (.reg [⟨(some 1), .box .roBox (.t 0), none⟩,
    ⟨(some 2), .mv (.k (.c (.d (.bool false)))), none⟩])
  (.seq (.reg [⟨(some 3), .fieldAddr 0 (.t 1), none⟩,
    ⟨(some 4), .load .sc (.t 3), none⟩,
    ⟨(some 5), .len (.t 4), none⟩,
    ⟨(some 6), .bin .eql (.t 5) (.k (.c (.d (.int .i64 8)))), none⟩,
    ⟨(some 7), .mv (.t 6), none⟩,
    ⟨(some 8), .fieldAddr 2 (.t 1), (some (7, true))⟩,
    ⟨(some 9), .load .sc (.t 8), (some (7, true))⟩,
    ⟨(some 10), .bin .geq (.t 9) (.k (.c (.d (.int .i64 0)))), (some (7, true))⟩,
    ⟨(some 11), .pick (.t 7) (.t 10) (.k (.c (.d (.bool false)))), none⟩,
    ⟨(some 12), .mv (.t 11), none⟩,
    ⟨(some 13), .fieldAddr 2 (.t 1), (some (12, true))⟩,
    ⟨(some 14), .load .sc (.t 13), (some (12, true))⟩,
    ⟨(some 15), .bin .leq (.t 14) (.k (.c (.d (.int .i64 1099511627776)))), (some (12, true))⟩,
    ⟨(some 16), .pick (.t 12) (.t 15) (.k (.c (.d (.bool false)))), none⟩,
    ⟨(some 17), .mv (.t 16), none⟩,
    ⟨(some 18), .fieldAddr 1 (.t 1), (some (17, true))⟩,
    ⟨(some 19), .load .sc (.t 18), (some (17, true))⟩,
    ⟨(some 20), .len (.t 19), (some (17, true))⟩,
    ⟨(some 21), .fieldAddr 2 (.t 1), (some (17, true))⟩,
    ⟨(some 22), .load .sc (.t 21), (some (17, true))⟩,
    ⟨(some 23), .bin .rem (.t 22) (.k (.c (.d (.int .i64 64)))), (some (17, true))⟩,
    ⟨(some 24), .bin .eql (.t 20) (.t 23), (some (17, true))⟩,
    ⟨(some 25), .pick (.t 17) (.t 24) (.k (.c (.d (.bool false)))), none⟩,
    ⟨(some 2), .mv (.t 25), none⟩])
  (.ret)),
  [(2, none)]⟩
theorem cf_valid : compFn Tryd.prog { own := [], comp := [], frz := [], nils := [] } Tryd.f23 = some sf_valid := by kernel_rfl
set_option maxHeartbeats 1600000 in
theorem valid_c (G : Glob) (ws : List UInt32) (rest : List UInt8) (count : Int) : Den Tryd.prog G 23 [hsD ws rest count] (.w (.c (.d (.bool (validK ws rest count))))) := by
  refine den_walk Tryd.func23 cf_valid rfl rfl ?_
  by_cases h1 : ws.length = 8
  · by_cases h2 : 0 ≤ count
    · have ht : count.tmod 64 = count % 64 := Int.tmod_eq_emod_of_nonneg h2
      by_cases h3 : count ≤ 1099511627776
      · by_cases h4 : (rest.length : Int) = count % 64
        · have hv : validK ws rest count = true := by simp only [validK, decide_eq_true_eq]; exact ⟨h1, h2, h3, h4⟩
          simp only [sf_valid, putAll, wx, wy, wz, stV, Nat.reduceBEq, Nat.reduceAdd, Nat.reduceMul, Nat.reduceSub, Nat.reducePow, Int.reducePow, Int.reduceAdd, Int.reduceSub, Int.reduceMul, Int.reduceNeg, Int.reduceLE, Int.reduceLT, Int.reduceToNat, IntWalk.iteOmega, IntWalk.toNatUp, reduceCtorEq, reduceIte, Int.reduceEq, Int.reduceNe, ht, h4]
          exact ret_d1 (by simp only [wx, wy, wz, stV, Nat.reduceBEq, Nat.reduceAdd, Nat.reduceMul, Nat.reduceSub, Nat.reducePow, Int.reducePow, Int.reduceAdd, Int.reduceSub, Int.reduceMul, Int.reduceNeg, Int.reduceLE, Int.reduceLT, Int.reduceToNat, IntWalk.iteOmega, IntWalk.toNatUp, reduceCtorEq, reduceIte, Int.reduceEq, Int.reduceNe, hv])
        · have hv : validK ws rest count = false := by simp only [validK, decide_eq_false_iff_not]; exact fun h => h4 h.2.2.2
          simp only [sf_valid, putAll, wx, wy, wz, stV, Nat.reduceBEq, Nat.reduceAdd, Nat.reduceMul, Nat.reduceSub, Nat.reducePow, Int.reducePow, Int.reduceAdd, Int.reduceSub, Int.reduceMul, Int.reduceNeg, Int.reduceLE, Int.reduceLT, Int.reduceToNat, IntWalk.iteOmega, IntWalk.toNatUp, reduceCtorEq, reduceIte, Int.reduceEq, Int.reduceNe, ht, h4]
          exact ret_d1 (by simp only [wx, wy, wz, stV, Nat.reduceBEq, Nat.reduceAdd, Nat.reduceMul, Nat.reduceSub, Nat.reducePow, Int.reducePow, Int.reduceAdd, Int.reduceSub, Int.reduceMul, Int.reduceNeg, Int.reduceLE, Int.reduceLT, Int.reduceToNat, IntWalk.iteOmega, IntWalk.toNatUp, reduceCtorEq, reduceIte, Int.reduceEq, Int.reduceNe, hv])
      · have hv : validK ws rest count = false := by simp only [validK, decide_eq_false_iff_not]; exact fun h => h3 h.2.2.1
        simp only [sf_valid, putAll, wx, wy, wz, stV, Nat.reduceBEq, Nat.reduceAdd, Nat.reduceMul, Nat.reduceSub, Nat.reducePow, Int.reducePow, Int.reduceAdd, Int.reduceSub, Int.reduceMul, Int.reduceNeg, Int.reduceLE, Int.reduceLT, Int.reduceToNat, IntWalk.iteOmega, IntWalk.toNatUp, reduceCtorEq, reduceIte, Int.reduceEq, Int.reduceNe, ht]
        exact ret_d1 (by simp only [wx, wy, wz, stV, Nat.reduceBEq, Nat.reduceAdd, Nat.reduceMul, Nat.reduceSub, Nat.reducePow, Int.reducePow, Int.reduceAdd, Int.reduceSub, Int.reduceMul, Int.reduceNeg, Int.reduceLE, Int.reduceLT, Int.reduceToNat, IntWalk.iteOmega, IntWalk.toNatUp, reduceCtorEq, reduceIte, Int.reduceEq, Int.reduceNe, hv])
    · have hv : validK ws rest count = false := by simp only [validK, decide_eq_false_iff_not]; exact fun h => h2 h.2.1
      simp only [sf_valid, putAll, wx, wy, wz, stV, Nat.reduceBEq, Nat.reduceAdd, Nat.reduceMul, Nat.reduceSub, Nat.reducePow, Int.reducePow, Int.reduceAdd, Int.reduceSub, Int.reduceMul, Int.reduceNeg, Int.reduceLE, Int.reduceLT, Int.reduceToNat, IntWalk.iteOmega, IntWalk.toNatUp, reduceCtorEq, reduceIte, Int.reduceEq, Int.reduceNe]
      exact ret_d1 (by simp only [wx, wy, wz, stV, Nat.reduceBEq, Nat.reduceAdd, Nat.reduceMul, Nat.reduceSub, Nat.reducePow, Int.reducePow, Int.reduceAdd, Int.reduceSub, Int.reduceMul, Int.reduceNeg, Int.reduceLE, Int.reduceLT, Int.reduceToNat, IntWalk.iteOmega, IntWalk.toNatUp, reduceCtorEq, reduceIte, Int.reduceEq, Int.reduceNe, hv])
  · have hv : validK ws rest count = false := by simp only [validK, decide_eq_false_iff_not]; exact fun h => h1 h.1
    simp only [sf_valid, putAll, wx, wy, wz, stV, Nat.reduceBEq, Nat.reduceAdd, Nat.reduceMul, Nat.reduceSub, Nat.reducePow, Int.reducePow, Int.reduceAdd, Int.reduceSub, Int.reduceMul, Int.reduceNeg, Int.reduceLE, Int.reduceLT, Int.reduceToNat, IntWalk.iteOmega, IntWalk.toNatUp, reduceCtorEq, reduceIte, Int.reduceEq, Int.reduceNe, h1]
    exact ret_d1 (by simp only [wx, wy, wz, stV, Nat.reduceBEq, Nat.reduceAdd, Nat.reduceMul, Nat.reduceSub, Nat.reducePow, Int.reducePow, Int.reduceAdd, Int.reduceSub, Int.reduceMul, Int.reduceNeg, Int.reduceLE, Int.reduceLT, Int.reduceToNat, IntWalk.iteOmega, IntWalk.toNatUp, reduceCtorEq, reduceIte, Int.reduceEq, Int.reduceNe, hv])
def sf_rvalid : SFn := ⟨1, 26,
  .seq (.reg [⟨(some 1), .box .roBox (.t 0), none⟩,
    ⟨(some 2), .mv (.k (.c (.d (.bool false)))), none⟩])
  (.seq (.reg [⟨(some 3), .fieldAddr 0 (.t 1), none⟩,
    ⟨(some 4), .load .sc (.t 3), none⟩,
    ⟨(some 5), .len (.t 4), none⟩,
    ⟨(some 6), .bin .eql (.t 5) (.k (.c (.d (.int .i64 8)))), none⟩,
    ⟨(some 7), .mv (.t 6), none⟩,
    ⟨(some 8), .fieldAddr 2 (.t 1), (some (7, true))⟩,
    ⟨(some 9), .load .sc (.t 8), (some (7, true))⟩,
    ⟨(some 10), .bin .geq (.t 9) (.k (.c (.d (.int .i64 0)))), (some (7, true))⟩,
    ⟨(some 11), .pick (.t 7) (.t 10) (.k (.c (.d (.bool false)))), none⟩,
    ⟨(some 12), .mv (.t 11), none⟩,
    ⟨(some 13), .fieldAddr 2 (.t 1), (some (12, true))⟩,
    ⟨(some 14), .load .sc (.t 13), (some (12, true))⟩,
    ⟨(some 15), .bin .leq (.t 14) (.k (.c (.d (.int .i64 1099511627776)))), (some (12, true))⟩,
    ⟨(some 16), .pick (.t 12) (.t 15) (.k (.c (.d (.bool false)))), none⟩,
    ⟨(some 17), .mv (.t 16), none⟩,
    ⟨(some 18), .fieldAddr 1 (.t 1), (some (17, true))⟩,
    ⟨(some 19), .load .sc (.t 18), (some (17, true))⟩,
    ⟨(some 20), .len (.t 19), (some (17, true))⟩,
    ⟨(some 21), .fieldAddr 2 (.t 1), (some (17, true))⟩,
    ⟨(some 22), .load .sc (.t 21), (some (17, true))⟩,
    ⟨(some 23), .bin .rem (.t 22) (.k (.c (.d (.int .i64 64)))), (some (17, true))⟩,
    ⟨(some 24), .bin .eql (.t 20) (.t 23), (some (17, true))⟩,
    ⟨(some 25), .pick (.t 17) (.t 24) (.k (.c (.d (.bool false)))), none⟩,
    ⟨(some 2), .mv (.t 25), none⟩])
  (.ret)),
  [(2, none)]⟩
theorem cf_rvalid : compFn Tryd.prog { own := [], comp := [], frz := [], nils := [] } Tryd.f24 = some sf_rvalid := by kernel_rfl
set_option maxHeartbeats 1600000 in
theorem rvalid_c (G : Glob) (ws : List UInt32) (rest : List UInt8) (count : Int) : Den Tryd.prog G 24 [hsD ws rest count] (.w (.c (.d (.bool (validK ws rest count))))) := by
  refine den_walk Tryd.func24 cf_rvalid rfl rfl ?_
  by_cases h1 : ws.length = 8
  · by_cases h2 : 0 ≤ count
    · have ht : count.tmod 64 = count % 64 := Int.tmod_eq_emod_of_nonneg h2
      by_cases h3 : count ≤ 1099511627776
      · by_cases h4 : (rest.length : Int) = count % 64
        · have hv : validK ws rest count = true := by simp only [validK, decide_eq_true_eq]; exact ⟨h1, h2, h3, h4⟩
          simp only [sf_rvalid, putAll, wx, wy, wz, stV, Nat.reduceBEq, Nat.reduceAdd, Nat.reduceMul, Nat.reduceSub, Nat.reducePow, Int.reducePow, Int.reduceAdd, Int.reduceSub, Int.reduceMul, Int.reduceNeg, Int.reduceLE, Int.reduceLT, Int.reduceToNat, IntWalk.iteOmega, IntWalk.toNatUp, reduceCtorEq, reduceIte, Int.reduceEq, Int.reduceNe, ht, h4]
          exact ret_d1 (by simp only [wx, wy, wz, stV, Nat.reduceBEq, Nat.reduceAdd, Nat.reduceMul, Nat.reduceSub, Nat.reducePow, Int.reducePow, Int.reduceAdd, Int.reduceSub, Int.reduceMul, Int.reduceNeg, Int.reduceLE, Int.reduceLT, Int.reduceToNat, IntWalk.iteOmega, IntWalk.toNatUp, reduceCtorEq, reduceIte, Int.reduceEq, Int.reduceNe, hv])
        · have hv : validK ws rest count = false := by simp only [validK, decide_eq_false_iff_not]; exact fun h => h4 h.2.2.2
          simp only [sf_rvalid, putAll, wx, wy, wz, stV, Nat.reduceBEq, Nat.reduceAdd, Nat.reduceMul, Nat.reduceSub, Nat.reducePow, Int.reducePow, Int.reduceAdd, Int.reduceSub, Int.reduceMul, Int.reduceNeg, Int.reduceLE, Int.reduceLT, Int.reduceToNat, IntWalk.iteOmega, IntWalk.toNatUp, reduceCtorEq, reduceIte, Int.reduceEq, Int.reduceNe, ht, h4]
          exact ret_d1 (by simp only [wx, wy, wz, stV, Nat.reduceBEq, Nat.reduceAdd, Nat.reduceMul, Nat.reduceSub, Nat.reducePow, Int.reducePow, Int.reduceAdd, Int.reduceSub, Int.reduceMul, Int.reduceNeg, Int.reduceLE, Int.reduceLT, Int.reduceToNat, IntWalk.iteOmega, IntWalk.toNatUp, reduceCtorEq, reduceIte, Int.reduceEq, Int.reduceNe, hv])
      · have hv : validK ws rest count = false := by simp only [validK, decide_eq_false_iff_not]; exact fun h => h3 h.2.2.1
        simp only [sf_rvalid, putAll, wx, wy, wz, stV, Nat.reduceBEq, Nat.reduceAdd, Nat.reduceMul, Nat.reduceSub, Nat.reducePow, Int.reducePow, Int.reduceAdd, Int.reduceSub, Int.reduceMul, Int.reduceNeg, Int.reduceLE, Int.reduceLT, Int.reduceToNat, IntWalk.iteOmega, IntWalk.toNatUp, reduceCtorEq, reduceIte, Int.reduceEq, Int.reduceNe, ht]
        exact ret_d1 (by simp only [wx, wy, wz, stV, Nat.reduceBEq, Nat.reduceAdd, Nat.reduceMul, Nat.reduceSub, Nat.reducePow, Int.reducePow, Int.reduceAdd, Int.reduceSub, Int.reduceMul, Int.reduceNeg, Int.reduceLE, Int.reduceLT, Int.reduceToNat, IntWalk.iteOmega, IntWalk.toNatUp, reduceCtorEq, reduceIte, Int.reduceEq, Int.reduceNe, hv])
    · have hv : validK ws rest count = false := by simp only [validK, decide_eq_false_iff_not]; exact fun h => h2 h.2.1
      simp only [sf_rvalid, putAll, wx, wy, wz, stV, Nat.reduceBEq, Nat.reduceAdd, Nat.reduceMul, Nat.reduceSub, Nat.reducePow, Int.reducePow, Int.reduceAdd, Int.reduceSub, Int.reduceMul, Int.reduceNeg, Int.reduceLE, Int.reduceLT, Int.reduceToNat, IntWalk.iteOmega, IntWalk.toNatUp, reduceCtorEq, reduceIte, Int.reduceEq, Int.reduceNe]
      exact ret_d1 (by simp only [wx, wy, wz, stV, Nat.reduceBEq, Nat.reduceAdd, Nat.reduceMul, Nat.reduceSub, Nat.reducePow, Int.reducePow, Int.reduceAdd, Int.reduceSub, Int.reduceMul, Int.reduceNeg, Int.reduceLE, Int.reduceLT, Int.reduceToNat, IntWalk.iteOmega, IntWalk.toNatUp, reduceCtorEq, reduceIte, Int.reduceEq, Int.reduceNe, hv])
  · have hv : validK ws rest count = false := by simp only [validK, decide_eq_false_iff_not]; exact fun h => h1 h.1
    simp only [sf_rvalid, putAll, wx, wy, wz, stV, Nat.reduceBEq, Nat.reduceAdd, Nat.reduceMul, Nat.reduceSub, Nat.reducePow, Int.reducePow, Int.reduceAdd, Int.reduceSub, Int.reduceMul, Int.reduceNeg, Int.reduceLE, Int.reduceLT, Int.reduceToNat, IntWalk.iteOmega, IntWalk.toNatUp, reduceCtorEq, reduceIte, Int.reduceEq, Int.reduceNe, h1]
    exact ret_d1 (by simp only [wx, wy, wz, stV, Nat.reduceBEq, Nat.reduceAdd, Nat.reduceMul, Nat.reduceSub, Nat.reducePow, Int.reducePow, Int.reduceAdd, Int.reduceSub, Int.reduceMul, Int.reduceNeg, Int.reduceLE, Int.reduceLT, Int.reduceToNat, IntWalk.iteOmega, IntWalk.toNatUp, reduceCtorEq, reduceIte, Int.reduceEq, Int.reduceNe, hv])
def sf_state : SFn := ⟨3, 13,
  .seq (.reg [⟨(some 3), .box .ownArr (.t 0), none⟩,
    ⟨(some 6), .alloc [.nil, .nil, (.d (.int .i64 0))], none⟩])
  (.seq (.reg [⟨(some 7), .sliceArr 1 8 (.t 3) none none, none⟩,
    ⟨(some 8), .mv (.t 1), none⟩,
    ⟨(some 9), .bldSl false 1 1 (.sl []) [(0, (.t 8))], none⟩,
    ⟨(some 10), .call 35 [(.t 9)] (some (0, 1)), none⟩,
    ⟨(some 11), .mv (.t 2), none⟩,
    ⟨(some 12), .build [.nil, .nil, (.d (.int .i64 0))] [(0, 1, (.t 7)), (1, 1, (.t 10)), (2, 1, (.t 11))], none⟩,
    ⟨none, .store (.ag 3) (.t 6) (.t 12), none⟩])
  (.ret)),
  [(6, (some (.ag 3)))]⟩
theorem cf_state : compFn Tryd.prog { own := [3, 10], comp := [], frz := [], nils := [] } Tryd.f38 = some sf_state := by kernel_rfl
set_option maxHeartbeats 1600000 in
theorem state_c (G : Glob) (ws : List UInt32) (rest : List UInt8) (count : Int) (hw : ws.length = 8) (hr : rest.length ≤ 140737488355328) : Den Tryd.prog G 38 [.agg (ws.map wD), .sl (rest.map bD), .int .i64 count] (.w (.c (.d (hsD ws rest count)))) := by
  refine den_walk Tryd.func38 cf_state rfl rfl ?_
  have hj := join_c G [rest] (by simp) (by simpa using hr)
  have hf : [rest].flatten = rest := by simp
  rw [hf] at hj
  have e8 : ws.take 8 = ws := List.take_of_length_le (by omega)
  simp only [sf_state, putAll, wx, wy, wz, stV, Nat.reduceBEq, Nat.reduceAdd, Nat.reduceMul, Nat.reduceSub, Nat.reducePow, Int.reducePow, Int.reduceAdd, Int.reduceSub, Int.reduceMul, Int.reduceNeg, Int.reduceLE, Int.reduceLT, Int.reduceToNat, IntWalk.iteOmega, IntWalk.toNatUp, reduceCtorEq, reduceIte, Int.reduceEq, Int.reduceNe, hw]
  refine st_call hj rfl (.inl rfl) ?_
  simp only [wx, wy, wz, stV, Nat.reduceBEq, Nat.reduceAdd, Nat.reduceMul, Nat.reduceSub, Nat.reducePow, Int.reducePow, Int.reduceAdd, Int.reduceSub, Int.reduceMul, Int.reduceNeg, Int.reduceLE, Int.reduceLT, Int.reduceToNat, IntWalk.iteOmega, IntWalk.toNatUp, reduceCtorEq, reduceIte, Int.reduceEq, Int.reduceNe]
  exact ret_d1 (by simp only [wx, wy, wz, stV, Nat.reduceBEq, Nat.reduceAdd, Nat.reduceMul, Nat.reduceSub, Nat.reducePow, Int.reducePow, Int.reduceAdd, Int.reduceSub, Int.reduceMul, Int.reduceNeg, Int.reduceLE, Int.reduceLT, Int.reduceToNat, IntWalk.iteOmega, IntWalk.toNatUp, reduceCtorEq, reduceIte, Int.reduceEq, Int.reduceNe, toDs, toD, obSl, hw, e8])
def sf_wof : SFn := ⟨1, 9,
  .seq (.reg [⟨(some 1), .box .roBox (.t 0), none⟩,
    ⟨(some 2), .allocArr [(.int .u32 0), (.int .u32 0), (.int .u32 0), (.int .u32 0), (.int .u32 0), (.int .u32 0), (.int .u32 0), (.int .u32 0)], none⟩])
  (.seq (.reg [⟨(some 3), .allocArr [(.int .u32 0), (.int .u32 0), (.int .u32 0), (.int .u32 0), (.int .u32 0), (.int .u32 0), (.int .u32 0), (.int .u32 0)], none⟩])
  (.seq (.reg [⟨(some 4), .sliceArr 1 8 (.t 3) none none, none⟩,
    ⟨(some 5), .fieldAddr 0 (.t 1), none⟩,
    ⟨(some 6), .load .sc (.t 5), none⟩,
    ⟨(some 7), .copy 1 (.t 4) (.t 6), none⟩])
  (.seq (.reg [⟨(some 8), .load (.ag 8) (.t 3), none⟩,
    ⟨none, .store (.ag 8) (.t 2) (.t 8), none⟩])
  (.ret)))),
  [(2, (some (.ag 8)))]⟩
theorem cf_wof : compFn Tryd.prog { own := [], comp := [], frz := [], nils := [] } Tryd.f37 = some sf_wof := by kernel_rfl
set_option maxHeartbeats 1600000 in
theorem wof_c (G : Glob) (ws : List UInt32) (rest : List UInt8) (count : Int) (hw : ws.length = 8) : Den Tryd.prog G 37 [hsD ws rest count] (.w (.c (.d (.agg (ws.map wD))))) := by
  refine den_walk Tryd.func37 cf_wof rfl rfl ?_
  obtain ⟨h0, h1, h2, h3, h4, h5, h6, h7, rfl⟩ := eight hw
  simp only [sf_wof, putAll, wx, wy, wz, stV, Nat.reduceBEq, Nat.reduceAdd, Nat.reduceMul, Nat.reduceSub, Nat.reducePow, Int.reducePow, Int.reduceAdd, Int.reduceSub, Int.reduceMul, Int.reduceNeg, Int.reduceLE, Int.reduceLT, Int.reduceToNat, IntWalk.iteOmega, IntWalk.toNatUp, reduceCtorEq, reduceIte, Int.reduceEq, Int.reduceNe]
  exact ret_d1 (by simp only [wx, wy, wz, stV, Nat.reduceBEq, Nat.reduceAdd, Nat.reduceMul, Nat.reduceSub, Nat.reducePow, Int.reducePow, Int.reduceAdd, Int.reduceSub, Int.reduceMul, Int.reduceNeg, Int.reduceLE, Int.reduceLT, Int.reduceToNat, IntWalk.iteOmega, IntWalk.toNatUp, reduceCtorEq, reduceIte, Int.reduceEq, Int.reduceNe])
def sf_beg : SFn := ⟨0, 3,
  .seq (.reg [⟨(some 0), .alloc [.nil, .nil, (.d (.int .i64 0))], none⟩])
  (.seq (.reg [⟨(some 1), .load (.ag 8) (.g 0), none⟩,
    ⟨(some 2), .call 38 [(.t 1), (.k (.c .nil)), (.k (.c (.d (.int .i64 0))))] none, none⟩,
    ⟨none, .store (.ag 3) (.t 0) (.t 2), none⟩])
  (.ret)),
  [(0, (some (.ag 3)))]⟩
theorem cf_beg : compFn Tryd.prog { own := [], comp := [], frz := [], nils := [] } Tryd.f26 = some sf_beg := by kernel_rfl
set_option maxHeartbeats 1600000 in
theorem beg_c (G : Glob) (hF : G.at 0 = some (.ra (firstK.map wD))) : Den Tryd.prog G 26 [] (.w (.c (.d (hsD firstK [] 0)))) := by
  refine den_walk Tryd.func26 cf_beg rfl rfl ?_
  have eg := @ev_g G 0 _ hF
  have h8 : firstK.length = 8 := firstK_len
  simp only [sf_beg, putAll, wx, wy, wz, stV, Nat.reduceBEq, Nat.reduceAdd, Nat.reduceMul, Nat.reduceSub, Nat.reducePow, Int.reducePow, Int.reduceAdd, Int.reduceSub, Int.reduceMul, Int.reduceNeg, Int.reduceLE, Int.reduceLT, Int.reduceToNat, IntWalk.iteOmega, IntWalk.toNatUp, reduceCtorEq, reduceIte, Int.reduceEq, Int.reduceNe, eg, h8]
  refine st_call (state_c G firstK [] 0 firstK_len (by simp)) rfl (.inl rfl) ?_
  simp only [wx, wy, wz, stV, Nat.reduceBEq, Nat.reduceAdd, Nat.reduceMul, Nat.reduceSub, Nat.reducePow, Int.reducePow, Int.reduceAdd, Int.reduceSub, Int.reduceMul, Int.reduceNeg, Int.reduceLE, Int.reduceLT, Int.reduceToNat, IntWalk.iteOmega, IntWalk.toNatUp, reduceCtorEq, reduceIte, Int.reduceEq, Int.reduceNe]
  exact ret_d1 (by simp only [wx, wy, wz, stV, Nat.reduceBEq, Nat.reduceAdd, Nat.reduceMul, Nat.reduceSub, Nat.reducePow, Int.reducePow, Int.reduceAdd, Int.reduceSub, Int.reduceMul, Int.reduceNeg, Int.reduceLE, Int.reduceLT, Int.reduceToNat, IntWalk.iteOmega, IntWalk.toNatUp, reduceCtorEq, reduceIte, Int.reduceEq, Int.reduceNe, toDs, toD]; rfl)
/-- What More answers: the computation, and the error. -/
def moreK (ws : List UInt32) (rest : List UInt8) (count : Int) (b : List UInt8) : (List UInt32 × List UInt8 × Int) × Int :=
  if validK ws rest count = true then if (b.length : Int) ≤ 1099511627776 - count then ((foldB ws (rest ++ b) ((rest ++ b).length / 64), (rest ++ b).drop (64 * ((rest ++ b).length / 64)), count + b.length), 0) else (([], [], 0), 2) else (([], [], 0), 3)
theorem validK_is {ws : List UInt32} {rest : List UInt8} {count : Int} (h : validK ws rest count = true) : ws.length = 8 ∧ 0 ≤ count ∧ count ≤ 1099511627776 ∧ (rest.length : Int) = count % 64 := by
  simpa only [validK, decide_eq_true_eq] using h
abbrev mrD (p : (List UInt32 × List UInt8 × Int) × Int) : V := .tup [.c (.d (hsD p.1.1 p.1.2.1 p.1.2.2)), .c (.d (.int .i64 p.2))]
theorem moreK_bad {ws : List UInt32} {rest : List UInt8} {count : Int} {b : List UInt8} (h : validK ws rest count = false) : moreK ws rest count b = (([], [], 0), 3) := by simp [moreK, h]
theorem moreK_long {ws : List UInt32} {rest : List UInt8} {count : Int} {b : List UInt8} (h : validK ws rest count = true) (h2 : ¬ (b.length : Int) ≤ 1099511627776 - count) : moreK ws rest count b = (([], [], 0), 2) := by
  unfold moreK; rw [if_pos h, if_neg h2]
theorem moreK_ok {ws : List UInt32} {rest : List UInt8} {count : Int} {b : List UInt8} (h : validK ws rest count = true) (h2 : (b.length : Int) ≤ 1099511627776 - count) : moreK ws rest count b = ((foldB ws (rest ++ b) ((rest ++ b).length / 64), (rest ++ b).drop (64 * ((rest ++ b).length / 64)), count + b.length), 0) := by
  unfold moreK; rw [if_pos h, if_pos h2]
def sf_more : SFn := ⟨2, 38,
  .seq (.reg [⟨(some 2), .box .roBox (.t 0), none⟩,
    ⟨(some 4), .alloc [.nil, .nil, (.d (.int .i64 0))], none⟩,
    ⟨(some 5), .mv (.k (.c (.d (.int .i64 0)))), none⟩])
  (.seq (.seq (.reg [⟨(some 8), .load (.ag 3) (.t 2), none⟩,
    ⟨(some 9), .call 23 [(.t 8)] none, none⟩,
    ⟨(some 10), .un .not (.t 9), none⟩])
  (.cond (.t 10) (.seq (.reg [⟨(some 11), .build [.nil, .nil, (.d (.int .i64 0))] [], none⟩,
     ⟨none, .store (.ag 3) (.t 4) (.t 11), none⟩,
     ⟨(some 5), .mv (.k (.c (.d (.int .i64 3)))), none⟩])
   (.ret))
   (.skip)))
  (.seq (.seq (.reg [⟨(some 12), .mv (.t 1), none⟩,
    ⟨(some 13), .len (.t 12), none⟩,
    ⟨(some 14), .fieldAddr 2 (.t 2), none⟩,
    ⟨(some 15), .load .sc (.t 14), none⟩,
    ⟨(some 16), .bin .sub (.k (.c (.d (.int .i64 1099511627776)))) (.t 15), none⟩,
    ⟨(some 17), .bin .gtr (.t 13) (.t 16), none⟩])
  (.cond (.t 17) (.seq (.reg [⟨(some 18), .build [.nil, .nil, (.d (.int .i64 0))] [], none⟩,
     ⟨none, .store (.ag 3) (.t 4) (.t 18), none⟩,
     ⟨(some 5), .mv (.k (.c (.d (.int .i64 2)))), none⟩])
   (.ret))
   (.skip)))
  (.seq (.reg [⟨(some 20), .load (.ag 3) (.t 2), none⟩,
    ⟨(some 21), .call 37 [(.t 20)] none, none⟩,
    ⟨(some 22), .fieldAddr 1 (.t 2), none⟩,
    ⟨(some 23), .load .sc (.t 22), none⟩,
    ⟨(some 24), .mv (.t 1), none⟩,
    ⟨(some 25), .bldSl false 2 1 (.sl []) [(0, (.t 23)), (1, (.t 24))], none⟩,
    ⟨(some 26), .call 35 [(.t 25)] none, none⟩,
    ⟨(some 27), .call 29 [(.t 21), (.t 26)] none, none⟩,
    ⟨(some 19), .mv (.t 27), none⟩,
    ⟨(some 28), .extract (.t 19) 0, none⟩,
    ⟨(some 29), .extract (.t 19) 1, none⟩,
    ⟨(some 6), .allocArr [(.int .u32 0), (.int .u32 0), (.int .u32 0), (.int .u32 0), (.int .u32 0), (.int .u32 0), (.int .u32 0), (.int .u32 0)], none⟩,
    ⟨none, .store (.ag 8) (.t 6) (.t 28), none⟩,
    ⟨(some 7), .mv (.t 29), none⟩])
  (.seq (.reg [⟨(some 30), .load (.ag 8) (.t 6), none⟩,
    ⟨(some 31), .mv (.t 7), none⟩,
    ⟨(some 32), .fieldAddr 2 (.t 2), none⟩,
    ⟨(some 33), .load .sc (.t 32), none⟩,
    ⟨(some 34), .mv (.t 1), none⟩,
    ⟨(some 35), .len (.t 34), none⟩,
    ⟨(some 36), .bin .add (.t 33) (.t 35), none⟩,
    ⟨(some 37), .call 38 [(.t 30), (.t 31), (.t 36)] none, none⟩,
    ⟨none, .store (.ag 3) (.t 4) (.t 37), none⟩,
    ⟨(some 5), .mv (.k (.c (.d (.int .i64 0)))), none⟩])
  (.ret))))),
  [(4, (some (.ag 3))), (5, none)]⟩
theorem cf_more : compFn Tryd.prog { own := [], comp := [], frz := [], nils := [] } Tryd.f19 = some sf_more := by kernel_rfl
set_option maxHeartbeats 1600000 in
theorem more_c (G : Glob) (hG : G.at 1 = some (.ra (constK.map wD))) (ws : List UInt32) (rest : List UInt8) (count : Int) (b : List UInt8) : Den Tryd.prog G 19 [hsD ws rest count, .sl (b.map bD)] (mrD (moreK ws rest count b)) := by
  refine den_walk Tryd.func19 cf_more rfl rfl ?_
  cases hv : validK ws rest count with
  | false =>
    rw [moreK_bad hv]
    have hc := valid_c G ws rest count
    rw [hv] at hc
    simp only [sf_more, putAll, wx, wy, wz, stV, Nat.reduceBEq, Nat.reduceAdd, Nat.reduceMul, Nat.reduceSub, Nat.reducePow, Int.reducePow, Int.reduceAdd, Int.reduceSub, Int.reduceMul, Int.reduceNeg, Int.reduceLE, Int.reduceLT, Int.reduceToNat, IntWalk.iteOmega, IntWalk.toNatUp, reduceCtorEq, reduceIte, Int.reduceEq, Int.reduceNe]
    refine st_call hc rfl (.inl rfl) ?_
    simp only [wx, wy, wz, stV, Nat.reduceBEq, Nat.reduceAdd, Nat.reduceMul, Nat.reduceSub, Nat.reducePow, Int.reducePow, Int.reduceAdd, Int.reduceSub, Int.reduceMul, Int.reduceNeg, Int.reduceLE, Int.reduceLT, Int.reduceToNat, IntWalk.iteOmega, IntWalk.toNatUp, reduceCtorEq, reduceIte, Int.reduceEq, Int.reduceNe]
    exact ret_d2 (by simp only [wx, wy, wz, stV, Nat.reduceBEq, Nat.reduceAdd, Nat.reduceMul, Nat.reduceSub, Nat.reducePow, Int.reducePow, Int.reduceAdd, Int.reduceSub, Int.reduceMul, Int.reduceNeg, Int.reduceLE, Int.reduceLT, Int.reduceToNat, IntWalk.iteOmega, IntWalk.toNatUp, reduceCtorEq, reduceIte, Int.reduceEq, Int.reduceNe, toDs, toD]; rfl) (by simp only [wx, wy, wz, stV, Nat.reduceBEq, Nat.reduceAdd, Nat.reduceMul, Nat.reduceSub, Nat.reducePow, Int.reducePow, Int.reduceAdd, Int.reduceSub, Int.reduceMul, Int.reduceNeg, Int.reduceLE, Int.reduceLT, Int.reduceToNat, IntWalk.iteOmega, IntWalk.toNatUp, reduceCtorEq, reduceIte, Int.reduceEq, Int.reduceNe])
  | true =>
    obtain ⟨h1, h2, h3, h4⟩ := validK_is hv
    have hc := valid_c G ws rest count
    rw [hv] at hc
    by_cases hb : (b.length : Int) ≤ 1099511627776 - count
    · rw [moreK_ok hv hb]
      have hj := join_c G [rest, b] (by simp) (by simp; omega)
      have hf : [rest, b].flatten = rest ++ b := by simp
      rw [hf] at hj
      have hall : (rest ++ b).length = rest.length + b.length := List.length_append
      generalize rest ++ b = al at *
      have hl := foldB_len h1 al (al.length / 64)
      simp only [sf_more, putAll, wx, wy, wz, stV, Nat.reduceBEq, Nat.reduceAdd, Nat.reduceMul, Nat.reduceSub, Nat.reducePow, Int.reducePow, Int.reduceAdd, Int.reduceSub, Int.reduceMul, Int.reduceNeg, Int.reduceLE, Int.reduceLT, Int.reduceToNat, IntWalk.iteOmega, IntWalk.toNatUp, reduceCtorEq, reduceIte, Int.reduceEq, Int.reduceNe]
      refine st_call hc rfl (.inl rfl) ?_
      simp only [wx, wy, wz, stV, Nat.reduceBEq, Nat.reduceAdd, Nat.reduceMul, Nat.reduceSub, Nat.reducePow, Int.reducePow, Int.reduceAdd, Int.reduceSub, Int.reduceMul, Int.reduceNeg, Int.reduceLE, Int.reduceLT, Int.reduceToNat, IntWalk.iteOmega, IntWalk.toNatUp, reduceCtorEq, reduceIte, Int.reduceEq, Int.reduceNe]
      refine st_call (wof_c G ws rest count h1) rfl (.inl rfl) ?_
      simp only [wx, wy, wz, stV, Nat.reduceBEq, Nat.reduceAdd, Nat.reduceMul, Nat.reduceSub, Nat.reducePow, Int.reducePow, Int.reduceAdd, Int.reduceSub, Int.reduceMul, Int.reduceNeg, Int.reduceLE, Int.reduceLT, Int.reduceToNat, IntWalk.iteOmega, IntWalk.toNatUp, reduceCtorEq, reduceIte, Int.reduceEq, Int.reduceNe]
      refine st_call hj rfl (.inl rfl) ?_
      simp only [wx, wy, wz, stV, Nat.reduceBEq, Nat.reduceAdd, Nat.reduceMul, Nat.reduceSub, Nat.reducePow, Int.reducePow, Int.reduceAdd, Int.reduceSub, Int.reduceMul, Int.reduceNeg, Int.reduceLE, Int.reduceLT, Int.reduceToNat, IntWalk.iteOmega, IntWalk.toNatUp, reduceCtorEq, reduceIte, Int.reduceEq, Int.reduceNe]
      refine st_call (blocks_c G hG ws al h1 (by omega)) rfl (.inl rfl) ?_
      have hdl : (al.drop (64 * (al.length / 64))).length ≤ 140737488355328 := by rw [List.length_drop]; omega
      generalize foldB ws al (al.length / 64) = vs at *
      generalize al.drop (64 * (al.length / 64)) = re at *
      simp only [wx, wy, wz, stV, Nat.reduceBEq, Nat.reduceAdd, Nat.reduceMul, Nat.reduceSub, Nat.reducePow, Int.reducePow, Int.reduceAdd, Int.reduceSub, Int.reduceMul, Int.reduceNeg, Int.reduceLE, Int.reduceLT, Int.reduceToNat, IntWalk.iteOmega, IntWalk.toNatUp, reduceCtorEq, reduceIte, Int.reduceEq, Int.reduceNe, hl]
      refine st_call (state_c G vs re (count + b.length) hl hdl) ?_ (.inl rfl) ?_
      · simp only [wx, wy, wz, stV, Nat.reduceBEq, Nat.reduceAdd, Nat.reduceMul, Nat.reduceSub, Nat.reducePow, Int.reducePow, Int.reduceAdd, Int.reduceSub, Int.reduceMul, Int.reduceNeg, Int.reduceLE, Int.reduceLT, Int.reduceToNat, IntWalk.iteOmega, IntWalk.toNatUp, reduceCtorEq, reduceIte, Int.reduceEq, Int.reduceNe]
      simp only [wx, wy, wz, stV, Nat.reduceBEq, Nat.reduceAdd, Nat.reduceMul, Nat.reduceSub, Nat.reducePow, Int.reducePow, Int.reduceAdd, Int.reduceSub, Int.reduceMul, Int.reduceNeg, Int.reduceLE, Int.reduceLT, Int.reduceToNat, IntWalk.iteOmega, IntWalk.toNatUp, reduceCtorEq, reduceIte, Int.reduceEq, Int.reduceNe]
      exact ret_d2 (by simp only [wx, wy, wz, stV, Nat.reduceBEq, Nat.reduceAdd, Nat.reduceMul, Nat.reduceSub, Nat.reducePow, Int.reducePow, Int.reduceAdd, Int.reduceSub, Int.reduceMul, Int.reduceNeg, Int.reduceLE, Int.reduceLT, Int.reduceToNat, IntWalk.iteOmega, IntWalk.toNatUp, reduceCtorEq, reduceIte, Int.reduceEq, Int.reduceNe, toDs, toD]) (by simp only [wx, wy, wz, stV, Nat.reduceBEq, Nat.reduceAdd, Nat.reduceMul, Nat.reduceSub, Nat.reducePow, Int.reducePow, Int.reduceAdd, Int.reduceSub, Int.reduceMul, Int.reduceNeg, Int.reduceLE, Int.reduceLT, Int.reduceToNat, IntWalk.iteOmega, IntWalk.toNatUp, reduceCtorEq, reduceIte, Int.reduceEq, Int.reduceNe])
    · rw [moreK_long hv hb]
      simp only [sf_more, putAll, wx, wy, wz, stV, Nat.reduceBEq, Nat.reduceAdd, Nat.reduceMul, Nat.reduceSub, Nat.reducePow, Int.reducePow, Int.reduceAdd, Int.reduceSub, Int.reduceMul, Int.reduceNeg, Int.reduceLE, Int.reduceLT, Int.reduceToNat, IntWalk.iteOmega, IntWalk.toNatUp, reduceCtorEq, reduceIte, Int.reduceEq, Int.reduceNe]
      refine st_call hc rfl (.inl rfl) ?_
      simp only [wx, wy, wz, stV, Nat.reduceBEq, Nat.reduceAdd, Nat.reduceMul, Nat.reduceSub, Nat.reducePow, Int.reducePow, Int.reduceAdd, Int.reduceSub, Int.reduceMul, Int.reduceNeg, Int.reduceLE, Int.reduceLT, Int.reduceToNat, IntWalk.iteOmega, IntWalk.toNatUp, reduceCtorEq, reduceIte, Int.reduceEq, Int.reduceNe]
      exact ret_d2 (by simp only [wx, wy, wz, stV, Nat.reduceBEq, Nat.reduceAdd, Nat.reduceMul, Nat.reduceSub, Nat.reducePow, Int.reducePow, Int.reduceAdd, Int.reduceSub, Int.reduceMul, Int.reduceNeg, Int.reduceLE, Int.reduceLT, Int.reduceToNat, IntWalk.iteOmega, IntWalk.toNatUp, reduceCtorEq, reduceIte, Int.reduceEq, Int.reduceNe, toDs, toD]; rfl) (by simp only [wx, wy, wz, stV, Nat.reduceBEq, Nat.reduceAdd, Nat.reduceMul, Nat.reduceSub, Nat.reducePow, Int.reducePow, Int.reduceAdd, Int.reduceSub, Int.reduceMul, Int.reduceNeg, Int.reduceLE, Int.reduceLT, Int.reduceToNat, IntWalk.iteOmega, IntWalk.toNatUp, reduceCtorEq, reduceIte, Int.reduceEq, Int.reduceNe])
def endK (ws : List UInt32) (rest : List UInt8) (count : Int) : List UInt8 × Int := if validK ws rest count = true then (finK ws rest count.toNat, 0) else ([], 3)
theorem endK_bad {ws : List UInt32} {rest : List UInt8} {count : Int} (h : validK ws rest count = false) : endK ws rest count = ([], 3) := by simp [endK, h]
theorem endK_ok {ws : List UInt32} {rest : List UInt8} {count : Int} (h : validK ws rest count = true) : endK ws rest count = (finK ws rest count.toNat, 0) := by simp [endK, h]
abbrev enD (p : List UInt8 × Int) : V := .tup [.c (.d (.sl (p.1.map bD))), .c (.d (.int .i64 p.2))]
def sf_end : SFn := ⟨1, 14,
  .seq (.reg [⟨(some 1), .box .roBox (.t 0), none⟩,
    ⟨(some 2), .mv (.k (.c .nil)), none⟩,
    ⟨(some 3), .mv (.k (.c (.d (.int .i64 0)))), none⟩])
  (.seq (.seq (.reg [⟨(some 4), .load (.ag 3) (.t 1), none⟩,
    ⟨(some 5), .call 23 [(.t 4)] none, none⟩,
    ⟨(some 6), .un .not (.t 5), none⟩])
  (.cond (.t 6) (.seq (.reg [⟨(some 2), .mv (.k (.c .nil)), none⟩,
     ⟨(some 3), .mv (.k (.c (.d (.int .i64 3)))), none⟩])
   (.ret))
   (.skip)))
  (.seq (.reg [⟨(some 7), .load (.ag 3) (.t 1), none⟩,
    ⟨(some 8), .call 37 [(.t 7)] none, none⟩,
    ⟨(some 9), .fieldAddr 1 (.t 1), none⟩,
    ⟨(some 10), .load .sc (.t 9), none⟩,
    ⟨(some 11), .fieldAddr 2 (.t 1), none⟩,
    ⟨(some 12), .load .sc (.t 11), none⟩,
    ⟨(some 13), .call 30 [(.t 8), (.t 10), (.t 12)] none, none⟩,
    ⟨(some 2), .mv (.t 13), none⟩,
    ⟨(some 3), .mv (.k (.c (.d (.int .i64 0)))), none⟩])
  (.ret))),
  [(2, none), (3, none)]⟩
theorem cf_end : compFn Tryd.prog { own := [], comp := [], frz := [], nils := [] } Tryd.f21 = some sf_end := by kernel_rfl
set_option maxHeartbeats 1600000 in
theorem end_c (G : Glob) (hG : G.at 1 = some (.ra (constK.map wD))) (ws : List UInt32) (rest : List UInt8) (count : Int) : Den Tryd.prog G 21 [hsD ws rest count] (enD (endK ws rest count)) := by
  refine den_walk Tryd.func21 cf_end rfl rfl ?_
  cases hv : validK ws rest count with
  | false =>
    rw [endK_bad hv]
    have hc := valid_c G ws rest count
    rw [hv] at hc
    simp only [sf_end, putAll, wx, wy, wz, stV, Nat.reduceBEq, Nat.reduceAdd, Nat.reduceMul, Nat.reduceSub, Nat.reducePow, Int.reducePow, Int.reduceAdd, Int.reduceSub, Int.reduceMul, Int.reduceNeg, Int.reduceLE, Int.reduceLT, Int.reduceToNat, IntWalk.iteOmega, IntWalk.toNatUp, reduceCtorEq, reduceIte, Int.reduceEq, Int.reduceNe]
    refine st_call hc rfl (.inl rfl) ?_
    simp only [wx, wy, wz, stV, Nat.reduceBEq, Nat.reduceAdd, Nat.reduceMul, Nat.reduceSub, Nat.reducePow, Int.reducePow, Int.reduceAdd, Int.reduceSub, Int.reduceMul, Int.reduceNeg, Int.reduceLE, Int.reduceLT, Int.reduceToNat, IntWalk.iteOmega, IntWalk.toNatUp, reduceCtorEq, reduceIte, Int.reduceEq, Int.reduceNe]
    exact ret_d2 (by simp only [wx, wy, wz, stV, Nat.reduceBEq, Nat.reduceAdd, Nat.reduceMul, Nat.reduceSub, Nat.reducePow, Int.reducePow, Int.reduceAdd, Int.reduceSub, Int.reduceMul, Int.reduceNeg, Int.reduceLE, Int.reduceLT, Int.reduceToNat, IntWalk.iteOmega, IntWalk.toNatUp, reduceCtorEq, reduceIte, Int.reduceEq, Int.reduceNe, toDs, toD]) (by simp only [wx, wy, wz, stV, Nat.reduceBEq, Nat.reduceAdd, Nat.reduceMul, Nat.reduceSub, Nat.reducePow, Int.reducePow, Int.reduceAdd, Int.reduceSub, Int.reduceMul, Int.reduceNeg, Int.reduceLE, Int.reduceLT, Int.reduceToNat, IntWalk.iteOmega, IntWalk.toNatUp, reduceCtorEq, reduceIte, Int.reduceEq, Int.reduceNe])
  | true =>
    obtain ⟨h1, h2, h3, h4⟩ := validK_is hv
    have hc := valid_c G ws rest count
    rw [hv] at hc
    rw [endK_ok hv]
    obtain ⟨count, rfl⟩ := Int.eq_ofNat_of_zero_le h2
    simp only [sf_end, putAll, wx, wy, wz, stV, Nat.reduceBEq, Nat.reduceAdd, Nat.reduceMul, Nat.reduceSub, Nat.reducePow, Int.reducePow, Int.reduceAdd, Int.reduceSub, Int.reduceMul, Int.reduceNeg, Int.reduceLE, Int.reduceLT, Int.reduceToNat, IntWalk.iteOmega, IntWalk.toNatUp, reduceCtorEq, reduceIte, Int.reduceEq, Int.reduceNe]
    refine st_call hc rfl (.inl rfl) ?_
    simp only [wx, wy, wz, stV, Nat.reduceBEq, Nat.reduceAdd, Nat.reduceMul, Nat.reduceSub, Nat.reducePow, Int.reducePow, Int.reduceAdd, Int.reduceSub, Int.reduceMul, Int.reduceNeg, Int.reduceLE, Int.reduceLT, Int.reduceToNat, IntWalk.iteOmega, IntWalk.toNatUp, reduceCtorEq, reduceIte, Int.reduceEq, Int.reduceNe]
    refine st_call (wof_c G ws rest count h1) rfl (.inl rfl) ?_
    simp only [wx, wy, wz, stV, Nat.reduceBEq, Nat.reduceAdd, Nat.reduceMul, Nat.reduceSub, Nat.reducePow, Int.reducePow, Int.reduceAdd, Int.reduceSub, Int.reduceMul, Int.reduceNeg, Int.reduceLE, Int.reduceLT, Int.reduceToNat, IntWalk.iteOmega, IntWalk.toNatUp, reduceCtorEq, reduceIte, Int.reduceEq, Int.reduceNe]
    refine st_call (fin_c G hG ws rest count h1 (by omega) (by omega)) rfl (.inl rfl) ?_
    simp only [wx, wy, wz, stV, Nat.reduceBEq, Nat.reduceAdd, Nat.reduceMul, Nat.reduceSub, Nat.reducePow, Int.reducePow, Int.reduceAdd, Int.reduceSub, Int.reduceMul, Int.reduceNeg, Int.reduceLE, Int.reduceLT, Int.reduceToNat, IntWalk.iteOmega, IntWalk.toNatUp, reduceCtorEq, reduceIte, Int.reduceEq, Int.reduceNe]
    exact ret_d2 (by simp only [wx, wy, wz, stV, Nat.reduceBEq, Nat.reduceAdd, Nat.reduceMul, Nat.reduceSub, Nat.reducePow, Int.reducePow, Int.reduceAdd, Int.reduceSub, Int.reduceMul, Int.reduceNeg, Int.reduceLE, Int.reduceLT, Int.reduceToNat, IntWalk.iteOmega, IntWalk.toNatUp, reduceCtorEq, reduceIte, Int.reduceEq, Int.reduceNe, toDs, toD]) (by simp only [wx, wy, wz, stV, Nat.reduceBEq, Nat.reduceAdd, Nat.reduceMul, Nat.reduceSub, Nat.reducePow, Int.reducePow, Int.reduceAdd, Int.reduceSub, Int.reduceMul, Int.reduceNeg, Int.reduceLE, Int.reduceLT, Int.reduceToNat, IntWalk.iteOmega, IntWalk.toNatUp, reduceCtorEq, reduceIte, Int.reduceEq, Int.reduceNe])
def sf_rend : SFn := ⟨1, 14,
  .seq (.reg [⟨(some 1), .box .roBox (.t 0), none⟩,
    ⟨(some 2), .mv (.k (.c .nil)), none⟩,
    ⟨(some 3), .mv (.k (.c (.d (.int .i64 0)))), none⟩])
  (.seq (.seq (.reg [⟨(some 4), .load (.ag 3) (.t 1), none⟩,
    ⟨(some 5), .call 24 [(.t 4)] none, none⟩,
    ⟨(some 6), .un .not (.t 5), none⟩])
  (.cond (.t 6) (.seq (.reg [⟨(some 2), .mv (.k (.c .nil)), none⟩,
     ⟨(some 3), .mv (.k (.c (.d (.int .i64 3)))), none⟩])
   (.ret))
   (.skip)))
  (.seq (.reg [⟨(some 7), .fieldAddr 0 (.t 1), none⟩,
    ⟨(some 8), .load .sc (.t 7), none⟩,
    ⟨(some 9), .fieldAddr 1 (.t 1), none⟩,
    ⟨(some 10), .load .sc (.t 9), none⟩,
    ⟨(some 11), .fieldAddr 2 (.t 1), none⟩,
    ⟨(some 12), .load .sc (.t 11), none⟩,
    ⟨(some 13), .call 34 [(.t 8), (.t 10), (.t 12)] none, none⟩,
    ⟨(some 2), .mv (.t 13), none⟩,
    ⟨(some 3), .mv (.k (.c (.d (.int .i64 0)))), none⟩])
  (.ret))),
  [(2, none), (3, none)]⟩
theorem cf_rend : compFn Tryd.prog { own := [], comp := [], frz := [], nils := [] } Tryd.f22 = some sf_rend := by kernel_rfl
set_option maxHeartbeats 1600000 in
theorem rend_c (G : Glob) (ws : List UInt32) (rest : List UInt8) (count : Int) : Den Tryd.prog G 22 [hsD ws rest count] (enD (endK ws rest count)) := by
  refine den_walk Tryd.func22 cf_rend rfl rfl ?_
  cases hv : validK ws rest count with
  | false =>
    rw [endK_bad hv]
    have hc := rvalid_c G ws rest count
    rw [hv] at hc
    simp only [sf_rend, putAll, wx, wy, wz, stV, Nat.reduceBEq, Nat.reduceAdd, Nat.reduceMul, Nat.reduceSub, Nat.reducePow, Int.reducePow, Int.reduceAdd, Int.reduceSub, Int.reduceMul, Int.reduceNeg, Int.reduceLE, Int.reduceLT, Int.reduceToNat, IntWalk.iteOmega, IntWalk.toNatUp, reduceCtorEq, reduceIte, Int.reduceEq, Int.reduceNe]
    refine st_call hc rfl (.inl rfl) ?_
    simp only [wx, wy, wz, stV, Nat.reduceBEq, Nat.reduceAdd, Nat.reduceMul, Nat.reduceSub, Nat.reducePow, Int.reducePow, Int.reduceAdd, Int.reduceSub, Int.reduceMul, Int.reduceNeg, Int.reduceLE, Int.reduceLT, Int.reduceToNat, IntWalk.iteOmega, IntWalk.toNatUp, reduceCtorEq, reduceIte, Int.reduceEq, Int.reduceNe]
    exact ret_d2 (by simp only [wx, wy, wz, stV, Nat.reduceBEq, Nat.reduceAdd, Nat.reduceMul, Nat.reduceSub, Nat.reducePow, Int.reducePow, Int.reduceAdd, Int.reduceSub, Int.reduceMul, Int.reduceNeg, Int.reduceLE, Int.reduceLT, Int.reduceToNat, IntWalk.iteOmega, IntWalk.toNatUp, reduceCtorEq, reduceIte, Int.reduceEq, Int.reduceNe, toDs, toD]) (by simp only [wx, wy, wz, stV, Nat.reduceBEq, Nat.reduceAdd, Nat.reduceMul, Nat.reduceSub, Nat.reducePow, Int.reducePow, Int.reduceAdd, Int.reduceSub, Int.reduceMul, Int.reduceNeg, Int.reduceLE, Int.reduceLT, Int.reduceToNat, IntWalk.iteOmega, IntWalk.toNatUp, reduceCtorEq, reduceIte, Int.reduceEq, Int.reduceNe])
  | true =>
    obtain ⟨h1, h2, h3, h4⟩ := validK_is hv
    have hc := rvalid_c G ws rest count
    rw [hv] at hc
    rw [endK_ok hv]
    obtain ⟨count, rfl⟩ := Int.eq_ofNat_of_zero_le h2
    simp only [sf_rend, putAll, wx, wy, wz, stV, Nat.reduceBEq, Nat.reduceAdd, Nat.reduceMul, Nat.reduceSub, Nat.reducePow, Int.reducePow, Int.reduceAdd, Int.reduceSub, Int.reduceMul, Int.reduceNeg, Int.reduceLE, Int.reduceLT, Int.reduceToNat, IntWalk.iteOmega, IntWalk.toNatUp, reduceCtorEq, reduceIte, Int.reduceEq, Int.reduceNe]
    refine st_call hc rfl (.inl rfl) ?_
    simp only [wx, wy, wz, stV, Nat.reduceBEq, Nat.reduceAdd, Nat.reduceMul, Nat.reduceSub, Nat.reducePow, Int.reducePow, Int.reduceAdd, Int.reduceSub, Int.reduceMul, Int.reduceNeg, Int.reduceLE, Int.reduceLT, Int.reduceToNat, IntWalk.iteOmega, IntWalk.toNatUp, reduceCtorEq, reduceIte, Int.reduceEq, Int.reduceNe]
    refine st_call (rfin_c G ws rest count h1 (by omega) (by omega)) rfl (.inl rfl) ?_
    simp only [wx, wy, wz, stV, Nat.reduceBEq, Nat.reduceAdd, Nat.reduceMul, Nat.reduceSub, Nat.reducePow, Int.reducePow, Int.reduceAdd, Int.reduceSub, Int.reduceMul, Int.reduceNeg, Int.reduceLE, Int.reduceLT, Int.reduceToNat, IntWalk.iteOmega, IntWalk.toNatUp, reduceCtorEq, reduceIte, Int.reduceEq, Int.reduceNe]
    exact ret_d2 (by simp only [wx, wy, wz, stV, Nat.reduceBEq, Nat.reduceAdd, Nat.reduceMul, Nat.reduceSub, Nat.reducePow, Int.reducePow, Int.reduceAdd, Int.reduceSub, Int.reduceMul, Int.reduceNeg, Int.reduceLE, Int.reduceLT, Int.reduceToNat, IntWalk.iteOmega, IntWalk.toNatUp, reduceCtorEq, reduceIte, Int.reduceEq, Int.reduceNe, toDs, toD]) (by simp only [wx, wy, wz, stV, Nat.reduceBEq, Nat.reduceAdd, Nat.reduceMul, Nat.reduceSub, Nat.reducePow, Int.reducePow, Int.reduceAdd, Int.reduceSub, Int.reduceMul, Int.reduceNeg, Int.reduceLE, Int.reduceLT, Int.reduceToNat, IntWalk.iteOmega, IntWalk.toNatUp, reduceCtorEq, reduceIte, Int.reduceEq, Int.reduceNe])

def rmSt (ws : List UInt32) (al : List UInt8) (c : Int) : Nat → St
  | 0 => ⟨ofL [(4, .w (.c (.ptr 1 1 0 0))), (6, .w (.c (.d (.sl (al.map bD))))), (7, .w (.c (.ptr 2 1 0 0))), (8, .w (.c (.d (.sl (constK.map wD))))), (9, .w (.c (.d (.int .i64 0))))],
      hL [(1, .box [.nil, .nil, .d (.int .i64 0)]), (2, .box [.own 3 1 0 ws.length, .nil, .d (.int .i64 c)]), (3, .row 1 (ws.map wD))], uL [1, 2, 3]⟩
  | n + 1 => ⟨ofL [(4, .w (.c (.ptr 1 1 0 0))), (6, .w (.c (.d (.sl (al.map bD))))), (7, .w (.c (.ptr 2 1 0 0))), (8, .w (.c (.d (.sl (constK.map wD))))), (9, .w (.c (.d (.int .i64 ((64 * (n + 1) : Nat) : Int)))))],
      hL [(1, .box [.nil, .nil, .d (.int .i64 0)]), (2, .box [.d (.sl ((foldB ws al (n + 1)).map wD)), .nil, .d (.int .i64 c)])], uL [1, 2]⟩
def lp_rmore_0 : SCode :=
  .seq (.seq (.reg [⟨(some 37), .mv (.t 9), none⟩,
    ⟨(some 38), .bin .add (.t 37) (.k (.c (.d (.int .i64 64)))), none⟩,
    ⟨(some 39), .mv (.t 6), none⟩,
    ⟨(some 40), .len (.t 39), none⟩,
    ⟨(some 41), .bin .leq (.t 38) (.t 40), none⟩])
  (.cond (.t 41) (.skip)
   (.exit 0)))
  (.seq (.block 1 (.reg [⟨(some 44), .fieldAddr 0 (.t 7), none⟩,
     ⟨(some 45), .load .sc (.t 44), none⟩,
     ⟨(some 46), .mv (.t 8), none⟩,
     ⟨(some 47), .mv (.t 6), none⟩,
     ⟨(some 48), .mv (.t 9), none⟩,
     ⟨(some 49), .mv (.t 9), none⟩,
     ⟨(some 50), .bin .add (.t 49) (.k (.c (.d (.int .i64 64)))), none⟩,
     ⟨(some 51), .slice 1 (.t 47) (some (.t 48)) (some (.t 50)) none, none⟩,
     ⟨(some 52), .call 33 [(.t 45), (.t 46), (.t 51)] none, none⟩,
     ⟨(some 53), .fieldAddr 0 (.t 7), none⟩,
     ⟨none, .store .sc (.t 53) (.t 52), none⟩]))
  (.reg [⟨(some 42), .mv (.t 9), none⟩,
    ⟨(some 43), .bin .add (.t 42) (.k (.c (.d (.int .i64 64)))), none⟩,
    ⟨(some 9), .mv (.t 43), none⟩]))
def sf_rmore : SFn := ⟨2, 61,
  .seq (.reg [⟨(some 2), .box .roBox (.t 0), none⟩,
    ⟨(some 4), .alloc [.nil, .nil, (.d (.int .i64 0))], none⟩,
    ⟨(some 5), .mv (.k (.c (.d (.int .i64 0)))), none⟩])
  (.seq (.seq (.reg [⟨(some 10), .load (.ag 3) (.t 2), none⟩,
    ⟨(some 11), .call 24 [(.t 10)] none, none⟩,
    ⟨(some 12), .un .not (.t 11), none⟩])
  (.cond (.t 12) (.seq (.reg [⟨(some 13), .build [.nil, .nil, (.d (.int .i64 0))] [], none⟩,
     ⟨none, .store (.ag 3) (.t 4) (.t 13), none⟩,
     ⟨(some 5), .mv (.k (.c (.d (.int .i64 3)))), none⟩])
   (.ret))
   (.skip)))
  (.seq (.seq (.reg [⟨(some 14), .mv (.t 1), none⟩,
    ⟨(some 15), .len (.t 14), none⟩,
    ⟨(some 16), .fieldAddr 2 (.t 2), none⟩,
    ⟨(some 17), .load .sc (.t 16), none⟩,
    ⟨(some 18), .bin .sub (.k (.c (.d (.int .i64 1099511627776)))) (.t 17), none⟩,
    ⟨(some 19), .bin .gtr (.t 15) (.t 18), none⟩])
  (.cond (.t 19) (.seq (.reg [⟨(some 20), .build [.nil, .nil, (.d (.int .i64 0))] [], none⟩,
     ⟨none, .store (.ag 3) (.t 4) (.t 20), none⟩,
     ⟨(some 5), .mv (.k (.c (.d (.int .i64 2)))), none⟩])
   (.ret))
   (.skip)))
  (.seq (.reg [⟨(some 21), .fieldAddr 1 (.t 2), none⟩,
    ⟨(some 22), .load .sc (.t 21), none⟩,
    ⟨(some 23), .mv (.t 1), none⟩,
    ⟨(some 24), .bldSl false 2 1 (.sl []) [(0, (.t 22)), (1, (.t 23))], none⟩,
    ⟨(some 25), .call 27 [(.t 24)] none, none⟩,
    ⟨(some 6), .mv (.t 25), none⟩])
  (.seq (.reg [⟨(some 26), .bldSl false 0 1 (.int .u32 0) [], none⟩,
    ⟨(some 27), .fieldAddr 0 (.t 2), none⟩,
    ⟨(some 28), .load .sc (.t 27), none⟩,
    ⟨(some 29), .appN false 1 4 (.t 26) (.t 28), none⟩,
    ⟨(some 30), .fieldAddr 2 (.t 2), none⟩,
    ⟨(some 31), .load .sc (.t 30), none⟩,
    ⟨(some 32), .mv (.t 1), none⟩,
    ⟨(some 33), .len (.t 32), none⟩,
    ⟨(some 34), .bin .add (.t 31) (.t 33), none⟩,
    ⟨(some 35), .build [.nil, .nil, (.d (.int .i64 0))] [(0, 1, (.t 29)), (2, 1, (.t 34))], none⟩,
    ⟨(some 7), .alloc [.nil, .nil, (.d (.int .i64 0))], none⟩,
    ⟨none, .store (.ag 3) (.t 7) (.t 35), none⟩])
  (.seq (.reg [⟨(some 36), .call 32 [] none, none⟩,
    ⟨(some 8), .mv (.t 36), none⟩,
    ⟨(some 9), .mv (.k (.c (.d (.int .i64 0)))), none⟩])
  (.seq (.block 0 (.loop lp_rmore_0))
  (.seq (.reg [⟨(some 54), .mv (.t 6), none⟩,
    ⟨(some 55), .mv (.t 9), none⟩,
    ⟨(some 56), .slice 1 (.t 54) (some (.t 55)) none none, none⟩,
    ⟨(some 57), .bldSl false 1 1 (.sl []) [(0, (.t 56))], none⟩,
    ⟨(some 58), .call 27 [(.t 57)] none, none⟩,
    ⟨(some 59), .fieldAddr 1 (.t 7), none⟩,
    ⟨none, .store .sc (.t 59) (.t 58), none⟩])
  (.seq (.reg [⟨(some 60), .load (.ag 3) (.t 7), none⟩,
    ⟨none, .store (.ag 3) (.t 4) (.t 60), none⟩,
    ⟨(some 5), .mv (.k (.c (.d (.int .i64 0)))), none⟩])
  (.ret))))))))),
  [(4, (some (.ag 3))), (5, none)]⟩
theorem cf_rmore : compFn Tryd.prog { own := [], comp := [], frz := [], nils := [29] } Tryd.f20 = some sf_rmore := by kernel_rfl
set_option maxHeartbeats 3200000 in
theorem rmore_c (G : Glob) (ws : List UInt32) (rest : List UInt8) (count : Int) (b : List UInt8) : Den Tryd.prog G 20 [hsD ws rest count, .sl (b.map bD)] (mrD (moreK ws rest count b)) := by
  refine den_walk Tryd.func20 cf_rmore rfl rfl ?_
  cases hv : validK ws rest count with
  | false =>
    rw [moreK_bad hv]
    have hc := rvalid_c G ws rest count
    rw [hv] at hc
    simp only [sf_rmore, putAll, wx, wy, wz, stV, Nat.reduceBEq, Nat.reduceAdd, Nat.reduceMul, Nat.reduceSub, Nat.reducePow, Int.reducePow, Int.reduceAdd, Int.reduceSub, Int.reduceMul, Int.reduceNeg, Int.reduceLE, Int.reduceLT, Int.reduceToNat, IntWalk.iteOmega, IntWalk.toNatUp, reduceCtorEq, reduceIte, Int.reduceEq, Int.reduceNe]
    refine st_call hc rfl (.inl rfl) ?_
    simp only [wx, wy, wz, stV, Nat.reduceBEq, Nat.reduceAdd, Nat.reduceMul, Nat.reduceSub, Nat.reducePow, Int.reducePow, Int.reduceAdd, Int.reduceSub, Int.reduceMul, Int.reduceNeg, Int.reduceLE, Int.reduceLT, Int.reduceToNat, IntWalk.iteOmega, IntWalk.toNatUp, reduceCtorEq, reduceIte, Int.reduceEq, Int.reduceNe]
    exact ret_d2 (by simp only [wx, wy, wz, stV, Nat.reduceBEq, Nat.reduceAdd, Nat.reduceMul, Nat.reduceSub, Nat.reducePow, Int.reducePow, Int.reduceAdd, Int.reduceSub, Int.reduceMul, Int.reduceNeg, Int.reduceLE, Int.reduceLT, Int.reduceToNat, IntWalk.iteOmega, IntWalk.toNatUp, reduceCtorEq, reduceIte, Int.reduceEq, Int.reduceNe, toDs, toD]; rfl) (by simp only [wx, wy, wz, stV, Nat.reduceBEq, Nat.reduceAdd, Nat.reduceMul, Nat.reduceSub, Nat.reducePow, Int.reducePow, Int.reduceAdd, Int.reduceSub, Int.reduceMul, Int.reduceNeg, Int.reduceLE, Int.reduceLT, Int.reduceToNat, IntWalk.iteOmega, IntWalk.toNatUp, reduceCtorEq, reduceIte, Int.reduceEq, Int.reduceNe])
  | true =>
    obtain ⟨h1, h2, h3, h4⟩ := validK_is hv
    have hc := rvalid_c G ws rest count
    rw [hv] at hc
    by_cases hb : (b.length : Int) ≤ 1099511627776 - count
    · rw [moreK_ok hv hb]
      have hj := rjoin_c G [rest, b] (by simp) (by simp; omega)
      have hf : [rest, b].flatten = rest ++ b := by simp
      rw [hf] at hj
      have hall : (rest ++ b).length = rest.length + b.length := List.length_append
      generalize rest ++ b = al at *
      have hd : al.drop (64 * (al.length / 64)) = al.drop (64 * (al.length / 64)) := rfl
      have hj2 := rjoin_c G [al.drop (64 * (al.length / 64))] (by simp) (by simp; omega)
      have hf2 : [al.drop (64 * (al.length / 64))].flatten = al.drop (64 * (al.length / 64)) := by simp
      rw [hf2] at hj2
      have e9 : List.take (al.length - 64 * (al.length / 64)) (al.drop (64 * (al.length / 64))) = al.drop (64 * (al.length / 64)) := List.take_of_length_le (by rw [List.length_drop]; exact Nat.le_refl _)
      simp only [sf_rmore, putAll, wx, wy, wz, stV, Nat.reduceBEq, Nat.reduceAdd, Nat.reduceMul, Nat.reduceSub, Nat.reducePow, Int.reducePow, Int.reduceAdd, Int.reduceSub, Int.reduceMul, Int.reduceNeg, Int.reduceLE, Int.reduceLT, Int.reduceToNat, IntWalk.iteOmega, IntWalk.toNatUp, reduceCtorEq, reduceIte, Int.reduceEq, Int.reduceNe, srcV]
      refine st_call hc rfl (.inl rfl) ?_
      simp only [wx, wy, wz, stV, Nat.reduceBEq, Nat.reduceAdd, Nat.reduceMul, Nat.reduceSub, Nat.reducePow, Int.reducePow, Int.reduceAdd, Int.reduceSub, Int.reduceMul, Int.reduceNeg, Int.reduceLE, Int.reduceLT, Int.reduceToNat, IntWalk.iteOmega, IntWalk.toNatUp, reduceCtorEq, reduceIte, Int.reduceEq, Int.reduceNe]
      refine st_call hj rfl (.inl rfl) ?_
      simp only [wx, wy, wz, stV, Nat.reduceBEq, Nat.reduceAdd, Nat.reduceMul, Nat.reduceSub, Nat.reducePow, Int.reducePow, Int.reduceAdd, Int.reduceSub, Int.reduceMul, Int.reduceNeg, Int.reduceLE, Int.reduceLT, Int.reduceToNat, IntWalk.iteOmega, IntWalk.toNatUp, reduceCtorEq, reduceIte, Int.reduceEq, Int.reduceNe, srcV]
      refine st_call (rcon_c G) rfl (.inl rfl) ?_
      simp only [wx, wy, wz, stV, Nat.reduceBEq, Nat.reduceAdd, Nat.reduceMul, Nat.reduceSub, Nat.reducePow, Int.reducePow, Int.reduceAdd, Int.reduceSub, Int.reduceMul, Int.reduceNeg, Int.reduceLE, Int.reduceLT, Int.reduceToNat, IntWalk.iteOmega, IntWalk.toNatUp, reduceCtorEq, reduceIte, Int.reduceEq, Int.reduceNe]
      refine loop_st (rmSt ws al (count + b.length)) (fun n => al.length / 64 - n) (fun n => n ≤ al.length / 64) 0 (Nat.zero_le _) ?_ ?_
      · refine ent_l (fun i => match i with | 1 => 32 | 2 => 56 | _ => 232) ?_ ?_ rfl rfl <;> simp only [wx, wex, wez, stV, Nat.reduceBEq, Nat.reduceAdd, Nat.reduceMul, Nat.reduceSub, Nat.reducePow, Int.reducePow, Int.reduceAdd, Int.reduceSub, Int.reduceMul, Int.reduceNeg, Int.reduceLE, Int.reduceLT, Int.reduceToNat, IntWalk.iteOmega, IntWalk.toNatUp, reduceCtorEq, reduceIte, Int.reduceEq, Int.reduceNe]
      · intro n hn
        have hl8 := foldB_len h1 al n
        by_cases hlt : n < al.length / 64
        · have h2' : ((al.drop (64 * n)).take 64).length = 64 := by rw [List.length_take, List.length_drop]; omega
          have e1 : 64 * n + 64 - 64 * n = 64 := by omega
          have e6 : 64 * (n + 1) - 64 * n = 64 := by omega
          cases n with
          | zero =>
            simp only [lp_rmore_0, rmSt, wx, wy, wz, stV, Nat.reduceBEq, Nat.reduceAdd, Nat.reduceMul, Nat.reduceSub, Nat.reducePow, Int.reducePow, Int.reduceAdd, Int.reduceSub, Int.reduceMul, Int.reduceNeg, Int.reduceLE, Int.reduceLT, Int.reduceToNat, IntWalk.iteOmega, IntWalk.toNatUp, reduceCtorEq, reduceIte, Int.reduceEq, Int.reduceNe]
            refine st_call (rblock_c G ws (al.take 64) h1 h2') ?_ (.inr (fl_w _ _)) ?_
            · simp only [wx, wy, wz, stV, Nat.reduceBEq, Nat.reduceAdd, Nat.reduceMul, Nat.reduceSub, Nat.reducePow, Int.reducePow, Int.reduceAdd, Int.reduceSub, Int.reduceMul, Int.reduceNeg, Int.reduceLE, Int.reduceLT, Int.reduceToNat, IntWalk.iteOmega, IntWalk.toNatUp, reduceCtorEq, reduceIte, Int.reduceEq, Int.reduceNe, obSl, List.take_length]
            simp only [wx, wy, wz, stV, Nat.reduceBEq, Nat.reduceAdd, Nat.reduceMul, Nat.reduceSub, Nat.reducePow, Int.reducePow, Int.reduceAdd, Int.reduceSub, Int.reduceMul, Int.reduceNeg, Int.reduceLE, Int.reduceLT, Int.reduceToNat, IntWalk.iteOmega, IntWalk.toNatUp, reduceCtorEq, reduceIte, Int.reduceEq, Int.reduceNe]
            refine lop_next 1 (by omega) (by omega) (ent_l id ?_ ?_ rfl rfl) <;> simp only [wx, wex, wez, stV, Nat.reduceBEq, Nat.reduceAdd, Nat.reduceMul, Nat.reduceSub, Nat.reducePow, Int.reducePow, Int.reduceAdd, Int.reduceSub, Int.reduceMul, Int.reduceNeg, Int.reduceLE, Int.reduceLT, Int.reduceToNat, IntWalk.iteOmega, IntWalk.toNatUp, reduceCtorEq, reduceIte, Int.reduceEq, Int.reduceNe, foldB, List.drop_zero]
          | succ n =>
            have e7 : 64 * ((n : Int) + 1) + 64 = 64 * ((n : Int) + 1 + 1) := by omega
            simp only [lp_rmore_0, rmSt, wx, wy, wz, stV, Nat.reduceBEq, Nat.reduceAdd, Nat.reduceMul, Nat.reduceSub, Nat.reducePow, Int.reducePow, Int.reduceAdd, Int.reduceSub, Int.reduceMul, Int.reduceNeg, Int.reduceLE, Int.reduceLT, Int.reduceToNat, IntWalk.iteOmega, IntWalk.toNatUp, reduceCtorEq, reduceIte, Int.reduceEq, Int.reduceNe, e1]
            refine st_call (rblock_c G (foldB ws al (n + 1)) ((al.drop (64 * (n + 1))).take 64) hl8 h2') ?_ (.inl rfl) ?_
            · simp only [wx, wy, wz, stV, Nat.reduceBEq, Nat.reduceAdd, Nat.reduceMul, Nat.reduceSub, Nat.reducePow, Int.reducePow, Int.reduceAdd, Int.reduceSub, Int.reduceMul, Int.reduceNeg, Int.reduceLE, Int.reduceLT, Int.reduceToNat, IntWalk.iteOmega, IntWalk.toNatUp, reduceCtorEq, reduceIte, Int.reduceEq, Int.reduceNe, e1]
            simp only [wx, wy, wz, stV, Nat.reduceBEq, Nat.reduceAdd, Nat.reduceMul, Nat.reduceSub, Nat.reducePow, Int.reducePow, Int.reduceAdd, Int.reduceSub, Int.reduceMul, Int.reduceNeg, Int.reduceLE, Int.reduceLT, Int.reduceToNat, IntWalk.iteOmega, IntWalk.toNatUp, reduceCtorEq, reduceIte, Int.reduceEq, Int.reduceNe]
            refine lop_next (n + 1 + 1) (by omega) (by omega) (ent_l id ?_ ?_ rfl rfl) <;> simp only [wx, wex, wez, stV, Nat.reduceBEq, Nat.reduceAdd, Nat.reduceMul, Nat.reduceSub, Nat.reducePow, Int.reducePow, Int.reduceAdd, Int.reduceSub, Int.reduceMul, Int.reduceNeg, Int.reduceLE, Int.reduceLT, Int.reduceToNat, IntWalk.iteOmega, IntWalk.toNatUp, reduceCtorEq, reduceIte, Int.reduceEq, Int.reduceNe, foldB, e7]
        · obtain rfl : n = al.length / 64 := by omega
          generalize hnn : al.length / 64 = n at *
          cases n with
          | zero =>
            simp only [lp_rmore_0, rmSt, wx, wy, wz, stV, Nat.reduceBEq, Nat.reduceAdd, Nat.reduceMul, Nat.reduceSub, Nat.reducePow, Int.reducePow, Int.reduceAdd, Int.reduceSub, Int.reduceMul, Int.reduceNeg, Int.reduceLE, Int.reduceLT, Int.reduceToNat, IntWalk.iteOmega, IntWalk.toNatUp, reduceCtorEq, reduceIte, Int.reduceEq, Int.reduceNe]
            refine st_call hj2 ?_ (.inl rfl) ?_
            · simp only [wx, wy, wz, stV, Nat.reduceBEq, Nat.reduceAdd, Nat.reduceMul, Nat.reduceSub, Nat.reducePow, Int.reducePow, Int.reduceAdd, Int.reduceSub, Int.reduceMul, Int.reduceNeg, Int.reduceLE, Int.reduceLT, Int.reduceToNat, IntWalk.iteOmega, IntWalk.toNatUp, reduceCtorEq, reduceIte, Int.reduceEq, Int.reduceNe, Nat.mul_zero, List.drop_zero, Nat.sub_zero, List.take_length]
            simp only [wx, wy, wz, stV, Nat.reduceBEq, Nat.reduceAdd, Nat.reduceMul, Nat.reduceSub, Nat.reducePow, Int.reducePow, Int.reduceAdd, Int.reduceSub, Int.reduceMul, Int.reduceNeg, Int.reduceLE, Int.reduceLT, Int.reduceToNat, IntWalk.iteOmega, IntWalk.toNatUp, reduceCtorEq, reduceIte, Int.reduceEq, Int.reduceNe]
            exact ret_d2 (by simp only [wx, wy, wz, stV, Nat.reduceBEq, Nat.reduceAdd, Nat.reduceMul, Nat.reduceSub, Nat.reducePow, Int.reducePow, Int.reduceAdd, Int.reduceSub, Int.reduceMul, Int.reduceNeg, Int.reduceLE, Int.reduceLT, Int.reduceToNat, IntWalk.iteOmega, IntWalk.toNatUp, reduceCtorEq, reduceIte, Int.reduceEq, Int.reduceNe, toDs, toD, obSl, List.take_length, List.drop_zero, Nat.mul_zero, foldB]) (by simp only [wx, wy, wz, stV, Nat.reduceBEq, Nat.reduceAdd, Nat.reduceMul, Nat.reduceSub, Nat.reducePow, Int.reducePow, Int.reduceAdd, Int.reduceSub, Int.reduceMul, Int.reduceNeg, Int.reduceLE, Int.reduceLT, Int.reduceToNat, IntWalk.iteOmega, IntWalk.toNatUp, reduceCtorEq, reduceIte, Int.reduceEq, Int.reduceNe])
          | succ n =>
            simp only [lp_rmore_0, rmSt, wx, wy, wz, stV, Nat.reduceBEq, Nat.reduceAdd, Nat.reduceMul, Nat.reduceSub, Nat.reducePow, Int.reducePow, Int.reduceAdd, Int.reduceSub, Int.reduceMul, Int.reduceNeg, Int.reduceLE, Int.reduceLT, Int.reduceToNat, IntWalk.iteOmega, IntWalk.toNatUp, reduceCtorEq, reduceIte, Int.reduceEq, Int.reduceNe, e9]
            refine st_call hj2 ?_ (.inl rfl) ?_
            · simp only [wx, wy, wz, stV, Nat.reduceBEq, Nat.reduceAdd, Nat.reduceMul, Nat.reduceSub, Nat.reducePow, Int.reducePow, Int.reduceAdd, Int.reduceSub, Int.reduceMul, Int.reduceNeg, Int.reduceLE, Int.reduceLT, Int.reduceToNat, IntWalk.iteOmega, IntWalk.toNatUp, reduceCtorEq, reduceIte, Int.reduceEq, Int.reduceNe]
            simp only [wx, wy, wz, stV, Nat.reduceBEq, Nat.reduceAdd, Nat.reduceMul, Nat.reduceSub, Nat.reducePow, Int.reducePow, Int.reduceAdd, Int.reduceSub, Int.reduceMul, Int.reduceNeg, Int.reduceLE, Int.reduceLT, Int.reduceToNat, IntWalk.iteOmega, IntWalk.toNatUp, reduceCtorEq, reduceIte, Int.reduceEq, Int.reduceNe]
            exact ret_d2 (by simp only [wx, wy, wz, stV, Nat.reduceBEq, Nat.reduceAdd, Nat.reduceMul, Nat.reduceSub, Nat.reducePow, Int.reducePow, Int.reduceAdd, Int.reduceSub, Int.reduceMul, Int.reduceNeg, Int.reduceLE, Int.reduceLT, Int.reduceToNat, IntWalk.iteOmega, IntWalk.toNatUp, reduceCtorEq, reduceIte, Int.reduceEq, Int.reduceNe, toDs, toD]) (by simp only [wx, wy, wz, stV, Nat.reduceBEq, Nat.reduceAdd, Nat.reduceMul, Nat.reduceSub, Nat.reducePow, Int.reducePow, Int.reduceAdd, Int.reduceSub, Int.reduceMul, Int.reduceNeg, Int.reduceLE, Int.reduceLT, Int.reduceToNat, IntWalk.iteOmega, IntWalk.toNatUp, reduceCtorEq, reduceIte, Int.reduceEq, Int.reduceNe])
    · rw [moreK_long hv hb]
      simp only [sf_rmore, putAll, wx, wy, wz, stV, Nat.reduceBEq, Nat.reduceAdd, Nat.reduceMul, Nat.reduceSub, Nat.reducePow, Int.reducePow, Int.reduceAdd, Int.reduceSub, Int.reduceMul, Int.reduceNeg, Int.reduceLE, Int.reduceLT, Int.reduceToNat, IntWalk.iteOmega, IntWalk.toNatUp, reduceCtorEq, reduceIte, Int.reduceEq, Int.reduceNe]
      refine st_call hc rfl (.inl rfl) ?_
      simp only [wx, wy, wz, stV, Nat.reduceBEq, Nat.reduceAdd, Nat.reduceMul, Nat.reduceSub, Nat.reducePow, Int.reducePow, Int.reduceAdd, Int.reduceSub, Int.reduceMul, Int.reduceNeg, Int.reduceLE, Int.reduceLT, Int.reduceToNat, IntWalk.iteOmega, IntWalk.toNatUp, reduceCtorEq, reduceIte, Int.reduceEq, Int.reduceNe]
      exact ret_d2 (by simp only [wx, wy, wz, stV, Nat.reduceBEq, Nat.reduceAdd, Nat.reduceMul, Nat.reduceSub, Nat.reducePow, Int.reducePow, Int.reduceAdd, Int.reduceSub, Int.reduceMul, Int.reduceNeg, Int.reduceLE, Int.reduceLT, Int.reduceToNat, IntWalk.iteOmega, IntWalk.toNatUp, reduceCtorEq, reduceIte, Int.reduceEq, Int.reduceNe, toDs, toD]; rfl) (by simp only [wx, wy, wz, stV, Nat.reduceBEq, Nat.reduceAdd, Nat.reduceMul, Nat.reduceSub, Nat.reducePow, Int.reducePow, Int.reduceAdd, Int.reduceSub, Int.reduceMul, Int.reduceNeg, Int.reduceLE, Int.reduceLT, Int.reduceToNat, IntWalk.iteOmega, IntWalk.toNatUp, reduceCtorEq, reduceIte, Int.reduceEq, Int.reduceNe])

theorem take_eq_succ {α : Type} [DecidableEq α] {l m : List α} (h : l.length = m.length) {i : Nat} (hi : i < l.length) (ht : l.take i = m.take i) : l.take (i + 1) = m.take (i + 1) ↔ l[i] = m[i] := by
  rw [List.take_succ_eq_append_getElem hi, List.take_succ_eq_append_getElem (show i < m.length by omega), ht]
  constructor
  · intro e
    have := List.append_cancel_left e
    simpa using this
  · intro e
    rw [e]
def sameH (ws vs : List UInt32) (r s : List UInt8) (c d : Int) : Bool := decide (ws = vs ∧ c = d ∧ r = s)
def rssSt (ws vs : List UInt32) (r s : List UInt8) (c d : Int) (i : Nat) : St := ⟨ofL [(2, .w (.c (.rp [.sl (ws.map wD), .sl (r.map bD), .int .i64 c]))), (3, .w (.c (.rp [.sl (vs.map wD), .sl (s.map bD), .int .i64 d]))), (5, .w (.c (.d (.int .i64 (i : Int)))))], hL [], uL []⟩
def lp_rss_0 : SCode :=
  .seq (.seq (.reg [⟨(some 28), .mv (.t 5), none⟩,
    ⟨(some 29), .fieldAddr 0 (.t 2), none⟩,
    ⟨(some 30), .load .sc (.t 29), none⟩,
    ⟨(some 31), .len (.t 30), none⟩,
    ⟨(some 32), .bin .lss (.t 28) (.t 31), none⟩])
  (.cond (.t 32) (.skip)
   (.exit 0)))
  (.seq (.block 1 (.seq (.reg [⟨(some 35), .fieldAddr 0 (.t 2), none⟩,
     ⟨(some 36), .load .sc (.t 35), none⟩,
     ⟨(some 37), .mv (.t 5), none⟩,
     ⟨(some 38), .idxSl 1 (.t 36) (.t 37), none⟩,
     ⟨(some 39), .load .sc (.t 38), none⟩,
     ⟨(some 40), .fieldAddr 0 (.t 3), none⟩,
     ⟨(some 41), .load .sc (.t 40), none⟩,
     ⟨(some 42), .mv (.t 5), none⟩,
     ⟨(some 43), .idxSl 1 (.t 41) (.t 42), none⟩,
     ⟨(some 44), .load .sc (.t 43), none⟩,
     ⟨(some 45), .bin .neq (.t 39) (.t 44), none⟩])
   (.cond (.t 45) (.seq (.reg [⟨(some 4), .mv (.k (.c (.d (.bool false)))), none⟩])
    (.ret))
    (.skip))))
  (.reg [⟨(some 33), .mv (.t 5), none⟩,
    ⟨(some 34), .bin .add (.t 33) (.k (.c (.d (.int .i64 1)))), none⟩,
    ⟨(some 5), .mv (.t 34), none⟩]))
def sf_rss : SFn := ⟨2, 46,
  .seq (.reg [⟨(some 2), .box .roBox (.t 0), none⟩,
    ⟨(some 3), .box .roBox (.t 1), none⟩,
    ⟨(some 4), .mv (.k (.c (.d (.bool false)))), none⟩])
  (.seq (.seq (.reg [⟨(some 6), .fieldAddr 0 (.t 2), none⟩,
    ⟨(some 7), .load .sc (.t 6), none⟩,
    ⟨(some 8), .len (.t 7), none⟩,
    ⟨(some 9), .fieldAddr 0 (.t 3), none⟩,
    ⟨(some 10), .load .sc (.t 9), none⟩,
    ⟨(some 11), .len (.t 10), none⟩,
    ⟨(some 12), .bin .neq (.t 8) (.t 11), none⟩,
    ⟨(some 13), .mv (.t 12), none⟩,
    ⟨(some 14), .fieldAddr 2 (.t 2), (some (13, false))⟩,
    ⟨(some 15), .load .sc (.t 14), (some (13, false))⟩,
    ⟨(some 16), .fieldAddr 2 (.t 3), (some (13, false))⟩,
    ⟨(some 17), .load .sc (.t 16), (some (13, false))⟩,
    ⟨(some 18), .bin .neq (.t 15) (.t 17), (some (13, false))⟩,
    ⟨(some 19), .pick (.t 13) (.k (.c (.d (.bool true)))) (.t 18), none⟩,
    ⟨(some 20), .mv (.t 19), none⟩,
    ⟨(some 21), .fieldAddr 1 (.t 2), (some (20, false))⟩,
    ⟨(some 22), .load .sc (.t 21), (some (20, false))⟩,
    ⟨(some 23), .fieldAddr 1 (.t 3), (some (20, false))⟩,
    ⟨(some 24), .load .sc (.t 23), (some (20, false))⟩,
    ⟨(some 25), .call 10 [(.t 22), (.t 24)] none, (some (20, false))⟩,
    ⟨(some 26), .un .not (.t 25), (some (20, false))⟩,
    ⟨(some 27), .pick (.t 20) (.k (.c (.d (.bool true)))) (.t 26), none⟩])
  (.cond (.t 27) (.seq (.reg [⟨(some 4), .mv (.k (.c (.d (.bool false)))), none⟩])
   (.ret))
   (.skip)))
  (.seq (.seq (.reg [⟨(some 5), .mv (.k (.c (.d (.int .i64 0)))), none⟩])
  (.block 0 (.loop lp_rss_0)))
  (.seq (.reg [⟨(some 4), .mv (.k (.c (.d (.bool true)))), none⟩])
  (.ret)))),
  [(4, none)]⟩
theorem cf_rss : compFn Tryd.prog { own := [], comp := [], frz := [], nils := [] } Tryd.f25 = some sf_rss := by kernel_rfl
set_option maxHeartbeats 1600000 in
theorem rss_c (G : Glob) (ws vs : List UInt32) (r s : List UInt8) (c d : Int) (hmax : ws.length ≤ 9223372036854775807) : Den Tryd.prog G 25 [hsD ws r c, hsD vs s d] (.w (.c (.d (.bool (sameH ws vs r s c d))))) := by
  refine den_walk Tryd.func25 cf_rss rfl rfl ?_
  by_cases h1 : ws.length = vs.length
  · by_cases h2 : c = d
    · subst h2
      have hsm := rsame_c G r s
      by_cases h3 : r = s
      · have hv : (r == s) = true := by simpa using h3
        rw [hv] at hsm
        simp only [sf_rss, putAll, wx, wy, wz, stV, Nat.reduceBEq, Nat.reduceAdd, Nat.reduceMul, Nat.reduceSub, Nat.reducePow, Int.reducePow, Int.reduceAdd, Int.reduceSub, Int.reduceMul, Int.reduceNeg, Int.reduceLE, Int.reduceLT, Int.reduceToNat, IntWalk.iteOmega, IntWalk.toNatUp, reduceCtorEq, reduceIte, Int.reduceEq, Int.reduceNe]
        refine st_call hsm rfl (.inl rfl) ?_
        simp only [wx, wy, wz, stV, Nat.reduceBEq, Nat.reduceAdd, Nat.reduceMul, Nat.reduceSub, Nat.reducePow, Int.reducePow, Int.reduceAdd, Int.reduceSub, Int.reduceMul, Int.reduceNeg, Int.reduceLE, Int.reduceLT, Int.reduceToNat, IntWalk.iteOmega, IntWalk.toNatUp, reduceCtorEq, reduceIte, Int.reduceEq, Int.reduceNe]
        refine loop_st (rssSt ws vs r s c c) (fun i => ws.length - i) (fun i => i ≤ ws.length ∧ ws.take i = vs.take i) 0 ⟨Nat.zero_le _, rfl⟩ ?_ ?_
        · refine ent_l id ?_ ?_ rfl rfl <;> simp only [wx, wex, wez, stV, Nat.reduceBEq, Nat.reduceAdd, Nat.reduceMul, Nat.reduceSub, Nat.reducePow, Int.reducePow, Int.reduceAdd, Int.reduceSub, Int.reduceMul, Int.reduceNeg, Int.reduceLE, Int.reduceLT, Int.reduceToNat, IntWalk.iteOmega, IntWalk.toNatUp, reduceCtorEq, reduceIte, Int.reduceEq, Int.reduceNe]
        · rintro i ⟨hi, ht⟩
          by_cases hlt : i < ws.length
          · have e1 := get_ws (ws := ws) hlt
            have e2 := get_ws (ws := vs) (k := i) (by omega)
            have g1 : ws.getD i 0 = ws[i] := by simp [hlt]
            have hlt2 : i < vs.length := by omega
            have g2 : vs.getD i 0 = vs[i] := by simp [hlt2]
            by_cases he : ws[i] = vs[i]
            · have hb : (ws.getD i 0 != vs.getD i 0) = false := by rw [g1, g2, he]; simp
              simp only [lp_rss_0, rssSt, wx, wy, wz, stV, Nat.reduceBEq, Nat.reduceAdd, Nat.reduceMul, Nat.reduceSub, Nat.reducePow, Int.reducePow, Int.reduceAdd, Int.reduceSub, Int.reduceMul, Int.reduceNeg, Int.reduceLE, Int.reduceLT, Int.reduceToNat, IntWalk.iteOmega, IntWalk.toNatUp, reduceCtorEq, reduceIte, Int.reduceEq, Int.reduceNe, e1, e2, hb]
              refine lop_next (i + 1) (by omega) ⟨by omega, (take_eq_succ h1 hlt ht).2 he⟩ (ent_l id ?_ ?_ rfl rfl) <;> simp only [wx, wex, wez, stV, Nat.reduceBEq, Nat.reduceAdd, Nat.reduceMul, Nat.reduceSub, Nat.reducePow, Int.reducePow, Int.reduceAdd, Int.reduceSub, Int.reduceMul, Int.reduceNeg, Int.reduceLE, Int.reduceLT, Int.reduceToNat, IntWalk.iteOmega, IntWalk.toNatUp, reduceCtorEq, reduceIte, Int.reduceEq, Int.reduceNe]
            · have hb : (ws.getD i 0 != vs.getD i 0) = true := by rw [g1, g2]; simpa using he
              have hv : sameH ws vs r s c c = false := by
                simp only [sameH, decide_eq_false_iff_not]
                rintro ⟨rfl, _⟩
                exact he rfl
              simp only [lp_rss_0, rssSt, wx, wy, wz, stV, Nat.reduceBEq, Nat.reduceAdd, Nat.reduceMul, Nat.reduceSub, Nat.reducePow, Int.reducePow, Int.reduceAdd, Int.reduceSub, Int.reduceMul, Int.reduceNeg, Int.reduceLE, Int.reduceLT, Int.reduceToNat, IntWalk.iteOmega, IntWalk.toNatUp, reduceCtorEq, reduceIte, Int.reduceEq, Int.reduceNe, e1, e2, hb, hv]
              exact ret_d1 (by simp only [wx, wy, wz, stV, Nat.reduceBEq, Nat.reduceAdd, Nat.reduceMul, Nat.reduceSub, Nat.reducePow, Int.reducePow, Int.reduceAdd, Int.reduceSub, Int.reduceMul, Int.reduceNeg, Int.reduceLE, Int.reduceLT, Int.reduceToNat, IntWalk.iteOmega, IntWalk.toNatUp, reduceCtorEq, reduceIte, Int.reduceEq, Int.reduceNe])
          · obtain rfl : i = ws.length := by omega
            have hv : sameH ws vs r s c c = true := by
              simp only [sameH, decide_eq_true_eq]
              refine ⟨?_, trivial, h3⟩
              rw [List.take_length, h1, List.take_length] at ht
              exact ht
            simp only [lp_rss_0, rssSt, wx, wy, wz, stV, Nat.reduceBEq, Nat.reduceAdd, Nat.reduceMul, Nat.reduceSub, Nat.reducePow, Int.reducePow, Int.reduceAdd, Int.reduceSub, Int.reduceMul, Int.reduceNeg, Int.reduceLE, Int.reduceLT, Int.reduceToNat, IntWalk.iteOmega, IntWalk.toNatUp, reduceCtorEq, reduceIte, Int.reduceEq, Int.reduceNe, hv]
            exact ret_d1 (by simp only [wx, wy, wz, stV, Nat.reduceBEq, Nat.reduceAdd, Nat.reduceMul, Nat.reduceSub, Nat.reducePow, Int.reducePow, Int.reduceAdd, Int.reduceSub, Int.reduceMul, Int.reduceNeg, Int.reduceLE, Int.reduceLT, Int.reduceToNat, IntWalk.iteOmega, IntWalk.toNatUp, reduceCtorEq, reduceIte, Int.reduceEq, Int.reduceNe])
      · have hv : (r == s) = false := by simpa using h3
        rw [hv] at hsm
        have hv2 : sameH ws vs r s c c = false := by
          simp only [sameH, decide_eq_false_iff_not]; exact fun h => h3 h.2.2
        simp only [sf_rss, putAll, wx, wy, wz, stV, Nat.reduceBEq, Nat.reduceAdd, Nat.reduceMul, Nat.reduceSub, Nat.reducePow, Int.reducePow, Int.reduceAdd, Int.reduceSub, Int.reduceMul, Int.reduceNeg, Int.reduceLE, Int.reduceLT, Int.reduceToNat, IntWalk.iteOmega, IntWalk.toNatUp, reduceCtorEq, reduceIte, Int.reduceEq, Int.reduceNe]
        refine st_call hsm rfl (.inl rfl) ?_
        simp only [wx, wy, wz, stV, Nat.reduceBEq, Nat.reduceAdd, Nat.reduceMul, Nat.reduceSub, Nat.reducePow, Int.reducePow, Int.reduceAdd, Int.reduceSub, Int.reduceMul, Int.reduceNeg, Int.reduceLE, Int.reduceLT, Int.reduceToNat, IntWalk.iteOmega, IntWalk.toNatUp, reduceCtorEq, reduceIte, Int.reduceEq, Int.reduceNe]
        exact ret_d1 (by simp only [wx, wy, wz, stV, Nat.reduceBEq, Nat.reduceAdd, Nat.reduceMul, Nat.reduceSub, Nat.reducePow, Int.reducePow, Int.reduceAdd, Int.reduceSub, Int.reduceMul, Int.reduceNeg, Int.reduceLE, Int.reduceLT, Int.reduceToNat, IntWalk.iteOmega, IntWalk.toNatUp, reduceCtorEq, reduceIte, Int.reduceEq, Int.reduceNe, hv2])
    · have hv2 : sameH ws vs r s c d = false := by
        simp only [sameH, decide_eq_false_iff_not]; exact fun h => h2 h.2.1
      simp only [sf_rss, putAll, wx, wy, wz, stV, Nat.reduceBEq, Nat.reduceAdd, Nat.reduceMul, Nat.reduceSub, Nat.reducePow, Int.reducePow, Int.reduceAdd, Int.reduceSub, Int.reduceMul, Int.reduceNeg, Int.reduceLE, Int.reduceLT, Int.reduceToNat, IntWalk.iteOmega, IntWalk.toNatUp, reduceCtorEq, reduceIte, Int.reduceEq, Int.reduceNe, h2, hv2]
      exact ret_d1 (by simp only [wx, wy, wz, stV, Nat.reduceBEq, Nat.reduceAdd, Nat.reduceMul, Nat.reduceSub, Nat.reducePow, Int.reducePow, Int.reduceAdd, Int.reduceSub, Int.reduceMul, Int.reduceNeg, Int.reduceLE, Int.reduceLT, Int.reduceToNat, IntWalk.iteOmega, IntWalk.toNatUp, reduceCtorEq, reduceIte, Int.reduceEq, Int.reduceNe])
  · have hv2 : sameH ws vs r s c d = false := by
      simp only [sameH, decide_eq_false_iff_not]; exact fun h => h1 (by rw [h.1])
    simp only [sf_rss, putAll, wx, wy, wz, stV, Nat.reduceBEq, Nat.reduceAdd, Nat.reduceMul, Nat.reduceSub, Nat.reducePow, Int.reducePow, Int.reduceAdd, Int.reduceSub, Int.reduceMul, Int.reduceNeg, Int.reduceLE, Int.reduceLT, Int.reduceToNat, IntWalk.iteOmega, IntWalk.toNatUp, reduceCtorEq, reduceIte, Int.reduceEq, Int.reduceNe, h1, hv2]
    exact ret_d1 (by simp only [wx, wy, wz, stV, Nat.reduceBEq, Nat.reduceAdd, Nat.reduceMul, Nat.reduceSub, Nat.reducePow, Int.reducePow, Int.reduceAdd, Int.reduceSub, Int.reduceMul, Int.reduceNeg, Int.reduceLE, Int.reduceLT, Int.reduceToNat, IntWalk.iteOmega, IntWalk.toNatUp, reduceCtorEq, reduceIte, Int.reduceEq, Int.reduceNe])
end Go.Proofs.YtakkgbpgobbcmaaDoor
