/- The laws of layer 5. Own work. -/
import Derived.Test.YtnadfnnkdnakhaaAlV
import Derived.Test.YtnadfnnkdnakhaaPw1
import Derived.Test.YtnadfnnkdnakhaaPm3
import Derived.Test.YtnadfnnkdnakhaaLe0
set_option linter.unusedVariables false
set_option linter.unusedSimpArgs false
namespace Go.Proofs.Ytnadfnnkdnakhaa
open Go.RowKit

theorem binS_lst (a b : ByteArray) : binS .eql a b = some (.bool (a.data.toList == b.data.toList)) := by
  cases a; cases b
  rename_i x y
  have h := binS_same x.toList y.toList
  simpa using h
theorem macV_ok {key b : List UInt8} (h : key.length = 16) (hb : b.length ≤ 65535) : macV key b = macM (rkK key) b := if_pos ⟨h, hb⟩
theorem macE_ok {key b : List UInt8} (h : key.length = 16) (hb : b.length ≤ 65535) : macE key b = 0 := by unfold macE; rw [if_neg (by omega), if_neg (by omega)]
theorem macV_5n : macV key5 [] = macM (rkK key5) [] := macV_ok rfl (by decide)
theorem macV_5b : macV key5 in5 = macM (rkK key5) in5 := macV_ok rfl (by decide)
theorem macE_5n : macE key5 [] = 0 := rfl
theorem macE_5b : macE key5 in5 = 0 := rfl
def sf_known5 : SFn := ⟨0, 44,
  .seq (.reg [⟨(some 0), .mv (.k (.c (.d (.bool false)))), none⟩])
  (.seq (.reg [⟨(some 10), .call 22 [(.k (.c (.d (.str ⟨#[50, 98, 55, 101, 49, 53, 49, 54, 50, 56, 97, 101, 100, 50, 97, 54, 97, 98, 102, 55, 49, 53, 56, 56, 48, 57, 99, 102, 52, 102, 51, 99]⟩))))] none, none⟩,
    ⟨(some 9), .mv (.t 10), none⟩,
    ⟨(some 11), .extract (.t 9) 0, none⟩,
    ⟨(some 12), .extract (.t 9) 1, none⟩,
    ⟨(some 1), .mv (.t 11), none⟩,
    ⟨(some 2), .mv (.t 12), none⟩])
  (.seq (.reg [⟨(some 14), .call 22 [(.k (.c (.d (.str ⟨#[54, 98, 99, 49, 98, 101, 101, 50, 50, 101, 52, 48, 57, 102, 57, 54, 101, 57, 51, 100, 55, 101, 49, 49, 55, 51, 57, 51, 49, 55, 50, 97]⟩))))] none, none⟩,
    ⟨(some 13), .mv (.t 14), none⟩,
    ⟨(some 15), .extract (.t 13) 0, none⟩,
    ⟨(some 16), .extract (.t 13) 1, none⟩,
    ⟨(some 3), .mv (.t 15), none⟩,
    ⟨(some 4), .mv (.t 16), none⟩])
  (.seq (.reg [⟨(some 18), .mv (.t 1), none⟩,
    ⟨(some 19), .call 10 [(.t 18), (.k (.c .nil))] none, none⟩,
    ⟨(some 17), .mv (.t 19), none⟩,
    ⟨(some 20), .extract (.t 17) 0, none⟩,
    ⟨(some 21), .extract (.t 17) 1, none⟩,
    ⟨(some 5), .mv (.t 20), none⟩,
    ⟨(some 6), .mv (.t 21), none⟩])
  (.seq (.reg [⟨(some 23), .mv (.t 1), none⟩,
    ⟨(some 24), .mv (.t 3), none⟩,
    ⟨(some 25), .call 10 [(.t 23), (.t 24)] none, none⟩,
    ⟨(some 22), .mv (.t 25), none⟩,
    ⟨(some 26), .extract (.t 22) 0, none⟩,
    ⟨(some 27), .extract (.t 22) 1, none⟩,
    ⟨(some 7), .mv (.t 26), none⟩,
    ⟨(some 8), .mv (.t 27), none⟩])
  (.seq (.reg [⟨(some 28), .mv (.t 6), none⟩,
    ⟨(some 29), .bin .eql (.t 28) (.k (.c (.d (.int .i64 0)))), none⟩,
    ⟨(some 30), .mv (.t 29), none⟩,
    ⟨(some 31), .mv (.t 8), (some (30, true))⟩,
    ⟨(some 32), .bin .eql (.t 31) (.k (.c (.d (.int .i64 0)))), (some (30, true))⟩,
    ⟨(some 33), .pick (.t 30) (.t 32) (.k (.c (.d (.bool false)))), none⟩,
    ⟨(some 34), .mv (.t 33), none⟩,
    ⟨(some 35), .mv (.t 5), (some (34, true))⟩,
    ⟨(some 36), .call 23 [(.t 35)] none, (some (34, true))⟩,
    ⟨(some 37), .bin .eql (.t 36) (.k (.c (.d (.str ⟨#[98, 98, 49, 100, 54, 57, 50, 57, 101, 57, 53, 57, 51, 55, 50, 56, 55, 102, 97, 51, 55, 100, 49, 50, 57, 98, 55, 53, 54, 55, 52, 54]⟩)))), (some (34, true))⟩,
    ⟨(some 38), .pick (.t 34) (.t 37) (.k (.c (.d (.bool false)))), none⟩,
    ⟨(some 39), .mv (.t 38), none⟩,
    ⟨(some 40), .mv (.t 7), (some (39, true))⟩,
    ⟨(some 41), .call 23 [(.t 40)] none, (some (39, true))⟩,
    ⟨(some 42), .bin .eql (.t 41) (.k (.c (.d (.str ⟨#[48, 55, 48, 97, 49, 54, 98, 52, 54, 98, 52, 100, 52, 49, 52, 52, 102, 55, 57, 98, 100, 100, 57, 100, 100, 48, 52, 97, 50, 56, 55, 99]⟩)))), (some (39, true))⟩,
    ⟨(some 43), .pick (.t 39) (.t 42) (.k (.c (.d (.bool false)))), none⟩,
    ⟨(some 0), .mv (.t 43), none⟩])
  (.ret)))))),
  [(0, none)]⟩
theorem cf_known5 : compFn Try.prog { own := [], comp := [], frz := [], nils := [] } Try.f7 = some sf_known5 := by kernel_rfl
set_option maxHeartbeats 1600000 in
theorem known5_c (G : Glob) : Den Try.prog G 7 [] (.w (.c (.d (.bool true)))) := by
  refine den_walk Try.func7 cf_known5 rfl rfl ?_
  have l1 : (macM (rkK key5) []).length ≤ 1099511627776 := by rw [macM_len]; decide
  have l2 : (macM (rkK key5) in5).length ≤ 1099511627776 := by rw [macM_len]; decide
  simp only [sf_known5, putAll, wx, wy, wz, stV, seval, IntWalk.iteOmega, IntWalk.toNatUp, reduceCtorEq]
  refine st_call (unhex_c G ⟨#[50, 98, 55, 101, 49, 53, 49, 54, 50, 56, 97, 101, 100, 50, 97, 54, 97, 98, 102, 55, 49, 53, 56, 56, 48, 57, 99, 102, 52, 102, 51, 99]⟩ (by decide)) rfl (.inl rfl) ?_
  simp only [unh5k, uno5k, wx, wy, wz, stV, seval, IntWalk.iteOmega, IntWalk.toNatUp, reduceCtorEq]
  refine st_call (unhex_c G ⟨#[54, 98, 99, 49, 98, 101, 101, 50, 50, 101, 52, 48, 57, 102, 57, 54, 101, 57, 51, 100, 55, 101, 49, 49, 55, 51, 57, 51, 49, 55, 50, 97]⟩ (by decide)) rfl (.inl rfl) ?_
  simp only [unh5i, uno5i, wx, wy, wz, stV, seval, IntWalk.iteOmega, IntWalk.toNatUp, reduceCtorEq]
  refine st_call (cmac_c G key5 [] (by decide) (by decide)) rfl (.inl rfl) ?_
  simp only [macV_5n, macE_5n, wx, wy, wz, stV, seval, IntWalk.iteOmega, IntWalk.toNatUp, reduceCtorEq]
  refine st_call (cmac_c G key5 in5 (by decide) (by decide)) rfl (.inl rfl) ?_
  simp only [macV_5b, macE_5b, wx, wy, wz, stV, seval, IntWalk.iteOmega, IntWalk.toNatUp, reduceCtorEq]
  refine st_call (hex_c G (macM (rkK key5) []) l1) rfl (.inl rfl) ?_
  simp only [binS_lst, hex5n, beq_self_eq_true, wx, wy, wz, stV, seval, IntWalk.iteOmega, IntWalk.toNatUp, reduceCtorEq]
  refine st_call (hex_c G (macM (rkK key5) in5) l2) rfl (.inl rfl) ?_
  simp only [binS_lst, hex5b, beq_self_eq_true, wx, wy, wz, stV, seval, IntWalk.iteOmega, IntWalk.toNatUp, reduceCtorEq]
  exact ret_d1 (by simp only [wx, wy, wz, stV, seval, IntWalk.iteOmega, IntWalk.toNatUp, reduceCtorEq])
def actSt (key b : List UInt8) (l : List (List UInt8)) (i : Nat) : St := ⟨ofL [(0, .w (.c (.d (.sl (key.map bD))))), (1, .w (.c (.d (.sl (b.map bD))))), (2, .w (.c (.d (.sl (l.map fun l => D.sl (l.map bD)))))), (7, .w (.c (.d (.int .i64 (i : Int)))))], hL [], uL []⟩
def lp_macts_0 : SCode :=
  .seq (.seq (.reg [⟨(some 36), .mv (.t 7), none⟩,
    ⟨(some 37), .mv (.t 2), none⟩,
    ⟨(some 38), .len (.t 37), none⟩,
    ⟨(some 39), .bin .lss (.t 36) (.t 38), none⟩])
  (.cond (.t 39) (.skip)
   (.exit 0)))
  (.seq (.block 1 (.seq (.reg [⟨(some 42), .mv (.t 2), none⟩,
     ⟨(some 43), .mv (.t 7), none⟩,
     ⟨(some 44), .idxSl 1 (.t 42) (.t 43), none⟩,
     ⟨(some 45), .load .sc (.t 44), none⟩,
     ⟨(some 46), .len (.t 45), none⟩,
     ⟨(some 47), .bin .gtr (.t 46) (.k (.c (.d (.int .i64 60)))), none⟩])
   (.cond (.t 47) (.seq (.reg [⟨(some 48), .call 7 [] none, none⟩,
      ⟨(some 6), .mv (.t 48), none⟩])
    (.ret))
    (.skip))))
  (.reg [⟨(some 40), .mv (.t 7), none⟩,
    ⟨(some 41), .bin .add (.t 40) (.k (.c (.d (.int .i64 1)))), none⟩,
    ⟨(some 7), .mv (.t 41), none⟩]))
def sf_macts : SFn := ⟨3, 128,
  .seq (.reg [⟨(some 6), .mv (.k (.c (.d (.bool false)))), none⟩])
  (.seq (.seq (.reg [⟨(some 22), .mv (.t 0), none⟩,
    ⟨(some 23), .len (.t 22), none⟩,
    ⟨(some 24), .bin .gtr (.t 23) (.k (.c (.d (.int .i64 40)))), none⟩,
    ⟨(some 25), .mv (.t 24), none⟩,
    ⟨(some 26), .mv (.t 1), (some (25, false))⟩,
    ⟨(some 27), .len (.t 26), (some (25, false))⟩,
    ⟨(some 28), .bin .gtr (.t 27) (.k (.c (.d (.int .i64 100)))), (some (25, false))⟩,
    ⟨(some 29), .pick (.t 25) (.k (.c (.d (.bool true)))) (.t 28), none⟩,
    ⟨(some 30), .mv (.t 29), none⟩,
    ⟨(some 31), .mv (.t 2), (some (30, false))⟩,
    ⟨(some 32), .len (.t 31), (some (30, false))⟩,
    ⟨(some 33), .bin .gtr (.t 32) (.k (.c (.d (.int .i64 20)))), (some (30, false))⟩,
    ⟨(some 34), .pick (.t 30) (.k (.c (.d (.bool true)))) (.t 33), none⟩])
  (.cond (.t 34) (.seq (.reg [⟨(some 35), .call 7 [] none, none⟩,
     ⟨(some 6), .mv (.t 35), none⟩])
   (.ret))
   (.skip)))
  (.seq (.seq (.reg [⟨(some 7), .mv (.k (.c (.d (.int .i64 0)))), none⟩])
  (.block 0 (.loop lp_macts_0)))
  (.seq (.reg [⟨(some 50), .mv (.t 0), none⟩,
    ⟨(some 51), .call 8 [(.t 50)] none, none⟩,
    ⟨(some 49), .mv (.t 51), none⟩,
    ⟨(some 52), .extract (.t 49) 0, none⟩,
    ⟨(some 53), .extract (.t 49) 1, none⟩,
    ⟨(some 54), .extract (.t 49) 2, none⟩,
    ⟨(some 8), .mv (.t 52), none⟩,
    ⟨(some 9), .mv (.t 53), none⟩,
    ⟨(some 10), .mv (.t 54), none⟩])
  (.seq (.reg [⟨(some 56), .mv (.t 0), none⟩,
    ⟨(some 57), .call 9 [(.t 56)] none, none⟩,
    ⟨(some 55), .mv (.t 57), none⟩,
    ⟨(some 58), .extract (.t 55) 0, none⟩,
    ⟨(some 59), .extract (.t 55) 1, none⟩,
    ⟨(some 60), .extract (.t 55) 2, none⟩,
    ⟨(some 11), .mv (.t 58), none⟩,
    ⟨(some 12), .mv (.t 59), none⟩,
    ⟨(some 13), .mv (.t 60), none⟩])
  (.seq (.reg [⟨(some 62), .mv (.t 0), none⟩,
    ⟨(some 63), .mv (.t 1), none⟩,
    ⟨(some 64), .call 10 [(.t 62), (.t 63)] none, none⟩,
    ⟨(some 61), .mv (.t 64), none⟩,
    ⟨(some 65), .extract (.t 61) 0, none⟩,
    ⟨(some 66), .extract (.t 61) 1, none⟩,
    ⟨(some 14), .mv (.t 65), none⟩,
    ⟨(some 15), .mv (.t 66), none⟩])
  (.seq (.reg [⟨(some 68), .mv (.t 0), none⟩,
    ⟨(some 69), .mv (.t 1), none⟩,
    ⟨(some 70), .call 11 [(.t 68), (.t 69)] none, none⟩,
    ⟨(some 67), .mv (.t 70), none⟩,
    ⟨(some 71), .extract (.t 67) 0, none⟩,
    ⟨(some 72), .extract (.t 67) 1, none⟩,
    ⟨(some 16), .mv (.t 71), none⟩,
    ⟨(some 17), .mv (.t 72), none⟩])
  (.seq (.reg [⟨(some 74), .mv (.t 0), none⟩,
    ⟨(some 75), .mv (.t 2), none⟩,
    ⟨(some 76), .call 12 [(.t 74), (.t 75)] none, none⟩,
    ⟨(some 73), .mv (.t 76), none⟩,
    ⟨(some 77), .extract (.t 73) 0, none⟩,
    ⟨(some 78), .extract (.t 73) 1, none⟩,
    ⟨(some 18), .mv (.t 77), none⟩,
    ⟨(some 19), .mv (.t 78), none⟩])
  (.seq (.reg [⟨(some 80), .mv (.t 0), none⟩,
    ⟨(some 81), .mv (.t 2), none⟩,
    ⟨(some 82), .call 13 [(.t 80), (.t 81)] none, none⟩,
    ⟨(some 79), .mv (.t 82), none⟩,
    ⟨(some 83), .extract (.t 79) 0, none⟩,
    ⟨(some 84), .extract (.t 79) 1, none⟩,
    ⟨(some 20), .mv (.t 83), none⟩,
    ⟨(some 21), .mv (.t 84), none⟩])
  (.seq (.reg [⟨(some 85), .call 7 [] none, none⟩,
    ⟨(some 86), .mv (.t 85), none⟩,
    ⟨(some 87), .mv (.t 1), (some (86, true))⟩,
    ⟨(some 88), .call 15 [(.t 87)] none, (some (86, true))⟩,
    ⟨(some 89), .mv (.t 1), (some (86, true))⟩,
    ⟨(some 90), .call 16 [(.t 89)] none, (some (86, true))⟩,
    ⟨(some 91), .call 14 [(.t 88), (.t 90)] none, (some (86, true))⟩,
    ⟨(some 92), .pick (.t 86) (.t 91) (.k (.c (.d (.bool false)))), none⟩,
    ⟨(some 93), .mv (.t 92), none⟩,
    ⟨(some 94), .mv (.t 10), (some (93, true))⟩,
    ⟨(some 95), .mv (.t 13), (some (93, true))⟩,
    ⟨(some 96), .bin .eql (.t 94) (.t 95), (some (93, true))⟩,
    ⟨(some 97), .pick (.t 93) (.t 96) (.k (.c (.d (.bool false)))), none⟩,
    ⟨(some 98), .mv (.t 97), none⟩,
    ⟨(some 99), .mv (.t 8), (some (98, true))⟩,
    ⟨(some 100), .mv (.t 11), (some (98, true))⟩,
    ⟨(some 101), .call 14 [(.t 99), (.t 100)] none, (some (98, true))⟩,
    ⟨(some 102), .pick (.t 98) (.t 101) (.k (.c (.d (.bool false)))), none⟩,
    ⟨(some 103), .mv (.t 102), none⟩,
    ⟨(some 104), .mv (.t 9), (some (103, true))⟩,
    ⟨(some 105), .mv (.t 12), (some (103, true))⟩,
    ⟨(some 106), .call 14 [(.t 104), (.t 105)] none, (some (103, true))⟩,
    ⟨(some 107), .pick (.t 103) (.t 106) (.k (.c (.d (.bool false)))), none⟩,
    ⟨(some 108), .mv (.t 107), none⟩,
    ⟨(some 109), .mv (.t 15), (some (108, true))⟩,
    ⟨(some 110), .mv (.t 17), (some (108, true))⟩,
    ⟨(some 111), .bin .eql (.t 109) (.t 110), (some (108, true))⟩,
    ⟨(some 112), .pick (.t 108) (.t 111) (.k (.c (.d (.bool false)))), none⟩,
    ⟨(some 113), .mv (.t 112), none⟩,
    ⟨(some 114), .mv (.t 14), (some (113, true))⟩,
    ⟨(some 115), .mv (.t 16), (some (113, true))⟩,
    ⟨(some 116), .call 14 [(.t 114), (.t 115)] none, (some (113, true))⟩,
    ⟨(some 117), .pick (.t 113) (.t 116) (.k (.c (.d (.bool false)))), none⟩,
    ⟨(some 118), .mv (.t 117), none⟩,
    ⟨(some 119), .mv (.t 19), (some (118, true))⟩,
    ⟨(some 120), .mv (.t 21), (some (118, true))⟩,
    ⟨(some 121), .bin .eql (.t 119) (.t 120), (some (118, true))⟩,
    ⟨(some 122), .pick (.t 118) (.t 121) (.k (.c (.d (.bool false)))), none⟩,
    ⟨(some 123), .mv (.t 122), none⟩,
    ⟨(some 124), .mv (.t 18), (some (123, true))⟩,
    ⟨(some 125), .mv (.t 20), (some (123, true))⟩,
    ⟨(some 126), .call 14 [(.t 124), (.t 125)] none, (some (123, true))⟩,
    ⟨(some 127), .pick (.t 123) (.t 126) (.k (.c (.d (.bool false)))), none⟩,
    ⟨(some 6), .mv (.t 127), none⟩])
  (.ret)))))))))),
  [(6, none)]⟩
theorem cf_macts : compFn Try.prog { own := [], comp := [], frz := [], nils := [] } Try.f3 = some sf_macts := by kernel_rfl
set_option maxHeartbeats 1600000 in
theorem macts_c (G : Glob) (key : List UInt8) (hkey : key.length ≤ maxLen) (b : List UInt8) (hb : b.length ≤ maxLen) (l : List (List UInt8)) (hl1 : l.length ≤ maxLen) (hl2 : ∀ x ∈ l, x.length ≤ maxLen)  : Den Try.prog G 3 [.sl (key.map bD), .sl (b.map bD), .sl (l.map fun l => D.sl (l.map bD))] (.w (.c (.d (.bool true)))) := by
  refine den_walk Try.func3 cf_macts rfl rfl ?_
  by_cases g1 : 40 < key.length
  · simp only [sf_macts, putAll, wx, wy, wz, stV, seval, IntWalk.iteOmega, IntWalk.toNatUp, reduceCtorEq]
    refine st_call (known5_c G) rfl (.inl rfl) ?_
    simp only [wx, wy, wz, stV, seval, IntWalk.iteOmega, IntWalk.toNatUp, reduceCtorEq]
    exact ret_d1 (by simp only [wx, wy, wz, stV, seval, IntWalk.iteOmega, IntWalk.toNatUp, reduceCtorEq])
  · by_cases g2 : 100 < b.length
    · simp only [sf_macts, putAll, wx, wy, wz, stV, seval, IntWalk.iteOmega, IntWalk.toNatUp, reduceCtorEq]
      refine st_call (known5_c G) rfl (.inl rfl) ?_
      simp only [wx, wy, wz, stV, seval, IntWalk.iteOmega, IntWalk.toNatUp, reduceCtorEq]
      exact ret_d1 (by simp only [wx, wy, wz, stV, seval, IntWalk.iteOmega, IntWalk.toNatUp, reduceCtorEq])
    · by_cases g3 : 20 < l.length
      · simp only [sf_macts, putAll, wx, wy, wz, stV, seval, IntWalk.iteOmega, IntWalk.toNatUp, reduceCtorEq]
        refine st_call (known5_c G) rfl (.inl rfl) ?_
        simp only [wx, wy, wz, stV, seval, IntWalk.iteOmega, IntWalk.toNatUp, reduceCtorEq]
        exact ret_d1 (by simp only [wx, wy, wz, stV, seval, IntWalk.iteOmega, IntWalk.toNatUp, reduceCtorEq])
      · have hm : maxLen ≤ 9223372036854775807 := by decide
        simp only [sf_macts, putAll, wx, wy, wz, stV, seval, IntWalk.iteOmega, IntWalk.toNatUp, reduceCtorEq]
        refine loop_st (actSt key b l) (fun i => l.length - i) (fun i => i ≤ l.length) 0 (Nat.zero_le _) ?_ ?_
        · refine ent_l (fun i => 0) ?_ ?_ rfl rfl <;> simp only [wx, wex, wez, stV, seval, IntWalk.iteOmega, IntWalk.toNatUp, reduceCtorEq] <;> rfl
        · intro i hi
          by_cases hlt : i < l.length
          · have g4 := getL_lt hlt
            by_cases hlong : 60 < (l.getD i []).length
            · simp only [lp_macts_0, actSt, wx, wy, wz, stV, seval, IntWalk.iteOmega, IntWalk.toNatUp, reduceCtorEq, get_map, g4]
              refine st_call (known5_c G) rfl (.inl rfl) ?_
              simp only [wx, wy, wz, stV, seval, IntWalk.iteOmega, IntWalk.toNatUp, reduceCtorEq]
              exact ret_d1 (by simp only [wx, wy, wz, stV, seval, IntWalk.iteOmega, IntWalk.toNatUp, reduceCtorEq])
            · simp only [lp_macts_0, actSt, wx, wy, wz, stV, seval, IntWalk.iteOmega, IntWalk.toNatUp, reduceCtorEq, get_map, g4]
              refine lop_next (i + 1) (by omega) (by omega) (ent_l (fun i => i) ?_ ?_ rfl rfl) <;> simp only [wx, wex, wez, stV, seval, IntWalk.iteOmega, IntWalk.toNatUp, reduceCtorEq]
          · have hl2 : ∀ x ∈ l, x.length ≤ 9223372036854775807 := fun x hx => Nat.le_trans (hl2 x hx) hm
            have s1 := vctr_c G key l (by omega) (by omega) hl2
            have s2 := rvctr_c G key l (by omega) (by omega) hl2
            simp only [lp_macts_0, actSt, wx, wy, wz, stV, seval, IntWalk.iteOmega, IntWalk.toNatUp, reduceCtorEq]
            refine st_call (subk_c G key (by omega)) rfl (.inl rfl) ?_
            simp only [wx, wy, wz, stV, seval, IntWalk.iteOmega, IntWalk.toNatUp, reduceCtorEq]
            refine st_call (rsubk_c G key (by omega)) rfl (.inl rfl) ?_
            simp only [wx, wy, wz, stV, seval, IntWalk.iteOmega, IntWalk.toNatUp, reduceCtorEq]
            refine st_call (cmac_c G key b (by omega) (by omega)) rfl (.inl rfl) ?_
            simp only [wx, wy, wz, stV, seval, IntWalk.iteOmega, IntWalk.toNatUp, reduceCtorEq]
            refine st_call (rcmac_c G key b (by omega) (by omega)) rfl (.inl rfl) ?_
            simp only [wx, wy, wz, stV, seval, IntWalk.iteOmega, IntWalk.toNatUp, reduceCtorEq]
            refine st_call (s1) rfl (.inl rfl) ?_
            simp only [wx, wy, wz, stV, seval, IntWalk.iteOmega, IntWalk.toNatUp, reduceCtorEq]
            refine st_call (s2) rfl (.inl rfl) ?_
            simp only [wx, wy, wz, stV, seval, IntWalk.iteOmega, IntWalk.toNatUp, reduceCtorEq]
            refine st_call (known5_c G) rfl (.inl rfl) ?_
            simp only [wx, wy, wz, stV, seval, IntWalk.iteOmega, IntWalk.toNatUp, reduceCtorEq]
            refine st_call (dbb_c G b (by omega)) rfl (.inl rfl) ?_
            simp only [wx, wy, wz, stV, seval, IntWalk.iteOmega, IntWalk.toNatUp, reduceCtorEq]
            refine st_call (rdbb_c G b (by omega)) rfl (.inl rfl) ?_
            simp only [wx, wy, wz, stV, seval, IntWalk.iteOmega, IntWalk.toNatUp, reduceCtorEq]
            refine st_call (rsame_c G (dblL b) (dblL b)) rfl (.inl rfl) ?_
            simp only [wx, wy, wz, stV, seval, IntWalk.iteOmega, IntWalk.toNatUp, reduceCtorEq]
            refine st_call (rsame_c G (subV sub1 key) (subV sub1 key)) rfl (.inl rfl) ?_
            simp only [wx, wy, wz, stV, seval, IntWalk.iteOmega, IntWalk.toNatUp, reduceCtorEq]
            refine st_call (rsame_c G (subV sub2 key) (subV sub2 key)) rfl (.inl rfl) ?_
            simp only [wx, wy, wz, stV, seval, IntWalk.iteOmega, IntWalk.toNatUp, reduceCtorEq]
            refine st_call (rsame_c G (macV key b) (macV key b)) rfl (.inl rfl) ?_
            simp only [wx, wy, wz, stV, seval, IntWalk.iteOmega, IntWalk.toNatUp, reduceCtorEq]
            refine st_call (rsame_c G (vctV key l) (vctV key l)) rfl (.inl rfl) ?_
            simp only [wx, wy, wz, stV, seval, IntWalk.iteOmega, IntWalk.toNatUp, reduceCtorEq]
            exact ret_d1 (by simp only [wx, wy, wz, stV, seval, IntWalk.iteOmega, IntWalk.toNatUp, reduceCtorEq])
theorem vctV_2 {key a b : List UInt8} (h : key.length = 16) (ha : a.length ≤ 65535) (hb : b.length ≤ 65535) : vctV key [a, b] = vecM (rkK key) [a, b] := by
  have : longL [a, b] = false := by
    unfold longL
    rw [List.any_eq_false]
    intro x hx
    simp only [List.mem_cons, List.not_mem_nil, or_false] at hx
    rcases hx with rfl | rfl <;> simpa using ‹_›
  exact if_pos ⟨h, by simp, this⟩
theorem vctE_2 {key a b : List UInt8} (h : key.length = 16) (ha : a.length ≤ 65535) (hb : b.length ≤ 65535) : vctE key [a, b] = 0 := by
  have : longL [a, b] = false := by
    unfold longL
    rw [List.any_eq_false]
    intro x hx
    simp only [List.mem_cons, List.not_mem_nil, or_false] at hx
    rcases hx with rfl | rfl <;> simpa using ‹_›
  unfold vctE
  rw [if_neg (by omega), if_neg (by simp), this, if_neg (by simp)]
def sf_mlens : SFn := ⟨3, 82,
  .seq (.reg [⟨(some 6), .mv (.k (.c (.d (.bool false)))), none⟩])
  (.seq (.reg [⟨(some 18), .mv (.t 0), none⟩,
    ⟨(some 19), .call 17 [(.t 18), (.k (.c (.d (.int .i64 1000))))] none, none⟩,
    ⟨(some 0), .mv (.t 19), none⟩])
  (.seq (.reg [⟨(some 20), .mv (.t 0), none⟩,
    ⟨(some 21), .call 18 [(.t 20), (.k (.c (.d (.int .i64 16))))] none, none⟩,
    ⟨(some 22), .mv (.t 0), none⟩,
    ⟨(some 23), .bin .add (.t 22) (.k (.c (.d (.int .i64 1)))), none⟩,
    ⟨(some 24), .mv (.t 1), none⟩,
    ⟨(some 25), .call 17 [(.t 24), (.k (.c (.d (.int .i64 50))))] none, none⟩,
    ⟨(some 26), .call 18 [(.t 23), (.t 25)] none, none⟩,
    ⟨(some 7), .mv (.t 21), none⟩,
    ⟨(some 8), .mv (.t 26), none⟩])
  (.seq (.reg [⟨(some 27), .mv (.t 0), none⟩,
    ⟨(some 28), .bin .add (.t 27) (.k (.c (.d (.int .i64 2)))), none⟩,
    ⟨(some 29), .mv (.t 2), none⟩,
    ⟨(some 30), .call 17 [(.t 29), (.k (.c (.d (.int .i64 20))))] none, none⟩,
    ⟨(some 31), .call 18 [(.t 28), (.t 30)] none, none⟩,
    ⟨(some 32), .mv (.t 8), none⟩,
    ⟨(some 33), .bldSl false 2 1 (.sl []) [(0, (.t 31)), (1, (.t 32))], none⟩,
    ⟨(some 9), .mv (.t 33), none⟩])
  (.seq (.reg [⟨(some 35), .mv (.t 7), none⟩,
    ⟨(some 36), .mv (.t 8), none⟩,
    ⟨(some 37), .call 10 [(.t 35), (.t 36)] none, none⟩,
    ⟨(some 34), .mv (.t 37), none⟩,
    ⟨(some 38), .extract (.t 34) 0, none⟩,
    ⟨(some 39), .extract (.t 34) 1, none⟩,
    ⟨(some 10), .mv (.t 38), none⟩,
    ⟨(some 11), .mv (.t 39), none⟩])
  (.seq (.reg [⟨(some 41), .mv (.t 7), none⟩,
    ⟨(some 42), .mv (.t 8), none⟩,
    ⟨(some 43), .call 11 [(.t 41), (.t 42)] none, none⟩,
    ⟨(some 40), .mv (.t 43), none⟩,
    ⟨(some 44), .extract (.t 40) 0, none⟩,
    ⟨(some 45), .extract (.t 40) 1, none⟩,
    ⟨(some 12), .mv (.t 44), none⟩,
    ⟨(some 13), .mv (.t 45), none⟩])
  (.seq (.reg [⟨(some 47), .mv (.t 7), none⟩,
    ⟨(some 48), .mv (.t 9), none⟩,
    ⟨(some 49), .call 12 [(.t 47), (.t 48)] none, none⟩,
    ⟨(some 46), .mv (.t 49), none⟩,
    ⟨(some 50), .extract (.t 46) 0, none⟩,
    ⟨(some 51), .extract (.t 46) 1, none⟩,
    ⟨(some 14), .mv (.t 50), none⟩,
    ⟨(some 15), .mv (.t 51), none⟩])
  (.seq (.reg [⟨(some 53), .mv (.t 7), none⟩,
    ⟨(some 54), .mv (.t 9), none⟩,
    ⟨(some 55), .call 13 [(.t 53), (.t 54)] none, none⟩,
    ⟨(some 52), .mv (.t 55), none⟩,
    ⟨(some 56), .extract (.t 52) 0, none⟩,
    ⟨(some 57), .extract (.t 52) 1, none⟩,
    ⟨(some 16), .mv (.t 56), none⟩,
    ⟨(some 17), .mv (.t 57), none⟩])
  (.seq (.reg [⟨(some 58), .call 7 [] none, none⟩,
    ⟨(some 59), .mv (.t 58), none⟩,
    ⟨(some 60), .mv (.t 11), (some (59, true))⟩,
    ⟨(some 61), .bin .eql (.t 60) (.k (.c (.d (.int .i64 0)))), (some (59, true))⟩,
    ⟨(some 62), .pick (.t 59) (.t 61) (.k (.c (.d (.bool false)))), none⟩,
    ⟨(some 63), .mv (.t 62), none⟩,
    ⟨(some 64), .mv (.t 15), (some (63, true))⟩,
    ⟨(some 65), .bin .eql (.t 64) (.k (.c (.d (.int .i64 0)))), (some (63, true))⟩,
    ⟨(some 66), .pick (.t 63) (.t 65) (.k (.c (.d (.bool false)))), none⟩,
    ⟨(some 67), .mv (.t 66), none⟩,
    ⟨(some 68), .mv (.t 10), (some (67, true))⟩,
    ⟨(some 69), .mv (.t 12), (some (67, true))⟩,
    ⟨(some 70), .call 14 [(.t 68), (.t 69)] none, (some (67, true))⟩,
    ⟨(some 71), .pick (.t 67) (.t 70) (.k (.c (.d (.bool false)))), none⟩,
    ⟨(some 72), .mv (.t 71), none⟩,
    ⟨(some 73), .mv (.t 14), (some (72, true))⟩,
    ⟨(some 74), .mv (.t 16), (some (72, true))⟩,
    ⟨(some 75), .call 14 [(.t 73), (.t 74)] none, (some (72, true))⟩,
    ⟨(some 76), .pick (.t 72) (.t 75) (.k (.c (.d (.bool false)))), none⟩,
    ⟨(some 77), .mv (.t 76), none⟩,
    ⟨(some 78), .mv (.t 14), (some (77, true))⟩,
    ⟨(some 79), .len (.t 78), (some (77, true))⟩,
    ⟨(some 80), .bin .eql (.t 79) (.k (.c (.d (.int .i64 16)))), (some (77, true))⟩,
    ⟨(some 81), .pick (.t 77) (.t 80) (.k (.c (.d (.bool false)))), none⟩,
    ⟨(some 6), .mv (.t 81), none⟩])
  (.ret))))))))),
  [(6, none)]⟩
theorem cf_mlens : compFn Try.prog { own := [], comp := [], frz := [], nils := [] } Try.f4 = some sf_mlens := by kernel_rfl
set_option maxHeartbeats 1600000 in
theorem mlens_c (G : Glob) (seed : Int) (hseed1 : -9223372036854775808 ≤ seed) (hseed2 : seed ≤ 9223372036854775807) (n : Int) (hn1 : -9223372036854775808 ≤ n) (hn2 : n ≤ 9223372036854775807) (m : Int) (hm1 : -9223372036854775808 ≤ m) (hm2 : m ≤ 9223372036854775807)  : Den Try.prog G 4 [.int .i64 seed, .int .i64 n, .int .i64 m] (.w (.c (.d (.bool true)))) := by
  refine den_walk Try.func4 cf_mlens rfl rfl ?_
  have hm : maxLen ≤ 9223372036854775807 := by decide
  have r0 := withinN_range seed 1000 (by decide)
  have r1 := withinN_range n 50 (by decide)
  have r2 := withinN_range m 20 (by decide)
  have e0 := within_c G seed 1000 (by decide)
  have e1 := within_c G n 50 (by decide)
  have e2 := within_c G m 20 (by decide)
  have kl : (bytesK (withinN seed 1000) 16).length = 16 := bytesK_len _ _
  have bl : (bytesK (withinN seed 1000 + 1) (withinN n 50)).length = (withinN n 50).toNat := bytesK_len _ _
  have al : (bytesK (withinN seed 1000 + 2) (withinN m 20)).length = (withinN m 20).toNat := bytesK_len _ _
  have w1 := wbytes_c G (withinN seed 1000) 16 (by decide)
  have w2 := wbytes_c G (withinN seed 1000 + 1) (withinN n 50) (by omega)
  have w3 := wbytes_c G (withinN seed 1000 + 2) (withinN m 20) (by omega)
  generalize withinN seed 1000 = s at *
  generalize withinN n 50 = nn at *
  generalize withinN m 20 = mm at *
  generalize bytesK s 16 = key at *
  generalize bytesK (s + 1) nn = b at *
  generalize bytesK (s + 2) mm = a at *
  have v1 := macV_ok (b := b) kl (by omega)
  have v2 := macE_ok (b := b) kl (by omega)
  have v3 := vctV_2 (a := a) (b := b) kl (by omega) (by omega)
  have v4 := vctE_2 (a := a) (b := b) kl (by omega) (by omega)
  have lv := vecM_len (rkK key) [a, b]
  have hl : ∀ x ∈ [a, b], x.length ≤ 9223372036854775807 := by
    intro x hx
    simp only [List.mem_cons, List.not_mem_nil, or_false] at hx
    rcases hx with rfl | rfl <;> omega
  have s1 := vctr_c G key [a, b] (by omega) (by simp) hl
  have s2 := rvctr_c G key [a, b] (by omega) (by simp) hl
  rw [v3, v4] at s1 s2
  generalize vecM (rkK key) [a, b] = V at *
  simp only [sf_mlens, putAll, wx, wy, wz, stV, seval, IntWalk.iteOmega, IntWalk.toNatUp, reduceCtorEq]
  refine st_call (e0) rfl (.inl rfl) ?_
  simp only [wx, wy, wz, stV, seval, IntWalk.iteOmega, IntWalk.toNatUp, reduceCtorEq]
  refine st_call (w1) rfl (.inl rfl) ?_
  simp only [wx, wy, wz, stV, seval, IntWalk.iteOmega, IntWalk.toNatUp, reduceCtorEq]
  refine st_call (e1) rfl (.inl rfl) ?_
  simp only [wx, wy, wz, stV, seval, IntWalk.iteOmega, IntWalk.toNatUp, reduceCtorEq]
  refine st_call (w2) rfl (.inl rfl) ?_
  simp only [wx, wy, wz, stV, seval, IntWalk.iteOmega, IntWalk.toNatUp, reduceCtorEq]
  refine st_call (e2) rfl (.inl rfl) ?_
  simp only [wx, wy, wz, stV, seval, IntWalk.iteOmega, IntWalk.toNatUp, reduceCtorEq]
  refine st_call (w3) rfl (.inl rfl) ?_
  simp only [wx, wy, wz, stV, seval, IntWalk.iteOmega, IntWalk.toNatUp, reduceCtorEq]
  refine st_call (cmac_c G key b (by omega) (by omega)) rfl (.inl rfl) ?_
  simp only [v1, v2, wx, wy, wz, stV, seval, IntWalk.iteOmega, IntWalk.toNatUp, reduceCtorEq]
  refine st_call (rcmac_c G key b (by omega) (by omega)) rfl (.inl rfl) ?_
  simp only [v1, v2, wx, wy, wz, stV, seval, IntWalk.iteOmega, IntWalk.toNatUp, reduceCtorEq]
  refine st_call (s1) rfl (.inl rfl) ?_
  simp only [wx, wy, wz, stV, seval, IntWalk.iteOmega, IntWalk.toNatUp, reduceCtorEq]
  refine st_call (s2) rfl (.inl rfl) ?_
  simp only [wx, wy, wz, stV, seval, IntWalk.iteOmega, IntWalk.toNatUp, reduceCtorEq]
  refine st_call (known5_c G) rfl (.inl rfl) ?_
  simp only [wx, wy, wz, stV, seval, IntWalk.iteOmega, IntWalk.toNatUp, reduceCtorEq]
  refine st_call (rsame_c G (macM (rkK key) b) (macM (rkK key) b)) rfl (.inl rfl) ?_
  simp only [wx, wy, wz, stV, seval, IntWalk.iteOmega, IntWalk.toNatUp, reduceCtorEq]
  refine st_call (rsame_c G V V) rfl (.inl rfl) ?_
  simp only [lv, wx, wy, wz, stV, seval, IntWalk.iteOmega, IntWalk.toNatUp, reduceCtorEq]
  exact ret_d1 (by simp only [wx, wy, wz, stV, seval, IntWalk.iteOmega, IntWalk.toNatUp, reduceCtorEq])
def sf_mdbl : SFn := ⟨2, 81,
  .seq (.reg [⟨(some 4), .mv (.k (.c (.d (.bool false)))), none⟩])
  (.seq (.reg [⟨(some 14), .mv (.t 0), none⟩,
    ⟨(some 15), .call 17 [(.t 14), (.k (.c (.d (.int .i64 1000))))] none, none⟩,
    ⟨(some 16), .call 18 [(.t 15), (.k (.c (.d (.int .i64 16))))] none, none⟩,
    ⟨(some 17), .mv (.t 1), none⟩,
    ⟨(some 18), .call 17 [(.t 17), (.k (.c (.d (.int .i64 1000))))] none, none⟩,
    ⟨(some 19), .call 18 [(.t 18), (.k (.c (.d (.int .i64 16))))] none, none⟩,
    ⟨(some 5), .mv (.t 16), none⟩,
    ⟨(some 6), .mv (.t 19), none⟩])
  (.seq (.reg [⟨(some 20), .mv (.t 5), none⟩,
    ⟨(some 21), .call 15 [(.t 20)] none, none⟩,
    ⟨(some 22), .mv (.t 6), none⟩,
    ⟨(some 23), .call 15 [(.t 22)] none, none⟩,
    ⟨(some 7), .mv (.t 21), none⟩,
    ⟨(some 8), .mv (.t 23), none⟩])
  (.seq (.reg [⟨(some 25), .mv (.t 5), none⟩,
    ⟨(some 26), .make 1 1 (.int .u8 0) (.k (.c (.d (.int .i64 16)))) (.k (.c (.d (.int .i64 16)))), none⟩,
    ⟨(some 27), .call 19 [(.t 25), (.t 26)] none, none⟩,
    ⟨(some 24), .mv (.t 27), none⟩,
    ⟨(some 28), .extract (.t 24) 0, none⟩,
    ⟨(some 29), .extract (.t 24) 1, none⟩,
    ⟨(some 9), .mv (.t 28), none⟩,
    ⟨(some 10), .mv (.t 29), none⟩])
  (.seq (.reg [⟨(some 31), .mv (.t 5), none⟩,
    ⟨(some 32), .call 8 [(.t 31)] none, none⟩,
    ⟨(some 30), .mv (.t 32), none⟩,
    ⟨(some 33), .extract (.t 30) 0, none⟩,
    ⟨(some 34), .extract (.t 30) 1, none⟩,
    ⟨(some 35), .extract (.t 30) 2, none⟩,
    ⟨(some 11), .mv (.t 33), none⟩,
    ⟨(some 12), .mv (.t 34), none⟩,
    ⟨(some 13), .mv (.t 35), none⟩])
  (.seq (.reg [⟨(some 36), .call 7 [] none, none⟩,
    ⟨(some 37), .mv (.t 36), none⟩,
    ⟨(some 38), .mv (.t 10), (some (37, true))⟩,
    ⟨(some 39), .bin .eql (.t 38) (.k (.c (.d (.int .i64 0)))), (some (37, true))⟩,
    ⟨(some 40), .pick (.t 37) (.t 39) (.k (.c (.d (.bool false)))), none⟩,
    ⟨(some 41), .mv (.t 40), none⟩,
    ⟨(some 42), .mv (.t 13), (some (41, true))⟩,
    ⟨(some 43), .bin .eql (.t 42) (.k (.c (.d (.int .i64 0)))), (some (41, true))⟩,
    ⟨(some 44), .pick (.t 41) (.t 43) (.k (.c (.d (.bool false)))), none⟩,
    ⟨(some 45), .mv (.t 44), none⟩,
    ⟨(some 46), .mv (.t 7), (some (45, true))⟩,
    ⟨(some 47), .len (.t 46), (some (45, true))⟩,
    ⟨(some 48), .bin .eql (.t 47) (.k (.c (.d (.int .i64 16)))), (some (45, true))⟩,
    ⟨(some 49), .pick (.t 45) (.t 48) (.k (.c (.d (.bool false)))), none⟩,
    ⟨(some 50), .mv (.t 49), none⟩,
    ⟨(some 51), .mv (.t 5), (some (50, true))⟩,
    ⟨(some 52), .mv (.t 6), (some (50, true))⟩,
    ⟨(some 53), .call 20 [(.t 51), (.t 52)] none, (some (50, true))⟩,
    ⟨(some 54), .call 15 [(.t 53)] none, (some (50, true))⟩,
    ⟨(some 55), .mv (.t 7), (some (50, true))⟩,
    ⟨(some 56), .mv (.t 8), (some (50, true))⟩,
    ⟨(some 57), .call 20 [(.t 55), (.t 56)] none, (some (50, true))⟩,
    ⟨(some 58), .call 14 [(.t 54), (.t 57)] none, (some (50, true))⟩,
    ⟨(some 59), .pick (.t 50) (.t 58) (.k (.c (.d (.bool false)))), none⟩,
    ⟨(some 60), .mv (.t 59), none⟩,
    ⟨(some 61), .mv (.t 5), (some (60, true))⟩,
    ⟨(some 62), .mv (.t 6), (some (60, true))⟩,
    ⟨(some 63), .call 14 [(.t 61), (.t 62)] none, (some (60, true))⟩,
    ⟨(some 64), .mv (.t 7), (some (60, true))⟩,
    ⟨(some 65), .mv (.t 8), (some (60, true))⟩,
    ⟨(some 66), .call 14 [(.t 64), (.t 65)] none, (some (60, true))⟩,
    ⟨(some 67), .eqB false (.t 63) (.t 66), (some (60, true))⟩,
    ⟨(some 68), .pick (.t 60) (.t 67) (.k (.c (.d (.bool false)))), none⟩,
    ⟨(some 69), .mv (.t 68), none⟩,
    ⟨(some 70), .mv (.t 11), (some (69, true))⟩,
    ⟨(some 71), .mv (.t 9), (some (69, true))⟩,
    ⟨(some 72), .call 15 [(.t 71)] none, (some (69, true))⟩,
    ⟨(some 73), .call 14 [(.t 70), (.t 72)] none, (some (69, true))⟩,
    ⟨(some 74), .pick (.t 69) (.t 73) (.k (.c (.d (.bool false)))), none⟩,
    ⟨(some 75), .mv (.t 74), none⟩,
    ⟨(some 76), .mv (.t 12), (some (75, true))⟩,
    ⟨(some 77), .mv (.t 11), (some (75, true))⟩,
    ⟨(some 78), .call 15 [(.t 77)] none, (some (75, true))⟩,
    ⟨(some 79), .call 14 [(.t 76), (.t 78)] none, (some (75, true))⟩,
    ⟨(some 80), .pick (.t 75) (.t 79) (.k (.c (.d (.bool false)))), none⟩,
    ⟨(some 4), .mv (.t 80), none⟩])
  (.ret)))))),
  [(4, none)]⟩
theorem cf_mdbl : compFn Try.prog { own := [], comp := [], frz := [], nils := [] } Try.f5 = some sf_mdbl := by kernel_rfl
set_option maxHeartbeats 1600000 in
theorem mdbl_c (G : Glob) (seed : Int) (hseed1 : -9223372036854775808 ≤ seed) (hseed2 : seed ≤ 9223372036854775807) (other : Int) (hother1 : -9223372036854775808 ≤ other) (hother2 : other ≤ 9223372036854775807)  : Den Try.prog G 5 [.int .i64 seed, .int .i64 other] (.w (.c (.d (.bool true)))) := by
  refine den_walk Try.func5 cf_mdbl rfl rfl ?_
  have r0 := withinN_range seed 1000 (by decide)
  have e0 := within_c G seed 1000 (by decide)
  have e1 := within_c G other 1000 (by decide)
  have al : (bytesK (withinN seed 1000) 16).length = 16 := bytesK_len _ _
  have bl : (bytesK (withinN other 1000) 16).length = 16 := bytesK_len _ _
  have w1 := wbytes_c G (withinN seed 1000) 16 (by decide)
  have w2 := wbytes_c G (withinN other 1000) 16 (by decide)
  generalize withinN seed 1000 = s at *
  generalize withinN other 1000 = o at *
  generalize bytesK s 16 = a at *
  generalize bytesK o 16 = b at *
  have t0 : (repL 16 (0 : UInt8)).take 16 = zero16 := rfl
  have v1 := blkV_ok (b := zero16) al (by decide)
  have v2 := blkE_ok (b := zero16) al (by decide)
  have v3 : subV sub1 a = sub1 (rkK a) := if_pos al
  have v4 : subV sub2 a = sub2 (rkK a) := if_pos al
  have v5 : keyE a = 0 := by unfold keyE; rw [if_neg (by omega)]
  have hb := blk_f G a zero16 (by omega) (by decide)
  rw [v1, v2] at hb
  have s1 : dblL (encK (rkK a) zero16) = sub1 (rkK a) := rfl
  have s2 : dblL (sub1 (rkK a)) = sub2 (rkK a) := rfl
  have l1 := dblL_len al
  have l2 := dblL_len bl
  have lx : (xorP a b).length = 16 := by rw [xorP_len]; exact al
  have hlin := dblL_xor al bl
  have hinj : (dblL a == dblL b) = (a == b) := by
    by_cases h : a = b
    · subst h; simp
    · rw [beq_eq_false_iff_ne.2 h, beq_eq_false_iff_ne.2 fun e => h (dblL_inj al bl e)]
  have d1 := dbb_c G (encK (rkK a) zero16) (by rw [encK_len]; decide)
  have d2 := dbb_c G (sub1 (rkK a)) (by rw [sub1_len]; decide)
  rw [s1] at d1
  rw [s2] at d2
  have d3 := dbb_c G (xorP a b) (by omega)
  rw [hlin] at d3
  have q1 := rsame_c G (dblL a) (dblL b)
  rw [hinj] at q1
  simp only [sf_mdbl, putAll, wx, wy, wz, stV, seval, IntWalk.iteOmega, IntWalk.toNatUp, reduceCtorEq]
  refine st_call (e0) rfl (.inl rfl) ?_
  simp only [wx, wy, wz, stV, seval, IntWalk.iteOmega, IntWalk.toNatUp, reduceCtorEq]
  refine st_call (w1) rfl (.inl rfl) ?_
  simp only [wx, wy, wz, stV, seval, IntWalk.iteOmega, IntWalk.toNatUp, reduceCtorEq]
  refine st_call (e1) rfl (.inl rfl) ?_
  simp only [wx, wy, wz, stV, seval, IntWalk.iteOmega, IntWalk.toNatUp, reduceCtorEq]
  refine st_call (w2) rfl (.inl rfl) ?_
  simp only [wx, wy, wz, stV, seval, IntWalk.iteOmega, IntWalk.toNatUp, reduceCtorEq]
  refine st_call (dbb_c G a (by omega)) rfl (.inl rfl) ?_
  simp only [wx, wy, wz, stV, seval, IntWalk.iteOmega, IntWalk.toNatUp, reduceCtorEq]
  refine st_call (dbb_c G b (by omega)) rfl (.inl rfl) ?_
  simp only [z16, wx, wy, wz, stV, seval, IntWalk.iteOmega, IntWalk.toNatUp, reduceCtorEq]
  refine st_call hb (by simp only [wx, wy, wz, stV, seval, IntWalk.iteOmega, IntWalk.toNatUp, reduceCtorEq, take_map, t0, repL_len]) (.inr (fl_bt _ _ _ _)) ?_
  simp only [wx, wy, wz, stV, seval, IntWalk.iteOmega, IntWalk.toNatUp, reduceCtorEq]
  refine st_call (subk_c G a (by omega)) rfl (.inl rfl) ?_
  simp only [v3, v4, v5, wx, wy, wz, stV, seval, IntWalk.iteOmega, IntWalk.toNatUp, reduceCtorEq]
  refine st_call (known5_c G) rfl (.inl rfl) ?_
  simp only [l1, wx, wy, wz, stV, seval, IntWalk.iteOmega, IntWalk.toNatUp, reduceCtorEq]
  refine st_call (rxor_c G a b (by omega) (by omega)) rfl (.inl rfl) ?_
  simp only [wx, wy, wz, stV, seval, IntWalk.iteOmega, IntWalk.toNatUp, reduceCtorEq]
  refine st_call (d3) rfl (.inl rfl) ?_
  simp only [wx, wy, wz, stV, seval, IntWalk.iteOmega, IntWalk.toNatUp, reduceCtorEq]
  refine st_call (rxor_c G (dblL a) (dblL b) (by omega) (by omega)) rfl (.inl rfl) ?_
  simp only [wx, wy, wz, stV, seval, IntWalk.iteOmega, IntWalk.toNatUp, reduceCtorEq]
  refine st_call (rsame_c G (xorP (dblL a) (dblL b)) (xorP (dblL a) (dblL b))) rfl (.inl rfl) ?_
  simp only [wx, wy, wz, stV, seval, IntWalk.iteOmega, IntWalk.toNatUp, reduceCtorEq]
  refine st_call (rsame_c G a b) rfl (.inl rfl) ?_
  simp only [wx, wy, wz, stV, seval, IntWalk.iteOmega, IntWalk.toNatUp, reduceCtorEq]
  refine st_call (q1) rfl (.inl rfl) ?_
  simp only [beq_self_eq_true, wx, wy, wz, stV, seval, IntWalk.iteOmega, IntWalk.toNatUp, reduceCtorEq]
  refine st_call (d1) rfl (.inl rfl) ?_
  simp only [wx, wy, wz, stV, seval, IntWalk.iteOmega, IntWalk.toNatUp, reduceCtorEq]
  refine st_call (rsame_c G (sub1 (rkK a)) (sub1 (rkK a))) rfl (.inl rfl) ?_
  simp only [wx, wy, wz, stV, seval, IntWalk.iteOmega, IntWalk.toNatUp, reduceCtorEq]
  refine st_call (d2) rfl (.inl rfl) ?_
  simp only [wx, wy, wz, stV, seval, IntWalk.iteOmega, IntWalk.toNatUp, reduceCtorEq]
  refine st_call (rsame_c G (sub2 (rkK a)) (sub2 (rkK a))) rfl (.inl rfl) ?_
  simp only [wx, wy, wz, stV, seval, IntWalk.iteOmega, IntWalk.toNatUp, reduceCtorEq]
  exact ret_d1 (by simp only [wx, wy, wz, stV, seval, IntWalk.iteOmega, IntWalk.toNatUp, reduceCtorEq])
def sf_mone : SFn := ⟨4, 60,
  .seq (.reg [⟨(some 8), .mv (.k (.c (.d (.bool false)))), none⟩])
  (.seq (.reg [⟨(some 15), .mv (.t 0), none⟩,
    ⟨(some 16), .call 17 [(.t 15), (.k (.c (.d (.int .i64 1000))))] none, none⟩,
    ⟨(some 17), .call 18 [(.t 16), (.k (.c (.d (.int .i64 16))))] none, none⟩,
    ⟨(some 9), .mv (.t 17), none⟩])
  (.seq (.reg [⟨(some 18), .mv (.t 0), none⟩,
    ⟨(some 19), .call 17 [(.t 18), (.k (.c (.d (.int .i64 1000))))] none, none⟩,
    ⟨(some 20), .bin .add (.t 19) (.k (.c (.d (.int .i64 7)))), none⟩,
    ⟨(some 21), .mv (.t 1), none⟩,
    ⟨(some 22), .call 17 [(.t 21), (.k (.c (.d (.int .i64 16))))] none, none⟩,
    ⟨(some 23), .bin .add (.k (.c (.d (.int .i64 1)))) (.t 22), none⟩,
    ⟨(some 24), .call 18 [(.t 20), (.t 23)] none, none⟩,
    ⟨(some 10), .mv (.t 24), none⟩])
  (.seq (.reg [⟨(some 26), .mv (.t 9), none⟩,
    ⟨(some 27), .mv (.t 10), none⟩,
    ⟨(some 28), .call 10 [(.t 26), (.t 27)] none, none⟩,
    ⟨(some 25), .mv (.t 28), none⟩,
    ⟨(some 29), .extract (.t 25) 0, none⟩,
    ⟨(some 30), .extract (.t 25) 1, none⟩,
    ⟨(some 11), .mv (.t 29), none⟩,
    ⟨(some 12), .mv (.t 30), none⟩])
  (.seq (.reg [⟨(some 32), .mv (.t 9), none⟩,
    ⟨(some 33), .mv (.t 10), none⟩,
    ⟨(some 34), .mv (.t 2), none⟩,
    ⟨(some 35), .mv (.t 3), none⟩,
    ⟨(some 36), .call 21 [(.t 33), (.t 34), (.t 35)] none, none⟩,
    ⟨(some 37), .call 10 [(.t 32), (.t 36)] none, none⟩,
    ⟨(some 31), .mv (.t 37), none⟩,
    ⟨(some 38), .extract (.t 31) 0, none⟩,
    ⟨(some 39), .extract (.t 31) 1, none⟩,
    ⟨(some 13), .mv (.t 38), none⟩,
    ⟨(some 14), .mv (.t 39), none⟩])
  (.seq (.reg [⟨(some 40), .call 7 [] none, none⟩,
    ⟨(some 41), .mv (.t 40), none⟩,
    ⟨(some 42), .mv (.t 12), (some (41, true))⟩,
    ⟨(some 43), .bin .eql (.t 42) (.k (.c (.d (.int .i64 0)))), (some (41, true))⟩,
    ⟨(some 44), .pick (.t 41) (.t 43) (.k (.c (.d (.bool false)))), none⟩,
    ⟨(some 45), .mv (.t 44), none⟩,
    ⟨(some 46), .mv (.t 14), (some (45, true))⟩,
    ⟨(some 47), .bin .eql (.t 46) (.k (.c (.d (.int .i64 0)))), (some (45, true))⟩,
    ⟨(some 48), .pick (.t 45) (.t 47) (.k (.c (.d (.bool false)))), none⟩,
    ⟨(some 49), .mv (.t 48), none⟩,
    ⟨(some 50), .mv (.t 11), (some (49, true))⟩,
    ⟨(some 51), .len (.t 50), (some (49, true))⟩,
    ⟨(some 52), .bin .eql (.t 51) (.k (.c (.d (.int .i64 16)))), (some (49, true))⟩,
    ⟨(some 53), .pick (.t 49) (.t 52) (.k (.c (.d (.bool false)))), none⟩,
    ⟨(some 54), .mv (.t 53), none⟩,
    ⟨(some 55), .mv (.t 11), (some (54, true))⟩,
    ⟨(some 56), .mv (.t 13), (some (54, true))⟩,
    ⟨(some 57), .call 14 [(.t 55), (.t 56)] none, (some (54, true))⟩,
    ⟨(some 58), .un .not (.t 57), (some (54, true))⟩,
    ⟨(some 59), .pick (.t 54) (.t 58) (.k (.c (.d (.bool false)))), none⟩,
    ⟨(some 8), .mv (.t 59), none⟩])
  (.ret)))))),
  [(8, none)]⟩
theorem cf_mone : compFn Try.prog { own := [], comp := [], frz := [], nils := [] } Try.f6 = some sf_mone := by kernel_rfl
set_option maxHeartbeats 1600000 in
theorem mone_c (G : Glob) (seed : Int) (hseed1 : -9223372036854775808 ≤ seed) (hseed2 : seed ≤ 9223372036854775807) (n : Int) (hn1 : -9223372036854775808 ≤ n) (hn2 : n ≤ 9223372036854775807) (pat : Int) (hpat1 : -9223372036854775808 ≤ pat) (hpat2 : pat ≤ 9223372036854775807) (pby : Int) (hpby1 : -9223372036854775808 ≤ pby) (hpby2 : pby ≤ 9223372036854775807)  : Den Try.prog G 6 [.int .i64 seed, .int .i64 n, .int .i64 pat, .int .i64 pby] (.w (.c (.d (.bool true)))) := by
  refine den_walk Try.func6 cf_mone rfl rfl ?_
  have r0 := withinN_range seed 1000 (by decide)
  have r1 := withinN_range n 16 (by decide)
  have e0 := within_c G seed 1000 (by decide)
  have e1 := within_c G n 16 (by decide)
  have kl : (bytesK (withinN seed 1000) 16).length = 16 := bytesK_len _ _
  have bl : (bytesK (withinN seed 1000 + 7) (1 + withinN n 16)).length = (1 + withinN n 16).toNat := bytesK_len _ _
  have w1 := wbytes_c G (withinN seed 1000) 16 (by decide)
  have w2 := wbytes_c G (withinN seed 1000 + 7) (1 + withinN n 16) (by omega)
  generalize withinN seed 1000 = s at *
  generalize withinN n 16 = nn at *
  generalize bytesK s 16 = key at *
  generalize bytesK (s + 7) (1 + nn) = b at *
  have h4 := changedL_len b pat pby
  have h5 := changedL_ne (b := b) (by omega) pat pby
  have c1 := chg_c G b pat pby (by omega) (by omega)
  generalize changedL b pat pby = c at *
  have v1 := macV_ok (b := b) kl (by omega)
  have v2 := macE_ok (b := b) kl (by omega)
  have v3 := macV_ok (b := c) kl (by omega)
  have v4 := macE_ok (b := c) kl (by omega)
  have lm := macM_len (rkK key) b
  have hne : (macM (rkK key) b == macM (rkK key) c) = false := beq_eq_false_iff_ne.2 fun e => h5 (macM_one h4.symm (by omega) e).symm
  simp only [sf_mone, putAll, wx, wy, wz, stV, seval, IntWalk.iteOmega, IntWalk.toNatUp, reduceCtorEq]
  refine st_call (e0) rfl (.inl rfl) ?_
  simp only [wx, wy, wz, stV, seval, IntWalk.iteOmega, IntWalk.toNatUp, reduceCtorEq]
  refine st_call (w1) rfl (.inl rfl) ?_
  simp only [wx, wy, wz, stV, seval, IntWalk.iteOmega, IntWalk.toNatUp, reduceCtorEq]
  refine st_call (e0) rfl (.inl rfl) ?_
  simp only [wx, wy, wz, stV, seval, IntWalk.iteOmega, IntWalk.toNatUp, reduceCtorEq]
  refine st_call (e1) rfl (.inl rfl) ?_
  simp only [wx, wy, wz, stV, seval, IntWalk.iteOmega, IntWalk.toNatUp, reduceCtorEq]
  refine st_call (w2) rfl (.inl rfl) ?_
  simp only [wx, wy, wz, stV, seval, IntWalk.iteOmega, IntWalk.toNatUp, reduceCtorEq]
  refine st_call (cmac_c G key b (by omega) (by omega)) rfl (.inl rfl) ?_
  simp only [v1, v2, wx, wy, wz, stV, seval, IntWalk.iteOmega, IntWalk.toNatUp, reduceCtorEq]
  refine st_call (c1) rfl (.inl rfl) ?_
  simp only [wx, wy, wz, stV, seval, IntWalk.iteOmega, IntWalk.toNatUp, reduceCtorEq]
  refine st_call (cmac_c G key c (by omega) (by omega)) rfl (.inl rfl) ?_
  simp only [v3, v4, wx, wy, wz, stV, seval, IntWalk.iteOmega, IntWalk.toNatUp, reduceCtorEq]
  refine st_call (known5_c G) rfl (.inl rfl) ?_
  simp only [lm, wx, wy, wz, stV, seval, IntWalk.iteOmega, IntWalk.toNatUp, reduceCtorEq]
  refine st_call (rsame_c G (macM (rkK key) b) (macM (rkK key) c)) rfl (.inl rfl) ?_
  simp only [hne, wx, wy, wz, stV, seval, IntWalk.iteOmega, IntWalk.toNatUp, reduceCtorEq]
  exact ret_d1 (by simp only [wx, wy, wz, stV, seval, IntWalk.iteOmega, IntWalk.toNatUp, reduceCtorEq])
end Go.Proofs.Ytnadfnnkdnakhaa
