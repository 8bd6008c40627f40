/- The laws of layer 13: what its functions return. Own work. -/
import Derived.Test.YtibpaciljnfpmaaAlV
import Derived.Test.YtibpaciljnfpmaaLm0
set_option linter.unusedVariables false
set_option linter.unusedSimpArgs false
namespace Go.Proofs.Ytibpaciljnfpmaa
open Go.RowKit

def sf_kact13 : SFn := ⟨4, 128,
  .seq (.reg [⟨(some 4), .box .roBox (.t 0), none⟩,
    ⟨(some 8), .mv (.k (.c (.d (.bool false)))), none⟩])
  (.seq (.seq (.reg [⟨(some 27), .fieldAddr 1 (.t 4), none⟩,
    ⟨(some 28), .load .sc (.t 27), none⟩,
    ⟨(some 29), .len (.t 28), none⟩,
    ⟨(some 30), .bin .gtr (.t 29) (.k (.c (.d (.int .i64 70)))), none⟩])
  (.cond (.t 30) (.seq (.reg [⟨(some 31), .call 8 [] none, none⟩,
     ⟨(some 8), .mv (.t 31), none⟩])
   (.ret))
   (.skip)))
  (.seq (.reg [⟨(some 33), .load (.ag 2) (.t 4), none⟩,
    ⟨(some 34), .mv (.t 1), none⟩,
    ⟨(some 35), .call 9 [(.t 33), (.t 34)] none, none⟩,
    ⟨(some 32), .mv (.t 35), none⟩,
    ⟨(some 36), .extract (.t 32) 0, none⟩,
    ⟨(some 37), .extract (.t 32) 1, none⟩,
    ⟨(some 38), .extract (.t 32) 2, none⟩,
    ⟨(some 9), .alloc [(.d (.int .i64 0)), (.d (.int .i64 0))], none⟩,
    ⟨(some 10), .alloc [(.d (.int .i64 0)), (.d (.int .i64 0))], none⟩,
    ⟨none, .store (.ag 2) (.t 9) (.t 36), none⟩,
    ⟨none, .store (.ag 2) (.t 10) (.t 37), none⟩,
    ⟨(some 11), .mv (.t 38), none⟩])
  (.seq (.reg [⟨(some 40), .load (.ag 2) (.t 4), none⟩,
    ⟨(some 41), .mv (.t 1), none⟩,
    ⟨(some 42), .call 10 [(.t 40), (.t 41)] none, none⟩,
    ⟨(some 39), .mv (.t 42), none⟩,
    ⟨(some 43), .extract (.t 39) 0, none⟩,
    ⟨(some 44), .extract (.t 39) 1, none⟩,
    ⟨(some 45), .extract (.t 39) 2, none⟩,
    ⟨(some 12), .alloc [(.d (.int .i64 0)), (.d (.int .i64 0))], none⟩,
    ⟨(some 13), .alloc [(.d (.int .i64 0)), (.d (.int .i64 0))], none⟩,
    ⟨none, .store (.ag 2) (.t 12) (.t 43), none⟩,
    ⟨none, .store (.ag 2) (.t 13) (.t 44), none⟩,
    ⟨(some 14), .mv (.t 45), none⟩])
  (.seq (.reg [⟨(some 47), .load (.ag 2) (.t 4), none⟩,
    ⟨(some 48), .mv (.t 2), none⟩,
    ⟨(some 49), .call 11 [(.t 47), (.t 48)] none, none⟩,
    ⟨(some 46), .mv (.t 49), none⟩,
    ⟨(some 50), .extract (.t 46) 0, none⟩,
    ⟨(some 51), .extract (.t 46) 1, none⟩,
    ⟨(some 15), .mv (.t 50), none⟩,
    ⟨(some 16), .mv (.t 51), none⟩])
  (.seq (.reg [⟨(some 53), .load (.ag 2) (.t 4), none⟩,
    ⟨(some 54), .mv (.t 2), none⟩,
    ⟨(some 55), .call 12 [(.t 53), (.t 54)] none, none⟩,
    ⟨(some 52), .mv (.t 55), none⟩,
    ⟨(some 56), .extract (.t 52) 0, none⟩,
    ⟨(some 57), .extract (.t 52) 1, none⟩,
    ⟨(some 17), .mv (.t 56), none⟩,
    ⟨(some 18), .mv (.t 57), none⟩])
  (.seq (.reg [⟨(some 59), .load (.ag 2) (.t 4), none⟩,
    ⟨(some 60), .mv (.t 3), none⟩,
    ⟨(some 61), .call 13 [(.t 59), (.t 60)] none, none⟩,
    ⟨(some 58), .mv (.t 61), none⟩,
    ⟨(some 62), .extract (.t 58) 0, none⟩,
    ⟨(some 63), .extract (.t 58) 1, none⟩,
    ⟨(some 19), .alloc [(.d (.int .i64 0)), (.d (.int .i64 0))], none⟩,
    ⟨none, .store (.ag 2) (.t 19) (.t 62), none⟩,
    ⟨(some 20), .mv (.t 63), none⟩])
  (.seq (.reg [⟨(some 65), .load (.ag 2) (.t 4), none⟩,
    ⟨(some 66), .mv (.t 3), none⟩,
    ⟨(some 67), .call 14 [(.t 65), (.t 66)] none, none⟩,
    ⟨(some 64), .mv (.t 67), none⟩,
    ⟨(some 68), .extract (.t 64) 0, none⟩,
    ⟨(some 69), .extract (.t 64) 1, none⟩,
    ⟨(some 21), .alloc [(.d (.int .i64 0)), (.d (.int .i64 0))], none⟩,
    ⟨none, .store (.ag 2) (.t 21) (.t 68), none⟩,
    ⟨(some 22), .mv (.t 69), none⟩])
  (.seq (.reg [⟨(some 71), .load (.ag 2) (.t 4), none⟩,
    ⟨(some 72), .mv (.t 2), none⟩,
    ⟨(some 73), .call 15 [(.t 71), (.t 72)] none, none⟩,
    ⟨(some 70), .mv (.t 73), none⟩,
    ⟨(some 74), .extract (.t 70) 0, none⟩,
    ⟨(some 75), .extract (.t 70) 1, none⟩,
    ⟨(some 23), .mv (.t 74), none⟩,
    ⟨(some 24), .mv (.t 75), none⟩])
  (.seq (.reg [⟨(some 77), .load (.ag 2) (.t 4), none⟩,
    ⟨(some 78), .mv (.t 2), none⟩,
    ⟨(some 79), .call 16 [(.t 77), (.t 78)] none, none⟩,
    ⟨(some 76), .mv (.t 79), none⟩,
    ⟨(some 80), .extract (.t 76) 0, none⟩,
    ⟨(some 81), .extract (.t 76) 1, none⟩,
    ⟨(some 25), .mv (.t 80), none⟩,
    ⟨(some 26), .mv (.t 81), none⟩])
  (.seq (.reg [⟨(some 82), .call 8 [] none, none⟩,
    ⟨(some 83), .mv (.t 82), none⟩,
    ⟨(some 84), .mv (.t 11), (some (83, true))⟩,
    ⟨(some 85), .mv (.t 14), (some (83, true))⟩,
    ⟨(some 86), .bin .eql (.t 84) (.t 85), (some (83, true))⟩,
    ⟨(some 87), .pick (.t 83) (.t 86) (.k (.c (.d (.bool false)))), none⟩,
    ⟨(some 88), .mv (.t 87), none⟩,
    ⟨(some 89), .load (.ag 2) (.t 9), (some (88, true))⟩,
    ⟨(some 90), .load (.ag 2) (.t 12), (some (88, true))⟩,
    ⟨(some 91), .eqA false [0, 0] (.t 89) (.t 90), (some (88, true))⟩,
    ⟨(some 92), .pick (.t 88) (.t 91) (.k (.c (.d (.bool false)))), none⟩,
    ⟨(some 93), .mv (.t 92), none⟩,
    ⟨(some 94), .load (.ag 2) (.t 10), (some (93, true))⟩,
    ⟨(some 95), .load (.ag 2) (.t 13), (some (93, true))⟩,
    ⟨(some 96), .eqA false [0, 0] (.t 94) (.t 95), (some (93, true))⟩,
    ⟨(some 97), .pick (.t 93) (.t 96) (.k (.c (.d (.bool false)))), none⟩,
    ⟨(some 98), .mv (.t 97), none⟩,
    ⟨(some 99), .mv (.t 16), (some (98, true))⟩,
    ⟨(some 100), .mv (.t 18), (some (98, true))⟩,
    ⟨(some 101), .bin .eql (.t 99) (.t 100), (some (98, true))⟩,
    ⟨(some 102), .pick (.t 98) (.t 101) (.k (.c (.d (.bool false)))), none⟩,
    ⟨(some 103), .mv (.t 102), none⟩,
    ⟨(some 104), .mv (.t 15), (some (103, true))⟩,
    ⟨(some 105), .mv (.t 17), (some (103, true))⟩,
    ⟨(some 106), .bin .eql (.t 104) (.t 105), (some (103, true))⟩,
    ⟨(some 107), .pick (.t 103) (.t 106) (.k (.c (.d (.bool false)))), none⟩,
    ⟨(some 108), .mv (.t 107), none⟩,
    ⟨(some 109), .mv (.t 20), (some (108, true))⟩,
    ⟨(some 110), .mv (.t 22), (some (108, true))⟩,
    ⟨(some 111), .bin .eql (.t 109) (.t 110), (some (108, true))⟩,
    ⟨(some 112), .pick (.t 108) (.t 111) (.k (.c (.d (.bool false)))), none⟩,
    ⟨(some 113), .mv (.t 112), none⟩,
    ⟨(some 114), .load (.ag 2) (.t 19), (some (113, true))⟩,
    ⟨(some 115), .load (.ag 2) (.t 21), (some (113, true))⟩,
    ⟨(some 116), .eqA false [0, 0] (.t 114) (.t 115), (some (113, true))⟩,
    ⟨(some 117), .pick (.t 113) (.t 116) (.k (.c (.d (.bool false)))), none⟩,
    ⟨(some 118), .mv (.t 117), none⟩,
    ⟨(some 119), .mv (.t 24), (some (118, true))⟩,
    ⟨(some 120), .mv (.t 26), (some (118, true))⟩,
    ⟨(some 121), .bin .eql (.t 119) (.t 120), (some (118, true))⟩,
    ⟨(some 122), .pick (.t 118) (.t 121) (.k (.c (.d (.bool false)))), none⟩,
    ⟨(some 123), .mv (.t 122), none⟩,
    ⟨(some 124), .mv (.t 23), (some (123, true))⟩,
    ⟨(some 125), .mv (.t 25), (some (123, true))⟩,
    ⟨(some 126), .bin .eql (.t 124) (.t 125), (some (123, true))⟩,
    ⟨(some 127), .pick (.t 123) (.t 126) (.k (.c (.d (.bool false)))), none⟩,
    ⟨(some 8), .mv (.t 127), none⟩])
  (.ret))))))))))),
  [(8, none)]⟩
theorem cf_kact13 : compFn Try.prog { own := [], comp := [], frz := [], nils := [] } Try.f3 = some sf_kact13 := by kernel_rfl
set_option maxHeartbeats 1600000 in
theorem kact13_c (G : Glob) (l0 : Int) (hl01 : -9223372036854775808 ≤ l0) (hl02 : l0 ≤ 9223372036854775807) (l1 : List (Int × Int)) (hl11 : l1.length ≤ maxLen) (hl12 : ∀ p ∈ l1, fitI p.1 ∧ fitI p.2) (i : Int) (hi1 : -9223372036854775808 ≤ i) (hi2 : i ≤ 9223372036854775807) (t : Int) (ht1 : -9223372036854775808 ≤ t) (ht2 : t ≤ 9223372036854775807) (s : Int) (hs1 : -9223372036854775808 ≤ s) (hs2 : s ≤ 9223372036854775807)  : Den Try.prog G 3 [.agg [.int .i64 l0, .sl (l1.map spD)], .int .i64 i, .int .i64 t, .int .i64 s] (.w (.c (.d (.bool true)))) := by
  refine den_walk Try.func3 cf_kact13 rfl rfl ?_
  have hm : maxLen ≤ 9223372036854775807 := by decide
  have hl : l1.length ≤ 9223372036854775807 := by omega
  by_cases k : l1.length > 70
  · have k' : ((l1.length : Int) > 70) = True := eq_true (by omega)
    simp only [sf_kact13, putAll, wx, wy, wz, stV, seval, IntWalk.iteOmega, IntWalk.toNatUp, reduceCtorEq, k']
    refine st_call (known13_c G) rfl (.inl rfl) ?_
    simp only [wx, wy, wz, stV, seval, IntWalk.iteOmega, IntWalk.toNatUp, reduceCtorEq]
    exact ret_d1 (by simp only [wx, wy, wz, stV, seval, IntWalk.iteOmega, IntWalk.toNatUp, reduceCtorEq])
  · have k' : ((l1.length : Int) > 70) = False := eq_false (by omega)
    simp only [sf_kact13, putAll, wx, wy, wz, stV, seval, IntWalk.iteOmega, IntWalk.toNatUp, reduceCtorEq, k']
    refine st_call (ewin_c G l0 l1 i hl) rfl (.inl rfl) ?_
    simp only [spV, wx, wy, wz, stV, seval, IntWalk.iteOmega, IntWalk.toNatUp, reduceCtorEq]
    refine st_call (rwin_c G l0 l1 i hl) rfl (.inl rfl) ?_
    simp only [spV, wx, wy, wz, stV, seval, IntWalk.iteOmega, IntWalk.toNatUp, reduceCtorEq]
    refine st_call (esme_c G l0 l1 t hl) rfl (.inl rfl) ?_
    simp only [wx, wy, wz, stV, seval, IntWalk.iteOmega, IntWalk.toNatUp, reduceCtorEq]
    refine st_call (resme_c G l0 l1 t hl) rfl (.inl rfl) ?_
    simp only [wx, wy, wz, stV, seval, IntWalk.iteOmega, IntWalk.toNatUp, reduceCtorEq]
    refine st_call (eclr_c G l0 l1 s hl) rfl (.inl rfl) ?_
    simp only [spV, wx, wy, wz, stV, seval, IntWalk.iteOmega, IntWalk.toNatUp, reduceCtorEq]
    refine st_call (rclr_c G l0 l1 s hl) rfl (.inl rfl) ?_
    simp only [spV, wx, wy, wz, stV, seval, IntWalk.iteOmega, IntWalk.toNatUp, reduceCtorEq]
    refine st_call (eero_c G l0 l1 t hl ht1 ht2) rfl (.inl rfl) ?_
    simp only [wx, wy, wz, stV, seval, IntWalk.iteOmega, IntWalk.toNatUp, reduceCtorEq]
    refine st_call (rero_c G l0 l1 t hl ht1 ht2) rfl (.inl rfl) ?_
    simp only [wx, wy, wz, stV, seval, IntWalk.iteOmega, IntWalk.toNatUp, reduceCtorEq]
    refine st_call (known13_c G) rfl (.inl rfl) ?_
    simp only [wx, wy, wz, stV, seval, IntWalk.iteOmega, IntWalk.toNatUp, reduceCtorEq]
    exact ret_d1 (by simp only [wx, wy, wz, stV, seval, IntWalk.iteOmega, IntWalk.toNatUp, reduceCtorEq])
def sf_knea13 : SFn := ⟨2, 91,
  .seq (.reg [⟨(some 4), .mv (.k (.c (.d (.bool false)))), none⟩])
  (.seq (.reg [⟨(some 19), .mv (.t 0), none⟩,
    ⟨(some 20), .call 17 [(.t 19)] none, none⟩,
    ⟨(some 5), .alloc [(.d (.int .i64 0)), .nil], none⟩,
    ⟨none, .store (.ag 2) (.t 5) (.t 20), none⟩])
  (.seq (.reg [⟨(some 21), .load (.ag 2) (.t 5), none⟩,
    ⟨(some 22), .mv (.t 1), none⟩,
    ⟨(some 23), .call 18 [(.t 21), (.t 22)] none, none⟩,
    ⟨(some 6), .mv (.t 23), none⟩])
  (.seq (.reg [⟨(some 25), .load (.ag 2) (.t 5), none⟩,
    ⟨(some 26), .mv (.t 6), none⟩,
    ⟨(some 27), .call 11 [(.t 25), (.t 26)] none, none⟩,
    ⟨(some 24), .mv (.t 27), none⟩,
    ⟨(some 28), .extract (.t 24) 0, none⟩,
    ⟨(some 29), .extract (.t 24) 1, none⟩,
    ⟨(some 7), .mv (.t 28), none⟩,
    ⟨(some 8), .mv (.t 29), none⟩])
  (.seq (.reg [⟨(some 31), .load (.ag 2) (.t 5), none⟩,
    ⟨(some 32), .mv (.t 6), none⟩,
    ⟨(some 33), .call 12 [(.t 31), (.t 32)] none, none⟩,
    ⟨(some 30), .mv (.t 33), none⟩,
    ⟨(some 34), .extract (.t 30) 0, none⟩,
    ⟨(some 35), .extract (.t 30) 1, none⟩,
    ⟨(some 9), .mv (.t 34), none⟩,
    ⟨(some 10), .mv (.t 35), none⟩])
  (.seq (.reg [⟨(some 37), .load (.ag 2) (.t 5), none⟩,
    ⟨(some 38), .mv (.t 9), none⟩,
    ⟨(some 39), .call 13 [(.t 37), (.t 38)] none, none⟩,
    ⟨(some 36), .mv (.t 39), none⟩,
    ⟨(some 40), .extract (.t 36) 0, none⟩,
    ⟨(some 41), .extract (.t 36) 1, none⟩,
    ⟨(some 11), .alloc [(.d (.int .i64 0)), (.d (.int .i64 0))], none⟩,
    ⟨none, .store (.ag 2) (.t 11) (.t 40), none⟩,
    ⟨(some 12), .mv (.t 41), none⟩])
  (.seq (.reg [⟨(some 43), .load (.ag 2) (.t 5), none⟩,
    ⟨(some 44), .mv (.t 9), none⟩,
    ⟨(some 45), .call 14 [(.t 43), (.t 44)] none, none⟩,
    ⟨(some 42), .mv (.t 45), none⟩,
    ⟨(some 46), .extract (.t 42) 0, none⟩,
    ⟨(some 47), .extract (.t 42) 1, none⟩,
    ⟨(some 13), .alloc [(.d (.int .i64 0)), (.d (.int .i64 0))], none⟩,
    ⟨none, .store (.ag 2) (.t 13) (.t 46), none⟩,
    ⟨(some 14), .mv (.t 47), none⟩])
  (.seq (.reg [⟨(some 49), .load (.ag 2) (.t 5), none⟩,
    ⟨(some 50), .mv (.t 6), none⟩,
    ⟨(some 51), .call 15 [(.t 49), (.t 50)] none, none⟩,
    ⟨(some 48), .mv (.t 51), none⟩,
    ⟨(some 52), .extract (.t 48) 0, none⟩,
    ⟨(some 53), .extract (.t 48) 1, none⟩,
    ⟨(some 15), .mv (.t 52), none⟩,
    ⟨(some 16), .mv (.t 53), none⟩])
  (.seq (.reg [⟨(some 55), .load (.ag 2) (.t 5), none⟩,
    ⟨(some 56), .mv (.t 6), none⟩,
    ⟨(some 57), .call 16 [(.t 55), (.t 56)] none, none⟩,
    ⟨(some 54), .mv (.t 57), none⟩,
    ⟨(some 58), .extract (.t 54) 0, none⟩,
    ⟨(some 59), .extract (.t 54) 1, none⟩,
    ⟨(some 17), .mv (.t 58), none⟩,
    ⟨(some 18), .mv (.t 59), none⟩])
  (.seq (.reg [⟨(some 60), .call 8 [] none, none⟩,
    ⟨(some 61), .mv (.t 60), none⟩,
    ⟨(some 62), .mv (.t 8), (some (61, true))⟩,
    ⟨(some 63), .mv (.t 10), (some (61, true))⟩,
    ⟨(some 64), .bin .eql (.t 62) (.t 63), (some (61, true))⟩,
    ⟨(some 65), .pick (.t 61) (.t 64) (.k (.c (.d (.bool false)))), none⟩,
    ⟨(some 66), .mv (.t 65), none⟩,
    ⟨(some 67), .mv (.t 7), (some (66, true))⟩,
    ⟨(some 68), .mv (.t 9), (some (66, true))⟩,
    ⟨(some 69), .bin .eql (.t 67) (.t 68), (some (66, true))⟩,
    ⟨(some 70), .pick (.t 66) (.t 69) (.k (.c (.d (.bool false)))), none⟩,
    ⟨(some 71), .mv (.t 70), none⟩,
    ⟨(some 72), .mv (.t 12), (some (71, true))⟩,
    ⟨(some 73), .mv (.t 14), (some (71, true))⟩,
    ⟨(some 74), .bin .eql (.t 72) (.t 73), (some (71, true))⟩,
    ⟨(some 75), .pick (.t 71) (.t 74) (.k (.c (.d (.bool false)))), none⟩,
    ⟨(some 76), .mv (.t 75), none⟩,
    ⟨(some 77), .load (.ag 2) (.t 11), (some (76, true))⟩,
    ⟨(some 78), .load (.ag 2) (.t 13), (some (76, true))⟩,
    ⟨(some 79), .eqA false [0, 0] (.t 77) (.t 78), (some (76, true))⟩,
    ⟨(some 80), .pick (.t 76) (.t 79) (.k (.c (.d (.bool false)))), none⟩,
    ⟨(some 81), .mv (.t 80), none⟩,
    ⟨(some 82), .mv (.t 16), (some (81, true))⟩,
    ⟨(some 83), .mv (.t 18), (some (81, true))⟩,
    ⟨(some 84), .bin .eql (.t 82) (.t 83), (some (81, true))⟩,
    ⟨(some 85), .pick (.t 81) (.t 84) (.k (.c (.d (.bool false)))), none⟩,
    ⟨(some 86), .mv (.t 85), none⟩,
    ⟨(some 87), .mv (.t 15), (some (86, true))⟩,
    ⟨(some 88), .mv (.t 17), (some (86, true))⟩,
    ⟨(some 89), .bin .eql (.t 87) (.t 88), (some (86, true))⟩,
    ⟨(some 90), .pick (.t 86) (.t 89) (.k (.c (.d (.bool false)))), none⟩,
    ⟨(some 4), .mv (.t 90), none⟩])
  (.ret)))))))))),
  [(4, none)]⟩
theorem cf_knea13 : compFn Try.prog { own := [], comp := [], frz := [], nils := [] } Try.f4 = some sf_knea13 := by kernel_rfl
set_option maxHeartbeats 1600000 in
theorem knea13_c (G : Glob) (table : List Int) (htable1 : table.length ≤ maxLen) (htable2 : ∀ n ∈ table, fitI n) (v : Int) (hv1 : -9223372036854775808 ≤ v) (hv2 : v ≤ 9223372036854775807)  : Den Try.prog G 4 [.sl (table.map zD), .int .i64 v] (.w (.c (.d (.bool true)))) := by
  refine den_walk Try.func4 cf_knea13 rfl rfl ?_
  have hm : maxLen ≤ 9223372036854775807 := by decide
  have len := wl_len table
  have ok := wlT_ok table
  have eb := wl_el table
  have cw := wleap_c G table (by omega)
  have cn := wnear_c G 10 (wlT table) v (by omega) eb hv1 hv2
  have nb := nlN_in eb v
  generalize nlN (wlT table) v = t at *
  generalize wlT table = L at *
  have hL : L.length ≤ 9223372036854775807 := by omega
  have c1 := esme_c G 10 L t hL
  have c2 := resme_c G 10 L t hL
  generalize smvV 10 L t = y at *
  generalize smvE 10 L t = e at *
  have c3 := eclr_c G 10 L y hL
  have c4 := rclr_c G 10 L y hL
  have c5 := eero_c G 10 L t hL (by omega) (by omega)
  have c6 := rero_c G 10 L t hL (by omega) (by omega)
  unfold lpD at cw cn c1 c2 c3 c4 c5 c6
  unfold spV at c3 c4
  simp only [sf_knea13, putAll, wx, wy, wz, stV, seval, IntWalk.iteOmega, IntWalk.toNatUp, reduceCtorEq]
  refine st_call (cw) rfl (.inl rfl) ?_
  simp only [wx, wy, wz, stV, seval, IntWalk.iteOmega, IntWalk.toNatUp, reduceCtorEq]
  refine st_call (cn) rfl (.inl rfl) ?_
  simp only [wx, wy, wz, stV, seval, IntWalk.iteOmega, IntWalk.toNatUp, reduceCtorEq]
  refine st_call (c1) rfl (.inl rfl) ?_
  simp only [wx, wy, wz, stV, seval, IntWalk.iteOmega, IntWalk.toNatUp, reduceCtorEq]
  refine st_call (c2) rfl (.inl rfl) ?_
  simp only [wx, wy, wz, stV, seval, IntWalk.iteOmega, IntWalk.toNatUp, reduceCtorEq]
  refine st_call (c3) rfl (.inl rfl) ?_
  simp only [wx, wy, wz, stV, seval, IntWalk.iteOmega, IntWalk.toNatUp, reduceCtorEq]
  refine st_call (c4) rfl (.inl rfl) ?_
  simp only [wx, wy, wz, stV, seval, IntWalk.iteOmega, IntWalk.toNatUp, reduceCtorEq]
  refine st_call (c5) rfl (.inl rfl) ?_
  simp only [wx, wy, wz, stV, seval, IntWalk.iteOmega, IntWalk.toNatUp, reduceCtorEq]
  refine st_call (c6) rfl (.inl rfl) ?_
  simp only [wx, wy, wz, stV, seval, IntWalk.iteOmega, IntWalk.toNatUp, reduceCtorEq]
  refine st_call (known13_c G) rfl (.inl rfl) ?_
  simp only [wx, wy, wz, stV, seval, IntWalk.iteOmega, IntWalk.toNatUp, reduceCtorEq]
  exact ret_d1 (by simp only [wx, wy, wz, stV, seval, IntWalk.iteOmega, IntWalk.toNatUp, reduceCtorEq])
end Go.Proofs.Ytibpaciljnfpmaa
