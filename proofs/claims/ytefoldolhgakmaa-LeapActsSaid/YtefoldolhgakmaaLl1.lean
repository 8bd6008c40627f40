/- The laws of layer 12: what its functions return; there and back. Own work. -/
import Derived.Test.YtefoldolhgakmaaAlV
import Derived.Test.YtefoldolhgakmaaLl0
set_option linter.unusedVariables false
set_option linter.unusedSimpArgs false
namespace Go.Proofs.Ytefoldolhgakmaa
open Go.RowKit

def sf_kact12 : SFn := ⟨5, 156,
  .seq (.reg [⟨(some 5), .box .roBox (.t 0), none⟩,
    ⟨(some 6), .box .roBox (.t 1), none⟩,
    ⟨(some 10), .mv (.k (.c (.d (.bool false)))), none⟩])
  (.seq (.seq (.reg [⟨(some 31), .fieldAddr 1 (.t 5), none⟩,
    ⟨(some 32), .load .sc (.t 31), none⟩,
    ⟨(some 33), .len (.t 32), none⟩,
    ⟨(some 34), .bin .gtr (.t 33) (.k (.c (.d (.int .i64 70)))), none⟩])
  (.cond (.t 34) (.seq (.reg [⟨(some 35), .call 9 [] none, none⟩,
     ⟨(some 10), .mv (.t 35), none⟩])
   (.ret))
   (.skip)))
  (.seq (.reg [⟨(some 37), .load (.ag 2) (.t 5), none⟩,
    ⟨(some 38), .mv (.t 3), none⟩,
    ⟨(some 39), .call 10 [(.t 37), (.t 38)] none, none⟩,
    ⟨(some 36), .mv (.t 39), none⟩,
    ⟨(some 40), .extract (.t 36) 0, none⟩,
    ⟨(some 41), .extract (.t 36) 1, none⟩,
    ⟨(some 11), .mv (.t 40), none⟩,
    ⟨(some 12), .mv (.t 41), none⟩])
  (.seq (.reg [⟨(some 43), .load (.ag 2) (.t 5), none⟩,
    ⟨(some 44), .mv (.t 3), none⟩,
    ⟨(some 45), .call 11 [(.t 43), (.t 44)] none, none⟩,
    ⟨(some 42), .mv (.t 45), none⟩,
    ⟨(some 46), .extract (.t 42) 0, none⟩,
    ⟨(some 47), .extract (.t 42) 1, none⟩,
    ⟨(some 13), .mv (.t 46), none⟩,
    ⟨(some 14), .mv (.t 47), none⟩])
  (.seq (.reg [⟨(some 49), .load (.ag 2) (.t 5), none⟩,
    ⟨(some 50), .load (.ag 3) (.t 6), none⟩,
    ⟨(some 51), .call 12 [(.t 49), (.t 50)] none, none⟩,
    ⟨(some 48), .mv (.t 51), none⟩,
    ⟨(some 52), .extract (.t 48) 0, none⟩,
    ⟨(some 53), .extract (.t 48) 1, none⟩,
    ⟨(some 15), .mv (.t 52), none⟩,
    ⟨(some 16), .mv (.t 53), none⟩])
  (.seq (.reg [⟨(some 55), .load (.ag 2) (.t 5), none⟩,
    ⟨(some 56), .load (.ag 3) (.t 6), none⟩,
    ⟨(some 57), .call 13 [(.t 55), (.t 56)] none, none⟩,
    ⟨(some 54), .mv (.t 57), none⟩,
    ⟨(some 58), .extract (.t 54) 0, none⟩,
    ⟨(some 59), .extract (.t 54) 1, none⟩,
    ⟨(some 17), .mv (.t 58), none⟩,
    ⟨(some 18), .mv (.t 59), none⟩])
  (.seq (.reg [⟨(some 61), .load (.ag 2) (.t 5), none⟩,
    ⟨(some 62), .mv (.t 2), none⟩,
    ⟨(some 63), .call 14 [(.t 61), (.t 62)] none, none⟩,
    ⟨(some 60), .mv (.t 63), none⟩,
    ⟨(some 64), .extract (.t 60) 0, none⟩,
    ⟨(some 65), .extract (.t 60) 1, none⟩,
    ⟨(some 19), .alloc [(.d (.int .i64 0)), (.d (.bool false)), (.d (.int .i64 0))], none⟩,
    ⟨none, .store (.ag 3) (.t 19) (.t 64), none⟩,
    ⟨(some 20), .mv (.t 65), none⟩])
  (.seq (.reg [⟨(some 67), .load (.ag 2) (.t 5), none⟩,
    ⟨(some 68), .mv (.t 2), none⟩,
    ⟨(some 69), .call 15 [(.t 67), (.t 68)] none, none⟩,
    ⟨(some 66), .mv (.t 69), none⟩,
    ⟨(some 70), .extract (.t 66) 0, none⟩,
    ⟨(some 71), .extract (.t 66) 1, none⟩,
    ⟨(some 21), .alloc [(.d (.int .i64 0)), (.d (.bool false)), (.d (.int .i64 0))], none⟩,
    ⟨none, .store (.ag 3) (.t 21) (.t 70), none⟩,
    ⟨(some 22), .mv (.t 71), none⟩])
  (.seq (.reg [⟨(some 73), .load (.ag 2) (.t 5), none⟩,
    ⟨(some 74), .mv (.t 3), none⟩,
    ⟨(some 75), .mv (.t 4), none⟩,
    ⟨(some 76), .call 16 [(.t 73), (.t 74), (.t 75)] none, none⟩,
    ⟨(some 72), .mv (.t 76), none⟩,
    ⟨(some 77), .extract (.t 72) 0, none⟩,
    ⟨(some 78), .extract (.t 72) 1, none⟩,
    ⟨(some 23), .alloc [(.d (.int .i64 0)), (.d (.int .i64 0))], none⟩,
    ⟨none, .store (.ag 2) (.t 23) (.t 77), none⟩,
    ⟨(some 24), .mv (.t 78), none⟩])
  (.seq (.reg [⟨(some 80), .load (.ag 2) (.t 5), none⟩,
    ⟨(some 81), .mv (.t 3), none⟩,
    ⟨(some 82), .mv (.t 4), none⟩,
    ⟨(some 83), .call 17 [(.t 80), (.t 81), (.t 82)] none, none⟩,
    ⟨(some 79), .mv (.t 83), none⟩,
    ⟨(some 84), .extract (.t 79) 0, none⟩,
    ⟨(some 85), .extract (.t 79) 1, none⟩,
    ⟨(some 25), .alloc [(.d (.int .i64 0)), (.d (.int .i64 0))], none⟩,
    ⟨none, .store (.ag 2) (.t 25) (.t 84), none⟩,
    ⟨(some 26), .mv (.t 85), none⟩])
  (.seq (.reg [⟨(some 87), .load (.ag 2) (.t 5), none⟩,
    ⟨(some 88), .mv (.t 3), none⟩,
    ⟨(some 89), .call 18 [(.t 87), (.t 88)] none, none⟩,
    ⟨(some 86), .mv (.t 89), none⟩,
    ⟨(some 90), .extract (.t 86) 0, none⟩,
    ⟨(some 91), .extract (.t 86) 1, none⟩,
    ⟨(some 27), .mv (.t 90), none⟩,
    ⟨(some 28), .mv (.t 91), none⟩])
  (.seq (.reg [⟨(some 93), .load (.ag 2) (.t 5), none⟩,
    ⟨(some 94), .mv (.t 3), none⟩,
    ⟨(some 95), .call 19 [(.t 93), (.t 94)] none, none⟩,
    ⟨(some 92), .mv (.t 95), none⟩,
    ⟨(some 96), .extract (.t 92) 0, none⟩,
    ⟨(some 97), .extract (.t 92) 1, none⟩,
    ⟨(some 29), .mv (.t 96), none⟩,
    ⟨(some 30), .mv (.t 97), none⟩])
  (.seq (.reg [⟨(some 98), .call 9 [] none, none⟩,
    ⟨(some 99), .mv (.t 98), none⟩,
    ⟨(some 100), .load (.ag 2) (.t 5), (some (99, true))⟩,
    ⟨(some 101), .call 20 [(.t 100)] none, (some (99, true))⟩,
    ⟨(some 102), .load (.ag 2) (.t 5), (some (99, true))⟩,
    ⟨(some 103), .call 21 [(.t 102)] none, (some (99, true))⟩,
    ⟨(some 104), .eqB false (.t 101) (.t 103), (some (99, true))⟩,
    ⟨(some 105), .pick (.t 99) (.t 104) (.k (.c (.d (.bool false)))), none⟩,
    ⟨(some 106), .mv (.t 105), none⟩,
    ⟨(some 107), .mv (.t 12), (some (106, true))⟩,
    ⟨(some 108), .mv (.t 14), (some (106, true))⟩,
    ⟨(some 109), .bin .eql (.t 107) (.t 108), (some (106, true))⟩,
    ⟨(some 110), .pick (.t 106) (.t 109) (.k (.c (.d (.bool false)))), none⟩,
    ⟨(some 111), .mv (.t 110), none⟩,
    ⟨(some 112), .mv (.t 11), (some (111, true))⟩,
    ⟨(some 113), .mv (.t 13), (some (111, true))⟩,
    ⟨(some 114), .bin .eql (.t 112) (.t 113), (some (111, true))⟩,
    ⟨(some 115), .pick (.t 111) (.t 114) (.k (.c (.d (.bool false)))), none⟩,
    ⟨(some 116), .mv (.t 115), none⟩,
    ⟨(some 117), .mv (.t 16), (some (116, true))⟩,
    ⟨(some 118), .mv (.t 18), (some (116, true))⟩,
    ⟨(some 119), .bin .eql (.t 117) (.t 118), (some (116, true))⟩,
    ⟨(some 120), .pick (.t 116) (.t 119) (.k (.c (.d (.bool false)))), none⟩,
    ⟨(some 121), .mv (.t 120), none⟩,
    ⟨(some 122), .mv (.t 15), (some (121, true))⟩,
    ⟨(some 123), .mv (.t 17), (some (121, true))⟩,
    ⟨(some 124), .bin .eql (.t 122) (.t 123), (some (121, true))⟩,
    ⟨(some 125), .pick (.t 121) (.t 124) (.k (.c (.d (.bool false)))), none⟩,
    ⟨(some 126), .mv (.t 125), none⟩,
    ⟨(some 127), .mv (.t 20), (some (126, true))⟩,
    ⟨(some 128), .mv (.t 22), (some (126, true))⟩,
    ⟨(some 129), .bin .eql (.t 127) (.t 128), (some (126, true))⟩,
    ⟨(some 130), .pick (.t 126) (.t 129) (.k (.c (.d (.bool false)))), none⟩,
    ⟨(some 131), .mv (.t 130), none⟩,
    ⟨(some 132), .load (.ag 3) (.t 19), (some (131, true))⟩,
    ⟨(some 133), .load (.ag 3) (.t 21), (some (131, true))⟩,
    ⟨(some 134), .eqA false [0, 1, 0] (.t 132) (.t 133), (some (131, true))⟩,
    ⟨(some 135), .pick (.t 131) (.t 134) (.k (.c (.d (.bool false)))), none⟩,
    ⟨(some 136), .mv (.t 135), none⟩,
    ⟨(some 137), .mv (.t 24), (some (136, true))⟩,
    ⟨(some 138), .mv (.t 26), (some (136, true))⟩,
    ⟨(some 139), .bin .eql (.t 137) (.t 138), (some (136, true))⟩,
    ⟨(some 140), .pick (.t 136) (.t 139) (.k (.c (.d (.bool false)))), none⟩,
    ⟨(some 141), .mv (.t 140), none⟩,
    ⟨(some 142), .load (.ag 2) (.t 23), (some (141, true))⟩,
    ⟨(some 143), .load (.ag 2) (.t 25), (some (141, true))⟩,
    ⟨(some 144), .eqA false [0, 0] (.t 142) (.t 143), (some (141, true))⟩,
    ⟨(some 145), .pick (.t 141) (.t 144) (.k (.c (.d (.bool false)))), none⟩,
    ⟨(some 146), .mv (.t 145), none⟩,
    ⟨(some 147), .mv (.t 28), (some (146, true))⟩,
    ⟨(some 148), .mv (.t 30), (some (146, true))⟩,
    ⟨(some 149), .bin .eql (.t 147) (.t 148), (some (146, true))⟩,
    ⟨(some 150), .pick (.t 146) (.t 149) (.k (.c (.d (.bool false)))), none⟩,
    ⟨(some 151), .mv (.t 150), none⟩,
    ⟨(some 152), .mv (.t 27), (some (151, true))⟩,
    ⟨(some 153), .mv (.t 29), (some (151, true))⟩,
    ⟨(some 154), .bin .eql (.t 152) (.t 153), (some (151, true))⟩,
    ⟨(some 155), .pick (.t 151) (.t 154) (.k (.c (.d (.bool false)))), none⟩,
    ⟨(some 10), .mv (.t 155), none⟩])
  (.ret))))))))))))),
  [(10, none)]⟩
theorem cf_kact12 : compFn Try.prog { own := [], comp := [], frz := [], nils := [] } Try.f3 = some sf_kact12 := by kernel_rfl
set_option maxHeartbeats 1600000 in
theorem kact12_c (G : Glob) (l0 : Int) (hl01 : -9223372036854775808 ≤ l0) (hl02 : l0 ≤ 9223372036854775807) (l1 : List (Int × Int)) (hl11 : l1.length ≤ maxLen) (hl12 : ∀ p ∈ l1, fitI p.1 ∧ fitI p.2) (u0 : Int) (hu01 : -9223372036854775808 ≤ u0) (hu02 : u0 ≤ 9223372036854775807) (u1 : Bool) (u2 : Int) (hu21 : -9223372036854775808 ≤ u2) (hu22 : u2 ≤ 9223372036854775807) (t : Int) (ht1 : -9223372036854775808 ≤ t) (ht2 : t ≤ 9223372036854775807) (second : Int) (hsecond1 : -9223372036854775808 ≤ second) (hsecond2 : second ≤ 9223372036854775807) (ticks : Int) (hticks1 : -9223372036854775808 ≤ ticks) (hticks2 : ticks ≤ 9223372036854775807)  : Den Try.prog G 3 [.agg [.int .i64 l0, .sl (l1.map spD)], .agg [.int .i64 u0, .bool u1, .int .i64 u2], .int .i64 t, .int .i64 second, .int .i64 ticks] (.w (.c (.d (.bool true)))) := by
  refine den_walk Try.func3 cf_kact12 rfl rfl ?_
  have hm : maxLen ≤ 9223372036854775807 := by decide
  have hl : l1.length ≤ 9223372036854775807 := by omega
  by_cases k : l1.length > 70
  · have k' : ((l1.length : Int) > 70) = True := eq_true (by omega)
    simp only [sf_kact12, putAll, wx, wy, wz, stV, seval, IntWalk.iteOmega, IntWalk.toNatUp, reduceCtorEq, k']
    refine st_call (known12_c G) rfl (.inl rfl) ?_
    simp only [wx, wy, wz, stV, seval, IntWalk.iteOmega, IntWalk.toNatUp, reduceCtorEq]
    exact ret_d1 (by simp only [wx, wy, wz, stV, seval, IntWalk.iteOmega, IntWalk.toNatUp, reduceCtorEq])
  · have k' : ((l1.length : Int) > 70) = False := eq_false (by omega)
    simp only [sf_kact12, putAll, wx, wy, wz, stV, seval, IntWalk.iteOmega, IntWalk.toNatUp, reduceCtorEq, k']
    refine st_call (lofs_c G l0 l1 second hl) rfl (.inl rfl) ?_
    simp only [wx, wy, wz, stV, seval, IntWalk.iteOmega, IntWalk.toNatUp, reduceCtorEq]
    refine st_call (rlofs_c G l0 l1 second hl) rfl (.inl rfl) ?_
    simp only [wx, wy, wz, stV, seval, IntWalk.iteOmega, IntWalk.toNatUp, reduceCtorEq]
    refine st_call (ltai_c G l0 l1 u0 u1 u2 hl) rfl (.inl rfl) ?_
    simp only [wx, wy, wz, stV, seval, IntWalk.iteOmega, IntWalk.toNatUp, reduceCtorEq]
    refine st_call (rltai_c G l0 l1 u0 u1 u2 hl) rfl (.inl rfl) ?_
    simp only [wx, wy, wz, stV, seval, IntWalk.iteOmega, IntWalk.toNatUp, reduceCtorEq]
    refine st_call (lutc_c G l0 l1 t hl ht1 ht2) rfl (.inl rfl) ?_
    simp only [wx, wy, wz, stV, seval, IntWalk.iteOmega, IntWalk.toNatUp, reduceCtorEq]
    refine st_call (rlutc_c G l0 l1 t hl ht1 ht2) rfl (.inl rfl) ?_
    simp only [wx, wy, wz, stV, seval, IntWalk.iteOmega, IntWalk.toNatUp, reduceCtorEq]
    refine st_call (lnum_c G l0 l1 second ticks hl) rfl (.inl rfl) ?_
    simp only [wx, wy, wz, stV, seval, IntWalk.iteOmega, IntWalk.toNatUp, reduceCtorEq]
    refine st_call (rlnum_c G l0 l1 second ticks hl) rfl (.inl rfl) ?_
    simp only [wx, wy, wz, stV, seval, IntWalk.iteOmega, IntWalk.toNatUp, reduceCtorEq]
    refine st_call (lsts_c G l0 l1 second hl) rfl (.inl rfl) ?_
    simp only [wx, wy, wz, stV, seval, IntWalk.iteOmega, IntWalk.toNatUp, reduceCtorEq]
    refine st_call (rlsts_c G l0 l1 second hl) rfl (.inl rfl) ?_
    simp only [wx, wy, wz, stV, seval, IntWalk.iteOmega, IntWalk.toNatUp, reduceCtorEq]
    refine st_call (known12_c G) rfl (.inl rfl) ?_
    simp only [wx, wy, wz, stV, seval, IntWalk.iteOmega, IntWalk.toNatUp, reduceCtorEq]
    refine st_call (lvl_c G l0 l1 hl) rfl (.inl rfl) ?_
    simp only [wx, wy, wz, stV, seval, IntWalk.iteOmega, IntWalk.toNatUp, reduceCtorEq]
    refine st_call (rlv_c G l0 l1 hl) rfl (.inl rfl) ?_
    simp only [wx, wy, wz, stV, seval, IntWalk.iteOmega, IntWalk.toNatUp, reduceCtorEq]
    exact ret_d1 (by simp only [wx, wy, wz, stV, seval, IntWalk.iteOmega, IntWalk.toNatUp, reduceCtorEq])
end Go.Proofs.Ytefoldolhgakmaa
