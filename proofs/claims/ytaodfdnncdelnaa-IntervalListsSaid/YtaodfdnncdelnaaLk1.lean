/- The laws of layer 11: what its functions return; order. Own work. -/
import Derived.Test.YtaodfdnncdelnaaAlV
import Derived.Test.YtaodfdnncdelnaaLk0
set_option linter.unusedVariables false
set_option linter.unusedSimpArgs false
namespace Go.Proofs.Ytaodfdnncdelnaa
open Go.RowKit

def sf_kact : SFn := ⟨5, 207,
  .seq (.reg [⟨(some 5), .box .roBox (.t 0), none⟩,
    ⟨(some 6), .box .roBox (.t 1), none⟩,
    ⟨(some 10), .mv (.k (.c (.d (.bool false)))), none⟩])
  (.seq (.reg [⟨(some 36), .load (.ag 2) (.t 5), none⟩,
    ⟨(some 37), .load (.ag 2) (.t 6), none⟩,
    ⟨(some 38), .call 9 [(.t 36), (.t 37)] none, none⟩,
    ⟨(some 35), .mv (.t 38), none⟩,
    ⟨(some 39), .extract (.t 35) 0, none⟩,
    ⟨(some 40), .extract (.t 35) 1, none⟩,
    ⟨(some 11), .alloc [(.d (.int .i64 0)), (.d (.int .i64 0))], none⟩,
    ⟨none, .store (.ag 2) (.t 11) (.t 39), none⟩,
    ⟨(some 12), .mv (.t 40), none⟩])
  (.seq (.reg [⟨(some 42), .load (.ag 2) (.t 5), none⟩,
    ⟨(some 43), .load (.ag 2) (.t 6), none⟩,
    ⟨(some 44), .call 10 [(.t 42), (.t 43)] none, none⟩,
    ⟨(some 41), .mv (.t 44), none⟩,
    ⟨(some 45), .extract (.t 41) 0, none⟩,
    ⟨(some 46), .extract (.t 41) 1, none⟩,
    ⟨(some 13), .alloc [(.d (.int .i64 0)), (.d (.int .i64 0))], none⟩,
    ⟨none, .store (.ag 2) (.t 13) (.t 45), none⟩,
    ⟨(some 14), .mv (.t 46), none⟩])
  (.seq (.reg [⟨(some 48), .load (.ag 2) (.t 5), none⟩,
    ⟨(some 49), .load (.ag 2) (.t 6), none⟩,
    ⟨(some 50), .call 11 [(.t 48), (.t 49)] none, none⟩,
    ⟨(some 47), .mv (.t 50), none⟩,
    ⟨(some 51), .extract (.t 47) 0, none⟩,
    ⟨(some 52), .extract (.t 47) 1, none⟩,
    ⟨(some 15), .alloc [(.d (.int .i64 0)), (.d (.int .i64 0))], none⟩,
    ⟨none, .store (.ag 2) (.t 15) (.t 51), none⟩,
    ⟨(some 16), .mv (.t 52), none⟩])
  (.seq (.reg [⟨(some 54), .load (.ag 2) (.t 5), none⟩,
    ⟨(some 55), .load (.ag 2) (.t 6), none⟩,
    ⟨(some 56), .call 12 [(.t 54), (.t 55)] none, none⟩,
    ⟨(some 53), .mv (.t 56), none⟩,
    ⟨(some 57), .extract (.t 53) 0, none⟩,
    ⟨(some 58), .extract (.t 53) 1, none⟩,
    ⟨(some 17), .alloc [(.d (.int .i64 0)), (.d (.int .i64 0))], none⟩,
    ⟨none, .store (.ag 2) (.t 17) (.t 57), none⟩,
    ⟨(some 18), .mv (.t 58), none⟩])
  (.seq (.reg [⟨(some 60), .load (.ag 2) (.t 5), none⟩,
    ⟨(some 61), .load (.ag 2) (.t 6), none⟩,
    ⟨(some 62), .call 13 [(.t 60), (.t 61)] none, none⟩,
    ⟨(some 59), .mv (.t 62), none⟩,
    ⟨(some 63), .extract (.t 59) 0, none⟩,
    ⟨(some 64), .extract (.t 59) 1, none⟩,
    ⟨(some 19), .alloc [(.d (.int .i64 0)), (.d (.int .i64 0))], none⟩,
    ⟨none, .store (.ag 2) (.t 19) (.t 63), none⟩,
    ⟨(some 20), .mv (.t 64), none⟩])
  (.seq (.reg [⟨(some 66), .load (.ag 2) (.t 5), none⟩,
    ⟨(some 67), .load (.ag 2) (.t 6), none⟩,
    ⟨(some 68), .call 14 [(.t 66), (.t 67)] none, none⟩,
    ⟨(some 65), .mv (.t 68), none⟩,
    ⟨(some 69), .extract (.t 65) 0, none⟩,
    ⟨(some 70), .extract (.t 65) 1, none⟩,
    ⟨(some 21), .alloc [(.d (.int .i64 0)), (.d (.int .i64 0))], none⟩,
    ⟨none, .store (.ag 2) (.t 21) (.t 69), none⟩,
    ⟨(some 22), .mv (.t 70), none⟩])
  (.seq (.reg [⟨(some 72), .load (.ag 2) (.t 5), none⟩,
    ⟨(some 73), .load (.ag 2) (.t 6), none⟩,
    ⟨(some 74), .call 15 [(.t 72), (.t 73)] none, none⟩,
    ⟨(some 71), .mv (.t 74), none⟩,
    ⟨(some 75), .extract (.t 71) 0, none⟩,
    ⟨(some 76), .extract (.t 71) 1, none⟩,
    ⟨(some 23), .alloc [(.d (.int .i64 0)), (.d (.int .i64 0))], none⟩,
    ⟨none, .store (.ag 2) (.t 23) (.t 75), none⟩,
    ⟨(some 24), .mv (.t 76), none⟩])
  (.seq (.reg [⟨(some 78), .load (.ag 2) (.t 5), none⟩,
    ⟨(some 79), .load (.ag 2) (.t 6), none⟩,
    ⟨(some 80), .call 16 [(.t 78), (.t 79)] none, none⟩,
    ⟨(some 77), .mv (.t 80), none⟩,
    ⟨(some 81), .extract (.t 77) 0, none⟩,
    ⟨(some 82), .extract (.t 77) 1, none⟩,
    ⟨(some 25), .alloc [(.d (.int .i64 0)), (.d (.int .i64 0))], none⟩,
    ⟨none, .store (.ag 2) (.t 25) (.t 81), none⟩,
    ⟨(some 26), .mv (.t 82), none⟩])
  (.seq (.reg [⟨(some 84), .load (.ag 2) (.t 5), none⟩,
    ⟨(some 85), .mv (.t 2), none⟩,
    ⟨(some 86), .call 17 [(.t 84), (.t 85)] none, none⟩,
    ⟨(some 83), .mv (.t 86), none⟩,
    ⟨(some 87), .extract (.t 83) 0, none⟩,
    ⟨(some 88), .extract (.t 83) 1, none⟩,
    ⟨(some 27), .alloc [(.d (.int .i64 0)), (.d (.int .i64 0))], none⟩,
    ⟨none, .store (.ag 2) (.t 27) (.t 87), none⟩,
    ⟨(some 28), .mv (.t 88), none⟩])
  (.seq (.reg [⟨(some 90), .load (.ag 2) (.t 5), none⟩,
    ⟨(some 91), .mv (.t 2), none⟩,
    ⟨(some 92), .call 18 [(.t 90), (.t 91)] none, none⟩,
    ⟨(some 89), .mv (.t 92), none⟩,
    ⟨(some 93), .extract (.t 89) 0, none⟩,
    ⟨(some 94), .extract (.t 89) 1, none⟩,
    ⟨(some 29), .alloc [(.d (.int .i64 0)), (.d (.int .i64 0))], none⟩,
    ⟨none, .store (.ag 2) (.t 29) (.t 93), none⟩,
    ⟨(some 30), .mv (.t 94), none⟩])
  (.seq (.reg [⟨(some 96), .load (.ag 2) (.t 5), none⟩,
    ⟨(some 97), .mv (.t 3), none⟩,
    ⟨(some 98), .mv (.t 4), none⟩,
    ⟨(some 99), .call 19 [(.t 96), (.t 97), (.t 98)] none, none⟩,
    ⟨(some 95), .mv (.t 99), none⟩,
    ⟨(some 100), .extract (.t 95) 0, none⟩,
    ⟨(some 101), .extract (.t 95) 1, none⟩,
    ⟨(some 31), .alloc [(.d (.int .i64 0)), (.d (.int .i64 0))], none⟩,
    ⟨none, .store (.ag 2) (.t 31) (.t 100), none⟩,
    ⟨(some 32), .mv (.t 101), none⟩])
  (.seq (.reg [⟨(some 103), .load (.ag 2) (.t 5), none⟩,
    ⟨(some 104), .mv (.t 3), none⟩,
    ⟨(some 105), .mv (.t 4), none⟩,
    ⟨(some 106), .call 20 [(.t 103), (.t 104), (.t 105)] none, none⟩,
    ⟨(some 102), .mv (.t 106), none⟩,
    ⟨(some 107), .extract (.t 102) 0, none⟩,
    ⟨(some 108), .extract (.t 102) 1, none⟩,
    ⟨(some 33), .alloc [(.d (.int .i64 0)), (.d (.int .i64 0))], none⟩,
    ⟨none, .store (.ag 2) (.t 33) (.t 107), none⟩,
    ⟨(some 34), .mv (.t 108), none⟩])
  (.seq (.seq (.reg [⟨(some 109), .mv (.t 12), none⟩,
    ⟨(some 110), .mv (.t 14), none⟩,
    ⟨(some 111), .eqB true (.t 109) (.t 110), none⟩,
    ⟨(some 112), .mv (.t 111), none⟩,
    ⟨(some 113), .load (.ag 2) (.t 11), (some (112, false))⟩,
    ⟨(some 114), .load (.ag 2) (.t 13), (some (112, false))⟩,
    ⟨(some 115), .eqA true [0, 0] (.t 113) (.t 114), (some (112, false))⟩,
    ⟨(some 116), .pick (.t 112) (.k (.c (.d (.bool true)))) (.t 115), none⟩,
    ⟨(some 117), .mv (.t 116), none⟩,
    ⟨(some 118), .mv (.t 16), (some (117, false))⟩,
    ⟨(some 119), .mv (.t 18), (some (117, false))⟩,
    ⟨(some 120), .bin .neq (.t 118) (.t 119), (some (117, false))⟩,
    ⟨(some 121), .pick (.t 117) (.k (.c (.d (.bool true)))) (.t 120), none⟩,
    ⟨(some 122), .mv (.t 121), none⟩,
    ⟨(some 123), .load (.ag 2) (.t 15), (some (122, false))⟩,
    ⟨(some 124), .load (.ag 2) (.t 17), (some (122, false))⟩,
    ⟨(some 125), .eqA true [0, 0] (.t 123) (.t 124), (some (122, false))⟩,
    ⟨(some 126), .pick (.t 122) (.k (.c (.d (.bool true)))) (.t 125), none⟩,
    ⟨(some 127), .mv (.t 126), none⟩,
    ⟨(some 128), .mv (.t 20), (some (127, false))⟩,
    ⟨(some 129), .mv (.t 22), (some (127, false))⟩,
    ⟨(some 130), .bin .neq (.t 128) (.t 129), (some (127, false))⟩,
    ⟨(some 131), .pick (.t 127) (.k (.c (.d (.bool true)))) (.t 130), none⟩,
    ⟨(some 132), .mv (.t 131), none⟩,
    ⟨(some 133), .load (.ag 2) (.t 19), (some (132, false))⟩,
    ⟨(some 134), .load (.ag 2) (.t 21), (some (132, false))⟩,
    ⟨(some 135), .eqA true [0, 0] (.t 133) (.t 134), (some (132, false))⟩,
    ⟨(some 136), .pick (.t 132) (.k (.c (.d (.bool true)))) (.t 135), none⟩,
    ⟨(some 137), .mv (.t 136), none⟩,
    ⟨(some 138), .mv (.t 24), (some (137, false))⟩,
    ⟨(some 139), .mv (.t 26), (some (137, false))⟩,
    ⟨(some 140), .bin .neq (.t 138) (.t 139), (some (137, false))⟩,
    ⟨(some 141), .pick (.t 137) (.k (.c (.d (.bool true)))) (.t 140), none⟩,
    ⟨(some 142), .mv (.t 141), none⟩,
    ⟨(some 143), .load (.ag 2) (.t 23), (some (142, false))⟩,
    ⟨(some 144), .load (.ag 2) (.t 25), (some (142, false))⟩,
    ⟨(some 145), .eqA true [0, 0] (.t 143) (.t 144), (some (142, false))⟩,
    ⟨(some 146), .pick (.t 142) (.k (.c (.d (.bool true)))) (.t 145), none⟩,
    ⟨(some 147), .mv (.t 146), none⟩,
    ⟨(some 148), .mv (.t 28), (some (147, false))⟩,
    ⟨(some 149), .mv (.t 30), (some (147, false))⟩,
    ⟨(some 150), .bin .neq (.t 148) (.t 149), (some (147, false))⟩,
    ⟨(some 151), .pick (.t 147) (.k (.c (.d (.bool true)))) (.t 150), none⟩,
    ⟨(some 152), .mv (.t 151), none⟩,
    ⟨(some 153), .load (.ag 2) (.t 27), (some (152, false))⟩,
    ⟨(some 154), .load (.ag 2) (.t 29), (some (152, false))⟩,
    ⟨(some 155), .eqA true [0, 0] (.t 153) (.t 154), (some (152, false))⟩,
    ⟨(some 156), .pick (.t 152) (.k (.c (.d (.bool true)))) (.t 155), none⟩,
    ⟨(some 157), .mv (.t 156), none⟩,
    ⟨(some 158), .mv (.t 32), (some (157, false))⟩,
    ⟨(some 159), .mv (.t 34), (some (157, false))⟩,
    ⟨(some 160), .bin .neq (.t 158) (.t 159), (some (157, false))⟩,
    ⟨(some 161), .pick (.t 157) (.k (.c (.d (.bool true)))) (.t 160), none⟩,
    ⟨(some 162), .mv (.t 161), none⟩,
    ⟨(some 163), .load (.ag 2) (.t 31), (some (162, false))⟩,
    ⟨(some 164), .load (.ag 2) (.t 33), (some (162, false))⟩,
    ⟨(some 165), .eqA true [0, 0] (.t 163) (.t 164), (some (162, false))⟩,
    ⟨(some 166), .pick (.t 162) (.k (.c (.d (.bool true)))) (.t 165), none⟩])
  (.cond (.t 166) (.seq (.reg [⟨(some 10), .mv (.k (.c (.d (.bool false)))), none⟩])
   (.ret))
   (.skip)))
  (.seq (.reg [⟨(some 167), .call 21 [] none, none⟩,
    ⟨(some 168), .mv (.t 167), none⟩,
    ⟨(some 169), .load (.ag 2) (.t 5), (some (168, true))⟩,
    ⟨(some 170), .call 22 [(.t 169)] none, (some (168, true))⟩,
    ⟨(some 171), .load (.ag 2) (.t 5), (some (168, true))⟩,
    ⟨(some 172), .call 23 [(.t 171)] none, (some (168, true))⟩,
    ⟨(some 173), .eqB false (.t 170) (.t 172), (some (168, true))⟩,
    ⟨(some 174), .pick (.t 168) (.t 173) (.k (.c (.d (.bool false)))), none⟩,
    ⟨(some 175), .mv (.t 174), none⟩,
    ⟨(some 176), .load (.ag 2) (.t 5), (some (175, true))⟩,
    ⟨(some 177), .mv (.t 2), (some (175, true))⟩,
    ⟨(some 178), .call 24 [(.t 176), (.t 177)] none, (some (175, true))⟩,
    ⟨(some 179), .load (.ag 2) (.t 5), (some (175, true))⟩,
    ⟨(some 180), .mv (.t 2), (some (175, true))⟩,
    ⟨(some 181), .call 25 [(.t 179), (.t 180)] none, (some (175, true))⟩,
    ⟨(some 182), .eqB false (.t 178) (.t 181), (some (175, true))⟩,
    ⟨(some 183), .pick (.t 175) (.t 182) (.k (.c (.d (.bool false)))), none⟩,
    ⟨(some 184), .mv (.t 183), none⟩,
    ⟨(some 185), .load (.ag 2) (.t 5), (some (184, true))⟩,
    ⟨(some 186), .load (.ag 2) (.t 6), (some (184, true))⟩,
    ⟨(some 187), .call 26 [(.t 185), (.t 186)] none, (some (184, true))⟩,
    ⟨(some 188), .load (.ag 2) (.t 5), (some (184, true))⟩,
    ⟨(some 189), .load (.ag 2) (.t 6), (some (184, true))⟩,
    ⟨(some 190), .call 27 [(.t 188), (.t 189)] none, (some (184, true))⟩,
    ⟨(some 191), .eqB false (.t 187) (.t 190), (some (184, true))⟩,
    ⟨(some 192), .pick (.t 184) (.t 191) (.k (.c (.d (.bool false)))), none⟩,
    ⟨(some 193), .mv (.t 192), none⟩,
    ⟨(some 194), .load (.ag 2) (.t 5), (some (193, true))⟩,
    ⟨(some 195), .call 28 [(.t 194)] none, (some (193, true))⟩,
    ⟨(some 196), .load (.ag 2) (.t 5), (some (193, true))⟩,
    ⟨(some 197), .call 29 [(.t 196)] none, (some (193, true))⟩,
    ⟨(some 198), .bin .eql (.t 195) (.t 197), (some (193, true))⟩,
    ⟨(some 199), .pick (.t 193) (.t 198) (.k (.c (.d (.bool false)))), none⟩,
    ⟨(some 200), .mv (.t 199), none⟩,
    ⟨(some 201), .load (.ag 2) (.t 5), (some (200, true))⟩,
    ⟨(some 202), .call 30 [(.t 201)] none, (some (200, true))⟩,
    ⟨(some 203), .load (.ag 2) (.t 5), (some (200, true))⟩,
    ⟨(some 204), .call 31 [(.t 203)] none, (some (200, true))⟩,
    ⟨(some 205), .bin .eql (.t 202) (.t 204), (some (200, true))⟩,
    ⟨(some 206), .pick (.t 200) (.t 205) (.k (.c (.d (.bool false)))), none⟩,
    ⟨(some 10), .mv (.t 206), none⟩])
  (.ret))))))))))))))),
  [(10, none)]⟩
theorem cf_kact : compFn Try.prog { own := [], comp := [], frz := [], nils := [] } Try.f3 = some sf_kact := by kernel_rfl
set_option maxHeartbeats 1600000 in
theorem kact_c (G : Glob) (a0 : Int) (ha01 : -9223372036854775808 ≤ a0) (ha02 : a0 ≤ 9223372036854775807) (a1 : Int) (ha11 : -9223372036854775808 ≤ a1) (ha12 : a1 ≤ 9223372036854775807) (b0 : Int) (hb01 : -9223372036854775808 ≤ b0) (hb02 : b0 ≤ 9223372036854775807) (b1 : Int) (hb11 : -9223372036854775808 ≤ b1) (hb12 : b1 ≤ 9223372036854775807) (d : Int) (hd1 : -9223372036854775808 ≤ d) (hd2 : d ≤ 9223372036854775807) (x : Int) (hx1 : -9223372036854775808 ≤ x) (hx2 : x ≤ 9223372036854775807) (y : Int) (hy1 : -9223372036854775808 ≤ y) (hy2 : y ≤ 9223372036854775807)  : Den Try.prog G 3 [.agg [.int .i64 a0, .int .i64 a1], .agg [.int .i64 b0, .int .i64 b1], .int .i64 d, .int .i64 x, .int .i64 y] (.w (.c (.d (.bool true)))) := by
  refine den_walk Try.func3 cf_kact rfl rfl ?_
  simp only [sf_kact, putAll, wx, wy, wz, stV, seval, IntWalk.iteOmega, IntWalk.toNatUp, reduceCtorEq]
  refine st_call (imet_c G a0 a1 b0 b1) rfl (.inl rfl) ?_
  simp only [spA, wx, wy, wz, stV, seval, IntWalk.iteOmega, IntWalk.toNatUp, reduceCtorEq]
  refine st_call (rmet_c G a0 a1 b0 b1) rfl (.inl rfl) ?_
  simp only [spA, wx, wy, wz, stV, seval, IntWalk.iteOmega, IntWalk.toNatUp, reduceCtorEq]
  refine st_call (ihul_c G a0 a1 b0 b1) rfl (.inl rfl) ?_
  simp only [spA, wx, wy, wz, stV, seval, IntWalk.iteOmega, IntWalk.toNatUp, reduceCtorEq]
  refine st_call (rhul_c G a0 a1 b0 b1) rfl (.inl rfl) ?_
  simp only [spA, wx, wy, wz, stV, seval, IntWalk.iteOmega, IntWalk.toNatUp, reduceCtorEq]
  refine st_call (iadd_c G a0 a1 b0 b1) rfl (.inl rfl) ?_
  simp only [spA, wx, wy, wz, stV, seval, IntWalk.iteOmega, IntWalk.toNatUp, reduceCtorEq]
  refine st_call (radd_c G a0 a1 b0 b1) rfl (.inl rfl) ?_
  simp only [spA, wx, wy, wz, stV, seval, IntWalk.iteOmega, IntWalk.toNatUp, reduceCtorEq]
  refine st_call (isbs_c G a0 a1 b0 b1) rfl (.inl rfl) ?_
  simp only [spA, wx, wy, wz, stV, seval, IntWalk.iteOmega, IntWalk.toNatUp, reduceCtorEq]
  refine st_call (rsbs_c G a0 a1 b0 b1) rfl (.inl rfl) ?_
  simp only [spA, wx, wy, wz, stV, seval, IntWalk.iteOmega, IntWalk.toNatUp, reduceCtorEq]
  refine st_call (ishf_c G a0 a1 d) rfl (.inl rfl) ?_
  simp only [spA, wx, wy, wz, stV, seval, IntWalk.iteOmega, IntWalk.toNatUp, reduceCtorEq]
  refine st_call (rshf_c G a0 a1 d) rfl (.inl rfl) ?_
  simp only [spA, wx, wy, wz, stV, seval, IntWalk.iteOmega, IntWalk.toNatUp, reduceCtorEq]
  refine st_call (igro_c G a0 a1 x y) rfl (.inl rfl) ?_
  simp only [spA, wx, wy, wz, stV, seval, IntWalk.iteOmega, IntWalk.toNatUp, reduceCtorEq]
  refine st_call (rgro_c G a0 a1 x y) rfl (.inl rfl) ?_
  simp only [spA, wx, wy, wz, stV, seval, IntWalk.iteOmega, IntWalk.toNatUp, reduceCtorEq]
  refine st_call (known11_c G) rfl (.inl rfl) ?_
  simp only [wx, wy, wz, stV, seval, IntWalk.iteOmega, IntWalk.toNatUp, reduceCtorEq]
  refine st_call (isv_c G a0 a1) rfl (.inl rfl) ?_
  simp only [wx, wy, wz, stV, seval, IntWalk.iteOmega, IntWalk.toNatUp, reduceCtorEq]
  refine st_call (rsv_c G a0 a1) rfl (.inl rfl) ?_
  simp only [wx, wy, wz, stV, seval, IntWalk.iteOmega, IntWalk.toNatUp, reduceCtorEq]
  refine st_call (ihld_c G a0 a1 d) rfl (.inl rfl) ?_
  simp only [wx, wy, wz, stV, seval, IntWalk.iteOmega, IntWalk.toNatUp, reduceCtorEq]
  refine st_call (rhld_c G a0 a1 d) rfl (.inl rfl) ?_
  simp only [wx, wy, wz, stV, seval, IntWalk.iteOmega, IntWalk.toNatUp, reduceCtorEq]
  refine st_call (iins_c G a0 a1 b0 b1) rfl (.inl rfl) ?_
  simp only [wx, wy, wz, stV, seval, IntWalk.iteOmega, IntWalk.toNatUp, reduceCtorEq]
  refine st_call (rins_c G a0 a1 b0 b1) rfl (.inl rfl) ?_
  simp only [wx, wy, wz, stV, seval, IntWalk.iteOmega, IntWalk.toNatUp, reduceCtorEq]
  refine st_call (iwid_c G a0 a1) rfl (.inl rfl) ?_
  simp only [wx, wy, wz, stV, seval, IntWalk.iteOmega, IntWalk.toNatUp, reduceCtorEq]
  refine st_call (rwid_c G a0 a1) rfl (.inl rfl) ?_
  simp only [wx, wy, wz, stV, seval, IntWalk.iteOmega, IntWalk.toNatUp, reduceCtorEq]
  refine st_call (imid_c G a0 a1) rfl (.inl rfl) ?_
  simp only [wx, wy, wz, stV, seval, IntWalk.iteOmega, IntWalk.toNatUp, reduceCtorEq]
  refine st_call (rmid_c G a0 a1) rfl (.inl rfl) ?_
  simp only [wx, wy, wz, stV, seval, IntWalk.iteOmega, IntWalk.toNatUp, reduceCtorEq]
  exact ret_d1 (by simp only [wx, wy, wz, stV, seval, IntWalk.iteOmega, IntWalk.toNatUp, reduceCtorEq])
theorem uni_len {l : List Spn} : (uniLs l).length ≤ l.length := by
  unfold uniLs
  split
  · rename_i h
    exact (union_ok (fun p hp => (allOk_le h.1 p hp).2.2)).2.2
  · exact Nat.zero_le _
def sf_klis : SFn := ⟨1, 56,
  .seq (.reg [⟨(some 2), .mv (.k (.c (.d (.bool false)))), none⟩])
  (.seq (.seq (.reg [⟨(some 11), .mv (.t 0), none⟩,
    ⟨(some 12), .len (.t 11), none⟩,
    ⟨(some 13), .bin .gtr (.t 12) (.k (.c (.d (.int .i64 70)))), none⟩])
  (.cond (.t 13) (.seq (.reg [⟨(some 14), .call 21 [] none, none⟩,
     ⟨(some 2), .mv (.t 14), none⟩])
   (.ret))
   (.skip)))
  (.seq (.reg [⟨(some 16), .mv (.t 0), none⟩,
    ⟨(some 17), .call 32 [(.t 16)] none, none⟩,
    ⟨(some 15), .mv (.t 17), none⟩,
    ⟨(some 18), .extract (.t 15) 0, none⟩,
    ⟨(some 19), .extract (.t 15) 1, none⟩,
    ⟨(some 3), .alloc [(.d (.int .i64 0)), (.d (.int .i64 0))], none⟩,
    ⟨none, .store (.ag 2) (.t 3) (.t 18), none⟩,
    ⟨(some 4), .mv (.t 19), none⟩])
  (.seq (.reg [⟨(some 21), .mv (.t 0), none⟩,
    ⟨(some 22), .call 33 [(.t 21)] none, none⟩,
    ⟨(some 20), .mv (.t 22), none⟩,
    ⟨(some 23), .extract (.t 20) 0, none⟩,
    ⟨(some 24), .extract (.t 20) 1, none⟩,
    ⟨(some 5), .alloc [(.d (.int .i64 0)), (.d (.int .i64 0))], none⟩,
    ⟨none, .store (.ag 2) (.t 5) (.t 23), none⟩,
    ⟨(some 6), .mv (.t 24), none⟩])
  (.seq (.reg [⟨(some 26), .mv (.t 0), none⟩,
    ⟨(some 27), .call 34 [(.t 26)] none, none⟩,
    ⟨(some 25), .mv (.t 27), none⟩,
    ⟨(some 28), .extract (.t 25) 0, none⟩,
    ⟨(some 29), .extract (.t 25) 1, none⟩,
    ⟨(some 7), .mv (.t 28), none⟩,
    ⟨(some 8), .mv (.t 29), none⟩])
  (.seq (.reg [⟨(some 31), .mv (.t 0), none⟩,
    ⟨(some 32), .call 35 [(.t 31)] none, none⟩,
    ⟨(some 30), .mv (.t 32), none⟩,
    ⟨(some 33), .extract (.t 30) 0, none⟩,
    ⟨(some 34), .extract (.t 30) 1, none⟩,
    ⟨(some 9), .mv (.t 33), none⟩,
    ⟨(some 10), .mv (.t 34), none⟩])
  (.seq (.reg [⟨(some 35), .call 21 [] none, none⟩,
    ⟨(some 36), .mv (.t 35), none⟩,
    ⟨(some 37), .mv (.t 4), (some (36, true))⟩,
    ⟨(some 38), .mv (.t 6), (some (36, true))⟩,
    ⟨(some 39), .eqB false (.t 37) (.t 38), (some (36, true))⟩,
    ⟨(some 40), .pick (.t 36) (.t 39) (.k (.c (.d (.bool false)))), none⟩,
    ⟨(some 41), .mv (.t 40), none⟩,
    ⟨(some 42), .load (.ag 2) (.t 3), (some (41, true))⟩,
    ⟨(some 43), .load (.ag 2) (.t 5), (some (41, true))⟩,
    ⟨(some 44), .eqA false [0, 0] (.t 42) (.t 43), (some (41, true))⟩,
    ⟨(some 45), .pick (.t 41) (.t 44) (.k (.c (.d (.bool false)))), none⟩,
    ⟨(some 46), .mv (.t 45), none⟩,
    ⟨(some 47), .mv (.t 8), (some (46, true))⟩,
    ⟨(some 48), .mv (.t 10), (some (46, true))⟩,
    ⟨(some 49), .bin .eql (.t 47) (.t 48), (some (46, true))⟩,
    ⟨(some 50), .pick (.t 46) (.t 49) (.k (.c (.d (.bool false)))), none⟩,
    ⟨(some 51), .mv (.t 50), none⟩,
    ⟨(some 52), .mv (.t 7), (some (51, true))⟩,
    ⟨(some 53), .mv (.t 9), (some (51, true))⟩,
    ⟨(some 54), .call 36 [(.t 52), (.t 53)] none, (some (51, true))⟩,
    ⟨(some 55), .pick (.t 51) (.t 54) (.k (.c (.d (.bool false)))), none⟩,
    ⟨(some 2), .mv (.t 55), none⟩])
  (.ret))))))),
  [(2, none)]⟩
theorem cf_klis : compFn Try.prog { own := [], comp := [], frz := [], nils := [] } Try.f4 = some sf_klis := by kernel_rfl
set_option maxHeartbeats 1600000 in
theorem klis_c (G : Glob) (l : List (Int × Int)) (hl1 : l.length ≤ maxLen) (hl2 : ∀ p ∈ l, fitI p.1 ∧ fitI p.2)  : Den Try.prog G 4 [.sl (l.map spD)] (.w (.c (.d (.bool true)))) := by
  refine den_walk Try.func4 cf_klis rfl rfl ?_
  have hm : maxLen ≤ 9223372036854775807 := by decide
  have hul := uni_len (l := l)
  by_cases k : l.length > 70
  · have k' : ((l.length : Int) > 70) = True := eq_true (by omega)
    simp only [sf_klis, putAll, wx, wy, wz, stV, seval, IntWalk.iteOmega, IntWalk.toNatUp, reduceCtorEq, k']
    refine st_call (known11_c G) rfl (.inl rfl) ?_
    simp only [wx, wy, wz, stV, seval, IntWalk.iteOmega, IntWalk.toNatUp, reduceCtorEq]
    exact ret_d1 (by simp only [wx, wy, wz, stV, seval, IntWalk.iteOmega, IntWalk.toNatUp, reduceCtorEq])
  · have k' : ((l.length : Int) > 70) = False := eq_false (by omega)
    have c := rsps_c G (uniLs l) (uniLs l) (by omega) (by omega)
    rw [decide_eq_true rfl] at c
    simp only [sf_klis, putAll, wx, wy, wz, stV, seval, IntWalk.iteOmega, IntWalk.toNatUp, reduceCtorEq, k']
    refine st_call (icom_c G l (by omega)) rfl (.inl rfl) ?_
    simp only [spD, wx, wy, wz, stV, seval, IntWalk.iteOmega, IntWalk.toNatUp, reduceCtorEq]
    refine st_call (rcom_c G l (by omega)) rfl (.inl rfl) ?_
    simp only [spD, wx, wy, wz, stV, seval, IntWalk.iteOmega, IntWalk.toNatUp, reduceCtorEq]
    refine st_call (iuni11_c G l (by omega)) rfl (.inl rfl) ?_
    simp only [wx, wy, wz, stV, seval, IntWalk.iteOmega, IntWalk.toNatUp, reduceCtorEq]
    refine st_call (den_ro2 (runi11_c G l (by omega))) rfl (.inl rfl) ?_
    simp only [wx, wy, wz, stV, seval, IntWalk.iteOmega, IntWalk.toNatUp, reduceCtorEq]
    refine st_call (known11_c G) rfl (.inl rfl) ?_
    simp only [wx, wy, wz, stV, seval, IntWalk.iteOmega, IntWalk.toNatUp, reduceCtorEq]
    refine st_call (c) rfl (.inl rfl) ?_
    simp only [wx, wy, wz, stV, seval, IntWalk.iteOmega, IntWalk.toNatUp, reduceCtorEq]
    exact ret_d1 (by simp only [wx, wy, wz, stV, seval, IntWalk.iteOmega, IntWalk.toNatUp, reduceCtorEq])
end Go.Proofs.Ytaodfdnncdelnaa
