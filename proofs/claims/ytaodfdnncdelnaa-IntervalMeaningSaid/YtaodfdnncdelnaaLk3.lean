/- The laws of layer 11: what spans mean. Own work. -/
import Derived.Test.YtaodfdnncdelnaaAlV
import Derived.Test.YtaodfdnncdelnaaLk2
set_option linter.unusedVariables false
set_option linter.unusedSimpArgs false
namespace Go.Proofs.Ytaodfdnncdelnaa
open Go.RowKit

def sf_kmea : SFn := ⟨6, 190,
  .seq (.reg [⟨(some 12), .mv (.k (.c (.d (.bool false)))), none⟩])
  (.seq (.reg [⟨(some 27), .mv (.t 0), none⟩,
    ⟨(some 28), .mv (.t 1), none⟩,
    ⟨(some 29), .call 37 [(.t 27), (.t 28)] none, none⟩,
    ⟨(some 30), .mv (.t 2), none⟩,
    ⟨(some 31), .mv (.t 3), none⟩,
    ⟨(some 32), .call 37 [(.t 30), (.t 31)] none, none⟩,
    ⟨(some 13), .alloc [(.d (.int .i64 0)), (.d (.int .i64 0))], none⟩,
    ⟨(some 14), .alloc [(.d (.int .i64 0)), (.d (.int .i64 0))], none⟩,
    ⟨none, .store (.ag 2) (.t 13) (.t 29), none⟩,
    ⟨none, .store (.ag 2) (.t 14) (.t 32), none⟩])
  (.seq (.reg [⟨(some 33), .fieldAddr 0 (.t 13), none⟩,
    ⟨(some 34), .load .sc (.t 33), none⟩,
    ⟨(some 35), .mv (.t 4), none⟩,
    ⟨(some 36), .call 38 [(.t 35), (.k (.c (.d (.int .i64 700))))] none, none⟩,
    ⟨(some 37), .bin .add (.t 34) (.t 36), none⟩,
    ⟨(some 38), .bin .sub (.t 37) (.k (.c (.d (.int .i64 100)))), none⟩,
    ⟨(some 39), .fieldAddr 0 (.t 14), none⟩,
    ⟨(some 40), .load .sc (.t 39), none⟩,
    ⟨(some 41), .mv (.t 5), none⟩,
    ⟨(some 42), .call 38 [(.t 41), (.k (.c (.d (.int .i64 700))))] none, none⟩,
    ⟨(some 43), .bin .add (.t 40) (.t 42), none⟩,
    ⟨(some 44), .bin .sub (.t 43) (.k (.c (.d (.int .i64 100)))), none⟩,
    ⟨(some 4), .mv (.t 38), none⟩,
    ⟨(some 5), .mv (.t 44), none⟩])
  (.seq (.reg [⟨(some 46), .load (.ag 2) (.t 13), none⟩,
    ⟨(some 47), .load (.ag 2) (.t 14), none⟩,
    ⟨(some 48), .call 9 [(.t 46), (.t 47)] none, none⟩,
    ⟨(some 45), .mv (.t 48), none⟩,
    ⟨(some 49), .extract (.t 45) 0, none⟩,
    ⟨(some 50), .extract (.t 45) 1, none⟩,
    ⟨(some 15), .alloc [(.d (.int .i64 0)), (.d (.int .i64 0))], none⟩,
    ⟨none, .store (.ag 2) (.t 15) (.t 49), none⟩,
    ⟨(some 16), .mv (.t 50), none⟩])
  (.seq (.reg [⟨(some 52), .load (.ag 2) (.t 13), none⟩,
    ⟨(some 53), .load (.ag 2) (.t 14), none⟩,
    ⟨(some 54), .call 11 [(.t 52), (.t 53)] none, none⟩,
    ⟨(some 51), .mv (.t 54), none⟩,
    ⟨(some 55), .extract (.t 51) 0, none⟩,
    ⟨(some 56), .extract (.t 51) 1, none⟩,
    ⟨(some 17), .alloc [(.d (.int .i64 0)), (.d (.int .i64 0))], none⟩,
    ⟨none, .store (.ag 2) (.t 17) (.t 55), none⟩,
    ⟨(some 18), .mv (.t 56), none⟩])
  (.seq (.reg [⟨(some 58), .load (.ag 2) (.t 13), none⟩,
    ⟨(some 59), .load (.ag 2) (.t 14), none⟩,
    ⟨(some 60), .call 13 [(.t 58), (.t 59)] none, none⟩,
    ⟨(some 57), .mv (.t 60), none⟩,
    ⟨(some 61), .extract (.t 57) 0, none⟩,
    ⟨(some 62), .extract (.t 57) 1, none⟩,
    ⟨(some 19), .alloc [(.d (.int .i64 0)), (.d (.int .i64 0))], none⟩,
    ⟨none, .store (.ag 2) (.t 19) (.t 61), none⟩,
    ⟨(some 20), .mv (.t 62), none⟩])
  (.seq (.reg [⟨(some 64), .load (.ag 2) (.t 13), none⟩,
    ⟨(some 65), .load (.ag 2) (.t 14), none⟩,
    ⟨(some 66), .call 15 [(.t 64), (.t 65)] none, none⟩,
    ⟨(some 63), .mv (.t 66), none⟩,
    ⟨(some 67), .extract (.t 63) 0, none⟩,
    ⟨(some 68), .extract (.t 63) 1, none⟩,
    ⟨(some 21), .alloc [(.d (.int .i64 0)), (.d (.int .i64 0))], none⟩,
    ⟨none, .store (.ag 2) (.t 21) (.t 67), none⟩,
    ⟨(some 22), .mv (.t 68), none⟩])
  (.seq (.reg [⟨(some 70), .load (.ag 2) (.t 13), none⟩,
    ⟨(some 71), .mv (.t 5), none⟩,
    ⟨(some 72), .call 17 [(.t 70), (.t 71)] none, none⟩,
    ⟨(some 69), .mv (.t 72), none⟩,
    ⟨(some 73), .extract (.t 69) 0, none⟩,
    ⟨(some 74), .extract (.t 69) 1, none⟩,
    ⟨(some 23), .alloc [(.d (.int .i64 0)), (.d (.int .i64 0))], none⟩,
    ⟨none, .store (.ag 2) (.t 23) (.t 73), none⟩,
    ⟨(some 24), .mv (.t 74), none⟩])
  (.seq (.reg [⟨(some 75), .load (.ag 2) (.t 13), none⟩,
    ⟨(some 76), .mv (.t 4), none⟩,
    ⟨(some 77), .call 24 [(.t 75), (.t 76)] none, none⟩,
    ⟨(some 78), .load (.ag 2) (.t 14), none⟩,
    ⟨(some 79), .mv (.t 5), none⟩,
    ⟨(some 80), .call 24 [(.t 78), (.t 79)] none, none⟩,
    ⟨(some 25), .mv (.t 77), none⟩,
    ⟨(some 26), .mv (.t 80), none⟩])
  (.seq (.seq (.reg [⟨(some 81), .mv (.t 18), none⟩,
    ⟨(some 82), .bin .neq (.t 81) (.k (.c (.d (.int .i64 0)))), none⟩,
    ⟨(some 83), .mv (.t 82), none⟩,
    ⟨(some 84), .mv (.t 20), (some (83, false))⟩,
    ⟨(some 85), .bin .neq (.t 84) (.k (.c (.d (.int .i64 0)))), (some (83, false))⟩,
    ⟨(some 86), .pick (.t 83) (.k (.c (.d (.bool true)))) (.t 85), none⟩,
    ⟨(some 87), .mv (.t 86), none⟩,
    ⟨(some 88), .mv (.t 22), (some (87, false))⟩,
    ⟨(some 89), .bin .neq (.t 88) (.k (.c (.d (.int .i64 0)))), (some (87, false))⟩,
    ⟨(some 90), .pick (.t 87) (.k (.c (.d (.bool true)))) (.t 89), none⟩,
    ⟨(some 91), .mv (.t 90), none⟩,
    ⟨(some 92), .mv (.t 24), (some (91, false))⟩,
    ⟨(some 93), .bin .neq (.t 92) (.k (.c (.d (.int .i64 0)))), (some (91, false))⟩,
    ⟨(some 94), .pick (.t 91) (.k (.c (.d (.bool true)))) (.t 93), none⟩,
    ⟨(some 95), .mv (.t 94), none⟩,
    ⟨(some 96), .mv (.t 25), (some (95, false))⟩,
    ⟨(some 97), .fieldAddr 0 (.t 13), (some (95, false))⟩,
    ⟨(some 98), .load .sc (.t 97), (some (95, false))⟩,
    ⟨(some 99), .mv (.t 4), (some (95, false))⟩,
    ⟨(some 100), .bin .leq (.t 98) (.t 99), (some (95, false))⟩,
    ⟨(some 101), .mv (.t 100), (some (95, false))⟩,
    ⟨(some 102), .mv (.t 4), (some (101, true))⟩,
    ⟨(some 103), .fieldAddr 1 (.t 13), (some (101, true))⟩,
    ⟨(some 104), .load .sc (.t 103), (some (101, true))⟩,
    ⟨(some 105), .bin .leq (.t 102) (.t 104), (some (101, true))⟩,
    ⟨(some 106), .pick (.t 101) (.t 105) (.k (.c (.d (.bool false)))), (some (95, false))⟩,
    ⟨(some 107), .eqB true (.t 96) (.t 106), (some (95, false))⟩,
    ⟨(some 108), .pick (.t 95) (.k (.c (.d (.bool true)))) (.t 107), none⟩])
  (.cond (.t 108) (.seq (.reg [⟨(some 12), .mv (.k (.c (.d (.bool false)))), none⟩])
   (.ret))
   (.skip)))
  (.seq (.seq (.reg [⟨(some 109), .mv (.t 16), none⟩,
    ⟨(some 110), .mv (.t 109), none⟩,
    ⟨(some 111), .load (.ag 2) (.t 15), (some (110, true))⟩,
    ⟨(some 112), .mv (.t 4), (some (110, true))⟩,
    ⟨(some 113), .call 24 [(.t 111), (.t 112)] none, (some (110, true))⟩,
    ⟨(some 114), .pick (.t 110) (.t 113) (.k (.c (.d (.bool false)))), none⟩,
    ⟨(some 115), .mv (.t 25), none⟩,
    ⟨(some 116), .mv (.t 115), none⟩,
    ⟨(some 117), .load (.ag 2) (.t 14), (some (116, true))⟩,
    ⟨(some 118), .mv (.t 4), (some (116, true))⟩,
    ⟨(some 119), .call 24 [(.t 117), (.t 118)] none, (some (116, true))⟩,
    ⟨(some 120), .pick (.t 116) (.t 119) (.k (.c (.d (.bool false)))), none⟩,
    ⟨(some 121), .eqB true (.t 114) (.t 120), none⟩,
    ⟨(some 122), .mv (.t 121), none⟩,
    ⟨(some 123), .mv (.t 25), (some (122, false))⟩,
    ⟨(some 124), .mv (.t 123), (some (122, false))⟩,
    ⟨(some 125), .load (.ag 2) (.t 17), (some (124, true))⟩,
    ⟨(some 126), .mv (.t 4), (some (124, true))⟩,
    ⟨(some 127), .call 24 [(.t 125), (.t 126)] none, (some (124, true))⟩,
    ⟨(some 128), .un .not (.t 127), (some (124, true))⟩,
    ⟨(some 129), .pick (.t 124) (.t 128) (.k (.c (.d (.bool false)))), (some (122, false))⟩,
    ⟨(some 130), .pick (.t 122) (.k (.c (.d (.bool true)))) (.t 129), none⟩,
    ⟨(some 131), .mv (.t 130), none⟩,
    ⟨(some 132), .mv (.t 25), (some (131, false))⟩,
    ⟨(some 133), .mv (.t 132), (some (131, false))⟩,
    ⟨(some 134), .mv (.t 26), (some (133, true))⟩,
    ⟨(some 135), .pick (.t 133) (.t 134) (.k (.c (.d (.bool false)))), (some (131, false))⟩,
    ⟨(some 136), .mv (.t 135), (some (131, false))⟩,
    ⟨(some 137), .load (.ag 2) (.t 19), (some (136, true))⟩,
    ⟨(some 138), .mv (.t 4), (some (136, true))⟩,
    ⟨(some 139), .mv (.t 5), (some (136, true))⟩,
    ⟨(some 140), .bin .add (.t 138) (.t 139), (some (136, true))⟩,
    ⟨(some 141), .call 24 [(.t 137), (.t 140)] none, (some (136, true))⟩,
    ⟨(some 142), .un .not (.t 141), (some (136, true))⟩,
    ⟨(some 143), .mv (.t 142), (some (136, true))⟩,
    ⟨(some 144), .load (.ag 2) (.t 21), (some (143, false))⟩,
    ⟨(some 145), .mv (.t 4), (some (143, false))⟩,
    ⟨(some 146), .mv (.t 5), (some (143, false))⟩,
    ⟨(some 147), .bin .sub (.t 145) (.t 146), (some (143, false))⟩,
    ⟨(some 148), .call 24 [(.t 144), (.t 147)] none, (some (143, false))⟩,
    ⟨(some 149), .un .not (.t 148), (some (143, false))⟩,
    ⟨(some 150), .pick (.t 143) (.k (.c (.d (.bool true)))) (.t 149), (some (136, true))⟩,
    ⟨(some 151), .pick (.t 136) (.t 150) (.k (.c (.d (.bool false)))), (some (131, false))⟩,
    ⟨(some 152), .pick (.t 131) (.k (.c (.d (.bool true)))) (.t 151), none⟩,
    ⟨(some 153), .mv (.t 152), none⟩,
    ⟨(some 154), .load (.ag 2) (.t 23), (some (153, false))⟩,
    ⟨(some 155), .mv (.t 4), (some (153, false))⟩,
    ⟨(some 156), .mv (.t 5), (some (153, false))⟩,
    ⟨(some 157), .bin .add (.t 155) (.t 156), (some (153, false))⟩,
    ⟨(some 158), .call 24 [(.t 154), (.t 157)] none, (some (153, false))⟩,
    ⟨(some 159), .mv (.t 25), (some (153, false))⟩,
    ⟨(some 160), .eqB true (.t 158) (.t 159), (some (153, false))⟩,
    ⟨(some 161), .pick (.t 153) (.k (.c (.d (.bool true)))) (.t 160), none⟩])
  (.cond (.t 161) (.seq (.reg [⟨(some 12), .mv (.k (.c (.d (.bool false)))), none⟩])
   (.ret))
   (.skip)))
  (.seq (.reg [⟨(some 162), .call 21 [] none, none⟩,
    ⟨(some 163), .mv (.t 162), none⟩,
    ⟨(some 164), .load (.ag 2) (.t 13), (some (163, true))⟩,
    ⟨(some 165), .load (.ag 2) (.t 17), (some (163, true))⟩,
    ⟨(some 166), .call 26 [(.t 164), (.t 165)] none, (some (163, true))⟩,
    ⟨(some 167), .pick (.t 163) (.t 166) (.k (.c (.d (.bool false)))), none⟩,
    ⟨(some 168), .mv (.t 167), none⟩,
    ⟨(some 169), .load (.ag 2) (.t 14), (some (168, true))⟩,
    ⟨(some 170), .load (.ag 2) (.t 17), (some (168, true))⟩,
    ⟨(some 171), .call 26 [(.t 169), (.t 170)] none, (some (168, true))⟩,
    ⟨(some 172), .pick (.t 168) (.t 171) (.k (.c (.d (.bool false)))), none⟩,
    ⟨(some 173), .mv (.t 172), none⟩,
    ⟨(some 174), .load (.ag 2) (.t 19), (some (173, true))⟩,
    ⟨(some 175), .call 28 [(.t 174)] none, (some (173, true))⟩,
    ⟨(some 176), .load (.ag 2) (.t 13), (some (173, true))⟩,
    ⟨(some 177), .call 28 [(.t 176)] none, (some (173, true))⟩,
    ⟨(some 178), .load (.ag 2) (.t 14), (some (173, true))⟩,
    ⟨(some 179), .call 28 [(.t 178)] none, (some (173, true))⟩,
    ⟨(some 180), .bin .add (.t 177) (.t 179), (some (173, true))⟩,
    ⟨(some 181), .bin .eql (.t 175) (.t 180), (some (173, true))⟩,
    ⟨(some 182), .pick (.t 173) (.t 181) (.k (.c (.d (.bool false)))), none⟩,
    ⟨(some 183), .mv (.t 182), none⟩,
    ⟨(some 184), .load (.ag 2) (.t 21), (some (183, true))⟩,
    ⟨(some 185), .call 28 [(.t 184)] none, (some (183, true))⟩,
    ⟨(some 186), .load (.ag 2) (.t 19), (some (183, true))⟩,
    ⟨(some 187), .call 28 [(.t 186)] none, (some (183, true))⟩,
    ⟨(some 188), .bin .eql (.t 185) (.t 187), (some (183, true))⟩,
    ⟨(some 189), .pick (.t 183) (.t 188) (.k (.c (.d (.bool false)))), none⟩,
    ⟨(some 12), .mv (.t 189), none⟩])
  (.ret)))))))))))),
  [(12, none)]⟩
theorem cf_kmea : compFn Try.prog { own := [], comp := [], frz := [], nils := [] } Try.f5 = some sf_kmea := by kernel_rfl
set_option maxHeartbeats 1600000 in
theorem kmea_c (G : Glob) (a : Int) (ha1 : -9223372036854775808 ≤ a) (ha2 : a ≤ 9223372036854775807) (b : Int) (hb1 : -9223372036854775808 ≤ b) (hb2 : b ≤ 9223372036854775807) (c : Int) (hc1 : -9223372036854775808 ≤ c) (hc2 : c ≤ 9223372036854775807) (d : Int) (hd1 : -9223372036854775808 ≤ d) (hd2 : d ≤ 9223372036854775807) (t : Int) (ht1 : -9223372036854775808 ≤ t) (ht2 : t ≤ 9223372036854775807) (u : Int) (hu1 : -9223372036854775808 ≤ u) (hu2 : u ≤ 9223372036854775807)  : Den Try.prog G 5 [.int .i64 a, .int .i64 b, .int .i64 c, .int .i64 d, .int .i64 t, .int .i64 u] (.w (.c (.d (.bool true)))) := by
  refine den_walk Try.func5 cf_kmea rfl rfl ?_
  have c1 := wspan_c G a b
  have c2 := wspan_c G c d
  obtain ⟨x1, x2, x3, x4⟩ := wsp_ok a b
  obtain ⟨y1, y2, y3, y4⟩ := wsp_ok c d
  generalize withinN a 2000 - 1000 + withinN b 500 = X1 at *
  generalize withinN a 2000 - 1000 = X0 at *
  generalize withinN c 2000 - 1000 + withinN d 500 = Y1 at *
  generalize withinN c 2000 - 1000 = Y0 at *
  have w1 := withinN_range t 700 (by decide)
  have cw1 := within_c G t 700 (by decide)
  have w2 := withinN_range u 700 (by decide)
  have cw2 := within_c G u 700 (by decide)
  generalize withinN t 700 = TT at *
  generalize withinN u 700 = UU at *
  obtain ⟨T, hT⟩ : ∃ T, X0 + TT - 100 = T := ⟨_, rfl⟩
  obtain ⟨U, hU⟩ : ∃ U, Y0 + UU - 100 = U := ⟨_, rfl⟩
  have ok : ∀ p q : Int, -100000 ≤ p → q ≤ 100000 → p ≤ q → okP (p, q) = true := fun p q h1 h2 h3 => okP_d ⟨by omega, by omega, h3⟩
  have oX := ok X0 X1 (by omega) (by omega) (by omega)
  have oY := ok Y0 Y1 (by omega) (by omega) (by omega)
  have oH := ok (min X0 Y0) (max X1 Y1) (by omega) (by omega) (by omega)
  have oS := ok (X0 + Y0) (X1 + Y1) (by omega) (by omega) (by omega)
  have oR := ok (X0 - Y1) (X1 - Y0) (by omega) (by omega) (by omega)
  have oW := ok (X0 + U) (X1 + U) (by omega) (by omega) (by omega)
  have k1 := imet_c G X0 X1 Y0 Y1
  have k2 := ihul_c G X0 X1 Y0 Y1
  rw [show hulB X0 X1 Y0 Y1 = true by unfold hulB; rw [oX, oY]; rfl] at k2
  have k3 := iadd_c G X0 X1 Y0 Y1
  rw [(sum_t oX oY oS).1, (sum_t oX oY oS).2] at k3
  have k4 := isbs_c G X0 X1 Y0 Y1
  rw [(sum_t oX oY oR).1, (sum_t oX oY oR).2] at k4
  have k5 := ishf_c G X0 X1 U
  have vU : valT U = true := valT_t ⟨by omega, by omega⟩
  have e5 : shfB X0 X1 U = true ∧ shfE X0 X1 U = 0 := by
    unfold shfB shfE
    rw [oX, vU, oW]
    exact ⟨rfl, rfl⟩
  rw [e5.1, e5.2] at k5
  have hx := ihld_c G X0 X1 T
  have hy := ihld_c G Y0 Y1 U
  have hyt := ihld_c G Y0 Y1 T
  have hmt := ihld_c G (max X0 Y0) (min X1 Y1) T
  have hht := ihld_c G (min X0 Y0) (max X1 Y1) T
  have hst := ihld_c G (X0 + Y0) (X1 + Y1) (T + U)
  have hrt := ihld_c G (X0 - Y1) (X1 - Y0) (T - U)
  have hwt := ihld_c G (X0 + U) (X1 + U) (T + U)
  have i1 := iins_c G X0 X1 (min X0 Y0) (max X1 Y1)
  rw [ins_t oX oH ⟨by omega, by omega⟩] at i1
  have i2 := iins_c G Y0 Y1 (min X0 Y0) (max X1 Y1)
  rw [ins_t oY oH ⟨by omega, by omega⟩] at i2
  have d1 := iwid_c G (X0 + Y0) (X1 + Y1)
  have d2 := iwid_c G X0 X1
  have d3 := iwid_c G Y0 Y1
  have d4 := iwid_c G (X0 - Y1) (X1 - Y0)
  rw [show widV (X0 + Y0) (X1 + Y1) = X1 + Y1 - (X0 + Y0) by unfold widV; rw [oS]; rfl] at d1
  rw [show widV X0 X1 = X1 - X0 by unfold widV; rw [oX]; rfl] at d2
  rw [show widV Y0 Y1 = Y1 - Y0 by unfold widV; rw [oY]; rfl] at d3
  rw [show widV (X0 - Y1) (X1 - Y0) = X1 - Y0 - (X0 - Y1) by unfold widV; rw [oR]; rfl] at d4
  by_cases hin : X0 ≤ T ∧ T ≤ X1
  · rw [hld_t oX hin] at hx
    rw [hld_t oH ⟨by omega, by omega⟩] at hht
    rw [hld_t oW ⟨by omega, by omega⟩] at hwt
    have fx : (X0 ≤ T) = True := eq_true hin.1
    obtain ⟨hin1, hin2⟩ := hin
    by_cases hon : Y0 ≤ U ∧ U ≤ Y1
    · rw [hld_t oY hon] at hy
      rw [hld_t oS ⟨by omega, by omega⟩] at hst
      rw [hld_t oR ⟨by omega, by omega⟩] at hrt
      by_cases hyn : Y0 ≤ T ∧ T ≤ Y1
      · rw [hld_t oY hyn] at hyt
        have hmm : max X0 Y0 ≤ min X1 Y1 := by omega
        have oM : okP (max X0 Y0, min X1 Y1) = true := okP_d ⟨by omega, by omega, hmm⟩
        rw [hld_t oM ⟨by omega, by omega⟩] at hmt
        rw [mt_t oX oY hmm] at k1
        simp only [sf_kmea, putAll, wx, wy, wz, stV, seval, IntWalk.iteOmega, IntWalk.toNatUp, reduceCtorEq]
        refine st_call (c1) rfl (.inl rfl) ?_
        simp only [wx, wy, wz, stV, seval, IntWalk.iteOmega, IntWalk.toNatUp, reduceCtorEq]
        refine st_call (c2) rfl (.inl rfl) ?_
        simp only [wx, wy, wz, stV, seval, IntWalk.iteOmega, IntWalk.toNatUp, reduceCtorEq]
        refine st_call (cw1) rfl (.inl rfl) ?_
        simp only [wx, wy, wz, stV, seval, IntWalk.iteOmega, IntWalk.toNatUp, reduceCtorEq]
        refine st_call (cw2) rfl (.inl rfl) ?_
        simp only [hT, hU, wx, wy, wz, stV, seval, IntWalk.iteOmega, IntWalk.toNatUp, reduceCtorEq]
        refine st_call (k1) rfl (.inl rfl) ?_
        simp only [spA, wx, wy, wz, stV, seval, IntWalk.iteOmega, IntWalk.toNatUp, reduceCtorEq]
        refine st_call (k2) rfl (.inl rfl) ?_
        simp only [spA, wx, wy, wz, stV, seval, IntWalk.iteOmega, IntWalk.toNatUp, reduceCtorEq]
        refine st_call (k3) rfl (.inl rfl) ?_
        simp only [spA, wx, wy, wz, stV, seval, IntWalk.iteOmega, IntWalk.toNatUp, reduceCtorEq]
        refine st_call (k4) rfl (.inl rfl) ?_
        simp only [spA, wx, wy, wz, stV, seval, IntWalk.iteOmega, IntWalk.toNatUp, reduceCtorEq]
        refine st_call (k5) rfl (.inl rfl) ?_
        simp only [spA, wx, wy, wz, stV, seval, IntWalk.iteOmega, IntWalk.toNatUp, reduceCtorEq]
        refine st_call (hx) rfl (.inl rfl) ?_
        simp only [wx, wy, wz, stV, seval, IntWalk.iteOmega, IntWalk.toNatUp, reduceCtorEq]
        refine st_call (hy) rfl (.inl rfl) ?_
        simp only [fx, wx, wy, wz, stV, seval, IntWalk.iteOmega, IntWalk.toNatUp, reduceCtorEq]
        refine st_call (hmt) rfl (.inl rfl) ?_
        simp only [wx, wy, wz, stV, seval, IntWalk.iteOmega, IntWalk.toNatUp, reduceCtorEq]
        refine st_call (hyt) rfl (.inl rfl) ?_
        simp only [wx, wy, wz, stV, seval, IntWalk.iteOmega, IntWalk.toNatUp, reduceCtorEq]
        refine st_call (hht) rfl (.inl rfl) ?_
        simp only [wx, wy, wz, stV, seval, IntWalk.iteOmega, IntWalk.toNatUp, reduceCtorEq]
        refine st_call (hst) rfl (.inl rfl) ?_
        simp only [wx, wy, wz, stV, seval, IntWalk.iteOmega, IntWalk.toNatUp, reduceCtorEq]
        refine st_call (hrt) rfl (.inl rfl) ?_
        simp only [wx, wy, wz, stV, seval, IntWalk.iteOmega, IntWalk.toNatUp, reduceCtorEq]
        refine st_call (hwt) rfl (.inl rfl) ?_
        simp only [wx, wy, wz, stV, seval, IntWalk.iteOmega, IntWalk.toNatUp, reduceCtorEq]
        refine st_call (known11_c G) rfl (.inl rfl) ?_
        simp only [wx, wy, wz, stV, seval, IntWalk.iteOmega, IntWalk.toNatUp, reduceCtorEq]
        refine st_call (i1) rfl (.inl rfl) ?_
        simp only [wx, wy, wz, stV, seval, IntWalk.iteOmega, IntWalk.toNatUp, reduceCtorEq]
        refine st_call (i2) rfl (.inl rfl) ?_
        simp only [wx, wy, wz, stV, seval, IntWalk.iteOmega, IntWalk.toNatUp, reduceCtorEq]
        refine st_call (d1) rfl (.inl rfl) ?_
        simp only [wx, wy, wz, stV, seval, IntWalk.iteOmega, IntWalk.toNatUp, reduceCtorEq]
        refine st_call (d2) rfl (.inl rfl) ?_
        simp only [wx, wy, wz, stV, seval, IntWalk.iteOmega, IntWalk.toNatUp, reduceCtorEq]
        refine st_call (d3) rfl (.inl rfl) ?_
        simp only [wx, wy, wz, stV, seval, IntWalk.iteOmega, IntWalk.toNatUp, reduceCtorEq]
        refine st_call (d4) rfl (.inl rfl) ?_
        simp only [wx, wy, wz, stV, seval, IntWalk.iteOmega, IntWalk.toNatUp, reduceCtorEq]
        refine st_call (d1) rfl (.inl rfl) ?_
        simp only [wx, wy, wz, stV, seval, IntWalk.iteOmega, IntWalk.toNatUp, reduceCtorEq]
        exact ret_d1 (by simp only [wx, wy, wz, stV, seval, IntWalk.iteOmega, IntWalk.toNatUp, reduceCtorEq])
      · rw [hld_f hyn] at hyt
        rw [hld_f (show ¬ (max X0 Y0 ≤ T ∧ T ≤ min X1 Y1) by omega)] at hmt
        by_cases hmm : max X0 Y0 ≤ min X1 Y1
        · rw [mt_t oX oY hmm] at k1
          simp only [sf_kmea, putAll, wx, wy, wz, stV, seval, IntWalk.iteOmega, IntWalk.toNatUp, reduceCtorEq]
          refine st_call (c1) rfl (.inl rfl) ?_
          simp only [wx, wy, wz, stV, seval, IntWalk.iteOmega, IntWalk.toNatUp, reduceCtorEq]
          refine st_call (c2) rfl (.inl rfl) ?_
          simp only [wx, wy, wz, stV, seval, IntWalk.iteOmega, IntWalk.toNatUp, reduceCtorEq]
          refine st_call (cw1) rfl (.inl rfl) ?_
          simp only [wx, wy, wz, stV, seval, IntWalk.iteOmega, IntWalk.toNatUp, reduceCtorEq]
          refine st_call (cw2) rfl (.inl rfl) ?_
          simp only [hT, hU, wx, wy, wz, stV, seval, IntWalk.iteOmega, IntWalk.toNatUp, reduceCtorEq]
          refine st_call (k1) rfl (.inl rfl) ?_
          simp only [spA, wx, wy, wz, stV, seval, IntWalk.iteOmega, IntWalk.toNatUp, reduceCtorEq]
          refine st_call (k2) rfl (.inl rfl) ?_
          simp only [spA, wx, wy, wz, stV, seval, IntWalk.iteOmega, IntWalk.toNatUp, reduceCtorEq]
          refine st_call (k3) rfl (.inl rfl) ?_
          simp only [spA, wx, wy, wz, stV, seval, IntWalk.iteOmega, IntWalk.toNatUp, reduceCtorEq]
          refine st_call (k4) rfl (.inl rfl) ?_
          simp only [spA, wx, wy, wz, stV, seval, IntWalk.iteOmega, IntWalk.toNatUp, reduceCtorEq]
          refine st_call (k5) rfl (.inl rfl) ?_
          simp only [spA, wx, wy, wz, stV, seval, IntWalk.iteOmega, IntWalk.toNatUp, reduceCtorEq]
          refine st_call (hx) rfl (.inl rfl) ?_
          simp only [wx, wy, wz, stV, seval, IntWalk.iteOmega, IntWalk.toNatUp, reduceCtorEq]
          refine st_call (hy) rfl (.inl rfl) ?_
          simp only [fx, wx, wy, wz, stV, seval, IntWalk.iteOmega, IntWalk.toNatUp, reduceCtorEq]
          refine st_call (hmt) rfl (.inl rfl) ?_
          simp only [wx, wy, wz, stV, seval, IntWalk.iteOmega, IntWalk.toNatUp, reduceCtorEq]
          refine st_call (hyt) rfl (.inl rfl) ?_
          simp only [wx, wy, wz, stV, seval, IntWalk.iteOmega, IntWalk.toNatUp, reduceCtorEq]
          refine st_call (hht) rfl (.inl rfl) ?_
          simp only [wx, wy, wz, stV, seval, IntWalk.iteOmega, IntWalk.toNatUp, reduceCtorEq]
          refine st_call (hst) rfl (.inl rfl) ?_
          simp only [wx, wy, wz, stV, seval, IntWalk.iteOmega, IntWalk.toNatUp, reduceCtorEq]
          refine st_call (hrt) rfl (.inl rfl) ?_
          simp only [wx, wy, wz, stV, seval, IntWalk.iteOmega, IntWalk.toNatUp, reduceCtorEq]
          refine st_call (hwt) rfl (.inl rfl) ?_
          simp only [wx, wy, wz, stV, seval, IntWalk.iteOmega, IntWalk.toNatUp, reduceCtorEq]
          refine st_call (known11_c G) rfl (.inl rfl) ?_
          simp only [wx, wy, wz, stV, seval, IntWalk.iteOmega, IntWalk.toNatUp, reduceCtorEq]
          refine st_call (i1) rfl (.inl rfl) ?_
          simp only [wx, wy, wz, stV, seval, IntWalk.iteOmega, IntWalk.toNatUp, reduceCtorEq]
          refine st_call (i2) rfl (.inl rfl) ?_
          simp only [wx, wy, wz, stV, seval, IntWalk.iteOmega, IntWalk.toNatUp, reduceCtorEq]
          refine st_call (d1) rfl (.inl rfl) ?_
          simp only [wx, wy, wz, stV, seval, IntWalk.iteOmega, IntWalk.toNatUp, reduceCtorEq]
          refine st_call (d2) rfl (.inl rfl) ?_
          simp only [wx, wy, wz, stV, seval, IntWalk.iteOmega, IntWalk.toNatUp, reduceCtorEq]
          refine st_call (d3) rfl (.inl rfl) ?_
          simp only [wx, wy, wz, stV, seval, IntWalk.iteOmega, IntWalk.toNatUp, reduceCtorEq]
          refine st_call (d4) rfl (.inl rfl) ?_
          simp only [wx, wy, wz, stV, seval, IntWalk.iteOmega, IntWalk.toNatUp, reduceCtorEq]
          refine st_call (d1) rfl (.inl rfl) ?_
          simp only [wx, wy, wz, stV, seval, IntWalk.iteOmega, IntWalk.toNatUp, reduceCtorEq]
          exact ret_d1 (by simp only [wx, wy, wz, stV, seval, IntWalk.iteOmega, IntWalk.toNatUp, reduceCtorEq])
        · rw [mt_f hmm] at k1
          simp only [sf_kmea, putAll, wx, wy, wz, stV, seval, IntWalk.iteOmega, IntWalk.toNatUp, reduceCtorEq]
          refine st_call (c1) rfl (.inl rfl) ?_
          simp only [wx, wy, wz, stV, seval, IntWalk.iteOmega, IntWalk.toNatUp, reduceCtorEq]
          refine st_call (c2) rfl (.inl rfl) ?_
          simp only [wx, wy, wz, stV, seval, IntWalk.iteOmega, IntWalk.toNatUp, reduceCtorEq]
          refine st_call (cw1) rfl (.inl rfl) ?_
          simp only [wx, wy, wz, stV, seval, IntWalk.iteOmega, IntWalk.toNatUp, reduceCtorEq]
          refine st_call (cw2) rfl (.inl rfl) ?_
          simp only [hT, hU, wx, wy, wz, stV, seval, IntWalk.iteOmega, IntWalk.toNatUp, reduceCtorEq]
          refine st_call (k1) rfl (.inl rfl) ?_
          simp only [spA, wx, wy, wz, stV, seval, IntWalk.iteOmega, IntWalk.toNatUp, reduceCtorEq]
          refine st_call (k2) rfl (.inl rfl) ?_
          simp only [spA, wx, wy, wz, stV, seval, IntWalk.iteOmega, IntWalk.toNatUp, reduceCtorEq]
          refine st_call (k3) rfl (.inl rfl) ?_
          simp only [spA, wx, wy, wz, stV, seval, IntWalk.iteOmega, IntWalk.toNatUp, reduceCtorEq]
          refine st_call (k4) rfl (.inl rfl) ?_
          simp only [spA, wx, wy, wz, stV, seval, IntWalk.iteOmega, IntWalk.toNatUp, reduceCtorEq]
          refine st_call (k5) rfl (.inl rfl) ?_
          simp only [spA, wx, wy, wz, stV, seval, IntWalk.iteOmega, IntWalk.toNatUp, reduceCtorEq]
          refine st_call (hx) rfl (.inl rfl) ?_
          simp only [wx, wy, wz, stV, seval, IntWalk.iteOmega, IntWalk.toNatUp, reduceCtorEq]
          refine st_call (hy) rfl (.inl rfl) ?_
          simp only [fx, wx, wy, wz, stV, seval, IntWalk.iteOmega, IntWalk.toNatUp, reduceCtorEq]
          refine st_call (hyt) rfl (.inl rfl) ?_
          simp only [wx, wy, wz, stV, seval, IntWalk.iteOmega, IntWalk.toNatUp, reduceCtorEq]
          refine st_call (hht) rfl (.inl rfl) ?_
          simp only [wx, wy, wz, stV, seval, IntWalk.iteOmega, IntWalk.toNatUp, reduceCtorEq]
          refine st_call (hst) rfl (.inl rfl) ?_
          simp only [wx, wy, wz, stV, seval, IntWalk.iteOmega, IntWalk.toNatUp, reduceCtorEq]
          refine st_call (hrt) rfl (.inl rfl) ?_
          simp only [wx, wy, wz, stV, seval, IntWalk.iteOmega, IntWalk.toNatUp, reduceCtorEq]
          refine st_call (hwt) rfl (.inl rfl) ?_
          simp only [wx, wy, wz, stV, seval, IntWalk.iteOmega, IntWalk.toNatUp, reduceCtorEq]
          refine st_call (known11_c G) rfl (.inl rfl) ?_
          simp only [wx, wy, wz, stV, seval, IntWalk.iteOmega, IntWalk.toNatUp, reduceCtorEq]
          refine st_call (i1) rfl (.inl rfl) ?_
          simp only [wx, wy, wz, stV, seval, IntWalk.iteOmega, IntWalk.toNatUp, reduceCtorEq]
          refine st_call (i2) rfl (.inl rfl) ?_
          simp only [wx, wy, wz, stV, seval, IntWalk.iteOmega, IntWalk.toNatUp, reduceCtorEq]
          refine st_call (d1) rfl (.inl rfl) ?_
          simp only [wx, wy, wz, stV, seval, IntWalk.iteOmega, IntWalk.toNatUp, reduceCtorEq]
          refine st_call (d2) rfl (.inl rfl) ?_
          simp only [wx, wy, wz, stV, seval, IntWalk.iteOmega, IntWalk.toNatUp, reduceCtorEq]
          refine st_call (d3) rfl (.inl rfl) ?_
          simp only [wx, wy, wz, stV, seval, IntWalk.iteOmega, IntWalk.toNatUp, reduceCtorEq]
          refine st_call (d4) rfl (.inl rfl) ?_
          simp only [wx, wy, wz, stV, seval, IntWalk.iteOmega, IntWalk.toNatUp, reduceCtorEq]
          refine st_call (d1) rfl (.inl rfl) ?_
          simp only [wx, wy, wz, stV, seval, IntWalk.iteOmega, IntWalk.toNatUp, reduceCtorEq]
          exact ret_d1 (by simp only [wx, wy, wz, stV, seval, IntWalk.iteOmega, IntWalk.toNatUp, reduceCtorEq])
    · rw [hld_f hon] at hy
      by_cases hyn : Y0 ≤ T ∧ T ≤ Y1
      · rw [hld_t oY hyn] at hyt
        have hmm : max X0 Y0 ≤ min X1 Y1 := by omega
        have oM : okP (max X0 Y0, min X1 Y1) = true := okP_d ⟨by omega, by omega, hmm⟩
        rw [hld_t oM ⟨by omega, by omega⟩] at hmt
        rw [mt_t oX oY hmm] at k1
        simp only [sf_kmea, putAll, wx, wy, wz, stV, seval, IntWalk.iteOmega, IntWalk.toNatUp, reduceCtorEq]
        refine st_call (c1) rfl (.inl rfl) ?_
        simp only [wx, wy, wz, stV, seval, IntWalk.iteOmega, IntWalk.toNatUp, reduceCtorEq]
        refine st_call (c2) rfl (.inl rfl) ?_
        simp only [wx, wy, wz, stV, seval, IntWalk.iteOmega, IntWalk.toNatUp, reduceCtorEq]
        refine st_call (cw1) rfl (.inl rfl) ?_
        simp only [wx, wy, wz, stV, seval, IntWalk.iteOmega, IntWalk.toNatUp, reduceCtorEq]
        refine st_call (cw2) rfl (.inl rfl) ?_
        simp only [hT, hU, wx, wy, wz, stV, seval, IntWalk.iteOmega, IntWalk.toNatUp, reduceCtorEq]
        refine st_call (k1) rfl (.inl rfl) ?_
        simp only [spA, wx, wy, wz, stV, seval, IntWalk.iteOmega, IntWalk.toNatUp, reduceCtorEq]
        refine st_call (k2) rfl (.inl rfl) ?_
        simp only [spA, wx, wy, wz, stV, seval, IntWalk.iteOmega, IntWalk.toNatUp, reduceCtorEq]
        refine st_call (k3) rfl (.inl rfl) ?_
        simp only [spA, wx, wy, wz, stV, seval, IntWalk.iteOmega, IntWalk.toNatUp, reduceCtorEq]
        refine st_call (k4) rfl (.inl rfl) ?_
        simp only [spA, wx, wy, wz, stV, seval, IntWalk.iteOmega, IntWalk.toNatUp, reduceCtorEq]
        refine st_call (k5) rfl (.inl rfl) ?_
        simp only [spA, wx, wy, wz, stV, seval, IntWalk.iteOmega, IntWalk.toNatUp, reduceCtorEq]
        refine st_call (hx) rfl (.inl rfl) ?_
        simp only [wx, wy, wz, stV, seval, IntWalk.iteOmega, IntWalk.toNatUp, reduceCtorEq]
        refine st_call (hy) rfl (.inl rfl) ?_
        simp only [fx, wx, wy, wz, stV, seval, IntWalk.iteOmega, IntWalk.toNatUp, reduceCtorEq]
        refine st_call (hmt) rfl (.inl rfl) ?_
        simp only [wx, wy, wz, stV, seval, IntWalk.iteOmega, IntWalk.toNatUp, reduceCtorEq]
        refine st_call (hyt) rfl (.inl rfl) ?_
        simp only [wx, wy, wz, stV, seval, IntWalk.iteOmega, IntWalk.toNatUp, reduceCtorEq]
        refine st_call (hht) rfl (.inl rfl) ?_
        simp only [wx, wy, wz, stV, seval, IntWalk.iteOmega, IntWalk.toNatUp, reduceCtorEq]
        refine st_call (hwt) rfl (.inl rfl) ?_
        simp only [wx, wy, wz, stV, seval, IntWalk.iteOmega, IntWalk.toNatUp, reduceCtorEq]
        refine st_call (known11_c G) rfl (.inl rfl) ?_
        simp only [wx, wy, wz, stV, seval, IntWalk.iteOmega, IntWalk.toNatUp, reduceCtorEq]
        refine st_call (i1) rfl (.inl rfl) ?_
        simp only [wx, wy, wz, stV, seval, IntWalk.iteOmega, IntWalk.toNatUp, reduceCtorEq]
        refine st_call (i2) rfl (.inl rfl) ?_
        simp only [wx, wy, wz, stV, seval, IntWalk.iteOmega, IntWalk.toNatUp, reduceCtorEq]
        refine st_call (d1) rfl (.inl rfl) ?_
        simp only [wx, wy, wz, stV, seval, IntWalk.iteOmega, IntWalk.toNatUp, reduceCtorEq]
        refine st_call (d2) rfl (.inl rfl) ?_
        simp only [wx, wy, wz, stV, seval, IntWalk.iteOmega, IntWalk.toNatUp, reduceCtorEq]
        refine st_call (d3) rfl (.inl rfl) ?_
        simp only [wx, wy, wz, stV, seval, IntWalk.iteOmega, IntWalk.toNatUp, reduceCtorEq]
        refine st_call (d4) rfl (.inl rfl) ?_
        simp only [wx, wy, wz, stV, seval, IntWalk.iteOmega, IntWalk.toNatUp, reduceCtorEq]
        refine st_call (d1) rfl (.inl rfl) ?_
        simp only [wx, wy, wz, stV, seval, IntWalk.iteOmega, IntWalk.toNatUp, reduceCtorEq]
        exact ret_d1 (by simp only [wx, wy, wz, stV, seval, IntWalk.iteOmega, IntWalk.toNatUp, reduceCtorEq])
      · rw [hld_f hyn] at hyt
        rw [hld_f (show ¬ (max X0 Y0 ≤ T ∧ T ≤ min X1 Y1) by omega)] at hmt
        by_cases hmm : max X0 Y0 ≤ min X1 Y1
        · rw [mt_t oX oY hmm] at k1
          simp only [sf_kmea, putAll, wx, wy, wz, stV, seval, IntWalk.iteOmega, IntWalk.toNatUp, reduceCtorEq]
          refine st_call (c1) rfl (.inl rfl) ?_
          simp only [wx, wy, wz, stV, seval, IntWalk.iteOmega, IntWalk.toNatUp, reduceCtorEq]
          refine st_call (c2) rfl (.inl rfl) ?_
          simp only [wx, wy, wz, stV, seval, IntWalk.iteOmega, IntWalk.toNatUp, reduceCtorEq]
          refine st_call (cw1) rfl (.inl rfl) ?_
          simp only [wx, wy, wz, stV, seval, IntWalk.iteOmega, IntWalk.toNatUp, reduceCtorEq]
          refine st_call (cw2) rfl (.inl rfl) ?_
          simp only [hT, hU, wx, wy, wz, stV, seval, IntWalk.iteOmega, IntWalk.toNatUp, reduceCtorEq]
          refine st_call (k1) rfl (.inl rfl) ?_
          simp only [spA, wx, wy, wz, stV, seval, IntWalk.iteOmega, IntWalk.toNatUp, reduceCtorEq]
          refine st_call (k2) rfl (.inl rfl) ?_
          simp only [spA, wx, wy, wz, stV, seval, IntWalk.iteOmega, IntWalk.toNatUp, reduceCtorEq]
          refine st_call (k3) rfl (.inl rfl) ?_
          simp only [spA, wx, wy, wz, stV, seval, IntWalk.iteOmega, IntWalk.toNatUp, reduceCtorEq]
          refine st_call (k4) rfl (.inl rfl) ?_
          simp only [spA, wx, wy, wz, stV, seval, IntWalk.iteOmega, IntWalk.toNatUp, reduceCtorEq]
          refine st_call (k5) rfl (.inl rfl) ?_
          simp only [spA, wx, wy, wz, stV, seval, IntWalk.iteOmega, IntWalk.toNatUp, reduceCtorEq]
          refine st_call (hx) rfl (.inl rfl) ?_
          simp only [wx, wy, wz, stV, seval, IntWalk.iteOmega, IntWalk.toNatUp, reduceCtorEq]
          refine st_call (hy) rfl (.inl rfl) ?_
          simp only [fx, wx, wy, wz, stV, seval, IntWalk.iteOmega, IntWalk.toNatUp, reduceCtorEq]
          refine st_call (hmt) rfl (.inl rfl) ?_
          simp only [wx, wy, wz, stV, seval, IntWalk.iteOmega, IntWalk.toNatUp, reduceCtorEq]
          refine st_call (hyt) rfl (.inl rfl) ?_
          simp only [wx, wy, wz, stV, seval, IntWalk.iteOmega, IntWalk.toNatUp, reduceCtorEq]
          refine st_call (hht) rfl (.inl rfl) ?_
          simp only [wx, wy, wz, stV, seval, IntWalk.iteOmega, IntWalk.toNatUp, reduceCtorEq]
          refine st_call (hwt) rfl (.inl rfl) ?_
          simp only [wx, wy, wz, stV, seval, IntWalk.iteOmega, IntWalk.toNatUp, reduceCtorEq]
          refine st_call (known11_c G) rfl (.inl rfl) ?_
          simp only [wx, wy, wz, stV, seval, IntWalk.iteOmega, IntWalk.toNatUp, reduceCtorEq]
          refine st_call (i1) rfl (.inl rfl) ?_
          simp only [wx, wy, wz, stV, seval, IntWalk.iteOmega, IntWalk.toNatUp, reduceCtorEq]
          refine st_call (i2) rfl (.inl rfl) ?_
          simp only [wx, wy, wz, stV, seval, IntWalk.iteOmega, IntWalk.toNatUp, reduceCtorEq]
          refine st_call (d1) rfl (.inl rfl) ?_
          simp only [wx, wy, wz, stV, seval, IntWalk.iteOmega, IntWalk.toNatUp, reduceCtorEq]
          refine st_call (d2) rfl (.inl rfl) ?_
          simp only [wx, wy, wz, stV, seval, IntWalk.iteOmega, IntWalk.toNatUp, reduceCtorEq]
          refine st_call (d3) rfl (.inl rfl) ?_
          simp only [wx, wy, wz, stV, seval, IntWalk.iteOmega, IntWalk.toNatUp, reduceCtorEq]
          refine st_call (d4) rfl (.inl rfl) ?_
          simp only [wx, wy, wz, stV, seval, IntWalk.iteOmega, IntWalk.toNatUp, reduceCtorEq]
          refine st_call (d1) rfl (.inl rfl) ?_
          simp only [wx, wy, wz, stV, seval, IntWalk.iteOmega, IntWalk.toNatUp, reduceCtorEq]
          exact ret_d1 (by simp only [wx, wy, wz, stV, seval, IntWalk.iteOmega, IntWalk.toNatUp, reduceCtorEq])
        · rw [mt_f hmm] at k1
          simp only [sf_kmea, putAll, wx, wy, wz, stV, seval, IntWalk.iteOmega, IntWalk.toNatUp, reduceCtorEq]
          refine st_call (c1) rfl (.inl rfl) ?_
          simp only [wx, wy, wz, stV, seval, IntWalk.iteOmega, IntWalk.toNatUp, reduceCtorEq]
          refine st_call (c2) rfl (.inl rfl) ?_
          simp only [wx, wy, wz, stV, seval, IntWalk.iteOmega, IntWalk.toNatUp, reduceCtorEq]
          refine st_call (cw1) rfl (.inl rfl) ?_
          simp only [wx, wy, wz, stV, seval, IntWalk.iteOmega, IntWalk.toNatUp, reduceCtorEq]
          refine st_call (cw2) rfl (.inl rfl) ?_
          simp only [hT, hU, wx, wy, wz, stV, seval, IntWalk.iteOmega, IntWalk.toNatUp, reduceCtorEq]
          refine st_call (k1) rfl (.inl rfl) ?_
          simp only [spA, wx, wy, wz, stV, seval, IntWalk.iteOmega, IntWalk.toNatUp, reduceCtorEq]
          refine st_call (k2) rfl (.inl rfl) ?_
          simp only [spA, wx, wy, wz, stV, seval, IntWalk.iteOmega, IntWalk.toNatUp, reduceCtorEq]
          refine st_call (k3) rfl (.inl rfl) ?_
          simp only [spA, wx, wy, wz, stV, seval, IntWalk.iteOmega, IntWalk.toNatUp, reduceCtorEq]
          refine st_call (k4) rfl (.inl rfl) ?_
          simp only [spA, wx, wy, wz, stV, seval, IntWalk.iteOmega, IntWalk.toNatUp, reduceCtorEq]
          refine st_call (k5) rfl (.inl rfl) ?_
          simp only [spA, wx, wy, wz, stV, seval, IntWalk.iteOmega, IntWalk.toNatUp, reduceCtorEq]
          refine st_call (hx) rfl (.inl rfl) ?_
          simp only [wx, wy, wz, stV, seval, IntWalk.iteOmega, IntWalk.toNatUp, reduceCtorEq]
          refine st_call (hy) rfl (.inl rfl) ?_
          simp only [fx, wx, wy, wz, stV, seval, IntWalk.iteOmega, IntWalk.toNatUp, reduceCtorEq]
          refine st_call (hyt) rfl (.inl rfl) ?_
          simp only [wx, wy, wz, stV, seval, IntWalk.iteOmega, IntWalk.toNatUp, reduceCtorEq]
          refine st_call (hht) rfl (.inl rfl) ?_
          simp only [wx, wy, wz, stV, seval, IntWalk.iteOmega, IntWalk.toNatUp, reduceCtorEq]
          refine st_call (hwt) rfl (.inl rfl) ?_
          simp only [wx, wy, wz, stV, seval, IntWalk.iteOmega, IntWalk.toNatUp, reduceCtorEq]
          refine st_call (known11_c G) rfl (.inl rfl) ?_
          simp only [wx, wy, wz, stV, seval, IntWalk.iteOmega, IntWalk.toNatUp, reduceCtorEq]
          refine st_call (i1) rfl (.inl rfl) ?_
          simp only [wx, wy, wz, stV, seval, IntWalk.iteOmega, IntWalk.toNatUp, reduceCtorEq]
          refine st_call (i2) rfl (.inl rfl) ?_
          simp only [wx, wy, wz, stV, seval, IntWalk.iteOmega, IntWalk.toNatUp, reduceCtorEq]
          refine st_call (d1) rfl (.inl rfl) ?_
          simp only [wx, wy, wz, stV, seval, IntWalk.iteOmega, IntWalk.toNatUp, reduceCtorEq]
          refine st_call (d2) rfl (.inl rfl) ?_
          simp only [wx, wy, wz, stV, seval, IntWalk.iteOmega, IntWalk.toNatUp, reduceCtorEq]
          refine st_call (d3) rfl (.inl rfl) ?_
          simp only [wx, wy, wz, stV, seval, IntWalk.iteOmega, IntWalk.toNatUp, reduceCtorEq]
          refine st_call (d4) rfl (.inl rfl) ?_
          simp only [wx, wy, wz, stV, seval, IntWalk.iteOmega, IntWalk.toNatUp, reduceCtorEq]
          refine st_call (d1) rfl (.inl rfl) ?_
          simp only [wx, wy, wz, stV, seval, IntWalk.iteOmega, IntWalk.toNatUp, reduceCtorEq]
          exact ret_d1 (by simp only [wx, wy, wz, stV, seval, IntWalk.iteOmega, IntWalk.toNatUp, reduceCtorEq])
  · rw [hld_f hin] at hx
    rw [hld_f (show ¬ (X0 + U ≤ T + U ∧ T + U ≤ X1 + U) by omega)] at hwt
    have hyv : ∃ v, hldB Y0 Y1 U = v := ⟨_, rfl⟩
    obtain ⟨v, hv⟩ := hyv
    rw [hv] at hy
    rw [hld_f (show ¬ (max X0 Y0 ≤ T ∧ T ≤ min X1 Y1) by omega)] at hmt
    by_cases hmm : max X0 Y0 ≤ min X1 Y1
    · rw [mt_t oX oY hmm] at k1
      by_cases hlo : X0 ≤ T
      · have fx : (X0 ≤ T) = True := eq_true hlo
        have fx2 : (T ≤ X1) = False := eq_false (by omega)
        simp only [sf_kmea, putAll, wx, wy, wz, stV, seval, IntWalk.iteOmega, IntWalk.toNatUp, reduceCtorEq]
        refine st_call (c1) rfl (.inl rfl) ?_
        simp only [wx, wy, wz, stV, seval, IntWalk.iteOmega, IntWalk.toNatUp, reduceCtorEq]
        refine st_call (c2) rfl (.inl rfl) ?_
        simp only [wx, wy, wz, stV, seval, IntWalk.iteOmega, IntWalk.toNatUp, reduceCtorEq]
        refine st_call (cw1) rfl (.inl rfl) ?_
        simp only [wx, wy, wz, stV, seval, IntWalk.iteOmega, IntWalk.toNatUp, reduceCtorEq]
        refine st_call (cw2) rfl (.inl rfl) ?_
        simp only [hT, hU, wx, wy, wz, stV, seval, IntWalk.iteOmega, IntWalk.toNatUp, reduceCtorEq]
        refine st_call (k1) rfl (.inl rfl) ?_
        simp only [spA, wx, wy, wz, stV, seval, IntWalk.iteOmega, IntWalk.toNatUp, reduceCtorEq]
        refine st_call (k2) rfl (.inl rfl) ?_
        simp only [spA, wx, wy, wz, stV, seval, IntWalk.iteOmega, IntWalk.toNatUp, reduceCtorEq]
        refine st_call (k3) rfl (.inl rfl) ?_
        simp only [spA, wx, wy, wz, stV, seval, IntWalk.iteOmega, IntWalk.toNatUp, reduceCtorEq]
        refine st_call (k4) rfl (.inl rfl) ?_
        simp only [spA, wx, wy, wz, stV, seval, IntWalk.iteOmega, IntWalk.toNatUp, reduceCtorEq]
        refine st_call (k5) rfl (.inl rfl) ?_
        simp only [spA, wx, wy, wz, stV, seval, IntWalk.iteOmega, IntWalk.toNatUp, reduceCtorEq]
        refine st_call (hx) rfl (.inl rfl) ?_
        simp only [wx, wy, wz, stV, seval, IntWalk.iteOmega, IntWalk.toNatUp, reduceCtorEq]
        refine st_call (hy) rfl (.inl rfl) ?_
        simp only [fx, fx2, wx, wy, wz, stV, seval, IntWalk.iteOmega, IntWalk.toNatUp, reduceCtorEq]
        refine st_call (hmt) rfl (.inl rfl) ?_
        simp only [wx, wy, wz, stV, seval, IntWalk.iteOmega, IntWalk.toNatUp, reduceCtorEq]
        refine st_call (hwt) rfl (.inl rfl) ?_
        simp only [wx, wy, wz, stV, seval, IntWalk.iteOmega, IntWalk.toNatUp, reduceCtorEq]
        refine st_call (known11_c G) rfl (.inl rfl) ?_
        simp only [wx, wy, wz, stV, seval, IntWalk.iteOmega, IntWalk.toNatUp, reduceCtorEq]
        refine st_call (i1) rfl (.inl rfl) ?_
        simp only [wx, wy, wz, stV, seval, IntWalk.iteOmega, IntWalk.toNatUp, reduceCtorEq]
        refine st_call (i2) rfl (.inl rfl) ?_
        simp only [wx, wy, wz, stV, seval, IntWalk.iteOmega, IntWalk.toNatUp, reduceCtorEq]
        refine st_call (d1) rfl (.inl rfl) ?_
        simp only [wx, wy, wz, stV, seval, IntWalk.iteOmega, IntWalk.toNatUp, reduceCtorEq]
        refine st_call (d2) rfl (.inl rfl) ?_
        simp only [wx, wy, wz, stV, seval, IntWalk.iteOmega, IntWalk.toNatUp, reduceCtorEq]
        refine st_call (d3) rfl (.inl rfl) ?_
        simp only [wx, wy, wz, stV, seval, IntWalk.iteOmega, IntWalk.toNatUp, reduceCtorEq]
        refine st_call (d4) rfl (.inl rfl) ?_
        simp only [wx, wy, wz, stV, seval, IntWalk.iteOmega, IntWalk.toNatUp, reduceCtorEq]
        refine st_call (d1) rfl (.inl rfl) ?_
        simp only [wx, wy, wz, stV, seval, IntWalk.iteOmega, IntWalk.toNatUp, reduceCtorEq]
        exact ret_d1 (by simp only [wx, wy, wz, stV, seval, IntWalk.iteOmega, IntWalk.toNatUp, reduceCtorEq])
      · have fx : (X0 ≤ T) = False := eq_false hlo
        have fx2 : True := trivial
        simp only [sf_kmea, putAll, wx, wy, wz, stV, seval, IntWalk.iteOmega, IntWalk.toNatUp, reduceCtorEq]
        refine st_call (c1) rfl (.inl rfl) ?_
        simp only [wx, wy, wz, stV, seval, IntWalk.iteOmega, IntWalk.toNatUp, reduceCtorEq]
        refine st_call (c2) rfl (.inl rfl) ?_
        simp only [wx, wy, wz, stV, seval, IntWalk.iteOmega, IntWalk.toNatUp, reduceCtorEq]
        refine st_call (cw1) rfl (.inl rfl) ?_
        simp only [wx, wy, wz, stV, seval, IntWalk.iteOmega, IntWalk.toNatUp, reduceCtorEq]
        refine st_call (cw2) rfl (.inl rfl) ?_
        simp only [hT, hU, wx, wy, wz, stV, seval, IntWalk.iteOmega, IntWalk.toNatUp, reduceCtorEq]
        refine st_call (k1) rfl (.inl rfl) ?_
        simp only [spA, wx, wy, wz, stV, seval, IntWalk.iteOmega, IntWalk.toNatUp, reduceCtorEq]
        refine st_call (k2) rfl (.inl rfl) ?_
        simp only [spA, wx, wy, wz, stV, seval, IntWalk.iteOmega, IntWalk.toNatUp, reduceCtorEq]
        refine st_call (k3) rfl (.inl rfl) ?_
        simp only [spA, wx, wy, wz, stV, seval, IntWalk.iteOmega, IntWalk.toNatUp, reduceCtorEq]
        refine st_call (k4) rfl (.inl rfl) ?_
        simp only [spA, wx, wy, wz, stV, seval, IntWalk.iteOmega, IntWalk.toNatUp, reduceCtorEq]
        refine st_call (k5) rfl (.inl rfl) ?_
        simp only [spA, wx, wy, wz, stV, seval, IntWalk.iteOmega, IntWalk.toNatUp, reduceCtorEq]
        refine st_call (hx) rfl (.inl rfl) ?_
        simp only [wx, wy, wz, stV, seval, IntWalk.iteOmega, IntWalk.toNatUp, reduceCtorEq]
        refine st_call (hy) rfl (.inl rfl) ?_
        simp only [fx, fx2, wx, wy, wz, stV, seval, IntWalk.iteOmega, IntWalk.toNatUp, reduceCtorEq]
        refine st_call (hmt) rfl (.inl rfl) ?_
        simp only [wx, wy, wz, stV, seval, IntWalk.iteOmega, IntWalk.toNatUp, reduceCtorEq]
        refine st_call (hwt) rfl (.inl rfl) ?_
        simp only [wx, wy, wz, stV, seval, IntWalk.iteOmega, IntWalk.toNatUp, reduceCtorEq]
        refine st_call (known11_c G) rfl (.inl rfl) ?_
        simp only [wx, wy, wz, stV, seval, IntWalk.iteOmega, IntWalk.toNatUp, reduceCtorEq]
        refine st_call (i1) rfl (.inl rfl) ?_
        simp only [wx, wy, wz, stV, seval, IntWalk.iteOmega, IntWalk.toNatUp, reduceCtorEq]
        refine st_call (i2) rfl (.inl rfl) ?_
        simp only [wx, wy, wz, stV, seval, IntWalk.iteOmega, IntWalk.toNatUp, reduceCtorEq]
        refine st_call (d1) rfl (.inl rfl) ?_
        simp only [wx, wy, wz, stV, seval, IntWalk.iteOmega, IntWalk.toNatUp, reduceCtorEq]
        refine st_call (d2) rfl (.inl rfl) ?_
        simp only [wx, wy, wz, stV, seval, IntWalk.iteOmega, IntWalk.toNatUp, reduceCtorEq]
        refine st_call (d3) rfl (.inl rfl) ?_
        simp only [wx, wy, wz, stV, seval, IntWalk.iteOmega, IntWalk.toNatUp, reduceCtorEq]
        refine st_call (d4) rfl (.inl rfl) ?_
        simp only [wx, wy, wz, stV, seval, IntWalk.iteOmega, IntWalk.toNatUp, reduceCtorEq]
        refine st_call (d1) rfl (.inl rfl) ?_
        simp only [wx, wy, wz, stV, seval, IntWalk.iteOmega, IntWalk.toNatUp, reduceCtorEq]
        exact ret_d1 (by simp only [wx, wy, wz, stV, seval, IntWalk.iteOmega, IntWalk.toNatUp, reduceCtorEq])
    · rw [mt_f hmm] at k1
      by_cases hlo : X0 ≤ T
      · have fx : (X0 ≤ T) = True := eq_true hlo
        have fx2 : (T ≤ X1) = False := eq_false (by omega)
        simp only [sf_kmea, putAll, wx, wy, wz, stV, seval, IntWalk.iteOmega, IntWalk.toNatUp, reduceCtorEq]
        refine st_call (c1) rfl (.inl rfl) ?_
        simp only [wx, wy, wz, stV, seval, IntWalk.iteOmega, IntWalk.toNatUp, reduceCtorEq]
        refine st_call (c2) rfl (.inl rfl) ?_
        simp only [wx, wy, wz, stV, seval, IntWalk.iteOmega, IntWalk.toNatUp, reduceCtorEq]
        refine st_call (cw1) rfl (.inl rfl) ?_
        simp only [wx, wy, wz, stV, seval, IntWalk.iteOmega, IntWalk.toNatUp, reduceCtorEq]
        refine st_call (cw2) rfl (.inl rfl) ?_
        simp only [hT, hU, wx, wy, wz, stV, seval, IntWalk.iteOmega, IntWalk.toNatUp, reduceCtorEq]
        refine st_call (k1) rfl (.inl rfl) ?_
        simp only [spA, wx, wy, wz, stV, seval, IntWalk.iteOmega, IntWalk.toNatUp, reduceCtorEq]
        refine st_call (k2) rfl (.inl rfl) ?_
        simp only [spA, wx, wy, wz, stV, seval, IntWalk.iteOmega, IntWalk.toNatUp, reduceCtorEq]
        refine st_call (k3) rfl (.inl rfl) ?_
        simp only [spA, wx, wy, wz, stV, seval, IntWalk.iteOmega, IntWalk.toNatUp, reduceCtorEq]
        refine st_call (k4) rfl (.inl rfl) ?_
        simp only [spA, wx, wy, wz, stV, seval, IntWalk.iteOmega, IntWalk.toNatUp, reduceCtorEq]
        refine st_call (k5) rfl (.inl rfl) ?_
        simp only [spA, wx, wy, wz, stV, seval, IntWalk.iteOmega, IntWalk.toNatUp, reduceCtorEq]
        refine st_call (hx) rfl (.inl rfl) ?_
        simp only [wx, wy, wz, stV, seval, IntWalk.iteOmega, IntWalk.toNatUp, reduceCtorEq]
        refine st_call (hy) rfl (.inl rfl) ?_
        simp only [fx, fx2, wx, wy, wz, stV, seval, IntWalk.iteOmega, IntWalk.toNatUp, reduceCtorEq]
        refine st_call (hwt) rfl (.inl rfl) ?_
        simp only [wx, wy, wz, stV, seval, IntWalk.iteOmega, IntWalk.toNatUp, reduceCtorEq]
        refine st_call (known11_c G) rfl (.inl rfl) ?_
        simp only [wx, wy, wz, stV, seval, IntWalk.iteOmega, IntWalk.toNatUp, reduceCtorEq]
        refine st_call (i1) rfl (.inl rfl) ?_
        simp only [wx, wy, wz, stV, seval, IntWalk.iteOmega, IntWalk.toNatUp, reduceCtorEq]
        refine st_call (i2) rfl (.inl rfl) ?_
        simp only [wx, wy, wz, stV, seval, IntWalk.iteOmega, IntWalk.toNatUp, reduceCtorEq]
        refine st_call (d1) rfl (.inl rfl) ?_
        simp only [wx, wy, wz, stV, seval, IntWalk.iteOmega, IntWalk.toNatUp, reduceCtorEq]
        refine st_call (d2) rfl (.inl rfl) ?_
        simp only [wx, wy, wz, stV, seval, IntWalk.iteOmega, IntWalk.toNatUp, reduceCtorEq]
        refine st_call (d3) rfl (.inl rfl) ?_
        simp only [wx, wy, wz, stV, seval, IntWalk.iteOmega, IntWalk.toNatUp, reduceCtorEq]
        refine st_call (d4) rfl (.inl rfl) ?_
        simp only [wx, wy, wz, stV, seval, IntWalk.iteOmega, IntWalk.toNatUp, reduceCtorEq]
        refine st_call (d1) rfl (.inl rfl) ?_
        simp only [wx, wy, wz, stV, seval, IntWalk.iteOmega, IntWalk.toNatUp, reduceCtorEq]
        exact ret_d1 (by simp only [wx, wy, wz, stV, seval, IntWalk.iteOmega, IntWalk.toNatUp, reduceCtorEq])
      · have fx : (X0 ≤ T) = False := eq_false hlo
        have fx2 : True := trivial
        simp only [sf_kmea, putAll, wx, wy, wz, stV, seval, IntWalk.iteOmega, IntWalk.toNatUp, reduceCtorEq]
        refine st_call (c1) rfl (.inl rfl) ?_
        simp only [wx, wy, wz, stV, seval, IntWalk.iteOmega, IntWalk.toNatUp, reduceCtorEq]
        refine st_call (c2) rfl (.inl rfl) ?_
        simp only [wx, wy, wz, stV, seval, IntWalk.iteOmega, IntWalk.toNatUp, reduceCtorEq]
        refine st_call (cw1) rfl (.inl rfl) ?_
        simp only [wx, wy, wz, stV, seval, IntWalk.iteOmega, IntWalk.toNatUp, reduceCtorEq]
        refine st_call (cw2) rfl (.inl rfl) ?_
        simp only [hT, hU, wx, wy, wz, stV, seval, IntWalk.iteOmega, IntWalk.toNatUp, reduceCtorEq]
        refine st_call (k1) rfl (.inl rfl) ?_
        simp only [spA, wx, wy, wz, stV, seval, IntWalk.iteOmega, IntWalk.toNatUp, reduceCtorEq]
        refine st_call (k2) rfl (.inl rfl) ?_
        simp only [spA, wx, wy, wz, stV, seval, IntWalk.iteOmega, IntWalk.toNatUp, reduceCtorEq]
        refine st_call (k3) rfl (.inl rfl) ?_
        simp only [spA, wx, wy, wz, stV, seval, IntWalk.iteOmega, IntWalk.toNatUp, reduceCtorEq]
        refine st_call (k4) rfl (.inl rfl) ?_
        simp only [spA, wx, wy, wz, stV, seval, IntWalk.iteOmega, IntWalk.toNatUp, reduceCtorEq]
        refine st_call (k5) rfl (.inl rfl) ?_
        simp only [spA, wx, wy, wz, stV, seval, IntWalk.iteOmega, IntWalk.toNatUp, reduceCtorEq]
        refine st_call (hx) rfl (.inl rfl) ?_
        simp only [wx, wy, wz, stV, seval, IntWalk.iteOmega, IntWalk.toNatUp, reduceCtorEq]
        refine st_call (hy) rfl (.inl rfl) ?_
        simp only [fx, fx2, wx, wy, wz, stV, seval, IntWalk.iteOmega, IntWalk.toNatUp, reduceCtorEq]
        refine st_call (hwt) rfl (.inl rfl) ?_
        simp only [wx, wy, wz, stV, seval, IntWalk.iteOmega, IntWalk.toNatUp, reduceCtorEq]
        refine st_call (known11_c G) rfl (.inl rfl) ?_
        simp only [wx, wy, wz, stV, seval, IntWalk.iteOmega, IntWalk.toNatUp, reduceCtorEq]
        refine st_call (i1) rfl (.inl rfl) ?_
        simp only [wx, wy, wz, stV, seval, IntWalk.iteOmega, IntWalk.toNatUp, reduceCtorEq]
        refine st_call (i2) rfl (.inl rfl) ?_
        simp only [wx, wy, wz, stV, seval, IntWalk.iteOmega, IntWalk.toNatUp, reduceCtorEq]
        refine st_call (d1) rfl (.inl rfl) ?_
        simp only [wx, wy, wz, stV, seval, IntWalk.iteOmega, IntWalk.toNatUp, reduceCtorEq]
        refine st_call (d2) rfl (.inl rfl) ?_
        simp only [wx, wy, wz, stV, seval, IntWalk.iteOmega, IntWalk.toNatUp, reduceCtorEq]
        refine st_call (d3) rfl (.inl rfl) ?_
        simp only [wx, wy, wz, stV, seval, IntWalk.iteOmega, IntWalk.toNatUp, reduceCtorEq]
        refine st_call (d4) rfl (.inl rfl) ?_
        simp only [wx, wy, wz, stV, seval, IntWalk.iteOmega, IntWalk.toNatUp, reduceCtorEq]
        refine st_call (d1) rfl (.inl rfl) ?_
        simp only [wx, wy, wz, stV, seval, IntWalk.iteOmega, IntWalk.toNatUp, reduceCtorEq]
        exact ret_d1 (by simp only [wx, wy, wz, stV, seval, IntWalk.iteOmega, IntWalk.toNatUp, reduceCtorEq])
end Go.Proofs.Ytaodfdnncdelnaa
