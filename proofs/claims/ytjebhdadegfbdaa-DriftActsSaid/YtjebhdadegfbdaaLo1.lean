/- The laws of layer 15: what its functions return; containment. Own work. -/
import Derived.Test.YtjebhdadegfbdaaAlV
import Derived.Test.YtjebhdadegfbdaaLo0
set_option linter.unusedVariables false
set_option linter.unusedSimpArgs false
namespace Go.Proofs.Ytjebhdadegfbdaa
open Go.RowKit

def sf_kact15 : SFn := ⟨4, 155,
  .seq (.reg [⟨(some 7), .box .roBox (.t 3), none⟩,
    ⟨(some 8), .mv (.k (.c (.d (.bool false)))), none⟩])
  (.seq (.reg [⟨(some 30), .mv (.t 1), none⟩,
    ⟨(some 31), .mv (.t 2), none⟩,
    ⟨(some 32), .call 12 [(.t 30), (.t 31)] none, none⟩,
    ⟨(some 29), .mv (.t 32), none⟩,
    ⟨(some 33), .extract (.t 29) 0, none⟩,
    ⟨(some 34), .extract (.t 29) 1, none⟩,
    ⟨(some 9), .alloc [(.d (.int .i64 0)), (.d (.int .i64 0))], none⟩,
    ⟨none, .store (.ag 2) (.t 9) (.t 33), none⟩,
    ⟨(some 10), .mv (.t 34), none⟩])
  (.seq (.reg [⟨(some 36), .mv (.t 1), none⟩,
    ⟨(some 37), .mv (.t 2), none⟩,
    ⟨(some 38), .call 13 [(.t 36), (.t 37)] none, none⟩,
    ⟨(some 35), .mv (.t 38), none⟩,
    ⟨(some 39), .extract (.t 35) 0, none⟩,
    ⟨(some 40), .extract (.t 35) 1, none⟩,
    ⟨(some 11), .alloc [(.d (.int .i64 0)), (.d (.int .i64 0))], none⟩,
    ⟨none, .store (.ag 2) (.t 11) (.t 39), none⟩,
    ⟨(some 12), .mv (.t 40), none⟩])
  (.seq (.reg [⟨(some 42), .mv (.t 0), none⟩,
    ⟨(some 43), .mv (.t 2), none⟩,
    ⟨(some 44), .call 14 [(.t 42), (.t 43)] none, none⟩,
    ⟨(some 41), .mv (.t 44), none⟩,
    ⟨(some 45), .extract (.t 41) 0, none⟩,
    ⟨(some 46), .extract (.t 41) 1, none⟩,
    ⟨(some 13), .alloc [(.d (.int .i64 0)), (.d (.int .i64 0))], none⟩,
    ⟨none, .store (.ag 2) (.t 13) (.t 45), none⟩,
    ⟨(some 14), .mv (.t 46), none⟩])
  (.seq (.reg [⟨(some 48), .mv (.t 0), none⟩,
    ⟨(some 49), .mv (.t 2), none⟩,
    ⟨(some 50), .call 15 [(.t 48), (.t 49)] none, none⟩,
    ⟨(some 47), .mv (.t 50), none⟩,
    ⟨(some 51), .extract (.t 47) 0, none⟩,
    ⟨(some 52), .extract (.t 47) 1, none⟩,
    ⟨(some 15), .alloc [(.d (.int .i64 0)), (.d (.int .i64 0))], none⟩,
    ⟨none, .store (.ag 2) (.t 15) (.t 51), none⟩,
    ⟨(some 16), .mv (.t 52), none⟩])
  (.seq (.reg [⟨(some 54), .load (.ag 2) (.t 7), none⟩,
    ⟨(some 55), .mv (.t 1), none⟩,
    ⟨(some 56), .mv (.t 2), none⟩,
    ⟨(some 57), .call 16 [(.t 54), (.t 55), (.t 56)] none, none⟩,
    ⟨(some 53), .mv (.t 57), none⟩,
    ⟨(some 58), .extract (.t 53) 0, none⟩,
    ⟨(some 59), .extract (.t 53) 1, none⟩,
    ⟨(some 17), .alloc [(.d (.int .i64 0)), (.d (.int .i64 0))], none⟩,
    ⟨none, .store (.ag 2) (.t 17) (.t 58), none⟩,
    ⟨(some 18), .mv (.t 59), none⟩])
  (.seq (.reg [⟨(some 61), .load (.ag 2) (.t 7), none⟩,
    ⟨(some 62), .mv (.t 1), none⟩,
    ⟨(some 63), .mv (.t 2), none⟩,
    ⟨(some 64), .call 17 [(.t 61), (.t 62), (.t 63)] none, none⟩,
    ⟨(some 60), .mv (.t 64), none⟩,
    ⟨(some 65), .extract (.t 60) 0, none⟩,
    ⟨(some 66), .extract (.t 60) 1, none⟩,
    ⟨(some 19), .alloc [(.d (.int .i64 0)), (.d (.int .i64 0))], none⟩,
    ⟨none, .store (.ag 2) (.t 19) (.t 65), none⟩,
    ⟨(some 20), .mv (.t 66), none⟩])
  (.seq (.reg [⟨(some 68), .load (.ag 2) (.t 7), none⟩,
    ⟨(some 69), .mv (.t 1), none⟩,
    ⟨(some 70), .mv (.t 2), none⟩,
    ⟨(some 71), .call 18 [(.t 68), (.t 69), (.t 70)] none, none⟩,
    ⟨(some 67), .mv (.t 71), none⟩,
    ⟨(some 72), .extract (.t 67) 0, none⟩,
    ⟨(some 73), .extract (.t 67) 1, none⟩,
    ⟨(some 21), .alloc [(.d (.int .i64 0)), (.d (.int .i64 0))], none⟩,
    ⟨none, .store (.ag 2) (.t 21) (.t 72), none⟩,
    ⟨(some 22), .mv (.t 73), none⟩])
  (.seq (.reg [⟨(some 75), .load (.ag 2) (.t 7), none⟩,
    ⟨(some 76), .mv (.t 1), none⟩,
    ⟨(some 77), .mv (.t 2), none⟩,
    ⟨(some 78), .call 19 [(.t 75), (.t 76), (.t 77)] none, none⟩,
    ⟨(some 74), .mv (.t 78), none⟩,
    ⟨(some 79), .extract (.t 74) 0, none⟩,
    ⟨(some 80), .extract (.t 74) 1, none⟩,
    ⟨(some 23), .alloc [(.d (.int .i64 0)), (.d (.int .i64 0))], none⟩,
    ⟨none, .store (.ag 2) (.t 23) (.t 79), none⟩,
    ⟨(some 24), .mv (.t 80), none⟩])
  (.seq (.reg [⟨(some 82), .mv (.t 0), none⟩,
    ⟨(some 83), .mv (.t 1), none⟩,
    ⟨(some 84), .call 20 [(.t 82), (.t 83)] none, none⟩,
    ⟨(some 81), .mv (.t 84), none⟩,
    ⟨(some 85), .extract (.t 81) 0, none⟩,
    ⟨(some 86), .extract (.t 81) 1, none⟩,
    ⟨(some 25), .mv (.t 85), none⟩,
    ⟨(some 26), .mv (.t 86), none⟩])
  (.seq (.reg [⟨(some 88), .mv (.t 0), none⟩,
    ⟨(some 89), .mv (.t 1), none⟩,
    ⟨(some 90), .call 21 [(.t 88), (.t 89)] none, none⟩,
    ⟨(some 87), .mv (.t 90), none⟩,
    ⟨(some 91), .extract (.t 87) 0, none⟩,
    ⟨(some 92), .extract (.t 87) 1, none⟩,
    ⟨(some 27), .mv (.t 91), none⟩,
    ⟨(some 28), .mv (.t 92), none⟩])
  (.seq (.reg [⟨(some 93), .call 22 [] none, none⟩,
    ⟨(some 94), .mv (.t 93), none⟩,
    ⟨(some 95), .mv (.t 0), (some (94, true))⟩,
    ⟨(some 96), .mv (.t 1), (some (94, true))⟩,
    ⟨(some 97), .mv (.t 2), (some (94, true))⟩,
    ⟨(some 98), .call 23 [(.t 95), (.t 96), (.t 97)] none, (some (94, true))⟩,
    ⟨(some 99), .mv (.t 0), (some (94, true))⟩,
    ⟨(some 100), .mv (.t 1), (some (94, true))⟩,
    ⟨(some 101), .mv (.t 2), (some (94, true))⟩,
    ⟨(some 102), .call 24 [(.t 99), (.t 100), (.t 101)] none, (some (94, true))⟩,
    ⟨(some 103), .eqB false (.t 98) (.t 102), (some (94, true))⟩,
    ⟨(some 104), .pick (.t 94) (.t 103) (.k (.c (.d (.bool false)))), none⟩,
    ⟨(some 105), .mv (.t 104), none⟩,
    ⟨(some 106), .mv (.t 10), (some (105, true))⟩,
    ⟨(some 107), .mv (.t 12), (some (105, true))⟩,
    ⟨(some 108), .bin .eql (.t 106) (.t 107), (some (105, true))⟩,
    ⟨(some 109), .pick (.t 105) (.t 108) (.k (.c (.d (.bool false)))), none⟩,
    ⟨(some 110), .mv (.t 109), none⟩,
    ⟨(some 111), .load (.ag 2) (.t 9), (some (110, true))⟩,
    ⟨(some 112), .load (.ag 2) (.t 11), (some (110, true))⟩,
    ⟨(some 113), .eqA false [0, 0] (.t 111) (.t 112), (some (110, true))⟩,
    ⟨(some 114), .pick (.t 110) (.t 113) (.k (.c (.d (.bool false)))), none⟩,
    ⟨(some 115), .mv (.t 114), none⟩,
    ⟨(some 116), .mv (.t 14), (some (115, true))⟩,
    ⟨(some 117), .mv (.t 16), (some (115, true))⟩,
    ⟨(some 118), .bin .eql (.t 116) (.t 117), (some (115, true))⟩,
    ⟨(some 119), .pick (.t 115) (.t 118) (.k (.c (.d (.bool false)))), none⟩,
    ⟨(some 120), .mv (.t 119), none⟩,
    ⟨(some 121), .load (.ag 2) (.t 13), (some (120, true))⟩,
    ⟨(some 122), .load (.ag 2) (.t 15), (some (120, true))⟩,
    ⟨(some 123), .eqA false [0, 0] (.t 121) (.t 122), (some (120, true))⟩,
    ⟨(some 124), .pick (.t 120) (.t 123) (.k (.c (.d (.bool false)))), none⟩,
    ⟨(some 125), .mv (.t 124), none⟩,
    ⟨(some 126), .mv (.t 18), (some (125, true))⟩,
    ⟨(some 127), .mv (.t 20), (some (125, true))⟩,
    ⟨(some 128), .bin .eql (.t 126) (.t 127), (some (125, true))⟩,
    ⟨(some 129), .pick (.t 125) (.t 128) (.k (.c (.d (.bool false)))), none⟩,
    ⟨(some 130), .mv (.t 129), none⟩,
    ⟨(some 131), .load (.ag 2) (.t 17), (some (130, true))⟩,
    ⟨(some 132), .load (.ag 2) (.t 19), (some (130, true))⟩,
    ⟨(some 133), .eqA false [0, 0] (.t 131) (.t 132), (some (130, true))⟩,
    ⟨(some 134), .pick (.t 130) (.t 133) (.k (.c (.d (.bool false)))), none⟩,
    ⟨(some 135), .mv (.t 134), none⟩,
    ⟨(some 136), .mv (.t 22), (some (135, true))⟩,
    ⟨(some 137), .mv (.t 24), (some (135, true))⟩,
    ⟨(some 138), .bin .eql (.t 136) (.t 137), (some (135, true))⟩,
    ⟨(some 139), .pick (.t 135) (.t 138) (.k (.c (.d (.bool false)))), none⟩,
    ⟨(some 140), .mv (.t 139), none⟩,
    ⟨(some 141), .load (.ag 2) (.t 21), (some (140, true))⟩,
    ⟨(some 142), .load (.ag 2) (.t 23), (some (140, true))⟩,
    ⟨(some 143), .eqA false [0, 0] (.t 141) (.t 142), (some (140, true))⟩,
    ⟨(some 144), .pick (.t 140) (.t 143) (.k (.c (.d (.bool false)))), none⟩,
    ⟨(some 145), .mv (.t 144), none⟩,
    ⟨(some 146), .mv (.t 26), (some (145, true))⟩,
    ⟨(some 147), .mv (.t 28), (some (145, true))⟩,
    ⟨(some 148), .bin .eql (.t 146) (.t 147), (some (145, true))⟩,
    ⟨(some 149), .pick (.t 145) (.t 148) (.k (.c (.d (.bool false)))), none⟩,
    ⟨(some 150), .mv (.t 149), none⟩,
    ⟨(some 151), .mv (.t 25), (some (150, true))⟩,
    ⟨(some 152), .mv (.t 27), (some (150, true))⟩,
    ⟨(some 153), .bin .eql (.t 151) (.t 152), (some (150, true))⟩,
    ⟨(some 154), .pick (.t 150) (.t 153) (.k (.c (.d (.bool false)))), none⟩,
    ⟨(some 8), .mv (.t 154), none⟩])
  (.ret)))))))))))),
  [(8, none)]⟩
theorem cf_kact15 : compFn Try.prog { own := [], comp := [], frz := [], nils := [] } Try.f3 = some sf_kact15 := by kernel_rfl
set_option maxHeartbeats 1600000 in
theorem kact15_c (G : Glob) (e : Int) (he1 : -9223372036854775808 ≤ e) (he2 : e ≤ 9223372036854775807) (d : Int) (hd1 : -9223372036854775808 ≤ d) (hd2 : d ≤ 9223372036854775807) (ppb : Int) (hppb1 : -9223372036854775808 ≤ ppb) (hppb2 : ppb ≤ 9223372036854775807) (s0 : Int) (hs01 : -9223372036854775808 ≤ s0) (hs02 : s0 ≤ 9223372036854775807) (s1 : Int) (hs11 : -9223372036854775808 ≤ s1) (hs12 : s1 ≤ 9223372036854775807)  : Den Try.prog G 3 [.int .i64 e, .int .i64 d, .int .i64 ppb, .agg [.int .i64 s0, .int .i64 s1]] (.w (.c (.d (.bool true)))) := by
  refine den_walk Try.func3 cf_kact15 rfl rfl ?_
  simp only [sf_kact15, putAll, wx, wy, wz, stV, seval, IntWalk.iteOmega, IntWalk.toNatUp, reduceCtorEq]
  refine st_call (dela_c G d ppb) rfl (.inl rfl) ?_
  simp only [spA, wx, wy, wz, stV, seval, IntWalk.iteOmega, IntWalk.toNatUp, reduceCtorEq]
  refine st_call (rela_c G d ppb) rfl (.inl rfl) ?_
  simp only [spA, wx, wy, wz, stV, seval, IntWalk.iteOmega, IntWalk.toNatUp, reduceCtorEq]
  refine st_call (dadv_c G e ppb) rfl (.inl rfl) ?_
  simp only [spA, wx, wy, wz, stV, seval, IntWalk.iteOmega, IntWalk.toNatUp, reduceCtorEq]
  refine st_call (radv_c G e ppb) rfl (.inl rfl) ?_
  simp only [spA, wx, wy, wz, stV, seval, IntWalk.iteOmega, IntWalk.toNatUp, reduceCtorEq]
  refine st_call (dprj_c G s0 s1 d ppb) rfl (.inl rfl) ?_
  simp only [spA, wx, wy, wz, stV, seval, IntWalk.iteOmega, IntWalk.toNatUp, reduceCtorEq]
  refine st_call (rprj_c G s0 s1 d ppb) rfl (.inl rfl) ?_
  simp only [spA, wx, wy, wz, stV, seval, IntWalk.iteOmega, IntWalk.toNatUp, reduceCtorEq]
  refine st_call (dbck_c G s0 s1 d ppb) rfl (.inl rfl) ?_
  simp only [spA, wx, wy, wz, stV, seval, IntWalk.iteOmega, IntWalk.toNatUp, reduceCtorEq]
  refine st_call (rbck_c G s0 s1 d ppb) rfl (.inl rfl) ?_
  simp only [spA, wx, wy, wz, stV, seval, IntWalk.iteOmega, IntWalk.toNatUp, reduceCtorEq]
  refine st_call (drat_c G e d) rfl (.inl rfl) ?_
  simp only [wx, wy, wz, stV, seval, IntWalk.iteOmega, IntWalk.toNatUp, reduceCtorEq]
  refine st_call (rrte_c G e d) rfl (.inl rfl) ?_
  simp only [wx, wy, wz, stV, seval, IntWalk.iteOmega, IntWalk.toNatUp, reduceCtorEq]
  refine st_call (known15_c G) rfl (.inl rfl) ?_
  simp only [wx, wy, wz, stV, seval, IntWalk.iteOmega, IntWalk.toNatUp, reduceCtorEq]
  refine st_call (dfit_c G e d ppb) rfl (.inl rfl) ?_
  simp only [wx, wy, wz, stV, seval, IntWalk.iteOmega, IntWalk.toNatUp, reduceCtorEq]
  refine st_call (rfit_c G e d ppb) rfl (.inl rfl) ?_
  simp only [wx, wy, wz, stV, seval, IntWalk.iteOmega, IntWalk.toNatUp, reduceCtorEq]
  exact ret_d1 (by simp only [wx, wy, wz, stV, seval, IntWalk.iteOmega, IntWalk.toNatUp, reduceCtorEq])
def sf_kcon15 : SFn := ⟨6, 116,
  .seq (.reg [⟨(some 12), .mv (.k (.c (.d (.bool false)))), none⟩])
  (.seq (.reg [⟨(some 23), .mv (.t 0), none⟩,
    ⟨(some 24), .call 25 [(.t 23), (.k (.c (.d (.int .i64 36028797018963968))))] none, none⟩,
    ⟨(some 25), .mv (.t 1), none⟩,
    ⟨(some 26), .call 25 [(.t 25), (.k (.c (.d (.int .i64 1000001))))] none, none⟩,
    ⟨(some 0), .mv (.t 24), none⟩,
    ⟨(some 1), .mv (.t 26), none⟩])
  (.seq (.reg [⟨(some 27), .mv (.t 0), none⟩,
    ⟨(some 28), .mv (.t 1), none⟩,
    ⟨(some 29), .mv (.t 2), none⟩,
    ⟨(some 30), .call 26 [(.t 27), (.t 28), (.t 29)] none, none⟩,
    ⟨(some 13), .mv (.t 30), none⟩])
  (.seq (.reg [⟨(some 31), .mv (.t 3), none⟩,
    ⟨(some 32), .mv (.t 4), none⟩,
    ⟨(some 33), .call 27 [(.t 31), (.t 32)] none, none⟩,
    ⟨(some 14), .alloc [(.d (.int .i64 0)), (.d (.int .i64 0))], none⟩,
    ⟨none, .store (.ag 2) (.t 14) (.t 33), none⟩])
  (.seq (.reg [⟨(some 34), .fieldAddr 0 (.t 14), none⟩,
    ⟨(some 35), .load .sc (.t 34), none⟩,
    ⟨(some 36), .mv (.t 5), none⟩,
    ⟨(some 37), .fieldAddr 1 (.t 14), none⟩,
    ⟨(some 38), .load .sc (.t 37), none⟩,
    ⟨(some 39), .fieldAddr 0 (.t 14), none⟩,
    ⟨(some 40), .load .sc (.t 39), none⟩,
    ⟨(some 41), .bin .sub (.t 38) (.t 40), none⟩,
    ⟨(some 42), .bin .add (.t 41) (.k (.c (.d (.int .i64 1)))), none⟩,
    ⟨(some 43), .call 25 [(.t 36), (.t 42)] none, none⟩,
    ⟨(some 44), .bin .add (.t 35) (.t 43), none⟩,
    ⟨(some 5), .mv (.t 44), none⟩])
  (.seq (.reg [⟨(some 46), .mv (.t 13), none⟩,
    ⟨(some 47), .mv (.t 1), none⟩,
    ⟨(some 48), .call 12 [(.t 46), (.t 47)] none, none⟩,
    ⟨(some 45), .mv (.t 48), none⟩,
    ⟨(some 49), .extract (.t 45) 0, none⟩,
    ⟨(some 50), .extract (.t 45) 1, none⟩,
    ⟨(some 15), .alloc [(.d (.int .i64 0)), (.d (.int .i64 0))], none⟩,
    ⟨none, .store (.ag 2) (.t 15) (.t 49), none⟩,
    ⟨(some 16), .mv (.t 50), none⟩])
  (.seq (.reg [⟨(some 52), .mv (.t 0), none⟩,
    ⟨(some 53), .mv (.t 1), none⟩,
    ⟨(some 54), .call 14 [(.t 52), (.t 53)] none, none⟩,
    ⟨(some 51), .mv (.t 54), none⟩,
    ⟨(some 55), .extract (.t 51) 0, none⟩,
    ⟨(some 56), .extract (.t 51) 1, none⟩,
    ⟨(some 17), .alloc [(.d (.int .i64 0)), (.d (.int .i64 0))], none⟩,
    ⟨none, .store (.ag 2) (.t 17) (.t 55), none⟩,
    ⟨(some 18), .mv (.t 56), none⟩])
  (.seq (.reg [⟨(some 58), .load (.ag 2) (.t 14), none⟩,
    ⟨(some 59), .mv (.t 13), none⟩,
    ⟨(some 60), .mv (.t 1), none⟩,
    ⟨(some 61), .call 16 [(.t 58), (.t 59), (.t 60)] none, none⟩,
    ⟨(some 57), .mv (.t 61), none⟩,
    ⟨(some 62), .extract (.t 57) 0, none⟩,
    ⟨(some 63), .extract (.t 57) 1, none⟩,
    ⟨(some 19), .alloc [(.d (.int .i64 0)), (.d (.int .i64 0))], none⟩,
    ⟨none, .store (.ag 2) (.t 19) (.t 62), none⟩,
    ⟨(some 20), .mv (.t 63), none⟩])
  (.seq (.reg [⟨(some 65), .load (.ag 2) (.t 19), none⟩,
    ⟨(some 66), .mv (.t 13), none⟩,
    ⟨(some 67), .mv (.t 1), none⟩,
    ⟨(some 68), .call 18 [(.t 65), (.t 66), (.t 67)] none, none⟩,
    ⟨(some 64), .mv (.t 68), none⟩,
    ⟨(some 69), .extract (.t 64) 0, none⟩,
    ⟨(some 70), .extract (.t 64) 1, none⟩,
    ⟨(some 21), .alloc [(.d (.int .i64 0)), (.d (.int .i64 0))], none⟩,
    ⟨none, .store (.ag 2) (.t 21) (.t 69), none⟩,
    ⟨(some 22), .mv (.t 70), none⟩])
  (.seq (.reg [⟨(some 71), .call 22 [] none, none⟩,
    ⟨(some 72), .mv (.t 71), none⟩,
    ⟨(some 73), .mv (.t 16), (some (72, true))⟩,
    ⟨(some 74), .bin .eql (.t 73) (.k (.c (.d (.int .i64 0)))), (some (72, true))⟩,
    ⟨(some 75), .pick (.t 72) (.t 74) (.k (.c (.d (.bool false)))), none⟩,
    ⟨(some 76), .mv (.t 75), none⟩,
    ⟨(some 77), .mv (.t 18), (some (76, true))⟩,
    ⟨(some 78), .bin .eql (.t 77) (.k (.c (.d (.int .i64 0)))), (some (76, true))⟩,
    ⟨(some 79), .pick (.t 76) (.t 78) (.k (.c (.d (.bool false)))), none⟩,
    ⟨(some 80), .mv (.t 79), none⟩,
    ⟨(some 81), .mv (.t 20), (some (80, true))⟩,
    ⟨(some 82), .bin .eql (.t 81) (.k (.c (.d (.int .i64 0)))), (some (80, true))⟩,
    ⟨(some 83), .pick (.t 80) (.t 82) (.k (.c (.d (.bool false)))), none⟩,
    ⟨(some 84), .mv (.t 83), none⟩,
    ⟨(some 85), .mv (.t 22), (some (84, true))⟩,
    ⟨(some 86), .bin .eql (.t 85) (.k (.c (.d (.int .i64 0)))), (some (84, true))⟩,
    ⟨(some 87), .pick (.t 84) (.t 86) (.k (.c (.d (.bool false)))), none⟩,
    ⟨(some 88), .mv (.t 87), none⟩,
    ⟨(some 89), .mv (.t 0), (some (88, true))⟩,
    ⟨(some 90), .mv (.t 13), (some (88, true))⟩,
    ⟨(some 91), .mv (.t 1), (some (88, true))⟩,
    ⟨(some 92), .call 23 [(.t 89), (.t 90), (.t 91)] none, (some (88, true))⟩,
    ⟨(some 93), .pick (.t 88) (.t 92) (.k (.c (.d (.bool false)))), none⟩,
    ⟨(some 94), .mv (.t 93), none⟩,
    ⟨(some 95), .load (.ag 2) (.t 15), (some (94, true))⟩,
    ⟨(some 96), .mv (.t 0), (some (94, true))⟩,
    ⟨(some 97), .call 28 [(.t 95), (.t 96)] none, (some (94, true))⟩,
    ⟨(some 98), .pick (.t 94) (.t 97) (.k (.c (.d (.bool false)))), none⟩,
    ⟨(some 99), .mv (.t 98), none⟩,
    ⟨(some 100), .load (.ag 2) (.t 17), (some (99, true))⟩,
    ⟨(some 101), .mv (.t 13), (some (99, true))⟩,
    ⟨(some 102), .call 28 [(.t 100), (.t 101)] none, (some (99, true))⟩,
    ⟨(some 103), .pick (.t 99) (.t 102) (.k (.c (.d (.bool false)))), none⟩,
    ⟨(some 104), .mv (.t 103), none⟩,
    ⟨(some 105), .load (.ag 2) (.t 19), (some (104, true))⟩,
    ⟨(some 106), .mv (.t 5), (some (104, true))⟩,
    ⟨(some 107), .mv (.t 0), (some (104, true))⟩,
    ⟨(some 108), .bin .add (.t 106) (.t 107), (some (104, true))⟩,
    ⟨(some 109), .call 28 [(.t 105), (.t 108)] none, (some (104, true))⟩,
    ⟨(some 110), .pick (.t 104) (.t 109) (.k (.c (.d (.bool false)))), none⟩,
    ⟨(some 111), .mv (.t 110), none⟩,
    ⟨(some 112), .load (.ag 2) (.t 21), (some (111, true))⟩,
    ⟨(some 113), .mv (.t 5), (some (111, true))⟩,
    ⟨(some 114), .call 28 [(.t 112), (.t 113)] none, (some (111, true))⟩,
    ⟨(some 115), .pick (.t 111) (.t 114) (.k (.c (.d (.bool false)))), none⟩,
    ⟨(some 12), .mv (.t 115), none⟩])
  (.ret)))))))))),
  [(12, none)]⟩
theorem cf_kcon15 : compFn Try.prog { own := [], comp := [], frz := [], nils := [] } Try.f4 = some sf_kcon15 := by kernel_rfl
set_option maxHeartbeats 1600000 in
theorem kcon15_c (G : Glob) (e : Int) (he1 : -9223372036854775808 ≤ e) (he2 : e ≤ 9223372036854775807) (ppb : Int) (hppb1 : -9223372036854775808 ≤ ppb) (hppb2 : ppb ≤ 9223372036854775807) (choice : Int) (hchoice1 : -9223372036854775808 ≤ choice) (hchoice2 : choice ≤ 9223372036854775807) (a : Int) (ha1 : -9223372036854775808 ≤ a) (ha2 : a ≤ 9223372036854775807) (b : Int) (hb1 : -9223372036854775808 ≤ b) (hb2 : b ≤ 9223372036854775807) (t : Int) (ht1 : -9223372036854775808 ≤ t) (ht2 : t ≤ 9223372036854775807)  : Den Try.prog G 4 [.int .i64 e, .int .i64 ppb, .int .i64 choice, .int .i64 a, .int .i64 b, .int .i64 t] (.w (.c (.d (.bool true)))) := by
  refine den_walk Try.func4 cf_kcon15 rfl rfl ?_
  have r1 := withinN_range e 36028797018963968 (by decide)
  have r2 := withinN_range ppb 1000001 (by decide)
  have r3 := withinN_range a 2000 (by decide)
  have r4 := withinN_range b 500 (by decide)
  have k1 := within_c G e 36028797018963968 (by decide)
  have k2 := within_c G ppb 1000001 (by decide)
  have k3 := wspan_c G a b
  obtain ⟨S, hS⟩ : ∃ S, withinN a 2000 - 1000 = S := ⟨_, rfl⟩
  rw [hS] at k3
  obtain ⟨T, hT⟩ : ∃ T, S + withinN b 500 = T := ⟨_, rfl⟩
  rw [hT] at k3
  have r5 := withinN_range t (T - S + 1) (by omega)
  have k5 := within_c G t (T - S + 1) (by omega)
  generalize withinN e 36028797018963968 = E at *
  generalize withinN ppb 1000001 = p at *
  generalize withinN t (T - S + 1) = U at *
  have hE : inD E p = true := inD_d ⟨by omega, by omega, by omega, by omega⟩
  obtain ⟨f1, f2, f3, f4⟩ := adv_ok hE choice
  have k6 := adv15_c G E p choice hE
  have bl := adB_le E p (by omega) (by omega) (by omega)
  generalize advV E p choice = d at *
  have hi : inD d p = true := inD_d ⟨by omega, by omega, by omega, by omega⟩
  have g1 := el_fit (p := p) (by omega) (by omega) f2
  have g2 := ad_fit f2
  have g3 := el_order d p (by omega) (by omega) (by omega)
  have g4 := elB_le d p (by omega) (by omega) (by omega)
  have g5 := ad_order E p (by omega) (by omega) (by omega)
  have c1 := dela_c G d p
  rw [hi, ela_0 hi, spA_t] at c1
  have c2 := dadv_c G E p
  rw [hE, ela_0 hE, spA_t] at c2
  have c3 := dprj_c G S T d p
  obtain ⟨e1, e2⟩ := car_at (a := S) (b := T) (x := S + elA d p) (y := T + elB d p) (okP_d ⟨by omega, by omega, by omega⟩) hi (okP_d ⟨by omega, by omega, by omega⟩)
  rw [e1, e2, spA_t] at c3
  have c4 := dbck_c G (S + elA d p) (T + elB d p) d p
  obtain ⟨e3, e4⟩ := car_at (a := S + elA d p) (b := T + elB d p) (x := S + elA d p - elB d p) (y := T + elB d p - elA d p) (okP_d ⟨by omega, by omega, by omega⟩) hi (okP_d ⟨by omega, by omega, by omega⟩)
  rw [e3, e4, spA_t] at c4
  have c5 := dfit_c G E d p
  rw [f1] at c5
  have c6 := rhld_c G (elA d p) (elB d p) E
  rw [hld_t (okP_d ⟨by omega, by omega, by omega⟩) g1.1 g1.2] at c6
  have c7 := rhld_c G (adA E p) (adB E p) d
  rw [hld_t (okP_d ⟨by omega, by omega, by omega⟩) g2.1 g2.2] at c7
  have c8 := rhld_c G (S + elA d p) (T + elB d p) (S + U + E)
  rw [hld_t (okP_d ⟨by omega, by omega, by omega⟩) (by omega) (by omega)] at c8
  have c9 := rhld_c G (S + elA d p - elB d p) (T + elB d p - elA d p) (S + U)
  rw [hld_t (okP_d ⟨by omega, by omega, by omega⟩) (by omega) (by omega)] at c9
  clear e1 e2 e3 e4 f2
  generalize hx1 : S + elA d p - elB d p = x1 at *
  generalize hx2 : T + elB d p - elA d p = x2 at *
  generalize hx3 : S + elA d p = x3 at *
  generalize hx4 : T + elB d p = x4 at *
  generalize elA d p = A at *
  generalize elB d p = B at *
  generalize adA E p = A' at *
  generalize adB E p = B' at *
  simp only [sf_kcon15, putAll, wx, wy, wz, stV, seval, IntWalk.iteOmega, IntWalk.toNatUp, reduceCtorEq]
  refine st_call (k1) rfl (.inl rfl) ?_
  simp only [wx, wy, wz, stV, seval, IntWalk.iteOmega, IntWalk.toNatUp, reduceCtorEq]
  refine st_call (k2) rfl (.inl rfl) ?_
  simp only [wx, wy, wz, stV, seval, IntWalk.iteOmega, IntWalk.toNatUp, reduceCtorEq]
  refine st_call (k6) rfl (.inl rfl) ?_
  simp only [wx, wy, wz, stV, seval, IntWalk.iteOmega, IntWalk.toNatUp, reduceCtorEq]
  refine st_call (k3) rfl (.inl rfl) ?_
  simp only [wx, wy, wz, stV, seval, IntWalk.iteOmega, IntWalk.toNatUp, reduceCtorEq]
  refine st_call (k5) rfl (.inl rfl) ?_
  simp only [wx, wy, wz, stV, seval, IntWalk.iteOmega, IntWalk.toNatUp, reduceCtorEq]
  refine st_call (c1) rfl (.inl rfl) ?_
  simp only [wx, wy, wz, stV, seval, IntWalk.iteOmega, IntWalk.toNatUp, reduceCtorEq]
  refine st_call (c2) rfl (.inl rfl) ?_
  simp only [wx, wy, wz, stV, seval, IntWalk.iteOmega, IntWalk.toNatUp, reduceCtorEq]
  refine st_call (c3) rfl (.inl rfl) ?_
  simp only [wx, wy, wz, stV, seval, IntWalk.iteOmega, IntWalk.toNatUp, reduceCtorEq]
  refine st_call (c4) rfl (.inl rfl) ?_
  simp only [wx, wy, wz, stV, seval, IntWalk.iteOmega, IntWalk.toNatUp, reduceCtorEq]
  refine st_call (known15_c G) rfl (.inl rfl) ?_
  simp only [wx, wy, wz, stV, seval, IntWalk.iteOmega, IntWalk.toNatUp, reduceCtorEq]
  refine st_call (c5) rfl (.inl rfl) ?_
  simp only [wx, wy, wz, stV, seval, IntWalk.iteOmega, IntWalk.toNatUp, reduceCtorEq]
  refine st_call (c6) rfl (.inl rfl) ?_
  simp only [wx, wy, wz, stV, seval, IntWalk.iteOmega, IntWalk.toNatUp, reduceCtorEq]
  refine st_call (c7) rfl (.inl rfl) ?_
  simp only [wx, wy, wz, stV, seval, IntWalk.iteOmega, IntWalk.toNatUp, reduceCtorEq]
  refine st_call (c8) rfl (.inl rfl) ?_
  simp only [wx, wy, wz, stV, seval, IntWalk.iteOmega, IntWalk.toNatUp, reduceCtorEq]
  refine st_call (c9) rfl (.inl rfl) ?_
  simp only [wx, wy, wz, stV, seval, IntWalk.iteOmega, IntWalk.toNatUp, reduceCtorEq]
  exact ret_d1 (by simp only [wx, wy, wz, stV, seval, IntWalk.iteOmega, IntWalk.toNatUp, reduceCtorEq])
end Go.Proofs.Ytjebhdadegfbdaa
