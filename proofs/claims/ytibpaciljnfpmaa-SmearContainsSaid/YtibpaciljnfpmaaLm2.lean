/- The laws of layer 13: Clear contains; a smeared clock never falls. Own work. -/
import Derived.Test.YtibpaciljnfpmaaAlV
import Derived.Test.YtibpaciljnfpmaaLm0
set_option linter.unusedVariables false
set_option linter.unusedSimpArgs false
namespace Go.Proofs.Ytibpaciljnfpmaa
open Go.RowKit

def sf_kcon13 : SFn := ⟨2, 129,
  .seq (.reg [⟨(some 4), .mv (.k (.c (.d (.bool false)))), none⟩])
  (.seq (.reg [⟨(some 19), .mv (.t 0), none⟩,
    ⟨(some 20), .call 17 [(.t 19)] none, none⟩,
    ⟨(some 5), .alloc [(.d (.int .i64 0)), .nil], none⟩,
    ⟨none, .store (.ag 2) (.t 5) (.t 20), none⟩])
  (.seq (.reg [⟨(some 21), .load (.ag 2) (.t 5), none⟩,
    ⟨(some 22), .mv (.t 1), none⟩,
    ⟨(some 23), .call 18 [(.t 21), (.t 22)] none, none⟩,
    ⟨(some 6), .mv (.t 23), none⟩])
  (.seq (.reg [⟨(some 25), .load (.ag 2) (.t 5), none⟩,
    ⟨(some 26), .mv (.t 6), none⟩,
    ⟨(some 27), .call 11 [(.t 25), (.t 26)] none, none⟩,
    ⟨(some 24), .mv (.t 27), none⟩,
    ⟨(some 28), .extract (.t 24) 0, none⟩,
    ⟨(some 29), .extract (.t 24) 1, none⟩,
    ⟨(some 7), .mv (.t 28), none⟩,
    ⟨(some 8), .mv (.t 29), none⟩])
  (.seq (.reg [⟨(some 31), .load (.ag 2) (.t 5), none⟩,
    ⟨(some 32), .mv (.t 7), none⟩,
    ⟨(some 33), .call 13 [(.t 31), (.t 32)] none, none⟩,
    ⟨(some 30), .mv (.t 33), none⟩,
    ⟨(some 34), .extract (.t 30) 0, none⟩,
    ⟨(some 35), .extract (.t 30) 1, none⟩,
    ⟨(some 9), .alloc [(.d (.int .i64 0)), (.d (.int .i64 0))], none⟩,
    ⟨none, .store (.ag 2) (.t 9) (.t 34), none⟩,
    ⟨(some 10), .mv (.t 35), none⟩])
  (.seq (.seq (.reg [⟨(some 36), .mv (.t 8), none⟩,
    ⟨(some 37), .bin .neq (.t 36) (.k (.c (.d (.int .i64 0)))), none⟩,
    ⟨(some 38), .mv (.t 37), none⟩,
    ⟨(some 39), .mv (.t 10), (some (38, false))⟩,
    ⟨(some 40), .bin .neq (.t 39) (.k (.c (.d (.int .i64 0)))), (some (38, false))⟩,
    ⟨(some 41), .pick (.t 38) (.k (.c (.d (.bool true)))) (.t 40), none⟩,
    ⟨(some 42), .mv (.t 41), none⟩,
    ⟨(some 43), .fieldAddr 0 (.t 9), (some (42, false))⟩,
    ⟨(some 44), .load .sc (.t 43), (some (42, false))⟩,
    ⟨(some 45), .mv (.t 6), (some (42, false))⟩,
    ⟨(some 46), .bin .gtr (.t 44) (.t 45), (some (42, false))⟩,
    ⟨(some 47), .pick (.t 42) (.k (.c (.d (.bool true)))) (.t 46), none⟩,
    ⟨(some 48), .mv (.t 47), none⟩,
    ⟨(some 49), .mv (.t 6), (some (48, false))⟩,
    ⟨(some 50), .fieldAddr 1 (.t 9), (some (48, false))⟩,
    ⟨(some 51), .load .sc (.t 50), (some (48, false))⟩,
    ⟨(some 52), .bin .gtr (.t 49) (.t 51), (some (48, false))⟩,
    ⟨(some 53), .pick (.t 48) (.k (.c (.d (.bool true)))) (.t 52), none⟩,
    ⟨(some 54), .mv (.t 53), none⟩,
    ⟨(some 55), .fieldAddr 1 (.t 9), (some (54, false))⟩,
    ⟨(some 56), .load .sc (.t 55), (some (54, false))⟩,
    ⟨(some 57), .fieldAddr 0 (.t 9), (some (54, false))⟩,
    ⟨(some 58), .load .sc (.t 57), (some (54, false))⟩,
    ⟨(some 59), .bin .sub (.t 56) (.t 58), (some (54, false))⟩,
    ⟨(some 60), .bin .gtr (.t 59) (.k (.c (.d (.int .i64 1)))), (some (54, false))⟩,
    ⟨(some 61), .pick (.t 54) (.k (.c (.d (.bool true)))) (.t 60), none⟩])
  (.cond (.t 61) (.seq (.reg [⟨(some 4), .mv (.k (.c (.d (.bool false)))), none⟩])
   (.ret))
   (.skip)))
  (.seq (.reg [⟨(some 63), .load (.ag 2) (.t 5), none⟩,
    ⟨(some 64), .fieldAddr 0 (.t 9), none⟩,
    ⟨(some 65), .load .sc (.t 64), none⟩,
    ⟨(some 66), .call 11 [(.t 63), (.t 65)] none, none⟩,
    ⟨(some 62), .mv (.t 66), none⟩,
    ⟨(some 67), .extract (.t 62) 0, none⟩,
    ⟨(some 68), .extract (.t 62) 1, none⟩,
    ⟨(some 11), .mv (.t 67), none⟩,
    ⟨(some 12), .mv (.t 68), none⟩])
  (.seq (.reg [⟨(some 70), .load (.ag 2) (.t 5), none⟩,
    ⟨(some 71), .fieldAddr 1 (.t 9), none⟩,
    ⟨(some 72), .load .sc (.t 71), none⟩,
    ⟨(some 73), .call 11 [(.t 70), (.t 72)] none, none⟩,
    ⟨(some 69), .mv (.t 73), none⟩,
    ⟨(some 74), .extract (.t 69) 0, none⟩,
    ⟨(some 75), .extract (.t 69) 1, none⟩,
    ⟨(some 13), .mv (.t 74), none⟩,
    ⟨(some 14), .mv (.t 75), none⟩])
  (.seq (.reg [⟨(some 77), .load (.ag 2) (.t 5), none⟩,
    ⟨(some 78), .fieldAddr 0 (.t 9), none⟩,
    ⟨(some 79), .load .sc (.t 78), none⟩,
    ⟨(some 80), .bin .sub (.t 79) (.k (.c (.d (.int .i64 1)))), none⟩,
    ⟨(some 81), .call 11 [(.t 77), (.t 80)] none, none⟩,
    ⟨(some 76), .mv (.t 81), none⟩,
    ⟨(some 82), .extract (.t 76) 0, none⟩,
    ⟨(some 83), .extract (.t 76) 1, none⟩,
    ⟨(some 15), .mv (.t 82), none⟩,
    ⟨(some 16), .mv (.t 83), none⟩])
  (.seq (.reg [⟨(some 85), .load (.ag 2) (.t 5), none⟩,
    ⟨(some 86), .fieldAddr 1 (.t 9), none⟩,
    ⟨(some 87), .load .sc (.t 86), none⟩,
    ⟨(some 88), .bin .add (.t 87) (.k (.c (.d (.int .i64 1)))), none⟩,
    ⟨(some 89), .call 11 [(.t 85), (.t 88)] none, none⟩,
    ⟨(some 84), .mv (.t 89), none⟩,
    ⟨(some 90), .extract (.t 84) 0, none⟩,
    ⟨(some 91), .extract (.t 84) 1, none⟩,
    ⟨(some 17), .mv (.t 90), none⟩,
    ⟨(some 18), .mv (.t 91), none⟩])
  (.seq (.reg [⟨(some 92), .call 8 [] none, none⟩,
    ⟨(some 93), .mv (.t 92), none⟩,
    ⟨(some 94), .mv (.t 12), (some (93, true))⟩,
    ⟨(some 95), .bin .eql (.t 94) (.k (.c (.d (.int .i64 0)))), (some (93, true))⟩,
    ⟨(some 96), .pick (.t 93) (.t 95) (.k (.c (.d (.bool false)))), none⟩,
    ⟨(some 97), .mv (.t 96), none⟩,
    ⟨(some 98), .mv (.t 14), (some (97, true))⟩,
    ⟨(some 99), .bin .eql (.t 98) (.k (.c (.d (.int .i64 0)))), (some (97, true))⟩,
    ⟨(some 100), .pick (.t 97) (.t 99) (.k (.c (.d (.bool false)))), none⟩,
    ⟨(some 101), .mv (.t 100), none⟩,
    ⟨(some 102), .mv (.t 16), (some (101, true))⟩,
    ⟨(some 103), .bin .eql (.t 102) (.k (.c (.d (.int .i64 0)))), (some (101, true))⟩,
    ⟨(some 104), .pick (.t 101) (.t 103) (.k (.c (.d (.bool false)))), none⟩,
    ⟨(some 105), .mv (.t 104), none⟩,
    ⟨(some 106), .mv (.t 18), (some (105, true))⟩,
    ⟨(some 107), .bin .eql (.t 106) (.k (.c (.d (.int .i64 0)))), (some (105, true))⟩,
    ⟨(some 108), .pick (.t 105) (.t 107) (.k (.c (.d (.bool false)))), none⟩,
    ⟨(some 109), .mv (.t 108), none⟩,
    ⟨(some 110), .mv (.t 11), (some (109, true))⟩,
    ⟨(some 111), .mv (.t 7), (some (109, true))⟩,
    ⟨(some 112), .bin .eql (.t 110) (.t 111), (some (109, true))⟩,
    ⟨(some 113), .pick (.t 109) (.t 112) (.k (.c (.d (.bool false)))), none⟩,
    ⟨(some 114), .mv (.t 113), none⟩,
    ⟨(some 115), .mv (.t 13), (some (114, true))⟩,
    ⟨(some 116), .mv (.t 7), (some (114, true))⟩,
    ⟨(some 117), .bin .eql (.t 115) (.t 116), (some (114, true))⟩,
    ⟨(some 118), .pick (.t 114) (.t 117) (.k (.c (.d (.bool false)))), none⟩,
    ⟨(some 119), .mv (.t 118), none⟩,
    ⟨(some 120), .mv (.t 15), (some (119, true))⟩,
    ⟨(some 121), .mv (.t 7), (some (119, true))⟩,
    ⟨(some 122), .bin .lss (.t 120) (.t 121), (some (119, true))⟩,
    ⟨(some 123), .pick (.t 119) (.t 122) (.k (.c (.d (.bool false)))), none⟩,
    ⟨(some 124), .mv (.t 123), none⟩,
    ⟨(some 125), .mv (.t 17), (some (124, true))⟩,
    ⟨(some 126), .mv (.t 7), (some (124, true))⟩,
    ⟨(some 127), .bin .gtr (.t 125) (.t 126), (some (124, true))⟩,
    ⟨(some 128), .pick (.t 124) (.t 127) (.k (.c (.d (.bool false)))), none⟩,
    ⟨(some 4), .mv (.t 128), none⟩])
  (.ret))))))))))),
  [(4, none)]⟩
theorem cf_kcon13 : compFn Try.prog { own := [], comp := [], frz := [], nils := [] } Try.f5 = some sf_kcon13 := by kernel_rfl
set_option maxHeartbeats 1600000 in
theorem kcon13_c (G : Glob) (table : List Int) (htable1 : table.length ≤ maxLen) (htable2 : ∀ n ∈ table, fitI n) (v : Int) (hv1 : -9223372036854775808 ≤ v) (hv2 : v ≤ 9223372036854775807)  : Den Try.prog G 5 [.sl (table.map zD), .int .i64 v] (.w (.c (.d (.bool true)))) := by
  refine den_walk Try.func5 cf_kcon13 rfl rfl ?_
  have hm : maxLen ≤ 9223372036854775807 := by decide
  have len := wl_len table
  have ok := wlT_ok table
  have eb := wl_el table
  have cw := wleap_c G table (by omega)
  have cn := wnear_c G 10 (wlT table) v (by omega) eb hv1 hv2
  have nb := nlN_in eb v
  generalize nlN (wlT table) v = t at *
  generalize wlT table = L at *
  have hL : L.length ≤ 9223372036854775807 := by omega
  have lk := okB_leap ok
  have c1 := esme_c G 10 L t hL
  obtain ⟨v1, v2⟩ := smv_at ok (t := t) (by omega) (by omega)
  obtain ⟨k1, k2, k3, k4, k5, k6, k7, k8⟩ := clr_at ok (t := t) (by omega) (by omega)
  rw [v1, v2] at c1
  have c2 := eclr_c G 10 L (smN 10 L t) hL
  rw [k1, k2, k3] at c2
  have ga := (ls_gal lk (smN 10 L t) (lsN 10 L (smN 10 L t))).2 (Int.le_refl _)
  have ga2 := sm_mono lk k4
  have gb : smN 10 L (lsN 10 L (smN 10 L t + 1) - 1) < smN 10 L t + 1 := by
    rcases Int.lt_or_le (smN 10 L (lsN 10 L (smN 10 L t + 1) - 1)) (smN 10 L t + 1) with k | k
    · exact k
    · have := (ls_gal lk _ _).1 k; omega
  have gb2 := sm_mono lk k5
  have gx : smN 10 L (lsN 10 L (smN 10 L t) - 1) < smN 10 L t := by
    rcases Int.lt_or_le (smN 10 L (lsN 10 L (smN 10 L t) - 1)) (smN 10 L t) with k | k
    · exact k
    · have := (ls_gal lk _ _).1 k; omega
  have gy := (ls_gal lk (smN 10 L t + 1) (lsN 10 L (smN 10 L t + 1) - 1 + 1)).2 (by omega)
  have r := sm_range ok t
  have ra := ls_range ok (smN 10 L t)
  have rb := ls_range ok (smN 10 L t + 1)
  have ca := esme_c G 10 L (lsN 10 L (smN 10 L t)) hL
  have cb := esme_c G 10 L (lsN 10 L (smN 10 L t + 1) - 1) hL
  have cx := esme_c G 10 L (lsN 10 L (smN 10 L t) - 1) hL
  have cy := esme_c G 10 L (lsN 10 L (smN 10 L t + 1) - 1 + 1) hL
  obtain ⟨a1, a2⟩ := smv_at ok (t := lsN 10 L (smN 10 L t)) (by omega) (by omega)
  obtain ⟨b1, b2⟩ := smv_at ok (t := lsN 10 L (smN 10 L t + 1) - 1) (by omega) (by omega)
  obtain ⟨x1, x2⟩ := smv_at ok (t := lsN 10 L (smN 10 L t) - 1) (by omega) (by omega)
  obtain ⟨y1, y2⟩ := smv_at ok (t := lsN 10 L (smN 10 L t + 1) - 1 + 1) (by omega) (by omega)
  rw [a1, a2, show smN 10 L (lsN 10 L (smN 10 L t)) = smN 10 L t by omega] at ca
  rw [b1, b2, show smN 10 L (lsN 10 L (smN 10 L t + 1) - 1) = smN 10 L t by omega] at cb
  rw [x1, x2] at cx
  rw [y1, y2] at cy
  unfold lpD at cw cn c1 c2 ca cb cx cy
  unfold spV at c2
  clear v1 v2 k1 k2 k3 a1 a2 b1 b2 x1 x2 y1 y2 ga ga2 gb gb2
  generalize smN 10 L (lsN 10 L (smN 10 L t) - 1) = x at *
  generalize smN 10 L (lsN 10 L (smN 10 L t + 1) - 1 + 1) = y at *
  generalize lsN 10 L (smN 10 L t) = a at *
  generalize lsN 10 L (smN 10 L t + 1) - 1 = b at *
  generalize smN 10 L t = s at *
  have g1 : (a > t) = False := eq_false (by omega)
  have g2 : (t > b) = False := eq_false (by omega)
  have g3 : (b - a > 1) = False := eq_false (by omega)
  have g4 : (y > s) = True := eq_true (by omega)
  simp only [sf_kcon13, putAll, wx, wy, wz, stV, seval, IntWalk.iteOmega, IntWalk.toNatUp, reduceCtorEq]
  refine st_call (cw) rfl (.inl rfl) ?_
  simp only [wx, wy, wz, stV, seval, IntWalk.iteOmega, IntWalk.toNatUp, reduceCtorEq]
  refine st_call (cn) rfl (.inl rfl) ?_
  simp only [wx, wy, wz, stV, seval, IntWalk.iteOmega, IntWalk.toNatUp, reduceCtorEq]
  refine st_call (c1) rfl (.inl rfl) ?_
  simp only [wx, wy, wz, stV, seval, IntWalk.iteOmega, IntWalk.toNatUp, reduceCtorEq]
  refine st_call (c2) rfl (.inl rfl) ?_
  simp only [g1, g2, g3, wx, wy, wz, stV, seval, IntWalk.iteOmega, IntWalk.toNatUp, reduceCtorEq]
  refine st_call (ca) rfl (.inl rfl) ?_
  simp only [wx, wy, wz, stV, seval, IntWalk.iteOmega, IntWalk.toNatUp, reduceCtorEq]
  refine st_call (cb) rfl (.inl rfl) ?_
  simp only [wx, wy, wz, stV, seval, IntWalk.iteOmega, IntWalk.toNatUp, reduceCtorEq]
  refine st_call (cx) rfl (.inl rfl) ?_
  simp only [wx, wy, wz, stV, seval, IntWalk.iteOmega, IntWalk.toNatUp, reduceCtorEq]
  refine st_call (cy) rfl (.inl rfl) ?_
  simp only [wx, wy, wz, stV, seval, IntWalk.iteOmega, IntWalk.toNatUp, reduceCtorEq]
  refine st_call (known13_c G) rfl (.inl rfl) ?_
  simp only [g4, wx, wy, wz, stV, seval, IntWalk.iteOmega, IntWalk.toNatUp, reduceCtorEq]
  exact ret_d1 (by simp only [wx, wy, wz, stV, seval, IntWalk.iteOmega, IntWalk.toNatUp, reduceCtorEq])
def sf_knev13 : SFn := ⟨3, 68,
  .seq (.reg [⟨(some 6), .mv (.k (.c (.d (.bool false)))), none⟩])
  (.seq (.reg [⟨(some 13), .mv (.t 0), none⟩,
    ⟨(some 14), .call 17 [(.t 13)] none, none⟩,
    ⟨(some 7), .alloc [(.d (.int .i64 0)), .nil], none⟩,
    ⟨none, .store (.ag 2) (.t 7) (.t 14), none⟩])
  (.seq (.reg [⟨(some 15), .load (.ag 2) (.t 7), none⟩,
    ⟨(some 16), .mv (.t 1), none⟩,
    ⟨(some 17), .call 18 [(.t 15), (.t 16)] none, none⟩,
    ⟨(some 8), .mv (.t 17), none⟩])
  (.seq (.reg [⟨(some 18), .mv (.t 2), none⟩,
    ⟨(some 19), .call 19 [(.t 18), (.k (.c (.d (.int .i64 209715200000))))] none, none⟩,
    ⟨(some 2), .mv (.t 19), none⟩])
  (.seq (.reg [⟨(some 21), .load (.ag 2) (.t 7), none⟩,
    ⟨(some 22), .mv (.t 8), none⟩,
    ⟨(some 23), .call 11 [(.t 21), (.t 22)] none, none⟩,
    ⟨(some 20), .mv (.t 23), none⟩,
    ⟨(some 24), .extract (.t 20) 0, none⟩,
    ⟨(some 25), .extract (.t 20) 1, none⟩,
    ⟨(some 9), .mv (.t 24), none⟩,
    ⟨(some 10), .mv (.t 25), none⟩])
  (.seq (.reg [⟨(some 27), .load (.ag 2) (.t 7), none⟩,
    ⟨(some 28), .mv (.t 8), none⟩,
    ⟨(some 29), .mv (.t 2), none⟩,
    ⟨(some 30), .bin .add (.t 28) (.t 29), none⟩,
    ⟨(some 31), .call 11 [(.t 27), (.t 30)] none, none⟩,
    ⟨(some 26), .mv (.t 31), none⟩,
    ⟨(some 32), .extract (.t 26) 0, none⟩,
    ⟨(some 33), .extract (.t 26) 1, none⟩,
    ⟨(some 11), .mv (.t 32), none⟩,
    ⟨(some 12), .mv (.t 33), none⟩])
  (.seq (.seq (.reg [⟨(some 34), .mv (.t 10), none⟩,
    ⟨(some 35), .bin .neq (.t 34) (.k (.c (.d (.int .i64 0)))), none⟩,
    ⟨(some 36), .mv (.t 35), none⟩,
    ⟨(some 37), .mv (.t 12), (some (36, false))⟩,
    ⟨(some 38), .bin .neq (.t 37) (.k (.c (.d (.int .i64 0)))), (some (36, false))⟩,
    ⟨(some 39), .pick (.t 36) (.k (.c (.d (.bool true)))) (.t 38), none⟩,
    ⟨(some 40), .mv (.t 39), none⟩,
    ⟨(some 41), .mv (.t 11), (some (40, false))⟩,
    ⟨(some 42), .mv (.t 9), (some (40, false))⟩,
    ⟨(some 43), .bin .lss (.t 41) (.t 42), (some (40, false))⟩,
    ⟨(some 44), .pick (.t 40) (.k (.c (.d (.bool true)))) (.t 43), none⟩])
  (.cond (.t 44) (.seq (.reg [⟨(some 6), .mv (.k (.c (.d (.bool false)))), none⟩])
   (.ret))
   (.skip)))
  (.seq (.reg [⟨(some 45), .call 8 [] none, none⟩,
    ⟨(some 46), .mv (.t 45), none⟩,
    ⟨(some 47), .mv (.t 11), (some (46, true))⟩,
    ⟨(some 48), .mv (.t 9), (some (46, true))⟩,
    ⟨(some 49), .bin .sub (.t 47) (.t 48), (some (46, true))⟩,
    ⟨(some 50), .mv (.t 2), (some (46, true))⟩,
    ⟨(some 51), .mv (.t 2), (some (46, true))⟩,
    ⟨(some 52), .bin .quo (.t 51) (.k (.c (.d (.int .i64 86399)))), (some (46, true))⟩,
    ⟨(some 53), .bin .sub (.t 50) (.t 52), (some (46, true))⟩,
    ⟨(some 54), .bin .sub (.t 53) (.k (.c (.d (.int .i64 2)))), (some (46, true))⟩,
    ⟨(some 55), .bin .geq (.t 49) (.t 54), (some (46, true))⟩,
    ⟨(some 56), .pick (.t 46) (.t 55) (.k (.c (.d (.bool false)))), none⟩,
    ⟨(some 57), .mv (.t 56), none⟩,
    ⟨(some 58), .mv (.t 11), (some (57, true))⟩,
    ⟨(some 59), .mv (.t 9), (some (57, true))⟩,
    ⟨(some 60), .bin .sub (.t 58) (.t 59), (some (57, true))⟩,
    ⟨(some 61), .mv (.t 2), (some (57, true))⟩,
    ⟨(some 62), .mv (.t 2), (some (57, true))⟩,
    ⟨(some 63), .bin .quo (.t 62) (.k (.c (.d (.int .i64 86399)))), (some (57, true))⟩,
    ⟨(some 64), .bin .add (.t 61) (.t 63), (some (57, true))⟩,
    ⟨(some 65), .bin .add (.t 64) (.k (.c (.d (.int .i64 2)))), (some (57, true))⟩,
    ⟨(some 66), .bin .leq (.t 60) (.t 65), (some (57, true))⟩,
    ⟨(some 67), .pick (.t 57) (.t 66) (.k (.c (.d (.bool false)))), none⟩,
    ⟨(some 6), .mv (.t 67), none⟩])
  (.ret)))))))),
  [(6, none)]⟩
theorem cf_knev13 : compFn Try.prog { own := [], comp := [], frz := [], nils := [] } Try.f6 = some sf_knev13 := by kernel_rfl
set_option maxHeartbeats 1600000 in
theorem knev13_c (G : Glob) (table : List Int) (htable1 : table.length ≤ maxLen) (htable2 : ∀ n ∈ table, fitI n) (v : Int) (hv1 : -9223372036854775808 ≤ v) (hv2 : v ≤ 9223372036854775807) (d : Int) (hd1 : -9223372036854775808 ≤ d) (hd2 : d ≤ 9223372036854775807)  : Den Try.prog G 6 [.sl (table.map zD), .int .i64 v, .int .i64 d] (.w (.c (.d (.bool true)))) := by
  refine den_walk Try.func6 cf_knev13 rfl rfl ?_
  have hm : maxLen ≤ 9223372036854775807 := by decide
  have len := wl_len table
  have ok := wlT_ok table
  have eb := wl_el table
  have cw := wleap_c G table (by omega)
  have cn := wnear_c G 10 (wlT table) v (by omega) eb hv1 hv2
  have nb := nlN_in eb v
  have cd := within_c G d 209715200000 (by decide)
  have wd := withinN_range d 209715200000 (by decide)
  generalize nlN (wlT table) v = t at *
  generalize wlT table = L at *
  generalize withinN d 209715200000 = D at *
  have hL : L.length ≤ 9223372036854775807 := by omega
  have lk := okB_leap ok
  have c1 := esme_c G 10 L t hL
  have c2 := esme_c G 10 L (t + D) hL
  obtain ⟨v1, v2⟩ := smv_at ok (t := t) (by omega) (by omega)
  obtain ⟨u1, u2⟩ := smv_at ok (t := t + D) (by omega) (by omega)
  rw [v1, v2] at c1
  rw [u1, u2] at c2
  have r1 := sm_range ok t
  have r2 := sm_range ok (t + D)
  have rt := sm_rate lk t D.toNat
  rw [Int.toNat_of_nonneg wd.1] at rt
  have mo := sm_mono lk (show t ≤ t + D by omega)
  have hq : D.tdiv 86399 = D / 86399 := Int.tdiv_eq_ediv_of_nonneg wd.1
  unfold lpD at cw cn c1 c2
  clear v1 v2 u1 u2
  generalize smN 10 L t = a at *
  generalize smN 10 L (t + D) = b at *
  have g1 : (b < a) = False := eq_false (by omega)
  have g2 : (b - a ≥ D - D / 86399 - 2) = True := eq_true (by omega)
  have g3 : (b - a ≤ D + D / 86399 + 2) = True := eq_true (by omega)
  simp only [sf_knev13, putAll, wx, wy, wz, stV, seval, IntWalk.iteOmega, IntWalk.toNatUp, reduceCtorEq]
  refine st_call (cw) rfl (.inl rfl) ?_
  simp only [wx, wy, wz, stV, seval, IntWalk.iteOmega, IntWalk.toNatUp, reduceCtorEq]
  refine st_call (cn) rfl (.inl rfl) ?_
  simp only [wx, wy, wz, stV, seval, IntWalk.iteOmega, IntWalk.toNatUp, reduceCtorEq]
  refine st_call (cd) rfl (.inl rfl) ?_
  simp only [wx, wy, wz, stV, seval, IntWalk.iteOmega, IntWalk.toNatUp, reduceCtorEq]
  refine st_call (c1) rfl (.inl rfl) ?_
  simp only [wx, wy, wz, stV, seval, IntWalk.iteOmega, IntWalk.toNatUp, reduceCtorEq]
  refine st_call (c2) rfl (.inl rfl) ?_
  simp only [g1, wx, wy, wz, stV, seval, IntWalk.iteOmega, IntWalk.toNatUp, reduceCtorEq]
  refine st_call (known13_c G) rfl (.inl rfl) ?_
  simp only [hq, g2, g3, wx, wy, wz, stV, seval, IntWalk.iteOmega, IntWalk.toNatUp, reduceCtorEq]
  exact ret_d1 (by simp only [wx, wy, wz, stV, seval, IntWalk.iteOmega, IntWalk.toNatUp, reduceCtorEq])
end Go.Proofs.Ytibpaciljnfpmaa
