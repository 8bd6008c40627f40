/- Texts of one's own, merged: from: The laws of layer 9. Own work. -/
import Derived.Test.YtjgkchmdhicmpaaDoorMi8
import Derived.Test.YtjgkchmdhicmpaaDoorMi11
set_option linter.unusedVariables false
set_option linter.unusedSimpArgs false
namespace Go.Proofs.YtjgkchmdhicmpaaDoor
open Go.RowKit

def sf_iacts : SFn := ⟨2, 92,
  .seq (.reg [⟨(some 2), .box .roBox (.t 0), none⟩,
    ⟨(some 4), .mv (.k (.c (.d (.bool false)))), none⟩])
  (.seq (.seq (.reg [⟨(some 15), .fieldAddr 0 (.t 2), none⟩,
    ⟨(some 16), .load .sc (.t 15), none⟩,
    ⟨(some 17), .len (.t 16), none⟩,
    ⟨(some 18), .bin .gtr (.t 17) (.k (.c (.d (.int .i64 60)))), none⟩,
    ⟨(some 19), .mv (.t 18), none⟩,
    ⟨(some 20), .mv (.t 1), (some (19, false))⟩,
    ⟨(some 21), .len (.t 20), (some (19, false))⟩,
    ⟨(some 22), .bin .gtr (.t 21) (.k (.c (.d (.int .i64 100)))), (some (19, false))⟩,
    ⟨(some 23), .pick (.t 19) (.k (.c (.d (.bool true)))) (.t 22), none⟩,
    ⟨(some 24), .mv (.t 23), none⟩,
    ⟨(some 25), .fieldAddr 1 (.t 2), (some (24, false))⟩,
    ⟨(some 26), .load .sc (.t 25), (some (24, false))⟩,
    ⟨(some 27), .bin .gtr (.t 26) (.k (.c (.d (.int .i64 1)))), (some (24, false))⟩,
    ⟨(some 28), .mv (.t 27), (some (24, false))⟩,
    ⟨(some 29), .fieldAddr 1 (.t 2), (some (28, true))⟩,
    ⟨(some 30), .load .sc (.t 29), (some (28, true))⟩,
    ⟨(some 31), .bin .leq (.t 30) (.k (.c (.d (.int .i64 6)))), (some (28, true))⟩,
    ⟨(some 32), .pick (.t 28) (.t 31) (.k (.c (.d (.bool false)))), (some (24, false))⟩,
    ⟨(some 33), .pick (.t 24) (.k (.c (.d (.bool true)))) (.t 32), none⟩])
  (.cond (.t 33) (.seq (.reg [⟨(some 34), .call 11 [] none, none⟩,
     ⟨(some 4), .mv (.t 34), none⟩])
   (.ret))
   (.skip)))
  (.seq (.reg [⟨(some 36), .load (.ag 3) (.t 2), none⟩,
    ⟨(some 37), .mv (.t 1), none⟩,
    ⟨(some 38), .call 12 [(.t 36), (.t 37)] none, none⟩,
    ⟨(some 35), .mv (.t 38), none⟩,
    ⟨(some 39), .extract (.t 35) 0, none⟩,
    ⟨(some 40), .extract (.t 35) 1, none⟩,
    ⟨(some 41), .extract (.t 35) 2, none⟩,
    ⟨(some 5), .alloc [.nil, (.d (.int .i64 0)), (.d (.int .i64 0))], none⟩,
    ⟨none, .store (.ag 3) (.t 5) (.t 39), none⟩,
    ⟨(some 6), .mv (.t 40), none⟩,
    ⟨(some 7), .mv (.t 41), none⟩])
  (.seq (.reg [⟨(some 43), .load (.ag 3) (.t 2), none⟩,
    ⟨(some 44), .mv (.t 1), none⟩,
    ⟨(some 45), .call 13 [(.t 43), (.t 44)] none, none⟩,
    ⟨(some 42), .mv (.t 45), none⟩,
    ⟨(some 46), .extract (.t 42) 0, none⟩,
    ⟨(some 47), .extract (.t 42) 1, none⟩,
    ⟨(some 48), .extract (.t 42) 2, none⟩,
    ⟨(some 8), .alloc [.nil, (.d (.int .i64 0)), (.d (.int .i64 0))], none⟩,
    ⟨none, .store (.ag 3) (.t 8) (.t 46), none⟩,
    ⟨(some 9), .mv (.t 47), none⟩,
    ⟨(some 10), .mv (.t 48), none⟩])
  (.seq (.reg [⟨(some 50), .load (.ag 3) (.t 2), none⟩,
    ⟨(some 51), .call 14 [(.t 50)] none, none⟩,
    ⟨(some 49), .mv (.t 51), none⟩,
    ⟨(some 52), .extract (.t 49) 0, none⟩,
    ⟨(some 53), .extract (.t 49) 1, none⟩,
    ⟨(some 11), .mv (.t 52), none⟩,
    ⟨(some 12), .mv (.t 53), none⟩])
  (.seq (.reg [⟨(some 55), .load (.ag 3) (.t 2), none⟩,
    ⟨(some 56), .call 15 [(.t 55)] none, none⟩,
    ⟨(some 54), .mv (.t 56), none⟩,
    ⟨(some 57), .extract (.t 54) 0, none⟩,
    ⟨(some 58), .extract (.t 54) 1, none⟩,
    ⟨(some 13), .mv (.t 57), none⟩,
    ⟨(some 14), .mv (.t 58), none⟩])
  (.seq (.reg [⟨(some 59), .call 11 [] none, none⟩,
    ⟨(some 60), .mv (.t 59), none⟩,
    ⟨(some 61), .load (.ag 3) (.t 2), (some (60, true))⟩,
    ⟨(some 62), .call 16 [(.t 61)] none, (some (60, true))⟩,
    ⟨(some 63), .load (.ag 3) (.t 2), (some (60, true))⟩,
    ⟨(some 64), .call 17 [(.t 63)] none, (some (60, true))⟩,
    ⟨(some 65), .eqB false (.t 62) (.t 64), (some (60, true))⟩,
    ⟨(some 66), .pick (.t 60) (.t 65) (.k (.c (.d (.bool false)))), none⟩,
    ⟨(some 67), .mv (.t 66), none⟩,
    ⟨(some 68), .mv (.t 7), (some (67, true))⟩,
    ⟨(some 69), .mv (.t 10), (some (67, true))⟩,
    ⟨(some 70), .bin .eql (.t 68) (.t 69), (some (67, true))⟩,
    ⟨(some 71), .pick (.t 67) (.t 70) (.k (.c (.d (.bool false)))), none⟩,
    ⟨(some 72), .mv (.t 71), none⟩,
    ⟨(some 73), .load (.ag 3) (.t 5), (some (72, true))⟩,
    ⟨(some 74), .load (.ag 3) (.t 8), (some (72, true))⟩,
    ⟨(some 75), .call 18 [(.t 73), (.t 74)] none, (some (72, true))⟩,
    ⟨(some 76), .pick (.t 72) (.t 75) (.k (.c (.d (.bool false)))), none⟩,
    ⟨(some 77), .mv (.t 76), none⟩,
    ⟨(some 78), .mv (.t 6), (some (77, true))⟩,
    ⟨(some 79), .mv (.t 9), (some (77, true))⟩,
    ⟨(some 80), .call 19 [(.t 78), (.t 79)] none, (some (77, true))⟩,
    ⟨(some 81), .pick (.t 77) (.t 80) (.k (.c (.d (.bool false)))), none⟩,
    ⟨(some 82), .mv (.t 81), none⟩,
    ⟨(some 83), .mv (.t 12), (some (82, true))⟩,
    ⟨(some 84), .mv (.t 14), (some (82, true))⟩,
    ⟨(some 85), .bin .eql (.t 83) (.t 84), (some (82, true))⟩,
    ⟨(some 86), .pick (.t 82) (.t 85) (.k (.c (.d (.bool false)))), none⟩,
    ⟨(some 87), .mv (.t 86), none⟩,
    ⟨(some 88), .mv (.t 11), (some (87, true))⟩,
    ⟨(some 89), .mv (.t 13), (some (87, true))⟩,
    ⟨(some 90), .bin .eql (.t 88) (.t 89), (some (87, true))⟩,
    ⟨(some 91), .pick (.t 87) (.t 90) (.k (.c (.d (.bool false)))), none⟩,
    ⟨(some 4), .mv (.t 91), none⟩])
  (.ret))))))),
  [(4, none)]⟩
theorem cf_iacts : compFn Tryd.prog { own := [], comp := [], frz := [], nils := [] } Tryd.f3 = some sf_iacts := by kernel_rfl
set_option maxHeartbeats 1600000 in
theorem iacts_c (G : Glob) (seed : List UInt8) (hseed : seed.length ≤ maxLen) (h : Int) (hh1 : -9223372036854775808 ≤ h) (hh2 : h ≤ 9223372036854775807) (n : Int) (hn1 : -9223372036854775808 ≤ n) (hn2 : n ≤ 9223372036854775807) (message : List UInt8) (hmessage : message.length ≤ maxLen) (hF : G.at 0 = some (.ra (firstK.map wD))) (hG : G.at 1 = some (.ra (constK.map wD))) : Den Tryd.prog G 3 [keyD seed h n, .sl (message.map bD)] (.w (.c (.d (.bool true)))) := by
  refine den_walk Tryd.func3 cf_iacts rfl rfl ?_
  have hm : maxLen ≤ 9223372036854775807 := by decide
  by_cases k1 : 60 < seed.length
  · simp only [sf_iacts, putAll, wx, wy, wz, stV, seval, IntWalk.iteOmega, IntWalk.toNatUp, reduceCtorEq]
    refine st_call (known9_c G hF hG) rfl (.inl rfl) ?_
    simp only [wx, wy, wz, stV, seval, IntWalk.iteOmega, IntWalk.toNatUp, reduceCtorEq]
    exact ret_d1 (by simp only [wx, wy, wz, stV, seval, IntWalk.iteOmega, IntWalk.toNatUp, reduceCtorEq])
  · by_cases k2 : 100 < message.length
    · simp only [sf_iacts, putAll, wx, wy, wz, stV, seval, IntWalk.iteOmega, IntWalk.toNatUp, reduceCtorEq]
      refine st_call (known9_c G hF hG) rfl (.inl rfl) ?_
      simp only [wx, wy, wz, stV, seval, IntWalk.iteOmega, IntWalk.toNatUp, reduceCtorEq]
      exact ret_d1 (by simp only [wx, wy, wz, stV, seval, IntWalk.iteOmega, IntWalk.toNatUp, reduceCtorEq])
    · by_cases k3 : 1 < h
      · by_cases k4 : h ≤ 6
        · simp only [sf_iacts, putAll, wx, wy, wz, stV, seval, IntWalk.iteOmega, IntWalk.toNatUp, reduceCtorEq]
          refine st_call (known9_c G hF hG) rfl (.inl rfl) ?_
          simp only [wx, wy, wz, stV, seval, IntWalk.iteOmega, IntWalk.toNatUp, reduceCtorEq]
          exact ret_d1 (by simp only [wx, wy, wz, stV, seval, IntWalk.iteOmega, IntWalk.toNatUp, reduceCtorEq])
        · have c1 := nsgn_c G hF hG seed h n message (by omega)
          have c2 := msgn_c G hF hG seed h n message (by omega)
          have hS : sgS seed h n message = keyD [] 0 0 := if_neg (by
            unfold sgE svalB sckE
            by_cases q : seed.length = 32
            · simp [q, show ¬ h < 0 by omega, show 6 < h by omega]
            · simp [q])
          rw [hS] at c1 c2
          have sB := rsame_c G (sgV' seed h n message) (sgV' seed h n message)
          have c3 := nlft_c G seed h n
          have c4 := mlft_c G seed h n
          have c5 := nval_c G seed h n
          have c6 := mval_c G seed h n
          have c7 := msm_c G [] 0 0
          generalize sgV' seed h n message = x1 at *
          generalize sgE seed h n message = x2 at *
          generalize sleftV seed h n = x3 at *
          generalize sleftE seed h n = x4 at *
          generalize svalB seed h n = x5 at *
          simp only [sf_iacts, putAll, wx, wy, wz, stV, seval, IntWalk.iteOmega, IntWalk.toNatUp, reduceCtorEq]
          refine st_call (c1) rfl (.inl rfl) ?_
          simp only [wx, wy, wz, stV, seval, IntWalk.iteOmega, IntWalk.toNatUp, reduceCtorEq]
          refine st_call (c2) rfl (.inl rfl) ?_
          simp only [wx, wy, wz, stV, seval, IntWalk.iteOmega, IntWalk.toNatUp, reduceCtorEq]
          refine st_call (c3) rfl (.inl rfl) ?_
          simp only [wx, wy, wz, stV, seval, IntWalk.iteOmega, IntWalk.toNatUp, reduceCtorEq]
          refine st_call (c4) rfl (.inl rfl) ?_
          simp only [wx, wy, wz, stV, seval, IntWalk.iteOmega, IntWalk.toNatUp, reduceCtorEq]
          refine st_call (known9_c G hF hG) rfl (.inl rfl) ?_
          simp only [wx, wy, wz, stV, seval, IntWalk.iteOmega, IntWalk.toNatUp, reduceCtorEq]
          refine st_call (c5) rfl (.inl rfl) ?_
          simp only [wx, wy, wz, stV, seval, IntWalk.iteOmega, IntWalk.toNatUp, reduceCtorEq]
          refine st_call (c6) rfl (.inl rfl) ?_
          simp only [wx, wy, wz, stV, seval, IntWalk.iteOmega, IntWalk.toNatUp, reduceCtorEq]
          refine st_call (c7) rfl (.inl rfl) ?_
          simp only [wx, wy, wz, stV, seval, IntWalk.iteOmega, IntWalk.toNatUp, reduceCtorEq]
          refine st_call (sB) rfl (.inl rfl) ?_
          simp only [wx, wy, wz, stV, seval, IntWalk.iteOmega, IntWalk.toNatUp, reduceCtorEq]
          exact ret_d1 (by simp only [wx, wy, wz, stV, seval, IntWalk.iteOmega, IntWalk.toNatUp, reduceCtorEq])
      · have c1 := nsgn_c G hF hG seed h n message (by omega)
        have c2 := msgn_c G hF hG seed h n message (by omega)
        have sB := rsame_c G (sgV' seed h n message) (sgV' seed h n message)
        have c3 := nlft_c G seed h n
        have c4 := mlft_c G seed h n
        have c5 := nval_c G seed h n
        have c6 := mval_c G seed h n
        obtain ⟨s2, h2, n2, hS⟩ : ∃ s2 h2 n2, sgS seed h n message = keyD s2 h2 n2 := by
          unfold sgS
          split
          · exact ⟨_, _, _, rfl⟩
          · exact ⟨_, _, _, rfl⟩
        rw [hS] at c1 c2
        have c7 := msm_c G s2 h2 n2
        generalize sgV' seed h n message = x1 at *
        generalize sgE seed h n message = x2 at *
        generalize sleftV seed h n = x3 at *
        generalize sleftE seed h n = x4 at *
        generalize svalB seed h n = x5 at *
        simp only [sf_iacts, putAll, wx, wy, wz, stV, seval, IntWalk.iteOmega, IntWalk.toNatUp, reduceCtorEq]
        refine st_call (c1) rfl (.inl rfl) ?_
        simp only [wx, wy, wz, stV, seval, IntWalk.iteOmega, IntWalk.toNatUp, reduceCtorEq]
        refine st_call (c2) rfl (.inl rfl) ?_
        simp only [wx, wy, wz, stV, seval, IntWalk.iteOmega, IntWalk.toNatUp, reduceCtorEq]
        refine st_call (c3) rfl (.inl rfl) ?_
        simp only [wx, wy, wz, stV, seval, IntWalk.iteOmega, IntWalk.toNatUp, reduceCtorEq]
        refine st_call (c4) rfl (.inl rfl) ?_
        simp only [wx, wy, wz, stV, seval, IntWalk.iteOmega, IntWalk.toNatUp, reduceCtorEq]
        refine st_call (known9_c G hF hG) rfl (.inl rfl) ?_
        simp only [wx, wy, wz, stV, seval, IntWalk.iteOmega, IntWalk.toNatUp, reduceCtorEq]
        refine st_call (c5) rfl (.inl rfl) ?_
        simp only [wx, wy, wz, stV, seval, IntWalk.iteOmega, IntWalk.toNatUp, reduceCtorEq]
        refine st_call (c6) rfl (.inl rfl) ?_
        simp only [wx, wy, wz, stV, seval, IntWalk.iteOmega, IntWalk.toNatUp, reduceCtorEq]
        refine st_call (c7) rfl (.inl rfl) ?_
        simp only [wx, wy, wz, stV, seval, IntWalk.iteOmega, IntWalk.toNatUp, reduceCtorEq]
        refine st_call (sB) rfl (.inl rfl) ?_
        simp only [wx, wy, wz, stV, seval, IntWalk.iteOmega, IntWalk.toNatUp, reduceCtorEq]
        exact ret_d1 (by simp only [wx, wy, wz, stV, seval, IntWalk.iteOmega, IntWalk.toNatUp, reduceCtorEq])
def sf_ivers : SFn := ⟨3, 57,
  .seq (.reg [⟨(some 6), .mv (.k (.c (.d (.bool false)))), none⟩])
  (.seq (.seq (.reg [⟨(some 11), .mv (.t 0), none⟩,
    ⟨(some 12), .len (.t 11), none⟩,
    ⟨(some 13), .bin .gtr (.t 12) (.k (.c (.d (.int .i64 60)))), none⟩,
    ⟨(some 14), .mv (.t 13), none⟩,
    ⟨(some 15), .mv (.t 1), (some (14, false))⟩,
    ⟨(some 16), .len (.t 15), (some (14, false))⟩,
    ⟨(some 17), .bin .gtr (.t 16) (.k (.c (.d (.int .i64 100)))), (some (14, false))⟩,
    ⟨(some 18), .pick (.t 14) (.k (.c (.d (.bool true)))) (.t 17), none⟩,
    ⟨(some 19), .mv (.t 18), none⟩,
    ⟨(some 20), .mv (.t 2), (some (19, false))⟩,
    ⟨(some 21), .len (.t 20), (some (19, false))⟩,
    ⟨(some 22), .bin .gtr (.t 21) (.k (.c (.d (.int .i64 900)))), (some (19, false))⟩,
    ⟨(some 23), .pick (.t 19) (.k (.c (.d (.bool true)))) (.t 22), none⟩])
  (.cond (.t 23) (.seq (.reg [⟨(some 24), .call 11 [] none, none⟩,
     ⟨(some 6), .mv (.t 24), none⟩])
   (.ret))
   (.skip)))
  (.seq (.reg [⟨(some 26), .mv (.t 2), none⟩,
    ⟨(some 27), .call 20 [(.t 26)] none, none⟩,
    ⟨(some 25), .mv (.t 27), none⟩,
    ⟨(some 28), .extract (.t 25) 0, none⟩,
    ⟨(some 29), .extract (.t 25) 1, none⟩,
    ⟨(some 7), .mv (.t 28), none⟩,
    ⟨(some 8), .mv (.t 29), none⟩])
  (.seq (.reg [⟨(some 31), .mv (.t 2), none⟩,
    ⟨(some 32), .call 21 [(.t 31)] none, none⟩,
    ⟨(some 30), .mv (.t 32), none⟩,
    ⟨(some 33), .extract (.t 30) 0, none⟩,
    ⟨(some 34), .extract (.t 30) 1, none⟩,
    ⟨(some 9), .mv (.t 33), none⟩,
    ⟨(some 10), .mv (.t 34), none⟩])
  (.seq (.reg [⟨(some 35), .call 11 [] none, none⟩,
    ⟨(some 36), .mv (.t 35), none⟩,
    ⟨(some 37), .mv (.t 0), (some (36, true))⟩,
    ⟨(some 38), .mv (.t 1), (some (36, true))⟩,
    ⟨(some 39), .mv (.t 2), (some (36, true))⟩,
    ⟨(some 40), .call 22 [(.t 37), (.t 38), (.t 39)] none, (some (36, true))⟩,
    ⟨(some 41), .mv (.t 0), (some (36, true))⟩,
    ⟨(some 42), .mv (.t 1), (some (36, true))⟩,
    ⟨(some 43), .mv (.t 2), (some (36, true))⟩,
    ⟨(some 44), .call 23 [(.t 41), (.t 42), (.t 43)] none, (some (36, true))⟩,
    ⟨(some 45), .eqB false (.t 40) (.t 44), (some (36, true))⟩,
    ⟨(some 46), .pick (.t 36) (.t 45) (.k (.c (.d (.bool false)))), none⟩,
    ⟨(some 47), .mv (.t 46), none⟩,
    ⟨(some 48), .mv (.t 8), (some (47, true))⟩,
    ⟨(some 49), .mv (.t 10), (some (47, true))⟩,
    ⟨(some 50), .bin .eql (.t 48) (.t 49), (some (47, true))⟩,
    ⟨(some 51), .pick (.t 47) (.t 50) (.k (.c (.d (.bool false)))), none⟩,
    ⟨(some 52), .mv (.t 51), none⟩,
    ⟨(some 53), .mv (.t 7), (some (52, true))⟩,
    ⟨(some 54), .mv (.t 9), (some (52, true))⟩,
    ⟨(some 55), .bin .eql (.t 53) (.t 54), (some (52, true))⟩,
    ⟨(some 56), .pick (.t 52) (.t 55) (.k (.c (.d (.bool false)))), none⟩,
    ⟨(some 6), .mv (.t 56), none⟩])
  (.ret))))),
  [(6, none)]⟩
theorem cf_ivers : compFn Tryd.prog { own := [], comp := [], frz := [], nils := [] } Tryd.f4 = some sf_ivers := by kernel_rfl
set_option maxHeartbeats 1600000 in
theorem ivers_c (G : Glob) (pk : List UInt8) (hpk : pk.length ≤ maxLen) (message : List UInt8) (hmessage : message.length ≤ maxLen) (signature : List UInt8) (hsignature : signature.length ≤ maxLen) (hF : G.at 0 = some (.ra (firstK.map wD))) (hG : G.at 1 = some (.ra (constK.map wD))) : Den Tryd.prog G 4 [.sl (pk.map bD), .sl (message.map bD), .sl (signature.map bD)] (.w (.c (.d (.bool true)))) := by
  refine den_walk Tryd.func4 cf_ivers rfl rfl ?_
  have hm : maxLen ≤ 9223372036854775807 := by decide
  by_cases k1 : 60 < pk.length
  · simp only [sf_ivers, putAll, wx, wy, wz, stV, seval, IntWalk.iteOmega, IntWalk.toNatUp, reduceCtorEq]
    refine st_call (known9_c G hF hG) rfl (.inl rfl) ?_
    simp only [wx, wy, wz, stV, seval, IntWalk.iteOmega, IntWalk.toNatUp, reduceCtorEq]
    exact ret_d1 (by simp only [wx, wy, wz, stV, seval, IntWalk.iteOmega, IntWalk.toNatUp, reduceCtorEq])
  · by_cases k2 : 100 < message.length
    · simp only [sf_ivers, putAll, wx, wy, wz, stV, seval, IntWalk.iteOmega, IntWalk.toNatUp, reduceCtorEq]
      refine st_call (known9_c G hF hG) rfl (.inl rfl) ?_
      simp only [wx, wy, wz, stV, seval, IntWalk.iteOmega, IntWalk.toNatUp, reduceCtorEq]
      exact ret_d1 (by simp only [wx, wy, wz, stV, seval, IntWalk.iteOmega, IntWalk.toNatUp, reduceCtorEq])
    · by_cases k3 : 900 < signature.length
      · simp only [sf_ivers, putAll, wx, wy, wz, stV, seval, IntWalk.iteOmega, IntWalk.toNatUp, reduceCtorEq]
        refine st_call (known9_c G hF hG) rfl (.inl rfl) ?_
        simp only [wx, wy, wz, stV, seval, IntWalk.iteOmega, IntWalk.toNatUp, reduceCtorEq]
        exact ret_d1 (by simp only [wx, wy, wz, stV, seval, IntWalk.iteOmega, IntWalk.toNatUp, reduceCtorEq])
      · have c1 := nix_c G signature (by omega)
        have c2 := mix_c G signature (by omega)
        have c3 := nvf_c G hF hG pk message signature (by omega) (by omega) (by omega)
        have c4 := mvf_c G hF hG pk message signature (by omega) (by omega) (by omega)
        generalize sixV signature = x1 at *
        generalize sixE signature = x2 at *
        generalize svfB pk message signature = x3 at *
        simp only [sf_ivers, putAll, wx, wy, wz, stV, seval, IntWalk.iteOmega, IntWalk.toNatUp, reduceCtorEq]
        refine st_call (c1) rfl (.inl rfl) ?_
        simp only [wx, wy, wz, stV, seval, IntWalk.iteOmega, IntWalk.toNatUp, reduceCtorEq]
        refine st_call (c2) rfl (.inl rfl) ?_
        simp only [wx, wy, wz, stV, seval, IntWalk.iteOmega, IntWalk.toNatUp, reduceCtorEq]
        refine st_call (known9_c G hF hG) rfl (.inl rfl) ?_
        simp only [wx, wy, wz, stV, seval, IntWalk.iteOmega, IntWalk.toNatUp, reduceCtorEq]
        refine st_call (c3) rfl (.inl rfl) ?_
        simp only [wx, wy, wz, stV, seval, IntWalk.iteOmega, IntWalk.toNatUp, reduceCtorEq]
        refine st_call (c4) rfl (.inl rfl) ?_
        simp only [wx, wy, wz, stV, seval, IntWalk.iteOmega, IntWalk.toNatUp, reduceCtorEq]
        exact ret_d1 (by simp only [wx, wy, wz, stV, seval, IntWalk.iteOmega, IntWalk.toNatUp, reduceCtorEq])
def sf_ipubs : SFn := ⟨2, 44,
  .seq (.reg [⟨(some 4), .mv (.k (.c (.d (.bool false)))), none⟩])
  (.seq (.seq (.reg [⟨(some 9), .mv (.t 0), none⟩,
    ⟨(some 10), .len (.t 9), none⟩,
    ⟨(some 11), .bin .gtr (.t 10) (.k (.c (.d (.int .i64 60)))), none⟩,
    ⟨(some 12), .mv (.t 11), none⟩,
    ⟨(some 13), .mv (.t 1), (some (12, false))⟩,
    ⟨(some 14), .bin .gtr (.t 13) (.k (.c (.d (.int .i64 2)))), (some (12, false))⟩,
    ⟨(some 15), .mv (.t 14), (some (12, false))⟩,
    ⟨(some 16), .mv (.t 1), (some (15, true))⟩,
    ⟨(some 17), .bin .leq (.t 16) (.k (.c (.d (.int .i64 6)))), (some (15, true))⟩,
    ⟨(some 18), .pick (.t 15) (.t 17) (.k (.c (.d (.bool false)))), (some (12, false))⟩,
    ⟨(some 19), .pick (.t 12) (.k (.c (.d (.bool true)))) (.t 18), none⟩])
  (.cond (.t 19) (.seq (.reg [⟨(some 20), .call 11 [] none, none⟩,
     ⟨(some 4), .mv (.t 20), none⟩])
   (.ret))
   (.skip)))
  (.seq (.reg [⟨(some 22), .mv (.t 0), none⟩,
    ⟨(some 23), .mv (.t 1), none⟩,
    ⟨(some 24), .call 26 [(.t 22), (.t 23)] none, none⟩,
    ⟨(some 21), .mv (.t 24), none⟩,
    ⟨(some 25), .extract (.t 21) 0, none⟩,
    ⟨(some 26), .extract (.t 21) 1, none⟩,
    ⟨(some 5), .mv (.t 25), none⟩,
    ⟨(some 6), .mv (.t 26), none⟩])
  (.seq (.reg [⟨(some 28), .mv (.t 0), none⟩,
    ⟨(some 29), .mv (.t 1), none⟩,
    ⟨(some 30), .call 28 [(.t 28), (.t 29)] none, none⟩,
    ⟨(some 27), .mv (.t 30), none⟩,
    ⟨(some 31), .extract (.t 27) 0, none⟩,
    ⟨(some 32), .extract (.t 27) 1, none⟩,
    ⟨(some 7), .mv (.t 31), none⟩,
    ⟨(some 8), .mv (.t 32), none⟩])
  (.seq (.reg [⟨(some 33), .call 11 [] none, none⟩,
    ⟨(some 34), .mv (.t 33), none⟩,
    ⟨(some 35), .mv (.t 6), (some (34, true))⟩,
    ⟨(some 36), .mv (.t 8), (some (34, true))⟩,
    ⟨(some 37), .bin .eql (.t 35) (.t 36), (some (34, true))⟩,
    ⟨(some 38), .pick (.t 34) (.t 37) (.k (.c (.d (.bool false)))), none⟩,
    ⟨(some 39), .mv (.t 38), none⟩,
    ⟨(some 40), .mv (.t 5), (some (39, true))⟩,
    ⟨(some 41), .mv (.t 7), (some (39, true))⟩,
    ⟨(some 42), .call 19 [(.t 40), (.t 41)] none, (some (39, true))⟩,
    ⟨(some 43), .pick (.t 39) (.t 42) (.k (.c (.d (.bool false)))), none⟩,
    ⟨(some 4), .mv (.t 43), none⟩])
  (.ret))))),
  [(4, none)]⟩
theorem cf_ipubs : compFn Tryd.prog { own := [], comp := [], frz := [], nils := [] } Tryd.f7 = some sf_ipubs := by kernel_rfl
set_option maxHeartbeats 1600000 in
theorem ipubs_c (G : Glob) (seed : List UInt8) (hseed : seed.length ≤ maxLen) (height : Int) (hheight1 : -9223372036854775808 ≤ height) (hheight2 : height ≤ 9223372036854775807) (hF : G.at 0 = some (.ra (firstK.map wD))) (hG : G.at 1 = some (.ra (constK.map wD))) : Den Tryd.prog G 7 [.sl (seed.map bD), .int .i64 height] (.w (.c (.d (.bool true)))) := by
  refine den_walk Tryd.func7 cf_ipubs rfl rfl ?_
  have hm : maxLen ≤ 9223372036854775807 := by decide
  by_cases k1 : 60 < seed.length
  · simp only [sf_ipubs, putAll, wx, wy, wz, stV, seval, IntWalk.iteOmega, IntWalk.toNatUp, reduceCtorEq]
    refine st_call (known9_c G hF hG) rfl (.inl rfl) ?_
    simp only [wx, wy, wz, stV, seval, IntWalk.iteOmega, IntWalk.toNatUp, reduceCtorEq]
    exact ret_d1 (by simp only [wx, wy, wz, stV, seval, IntWalk.iteOmega, IntWalk.toNatUp, reduceCtorEq])
  · have c1 := npub_c G hF hG seed height
    have c2 := mpub_c G hF hG seed height
    have sB := rsame_c G (spubV seed height) (spubV seed height)
    generalize spubV seed height = x1 at *
    generalize sckE seed height = x2 at *
    by_cases k3 : 2 < height
    · by_cases k4 : height ≤ 6
      · simp only [sf_ipubs, putAll, wx, wy, wz, stV, seval, IntWalk.iteOmega, IntWalk.toNatUp, reduceCtorEq]
        refine st_call (known9_c G hF hG) rfl (.inl rfl) ?_
        simp only [wx, wy, wz, stV, seval, IntWalk.iteOmega, IntWalk.toNatUp, reduceCtorEq]
        exact ret_d1 (by simp only [wx, wy, wz, stV, seval, IntWalk.iteOmega, IntWalk.toNatUp, reduceCtorEq])
      · simp only [sf_ipubs, putAll, wx, wy, wz, stV, seval, IntWalk.iteOmega, IntWalk.toNatUp, reduceCtorEq]
        refine st_call (c1) rfl (.inl rfl) ?_
        simp only [wx, wy, wz, stV, seval, IntWalk.iteOmega, IntWalk.toNatUp, reduceCtorEq]
        refine st_call (c2) rfl (.inl rfl) ?_
        simp only [wx, wy, wz, stV, seval, IntWalk.iteOmega, IntWalk.toNatUp, reduceCtorEq]
        refine st_call (known9_c G hF hG) rfl (.inl rfl) ?_
        simp only [wx, wy, wz, stV, seval, IntWalk.iteOmega, IntWalk.toNatUp, reduceCtorEq]
        refine st_call (sB) rfl (.inl rfl) ?_
        simp only [wx, wy, wz, stV, seval, IntWalk.iteOmega, IntWalk.toNatUp, reduceCtorEq]
        exact ret_d1 (by simp only [wx, wy, wz, stV, seval, IntWalk.iteOmega, IntWalk.toNatUp, reduceCtorEq])
    · simp only [sf_ipubs, putAll, wx, wy, wz, stV, seval, IntWalk.iteOmega, IntWalk.toNatUp, reduceCtorEq]
      refine st_call (c1) rfl (.inl rfl) ?_
      simp only [wx, wy, wz, stV, seval, IntWalk.iteOmega, IntWalk.toNatUp, reduceCtorEq]
      refine st_call (c2) rfl (.inl rfl) ?_
      simp only [wx, wy, wz, stV, seval, IntWalk.iteOmega, IntWalk.toNatUp, reduceCtorEq]
      refine st_call (known9_c G hF hG) rfl (.inl rfl) ?_
      simp only [wx, wy, wz, stV, seval, IntWalk.iteOmega, IntWalk.toNatUp, reduceCtorEq]
      refine st_call (sB) rfl (.inl rfl) ?_
      simp only [wx, wy, wz, stV, seval, IntWalk.iteOmega, IntWalk.toNatUp, reduceCtorEq]
      exact ret_d1 (by simp only [wx, wy, wz, stV, seval, IntWalk.iteOmega, IntWalk.toNatUp, reduceCtorEq])
theorem key9 (seed : Int) : (bytesK seed 32).length = 32 := by rw [bytesK_len]; rfl
theorem six_sg (seed : List UInt8) {h n : Nat} (hh : h ≤ 6) (hn : n < 2 ^ h) (msg : List UInt8) : sixV (sgM seed h n msg) = (n : Int) ∧ sixE (sgM seed h n msg) = 0 := by
  obtain ⟨p1, p2, p3, p4, p5⟩ := sg_parts seed hh hn msg
  unfold sixV sixE
  rw [if_pos p1, if_pos p1, p3]
  exact ⟨rfl, rfl⟩
theorem sleft_ok {seed : List UInt8} {h n : Nat} (hs : seed.length = 32) (hh : h ≤ 6) (hn : n ≤ 2 ^ h) : sleftV seed (h : Int) (n : Int) = ((2 ^ h - n : Nat) : Int) ∧ sleftE seed (h : Int) (n : Int) = 0 := by
  have hv : svalB seed (h : Int) (n : Int) = true := by
    unfold svalB
    refine decide_eq_true ⟨sckE_in hs (by omega) (by omega), by omega, ?_⟩
    show (n : Int) ≤ ((2 ^ h : Nat) : Int)
    omega
  unfold sleftV sleftE
  rw [if_pos hv, if_pos hv]
  refine ⟨?_, rfl⟩
  show ((2 ^ h : Nat) : Int) - (n : Int) = _
  omega
theorem spub_ok {seed : List UInt8} {h : Nat} (hs : seed.length = 32) (hh : h ≤ 6) : spubV seed (h : Int) = rootM (lvsM seed h) ∧ sckE seed (h : Int) = 0 := by
  have hE : sckE seed (h : Int) = 0 := sckE_in hs (by omega) (by omega)
  exact ⟨if_pos hE, hE⟩
def sf_isigs : SFn := ⟨4, 98,
  .seq (.reg [⟨(some 8), .mv (.k (.c (.d (.bool false)))), none⟩])
  (.seq (.seq (.reg [⟨(some 19), .mv (.t 3), none⟩,
    ⟨(some 20), .len (.t 19), none⟩,
    ⟨(some 21), .bin .gtr (.t 20) (.k (.c (.d (.int .i64 60)))), none⟩])
  (.cond (.t 21) (.seq (.reg [⟨(some 22), .call 11 [] none, none⟩,
     ⟨(some 8), .mv (.t 22), none⟩])
   (.ret))
   (.skip)))
  (.seq (.reg [⟨(some 23), .mv (.t 1), none⟩,
    ⟨(some 24), .call 24 [(.t 23), (.k (.c (.d (.int .i64 3))))] none, none⟩,
    ⟨(some 1), .mv (.t 24), none⟩])
  (.seq (.reg [⟨(some 25), .mv (.t 2), none⟩,
    ⟨(some 26), .mv (.t 1), none⟩,
    ⟨(some 27), .conv .u64 (.t 26), none⟩,
    ⟨(some 28), .bin .shl (.k (.c (.d (.int .i64 1)))) (.t 27), none⟩,
    ⟨(some 29), .call 24 [(.t 25), (.t 28)] none, none⟩,
    ⟨(some 2), .mv (.t 29), none⟩])
  (.seq (.reg [⟨(some 30), .mv (.t 0), none⟩,
    ⟨(some 31), .call 24 [(.t 30), (.k (.c (.d (.int .i64 1000))))] none, none⟩,
    ⟨(some 32), .call 25 [(.t 31)] none, none⟩,
    ⟨(some 33), .mv (.t 1), none⟩,
    ⟨(some 34), .mv (.t 2), none⟩,
    ⟨(some 35), .build [.nil, (.d (.int .i64 0)), (.d (.int .i64 0))] [(0, 1, (.t 32)), (1, 1, (.t 33)), (2, 1, (.t 34))], none⟩,
    ⟨(some 9), .alloc [.nil, (.d (.int .i64 0)), (.d (.int .i64 0))], none⟩,
    ⟨none, .store (.ag 3) (.t 9) (.t 35), none⟩])
  (.seq (.reg [⟨(some 37), .fieldAddr 0 (.t 9), none⟩,
    ⟨(some 38), .load .sc (.t 37), none⟩,
    ⟨(some 39), .mv (.t 1), none⟩,
    ⟨(some 40), .call 26 [(.t 38), (.t 39)] none, none⟩,
    ⟨(some 36), .mv (.t 40), none⟩,
    ⟨(some 41), .extract (.t 36) 0, none⟩,
    ⟨(some 42), .extract (.t 36) 1, none⟩,
    ⟨(some 10), .mv (.t 41), none⟩,
    ⟨(some 11), .mv (.t 42), none⟩])
  (.seq (.reg [⟨(some 44), .load (.ag 3) (.t 9), none⟩,
    ⟨(some 45), .mv (.t 3), none⟩,
    ⟨(some 46), .call 12 [(.t 44), (.t 45)] none, none⟩,
    ⟨(some 43), .mv (.t 46), none⟩,
    ⟨(some 47), .extract (.t 43) 0, none⟩,
    ⟨(some 48), .extract (.t 43) 1, none⟩,
    ⟨(some 49), .extract (.t 43) 2, none⟩,
    ⟨(some 12), .alloc [.nil, (.d (.int .i64 0)), (.d (.int .i64 0))], none⟩,
    ⟨none, .store (.ag 3) (.t 12) (.t 47), none⟩,
    ⟨(some 13), .mv (.t 48), none⟩,
    ⟨(some 14), .mv (.t 49), none⟩])
  (.seq (.reg [⟨(some 51), .mv (.t 13), none⟩,
    ⟨(some 52), .call 20 [(.t 51)] none, none⟩,
    ⟨(some 50), .mv (.t 52), none⟩,
    ⟨(some 53), .extract (.t 50) 0, none⟩,
    ⟨(some 54), .extract (.t 50) 1, none⟩,
    ⟨(some 15), .mv (.t 53), none⟩,
    ⟨(some 16), .mv (.t 54), none⟩])
  (.seq (.reg [⟨(some 56), .load (.ag 3) (.t 12), none⟩,
    ⟨(some 57), .call 14 [(.t 56)] none, none⟩,
    ⟨(some 55), .mv (.t 57), none⟩,
    ⟨(some 58), .extract (.t 55) 0, none⟩,
    ⟨(some 59), .extract (.t 55) 1, none⟩,
    ⟨(some 17), .mv (.t 58), none⟩,
    ⟨(some 18), .mv (.t 59), none⟩])
  (.seq (.reg [⟨(some 60), .call 11 [] none, none⟩,
    ⟨(some 61), .mv (.t 60), none⟩,
    ⟨(some 62), .mv (.t 11), (some (61, true))⟩,
    ⟨(some 63), .bin .eql (.t 62) (.k (.c (.d (.int .i64 0)))), (some (61, true))⟩,
    ⟨(some 64), .pick (.t 61) (.t 63) (.k (.c (.d (.bool false)))), none⟩,
    ⟨(some 65), .mv (.t 64), none⟩,
    ⟨(some 66), .mv (.t 14), (some (65, true))⟩,
    ⟨(some 67), .bin .eql (.t 66) (.k (.c (.d (.int .i64 0)))), (some (65, true))⟩,
    ⟨(some 68), .pick (.t 65) (.t 67) (.k (.c (.d (.bool false)))), none⟩,
    ⟨(some 69), .mv (.t 68), none⟩,
    ⟨(some 70), .mv (.t 16), (some (69, true))⟩,
    ⟨(some 71), .bin .eql (.t 70) (.k (.c (.d (.int .i64 0)))), (some (69, true))⟩,
    ⟨(some 72), .pick (.t 69) (.t 71) (.k (.c (.d (.bool false)))), none⟩,
    ⟨(some 73), .mv (.t 72), none⟩,
    ⟨(some 74), .mv (.t 18), (some (73, true))⟩,
    ⟨(some 75), .bin .eql (.t 74) (.k (.c (.d (.int .i64 0)))), (some (73, true))⟩,
    ⟨(some 76), .pick (.t 73) (.t 75) (.k (.c (.d (.bool false)))), none⟩,
    ⟨(some 77), .mv (.t 76), none⟩,
    ⟨(some 78), .mv (.t 15), (some (77, true))⟩,
    ⟨(some 79), .mv (.t 2), (some (77, true))⟩,
    ⟨(some 80), .bin .eql (.t 78) (.t 79), (some (77, true))⟩,
    ⟨(some 81), .pick (.t 77) (.t 80) (.k (.c (.d (.bool false)))), none⟩,
    ⟨(some 82), .mv (.t 81), none⟩,
    ⟨(some 83), .mv (.t 17), (some (82, true))⟩,
    ⟨(some 84), .mv (.t 1), (some (82, true))⟩,
    ⟨(some 85), .conv .u64 (.t 84), (some (82, true))⟩,
    ⟨(some 86), .bin .shl (.k (.c (.d (.int .i64 1)))) (.t 85), (some (82, true))⟩,
    ⟨(some 87), .mv (.t 2), (some (82, true))⟩,
    ⟨(some 88), .bin .sub (.t 86) (.t 87), (some (82, true))⟩,
    ⟨(some 89), .bin .sub (.t 88) (.k (.c (.d (.int .i64 1)))), (some (82, true))⟩,
    ⟨(some 90), .bin .eql (.t 83) (.t 89), (some (82, true))⟩,
    ⟨(some 91), .pick (.t 82) (.t 90) (.k (.c (.d (.bool false)))), none⟩,
    ⟨(some 92), .mv (.t 91), none⟩,
    ⟨(some 93), .mv (.t 10), (some (92, true))⟩,
    ⟨(some 94), .mv (.t 3), (some (92, true))⟩,
    ⟨(some 95), .mv (.t 13), (some (92, true))⟩,
    ⟨(some 96), .call 22 [(.t 93), (.t 94), (.t 95)] none, (some (92, true))⟩,
    ⟨(some 97), .pick (.t 92) (.t 96) (.k (.c (.d (.bool false)))), none⟩,
    ⟨(some 8), .mv (.t 97), none⟩])
  (.ret)))))))))),
  [(8, none)]⟩
theorem cf_isigs : compFn Tryd.prog { own := [], comp := [], frz := [], nils := [] } Tryd.f5 = some sf_isigs := by kernel_rfl
set_option maxHeartbeats 1600000 in
theorem isigs_c (G : Glob) (seed : Int) (hseed1 : -9223372036854775808 ≤ seed) (hseed2 : seed ≤ 9223372036854775807) (height : Int) (hheight1 : -9223372036854775808 ≤ height) (hheight2 : height ≤ 9223372036854775807) (n : Int) (hn1 : -9223372036854775808 ≤ n) (hn2 : n ≤ 9223372036854775807) (message : List UInt8) (hmessage : message.length ≤ maxLen) (hF : G.at 0 = some (.ra (firstK.map wD))) (hG : G.at 1 = some (.ra (constK.map wD))) : Den Tryd.prog G 5 [.int .i64 seed, .int .i64 height, .int .i64 n, .sl (message.map bD)] (.w (.c (.d (.bool true)))) := by
  refine den_walk Tryd.func5 cf_isigs rfl rfl ?_
  have hm : maxLen ≤ 9223372036854775807 := by decide
  by_cases k1 : 60 < message.length
  · simp only [sf_isigs, putAll, wx, wy, wz, stV, seval, IntWalk.iteOmega, IntWalk.toNatUp, reduceCtorEq]
    refine st_call (known9_c G hF hG) rfl (.inl rfl) ?_
    simp only [wx, wy, wz, stV, seval, IntWalk.iteOmega, IntWalk.toNatUp, reduceCtorEq]
    exact ret_d1 (by simp only [wx, wy, wz, stV, seval, IntWalk.iteOmega, IntWalk.toNatUp, reduceCtorEq])
  · have e1 := within_c G seed 1000 (by decide)
    have hk := wkey_c G (withinN seed 1000)
    have lk := key9 (withinN seed 1000)
    generalize bytesK (withinN seed 1000) 32 = k at *
    have r2 := withinN_range height 3 (by decide)
    have e2 := within_c G height 3 (by decide)
    obtain ⟨m, hm'⟩ := Int.eq_ofNat_of_zero_le r2.1
    rw [hm'] at e2 r2
    have hm6 : m ≤ 6 := by omega
    have h64 := pow6 hm6
    have e3 := within_c G n ((2 ^ m : Nat) : Int) (by omega)
    have r3 := withinN_range n ((2 ^ m : Nat) : Int) (by omega)
    obtain ⟨i, hi⟩ := Int.eq_ofNat_of_zero_le r3.1
    rw [hi] at e3 r3
    have hi2 : i < 2 ^ m := by omega
    have hs := shl6u hm6
    have hw := wru6 hm6
    have c1 := npub_c G hF hG k (m : Int)
    rw [(spub_ok lk hm6).1, (spub_ok lk hm6).2] at c1
    have c2 := nsgn_c G hF hG k (m : Int) (i : Int) message (by omega)
    obtain ⟨s1, s2, s3⟩ := sgn_ok (seed := k) (msg := message) lk hm6 hi2 (by omega)
    rw [s1, s2, sgE_0 lk hm6 hi2 (by omega)] at c2
    have hl := sgM_len k hi2 message
    have c3 := nix_c G (sgM k m i message) (by omega)
    rw [(six_sg k hm6 hi2 message).1, (six_sg k hm6 hi2 message).2] at c3
    have c4 := nlft_c G k (m : Int) ((i + 1 : Nat) : Int)
    rw [(sleft_ok lk hm6 (n := i + 1) (by omega)).1, (sleft_ok lk hm6 (n := i + 1) (by omega)).2] at c4
    have hr := root_32 (lvsM k m)
    have c5 := nvf_c G hF hG (rootM (lvsM k m)) message (sgM k m i message) (by omega) (by omega) (by omega)
    rw [sg_verifies k hm6 hi2 (by omega)] at c5
    generalize sgM k m i message = x1 at *
    generalize rootM (lvsM k m) = x2 at *
    generalize 2 ^ m = N at *
    simp only [sf_isigs, putAll, wx, wy, wz, stV, seval, IntWalk.iteOmega, IntWalk.toNatUp, reduceCtorEq]
    refine st_call (e2) rfl (.inl rfl) ?_
    simp only [hw, hs, wx, wy, wz, stV, seval, IntWalk.iteOmega, IntWalk.toNatUp, reduceCtorEq]
    refine st_call (e3) rfl (.inl rfl) ?_
    simp only [wx, wy, wz, stV, seval, IntWalk.iteOmega, IntWalk.toNatUp, reduceCtorEq]
    refine st_call (e1) rfl (.inl rfl) ?_
    simp only [wx, wy, wz, stV, seval, IntWalk.iteOmega, IntWalk.toNatUp, reduceCtorEq]
    refine st_call (hk) rfl (.inl rfl) ?_
    simp only [wx, wy, wz, stV, seval, IntWalk.iteOmega, IntWalk.toNatUp, reduceCtorEq]
    refine st_call (c1) rfl (.inl rfl) ?_
    simp only [wx, wy, wz, stV, seval, IntWalk.iteOmega, IntWalk.toNatUp, reduceCtorEq]
    refine st_call (c2) rfl (.inl rfl) ?_
    simp only [wx, wy, wz, stV, seval, IntWalk.iteOmega, IntWalk.toNatUp, reduceCtorEq]
    refine st_call (c3) rfl (.inl rfl) ?_
    simp only [wx, wy, wz, stV, seval, IntWalk.iteOmega, IntWalk.toNatUp, reduceCtorEq]
    refine st_call (c4) rfl (.inl rfl) ?_
    simp only [wx, wy, wz, stV, seval, IntWalk.iteOmega, IntWalk.toNatUp, reduceCtorEq]
    refine st_call (known9_c G hF hG) rfl (.inl rfl) ?_
    simp only [hw, hs, wx, wy, wz, stV, seval, IntWalk.iteOmega, IntWalk.toNatUp, reduceCtorEq]
    refine st_call (c5) rfl (.inl rfl) ?_
    simp only [wx, wy, wz, stV, seval, IntWalk.iteOmega, IntWalk.toNatUp, reduceCtorEq]
    exact ret_d1 (by simp only [wx, wy, wz, stV, seval, IntWalk.iteOmega, IntWalk.toNatUp, reduceCtorEq])
end Go.Proofs.YtjgkchmdhicmpaaDoor
set_option linter.unusedVariables false
set_option linter.unusedSimpArgs false
namespace Go.Proofs.YtjgkchmdhicmpaaDoor
open Go.RowKit

def sf_irefs : SFn := ⟨4, 84,
  .seq (.reg [⟨(some 8), .mv (.k (.c (.d (.bool false)))), none⟩])
  (.seq (.reg [⟨(some 16), .mv (.t 0), none⟩,
    ⟨(some 17), .call 24 [(.t 16), (.k (.c (.d (.int .i64 1000))))] none, none⟩,
    ⟨(some 18), .call 25 [(.t 17)] none, none⟩,
    ⟨(some 19), .mv (.t 1), none⟩,
    ⟨(some 20), .call 24 [(.t 19), (.k (.c (.d (.int .i64 2))))] none, none⟩,
    ⟨(some 21), .build [.nil, (.d (.int .i64 0)), (.d (.int .i64 0))] [(0, 1, (.t 18)), (1, 1, (.k (.c (.d (.int .i64 1))))), (2, 1, (.t 20))], none⟩,
    ⟨(some 9), .alloc [.nil, (.d (.int .i64 0)), (.d (.int .i64 0))], none⟩,
    ⟨none, .store (.ag 3) (.t 9) (.t 21), none⟩])
  (.seq (.reg [⟨(some 22), .mv (.t 0), none⟩,
    ⟨(some 23), .call 24 [(.t 22), (.k (.c (.d (.int .i64 1000))))] none, none⟩,
    ⟨(some 24), .bin .add (.t 23) (.k (.c (.d (.int .i64 9)))), none⟩,
    ⟨(some 25), .call 27 [(.t 24), (.k (.c (.d (.int .i64 30))))] none, none⟩,
    ⟨(some 10), .mv (.t 25), none⟩])
  (.seq (.reg [⟨(some 27), .fieldAddr 0 (.t 9), none⟩,
    ⟨(some 28), .load .sc (.t 27), none⟩,
    ⟨(some 29), .call 28 [(.t 28), (.k (.c (.d (.int .i64 1))))] none, none⟩,
    ⟨(some 26), .mv (.t 29), none⟩,
    ⟨(some 30), .extract (.t 26) 0, none⟩,
    ⟨(some 31), .extract (.t 26) 1, none⟩,
    ⟨(some 11), .mv (.t 30), none⟩,
    ⟨(some 12), .mv (.t 31), none⟩])
  (.seq (.reg [⟨(some 33), .load (.ag 3) (.t 9), none⟩,
    ⟨(some 34), .mv (.t 10), none⟩,
    ⟨(some 35), .call 13 [(.t 33), (.t 34)] none, none⟩,
    ⟨(some 32), .mv (.t 35), none⟩,
    ⟨(some 36), .extract (.t 32) 0, none⟩,
    ⟨(some 37), .extract (.t 32) 1, none⟩,
    ⟨(some 38), .extract (.t 32) 2, none⟩,
    ⟨(some 13), .alloc [.nil, (.d (.int .i64 0)), (.d (.int .i64 0))], none⟩,
    ⟨none, .store (.ag 3) (.t 13) (.t 36), none⟩,
    ⟨(some 14), .mv (.t 37), none⟩,
    ⟨(some 15), .mv (.t 38), none⟩])
  (.seq (.seq (.reg [⟨(some 39), .mv (.t 12), none⟩,
    ⟨(some 40), .bin .neq (.t 39) (.k (.c (.d (.int .i64 0)))), none⟩,
    ⟨(some 41), .mv (.t 40), none⟩,
    ⟨(some 42), .mv (.t 15), (some (41, false))⟩,
    ⟨(some 43), .bin .neq (.t 42) (.k (.c (.d (.int .i64 0)))), (some (41, false))⟩,
    ⟨(some 44), .pick (.t 41) (.k (.c (.d (.bool true)))) (.t 43), none⟩,
    ⟨(some 45), .mv (.t 44), none⟩,
    ⟨(some 46), .mv (.t 11), (some (45, false))⟩,
    ⟨(some 47), .mv (.t 10), (some (45, false))⟩,
    ⟨(some 48), .mv (.t 14), (some (45, false))⟩,
    ⟨(some 49), .call 22 [(.t 46), (.t 47), (.t 48)] none, (some (45, false))⟩,
    ⟨(some 50), .un .not (.t 49), (some (45, false))⟩,
    ⟨(some 51), .pick (.t 45) (.k (.c (.d (.bool true)))) (.t 50), none⟩])
  (.cond (.t 51) (.seq (.reg [⟨(some 8), .mv (.k (.c (.d (.bool false)))), none⟩])
   (.ret))
   (.skip)))
  (.seq (.seq (.reg [⟨(some 52), .mv (.t 3), none⟩,
    ⟨(some 53), .call 24 [(.t 52), (.k (.c (.d (.int .i64 3))))] none, none⟩])
  (.block 0 (.seq (.reg [⟨(some 55), .bin .eql (.t 53) (.k (.c (.d (.int .i64 0)))), none⟩,
     ⟨(some 54), .mv (.t 55), none⟩])
   (.cond (.t 54) (.reg [⟨(some 56), .mv (.t 14), none⟩,
      ⟨(some 57), .mv (.t 1), none⟩,
      ⟨(some 58), .mv (.t 2), none⟩,
      ⟨(some 59), .call 29 [(.t 56), (.t 57), (.t 58)] none, none⟩,
      ⟨(some 14), .mv (.t 59), none⟩])
    (.seq (.reg [⟨(some 61), .bin .eql (.t 53) (.k (.c (.d (.int .i64 1)))), none⟩,
      ⟨(some 60), .mv (.t 61), none⟩])
    (.cond (.t 60) (.reg [⟨(some 62), .mv (.t 10), none⟩,
       ⟨(some 63), .mv (.t 1), none⟩,
       ⟨(some 64), .mv (.t 2), none⟩,
       ⟨(some 65), .call 29 [(.t 62), (.t 63), (.t 64)] none, none⟩,
       ⟨(some 10), .mv (.t 65), none⟩])
     (.seq (.reg [⟨(some 67), .bin .eql (.t 53) (.k (.c (.d (.int .i64 2)))), none⟩,
       ⟨(some 66), .mv (.t 67), none⟩])
     (.cond (.t 66) (.reg [⟨(some 68), .mv (.t 11), none⟩,
        ⟨(some 69), .mv (.t 1), none⟩,
        ⟨(some 70), .mv (.t 2), none⟩,
        ⟨(some 71), .call 29 [(.t 68), (.t 69), (.t 70)] none, none⟩,
        ⟨(some 11), .mv (.t 71), none⟩])
      (.skip)))))))))
  (.seq (.reg [⟨(some 72), .call 11 [] none, none⟩,
    ⟨(some 73), .mv (.t 72), none⟩,
    ⟨(some 74), .mv (.t 11), (some (73, true))⟩,
    ⟨(some 75), .mv (.t 10), (some (73, true))⟩,
    ⟨(some 76), .mv (.t 14), (some (73, true))⟩,
    ⟨(some 77), .call 22 [(.t 74), (.t 75), (.t 76)] none, (some (73, true))⟩,
    ⟨(some 78), .mv (.t 11), (some (73, true))⟩,
    ⟨(some 79), .mv (.t 10), (some (73, true))⟩,
    ⟨(some 80), .mv (.t 14), (some (73, true))⟩,
    ⟨(some 81), .call 23 [(.t 78), (.t 79), (.t 80)] none, (some (73, true))⟩,
    ⟨(some 82), .eqB false (.t 77) (.t 81), (some (73, true))⟩,
    ⟨(some 83), .pick (.t 73) (.t 82) (.k (.c (.d (.bool false)))), none⟩,
    ⟨(some 8), .mv (.t 83), none⟩])
  (.ret)))))))),
  [(8, none)]⟩
theorem cf_irefs : compFn Tryd.prog { own := [], comp := [], frz := [], nils := [] } Tryd.f6 = some sf_irefs := by kernel_rfl
set_option maxHeartbeats 1600000 in
theorem irefs_c (G : Glob) (seed : Int) (hseed1 : -9223372036854775808 ≤ seed) (hseed2 : seed ≤ 9223372036854775807) (at' : Int) (hat'1 : -9223372036854775808 ≤ at') (hat'2 : at' ≤ 9223372036854775807) (by' : Int) (hby'1 : -9223372036854775808 ≤ by') (hby'2 : by' ≤ 9223372036854775807) (what : Int) (hwhat1 : -9223372036854775808 ≤ what) (hwhat2 : what ≤ 9223372036854775807) (hF : G.at 0 = some (.ra (firstK.map wD))) (hG : G.at 1 = some (.ra (constK.map wD))) : Den Tryd.prog G 6 [.int .i64 seed, .int .i64 at', .int .i64 by', .int .i64 what] (.w (.c (.d (.bool true)))) := by
  refine den_walk Tryd.func6 cf_irefs rfl rfl ?_
  have e1 := within_c G seed 1000 (by decide)
  have r0 := withinN_range seed 1000 (by decide)
  have hk := wkey_c G (withinN seed 1000)
  have lk := key9 (withinN seed 1000)
  have hb := wbytes_c G (withinN seed 1000 + 9) 30 (by decide)
  have lb : (bytesK (withinN seed 1000 + 9) 30).length = 30 := by rw [bytesK_len]; rfl
  generalize bytesK (withinN seed 1000) 32 = k at *
  generalize bytesK (withinN seed 1000 + 9) 30 = message at *
  have e2 := within_c G at' 2 (by decide)
  have r2 := withinN_range at' 2 (by decide)
  obtain ⟨i, hi⟩ := Int.eq_ofNat_of_zero_le r2.1
  rw [hi] at e2 r2
  have hi2 : i < 2 ^ 1 := by omega
  have c1 := mpub_c G hF hG k ((1 : Nat) : Int)
  rw [(spub_ok (h := 1) lk (by decide)).1, (spub_ok (h := 1) lk (by decide)).2] at c1
  have c2 := msgn_c G hF hG k ((1 : Nat) : Int) (i : Int) message (by omega)
  obtain ⟨s1, s2, s3⟩ := sgn_ok (seed := k) (msg := message) (h := 1) lk (by decide) hi2 (by omega)
  rw [s1, s2, sgE_0 (h := 1) lk (by decide) hi2 (by omega)] at c2
  have hl := sgM_len k hi2 message
  have hr := root_32 (lvsM k 1)
  have c5 := nvf_c G hF hG (rootM (lvsM k 1)) message (sgM k 1 i message) (by omega) (by omega) (by omega)
  rw [sg_verifies k (by decide) hi2 (by omega)] at c5
  generalize sgM k 1 i message = x at *
  generalize rootM (lvsM k 1) = p at *
  have e3 := within_c G what 3 (by decide)
  have r3 := withinN_range what 3 (by decide)
  obtain ⟨w, hw⟩ := Int.eq_ofNat_of_zero_le r3.1
  rw [hw] at e3 r3
  have o1 : ((1 : Nat) : Int) = 1 := rfl
  rw [o1] at c1 c2
  have hw3 : w = 0 ∨ w = 1 ∨ w = 2 := by omega
  rcases hw3 with rfl | rfl | rfl
  · have hc := chg_c G x at' by' (by omega) (by omega)
    have lc : (changedL x at' by').length = x.length := changedL_len _ _ _
    generalize changedL x at' by' = y at *
    have v1 := nvf_c G hF hG p message y (by omega) (by omega) (by omega)
    have v2 := mvf_c G hF hG p message y (by omega) (by omega) (by omega)
    generalize svfB p message y = z at *
    simp only [sf_irefs, putAll, wx, wy, wz, stV, seval, IntWalk.iteOmega, IntWalk.toNatUp, reduceCtorEq]
    refine st_call (e1) rfl (.inl rfl) ?_
    simp only [wx, wy, wz, stV, seval, IntWalk.iteOmega, IntWalk.toNatUp, reduceCtorEq]
    refine st_call (hk) rfl (.inl rfl) ?_
    simp only [wx, wy, wz, stV, seval, IntWalk.iteOmega, IntWalk.toNatUp, reduceCtorEq]
    refine st_call (e2) rfl (.inl rfl) ?_
    simp only [wx, wy, wz, stV, seval, IntWalk.iteOmega, IntWalk.toNatUp, reduceCtorEq]
    refine st_call (e1) rfl (.inl rfl) ?_
    simp only [wx, wy, wz, stV, seval, IntWalk.iteOmega, IntWalk.toNatUp, reduceCtorEq]
    refine st_call (hb) rfl (.inl rfl) ?_
    simp only [wx, wy, wz, stV, seval, IntWalk.iteOmega, IntWalk.toNatUp, reduceCtorEq]
    refine st_call (c1) rfl (.inl rfl) ?_
    simp only [wx, wy, wz, stV, seval, IntWalk.iteOmega, IntWalk.toNatUp, reduceCtorEq]
    refine st_call (c2) rfl (.inl rfl) ?_
    simp only [wx, wy, wz, stV, seval, IntWalk.iteOmega, IntWalk.toNatUp, reduceCtorEq]
    refine st_call (c5) rfl (.inl rfl) ?_
    simp only [wx, wy, wz, stV, seval, IntWalk.iteOmega, IntWalk.toNatUp, reduceCtorEq]
    refine st_call (e3) rfl (.inl rfl) ?_
    simp only [wx, wy, wz, stV, seval, IntWalk.iteOmega, IntWalk.toNatUp, reduceCtorEq]
    refine st_call (hc) rfl (.inl rfl) ?_
    simp only [wx, wy, wz, stV, seval, IntWalk.iteOmega, IntWalk.toNatUp, reduceCtorEq]
    refine st_call (known9_c G hF hG) rfl (.inl rfl) ?_
    simp only [wx, wy, wz, stV, seval, IntWalk.iteOmega, IntWalk.toNatUp, reduceCtorEq]
    refine st_call (v1) rfl (.inl rfl) ?_
    simp only [wx, wy, wz, stV, seval, IntWalk.iteOmega, IntWalk.toNatUp, reduceCtorEq]
    refine st_call (v2) rfl (.inl rfl) ?_
    simp only [wx, wy, wz, stV, seval, IntWalk.iteOmega, IntWalk.toNatUp, reduceCtorEq]
    exact ret_d1 (by simp only [wx, wy, wz, stV, seval, IntWalk.iteOmega, IntWalk.toNatUp, reduceCtorEq])
  · have hc := chg_c G message at' by' (by omega) (by omega)
    have lc : (changedL message at' by').length = message.length := changedL_len _ _ _
    generalize changedL message at' by' = y at *
    have v1 := nvf_c G hF hG p y x (by omega) (by omega) (by omega)
    have v2 := mvf_c G hF hG p y x (by omega) (by omega) (by omega)
    generalize svfB p y x = z at *
    simp only [sf_irefs, putAll, wx, wy, wz, stV, seval, IntWalk.iteOmega, IntWalk.toNatUp, reduceCtorEq]
    refine st_call (e1) rfl (.inl rfl) ?_
    simp only [wx, wy, wz, stV, seval, IntWalk.iteOmega, IntWalk.toNatUp, reduceCtorEq]
    refine st_call (hk) rfl (.inl rfl) ?_
    simp only [wx, wy, wz, stV, seval, IntWalk.iteOmega, IntWalk.toNatUp, reduceCtorEq]
    refine st_call (e2) rfl (.inl rfl) ?_
    simp only [wx, wy, wz, stV, seval, IntWalk.iteOmega, IntWalk.toNatUp, reduceCtorEq]
    refine st_call (e1) rfl (.inl rfl) ?_
    simp only [wx, wy, wz, stV, seval, IntWalk.iteOmega, IntWalk.toNatUp, reduceCtorEq]
    refine st_call (hb) rfl (.inl rfl) ?_
    simp only [wx, wy, wz, stV, seval, IntWalk.iteOmega, IntWalk.toNatUp, reduceCtorEq]
    refine st_call (c1) rfl (.inl rfl) ?_
    simp only [wx, wy, wz, stV, seval, IntWalk.iteOmega, IntWalk.toNatUp, reduceCtorEq]
    refine st_call (c2) rfl (.inl rfl) ?_
    simp only [wx, wy, wz, stV, seval, IntWalk.iteOmega, IntWalk.toNatUp, reduceCtorEq]
    refine st_call (c5) rfl (.inl rfl) ?_
    simp only [wx, wy, wz, stV, seval, IntWalk.iteOmega, IntWalk.toNatUp, reduceCtorEq]
    refine st_call (e3) rfl (.inl rfl) ?_
    simp only [wx, wy, wz, stV, seval, IntWalk.iteOmega, IntWalk.toNatUp, reduceCtorEq]
    refine st_call (hc) rfl (.inl rfl) ?_
    simp only [wx, wy, wz, stV, seval, IntWalk.iteOmega, IntWalk.toNatUp, reduceCtorEq]
    refine st_call (known9_c G hF hG) rfl (.inl rfl) ?_
    simp only [wx, wy, wz, stV, seval, IntWalk.iteOmega, IntWalk.toNatUp, reduceCtorEq]
    refine st_call (v1) rfl (.inl rfl) ?_
    simp only [wx, wy, wz, stV, seval, IntWalk.iteOmega, IntWalk.toNatUp, reduceCtorEq]
    refine st_call (v2) rfl (.inl rfl) ?_
    simp only [wx, wy, wz, stV, seval, IntWalk.iteOmega, IntWalk.toNatUp, reduceCtorEq]
    exact ret_d1 (by simp only [wx, wy, wz, stV, seval, IntWalk.iteOmega, IntWalk.toNatUp, reduceCtorEq])
  · have hc := chg_c G p at' by' (by omega) (by omega)
    have lc : (changedL p at' by').length = p.length := changedL_len _ _ _
    generalize changedL p at' by' = y at *
    have v1 := nvf_c G hF hG y message x (by omega) (by omega) (by omega)
    have v2 := mvf_c G hF hG y message x (by omega) (by omega) (by omega)
    generalize svfB y message x = z at *
    simp only [sf_irefs, putAll, wx, wy, wz, stV, seval, IntWalk.iteOmega, IntWalk.toNatUp, reduceCtorEq]
    refine st_call (e1) rfl (.inl rfl) ?_
    simp only [wx, wy, wz, stV, seval, IntWalk.iteOmega, IntWalk.toNatUp, reduceCtorEq]
    refine st_call (hk) rfl (.inl rfl) ?_
    simp only [wx, wy, wz, stV, seval, IntWalk.iteOmega, IntWalk.toNatUp, reduceCtorEq]
    refine st_call (e2) rfl (.inl rfl) ?_
    simp only [wx, wy, wz, stV, seval, IntWalk.iteOmega, IntWalk.toNatUp, reduceCtorEq]
    refine st_call (e1) rfl (.inl rfl) ?_
    simp only [wx, wy, wz, stV, seval, IntWalk.iteOmega, IntWalk.toNatUp, reduceCtorEq]
    refine st_call (hb) rfl (.inl rfl) ?_
    simp only [wx, wy, wz, stV, seval, IntWalk.iteOmega, IntWalk.toNatUp, reduceCtorEq]
    refine st_call (c1) rfl (.inl rfl) ?_
    simp only [wx, wy, wz, stV, seval, IntWalk.iteOmega, IntWalk.toNatUp, reduceCtorEq]
    refine st_call (c2) rfl (.inl rfl) ?_
    simp only [wx, wy, wz, stV, seval, IntWalk.iteOmega, IntWalk.toNatUp, reduceCtorEq]
    refine st_call (c5) rfl (.inl rfl) ?_
    simp only [wx, wy, wz, stV, seval, IntWalk.iteOmega, IntWalk.toNatUp, reduceCtorEq]
    refine st_call (e3) rfl (.inl rfl) ?_
    simp only [wx, wy, wz, stV, seval, IntWalk.iteOmega, IntWalk.toNatUp, reduceCtorEq]
    refine st_call (hc) rfl (.inl rfl) ?_
    simp only [wx, wy, wz, stV, seval, IntWalk.iteOmega, IntWalk.toNatUp, reduceCtorEq]
    refine st_call (known9_c G hF hG) rfl (.inl rfl) ?_
    simp only [wx, wy, wz, stV, seval, IntWalk.iteOmega, IntWalk.toNatUp, reduceCtorEq]
    refine st_call (v1) rfl (.inl rfl) ?_
    simp only [wx, wy, wz, stV, seval, IntWalk.iteOmega, IntWalk.toNatUp, reduceCtorEq]
    refine st_call (v2) rfl (.inl rfl) ?_
    simp only [wx, wy, wz, stV, seval, IntWalk.iteOmega, IntWalk.toNatUp, reduceCtorEq]
    exact ret_d1 (by simp only [wx, wy, wz, stV, seval, IntWalk.iteOmega, IntWalk.toNatUp, reduceCtorEq])
def iuSt (seed : Int) (k p : List UInt8) (m i : Nat) : St := ⟨ofL [(0, .w (.c (.d (.int .i64 seed)))), (1, .w (.c (.d (.int .i64 (m : Int))))), (5, .w (.c (.ptr 1 1 0 0))), (6, .w (.c (.d (.sl (p.map bD))))), (8, .w (.c (.d (.int .i64 (i : Int)))))],
  hL [(1, .box [.d (.sl (k.map bD)), .d (.int .i64 (m : Int)), .d (.int .i64 (i : Int))])], uL [1]⟩
def lp_iuses_0 : SCode :=
  .seq (.seq (.reg [⟨(some 36), .mv (.t 8), none⟩,
    ⟨(some 37), .mv (.t 1), none⟩,
    ⟨(some 38), .conv .u64 (.t 37), none⟩,
    ⟨(some 39), .bin .shl (.k (.c (.d (.int .i64 1)))) (.t 38), none⟩,
    ⟨(some 40), .bin .lss (.t 36) (.t 39), none⟩])
  (.cond (.t 40) (.skip)
   (.exit 0)))
  (.seq (.block 1 (.seq (.reg [⟨(some 43), .mv (.t 0), none⟩,
     ⟨(some 44), .mv (.t 8), none⟩,
     ⟨(some 45), .bin .add (.k (.c (.d (.int .i64 5)))) (.t 44), none⟩,
     ⟨(some 46), .call 27 [(.t 43), (.t 45)] none, none⟩,
     ⟨(some 9), .mv (.t 46), none⟩])
   (.seq (.reg [⟨(some 48), .load (.ag 3) (.t 5), none⟩,
     ⟨(some 49), .mv (.t 9), none⟩,
     ⟨(some 50), .call 12 [(.t 48), (.t 49)] none, none⟩,
     ⟨(some 47), .mv (.t 50), none⟩,
     ⟨(some 51), .extract (.t 47) 0, none⟩,
     ⟨(some 52), .extract (.t 47) 1, none⟩,
     ⟨(some 53), .extract (.t 47) 2, none⟩,
     ⟨(some 10), .alloc [.nil, (.d (.int .i64 0)), (.d (.int .i64 0))], none⟩,
     ⟨none, .store (.ag 3) (.t 10) (.t 51), none⟩,
     ⟨(some 11), .mv (.t 52), none⟩,
     ⟨(some 12), .mv (.t 53), none⟩])
   (.seq (.reg [⟨(some 55), .mv (.t 11), none⟩,
     ⟨(some 56), .call 20 [(.t 55)] none, none⟩,
     ⟨(some 54), .mv (.t 56), none⟩,
     ⟨(some 57), .extract (.t 54) 0, none⟩,
     ⟨(some 58), .extract (.t 54) 1, none⟩,
     ⟨(some 13), .mv (.t 57), none⟩,
     ⟨(some 14), .mv (.t 58), none⟩])
   (.seq (.seq (.reg [⟨(some 59), .mv (.t 12), none⟩,
     ⟨(some 60), .bin .neq (.t 59) (.k (.c (.d (.int .i64 0)))), none⟩,
     ⟨(some 61), .mv (.t 60), none⟩,
     ⟨(some 62), .mv (.t 14), (some (61, false))⟩,
     ⟨(some 63), .bin .neq (.t 62) (.k (.c (.d (.int .i64 0)))), (some (61, false))⟩,
     ⟨(some 64), .pick (.t 61) (.k (.c (.d (.bool true)))) (.t 63), none⟩,
     ⟨(some 65), .mv (.t 64), none⟩,
     ⟨(some 66), .mv (.t 13), (some (65, false))⟩,
     ⟨(some 67), .mv (.t 8), (some (65, false))⟩,
     ⟨(some 68), .bin .neq (.t 66) (.t 67), (some (65, false))⟩,
     ⟨(some 69), .pick (.t 65) (.k (.c (.d (.bool true)))) (.t 68), none⟩,
     ⟨(some 70), .mv (.t 69), none⟩,
     ⟨(some 71), .mv (.t 6), (some (70, false))⟩,
     ⟨(some 72), .mv (.t 9), (some (70, false))⟩,
     ⟨(some 73), .mv (.t 11), (some (70, false))⟩,
     ⟨(some 74), .call 22 [(.t 71), (.t 72), (.t 73)] none, (some (70, false))⟩,
     ⟨(some 75), .un .not (.t 74), (some (70, false))⟩,
     ⟨(some 76), .pick (.t 70) (.k (.c (.d (.bool true)))) (.t 75), none⟩,
     ⟨(some 77), .mv (.t 76), none⟩,
     ⟨(some 78), .fieldAddr 2 (.t 10), (some (77, false))⟩,
     ⟨(some 79), .load .sc (.t 78), (some (77, false))⟩,
     ⟨(some 80), .mv (.t 8), (some (77, false))⟩,
     ⟨(some 81), .bin .add (.t 80) (.k (.c (.d (.int .i64 1)))), (some (77, false))⟩,
     ⟨(some 82), .bin .neq (.t 79) (.t 81), (some (77, false))⟩,
     ⟨(some 83), .pick (.t 77) (.k (.c (.d (.bool true)))) (.t 82), none⟩])
   (.cond (.t 83) (.seq (.reg [⟨(some 4), .mv (.k (.c (.d (.bool false)))), none⟩])
    (.ret))
    (.skip)))
   (.reg [⟨(some 84), .load (.ag 3) (.t 10), none⟩,
     ⟨none, .store (.ag 3) (.t 5) (.t 84), none⟩]))))))
  (.reg [⟨(some 41), .mv (.t 8), none⟩,
    ⟨(some 42), .bin .add (.t 41) (.k (.c (.d (.int .i64 1)))), none⟩,
    ⟨(some 8), .mv (.t 42), none⟩]))
def sf_iuses : SFn := ⟨2, 109,
  .seq (.reg [⟨(some 4), .mv (.k (.c (.d (.bool false)))), none⟩])
  (.seq (.reg [⟨(some 20), .mv (.t 1), none⟩,
    ⟨(some 21), .call 24 [(.t 20), (.k (.c (.d (.int .i64 2))))] none, none⟩,
    ⟨(some 1), .mv (.t 21), none⟩])
  (.seq (.reg [⟨(some 22), .mv (.t 0), none⟩,
    ⟨(some 23), .call 24 [(.t 22), (.k (.c (.d (.int .i64 1000))))] none, none⟩,
    ⟨(some 24), .call 25 [(.t 23)] none, none⟩,
    ⟨(some 25), .mv (.t 1), none⟩,
    ⟨(some 26), .build [.nil, (.d (.int .i64 0)), (.d (.int .i64 0))] [(0, 1, (.t 24)), (1, 1, (.t 25))], none⟩,
    ⟨(some 5), .alloc [.nil, (.d (.int .i64 0)), (.d (.int .i64 0))], none⟩,
    ⟨none, .store (.ag 3) (.t 5) (.t 26), none⟩])
  (.seq (.reg [⟨(some 28), .fieldAddr 0 (.t 5), none⟩,
    ⟨(some 29), .load .sc (.t 28), none⟩,
    ⟨(some 30), .mv (.t 1), none⟩,
    ⟨(some 31), .call 26 [(.t 29), (.t 30)] none, none⟩,
    ⟨(some 27), .mv (.t 31), none⟩,
    ⟨(some 32), .extract (.t 27) 0, none⟩,
    ⟨(some 33), .extract (.t 27) 1, none⟩,
    ⟨(some 6), .mv (.t 32), none⟩,
    ⟨(some 7), .mv (.t 33), none⟩])
  (.seq (.seq (.reg [⟨(some 34), .mv (.t 7), none⟩,
    ⟨(some 35), .bin .neq (.t 34) (.k (.c (.d (.int .i64 0)))), none⟩])
  (.cond (.t 35) (.seq (.reg [⟨(some 4), .mv (.k (.c (.d (.bool false)))), none⟩])
   (.ret))
   (.skip)))
  (.seq (.seq (.reg [⟨(some 8), .mv (.k (.c (.d (.int .i64 0)))), none⟩])
  (.block 0 (.loop lp_iuses_0)))
  (.seq (.reg [⟨(some 86), .load (.ag 3) (.t 5), none⟩,
    ⟨(some 87), .call 14 [(.t 86)] none, none⟩,
    ⟨(some 85), .mv (.t 87), none⟩,
    ⟨(some 88), .extract (.t 85) 0, none⟩,
    ⟨(some 89), .extract (.t 85) 1, none⟩,
    ⟨(some 15), .mv (.t 88), none⟩,
    ⟨(some 16), .mv (.t 89), none⟩])
  (.seq (.reg [⟨(some 91), .load (.ag 3) (.t 5), none⟩,
    ⟨(some 92), .call 12 [(.t 91), (.k (.c .nil))] none, none⟩,
    ⟨(some 90), .mv (.t 92), none⟩,
    ⟨(some 93), .extract (.t 90) 0, none⟩,
    ⟨(some 94), .extract (.t 90) 1, none⟩,
    ⟨(some 95), .extract (.t 90) 2, none⟩,
    ⟨(some 17), .alloc [.nil, (.d (.int .i64 0)), (.d (.int .i64 0))], none⟩,
    ⟨none, .store (.ag 3) (.t 17) (.t 93), none⟩,
    ⟨(some 18), .mv (.t 94), none⟩,
    ⟨(some 19), .mv (.t 95), none⟩])
  (.seq (.reg [⟨(some 96), .call 11 [] none, none⟩,
    ⟨(some 97), .mv (.t 96), none⟩,
    ⟨(some 98), .mv (.t 16), (some (97, true))⟩,
    ⟨(some 99), .bin .eql (.t 98) (.k (.c (.d (.int .i64 0)))), (some (97, true))⟩,
    ⟨(some 100), .pick (.t 97) (.t 99) (.k (.c (.d (.bool false)))), none⟩,
    ⟨(some 101), .mv (.t 100), none⟩,
    ⟨(some 102), .mv (.t 15), (some (101, true))⟩,
    ⟨(some 103), .bin .eql (.t 102) (.k (.c (.d (.int .i64 0)))), (some (101, true))⟩,
    ⟨(some 104), .pick (.t 101) (.t 103) (.k (.c (.d (.bool false)))), none⟩,
    ⟨(some 105), .mv (.t 104), none⟩,
    ⟨(some 106), .mv (.t 19), (some (105, true))⟩,
    ⟨(some 107), .bin .eql (.t 106) (.k (.c (.d (.int .i64 7)))), (some (105, true))⟩,
    ⟨(some 108), .pick (.t 105) (.t 107) (.k (.c (.d (.bool false)))), none⟩,
    ⟨(some 4), .mv (.t 108), none⟩])
  (.ret))))))))),
  [(4, none)]⟩
theorem cf_iuses : compFn Tryd.prog { own := [], comp := [], frz := [], nils := [] } Tryd.f8 = some sf_iuses := by kernel_rfl
set_option maxHeartbeats 1600000 in
theorem iuses_c (G : Glob) (seed : Int) (hseed1 : -9223372036854775808 ≤ seed) (hseed2 : seed ≤ 9223372036854775807) (height : Int) (hheight1 : -9223372036854775808 ≤ height) (hheight2 : height ≤ 9223372036854775807) (hF : G.at 0 = some (.ra (firstK.map wD))) (hG : G.at 1 = some (.ra (constK.map wD))) : Den Tryd.prog G 8 [.int .i64 seed, .int .i64 height] (.w (.c (.d (.bool true)))) := by
  refine den_walk Tryd.func8 cf_iuses rfl rfl ?_
  have e1 := within_c G seed 1000 (by decide)
  have hk := wkey_c G (withinN seed 1000)
  have lk := key9 (withinN seed 1000)
  generalize bytesK (withinN seed 1000) 32 = k at *
  have r2 := withinN_range height 2 (by decide)
  have e2 := within_c G height 2 (by decide)
  obtain ⟨m, hm'⟩ := Int.eq_ofNat_of_zero_le r2.1
  rw [hm'] at e2 r2
  have hm6 : m ≤ 6 := by omega
  have h64 := pow6 hm6
  have hs := shl6u hm6
  have hw := wru6 hm6
  have c1 := npub_c G hF hG k (m : Int)
  rw [(spub_ok lk hm6).1, (spub_ok lk hm6).2] at c1
  have hr := root_32 (lvsM k m)
  simp only [sf_iuses, putAll, wx, wy, wz, stV, seval, IntWalk.iteOmega, IntWalk.toNatUp, reduceCtorEq]
  refine st_call (e2) rfl (.inl rfl) ?_
  simp only [wx, wy, wz, stV, seval, IntWalk.iteOmega, IntWalk.toNatUp, reduceCtorEq]
  refine st_call (e1) rfl (.inl rfl) ?_
  simp only [wx, wy, wz, stV, seval, IntWalk.iteOmega, IntWalk.toNatUp, reduceCtorEq]
  refine st_call (hk) rfl (.inl rfl) ?_
  simp only [wx, wy, wz, stV, seval, IntWalk.iteOmega, IntWalk.toNatUp, reduceCtorEq]
  refine st_call (c1) rfl (.inl rfl) ?_
  simp only [wx, wy, wz, stV, seval, IntWalk.iteOmega, IntWalk.toNatUp, reduceCtorEq]
  refine loop_st (iuSt seed k (rootM (lvsM k m)) m) (fun i => 2 ^ m - i) (fun i => i ≤ 2 ^ m) 0 (Nat.zero_le _) ?_ ?_
  · refine ent_l (fun _ => 40) ?_ ?_ rfl rfl <;> simp only [wx, wex, wez, stV, seval, IntWalk.iteOmega, IntWalk.toNatUp, reduceCtorEq]
  · intro i hi
    by_cases hi2 : i < 2 ^ m
    · have hb := wbytes_c G seed (5 + (i : Int)) (by omega)
      have lb : (bytesK seed (5 + (i : Int))).length = 5 + i := by rw [bytesK_len]; omega
      generalize bytesK seed (5 + (i : Int)) = message at *
      have c2 := nsgn_c G hF hG k (m : Int) (i : Int) message (by omega)
      obtain ⟨s1, s2, s3⟩ := sgn_ok (seed := k) (msg := message) lk hm6 hi2 (by omega)
      rw [s1, s2, sgE_0 lk hm6 hi2 (by omega)] at c2
      have hl := sgM_len k hi2 message
      have c3 := nix_c G (sgM k m i message) (by omega)
      rw [(six_sg k hm6 hi2 message).1, (six_sg k hm6 hi2 message).2] at c3
      have c5 := nvf_c G hF hG (rootM (lvsM k m)) message (sgM k m i message) (by omega) (by omega) (by omega)
      rw [sg_verifies k hm6 hi2 (by omega)] at c5
      generalize sgM k m i message = x1 at *
      generalize rootM (lvsM k m) = p at *
      generalize 2 ^ m = N at *
      simp only [lp_iuses_0, iuSt, wx, wy, wz, stV, seval, IntWalk.iteOmega, IntWalk.toNatUp, reduceCtorEq, hw, hs]
      refine st_call (hb) rfl (.inl rfl) ?_
      simp only [wx, wy, wz, stV, seval, IntWalk.iteOmega, IntWalk.toNatUp, reduceCtorEq]
      refine st_call (c2) rfl (.inl rfl) ?_
      simp only [wx, wy, wz, stV, seval, IntWalk.iteOmega, IntWalk.toNatUp, reduceCtorEq]
      refine st_call (c3) rfl (.inl rfl) ?_
      simp only [wx, wy, wz, stV, seval, IntWalk.iteOmega, IntWalk.toNatUp, reduceCtorEq]
      refine st_call (c5) rfl (.inl rfl) ?_
      simp only [wx, wy, wz, stV, seval, IntWalk.iteOmega, IntWalk.toNatUp, reduceCtorEq]
      refine lop_next (i + 1) (by omega) (by omega) (ent_l (fun i => i) ?_ ?_ rfl rfl) <;> simp only [wx, wex, wez, stV, seval, IntWalk.iteOmega, IntWalk.toNatUp, reduceCtorEq]
    · obtain rfl : i = 2 ^ m := by omega
      have c4 := nlft_c G k (m : Int) ((2 ^ m : Nat) : Int)
      rw [(sleft_ok lk hm6 (n := 2 ^ m) (by omega)).1, (sleft_ok lk hm6 (n := 2 ^ m) (by omega)).2, Nat.sub_self] at c4
      have c2 := nsgn_c G hF hG k (m : Int) ((2 ^ m : Nat) : Int) [] (by decide)
      have hE := sgE_7 (seed := k) (msg := []) lk hm6
      have hS : sgS k (m : Int) ((2 ^ m : Nat) : Int) [] = keyD [] 0 0 := if_neg (by rw [hE]; decide)
      have hV : sgV' k (m : Int) ((2 ^ m : Nat) : Int) [] = [] := if_neg (by rw [hE]; decide)
      rw [hE, hS, hV] at c2
      generalize rootM (lvsM k m) = p at *
      generalize 2 ^ m = N at *
      simp only [lp_iuses_0, iuSt, wx, wy, wz, stV, seval, IntWalk.iteOmega, IntWalk.toNatUp, reduceCtorEq, hw, hs]
      refine st_call (c4) rfl (.inl rfl) ?_
      simp only [wx, wy, wz, stV, seval, IntWalk.iteOmega, IntWalk.toNatUp, reduceCtorEq]
      refine st_call (c2) rfl (.inl rfl) ?_
      simp only [wx, wy, wz, stV, seval, IntWalk.iteOmega, IntWalk.toNatUp, reduceCtorEq]
      refine st_call (known9_c G hF hG) rfl (.inl rfl) ?_
      simp only [wx, wy, wz, stV, seval, IntWalk.iteOmega, IntWalk.toNatUp, reduceCtorEq]
      exact ret_d1 (by simp only [wx, wy, wz, stV, seval, IntWalk.iteOmega, IntWalk.toNatUp, reduceCtorEq])
end Go.Proofs.YtjgkchmdhicmpaaDoor
