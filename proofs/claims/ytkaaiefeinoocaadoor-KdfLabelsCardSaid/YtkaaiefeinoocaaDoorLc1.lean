/- The laws of layer 3. Own work. -/
import Derived.Test.YtkaaiefeinoocaaDoorAlV
import Derived.Test.YtkaaiefeinoocaaDoorPk2
set_option linter.unusedVariables false
set_option linter.unusedSimpArgs false
namespace Go.Proofs.YtkaaiefeinoocaaDoor
open Go.RowKit

theorem binS_lst (a b : ByteArray) : binS .eql a b = some (.bool (a.data.toList == b.data.toList)) := by
  cases a; cases b
  rename_i x y
  have h := binS_same x.toList y.toList
  simpa using h
def sf_kacts : SFn := ⟨4, 121,
  .seq (.reg [⟨(some 8), .mv (.k (.c (.d (.bool false)))), none⟩])
  (.seq (.seq (.reg [⟨(some 17), .mv (.t 0), none⟩,
    ⟨(some 18), .len (.t 17), none⟩,
    ⟨(some 19), .bin .gtr (.t 18) (.k (.c (.d (.int .i64 150)))), none⟩,
    ⟨(some 20), .mv (.t 19), none⟩,
    ⟨(some 21), .mv (.t 1), (some (20, false))⟩,
    ⟨(some 22), .len (.t 21), (some (20, false))⟩,
    ⟨(some 23), .bin .gtr (.t 22) (.k (.c (.d (.int .i64 150)))), (some (20, false))⟩,
    ⟨(some 24), .pick (.t 20) (.k (.c (.d (.bool true)))) (.t 23), none⟩,
    ⟨(some 25), .mv (.t 24), none⟩,
    ⟨(some 26), .mv (.t 3), (some (25, false))⟩,
    ⟨(some 27), .lenStr (.t 26), (some (25, false))⟩,
    ⟨(some 28), .bin .gtr (.t 27) (.k (.c (.d (.int .i64 60)))), (some (25, false))⟩,
    ⟨(some 29), .pick (.t 25) (.k (.c (.d (.bool true)))) (.t 28), none⟩,
    ⟨(some 30), .mv (.t 29), none⟩,
    ⟨(some 31), .mv (.t 2), (some (30, false))⟩,
    ⟨(some 32), .bin .gtr (.t 31) (.k (.c (.d (.int .i64 300)))), (some (30, false))⟩,
    ⟨(some 33), .mv (.t 32), (some (30, false))⟩,
    ⟨(some 34), .mv (.t 2), (some (33, true))⟩,
    ⟨(some 35), .bin .leq (.t 34) (.k (.c (.d (.int .i64 8160)))), (some (33, true))⟩,
    ⟨(some 36), .pick (.t 33) (.t 35) (.k (.c (.d (.bool false)))), (some (30, false))⟩,
    ⟨(some 37), .pick (.t 30) (.k (.c (.d (.bool true)))) (.t 36), none⟩])
  (.cond (.t 37) (.seq (.reg [⟨(some 38), .call 8 [] none, none⟩,
     ⟨(some 8), .mv (.t 38), none⟩])
   (.ret))
   (.skip)))
  (.seq (.reg [⟨(some 40), .mv (.t 0), none⟩,
    ⟨(some 41), .mv (.t 1), none⟩,
    ⟨(some 42), .mv (.t 2), none⟩,
    ⟨(some 43), .call 9 [(.t 40), (.t 41), (.t 42)] none, none⟩,
    ⟨(some 39), .mv (.t 43), none⟩,
    ⟨(some 44), .extract (.t 39) 0, none⟩,
    ⟨(some 45), .extract (.t 39) 1, none⟩,
    ⟨(some 9), .mv (.t 44), none⟩,
    ⟨(some 10), .mv (.t 45), none⟩])
  (.seq (.reg [⟨(some 47), .mv (.t 0), none⟩,
    ⟨(some 48), .mv (.t 1), none⟩,
    ⟨(some 49), .mv (.t 2), none⟩,
    ⟨(some 50), .call 10 [(.t 47), (.t 48), (.t 49)] none, none⟩,
    ⟨(some 46), .mv (.t 50), none⟩,
    ⟨(some 51), .extract (.t 46) 0, none⟩,
    ⟨(some 52), .extract (.t 46) 1, none⟩,
    ⟨(some 11), .mv (.t 51), none⟩,
    ⟨(some 12), .mv (.t 52), none⟩])
  (.seq (.reg [⟨(some 54), .mv (.t 0), none⟩,
    ⟨(some 55), .mv (.t 1), none⟩,
    ⟨(some 56), .mv (.t 3), none⟩,
    ⟨(some 57), .s2b false (.t 56), none⟩,
    ⟨(some 58), .mv (.t 2), none⟩,
    ⟨(some 59), .call 11 [(.t 54), (.t 55), (.t 57), (.t 58)] none, none⟩,
    ⟨(some 53), .mv (.t 59), none⟩,
    ⟨(some 60), .extract (.t 53) 0, none⟩,
    ⟨(some 61), .extract (.t 53) 1, none⟩,
    ⟨(some 13), .mv (.t 60), none⟩,
    ⟨(some 14), .mv (.t 61), none⟩])
  (.seq (.reg [⟨(some 63), .mv (.t 0), none⟩,
    ⟨(some 64), .mv (.t 1), none⟩,
    ⟨(some 65), .mv (.t 3), none⟩,
    ⟨(some 66), .s2b false (.t 65), none⟩,
    ⟨(some 67), .mv (.t 2), none⟩,
    ⟨(some 68), .call 12 [(.t 63), (.t 64), (.t 66), (.t 67)] none, none⟩,
    ⟨(some 62), .mv (.t 68), none⟩,
    ⟨(some 69), .extract (.t 62) 0, none⟩,
    ⟨(some 70), .extract (.t 62) 1, none⟩,
    ⟨(some 15), .mv (.t 69), none⟩,
    ⟨(some 16), .mv (.t 70), none⟩])
  (.seq (.reg [⟨(some 71), .call 8 [] none, none⟩,
    ⟨(some 72), .mv (.t 71), none⟩,
    ⟨(some 73), .mv (.t 0), (some (72, true))⟩,
    ⟨(some 74), .mv (.t 1), (some (72, true))⟩,
    ⟨(some 75), .call 14 [(.t 73), (.t 74)] none, (some (72, true))⟩,
    ⟨(some 76), .mv (.t 0), (some (72, true))⟩,
    ⟨(some 77), .mv (.t 1), (some (72, true))⟩,
    ⟨(some 78), .call 15 [(.t 76), (.t 77)] none, (some (72, true))⟩,
    ⟨(some 79), .call 13 [(.t 75), (.t 78)] none, (some (72, true))⟩,
    ⟨(some 80), .pick (.t 72) (.t 79) (.k (.c (.d (.bool false)))), none⟩,
    ⟨(some 81), .mv (.t 80), none⟩,
    ⟨(some 82), .mv (.t 0), (some (81, true))⟩,
    ⟨(some 83), .mv (.t 1), (some (81, true))⟩,
    ⟨(some 84), .call 16 [(.t 82), (.t 83)] none, (some (81, true))⟩,
    ⟨(some 85), .mv (.t 0), (some (81, true))⟩,
    ⟨(some 86), .mv (.t 1), (some (81, true))⟩,
    ⟨(some 87), .call 17 [(.t 85), (.t 86)] none, (some (81, true))⟩,
    ⟨(some 88), .call 13 [(.t 84), (.t 87)] none, (some (81, true))⟩,
    ⟨(some 89), .pick (.t 81) (.t 88) (.k (.c (.d (.bool false)))), none⟩,
    ⟨(some 90), .mv (.t 89), none⟩,
    ⟨(some 91), .mv (.t 10), (some (90, true))⟩,
    ⟨(some 92), .mv (.t 12), (some (90, true))⟩,
    ⟨(some 93), .bin .eql (.t 91) (.t 92), (some (90, true))⟩,
    ⟨(some 94), .pick (.t 90) (.t 93) (.k (.c (.d (.bool false)))), none⟩,
    ⟨(some 95), .mv (.t 94), none⟩,
    ⟨(some 96), .mv (.t 9), (some (95, true))⟩,
    ⟨(some 97), .mv (.t 11), (some (95, true))⟩,
    ⟨(some 98), .call 13 [(.t 96), (.t 97)] none, (some (95, true))⟩,
    ⟨(some 99), .pick (.t 95) (.t 98) (.k (.c (.d (.bool false)))), none⟩,
    ⟨(some 100), .mv (.t 99), none⟩,
    ⟨(some 101), .mv (.t 14), (some (100, true))⟩,
    ⟨(some 102), .mv (.t 16), (some (100, true))⟩,
    ⟨(some 103), .bin .eql (.t 101) (.t 102), (some (100, true))⟩,
    ⟨(some 104), .pick (.t 100) (.t 103) (.k (.c (.d (.bool false)))), none⟩,
    ⟨(some 105), .mv (.t 104), none⟩,
    ⟨(some 106), .mv (.t 13), (some (105, true))⟩,
    ⟨(some 107), .mv (.t 15), (some (105, true))⟩,
    ⟨(some 108), .call 13 [(.t 106), (.t 107)] none, (some (105, true))⟩,
    ⟨(some 109), .pick (.t 105) (.t 108) (.k (.c (.d (.bool false)))), none⟩,
    ⟨(some 110), .mv (.t 109), none⟩,
    ⟨(some 111), .mv (.t 3), (some (110, true))⟩,
    ⟨(some 112), .mv (.t 3), (some (110, true))⟩,
    ⟨(some 113), .mv (.t 1), (some (110, true))⟩,
    ⟨(some 114), .call 18 [(.t 111), (.t 112), (.t 113)] none, (some (110, true))⟩,
    ⟨(some 115), .mv (.t 3), (some (110, true))⟩,
    ⟨(some 116), .mv (.t 3), (some (110, true))⟩,
    ⟨(some 117), .mv (.t 1), (some (110, true))⟩,
    ⟨(some 118), .call 19 [(.t 115), (.t 116), (.t 117)] none, (some (110, true))⟩,
    ⟨(some 119), .call 13 [(.t 114), (.t 118)] none, (some (110, true))⟩,
    ⟨(some 120), .pick (.t 110) (.t 119) (.k (.c (.d (.bool false)))), none⟩,
    ⟨(some 8), .mv (.t 120), none⟩])
  (.ret))))))),
  [(8, none)]⟩
theorem cf_kacts : compFn Tryd.prog { own := [], comp := [], frz := [], nils := [] } Tryd.f3 = some sf_kacts := by kernel_rfl
set_option maxHeartbeats 1600000 in
theorem kacts_c (G : Glob) (key : List UInt8) (hkey : key.length ≤ maxLen) (b : List UInt8) (hb : b.length ≤ maxLen) (n : Int) (hn1 : -9223372036854775808 ≤ n) (hn2 : n ≤ 9223372036854775807) (name : ByteArray) (hname : name.size ≤ maxLen) (hF : G.at 0 = some (.ra (firstK.map wD))) (hG : G.at 1 = some (.ra (constK.map wD))) : Den Tryd.prog G 3 [.sl (key.map bD), .sl (b.map bD), .int .i64 n, .str name] (.w (.c (.d (.bool true)))) := by
  refine den_walk Tryd.func3 cf_kacts rfl rfl ?_
  by_cases g3 : 150 < key.length
  · simp only [sf_kacts, putAll, wx, wy, wz, stV, seval, IntWalk.iteOmega, IntWalk.toNatUp, reduceCtorEq]
    refine st_call (known3_c G hF hG) rfl (.inl rfl) ?_
    simp only [wx, wy, wz, stV, seval, IntWalk.iteOmega, IntWalk.toNatUp, reduceCtorEq]
    exact ret_d1 (by simp only [wx, wy, wz, stV, seval, IntWalk.iteOmega, IntWalk.toNatUp, reduceCtorEq])
  · by_cases g2 : 150 < b.length
    · simp only [sf_kacts, putAll, wx, wy, wz, stV, seval, IntWalk.iteOmega, IntWalk.toNatUp, reduceCtorEq]
      refine st_call (known3_c G hF hG) rfl (.inl rfl) ?_
      simp only [wx, wy, wz, stV, seval, IntWalk.iteOmega, IntWalk.toNatUp, reduceCtorEq]
      exact ret_d1 (by simp only [wx, wy, wz, stV, seval, IntWalk.iteOmega, IntWalk.toNatUp, reduceCtorEq])
    · by_cases g1 : 60 < name.size
      · simp only [sf_kacts, putAll, wx, wy, wz, stV, seval, IntWalk.iteOmega, IntWalk.toNatUp, reduceCtorEq]
        refine st_call (known3_c G hF hG) rfl (.inl rfl) ?_
        simp only [wx, wy, wz, stV, seval, IntWalk.iteOmega, IntWalk.toNatUp, reduceCtorEq]
        exact ret_d1 (by simp only [wx, wy, wz, stV, seval, IntWalk.iteOmega, IntWalk.toNatUp, reduceCtorEq])
      · have hnl : name.data.toList.length ≤ 35184372088832 := by have : name.data.toList.length = name.size := rfl; omega
        by_cases g0 : 300 < n
        · by_cases g00 : n ≤ 8160
          · simp only [sf_kacts, putAll, wx, wy, wz, stV, seval, IntWalk.iteOmega, IntWalk.toNatUp, reduceCtorEq]
            refine st_call (known3_c G hF hG) rfl (.inl rfl) ?_
            simp only [wx, wy, wz, stV, seval, IntWalk.iteOmega, IntWalk.toNatUp, reduceCtorEq]
            exact ret_d1 (by simp only [wx, wy, wz, stV, seval, IntWalk.iteOmega, IntWalk.toNatUp, reduceCtorEq])
          · simp only [sf_kacts, putAll, wx, wy, wz, stV, seval, IntWalk.iteOmega, IntWalk.toNatUp, reduceCtorEq]
            refine st_call (exp_c G hF hG key b (by omega) (by omega) n hn1 hn2) rfl (.inl rfl) ?_
            simp only [wx, wy, wz, stV, seval, IntWalk.iteOmega, IntWalk.toNatUp, reduceCtorEq]
            refine st_call (rexp_c G key b (by omega) (by omega) n hn1 hn2) rfl (.inl rfl) ?_
            simp only [wx, wy, wz, stV, seval, IntWalk.iteOmega, IntWalk.toNatUp, reduceCtorEq]
            refine st_call (der_c G hF hG key b name.data.toList (by omega) (by omega) hnl n hn1 hn2) rfl (.inl rfl) ?_
            simp only [wx, wy, wz, stV, seval, IntWalk.iteOmega, IntWalk.toNatUp, reduceCtorEq]
            refine st_call (rder_c G key b name.data.toList (by omega) (by omega) hnl n hn1 hn2) rfl (.inl rfl) ?_
            simp only [wx, wy, wz, stV, seval, IntWalk.iteOmega, IntWalk.toNatUp, reduceCtorEq]
            refine st_call (known3_c G hF hG) rfl (.inl rfl) ?_
            simp only [wx, wy, wz, stV, seval, IntWalk.iteOmega, IntWalk.toNatUp, reduceCtorEq]
            refine st_call (mac_c G hF hG key b (by omega) (by omega)) rfl (.inl rfl) ?_
            simp only [wx, wy, wz, stV, seval, IntWalk.iteOmega, IntWalk.toNatUp, reduceCtorEq]
            refine st_call (rmac_c G key b (by omega) (by omega)) rfl (.inl rfl) ?_
            simp only [wx, wy, wz, stV, seval, IntWalk.iteOmega, IntWalk.toNatUp, reduceCtorEq]
            refine st_call (rsame_c G (macK key b) (macK key b)) rfl (.inl rfl) ?_
            simp only [wx, wy, wz, stV, seval, IntWalk.iteOmega, IntWalk.toNatUp, reduceCtorEq]
            refine st_call (ext_c G hF hG key b (by omega) (by omega)) rfl (.inl rfl) ?_
            simp only [wx, wy, wz, stV, seval, IntWalk.iteOmega, IntWalk.toNatUp, reduceCtorEq]
            refine st_call (rext_c G key b (by omega) (by omega)) rfl (.inl rfl) ?_
            simp only [wx, wy, wz, stV, seval, IntWalk.iteOmega, IntWalk.toNatUp, reduceCtorEq]
            refine st_call (rsame_c G (macK key b) (macK key b)) rfl (.inl rfl) ?_
            simp only [wx, wy, wz, stV, seval, IntWalk.iteOmega, IntWalk.toNatUp, reduceCtorEq]
            refine st_call (rsame_c G (expL key b n) (expL key b n)) rfl (.inl rfl) ?_
            simp only [wx, wy, wz, stV, seval, IntWalk.iteOmega, IntWalk.toNatUp, reduceCtorEq]
            refine st_call (rsame_c G (expL (macK key b) name.data.toList n) (expL (macK key b) name.data.toList n)) rfl (.inl rfl) ?_
            simp only [wx, wy, wz, stV, seval, IntWalk.iteOmega, IntWalk.toNatUp, reduceCtorEq]
            refine st_call (lab_c G hF hG name name b (by omega) (by omega) (by omega)) rfl (.inl rfl) ?_
            simp only [wx, wy, wz, stV, seval, IntWalk.iteOmega, IntWalk.toNatUp, reduceCtorEq]
            refine st_call (rlab_c G name name b (by omega) (by omega) (by omega)) rfl (.inl rfl) ?_
            simp only [wx, wy, wz, stV, seval, IntWalk.iteOmega, IntWalk.toNatUp, reduceCtorEq]
            refine st_call (rsame_c G (labK name.data.toList name.data.toList b) (labK name.data.toList name.data.toList b)) rfl (.inl rfl) ?_
            simp only [wx, wy, wz, stV, seval, IntWalk.iteOmega, IntWalk.toNatUp, reduceCtorEq]
            exact ret_d1 (by simp only [wx, wy, wz, stV, seval, IntWalk.iteOmega, IntWalk.toNatUp, reduceCtorEq])
        · simp only [sf_kacts, putAll, wx, wy, wz, stV, seval, IntWalk.iteOmega, IntWalk.toNatUp, reduceCtorEq]
          refine st_call (exp_c G hF hG key b (by omega) (by omega) n hn1 hn2) rfl (.inl rfl) ?_
          simp only [wx, wy, wz, stV, seval, IntWalk.iteOmega, IntWalk.toNatUp, reduceCtorEq]
          refine st_call (rexp_c G key b (by omega) (by omega) n hn1 hn2) rfl (.inl rfl) ?_
          simp only [wx, wy, wz, stV, seval, IntWalk.iteOmega, IntWalk.toNatUp, reduceCtorEq]
          refine st_call (der_c G hF hG key b name.data.toList (by omega) (by omega) hnl n hn1 hn2) rfl (.inl rfl) ?_
          simp only [wx, wy, wz, stV, seval, IntWalk.iteOmega, IntWalk.toNatUp, reduceCtorEq]
          refine st_call (rder_c G key b name.data.toList (by omega) (by omega) hnl n hn1 hn2) rfl (.inl rfl) ?_
          simp only [wx, wy, wz, stV, seval, IntWalk.iteOmega, IntWalk.toNatUp, reduceCtorEq]
          refine st_call (known3_c G hF hG) rfl (.inl rfl) ?_
          simp only [wx, wy, wz, stV, seval, IntWalk.iteOmega, IntWalk.toNatUp, reduceCtorEq]
          refine st_call (mac_c G hF hG key b (by omega) (by omega)) rfl (.inl rfl) ?_
          simp only [wx, wy, wz, stV, seval, IntWalk.iteOmega, IntWalk.toNatUp, reduceCtorEq]
          refine st_call (rmac_c G key b (by omega) (by omega)) rfl (.inl rfl) ?_
          simp only [wx, wy, wz, stV, seval, IntWalk.iteOmega, IntWalk.toNatUp, reduceCtorEq]
          refine st_call (rsame_c G (macK key b) (macK key b)) rfl (.inl rfl) ?_
          simp only [wx, wy, wz, stV, seval, IntWalk.iteOmega, IntWalk.toNatUp, reduceCtorEq]
          refine st_call (ext_c G hF hG key b (by omega) (by omega)) rfl (.inl rfl) ?_
          simp only [wx, wy, wz, stV, seval, IntWalk.iteOmega, IntWalk.toNatUp, reduceCtorEq]
          refine st_call (rext_c G key b (by omega) (by omega)) rfl (.inl rfl) ?_
          simp only [wx, wy, wz, stV, seval, IntWalk.iteOmega, IntWalk.toNatUp, reduceCtorEq]
          refine st_call (rsame_c G (macK key b) (macK key b)) rfl (.inl rfl) ?_
          simp only [wx, wy, wz, stV, seval, IntWalk.iteOmega, IntWalk.toNatUp, reduceCtorEq]
          refine st_call (rsame_c G (expL key b n) (expL key b n)) rfl (.inl rfl) ?_
          simp only [wx, wy, wz, stV, seval, IntWalk.iteOmega, IntWalk.toNatUp, reduceCtorEq]
          refine st_call (rsame_c G (expL (macK key b) name.data.toList n) (expL (macK key b) name.data.toList n)) rfl (.inl rfl) ?_
          simp only [wx, wy, wz, stV, seval, IntWalk.iteOmega, IntWalk.toNatUp, reduceCtorEq]
          refine st_call (lab_c G hF hG name name b (by omega) (by omega) (by omega)) rfl (.inl rfl) ?_
          simp only [wx, wy, wz, stV, seval, IntWalk.iteOmega, IntWalk.toNatUp, reduceCtorEq]
          refine st_call (rlab_c G name name b (by omega) (by omega) (by omega)) rfl (.inl rfl) ?_
          simp only [wx, wy, wz, stV, seval, IntWalk.iteOmega, IntWalk.toNatUp, reduceCtorEq]
          refine st_call (rsame_c G (labK name.data.toList name.data.toList b) (labK name.data.toList name.data.toList b)) rfl (.inl rfl) ?_
          simp only [wx, wy, wz, stV, seval, IntWalk.iteOmega, IntWalk.toNatUp, reduceCtorEq]
          exact ret_d1 (by simp only [wx, wy, wz, stV, seval, IntWalk.iteOmega, IntWalk.toNatUp, reduceCtorEq])
def sf_kpre : SFn := ⟨4, 70,
  .seq (.reg [⟨(some 8), .mv (.k (.c (.d (.bool false)))), none⟩])
  (.seq (.seq (.reg [⟨(some 13), .mv (.t 0), none⟩,
    ⟨(some 14), .len (.t 13), none⟩,
    ⟨(some 15), .bin .gtr (.t 14) (.k (.c (.d (.int .i64 100)))), none⟩,
    ⟨(some 16), .mv (.t 15), none⟩,
    ⟨(some 17), .mv (.t 1), (some (16, false))⟩,
    ⟨(some 18), .len (.t 17), (some (16, false))⟩,
    ⟨(some 19), .bin .gtr (.t 18) (.k (.c (.d (.int .i64 100)))), (some (16, false))⟩,
    ⟨(some 20), .pick (.t 16) (.k (.c (.d (.bool true)))) (.t 19), none⟩])
  (.cond (.t 20) (.seq (.reg [⟨(some 21), .call 8 [] none, none⟩,
     ⟨(some 8), .mv (.t 21), none⟩])
   (.ret))
   (.skip)))
  (.seq (.reg [⟨(some 22), .mv (.t 2), none⟩,
    ⟨(some 23), .call 20 [(.t 22), (.k (.c (.d (.int .i64 200))))] none, none⟩,
    ⟨(some 2), .mv (.t 23), none⟩])
  (.seq (.reg [⟨(some 24), .mv (.t 3), none⟩,
    ⟨(some 25), .mv (.t 2), none⟩,
    ⟨(some 26), .bin .add (.t 25) (.k (.c (.d (.int .i64 1)))), none⟩,
    ⟨(some 27), .call 20 [(.t 24), (.t 26)] none, none⟩,
    ⟨(some 3), .mv (.t 27), none⟩])
  (.seq (.reg [⟨(some 29), .mv (.t 0), none⟩,
    ⟨(some 30), .mv (.t 1), none⟩,
    ⟨(some 31), .mv (.t 2), none⟩,
    ⟨(some 32), .call 9 [(.t 29), (.t 30), (.t 31)] none, none⟩,
    ⟨(some 28), .mv (.t 32), none⟩,
    ⟨(some 33), .extract (.t 28) 0, none⟩,
    ⟨(some 34), .extract (.t 28) 1, none⟩,
    ⟨(some 9), .mv (.t 33), none⟩,
    ⟨(some 10), .mv (.t 34), none⟩])
  (.seq (.reg [⟨(some 36), .mv (.t 0), none⟩,
    ⟨(some 37), .mv (.t 1), none⟩,
    ⟨(some 38), .mv (.t 3), none⟩,
    ⟨(some 39), .call 9 [(.t 36), (.t 37), (.t 38)] none, none⟩,
    ⟨(some 35), .mv (.t 39), none⟩,
    ⟨(some 40), .extract (.t 35) 0, none⟩,
    ⟨(some 41), .extract (.t 35) 1, none⟩,
    ⟨(some 11), .mv (.t 40), none⟩,
    ⟨(some 12), .mv (.t 41), none⟩])
  (.seq (.reg [⟨(some 42), .call 8 [] none, none⟩,
    ⟨(some 43), .mv (.t 42), none⟩,
    ⟨(some 44), .mv (.t 10), (some (43, true))⟩,
    ⟨(some 45), .bin .eql (.t 44) (.k (.c (.d (.int .i64 0)))), (some (43, true))⟩,
    ⟨(some 46), .pick (.t 43) (.t 45) (.k (.c (.d (.bool false)))), none⟩,
    ⟨(some 47), .mv (.t 46), none⟩,
    ⟨(some 48), .mv (.t 12), (some (47, true))⟩,
    ⟨(some 49), .bin .eql (.t 48) (.k (.c (.d (.int .i64 0)))), (some (47, true))⟩,
    ⟨(some 50), .pick (.t 47) (.t 49) (.k (.c (.d (.bool false)))), none⟩,
    ⟨(some 51), .mv (.t 50), none⟩,
    ⟨(some 52), .mv (.t 9), (some (51, true))⟩,
    ⟨(some 53), .len (.t 52), (some (51, true))⟩,
    ⟨(some 54), .mv (.t 2), (some (51, true))⟩,
    ⟨(some 55), .bin .eql (.t 53) (.t 54), (some (51, true))⟩,
    ⟨(some 56), .pick (.t 51) (.t 55) (.k (.c (.d (.bool false)))), none⟩,
    ⟨(some 57), .mv (.t 56), none⟩,
    ⟨(some 58), .mv (.t 11), (some (57, true))⟩,
    ⟨(some 59), .len (.t 58), (some (57, true))⟩,
    ⟨(some 60), .mv (.t 3), (some (57, true))⟩,
    ⟨(some 61), .bin .eql (.t 59) (.t 60), (some (57, true))⟩,
    ⟨(some 62), .pick (.t 57) (.t 61) (.k (.c (.d (.bool false)))), none⟩,
    ⟨(some 63), .mv (.t 62), none⟩,
    ⟨(some 64), .mv (.t 9), (some (63, true))⟩,
    ⟨(some 65), .mv (.t 3), (some (63, true))⟩,
    ⟨(some 66), .slice 1 (.t 64) none (some (.t 65)) none, (some (63, true))⟩,
    ⟨(some 67), .mv (.t 11), (some (63, true))⟩,
    ⟨(some 68), .call 13 [(.t 66), (.t 67)] none, (some (63, true))⟩,
    ⟨(some 69), .pick (.t 63) (.t 68) (.k (.c (.d (.bool false)))), none⟩,
    ⟨(some 8), .mv (.t 69), none⟩])
  (.ret))))))),
  [(8, none)]⟩
theorem cf_kpre : compFn Tryd.prog { own := [], comp := [], frz := [], nils := [] } Tryd.f4 = some sf_kpre := by kernel_rfl
set_option maxHeartbeats 1600000 in
theorem kpre_c (G : Glob) (key : List UInt8) (hkey : key.length ≤ maxLen) (info : List UInt8) (hinfo : info.length ≤ maxLen) (n : Int) (hn1 : -9223372036854775808 ≤ n) (hn2 : n ≤ 9223372036854775807) (m : Int) (hm1 : -9223372036854775808 ≤ m) (hm2 : m ≤ 9223372036854775807) (hF : G.at 0 = some (.ra (firstK.map wD))) (hG : G.at 1 = some (.ra (constK.map wD))) : Den Tryd.prog G 4 [.sl (key.map bD), .sl (info.map bD), .int .i64 n, .int .i64 m] (.w (.c (.d (.bool true)))) := by
  refine den_walk Tryd.func4 cf_kpre rfl rfl ?_
  by_cases g2 : 100 < key.length
  · simp only [sf_kpre, putAll, wx, wy, wz, stV, seval, IntWalk.iteOmega, IntWalk.toNatUp, reduceCtorEq]
    refine st_call (known3_c G hF hG) rfl (.inl rfl) ?_
    simp only [wx, wy, wz, stV, seval, IntWalk.iteOmega, IntWalk.toNatUp, reduceCtorEq]
    exact ret_d1 (by simp only [wx, wy, wz, stV, seval, IntWalk.iteOmega, IntWalk.toNatUp, reduceCtorEq])
  · by_cases g1 : 100 < info.length
    · simp only [sf_kpre, putAll, wx, wy, wz, stV, seval, IntWalk.iteOmega, IntWalk.toNatUp, reduceCtorEq]
      refine st_call (known3_c G hF hG) rfl (.inl rfl) ?_
      simp only [wx, wy, wz, stV, seval, IntWalk.iteOmega, IntWalk.toNatUp, reduceCtorEq]
      exact ret_d1 (by simp only [wx, wy, wz, stV, seval, IntWalk.iteOmega, IntWalk.toNatUp, reduceCtorEq])
    · have r1 := withinN_range n 200 (by omega)
      obtain ⟨p, hp⟩ := Int.eq_ofNat_of_zero_le r1.1
      have r2 := withinN_range m (withinN n 200 + 1) (by omega)
      obtain ⟨q, hq⟩ := Int.eq_ofNat_of_zero_le r2.1
      simp only [sf_kpre, putAll, wx, wy, wz, stV, seval, IntWalk.iteOmega, IntWalk.toNatUp, reduceCtorEq]
      refine st_call (within_c G n 200 (by omega)) rfl (.inl rfl) ?_
      simp only [wx, wy, wz, stV, seval, IntWalk.iteOmega, IntWalk.toNatUp, reduceCtorEq]
      refine st_call (within_c G m (withinN n 200 + 1) (by omega)) rfl (.inl rfl) ?_
      simp only [wx, wy, wz, stV, seval, IntWalk.iteOmega, IntWalk.toNatUp, reduceCtorEq]
      rw [hq] at r2 ⊢
      rw [hp] at r1 r2 ⊢
      have e1 := exp_c G hF hG key info (by omega) (by omega) (p : Int) (by omega) (by omega)
      have e2 := exp_c G hF hG key info (by omega) (by omega) (q : Int) (by omega) (by omega)
      rw [expE_in (by omega), expL_in key info (by omega), Int.toNat_natCast] at e1 e2
      have l1 := expK_len key info p
      have l2 := expK_len key info q
      have ht := expK_take key info p q (by omega)
      have hqp : q ≤ p := by omega
      refine st_call (e1) rfl (.inl rfl) ?_
      simp only [wx, wy, wz, stV, seval, IntWalk.iteOmega, IntWalk.toNatUp, reduceCtorEq]
      refine st_call (e2) rfl (.inl rfl) ?_
      simp only [wx, wy, wz, stV, seval, IntWalk.iteOmega, IntWalk.toNatUp, reduceCtorEq]
      refine st_call (known3_c G hF hG) rfl (.inl rfl) ?_
      simp only [wx, wy, wz, stV, seval, IntWalk.iteOmega, IntWalk.toNatUp, reduceCtorEq]
      simp only [wx, wy, wz, stV, seval, IntWalk.iteOmega, IntWalk.toNatUp, reduceCtorEq, l1, l2, ht]
      refine st_call (rsame_c G (expK key info q) (expK key info q)) rfl (.inl rfl) ?_
      simp only [wx, wy, wz, stV, seval, IntWalk.iteOmega, IntWalk.toNatUp, reduceCtorEq]
      exact ret_d1 (by simp only [wx, wy, wz, stV, seval, IntWalk.iteOmega, IntWalk.toNatUp, reduceCtorEq])
def sf_kkeys : SFn := ⟨3, 54,
  .seq (.reg [⟨(some 6), .mv (.k (.c (.d (.bool false)))), none⟩])
  (.seq (.seq (.reg [⟨(some 9), .mv (.t 2), none⟩,
    ⟨(some 10), .len (.t 9), none⟩,
    ⟨(some 11), .bin .gtr (.t 10) (.k (.c (.d (.int .i64 100)))), none⟩])
  (.cond (.t 11) (.seq (.reg [⟨(some 12), .call 8 [] none, none⟩,
     ⟨(some 6), .mv (.t 12), none⟩])
   (.ret))
   (.skip)))
  (.seq (.reg [⟨(some 13), .mv (.t 0), none⟩,
    ⟨(some 14), .call 20 [(.t 13), (.k (.c (.d (.int .i64 1000))))] none, none⟩,
    ⟨(some 15), .mv (.t 1), none⟩,
    ⟨(some 16), .call 20 [(.t 15), (.k (.c (.d (.int .i64 40))))] none, none⟩,
    ⟨(some 17), .bin .add (.k (.c (.d (.int .i64 65)))) (.t 16), none⟩,
    ⟨(some 18), .call 21 [(.t 14), (.t 17)] none, none⟩,
    ⟨(some 7), .mv (.t 18), none⟩])
  (.seq (.reg [⟨(some 19), .mv (.t 0), none⟩,
    ⟨(some 20), .call 20 [(.t 19), (.k (.c (.d (.int .i64 1000))))] none, none⟩,
    ⟨(some 21), .mv (.t 1), none⟩,
    ⟨(some 22), .call 20 [(.t 21), (.k (.c (.d (.int .i64 60))))] none, none⟩,
    ⟨(some 23), .call 21 [(.t 20), (.t 22)] none, none⟩,
    ⟨(some 8), .mv (.t 23), none⟩])
  (.seq (.reg [⟨(some 24), .call 8 [] none, none⟩,
    ⟨(some 25), .mv (.t 24), none⟩,
    ⟨(some 26), .mv (.t 7), (some (25, true))⟩,
    ⟨(some 27), .mv (.t 2), (some (25, true))⟩,
    ⟨(some 28), .call 14 [(.t 26), (.t 27)] none, (some (25, true))⟩,
    ⟨(some 29), .mv (.t 7), (some (25, true))⟩,
    ⟨(some 30), .mv (.t 2), (some (25, true))⟩,
    ⟨(some 31), .call 15 [(.t 29), (.t 30)] none, (some (25, true))⟩,
    ⟨(some 32), .call 13 [(.t 28), (.t 31)] none, (some (25, true))⟩,
    ⟨(some 33), .pick (.t 25) (.t 32) (.k (.c (.d (.bool false)))), none⟩,
    ⟨(some 34), .mv (.t 33), none⟩,
    ⟨(some 35), .mv (.t 8), (some (34, true))⟩,
    ⟨(some 36), .bldSl false 2 1 (.int .u8 0) [(0, (.k (.c (.d (.int .u8 0))))), (1, (.k (.c (.d (.int .u8 0)))))], (some (34, true))⟩,
    ⟨(some 37), .bldSl false 2 1 (.sl []) [(0, (.t 35)), (1, (.t 36))], (some (34, true))⟩,
    ⟨(some 38), .call 22 [(.t 37)] none, (some (34, true))⟩,
    ⟨(some 39), .mv (.t 2), (some (34, true))⟩,
    ⟨(some 40), .call 14 [(.t 38), (.t 39)] none, (some (34, true))⟩,
    ⟨(some 41), .mv (.t 8), (some (34, true))⟩,
    ⟨(some 42), .mv (.t 2), (some (34, true))⟩,
    ⟨(some 43), .call 14 [(.t 41), (.t 42)] none, (some (34, true))⟩,
    ⟨(some 44), .call 13 [(.t 40), (.t 43)] none, (some (34, true))⟩,
    ⟨(some 45), .pick (.t 34) (.t 44) (.k (.c (.d (.bool false)))), none⟩,
    ⟨(some 46), .mv (.t 45), none⟩,
    ⟨(some 47), .mv (.t 2), (some (46, true))⟩,
    ⟨(some 48), .call 16 [(.k (.c .nil)), (.t 47)] none, (some (46, true))⟩,
    ⟨(some 49), .make 1 1 (.int .u8 0) (.k (.c (.d (.int .i64 32)))) (.k (.c (.d (.int .i64 32)))), (some (46, true))⟩,
    ⟨(some 50), .mv (.t 2), (some (46, true))⟩,
    ⟨(some 51), .call 16 [(.t 49), (.t 50)] none, (some (46, true))⟩,
    ⟨(some 52), .call 13 [(.t 48), (.t 51)] none, (some (46, true))⟩,
    ⟨(some 53), .pick (.t 46) (.t 52) (.k (.c (.d (.bool false)))), none⟩,
    ⟨(some 6), .mv (.t 53), none⟩])
  (.ret))))),
  [(6, none)]⟩
theorem cf_kkeys : compFn Tryd.prog { own := [], comp := [], frz := [], nils := [] } Tryd.f5 = some sf_kkeys := by kernel_rfl
set_option maxHeartbeats 1600000 in
theorem kkeys_c (G : Glob) (seed : Int) (hseed1 : -9223372036854775808 ≤ seed) (hseed2 : seed ≤ 9223372036854775807) (n : Int) (hn1 : -9223372036854775808 ≤ n) (hn2 : n ≤ 9223372036854775807) (b : List UInt8) (hb : b.length ≤ maxLen) (hF : G.at 0 = some (.ra (firstK.map wD))) (hG : G.at 1 = some (.ra (constK.map wD))) : Den Tryd.prog G 5 [.int .i64 seed, .int .i64 n, .sl (b.map bD)] (.w (.c (.d (.bool true)))) := by
  refine den_walk Tryd.func5 cf_kkeys rfl rfl ?_
  by_cases g1 : 100 < b.length
  · simp only [sf_kkeys, putAll, wx, wy, wz, stV, seval, IntWalk.iteOmega, IntWalk.toNatUp, reduceCtorEq]
    refine st_call (known3_c G hF hG) rfl (.inl rfl) ?_
    simp only [wx, wy, wz, stV, seval, IntWalk.iteOmega, IntWalk.toNatUp, reduceCtorEq]
    exact ret_d1 (by simp only [wx, wy, wz, stV, seval, IntWalk.iteOmega, IntWalk.toNatUp, reduceCtorEq])
  · have r0 := withinN_range seed 1000 (by omega)
    have r1 := withinN_range n 40 (by omega)
    have r2 := withinN_range n 60 (by omega)
    have hb1 : (bytesK (withinN seed 1000) (65 + withinN n 40)).length ≤ 140737488355328 := by rw [bytesK_len]; omega
    have hb2 : (bytesK (withinN seed 1000) (withinN n 60)).length ≤ 60 := by rw [bytesK_len]; omega
    simp only [sf_kkeys, putAll, wx, wy, wz, stV, seval, IntWalk.iteOmega, IntWalk.toNatUp, reduceCtorEq]
    refine st_call (within_c G seed 1000 (by omega)) rfl (.inl rfl) ?_
    simp only [wx, wy, wz, stV, seval, IntWalk.iteOmega, IntWalk.toNatUp, reduceCtorEq]
    refine st_call (within_c G n 40 (by omega)) rfl (.inl rfl) ?_
    simp only [wx, wy, wz, stV, seval, IntWalk.iteOmega, IntWalk.toNatUp, reduceCtorEq]
    refine st_call (wbytes_c G (withinN seed 1000) (65 + withinN n 40) (by omega)) rfl (.inl rfl) ?_
    simp only [wx, wy, wz, stV, seval, IntWalk.iteOmega, IntWalk.toNatUp, reduceCtorEq]
    refine st_call (within_c G seed 1000 (by omega)) rfl (.inl rfl) ?_
    simp only [wx, wy, wz, stV, seval, IntWalk.iteOmega, IntWalk.toNatUp, reduceCtorEq]
    refine st_call (within_c G n 60 (by omega)) rfl (.inl rfl) ?_
    simp only [wx, wy, wz, stV, seval, IntWalk.iteOmega, IntWalk.toNatUp, reduceCtorEq]
    refine st_call (wbytes_c G (withinN seed 1000) (withinN n 60) (by omega)) rfl (.inl rfl) ?_
    simp only [wx, wy, wz, stV, seval, IntWalk.iteOmega, IntWalk.toNatUp, reduceCtorEq]
    generalize bytesK (withinN seed 1000) (65 + withinN n 40) = long at *
    generalize bytesK (withinN seed 1000) (withinN n 60) = short at *
    have hj := rjoin_c G [short, [0, 0]] (by simp) (by simp; omega)
    have hf : [short, [0, 0]].flatten = short ++ List.replicate 2 0 := by simp
    rw [hf] at hj
    have hz := macK_zeros short b 2 (by omega)
    have hm := mac_c G hF hG (short ++ List.replicate 2 0) b (by rw [List.length_append, List.length_replicate]; omega) (by omega)
    rw [hz] at hm
    have hz2 := macK_zeros [] b 32 (by decide)
    rw [List.nil_append] at hz2
    have hm2 := ext_c G hF hG (List.replicate 32 0) b (by decide) (by omega)
    rw [hz2] at hm2
    refine st_call (known3_c G hF hG) rfl (.inl rfl) ?_
    simp only [wx, wy, wz, stV, seval, IntWalk.iteOmega, IntWalk.toNatUp, reduceCtorEq]
    refine st_call (mac_c G hF hG long b (by omega) (by omega)) rfl (.inl rfl) ?_
    simp only [wx, wy, wz, stV, seval, IntWalk.iteOmega, IntWalk.toNatUp, reduceCtorEq]
    refine st_call (rmac_c G long b (by omega) (by omega)) rfl (.inl rfl) ?_
    simp only [wx, wy, wz, stV, seval, IntWalk.iteOmega, IntWalk.toNatUp, reduceCtorEq]
    refine st_call (rsame_c G (macK long b) (macK long b)) rfl (.inl rfl) ?_
    simp only [wx, wy, wz, stV, seval, IntWalk.iteOmega, IntWalk.toNatUp, reduceCtorEq]
    refine st_call (hj) rfl (.inl rfl) ?_
    simp only [wx, wy, wz, stV, seval, IntWalk.iteOmega, IntWalk.toNatUp, reduceCtorEq]
    refine st_call (hm) rfl (.inl rfl) ?_
    simp only [wx, wy, wz, stV, seval, IntWalk.iteOmega, IntWalk.toNatUp, reduceCtorEq]
    refine st_call (mac_c G hF hG short b (by omega) (by omega)) rfl (.inl rfl) ?_
    simp only [wx, wy, wz, stV, seval, IntWalk.iteOmega, IntWalk.toNatUp, reduceCtorEq]
    refine st_call (rsame_c G (macK short b) (macK short b)) rfl (.inl rfl) ?_
    simp only [wx, wy, wz, stV, seval, IntWalk.iteOmega, IntWalk.toNatUp, reduceCtorEq]
    refine st_call (ext_c G hF hG [] b (by decide) (by omega)) rfl (.inl rfl) ?_
    simp only [wx, wy, wz, stV, seval, IntWalk.iteOmega, IntWalk.toNatUp, reduceCtorEq]
    refine st_call (hm2) rfl (.inr (fl_b _ _)) ?_
    simp only [wx, wy, wz, stV, seval, IntWalk.iteOmega, IntWalk.toNatUp, reduceCtorEq]
    refine st_call (rsame_c G (macK [] b) (macK [] b)) rfl (.inl rfl) ?_
    simp only [wx, wy, wz, stV, seval, IntWalk.iteOmega, IntWalk.toNatUp, reduceCtorEq]
    exact ret_d1 (by simp only [wx, wy, wz, stV, seval, IntWalk.iteOmega, IntWalk.toNatUp, reduceCtorEq])
def sf_kparts : SFn := ⟨4, 82,
  .seq (.reg [⟨(some 8), .mv (.k (.c (.d (.bool false)))), none⟩])
  (.seq (.seq (.reg [⟨(some 15), .mv (.t 0), none⟩,
    ⟨(some 16), .len (.t 15), none⟩,
    ⟨(some 17), .bin .gtr (.t 16) (.k (.c (.d (.int .i64 80)))), none⟩,
    ⟨(some 18), .mv (.t 17), none⟩,
    ⟨(some 19), .mv (.t 1), (some (18, false))⟩,
    ⟨(some 20), .len (.t 19), (some (18, false))⟩,
    ⟨(some 21), .bin .gtr (.t 20) (.k (.c (.d (.int .i64 80)))), (some (18, false))⟩,
    ⟨(some 22), .pick (.t 18) (.k (.c (.d (.bool true)))) (.t 21), none⟩,
    ⟨(some 23), .mv (.t 22), none⟩,
    ⟨(some 24), .mv (.t 2), (some (23, false))⟩,
    ⟨(some 25), .len (.t 24), (some (23, false))⟩,
    ⟨(some 26), .bin .gtr (.t 25) (.k (.c (.d (.int .i64 80)))), (some (23, false))⟩,
    ⟨(some 27), .pick (.t 23) (.k (.c (.d (.bool true)))) (.t 26), none⟩])
  (.cond (.t 27) (.seq (.reg [⟨(some 28), .call 8 [] none, none⟩,
     ⟨(some 8), .mv (.t 28), none⟩])
   (.ret))
   (.skip)))
  (.seq (.reg [⟨(some 29), .mv (.t 3), none⟩,
    ⟨(some 30), .call 20 [(.t 29), (.k (.c (.d (.int .i64 100))))] none, none⟩,
    ⟨(some 3), .mv (.t 30), none⟩])
  (.seq (.reg [⟨(some 32), .mv (.t 0), none⟩,
    ⟨(some 33), .mv (.t 1), none⟩,
    ⟨(some 34), .mv (.t 2), none⟩,
    ⟨(some 35), .mv (.t 3), none⟩,
    ⟨(some 36), .call 11 [(.t 32), (.t 33), (.t 34), (.t 35)] none, none⟩,
    ⟨(some 31), .mv (.t 36), none⟩,
    ⟨(some 37), .extract (.t 31) 0, none⟩,
    ⟨(some 38), .extract (.t 31) 1, none⟩,
    ⟨(some 9), .mv (.t 37), none⟩,
    ⟨(some 10), .mv (.t 38), none⟩])
  (.seq (.reg [⟨(some 40), .mv (.t 0), none⟩,
    ⟨(some 41), .mv (.t 1), none⟩,
    ⟨(some 42), .call 16 [(.t 40), (.t 41)] none, none⟩,
    ⟨(some 43), .mv (.t 2), none⟩,
    ⟨(some 44), .mv (.t 3), none⟩,
    ⟨(some 45), .call 9 [(.t 42), (.t 43), (.t 44)] none, none⟩,
    ⟨(some 39), .mv (.t 45), none⟩,
    ⟨(some 46), .extract (.t 39) 0, none⟩,
    ⟨(some 47), .extract (.t 39) 1, none⟩,
    ⟨(some 11), .mv (.t 46), none⟩,
    ⟨(some 12), .mv (.t 47), none⟩])
  (.seq (.reg [⟨(some 48), .mv (.t 2), none⟩,
    ⟨(some 49), .call 18 [(.k (.c (.d (.str ⟨#[97]⟩)))), (.k (.c (.d (.str ⟨#[98, 99]⟩)))), (.t 48)] none, none⟩,
    ⟨(some 13), .mv (.t 49), none⟩])
  (.seq (.reg [⟨(some 50), .mv (.t 2), none⟩,
    ⟨(some 51), .call 18 [(.k (.c (.d (.str ⟨#[97, 98]⟩)))), (.k (.c (.d (.str ⟨#[99]⟩)))), (.t 50)] none, none⟩,
    ⟨(some 14), .mv (.t 51), none⟩])
  (.seq (.reg [⟨(some 52), .call 8 [] none, none⟩,
    ⟨(some 53), .mv (.t 52), none⟩,
    ⟨(some 54), .mv (.t 10), (some (53, true))⟩,
    ⟨(some 55), .bin .eql (.t 54) (.k (.c (.d (.int .i64 0)))), (some (53, true))⟩,
    ⟨(some 56), .pick (.t 53) (.t 55) (.k (.c (.d (.bool false)))), none⟩,
    ⟨(some 57), .mv (.t 56), none⟩,
    ⟨(some 58), .mv (.t 12), (some (57, true))⟩,
    ⟨(some 59), .bin .eql (.t 58) (.k (.c (.d (.int .i64 0)))), (some (57, true))⟩,
    ⟨(some 60), .pick (.t 57) (.t 59) (.k (.c (.d (.bool false)))), none⟩,
    ⟨(some 61), .mv (.t 60), none⟩,
    ⟨(some 62), .mv (.t 9), (some (61, true))⟩,
    ⟨(some 63), .mv (.t 11), (some (61, true))⟩,
    ⟨(some 64), .call 13 [(.t 62), (.t 63)] none, (some (61, true))⟩,
    ⟨(some 65), .pick (.t 61) (.t 64) (.k (.c (.d (.bool false)))), none⟩,
    ⟨(some 66), .mv (.t 65), none⟩,
    ⟨(some 67), .mv (.t 13), (some (66, true))⟩,
    ⟨(some 68), .len (.t 67), (some (66, true))⟩,
    ⟨(some 69), .bin .eql (.t 68) (.k (.c (.d (.int .i64 37)))), (some (66, true))⟩,
    ⟨(some 70), .pick (.t 66) (.t 69) (.k (.c (.d (.bool false)))), none⟩,
    ⟨(some 71), .mv (.t 70), none⟩,
    ⟨(some 72), .mv (.t 14), (some (71, true))⟩,
    ⟨(some 73), .len (.t 72), (some (71, true))⟩,
    ⟨(some 74), .bin .eql (.t 73) (.k (.c (.d (.int .i64 37)))), (some (71, true))⟩,
    ⟨(some 75), .pick (.t 71) (.t 74) (.k (.c (.d (.bool false)))), none⟩,
    ⟨(some 76), .mv (.t 75), none⟩,
    ⟨(some 77), .mv (.t 13), (some (76, true))⟩,
    ⟨(some 78), .mv (.t 14), (some (76, true))⟩,
    ⟨(some 79), .call 13 [(.t 77), (.t 78)] none, (some (76, true))⟩,
    ⟨(some 80), .un .not (.t 79), (some (76, true))⟩,
    ⟨(some 81), .pick (.t 76) (.t 80) (.k (.c (.d (.bool false)))), none⟩,
    ⟨(some 8), .mv (.t 81), none⟩])
  (.ret)))))))),
  [(8, none)]⟩
theorem cf_kparts : compFn Tryd.prog { own := [], comp := [], frz := [], nils := [] } Tryd.f6 = some sf_kparts := by kernel_rfl
set_option maxHeartbeats 1600000 in
theorem kparts_c (G : Glob) (salt : List UInt8) (hsalt : salt.length ≤ maxLen) (secret : List UInt8) (hsecret : secret.length ≤ maxLen) (info : List UInt8) (hinfo : info.length ≤ maxLen) (n : Int) (hn1 : -9223372036854775808 ≤ n) (hn2 : n ≤ 9223372036854775807) (hF : G.at 0 = some (.ra (firstK.map wD))) (hG : G.at 1 = some (.ra (constK.map wD))) : Den Tryd.prog G 6 [.sl (salt.map bD), .sl (secret.map bD), .sl (info.map bD), .int .i64 n] (.w (.c (.d (.bool true)))) := by
  refine den_walk Tryd.func6 cf_kparts rfl rfl ?_
  by_cases g3 : 80 < salt.length
  · simp only [sf_kparts, putAll, wx, wy, wz, stV, seval, IntWalk.iteOmega, IntWalk.toNatUp, reduceCtorEq]
    refine st_call (known3_c G hF hG) rfl (.inl rfl) ?_
    simp only [wx, wy, wz, stV, seval, IntWalk.iteOmega, IntWalk.toNatUp, reduceCtorEq]
    exact ret_d1 (by simp only [wx, wy, wz, stV, seval, IntWalk.iteOmega, IntWalk.toNatUp, reduceCtorEq])
  · by_cases g2 : 80 < secret.length
    · simp only [sf_kparts, putAll, wx, wy, wz, stV, seval, IntWalk.iteOmega, IntWalk.toNatUp, reduceCtorEq]
      refine st_call (known3_c G hF hG) rfl (.inl rfl) ?_
      simp only [wx, wy, wz, stV, seval, IntWalk.iteOmega, IntWalk.toNatUp, reduceCtorEq]
      exact ret_d1 (by simp only [wx, wy, wz, stV, seval, IntWalk.iteOmega, IntWalk.toNatUp, reduceCtorEq])
    · by_cases g1 : 80 < info.length
      · simp only [sf_kparts, putAll, wx, wy, wz, stV, seval, IntWalk.iteOmega, IntWalk.toNatUp, reduceCtorEq]
        refine st_call (known3_c G hF hG) rfl (.inl rfl) ?_
        simp only [wx, wy, wz, stV, seval, IntWalk.iteOmega, IntWalk.toNatUp, reduceCtorEq]
        exact ret_d1 (by simp only [wx, wy, wz, stV, seval, IntWalk.iteOmega, IntWalk.toNatUp, reduceCtorEq])
      · have r1 := withinN_range n 100 (by omega)
        obtain ⟨p, hp⟩ := Int.eq_ofNat_of_zero_le r1.1
        simp only [sf_kparts, putAll, wx, wy, wz, stV, seval, IntWalk.iteOmega, IntWalk.toNatUp, reduceCtorEq]
        refine st_call (within_c G n 100 (by omega)) rfl (.inl rfl) ?_
        simp only [wx, wy, wz, stV, seval, IntWalk.iteOmega, IntWalk.toNatUp, reduceCtorEq]
        rw [hp] at r1 ⊢
        have e1 := der_c G hF hG salt secret info (by omega) (by omega) (by omega) (p : Int) (by omega) (by omega)
        have e2 := exp_c G hF hG (macK salt secret) info (by rw [macK_len]; decide) (by omega) (p : Int) (by omega) (by omega)
        rw [expE_in (by omega), expL_in _ info (by omega), Int.toNat_natCast] at e1 e2
        have l1 := labK_len [97] [98, 99] info
        have l2 := labK_len [97, 98] [99] info
        have hne : (labK [97] [98, 99] info == labK [97, 98] [99] info) = false := by
          rw [labK_eq (by decide) (by decide) (by decide) (by decide)]; rfl
        refine st_call (e1) rfl (.inl rfl) ?_
        simp only [wx, wy, wz, stV, seval, IntWalk.iteOmega, IntWalk.toNatUp, reduceCtorEq]
        refine st_call (ext_c G hF hG salt secret (by omega) (by omega)) rfl (.inl rfl) ?_
        simp only [wx, wy, wz, stV, seval, IntWalk.iteOmega, IntWalk.toNatUp, reduceCtorEq]
        refine st_call (e2) rfl (.inl rfl) ?_
        simp only [wx, wy, wz, stV, seval, IntWalk.iteOmega, IntWalk.toNatUp, reduceCtorEq]
        refine st_call (lab_c G hF hG ⟨#[97]⟩ ⟨#[98, 99]⟩ info (by decide) (by decide) (by omega)) rfl (.inl rfl) ?_
        simp only [wx, wy, wz, stV, seval, IntWalk.iteOmega, IntWalk.toNatUp, reduceCtorEq]
        refine st_call (lab_c G hF hG ⟨#[97, 98]⟩ ⟨#[99]⟩ info (by decide) (by decide) (by omega)) rfl (.inl rfl) ?_
        simp only [wx, wy, wz, stV, seval, IntWalk.iteOmega, IntWalk.toNatUp, reduceCtorEq]
        refine st_call (known3_c G hF hG) rfl (.inl rfl) ?_
        simp only [wx, wy, wz, stV, seval, IntWalk.iteOmega, IntWalk.toNatUp, reduceCtorEq]
        refine st_call (rsame_c G (expK (macK salt secret) info p) (expK (macK salt secret) info p)) rfl (.inl rfl) ?_
        simp only [wx, wy, wz, stV, seval, IntWalk.iteOmega, IntWalk.toNatUp, reduceCtorEq]
        have hs := rsame_c G (labK [97] [98, 99] info) (labK [97, 98] [99] info)
        rw [hne] at hs
        simp only [wx, wy, wz, stV, seval, IntWalk.iteOmega, IntWalk.toNatUp, reduceCtorEq, l1, l2]
        refine st_call (hs) rfl (.inl rfl) ?_
        simp only [wx, wy, wz, stV, seval, IntWalk.iteOmega, IntWalk.toNatUp, reduceCtorEq]
        exact ret_d1 (by simp only [wx, wy, wz, stV, seval, IntWalk.iteOmega, IntWalk.toNatUp, reduceCtorEq])
def sf_klabels : SFn := ⟨5, 87,
  .seq (.reg [⟨(some 10), .mv (.k (.c (.d (.bool false)))), none⟩])
  (.seq (.seq (.reg [⟨(some 13), .mv (.t 0), none⟩,
    ⟨(some 14), .lenStr (.t 13), none⟩,
    ⟨(some 15), .bin .gtr (.t 14) (.k (.c (.d (.int .i64 40)))), none⟩,
    ⟨(some 16), .mv (.t 15), none⟩,
    ⟨(some 17), .mv (.t 1), (some (16, false))⟩,
    ⟨(some 18), .lenStr (.t 17), (some (16, false))⟩,
    ⟨(some 19), .bin .gtr (.t 18) (.k (.c (.d (.int .i64 40)))), (some (16, false))⟩,
    ⟨(some 20), .pick (.t 16) (.k (.c (.d (.bool true)))) (.t 19), none⟩,
    ⟨(some 21), .mv (.t 20), none⟩,
    ⟨(some 22), .mv (.t 2), (some (21, false))⟩,
    ⟨(some 23), .lenStr (.t 22), (some (21, false))⟩,
    ⟨(some 24), .bin .gtr (.t 23) (.k (.c (.d (.int .i64 40)))), (some (21, false))⟩,
    ⟨(some 25), .pick (.t 21) (.k (.c (.d (.bool true)))) (.t 24), none⟩,
    ⟨(some 26), .mv (.t 25), none⟩,
    ⟨(some 27), .mv (.t 3), (some (26, false))⟩,
    ⟨(some 28), .lenStr (.t 27), (some (26, false))⟩,
    ⟨(some 29), .bin .gtr (.t 28) (.k (.c (.d (.int .i64 40)))), (some (26, false))⟩,
    ⟨(some 30), .pick (.t 26) (.k (.c (.d (.bool true)))) (.t 29), none⟩,
    ⟨(some 31), .mv (.t 30), none⟩,
    ⟨(some 32), .mv (.t 4), (some (31, false))⟩,
    ⟨(some 33), .len (.t 32), (some (31, false))⟩,
    ⟨(some 34), .bin .gtr (.t 33) (.k (.c (.d (.int .i64 80)))), (some (31, false))⟩,
    ⟨(some 35), .pick (.t 31) (.k (.c (.d (.bool true)))) (.t 34), none⟩,
    ⟨(some 36), .mv (.t 35), none⟩,
    ⟨(some 37), .mv (.t 0), (some (36, false))⟩,
    ⟨(some 38), .call 23 [(.t 37)] none, (some (36, false))⟩,
    ⟨(some 39), .pick (.t 36) (.k (.c (.d (.bool true)))) (.t 38), none⟩,
    ⟨(some 40), .mv (.t 39), none⟩,
    ⟨(some 41), .mv (.t 1), (some (40, false))⟩,
    ⟨(some 42), .call 23 [(.t 41)] none, (some (40, false))⟩,
    ⟨(some 43), .pick (.t 40) (.k (.c (.d (.bool true)))) (.t 42), none⟩,
    ⟨(some 44), .mv (.t 43), none⟩,
    ⟨(some 45), .mv (.t 2), (some (44, false))⟩,
    ⟨(some 46), .call 23 [(.t 45)] none, (some (44, false))⟩,
    ⟨(some 47), .pick (.t 44) (.k (.c (.d (.bool true)))) (.t 46), none⟩,
    ⟨(some 48), .mv (.t 47), none⟩,
    ⟨(some 49), .mv (.t 3), (some (48, false))⟩,
    ⟨(some 50), .call 23 [(.t 49)] none, (some (48, false))⟩,
    ⟨(some 51), .pick (.t 48) (.k (.c (.d (.bool true)))) (.t 50), none⟩])
  (.cond (.t 51) (.seq (.reg [⟨(some 52), .call 8 [] none, none⟩,
     ⟨(some 10), .mv (.t 52), none⟩])
   (.ret))
   (.skip)))
  (.seq (.reg [⟨(some 53), .mv (.t 0), none⟩,
    ⟨(some 54), .mv (.t 1), none⟩,
    ⟨(some 55), .mv (.t 4), none⟩,
    ⟨(some 56), .call 18 [(.t 53), (.t 54), (.t 55)] none, none⟩,
    ⟨(some 57), .mv (.t 2), none⟩,
    ⟨(some 58), .mv (.t 3), none⟩,
    ⟨(some 59), .mv (.t 4), none⟩,
    ⟨(some 60), .call 18 [(.t 57), (.t 58), (.t 59)] none, none⟩,
    ⟨(some 11), .mv (.t 56), none⟩,
    ⟨(some 12), .mv (.t 60), none⟩])
  (.seq (.reg [⟨(some 61), .call 8 [] none, none⟩,
    ⟨(some 62), .mv (.t 61), none⟩,
    ⟨(some 63), .mv (.t 11), (some (62, true))⟩,
    ⟨(some 64), .mv (.t 12), (some (62, true))⟩,
    ⟨(some 65), .call 13 [(.t 63), (.t 64)] none, (some (62, true))⟩,
    ⟨(some 66), .mv (.t 0), (some (62, true))⟩,
    ⟨(some 67), .mv (.t 2), (some (62, true))⟩,
    ⟨(some 68), .bin .eql (.t 66) (.t 67), (some (62, true))⟩,
    ⟨(some 69), .mv (.t 68), (some (62, true))⟩,
    ⟨(some 70), .mv (.t 1), (some (69, true))⟩,
    ⟨(some 71), .mv (.t 3), (some (69, true))⟩,
    ⟨(some 72), .bin .eql (.t 70) (.t 71), (some (69, true))⟩,
    ⟨(some 73), .pick (.t 69) (.t 72) (.k (.c (.d (.bool false)))), (some (62, true))⟩,
    ⟨(some 74), .eqB false (.t 65) (.t 73), (some (62, true))⟩,
    ⟨(some 75), .pick (.t 62) (.t 74) (.k (.c (.d (.bool false)))), none⟩,
    ⟨(some 76), .mv (.t 75), none⟩,
    ⟨(some 77), .mv (.t 11), (some (76, true))⟩,
    ⟨(some 78), .len (.t 77), (some (76, true))⟩,
    ⟨(some 79), .mv (.t 0), (some (76, true))⟩,
    ⟨(some 80), .lenStr (.t 79), (some (76, true))⟩,
    ⟨(some 81), .mv (.t 1), (some (76, true))⟩,
    ⟨(some 82), .lenStr (.t 81), (some (76, true))⟩,
    ⟨(some 83), .bin .add (.t 80) (.t 82), (some (76, true))⟩,
    ⟨(some 84), .bin .add (.t 83) (.k (.c (.d (.int .i64 34)))), (some (76, true))⟩,
    ⟨(some 85), .bin .eql (.t 78) (.t 84), (some (76, true))⟩,
    ⟨(some 86), .pick (.t 76) (.t 85) (.k (.c (.d (.bool false)))), none⟩,
    ⟨(some 10), .mv (.t 86), none⟩])
  (.ret)))),
  [(10, none)]⟩
theorem cf_klabels : compFn Tryd.prog { own := [], comp := [], frz := [], nils := [] } Tryd.f7 = some sf_klabels := by kernel_rfl
set_option maxHeartbeats 1600000 in
theorem klabels_c (G : Glob) (a : ByteArray) (ha : a.size ≤ maxLen) (b : ByteArray) (hb : b.size ≤ maxLen) (c : ByteArray) (hc : c.size ≤ maxLen) (d : ByteArray) (hd : d.size ≤ maxLen) (context : List UInt8) (hcontext : context.length ≤ maxLen) (hF : G.at 0 = some (.ra (firstK.map wD))) (hG : G.at 1 = some (.ra (constK.map wD))) : Den Tryd.prog G 7 [.str a, .str b, .str c, .str d, .sl (context.map bD)] (.w (.c (.d (.bool true)))) := by
  refine den_walk Tryd.func7 cf_klabels rfl rfl ?_
  by_cases g5 : 40 < a.size
  · simp only [sf_klabels, putAll, wx, wy, wz, stV, seval, IntWalk.iteOmega, IntWalk.toNatUp, reduceCtorEq]
    refine st_call (known3_c G hF hG) rfl (.inl rfl) ?_
    simp only [wx, wy, wz, stV, seval, IntWalk.iteOmega, IntWalk.toNatUp, reduceCtorEq]
    exact ret_d1 (by simp only [wx, wy, wz, stV, seval, IntWalk.iteOmega, IntWalk.toNatUp, reduceCtorEq])
  · by_cases g4 : 40 < b.size
    · simp only [sf_klabels, putAll, wx, wy, wz, stV, seval, IntWalk.iteOmega, IntWalk.toNatUp, reduceCtorEq]
      refine st_call (known3_c G hF hG) rfl (.inl rfl) ?_
      simp only [wx, wy, wz, stV, seval, IntWalk.iteOmega, IntWalk.toNatUp, reduceCtorEq]
      exact ret_d1 (by simp only [wx, wy, wz, stV, seval, IntWalk.iteOmega, IntWalk.toNatUp, reduceCtorEq])
    · by_cases g3 : 40 < c.size
      · simp only [sf_klabels, putAll, wx, wy, wz, stV, seval, IntWalk.iteOmega, IntWalk.toNatUp, reduceCtorEq]
        refine st_call (known3_c G hF hG) rfl (.inl rfl) ?_
        simp only [wx, wy, wz, stV, seval, IntWalk.iteOmega, IntWalk.toNatUp, reduceCtorEq]
        exact ret_d1 (by simp only [wx, wy, wz, stV, seval, IntWalk.iteOmega, IntWalk.toNatUp, reduceCtorEq])
      · by_cases g2 : 40 < d.size
        · simp only [sf_klabels, putAll, wx, wy, wz, stV, seval, IntWalk.iteOmega, IntWalk.toNatUp, reduceCtorEq]
          refine st_call (known3_c G hF hG) rfl (.inl rfl) ?_
          simp only [wx, wy, wz, stV, seval, IntWalk.iteOmega, IntWalk.toNatUp, reduceCtorEq]
          exact ret_d1 (by simp only [wx, wy, wz, stV, seval, IntWalk.iteOmega, IntWalk.toNatUp, reduceCtorEq])
        · by_cases g1 : 80 < context.length
          · simp only [sf_klabels, putAll, wx, wy, wz, stV, seval, IntWalk.iteOmega, IntWalk.toNatUp, reduceCtorEq]
            refine st_call (known3_c G hF hG) rfl (.inl rfl) ?_
            simp only [wx, wy, wz, stV, seval, IntWalk.iteOmega, IntWalk.toNatUp, reduceCtorEq]
            exact ret_d1 (by simp only [wx, wy, wz, stV, seval, IntWalk.iteOmega, IntWalk.toNatUp, reduceCtorEq])
          · by_cases za : zerosK a.data.toList = true
            · simp only [sf_klabels, putAll, wx, wy, wz, stV, seval, IntWalk.iteOmega, IntWalk.toNatUp, reduceCtorEq]
              refine st_call (zero_c G a (by omega)) rfl (.inl rfl) ?_
              simp only [wx, wy, wz, stV, seval, IntWalk.iteOmega, IntWalk.toNatUp, reduceCtorEq]
              simp only [wx, wy, wz, stV, seval, IntWalk.iteOmega, IntWalk.toNatUp, reduceCtorEq, za]
              refine st_call (known3_c G hF hG) rfl (.inl rfl) ?_
              simp only [wx, wy, wz, stV, seval, IntWalk.iteOmega, IntWalk.toNatUp, reduceCtorEq]
              exact ret_d1 (by simp only [wx, wy, wz, stV, seval, IntWalk.iteOmega, IntWalk.toNatUp, reduceCtorEq])
            · rw [Bool.not_eq_true] at za
              by_cases zb : zerosK b.data.toList = true
              · simp only [sf_klabels, putAll, wx, wy, wz, stV, seval, IntWalk.iteOmega, IntWalk.toNatUp, reduceCtorEq]
                refine st_call (zero_c G a (by omega)) rfl (.inl rfl) ?_
                simp only [wx, wy, wz, stV, seval, IntWalk.iteOmega, IntWalk.toNatUp, reduceCtorEq]
                simp only [wx, wy, wz, stV, seval, IntWalk.iteOmega, IntWalk.toNatUp, reduceCtorEq, za]
                refine st_call (zero_c G b (by omega)) rfl (.inl rfl) ?_
                simp only [wx, wy, wz, stV, seval, IntWalk.iteOmega, IntWalk.toNatUp, reduceCtorEq]
                simp only [wx, wy, wz, stV, seval, IntWalk.iteOmega, IntWalk.toNatUp, reduceCtorEq, zb]
                refine st_call (known3_c G hF hG) rfl (.inl rfl) ?_
                simp only [wx, wy, wz, stV, seval, IntWalk.iteOmega, IntWalk.toNatUp, reduceCtorEq]
                exact ret_d1 (by simp only [wx, wy, wz, stV, seval, IntWalk.iteOmega, IntWalk.toNatUp, reduceCtorEq])
              · rw [Bool.not_eq_true] at zb
                by_cases zc : zerosK c.data.toList = true
                · simp only [sf_klabels, putAll, wx, wy, wz, stV, seval, IntWalk.iteOmega, IntWalk.toNatUp, reduceCtorEq]
                  refine st_call (zero_c G a (by omega)) rfl (.inl rfl) ?_
                  simp only [wx, wy, wz, stV, seval, IntWalk.iteOmega, IntWalk.toNatUp, reduceCtorEq]
                  simp only [wx, wy, wz, stV, seval, IntWalk.iteOmega, IntWalk.toNatUp, reduceCtorEq, za]
                  refine st_call (zero_c G b (by omega)) rfl (.inl rfl) ?_
                  simp only [wx, wy, wz, stV, seval, IntWalk.iteOmega, IntWalk.toNatUp, reduceCtorEq]
                  simp only [wx, wy, wz, stV, seval, IntWalk.iteOmega, IntWalk.toNatUp, reduceCtorEq, zb]
                  refine st_call (zero_c G c (by omega)) rfl (.inl rfl) ?_
                  simp only [wx, wy, wz, stV, seval, IntWalk.iteOmega, IntWalk.toNatUp, reduceCtorEq]
                  simp only [wx, wy, wz, stV, seval, IntWalk.iteOmega, IntWalk.toNatUp, reduceCtorEq, zc]
                  refine st_call (known3_c G hF hG) rfl (.inl rfl) ?_
                  simp only [wx, wy, wz, stV, seval, IntWalk.iteOmega, IntWalk.toNatUp, reduceCtorEq]
                  exact ret_d1 (by simp only [wx, wy, wz, stV, seval, IntWalk.iteOmega, IntWalk.toNatUp, reduceCtorEq])
                · rw [Bool.not_eq_true] at zc
                  by_cases zd : zerosK d.data.toList = true
                  · simp only [sf_klabels, putAll, wx, wy, wz, stV, seval, IntWalk.iteOmega, IntWalk.toNatUp, reduceCtorEq]
                    refine st_call (zero_c G a (by omega)) rfl (.inl rfl) ?_
                    simp only [wx, wy, wz, stV, seval, IntWalk.iteOmega, IntWalk.toNatUp, reduceCtorEq]
                    simp only [wx, wy, wz, stV, seval, IntWalk.iteOmega, IntWalk.toNatUp, reduceCtorEq, za]
                    refine st_call (zero_c G b (by omega)) rfl (.inl rfl) ?_
                    simp only [wx, wy, wz, stV, seval, IntWalk.iteOmega, IntWalk.toNatUp, reduceCtorEq]
                    simp only [wx, wy, wz, stV, seval, IntWalk.iteOmega, IntWalk.toNatUp, reduceCtorEq, zb]
                    refine st_call (zero_c G c (by omega)) rfl (.inl rfl) ?_
                    simp only [wx, wy, wz, stV, seval, IntWalk.iteOmega, IntWalk.toNatUp, reduceCtorEq]
                    simp only [wx, wy, wz, stV, seval, IntWalk.iteOmega, IntWalk.toNatUp, reduceCtorEq, zc]
                    refine st_call (zero_c G d (by omega)) rfl (.inl rfl) ?_
                    simp only [wx, wy, wz, stV, seval, IntWalk.iteOmega, IntWalk.toNatUp, reduceCtorEq]
                    simp only [wx, wy, wz, stV, seval, IntWalk.iteOmega, IntWalk.toNatUp, reduceCtorEq, zd]
                    refine st_call (known3_c G hF hG) rfl (.inl rfl) ?_
                    simp only [wx, wy, wz, stV, seval, IntWalk.iteOmega, IntWalk.toNatUp, reduceCtorEq]
                    exact ret_d1 (by simp only [wx, wy, wz, stV, seval, IntWalk.iteOmega, IntWalk.toNatUp, reduceCtorEq])
                  · rw [Bool.not_eq_true] at zd
                    have ea := zerosK_all za
                    have eb := zerosK_all zb
                    have ec := zerosK_all zc
                    have ed := zerosK_all zd
                    have hs := rsame_c G (labK a.data.toList b.data.toList context) (labK c.data.toList d.data.toList context)
                    rw [labK_eq ea eb ec ed] at hs
                    have hl := labK_len a.data.toList b.data.toList context
                    have la : a.data.toList.length = a.size := rfl
                    have lb : b.data.toList.length = b.size := rfl
                    rw [la, lb] at hl
                    simp only [sf_klabels, putAll, wx, wy, wz, stV, seval, IntWalk.iteOmega, IntWalk.toNatUp, reduceCtorEq]
                    refine st_call (zero_c G a (by omega)) rfl (.inl rfl) ?_
                    simp only [wx, wy, wz, stV, seval, IntWalk.iteOmega, IntWalk.toNatUp, reduceCtorEq]
                    simp only [wx, wy, wz, stV, seval, IntWalk.iteOmega, IntWalk.toNatUp, reduceCtorEq, za]
                    refine st_call (zero_c G b (by omega)) rfl (.inl rfl) ?_
                    simp only [wx, wy, wz, stV, seval, IntWalk.iteOmega, IntWalk.toNatUp, reduceCtorEq]
                    simp only [wx, wy, wz, stV, seval, IntWalk.iteOmega, IntWalk.toNatUp, reduceCtorEq, zb]
                    refine st_call (zero_c G c (by omega)) rfl (.inl rfl) ?_
                    simp only [wx, wy, wz, stV, seval, IntWalk.iteOmega, IntWalk.toNatUp, reduceCtorEq]
                    simp only [wx, wy, wz, stV, seval, IntWalk.iteOmega, IntWalk.toNatUp, reduceCtorEq, zc]
                    refine st_call (zero_c G d (by omega)) rfl (.inl rfl) ?_
                    simp only [wx, wy, wz, stV, seval, IntWalk.iteOmega, IntWalk.toNatUp, reduceCtorEq]
                    simp only [wx, wy, wz, stV, seval, IntWalk.iteOmega, IntWalk.toNatUp, reduceCtorEq, zd]
                    refine st_call (lab_c G hF hG a b context (by omega) (by omega) (by omega)) rfl (.inl rfl) ?_
                    simp only [wx, wy, wz, stV, seval, IntWalk.iteOmega, IntWalk.toNatUp, reduceCtorEq]
                    refine st_call (lab_c G hF hG c d context (by omega) (by omega) (by omega)) rfl (.inl rfl) ?_
                    simp only [wx, wy, wz, stV, seval, IntWalk.iteOmega, IntWalk.toNatUp, reduceCtorEq]
                    refine st_call (known3_c G hF hG) rfl (.inl rfl) ?_
                    simp only [wx, wy, wz, stV, seval, IntWalk.iteOmega, IntWalk.toNatUp, reduceCtorEq]
                    refine st_call (hs) rfl (.inl rfl) ?_
                    simp only [wx, wy, wz, stV, seval, IntWalk.iteOmega, IntWalk.toNatUp, reduceCtorEq]
                    have b1 := binS_lst a c
                    have b2 := binS_lst b d
                    generalize (a.data.toList == c.data.toList) = p at *
                    generalize (b.data.toList == d.data.toList) = q at *
                    cases p <;> cases q <;> simp only [wx, wy, wz, stV, seval, IntWalk.iteOmega, IntWalk.toNatUp, reduceCtorEq, b1, b2, hl] <;> exact ret_d1 (by simp only [wx, wy, wz, stV, seval, IntWalk.iteOmega, IntWalk.toNatUp, reduceCtorEq])
end Go.Proofs.YtkaaiefeinoocaaDoor
