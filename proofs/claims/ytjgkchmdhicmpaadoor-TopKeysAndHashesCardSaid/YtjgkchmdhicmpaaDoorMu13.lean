/- Texts of one's own, merged: from: TopKeysAndHashes: keyed hashes and derived keys by hashes in steps. Own work. -/
import Derived.Test.YtjgkchmdhicmpaaDoorMu8
import Derived.Test.YtjgkchmdhicmpaaDoorMu12
import Derived.Test.YtjgkchmdhicmpaaDoorMu10
set_option linter.unusedVariables false
set_option linter.unusedSimpArgs false
namespace Go.Proofs.YtjgkchmdhicmpaaDoor
open Go.RowKit

def tkSt (k info : List UInt8) (i : Nat) : St := ⟨ofL [(2, .w (.c (.d (.sl (info.map bD))))), (7, .w (.c (.d (.sl (k.map bD))))), (8, .w (.c (.own 1 1 0 64))), (9, .w (.c (.own 2 1 0 64))), (10, .w (.c (.d (.int .i64 (i : Int)))))],
  hL [(1, .row 1 ((mixS k 54 i).map bD)), (2, .row 1 ((mixS k 92 i).map bD))], uL [1, 2]⟩
theorem mixS_all {k : List UInt8} (hk : k.length ≤ 64) (x : UInt8) : mixS k x 64 = mixK k x := by
  rw [mixS_full hk]
  unfold mixK blkK keyK
  rw [if_neg (by omega)]
theorem exp_two (k info : List UInt8) : (expK k info 64).take 32 = macK k (info ++ [1]) ∧ (expK k info 64).drop 32 = macK k (macK k (info ++ [1]) ++ info ++ [2]) := by
  have e : expK k info 64 = macK k (info ++ [1]) ++ macK k (macK k (info ++ [1]) ++ info ++ [2]) := by
    unfold expK
    have h2 : (64 + 31) / 32 = 2 := by decide
    rw [h2]
    have ha : allK k info 2 = macK k (info ++ [1]) ++ macK k (macK k (info ++ [1]) ++ info ++ [2]) := rfl
    rw [ha]
    exact List.take_of_length_le (by rw [List.length_append, macK_len, macK_len]; decide)
  rw [e]
  exact ⟨List.take_left' (macK_len _ _), List.drop_left' (macK_len _ _)⟩
def lp_topk_0 : SCode :=
  .seq (.seq (.reg [⟨(some 31), .mv (.t 10), none⟩,
    ⟨(some 32), .bin .lss (.t 31) (.k (.c (.d (.int .i64 64)))), none⟩])
  (.cond (.t 32) (.skip)
   (.exit 0)))
  (.seq (.block 1 (.seq (.seq (.reg [⟨(some 35), .mv (.t 10), none⟩,
     ⟨(some 36), .mv (.t 7), none⟩,
     ⟨(some 37), .len (.t 36), none⟩,
     ⟨(some 38), .bin .lss (.t 35) (.t 37), none⟩])
   (.cond (.t 38) (.reg [⟨(some 39), .mv (.t 8), none⟩,
      ⟨(some 40), .mv (.t 10), none⟩,
      ⟨(some 41), .mv (.t 9), none⟩,
      ⟨(some 42), .mv (.t 10), none⟩,
      ⟨(some 43), .mv (.t 7), none⟩,
      ⟨(some 44), .mv (.t 10), none⟩,
      ⟨(some 45), .idxSl 1 (.t 43) (.t 44), none⟩,
      ⟨(some 46), .load .sc (.t 45), none⟩,
      ⟨(some 47), .mv (.t 7), none⟩,
      ⟨(some 48), .mv (.t 10), none⟩,
      ⟨(some 49), .idxSl 1 (.t 47) (.t 48), none⟩,
      ⟨(some 50), .load .sc (.t 49), none⟩,
      ⟨(some 51), .idxSl 1 (.t 39) (.t 40), none⟩,
      ⟨none, .store .sc (.t 51) (.t 46), none⟩,
      ⟨(some 52), .idxSl 1 (.t 41) (.t 42), none⟩,
      ⟨none, .store .sc (.t 52) (.t 50), none⟩])
    (.skip)))
   (.reg [⟨(some 53), .mv (.t 8), none⟩,
     ⟨(some 54), .mv (.t 10), none⟩,
     ⟨(some 55), .mv (.t 9), none⟩,
     ⟨(some 56), .mv (.t 10), none⟩,
     ⟨(some 57), .mv (.t 8), none⟩,
     ⟨(some 58), .mv (.t 10), none⟩,
     ⟨(some 59), .idxSl 1 (.t 57) (.t 58), none⟩,
     ⟨(some 60), .load .sc (.t 59), none⟩,
     ⟨(some 61), .bin .xor (.t 60) (.k (.c (.d (.int .u8 54)))), none⟩,
     ⟨(some 62), .mv (.t 9), none⟩,
     ⟨(some 63), .mv (.t 10), none⟩,
     ⟨(some 64), .idxSl 1 (.t 62) (.t 63), none⟩,
     ⟨(some 65), .load .sc (.t 64), none⟩,
     ⟨(some 66), .bin .xor (.t 65) (.k (.c (.d (.int .u8 92)))), none⟩,
     ⟨(some 67), .idxSl 1 (.t 53) (.t 54), none⟩,
     ⟨none, .store .sc (.t 67) (.t 61), none⟩,
     ⟨(some 68), .idxSl 1 (.t 55) (.t 56), none⟩,
     ⟨none, .store .sc (.t 68) (.t 66), none⟩])))
  (.reg [⟨(some 33), .mv (.t 10), none⟩,
    ⟨(some 34), .bin .add (.t 33) (.k (.c (.d (.int .i64 1)))), none⟩,
    ⟨(some 10), .mv (.t 34), none⟩]))
def sf_topk : SFn := ⟨3, 147,
  .seq (.reg [⟨(some 6), .mv (.k (.c (.d (.bool false)))), none⟩])
  (.seq (.seq (.reg [⟨(some 19), .mv (.t 2), none⟩,
    ⟨(some 20), .len (.t 19), none⟩,
    ⟨(some 21), .bin .gtr (.t 20) (.k (.c (.d (.int .i64 80)))), none⟩])
  (.cond (.t 21) (.seq (.reg [⟨(some 22), .call 35 [] none, none⟩,
     ⟨(some 6), .mv (.t 22), none⟩])
   (.ret))
   (.skip)))
  (.seq (.reg [⟨(some 23), .mv (.t 0), none⟩,
    ⟨(some 24), .call 24 [(.t 23), (.k (.c (.d (.int .i64 1000))))] none, none⟩,
    ⟨(some 25), .mv (.t 1), none⟩,
    ⟨(some 26), .call 24 [(.t 25), (.k (.c (.d (.int .i64 64))))] none, none⟩,
    ⟨(some 27), .bin .add (.k (.c (.d (.int .i64 1)))) (.t 26), none⟩,
    ⟨(some 28), .call 27 [(.t 24), (.t 27)] none, none⟩,
    ⟨(some 7), .mv (.t 28), none⟩])
  (.seq (.reg [⟨(some 29), .make 1 1 (.int .u8 0) (.k (.c (.d (.int .i64 64)))) (.k (.c (.d (.int .i64 64)))), none⟩,
    ⟨(some 30), .make 1 1 (.int .u8 0) (.k (.c (.d (.int .i64 64)))) (.k (.c (.d (.int .i64 64)))), none⟩,
    ⟨(some 8), .mv (.t 29), none⟩,
    ⟨(some 9), .mv (.t 30), none⟩])
  (.seq (.seq (.reg [⟨(some 10), .mv (.k (.c (.d (.int .i64 0)))), none⟩])
  (.block 0 (.loop lp_topk_0)))
  (.seq (.reg [⟨(some 70), .call 37 [] none, none⟩,
    ⟨(some 71), .frz (.t 8), none⟩,
    ⟨(some 72), .call 36 [(.t 70), (.t 71)] none, none⟩,
    ⟨(some 69), .mv (.t 72), none⟩,
    ⟨(some 73), .extract (.t 69) 0, none⟩,
    ⟨(some 74), .extract (.t 69) 1, none⟩,
    ⟨(some 11), .alloc [.nil, .nil, (.d (.int .i64 0))], none⟩,
    ⟨none, .store (.ag 3) (.t 11) (.t 73), none⟩,
    ⟨(some 12), .mv (.t 74), none⟩])
  (.seq (.reg [⟨(some 76), .load (.ag 3) (.t 11), none⟩,
    ⟨(some 77), .mv (.t 2), none⟩,
    ⟨(some 78), .call 36 [(.t 76), (.t 77)] none, none⟩,
    ⟨(some 75), .mv (.t 78), none⟩,
    ⟨(some 79), .extract (.t 75) 0, none⟩,
    ⟨(some 80), .extract (.t 75) 1, none⟩,
    ⟨none, .store (.ag 3) (.t 11) (.t 79), none⟩,
    ⟨(some 13), .mv (.t 80), none⟩])
  (.seq (.reg [⟨(some 82), .load (.ag 3) (.t 11), none⟩,
    ⟨(some 83), .call 38 [(.t 82)] none, none⟩,
    ⟨(some 81), .mv (.t 83), none⟩,
    ⟨(some 84), .extract (.t 81) 0, none⟩,
    ⟨(some 85), .extract (.t 81) 1, none⟩,
    ⟨(some 14), .mv (.t 84), none⟩,
    ⟨(some 15), .mv (.t 85), none⟩])
  (.seq (.reg [⟨(some 87), .mv (.t 7), none⟩,
    ⟨(some 88), .mv (.t 2), none⟩,
    ⟨(some 89), .call 39 [(.t 87), (.t 88), (.k (.c (.d (.int .i64 64))))] none, none⟩,
    ⟨(some 86), .mv (.t 89), none⟩,
    ⟨(some 90), .extract (.t 86) 0, none⟩,
    ⟨(some 91), .extract (.t 86) 1, none⟩,
    ⟨(some 16), .mv (.t 90), none⟩,
    ⟨(some 17), .mv (.t 91), none⟩])
  (.seq (.reg [⟨(some 92), .mv (.t 7), none⟩,
    ⟨(some 93), .mv (.t 2), none⟩,
    ⟨(some 94), .bldSl false 1 1 (.int .u8 0) [(0, (.k (.c (.d (.int .u8 1)))))], none⟩,
    ⟨(some 95), .bldSl false 2 1 (.sl []) [(0, (.t 93)), (1, (.t 94))], none⟩,
    ⟨(some 96), .call 41 [(.t 95)] none, none⟩,
    ⟨(some 97), .call 40 [(.t 92), (.t 96)] none, none⟩,
    ⟨(some 18), .mv (.t 97), none⟩])
  (.seq (.seq (.reg [⟨(some 98), .mv (.t 12), none⟩,
    ⟨(some 99), .bin .neq (.t 98) (.k (.c (.d (.int .i64 0)))), none⟩,
    ⟨(some 100), .mv (.t 99), none⟩,
    ⟨(some 101), .mv (.t 13), (some (100, false))⟩,
    ⟨(some 102), .bin .neq (.t 101) (.k (.c (.d (.int .i64 0)))), (some (100, false))⟩,
    ⟨(some 103), .pick (.t 100) (.k (.c (.d (.bool true)))) (.t 102), none⟩,
    ⟨(some 104), .mv (.t 103), none⟩,
    ⟨(some 105), .mv (.t 15), (some (104, false))⟩,
    ⟨(some 106), .bin .neq (.t 105) (.k (.c (.d (.int .i64 0)))), (some (104, false))⟩,
    ⟨(some 107), .pick (.t 104) (.k (.c (.d (.bool true)))) (.t 106), none⟩,
    ⟨(some 108), .mv (.t 107), none⟩,
    ⟨(some 109), .mv (.t 17), (some (108, false))⟩,
    ⟨(some 110), .bin .neq (.t 109) (.k (.c (.d (.int .i64 0)))), (some (108, false))⟩,
    ⟨(some 111), .pick (.t 108) (.k (.c (.d (.bool true)))) (.t 110), none⟩,
    ⟨(some 112), .mv (.t 111), none⟩,
    ⟨(some 113), .mv (.t 16), (some (112, false))⟩,
    ⟨(some 114), .len (.t 113), (some (112, false))⟩,
    ⟨(some 115), .bin .neq (.t 114) (.k (.c (.d (.int .i64 64)))), (some (112, false))⟩,
    ⟨(some 116), .pick (.t 112) (.k (.c (.d (.bool true)))) (.t 115), none⟩])
  (.cond (.t 116) (.seq (.reg [⟨(some 6), .mv (.k (.c (.d (.bool false)))), none⟩])
   (.ret))
   (.skip)))
  (.seq (.reg [⟨(some 117), .call 35 [] none, none⟩,
    ⟨(some 118), .mv (.t 117), none⟩,
    ⟨(some 119), .mv (.t 7), (some (118, true))⟩,
    ⟨(some 120), .mv (.t 2), (some (118, true))⟩,
    ⟨(some 121), .call 40 [(.t 119), (.t 120)] (some (0, 0)), (some (118, true))⟩,
    ⟨(some 122), .frz (.t 9), (some (118, true))⟩,
    ⟨(some 123), .mv (.t 14), (some (118, true))⟩,
    ⟨(some 124), .bldSl false 2 1 (.sl []) [(0, (.t 122)), (1, (.t 123))], (some (118, true))⟩,
    ⟨(some 125), .call 41 [(.t 124)] none, (some (118, true))⟩,
    ⟨(some 126), .call 42 [(.t 125)] none, (some (118, true))⟩,
    ⟨(some 127), .call 19 [(.t 121), (.t 126)] none, (some (118, true))⟩,
    ⟨(some 128), .pick (.t 118) (.t 127) (.k (.c (.d (.bool false)))), none⟩,
    ⟨(some 129), .mv (.t 128), none⟩,
    ⟨(some 130), .mv (.t 16), (some (129, true))⟩,
    ⟨(some 131), .slice 1 (.t 130) none (some (.k (.c (.d (.int .i64 32))))) none, (some (129, true))⟩,
    ⟨(some 132), .mv (.t 18), (some (129, true))⟩,
    ⟨(some 133), .call 19 [(.t 131), (.t 132)] none, (some (129, true))⟩,
    ⟨(some 134), .pick (.t 129) (.t 133) (.k (.c (.d (.bool false)))), none⟩,
    ⟨(some 135), .mv (.t 134), none⟩,
    ⟨(some 136), .mv (.t 16), (some (135, true))⟩,
    ⟨(some 137), .slice 1 (.t 136) (some (.k (.c (.d (.int .i64 32))))) none none, (some (135, true))⟩,
    ⟨(some 138), .mv (.t 7), (some (135, true))⟩,
    ⟨(some 139), .mv (.t 18), (some (135, true))⟩,
    ⟨(some 140), .mv (.t 2), (some (135, true))⟩,
    ⟨(some 141), .bldSl false 1 1 (.int .u8 0) [(0, (.k (.c (.d (.int .u8 2)))))], (some (135, true))⟩,
    ⟨(some 142), .bldSl false 3 1 (.sl []) [(0, (.t 139)), (1, (.t 140)), (2, (.t 141))], (some (135, true))⟩,
    ⟨(some 143), .call 41 [(.t 142)] none, (some (135, true))⟩,
    ⟨(some 144), .call 40 [(.t 138), (.t 143)] none, (some (135, true))⟩,
    ⟨(some 145), .call 19 [(.t 137), (.t 144)] none, (some (135, true))⟩,
    ⟨(some 146), .pick (.t 135) (.t 145) (.k (.c (.d (.bool false)))), none⟩,
    ⟨(some 6), .mv (.t 146), none⟩])
  (.ret)))))))))))),
  [(6, none)]⟩
theorem cf_topk : compFn Tryd.prog { own := [], comp := [], frz := [71, 122], nils := [], pur := [121] } Tryd.f10 = some sf_topk := by kernel_rfl
set_option maxHeartbeats 3200000 in
theorem topk_c (G : Glob) (seed : Int) (hseed1 : -9223372036854775808 ≤ seed) (hseed2 : seed ≤ 9223372036854775807) (n : Int) (hn1 : -9223372036854775808 ≤ n) (hn2 : n ≤ 9223372036854775807) (info : List UInt8) (hinfo : info.length ≤ maxLen) (hF : G.at 0 = some (.ra (firstK.map wD))) (hG : G.at 1 = some (.ra (constK.map wD))) : Den Tryd.prog G 10 [.int .i64 seed, .int .i64 n, .sl (info.map bD)] (.w (.c (.d (.bool true)))) := by
  refine den_walk Tryd.func10 cf_topk rfl rfl ?_
  have hm : maxLen ≤ 9223372036854775807 := by decide
  by_cases k1 : 80 < info.length
  · simp only [sf_topk, putAll, wx, wy, wz, stV, seval, IntWalk.iteOmega, IntWalk.toNatUp, reduceCtorEq]
    refine st_call (roused_c G hF hG) rfl (.inl rfl) ?_
    simp only [wx, wy, wz, stV, seval, IntWalk.iteOmega, IntWalk.toNatUp, reduceCtorEq]
    exact ret_d1 (by simp only [wx, wy, wz, stV, seval, IntWalk.iteOmega, IntWalk.toNatUp, reduceCtorEq])
  · have e1 := within_c G seed 1000 (by decide)
    have r2 := withinN_range n 64 (by decide)
    have e2 := within_c G n 64 (by decide)
    have hb := wbytes_c G (withinN seed 1000) (1 + withinN n 64) (by omega)
    have lk : (bytesK (withinN seed 1000) (1 + withinN n 64)).length ≤ 64 := by rw [bytesK_len]; omega
    generalize bytesK (withinN seed 1000) (1 + withinN n 64) = k at *
    simp only [sf_topk, putAll, wx, wy, wz, stV, seval, IntWalk.iteOmega, IntWalk.toNatUp, reduceCtorEq]
    refine st_call (e1) rfl (.inl rfl) ?_
    simp only [wx, wy, wz, stV, seval, IntWalk.iteOmega, IntWalk.toNatUp, reduceCtorEq]
    refine st_call (e2) rfl (.inl rfl) ?_
    simp only [wx, wy, wz, stV, seval, IntWalk.iteOmega, IntWalk.toNatUp, reduceCtorEq]
    refine st_call (hb) rfl (.inl rfl) ?_
    simp only [wx, wy, wz, stV, seval, IntWalk.iteOmega, IntWalk.toNatUp, reduceCtorEq]
    refine loop_st (tkSt k info) (fun i => 64 - i) (fun i => i ≤ 64) 0 (Nat.zero_le _) ?_ ?_
    · refine ent_l (fun i => if i = 1 then 232 else 240) ?_ ?_ rfl rfl <;> simp only [wx, wex, wez, stV, seval, IntWalk.iteOmega, IntWalk.toNatUp, reduceCtorEq, mixS_zero]
      exact ⟨rfl, rfl⟩
    · intro i hi
      have hla := mixS_len lk 54 i hi
      have hlb := mixS_len lk 92 i hi
      by_cases hlt : i < 64
      · have a1 := mixS_get lk 54 i hlt
        have b1 := mixS_get lk 92 i hlt
        have a3 : i < (mixS k 54 i).length := by omega
        have b3 : i < (mixS k 92 i).length := by omega
        by_cases hkl : i < k.length
        · have a2 := mixS_step lk 54 k[i] i hlt (fill_lo k i hkl)
          have b2 := mixS_step lk 92 k[i] i hlt (fill_lo k i hkl)
          have g2 : k[i]? = some k[i] := List.getElem?_eq_getElem hkl
          have a4 : ((mixS k 54 i).set i k[i])[i]? = some k[i] := by rw [List.getElem?_set_self a3]
          have b4 : ((mixS k 92 i).set i k[i])[i]? = some k[i] := by rw [List.getElem?_set_self b3]
          have a5 : i < ((mixS k 54 i).set i k[i]).length := by rw [List.length_set]; exact a3
          have b5 : i < ((mixS k 92 i).set i k[i]).length := by rw [List.length_set]; exact b3
          have xa := bl_xor k[i] 54 54 rfl
          have xb := bl_xor k[i] 92 92 rfl
          simp only [lp_topk_0, tkSt, wx, wy, wz, stV, seval, IntWalk.iteOmega, IntWalk.toNatUp, reduceCtorEq, get_map, a1, b1, g2, stO_bs a3 (one_b _), stO_bs b3 (one_b _), set_bs, a4, b4, xa, xb, stO_bs a5 (one_b _), stO_bs b5 (one_b _), List.set_set, a2, b2]
          refine lop_next (i + 1) (by omega) (by omega) (ent_l (fun i => i) ?_ ?_ rfl rfl) <;> simp only [wx, wex, wez, stV, seval, IntWalk.iteOmega, IntWalk.toNatUp, reduceCtorEq]
        · have a2 := mixS_step lk 54 0 i hlt (fill_hi k i (by omega) hlt)
          have b2 := mixS_step lk 92 0 i hlt (fill_hi k i (by omega) hlt)
          have xa := bl_xor 0 54 54 rfl
          have xb := bl_xor 0 92 92 rfl
          simp only [lp_topk_0, tkSt, wx, wy, wz, stV, seval, IntWalk.iteOmega, IntWalk.toNatUp, reduceCtorEq, get_map, a1, b1, xa, xb, stO_bs a3 (one_b _), stO_bs b3 (one_b _), set_bs, a2, b2]
          refine lop_next (i + 1) (by omega) (by omega) (ent_l (fun i => i) ?_ ?_ rfl rfl) <;> simp only [wx, wex, wez, stV, seval, IntWalk.iteOmega, IntWalk.toNatUp, reduceCtorEq]
      · obtain rfl : i = 64 := by omega
        have ma := mixS_all lk 54
        have mb := mixS_all lk 92
        have la := mixK_len k 54
        have lb := mixK_len k 92
        have ta : (mixK k 54).take 64 = mixK k 54 := List.take_of_length_le (by omega)
        have tb : (mixK k 92).take 64 = mixK k 92 := List.take_of_length_le (by omega)
        have c0 := beg_at G hF
        have c1 := more_at G hG [] (mixK k 54) (mixK k 54) rfl (by omega)
        have c2 := more_at G hG (mixK k 54) info (mixK k 54 ++ info) rfl (by rw [List.length_append]; omega)
        have c3 := end_at G hG (mixK k 54 ++ info) (by rw [List.length_append]; omega)
        unfold stD at c2 c3
        generalize ((mixK k 54 ++ info).length : Int) = cc at c2 c3
        have c4 := exp_c G hF hG k info (by omega) (by omega) 64 (by decide) (by decide)
        rw [expE_in (by decide), expL_in k info (by decide)] at c4
        have et : (64 : Int).toNat = 64 := rfl
        rw [et] at c4
        have l64 := expK_len k info 64
        obtain ⟨x1, x2⟩ := exp_two k info
        have j1 := rjoin_c G [info, [1]] (by simp) (by simp; omega)
        have f1 : [info, [(1 : UInt8)]].flatten = info ++ [1] := by simp
        rw [f1] at j1
        have m1 := mac_c G hF hG k (info ++ [1]) (by omega) (by rw [List.length_append]; simp; omega)
        have lm := macK_len k (info ++ [1])
        have m2 := mac_c G hF hG k info (by omega) (by omega)
        have ls := sumK_len (mixK k 54 ++ info)
        have j2 := rjoin_c G [mixK k 92, sumK (mixK k 54 ++ info)] (by simp) (by simp; omega)
        have f2 : [mixK k 92, sumK (mixK k 54 ++ info)].flatten = mixK k 92 ++ sumK (mixK k 54 ++ info) := by simp
        rw [f2] at j2
        have s2 := sum_c G hF hG (mixK k 92 ++ sumK (mixK k 54 ++ info)) (by rw [List.length_append]; omega)
        have hmac : sumK (mixK k 92 ++ sumK (mixK k 54 ++ info)) = macK k info := rfl
        rw [hmac] at s2
        have j3 := rjoin_c G [macK k (info ++ [1]), info, [2]] (by simp) (by simp; omega)
        have f3 : [macK k (info ++ [1]), info, [(2 : UInt8)]].flatten = macK k (info ++ [1]) ++ info ++ [2] := by simp
        rw [f3] at j3
        have m3 := mac_c G hF hG k (macK k (info ++ [1]) ++ info ++ [2]) (by omega) (by simp; omega)
        have q1 := rsame_c G (macK k info) (macK k info)
        have q2 := rsame_c G (macK k (info ++ [1])) (macK k (info ++ [1]))
        have q3 := rsame_c G (macK k (macK k (info ++ [1]) ++ info ++ [2])) (macK k (macK k (info ++ [1]) ++ info ++ [2]))
        rw [beq_self_eq_true] at q1 q2 q3
        have lw3 := macK_len k (macK k (info ++ [1]) ++ info ++ [2])
        generalize macK k (macK k (info ++ [1]) ++ info ++ [2]) = w3 at *
        have t3 : w3.take 32 = w3 := List.take_of_length_le (by omega)
        generalize macK k (info ++ [1]) ++ info ++ [2] = v3 at *
        generalize macK k (info ++ [1]) = w1 at *
        generalize macK k info = w2 at *
        generalize expK k info 64 = y at *
        generalize mixK k 92 ++ sumK (mixK k 54 ++ info) = v2 at *
        generalize sumK (mixK k 54 ++ info) = v1 at *
        simp only [lp_topk_0, tkSt, wx, wy, wz, stV, seval, IntWalk.iteOmega, IntWalk.toNatUp, reduceCtorEq, ma, mb]
        refine st_call (c0) rfl (.inl rfl) ?_
        simp only [la, ta, wx, wy, wz, stV, seval, IntWalk.iteOmega, IntWalk.toNatUp, reduceCtorEq]
        refine st_call (c1) rfl (.inl rfl) ?_
        simp only [wx, wy, wz, stV, seval, IntWalk.iteOmega, IntWalk.toNatUp, reduceCtorEq]
        refine st_call (c2) rfl (.inl rfl) ?_
        simp only [wx, wy, wz, stV, seval, IntWalk.iteOmega, IntWalk.toNatUp, reduceCtorEq]
        refine st_call (c3) rfl (.inl rfl) ?_
        simp only [wx, wy, wz, stV, seval, IntWalk.iteOmega, IntWalk.toNatUp, reduceCtorEq]
        refine st_call (c4) rfl (.inl rfl) ?_
        simp only [wx, wy, wz, stV, seval, IntWalk.iteOmega, IntWalk.toNatUp, reduceCtorEq]
        refine st_call (j1) rfl (.inl rfl) ?_
        simp only [wx, wy, wz, stV, seval, IntWalk.iteOmega, IntWalk.toNatUp, reduceCtorEq]
        refine st_call (m1) rfl (.inl rfl) ?_
        simp only [l64, wx, wy, wz, stV, seval, IntWalk.iteOmega, IntWalk.toNatUp, reduceCtorEq]
        refine st_call (roused_c G hF hG) rfl (.inl rfl) ?_
        simp only [wx, wy, wz, stV, seval, IntWalk.iteOmega, IntWalk.toNatUp, reduceCtorEq]
        refine st_call (m2) rfl (.inl rfl) ?_
        simp only [lb, tb, wx, wy, wz, stV, seval, IntWalk.iteOmega, IntWalk.toNatUp, reduceCtorEq]
        refine st_call (j2) rfl (.inl rfl) ?_
        simp only [wx, wy, wz, stV, seval, IntWalk.iteOmega, IntWalk.toNatUp, reduceCtorEq]
        refine st_call (s2) rfl (.inl rfl) ?_
        simp only [wx, wy, wz, stV, seval, IntWalk.iteOmega, IntWalk.toNatUp, reduceCtorEq]
        refine st_call (q1) rfl (.inl rfl) ?_
        simp only [l64, x1, wx, wy, wz, stV, seval, IntWalk.iteOmega, IntWalk.toNatUp, reduceCtorEq]
        refine st_call (q2) rfl (.inl rfl) ?_
        simp only [l64, x2, t3, wx, wy, wz, stV, seval, IntWalk.iteOmega, IntWalk.toNatUp, reduceCtorEq]
        refine st_call (j3) rfl (.inl rfl) ?_
        simp only [wx, wy, wz, stV, seval, IntWalk.iteOmega, IntWalk.toNatUp, reduceCtorEq]
        refine st_call (m3) rfl (.inl rfl) ?_
        simp only [wx, wy, wz, stV, seval, IntWalk.iteOmega, IntWalk.toNatUp, reduceCtorEq]
        refine st_call (q3) rfl (.inl rfl) ?_
        simp only [wx, wy, wz, stV, seval, IntWalk.iteOmega, IntWalk.toNatUp, reduceCtorEq]
        exact ret_d1 (by simp only [wx, wy, wz, stV, seval, IntWalk.iteOmega, IntWalk.toNatUp, reduceCtorEq])
end Go.Proofs.YtjgkchmdhicmpaaDoor
