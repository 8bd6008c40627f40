/- The laws of layer 8: keys and signatures. Own work. -/
import Derived.Test.YtgepbpcolddgoaaDoorAlV
import Derived.Test.YtgepbpcolddgoaaDoorLh0
import Derived.Test.YtgepbpcolddgoaaDoorPn2
import Derived.Test.YtgepbpcolddgoaaDoorPw1
set_option linter.unusedVariables false
set_option linter.unusedSimpArgs false
namespace Go.Proofs.YtgepbpcolddgoaaDoor
open Go.RowKit

def sf_oacts : SFn := ⟨5, 132,
  .seq (.reg [⟨(some 10), .mv (.k (.c (.d (.bool false)))), none⟩])
  (.seq (.seq (.reg [⟨(some 27), .mv (.t 0), none⟩,
    ⟨(some 28), .len (.t 27), none⟩,
    ⟨(some 29), .bin .gtr (.t 28) (.k (.c (.d (.int .i64 60)))), none⟩,
    ⟨(some 30), .mv (.t 29), none⟩,
    ⟨(some 31), .mv (.t 3), (some (30, false))⟩,
    ⟨(some 32), .len (.t 31), (some (30, false))⟩,
    ⟨(some 33), .bin .gtr (.t 32) (.k (.c (.d (.int .i64 40)))), (some (30, false))⟩,
    ⟨(some 34), .pick (.t 30) (.k (.c (.d (.bool true)))) (.t 33), none⟩,
    ⟨(some 35), .mv (.t 34), none⟩,
    ⟨(some 36), .mv (.t 4), (some (35, false))⟩,
    ⟨(some 37), .call 7 [(.t 36)] none, (some (35, false))⟩,
    ⟨(some 38), .un .not (.t 37), (some (35, false))⟩,
    ⟨(some 39), .pick (.t 35) (.k (.c (.d (.bool true)))) (.t 38), none⟩])
  (.cond (.t 39) (.seq (.reg [⟨(some 40), .call 8 [] none, none⟩,
     ⟨(some 10), .mv (.t 40), none⟩])
   (.ret))
   (.skip)))
  (.seq (.reg [⟨(some 42), .mv (.t 3), none⟩,
    ⟨(some 43), .call 9 [(.t 42)] none, none⟩,
    ⟨(some 41), .mv (.t 43), none⟩,
    ⟨(some 44), .extract (.t 41) 0, none⟩,
    ⟨(some 45), .extract (.t 41) 1, none⟩,
    ⟨(some 11), .mv (.t 44), none⟩,
    ⟨(some 12), .mv (.t 45), none⟩])
  (.seq (.reg [⟨(some 47), .mv (.t 3), none⟩,
    ⟨(some 48), .call 10 [(.t 47)] none, none⟩,
    ⟨(some 46), .mv (.t 48), none⟩,
    ⟨(some 49), .extract (.t 46) 0, none⟩,
    ⟨(some 50), .extract (.t 46) 1, none⟩,
    ⟨(some 13), .mv (.t 49), none⟩,
    ⟨(some 14), .mv (.t 50), none⟩])
  (.seq (.reg [⟨(some 52), .mv (.t 0), none⟩,
    ⟨(some 53), .mv (.t 1), none⟩,
    ⟨(some 54), .mv (.t 2), none⟩,
    ⟨(some 55), .call 11 [(.t 52), (.t 53), (.t 54)] none, none⟩,
    ⟨(some 51), .mv (.t 55), none⟩,
    ⟨(some 56), .extract (.t 51) 0, none⟩,
    ⟨(some 57), .extract (.t 51) 1, none⟩,
    ⟨(some 15), .mv (.t 56), none⟩,
    ⟨(some 16), .mv (.t 57), none⟩])
  (.seq (.reg [⟨(some 59), .mv (.t 0), none⟩,
    ⟨(some 60), .mv (.t 1), none⟩,
    ⟨(some 61), .mv (.t 2), none⟩,
    ⟨(some 62), .call 12 [(.t 59), (.t 60), (.t 61)] none, none⟩,
    ⟨(some 58), .mv (.t 62), none⟩,
    ⟨(some 63), .extract (.t 58) 0, none⟩,
    ⟨(some 64), .extract (.t 58) 1, none⟩,
    ⟨(some 17), .mv (.t 63), none⟩,
    ⟨(some 18), .mv (.t 64), none⟩])
  (.seq (.reg [⟨(some 66), .mv (.t 0), none⟩,
    ⟨(some 67), .mv (.t 1), none⟩,
    ⟨(some 68), .mv (.t 3), none⟩,
    ⟨(some 69), .call 13 [(.t 66), (.t 67), (.t 68)] none, none⟩,
    ⟨(some 65), .mv (.t 69), none⟩,
    ⟨(some 70), .extract (.t 65) 0, none⟩,
    ⟨(some 71), .extract (.t 65) 1, none⟩,
    ⟨(some 19), .mv (.t 70), none⟩,
    ⟨(some 20), .mv (.t 71), none⟩])
  (.seq (.reg [⟨(some 73), .mv (.t 0), none⟩,
    ⟨(some 74), .mv (.t 1), none⟩,
    ⟨(some 75), .mv (.t 3), none⟩,
    ⟨(some 76), .call 14 [(.t 73), (.t 74), (.t 75)] none, none⟩,
    ⟨(some 72), .mv (.t 76), none⟩,
    ⟨(some 77), .extract (.t 72) 0, none⟩,
    ⟨(some 78), .extract (.t 72) 1, none⟩,
    ⟨(some 21), .mv (.t 77), none⟩,
    ⟨(some 22), .mv (.t 78), none⟩])
  (.seq (.reg [⟨(some 80), .mv (.t 3), none⟩,
    ⟨(some 81), .mv (.t 4), none⟩,
    ⟨(some 82), .call 15 [(.t 80), (.t 81)] none, none⟩,
    ⟨(some 79), .mv (.t 82), none⟩,
    ⟨(some 83), .extract (.t 79) 0, none⟩,
    ⟨(some 84), .extract (.t 79) 1, none⟩,
    ⟨(some 23), .mv (.t 83), none⟩,
    ⟨(some 24), .mv (.t 84), none⟩])
  (.seq (.reg [⟨(some 86), .mv (.t 3), none⟩,
    ⟨(some 87), .mv (.t 4), none⟩,
    ⟨(some 88), .call 16 [(.t 86), (.t 87)] none, none⟩,
    ⟨(some 85), .mv (.t 88), none⟩,
    ⟨(some 89), .extract (.t 85) 0, none⟩,
    ⟨(some 90), .extract (.t 85) 1, none⟩,
    ⟨(some 25), .mv (.t 89), none⟩,
    ⟨(some 26), .mv (.t 90), none⟩])
  (.seq (.reg [⟨(some 91), .call 8 [] none, none⟩,
    ⟨(some 92), .mv (.t 91), none⟩,
    ⟨(some 93), .mv (.t 12), (some (92, true))⟩,
    ⟨(some 94), .mv (.t 14), (some (92, true))⟩,
    ⟨(some 95), .bin .eql (.t 93) (.t 94), (some (92, true))⟩,
    ⟨(some 96), .pick (.t 92) (.t 95) (.k (.c (.d (.bool false)))), none⟩,
    ⟨(some 97), .mv (.t 96), none⟩,
    ⟨(some 98), .mv (.t 11), (some (97, true))⟩,
    ⟨(some 99), .mv (.t 13), (some (97, true))⟩,
    ⟨(some 100), .call 17 [(.t 98), (.t 99)] none, (some (97, true))⟩,
    ⟨(some 101), .pick (.t 97) (.t 100) (.k (.c (.d (.bool false)))), none⟩,
    ⟨(some 102), .mv (.t 101), none⟩,
    ⟨(some 103), .mv (.t 16), (some (102, true))⟩,
    ⟨(some 104), .mv (.t 18), (some (102, true))⟩,
    ⟨(some 105), .bin .eql (.t 103) (.t 104), (some (102, true))⟩,
    ⟨(some 106), .pick (.t 102) (.t 105) (.k (.c (.d (.bool false)))), none⟩,
    ⟨(some 107), .mv (.t 106), none⟩,
    ⟨(some 108), .mv (.t 15), (some (107, true))⟩,
    ⟨(some 109), .mv (.t 17), (some (107, true))⟩,
    ⟨(some 110), .call 18 [(.t 108), (.t 109)] none, (some (107, true))⟩,
    ⟨(some 111), .pick (.t 107) (.t 110) (.k (.c (.d (.bool false)))), none⟩,
    ⟨(some 112), .mv (.t 111), none⟩,
    ⟨(some 113), .mv (.t 20), (some (112, true))⟩,
    ⟨(some 114), .mv (.t 22), (some (112, true))⟩,
    ⟨(some 115), .bin .eql (.t 113) (.t 114), (some (112, true))⟩,
    ⟨(some 116), .pick (.t 112) (.t 115) (.k (.c (.d (.bool false)))), none⟩,
    ⟨(some 117), .mv (.t 116), none⟩,
    ⟨(some 118), .mv (.t 19), (some (117, true))⟩,
    ⟨(some 119), .mv (.t 21), (some (117, true))⟩,
    ⟨(some 120), .call 19 [(.t 118), (.t 119)] none, (some (117, true))⟩,
    ⟨(some 121), .pick (.t 117) (.t 120) (.k (.c (.d (.bool false)))), none⟩,
    ⟨(some 122), .mv (.t 121), none⟩,
    ⟨(some 123), .mv (.t 24), (some (122, true))⟩,
    ⟨(some 124), .mv (.t 26), (some (122, true))⟩,
    ⟨(some 125), .bin .eql (.t 123) (.t 124), (some (122, true))⟩,
    ⟨(some 126), .pick (.t 122) (.t 125) (.k (.c (.d (.bool false)))), none⟩,
    ⟨(some 127), .mv (.t 126), none⟩,
    ⟨(some 128), .mv (.t 23), (some (127, true))⟩,
    ⟨(some 129), .mv (.t 25), (some (127, true))⟩,
    ⟨(some 130), .call 18 [(.t 128), (.t 129)] none, (some (127, true))⟩,
    ⟨(some 131), .pick (.t 127) (.t 130) (.k (.c (.d (.bool false)))), none⟩,
    ⟨(some 10), .mv (.t 131), none⟩])
  (.ret))))))))))),
  [(10, none)]⟩
theorem cf_oacts : compFn Tryd.prog { own := [], comp := [], frz := [], nils := [] } Tryd.f3 = some sf_oacts := by kernel_rfl
set_option maxHeartbeats 1600000 in
theorem oacts_c (G : Glob) (seed : List UInt8) (hseed : seed.length ≤ maxLen) (index : Int) (hindex1 : -9223372036854775808 ≤ index) (hindex2 : index ≤ 9223372036854775807) (chain : Int) (hchain1 : -9223372036854775808 ≤ chain) (hchain2 : chain ≤ 9223372036854775807) (digest : List UInt8) (hdigest : digest.length ≤ maxLen) (signature : List (List UInt8)) (hsignature1 : signature.length ≤ maxLen) (hsignature2 : ∀ x ∈ signature, x.length ≤ maxLen) (hF : G.at 0 = some (.ra (firstK.map wD))) (hG : G.at 1 = some (.ra (constK.map wD))) : Den Tryd.prog G 3 [.sl (seed.map bD), .int .i64 index, .int .i64 chain, .sl (digest.map bD), .sl (signature.map fun l => D.sl (l.map bD))] (.w (.c (.d (.bool true)))) := by
  refine den_walk Tryd.func3 cf_oacts rfl rfl ?_
  have hm : maxLen ≤ 9223372036854775807 := by decide
  have hx : ∀ x ∈ signature, x.length ≤ 9223372036854775807 := fun x hx => Nat.le_trans (hsignature2 x hx) hm
  have hl := lig8_c G signature (by omega) hx
  by_cases k1 : 60 < seed.length
  · simp only [sf_oacts, putAll, wx, wy, wz, stV, seval, IntWalk.iteOmega, IntWalk.toNatUp, reduceCtorEq]
    refine st_call (known8_c G) rfl (.inl rfl) ?_
    simp only [wx, wy, wz, stV, seval, IntWalk.iteOmega, IntWalk.toNatUp, reduceCtorEq]
    exact ret_d1 (by simp only [wx, wy, wz, stV, seval, IntWalk.iteOmega, IntWalk.toNatUp, reduceCtorEq])
  · by_cases k2 : 40 < digest.length
    · simp only [sf_oacts, putAll, wx, wy, wz, stV, seval, IntWalk.iteOmega, IntWalk.toNatUp, reduceCtorEq]
      refine st_call (known8_c G) rfl (.inl rfl) ?_
      simp only [wx, wy, wz, stV, seval, IntWalk.iteOmega, IntWalk.toNatUp, reduceCtorEq]
      exact ret_d1 (by simp only [wx, wy, wz, stV, seval, IntWalk.iteOmega, IntWalk.toNatUp, reduceCtorEq])
    · cases h : light8B signature
      · rw [h] at hl
        simp only [sf_oacts, putAll, wx, wy, wz, stV, seval, IntWalk.iteOmega, IntWalk.toNatUp, reduceCtorEq]
        refine st_call (hl) rfl (.inl rfl) ?_
        simp only [wx, wy, wz, stV, seval, IntWalk.iteOmega, IntWalk.toNatUp, reduceCtorEq]
        refine st_call (known8_c G) rfl (.inl rfl) ?_
        simp only [wx, wy, wz, stV, seval, IntWalk.iteOmega, IntWalk.toNatUp, reduceCtorEq]
        exact ret_d1 (by simp only [wx, wy, wz, stV, seval, IntWalk.iteOmega, IntWalk.toNatUp, reduceCtorEq])
      · rw [h] at hl
        obtain ⟨q1, q2⟩ := light8_ok h
        have hdl : (dgtV digest).length ≤ 100 := by
          unfold dgtV
          split
          · rw [digN_len]; omega
          · exact Nat.zero_le _
        have hsl : (sigV seed index digest).length ≤ 35 := by
          unfold sigV
          split
          · unfold sigM; rw [sigN_len]; exact Nat.le_refl _
          · exact Nat.zero_le _
        simp only [sf_oacts, putAll, wx, wy, wz, stV, seval, IntWalk.iteOmega, IntWalk.toNatUp, reduceCtorEq]
        refine st_call (hl) rfl (.inl rfl) ?_
        simp only [wx, wy, wz, stV, seval, IntWalk.iteOmega, IntWalk.toNatUp, reduceCtorEq]
        refine st_call (dgs_c G digest (by omega)) rfl (.inl rfl) ?_
        simp only [wx, wy, wz, stV, seval, IntWalk.iteOmega, IntWalk.toNatUp, reduceCtorEq]
        refine st_call (rdgs_c G digest (by omega)) rfl (.inl rfl) ?_
        simp only [wx, wy, wz, stV, seval, IntWalk.iteOmega, IntWalk.toNatUp, reduceCtorEq]
        refine st_call (sec_c G hF hG seed index chain) rfl (.inl rfl) ?_
        simp only [wx, wy, wz, stV, seval, IntWalk.iteOmega, IntWalk.toNatUp, reduceCtorEq]
        refine st_call (rsec_c G seed index chain) rfl (.inl rfl) ?_
        simp only [wx, wy, wz, stV, seval, IntWalk.iteOmega, IntWalk.toNatUp, reduceCtorEq]
        refine st_call (sgn_c G hF hG seed index digest (by omega)) rfl (.inl rfl) ?_
        simp only [wx, wy, wz, stV, seval, IntWalk.iteOmega, IntWalk.toNatUp, reduceCtorEq]
        refine st_call (rsgn_c G seed index digest (by omega)) rfl (.inl rfl) ?_
        simp only [wx, wy, wz, stV, seval, IntWalk.iteOmega, IntWalk.toNatUp, reduceCtorEq]
        refine st_call (rec_c G hF hG digest signature (by omega) (by omega) hx) rfl (.inl rfl) ?_
        simp only [wx, wy, wz, stV, seval, IntWalk.iteOmega, IntWalk.toNatUp, reduceCtorEq]
        refine st_call (rrec_c G digest signature (by omega) (by omega) hx) rfl (.inl rfl) ?_
        simp only [wx, wy, wz, stV, seval, IntWalk.iteOmega, IntWalk.toNatUp, reduceCtorEq]
        refine st_call (known8_c G) rfl (.inl rfl) ?_
        simp only [wx, wy, wz, stV, seval, IntWalk.iteOmega, IntWalk.toNatUp, reduceCtorEq]
        refine st_call (same8_c G (dgtV digest) (by omega)) rfl (.inl rfl) ?_
        simp only [wx, wy, wz, stV, seval, IntWalk.iteOmega, IntWalk.toNatUp, reduceCtorEq]
        refine st_call (rsame_c G (secV seed index chain) (secV seed index chain)) rfl (.inl rfl) ?_
        simp only [wx, wy, wz, stV, seval, IntWalk.iteOmega, IntWalk.toNatUp, reduceCtorEq]
        refine st_call (sls_c G (sigV seed index digest) (sigV seed index digest) (by omega) (by omega)) rfl (.inl rfl) ?_
        simp only [wx, wy, wz, stV, seval, IntWalk.iteOmega, IntWalk.toNatUp, reduceCtorEq]
        refine st_call (rsame_c G (recV digest signature) (recV digest signature)) rfl (.inl rfl) ?_
        simp only [wx, wy, wz, stV, seval, IntWalk.iteOmega, IntWalk.toNatUp, reduceCtorEq]
        exact ret_d1 (by simp only [wx, wy, wz, stV, seval, IntWalk.iteOmega, IntWalk.toNatUp, reduceCtorEq])
theorem key8 (seed : Int) : (bytesK seed 32).length = 32 := by rw [bytesK_len]; rfl
theorem dig8 (seed : Int) : (bytesK seed 16).length = 16 := by rw [bytesK_len]; rfl
theorem chk8 {k : List UInt8} {i : Int} (h : k.length = 32) (h1 : 0 ≤ i) (h2 : i ≤ 2147483647) : chkE k i = 0 := by
  unfold chkE; rw [if_neg (by omega), if_neg (by omega)]
theorem form8 (k : List UInt8) (i : Nat) (d : List UInt8) : formB (sigM k i d) = true := by
  unfold formB
  rw [decide_eq_true (show (sigM k i d).length = 35 from sigN_len _ _ _ _), Bool.true_and, List.all_eq_true]
  intro x hx
  exact decide_eq_true (sig_mem x hx)
theorem rec8 {d : List UInt8} {s : List (List UInt8)} (h : d.length = 16) (hf : formB s = true) : recE d s = 0 ∧ recV d s = recM d s := by
  have hE : recE d s = 0 := by unfold recE; rw [if_pos (dig_ok h).1, hf]; rfl
  exact ⟨hE, if_pos hE⟩
def sf_orecs : SFn := ⟨3, 78,
  .seq (.reg [⟨(some 6), .mv (.k (.c (.d (.bool false)))), none⟩])
  (.seq (.reg [⟨(some 17), .mv (.t 0), none⟩,
    ⟨(some 18), .call 21 [(.t 17), (.k (.c (.d (.int .i64 1000))))] none, none⟩,
    ⟨(some 19), .call 20 [(.t 18)] none, none⟩,
    ⟨(some 7), .mv (.t 19), none⟩])
  (.seq (.reg [⟨(some 20), .mv (.t 1), none⟩,
    ⟨(some 21), .call 21 [(.t 20), (.k (.c (.d (.int .i64 2147483648))))] none, none⟩,
    ⟨(some 1), .mv (.t 21), none⟩])
  (.seq (.reg [⟨(some 22), .mv (.t 2), none⟩,
    ⟨(some 23), .call 21 [(.t 22), (.k (.c (.d (.int .i64 100000))))] none, none⟩,
    ⟨(some 24), .call 22 [(.t 23), (.k (.c (.d (.int .i64 16))))] none, none⟩,
    ⟨(some 8), .mv (.t 24), none⟩])
  (.seq (.reg [⟨(some 26), .mv (.t 7), none⟩,
    ⟨(some 27), .mv (.t 1), none⟩,
    ⟨(some 28), .call 23 [(.t 26), (.t 27)] none, none⟩,
    ⟨(some 25), .mv (.t 28), none⟩,
    ⟨(some 29), .extract (.t 25) 0, none⟩,
    ⟨(some 30), .extract (.t 25) 1, none⟩,
    ⟨(some 9), .mv (.t 29), none⟩,
    ⟨(some 10), .mv (.t 30), none⟩])
  (.seq (.reg [⟨(some 32), .mv (.t 7), none⟩,
    ⟨(some 33), .mv (.t 1), none⟩,
    ⟨(some 34), .mv (.t 8), none⟩,
    ⟨(some 35), .call 13 [(.t 32), (.t 33), (.t 34)] none, none⟩,
    ⟨(some 31), .mv (.t 35), none⟩,
    ⟨(some 36), .extract (.t 31) 0, none⟩,
    ⟨(some 37), .extract (.t 31) 1, none⟩,
    ⟨(some 11), .mv (.t 36), none⟩,
    ⟨(some 12), .mv (.t 37), none⟩])
  (.seq (.reg [⟨(some 39), .mv (.t 8), none⟩,
    ⟨(some 40), .mv (.t 11), none⟩,
    ⟨(some 41), .call 15 [(.t 39), (.t 40)] none, none⟩,
    ⟨(some 38), .mv (.t 41), none⟩,
    ⟨(some 42), .extract (.t 38) 0, none⟩,
    ⟨(some 43), .extract (.t 38) 1, none⟩,
    ⟨(some 13), .mv (.t 42), none⟩,
    ⟨(some 14), .mv (.t 43), none⟩])
  (.seq (.reg [⟨(some 45), .mv (.t 7), none⟩,
    ⟨(some 46), .mv (.t 1), none⟩,
    ⟨(some 47), .call 24 [(.t 45), (.t 46)] none, none⟩,
    ⟨(some 44), .mv (.t 47), none⟩,
    ⟨(some 48), .extract (.t 44) 0, none⟩,
    ⟨(some 49), .extract (.t 44) 1, none⟩,
    ⟨(some 15), .mv (.t 48), none⟩,
    ⟨(some 16), .mv (.t 49), none⟩])
  (.seq (.reg [⟨(some 50), .call 8 [] none, none⟩,
    ⟨(some 51), .mv (.t 50), none⟩,
    ⟨(some 52), .mv (.t 10), (some (51, true))⟩,
    ⟨(some 53), .bin .eql (.t 52) (.k (.c (.d (.int .i64 0)))), (some (51, true))⟩,
    ⟨(some 54), .pick (.t 51) (.t 53) (.k (.c (.d (.bool false)))), none⟩,
    ⟨(some 55), .mv (.t 54), none⟩,
    ⟨(some 56), .mv (.t 12), (some (55, true))⟩,
    ⟨(some 57), .bin .eql (.t 56) (.k (.c (.d (.int .i64 0)))), (some (55, true))⟩,
    ⟨(some 58), .pick (.t 55) (.t 57) (.k (.c (.d (.bool false)))), none⟩,
    ⟨(some 59), .mv (.t 58), none⟩,
    ⟨(some 60), .mv (.t 14), (some (59, true))⟩,
    ⟨(some 61), .bin .eql (.t 60) (.k (.c (.d (.int .i64 0)))), (some (59, true))⟩,
    ⟨(some 62), .pick (.t 59) (.t 61) (.k (.c (.d (.bool false)))), none⟩,
    ⟨(some 63), .mv (.t 62), none⟩,
    ⟨(some 64), .mv (.t 9), (some (63, true))⟩,
    ⟨(some 65), .mv (.t 13), (some (63, true))⟩,
    ⟨(some 66), .call 18 [(.t 64), (.t 65)] none, (some (63, true))⟩,
    ⟨(some 67), .pick (.t 63) (.t 66) (.k (.c (.d (.bool false)))), none⟩,
    ⟨(some 68), .mv (.t 67), none⟩,
    ⟨(some 69), .mv (.t 9), (some (68, true))⟩,
    ⟨(some 70), .mv (.t 15), (some (68, true))⟩,
    ⟨(some 71), .call 18 [(.t 69), (.t 70)] none, (some (68, true))⟩,
    ⟨(some 72), .pick (.t 68) (.t 71) (.k (.c (.d (.bool false)))), none⟩,
    ⟨(some 73), .mv (.t 72), none⟩,
    ⟨(some 74), .mv (.t 11), (some (73, true))⟩,
    ⟨(some 75), .len (.t 74), (some (73, true))⟩,
    ⟨(some 76), .bin .eql (.t 75) (.k (.c (.d (.int .i64 35)))), (some (73, true))⟩,
    ⟨(some 77), .pick (.t 73) (.t 76) (.k (.c (.d (.bool false)))), none⟩,
    ⟨(some 6), .mv (.t 77), none⟩])
  (.ret))))))))),
  [(6, none)]⟩
theorem cf_orecs : compFn Tryd.prog { own := [], comp := [], frz := [], nils := [] } Tryd.f4 = some sf_orecs := by kernel_rfl
set_option maxHeartbeats 1600000 in
theorem orecs_c (G : Glob) (seed : Int) (hseed1 : -9223372036854775808 ≤ seed) (hseed2 : seed ≤ 9223372036854775807) (index : Int) (hindex1 : -9223372036854775808 ≤ index) (hindex2 : index ≤ 9223372036854775807) (digest : Int) (hdigest1 : -9223372036854775808 ≤ digest) (hdigest2 : digest ≤ 9223372036854775807) (hF : G.at 0 = some (.ra (firstK.map wD))) (hG : G.at 1 = some (.ra (constK.map wD))) : Den Tryd.prog G 4 [.int .i64 seed, .int .i64 index, .int .i64 digest] (.w (.c (.d (.bool true)))) := by
  refine den_walk Tryd.func4 cf_orecs rfl rfl ?_
  have r1 := withinN_range seed 1000 (by decide)
  have e1 := within_c G seed 1000 (by decide)
  have r2 := withinN_range index 2147483648 (by decide)
  have e2 := within_c G index 2147483648 (by decide)
  have e3 := within_c G digest 100000 (by decide)
  have hk := wkey_c G (withinN seed 1000)
  have hd := wbytes_c G (withinN digest 100000) 16 (by decide)
  have lk := key8 (withinN seed 1000)
  have ld := dig8 (withinN digest 100000)
  generalize bytesK (withinN seed 1000) 32 = k at *
  generalize bytesK (withinN digest 100000) 16 = d at *
  obtain ⟨i, hi⟩ := Int.eq_ofNat_of_zero_le r2.1
  rw [hi] at e2 r2
  have hc : chkE k (i : Int) = 0 := chk8 lk (by omega) (by omega)
  have hp := pub_c G hF hG k (i : Int)
  have hq := rpub_c G k (i : Int)
  have hs := sgn_c G hF hG k (i : Int) d (by omega)
  have hV : pubV k (i : Int) = pubM k i := if_pos hc
  rw [hV, hc] at hp hq
  rw [(sigE_ok hc ld).1, (sigE_ok hc ld).2] at hs
  have et : ((i : Int).toNat) = i := rfl
  rw [et] at hs
  have hsl : (sigM k i d).length = 35 := sigN_len _ _ _ _
  have hr := rec_c G hF hG d (sigM k i d) (by omega) (by omega) (fun x hx => by rw [sig_mem x hx]; decide)
  rw [(rec8 ld (form8 k i d)).1, (rec8 ld (form8 k i d)).2, rec_sig k i ld] at hr
  generalize sigM k i d = s at *
  generalize pubM k i = p at *
  simp only [sf_orecs, putAll, wx, wy, wz, stV, seval, IntWalk.iteOmega, IntWalk.toNatUp, reduceCtorEq]
  refine st_call (e1) rfl (.inl rfl) ?_
  simp only [wx, wy, wz, stV, seval, IntWalk.iteOmega, IntWalk.toNatUp, reduceCtorEq]
  refine st_call (hk) rfl (.inl rfl) ?_
  simp only [wx, wy, wz, stV, seval, IntWalk.iteOmega, IntWalk.toNatUp, reduceCtorEq]
  refine st_call (e2) rfl (.inl rfl) ?_
  simp only [wx, wy, wz, stV, seval, IntWalk.iteOmega, IntWalk.toNatUp, reduceCtorEq]
  refine st_call (e3) rfl (.inl rfl) ?_
  simp only [wx, wy, wz, stV, seval, IntWalk.iteOmega, IntWalk.toNatUp, reduceCtorEq]
  refine st_call (hd) rfl (.inl rfl) ?_
  simp only [wx, wy, wz, stV, seval, IntWalk.iteOmega, IntWalk.toNatUp, reduceCtorEq]
  refine st_call (hp) rfl (.inl rfl) ?_
  simp only [wx, wy, wz, stV, seval, IntWalk.iteOmega, IntWalk.toNatUp, reduceCtorEq]
  refine st_call (hs) rfl (.inl rfl) ?_
  simp only [wx, wy, wz, stV, seval, IntWalk.iteOmega, IntWalk.toNatUp, reduceCtorEq]
  refine st_call (hr) rfl (.inl rfl) ?_
  simp only [wx, wy, wz, stV, seval, IntWalk.iteOmega, IntWalk.toNatUp, reduceCtorEq]
  refine st_call (hq) rfl (.inl rfl) ?_
  simp only [wx, wy, wz, stV, seval, IntWalk.iteOmega, IntWalk.toNatUp, reduceCtorEq]
  refine st_call (known8_c G) rfl (.inl rfl) ?_
  simp only [wx, wy, wz, stV, seval, IntWalk.iteOmega, IntWalk.toNatUp, reduceCtorEq]
  refine st_call (rsame_c G p p) rfl (.inl rfl) ?_
  simp only [wx, wy, wz, stV, seval, IntWalk.iteOmega, IntWalk.toNatUp, reduceCtorEq]
  refine st_call (rsame_c G p p) rfl (.inl rfl) ?_
  simp only [hsl, wx, wy, wz, stV, seval, IntWalk.iteOmega, IntWalk.toNatUp, reduceCtorEq]
  exact ret_d1 (by simp only [wx, wy, wz, stV, seval, IntWalk.iteOmega, IntWalk.toNatUp, reduceCtorEq])
def sf_ochns : SFn := ⟨4, 82,
  .seq (.reg [⟨(some 8), .mv (.k (.c (.d (.bool false)))), none⟩])
  (.seq (.reg [⟨(some 17), .mv (.t 0), none⟩,
    ⟨(some 18), .call 21 [(.t 17), (.k (.c (.d (.int .i64 1000))))] none, none⟩,
    ⟨(some 19), .call 20 [(.t 18)] none, none⟩,
    ⟨(some 9), .mv (.t 19), none⟩])
  (.seq (.reg [⟨(some 20), .mv (.t 1), none⟩,
    ⟨(some 21), .call 21 [(.t 20), (.k (.c (.d (.int .i64 1000))))] none, none⟩,
    ⟨(some 22), .mv (.t 3), none⟩,
    ⟨(some 23), .call 21 [(.t 22), (.k (.c (.d (.int .i64 35))))] none, none⟩,
    ⟨(some 1), .mv (.t 21), none⟩,
    ⟨(some 3), .mv (.t 23), none⟩])
  (.seq (.reg [⟨(some 24), .mv (.t 2), none⟩,
    ⟨(some 25), .call 21 [(.t 24), (.k (.c (.d (.int .i64 100000))))] none, none⟩,
    ⟨(some 26), .call 22 [(.t 25), (.k (.c (.d (.int .i64 16))))] none, none⟩,
    ⟨(some 10), .mv (.t 26), none⟩])
  (.seq (.reg [⟨(some 28), .mv (.t 9), none⟩,
    ⟨(some 29), .mv (.t 1), none⟩,
    ⟨(some 30), .mv (.t 10), none⟩,
    ⟨(some 31), .call 13 [(.t 28), (.t 29), (.t 30)] none, none⟩,
    ⟨(some 27), .mv (.t 31), none⟩,
    ⟨(some 32), .extract (.t 27) 0, none⟩,
    ⟨(some 33), .extract (.t 27) 1, none⟩,
    ⟨(some 11), .mv (.t 32), none⟩,
    ⟨(some 12), .mv (.t 33), none⟩])
  (.seq (.reg [⟨(some 35), .mv (.t 9), none⟩,
    ⟨(some 36), .mv (.t 1), none⟩,
    ⟨(some 37), .mv (.t 3), none⟩,
    ⟨(some 38), .call 11 [(.t 35), (.t 36), (.t 37)] none, none⟩,
    ⟨(some 34), .mv (.t 38), none⟩,
    ⟨(some 39), .extract (.t 34) 0, none⟩,
    ⟨(some 40), .extract (.t 34) 1, none⟩,
    ⟨(some 13), .mv (.t 39), none⟩,
    ⟨(some 14), .mv (.t 40), none⟩])
  (.seq (.reg [⟨(some 42), .mv (.t 10), none⟩,
    ⟨(some 43), .call 9 [(.t 42)] none, none⟩,
    ⟨(some 41), .mv (.t 43), none⟩,
    ⟨(some 44), .extract (.t 41) 0, none⟩,
    ⟨(some 45), .extract (.t 41) 1, none⟩,
    ⟨(some 15), .mv (.t 44), none⟩,
    ⟨(some 16), .mv (.t 45), none⟩])
  (.seq (.reg [⟨(some 46), .call 8 [] none, none⟩,
    ⟨(some 47), .mv (.t 46), none⟩,
    ⟨(some 48), .mv (.t 12), (some (47, true))⟩,
    ⟨(some 49), .bin .eql (.t 48) (.k (.c (.d (.int .i64 0)))), (some (47, true))⟩,
    ⟨(some 50), .pick (.t 47) (.t 49) (.k (.c (.d (.bool false)))), none⟩,
    ⟨(some 51), .mv (.t 50), none⟩,
    ⟨(some 52), .mv (.t 14), (some (51, true))⟩,
    ⟨(some 53), .bin .eql (.t 52) (.k (.c (.d (.int .i64 0)))), (some (51, true))⟩,
    ⟨(some 54), .pick (.t 51) (.t 53) (.k (.c (.d (.bool false)))), none⟩,
    ⟨(some 55), .mv (.t 54), none⟩,
    ⟨(some 56), .mv (.t 16), (some (55, true))⟩,
    ⟨(some 57), .bin .eql (.t 56) (.k (.c (.d (.int .i64 0)))), (some (55, true))⟩,
    ⟨(some 58), .pick (.t 55) (.t 57) (.k (.c (.d (.bool false)))), none⟩,
    ⟨(some 59), .mv (.t 58), none⟩,
    ⟨(some 60), .mv (.t 11), (some (59, true))⟩,
    ⟨(some 61), .len (.t 60), (some (59, true))⟩,
    ⟨(some 62), .bin .eql (.t 61) (.k (.c (.d (.int .i64 35)))), (some (59, true))⟩,
    ⟨(some 63), .pick (.t 59) (.t 62) (.k (.c (.d (.bool false)))), none⟩,
    ⟨(some 64), .mv (.t 63), none⟩,
    ⟨(some 65), .mv (.t 15), (some (64, true))⟩,
    ⟨(some 66), .len (.t 65), (some (64, true))⟩,
    ⟨(some 67), .bin .eql (.t 66) (.k (.c (.d (.int .i64 35)))), (some (64, true))⟩,
    ⟨(some 68), .pick (.t 64) (.t 67) (.k (.c (.d (.bool false)))), none⟩,
    ⟨(some 69), .mv (.t 68), none⟩,
    ⟨(some 70), .mv (.t 11), (some (69, true))⟩,
    ⟨(some 71), .mv (.t 3), (some (69, true))⟩,
    ⟨(some 72), .idxSl 1 (.t 70) (.t 71), (some (69, true))⟩,
    ⟨(some 73), .load .sc (.t 72), (some (69, true))⟩,
    ⟨(some 74), .mv (.t 13), (some (69, true))⟩,
    ⟨(some 75), .mv (.t 15), (some (69, true))⟩,
    ⟨(some 76), .mv (.t 3), (some (69, true))⟩,
    ⟨(some 77), .idxSl 1 (.t 75) (.t 76), (some (69, true))⟩,
    ⟨(some 78), .load .sc (.t 77), (some (69, true))⟩,
    ⟨(some 79), .call 25 [(.t 74), (.t 78)] none, (some (69, true))⟩,
    ⟨(some 80), .call 18 [(.t 73), (.t 79)] none, (some (69, true))⟩,
    ⟨(some 81), .pick (.t 69) (.t 80) (.k (.c (.d (.bool false)))), none⟩,
    ⟨(some 8), .mv (.t 81), none⟩])
  (.ret)))))))),
  [(8, none)]⟩
theorem cf_ochns : compFn Tryd.prog { own := [], comp := [], frz := [], nils := [] } Tryd.f5 = some sf_ochns := by kernel_rfl
set_option maxHeartbeats 1600000 in
theorem ochns_c (G : Glob) (seed : Int) (hseed1 : -9223372036854775808 ≤ seed) (hseed2 : seed ≤ 9223372036854775807) (index : Int) (hindex1 : -9223372036854775808 ≤ index) (hindex2 : index ≤ 9223372036854775807) (digest : Int) (hdigest1 : -9223372036854775808 ≤ digest) (hdigest2 : digest ≤ 9223372036854775807) (chain : Int) (hchain1 : -9223372036854775808 ≤ chain) (hchain2 : chain ≤ 9223372036854775807) (hF : G.at 0 = some (.ra (firstK.map wD))) (hG : G.at 1 = some (.ra (constK.map wD))) : Den Tryd.prog G 5 [.int .i64 seed, .int .i64 index, .int .i64 digest, .int .i64 chain] (.w (.c (.d (.bool true)))) := by
  refine den_walk Tryd.func5 cf_ochns rfl rfl ?_
  have e1 := within_c G seed 1000 (by decide)
  have r2 := withinN_range index 1000 (by decide)
  have e2 := within_c G index 1000 (by decide)
  have r4 := withinN_range chain 35 (by decide)
  have e4 := within_c G chain 35 (by decide)
  have e3 := within_c G digest 100000 (by decide)
  have hk := wkey_c G (withinN seed 1000)
  have hd := wbytes_c G (withinN digest 100000) 16 (by decide)
  have lk := key8 (withinN seed 1000)
  have ld := dig8 (withinN digest 100000)
  generalize bytesK (withinN seed 1000) 32 = k at *
  generalize bytesK (withinN digest 100000) 16 = d at *
  obtain ⟨i, hi⟩ := Int.eq_ofNat_of_zero_le r2.1
  rw [hi] at e2 r2
  obtain ⟨c, hc⟩ := Int.eq_ofNat_of_zero_le r4.1
  rw [hc] at e4 r4
  have hck : chkE k (i : Int) = 0 := chk8 lk (by omega) (by omega)
  have hs := sgn_c G hF hG k (i : Int) d (by omega)
  rw [(sigE_ok hck ld).1, (sigE_ok hck ld).2] at hs
  have et : ((i : Int).toNat) = i := rfl
  rw [et] at hs
  have hx := sec_c G hF hG k (i : Int) (c : Int)
  rw [(secV_ok lk (by omega) (by omega)).1, (secV_ok lk (by omega) (by omega)).2] at hx
  have hn := dgs_c G d (by omega)
  rw [(dig_ok ld).1, (dig_ok ld).2] at hn
  have hsl : (sigM k i d).length = 35 := sigN_len _ _ _ _
  have hdl : (digN d).length = 35 := by rw [digN_len, ld]
  have g1 := getLs (l := sigM k i d) (j := c) (by omega)
  rw [sig_get k i d (by omega)] at g1
  have g2 := getI (l := digN d) (j := c) (by omega)
  have hdd : (digN d).getD c 0 = digA d c := rfl
  have hle := digA_le ld c
  rw [hdd] at g2
  have hch := chain_c G hF hG (secM k i c) (by rw [secM_len]; decide) (digA d c : Int)
  have hm : (min ((digA d c : Nat) : Int) 65536).toNat = digA d c := by omega
  rw [hm] at hch
  have hsm := rsame_c G (chainK (secM k i c) (digA d c)) (chainK (secM k i c) (digA d c))
  generalize chainK (secM k i c) (digA d c) = z at *
  generalize sigM k i d = s at *
  generalize digN d = n at *
  generalize digA d c = x at *
  simp only [sf_ochns, putAll, wx, wy, wz, stV, seval, IntWalk.iteOmega, IntWalk.toNatUp, reduceCtorEq]
  refine st_call (e1) rfl (.inl rfl) ?_
  simp only [wx, wy, wz, stV, seval, IntWalk.iteOmega, IntWalk.toNatUp, reduceCtorEq]
  refine st_call (hk) rfl (.inl rfl) ?_
  simp only [wx, wy, wz, stV, seval, IntWalk.iteOmega, IntWalk.toNatUp, reduceCtorEq]
  refine st_call (e2) rfl (.inl rfl) ?_
  simp only [wx, wy, wz, stV, seval, IntWalk.iteOmega, IntWalk.toNatUp, reduceCtorEq]
  refine st_call (e4) rfl (.inl rfl) ?_
  simp only [wx, wy, wz, stV, seval, IntWalk.iteOmega, IntWalk.toNatUp, reduceCtorEq]
  refine st_call (e3) rfl (.inl rfl) ?_
  simp only [wx, wy, wz, stV, seval, IntWalk.iteOmega, IntWalk.toNatUp, reduceCtorEq]
  refine st_call (hd) rfl (.inl rfl) ?_
  simp only [wx, wy, wz, stV, seval, IntWalk.iteOmega, IntWalk.toNatUp, reduceCtorEq]
  refine st_call (hs) rfl (.inl rfl) ?_
  simp only [wx, wy, wz, stV, seval, IntWalk.iteOmega, IntWalk.toNatUp, reduceCtorEq]
  refine st_call (hx) rfl (.inl rfl) ?_
  simp only [wx, wy, wz, stV, seval, IntWalk.iteOmega, IntWalk.toNatUp, reduceCtorEq]
  refine st_call (hn) rfl (.inl rfl) ?_
  simp only [wx, wy, wz, stV, seval, IntWalk.iteOmega, IntWalk.toNatUp, reduceCtorEq]
  refine st_call (known8_c G) rfl (.inl rfl) ?_
  simp only [hsl, hdl, get_map, g1, g2, wx, wy, wz, stV, seval, IntWalk.iteOmega, IntWalk.toNatUp, reduceCtorEq]
  refine st_call (hch) rfl (.inl rfl) ?_
  simp only [wx, wy, wz, stV, seval, IntWalk.iteOmega, IntWalk.toNatUp, reduceCtorEq]
  refine st_call (hsm) rfl (.inl rfl) ?_
  simp only [wx, wy, wz, stV, seval, IntWalk.iteOmega, IntWalk.toNatUp, reduceCtorEq]
  exact ret_d1 (by simp only [wx, wy, wz, stV, seval, IntWalk.iteOmega, IntWalk.toNatUp, reduceCtorEq])
def sf_orefs : SFn := ⟨3, 99,
  .seq (.reg [⟨(some 6), .mv (.k (.c (.d (.bool false)))), none⟩])
  (.seq (.reg [⟨(some 19), .mv (.t 0), none⟩,
    ⟨(some 20), .call 21 [(.t 19), (.k (.c (.d (.int .i64 1000))))] none, none⟩,
    ⟨(some 21), .call 20 [(.t 20)] none, none⟩,
    ⟨(some 7), .mv (.t 21), none⟩])
  (.seq (.reg [⟨(some 22), .mv (.t 0), none⟩,
    ⟨(some 23), .call 21 [(.t 22), (.k (.c (.d (.int .i64 1000))))] none, none⟩,
    ⟨(some 24), .bin .add (.t 23) (.k (.c (.d (.int .i64 5)))), none⟩,
    ⟨(some 25), .call 22 [(.t 24), (.k (.c (.d (.int .i64 16))))] none, none⟩,
    ⟨(some 8), .mv (.t 25), none⟩])
  (.seq (.reg [⟨(some 27), .mv (.t 7), none⟩,
    ⟨(some 28), .mv (.t 8), none⟩,
    ⟨(some 29), .call 14 [(.t 27), (.k (.c (.d (.int .i64 3)))), (.t 28)] (some (0, 1)), none⟩,
    ⟨(some 26), .mv (.t 29), none⟩,
    ⟨(some 30), .extract (.t 26) 0, none⟩,
    ⟨(some 31), .extract (.t 26) 1, none⟩,
    ⟨(some 9), .mv (.t 30), none⟩,
    ⟨(some 10), .mv (.t 31), none⟩])
  (.seq (.seq (.reg [⟨(some 32), .mv (.t 10), none⟩,
    ⟨(some 33), .bin .neq (.t 32) (.k (.c (.d (.int .i64 0)))), none⟩])
  (.cond (.t 33) (.seq (.reg [⟨(some 6), .mv (.k (.c (.d (.bool false)))), none⟩])
   (.ret))
   (.skip)))
  (.seq (.reg [⟨(some 35), .mv (.t 8), none⟩,
    ⟨(some 36), .mv (.t 1), none⟩,
    ⟨(some 37), .mv (.t 2), none⟩,
    ⟨(some 38), .call 26 [(.t 35), (.t 36), (.t 37)] none, none⟩,
    ⟨(some 39), .mv (.t 9), none⟩,
    ⟨(some 40), .call 15 [(.t 38), (.t 39)] none, none⟩,
    ⟨(some 34), .mv (.t 40), none⟩,
    ⟨(some 41), .extract (.t 34) 0, none⟩,
    ⟨(some 42), .extract (.t 34) 1, none⟩,
    ⟨(some 11), .mv (.t 41), none⟩,
    ⟨(some 12), .mv (.t 42), none⟩])
  (.seq (.reg [⟨(some 44), .mv (.t 8), none⟩,
    ⟨(some 45), .mv (.t 1), none⟩,
    ⟨(some 46), .mv (.t 2), none⟩,
    ⟨(some 47), .call 26 [(.t 44), (.t 45), (.t 46)] none, none⟩,
    ⟨(some 48), .mv (.t 9), none⟩,
    ⟨(some 49), .call 16 [(.t 47), (.t 48)] none, none⟩,
    ⟨(some 43), .mv (.t 49), none⟩,
    ⟨(some 50), .extract (.t 43) 0, none⟩,
    ⟨(some 51), .extract (.t 43) 1, none⟩,
    ⟨(some 13), .mv (.t 50), none⟩,
    ⟨(some 14), .mv (.t 51), none⟩])
  (.seq (.reg [⟨(some 52), .mv (.t 9), none⟩,
    ⟨(some 53), .mv (.t 1), none⟩,
    ⟨(some 54), .mv (.t 9), none⟩,
    ⟨(some 55), .len (.t 54), none⟩,
    ⟨(some 56), .call 21 [(.t 53), (.t 55)] none, none⟩,
    ⟨(some 57), .mv (.t 9), none⟩,
    ⟨(some 58), .mv (.t 1), none⟩,
    ⟨(some 59), .mv (.t 9), none⟩,
    ⟨(some 60), .len (.t 59), none⟩,
    ⟨(some 61), .call 21 [(.t 58), (.t 60)] none, none⟩,
    ⟨(some 62), .idxSl 1 (.t 57) (.t 61), none⟩,
    ⟨(some 63), .load .sc (.t 62), none⟩,
    ⟨(some 64), .mv (.t 2), none⟩,
    ⟨(some 65), .mv (.t 1), none⟩,
    ⟨(some 66), .call 26 [(.t 63), (.t 64), (.t 65)] none, none⟩,
    ⟨(some 67), .idxSl 1 (.t 52) (.t 56), none⟩,
    ⟨none, .store .sc (.t 67) (.t 66), none⟩])
  (.seq (.reg [⟨(some 69), .mv (.t 8), none⟩,
    ⟨(some 70), .mv (.t 9), none⟩,
    ⟨(some 71), .call 15 [(.t 69), (.t 70)] none, none⟩,
    ⟨(some 68), .mv (.t 71), none⟩,
    ⟨(some 72), .extract (.t 68) 0, none⟩,
    ⟨(some 73), .extract (.t 68) 1, none⟩,
    ⟨(some 15), .mv (.t 72), none⟩,
    ⟨(some 16), .mv (.t 73), none⟩])
  (.seq (.reg [⟨(some 75), .mv (.t 8), none⟩,
    ⟨(some 76), .mv (.t 9), none⟩,
    ⟨(some 77), .call 16 [(.t 75), (.t 76)] none, none⟩,
    ⟨(some 74), .mv (.t 77), none⟩,
    ⟨(some 78), .extract (.t 74) 0, none⟩,
    ⟨(some 79), .extract (.t 74) 1, none⟩,
    ⟨(some 17), .mv (.t 78), none⟩,
    ⟨(some 18), .mv (.t 79), none⟩])
  (.seq (.reg [⟨(some 80), .call 8 [] none, none⟩,
    ⟨(some 81), .mv (.t 80), none⟩,
    ⟨(some 82), .mv (.t 12), (some (81, true))⟩,
    ⟨(some 83), .bin .eql (.t 82) (.k (.c (.d (.int .i64 0)))), (some (81, true))⟩,
    ⟨(some 84), .pick (.t 81) (.t 83) (.k (.c (.d (.bool false)))), none⟩,
    ⟨(some 85), .mv (.t 84), none⟩,
    ⟨(some 86), .mv (.t 16), (some (85, true))⟩,
    ⟨(some 87), .bin .eql (.t 86) (.k (.c (.d (.int .i64 0)))), (some (85, true))⟩,
    ⟨(some 88), .pick (.t 85) (.t 87) (.k (.c (.d (.bool false)))), none⟩,
    ⟨(some 89), .mv (.t 88), none⟩,
    ⟨(some 90), .mv (.t 11), (some (89, true))⟩,
    ⟨(some 91), .mv (.t 13), (some (89, true))⟩,
    ⟨(some 92), .call 18 [(.t 90), (.t 91)] none, (some (89, true))⟩,
    ⟨(some 93), .pick (.t 89) (.t 92) (.k (.c (.d (.bool false)))), none⟩,
    ⟨(some 94), .mv (.t 93), none⟩,
    ⟨(some 95), .mv (.t 15), (some (94, true))⟩,
    ⟨(some 96), .mv (.t 17), (some (94, true))⟩,
    ⟨(some 97), .call 18 [(.t 95), (.t 96)] none, (some (94, true))⟩,
    ⟨(some 98), .pick (.t 94) (.t 97) (.k (.c (.d (.bool false)))), none⟩,
    ⟨(some 6), .mv (.t 98), none⟩])
  (.ret))))))))))),
  [(6, none)]⟩
theorem cf_orefs : compFn Tryd.prog { own := [], comp := [(29, 0)], frz := [], nils := [] } Tryd.f6 = some sf_orefs := by kernel_rfl
set_option maxHeartbeats 3200000 in
theorem orefs_c (G : Glob) (seed : Int) (hseed1 : -9223372036854775808 ≤ seed) (hseed2 : seed ≤ 9223372036854775807) (at' : Int) (hat1 : -9223372036854775808 ≤ at') (hat2 : at' ≤ 9223372036854775807) (by' : Int) (hby1 : -9223372036854775808 ≤ by') (hby2 : by' ≤ 9223372036854775807) (hF : G.at 0 = some (.ra (firstK.map wD))) (hG : G.at 1 = some (.ra (constK.map wD))) : Den Tryd.prog G 6 [.int .i64 seed, .int .i64 at', .int .i64 by'] (.w (.c (.d (.bool true)))) := by
  refine den_walk Tryd.func6 cf_orefs rfl rfl ?_
  have r1 := withinN_range seed 1000 (by decide)
  have e1 := within_c G seed 1000 (by decide)
  have hk := wkey_c G (withinN seed 1000)
  have hd := wbytes_c G (withinN seed 1000 + 5) 16 (by decide)
  have lk := key8 (withinN seed 1000)
  have ld := dig8 (withinN seed 1000 + 5)
  generalize bytesK (withinN seed 1000) 32 = k at *
  generalize bytesK (withinN seed 1000 + 5) 16 = d at *
  have hck : chkE k 3 = 0 := chk8 lk (by decide) (by decide)
  have hs := rsgn_f G k 3 d (by omega)
  rw [(sigE_ok hck ld).1, (sigE_ok hck ld).2] at hs
  have hsl : (sigM k (3 : Int).toNat d).length = 35 := sigN_len _ _ _ _
  have hsm : ∀ x ∈ sigM k (3 : Int).toNat d, x.length = 16 := fun x hx => sig_mem x hx
  generalize sigM k (3 : Int).toNat d = s at *
  have hsb : ∀ x ∈ s, x.length ≤ 9223372036854775807 := fun x hx => by rw [hsm x hx]; decide
  -- another digest
  have hcd := chg_c G d at' by' (by omega) (by omega)
  have lcd : (changedL d at' by').length = 16 := by rw [changedL_len, ld]
  generalize changedL d at' by' = d2 at *
  have fs : formB s = true := formB_3 hsl (fun j hj => hsm _ (getLs_mem hj))
  have c1 := rec_f G hF hG d2 s (by omega) (by omega) hsb
  have c2 := rrec_f G d2 s (by omega) (by omega) hsb
  rw [(rec8 lcd fs).1, (rec8 lcd fs).2] at c1 c2
  -- an element changed
  have r4 := withinN_range at' 35 (by decide)
  have e4 := within_c G at' 35 (by decide)
  obtain ⟨c, hc⟩ := Int.eq_ofNat_of_zero_le r4.1
  rw [hc] at r4 e4
  have hcl : c < s.length := by omega
  have g3 := getLs (l := s) hcl
  have x3 := hsm _ (getLs_mem hcl)
  have hch := chg_c G (s.getD c []) by' at' (by omega) (by omega)
  have cl : (changedL (s.getD c []) by' at').length = 16 := by rw [changedL_len, x3]
  generalize changedL (s.getD c []) by' at' = z at *
  have hset : (s.map fun l => D.sl (l.map bD)).set c (.sl (z.map bD)) = (s.set c z).map fun l => D.sl (l.map bD) := by rw [List.map_set]
  have sl : (s.set c z).length = 35 := by rw [List.length_set]; exact hsl
  have st : (s.set c z).take 35 = s.set c z := List.take_of_length_le (by omega)
  have s0 : s.take 35 = s := List.take_of_length_le (by omega)
  have ssm : ∀ x ∈ s.set c z, x.length = 16 := fun x hx => by
    rcases List.mem_or_eq_of_mem_set hx with h | h
    · exact hsm x h
    · subst h; exact cl
  have fs2 : formB (s.set c z) = true := formB_3 sl (fun j hj => ssm _ (getLs_mem hj))
  have ssb : ∀ x ∈ s.set c z, x.length ≤ 9223372036854775807 := fun x hx => by rw [ssm x hx]; decide
  have c3 := rec_f G hF hG d (s.set c z) (by omega) (by omega) ssb
  have c4 := rrec_f G d (s.set c z) (by omega) (by omega) ssb
  rw [(rec8 ld fs2).1, (rec8 ld fs2).2] at c3 c4
  have m1 := rsame_c G (recM d2 s) (recM d2 s)
  have m2 := rsame_c G (recM d (s.set c z)) (recM d (s.set c z))
  generalize recM d2 s = x1 at *
  generalize recM d (s.set c z) = x2 at *
  simp only [sf_orefs, putAll, wx, wy, wz, stV, seval, IntWalk.iteOmega, IntWalk.toNatUp, reduceCtorEq]
  refine st_call (e1) rfl (.inl rfl) ?_
  simp only [wx, wy, wz, stV, seval, IntWalk.iteOmega, IntWalk.toNatUp, reduceCtorEq]
  refine st_call (hk) rfl (.inl rfl) ?_
  simp only [wx, wy, wz, stV, seval, IntWalk.iteOmega, IntWalk.toNatUp, reduceCtorEq]
  refine st_call (e1) rfl (.inl rfl) ?_
  simp only [wx, wy, wz, stV, seval, IntWalk.iteOmega, IntWalk.toNatUp, reduceCtorEq]
  refine st_call (hd) rfl (.inl rfl) ?_
  simp only [wx, wy, wz, stV, seval, IntWalk.iteOmega, IntWalk.toNatUp, reduceCtorEq]
  refine st_call (hs) rfl (.inl rfl) ?_
  simp only [hsl, allSz_ls, wx, wy, wz, stV, seval, IntWalk.iteOmega, IntWalk.toNatUp, reduceCtorEq]
  refine st_call (hcd) rfl (.inl rfl) ?_
  simp only [wx, wy, wz, stV, seval, IntWalk.iteOmega, IntWalk.toNatUp, reduceCtorEq]
  refine st_call c1 (by simp only [wx, wy, wz, stV, seval, IntWalk.iteOmega, IntWalk.toNatUp, reduceCtorEq, hsl, s0]) (.inr (fl_by _ _ _ _)) ?_
  simp only [wx, wy, wz, stV, seval, IntWalk.iteOmega, IntWalk.toNatUp, reduceCtorEq]
  refine st_call (hcd) rfl (.inl rfl) ?_
  simp only [wx, wy, wz, stV, seval, IntWalk.iteOmega, IntWalk.toNatUp, reduceCtorEq]
  refine st_call c2 (by simp only [wx, wy, wz, stV, seval, IntWalk.iteOmega, IntWalk.toNatUp, reduceCtorEq, hsl, s0]) (.inr (fl_by _ _ _ _)) ?_
  simp only [wx, wy, wz, stV, seval, IntWalk.iteOmega, IntWalk.toNatUp, reduceCtorEq]
  refine st_call (e4) rfl (.inl rfl) ?_
  simp only [wx, wy, wz, stV, seval, IntWalk.iteOmega, IntWalk.toNatUp, reduceCtorEq]
  refine st_call (e4) rfl (.inl rfl) ?_
  simp only [get_map, g3, wx, wy, wz, stV, seval, IntWalk.iteOmega, IntWalk.toNatUp, reduceCtorEq]
  refine st_call (hch) rfl (.inl rfl) ?_
  simp only [get_map, g3, hset, wx, wy, wz, stV, seval, IntWalk.iteOmega, IntWalk.toNatUp, reduceCtorEq]
  refine st_call c3 (by simp only [wx, wy, wz, stV, seval, IntWalk.iteOmega, IntWalk.toNatUp, reduceCtorEq, sl, st]) (.inr (fl_by _ _ _ _)) ?_
  simp only [wx, wy, wz, stV, seval, IntWalk.iteOmega, IntWalk.toNatUp, reduceCtorEq]
  refine st_call c4 (by simp only [wx, wy, wz, stV, seval, IntWalk.iteOmega, IntWalk.toNatUp, reduceCtorEq, sl, st]) (.inr (fl_by _ _ _ _)) ?_
  simp only [wx, wy, wz, stV, seval, IntWalk.iteOmega, IntWalk.toNatUp, reduceCtorEq]
  refine st_call (known8_c G) rfl (.inl rfl) ?_
  simp only [wx, wy, wz, stV, seval, IntWalk.iteOmega, IntWalk.toNatUp, reduceCtorEq]
  refine st_call (m1) rfl (.inl rfl) ?_
  simp only [wx, wy, wz, stV, seval, IntWalk.iteOmega, IntWalk.toNatUp, reduceCtorEq]
  refine st_call (m2) rfl (.inl rfl) ?_
  simp only [wx, wy, wz, stV, seval, IntWalk.iteOmega, IntWalk.toNatUp, reduceCtorEq]
  exact ret_d1 (by simp only [wx, wy, wz, stV, seval, IntWalk.iteOmega, IntWalk.toNatUp, reduceCtorEq])
end Go.Proofs.YtgepbpcolddgoaaDoor
