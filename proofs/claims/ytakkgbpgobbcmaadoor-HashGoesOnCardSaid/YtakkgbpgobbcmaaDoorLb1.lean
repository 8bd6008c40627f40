/- The laws of layer 2. Own work. -/
import Derived.Test.YtakkgbpgobbcmaaDoorAlV
import Derived.Test.YtakkgbpgobbcmaaDoorPh8
set_option linter.unusedVariables false
set_option linter.unusedSimpArgs false
namespace Go.Proofs.YtakkgbpgobbcmaaDoor
open Go.RowKit

def sf_sums : SFn := ⟨2, 37,
  .seq (.reg [⟨(some 4), .mv (.k (.c (.d (.bool false)))), none⟩])
  (.seq (.seq (.reg [⟨(some 5), .mv (.t 0), none⟩,
    ⟨(some 6), .len (.t 5), none⟩,
    ⟨(some 7), .bin .gtr (.t 6) (.k (.c (.d (.int .i64 300)))), none⟩])
  (.cond (.t 7) (.seq (.reg [⟨(some 8), .call 9 [] none, none⟩,
     ⟨(some 4), .mv (.t 8), none⟩])
   (.ret))
   (.skip)))
  (.seq (.seq (.reg [⟨(some 9), .mv (.t 1), none⟩,
    ⟨(some 10), .bin .gtr (.t 9) (.k (.c (.d (.int .i64 40)))), none⟩])
  (.cond (.t 10) (.reg [⟨(some 11), .mv (.t 1), none⟩,
     ⟨(some 12), .bin .rem (.t 11) (.k (.c (.d (.int .i64 40)))), none⟩,
     ⟨(some 1), .mv (.t 12), none⟩])
   (.skip)))
  (.seq (.reg [⟨(some 13), .call 9 [] none, none⟩,
    ⟨(some 14), .mv (.t 13), none⟩,
    ⟨(some 15), .mv (.t 0), (some (14, true))⟩,
    ⟨(some 16), .call 11 [(.t 15)] none, (some (14, true))⟩,
    ⟨(some 17), .mv (.t 0), (some (14, true))⟩,
    ⟨(some 18), .call 12 [(.t 17)] none, (some (14, true))⟩,
    ⟨(some 19), .call 10 [(.t 16), (.t 18)] none, (some (14, true))⟩,
    ⟨(some 20), .pick (.t 14) (.t 19) (.k (.c (.d (.bool false)))), none⟩,
    ⟨(some 21), .mv (.t 20), none⟩,
    ⟨(some 22), .mv (.t 0), (some (21, true))⟩,
    ⟨(some 23), .call 13 [(.t 22)] none, (some (21, true))⟩,
    ⟨(some 24), .mv (.t 0), (some (21, true))⟩,
    ⟨(some 25), .call 14 [(.t 24)] none, (some (21, true))⟩,
    ⟨(some 26), .call 10 [(.t 23), (.t 25)] none, (some (21, true))⟩,
    ⟨(some 27), .pick (.t 21) (.t 26) (.k (.c (.d (.bool false)))), none⟩,
    ⟨(some 28), .mv (.t 27), none⟩,
    ⟨(some 29), .mv (.t 0), (some (28, true))⟩,
    ⟨(some 30), .mv (.t 1), (some (28, true))⟩,
    ⟨(some 31), .call 15 [(.t 29), (.t 30)] none, (some (28, true))⟩,
    ⟨(some 32), .mv (.t 0), (some (28, true))⟩,
    ⟨(some 33), .mv (.t 1), (some (28, true))⟩,
    ⟨(some 34), .call 16 [(.t 32), (.t 33)] none, (some (28, true))⟩,
    ⟨(some 35), .call 10 [(.t 31), (.t 34)] none, (some (28, true))⟩,
    ⟨(some 36), .pick (.t 28) (.t 35) (.k (.c (.d (.bool false)))), none⟩,
    ⟨(some 4), .mv (.t 36), none⟩])
  (.ret)))),
  [(4, none)]⟩
theorem cf_sums : compFn Tryd.prog { own := [], comp := [], frz := [], nils := [] } Tryd.f3 = some sf_sums := by kernel_rfl
set_option maxHeartbeats 1600000 in
theorem sums_c (G : Glob) (b : List UInt8) (hb : b.length ≤ maxLen) (n : Int) (hn1 : -9223372036854775808 ≤ n) (hn2 : n ≤ 9223372036854775807) (hF : G.at 0 = some (.ra (firstK.map wD))) (hG : G.at 1 = some (.ra (constK.map wD))) : Den Tryd.prog G 3 [.sl (b.map bD), .int .i64 n] (.w (.c (.d (.bool true)))) := by
  refine den_walk Tryd.func3 cf_sums rfl rfl ?_
  by_cases hl : 300 < b.length
  · simp only [sf_sums, putAll, wx, wy, wz, stV, Nat.reduceBEq, Nat.reduceAdd, Nat.reduceMul, Nat.reduceSub, Nat.reducePow, Int.reducePow, Int.reduceAdd, Int.reduceSub, Int.reduceMul, Int.reduceNeg, Int.reduceLE, Int.reduceLT, Int.reduceToNat, IntWalk.iteOmega, IntWalk.toNatUp, reduceCtorEq, reduceIte, Int.reduceEq, Int.reduceNe]
    refine st_call (known2_c G hF hG) rfl (.inl rfl) ?_
    simp only [wx, wy, wz, stV, Nat.reduceBEq, Nat.reduceAdd, Nat.reduceMul, Nat.reduceSub, Nat.reducePow, Int.reducePow, Int.reduceAdd, Int.reduceSub, Int.reduceMul, Int.reduceNeg, Int.reduceLE, Int.reduceLT, Int.reduceToNat, IntWalk.iteOmega, IntWalk.toNatUp, reduceCtorEq, reduceIte, Int.reduceEq, Int.reduceNe]
    exact ret_d1 (by simp only [wx, wy, wz, stV, Nat.reduceBEq, Nat.reduceAdd, Nat.reduceMul, Nat.reduceSub, Nat.reducePow, Int.reducePow, Int.reduceAdd, Int.reduceSub, Int.reduceMul, Int.reduceNeg, Int.reduceLE, Int.reduceLT, Int.reduceToNat, IntWalk.iteOmega, IntWalk.toNatUp, reduceCtorEq, reduceIte, Int.reduceEq, Int.reduceNe])
  · by_cases hc : 40 < n
    · simp only [sf_sums, putAll, wx, wy, wz, stV, Nat.reduceBEq, Nat.reduceAdd, Nat.reduceMul, Nat.reduceSub, Nat.reducePow, Int.reducePow, Int.reduceAdd, Int.reduceSub, Int.reduceMul, Int.reduceNeg, Int.reduceLE, Int.reduceLT, Int.reduceToNat, IntWalk.iteOmega, IntWalk.toNatUp, reduceCtorEq, reduceIte, Int.reduceEq, Int.reduceNe]
      refine st_call (known2_c G hF hG) rfl (.inl rfl) ?_
      simp only [wx, wy, wz, stV, Nat.reduceBEq, Nat.reduceAdd, Nat.reduceMul, Nat.reduceSub, Nat.reducePow, Int.reducePow, Int.reduceAdd, Int.reduceSub, Int.reduceMul, Int.reduceNeg, Int.reduceLE, Int.reduceLT, Int.reduceToNat, IntWalk.iteOmega, IntWalk.toNatUp, reduceCtorEq, reduceIte, Int.reduceEq, Int.reduceNe]
      refine st_call (sum_c G hF hG b (by omega)) rfl (.inl rfl) ?_
      simp only [wx, wy, wz, stV, Nat.reduceBEq, Nat.reduceAdd, Nat.reduceMul, Nat.reduceSub, Nat.reducePow, Int.reducePow, Int.reduceAdd, Int.reduceSub, Int.reduceMul, Int.reduceNeg, Int.reduceLE, Int.reduceLT, Int.reduceToNat, IntWalk.iteOmega, IntWalk.toNatUp, reduceCtorEq, reduceIte, Int.reduceEq, Int.reduceNe]
      refine st_call (rsum_c G b (by omega)) rfl (.inl rfl) ?_
      simp only [wx, wy, wz, stV, Nat.reduceBEq, Nat.reduceAdd, Nat.reduceMul, Nat.reduceSub, Nat.reducePow, Int.reducePow, Int.reduceAdd, Int.reduceSub, Int.reduceMul, Int.reduceNeg, Int.reduceLE, Int.reduceLT, Int.reduceToNat, IntWalk.iteOmega, IntWalk.toNatUp, reduceCtorEq, reduceIte, Int.reduceEq, Int.reduceNe]
      refine st_call (rsame_c G (sumK b) (sumK b)) rfl (.inl rfl) ?_
      simp only [wx, wy, wz, stV, Nat.reduceBEq, Nat.reduceAdd, Nat.reduceMul, Nat.reduceSub, Nat.reducePow, Int.reducePow, Int.reduceAdd, Int.reduceSub, Int.reduceMul, Int.reduceNeg, Int.reduceLE, Int.reduceLT, Int.reduceToNat, IntWalk.iteOmega, IntWalk.toNatUp, reduceCtorEq, reduceIte, Int.reduceEq, Int.reduceNe]
      refine st_call (short_c G hF hG b (by omega)) rfl (.inl rfl) ?_
      simp only [wx, wy, wz, stV, Nat.reduceBEq, Nat.reduceAdd, Nat.reduceMul, Nat.reduceSub, Nat.reducePow, Int.reducePow, Int.reduceAdd, Int.reduceSub, Int.reduceMul, Int.reduceNeg, Int.reduceLE, Int.reduceLT, Int.reduceToNat, IntWalk.iteOmega, IntWalk.toNatUp, reduceCtorEq, reduceIte, Int.reduceEq, Int.reduceNe]
      refine st_call (rshort_c G b (by omega)) rfl (.inl rfl) ?_
      simp only [wx, wy, wz, stV, Nat.reduceBEq, Nat.reduceAdd, Nat.reduceMul, Nat.reduceSub, Nat.reducePow, Int.reducePow, Int.reduceAdd, Int.reduceSub, Int.reduceMul, Int.reduceNeg, Int.reduceLE, Int.reduceLT, Int.reduceToNat, IntWalk.iteOmega, IntWalk.toNatUp, reduceCtorEq, reduceIte, Int.reduceEq, Int.reduceNe]
      refine st_call (rsame_c G (shortK b) (shortK b)) rfl (.inl rfl) ?_
      simp only [wx, wy, wz, stV, Nat.reduceBEq, Nat.reduceAdd, Nat.reduceMul, Nat.reduceSub, Nat.reducePow, Int.reducePow, Int.reduceAdd, Int.reduceSub, Int.reduceMul, Int.reduceNeg, Int.reduceLE, Int.reduceLT, Int.reduceToNat, IntWalk.iteOmega, IntWalk.toNatUp, reduceCtorEq, reduceIte, Int.reduceEq, Int.reduceNe]
      refine st_call (chain_c G hF hG b (by omega) (n.tmod 40)) rfl (.inl rfl) ?_
      simp only [wx, wy, wz, stV, Nat.reduceBEq, Nat.reduceAdd, Nat.reduceMul, Nat.reduceSub, Nat.reducePow, Int.reducePow, Int.reduceAdd, Int.reduceSub, Int.reduceMul, Int.reduceNeg, Int.reduceLE, Int.reduceLT, Int.reduceToNat, IntWalk.iteOmega, IntWalk.toNatUp, reduceCtorEq, reduceIte, Int.reduceEq, Int.reduceNe]
      refine st_call (rchain_c G b (by omega) (n.tmod 40)) rfl (.inl rfl) ?_
      simp only [wx, wy, wz, stV, Nat.reduceBEq, Nat.reduceAdd, Nat.reduceMul, Nat.reduceSub, Nat.reducePow, Int.reducePow, Int.reduceAdd, Int.reduceSub, Int.reduceMul, Int.reduceNeg, Int.reduceLE, Int.reduceLT, Int.reduceToNat, IntWalk.iteOmega, IntWalk.toNatUp, reduceCtorEq, reduceIte, Int.reduceEq, Int.reduceNe]
      refine st_call (rsame_c G (chainK b (min (n.tmod 40) 65536).toNat) (chainK b (min (n.tmod 40) 65536).toNat)) rfl (.inl rfl) ?_
      simp only [wx, wy, wz, stV, Nat.reduceBEq, Nat.reduceAdd, Nat.reduceMul, Nat.reduceSub, Nat.reducePow, Int.reducePow, Int.reduceAdd, Int.reduceSub, Int.reduceMul, Int.reduceNeg, Int.reduceLE, Int.reduceLT, Int.reduceToNat, IntWalk.iteOmega, IntWalk.toNatUp, reduceCtorEq, reduceIte, Int.reduceEq, Int.reduceNe]
      exact ret_d1 (by simp only [wx, wy, wz, stV, Nat.reduceBEq, Nat.reduceAdd, Nat.reduceMul, Nat.reduceSub, Nat.reducePow, Int.reducePow, Int.reduceAdd, Int.reduceSub, Int.reduceMul, Int.reduceNeg, Int.reduceLE, Int.reduceLT, Int.reduceToNat, IntWalk.iteOmega, IntWalk.toNatUp, reduceCtorEq, reduceIte, Int.reduceEq, Int.reduceNe])
    · simp only [sf_sums, putAll, wx, wy, wz, stV, Nat.reduceBEq, Nat.reduceAdd, Nat.reduceMul, Nat.reduceSub, Nat.reducePow, Int.reducePow, Int.reduceAdd, Int.reduceSub, Int.reduceMul, Int.reduceNeg, Int.reduceLE, Int.reduceLT, Int.reduceToNat, IntWalk.iteOmega, IntWalk.toNatUp, reduceCtorEq, reduceIte, Int.reduceEq, Int.reduceNe]
      refine st_call (known2_c G hF hG) rfl (.inl rfl) ?_
      simp only [wx, wy, wz, stV, Nat.reduceBEq, Nat.reduceAdd, Nat.reduceMul, Nat.reduceSub, Nat.reducePow, Int.reducePow, Int.reduceAdd, Int.reduceSub, Int.reduceMul, Int.reduceNeg, Int.reduceLE, Int.reduceLT, Int.reduceToNat, IntWalk.iteOmega, IntWalk.toNatUp, reduceCtorEq, reduceIte, Int.reduceEq, Int.reduceNe]
      refine st_call (sum_c G hF hG b (by omega)) rfl (.inl rfl) ?_
      simp only [wx, wy, wz, stV, Nat.reduceBEq, Nat.reduceAdd, Nat.reduceMul, Nat.reduceSub, Nat.reducePow, Int.reducePow, Int.reduceAdd, Int.reduceSub, Int.reduceMul, Int.reduceNeg, Int.reduceLE, Int.reduceLT, Int.reduceToNat, IntWalk.iteOmega, IntWalk.toNatUp, reduceCtorEq, reduceIte, Int.reduceEq, Int.reduceNe]
      refine st_call (rsum_c G b (by omega)) rfl (.inl rfl) ?_
      simp only [wx, wy, wz, stV, Nat.reduceBEq, Nat.reduceAdd, Nat.reduceMul, Nat.reduceSub, Nat.reducePow, Int.reducePow, Int.reduceAdd, Int.reduceSub, Int.reduceMul, Int.reduceNeg, Int.reduceLE, Int.reduceLT, Int.reduceToNat, IntWalk.iteOmega, IntWalk.toNatUp, reduceCtorEq, reduceIte, Int.reduceEq, Int.reduceNe]
      refine st_call (rsame_c G (sumK b) (sumK b)) rfl (.inl rfl) ?_
      simp only [wx, wy, wz, stV, Nat.reduceBEq, Nat.reduceAdd, Nat.reduceMul, Nat.reduceSub, Nat.reducePow, Int.reducePow, Int.reduceAdd, Int.reduceSub, Int.reduceMul, Int.reduceNeg, Int.reduceLE, Int.reduceLT, Int.reduceToNat, IntWalk.iteOmega, IntWalk.toNatUp, reduceCtorEq, reduceIte, Int.reduceEq, Int.reduceNe]
      refine st_call (short_c G hF hG b (by omega)) rfl (.inl rfl) ?_
      simp only [wx, wy, wz, stV, Nat.reduceBEq, Nat.reduceAdd, Nat.reduceMul, Nat.reduceSub, Nat.reducePow, Int.reducePow, Int.reduceAdd, Int.reduceSub, Int.reduceMul, Int.reduceNeg, Int.reduceLE, Int.reduceLT, Int.reduceToNat, IntWalk.iteOmega, IntWalk.toNatUp, reduceCtorEq, reduceIte, Int.reduceEq, Int.reduceNe]
      refine st_call (rshort_c G b (by omega)) rfl (.inl rfl) ?_
      simp only [wx, wy, wz, stV, Nat.reduceBEq, Nat.reduceAdd, Nat.reduceMul, Nat.reduceSub, Nat.reducePow, Int.reducePow, Int.reduceAdd, Int.reduceSub, Int.reduceMul, Int.reduceNeg, Int.reduceLE, Int.reduceLT, Int.reduceToNat, IntWalk.iteOmega, IntWalk.toNatUp, reduceCtorEq, reduceIte, Int.reduceEq, Int.reduceNe]
      refine st_call (rsame_c G (shortK b) (shortK b)) rfl (.inl rfl) ?_
      simp only [wx, wy, wz, stV, Nat.reduceBEq, Nat.reduceAdd, Nat.reduceMul, Nat.reduceSub, Nat.reducePow, Int.reducePow, Int.reduceAdd, Int.reduceSub, Int.reduceMul, Int.reduceNeg, Int.reduceLE, Int.reduceLT, Int.reduceToNat, IntWalk.iteOmega, IntWalk.toNatUp, reduceCtorEq, reduceIte, Int.reduceEq, Int.reduceNe]
      refine st_call (chain_c G hF hG b (by omega) n) rfl (.inl rfl) ?_
      simp only [wx, wy, wz, stV, Nat.reduceBEq, Nat.reduceAdd, Nat.reduceMul, Nat.reduceSub, Nat.reducePow, Int.reducePow, Int.reduceAdd, Int.reduceSub, Int.reduceMul, Int.reduceNeg, Int.reduceLE, Int.reduceLT, Int.reduceToNat, IntWalk.iteOmega, IntWalk.toNatUp, reduceCtorEq, reduceIte, Int.reduceEq, Int.reduceNe]
      refine st_call (rchain_c G b (by omega) n) rfl (.inl rfl) ?_
      simp only [wx, wy, wz, stV, Nat.reduceBEq, Nat.reduceAdd, Nat.reduceMul, Nat.reduceSub, Nat.reducePow, Int.reducePow, Int.reduceAdd, Int.reduceSub, Int.reduceMul, Int.reduceNeg, Int.reduceLE, Int.reduceLT, Int.reduceToNat, IntWalk.iteOmega, IntWalk.toNatUp, reduceCtorEq, reduceIte, Int.reduceEq, Int.reduceNe]
      refine st_call (rsame_c G (chainK b (min n 65536).toNat) (chainK b (min n 65536).toNat)) rfl (.inl rfl) ?_
      simp only [wx, wy, wz, stV, Nat.reduceBEq, Nat.reduceAdd, Nat.reduceMul, Nat.reduceSub, Nat.reducePow, Int.reducePow, Int.reduceAdd, Int.reduceSub, Int.reduceMul, Int.reduceNeg, Int.reduceLE, Int.reduceLT, Int.reduceToNat, IntWalk.iteOmega, IntWalk.toNatUp, reduceCtorEq, reduceIte, Int.reduceEq, Int.reduceNe]
      exact ret_d1 (by simp only [wx, wy, wz, stV, Nat.reduceBEq, Nat.reduceAdd, Nat.reduceMul, Nat.reduceSub, Nat.reducePow, Int.reducePow, Int.reduceAdd, Int.reduceSub, Int.reduceMul, Int.reduceNeg, Int.reduceLE, Int.reduceLT, Int.reduceToNat, IntWalk.iteOmega, IntWalk.toNatUp, reduceCtorEq, reduceIte, Int.reduceEq, Int.reduceNe])

def sf_edges : SFn := ⟨2, 20,
  .seq (.reg [⟨(some 4), .mv (.k (.c (.d (.bool false)))), none⟩])
  (.seq (.reg [⟨(some 6), .mv (.t 0), none⟩,
    ⟨(some 7), .call 18 [(.t 6), (.k (.c (.d (.int .i64 1000))))] none, none⟩,
    ⟨(some 8), .mv (.t 1), none⟩,
    ⟨(some 9), .call 18 [(.t 8), (.k (.c (.d (.int .i64 90))))] none, none⟩,
    ⟨(some 10), .bin .add (.k (.c (.d (.int .i64 50)))) (.t 9), none⟩,
    ⟨(some 11), .call 17 [(.t 7), (.t 10)] none, none⟩,
    ⟨(some 5), .mv (.t 11), none⟩])
  (.seq (.reg [⟨(some 12), .call 9 [] none, none⟩,
    ⟨(some 13), .mv (.t 12), none⟩,
    ⟨(some 14), .mv (.t 5), (some (13, true))⟩,
    ⟨(some 15), .call 11 [(.t 14)] none, (some (13, true))⟩,
    ⟨(some 16), .mv (.t 5), (some (13, true))⟩,
    ⟨(some 17), .call 12 [(.t 16)] none, (some (13, true))⟩,
    ⟨(some 18), .call 10 [(.t 15), (.t 17)] none, (some (13, true))⟩,
    ⟨(some 19), .pick (.t 13) (.t 18) (.k (.c (.d (.bool false)))), none⟩,
    ⟨(some 4), .mv (.t 19), none⟩])
  (.ret))),
  [(4, none)]⟩
theorem cf_edges : compFn Tryd.prog { own := [], comp := [], frz := [], nils := [] } Tryd.f4 = some sf_edges := by kernel_rfl
set_option maxHeartbeats 1600000 in
theorem edges_c (G : Glob) (seed : Int) (hs1 : -9223372036854775808 ≤ seed) (hs2 : seed ≤ 9223372036854775807) (n : Int) (hn1 : -9223372036854775808 ≤ n) (hn2 : n ≤ 9223372036854775807) (hF : G.at 0 = some (.ra (firstK.map wD))) (hG : G.at 1 = some (.ra (constK.map wD))) : Den Tryd.prog G 4 [.int .i64 seed, .int .i64 n] (.w (.c (.d (.bool true)))) := by
  refine den_walk Tryd.func4 cf_edges rfl rfl ?_
  have h1 := withinN_range n 90 (by omega)
  simp only [sf_edges, putAll, wx, wy, wz, stV, Nat.reduceBEq, Nat.reduceAdd, Nat.reduceMul, Nat.reduceSub, Nat.reducePow, Int.reducePow, Int.reduceAdd, Int.reduceSub, Int.reduceMul, Int.reduceNeg, Int.reduceLE, Int.reduceLT, Int.reduceToNat, IntWalk.iteOmega, IntWalk.toNatUp, reduceCtorEq, reduceIte, Int.reduceEq, Int.reduceNe]
  refine st_call (within_c G seed 1000 (by omega)) rfl (.inl rfl) ?_
  simp only [wx, wy, wz, stV, Nat.reduceBEq, Nat.reduceAdd, Nat.reduceMul, Nat.reduceSub, Nat.reducePow, Int.reducePow, Int.reduceAdd, Int.reduceSub, Int.reduceMul, Int.reduceNeg, Int.reduceLE, Int.reduceLT, Int.reduceToNat, IntWalk.iteOmega, IntWalk.toNatUp, reduceCtorEq, reduceIte, Int.reduceEq, Int.reduceNe]
  refine st_call (within_c G n 90 (by omega)) rfl (.inl rfl) ?_
  simp only [wx, wy, wz, stV, Nat.reduceBEq, Nat.reduceAdd, Nat.reduceMul, Nat.reduceSub, Nat.reducePow, Int.reducePow, Int.reduceAdd, Int.reduceSub, Int.reduceMul, Int.reduceNeg, Int.reduceLE, Int.reduceLT, Int.reduceToNat, IntWalk.iteOmega, IntWalk.toNatUp, reduceCtorEq, reduceIte, Int.reduceEq, Int.reduceNe]
  refine st_call (wbytes_c G (withinN seed 1000) (50 + withinN n 90) (by omega)) rfl (.inl rfl) ?_
  simp only [wx, wy, wz, stV, Nat.reduceBEq, Nat.reduceAdd, Nat.reduceMul, Nat.reduceSub, Nat.reducePow, Int.reducePow, Int.reduceAdd, Int.reduceSub, Int.reduceMul, Int.reduceNeg, Int.reduceLE, Int.reduceLT, Int.reduceToNat, IntWalk.iteOmega, IntWalk.toNatUp, reduceCtorEq, reduceIte, Int.reduceEq, Int.reduceNe]
  have hb : (bytesK (withinN seed 1000) (50 + withinN n 90)).length ≤ 140737488355328 := by rw [bytesK_len]; omega
  generalize bytesK (withinN seed 1000) (50 + withinN n 90) = b at *
  refine st_call (known2_c G hF hG) rfl (.inl rfl) ?_
  simp only [wx, wy, wz, stV, Nat.reduceBEq, Nat.reduceAdd, Nat.reduceMul, Nat.reduceSub, Nat.reducePow, Int.reducePow, Int.reduceAdd, Int.reduceSub, Int.reduceMul, Int.reduceNeg, Int.reduceLE, Int.reduceLT, Int.reduceToNat, IntWalk.iteOmega, IntWalk.toNatUp, reduceCtorEq, reduceIte, Int.reduceEq, Int.reduceNe]
  refine st_call (sum_c G hF hG b hb) rfl (.inl rfl) ?_
  simp only [wx, wy, wz, stV, Nat.reduceBEq, Nat.reduceAdd, Nat.reduceMul, Nat.reduceSub, Nat.reducePow, Int.reducePow, Int.reduceAdd, Int.reduceSub, Int.reduceMul, Int.reduceNeg, Int.reduceLE, Int.reduceLT, Int.reduceToNat, IntWalk.iteOmega, IntWalk.toNatUp, reduceCtorEq, reduceIte, Int.reduceEq, Int.reduceNe]
  refine st_call (rsum_c G b hb) rfl (.inl rfl) ?_
  simp only [wx, wy, wz, stV, Nat.reduceBEq, Nat.reduceAdd, Nat.reduceMul, Nat.reduceSub, Nat.reducePow, Int.reducePow, Int.reduceAdd, Int.reduceSub, Int.reduceMul, Int.reduceNeg, Int.reduceLE, Int.reduceLT, Int.reduceToNat, IntWalk.iteOmega, IntWalk.toNatUp, reduceCtorEq, reduceIte, Int.reduceEq, Int.reduceNe]
  refine st_call (rsame_c G (sumK b) (sumK b)) rfl (.inl rfl) ?_
  simp only [wx, wy, wz, stV, Nat.reduceBEq, Nat.reduceAdd, Nat.reduceMul, Nat.reduceSub, Nat.reducePow, Int.reducePow, Int.reduceAdd, Int.reduceSub, Int.reduceMul, Int.reduceNeg, Int.reduceLE, Int.reduceLT, Int.reduceToNat, IntWalk.iteOmega, IntWalk.toNatUp, reduceCtorEq, reduceIte, Int.reduceEq, Int.reduceNe]
  exact ret_d1 (by simp only [wx, wy, wz, stV, Nat.reduceBEq, Nat.reduceAdd, Nat.reduceMul, Nat.reduceSub, Nat.reducePow, Int.reducePow, Int.reduceAdd, Int.reduceSub, Int.reduceMul, Int.reduceNeg, Int.reduceLE, Int.reduceLT, Int.reduceToNat, IntWalk.iteOmega, IntWalk.toNatUp, reduceCtorEq, reduceIte, Int.reduceEq, Int.reduceNe])
def sf_steps : SFn := ⟨2, 79,
  .seq (.reg [⟨(some 2), .box .roBox (.t 0), none⟩,
    ⟨(some 4), .mv (.k (.c (.d (.bool false)))), none⟩])
  (.seq (.seq (.reg [⟨(some 13), .mv (.t 1), none⟩,
    ⟨(some 14), .len (.t 13), none⟩,
    ⟨(some 15), .bin .gtr (.t 14) (.k (.c (.d (.int .i64 200)))), none⟩,
    ⟨(some 16), .mv (.t 15), none⟩,
    ⟨(some 17), .fieldAddr 1 (.t 2), (some (16, false))⟩,
    ⟨(some 18), .load .sc (.t 17), (some (16, false))⟩,
    ⟨(some 19), .len (.t 18), (some (16, false))⟩,
    ⟨(some 20), .bin .gtr (.t 19) (.k (.c (.d (.int .i64 200)))), (some (16, false))⟩,
    ⟨(some 21), .pick (.t 16) (.k (.c (.d (.bool true)))) (.t 20), none⟩,
    ⟨(some 22), .mv (.t 21), none⟩,
    ⟨(some 23), .fieldAddr 0 (.t 2), (some (22, false))⟩,
    ⟨(some 24), .load .sc (.t 23), (some (22, false))⟩,
    ⟨(some 25), .len (.t 24), (some (22, false))⟩,
    ⟨(some 26), .bin .gtr (.t 25) (.k (.c (.d (.int .i64 20)))), (some (22, false))⟩,
    ⟨(some 27), .pick (.t 22) (.k (.c (.d (.bool true)))) (.t 26), none⟩])
  (.cond (.t 27) (.seq (.reg [⟨(some 28), .call 9 [] none, none⟩,
     ⟨(some 4), .mv (.t 28), none⟩])
   (.ret))
   (.skip)))
  (.seq (.reg [⟨(some 30), .load (.ag 3) (.t 2), none⟩,
    ⟨(some 31), .mv (.t 1), none⟩,
    ⟨(some 32), .call 19 [(.t 30), (.t 31)] none, none⟩,
    ⟨(some 29), .mv (.t 32), none⟩,
    ⟨(some 33), .extract (.t 29) 0, none⟩,
    ⟨(some 34), .extract (.t 29) 1, none⟩,
    ⟨(some 5), .alloc [.nil, .nil, (.d (.int .i64 0))], none⟩,
    ⟨none, .store (.ag 3) (.t 5) (.t 33), none⟩,
    ⟨(some 6), .mv (.t 34), none⟩])
  (.seq (.reg [⟨(some 36), .load (.ag 3) (.t 2), none⟩,
    ⟨(some 37), .mv (.t 1), none⟩,
    ⟨(some 38), .call 20 [(.t 36), (.t 37)] none, none⟩,
    ⟨(some 35), .mv (.t 38), none⟩,
    ⟨(some 39), .extract (.t 35) 0, none⟩,
    ⟨(some 40), .extract (.t 35) 1, none⟩,
    ⟨(some 7), .alloc [.nil, .nil, (.d (.int .i64 0))], none⟩,
    ⟨none, .store (.ag 3) (.t 7) (.t 39), none⟩,
    ⟨(some 8), .mv (.t 40), none⟩])
  (.seq (.reg [⟨(some 42), .load (.ag 3) (.t 2), none⟩,
    ⟨(some 43), .call 21 [(.t 42)] none, none⟩,
    ⟨(some 41), .mv (.t 43), none⟩,
    ⟨(some 44), .extract (.t 41) 0, none⟩,
    ⟨(some 45), .extract (.t 41) 1, none⟩,
    ⟨(some 9), .mv (.t 44), none⟩,
    ⟨(some 10), .mv (.t 45), none⟩])
  (.seq (.reg [⟨(some 47), .load (.ag 3) (.t 2), none⟩,
    ⟨(some 48), .call 22 [(.t 47)] none, none⟩,
    ⟨(some 46), .mv (.t 48), none⟩,
    ⟨(some 49), .extract (.t 46) 0, none⟩,
    ⟨(some 50), .extract (.t 46) 1, none⟩,
    ⟨(some 11), .mv (.t 49), none⟩,
    ⟨(some 12), .mv (.t 50), none⟩])
  (.seq (.reg [⟨(some 51), .call 9 [] none, none⟩,
    ⟨(some 52), .mv (.t 51), none⟩,
    ⟨(some 53), .load (.ag 3) (.t 2), (some (52, true))⟩,
    ⟨(some 54), .call 23 [(.t 53)] none, (some (52, true))⟩,
    ⟨(some 55), .load (.ag 3) (.t 2), (some (52, true))⟩,
    ⟨(some 56), .call 24 [(.t 55)] none, (some (52, true))⟩,
    ⟨(some 57), .eqB false (.t 54) (.t 56), (some (52, true))⟩,
    ⟨(some 58), .pick (.t 52) (.t 57) (.k (.c (.d (.bool false)))), none⟩,
    ⟨(some 59), .mv (.t 58), none⟩,
    ⟨(some 60), .mv (.t 6), (some (59, true))⟩,
    ⟨(some 61), .mv (.t 8), (some (59, true))⟩,
    ⟨(some 62), .bin .eql (.t 60) (.t 61), (some (59, true))⟩,
    ⟨(some 63), .pick (.t 59) (.t 62) (.k (.c (.d (.bool false)))), none⟩,
    ⟨(some 64), .mv (.t 63), none⟩,
    ⟨(some 65), .load (.ag 3) (.t 5), (some (64, true))⟩,
    ⟨(some 66), .load (.ag 3) (.t 7), (some (64, true))⟩,
    ⟨(some 67), .call 25 [(.t 65), (.t 66)] none, (some (64, true))⟩,
    ⟨(some 68), .pick (.t 64) (.t 67) (.k (.c (.d (.bool false)))), none⟩,
    ⟨(some 69), .mv (.t 68), none⟩,
    ⟨(some 70), .mv (.t 10), (some (69, true))⟩,
    ⟨(some 71), .mv (.t 12), (some (69, true))⟩,
    ⟨(some 72), .bin .eql (.t 70) (.t 71), (some (69, true))⟩,
    ⟨(some 73), .pick (.t 69) (.t 72) (.k (.c (.d (.bool false)))), none⟩,
    ⟨(some 74), .mv (.t 73), none⟩,
    ⟨(some 75), .mv (.t 9), (some (74, true))⟩,
    ⟨(some 76), .mv (.t 11), (some (74, true))⟩,
    ⟨(some 77), .call 10 [(.t 75), (.t 76)] none, (some (74, true))⟩,
    ⟨(some 78), .pick (.t 74) (.t 77) (.k (.c (.d (.bool false)))), none⟩,
    ⟨(some 4), .mv (.t 78), none⟩])
  (.ret))))))),
  [(4, none)]⟩
theorem cf_steps : compFn Tryd.prog { own := [], comp := [], frz := [], nils := [] } Tryd.f5 = some sf_steps := by kernel_rfl
set_option maxHeartbeats 1600000 in
theorem steps_c (G : Glob) (ws : List UInt32) (hw : ws.length ≤ maxLen) (rest : List UInt8) (hr : rest.length ≤ maxLen) (count : Int) (hc1 : -9223372036854775808 ≤ count) (hc2 : count ≤ 9223372036854775807) (b : List UInt8) (hb : b.length ≤ maxLen) (hF : G.at 0 = some (.ra (firstK.map wD))) (hG : G.at 1 = some (.ra (constK.map wD))) : Den Tryd.prog G 5 [hsD ws rest count, .sl (b.map bD)] (.w (.c (.d (.bool true)))) := by
  refine den_walk Tryd.func5 cf_steps rfl rfl ?_
  by_cases h1 : 200 < b.length
  · simp only [sf_steps, putAll, wx, wy, wz, stV, Nat.reduceBEq, Nat.reduceAdd, Nat.reduceMul, Nat.reduceSub, Nat.reducePow, Int.reducePow, Int.reduceAdd, Int.reduceSub, Int.reduceMul, Int.reduceNeg, Int.reduceLE, Int.reduceLT, Int.reduceToNat, IntWalk.iteOmega, IntWalk.toNatUp, reduceCtorEq, reduceIte, Int.reduceEq, Int.reduceNe]
    refine st_call (known2_c G hF hG) rfl (.inl rfl) ?_
    simp only [wx, wy, wz, stV, Nat.reduceBEq, Nat.reduceAdd, Nat.reduceMul, Nat.reduceSub, Nat.reducePow, Int.reducePow, Int.reduceAdd, Int.reduceSub, Int.reduceMul, Int.reduceNeg, Int.reduceLE, Int.reduceLT, Int.reduceToNat, IntWalk.iteOmega, IntWalk.toNatUp, reduceCtorEq, reduceIte, Int.reduceEq, Int.reduceNe]
    exact ret_d1 (by simp only [wx, wy, wz, stV, Nat.reduceBEq, Nat.reduceAdd, Nat.reduceMul, Nat.reduceSub, Nat.reducePow, Int.reducePow, Int.reduceAdd, Int.reduceSub, Int.reduceMul, Int.reduceNeg, Int.reduceLE, Int.reduceLT, Int.reduceToNat, IntWalk.iteOmega, IntWalk.toNatUp, reduceCtorEq, reduceIte, Int.reduceEq, Int.reduceNe])
  · by_cases h2 : 200 < rest.length
    · simp only [sf_steps, putAll, wx, wy, wz, stV, Nat.reduceBEq, Nat.reduceAdd, Nat.reduceMul, Nat.reduceSub, Nat.reducePow, Int.reducePow, Int.reduceAdd, Int.reduceSub, Int.reduceMul, Int.reduceNeg, Int.reduceLE, Int.reduceLT, Int.reduceToNat, IntWalk.iteOmega, IntWalk.toNatUp, reduceCtorEq, reduceIte, Int.reduceEq, Int.reduceNe]
      refine st_call (known2_c G hF hG) rfl (.inl rfl) ?_
      simp only [wx, wy, wz, stV, Nat.reduceBEq, Nat.reduceAdd, Nat.reduceMul, Nat.reduceSub, Nat.reducePow, Int.reducePow, Int.reduceAdd, Int.reduceSub, Int.reduceMul, Int.reduceNeg, Int.reduceLE, Int.reduceLT, Int.reduceToNat, IntWalk.iteOmega, IntWalk.toNatUp, reduceCtorEq, reduceIte, Int.reduceEq, Int.reduceNe]
      exact ret_d1 (by simp only [wx, wy, wz, stV, Nat.reduceBEq, Nat.reduceAdd, Nat.reduceMul, Nat.reduceSub, Nat.reducePow, Int.reducePow, Int.reduceAdd, Int.reduceSub, Int.reduceMul, Int.reduceNeg, Int.reduceLE, Int.reduceLT, Int.reduceToNat, IntWalk.iteOmega, IntWalk.toNatUp, reduceCtorEq, reduceIte, Int.reduceEq, Int.reduceNe])
    · by_cases h3 : 20 < ws.length
      · simp only [sf_steps, putAll, wx, wy, wz, stV, Nat.reduceBEq, Nat.reduceAdd, Nat.reduceMul, Nat.reduceSub, Nat.reducePow, Int.reducePow, Int.reduceAdd, Int.reduceSub, Int.reduceMul, Int.reduceNeg, Int.reduceLE, Int.reduceLT, Int.reduceToNat, IntWalk.iteOmega, IntWalk.toNatUp, reduceCtorEq, reduceIte, Int.reduceEq, Int.reduceNe]
        refine st_call (known2_c G hF hG) rfl (.inl rfl) ?_
        simp only [wx, wy, wz, stV, Nat.reduceBEq, Nat.reduceAdd, Nat.reduceMul, Nat.reduceSub, Nat.reducePow, Int.reducePow, Int.reduceAdd, Int.reduceSub, Int.reduceMul, Int.reduceNeg, Int.reduceLE, Int.reduceLT, Int.reduceToNat, IntWalk.iteOmega, IntWalk.toNatUp, reduceCtorEq, reduceIte, Int.reduceEq, Int.reduceNe]
        exact ret_d1 (by simp only [wx, wy, wz, stV, Nat.reduceBEq, Nat.reduceAdd, Nat.reduceMul, Nat.reduceSub, Nat.reducePow, Int.reducePow, Int.reduceAdd, Int.reduceSub, Int.reduceMul, Int.reduceNeg, Int.reduceLE, Int.reduceLT, Int.reduceToNat, IntWalk.iteOmega, IntWalk.toNatUp, reduceCtorEq, reduceIte, Int.reduceEq, Int.reduceNe])
      · simp only [sf_steps, putAll, wx, wy, wz, stV, Nat.reduceBEq, Nat.reduceAdd, Nat.reduceMul, Nat.reduceSub, Nat.reducePow, Int.reducePow, Int.reduceAdd, Int.reduceSub, Int.reduceMul, Int.reduceNeg, Int.reduceLE, Int.reduceLT, Int.reduceToNat, IntWalk.iteOmega, IntWalk.toNatUp, reduceCtorEq, reduceIte, Int.reduceEq, Int.reduceNe]
        refine st_call (more_c G hG ws rest count b) rfl (.inl rfl) ?_
        simp only [wx, wy, wz, stV, Nat.reduceBEq, Nat.reduceAdd, Nat.reduceMul, Nat.reduceSub, Nat.reducePow, Int.reducePow, Int.reduceAdd, Int.reduceSub, Int.reduceMul, Int.reduceNeg, Int.reduceLE, Int.reduceLT, Int.reduceToNat, IntWalk.iteOmega, IntWalk.toNatUp, reduceCtorEq, reduceIte, Int.reduceEq, Int.reduceNe]
        refine st_call (rmore_c G ws rest count b) rfl (.inl rfl) ?_
        simp only [wx, wy, wz, stV, Nat.reduceBEq, Nat.reduceAdd, Nat.reduceMul, Nat.reduceSub, Nat.reducePow, Int.reducePow, Int.reduceAdd, Int.reduceSub, Int.reduceMul, Int.reduceNeg, Int.reduceLE, Int.reduceLT, Int.reduceToNat, IntWalk.iteOmega, IntWalk.toNatUp, reduceCtorEq, reduceIte, Int.reduceEq, Int.reduceNe]
        refine st_call (end_c G hG ws rest count) rfl (.inl rfl) ?_
        simp only [wx, wy, wz, stV, Nat.reduceBEq, Nat.reduceAdd, Nat.reduceMul, Nat.reduceSub, Nat.reducePow, Int.reducePow, Int.reduceAdd, Int.reduceSub, Int.reduceMul, Int.reduceNeg, Int.reduceLE, Int.reduceLT, Int.reduceToNat, IntWalk.iteOmega, IntWalk.toNatUp, reduceCtorEq, reduceIte, Int.reduceEq, Int.reduceNe]
        refine st_call (rend_c G ws rest count) rfl (.inl rfl) ?_
        simp only [wx, wy, wz, stV, Nat.reduceBEq, Nat.reduceAdd, Nat.reduceMul, Nat.reduceSub, Nat.reducePow, Int.reducePow, Int.reduceAdd, Int.reduceSub, Int.reduceMul, Int.reduceNeg, Int.reduceLE, Int.reduceLT, Int.reduceToNat, IntWalk.iteOmega, IntWalk.toNatUp, reduceCtorEq, reduceIte, Int.reduceEq, Int.reduceNe]
        refine st_call (known2_c G hF hG) rfl (.inl rfl) ?_
        simp only [wx, wy, wz, stV, Nat.reduceBEq, Nat.reduceAdd, Nat.reduceMul, Nat.reduceSub, Nat.reducePow, Int.reducePow, Int.reduceAdd, Int.reduceSub, Int.reduceMul, Int.reduceNeg, Int.reduceLE, Int.reduceLT, Int.reduceToNat, IntWalk.iteOmega, IntWalk.toNatUp, reduceCtorEq, reduceIte, Int.reduceEq, Int.reduceNe]
        refine st_call (valid_c G ws rest count) rfl (.inl rfl) ?_
        simp only [wx, wy, wz, stV, Nat.reduceBEq, Nat.reduceAdd, Nat.reduceMul, Nat.reduceSub, Nat.reducePow, Int.reducePow, Int.reduceAdd, Int.reduceSub, Int.reduceMul, Int.reduceNeg, Int.reduceLE, Int.reduceLT, Int.reduceToNat, IntWalk.iteOmega, IntWalk.toNatUp, reduceCtorEq, reduceIte, Int.reduceEq, Int.reduceNe]
        refine st_call (rvalid_c G ws rest count) rfl (.inl rfl) ?_
        simp only [wx, wy, wz, stV, Nat.reduceBEq, Nat.reduceAdd, Nat.reduceMul, Nat.reduceSub, Nat.reducePow, Int.reducePow, Int.reduceAdd, Int.reduceSub, Int.reduceMul, Int.reduceNeg, Int.reduceLE, Int.reduceLT, Int.reduceToNat, IntWalk.iteOmega, IntWalk.toNatUp, reduceCtorEq, reduceIte, Int.reduceEq, Int.reduceNe]
        have hm : (moreK ws rest count b).1.1.length ≤ 9223372036854775807 := by
          unfold moreK
          split
          · rename_i hv
            split
            · show (foldB _ _ _).length ≤ _
              rw [foldB_len (validK_is hv).1]; decide
            · simp
          · simp
        refine st_call (rss_c G _ _ _ _ _ _ hm) rfl (.inl rfl) ?_
        simp only [wx, wy, wz, stV, Nat.reduceBEq, Nat.reduceAdd, Nat.reduceMul, Nat.reduceSub, Nat.reducePow, Int.reducePow, Int.reduceAdd, Int.reduceSub, Int.reduceMul, Int.reduceNeg, Int.reduceLE, Int.reduceLT, Int.reduceToNat, IntWalk.iteOmega, IntWalk.toNatUp, reduceCtorEq, reduceIte, Int.reduceEq, Int.reduceNe]
        simp only [wx, wy, wz, stV, Nat.reduceBEq, Nat.reduceAdd, Nat.reduceMul, Nat.reduceSub, Nat.reducePow, Int.reducePow, Int.reduceAdd, Int.reduceSub, Int.reduceMul, Int.reduceNeg, Int.reduceLE, Int.reduceLT, Int.reduceToNat, IntWalk.iteOmega, IntWalk.toNatUp, reduceCtorEq, reduceIte, Int.reduceEq, Int.reduceNe, sameH_refl]
        refine st_call (rsame_c G (endK ws rest count).1 (endK ws rest count).1) rfl (.inl rfl) ?_
        simp only [wx, wy, wz, stV, Nat.reduceBEq, Nat.reduceAdd, Nat.reduceMul, Nat.reduceSub, Nat.reducePow, Int.reducePow, Int.reduceAdd, Int.reduceSub, Int.reduceMul, Int.reduceNeg, Int.reduceLE, Int.reduceLT, Int.reduceToNat, IntWalk.iteOmega, IntWalk.toNatUp, reduceCtorEq, reduceIte, Int.reduceEq, Int.reduceNe]
        exact ret_d1 (by simp only [wx, wy, wz, stV, Nat.reduceBEq, Nat.reduceAdd, Nat.reduceMul, Nat.reduceSub, Nat.reducePow, Int.reducePow, Int.reduceAdd, Int.reduceSub, Int.reduceMul, Int.reduceNeg, Int.reduceLE, Int.reduceLT, Int.reduceToNat, IntWalk.iteOmega, IntWalk.toNatUp, reduceCtorEq, reduceIte, Int.reduceEq, Int.reduceNe])
def sf_inparts : SFn := ⟨3, 102,
  .seq (.reg [⟨(some 6), .mv (.k (.c (.d (.bool false)))), none⟩])
  (.seq (.seq (.reg [⟨(some 15), .mv (.t 0), none⟩,
    ⟨(some 16), .len (.t 15), none⟩,
    ⟨(some 17), .bin .gtr (.t 16) (.k (.c (.d (.int .i64 150)))), none⟩,
    ⟨(some 18), .mv (.t 17), none⟩,
    ⟨(some 19), .mv (.t 1), (some (18, false))⟩,
    ⟨(some 20), .len (.t 19), (some (18, false))⟩,
    ⟨(some 21), .bin .gtr (.t 20) (.k (.c (.d (.int .i64 150)))), (some (18, false))⟩,
    ⟨(some 22), .pick (.t 18) (.k (.c (.d (.bool true)))) (.t 21), none⟩,
    ⟨(some 23), .mv (.t 22), none⟩,
    ⟨(some 24), .mv (.t 2), (some (23, false))⟩,
    ⟨(some 25), .len (.t 24), (some (23, false))⟩,
    ⟨(some 26), .bin .gtr (.t 25) (.k (.c (.d (.int .i64 150)))), (some (23, false))⟩,
    ⟨(some 27), .pick (.t 23) (.k (.c (.d (.bool true)))) (.t 26), none⟩])
  (.cond (.t 27) (.seq (.reg [⟨(some 28), .call 9 [] none, none⟩,
     ⟨(some 6), .mv (.t 28), none⟩])
   (.ret))
   (.skip)))
  (.seq (.reg [⟨(some 30), .call 26 [] none, none⟩,
    ⟨(some 31), .mv (.t 0), none⟩,
    ⟨(some 32), .call 19 [(.t 30), (.t 31)] none, none⟩,
    ⟨(some 29), .mv (.t 32), none⟩,
    ⟨(some 33), .extract (.t 29) 0, none⟩,
    ⟨(some 34), .extract (.t 29) 1, none⟩,
    ⟨(some 7), .alloc [.nil, .nil, (.d (.int .i64 0))], none⟩,
    ⟨none, .store (.ag 3) (.t 7) (.t 33), none⟩,
    ⟨(some 8), .mv (.t 34), none⟩])
  (.seq (.reg [⟨(some 36), .load (.ag 3) (.t 7), none⟩,
    ⟨(some 37), .mv (.t 1), none⟩,
    ⟨(some 38), .call 19 [(.t 36), (.t 37)] none, none⟩,
    ⟨(some 35), .mv (.t 38), none⟩,
    ⟨(some 39), .extract (.t 35) 0, none⟩,
    ⟨(some 40), .extract (.t 35) 1, none⟩,
    ⟨none, .store (.ag 3) (.t 7) (.t 39), none⟩,
    ⟨(some 9), .mv (.t 40), none⟩])
  (.seq (.reg [⟨(some 42), .load (.ag 3) (.t 7), none⟩,
    ⟨(some 43), .mv (.t 2), none⟩,
    ⟨(some 44), .call 19 [(.t 42), (.t 43)] none, none⟩,
    ⟨(some 41), .mv (.t 44), none⟩,
    ⟨(some 45), .extract (.t 41) 0, none⟩,
    ⟨(some 46), .extract (.t 41) 1, none⟩,
    ⟨none, .store (.ag 3) (.t 7) (.t 45), none⟩,
    ⟨(some 10), .mv (.t 46), none⟩])
  (.seq (.reg [⟨(some 48), .call 26 [] none, none⟩,
    ⟨(some 49), .mv (.t 0), none⟩,
    ⟨(some 50), .mv (.t 1), none⟩,
    ⟨(some 51), .mv (.t 2), none⟩,
    ⟨(some 52), .bldSl false 3 1 (.sl []) [(0, (.t 49)), (1, (.t 50)), (2, (.t 51))], none⟩,
    ⟨(some 53), .call 27 [(.t 52)] none, none⟩,
    ⟨(some 54), .call 19 [(.t 48), (.t 53)] none, none⟩,
    ⟨(some 47), .mv (.t 54), none⟩,
    ⟨(some 55), .extract (.t 47) 0, none⟩,
    ⟨(some 56), .extract (.t 47) 1, none⟩,
    ⟨(some 11), .alloc [.nil, .nil, (.d (.int .i64 0))], none⟩,
    ⟨none, .store (.ag 3) (.t 11) (.t 55), none⟩,
    ⟨(some 12), .mv (.t 56), none⟩])
  (.seq (.reg [⟨(some 58), .load (.ag 3) (.t 7), none⟩,
    ⟨(some 59), .call 21 [(.t 58)] none, none⟩,
    ⟨(some 57), .mv (.t 59), none⟩,
    ⟨(some 60), .extract (.t 57) 0, none⟩,
    ⟨(some 61), .extract (.t 57) 1, none⟩,
    ⟨(some 13), .mv (.t 60), none⟩,
    ⟨(some 14), .mv (.t 61), none⟩])
  (.seq (.reg [⟨(some 62), .call 9 [] none, none⟩,
    ⟨(some 63), .mv (.t 62), none⟩,
    ⟨(some 64), .mv (.t 8), (some (63, true))⟩,
    ⟨(some 65), .bin .eql (.t 64) (.k (.c (.d (.int .i64 0)))), (some (63, true))⟩,
    ⟨(some 66), .pick (.t 63) (.t 65) (.k (.c (.d (.bool false)))), none⟩,
    ⟨(some 67), .mv (.t 66), none⟩,
    ⟨(some 68), .mv (.t 9), (some (67, true))⟩,
    ⟨(some 69), .bin .eql (.t 68) (.k (.c (.d (.int .i64 0)))), (some (67, true))⟩,
    ⟨(some 70), .pick (.t 67) (.t 69) (.k (.c (.d (.bool false)))), none⟩,
    ⟨(some 71), .mv (.t 70), none⟩,
    ⟨(some 72), .mv (.t 10), (some (71, true))⟩,
    ⟨(some 73), .bin .eql (.t 72) (.k (.c (.d (.int .i64 0)))), (some (71, true))⟩,
    ⟨(some 74), .pick (.t 71) (.t 73) (.k (.c (.d (.bool false)))), none⟩,
    ⟨(some 75), .mv (.t 74), none⟩,
    ⟨(some 76), .mv (.t 12), (some (75, true))⟩,
    ⟨(some 77), .bin .eql (.t 76) (.k (.c (.d (.int .i64 0)))), (some (75, true))⟩,
    ⟨(some 78), .pick (.t 75) (.t 77) (.k (.c (.d (.bool false)))), none⟩,
    ⟨(some 79), .mv (.t 78), none⟩,
    ⟨(some 80), .mv (.t 14), (some (79, true))⟩,
    ⟨(some 81), .bin .eql (.t 80) (.k (.c (.d (.int .i64 0)))), (some (79, true))⟩,
    ⟨(some 82), .pick (.t 79) (.t 81) (.k (.c (.d (.bool false)))), none⟩,
    ⟨(some 83), .mv (.t 82), none⟩,
    ⟨(some 84), .load (.ag 3) (.t 7), (some (83, true))⟩,
    ⟨(some 85), .call 23 [(.t 84)] none, (some (83, true))⟩,
    ⟨(some 86), .pick (.t 83) (.t 85) (.k (.c (.d (.bool false)))), none⟩,
    ⟨(some 87), .mv (.t 86), none⟩,
    ⟨(some 88), .load (.ag 3) (.t 7), (some (87, true))⟩,
    ⟨(some 89), .load (.ag 3) (.t 11), (some (87, true))⟩,
    ⟨(some 90), .call 25 [(.t 88), (.t 89)] none, (some (87, true))⟩,
    ⟨(some 91), .pick (.t 87) (.t 90) (.k (.c (.d (.bool false)))), none⟩,
    ⟨(some 92), .mv (.t 91), none⟩,
    ⟨(some 93), .mv (.t 13), (some (92, true))⟩,
    ⟨(some 94), .mv (.t 0), (some (92, true))⟩,
    ⟨(some 95), .mv (.t 1), (some (92, true))⟩,
    ⟨(some 96), .mv (.t 2), (some (92, true))⟩,
    ⟨(some 97), .bldSl false 3 1 (.sl []) [(0, (.t 94)), (1, (.t 95)), (2, (.t 96))], (some (92, true))⟩,
    ⟨(some 98), .call 27 [(.t 97)] none, (some (92, true))⟩,
    ⟨(some 99), .call 11 [(.t 98)] none, (some (92, true))⟩,
    ⟨(some 100), .call 10 [(.t 93), (.t 99)] none, (some (92, true))⟩,
    ⟨(some 101), .pick (.t 92) (.t 100) (.k (.c (.d (.bool false)))), none⟩,
    ⟨(some 6), .mv (.t 101), none⟩])
  (.ret)))))))),
  [(6, none)]⟩
theorem cf_inparts : compFn Tryd.prog { own := [], comp := [], frz := [], nils := [] } Tryd.f6 = some sf_inparts := by kernel_rfl
set_option maxHeartbeats 1600000 in
theorem inparts_c (G : Glob) (a : List UInt8) (ha : a.length ≤ maxLen) (b : List UInt8) (hb : b.length ≤ maxLen) (c : List UInt8) (hc : c.length ≤ maxLen) (hF : G.at 0 = some (.ra (firstK.map wD))) (hG : G.at 1 = some (.ra (constK.map wD))) : Den Tryd.prog G 6 [.sl (a.map bD), .sl (b.map bD), .sl (c.map bD)] (.w (.c (.d (.bool true)))) := by
  refine den_walk Tryd.func6 cf_inparts rfl rfl ?_
  by_cases h1 : 150 < a.length
  · simp only [sf_inparts, putAll, wx, wy, wz, stV, Nat.reduceBEq, Nat.reduceAdd, Nat.reduceMul, Nat.reduceSub, Nat.reducePow, Int.reducePow, Int.reduceAdd, Int.reduceSub, Int.reduceMul, Int.reduceNeg, Int.reduceLE, Int.reduceLT, Int.reduceToNat, IntWalk.iteOmega, IntWalk.toNatUp, reduceCtorEq, reduceIte, Int.reduceEq, Int.reduceNe]
    refine st_call (known2_c G hF hG) rfl (.inl rfl) ?_
    simp only [wx, wy, wz, stV, Nat.reduceBEq, Nat.reduceAdd, Nat.reduceMul, Nat.reduceSub, Nat.reducePow, Int.reducePow, Int.reduceAdd, Int.reduceSub, Int.reduceMul, Int.reduceNeg, Int.reduceLE, Int.reduceLT, Int.reduceToNat, IntWalk.iteOmega, IntWalk.toNatUp, reduceCtorEq, reduceIte, Int.reduceEq, Int.reduceNe]
    exact ret_d1 (by simp only [wx, wy, wz, stV, Nat.reduceBEq, Nat.reduceAdd, Nat.reduceMul, Nat.reduceSub, Nat.reducePow, Int.reducePow, Int.reduceAdd, Int.reduceSub, Int.reduceMul, Int.reduceNeg, Int.reduceLE, Int.reduceLT, Int.reduceToNat, IntWalk.iteOmega, IntWalk.toNatUp, reduceCtorEq, reduceIte, Int.reduceEq, Int.reduceNe])
  · by_cases h2 : 150 < b.length
    · simp only [sf_inparts, putAll, wx, wy, wz, stV, Nat.reduceBEq, Nat.reduceAdd, Nat.reduceMul, Nat.reduceSub, Nat.reducePow, Int.reducePow, Int.reduceAdd, Int.reduceSub, Int.reduceMul, Int.reduceNeg, Int.reduceLE, Int.reduceLT, Int.reduceToNat, IntWalk.iteOmega, IntWalk.toNatUp, reduceCtorEq, reduceIte, Int.reduceEq, Int.reduceNe]
      refine st_call (known2_c G hF hG) rfl (.inl rfl) ?_
      simp only [wx, wy, wz, stV, Nat.reduceBEq, Nat.reduceAdd, Nat.reduceMul, Nat.reduceSub, Nat.reducePow, Int.reducePow, Int.reduceAdd, Int.reduceSub, Int.reduceMul, Int.reduceNeg, Int.reduceLE, Int.reduceLT, Int.reduceToNat, IntWalk.iteOmega, IntWalk.toNatUp, reduceCtorEq, reduceIte, Int.reduceEq, Int.reduceNe]
      exact ret_d1 (by simp only [wx, wy, wz, stV, Nat.reduceBEq, Nat.reduceAdd, Nat.reduceMul, Nat.reduceSub, Nat.reducePow, Int.reducePow, Int.reduceAdd, Int.reduceSub, Int.reduceMul, Int.reduceNeg, Int.reduceLE, Int.reduceLT, Int.reduceToNat, IntWalk.iteOmega, IntWalk.toNatUp, reduceCtorEq, reduceIte, Int.reduceEq, Int.reduceNe])
    · by_cases h3 : 150 < c.length
      · simp only [sf_inparts, putAll, wx, wy, wz, stV, Nat.reduceBEq, Nat.reduceAdd, Nat.reduceMul, Nat.reduceSub, Nat.reducePow, Int.reducePow, Int.reduceAdd, Int.reduceSub, Int.reduceMul, Int.reduceNeg, Int.reduceLE, Int.reduceLT, Int.reduceToNat, IntWalk.iteOmega, IntWalk.toNatUp, reduceCtorEq, reduceIte, Int.reduceEq, Int.reduceNe]
        refine st_call (known2_c G hF hG) rfl (.inl rfl) ?_
        simp only [wx, wy, wz, stV, Nat.reduceBEq, Nat.reduceAdd, Nat.reduceMul, Nat.reduceSub, Nat.reducePow, Int.reducePow, Int.reduceAdd, Int.reduceSub, Int.reduceMul, Int.reduceNeg, Int.reduceLE, Int.reduceLT, Int.reduceToNat, IntWalk.iteOmega, IntWalk.toNatUp, reduceCtorEq, reduceIte, Int.reduceEq, Int.reduceNe]
        exact ret_d1 (by simp only [wx, wy, wz, stV, Nat.reduceBEq, Nat.reduceAdd, Nat.reduceMul, Nat.reduceSub, Nat.reducePow, Int.reducePow, Int.reduceAdd, Int.reduceSub, Int.reduceMul, Int.reduceNeg, Int.reduceLE, Int.reduceLT, Int.reduceToNat, IntWalk.iteOmega, IntWalk.toNatUp, reduceCtorEq, reduceIte, Int.reduceEq, Int.reduceNe])
      · have hj := rjoin_c G [a, b, c] (by simp) (by simp; omega)
        have hf : [a, b, c].flatten = a ++ b ++ c := by simp
        rw [hf] at hj
        have hab : (a ++ b).length ≤ 1099511627776 := by rw [List.length_append]; omega
        have habc : (a ++ b ++ c).length ≤ 1099511627776 := by rw [List.length_append, List.length_append]; omega
        generalize hx : a ++ b = x at *
        generalize hy : x ++ c = y at *
        simp only [sf_inparts, putAll, wx, wy, wz, stV, Nat.reduceBEq, Nat.reduceAdd, Nat.reduceMul, Nat.reduceSub, Nat.reducePow, Int.reducePow, Int.reduceAdd, Int.reduceSub, Int.reduceMul, Int.reduceNeg, Int.reduceLE, Int.reduceLT, Int.reduceToNat, IntWalk.iteOmega, IntWalk.toNatUp, reduceCtorEq, reduceIte, Int.reduceEq, Int.reduceNe]
        refine st_call (beg_at G hF) rfl (.inl rfl) ?_
        simp only [wx, wy, wz, stV, Nat.reduceBEq, Nat.reduceAdd, Nat.reduceMul, Nat.reduceSub, Nat.reducePow, Int.reducePow, Int.reduceAdd, Int.reduceSub, Int.reduceMul, Int.reduceNeg, Int.reduceLE, Int.reduceLT, Int.reduceToNat, IntWalk.iteOmega, IntWalk.toNatUp, reduceCtorEq, reduceIte, Int.reduceEq, Int.reduceNe]
        refine st_call (more_at G hG [] a a rfl (by omega)) rfl (.inl rfl) ?_
        simp only [wx, wy, wz, stV, Nat.reduceBEq, Nat.reduceAdd, Nat.reduceMul, Nat.reduceSub, Nat.reducePow, Int.reducePow, Int.reduceAdd, Int.reduceSub, Int.reduceMul, Int.reduceNeg, Int.reduceLE, Int.reduceLT, Int.reduceToNat, IntWalk.iteOmega, IntWalk.toNatUp, reduceCtorEq, reduceIte, Int.reduceEq, Int.reduceNe]
        refine st_call (more_at G hG a b x hx hab) rfl (.inl rfl) ?_
        simp only [wx, wy, wz, stV, Nat.reduceBEq, Nat.reduceAdd, Nat.reduceMul, Nat.reduceSub, Nat.reducePow, Int.reducePow, Int.reduceAdd, Int.reduceSub, Int.reduceMul, Int.reduceNeg, Int.reduceLE, Int.reduceLT, Int.reduceToNat, IntWalk.iteOmega, IntWalk.toNatUp, reduceCtorEq, reduceIte, Int.reduceEq, Int.reduceNe]
        refine st_call (more_at G hG x c y hy habc) rfl (.inl rfl) ?_
        simp only [wx, wy, wz, stV, Nat.reduceBEq, Nat.reduceAdd, Nat.reduceMul, Nat.reduceSub, Nat.reducePow, Int.reducePow, Int.reduceAdd, Int.reduceSub, Int.reduceMul, Int.reduceNeg, Int.reduceLE, Int.reduceLT, Int.reduceToNat, IntWalk.iteOmega, IntWalk.toNatUp, reduceCtorEq, reduceIte, Int.reduceEq, Int.reduceNe]
        refine st_call (beg_at G hF) rfl (.inl rfl) ?_
        simp only [wx, wy, wz, stV, Nat.reduceBEq, Nat.reduceAdd, Nat.reduceMul, Nat.reduceSub, Nat.reducePow, Int.reducePow, Int.reduceAdd, Int.reduceSub, Int.reduceMul, Int.reduceNeg, Int.reduceLE, Int.reduceLT, Int.reduceToNat, IntWalk.iteOmega, IntWalk.toNatUp, reduceCtorEq, reduceIte, Int.reduceEq, Int.reduceNe]
        refine st_call (hj) rfl (.inl rfl) ?_
        simp only [wx, wy, wz, stV, Nat.reduceBEq, Nat.reduceAdd, Nat.reduceMul, Nat.reduceSub, Nat.reducePow, Int.reducePow, Int.reduceAdd, Int.reduceSub, Int.reduceMul, Int.reduceNeg, Int.reduceLE, Int.reduceLT, Int.reduceToNat, IntWalk.iteOmega, IntWalk.toNatUp, reduceCtorEq, reduceIte, Int.reduceEq, Int.reduceNe]
        refine st_call (more_at G hG [] y y rfl habc) rfl (.inl rfl) ?_
        simp only [wx, wy, wz, stV, Nat.reduceBEq, Nat.reduceAdd, Nat.reduceMul, Nat.reduceSub, Nat.reducePow, Int.reducePow, Int.reduceAdd, Int.reduceSub, Int.reduceMul, Int.reduceNeg, Int.reduceLE, Int.reduceLT, Int.reduceToNat, IntWalk.iteOmega, IntWalk.toNatUp, reduceCtorEq, reduceIte, Int.reduceEq, Int.reduceNe]
        refine st_call (end_at G hG y habc) rfl (.inl rfl) ?_
        simp only [wx, wy, wz, stV, Nat.reduceBEq, Nat.reduceAdd, Nat.reduceMul, Nat.reduceSub, Nat.reducePow, Int.reducePow, Int.reduceAdd, Int.reduceSub, Int.reduceMul, Int.reduceNeg, Int.reduceLE, Int.reduceLT, Int.reduceToNat, IntWalk.iteOmega, IntWalk.toNatUp, reduceCtorEq, reduceIte, Int.reduceEq, Int.reduceNe]
        refine st_call (known2_c G hF hG) rfl (.inl rfl) ?_
        simp only [wx, wy, wz, stV, Nat.reduceBEq, Nat.reduceAdd, Nat.reduceMul, Nat.reduceSub, Nat.reducePow, Int.reducePow, Int.reduceAdd, Int.reduceSub, Int.reduceMul, Int.reduceNeg, Int.reduceLE, Int.reduceLT, Int.reduceToNat, IntWalk.iteOmega, IntWalk.toNatUp, reduceCtorEq, reduceIte, Int.reduceEq, Int.reduceNe]
        refine st_call (valid_at G y habc) rfl (.inl rfl) ?_
        simp only [wx, wy, wz, stV, Nat.reduceBEq, Nat.reduceAdd, Nat.reduceMul, Nat.reduceSub, Nat.reducePow, Int.reducePow, Int.reduceAdd, Int.reduceSub, Int.reduceMul, Int.reduceNeg, Int.reduceLE, Int.reduceLT, Int.reduceToNat, IntWalk.iteOmega, IntWalk.toNatUp, reduceCtorEq, reduceIte, Int.reduceEq, Int.reduceNe]
        refine st_call (rss_at G y) rfl (.inl rfl) ?_
        simp only [wx, wy, wz, stV, Nat.reduceBEq, Nat.reduceAdd, Nat.reduceMul, Nat.reduceSub, Nat.reducePow, Int.reducePow, Int.reduceAdd, Int.reduceSub, Int.reduceMul, Int.reduceNeg, Int.reduceLE, Int.reduceLT, Int.reduceToNat, IntWalk.iteOmega, IntWalk.toNatUp, reduceCtorEq, reduceIte, Int.reduceEq, Int.reduceNe]
        refine st_call (hj) rfl (.inl rfl) ?_
        simp only [wx, wy, wz, stV, Nat.reduceBEq, Nat.reduceAdd, Nat.reduceMul, Nat.reduceSub, Nat.reducePow, Int.reducePow, Int.reduceAdd, Int.reduceSub, Int.reduceMul, Int.reduceNeg, Int.reduceLE, Int.reduceLT, Int.reduceToNat, IntWalk.iteOmega, IntWalk.toNatUp, reduceCtorEq, reduceIte, Int.reduceEq, Int.reduceNe]
        refine st_call (sum_c G hF hG y (by omega)) rfl (.inl rfl) ?_
        simp only [wx, wy, wz, stV, Nat.reduceBEq, Nat.reduceAdd, Nat.reduceMul, Nat.reduceSub, Nat.reducePow, Int.reducePow, Int.reduceAdd, Int.reduceSub, Int.reduceMul, Int.reduceNeg, Int.reduceLE, Int.reduceLT, Int.reduceToNat, IntWalk.iteOmega, IntWalk.toNatUp, reduceCtorEq, reduceIte, Int.reduceEq, Int.reduceNe]
        refine st_call (rsame_c G (sumK y) (sumK y)) rfl (.inl rfl) ?_
        simp only [wx, wy, wz, stV, Nat.reduceBEq, Nat.reduceAdd, Nat.reduceMul, Nat.reduceSub, Nat.reducePow, Int.reducePow, Int.reduceAdd, Int.reduceSub, Int.reduceMul, Int.reduceNeg, Int.reduceLE, Int.reduceLT, Int.reduceToNat, IntWalk.iteOmega, IntWalk.toNatUp, reduceCtorEq, reduceIte, Int.reduceEq, Int.reduceNe]
        exact ret_d1 (by simp only [wx, wy, wz, stV, Nat.reduceBEq, Nat.reduceAdd, Nat.reduceMul, Nat.reduceSub, Nat.reducePow, Int.reducePow, Int.reduceAdd, Int.reduceSub, Int.reduceMul, Int.reduceNeg, Int.reduceLE, Int.reduceLT, Int.reduceToNat, IntWalk.iteOmega, IntWalk.toNatUp, reduceCtorEq, reduceIte, Int.reduceEq, Int.reduceNe])
def sf_chains : SFn := ⟨3, 56,
  .seq (.reg [⟨(some 6), .mv (.k (.c (.d (.bool false)))), none⟩])
  (.seq (.seq (.reg [⟨(some 7), .mv (.t 0), none⟩,
    ⟨(some 8), .len (.t 7), none⟩,
    ⟨(some 9), .bin .gtr (.t 8) (.k (.c (.d (.int .i64 60)))), none⟩])
  (.cond (.t 9) (.seq (.reg [⟨(some 10), .call 9 [] none, none⟩,
     ⟨(some 6), .mv (.t 10), none⟩])
   (.ret))
   (.skip)))
  (.seq (.reg [⟨(some 11), .mv (.t 1), none⟩,
    ⟨(some 12), .call 18 [(.t 11), (.k (.c (.d (.int .i64 20))))] none, none⟩,
    ⟨(some 13), .mv (.t 2), none⟩,
    ⟨(some 14), .call 18 [(.t 13), (.k (.c (.d (.int .i64 20))))] none, none⟩,
    ⟨(some 1), .mv (.t 12), none⟩,
    ⟨(some 2), .mv (.t 14), none⟩])
  (.seq (.reg [⟨(some 15), .call 9 [] none, none⟩,
    ⟨(some 16), .mv (.t 15), none⟩,
    ⟨(some 17), .mv (.t 0), (some (16, true))⟩,
    ⟨(some 18), .mv (.t 1), (some (16, true))⟩,
    ⟨(some 19), .call 15 [(.t 17), (.t 18)] none, (some (16, true))⟩,
    ⟨(some 20), .mv (.t 2), (some (16, true))⟩,
    ⟨(some 21), .call 15 [(.t 19), (.t 20)] none, (some (16, true))⟩,
    ⟨(some 22), .mv (.t 0), (some (16, true))⟩,
    ⟨(some 23), .mv (.t 1), (some (16, true))⟩,
    ⟨(some 24), .mv (.t 2), (some (16, true))⟩,
    ⟨(some 25), .bin .add (.t 23) (.t 24), (some (16, true))⟩,
    ⟨(some 26), .call 15 [(.t 22), (.t 25)] none, (some (16, true))⟩,
    ⟨(some 27), .call 10 [(.t 21), (.t 26)] none, (some (16, true))⟩,
    ⟨(some 28), .pick (.t 16) (.t 27) (.k (.c (.d (.bool false)))), none⟩,
    ⟨(some 29), .mv (.t 28), none⟩,
    ⟨(some 30), .mv (.t 0), (some (29, true))⟩,
    ⟨(some 31), .call 15 [(.t 30), (.k (.c (.d (.int .i64 1))))] none, (some (29, true))⟩,
    ⟨(some 32), .mv (.t 0), (some (29, true))⟩,
    ⟨(some 33), .call 13 [(.t 32)] none, (some (29, true))⟩,
    ⟨(some 34), .call 10 [(.t 31), (.t 33)] none, (some (29, true))⟩,
    ⟨(some 35), .pick (.t 29) (.t 34) (.k (.c (.d (.bool false)))), none⟩,
    ⟨(some 36), .mv (.t 35), none⟩,
    ⟨(some 37), .mv (.t 0), (some (36, true))⟩,
    ⟨(some 38), .call 15 [(.t 37), (.k (.c (.d (.int .i64 0))))] none, (some (36, true))⟩,
    ⟨(some 39), .mv (.t 0), (some (36, true))⟩,
    ⟨(some 40), .call 10 [(.t 38), (.t 39)] none, (some (36, true))⟩,
    ⟨(some 41), .pick (.t 36) (.t 40) (.k (.c (.d (.bool false)))), none⟩,
    ⟨(some 42), .mv (.t 41), none⟩,
    ⟨(some 43), .mv (.t 0), (some (42, true))⟩,
    ⟨(some 44), .call 11 [(.t 43)] none, (some (42, true))⟩,
    ⟨(some 45), .len (.t 44), (some (42, true))⟩,
    ⟨(some 46), .bin .eql (.t 45) (.k (.c (.d (.int .i64 32)))), (some (42, true))⟩,
    ⟨(some 47), .pick (.t 42) (.t 46) (.k (.c (.d (.bool false)))), none⟩,
    ⟨(some 48), .mv (.t 47), none⟩,
    ⟨(some 49), .mv (.t 0), (some (48, true))⟩,
    ⟨(some 50), .call 13 [(.t 49)] none, (some (48, true))⟩,
    ⟨(some 51), .mv (.t 0), (some (48, true))⟩,
    ⟨(some 52), .call 12 [(.t 51)] none, (some (48, true))⟩,
    ⟨(some 53), .slice 1 (.t 52) none (some (.k (.c (.d (.int .i64 16))))) none, (some (48, true))⟩,
    ⟨(some 54), .call 10 [(.t 50), (.t 53)] none, (some (48, true))⟩,
    ⟨(some 55), .pick (.t 48) (.t 54) (.k (.c (.d (.bool false)))), none⟩,
    ⟨(some 6), .mv (.t 55), none⟩])
  (.ret)))),
  [(6, none)]⟩
theorem cf_chains : compFn Tryd.prog { own := [], comp := [], frz := [], nils := [] } Tryd.f7 = some sf_chains := by kernel_rfl
set_option maxHeartbeats 1600000 in
theorem chains_c (G : Glob) (b : List UInt8) (hb : b.length ≤ maxLen) (n : Int) (hn1 : -9223372036854775808 ≤ n) (hn2 : n ≤ 9223372036854775807) (m : Int) (hm1 : -9223372036854775808 ≤ m) (hm2 : m ≤ 9223372036854775807) (hF : G.at 0 = some (.ra (firstK.map wD))) (hG : G.at 1 = some (.ra (constK.map wD))) : Den Tryd.prog G 7 [.sl (b.map bD), .int .i64 n, .int .i64 m] (.w (.c (.d (.bool true)))) := by
  refine den_walk Tryd.func7 cf_chains rfl rfl ?_
  by_cases h1 : 60 < b.length
  · simp only [sf_chains, putAll, wx, wy, wz, stV, Nat.reduceBEq, Nat.reduceAdd, Nat.reduceMul, Nat.reduceSub, Nat.reducePow, Int.reducePow, Int.reduceAdd, Int.reduceSub, Int.reduceMul, Int.reduceNeg, Int.reduceLE, Int.reduceLT, Int.reduceToNat, IntWalk.iteOmega, IntWalk.toNatUp, reduceCtorEq, reduceIte, Int.reduceEq, Int.reduceNe]
    refine st_call (known2_c G hF hG) rfl (.inl rfl) ?_
    simp only [wx, wy, wz, stV, Nat.reduceBEq, Nat.reduceAdd, Nat.reduceMul, Nat.reduceSub, Nat.reducePow, Int.reducePow, Int.reduceAdd, Int.reduceSub, Int.reduceMul, Int.reduceNeg, Int.reduceLE, Int.reduceLT, Int.reduceToNat, IntWalk.iteOmega, IntWalk.toNatUp, reduceCtorEq, reduceIte, Int.reduceEq, Int.reduceNe]
    exact ret_d1 (by simp only [wx, wy, wz, stV, Nat.reduceBEq, Nat.reduceAdd, Nat.reduceMul, Nat.reduceSub, Nat.reducePow, Int.reducePow, Int.reduceAdd, Int.reduceSub, Int.reduceMul, Int.reduceNeg, Int.reduceLE, Int.reduceLT, Int.reduceToNat, IntWalk.iteOmega, IntWalk.toNatUp, reduceCtorEq, reduceIte, Int.reduceEq, Int.reduceNe])
  · have r1 := withinN_range n 20 (by omega)
    have r2 := withinN_range m 20 (by omega)
    simp only [sf_chains, putAll, wx, wy, wz, stV, Nat.reduceBEq, Nat.reduceAdd, Nat.reduceMul, Nat.reduceSub, Nat.reducePow, Int.reducePow, Int.reduceAdd, Int.reduceSub, Int.reduceMul, Int.reduceNeg, Int.reduceLE, Int.reduceLT, Int.reduceToNat, IntWalk.iteOmega, IntWalk.toNatUp, reduceCtorEq, reduceIte, Int.reduceEq, Int.reduceNe]
    refine st_call (within_c G n 20 (by omega)) rfl (.inl rfl) ?_
    simp only [wx, wy, wz, stV, Nat.reduceBEq, Nat.reduceAdd, Nat.reduceMul, Nat.reduceSub, Nat.reducePow, Int.reducePow, Int.reduceAdd, Int.reduceSub, Int.reduceMul, Int.reduceNeg, Int.reduceLE, Int.reduceLT, Int.reduceToNat, IntWalk.iteOmega, IntWalk.toNatUp, reduceCtorEq, reduceIte, Int.reduceEq, Int.reduceNe]
    refine st_call (within_c G m 20 (by omega)) rfl (.inl rfl) ?_
    simp only [wx, wy, wz, stV, Nat.reduceBEq, Nat.reduceAdd, Nat.reduceMul, Nat.reduceSub, Nat.reducePow, Int.reducePow, Int.reduceAdd, Int.reduceSub, Int.reduceMul, Int.reduceNeg, Int.reduceLE, Int.reduceLT, Int.reduceToNat, IntWalk.iteOmega, IntWalk.toNatUp, reduceCtorEq, reduceIte, Int.reduceEq, Int.reduceNe]
    obtain ⟨p, hp⟩ := Int.eq_ofNat_of_zero_le r1.1
    obtain ⟨q, hq⟩ := Int.eq_ofNat_of_zero_le r2.1
    rw [hp] at r1 ⊢
    rw [hq] at r2 ⊢
    have hb' : b.length ≤ 140737488355328 := by omega
    have c1 := chain_c G hF hG b hb' (p : Int)
    have c2 := chain_c G hF hG (chainK b p) (chainK_len b hb' p) (q : Int)
    have c3 := chain_c G hF hG b hb' ((p : Int) + q)
    rw [show (min (p : Int) 65536).toNat = p by omega] at c1
    rw [show (min (q : Int) 65536).toNat = q by omega, chainK_add] at c2
    rw [show (min ((p : Int) + q) 65536).toNat = p + q by omega] at c3
    have c4 := chain_c G hF hG b hb' 1
    have c5 := chain_c G hF hG b hb' 0
    rw [show (min (1 : Int) 65536).toNat = 1 by decide] at c4
    rw [show (min (0 : Int) 65536).toNat = 0 by decide] at c5
    have e1 : chainK b 1 = shortK b := rfl
    have e0 : chainK b 0 = b := rfl
    rw [e1] at c4
    rw [e0] at c5
    have hl := sumK_len b
    have hsh : (sumK b).take 16 = shortK b := rfl
    refine st_call (known2_c G hF hG) rfl (.inl rfl) ?_
    simp only [wx, wy, wz, stV, Nat.reduceBEq, Nat.reduceAdd, Nat.reduceMul, Nat.reduceSub, Nat.reducePow, Int.reducePow, Int.reduceAdd, Int.reduceSub, Int.reduceMul, Int.reduceNeg, Int.reduceLE, Int.reduceLT, Int.reduceToNat, IntWalk.iteOmega, IntWalk.toNatUp, reduceCtorEq, reduceIte, Int.reduceEq, Int.reduceNe]
    refine st_call (c1) rfl (.inl rfl) ?_
    simp only [wx, wy, wz, stV, Nat.reduceBEq, Nat.reduceAdd, Nat.reduceMul, Nat.reduceSub, Nat.reducePow, Int.reducePow, Int.reduceAdd, Int.reduceSub, Int.reduceMul, Int.reduceNeg, Int.reduceLE, Int.reduceLT, Int.reduceToNat, IntWalk.iteOmega, IntWalk.toNatUp, reduceCtorEq, reduceIte, Int.reduceEq, Int.reduceNe]
    refine st_call (c2) rfl (.inl rfl) ?_
    simp only [wx, wy, wz, stV, Nat.reduceBEq, Nat.reduceAdd, Nat.reduceMul, Nat.reduceSub, Nat.reducePow, Int.reducePow, Int.reduceAdd, Int.reduceSub, Int.reduceMul, Int.reduceNeg, Int.reduceLE, Int.reduceLT, Int.reduceToNat, IntWalk.iteOmega, IntWalk.toNatUp, reduceCtorEq, reduceIte, Int.reduceEq, Int.reduceNe]
    refine st_call (c3) rfl (.inl rfl) ?_
    simp only [wx, wy, wz, stV, Nat.reduceBEq, Nat.reduceAdd, Nat.reduceMul, Nat.reduceSub, Nat.reducePow, Int.reducePow, Int.reduceAdd, Int.reduceSub, Int.reduceMul, Int.reduceNeg, Int.reduceLE, Int.reduceLT, Int.reduceToNat, IntWalk.iteOmega, IntWalk.toNatUp, reduceCtorEq, reduceIte, Int.reduceEq, Int.reduceNe]
    refine st_call (rsame_c G (chainK b (p + q)) (chainK b (p + q))) rfl (.inl rfl) ?_
    simp only [wx, wy, wz, stV, Nat.reduceBEq, Nat.reduceAdd, Nat.reduceMul, Nat.reduceSub, Nat.reducePow, Int.reducePow, Int.reduceAdd, Int.reduceSub, Int.reduceMul, Int.reduceNeg, Int.reduceLE, Int.reduceLT, Int.reduceToNat, IntWalk.iteOmega, IntWalk.toNatUp, reduceCtorEq, reduceIte, Int.reduceEq, Int.reduceNe]
    refine st_call (c4) rfl (.inl rfl) ?_
    simp only [wx, wy, wz, stV, Nat.reduceBEq, Nat.reduceAdd, Nat.reduceMul, Nat.reduceSub, Nat.reducePow, Int.reducePow, Int.reduceAdd, Int.reduceSub, Int.reduceMul, Int.reduceNeg, Int.reduceLE, Int.reduceLT, Int.reduceToNat, IntWalk.iteOmega, IntWalk.toNatUp, reduceCtorEq, reduceIte, Int.reduceEq, Int.reduceNe]
    refine st_call (short_c G hF hG b hb') rfl (.inl rfl) ?_
    simp only [wx, wy, wz, stV, Nat.reduceBEq, Nat.reduceAdd, Nat.reduceMul, Nat.reduceSub, Nat.reducePow, Int.reducePow, Int.reduceAdd, Int.reduceSub, Int.reduceMul, Int.reduceNeg, Int.reduceLE, Int.reduceLT, Int.reduceToNat, IntWalk.iteOmega, IntWalk.toNatUp, reduceCtorEq, reduceIte, Int.reduceEq, Int.reduceNe]
    refine st_call (rsame_c G (shortK b) (shortK b)) rfl (.inl rfl) ?_
    simp only [wx, wy, wz, stV, Nat.reduceBEq, Nat.reduceAdd, Nat.reduceMul, Nat.reduceSub, Nat.reducePow, Int.reducePow, Int.reduceAdd, Int.reduceSub, Int.reduceMul, Int.reduceNeg, Int.reduceLE, Int.reduceLT, Int.reduceToNat, IntWalk.iteOmega, IntWalk.toNatUp, reduceCtorEq, reduceIte, Int.reduceEq, Int.reduceNe]
    refine st_call (c5) rfl (.inl rfl) ?_
    simp only [wx, wy, wz, stV, Nat.reduceBEq, Nat.reduceAdd, Nat.reduceMul, Nat.reduceSub, Nat.reducePow, Int.reducePow, Int.reduceAdd, Int.reduceSub, Int.reduceMul, Int.reduceNeg, Int.reduceLE, Int.reduceLT, Int.reduceToNat, IntWalk.iteOmega, IntWalk.toNatUp, reduceCtorEq, reduceIte, Int.reduceEq, Int.reduceNe]
    refine st_call (rsame_c G b b) rfl (.inl rfl) ?_
    simp only [wx, wy, wz, stV, Nat.reduceBEq, Nat.reduceAdd, Nat.reduceMul, Nat.reduceSub, Nat.reducePow, Int.reducePow, Int.reduceAdd, Int.reduceSub, Int.reduceMul, Int.reduceNeg, Int.reduceLE, Int.reduceLT, Int.reduceToNat, IntWalk.iteOmega, IntWalk.toNatUp, reduceCtorEq, reduceIte, Int.reduceEq, Int.reduceNe]
    refine st_call (sum_c G hF hG b hb') rfl (.inl rfl) ?_
    simp only [wx, wy, wz, stV, Nat.reduceBEq, Nat.reduceAdd, Nat.reduceMul, Nat.reduceSub, Nat.reducePow, Int.reducePow, Int.reduceAdd, Int.reduceSub, Int.reduceMul, Int.reduceNeg, Int.reduceLE, Int.reduceLT, Int.reduceToNat, IntWalk.iteOmega, IntWalk.toNatUp, reduceCtorEq, reduceIte, Int.reduceEq, Int.reduceNe]
    simp only [wx, wy, wz, stV, Nat.reduceBEq, Nat.reduceAdd, Nat.reduceMul, Nat.reduceSub, Nat.reducePow, Int.reducePow, Int.reduceAdd, Int.reduceSub, Int.reduceMul, Int.reduceNeg, Int.reduceLE, Int.reduceLT, Int.reduceToNat, IntWalk.iteOmega, IntWalk.toNatUp, reduceCtorEq, reduceIte, Int.reduceEq, Int.reduceNe, hl]
    refine st_call (short_c G hF hG b hb') rfl (.inl rfl) ?_
    simp only [wx, wy, wz, stV, Nat.reduceBEq, Nat.reduceAdd, Nat.reduceMul, Nat.reduceSub, Nat.reducePow, Int.reducePow, Int.reduceAdd, Int.reduceSub, Int.reduceMul, Int.reduceNeg, Int.reduceLE, Int.reduceLT, Int.reduceToNat, IntWalk.iteOmega, IntWalk.toNatUp, reduceCtorEq, reduceIte, Int.reduceEq, Int.reduceNe]
    refine st_call (rsum_c G b hb') rfl (.inl rfl) ?_
    simp only [wx, wy, wz, stV, Nat.reduceBEq, Nat.reduceAdd, Nat.reduceMul, Nat.reduceSub, Nat.reducePow, Int.reducePow, Int.reduceAdd, Int.reduceSub, Int.reduceMul, Int.reduceNeg, Int.reduceLE, Int.reduceLT, Int.reduceToNat, IntWalk.iteOmega, IntWalk.toNatUp, reduceCtorEq, reduceIte, Int.reduceEq, Int.reduceNe]
    simp only [wx, wy, wz, stV, Nat.reduceBEq, Nat.reduceAdd, Nat.reduceMul, Nat.reduceSub, Nat.reducePow, Int.reducePow, Int.reduceAdd, Int.reduceSub, Int.reduceMul, Int.reduceNeg, Int.reduceLE, Int.reduceLT, Int.reduceToNat, IntWalk.iteOmega, IntWalk.toNatUp, reduceCtorEq, reduceIte, Int.reduceEq, Int.reduceNe, hl, hsh]
    refine st_call (rsame_c G (shortK b) (shortK b)) rfl (.inl rfl) ?_
    simp only [wx, wy, wz, stV, Nat.reduceBEq, Nat.reduceAdd, Nat.reduceMul, Nat.reduceSub, Nat.reducePow, Int.reducePow, Int.reduceAdd, Int.reduceSub, Int.reduceMul, Int.reduceNeg, Int.reduceLE, Int.reduceLT, Int.reduceToNat, IntWalk.iteOmega, IntWalk.toNatUp, reduceCtorEq, reduceIte, Int.reduceEq, Int.reduceNe]
    exact ret_d1 (by simp only [wx, wy, wz, stV, Nat.reduceBEq, Nat.reduceAdd, Nat.reduceMul, Nat.reduceSub, Nat.reducePow, Int.reducePow, Int.reduceAdd, Int.reduceSub, Int.reduceMul, Int.reduceNeg, Int.reduceLE, Int.reduceLT, Int.reduceToNat, IntWalk.iteOmega, IntWalk.toNatUp, reduceCtorEq, reduceIte, Int.reduceEq, Int.reduceNe])
def sf_goeson : SFn := ⟨2, 109,
  .seq (.reg [⟨(some 4), .mv (.k (.c (.d (.bool false)))), none⟩])
  (.seq (.seq (.reg [⟨(some 15), .mv (.t 0), none⟩,
    ⟨(some 16), .len (.t 15), none⟩,
    ⟨(some 17), .bin .gtr (.t 16) (.k (.c (.d (.int .i64 150)))), none⟩,
    ⟨(some 18), .mv (.t 17), none⟩,
    ⟨(some 19), .mv (.t 1), (some (18, false))⟩,
    ⟨(some 20), .len (.t 19), (some (18, false))⟩,
    ⟨(some 21), .bin .gtr (.t 20) (.k (.c (.d (.int .i64 150)))), (some (18, false))⟩,
    ⟨(some 22), .pick (.t 18) (.k (.c (.d (.bool true)))) (.t 21), none⟩])
  (.cond (.t 22) (.seq (.reg [⟨(some 23), .call 9 [] none, none⟩,
     ⟨(some 4), .mv (.t 23), none⟩])
   (.ret))
   (.skip)))
  (.seq (.reg [⟨(some 25), .call 26 [] none, none⟩,
    ⟨(some 26), .mv (.t 0), none⟩,
    ⟨(some 27), .call 19 [(.t 25), (.t 26)] none, none⟩,
    ⟨(some 24), .mv (.t 27), none⟩,
    ⟨(some 28), .extract (.t 24) 0, none⟩,
    ⟨(some 29), .extract (.t 24) 1, none⟩,
    ⟨(some 5), .alloc [.nil, .nil, (.d (.int .i64 0))], none⟩,
    ⟨none, .store (.ag 3) (.t 5) (.t 28), none⟩,
    ⟨(some 6), .mv (.t 29), none⟩])
  (.seq (.reg [⟨(some 31), .load (.ag 3) (.t 5), none⟩,
    ⟨(some 32), .call 19 [(.t 31), (.k (.c .nil))] none, none⟩,
    ⟨(some 30), .mv (.t 32), none⟩,
    ⟨(some 33), .extract (.t 30) 0, none⟩,
    ⟨(some 34), .extract (.t 30) 1, none⟩,
    ⟨(some 7), .alloc [.nil, .nil, (.d (.int .i64 0))], none⟩,
    ⟨none, .store (.ag 3) (.t 7) (.t 33), none⟩,
    ⟨(some 8), .mv (.t 34), none⟩])
  (.seq (.reg [⟨(some 36), .load (.ag 3) (.t 5), none⟩,
    ⟨(some 37), .call 21 [(.t 36)] none, none⟩,
    ⟨(some 35), .mv (.t 37), none⟩,
    ⟨(some 38), .extract (.t 35) 0, none⟩,
    ⟨(some 39), .extract (.t 35) 1, none⟩,
    ⟨(some 9), .mv (.t 38), none⟩,
    ⟨(some 10), .mv (.t 39), none⟩])
  (.seq (.reg [⟨(some 41), .load (.ag 3) (.t 5), none⟩,
    ⟨(some 42), .mv (.t 1), none⟩,
    ⟨(some 43), .call 19 [(.t 41), (.t 42)] none, none⟩,
    ⟨(some 40), .mv (.t 43), none⟩,
    ⟨(some 44), .extract (.t 40) 0, none⟩,
    ⟨(some 45), .extract (.t 40) 1, none⟩,
    ⟨(some 11), .alloc [.nil, .nil, (.d (.int .i64 0))], none⟩,
    ⟨none, .store (.ag 3) (.t 11) (.t 44), none⟩,
    ⟨(some 12), .mv (.t 45), none⟩])
  (.seq (.reg [⟨(some 47), .load (.ag 3) (.t 11), none⟩,
    ⟨(some 48), .call 21 [(.t 47)] none, none⟩,
    ⟨(some 46), .mv (.t 48), none⟩,
    ⟨(some 49), .extract (.t 46) 0, none⟩,
    ⟨(some 50), .extract (.t 46) 1, none⟩,
    ⟨(some 13), .mv (.t 49), none⟩,
    ⟨(some 14), .mv (.t 50), none⟩])
  (.seq (.reg [⟨(some 51), .call 9 [] none, none⟩,
    ⟨(some 52), .mv (.t 51), none⟩,
    ⟨(some 53), .mv (.t 6), (some (52, true))⟩,
    ⟨(some 54), .bin .eql (.t 53) (.k (.c (.d (.int .i64 0)))), (some (52, true))⟩,
    ⟨(some 55), .pick (.t 52) (.t 54) (.k (.c (.d (.bool false)))), none⟩,
    ⟨(some 56), .mv (.t 55), none⟩,
    ⟨(some 57), .mv (.t 8), (some (56, true))⟩,
    ⟨(some 58), .bin .eql (.t 57) (.k (.c (.d (.int .i64 0)))), (some (56, true))⟩,
    ⟨(some 59), .pick (.t 56) (.t 58) (.k (.c (.d (.bool false)))), none⟩,
    ⟨(some 60), .mv (.t 59), none⟩,
    ⟨(some 61), .mv (.t 10), (some (60, true))⟩,
    ⟨(some 62), .bin .eql (.t 61) (.k (.c (.d (.int .i64 0)))), (some (60, true))⟩,
    ⟨(some 63), .pick (.t 60) (.t 62) (.k (.c (.d (.bool false)))), none⟩,
    ⟨(some 64), .mv (.t 63), none⟩,
    ⟨(some 65), .mv (.t 12), (some (64, true))⟩,
    ⟨(some 66), .bin .eql (.t 65) (.k (.c (.d (.int .i64 0)))), (some (64, true))⟩,
    ⟨(some 67), .pick (.t 64) (.t 66) (.k (.c (.d (.bool false)))), none⟩,
    ⟨(some 68), .mv (.t 67), none⟩,
    ⟨(some 69), .mv (.t 14), (some (68, true))⟩,
    ⟨(some 70), .bin .eql (.t 69) (.k (.c (.d (.int .i64 0)))), (some (68, true))⟩,
    ⟨(some 71), .pick (.t 68) (.t 70) (.k (.c (.d (.bool false)))), none⟩,
    ⟨(some 72), .mv (.t 71), none⟩,
    ⟨(some 73), .load (.ag 3) (.t 5), (some (72, true))⟩,
    ⟨(some 74), .load (.ag 3) (.t 7), (some (72, true))⟩,
    ⟨(some 75), .call 25 [(.t 73), (.t 74)] none, (some (72, true))⟩,
    ⟨(some 76), .pick (.t 72) (.t 75) (.k (.c (.d (.bool false)))), none⟩,
    ⟨(some 77), .mv (.t 76), none⟩,
    ⟨(some 78), .fieldAddr 2 (.t 5), (some (77, true))⟩,
    ⟨(some 79), .load .sc (.t 78), (some (77, true))⟩,
    ⟨(some 80), .mv (.t 0), (some (77, true))⟩,
    ⟨(some 81), .len (.t 80), (some (77, true))⟩,
    ⟨(some 82), .bin .eql (.t 79) (.t 81), (some (77, true))⟩,
    ⟨(some 83), .pick (.t 77) (.t 82) (.k (.c (.d (.bool false)))), none⟩,
    ⟨(some 84), .mv (.t 83), none⟩,
    ⟨(some 85), .fieldAddr 2 (.t 11), (some (84, true))⟩,
    ⟨(some 86), .load .sc (.t 85), (some (84, true))⟩,
    ⟨(some 87), .mv (.t 0), (some (84, true))⟩,
    ⟨(some 88), .len (.t 87), (some (84, true))⟩,
    ⟨(some 89), .mv (.t 1), (some (84, true))⟩,
    ⟨(some 90), .len (.t 89), (some (84, true))⟩,
    ⟨(some 91), .bin .add (.t 88) (.t 90), (some (84, true))⟩,
    ⟨(some 92), .bin .eql (.t 86) (.t 91), (some (84, true))⟩,
    ⟨(some 93), .pick (.t 84) (.t 92) (.k (.c (.d (.bool false)))), none⟩,
    ⟨(some 94), .mv (.t 93), none⟩,
    ⟨(some 95), .mv (.t 9), (some (94, true))⟩,
    ⟨(some 96), .mv (.t 0), (some (94, true))⟩,
    ⟨(some 97), .call 12 [(.t 96)] none, (some (94, true))⟩,
    ⟨(some 98), .call 10 [(.t 95), (.t 97)] none, (some (94, true))⟩,
    ⟨(some 99), .pick (.t 94) (.t 98) (.k (.c (.d (.bool false)))), none⟩,
    ⟨(some 100), .mv (.t 99), none⟩,
    ⟨(some 101), .mv (.t 13), (some (100, true))⟩,
    ⟨(some 102), .mv (.t 0), (some (100, true))⟩,
    ⟨(some 103), .mv (.t 1), (some (100, true))⟩,
    ⟨(some 104), .bldSl false 2 1 (.sl []) [(0, (.t 102)), (1, (.t 103))], (some (100, true))⟩,
    ⟨(some 105), .call 27 [(.t 104)] none, (some (100, true))⟩,
    ⟨(some 106), .call 12 [(.t 105)] none, (some (100, true))⟩,
    ⟨(some 107), .call 10 [(.t 101), (.t 106)] none, (some (100, true))⟩,
    ⟨(some 108), .pick (.t 100) (.t 107) (.k (.c (.d (.bool false)))), none⟩,
    ⟨(some 4), .mv (.t 108), none⟩])
  (.ret)))))))),
  [(4, none)]⟩
theorem cf_goeson : compFn Tryd.prog { own := [], comp := [], frz := [], nils := [] } Tryd.f8 = some sf_goeson := by kernel_rfl
set_option maxHeartbeats 1600000 in
theorem goeson_c (G : Glob) (a : List UInt8) (ha : a.length ≤ maxLen) (b : List UInt8) (hb : b.length ≤ maxLen) (hF : G.at 0 = some (.ra (firstK.map wD))) (hG : G.at 1 = some (.ra (constK.map wD))) : Den Tryd.prog G 8 [.sl (a.map bD), .sl (b.map bD)] (.w (.c (.d (.bool true)))) := by
  refine den_walk Tryd.func8 cf_goeson rfl rfl ?_
  by_cases h1 : 150 < a.length
  · simp only [sf_goeson, putAll, wx, wy, wz, stV, Nat.reduceBEq, Nat.reduceAdd, Nat.reduceMul, Nat.reduceSub, Nat.reducePow, Int.reducePow, Int.reduceAdd, Int.reduceSub, Int.reduceMul, Int.reduceNeg, Int.reduceLE, Int.reduceLT, Int.reduceToNat, IntWalk.iteOmega, IntWalk.toNatUp, reduceCtorEq, reduceIte, Int.reduceEq, Int.reduceNe]
    refine st_call (known2_c G hF hG) rfl (.inl rfl) ?_
    simp only [wx, wy, wz, stV, Nat.reduceBEq, Nat.reduceAdd, Nat.reduceMul, Nat.reduceSub, Nat.reducePow, Int.reducePow, Int.reduceAdd, Int.reduceSub, Int.reduceMul, Int.reduceNeg, Int.reduceLE, Int.reduceLT, Int.reduceToNat, IntWalk.iteOmega, IntWalk.toNatUp, reduceCtorEq, reduceIte, Int.reduceEq, Int.reduceNe]
    exact ret_d1 (by simp only [wx, wy, wz, stV, Nat.reduceBEq, Nat.reduceAdd, Nat.reduceMul, Nat.reduceSub, Nat.reducePow, Int.reducePow, Int.reduceAdd, Int.reduceSub, Int.reduceMul, Int.reduceNeg, Int.reduceLE, Int.reduceLT, Int.reduceToNat, IntWalk.iteOmega, IntWalk.toNatUp, reduceCtorEq, reduceIte, Int.reduceEq, Int.reduceNe])
  · by_cases h2 : 150 < b.length
    · simp only [sf_goeson, putAll, wx, wy, wz, stV, Nat.reduceBEq, Nat.reduceAdd, Nat.reduceMul, Nat.reduceSub, Nat.reducePow, Int.reducePow, Int.reduceAdd, Int.reduceSub, Int.reduceMul, Int.reduceNeg, Int.reduceLE, Int.reduceLT, Int.reduceToNat, IntWalk.iteOmega, IntWalk.toNatUp, reduceCtorEq, reduceIte, Int.reduceEq, Int.reduceNe]
      refine st_call (known2_c G hF hG) rfl (.inl rfl) ?_
      simp only [wx, wy, wz, stV, Nat.reduceBEq, Nat.reduceAdd, Nat.reduceMul, Nat.reduceSub, Nat.reducePow, Int.reducePow, Int.reduceAdd, Int.reduceSub, Int.reduceMul, Int.reduceNeg, Int.reduceLE, Int.reduceLT, Int.reduceToNat, IntWalk.iteOmega, IntWalk.toNatUp, reduceCtorEq, reduceIte, Int.reduceEq, Int.reduceNe]
      exact ret_d1 (by simp only [wx, wy, wz, stV, Nat.reduceBEq, Nat.reduceAdd, Nat.reduceMul, Nat.reduceSub, Nat.reducePow, Int.reducePow, Int.reduceAdd, Int.reduceSub, Int.reduceMul, Int.reduceNeg, Int.reduceLE, Int.reduceLT, Int.reduceToNat, IntWalk.iteOmega, IntWalk.toNatUp, reduceCtorEq, reduceIte, Int.reduceEq, Int.reduceNe])
    · have hj := rjoin_c G [a, b] (by simp) (by simp; omega)
      have hf : [a, b].flatten = a ++ b := by simp
      rw [hf] at hj
      have hab : (a ++ b).length = a.length + b.length := List.length_append
      generalize hx : a ++ b = x at *
      have hab' : x.length ≤ 1099511627776 := by omega
      simp only [sf_goeson, putAll, wx, wy, wz, stV, Nat.reduceBEq, Nat.reduceAdd, Nat.reduceMul, Nat.reduceSub, Nat.reducePow, Int.reducePow, Int.reduceAdd, Int.reduceSub, Int.reduceMul, Int.reduceNeg, Int.reduceLE, Int.reduceLT, Int.reduceToNat, IntWalk.iteOmega, IntWalk.toNatUp, reduceCtorEq, reduceIte, Int.reduceEq, Int.reduceNe]
      refine st_call (beg_at G hF) rfl (.inl rfl) ?_
      simp only [wx, wy, wz, stV, Nat.reduceBEq, Nat.reduceAdd, Nat.reduceMul, Nat.reduceSub, Nat.reducePow, Int.reducePow, Int.reduceAdd, Int.reduceSub, Int.reduceMul, Int.reduceNeg, Int.reduceLE, Int.reduceLT, Int.reduceToNat, IntWalk.iteOmega, IntWalk.toNatUp, reduceCtorEq, reduceIte, Int.reduceEq, Int.reduceNe]
      refine st_call (more_at G hG [] a a rfl (by omega)) rfl (.inl rfl) ?_
      simp only [wx, wy, wz, stV, Nat.reduceBEq, Nat.reduceAdd, Nat.reduceMul, Nat.reduceSub, Nat.reducePow, Int.reducePow, Int.reduceAdd, Int.reduceSub, Int.reduceMul, Int.reduceNeg, Int.reduceLE, Int.reduceLT, Int.reduceToNat, IntWalk.iteOmega, IntWalk.toNatUp, reduceCtorEq, reduceIte, Int.reduceEq, Int.reduceNe]
      refine st_call (more_at G hG a [] a (List.append_nil a) (by omega)) rfl (.inl rfl) ?_
      simp only [wx, wy, wz, stV, Nat.reduceBEq, Nat.reduceAdd, Nat.reduceMul, Nat.reduceSub, Nat.reducePow, Int.reducePow, Int.reduceAdd, Int.reduceSub, Int.reduceMul, Int.reduceNeg, Int.reduceLE, Int.reduceLT, Int.reduceToNat, IntWalk.iteOmega, IntWalk.toNatUp, reduceCtorEq, reduceIte, Int.reduceEq, Int.reduceNe]
      refine st_call (end_at G hG a (by omega)) rfl (.inl rfl) ?_
      simp only [wx, wy, wz, stV, Nat.reduceBEq, Nat.reduceAdd, Nat.reduceMul, Nat.reduceSub, Nat.reducePow, Int.reducePow, Int.reduceAdd, Int.reduceSub, Int.reduceMul, Int.reduceNeg, Int.reduceLE, Int.reduceLT, Int.reduceToNat, IntWalk.iteOmega, IntWalk.toNatUp, reduceCtorEq, reduceIte, Int.reduceEq, Int.reduceNe]
      refine st_call (more_at G hG a b x hx hab') rfl (.inl rfl) ?_
      simp only [wx, wy, wz, stV, Nat.reduceBEq, Nat.reduceAdd, Nat.reduceMul, Nat.reduceSub, Nat.reducePow, Int.reducePow, Int.reduceAdd, Int.reduceSub, Int.reduceMul, Int.reduceNeg, Int.reduceLE, Int.reduceLT, Int.reduceToNat, IntWalk.iteOmega, IntWalk.toNatUp, reduceCtorEq, reduceIte, Int.reduceEq, Int.reduceNe]
      refine st_call (end_at G hG x hab') rfl (.inl rfl) ?_
      simp only [wx, wy, wz, stV, Nat.reduceBEq, Nat.reduceAdd, Nat.reduceMul, Nat.reduceSub, Nat.reducePow, Int.reducePow, Int.reduceAdd, Int.reduceSub, Int.reduceMul, Int.reduceNeg, Int.reduceLE, Int.reduceLT, Int.reduceToNat, IntWalk.iteOmega, IntWalk.toNatUp, reduceCtorEq, reduceIte, Int.reduceEq, Int.reduceNe]
      refine st_call (known2_c G hF hG) rfl (.inl rfl) ?_
      simp only [wx, wy, wz, stV, Nat.reduceBEq, Nat.reduceAdd, Nat.reduceMul, Nat.reduceSub, Nat.reducePow, Int.reducePow, Int.reduceAdd, Int.reduceSub, Int.reduceMul, Int.reduceNeg, Int.reduceLE, Int.reduceLT, Int.reduceToNat, IntWalk.iteOmega, IntWalk.toNatUp, reduceCtorEq, reduceIte, Int.reduceEq, Int.reduceNe]
      refine st_call (rss_at G a) rfl (.inl rfl) ?_
      simp only [wx, wy, wz, stV, Nat.reduceBEq, Nat.reduceAdd, Nat.reduceMul, Nat.reduceSub, Nat.reducePow, Int.reducePow, Int.reduceAdd, Int.reduceSub, Int.reduceMul, Int.reduceNeg, Int.reduceLE, Int.reduceLT, Int.reduceToNat, IntWalk.iteOmega, IntWalk.toNatUp, reduceCtorEq, reduceIte, Int.reduceEq, Int.reduceNe]
      refine st_call (rsum_c G a (by omega)) rfl (.inl rfl) ?_
      simp only [wx, wy, wz, stV, Nat.reduceBEq, Nat.reduceAdd, Nat.reduceMul, Nat.reduceSub, Nat.reducePow, Int.reducePow, Int.reduceAdd, Int.reduceSub, Int.reduceMul, Int.reduceNeg, Int.reduceLE, Int.reduceLT, Int.reduceToNat, IntWalk.iteOmega, IntWalk.toNatUp, reduceCtorEq, reduceIte, Int.reduceEq, Int.reduceNe]
      refine st_call (rsame_c G (sumK a) (sumK a)) rfl (.inl rfl) ?_
      simp only [wx, wy, wz, stV, Nat.reduceBEq, Nat.reduceAdd, Nat.reduceMul, Nat.reduceSub, Nat.reducePow, Int.reducePow, Int.reduceAdd, Int.reduceSub, Int.reduceMul, Int.reduceNeg, Int.reduceLE, Int.reduceLT, Int.reduceToNat, IntWalk.iteOmega, IntWalk.toNatUp, reduceCtorEq, reduceIte, Int.reduceEq, Int.reduceNe]
      refine st_call (hj) rfl (.inl rfl) ?_
      simp only [wx, wy, wz, stV, Nat.reduceBEq, Nat.reduceAdd, Nat.reduceMul, Nat.reduceSub, Nat.reducePow, Int.reducePow, Int.reduceAdd, Int.reduceSub, Int.reduceMul, Int.reduceNeg, Int.reduceLE, Int.reduceLT, Int.reduceToNat, IntWalk.iteOmega, IntWalk.toNatUp, reduceCtorEq, reduceIte, Int.reduceEq, Int.reduceNe]
      refine st_call (rsum_c G x (by omega)) rfl (.inl rfl) ?_
      simp only [wx, wy, wz, stV, Nat.reduceBEq, Nat.reduceAdd, Nat.reduceMul, Nat.reduceSub, Nat.reducePow, Int.reducePow, Int.reduceAdd, Int.reduceSub, Int.reduceMul, Int.reduceNeg, Int.reduceLE, Int.reduceLT, Int.reduceToNat, IntWalk.iteOmega, IntWalk.toNatUp, reduceCtorEq, reduceIte, Int.reduceEq, Int.reduceNe]
      refine st_call (rsame_c G (sumK x) (sumK x)) rfl (.inl rfl) ?_
      simp only [wx, wy, wz, stV, Nat.reduceBEq, Nat.reduceAdd, Nat.reduceMul, Nat.reduceSub, Nat.reducePow, Int.reducePow, Int.reduceAdd, Int.reduceSub, Int.reduceMul, Int.reduceNeg, Int.reduceLE, Int.reduceLT, Int.reduceToNat, IntWalk.iteOmega, IntWalk.toNatUp, reduceCtorEq, reduceIte, Int.reduceEq, Int.reduceNe]
      exact ret_d1 (by simp only [wx, wy, wz, stV, Nat.reduceBEq, Nat.reduceAdd, Nat.reduceMul, Nat.reduceSub, Nat.reducePow, Int.reducePow, Int.reduceAdd, Int.reduceSub, Int.reduceMul, Int.reduceNeg, Int.reduceLE, Int.reduceLT, Int.reduceToNat, IntWalk.iteOmega, IntWalk.toNatUp, reduceCtorEq, reduceIte, Int.reduceEq, Int.reduceNe])
end Go.Proofs.YtakkgbpgobbcmaaDoor
