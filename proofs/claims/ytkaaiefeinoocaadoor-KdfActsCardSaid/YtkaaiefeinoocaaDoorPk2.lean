/- Layer 3 on data: Extract, Expand, Derive, Label in both codes; the sanity check. Own work. -/
import Derived.Test.YtkaaiefeinoocaaDoorPk1
set_option linter.unusedVariables false
set_option linter.unusedSimpArgs false
namespace Go.Proofs.YtkaaiefeinoocaaDoor
open Go.RowKit

def sf_rmac : SFn := ⟨2, 16,
  .seq (.reg [⟨(some 4), .mv (.k (.c .nil)), none⟩])
  (.seq (.reg [⟨(some 5), .mv (.t 0), none⟩,
    ⟨(some 6), .call 31 [(.t 5), (.k (.c (.d (.int .u8 92))))] none, none⟩,
    ⟨(some 7), .mv (.t 0), none⟩,
    ⟨(some 8), .call 31 [(.t 7), (.k (.c (.d (.int .u8 54))))] none, none⟩,
    ⟨(some 9), .mv (.t 1), none⟩,
    ⟨(some 10), .bldSl false 2 1 (.sl []) [(0, (.t 8)), (1, (.t 9))], none⟩,
    ⟨(some 11), .call 22 [(.t 10)] none, none⟩,
    ⟨(some 12), .call 30 [(.t 11)] none, none⟩,
    ⟨(some 13), .bldSl false 2 1 (.sl []) [(0, (.t 6)), (1, (.t 12))], none⟩,
    ⟨(some 14), .call 22 [(.t 13)] none, none⟩,
    ⟨(some 15), .call 30 [(.t 14)] (some (0, 1)), none⟩,
    ⟨(some 4), .mv (.t 15), none⟩])
  (.ret)),
  [(4, none)]⟩
theorem cf_rmac : compFn Tryd.prog { own := [15], comp := [], frz := [], nils := [] } Tryd.f15 = some sf_rmac := by kernel_rfl
set_option maxHeartbeats 1600000 in
theorem rmac_c (G : Glob) (key b : List UInt8) (hk : key.length ≤ 140737488355328) (hb : b.length ≤ 70368744177664) : Den Tryd.prog G 15 [.sl (key.map bD), .sl (b.map bD)] (.w (.c (.fr 1 ((macK key b).map bD)))) := by
  refine den_walk Tryd.func15 cf_rmac rfl rfl ?_
  have h1 := rjoin_c G [mixK key 54, b] (by simp) (by simp [mixK_len]; omega)
  have h2 := rjoin_c G [mixK key 92, sumK (mixK key 54 ++ b)] (by simp) (by simp [mixK_len, sumK_len])
  have f1 : [mixK key 54, b].flatten = mixK key 54 ++ b := by simp
  have f2 : [mixK key 92, sumK (mixK key 54 ++ b)].flatten = mixK key 92 ++ sumK (mixK key 54 ++ b) := by simp
  rw [f1] at h1
  rw [f2] at h2
  have hm1 : (mixK key 54 ++ b).length ≤ 140737488355328 := by rw [List.length_append, mixK_len]; omega
  have hm2 : (mixK key 92 ++ sumK (mixK key 54 ++ b)).length ≤ 140737488355328 := by rw [List.length_append, mixK_len, sumK_len]; decide
  have hs := sumK_len (mixK key 92 ++ sumK (mixK key 54 ++ b))
  have hmac : macK key b = sumK (mixK key 92 ++ sumK (mixK key 54 ++ b)) := rfl
  rw [hmac]
  simp only [sf_rmac, putAll, wx, wy, wz, stV, seval, IntWalk.iteOmega, IntWalk.toNatUp, reduceCtorEq]
  refine st_call (mixed_c G key hk 92) rfl (.inl rfl) ?_
  simp only [wx, wy, wz, stV, seval, IntWalk.iteOmega, IntWalk.toNatUp, reduceCtorEq]
  refine st_call (mixed_c G key hk 54) rfl (.inl rfl) ?_
  simp only [wx, wy, wz, stV, seval, IntWalk.iteOmega, IntWalk.toNatUp, reduceCtorEq]
  refine st_call (h1) rfl (.inl rfl) ?_
  simp only [wx, wy, wz, stV, seval, IntWalk.iteOmega, IntWalk.toNatUp, reduceCtorEq]
  refine st_call (rsum_c G _ hm1) rfl (.inl rfl) ?_
  simp only [wx, wy, wz, stV, seval, IntWalk.iteOmega, IntWalk.toNatUp, reduceCtorEq]
  refine st_call (h2) rfl (.inl rfl) ?_
  simp only [wx, wy, wz, stV, seval, IntWalk.iteOmega, IntWalk.toNatUp, reduceCtorEq]
  refine st_call (rsum_c G _ hm2) rfl (.inl rfl) ?_
  simp only [wx, wy, wz, stV, seval, IntWalk.iteOmega, IntWalk.toNatUp, reduceCtorEq]
  exact ret_f1 (by simp only [wx, wy, wz, stV, seval, IntWalk.iteOmega, IntWalk.toNatUp, reduceCtorEq])
def sf_ext : SFn := ⟨2, 8,
  .seq (.reg [⟨(some 4), .mv (.k (.c .nil)), none⟩])
  (.seq (.reg [⟨(some 5), .mv (.t 0), none⟩,
    ⟨(some 6), .mv (.t 1), none⟩,
    ⟨(some 7), .call 14 [(.t 5), (.t 6)] (some (0, 1)), none⟩,
    ⟨(some 4), .mv (.t 7), none⟩])
  (.ret)),
  [(4, none)]⟩
theorem cf_ext : compFn Tryd.prog { own := [7], comp := [], frz := [], nils := [] } Tryd.f16 = some sf_ext := by kernel_rfl
theorem ext_c (G : Glob) (hF : G.at 0 = some (.ra (firstK.map wD))) (hG : G.at 1 = some (.ra (constK.map wD))) (key b : List UInt8) (hk : key.length ≤ 140737488355328) (hb : b.length ≤ 70368744177664) : Den Tryd.prog G 16 [.sl (key.map bD), .sl (b.map bD)] (.w (.c (.fr 1 ((macK key b).map bD)))) := by
  refine den_walk Tryd.func16 cf_ext rfl rfl ?_
  simp only [sf_ext, putAll, wx, wy, wz, stV, seval, IntWalk.iteOmega, IntWalk.toNatUp, reduceCtorEq]
  refine st_call (mac_c G hF hG key b hk hb) rfl (.inl rfl) ?_
  simp only [wx, wy, wz, stV, seval, IntWalk.iteOmega, IntWalk.toNatUp, reduceCtorEq]
  exact ret_f1 (by simp only [wx, wy, wz, stV, seval, IntWalk.iteOmega, IntWalk.toNatUp, reduceCtorEq])
def sf_rext : SFn := ⟨2, 8,
  .seq (.reg [⟨(some 4), .mv (.k (.c .nil)), none⟩])
  (.seq (.reg [⟨(some 5), .mv (.t 0), none⟩,
    ⟨(some 6), .mv (.t 1), none⟩,
    ⟨(some 7), .call 15 [(.t 5), (.t 6)] (some (0, 1)), none⟩,
    ⟨(some 4), .mv (.t 7), none⟩])
  (.ret)),
  [(4, none)]⟩
theorem cf_rext : compFn Tryd.prog { own := [7], comp := [], frz := [], nils := [] } Tryd.f17 = some sf_rext := by kernel_rfl
theorem rext_c (G : Glob) (key b : List UInt8) (hk : key.length ≤ 140737488355328) (hb : b.length ≤ 70368744177664) : Den Tryd.prog G 17 [.sl (key.map bD), .sl (b.map bD)] (.w (.c (.fr 1 ((macK key b).map bD)))) := by
  refine den_walk Tryd.func17 cf_rext rfl rfl ?_
  simp only [sf_rext, putAll, wx, wy, wz, stV, seval, IntWalk.iteOmega, IntWalk.toNatUp, reduceCtorEq]
  refine st_call (rmac_c G key b hk hb) rfl (.inl rfl) ?_
  simp only [wx, wy, wz, stV, seval, IntWalk.iteOmega, IntWalk.toNatUp, reduceCtorEq]
  exact ret_f1 (by simp only [wx, wy, wz, stV, seval, IntWalk.iteOmega, IntWalk.toNatUp, reduceCtorEq])

/-! ### Expand -/
/-- What Expand returns, with the error's number. -/
def expE (n : Int) : Int := if 0 ≤ n ∧ n ≤ 8160 then 0 else 4
def expL (key info : List UInt8) (n : Int) : List UInt8 := if 0 ≤ n ∧ n ≤ 8160 then expK key info n.toNat else []
theorem expE_in {n : Int} (h : 0 ≤ n ∧ n ≤ 8160) : expE n = 0 := if_pos h
theorem expL_in (key info : List UInt8) {n : Int} (h : 0 ≤ n ∧ n ≤ 8160) : expL key info n = expK key info n.toNat := if_pos h
theorem expE_out {n : Int} (h : ¬ (0 ≤ n ∧ n ≤ 8160)) : expE n = 4 := if_neg h
theorem expL_out (key info : List UInt8) {n : Int} (h : ¬ (0 ≤ n ∧ n ≤ 8160)) : expL key info n = [] := if_neg h
/-- The program's list behind i parts: never more than n bytes. -/
def cutA (key info : List UInt8) (n i : Nat) : List UInt8 := (allK key info i).take n
theorem cutA_len (key info : List UInt8) (n i : Nat) : (cutA key info n i).length = min n (32 * i) := by
  unfold cutA; rw [List.length_take, allK_len]
theorem cutA_step (key info : List UInt8) (n i : Nat) (h : 32 * i ≤ n) : cutA key info n i ++ (partK key info (i + 1)).take (n - 32 * i) = cutA key info n (i + 1) := by
  unfold cutA
  rw [allK, List.take_append, allK_len]
theorem part_next (key info : List UInt8) (i : Nat) : macK key (partK key info i ++ info ++ [UInt8.ofNat (i + 1)]) = partK key info (i + 1) := rfl
theorem put1 (v : Nat) : putL v 1 = [UInt8.ofNat v] := by simp [putL]
def partV (key info : List UInt8) : Nat → V
  | 0 => .w (.c .nil)
  | i + 1 => .w (.c (.d (.sl ((partK key info (i + 1)).map bD))))
theorem min_two (a b : Nat) : List.foldl (fun x y : Int => if y < x then y else x) (a : Int) [(b : Int)] = ((min a b : Nat) : Int) := by
  simp only [List.foldl_cons, List.foldl_nil]
  split <;> omega
def expSt (key info : List UInt8) (n i : Nat) : St := ⟨ofL [(0, .w (.c (.d (.sl (key.map bD))))), (1, .w (.c (.d (.sl (info.map bD))))), (2, .w (.c (.d (.int .i64 (n : Int))))), (8, .w (.c (.own 1 1 0 (cutA key info n i).length))), (9, partV key info i), (10, .w (.c (.d (.int .u64 ((i + 1 : Nat) : Int)))))], hL [(1, .row 1 ((cutA key info n i).map bD))], uL [1]⟩
def lp_exp_0 : SCode :=
  .seq (.seq (.reg [⟨(some 19), .mv (.t 8), none⟩,
    ⟨(some 20), .len (.t 19), none⟩,
    ⟨(some 21), .mv (.t 2), none⟩,
    ⟨(some 22), .bin .lss (.t 20) (.t 21), none⟩])
  (.cond (.t 22) (.skip)
   (.exit 0)))
  (.seq (.block 1 (.seq (.reg [⟨(some 25), .mv (.t 0), none⟩,
     ⟨(some 26), .mv (.t 9), none⟩,
     ⟨(some 27), .mv (.t 1), none⟩,
     ⟨(some 28), .mv (.t 10), none⟩,
     ⟨(some 29), .call 26 [(.t 28), (.k (.c (.d (.int .i64 1))))] none, none⟩,
     ⟨(some 30), .bldSl false 3 1 (.sl []) [(0, (.t 26)), (1, (.t 27)), (2, (.t 29))], none⟩,
     ⟨(some 31), .call 25 [(.t 30)] none, none⟩,
     ⟨(some 32), .call 14 [(.t 25), (.t 31)] none, none⟩,
     ⟨(some 9), .mv (.t 32), none⟩])
   (.reg [⟨(some 33), .mv (.t 8), none⟩,
     ⟨(some 34), .mv (.t 9), none⟩,
     ⟨(some 35), .mv (.t 9), none⟩,
     ⟨(some 36), .len (.t 35), none⟩,
     ⟨(some 37), .mv (.t 2), none⟩,
     ⟨(some 38), .mv (.t 8), none⟩,
     ⟨(some 39), .len (.t 38), none⟩,
     ⟨(some 40), .bin .sub (.t 37) (.t 39), none⟩,
     ⟨(some 41), .min [(.t 36), (.t 40)], none⟩,
     ⟨(some 42), .slice 1 (.t 34) none (some (.t 41)) none, none⟩,
     ⟨(some 43), .app false 1 1 (.t 33) (.t 42), none⟩,
     ⟨(some 8), .mv (.t 43), none⟩])))
  (.reg [⟨(some 23), .mv (.t 10), none⟩,
    ⟨(some 24), .bin .add (.t 23) (.k (.c (.d (.int .u64 1)))), none⟩,
    ⟨(some 10), .mv (.t 24), none⟩]))
def sf_exp : SFn := ⟨3, 45,
  .seq (.reg [⟨(some 6), .mv (.k (.c .nil)), none⟩,
    ⟨(some 7), .mv (.k (.c (.d (.int .i64 0)))), none⟩])
  (.seq (.seq (.reg [⟨(some 11), .mv (.t 2), none⟩,
    ⟨(some 12), .bin .lss (.t 11) (.k (.c (.d (.int .i64 0)))), none⟩,
    ⟨(some 13), .mv (.t 12), none⟩,
    ⟨(some 14), .mv (.t 2), (some (13, false))⟩,
    ⟨(some 15), .bin .gtr (.t 14) (.k (.c (.d (.int .i64 8160)))), (some (13, false))⟩,
    ⟨(some 16), .pick (.t 13) (.k (.c (.d (.bool true)))) (.t 15), none⟩])
  (.cond (.t 16) (.seq (.reg [⟨(some 6), .mv (.k (.c .nil)), none⟩,
     ⟨(some 7), .mv (.k (.c (.d (.int .i64 4)))), none⟩])
   (.ret))
   (.skip)))
  (.seq (.reg [⟨(some 17), .mv (.t 2), none⟩,
    ⟨(some 18), .make 1 1 (.int .u8 0) (.k (.c (.d (.int .i64 0)))) (.t 17), none⟩,
    ⟨(some 8), .mv (.t 18), none⟩])
  (.seq (.reg [⟨(some 9), .mv (.k (.c .nil)), none⟩])
  (.seq (.seq (.reg [⟨(some 10), .mv (.k (.c (.d (.int .u64 1)))), none⟩])
  (.block 0 (.loop lp_exp_0)))
  (.seq (.reg [⟨(some 44), .mv (.t 8), none⟩,
    ⟨(some 6), .mv (.t 44), none⟩,
    ⟨(some 7), .mv (.k (.c (.d (.int .i64 0)))), none⟩])
  (.ret)))))),
  [(6, none), (7, none)]⟩
theorem cf_exp : compFn Tryd.prog { own := [], comp := [], frz := [], nils := [] } Tryd.f9 = some sf_exp := by kernel_rfl
set_option maxHeartbeats 1600000 in
theorem exp_c (G : Glob) (hF : G.at 0 = some (.ra (firstK.map wD))) (hG : G.at 1 = some (.ra (constK.map wD))) (key info : List UInt8) (hk : key.length ≤ 140737488355328) (hb : info.length ≤ 35184372088832) (n : Int) (hn1 : -9223372036854775808 ≤ n) (hn2 : n ≤ 9223372036854775807) : Den Tryd.prog G 9 [.sl (key.map bD), .sl (info.map bD), .int .i64 n] (.tup [.c (.d (.sl ((expL key info n).map bD))), .c (.d (.int .i64 (expE n)))]) := by
  refine den_walk Tryd.func9 cf_exp rfl rfl ?_
  by_cases h0 : n < 0
  · have hc : ¬ (0 ≤ n ∧ n ≤ 8160) := by omega
    rw [expE_out hc, expL_out key info hc]
    simp only [sf_exp, putAll, wx, wy, wz, stV, seval, IntWalk.iteOmega, IntWalk.toNatUp, reduceCtorEq]
    exact ret_d2 (by simp only [wx, wy, wz, stV, seval, IntWalk.iteOmega, IntWalk.toNatUp, reduceCtorEq]) (by simp only [wx, wy, wz, stV, seval, IntWalk.iteOmega, IntWalk.toNatUp, reduceCtorEq])
  · by_cases h1 : 8160 < n
    · have hc : ¬ (0 ≤ n ∧ n ≤ 8160) := by omega
      rw [expE_out hc, expL_out key info hc]
      simp only [sf_exp, putAll, wx, wy, wz, stV, seval, IntWalk.iteOmega, IntWalk.toNatUp, reduceCtorEq]
      exact ret_d2 (by simp only [wx, wy, wz, stV, seval, IntWalk.iteOmega, IntWalk.toNatUp, reduceCtorEq]) (by simp only [wx, wy, wz, stV, seval, IntWalk.iteOmega, IntWalk.toNatUp, reduceCtorEq])
    · have hc : 0 ≤ n ∧ n ≤ 8160 := by omega
      rw [expE_in hc, expL_in key info hc]
      obtain ⟨m, rfl⟩ := Int.eq_ofNat_of_zero_le hc.1
      rw [Int.toNat_natCast]
      simp only [sf_exp, putAll, wx, wy, wz, stV, seval, IntWalk.iteOmega, IntWalk.toNatUp, reduceCtorEq]
      refine loop_st (expSt key info m) (fun i => (m + 31) / 32 - i) (fun i => i ≤ (m + 31) / 32) 0 (Nat.zero_le _) ?_ ?_
      · refine ent_l (fun _ => 144) ?_ ?_ rfl rfl <;> simp only [wx, wex, wez, stV, seval, IntWalk.iteOmega, IntWalk.toNatUp, reduceCtorEq, cutA, allK, partV]
      · intro i hi
        have hl := cutA_len key info m i
        have hp := partK_len key info i
        by_cases hlt : i < (m + 31) / 32
        · have h32 : 32 * i ≤ m := by omega
          have hl : (cutA key info m i).length = 32 * i := by omega
          have hj := join_c G [partK key info i, info, putL (i + 1) 1] (by simp) (by simp [putL_length]; omega)
          have hf : [partK key info i, info, putL (i + 1) 1].flatten = partK key info i ++ info ++ [UInt8.ofNat (i + 1)] := by simp [put1]
          rw [hf] at hj
          have hm := mac_c G hF hG key (partK key info i ++ info ++ [UInt8.ofNat (i + 1)]) hk (by simp; omega)
          rw [part_next] at hm
          have hl2 : (partK key info (i + 1)).length = 32 := macK_len _ _
          have hs := cutA_step key info m i h32
          have hs2 := cutA_len key info m (i + 1)
          have hmin := min_two 32 (m - 32 * i)
          rw [show ((m - 32 * i : Nat) : Int) = (m : Int) - 32 * (i : Int) by omega] at hmin
          have hs' : cutA key info m i ++ (partK key info (i + 1)).take (min 32 (m - 32 * i)) = cutA key info m (i + 1) := by
            rw [← hs]; congr 1
            rw [Nat.min_comm, ← List.take_take, List.take_of_length_le (l := partK key info (i + 1)) (by omega)]
          have hlt2 : ((cutA key info m i).length : Int) < (m : Int) := by omega
          have hmm : min 32 (m - 32 * i) ≤ 32 := by omega
          have hml : ((partK key info (i + 1)).take (min 32 (m - 32 * i))).length = min 32 (m - 32 * i) := by rw [List.length_take, hl2]; omega
          have hcl : (cutA key info m (i + 1)).length = 32 * i + min 32 (m - 32 * i) := by omega
          generalize hq : min 32 (m - 32 * i) = q at *
          rcases i with _ | i
          · simp only [Int.cast_ofNat_Int, Int.natCast_add, Int.natCast_one, Int.natCast_zero, Int.mul_zero, Int.sub_zero, Nat.mul_zero, Nat.zero_add] at hmin hl hl2 hs' hml hcl
            simp only [lp_exp_0, expSt, partV, wx, wy, wz, stV, seval, IntWalk.iteOmega, IntWalk.toNatUp, reduceCtorEq]
            refine st_call (put_in G (0 + 1) 1 (by decide)) rfl (.inl rfl) ?_
            simp only [wx, wy, wz, stV, seval, IntWalk.iteOmega, IntWalk.toNatUp, reduceCtorEq]
            refine st_call (hj) rfl (.inl rfl) ?_
            simp only [wx, wy, wz, stV, seval, IntWalk.iteOmega, IntWalk.toNatUp, reduceCtorEq]
            refine st_call (hm) rfl (.inl rfl) ?_
            simp only [wx, wy, wz, stV, seval, IntWalk.iteOmega, IntWalk.toNatUp, reduceCtorEq]
            simp only [wx, wy, wz, stV, seval, IntWalk.iteOmega, IntWalk.toNatUp, reduceCtorEq, hl2, hl, hmin, hml, hs', srcV, Int.sub_zero]
            refine lop_next (0 + 1) (by omega) (by omega) (ent_l (fun _ => 344) ?_ ?_ rfl rfl) <;> simp only [wx, wex, wez, stV, seval, IntWalk.iteOmega, IntWalk.toNatUp, reduceCtorEq, partV, hcl]
          · simp only [Int.cast_ofNat_Int, Int.natCast_add, Int.natCast_one, Int.natCast_zero] at hmin
            simp only [lp_exp_0, expSt, partV, wx, wy, wz, stV, seval, IntWalk.iteOmega, IntWalk.toNatUp, reduceCtorEq]
            refine st_call (put_in G (i + 1 + 1) 1 (by decide)) rfl (.inl rfl) ?_
            simp only [wx, wy, wz, stV, seval, IntWalk.iteOmega, IntWalk.toNatUp, reduceCtorEq]
            refine st_call (hj) rfl (.inl rfl) ?_
            simp only [wx, wy, wz, stV, seval, IntWalk.iteOmega, IntWalk.toNatUp, reduceCtorEq]
            refine st_call (hm) rfl (.inl rfl) ?_
            simp only [wx, wy, wz, stV, seval, IntWalk.iteOmega, IntWalk.toNatUp, reduceCtorEq]
            simp only [wx, wy, wz, stV, seval, IntWalk.iteOmega, IntWalk.toNatUp, reduceCtorEq, hl2, hl, hmin, hml, hs', srcV]
            refine lop_next (i + 1 + 1) (by omega) (by omega) (ent_l (fun _ => 344) ?_ ?_ rfl rfl) <;> simp only [wx, wex, wez, stV, seval, IntWalk.iteOmega, IntWalk.toNatUp, reduceCtorEq, partV, hcl]
        · obtain rfl : i = (m + 31) / 32 := by omega
          have hlt2 : ¬ ((cutA key info m ((m + 31) / 32)).length : Int) < (m : Int) := by omega
          have he : cutA key info m ((m + 31) / 32) = expK key info m := rfl
          rw [he] at hlt2
          simp only [lp_exp_0, expSt, wx, wy, wz, stV, seval, IntWalk.iteOmega, IntWalk.toNatUp, reduceCtorEq, he]
          exact ret_d2 (by simp only [wx, wy, wz, stV, seval, IntWalk.iteOmega, IntWalk.toNatUp, reduceCtorEq]) (by simp only [wx, wy, wz, stV, seval, IntWalk.iteOmega, IntWalk.toNatUp, reduceCtorEq])
def rexpSt (key info : List UInt8) (n i : Nat) : St := ⟨ofL [(0, .w (.c (.d (.sl (key.map bD))))), (1, .w (.c (.d (.sl (info.map bD))))), (2, .w (.c (.d (.int .i64 (n : Int))))), (8, .w (.c (.own 1 1 0 (allK key info i).length))), (9, partV key info i), (10, .w (.c (.d (.int .i64 ((i + 1 : Nat) : Int)))))], hL [(1, .row 1 ((allK key info i).map bD))], uL [1]⟩
def lp_rexp_0 : SCode :=
  .seq (.seq (.reg [⟨(some 19), .mv (.t 8), none⟩,
    ⟨(some 20), .len (.t 19), none⟩,
    ⟨(some 21), .mv (.t 2), none⟩,
    ⟨(some 22), .bin .lss (.t 20) (.t 21), none⟩])
  (.cond (.t 22) (.skip)
   (.exit 0)))
  (.seq (.block 1 (.seq (.reg [⟨(some 25), .mv (.t 0), none⟩,
     ⟨(some 26), .mv (.t 9), none⟩,
     ⟨(some 27), .mv (.t 1), none⟩,
     ⟨(some 28), .mv (.t 10), none⟩,
     ⟨(some 29), .conv .u8 (.t 28), none⟩,
     ⟨(some 30), .bldSl false 1 1 (.int .u8 0) [(0, (.t 29))], none⟩,
     ⟨(some 31), .bldSl false 3 1 (.sl []) [(0, (.t 26)), (1, (.t 27)), (2, (.t 30))], none⟩,
     ⟨(some 32), .call 22 [(.t 31)] none, none⟩,
     ⟨(some 33), .call 15 [(.t 25), (.t 32)] none, none⟩,
     ⟨(some 9), .mv (.t 33), none⟩])
   (.reg [⟨(some 34), .mv (.t 8), none⟩,
     ⟨(some 35), .mv (.t 9), none⟩,
     ⟨(some 36), .app false 1 1 (.t 34) (.t 35), none⟩,
     ⟨(some 8), .mv (.t 36), none⟩])))
  (.reg [⟨(some 23), .mv (.t 10), none⟩,
    ⟨(some 24), .bin .add (.t 23) (.k (.c (.d (.int .i64 1)))), none⟩,
    ⟨(some 10), .mv (.t 24), none⟩]))
def sf_rexp : SFn := ⟨3, 40,
  .seq (.reg [⟨(some 6), .mv (.k (.c .nil)), none⟩,
    ⟨(some 7), .mv (.k (.c (.d (.int .i64 0)))), none⟩])
  (.seq (.seq (.reg [⟨(some 11), .mv (.t 2), none⟩,
    ⟨(some 12), .bin .lss (.t 11) (.k (.c (.d (.int .i64 0)))), none⟩,
    ⟨(some 13), .mv (.t 12), none⟩,
    ⟨(some 14), .mv (.t 2), (some (13, false))⟩,
    ⟨(some 15), .bin .gtr (.t 14) (.k (.c (.d (.int .i64 8160)))), (some (13, false))⟩,
    ⟨(some 16), .pick (.t 13) (.k (.c (.d (.bool true)))) (.t 15), none⟩])
  (.cond (.t 16) (.seq (.reg [⟨(some 6), .mv (.k (.c .nil)), none⟩,
     ⟨(some 7), .mv (.k (.c (.d (.int .i64 4)))), none⟩])
   (.ret))
   (.skip)))
  (.seq (.reg [⟨(some 17), .bldSl true 0 1 (.int .u8 0) [], none⟩,
    ⟨(some 18), .bldSl false 0 1 (.int .u8 0) [], none⟩,
    ⟨(some 8), .mv (.t 17), none⟩,
    ⟨(some 9), .mv (.t 18), none⟩])
  (.seq (.seq (.reg [⟨(some 10), .mv (.k (.c (.d (.int .i64 1)))), none⟩])
  (.block 0 (.loop lp_rexp_0)))
  (.seq (.reg [⟨(some 37), .mv (.t 8), none⟩,
    ⟨(some 38), .mv (.t 2), none⟩,
    ⟨(some 39), .slice 1 (.t 37) none (some (.t 38)) none, none⟩,
    ⟨(some 6), .mv (.t 39), none⟩,
    ⟨(some 7), .mv (.k (.c (.d (.int .i64 0)))), none⟩])
  (.ret))))),
  [(6, none), (7, none)]⟩
theorem cf_rexp : compFn Tryd.prog { own := [17], comp := [], frz := [], nils := [] } Tryd.f10 = some sf_rexp := by kernel_rfl
set_option maxHeartbeats 1600000 in
theorem rexp_c (G : Glob) (key info : List UInt8) (hk : key.length ≤ 140737488355328) (hb : info.length ≤ 35184372088832) (n : Int) (hn1 : -9223372036854775808 ≤ n) (hn2 : n ≤ 9223372036854775807) : Den Tryd.prog G 10 [.sl (key.map bD), .sl (info.map bD), .int .i64 n] (.tup [.c (.d (.sl ((expL key info n).map bD))), .c (.d (.int .i64 (expE n)))]) := by
  refine den_walk Tryd.func10 cf_rexp rfl rfl ?_
  by_cases h0 : n < 0
  · have hc : ¬ (0 ≤ n ∧ n ≤ 8160) := by omega
    rw [expE_out hc, expL_out key info hc]
    simp only [sf_rexp, putAll, wx, wy, wz, stV, seval, IntWalk.iteOmega, IntWalk.toNatUp, reduceCtorEq]
    exact ret_d2 (by simp only [wx, wy, wz, stV, seval, IntWalk.iteOmega, IntWalk.toNatUp, reduceCtorEq]) (by simp only [wx, wy, wz, stV, seval, IntWalk.iteOmega, IntWalk.toNatUp, reduceCtorEq])
  · by_cases h1 : 8160 < n
    · have hc : ¬ (0 ≤ n ∧ n ≤ 8160) := by omega
      rw [expE_out hc, expL_out key info hc]
      simp only [sf_rexp, putAll, wx, wy, wz, stV, seval, IntWalk.iteOmega, IntWalk.toNatUp, reduceCtorEq]
      exact ret_d2 (by simp only [wx, wy, wz, stV, seval, IntWalk.iteOmega, IntWalk.toNatUp, reduceCtorEq]) (by simp only [wx, wy, wz, stV, seval, IntWalk.iteOmega, IntWalk.toNatUp, reduceCtorEq])
    · have hc : 0 ≤ n ∧ n ≤ 8160 := by omega
      rw [expE_in hc, expL_in key info hc]
      obtain ⟨m, rfl⟩ := Int.eq_ofNat_of_zero_le hc.1
      rw [Int.toNat_natCast]
      simp only [sf_rexp, putAll, wx, wy, wz, stV, seval, IntWalk.iteOmega, IntWalk.toNatUp, reduceCtorEq]
      refine loop_st (rexpSt key info m) (fun i => (m + 31) / 32 - i) (fun i => i ≤ (m + 31) / 32) 0 (Nat.zero_le _) ?_ ?_
      · refine ent_l (fun _ => 136) ?_ ?_ rfl rfl <;> simp only [wx, wex, wez, stV, seval, IntWalk.iteOmega, IntWalk.toNatUp, reduceCtorEq, allK, partV]
      · intro i hi
        have hl := allK_len key info i
        have hp := partK_len key info i
        by_cases hlt : i < (m + 31) / 32
        · have hj := rjoin_c G [partK key info i, info, [UInt8.ofNat (i + 1)]] (by simp) (by simp; omega)
          have hf : [partK key info i, info, [UInt8.ofNat (i + 1)]].flatten = partK key info i ++ info ++ [UInt8.ofNat (i + 1)] := by simp
          rw [hf] at hj
          have hm := rmac_c G key (partK key info i ++ info ++ [UInt8.ofNat (i + 1)]) hk (by simp; omega)
          rw [part_next] at hm
          have hl2 : (partK key info (i + 1)).length = 32 := macK_len _ _
          have hs' : allK key info i ++ partK key info (i + 1) = allK key info (i + 1) := rfl
          have hcl : (allK key info (i + 1)).length = 32 * i + 32 := by rw [allK_len]; omega
          rcases i with _ | i
          · simp only [Int.cast_ofNat_Int, Int.natCast_add, Int.natCast_one, Int.natCast_zero, Int.mul_zero, Int.sub_zero, Nat.mul_zero, Nat.zero_add] at hl hl2 hs' hcl
            simp only [lp_rexp_0, rexpSt, partV, wx, wy, wz, stV, seval, IntWalk.iteOmega, IntWalk.toNatUp, reduceCtorEq]
            refine st_call (hj) rfl (.inl rfl) ?_
            simp only [wx, wy, wz, stV, seval, IntWalk.iteOmega, IntWalk.toNatUp, reduceCtorEq]
            refine st_call (hm) rfl (.inl rfl) ?_
            simp only [wx, wy, wz, stV, seval, IntWalk.iteOmega, IntWalk.toNatUp, reduceCtorEq]
            simp only [wx, wy, wz, stV, seval, IntWalk.iteOmega, IntWalk.toNatUp, reduceCtorEq, hl2, hl, hs', srcV, Int.sub_zero]
            refine lop_next (0 + 1) (by omega) (by omega) (ent_l (fun _ => 288) ?_ ?_ rfl rfl) <;> simp only [wx, wex, wez, stV, seval, IntWalk.iteOmega, IntWalk.toNatUp, reduceCtorEq, partV, hcl]
          · have hby : D.int .u8 ((i : Int) + 1 + 1) = bD (UInt8.ofNat (i + 1 + 1)) := by rw [← byte_of, IntWalk.u8_in _ (by omega)]; rfl
            simp only [lp_rexp_0, rexpSt, partV, wx, wy, wz, stV, seval, IntWalk.iteOmega, IntWalk.toNatUp, reduceCtorEq, hby]
            refine st_call (hj) rfl (.inl rfl) ?_
            simp only [wx, wy, wz, stV, seval, IntWalk.iteOmega, IntWalk.toNatUp, reduceCtorEq]
            refine st_call (hm) rfl (.inl rfl) ?_
            simp only [wx, wy, wz, stV, seval, IntWalk.iteOmega, IntWalk.toNatUp, reduceCtorEq]
            simp only [wx, wy, wz, stV, seval, IntWalk.iteOmega, IntWalk.toNatUp, reduceCtorEq, hl2, hl, hs', srcV]
            refine lop_next (i + 1 + 1) (by omega) (by omega) (ent_l (fun _ => 288) ?_ ?_ rfl rfl) <;> simp only [wx, wex, wez, stV, seval, IntWalk.iteOmega, IntWalk.toNatUp, reduceCtorEq, partV, hcl]
        · obtain rfl : i = (m + 31) / 32 := by omega
          have he : (allK key info ((m + 31) / 32)).take m = expK key info m := rfl
          have hle : m ≤ (allK key info ((m + 31) / 32)).length := by omega
          simp only [lp_rexp_0, rexpSt, wx, wy, wz, stV, seval, IntWalk.iteOmega, IntWalk.toNatUp, reduceCtorEq]
          exact ret_d2 (by simp only [wx, wy, wz, stV, seval, IntWalk.iteOmega, IntWalk.toNatUp, reduceCtorEq, he]) (by simp only [wx, wy, wz, stV, seval, IntWalk.iteOmega, IntWalk.toNatUp, reduceCtorEq])
/-! ### Derive -/
def sf_der : SFn := ⟨4, 18,
  .seq (.reg [⟨(some 8), .mv (.k (.c .nil)), none⟩,
    ⟨(some 9), .mv (.k (.c (.d (.int .i64 0)))), none⟩])
  (.seq (.reg [⟨(some 10), .mv (.t 0), none⟩,
    ⟨(some 11), .mv (.t 1), none⟩,
    ⟨(some 12), .call 16 [(.t 10), (.t 11)] none, none⟩,
    ⟨(some 13), .mv (.t 2), none⟩,
    ⟨(some 14), .mv (.t 3), none⟩,
    ⟨(some 15), .call 9 [(.t 12), (.t 13), (.t 14)] none, none⟩,
    ⟨(some 16), .extract (.t 15) 0, none⟩,
    ⟨(some 17), .extract (.t 15) 1, none⟩,
    ⟨(some 8), .mv (.t 16), none⟩,
    ⟨(some 9), .mv (.t 17), none⟩])
  (.ret)),
  [(8, none), (9, none)]⟩
theorem cf_der : compFn Tryd.prog { own := [], comp := [], frz := [], nils := [] } Tryd.f11 = some sf_der := by kernel_rfl
theorem der_c (G : Glob) (hF : G.at 0 = some (.ra (firstK.map wD))) (hG : G.at 1 = some (.ra (constK.map wD))) (salt secret info : List UInt8) (hk : salt.length ≤ 140737488355328) (hs : secret.length ≤ 70368744177664) (hb : info.length ≤ 35184372088832) (n : Int) (hn1 : -9223372036854775808 ≤ n) (hn2 : n ≤ 9223372036854775807) : Den Tryd.prog G 11 [.sl (salt.map bD), .sl (secret.map bD), .sl (info.map bD), .int .i64 n] (.tup [.c (.d (.sl ((expL (macK salt secret) info n).map bD))), .c (.d (.int .i64 (expE n)))]) := by
  refine den_walk Tryd.func11 cf_der rfl rfl ?_
  simp only [sf_der, putAll, wx, wy, wz, stV, seval, IntWalk.iteOmega, IntWalk.toNatUp, reduceCtorEq]
  refine st_call (ext_c G hF hG salt secret hk hs) rfl (.inl rfl) ?_
  simp only [wx, wy, wz, stV, seval, IntWalk.iteOmega, IntWalk.toNatUp, reduceCtorEq]
  refine st_call (exp_c G hF hG (macK salt secret) info (by rw [macK_len]; decide) hb n hn1 hn2) rfl (.inl rfl) ?_
  simp only [wx, wy, wz, stV, seval, IntWalk.iteOmega, IntWalk.toNatUp, reduceCtorEq]
  exact ret_d2 (by simp only [wx, wy, wz, stV, seval, IntWalk.iteOmega, IntWalk.toNatUp, reduceCtorEq]) (by simp only [wx, wy, wz, stV, seval, IntWalk.iteOmega, IntWalk.toNatUp, reduceCtorEq])
def sf_rder : SFn := ⟨4, 18,
  .seq (.reg [⟨(some 8), .mv (.k (.c .nil)), none⟩,
    ⟨(some 9), .mv (.k (.c (.d (.int .i64 0)))), none⟩])
  (.seq (.reg [⟨(some 10), .mv (.t 0), none⟩,
    ⟨(some 11), .mv (.t 1), none⟩,
    ⟨(some 12), .call 17 [(.t 10), (.t 11)] none, none⟩,
    ⟨(some 13), .mv (.t 2), none⟩,
    ⟨(some 14), .mv (.t 3), none⟩,
    ⟨(some 15), .call 10 [(.t 12), (.t 13), (.t 14)] none, none⟩,
    ⟨(some 16), .extract (.t 15) 0, none⟩,
    ⟨(some 17), .extract (.t 15) 1, none⟩,
    ⟨(some 8), .mv (.t 16), none⟩,
    ⟨(some 9), .mv (.t 17), none⟩])
  (.ret)),
  [(8, none), (9, none)]⟩
theorem cf_rder : compFn Tryd.prog { own := [], comp := [], frz := [], nils := [] } Tryd.f12 = some sf_rder := by kernel_rfl
theorem rder_c (G : Glob) (salt secret info : List UInt8) (hk : salt.length ≤ 140737488355328) (hs : secret.length ≤ 70368744177664) (hb : info.length ≤ 35184372088832) (n : Int) (hn1 : -9223372036854775808 ≤ n) (hn2 : n ≤ 9223372036854775807) : Den Tryd.prog G 12 [.sl (salt.map bD), .sl (secret.map bD), .sl (info.map bD), .int .i64 n] (.tup [.c (.d (.sl ((expL (macK salt secret) info n).map bD))), .c (.d (.int .i64 (expE n)))]) := by
  refine den_walk Tryd.func12 cf_rder rfl rfl ?_
  simp only [sf_rder, putAll, wx, wy, wz, stV, seval, IntWalk.iteOmega, IntWalk.toNatUp, reduceCtorEq]
  refine st_call (rext_c G salt secret hk hs) rfl (.inl rfl) ?_
  simp only [wx, wy, wz, stV, seval, IntWalk.iteOmega, IntWalk.toNatUp, reduceCtorEq]
  refine st_call (rexp_c G (macK salt secret) info (by rw [macK_len]; decide) hb n hn1 hn2) rfl (.inl rfl) ?_
  simp only [wx, wy, wz, stV, seval, IntWalk.iteOmega, IntWalk.toNatUp, reduceCtorEq]
  exact ret_d2 (by simp only [wx, wy, wz, stV, seval, IntWalk.iteOmega, IntWalk.toNatUp, reduceCtorEq]) (by simp only [wx, wy, wz, stV, seval, IntWalk.iteOmega, IntWalk.toNatUp, reduceCtorEq])
/-! ### Label -/
def sf_lab : SFn := ⟨3, 19,
  .seq (.reg [⟨(some 6), .mv (.k (.c .nil)), none⟩])
  (.seq (.reg [⟨(some 8), .bldSl false 1 1 (.int .u8 0) [(0, (.k (.c (.d (.int .u8 0)))))], none⟩,
    ⟨(some 7), .mv (.t 8), none⟩])
  (.seq (.reg [⟨(some 9), .mv (.t 0), none⟩,
    ⟨(some 10), .s2b false (.t 9), none⟩,
    ⟨(some 11), .mv (.t 7), none⟩,
    ⟨(some 12), .mv (.t 1), none⟩,
    ⟨(some 13), .s2b false (.t 12), none⟩,
    ⟨(some 14), .mv (.t 7), none⟩,
    ⟨(some 15), .mv (.t 2), none⟩,
    ⟨(some 16), .call 28 [(.t 15)] none, none⟩,
    ⟨(some 17), .bldSl false 5 1 (.sl []) [(0, (.t 10)), (1, (.t 11)), (2, (.t 13)), (3, (.t 14)), (4, (.t 16))], none⟩,
    ⟨(some 18), .call 25 [(.t 17)] (some (0, 1)), none⟩,
    ⟨(some 6), .mv (.t 18), none⟩])
  (.ret))),
  [(6, none)]⟩
theorem cf_lab : compFn Tryd.prog { own := [18], comp := [], frz := [], nils := [] } Tryd.f18 = some sf_lab := by kernel_rfl
theorem lab_c (G : Glob) (hF : G.at 0 = some (.ra (firstK.map wD))) (hG : G.at 1 = some (.ra (constK.map wD))) (p n : ByteArray) (c : List UInt8) (hp : p.size ≤ 1099511627776) (hn : n.size ≤ 1099511627776) (hc : c.length ≤ 140737488355328) : Den Tryd.prog G 18 [.str p, .str n, .sl (c.map bD)] (.w (.c (.fr 1 ((labK p.data.toList n.data.toList c).map bD)))) := by
  refine den_walk Tryd.func18 cf_lab rfl rfl ?_
  have hp' : p.data.toList.length = p.size := rfl
  have hn' : n.data.toList.length = n.size := rfl
  have hj := join_c G [p.data.toList, [0], n.data.toList, [0], sumK c] (by simp) (by simp [sumK_len]; omega)
  have hf : [p.data.toList, [0], n.data.toList, [0], sumK c].flatten = labK p.data.toList n.data.toList c := by simp [labK]
  rw [hf] at hj
  have hpm : p.size ≤ maxLen := by unfold maxLen; omega
  have hnm : n.size ≤ maxLen := by unfold maxLen; omega
  simp only [sf_lab, putAll, wx, wy, wz, stV, seval, IntWalk.iteOmega, IntWalk.toNatUp, reduceCtorEq, hpm, hnm]
  refine st_call (sum_c G hF hG c hc) rfl (.inl rfl) ?_
  simp only [wx, wy, wz, stV, seval, IntWalk.iteOmega, IntWalk.toNatUp, reduceCtorEq]
  refine st_call (hj) rfl (.inl rfl) ?_
  simp only [wx, wy, wz, stV, seval, IntWalk.iteOmega, IntWalk.toNatUp, reduceCtorEq]
  exact ret_f1 (by simp only [wx, wy, wz, stV, seval, IntWalk.iteOmega, IntWalk.toNatUp, reduceCtorEq])
def sf_rlab : SFn := ⟨3, 17,
  .seq (.reg [⟨(some 6), .mv (.k (.c .nil)), none⟩])
  (.seq (.reg [⟨(some 7), .mv (.t 0), none⟩,
    ⟨(some 8), .s2b false (.t 7), none⟩,
    ⟨(some 9), .bldSl false 1 1 (.int .u8 0) [(0, (.k (.c (.d (.int .u8 0)))))], none⟩,
    ⟨(some 10), .mv (.t 1), none⟩,
    ⟨(some 11), .s2b false (.t 10), none⟩,
    ⟨(some 12), .bldSl false 1 1 (.int .u8 0) [(0, (.k (.c (.d (.int .u8 0)))))], none⟩,
    ⟨(some 13), .mv (.t 2), none⟩,
    ⟨(some 14), .call 30 [(.t 13)] none, none⟩,
    ⟨(some 15), .bldSl false 5 1 (.sl []) [(0, (.t 8)), (1, (.t 9)), (2, (.t 11)), (3, (.t 12)), (4, (.t 14))], none⟩,
    ⟨(some 16), .call 22 [(.t 15)] (some (0, 1)), none⟩,
    ⟨(some 6), .mv (.t 16), none⟩])
  (.ret)),
  [(6, none)]⟩
theorem cf_rlab : compFn Tryd.prog { own := [16], comp := [], frz := [], nils := [] } Tryd.f19 = some sf_rlab := by kernel_rfl
theorem rlab_c (G : Glob) (p n : ByteArray) (c : List UInt8) (hp : p.size ≤ 1099511627776) (hn : n.size ≤ 1099511627776) (hc : c.length ≤ 140737488355328) : Den Tryd.prog G 19 [.str p, .str n, .sl (c.map bD)] (.w (.c (.fr 1 ((labK p.data.toList n.data.toList c).map bD)))) := by
  refine den_walk Tryd.func19 cf_rlab rfl rfl ?_
  have hp' : p.data.toList.length = p.size := rfl
  have hn' : n.data.toList.length = n.size := rfl
  have hj := rjoin_c G [p.data.toList, [0], n.data.toList, [0], sumK c] (by simp) (by simp [sumK_len]; omega)
  have hf : [p.data.toList, [0], n.data.toList, [0], sumK c].flatten = labK p.data.toList n.data.toList c := by simp [labK]
  rw [hf] at hj
  have hpm : p.size ≤ maxLen := by unfold maxLen; omega
  have hnm : n.size ≤ maxLen := by unfold maxLen; omega
  simp only [sf_rlab, putAll, wx, wy, wz, stV, seval, IntWalk.iteOmega, IntWalk.toNatUp, reduceCtorEq, hpm, hnm]
  refine st_call (rsum_c G c hc) rfl (.inl rfl) ?_
  simp only [wx, wy, wz, stV, seval, IntWalk.iteOmega, IntWalk.toNatUp, reduceCtorEq]
  refine st_call (hj) rfl (.inl rfl) ?_
  simp only [wx, wy, wz, stV, seval, IntWalk.iteOmega, IntWalk.toNatUp, reduceCtorEq]
  exact ret_f1 (by simp only [wx, wy, wz, stV, seval, IntWalk.iteOmega, IntWalk.toNatUp, reduceCtorEq])
/-! ### A byte 0 in a text -/
def zerosK (s : List UInt8) : Bool := s.any (· == 0)
def zeroSt (s : ByteArray) (i : Nat) : St := ⟨ofL [(0, .w (.c (.d (.str s)))), (3, .w (.c (.d (.int .i64 (i : Int)))))], hL [], uL []⟩
theorem any_at {s : List UInt8} {i : Nat} (h : i < s.length) (h0 : s[i] = 0) : zerosK s = true := by
  unfold zerosK
  rw [List.any_eq_true]
  exact ⟨s[i], List.getElem_mem h, by simp [h0]⟩
theorem none_of {s : List UInt8} (h : ∀ j (hj : j < s.length), s[j] ≠ 0) : zerosK s = false := by
  unfold zerosK
  rw [List.any_eq_false]
  intro x hx
  obtain ⟨j, hj, rfl⟩ := List.getElem_of_mem hx
  simpa using h j hj
theorem zerosK_all {s : List UInt8} (h : zerosK s = false) : ∀ z ∈ s, z ≠ 0 := by
  unfold zerosK at h
  rw [List.any_eq_false] at h
  intro z hz
  simpa using h z hz
def lp_zero_0 : SCode :=
  .seq (.seq (.reg [⟨(some 4), .mv (.t 3), none⟩,
    ⟨(some 5), .mv (.t 0), none⟩,
    ⟨(some 6), .lenStr (.t 5), none⟩,
    ⟨(some 7), .bin .lss (.t 4) (.t 6), none⟩])
  (.cond (.t 7) (.skip)
   (.exit 0)))
  (.seq (.block 1 (.seq (.reg [⟨(some 10), .mv (.t 0), none⟩,
     ⟨(some 11), .mv (.t 3), none⟩,
     ⟨(some 12), .idxStr (.t 10) (.t 11), none⟩,
     ⟨(some 13), .bin .eql (.t 12) (.k (.c (.d (.int .u8 0)))), none⟩])
   (.cond (.t 13) (.seq (.reg [⟨(some 2), .mv (.k (.c (.d (.bool true)))), none⟩])
    (.ret))
    (.skip))))
  (.reg [⟨(some 8), .mv (.t 3), none⟩,
    ⟨(some 9), .bin .add (.t 8) (.k (.c (.d (.int .i64 1)))), none⟩,
    ⟨(some 3), .mv (.t 9), none⟩]))
def sf_zero : SFn := ⟨1, 14,
  .seq (.reg [⟨(some 2), .mv (.k (.c (.d (.bool false)))), none⟩])
  (.seq (.seq (.reg [⟨(some 3), .mv (.k (.c (.d (.int .i64 0)))), none⟩])
  (.block 0 (.loop lp_zero_0)))
  (.seq (.reg [⟨(some 2), .mv (.k (.c (.d (.bool false)))), none⟩])
  (.ret))),
  [(2, none)]⟩
theorem cf_zero : compFn Tryd.prog { own := [], comp := [], frz := [], nils := [] } Tryd.f23 = some sf_zero := by kernel_rfl
set_option maxHeartbeats 1600000 in
theorem zero_c (G : Glob) (s : ByteArray) (hs : s.size ≤ 1099511627776) : Den Tryd.prog G 23 [.str s] (.w (.c (.d (.bool (zerosK s.data.toList))))) := by
  refine den_walk Tryd.func23 cf_zero rfl rfl ?_
  have hs' : s.data.toList.length = s.size := rfl
  simp only [sf_zero, putAll, wx, wy, wz, stV, seval, IntWalk.iteOmega, IntWalk.toNatUp, reduceCtorEq]
  refine loop_st (zeroSt s) (fun i => s.size - i) (fun i => i ≤ s.size ∧ ∀ j (hj : j < s.data.toList.length), j < i → s.data.toList[j] ≠ 0) 0 ⟨Nat.zero_le _, fun j _ h => absurd h (Nat.not_lt_zero j)⟩ ?_ ?_
  · refine ent_l id ?_ ?_ rfl rfl <;> simp only [wx, wex, wez, stV, seval, IntWalk.iteOmega, IntWalk.toNatUp, reduceCtorEq]
  · intro i hi
    obtain ⟨hi, hz⟩ := hi
    by_cases hlt : i < s.size
    · have hlt' : i < s.data.toList.length := by omega
      have e2 : s.data.toList[i]? = some s.data.toList[i] := List.getElem?_eq_getElem hlt'
      by_cases h0 : s.data.toList[i] = 0
      · have e3 := any_at hlt' h0
        have e4 : (s.data.toList[i].toNat : Int) = 0 := by rw [h0]; rfl
        simp only [lp_zero_0, zeroSt, wx, wy, wz, stV, seval, IntWalk.iteOmega, IntWalk.toNatUp, reduceCtorEq, e2, e4, e3]
        exact ret_d1 (by simp only [wx, wy, wz, stV, seval, IntWalk.iteOmega, IntWalk.toNatUp, reduceCtorEq])
      · have e4 : ¬ (s.data.toList[i].toNat : Int) = 0 := fun e => h0 (UInt8.toNat_inj.1 (by simpa using e))
        simp only [lp_zero_0, zeroSt, wx, wy, wz, stV, seval, IntWalk.iteOmega, IntWalk.toNatUp, reduceCtorEq, e2, e4]
        refine lop_next (i + 1) (by omega) ⟨by omega, fun j hj hji => ?_⟩ (ent_l id ?_ ?_ rfl rfl)
        · by_cases hji' : j = i
          · subst hji'; exact h0
          · exact hz j hj (by omega)
        · simp only [wx, wex, wez, stV, seval, IntWalk.iteOmega, IntWalk.toNatUp, reduceCtorEq]
        · simp only [wx, wex, wez, stV, seval, IntWalk.iteOmega, IntWalk.toNatUp, reduceCtorEq]
    · have e3 := none_of (s := s.data.toList) (fun j hj => hz j hj (by omega))
      simp only [lp_zero_0, zeroSt, wx, wy, wz, stV, seval, IntWalk.iteOmega, IntWalk.toNatUp, reduceCtorEq, e3]
      exact ret_d1 (by simp only [wx, wy, wz, stV, seval, IntWalk.iteOmega, IntWalk.toNatUp, reduceCtorEq])
/-! ### The sanity check -/
theorem jefe_hex : hexL (macK [74, 101, 102, 101] [119, 104, 97, 116, 32, 100, 111, 32, 121, 97, 32, 119, 97, 110, 116, 32, 102, 111, 114, 32, 110, 111, 116, 104, 105, 110, 103, 63]) = [53, 98, 100, 99, 99, 49, 52, 54, 98, 102, 54, 48, 55, 53, 52, 101, 54, 97, 48, 52, 50, 52, 50, 54, 48, 56, 57, 53, 55, 53, 99, 55, 53, 97, 48, 48, 51, 102, 48, 56, 57, 100, 50, 55, 51, 57, 56, 51, 57, 100, 101, 99, 53, 56, 98, 57, 54, 52, 101, 99, 51, 56, 52, 51] := by decide +kernel
def sf_known3 : SFn := ⟨0, 8,
  .seq (.reg [⟨(some 0), .mv (.k (.c (.d (.bool false)))), none⟩])
  (.seq (.reg [⟨(some 1), .bldSl true 4 1 (.int .u8 0) [(0, (.k (.c (.d (.int .u8 74))))), (1, (.k (.c (.d (.int .u8 101))))), (2, (.k (.c (.d (.int .u8 102))))), (3, (.k (.c (.d (.int .u8 101)))))], none⟩,
    ⟨(some 2), .mark (.t 1), none⟩,
    ⟨(some 3), .bldSl true 28 1 (.int .u8 0) [(0, (.k (.c (.d (.int .u8 119))))), (1, (.k (.c (.d (.int .u8 104))))), (2, (.k (.c (.d (.int .u8 97))))), (3, (.k (.c (.d (.int .u8 116))))), (4, (.k (.c (.d (.int .u8 32))))), (5, (.k (.c (.d (.int .u8 100))))), (6, (.k (.c (.d (.int .u8 111))))), (7, (.k (.c (.d (.int .u8 32))))), (8, (.k (.c (.d (.int .u8 121))))), (9, (.k (.c (.d (.int .u8 97))))), (10, (.k (.c (.d (.int .u8 32))))), (11, (.k (.c (.d (.int .u8 119))))), (12, (.k (.c (.d (.int .u8 97))))), (13, (.k (.c (.d (.int .u8 110))))), (14, (.k (.c (.d (.int .u8 116))))), (15, (.k (.c (.d (.int .u8 32))))), (16, (.k (.c (.d (.int .u8 102))))), (17, (.k (.c (.d (.int .u8 111))))), (18, (.k (.c (.d (.int .u8 114))))), (19, (.k (.c (.d (.int .u8 32))))), (20, (.k (.c (.d (.int .u8 110))))), (21, (.k (.c (.d (.int .u8 111))))), (22, (.k (.c (.d (.int .u8 116))))), (23, (.k (.c (.d (.int .u8 104))))), (24, (.k (.c (.d (.int .u8 105))))), (25, (.k (.c (.d (.int .u8 110))))), (26, (.k (.c (.d (.int .u8 103))))), (27, (.k (.c (.d (.int .u8 63)))))], none⟩,
    ⟨(some 4), .mark (.t 3), none⟩,
    ⟨(some 5), .call 14 [(.t 2), (.t 4)] none, none⟩,
    ⟨(some 6), .call 24 [(.t 5)] none, none⟩,
    ⟨(some 7), .bin .eql (.t 6) (.k (.c (.d (.str ⟨#[53, 98, 100, 99, 99, 49, 52, 54, 98, 102, 54, 48, 55, 53, 52, 101, 54, 97, 48, 52, 50, 52, 50, 54, 48, 56, 57, 53, 55, 53, 99, 55, 53, 97, 48, 48, 51, 102, 48, 56, 57, 100, 50, 55, 51, 57, 56, 51, 57, 100, 101, 99, 53, 56, 98, 57, 54, 52, 101, 99, 51, 56, 52, 51]⟩)))), none⟩,
    ⟨(some 0), .mv (.t 7), none⟩])
  (.ret)),
  [(0, none)]⟩
theorem cf_known3 : compFn Tryd.prog { own := [1, 3], comp := [], frz := [], nils := [] } Tryd.f8 = some sf_known3 := by kernel_rfl
set_option maxHeartbeats 1600000 in
theorem known3_c (G : Glob) (hF : G.at 0 = some (.ra (firstK.map wD))) (hG : G.at 1 = some (.ra (constK.map wD))) : Den Tryd.prog G 8 [] (.w (.c (.d (.bool true)))) := by
  refine den_walk Tryd.func8 cf_known3 rfl rfl ?_
  have hl := macK_len [74, 101, 102, 101] [119, 104, 97, 116, 32, 100, 111, 32, 121, 97, 32, 119, 97, 110, 116, 32, 102, 111, 114, 32, 110, 111, 116, 104, 105, 110, 103, 63]
  have ha := jefe_hex
  have hm := mac_c G hF hG [74, 101, 102, 101] [119, 104, 97, 116, 32, 100, 111, 32, 121, 97, 32, 119, 97, 110, 116, 32, 102, 111, 114, 32, 110, 111, 116, 104, 105, 110, 103, 63] (by decide) (by decide)
  generalize macK [74, 101, 102, 101] [119, 104, 97, 116, 32, 100, 111, 32, 121, 97, 32, 119, 97, 110, 116, 32, 102, 111, 114, 32, 110, 111, 116, 104, 105, 110, 103, 63] = h at *
  simp only [sf_known3, putAll, wx, wy, wz, stV, seval, IntWalk.iteOmega, IntWalk.toNatUp, reduceCtorEq]
  refine st_call (hm) rfl (.inr (fl_b _ _)) ?_
  simp only [wx, wy, wz, stV, seval, IntWalk.iteOmega, IntWalk.toNatUp, reduceCtorEq]
  refine st_call (hex_c G h (by omega)) rfl (.inl rfl) ?_
  simp only [wx, wy, wz, stV, seval, IntWalk.iteOmega, IntWalk.toNatUp, reduceCtorEq]
  rw [ha]
  simp only [wx, wy, wz, stV, seval, IntWalk.iteOmega, IntWalk.toNatUp, reduceCtorEq]
  exact ret_d1 (by simp only [wx, wy, wz, stV, seval, IntWalk.iteOmega, IntWalk.toNatUp, reduceCtorEq])
end Go.Proofs.YtkaaiefeinoocaaDoor
