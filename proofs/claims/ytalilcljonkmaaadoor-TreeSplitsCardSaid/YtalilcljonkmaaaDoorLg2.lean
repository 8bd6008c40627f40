/- The laws of layer 7, the others. Own work. -/
import Derived.Test.YtalilcljonkmaaaDoorLg1
set_option linter.unusedVariables false
set_option linter.unusedSimpArgs false
namespace Go.Proofs.YtalilcljonkmaaaDoor
open Go.RowKit

def tsSt (n : Nat) (l : List (List UInt8)) (j : Nat) : St := ⟨ofL [(1, .w (.c (.d (.int .i64 (n : Int))))), (5, .w (.c (.d (sls l)))), (6, .w (.c (.d (.int .i64 ((2 ^ j : Nat) : Int)))))], hL [], uL []⟩
def lp_tspls_0 : SCode :=
  .seq (.seq (.reg [⟨(some 19), .mv (.t 6), none⟩,
    ⟨(some 20), .bin .mul (.k (.c (.d (.int .i64 2)))) (.t 19), none⟩,
    ⟨(some 21), .mv (.t 1), none⟩,
    ⟨(some 22), .bin .lss (.t 20) (.t 21), none⟩])
  (.cond (.t 22) (.skip)
   (.exit 0)))
  (.block 1 (.reg [⟨(some 23), .mv (.t 6), none⟩,
     ⟨(some 24), .bin .mul (.k (.c (.d (.int .i64 2)))) (.t 23), none⟩,
     ⟨(some 6), .mv (.t 24), none⟩]))
def sf_tspls : SFn := ⟨2, 74,
  .seq (.reg [⟨(some 4), .mv (.k (.c (.d (.bool false)))), none⟩])
  (.seq (.reg [⟨(some 13), .mv (.t 1), none⟩,
    ⟨(some 14), .call 31 [(.t 13), (.k (.c (.d (.int .i64 30))))] none, none⟩,
    ⟨(some 15), .bin .add (.k (.c (.d (.int .i64 2)))) (.t 14), none⟩,
    ⟨(some 1), .mv (.t 15), none⟩])
  (.seq (.reg [⟨(some 16), .mv (.t 0), none⟩,
    ⟨(some 17), .mv (.t 1), none⟩,
    ⟨(some 18), .call 32 [(.t 16), (.t 17)] none, none⟩,
    ⟨(some 5), .mv (.t 18), none⟩])
  (.seq (.reg [⟨(some 6), .mv (.k (.c (.d (.int .i64 1)))), none⟩])
  (.seq (.block 0 (.loop lp_tspls_0))
  (.seq (.reg [⟨(some 26), .mv (.t 5), none⟩,
    ⟨(some 27), .call 13 [(.t 26)] none, none⟩,
    ⟨(some 25), .mv (.t 27), none⟩,
    ⟨(some 28), .extract (.t 25) 0, none⟩,
    ⟨(some 29), .extract (.t 25) 1, none⟩,
    ⟨(some 7), .mv (.t 28), none⟩,
    ⟨(some 8), .mv (.t 29), none⟩])
  (.seq (.reg [⟨(some 31), .mv (.t 5), none⟩,
    ⟨(some 32), .mv (.t 6), none⟩,
    ⟨(some 33), .slice 1 (.t 31) none (some (.t 32)) none, none⟩,
    ⟨(some 34), .call 13 [(.t 33)] none, none⟩,
    ⟨(some 30), .mv (.t 34), none⟩,
    ⟨(some 35), .extract (.t 30) 0, none⟩,
    ⟨(some 36), .extract (.t 30) 1, none⟩,
    ⟨(some 9), .mv (.t 35), none⟩,
    ⟨(some 10), .mv (.t 36), none⟩])
  (.seq (.reg [⟨(some 38), .mv (.t 5), none⟩,
    ⟨(some 39), .mv (.t 6), none⟩,
    ⟨(some 40), .slice 1 (.t 38) (some (.t 39)) none none, none⟩,
    ⟨(some 41), .call 13 [(.t 40)] none, none⟩,
    ⟨(some 37), .mv (.t 41), none⟩,
    ⟨(some 42), .extract (.t 37) 0, none⟩,
    ⟨(some 43), .extract (.t 37) 1, none⟩,
    ⟨(some 11), .mv (.t 42), none⟩,
    ⟨(some 12), .mv (.t 43), none⟩])
  (.seq (.reg [⟨(some 44), .call 12 [] none, none⟩,
    ⟨(some 45), .mv (.t 44), none⟩,
    ⟨(some 46), .mv (.t 8), (some (45, true))⟩,
    ⟨(some 47), .bin .eql (.t 46) (.k (.c (.d (.int .i64 0)))), (some (45, true))⟩,
    ⟨(some 48), .pick (.t 45) (.t 47) (.k (.c (.d (.bool false)))), none⟩,
    ⟨(some 49), .mv (.t 48), none⟩,
    ⟨(some 50), .mv (.t 10), (some (49, true))⟩,
    ⟨(some 51), .bin .eql (.t 50) (.k (.c (.d (.int .i64 0)))), (some (49, true))⟩,
    ⟨(some 52), .pick (.t 49) (.t 51) (.k (.c (.d (.bool false)))), none⟩,
    ⟨(some 53), .mv (.t 52), none⟩,
    ⟨(some 54), .mv (.t 12), (some (53, true))⟩,
    ⟨(some 55), .bin .eql (.t 54) (.k (.c (.d (.int .i64 0)))), (some (53, true))⟩,
    ⟨(some 56), .pick (.t 53) (.t 55) (.k (.c (.d (.bool false)))), none⟩,
    ⟨(some 57), .mv (.t 56), none⟩,
    ⟨(some 58), .mv (.t 7), (some (57, true))⟩,
    ⟨(some 59), .mv (.t 9), (some (57, true))⟩,
    ⟨(some 60), .mv (.t 11), (some (57, true))⟩,
    ⟨(some 61), .call 22 [(.t 59), (.t 60)] none, (some (57, true))⟩,
    ⟨(some 62), .call 19 [(.t 58), (.t 61)] none, (some (57, true))⟩,
    ⟨(some 63), .pick (.t 57) (.t 62) (.k (.c (.d (.bool false)))), none⟩,
    ⟨(some 64), .mv (.t 63), none⟩,
    ⟨(some 65), .mv (.t 7), (some (64, true))⟩,
    ⟨(some 66), .bldSl false 1 1 (.int .u8 0) [(0, (.k (.c (.d (.int .u8 1)))))], (some (64, true))⟩,
    ⟨(some 67), .mv (.t 9), (some (64, true))⟩,
    ⟨(some 68), .mv (.t 11), (some (64, true))⟩,
    ⟨(some 69), .bldSl false 3 1 (.sl []) [(0, (.t 66)), (1, (.t 67)), (2, (.t 68))], (some (64, true))⟩,
    ⟨(some 70), .call 35 [(.t 69)] none, (some (64, true))⟩,
    ⟨(some 71), .call 34 [(.t 70)] none, (some (64, true))⟩,
    ⟨(some 72), .call 19 [(.t 65), (.t 71)] none, (some (64, true))⟩,
    ⟨(some 73), .pick (.t 64) (.t 72) (.k (.c (.d (.bool false)))), none⟩,
    ⟨(some 4), .mv (.t 73), none⟩])
  (.ret))))))))),
  [(4, none)]⟩
theorem cf_tspls : compFn Tryd.prog { own := [], comp := [], frz := [], nils := [] } Tryd.f8 = some sf_tspls := by kernel_rfl
set_option maxHeartbeats 1600000 in
theorem tspls_c (G : Glob) (seed : Int) (hseed1 : -9223372036854775808 ≤ seed) (hseed2 : seed ≤ 9223372036854775807) (n : Int) (hn1 : -9223372036854775808 ≤ n) (hn2 : n ≤ 9223372036854775807) (hF : G.at 0 = some (.ra (firstK.map wD))) (hG : G.at 1 = some (.ra (constK.map wD))) : Den Tryd.prog G 8 [.int .i64 seed, .int .i64 n] (.w (.c (.d (.bool true)))) := by
  refine den_walk Tryd.func8 cf_tspls rfl rfl ?_
  have r1 := withinN_range n 30 (by decide)
  have e1 := within_c G n 30 (by decide)
  obtain ⟨k, hk⟩ := Int.eq_ofNat_of_zero_le r1.1
  rw [hk] at r1 e1
  have hl := lvs_c G seed (k + 2) (by omega)
  have ll := leavesN_len (withinN seed 1000) (k + 2)
  have lb := leavesN_le (s := withinN seed 1000) (n := k + 2)
  have ek : (2 : Int) + ↑k = ((k + 2 : Nat) : Int) := by omega
  generalize leavesN (withinN seed 1000) (k + 2) = l at *
  rw [← ll] at ek hl
  have h2 : 2 ≤ l.length := by omega
  have s1 := split_lt h2
  have hs := slice_lo l (k := splitN l.length) (by omega)
  have l1 : (l.take (splitN l.length)).length = splitN l.length := by rw [List.length_take]; omega
  have l2 : (l.drop (splitN l.length)).length = l.length - splitN l.length := List.length_drop
  have lb1 : ∀ x ∈ l.take (splitN l.length), x.length ≤ 1000000000 := fun x hx => lb x (List.mem_of_mem_take hx)
  have lb2 : ∀ x ∈ l.drop (splitN l.length), x.length ≤ 1000000000 := fun x hx => lb x (List.mem_of_mem_drop hx)
  have b1 := root_c G hF hG l (by omega) lb
  have b2 := root_c G hF hG (l.take (splitN l.length)) (by omega) lb1
  have b3 := root_c G hF hG (l.drop (splitN l.length)) (by omega) lb2
  rw [(rootV_ok (l := l) (by omega)).1, (rootV_ok (l := l) (by omega)).2] at b1
  rw [(rootV_ok (l := l.take (splitN l.length)) (by omega)).1, (rootV_ok (l := l.take (splitN l.length)) (by omega)).2] at b2
  rw [(rootV_ok (l := l.drop (splitN l.length)) (by omega)).1, (rootV_ok (l := l.drop (splitN l.length)) (by omega)).2] at b3
  have b4 := node_c G hF hG (rootM (l.take (splitN l.length))) (rootM (l.drop (splitN l.length))) (by rw [rootM_len]; decide) (by rw [rootM_len]; decide)
  have hj := rjoin_c G [[1], rootM (l.take (splitN l.length)), rootM (l.drop (splitN l.length))] (by simp) (by simp [rootM_len])
  have hf : [[1], rootM (l.take (splitN l.length)), rootM (l.drop (splitN l.length))].flatten = 1 :: (rootM (l.take (splitN l.length)) ++ rootM (l.drop (splitN l.length))) := by simp
  rw [hf] at hj
  have b5 := rsum_c G (1 :: (rootM (l.take (splitN l.length)) ++ rootM (l.drop (splitN l.length)))) (by simp [rootM_len])
  have hm : sumK (1 :: (rootM (l.take (splitN l.length)) ++ rootM (l.drop (splitN l.length)))) = nodeM (rootM (l.take (splitN l.length))) (rootM (l.drop (splitN l.length))) := rfl
  rw [hm] at b5
  rw [← root_2 h2] at b4 b5
  simp only [sf_tspls, putAll, wx, wy, wz, stV, seval, IntWalk.iteOmega, IntWalk.toNatUp, reduceCtorEq]
  refine st_call (e1) rfl (.inl rfl) ?_
  simp only [ek, wx, wy, wz, stV, seval, IntWalk.iteOmega, IntWalk.toNatUp, reduceCtorEq]
  refine st_call (hl) rfl (.inl rfl) ?_
  simp only [wx, wy, wz, stV, seval, IntWalk.iteOmega, IntWalk.toNatUp, reduceCtorEq]
  refine loop_st (tsSt l.length l) (fun j => l.length - 2 ^ j) (fun j => 2 ^ j < l.length) 0 (by simp; omega) ?_ ?_
  · refine ent_l (fun i => i) ?_ ?_ rfl rfl <;> simp only [wx, wex, wez, stV, seval, IntWalk.iteOmega, IntWalk.toNatUp, reduceCtorEq] <;> rfl
  · intro j hj2
    have e : 2 ^ (j + 1) = 2 * 2 ^ j := by rw [Nat.pow_succ]; omega
    have hp := Nat.two_pow_pos j
    by_cases hlt : 2 ^ (j + 1) < l.length
    · have e2 : (2 * ((2 ^ j : Nat) : Int)) = ((2 ^ (j + 1) : Nat) : Int) := by omega
      simp only [lp_tspls_0, tsSt, wx, wy, wz, stV, seval, IntWalk.iteOmega, IntWalk.toNatUp, reduceCtorEq, e2]
      refine lop_next (j + 1) (by omega) hlt (ent_l (fun i => i) ?_ ?_ rfl rfl) <;> simp only [wx, wex, wez, stV, seval, IntWalk.iteOmega, IntWalk.toNatUp, reduceCtorEq]
    · rw [split_eq hj2 (by omega)] at *
      simp only [lp_tspls_0, tsSt, wx, wy, wz, stV, seval, IntWalk.iteOmega, IntWalk.toNatUp, reduceCtorEq]
      refine st_call (b1) rfl (.inl rfl) ?_
      simp only [hs, allSz_ls, wx, wy, wz, stV, seval, IntWalk.iteOmega, IntWalk.toNatUp, reduceCtorEq]
      refine st_call (b2) rfl (.inl rfl) ?_
      simp only [hs, allSz_ls, wx, wy, wz, stV, seval, IntWalk.iteOmega, IntWalk.toNatUp, reduceCtorEq]
      refine st_call (b3) rfl (.inl rfl) ?_
      simp only [wx, wy, wz, stV, seval, IntWalk.iteOmega, IntWalk.toNatUp, reduceCtorEq]
      refine st_call (known7_c G hF hG) rfl (.inl rfl) ?_
      simp only [wx, wy, wz, stV, seval, IntWalk.iteOmega, IntWalk.toNatUp, reduceCtorEq]
      refine st_call (b4) rfl (.inl rfl) ?_
      simp only [wx, wy, wz, stV, seval, IntWalk.iteOmega, IntWalk.toNatUp, reduceCtorEq]
      refine st_call (rsame_c G (rootM l) (rootM l)) rfl (.inl rfl) ?_
      simp only [wx, wy, wz, stV, seval, IntWalk.iteOmega, IntWalk.toNatUp, reduceCtorEq]
      refine st_call (hj) rfl (.inl rfl) ?_
      simp only [wx, wy, wz, stV, seval, IntWalk.iteOmega, IntWalk.toNatUp, reduceCtorEq]
      refine st_call (b5) rfl (.inl rfl) ?_
      simp only [wx, wy, wz, stV, seval, IntWalk.iteOmega, IntWalk.toNatUp, reduceCtorEq]
      refine st_call (rsame_c G (rootM l) (rootM l)) rfl (.inl rfl) ?_
      simp only [wx, wy, wz, stV, seval, IntWalk.iteOmega, IntWalk.toNatUp, reduceCtorEq]
      exact ret_d1 (by simp only [wx, wy, wz, stV, seval, IntWalk.iteOmega, IntWalk.toNatUp, reduceCtorEq])
theorem lev_lt {n j : Nat} (h : j < levN n) : 2 ^ j < n := by
  unfold levN at h
  split at h
  · omega
  · have h1 := Nat.log2_self_le (n := n - 1) (by omega)
    have := Nat.pow_le_pow_right (n := 2) (by decide) (show j ≤ Nat.log2 (n - 1) by omega)
    omega
theorem lev_of {n j : Nat} (h : 2 ^ j < n) : j < levN n := by
  have h1 := lev_le n
  exact (Nat.pow_lt_pow_iff_right (by decide)).1 (Nat.lt_of_lt_of_le h h1)
def td1 (n : Nat) (l p q : List (List UInt8)) (j : Nat) : St := ⟨ofL [(1, .w (.c (.d (.int .i64 (n : Int))))), (7, .w (.c (.d (sls l)))), (8, .w (.c (.d (sls p)))), (9, .w (.c (.d (.int .i64 0)))), (10, .w (.c (.d (sls q)))), (11, .w (.c (.d (.int .i64 0)))), (12, .w (.c (.d (.int .i64 (j : Int))))), (13, .w (.c (.d (.int .i64 ((2 ^ j : Nat) : Int)))))], hL [], uL []⟩
def td2 (n : Nat) (l z : List (List UInt8)) (j : Nat) : St := ⟨ofL [(1, .w (.c (.d (.int .i64 (n : Int))))), (7, .w (.c (.d (sls l)))), (12, .w (.c (.d (.int .i64 (levN n : Nat))))), (13, .w (.c (.d (.int .i64 ((2 ^ levN n : Nat) : Int))))), (14, .w (.c (.d (sls z)))), (16, .w (.c (.d (.int .i64 ((2 ^ j : Nat) : Int)))))], hL [], uL []⟩
def lp_tdeps_0 : SCode :=
  .seq (.seq (.reg [⟨(some 39), .mv (.t 13), none⟩,
    ⟨(some 40), .mv (.t 1), none⟩,
    ⟨(some 41), .bin .lss (.t 39) (.t 40), none⟩])
  (.cond (.t 41) (.skip)
   (.exit 0)))
  (.block 1 (.reg [⟨(some 42), .mv (.t 13), none⟩,
     ⟨(some 43), .bin .mul (.k (.c (.d (.int .i64 2)))) (.t 42), none⟩,
     ⟨(some 44), .mv (.t 12), none⟩,
     ⟨(some 45), .bin .add (.t 44) (.k (.c (.d (.int .i64 1)))), none⟩,
     ⟨(some 13), .mv (.t 43), none⟩,
     ⟨(some 12), .mv (.t 45), none⟩]))
def lp_tdeps_1 : SCode :=
  .seq (.seq (.reg [⟨(some 83), .mv (.t 16), none⟩,
    ⟨(some 84), .bin .mul (.k (.c (.d (.int .i64 2)))) (.t 83), none⟩,
    ⟨(some 85), .mv (.t 1), none⟩,
    ⟨(some 86), .bin .lss (.t 84) (.t 85), none⟩])
  (.cond (.t 86) (.skip)
   (.exit 2)))
  (.block 3 (.reg [⟨(some 87), .mv (.t 16), none⟩,
     ⟨(some 88), .bin .mul (.k (.c (.d (.int .i64 2)))) (.t 87), none⟩,
     ⟨(some 16), .mv (.t 88), none⟩]))
def sf_tdeps : SFn := ⟨3, 127,
  .seq (.reg [⟨(some 6), .mv (.k (.c (.d (.bool false)))), none⟩])
  (.seq (.reg [⟨(some 19), .mv (.t 1), none⟩,
    ⟨(some 20), .call 31 [(.t 19), (.k (.c (.d (.int .i64 30))))] none, none⟩,
    ⟨(some 21), .bin .add (.k (.c (.d (.int .i64 1)))) (.t 20), none⟩,
    ⟨(some 1), .mv (.t 21), none⟩])
  (.seq (.reg [⟨(some 22), .mv (.t 0), none⟩,
    ⟨(some 23), .mv (.t 1), none⟩,
    ⟨(some 24), .call 32 [(.t 22), (.t 23)] none, none⟩,
    ⟨(some 7), .mv (.t 24), none⟩])
  (.seq (.reg [⟨(some 25), .mv (.t 2), none⟩,
    ⟨(some 26), .mv (.t 1), none⟩,
    ⟨(some 27), .call 31 [(.t 25), (.t 26)] none, none⟩,
    ⟨(some 2), .mv (.t 27), none⟩])
  (.seq (.reg [⟨(some 29), .mv (.t 7), none⟩,
    ⟨(some 30), .mv (.t 2), none⟩,
    ⟨(some 31), .call 15 [(.t 29), (.t 30)] none, none⟩,
    ⟨(some 28), .mv (.t 31), none⟩,
    ⟨(some 32), .extract (.t 28) 0, none⟩,
    ⟨(some 33), .extract (.t 28) 1, none⟩,
    ⟨(some 8), .mv (.t 32), none⟩,
    ⟨(some 9), .mv (.t 33), none⟩])
  (.seq (.reg [⟨(some 35), .mv (.t 7), none⟩,
    ⟨(some 36), .call 15 [(.t 35), (.k (.c (.d (.int .i64 0))))] none, none⟩,
    ⟨(some 34), .mv (.t 36), none⟩,
    ⟨(some 37), .extract (.t 34) 0, none⟩,
    ⟨(some 38), .extract (.t 34) 1, none⟩,
    ⟨(some 10), .mv (.t 37), none⟩,
    ⟨(some 11), .mv (.t 38), none⟩])
  (.seq (.reg [⟨(some 12), .mv (.k (.c (.d (.int .i64 0)))), none⟩,
    ⟨(some 13), .mv (.k (.c (.d (.int .i64 1)))), none⟩])
  (.seq (.block 0 (.loop lp_tdeps_0))
  (.seq (.reg [⟨(some 47), .mv (.t 7), none⟩,
    ⟨(some 48), .mv (.t 1), none⟩,
    ⟨(some 49), .bin .sub (.t 48) (.k (.c (.d (.int .i64 1)))), none⟩,
    ⟨(some 50), .call 15 [(.t 47), (.t 49)] none, none⟩,
    ⟨(some 46), .mv (.t 50), none⟩,
    ⟨(some 51), .extract (.t 46) 0, none⟩,
    ⟨(some 52), .extract (.t 46) 1, none⟩,
    ⟨(some 14), .mv (.t 51), none⟩,
    ⟨(some 15), .mv (.t 52), none⟩])
  (.seq (.seq (.reg [⟨(some 53), .mv (.t 9), none⟩,
    ⟨(some 54), .bin .neq (.t 53) (.k (.c (.d (.int .i64 0)))), none⟩,
    ⟨(some 55), .mv (.t 54), none⟩,
    ⟨(some 56), .mv (.t 11), (some (55, false))⟩,
    ⟨(some 57), .bin .neq (.t 56) (.k (.c (.d (.int .i64 0)))), (some (55, false))⟩,
    ⟨(some 58), .pick (.t 55) (.k (.c (.d (.bool true)))) (.t 57), none⟩,
    ⟨(some 59), .mv (.t 58), none⟩,
    ⟨(some 60), .mv (.t 15), (some (59, false))⟩,
    ⟨(some 61), .bin .neq (.t 60) (.k (.c (.d (.int .i64 0)))), (some (59, false))⟩,
    ⟨(some 62), .pick (.t 59) (.k (.c (.d (.bool true)))) (.t 61), none⟩,
    ⟨(some 63), .mv (.t 62), none⟩,
    ⟨(some 64), .mv (.t 8), (some (63, false))⟩,
    ⟨(some 65), .len (.t 64), (some (63, false))⟩,
    ⟨(some 66), .mv (.t 12), (some (63, false))⟩,
    ⟨(some 67), .bin .gtr (.t 65) (.t 66), (some (63, false))⟩,
    ⟨(some 68), .pick (.t 63) (.k (.c (.d (.bool true)))) (.t 67), none⟩,
    ⟨(some 69), .mv (.t 68), none⟩,
    ⟨(some 70), .mv (.t 10), (some (69, false))⟩,
    ⟨(some 71), .len (.t 70), (some (69, false))⟩,
    ⟨(some 72), .mv (.t 12), (some (69, false))⟩,
    ⟨(some 73), .bin .neq (.t 71) (.t 72), (some (69, false))⟩,
    ⟨(some 74), .pick (.t 69) (.k (.c (.d (.bool true)))) (.t 73), none⟩])
  (.cond (.t 74) (.seq (.reg [⟨(some 6), .mv (.k (.c (.d (.bool false)))), none⟩])
   (.ret))
   (.skip)))
  (.seq (.seq (.reg [⟨(some 75), .mv (.t 1), none⟩,
    ⟨(some 76), .bin .eql (.t 75) (.k (.c (.d (.int .i64 1)))), none⟩])
  (.cond (.t 76) (.seq (.reg [⟨(some 77), .call 12 [] none, none⟩,
     ⟨(some 78), .mv (.t 77), none⟩,
     ⟨(some 79), .mv (.t 14), (some (78, true))⟩,
     ⟨(some 80), .len (.t 79), (some (78, true))⟩,
     ⟨(some 81), .bin .eql (.t 80) (.k (.c (.d (.int .i64 0)))), (some (78, true))⟩,
     ⟨(some 82), .pick (.t 78) (.t 81) (.k (.c (.d (.bool false)))), none⟩,
     ⟨(some 6), .mv (.t 82), none⟩])
   (.ret))
   (.skip)))
  (.seq (.reg [⟨(some 16), .mv (.k (.c (.d (.int .i64 1)))), none⟩])
  (.seq (.block 2 (.loop lp_tdeps_1))
  (.seq (.reg [⟨(some 90), .mv (.t 7), none⟩,
    ⟨(some 91), .mv (.t 16), none⟩,
    ⟨(some 92), .slice 1 (.t 90) none (some (.t 91)) none, none⟩,
    ⟨(some 93), .call 13 [(.t 92)] none, none⟩,
    ⟨(some 89), .mv (.t 93), none⟩,
    ⟨(some 94), .extract (.t 89) 0, none⟩,
    ⟨(some 95), .extract (.t 89) 1, none⟩,
    ⟨(some 17), .mv (.t 94), none⟩,
    ⟨(some 18), .mv (.t 95), none⟩])
  (.seq (.reg [⟨(some 96), .call 12 [] none, none⟩,
    ⟨(some 97), .mv (.t 96), none⟩,
    ⟨(some 98), .mv (.t 18), (some (97, true))⟩,
    ⟨(some 99), .bin .eql (.t 98) (.k (.c (.d (.int .i64 0)))), (some (97, true))⟩,
    ⟨(some 100), .pick (.t 97) (.t 99) (.k (.c (.d (.bool false)))), none⟩,
    ⟨(some 101), .mv (.t 100), none⟩,
    ⟨(some 102), .mv (.t 14), (some (101, true))⟩,
    ⟨(some 103), .len (.t 102), (some (101, true))⟩,
    ⟨(some 104), .bin .gtr (.t 103) (.k (.c (.d (.int .i64 0)))), (some (101, true))⟩,
    ⟨(some 105), .pick (.t 101) (.t 104) (.k (.c (.d (.bool false)))), none⟩,
    ⟨(some 106), .mv (.t 105), none⟩,
    ⟨(some 107), .mv (.t 14), (some (106, true))⟩,
    ⟨(some 108), .mv (.t 14), (some (106, true))⟩,
    ⟨(some 109), .len (.t 108), (some (106, true))⟩,
    ⟨(some 110), .bin .sub (.t 109) (.k (.c (.d (.int .i64 1)))), (some (106, true))⟩,
    ⟨(some 111), .idxSl 1 (.t 107) (.t 110), (some (106, true))⟩,
    ⟨(some 112), .load .sc (.t 111), (some (106, true))⟩,
    ⟨(some 113), .mv (.t 17), (some (106, true))⟩,
    ⟨(some 114), .call 19 [(.t 112), (.t 113)] none, (some (106, true))⟩,
    ⟨(some 115), .pick (.t 106) (.t 114) (.k (.c (.d (.bool false)))), none⟩,
    ⟨(some 116), .mv (.t 115), none⟩,
    ⟨(some 117), .mv (.t 13), (some (116, true))⟩,
    ⟨(some 118), .mv (.t 1), (some (116, true))⟩,
    ⟨(some 119), .bin .neq (.t 117) (.t 118), (some (116, true))⟩,
    ⟨(some 120), .mv (.t 119), (some (116, true))⟩,
    ⟨(some 121), .mv (.t 14), (some (120, false))⟩,
    ⟨(some 122), .len (.t 121), (some (120, false))⟩,
    ⟨(some 123), .mv (.t 12), (some (120, false))⟩,
    ⟨(some 124), .bin .eql (.t 122) (.t 123), (some (120, false))⟩,
    ⟨(some 125), .pick (.t 120) (.k (.c (.d (.bool true)))) (.t 124), (some (116, true))⟩,
    ⟨(some 126), .pick (.t 116) (.t 125) (.k (.c (.d (.bool false)))), none⟩,
    ⟨(some 6), .mv (.t 126), none⟩])
  (.ret))))))))))))))),
  [(6, none)]⟩
theorem cf_tdeps : compFn Tryd.prog { own := [], comp := [], frz := [], nils := [] } Tryd.f9 = some sf_tdeps := by kernel_rfl
set_option maxHeartbeats 1600000 in
theorem tdeps_c (G : Glob) (seed : Int) (hseed1 : -9223372036854775808 ≤ seed) (hseed2 : seed ≤ 9223372036854775807) (n : Int) (hn1 : -9223372036854775808 ≤ n) (hn2 : n ≤ 9223372036854775807) (i : Int) (hi1 : -9223372036854775808 ≤ i) (hi2 : i ≤ 9223372036854775807) (hF : G.at 0 = some (.ra (firstK.map wD))) (hG : G.at 1 = some (.ra (constK.map wD))) : Den Tryd.prog G 9 [.int .i64 seed, .int .i64 n, .int .i64 i] (.w (.c (.d (.bool true)))) := by
  refine den_walk Tryd.func9 cf_tdeps rfl rfl ?_
  have r1 := withinN_range n 30 (by decide)
  have e1 := within_c G n 30 (by decide)
  obtain ⟨k, hk⟩ := Int.eq_ofNat_of_zero_le r1.1
  rw [hk] at r1 e1
  have r2 := withinN_range i ((k + 1 : Nat) : Int) (by omega)
  have e2 := within_c G i ((k + 1 : Nat) : Int) (by omega)
  obtain ⟨j, hj⟩ := Int.eq_ofNat_of_zero_le r2.1
  rw [hj] at r2 e2
  have hl := lvs_c G seed (k + 1) (by omega)
  have ll := leavesN_len (withinN seed 1000) (k + 1)
  have lb := leavesN_le (s := withinN seed 1000) (n := k + 1)
  have ek : (1 : Int) + ↑k = ((k + 1 : Nat) : Int) := by omega
  generalize leavesN (withinN seed 1000) (k + 1) = l at *
  rw [← ll] at ek e2 hl r2
  have hjl : j < l.length := by omega
  have l31 : l.length ≤ 30 := by omega
  have b1 := path_c G hF hG l j (by omega) lb
  have b2 := path_c G hF hG l ((0 : Nat) : Int) (by omega) lb
  have b3 := path_c G hF hG l ((l.length - 1 : Nat) : Int) (by omega) lb
  rw [(pathV_ok (l := l) (i := j) (by omega) hjl).1, (pathV_ok (l := l) (i := j) (by omega) hjl).2] at b1
  rw [(pathV_ok (l := l) (i := 0) (by omega) (by omega)).1, (pathV_ok (l := l) (i := 0) (by omega) (by omega)).2] at b2
  rw [(pathV_ok (l := l) (i := l.length - 1) (by omega) (by omega)).1, (pathV_ok (l := l) (i := l.length - 1) (by omega) (by omega)).2] at b3
  have p1 := path_len _ l j rfl hjl
  have p2 := path_len _ l 0 rfl (by omega)
  have p3 := path_len _ l (l.length - 1) rfl (by omega)
  have d1 := depth_lev l.length j
  have d2 := depth_0 l.length
  have d3 := depth_lev l.length (l.length - 1)
  have e3 : ((l.length - 1 : Nat) : Int) = (l.length : Int) - 1 := by omega
  rw [e3] at b3
  have lv := lev_le' l.length
  simp only [sf_tdeps, putAll, wx, wy, wz, stV, seval, IntWalk.iteOmega, IntWalk.toNatUp, reduceCtorEq]
  refine st_call (e1) rfl (.inl rfl) ?_
  simp only [ek, wx, wy, wz, stV, seval, IntWalk.iteOmega, IntWalk.toNatUp, reduceCtorEq]
  refine st_call (hl) rfl (.inl rfl) ?_
  simp only [wx, wy, wz, stV, seval, IntWalk.iteOmega, IntWalk.toNatUp, reduceCtorEq]
  refine st_call (e2) rfl (.inl rfl) ?_
  simp only [wx, wy, wz, stV, seval, IntWalk.iteOmega, IntWalk.toNatUp, reduceCtorEq]
  refine st_call (b1) rfl (.inl rfl) ?_
  simp only [wx, wy, wz, stV, seval, IntWalk.iteOmega, IntWalk.toNatUp, reduceCtorEq]
  refine st_call (b2) rfl (.inl rfl) ?_
  simp only [wx, wy, wz, stV, seval, IntWalk.iteOmega, IntWalk.toNatUp, reduceCtorEq]
  refine loop_st (td1 l.length l (pathM l j) (pathM l 0)) (fun j => levN l.length - j) (fun j => j ≤ levN l.length) 0 (Nat.zero_le _) ?_ ?_
  · refine ent_l (fun i => i) ?_ ?_ rfl rfl <;> simp only [wx, wex, wez, stV, seval, IntWalk.iteOmega, IntWalk.toNatUp, reduceCtorEq] <;> rfl
  · intro a ha
    have e : 2 ^ (a + 1) = 2 * 2 ^ a := by rw [Nat.pow_succ]; omega
    have hp := Nat.two_pow_pos a
    by_cases hlt : 2 ^ a < l.length
    · have e4 : (2 * ((2 ^ a : Nat) : Int)) = ((2 ^ (a + 1) : Nat) : Int) := by omega
      have hla := lev_of hlt
      simp only [lp_tdeps_0, td1, wx, wy, wz, stV, seval, IntWalk.iteOmega, IntWalk.toNatUp, reduceCtorEq, e4]
      refine lop_next (a + 1) (by omega) (by omega) (ent_l (fun i => i) ?_ ?_ rfl rfl) <;> simp only [wx, wex, wez, stV, seval, IntWalk.iteOmega, IntWalk.toNatUp, reduceCtorEq]
    · have hae : a = levN l.length := by
        rcases Nat.lt_or_ge a (levN l.length) with h | h
        · exact absurd (lev_lt h) hlt
        · omega
      subst hae
      have q1 : (pathM l j).length ≤ levN l.length := by omega
      have q2 : (pathM l 0).length = levN l.length := by omega
      simp only [lp_tdeps_0, td1, wx, wy, wz, stV, seval, IntWalk.iteOmega, IntWalk.toNatUp, reduceCtorEq]
      by_cases hn1 : l.length = 1
      · have q3 : (pathM l (l.length - 1)).length = 0 := by rw [path_1 (by omega)]; rfl
        refine st_call (b3) rfl (.inl rfl) ?_
        simp only [q1, q2, wx, wy, wz, stV, seval, IntWalk.iteOmega, IntWalk.toNatUp, reduceCtorEq]
        refine st_call (known7_c G hF hG) rfl (.inl rfl) ?_
        simp only [q3, wx, wy, wz, stV, seval, IntWalk.iteOmega, IntWalk.toNatUp, reduceCtorEq]
        exact ret_d1 (by simp only [wx, wy, wz, stV, seval, IntWalk.iteOmega, IntWalk.toNatUp, reduceCtorEq])
      · have h2 : 2 ≤ l.length := by omega
        have s1 := split_lt h2
        obtain ⟨z, hz⟩ := path_last h2
        have zl : (z ++ [rootM (l.take (splitN l.length))]).length = z.length + 1 := by simp
        rw [hz, zl] at p3
        rw [hz] at b3
        have gz : (z ++ [rootM (l.take (splitN l.length))])[z.length]? = some (rootM (l.take (splitN l.length))) := by simp
        have l1 : (l.take (splitN l.length)).length = splitN l.length := by rw [List.length_take]; omega
        have b4 := root_c G hF hG (l.take (splitN l.length)) (by omega) (fun x hx => lb x (List.mem_of_mem_take hx))
        rw [(rootV_ok (l := l.take (splitN l.length)) (by omega)).1, (rootV_ok (l := l.take (splitN l.length)) (by omega)).2] at b4
        have hful : 2 ^ levN l.length = l.length → z.length + 1 = levN l.length := fun he => by
          have := depth_last (levN l.length)
          rw [he] at this
          omega
        have zle : z.length ≤ 100 := by omega
        refine st_call (b3) rfl (.inl rfl) ?_
        simp only [q1, q2, wx, wy, wz, stV, seval, IntWalk.iteOmega, IntWalk.toNatUp, reduceCtorEq]
        refine loop_st (td2 l.length l (z ++ [rootM (l.take (splitN l.length))])) (fun j => l.length - 2 ^ j) (fun j => 2 ^ j < l.length) 0 (by simp; omega) ?_ ?_
        · refine ent_l (fun i => i) ?_ ?_ rfl rfl <;> simp only [wx, wex, wez, stV, seval, IntWalk.iteOmega, IntWalk.toNatUp, reduceCtorEq] <;> rfl
        · intro c hc
          have e5 : 2 ^ (c + 1) = 2 * 2 ^ c := by rw [Nat.pow_succ]; omega
          have hp2 := Nat.two_pow_pos c
          by_cases hlt2 : 2 ^ (c + 1) < l.length
          · have e6 : (2 * ((2 ^ c : Nat) : Int)) = ((2 ^ (c + 1) : Nat) : Int) := by omega
            simp only [lp_tdeps_1, td2, wx, wy, wz, stV, seval, IntWalk.iteOmega, IntWalk.toNatUp, reduceCtorEq, e6]
            refine lop_next (c + 1) (by omega) hlt2 (ent_l (fun i => i) ?_ ?_ rfl rfl) <;> simp only [wx, wex, wez, stV, seval, IntWalk.iteOmega, IntWalk.toNatUp, reduceCtorEq]
          · have hsp : splitN l.length = 2 ^ c := split_eq hc (by omega)
            rw [hsp] at b4 gz zl s1 l1
            have e7 : ((z.length : Int) + 1 - 1).toNat = z.length := by omega
            by_cases he : 2 ^ levN l.length = l.length
            · have hq := hful he
              have hq' : ((z.length : Int) + 1) = (levN l.length : Nat) := by omega
              rw [hsp]
              simp only [lp_tdeps_1, td2, wx, wy, wz, stV, seval, IntWalk.iteOmega, IntWalk.toNatUp, reduceCtorEq, allSz_ls]
              refine st_call (b4) rfl (.inl rfl) ?_
              simp only [wx, wy, wz, stV, seval, IntWalk.iteOmega, IntWalk.toNatUp, reduceCtorEq]
              refine st_call (known7_c G hF hG) rfl (.inl rfl) ?_
              simp only [zl, get_map, gz, e7, wx, wy, wz, stV, seval, IntWalk.iteOmega, IntWalk.toNatUp, reduceCtorEq]
              refine st_call (rsame_c G (rootM (l.take (2 ^ c))) (rootM (l.take (2 ^ c)))) rfl (.inl rfl) ?_
              simp only [zl, he, wx, wy, wz, stV, seval, IntWalk.iteOmega, IntWalk.toNatUp, reduceCtorEq]
              exact ret_d1 (by simp only [wx, wy, wz, stV, seval, IntWalk.iteOmega, IntWalk.toNatUp, reduceCtorEq])
            · rw [hsp]
              simp only [lp_tdeps_1, td2, wx, wy, wz, stV, seval, IntWalk.iteOmega, IntWalk.toNatUp, reduceCtorEq, allSz_ls]
              refine st_call (b4) rfl (.inl rfl) ?_
              simp only [wx, wy, wz, stV, seval, IntWalk.iteOmega, IntWalk.toNatUp, reduceCtorEq]
              refine st_call (known7_c G hF hG) rfl (.inl rfl) ?_
              simp only [zl, get_map, gz, e7, wx, wy, wz, stV, seval, IntWalk.iteOmega, IntWalk.toNatUp, reduceCtorEq]
              refine st_call (rsame_c G (rootM (l.take (2 ^ c))) (rootM (l.take (2 ^ c)))) rfl (.inl rfl) ?_
              simp only [wx, wy, wz, stV, seval, IntWalk.iteOmega, IntWalk.toNatUp, reduceCtorEq]
              exact ret_d1 (by simp only [wx, wy, wz, stV, seval, IntWalk.iteOmega, IntWalk.toNatUp, reduceCtorEq])
def sf_tgtw : SFn := ⟨4, 146,
  .seq (.reg [⟨(some 8), .mv (.k (.c (.d (.bool false)))), none⟩])
  (.seq (.reg [⟨(some 22), .mv (.t 1), none⟩,
    ⟨(some 23), .call 31 [(.t 22), (.k (.c (.d (.int .i64 8))))] none, none⟩,
    ⟨(some 24), .bin .add (.k (.c (.d (.int .i64 1)))) (.t 23), none⟩,
    ⟨(some 1), .mv (.t 24), none⟩])
  (.seq (.reg [⟨(some 25), .mv (.t 1), none⟩,
    ⟨(some 26), .mv (.t 2), none⟩,
    ⟨(some 27), .call 31 [(.t 26), (.k (.c (.d (.int .i64 8))))] none, none⟩,
    ⟨(some 28), .bin .add (.t 25) (.t 27), none⟩,
    ⟨(some 2), .mv (.t 28), none⟩])
  (.seq (.reg [⟨(some 29), .mv (.t 2), none⟩,
    ⟨(some 30), .mv (.t 3), none⟩,
    ⟨(some 31), .call 31 [(.t 30), (.k (.c (.d (.int .i64 8))))] none, none⟩,
    ⟨(some 32), .bin .add (.t 29) (.t 31), none⟩,
    ⟨(some 3), .mv (.t 32), none⟩])
  (.seq (.reg [⟨(some 33), .mv (.t 0), none⟩,
    ⟨(some 34), .mv (.t 3), none⟩,
    ⟨(some 35), .call 32 [(.t 33), (.t 34)] none, none⟩,
    ⟨(some 9), .mv (.t 35), none⟩])
  (.seq (.reg [⟨(some 37), .mv (.t 9), none⟩,
    ⟨(some 38), .mv (.t 1), none⟩,
    ⟨(some 39), .slice 1 (.t 37) none (some (.t 38)) none, none⟩,
    ⟨(some 40), .call 13 [(.t 39)] none, none⟩,
    ⟨(some 36), .mv (.t 40), none⟩,
    ⟨(some 41), .extract (.t 36) 0, none⟩,
    ⟨(some 42), .extract (.t 36) 1, none⟩,
    ⟨(some 10), .mv (.t 41), none⟩,
    ⟨(some 11), .mv (.t 42), none⟩])
  (.seq (.reg [⟨(some 44), .mv (.t 9), none⟩,
    ⟨(some 45), .mv (.t 2), none⟩,
    ⟨(some 46), .slice 1 (.t 44) none (some (.t 45)) none, none⟩,
    ⟨(some 47), .call 13 [(.t 46)] none, none⟩,
    ⟨(some 43), .mv (.t 47), none⟩,
    ⟨(some 48), .extract (.t 43) 0, none⟩,
    ⟨(some 49), .extract (.t 43) 1, none⟩,
    ⟨(some 12), .mv (.t 48), none⟩,
    ⟨(some 13), .mv (.t 49), none⟩])
  (.seq (.reg [⟨(some 51), .mv (.t 9), none⟩,
    ⟨(some 52), .call 13 [(.t 51)] none, none⟩,
    ⟨(some 50), .mv (.t 52), none⟩,
    ⟨(some 53), .extract (.t 50) 0, none⟩,
    ⟨(some 54), .extract (.t 50) 1, none⟩,
    ⟨(some 14), .mv (.t 53), none⟩,
    ⟨(some 15), .mv (.t 54), none⟩])
  (.seq (.reg [⟨(some 56), .mv (.t 9), none⟩,
    ⟨(some 57), .mv (.t 2), none⟩,
    ⟨(some 58), .slice 1 (.t 56) none (some (.t 57)) none, none⟩,
    ⟨(some 59), .mv (.t 1), none⟩,
    ⟨(some 60), .call 17 [(.t 58), (.t 59)] none, none⟩,
    ⟨(some 55), .mv (.t 60), none⟩,
    ⟨(some 61), .extract (.t 55) 0, none⟩,
    ⟨(some 62), .extract (.t 55) 1, none⟩,
    ⟨(some 16), .mv (.t 61), none⟩,
    ⟨(some 17), .mv (.t 62), none⟩])
  (.seq (.reg [⟨(some 64), .mv (.t 9), none⟩,
    ⟨(some 65), .mv (.t 2), none⟩,
    ⟨(some 66), .call 17 [(.t 64), (.t 65)] none, none⟩,
    ⟨(some 63), .mv (.t 66), none⟩,
    ⟨(some 67), .extract (.t 63) 0, none⟩,
    ⟨(some 68), .extract (.t 63) 1, none⟩,
    ⟨(some 18), .mv (.t 67), none⟩,
    ⟨(some 19), .mv (.t 68), none⟩])
  (.seq (.reg [⟨(some 70), .mv (.t 9), none⟩,
    ⟨(some 71), .mv (.t 1), none⟩,
    ⟨(some 72), .call 17 [(.t 70), (.t 71)] none, none⟩,
    ⟨(some 69), .mv (.t 72), none⟩,
    ⟨(some 73), .extract (.t 69) 0, none⟩,
    ⟨(some 74), .extract (.t 69) 1, none⟩,
    ⟨(some 20), .mv (.t 73), none⟩,
    ⟨(some 21), .mv (.t 74), none⟩])
  (.seq (.seq (.reg [⟨(some 75), .mv (.t 11), none⟩,
    ⟨(some 76), .bin .neq (.t 75) (.k (.c (.d (.int .i64 0)))), none⟩,
    ⟨(some 77), .mv (.t 76), none⟩,
    ⟨(some 78), .mv (.t 13), (some (77, false))⟩,
    ⟨(some 79), .bin .neq (.t 78) (.k (.c (.d (.int .i64 0)))), (some (77, false))⟩,
    ⟨(some 80), .pick (.t 77) (.k (.c (.d (.bool true)))) (.t 79), none⟩,
    ⟨(some 81), .mv (.t 80), none⟩,
    ⟨(some 82), .mv (.t 15), (some (81, false))⟩,
    ⟨(some 83), .bin .neq (.t 82) (.k (.c (.d (.int .i64 0)))), (some (81, false))⟩,
    ⟨(some 84), .pick (.t 81) (.k (.c (.d (.bool true)))) (.t 83), none⟩,
    ⟨(some 85), .mv (.t 84), none⟩,
    ⟨(some 86), .mv (.t 17), (some (85, false))⟩,
    ⟨(some 87), .bin .neq (.t 86) (.k (.c (.d (.int .i64 0)))), (some (85, false))⟩,
    ⟨(some 88), .pick (.t 85) (.k (.c (.d (.bool true)))) (.t 87), none⟩,
    ⟨(some 89), .mv (.t 88), none⟩,
    ⟨(some 90), .mv (.t 19), (some (89, false))⟩,
    ⟨(some 91), .bin .neq (.t 90) (.k (.c (.d (.int .i64 0)))), (some (89, false))⟩,
    ⟨(some 92), .pick (.t 89) (.k (.c (.d (.bool true)))) (.t 91), none⟩,
    ⟨(some 93), .mv (.t 92), none⟩,
    ⟨(some 94), .mv (.t 21), (some (93, false))⟩,
    ⟨(some 95), .bin .neq (.t 94) (.k (.c (.d (.int .i64 0)))), (some (93, false))⟩,
    ⟨(some 96), .pick (.t 93) (.k (.c (.d (.bool true)))) (.t 95), none⟩])
  (.cond (.t 96) (.seq (.reg [⟨(some 8), .mv (.k (.c (.d (.bool false)))), none⟩])
   (.ret))
   (.skip)))
  (.seq (.reg [⟨(some 97), .call 12 [] none, none⟩,
    ⟨(some 98), .mv (.t 97), none⟩,
    ⟨(some 99), .mv (.t 10), (some (98, true))⟩,
    ⟨(some 100), .mv (.t 1), (some (98, true))⟩,
    ⟨(some 101), .mv (.t 12), (some (98, true))⟩,
    ⟨(some 102), .mv (.t 2), (some (98, true))⟩,
    ⟨(some 103), .mv (.t 16), (some (98, true))⟩,
    ⟨(some 104), .call 29 [(.t 99), (.t 100), (.t 101), (.t 102), (.t 103)] none, (some (98, true))⟩,
    ⟨(some 105), .pick (.t 98) (.t 104) (.k (.c (.d (.bool false)))), none⟩,
    ⟨(some 106), .mv (.t 105), none⟩,
    ⟨(some 107), .mv (.t 12), (some (106, true))⟩,
    ⟨(some 108), .mv (.t 2), (some (106, true))⟩,
    ⟨(some 109), .mv (.t 14), (some (106, true))⟩,
    ⟨(some 110), .mv (.t 3), (some (106, true))⟩,
    ⟨(some 111), .mv (.t 18), (some (106, true))⟩,
    ⟨(some 112), .call 29 [(.t 107), (.t 108), (.t 109), (.t 110), (.t 111)] none, (some (106, true))⟩,
    ⟨(some 113), .pick (.t 106) (.t 112) (.k (.c (.d (.bool false)))), none⟩,
    ⟨(some 114), .mv (.t 113), none⟩,
    ⟨(some 115), .mv (.t 10), (some (114, true))⟩,
    ⟨(some 116), .mv (.t 1), (some (114, true))⟩,
    ⟨(some 117), .mv (.t 14), (some (114, true))⟩,
    ⟨(some 118), .mv (.t 3), (some (114, true))⟩,
    ⟨(some 119), .mv (.t 20), (some (114, true))⟩,
    ⟨(some 120), .call 29 [(.t 115), (.t 116), (.t 117), (.t 118), (.t 119)] none, (some (114, true))⟩,
    ⟨(some 121), .pick (.t 114) (.t 120) (.k (.c (.d (.bool false)))), none⟩,
    ⟨(some 122), .mv (.t 121), none⟩,
    ⟨(some 123), .mv (.t 10), (some (122, true))⟩,
    ⟨(some 124), .mv (.t 1), (some (122, true))⟩,
    ⟨(some 125), .mv (.t 14), (some (122, true))⟩,
    ⟨(some 126), .mv (.t 3), (some (122, true))⟩,
    ⟨(some 127), .mv (.t 16), (some (122, true))⟩,
    ⟨(some 128), .call 29 [(.t 123), (.t 124), (.t 125), (.t 126), (.t 127)] none, (some (122, true))⟩,
    ⟨(some 129), .mv (.t 10), (some (122, true))⟩,
    ⟨(some 130), .mv (.t 1), (some (122, true))⟩,
    ⟨(some 131), .mv (.t 14), (some (122, true))⟩,
    ⟨(some 132), .mv (.t 3), (some (122, true))⟩,
    ⟨(some 133), .mv (.t 16), (some (122, true))⟩,
    ⟨(some 134), .call 30 [(.t 129), (.t 130), (.t 131), (.t 132), (.t 133)] none, (some (122, true))⟩,
    ⟨(some 135), .eqB false (.t 128) (.t 134), (some (122, true))⟩,
    ⟨(some 136), .pick (.t 122) (.t 135) (.k (.c (.d (.bool false)))), none⟩,
    ⟨(some 137), .mv (.t 136), none⟩,
    ⟨(some 138), .mv (.t 10), (some (137, true))⟩,
    ⟨(some 139), .mv (.t 1), (some (137, true))⟩,
    ⟨(some 140), .mv (.t 14), (some (137, true))⟩,
    ⟨(some 141), .mv (.t 1), (some (137, true))⟩,
    ⟨(some 142), .bin .sub (.t 141) (.k (.c (.d (.int .i64 1)))), (some (137, true))⟩,
    ⟨(some 143), .call 29 [(.t 138), (.t 139), (.t 140), (.t 142), (.k (.c .nil))] none, (some (137, true))⟩,
    ⟨(some 144), .un .not (.t 143), (some (137, true))⟩,
    ⟨(some 145), .pick (.t 137) (.t 144) (.k (.c (.d (.bool false)))), none⟩,
    ⟨(some 8), .mv (.t 145), none⟩])
  (.ret))))))))))))),
  [(8, none)]⟩
theorem cf_tgtw : compFn Tryd.prog { own := [], comp := [], frz := [], nils := [] } Tryd.f10 = some sf_tgtw := by kernel_rfl
set_option maxHeartbeats 1600000 in
theorem tgtw_c (G : Glob) (seed : Int) (hseed1 : -9223372036854775808 ≤ seed) (hseed2 : seed ≤ 9223372036854775807) (a : Int) (ha1 : -9223372036854775808 ≤ a) (ha2 : a ≤ 9223372036854775807) (b : Int) (hb1 : -9223372036854775808 ≤ b) (hb2 : b ≤ 9223372036854775807) (c : Int) (hc1 : -9223372036854775808 ≤ c) (hc2 : c ≤ 9223372036854775807) (hF : G.at 0 = some (.ra (firstK.map wD))) (hG : G.at 1 = some (.ra (constK.map wD))) : Den Tryd.prog G 10 [.int .i64 seed, .int .i64 a, .int .i64 b, .int .i64 c] (.w (.c (.d (.bool true)))) := by
  refine den_walk Tryd.func10 cf_tgtw rfl rfl ?_
  have r1 := withinN_range a 8 (by decide)
  have r2 := withinN_range b 8 (by decide)
  have r3 := withinN_range c 8 (by decide)
  have e1 := within_c G a 8 (by decide)
  have e2 := within_c G b 8 (by decide)
  have e3 := within_c G c 8 (by decide)
  obtain ⟨a0, ha⟩ := Int.eq_ofNat_of_zero_le r1.1
  obtain ⟨b0, hb⟩ := Int.eq_ofNat_of_zero_le r2.1
  obtain ⟨c0, hc⟩ := Int.eq_ofNat_of_zero_le r3.1
  rw [ha] at r1 e1
  rw [hb] at r2 e2
  rw [hc] at r3 e3
  have ea : (1 : Int) + ↑a0 = ((a0 + 1 : Nat) : Int) := by omega
  have eb : ((a0 + 1 : Nat) : Int) + ↑b0 = ((a0 + 1 + b0 : Nat) : Int) := by omega
  have ec : ((a0 + 1 + b0 : Nat) : Int) + ↑c0 = ((a0 + 1 + b0 + c0 : Nat) : Int) := by omega
  have hA : 1 ≤ a0 + 1 := by omega
  have hAB : a0 + 1 ≤ a0 + 1 + b0 := by omega
  have hBC : a0 + 1 + b0 ≤ a0 + 1 + b0 + c0 := by omega
  have hl := lvs_c G seed (a0 + 1 + b0 + c0) (by omega)
  have ll := leavesN_len (withinN seed 1000) (a0 + 1 + b0 + c0)
  have lb := leavesN_le (s := withinN seed 1000) (n := a0 + 1 + b0 + c0)
  generalize leavesN (withinN seed 1000) (a0 + 1 + b0 + c0) = l at *
  generalize a0 + 1 + b0 + c0 = C at *
  generalize a0 + 1 + b0 = B at *
  generalize a0 + 1 = A at *
  subst ll
  have l31 : l.length ≤ 30 := by omega
  have la : (l.take A).length = A := by rw [List.length_take]; omega
  have lB : (l.take B).length = B := by rw [List.length_take]; omega
  have lba : ∀ x ∈ l.take A, x.length ≤ 1000000000 := fun x hx => lb x (List.mem_of_mem_take hx)
  have lbb : ∀ x ∈ l.take B, x.length ≤ 1000000000 := fun x hx => lb x (List.mem_of_mem_take hx)
  have b1 := root_c G hF hG (l.take A) (by omega) lba
  have b2 := root_c G hF hG (l.take B) (by omega) lbb
  have b3 := root_c G hF hG l (by omega) lb
  rw [(rootV_ok (l := l.take A) (by omega)).1, (rootV_ok (l := l.take A) (by omega)).2] at b1
  rw [(rootV_ok (l := l.take B) (by omega)).1, (rootV_ok (l := l.take B) (by omega)).2] at b2
  rw [(rootV_ok (l := l) (by omega)).1, (rootV_ok (l := l) (by omega)).2] at b3
  have b4 := cons_c G hF hG (l.take B) (A : Int) (by omega) lbb
  have b5 := cons_c G hF hG l (B : Int) (by omega) lb
  have b6 := cons_c G hF hG l (A : Int) (by omega) lb
  rw [(consV_ok (l := l.take B) (m := A) (by omega) hA (by omega)).1, (consV_ok (l := l.take B) (m := A) (by omega) hA (by omega)).2] at b4
  rw [(consV_ok (l := l) (m := B) (by omega) (by omega) (by omega)).1, (consV_ok (l := l) (m := B) (by omega) (by omega) (by omega)).2] at b5
  rw [(consV_ok (l := l) (m := A) (by omega) hA (by omega)).1, (consV_ok (l := l) (m := A) (by omega) hA (by omega)).2] at b6
  have k1 := check_grown (l := l.take B) (m := A) (by omega) hA (by omega)
  have k2 := check_grown (l := l) (m := B) (by omega) (by omega) (by omega)
  have k3 := check_grown (l := l) (m := A) (by omega) hA (by omega)
  rw [List.take_take, Nat.min_eq_left hAB, lB] at k1
  have n1 : ∀ x ∈ proofM A (l.take B) true, x.length ≤ 1000000000 := fun x hx => by rw [proof_big _ (l.take B) A true rfl hA (by omega) x hx]; decide
  have n2 : ∀ x ∈ proofM B l true, x.length ≤ 1000000000 := fun x hx => by rw [proof_big _ l B true rfl (by omega) (by omega) x hx]; decide
  have n3 : ∀ x ∈ proofM A l true, x.length ≤ 1000000000 := fun x hx => by rw [proof_big _ l A true rfl hA (by omega) x hx]; decide
  have m1 : (proofM A (l.take B) true).length ≤ 1024 := by rw [proof_len _ (l.take B) A true rfl hA (by omega)]; have := plen_le (l.take B).length A true hA (by omega); omega
  have m2 : (proofM B l true).length ≤ 1024 := by rw [proof_len _ l B true rfl (by omega) (by omega)]; have := plen_le l.length B true (by omega) (by omega); omega
  have m3 : (proofM A l true).length ≤ 1024 := by rw [proof_len _ l A true rfl hA (by omega)]; have := plen_le l.length A true hA (by omega); omega
  have o1 : (rootM (l.take A)).length ≤ 1000000000 := by rw [rootM_len]; decide
  have o2 : (rootM (l.take B)).length ≤ 1000000000 := by rw [rootM_len]; decide
  have c1 := chkg_c G hF hG (rootM (l.take A)) (A : Int) (rootM (l.take B)) (B : Int) (proofM A (l.take B) true) o1 (by omega) n1
  have c2 := chkg_c G hF hG (rootM (l.take B)) (B : Int) (rootM l) (l.length : Int) (proofM B l true) o2 (by omega) n2
  have c3 := chkg_c G hF hG (rootM (l.take A)) (A : Int) (rootM l) (l.length : Int) (proofM A l true) o1 (by omega) n3
  have c4 := chkg_c G hF hG (rootM (l.take A)) (A : Int) (rootM l) (l.length : Int) (proofM A (l.take B) true) o1 (by omega) n1
  have c5 := rchkg_c G hF hG (rootM (l.take A)) (A : Int) (rootM l) (l.length : Int) (proofM A (l.take B) true) o1 (by omega) n1
  have c6 := chkg_c G hF hG (rootM (l.take A)) (A : Int) (rootM l) ((A : Int) - 1) [] o1 (by simp) (by simp)
  have k6 : cgB (rootM (l.take A)) (A : Int) (rootM l) ((A : Int) - 1) [] = false := by unfold cgB; rw [decide_eq_false (by omega), Bool.false_and]
  rw [k1] at c1
  rw [k2] at c2
  rw [k3] at c3
  rw [k6] at c6
  generalize rootM (l.take A) = x at *
  generalize rootM (l.take B) = y at *
  generalize rootM l = z at *
  generalize proofM A (l.take B) true = p at *
  generalize proofM B l true = q at *
  generalize proofM A l true = r at *
  simp only [sf_tgtw, putAll, wx, wy, wz, stV, seval, IntWalk.iteOmega, IntWalk.toNatUp, reduceCtorEq]
  refine st_call (e1) rfl (.inl rfl) ?_
  simp only [ea, wx, wy, wz, stV, seval, IntWalk.iteOmega, IntWalk.toNatUp, reduceCtorEq]
  refine st_call (e2) rfl (.inl rfl) ?_
  simp only [eb, wx, wy, wz, stV, seval, IntWalk.iteOmega, IntWalk.toNatUp, reduceCtorEq]
  refine st_call (e3) rfl (.inl rfl) ?_
  simp only [ec, wx, wy, wz, stV, seval, IntWalk.iteOmega, IntWalk.toNatUp, reduceCtorEq]
  refine st_call (hl) rfl (.inl rfl) ?_
  simp only [allSz_ls, wx, wy, wz, stV, seval, IntWalk.iteOmega, IntWalk.toNatUp, reduceCtorEq]
  refine st_call (b1) rfl (.inl rfl) ?_
  simp only [allSz_ls, wx, wy, wz, stV, seval, IntWalk.iteOmega, IntWalk.toNatUp, reduceCtorEq]
  refine st_call (b2) rfl (.inl rfl) ?_
  simp only [wx, wy, wz, stV, seval, IntWalk.iteOmega, IntWalk.toNatUp, reduceCtorEq]
  refine st_call (b3) rfl (.inl rfl) ?_
  simp only [allSz_ls, wx, wy, wz, stV, seval, IntWalk.iteOmega, IntWalk.toNatUp, reduceCtorEq]
  refine st_call (b4) rfl (.inl rfl) ?_
  simp only [wx, wy, wz, stV, seval, IntWalk.iteOmega, IntWalk.toNatUp, reduceCtorEq]
  refine st_call (b5) rfl (.inl rfl) ?_
  simp only [wx, wy, wz, stV, seval, IntWalk.iteOmega, IntWalk.toNatUp, reduceCtorEq]
  refine st_call (b6) rfl (.inl rfl) ?_
  simp only [wx, wy, wz, stV, seval, IntWalk.iteOmega, IntWalk.toNatUp, reduceCtorEq]
  refine st_call (known7_c G hF hG) rfl (.inl rfl) ?_
  simp only [wx, wy, wz, stV, seval, IntWalk.iteOmega, IntWalk.toNatUp, reduceCtorEq]
  refine st_call (c1) rfl (.inl rfl) ?_
  simp only [wx, wy, wz, stV, seval, IntWalk.iteOmega, IntWalk.toNatUp, reduceCtorEq]
  refine st_call (c2) rfl (.inl rfl) ?_
  simp only [wx, wy, wz, stV, seval, IntWalk.iteOmega, IntWalk.toNatUp, reduceCtorEq]
  refine st_call (c3) rfl (.inl rfl) ?_
  simp only [wx, wy, wz, stV, seval, IntWalk.iteOmega, IntWalk.toNatUp, reduceCtorEq]
  refine st_call (c4) rfl (.inl rfl) ?_
  simp only [wx, wy, wz, stV, seval, IntWalk.iteOmega, IntWalk.toNatUp, reduceCtorEq]
  refine st_call (c5) rfl (.inl rfl) ?_
  simp only [wx, wy, wz, stV, seval, IntWalk.iteOmega, IntWalk.toNatUp, reduceCtorEq]
  refine st_call (c6) rfl (.inl rfl) ?_
  simp only [wx, wy, wz, stV, seval, IntWalk.iteOmega, IntWalk.toNatUp, reduceCtorEq]
  exact ret_d1 (by simp only [wx, wy, wz, stV, seval, IntWalk.iteOmega, IntWalk.toNatUp, reduceCtorEq])
end Go.Proofs.YtalilcljonkmaaaDoor
