/- The laws of layer 7. Own work. -/
import Derived.Test.YtalilcljonkmaaaDoorAlV
import Derived.Test.YtalilcljonkmaaaDoorLg0
set_option linter.unusedVariables false
set_option linter.unusedSimpArgs false
namespace Go.Proofs.YtalilcljonkmaaaDoor
open Go.RowKit

theorem pathV_le (l : List (List UInt8)) (i : Int) : (pathV l i).length ≤ 1024 := by
  unfold pathV
  split
  · rename_i h
    have h2 : ¬ 1024 < l.length := fun h3 => by unfold pathE at h; rw [if_pos h3] at h; cases h
    rw [← oth_path _ l i.toNat rfl]
    have := oth_le _ l i.toNat 1 rfl
    omega
  · exact Nat.zero_le _
theorem consV_le (l : List (List UInt8)) (m : Int) : (consV l m).length ≤ 1024 := by
  unfold consV
  split
  · rename_i h
    have h2 : ¬ 1024 < l.length := fun h3 => by unfold consE at h; rw [if_pos h3] at h; cases h
    have h3 : ¬ (m < 1 ∨ (l.length : Int) < m) := fun h3 => by unfold consE at h; rw [if_neg h2, if_pos h3] at h; cases h
    rw [proof_len _ l m.toNat true rfl (by omega) (by omega)]
    have := plen_le l.length m.toNat true (by omega) (by omega)
    omega
  · exact Nat.zero_le _
def taSt (l : List (List UInt8)) (i m : Int) (j : Nat) : St := ⟨ofL [(0, .w (.c (.d (sls l)))), (7, .w (.c (.d (.sl ((rootV l).map bD))))), (8, .w (.c (.d (.int .i64 (rootE l))))), (9, .w (.c (.d (.sl ((rootV l).map bD))))), (10, .w (.c (.d (.int .i64 (rootE l))))), (11, .w (.c (.d (sls (pathV l i))))), (12, .w (.c (.d (.int .i64 (pathE l i))))), (13, .w (.c (.d (sls (pathV l i))))), (14, .w (.c (.d (.int .i64 (pathE l i))))), (15, .w (.c (.d (sls (consV l m))))), (16, .w (.c (.d (.int .i64 (consE l m))))), (17, .w (.c (.d (sls (consV l m))))), (18, .w (.c (.d (.int .i64 (consE l m))))), (19, .w (.c (.d (.int .i64 (j : Int)))))], hL [], uL []⟩
def lp_tacts_0 : SCode :=
  .seq (.seq (.reg [⟨(some 58), .mv (.t 19), none⟩,
    ⟨(some 59), .bin .add (.t 58) (.k (.c (.d (.int .i64 1)))), none⟩,
    ⟨(some 60), .mv (.t 0), none⟩,
    ⟨(some 61), .len (.t 60), none⟩,
    ⟨(some 62), .bin .lss (.t 59) (.t 61), none⟩,
    ⟨(some 63), .mv (.t 62), none⟩,
    ⟨(some 64), .mv (.t 19), (some (63, true))⟩,
    ⟨(some 65), .bin .lss (.t 64) (.k (.c (.d (.int .i64 3)))), (some (63, true))⟩,
    ⟨(some 66), .pick (.t 63) (.t 65) (.k (.c (.d (.bool false)))), none⟩])
  (.cond (.t 66) (.skip)
   (.exit 0)))
  (.seq (.block 1 (.seq (.reg [⟨(some 69), .mv (.t 0), none⟩,
     ⟨(some 70), .mv (.t 19), none⟩,
     ⟨(some 71), .idxSl 1 (.t 69) (.t 70), none⟩,
     ⟨(some 72), .load .sc (.t 71), none⟩,
     ⟨(some 73), .call 20 [(.t 72)] none, none⟩,
     ⟨(some 74), .mv (.t 0), none⟩,
     ⟨(some 75), .mv (.t 19), none⟩,
     ⟨(some 76), .idxSl 1 (.t 74) (.t 75), none⟩,
     ⟨(some 77), .load .sc (.t 76), none⟩,
     ⟨(some 78), .call 21 [(.t 77)] none, none⟩,
     ⟨(some 79), .call 19 [(.t 73), (.t 78)] none, none⟩,
     ⟨(some 80), .un .not (.t 79), none⟩,
     ⟨(some 81), .mv (.t 80), none⟩,
     ⟨(some 82), .mv (.t 0), (some (81, false))⟩,
     ⟨(some 83), .mv (.t 19), (some (81, false))⟩,
     ⟨(some 84), .idxSl 1 (.t 82) (.t 83), (some (81, false))⟩,
     ⟨(some 85), .load .sc (.t 84), (some (81, false))⟩,
     ⟨(some 86), .mv (.t 0), (some (81, false))⟩,
     ⟨(some 87), .mv (.t 19), (some (81, false))⟩,
     ⟨(some 88), .bin .add (.t 87) (.k (.c (.d (.int .i64 1)))), (some (81, false))⟩,
     ⟨(some 89), .idxSl 1 (.t 86) (.t 88), (some (81, false))⟩,
     ⟨(some 90), .load .sc (.t 89), (some (81, false))⟩,
     ⟨(some 91), .call 22 [(.t 85), (.t 90)] none, (some (81, false))⟩,
     ⟨(some 92), .mv (.t 0), (some (81, false))⟩,
     ⟨(some 93), .mv (.t 19), (some (81, false))⟩,
     ⟨(some 94), .idxSl 1 (.t 92) (.t 93), (some (81, false))⟩,
     ⟨(some 95), .load .sc (.t 94), (some (81, false))⟩,
     ⟨(some 96), .mv (.t 0), (some (81, false))⟩,
     ⟨(some 97), .mv (.t 19), (some (81, false))⟩,
     ⟨(some 98), .bin .add (.t 97) (.k (.c (.d (.int .i64 1)))), (some (81, false))⟩,
     ⟨(some 99), .idxSl 1 (.t 96) (.t 98), (some (81, false))⟩,
     ⟨(some 100), .load .sc (.t 99), (some (81, false))⟩,
     ⟨(some 101), .call 23 [(.t 95), (.t 100)] none, (some (81, false))⟩,
     ⟨(some 102), .call 19 [(.t 91), (.t 101)] none, (some (81, false))⟩,
     ⟨(some 103), .un .not (.t 102), (some (81, false))⟩,
     ⟨(some 104), .pick (.t 81) (.k (.c (.d (.bool true)))) (.t 103), none⟩])
   (.cond (.t 104) (.seq (.reg [⟨(some 6), .mv (.k (.c (.d (.bool false)))), none⟩])
    (.ret))
    (.skip))))
  (.reg [⟨(some 67), .mv (.t 19), none⟩,
    ⟨(some 68), .bin .add (.t 67) (.k (.c (.d (.int .i64 1)))), none⟩,
    ⟨(some 19), .mv (.t 68), none⟩]))
def sf_tacts : SFn := ⟨3, 136,
  .seq (.reg [⟨(some 6), .mv (.k (.c (.d (.bool false)))), none⟩])
  (.seq (.seq (.reg [⟨(some 20), .mv (.t 0), none⟩,
    ⟨(some 21), .call 11 [(.t 20), (.k (.c (.d (.int .i64 20))))] none, none⟩,
    ⟨(some 22), .un .not (.t 21), none⟩])
  (.cond (.t 22) (.seq (.reg [⟨(some 23), .call 12 [] none, none⟩,
     ⟨(some 6), .mv (.t 23), none⟩])
   (.ret))
   (.skip)))
  (.seq (.reg [⟨(some 25), .mv (.t 0), none⟩,
    ⟨(some 26), .call 13 [(.t 25)] none, none⟩,
    ⟨(some 24), .mv (.t 26), none⟩,
    ⟨(some 27), .extract (.t 24) 0, none⟩,
    ⟨(some 28), .extract (.t 24) 1, none⟩,
    ⟨(some 7), .mv (.t 27), none⟩,
    ⟨(some 8), .mv (.t 28), none⟩])
  (.seq (.reg [⟨(some 30), .mv (.t 0), none⟩,
    ⟨(some 31), .call 14 [(.t 30)] none, none⟩,
    ⟨(some 29), .mv (.t 31), none⟩,
    ⟨(some 32), .extract (.t 29) 0, none⟩,
    ⟨(some 33), .extract (.t 29) 1, none⟩,
    ⟨(some 9), .mv (.t 32), none⟩,
    ⟨(some 10), .mv (.t 33), none⟩])
  (.seq (.reg [⟨(some 35), .mv (.t 0), none⟩,
    ⟨(some 36), .mv (.t 1), none⟩,
    ⟨(some 37), .call 15 [(.t 35), (.t 36)] none, none⟩,
    ⟨(some 34), .mv (.t 37), none⟩,
    ⟨(some 38), .extract (.t 34) 0, none⟩,
    ⟨(some 39), .extract (.t 34) 1, none⟩,
    ⟨(some 11), .mv (.t 38), none⟩,
    ⟨(some 12), .mv (.t 39), none⟩])
  (.seq (.reg [⟨(some 41), .mv (.t 0), none⟩,
    ⟨(some 42), .mv (.t 1), none⟩,
    ⟨(some 43), .call 16 [(.t 41), (.t 42)] none, none⟩,
    ⟨(some 40), .mv (.t 43), none⟩,
    ⟨(some 44), .extract (.t 40) 0, none⟩,
    ⟨(some 45), .extract (.t 40) 1, none⟩,
    ⟨(some 13), .mv (.t 44), none⟩,
    ⟨(some 14), .mv (.t 45), none⟩])
  (.seq (.reg [⟨(some 47), .mv (.t 0), none⟩,
    ⟨(some 48), .mv (.t 2), none⟩,
    ⟨(some 49), .call 17 [(.t 47), (.t 48)] none, none⟩,
    ⟨(some 46), .mv (.t 49), none⟩,
    ⟨(some 50), .extract (.t 46) 0, none⟩,
    ⟨(some 51), .extract (.t 46) 1, none⟩,
    ⟨(some 15), .mv (.t 50), none⟩,
    ⟨(some 16), .mv (.t 51), none⟩])
  (.seq (.reg [⟨(some 53), .mv (.t 0), none⟩,
    ⟨(some 54), .mv (.t 2), none⟩,
    ⟨(some 55), .call 18 [(.t 53), (.t 54)] none, none⟩,
    ⟨(some 52), .mv (.t 55), none⟩,
    ⟨(some 56), .extract (.t 52) 0, none⟩,
    ⟨(some 57), .extract (.t 52) 1, none⟩,
    ⟨(some 17), .mv (.t 56), none⟩,
    ⟨(some 18), .mv (.t 57), none⟩])
  (.seq (.seq (.reg [⟨(some 19), .mv (.k (.c (.d (.int .i64 0)))), none⟩])
  (.block 0 (.loop lp_tacts_0)))
  (.seq (.reg [⟨(some 105), .call 12 [] none, none⟩,
    ⟨(some 106), .mv (.t 105), none⟩,
    ⟨(some 107), .mv (.t 8), (some (106, true))⟩,
    ⟨(some 108), .mv (.t 10), (some (106, true))⟩,
    ⟨(some 109), .bin .eql (.t 107) (.t 108), (some (106, true))⟩,
    ⟨(some 110), .pick (.t 106) (.t 109) (.k (.c (.d (.bool false)))), none⟩,
    ⟨(some 111), .mv (.t 110), none⟩,
    ⟨(some 112), .mv (.t 7), (some (111, true))⟩,
    ⟨(some 113), .mv (.t 9), (some (111, true))⟩,
    ⟨(some 114), .call 19 [(.t 112), (.t 113)] none, (some (111, true))⟩,
    ⟨(some 115), .pick (.t 111) (.t 114) (.k (.c (.d (.bool false)))), none⟩,
    ⟨(some 116), .mv (.t 115), none⟩,
    ⟨(some 117), .mv (.t 12), (some (116, true))⟩,
    ⟨(some 118), .mv (.t 14), (some (116, true))⟩,
    ⟨(some 119), .bin .eql (.t 117) (.t 118), (some (116, true))⟩,
    ⟨(some 120), .pick (.t 116) (.t 119) (.k (.c (.d (.bool false)))), none⟩,
    ⟨(some 121), .mv (.t 120), none⟩,
    ⟨(some 122), .mv (.t 11), (some (121, true))⟩,
    ⟨(some 123), .mv (.t 13), (some (121, true))⟩,
    ⟨(some 124), .call 24 [(.t 122), (.t 123)] none, (some (121, true))⟩,
    ⟨(some 125), .pick (.t 121) (.t 124) (.k (.c (.d (.bool false)))), none⟩,
    ⟨(some 126), .mv (.t 125), none⟩,
    ⟨(some 127), .mv (.t 16), (some (126, true))⟩,
    ⟨(some 128), .mv (.t 18), (some (126, true))⟩,
    ⟨(some 129), .bin .eql (.t 127) (.t 128), (some (126, true))⟩,
    ⟨(some 130), .pick (.t 126) (.t 129) (.k (.c (.d (.bool false)))), none⟩,
    ⟨(some 131), .mv (.t 130), none⟩,
    ⟨(some 132), .mv (.t 15), (some (131, true))⟩,
    ⟨(some 133), .mv (.t 17), (some (131, true))⟩,
    ⟨(some 134), .call 24 [(.t 132), (.t 133)] none, (some (131, true))⟩,
    ⟨(some 135), .pick (.t 131) (.t 134) (.k (.c (.d (.bool false)))), none⟩,
    ⟨(some 6), .mv (.t 135), none⟩])
  (.ret)))))))))),
  [(6, none)]⟩
theorem cf_tacts : compFn Tryd.prog { own := [], comp := [], frz := [], nils := [] } Tryd.f3 = some sf_tacts := by kernel_rfl
set_option maxHeartbeats 1600000 in
theorem tacts_c (G : Glob) (l : List (List UInt8)) (hl1 : l.length ≤ maxLen) (hl2 : ∀ x ∈ l, x.length ≤ maxLen) (i : Int) (hi1 : -9223372036854775808 ≤ i) (hi2 : i ≤ 9223372036854775807) (m : Int) (hm1 : -9223372036854775808 ≤ m) (hm2 : m ≤ 9223372036854775807) (hF : G.at 0 = some (.ra (firstK.map wD))) (hG : G.at 1 = some (.ra (constK.map wD))) : Den Tryd.prog G 3 [.sl (l.map fun l => D.sl (l.map bD)), .int .i64 i, .int .i64 m] (.w (.c (.d (.bool true)))) := by
  refine den_walk Tryd.func3 cf_tacts rfl rfl ?_
  have hm : maxLen ≤ 9223372036854775807 := by decide
  have hx : ∀ x ∈ l, x.length ≤ 9223372036854775807 := fun x hx => Nat.le_trans (hl2 x hx) hm
  have hl := lig_c G l (by omega) hx
  cases h : lightL l
  · rw [h] at hl
    simp only [sf_tacts, putAll, wx, wy, wz, stV, seval, IntWalk.iteOmega, IntWalk.toNatUp, reduceCtorEq]
    refine st_call (hl) rfl (.inl rfl) ?_
    simp only [wx, wy, wz, stV, seval, IntWalk.iteOmega, IntWalk.toNatUp, reduceCtorEq]
    refine st_call (known7_c G hF hG) rfl (.inl rfl) ?_
    simp only [wx, wy, wz, stV, seval, IntWalk.iteOmega, IntWalk.toNatUp, reduceCtorEq]
    exact ret_d1 (by simp only [wx, wy, wz, stV, seval, IntWalk.iteOmega, IntWalk.toNatUp, reduceCtorEq])
  · rw [h] at hl
    obtain ⟨q1, q2⟩ := lightL_ok h
    have q3 : ∀ x ∈ l, x.length ≤ 1000000000 := fun x hx => Nat.le_trans (q2 x hx) (by decide)
    have p1 := pathV_le l i
    have p2 := consV_le l m
    simp only [sf_tacts, putAll, wx, wy, wz, stV, seval, IntWalk.iteOmega, IntWalk.toNatUp, reduceCtorEq]
    refine st_call (hl) rfl (.inl rfl) ?_
    simp only [wx, wy, wz, stV, seval, IntWalk.iteOmega, IntWalk.toNatUp, reduceCtorEq]
    refine st_call (root_c G hF hG l (by omega) q3) rfl (.inl rfl) ?_
    simp only [wx, wy, wz, stV, seval, IntWalk.iteOmega, IntWalk.toNatUp, reduceCtorEq]
    refine st_call (rroot_c G hF hG l (by omega) q3) rfl (.inl rfl) ?_
    simp only [wx, wy, wz, stV, seval, IntWalk.iteOmega, IntWalk.toNatUp, reduceCtorEq]
    refine st_call (path_c G hF hG l i (by omega) q3) rfl (.inl rfl) ?_
    simp only [wx, wy, wz, stV, seval, IntWalk.iteOmega, IntWalk.toNatUp, reduceCtorEq]
    refine st_call (rpath_c G hF hG l i (by omega) q3) rfl (.inl rfl) ?_
    simp only [wx, wy, wz, stV, seval, IntWalk.iteOmega, IntWalk.toNatUp, reduceCtorEq]
    refine st_call (cons_c G hF hG l m (by omega) q3) rfl (.inl rfl) ?_
    simp only [wx, wy, wz, stV, seval, IntWalk.iteOmega, IntWalk.toNatUp, reduceCtorEq]
    refine st_call (rcons_c G hF hG l m (by omega) q3) rfl (.inl rfl) ?_
    simp only [wx, wy, wz, stV, seval, IntWalk.iteOmega, IntWalk.toNatUp, reduceCtorEq]
    refine loop_st (taSt l i m) (fun j => 4 - j) (fun j => j ≤ 3) 0 (Nat.zero_le _) ?_ ?_
    · refine ent_l (fun i => i) ?_ ?_ rfl rfl <;> simp only [wx, wex, wez, stV, seval, IntWalk.iteOmega, IntWalk.toNatUp, reduceCtorEq] <;> rfl
    · intro j hj
      have fin : ∀ {K : Prop}, K → K := fun h => h
      by_cases hlt : j + 1 < l.length
      · by_cases h3 : j < 3
        · have g1 := getLs (l := l) (j := j) (by omega)
          have g2 := getLs (l := l) (j := j + 1) (by omega)
          have x1 := q3 _ (getLs_mem (l := l) (j := j) (by omega))
          have x2 := q3 _ (getLs_mem (l := l) (j := j + 1) (by omega))
          simp only [lp_tacts_0, taSt, wx, wy, wz, stV, seval, IntWalk.iteOmega, IntWalk.toNatUp, reduceCtorEq, get_map, g1]
          refine st_call (leaf_c G hF hG (l.getD j []) x1) rfl (.inl rfl) ?_
          simp only [get_map, g1, wx, wy, wz, stV, seval, IntWalk.iteOmega, IntWalk.toNatUp, reduceCtorEq]
          refine st_call (rleaf_c G hF hG (l.getD j []) x1) rfl (.inl rfl) ?_
          simp only [wx, wy, wz, stV, seval, IntWalk.iteOmega, IntWalk.toNatUp, reduceCtorEq]
          refine st_call (rsame_c G (leafM (l.getD j [])) (leafM (l.getD j []))) rfl (.inl rfl) ?_
          simp only [get_map, g1, g2, wx, wy, wz, stV, seval, IntWalk.iteOmega, IntWalk.toNatUp, reduceCtorEq]
          refine st_call (node_c G hF hG (l.getD j []) (l.getD (j + 1) []) x1 x2) rfl (.inl rfl) ?_
          simp only [get_map, g1, g2, wx, wy, wz, stV, seval, IntWalk.iteOmega, IntWalk.toNatUp, reduceCtorEq]
          refine st_call (rnode_c G hF hG (l.getD j []) (l.getD (j + 1) []) x1 x2) rfl (.inl rfl) ?_
          simp only [wx, wy, wz, stV, seval, IntWalk.iteOmega, IntWalk.toNatUp, reduceCtorEq]
          refine st_call (rsame_c G (nodeM (l.getD j []) (l.getD (j + 1) [])) (nodeM (l.getD j []) (l.getD (j + 1) []))) rfl (.inl rfl) ?_
          simp only [wx, wy, wz, stV, seval, IntWalk.iteOmega, IntWalk.toNatUp, reduceCtorEq]
          refine lop_next (j + 1) (by omega) (by omega) (ent_l (fun i => i) ?_ ?_ rfl rfl) <;> simp only [wx, wex, wez, stV, seval, IntWalk.iteOmega, IntWalk.toNatUp, reduceCtorEq]
        · simp only [lp_tacts_0, taSt, wx, wy, wz, stV, seval, IntWalk.iteOmega, IntWalk.toNatUp, reduceCtorEq]
          refine st_call (known7_c G hF hG) rfl (.inl rfl) ?_
          simp only [wx, wy, wz, stV, seval, IntWalk.iteOmega, IntWalk.toNatUp, reduceCtorEq]
          refine st_call (rsame_c G (rootV l) (rootV l)) rfl (.inl rfl) ?_
          simp only [wx, wy, wz, stV, seval, IntWalk.iteOmega, IntWalk.toNatUp, reduceCtorEq]
          refine st_call (sls_c G (pathV l i) (pathV l i) (by omega) (by omega)) rfl (.inl rfl) ?_
          simp only [wx, wy, wz, stV, seval, IntWalk.iteOmega, IntWalk.toNatUp, reduceCtorEq]
          refine st_call (sls_c G (consV l m) (consV l m) (by omega) (by omega)) rfl (.inl rfl) ?_
          simp only [wx, wy, wz, stV, seval, IntWalk.iteOmega, IntWalk.toNatUp, reduceCtorEq]
          exact ret_d1 (by simp only [wx, wy, wz, stV, seval, IntWalk.iteOmega, IntWalk.toNatUp, reduceCtorEq])
      · simp only [lp_tacts_0, taSt, wx, wy, wz, stV, seval, IntWalk.iteOmega, IntWalk.toNatUp, reduceCtorEq]
        refine st_call (known7_c G hF hG) rfl (.inl rfl) ?_
        simp only [wx, wy, wz, stV, seval, IntWalk.iteOmega, IntWalk.toNatUp, reduceCtorEq]
        refine st_call (rsame_c G (rootV l) (rootV l)) rfl (.inl rfl) ?_
        simp only [wx, wy, wz, stV, seval, IntWalk.iteOmega, IntWalk.toNatUp, reduceCtorEq]
        refine st_call (sls_c G (pathV l i) (pathV l i) (by omega) (by omega)) rfl (.inl rfl) ?_
        simp only [wx, wy, wz, stV, seval, IntWalk.iteOmega, IntWalk.toNatUp, reduceCtorEq]
        refine st_call (sls_c G (consV l m) (consV l m) (by omega) (by omega)) rfl (.inl rfl) ?_
        simp only [wx, wy, wz, stV, seval, IntWalk.iteOmega, IntWalk.toNatUp, reduceCtorEq]
        exact ret_d1 (by simp only [wx, wy, wz, stV, seval, IntWalk.iteOmega, IntWalk.toNatUp, reduceCtorEq])
def sf_tchks : SFn := ⟨7, 95,
  .seq (.reg [⟨(some 14), .mv (.k (.c (.d (.bool false)))), none⟩])
  (.seq (.seq (.reg [⟨(some 19), .mv (.t 0), none⟩,
    ⟨(some 20), .len (.t 19), none⟩,
    ⟨(some 21), .bin .gtr (.t 20) (.k (.c (.d (.int .i64 60)))), none⟩,
    ⟨(some 22), .mv (.t 21), none⟩,
    ⟨(some 23), .mv (.t 3), (some (22, false))⟩,
    ⟨(some 24), .len (.t 23), (some (22, false))⟩,
    ⟨(some 25), .bin .gtr (.t 24) (.k (.c (.d (.int .i64 60)))), (some (22, false))⟩,
    ⟨(some 26), .pick (.t 22) (.k (.c (.d (.bool true)))) (.t 25), none⟩,
    ⟨(some 27), .mv (.t 26), none⟩,
    ⟨(some 28), .mv (.t 6), (some (27, false))⟩,
    ⟨(some 29), .len (.t 28), (some (27, false))⟩,
    ⟨(some 30), .bin .gtr (.t 29) (.k (.c (.d (.int .i64 60)))), (some (27, false))⟩,
    ⟨(some 31), .pick (.t 27) (.k (.c (.d (.bool true)))) (.t 30), none⟩,
    ⟨(some 32), .mv (.t 31), none⟩,
    ⟨(some 33), .mv (.t 4), (some (32, false))⟩,
    ⟨(some 34), .call 11 [(.t 33), (.k (.c (.d (.int .i64 20))))] none, (some (32, false))⟩,
    ⟨(some 35), .un .not (.t 34), (some (32, false))⟩,
    ⟨(some 36), .pick (.t 32) (.k (.c (.d (.bool true)))) (.t 35), none⟩])
  (.cond (.t 36) (.seq (.reg [⟨(some 37), .call 12 [] none, none⟩,
     ⟨(some 14), .mv (.t 37), none⟩])
   (.ret))
   (.skip)))
  (.seq (.reg [⟨(some 39), .mv (.t 1), none⟩,
    ⟨(some 40), .mv (.t 2), none⟩,
    ⟨(some 41), .mv (.t 3), none⟩,
    ⟨(some 42), .mv (.t 4), none⟩,
    ⟨(some 43), .call 25 [(.t 39), (.t 40), (.t 41), (.t 42)] none, none⟩,
    ⟨(some 38), .mv (.t 43), none⟩,
    ⟨(some 44), .extract (.t 38) 0, none⟩,
    ⟨(some 45), .extract (.t 38) 1, none⟩,
    ⟨(some 15), .mv (.t 44), none⟩,
    ⟨(some 16), .mv (.t 45), none⟩])
  (.seq (.reg [⟨(some 47), .mv (.t 1), none⟩,
    ⟨(some 48), .mv (.t 2), none⟩,
    ⟨(some 49), .mv (.t 3), none⟩,
    ⟨(some 50), .mv (.t 4), none⟩,
    ⟨(some 51), .call 26 [(.t 47), (.t 48), (.t 49), (.t 50)] none, none⟩,
    ⟨(some 46), .mv (.t 51), none⟩,
    ⟨(some 52), .extract (.t 46) 0, none⟩,
    ⟨(some 53), .extract (.t 46) 1, none⟩,
    ⟨(some 17), .mv (.t 52), none⟩,
    ⟨(some 18), .mv (.t 53), none⟩])
  (.seq (.reg [⟨(some 54), .call 12 [] none, none⟩,
    ⟨(some 55), .mv (.t 54), none⟩,
    ⟨(some 56), .mv (.t 16), (some (55, true))⟩,
    ⟨(some 57), .mv (.t 18), (some (55, true))⟩,
    ⟨(some 58), .eqB false (.t 56) (.t 57), (some (55, true))⟩,
    ⟨(some 59), .pick (.t 55) (.t 58) (.k (.c (.d (.bool false)))), none⟩,
    ⟨(some 60), .mv (.t 59), none⟩,
    ⟨(some 61), .mv (.t 15), (some (60, true))⟩,
    ⟨(some 62), .mv (.t 17), (some (60, true))⟩,
    ⟨(some 63), .call 19 [(.t 61), (.t 62)] none, (some (60, true))⟩,
    ⟨(some 64), .pick (.t 60) (.t 63) (.k (.c (.d (.bool false)))), none⟩,
    ⟨(some 65), .mv (.t 64), none⟩,
    ⟨(some 66), .mv (.t 0), (some (65, true))⟩,
    ⟨(some 67), .mv (.t 1), (some (65, true))⟩,
    ⟨(some 68), .mv (.t 2), (some (65, true))⟩,
    ⟨(some 69), .mv (.t 3), (some (65, true))⟩,
    ⟨(some 70), .mv (.t 4), (some (65, true))⟩,
    ⟨(some 71), .call 27 [(.t 66), (.t 67), (.t 68), (.t 69), (.t 70)] none, (some (65, true))⟩,
    ⟨(some 72), .mv (.t 0), (some (65, true))⟩,
    ⟨(some 73), .mv (.t 1), (some (65, true))⟩,
    ⟨(some 74), .mv (.t 2), (some (65, true))⟩,
    ⟨(some 75), .mv (.t 3), (some (65, true))⟩,
    ⟨(some 76), .mv (.t 4), (some (65, true))⟩,
    ⟨(some 77), .call 28 [(.t 72), (.t 73), (.t 74), (.t 75), (.t 76)] none, (some (65, true))⟩,
    ⟨(some 78), .eqB false (.t 71) (.t 77), (some (65, true))⟩,
    ⟨(some 79), .pick (.t 65) (.t 78) (.k (.c (.d (.bool false)))), none⟩,
    ⟨(some 80), .mv (.t 79), none⟩,
    ⟨(some 81), .mv (.t 6), (some (80, true))⟩,
    ⟨(some 82), .mv (.t 5), (some (80, true))⟩,
    ⟨(some 83), .mv (.t 0), (some (80, true))⟩,
    ⟨(some 84), .mv (.t 1), (some (80, true))⟩,
    ⟨(some 85), .mv (.t 4), (some (80, true))⟩,
    ⟨(some 86), .call 29 [(.t 81), (.t 82), (.t 83), (.t 84), (.t 85)] none, (some (80, true))⟩,
    ⟨(some 87), .mv (.t 6), (some (80, true))⟩,
    ⟨(some 88), .mv (.t 5), (some (80, true))⟩,
    ⟨(some 89), .mv (.t 0), (some (80, true))⟩,
    ⟨(some 90), .mv (.t 1), (some (80, true))⟩,
    ⟨(some 91), .mv (.t 4), (some (80, true))⟩,
    ⟨(some 92), .call 30 [(.t 87), (.t 88), (.t 89), (.t 90), (.t 91)] none, (some (80, true))⟩,
    ⟨(some 93), .eqB false (.t 86) (.t 92), (some (80, true))⟩,
    ⟨(some 94), .pick (.t 80) (.t 93) (.k (.c (.d (.bool false)))), none⟩,
    ⟨(some 14), .mv (.t 94), none⟩])
  (.ret))))),
  [(14, none)]⟩
theorem cf_tchks : compFn Tryd.prog { own := [], comp := [], frz := [], nils := [] } Tryd.f4 = some sf_tchks := by kernel_rfl
set_option maxHeartbeats 1600000 in
theorem tchks_c (G : Glob) (root : List UInt8) (hroot : root.length ≤ maxLen) (n : Int) (hn1 : -9223372036854775808 ≤ n) (hn2 : n ≤ 9223372036854775807) (i : Int) (hi1 : -9223372036854775808 ≤ i) (hi2 : i ≤ 9223372036854775807) (leaf : List UInt8) (hleaf : leaf.length ≤ maxLen) (path : List (List UInt8)) (hpath1 : path.length ≤ maxLen) (hpath2 : ∀ x ∈ path, x.length ≤ maxLen) (m : Int) (hm1 : -9223372036854775808 ≤ m) (hm2 : m ≤ 9223372036854775807) (old : List UInt8) (hold : old.length ≤ maxLen) (hF : G.at 0 = some (.ra (firstK.map wD))) (hG : G.at 1 = some (.ra (constK.map wD))) : Den Tryd.prog G 4 [.sl (root.map bD), .int .i64 n, .int .i64 i, .sl (leaf.map bD), .sl (path.map fun l => D.sl (l.map bD)), .int .i64 m, .sl (old.map bD)] (.w (.c (.d (.bool true)))) := by
  refine den_walk Tryd.func4 cf_tchks rfl rfl ?_
  have hm : maxLen ≤ 9223372036854775807 := by decide
  have hx : ∀ x ∈ path, x.length ≤ 9223372036854775807 := fun x hx => Nat.le_trans (hpath2 x hx) hm
  have hl := lig_c G path (by omega) hx
  by_cases k1 : 60 < root.length
  · simp only [sf_tchks, putAll, wx, wy, wz, stV, seval, IntWalk.iteOmega, IntWalk.toNatUp, reduceCtorEq]
    refine st_call (known7_c G hF hG) rfl (.inl rfl) ?_
    simp only [wx, wy, wz, stV, seval, IntWalk.iteOmega, IntWalk.toNatUp, reduceCtorEq]
    exact ret_d1 (by simp only [wx, wy, wz, stV, seval, IntWalk.iteOmega, IntWalk.toNatUp, reduceCtorEq])
  · by_cases k2 : 60 < leaf.length
    · simp only [sf_tchks, putAll, wx, wy, wz, stV, seval, IntWalk.iteOmega, IntWalk.toNatUp, reduceCtorEq]
      refine st_call (known7_c G hF hG) rfl (.inl rfl) ?_
      simp only [wx, wy, wz, stV, seval, IntWalk.iteOmega, IntWalk.toNatUp, reduceCtorEq]
      exact ret_d1 (by simp only [wx, wy, wz, stV, seval, IntWalk.iteOmega, IntWalk.toNatUp, reduceCtorEq])
    · by_cases k3 : 60 < old.length
      · simp only [sf_tchks, putAll, wx, wy, wz, stV, seval, IntWalk.iteOmega, IntWalk.toNatUp, reduceCtorEq]
        refine st_call (known7_c G hF hG) rfl (.inl rfl) ?_
        simp only [wx, wy, wz, stV, seval, IntWalk.iteOmega, IntWalk.toNatUp, reduceCtorEq]
        exact ret_d1 (by simp only [wx, wy, wz, stV, seval, IntWalk.iteOmega, IntWalk.toNatUp, reduceCtorEq])
      · cases h : lightL path
        · rw [h] at hl
          simp only [sf_tchks, putAll, wx, wy, wz, stV, seval, IntWalk.iteOmega, IntWalk.toNatUp, reduceCtorEq]
          refine st_call (hl) rfl (.inl rfl) ?_
          simp only [wx, wy, wz, stV, seval, IntWalk.iteOmega, IntWalk.toNatUp, reduceCtorEq]
          refine st_call (known7_c G hF hG) rfl (.inl rfl) ?_
          simp only [wx, wy, wz, stV, seval, IntWalk.iteOmega, IntWalk.toNatUp, reduceCtorEq]
          exact ret_d1 (by simp only [wx, wy, wz, stV, seval, IntWalk.iteOmega, IntWalk.toNatUp, reduceCtorEq])
        · rw [h] at hl
          obtain ⟨q1, q2⟩ := lightL_ok h
          have q3 : ∀ x ∈ path, x.length ≤ 1000000000 := fun x hx => Nat.le_trans (q2 x hx) (by decide)
          simp only [sf_tchks, putAll, wx, wy, wz, stV, seval, IntWalk.iteOmega, IntWalk.toNatUp, reduceCtorEq]
          refine st_call (hl) rfl (.inl rfl) ?_
          simp only [wx, wy, wz, stV, seval, IntWalk.iteOmega, IntWalk.toNatUp, reduceCtorEq]
          refine st_call (clm_c G hF hG n i leaf path (by omega) (by omega) q3) rfl (.inl rfl) ?_
          simp only [wx, wy, wz, stV, seval, IntWalk.iteOmega, IntWalk.toNatUp, reduceCtorEq]
          refine st_call (rclm_c G hF hG n i leaf path (by omega) (by omega) q3) rfl (.inl rfl) ?_
          simp only [wx, wy, wz, stV, seval, IntWalk.iteOmega, IntWalk.toNatUp, reduceCtorEq]
          refine st_call (known7_c G hF hG) rfl (.inl rfl) ?_
          simp only [wx, wy, wz, stV, seval, IntWalk.iteOmega, IntWalk.toNatUp, reduceCtorEq]
          refine st_call (rsame_c G (climbV n i leaf path) (climbV n i leaf path)) rfl (.inl rfl) ?_
          simp only [wx, wy, wz, stV, seval, IntWalk.iteOmega, IntWalk.toNatUp, reduceCtorEq]
          refine st_call (chkt_c G hF hG root n i leaf path (by omega) (by omega) q3) rfl (.inl rfl) ?_
          simp only [wx, wy, wz, stV, seval, IntWalk.iteOmega, IntWalk.toNatUp, reduceCtorEq]
          refine st_call (rchkt_c G hF hG root n i leaf path (by omega) (by omega) q3) rfl (.inl rfl) ?_
          simp only [wx, wy, wz, stV, seval, IntWalk.iteOmega, IntWalk.toNatUp, reduceCtorEq]
          refine st_call (chkg_c G hF hG old m root n path (by omega) (by omega) q3) rfl (.inl rfl) ?_
          simp only [wx, wy, wz, stV, seval, IntWalk.iteOmega, IntWalk.toNatUp, reduceCtorEq]
          refine st_call (rchkg_c G hF hG old m root n path (by omega) (by omega) q3) rfl (.inl rfl) ?_
          simp only [wx, wy, wz, stV, seval, IntWalk.iteOmega, IntWalk.toNatUp, reduceCtorEq]
          exact ret_d1 (by simp only [wx, wy, wz, stV, seval, IntWalk.iteOmega, IntWalk.toNatUp, reduceCtorEq])
theorem rootV_ok {l : List (List UInt8)} (h : l.length ≤ 1024) : rootV l = rootM l ∧ rootE l = 0 := ⟨if_neg (by omega), if_neg (by omega)⟩
theorem pathV_ok {l : List (List UInt8)} {i : Nat} (h : l.length ≤ 1024) (hi : i < l.length) : pathV l (i : Int) = pathM l i ∧ pathE l (i : Int) = 0 := by
  have hE : pathE l (i : Int) = 0 := by unfold pathE; rw [if_neg (by omega), if_neg (by omega)]
  exact ⟨if_pos hE, hE⟩
theorem consV_ok {l : List (List UInt8)} {m : Nat} (h : l.length ≤ 1024) (h0 : 1 ≤ m) (hi : m ≤ l.length) : consV l (m : Int) = proofM m l true ∧ consE l (m : Int) = 0 := by
  have hE : consE l (m : Int) = 0 := by unfold consE; rw [if_neg (by omega), if_neg (by omega)]
  exact ⟨if_pos hE, hE⟩
theorem path_big {l : List (List UInt8)} : ∀ (n : Nat) (l : List (List UInt8)) (i : Nat), l.length = n → ∀ x ∈ pathM l i, x.length = 32 := by
  intro n
  induction n using Nat.strongRecOn with
  | _ n ih =>
    intro l i hl x hx
    subst hl
    by_cases h : 2 ≤ l.length
    · have h1 := split_pos l.length
      have h2 := split_lt h
      by_cases hi : i < splitN l.length
      · rw [path_lo h hi, List.mem_append] at hx
        rcases hx with hx | hx
        · exact ih _ h2 _ i (by rw [List.length_take]; omega) x hx
        · rw [List.mem_singleton] at hx; subst hx; exact rootM_len _
      · rw [path_hi h hi, List.mem_append] at hx
        rcases hx with hx | hx
        · exact ih (l.length - splitN l.length) (by omega) _ _ List.length_drop x hx
        · rw [List.mem_singleton] at hx; subst hx; exact rootM_len _
    · rw [path_1 (by omega)] at hx; cases hx
theorem proof_big : ∀ (n : Nat) (l : List (List UInt8)) (m : Nat) (whole : Bool), l.length = n → 1 ≤ m → m ≤ n → ∀ x ∈ proofM m l whole, x.length = 32 := by
  intro n
  induction n using Nat.strongRecOn with
  | _ n ih =>
    intro l m whole hl h0 h x hx
    subst hl
    by_cases hm : m = l.length
    · rw [proof_all hm] at hx
      split at hx
      · cases hx
      · rw [List.mem_singleton] at hx; subst hx; exact rootM_len _
    · have h1 := split_pos l.length
      have h2 := split_lt (n := l.length) (by omega)
      by_cases hk : m ≤ splitN l.length
      · rw [proof_lo h0 (by omega) hk, List.mem_append] at hx
        rcases hx with hx | hx
        · exact ih _ h2 _ m whole (by rw [List.length_take]; omega) h0 hk x hx
        · rw [List.mem_singleton] at hx; subst hx; exact rootM_len _
      · rw [proof_hi h0 (by omega) hk, List.mem_append] at hx
        rcases hx with hx | hx
        · exact ih (l.length - splitN l.length) (by omega) _ _ false List.length_drop (by omega) (by omega) x hx
        · rw [List.mem_singleton] at hx; subst hx; exact rootM_len _
theorem check_path {l : List (List UInt8)} {i : Nat} (h : l.length ≤ 1024) (hi : i < l.length) : climbO (l.length : Int) (i : Int) (pathM l i) = true ∧ climbV (l.length : Int) (i : Int) (l.getD i []) (pathM l i) = rootM l ∧ checkB (rootM l) (l.length : Int) (i : Int) (l.getD i []) (pathM l i) = true := by
  have hO : climbO (l.length : Int) (i : Int) (pathM l i) = true := decide_eq_true ⟨by omega, by omega, by omega, by omega, by rw [path_len _ l i rfl hi]; rfl⟩
  have hV : climbV (l.length : Int) (i : Int) (l.getD i []) (pathM l i) = rootM l := by unfold climbV; rw [if_pos hO]; exact climb_path _ l i rfl hi
  refine ⟨hO, hV, ?_⟩
  unfold checkB
  rw [hO, hV]
  simp
theorem check_grown {l : List (List UInt8)} {m : Nat} (h : l.length ≤ 1024) (h0 : 1 ≤ m) (hm : m ≤ l.length) : cgB (rootM (l.take m)) (m : Int) (rootM l) (l.length : Int) (proofM m l true) = true := by
  unfold cgB
  have e0 : ((m : Int).toNat) = m := rfl
  have e1 : ((l.length : Int).toNat) = l.length := rfl
  rw [e0, e1, decide_eq_true ⟨by omega, by omega, by omega⟩, decide_eq_true (proof_len _ l m true rfl h0 hm), grown_proof _ l m true _ rfl h0 hm (fun _ => rfl)]
  simp
def sf_tpaths : SFn := ⟨3, 73,
  .seq (.reg [⟨(some 6), .mv (.k (.c (.d (.bool false)))), none⟩])
  (.seq (.reg [⟨(some 14), .mv (.t 1), none⟩,
    ⟨(some 15), .call 31 [(.t 14), (.k (.c (.d (.int .i64 24))))] none, none⟩,
    ⟨(some 16), .bin .add (.k (.c (.d (.int .i64 1)))) (.t 15), none⟩,
    ⟨(some 1), .mv (.t 16), none⟩])
  (.seq (.reg [⟨(some 17), .mv (.t 0), none⟩,
    ⟨(some 18), .mv (.t 1), none⟩,
    ⟨(some 19), .call 32 [(.t 17), (.t 18)] none, none⟩,
    ⟨(some 7), .mv (.t 19), none⟩])
  (.seq (.reg [⟨(some 20), .mv (.t 2), none⟩,
    ⟨(some 21), .mv (.t 1), none⟩,
    ⟨(some 22), .call 31 [(.t 20), (.t 21)] none, none⟩,
    ⟨(some 2), .mv (.t 22), none⟩])
  (.seq (.reg [⟨(some 24), .mv (.t 7), none⟩,
    ⟨(some 25), .call 13 [(.t 24)] none, none⟩,
    ⟨(some 23), .mv (.t 25), none⟩,
    ⟨(some 26), .extract (.t 23) 0, none⟩,
    ⟨(some 27), .extract (.t 23) 1, none⟩,
    ⟨(some 8), .mv (.t 26), none⟩,
    ⟨(some 9), .mv (.t 27), none⟩])
  (.seq (.reg [⟨(some 29), .mv (.t 7), none⟩,
    ⟨(some 30), .mv (.t 2), none⟩,
    ⟨(some 31), .call 15 [(.t 29), (.t 30)] none, none⟩,
    ⟨(some 28), .mv (.t 31), none⟩,
    ⟨(some 32), .extract (.t 28) 0, none⟩,
    ⟨(some 33), .extract (.t 28) 1, none⟩,
    ⟨(some 10), .mv (.t 32), none⟩,
    ⟨(some 11), .mv (.t 33), none⟩])
  (.seq (.reg [⟨(some 35), .mv (.t 1), none⟩,
    ⟨(some 36), .mv (.t 2), none⟩,
    ⟨(some 37), .mv (.t 7), none⟩,
    ⟨(some 38), .mv (.t 2), none⟩,
    ⟨(some 39), .idxSl 1 (.t 37) (.t 38), none⟩,
    ⟨(some 40), .load .sc (.t 39), none⟩,
    ⟨(some 41), .mv (.t 10), none⟩,
    ⟨(some 42), .call 25 [(.t 35), (.t 36), (.t 40), (.t 41)] none, none⟩,
    ⟨(some 34), .mv (.t 42), none⟩,
    ⟨(some 43), .extract (.t 34) 0, none⟩,
    ⟨(some 44), .extract (.t 34) 1, none⟩,
    ⟨(some 12), .mv (.t 43), none⟩,
    ⟨(some 13), .mv (.t 44), none⟩])
  (.seq (.reg [⟨(some 45), .call 12 [] none, none⟩,
    ⟨(some 46), .mv (.t 45), none⟩,
    ⟨(some 47), .mv (.t 9), (some (46, true))⟩,
    ⟨(some 48), .bin .eql (.t 47) (.k (.c (.d (.int .i64 0)))), (some (46, true))⟩,
    ⟨(some 49), .pick (.t 46) (.t 48) (.k (.c (.d (.bool false)))), none⟩,
    ⟨(some 50), .mv (.t 49), none⟩,
    ⟨(some 51), .mv (.t 11), (some (50, true))⟩,
    ⟨(some 52), .bin .eql (.t 51) (.k (.c (.d (.int .i64 0)))), (some (50, true))⟩,
    ⟨(some 53), .pick (.t 50) (.t 52) (.k (.c (.d (.bool false)))), none⟩,
    ⟨(some 54), .mv (.t 53), none⟩,
    ⟨(some 55), .mv (.t 13), (some (54, true))⟩,
    ⟨(some 56), .pick (.t 54) (.t 55) (.k (.c (.d (.bool false)))), none⟩,
    ⟨(some 57), .mv (.t 56), none⟩,
    ⟨(some 58), .mv (.t 12), (some (57, true))⟩,
    ⟨(some 59), .mv (.t 8), (some (57, true))⟩,
    ⟨(some 60), .call 19 [(.t 58), (.t 59)] none, (some (57, true))⟩,
    ⟨(some 61), .pick (.t 57) (.t 60) (.k (.c (.d (.bool false)))), none⟩,
    ⟨(some 62), .mv (.t 61), none⟩,
    ⟨(some 63), .mv (.t 8), (some (62, true))⟩,
    ⟨(some 64), .mv (.t 1), (some (62, true))⟩,
    ⟨(some 65), .mv (.t 2), (some (62, true))⟩,
    ⟨(some 66), .mv (.t 7), (some (62, true))⟩,
    ⟨(some 67), .mv (.t 2), (some (62, true))⟩,
    ⟨(some 68), .idxSl 1 (.t 66) (.t 67), (some (62, true))⟩,
    ⟨(some 69), .load .sc (.t 68), (some (62, true))⟩,
    ⟨(some 70), .mv (.t 10), (some (62, true))⟩,
    ⟨(some 71), .call 27 [(.t 63), (.t 64), (.t 65), (.t 69), (.t 70)] none, (some (62, true))⟩,
    ⟨(some 72), .pick (.t 62) (.t 71) (.k (.c (.d (.bool false)))), none⟩,
    ⟨(some 6), .mv (.t 72), none⟩])
  (.ret)))))))),
  [(6, none)]⟩
theorem cf_tpaths : compFn Tryd.prog { own := [], comp := [], frz := [], nils := [] } Tryd.f5 = some sf_tpaths := by kernel_rfl
set_option maxHeartbeats 1600000 in
theorem tpaths_c (G : Glob) (seed : Int) (hseed1 : -9223372036854775808 ≤ seed) (hseed2 : seed ≤ 9223372036854775807) (n : Int) (hn1 : -9223372036854775808 ≤ n) (hn2 : n ≤ 9223372036854775807) (i : Int) (hi1 : -9223372036854775808 ≤ i) (hi2 : i ≤ 9223372036854775807) (hF : G.at 0 = some (.ra (firstK.map wD))) (hG : G.at 1 = some (.ra (constK.map wD))) : Den Tryd.prog G 5 [.int .i64 seed, .int .i64 n, .int .i64 i] (.w (.c (.d (.bool true)))) := by
  refine den_walk Tryd.func5 cf_tpaths rfl rfl ?_
  have r1 := withinN_range n 24 (by decide)
  have e1 := within_c G n 24 (by decide)
  obtain ⟨k, hk⟩ := Int.eq_ofNat_of_zero_le r1.1
  rw [hk] at r1 e1
  have r2 := withinN_range i ((k + 1 : Nat) : Int) (by omega)
  have e2 := within_c G i ((k + 1 : Nat) : Int) (by omega)
  obtain ⟨j, hj⟩ := Int.eq_ofNat_of_zero_le r2.1
  rw [hj] at r2 e2
  have hl := lvs_c G seed (k + 1) (by omega)
  have ll := leavesN_len (withinN seed 1000) (k + 1)
  have lb := leavesN_le (s := withinN seed 1000) (n := k + 1)
  have ek : (1 : Int) + ↑k = ((k + 1 : Nat) : Int) := by omega
  generalize leavesN (withinN seed 1000) (k + 1) = l at *
  rw [← ll] at ek e2 hl r2
  have hjl : j < l.length := by omega
  have g1 := getLs (l := l) (j := j) hjl
  obtain ⟨a1, a2⟩ := rootV_ok (l := l) (by omega)
  obtain ⟨a3, a4⟩ := pathV_ok (l := l) (i := j) (by omega) hjl
  obtain ⟨a5, a6, a7⟩ := check_path (l := l) (i := j) (by omega) hjl
  have b1 := root_c G hF hG l (by omega) lb
  have b2 := path_c G hF hG l j (by omega) lb
  rw [a1, a2] at b1
  rw [a3, a4] at b2
  have pb : ∀ x ∈ pathM l j, x.length ≤ 1000000000 := fun x hx => by rw [path_big (l := l) _ l j rfl x hx]; decide
  have pl : (pathM l j).length ≤ 1024 := by rw [← a3]; exact pathV_le _ _
  have lj := lb _ (getLs_mem hjl)
  have b3 := clm_c G hF hG (l.length : Int) (j : Int) (l.getD j []) (pathM l j) lj (by omega) pb
  have b4 := chkt_c G hF hG (rootM l) (l.length : Int) (j : Int) (l.getD j []) (pathM l j) lj (by omega) pb
  rw [a5, a6] at b3
  rw [a7] at b4
  simp only [sf_tpaths, putAll, wx, wy, wz, stV, seval, IntWalk.iteOmega, IntWalk.toNatUp, reduceCtorEq]
  refine st_call (e1) rfl (.inl rfl) ?_
  simp only [ek, wx, wy, wz, stV, seval, IntWalk.iteOmega, IntWalk.toNatUp, reduceCtorEq]
  refine st_call (hl) rfl (.inl rfl) ?_
  simp only [wx, wy, wz, stV, seval, IntWalk.iteOmega, IntWalk.toNatUp, reduceCtorEq]
  refine st_call (e2) rfl (.inl rfl) ?_
  simp only [wx, wy, wz, stV, seval, IntWalk.iteOmega, IntWalk.toNatUp, reduceCtorEq]
  refine st_call (b1) rfl (.inl rfl) ?_
  simp only [wx, wy, wz, stV, seval, IntWalk.iteOmega, IntWalk.toNatUp, reduceCtorEq]
  refine st_call (b2) rfl (.inl rfl) ?_
  simp only [get_map, g1, wx, wy, wz, stV, seval, IntWalk.iteOmega, IntWalk.toNatUp, reduceCtorEq]
  refine st_call (b3) rfl (.inl rfl) ?_
  simp only [wx, wy, wz, stV, seval, IntWalk.iteOmega, IntWalk.toNatUp, reduceCtorEq]
  refine st_call (known7_c G hF hG) rfl (.inl rfl) ?_
  simp only [wx, wy, wz, stV, seval, IntWalk.iteOmega, IntWalk.toNatUp, reduceCtorEq]
  refine st_call (rsame_c G (rootM l) (rootM l)) rfl (.inl rfl) ?_
  simp only [get_map, g1, wx, wy, wz, stV, seval, IntWalk.iteOmega, IntWalk.toNatUp, reduceCtorEq]
  refine st_call (b4) rfl (.inl rfl) ?_
  simp only [wx, wy, wz, stV, seval, IntWalk.iteOmega, IntWalk.toNatUp, reduceCtorEq]
  exact ret_d1 (by simp only [wx, wy, wz, stV, seval, IntWalk.iteOmega, IntWalk.toNatUp, reduceCtorEq])
end Go.Proofs.YtalilcljonkmaaaDoor
