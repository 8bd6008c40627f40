/- Texts of one's own, merged: from: TopBatches: a signed root of a tree speaks for each of its leaves. Own work. -/
import Derived.Test.YtjgkchmdhicmpaaDoorMt8
import Derived.Test.YtjgkchmdhicmpaaDoorMt11
import Derived.Test.YtjgkchmdhicmpaaDoorMt13
set_option linter.unusedVariables false
set_option linter.unusedSimpArgs false
namespace Go.Proofs.YtjgkchmdhicmpaaDoor
open Go.RowKit

theorem lawL_succ (sd n : Nat) : lawL sd n ++ [xB sd (n % 7)] = lawL sd (n + 1) := by unfold lawL; rw [List.range_succ, List.map_append]; rfl
theorem lawL_take (sd : Nat) {n m : Nat} (h : n ≤ m) : (lawL sd m).take n = lawL sd n := by
  unfold lawL
  rw [← List.map_take, List.take_range, Nat.min_eq_left h]
theorem lawL_get (sd : Nat) {n i : Nat} (h : i < n) : (lawL sd n).getD i [] = xB sd (i % 7) := by
  unfold lawL
  rw [List.getD_eq_getElem?_getD, List.getElem?_map, List.getElem?_range h]; rfl
theorem lawL_mem {sd n : Nat} : ∀ x ∈ lawL sd n, x.length = 20 := by
  intro x hx
  unfold lawL at hx
  obtain ⟨c, _, rfl⟩ := List.mem_map.1 hx
  exact xB_len _ _
/-- What is accepted at a place is the leaf there. -/
theorem check_at {sd n i k : Nat} (hsd : sd < 1000) (hn : n ≤ 9) (hi : i < n) : checkB (rootM (lawL sd n)) (n : Int) (i : Int) (xB sd (k % 7)) (pathM (lawL sd n) i) = (xB sd (i % 7) == xB sd (k % 7)) := by
  have hl := lawL_len sd n
  have hO := (check_path (l := lawL sd n) (i := i) (by omega) (by omega)).1
  have hc := climb_other (l := lawL sd n) (i := i) (by omega) (xB sd (k % 7))
  rw [hl] at hO hc
  have hV : climbV (n : Int) (i : Int) (xB sd (k % 7)) (pathM (lawL sd n) i) = rootM ((lawL sd n).set i (xB sd (k % 7))) := by
    unfold climbV; rw [if_pos hO]; exact hc
  have hself : (lawL sd n).set i (xB sd (i % 7)) = lawL sd n := by
    have h1 := lawL_get sd hi
    rw [List.getD_eq_getElem?_getD, List.getElem?_eq_getElem (by omega : i < (lawL sd n).length)] at h1
    have h1 : (lawL sd n)[i] = xB sd (i % 7) := h1
    rw [← h1]; exact List.set_getElem_self _
  unfold checkB
  rw [hO, hV, Bool.true_and]
  by_cases hk : k % 7 = i % 7
  · rw [hk, hself, beq_self_eq_true, beq_self_eq_true]
  · have hd := root_dif hsd hn hi (Nat.mod_lt k (by decide)) hk
    have hx : xB sd (i % 7) ≠ xB sd (k % 7) := fun e => hd (by rw [← e, hself])
    rw [beq_eq_false_iff_ne.2 hd, beq_eq_false_iff_ne.2 hx]
def tbV : Nat → V
  | 0 => .w (.c .nil)
  | j + 1 => .w (.c (.own 1 1 0 (j + 1)))
def tbH (sd : Nat) : Nat → List (Nat × Ob)
  | 0 => []
  | j + 1 => [(1, .row 1 ((lawL sd (j + 1)).map fun l => D.sl (l.map bD)))]
def tbSt (sd n m i k : Nat) (j : Nat) : St := ⟨ofL [(0, .w (.c (.d (.int .i64 (sd : Int))))), (1, .w (.c (.d (.int .i64 (n : Int))))), (2, .w (.c (.d (.int .i64 (m : Int))))), (3, .w (.c (.d (.int .i64 (i : Int))))), (4, .w (.c (.d (.int .i64 (k : Int))))), (11, tbV j), (12, .w (.c (.d (.int .i64 (j : Int)))))], hL (tbH sd j), uL [1]⟩
theorem tmod7 (a : Nat) : Int.tmod (a : Int) 7 = ((a % 7 : Nat) : Int) := rfl
def lp_topb_0 : SCode :=
  .seq (.seq (.reg [⟨(some 42), .mv (.t 12), none⟩,
    ⟨(some 43), .mv (.t 1), none⟩,
    ⟨(some 44), .mv (.t 2), none⟩,
    ⟨(some 45), .bin .add (.t 43) (.t 44), none⟩,
    ⟨(some 46), .bin .lss (.t 42) (.t 45), none⟩])
  (.cond (.t 46) (.skip)
   (.exit 0)))
  (.seq (.block 1 (.reg [⟨(some 49), .mv (.t 11), none⟩,
     ⟨(some 50), .mv (.t 0), none⟩,
     ⟨(some 51), .mv (.t 12), none⟩,
     ⟨(some 52), .bin .rem (.t 51) (.k (.c (.d (.int .i64 7)))), none⟩,
     ⟨(some 53), .bin .add (.t 50) (.t 52), none⟩,
     ⟨(some 54), .call 27 [(.t 53), (.k (.c (.d (.int .i64 20))))] none, none⟩,
     ⟨(some 55), .bldSl false 1 1 (.sl []) [(0, (.t 54))], none⟩,
     ⟨(some 56), .app false 1 24 (.t 49) (.t 55), none⟩,
     ⟨(some 11), .mv (.t 56), none⟩]))
  (.reg [⟨(some 47), .mv (.t 12), none⟩,
    ⟨(some 48), .bin .add (.t 47) (.k (.c (.d (.int .i64 1)))), none⟩,
    ⟨(some 12), .mv (.t 48), none⟩]))
def sf_topb : SFn := ⟨5, 189,
  .seq (.reg [⟨(some 10), .mv (.k (.c (.d (.bool false)))), none⟩])
  (.seq (.reg [⟨(some 29), .mv (.t 0), none⟩,
    ⟨(some 30), .call 24 [(.t 29), (.k (.c (.d (.int .i64 1000))))] none, none⟩,
    ⟨(some 0), .mv (.t 30), none⟩])
  (.seq (.reg [⟨(some 31), .mv (.t 1), none⟩,
    ⟨(some 32), .call 24 [(.t 31), (.k (.c (.d (.int .i64 9))))] none, none⟩,
    ⟨(some 33), .bin .add (.k (.c (.d (.int .i64 1)))) (.t 32), none⟩,
    ⟨(some 34), .mv (.t 2), none⟩,
    ⟨(some 35), .call 24 [(.t 34), (.k (.c (.d (.int .i64 6))))] none, none⟩,
    ⟨(some 1), .mv (.t 33), none⟩,
    ⟨(some 2), .mv (.t 35), none⟩])
  (.seq (.reg [⟨(some 36), .mv (.t 3), none⟩,
    ⟨(some 37), .mv (.t 1), none⟩,
    ⟨(some 38), .call 24 [(.t 36), (.t 37)] none, none⟩,
    ⟨(some 39), .mv (.t 4), none⟩,
    ⟨(some 40), .mv (.t 1), none⟩,
    ⟨(some 41), .call 24 [(.t 39), (.t 40)] none, none⟩,
    ⟨(some 3), .mv (.t 38), none⟩,
    ⟨(some 4), .mv (.t 41), none⟩])
  (.seq (.reg [⟨(some 11), .mv (.k (.c .nil)), none⟩])
  (.seq (.seq (.reg [⟨(some 12), .mv (.k (.c (.d (.int .i64 0)))), none⟩])
  (.block 0 (.loop lp_topb_0)))
  (.seq (.reg [⟨(some 57), .mv (.t 0), none⟩,
    ⟨(some 58), .call 25 [(.t 57)] none, none⟩,
    ⟨(some 59), .build [.nil, (.d (.int .i64 0)), (.d (.int .i64 0))] [(0, 1, (.t 58)), (1, 1, (.k (.c (.d (.int .i64 1)))))], none⟩,
    ⟨(some 13), .alloc [.nil, (.d (.int .i64 0)), (.d (.int .i64 0))], none⟩,
    ⟨none, .store (.ag 3) (.t 13) (.t 59), none⟩])
  (.seq (.reg [⟨(some 61), .fieldAddr 0 (.t 13), none⟩,
    ⟨(some 62), .load .sc (.t 61), none⟩,
    ⟨(some 63), .call 26 [(.t 62), (.k (.c (.d (.int .i64 1))))] none, none⟩,
    ⟨(some 60), .mv (.t 63), none⟩,
    ⟨(some 64), .extract (.t 60) 0, none⟩,
    ⟨(some 65), .extract (.t 60) 1, none⟩,
    ⟨(some 14), .mv (.t 64), none⟩,
    ⟨(some 15), .mv (.t 65), none⟩])
  (.seq (.reg [⟨(some 67), .mv (.t 11), none⟩,
    ⟨(some 68), .mv (.t 1), none⟩,
    ⟨(some 69), .slice 1 (.t 67) none (some (.t 68)) none, none⟩,
    ⟨(some 70), .call 30 [(.t 69)] none, none⟩,
    ⟨(some 66), .mv (.t 70), none⟩,
    ⟨(some 71), .extract (.t 66) 0, none⟩,
    ⟨(some 72), .extract (.t 66) 1, none⟩,
    ⟨(some 16), .mv (.t 71), none⟩,
    ⟨(some 17), .mv (.t 72), none⟩])
  (.seq (.reg [⟨(some 74), .mv (.t 11), none⟩,
    ⟨(some 75), .call 30 [(.t 74)] none, none⟩,
    ⟨(some 73), .mv (.t 75), none⟩,
    ⟨(some 76), .extract (.t 73) 0, none⟩,
    ⟨(some 77), .extract (.t 73) 1, none⟩,
    ⟨(some 18), .mv (.t 76), none⟩,
    ⟨(some 19), .mv (.t 77), none⟩])
  (.seq (.reg [⟨(some 79), .load (.ag 3) (.t 13), none⟩,
    ⟨(some 80), .mv (.t 16), none⟩,
    ⟨(some 81), .call 12 [(.t 79), (.t 80)] none, none⟩,
    ⟨(some 78), .mv (.t 81), none⟩,
    ⟨(some 82), .extract (.t 78) 0, none⟩,
    ⟨(some 83), .extract (.t 78) 1, none⟩,
    ⟨(some 84), .extract (.t 78) 2, none⟩,
    ⟨none, .store (.ag 3) (.t 13) (.t 82), none⟩,
    ⟨(some 20), .mv (.t 83), none⟩,
    ⟨(some 21), .mv (.t 84), none⟩])
  (.seq (.reg [⟨(some 86), .load (.ag 3) (.t 13), none⟩,
    ⟨(some 87), .mv (.t 18), none⟩,
    ⟨(some 88), .call 12 [(.t 86), (.t 87)] none, none⟩,
    ⟨(some 85), .mv (.t 88), none⟩,
    ⟨(some 89), .extract (.t 85) 0, none⟩,
    ⟨(some 90), .extract (.t 85) 1, none⟩,
    ⟨(some 91), .extract (.t 85) 2, none⟩,
    ⟨(some 22), .alloc [.nil, (.d (.int .i64 0)), (.d (.int .i64 0))], none⟩,
    ⟨none, .store (.ag 3) (.t 22) (.t 89), none⟩,
    ⟨(some 23), .mv (.t 90), none⟩,
    ⟨(some 24), .mv (.t 91), none⟩])
  (.seq (.reg [⟨(some 93), .mv (.t 11), none⟩,
    ⟨(some 94), .mv (.t 1), none⟩,
    ⟨(some 95), .slice 1 (.t 93) none (some (.t 94)) none, none⟩,
    ⟨(some 96), .mv (.t 3), none⟩,
    ⟨(some 97), .call 31 [(.t 95), (.t 96)] none, none⟩,
    ⟨(some 92), .mv (.t 97), none⟩,
    ⟨(some 98), .extract (.t 92) 0, none⟩,
    ⟨(some 99), .extract (.t 92) 1, none⟩,
    ⟨(some 25), .mv (.t 98), none⟩,
    ⟨(some 26), .mv (.t 99), none⟩])
  (.seq (.reg [⟨(some 101), .mv (.t 11), none⟩,
    ⟨(some 102), .mv (.t 1), none⟩,
    ⟨(some 103), .call 32 [(.t 101), (.t 102)] none, none⟩,
    ⟨(some 100), .mv (.t 103), none⟩,
    ⟨(some 104), .extract (.t 100) 0, none⟩,
    ⟨(some 105), .extract (.t 100) 1, none⟩,
    ⟨(some 27), .mv (.t 104), none⟩,
    ⟨(some 28), .mv (.t 105), none⟩])
  (.seq (.seq (.reg [⟨(some 106), .mv (.t 15), none⟩,
    ⟨(some 107), .bin .neq (.t 106) (.k (.c (.d (.int .i64 0)))), none⟩,
    ⟨(some 108), .mv (.t 107), none⟩,
    ⟨(some 109), .mv (.t 17), (some (108, false))⟩,
    ⟨(some 110), .bin .neq (.t 109) (.k (.c (.d (.int .i64 0)))), (some (108, false))⟩,
    ⟨(some 111), .pick (.t 108) (.k (.c (.d (.bool true)))) (.t 110), none⟩,
    ⟨(some 112), .mv (.t 111), none⟩,
    ⟨(some 113), .mv (.t 19), (some (112, false))⟩,
    ⟨(some 114), .bin .neq (.t 113) (.k (.c (.d (.int .i64 0)))), (some (112, false))⟩,
    ⟨(some 115), .pick (.t 112) (.k (.c (.d (.bool true)))) (.t 114), none⟩,
    ⟨(some 116), .mv (.t 115), none⟩,
    ⟨(some 117), .mv (.t 21), (some (116, false))⟩,
    ⟨(some 118), .bin .neq (.t 117) (.k (.c (.d (.int .i64 0)))), (some (116, false))⟩,
    ⟨(some 119), .pick (.t 116) (.k (.c (.d (.bool true)))) (.t 118), none⟩,
    ⟨(some 120), .mv (.t 119), none⟩,
    ⟨(some 121), .mv (.t 24), (some (120, false))⟩,
    ⟨(some 122), .bin .neq (.t 121) (.k (.c (.d (.int .i64 0)))), (some (120, false))⟩,
    ⟨(some 123), .pick (.t 120) (.k (.c (.d (.bool true)))) (.t 122), none⟩,
    ⟨(some 124), .mv (.t 123), none⟩,
    ⟨(some 125), .mv (.t 26), (some (124, false))⟩,
    ⟨(some 126), .bin .neq (.t 125) (.k (.c (.d (.int .i64 0)))), (some (124, false))⟩,
    ⟨(some 127), .pick (.t 124) (.k (.c (.d (.bool true)))) (.t 126), none⟩,
    ⟨(some 128), .mv (.t 127), none⟩,
    ⟨(some 129), .mv (.t 28), (some (128, false))⟩,
    ⟨(some 130), .bin .neq (.t 129) (.k (.c (.d (.int .i64 0)))), (some (128, false))⟩,
    ⟨(some 131), .pick (.t 128) (.k (.c (.d (.bool true)))) (.t 130), none⟩])
  (.cond (.t 131) (.seq (.reg [⟨(some 10), .mv (.k (.c (.d (.bool false)))), none⟩])
   (.ret))
   (.skip)))
  (.seq (.seq (.reg [⟨(some 132), .mv (.t 14), none⟩,
    ⟨(some 133), .mv (.t 16), none⟩,
    ⟨(some 134), .mv (.t 20), none⟩,
    ⟨(some 135), .call 22 [(.t 132), (.t 133), (.t 134)] none, none⟩,
    ⟨(some 136), .un .not (.t 135), none⟩,
    ⟨(some 137), .mv (.t 136), none⟩,
    ⟨(some 138), .mv (.t 14), (some (137, false))⟩,
    ⟨(some 139), .mv (.t 18), (some (137, false))⟩,
    ⟨(some 140), .mv (.t 23), (some (137, false))⟩,
    ⟨(some 141), .call 22 [(.t 138), (.t 139), (.t 140)] none, (some (137, false))⟩,
    ⟨(some 142), .un .not (.t 141), (some (137, false))⟩,
    ⟨(some 143), .pick (.t 137) (.k (.c (.d (.bool true)))) (.t 142), none⟩,
    ⟨(some 144), .mv (.t 143), none⟩,
    ⟨(some 145), .mv (.t 16), (some (144, false))⟩,
    ⟨(some 146), .mv (.t 1), (some (144, false))⟩,
    ⟨(some 147), .mv (.t 3), (some (144, false))⟩,
    ⟨(some 148), .mv (.t 11), (some (144, false))⟩,
    ⟨(some 149), .mv (.t 3), (some (144, false))⟩,
    ⟨(some 150), .idxSl 1 (.t 148) (.t 149), (some (144, false))⟩,
    ⟨(some 151), .load .sc (.t 150), (some (144, false))⟩,
    ⟨(some 152), .mv (.t 25), (some (144, false))⟩,
    ⟨(some 153), .call 33 [(.t 145), (.t 146), (.t 147), (.t 151), (.t 152)] none, (some (144, false))⟩,
    ⟨(some 154), .un .not (.t 153), (some (144, false))⟩,
    ⟨(some 155), .pick (.t 144) (.k (.c (.d (.bool true)))) (.t 154), none⟩,
    ⟨(some 156), .mv (.t 155), none⟩,
    ⟨(some 157), .mv (.t 16), (some (156, false))⟩,
    ⟨(some 158), .mv (.t 1), (some (156, false))⟩,
    ⟨(some 159), .mv (.t 18), (some (156, false))⟩,
    ⟨(some 160), .mv (.t 1), (some (156, false))⟩,
    ⟨(some 161), .mv (.t 2), (some (156, false))⟩,
    ⟨(some 162), .bin .add (.t 160) (.t 161), (some (156, false))⟩,
    ⟨(some 163), .mv (.t 27), (some (156, false))⟩,
    ⟨(some 164), .call 34 [(.t 157), (.t 158), (.t 159), (.t 162), (.t 163)] none, (some (156, false))⟩,
    ⟨(some 165), .un .not (.t 164), (some (156, false))⟩,
    ⟨(some 166), .pick (.t 156) (.k (.c (.d (.bool true)))) (.t 165), none⟩])
  (.cond (.t 166) (.seq (.reg [⟨(some 10), .mv (.k (.c (.d (.bool false)))), none⟩])
   (.ret))
   (.skip)))
  (.seq (.reg [⟨(some 167), .call 35 [] none, none⟩,
    ⟨(some 168), .mv (.t 167), none⟩,
    ⟨(some 169), .mv (.t 16), (some (168, true))⟩,
    ⟨(some 170), .mv (.t 1), (some (168, true))⟩,
    ⟨(some 171), .mv (.t 3), (some (168, true))⟩,
    ⟨(some 172), .mv (.t 11), (some (168, true))⟩,
    ⟨(some 173), .mv (.t 4), (some (168, true))⟩,
    ⟨(some 174), .idxSl 1 (.t 172) (.t 173), (some (168, true))⟩,
    ⟨(some 175), .load .sc (.t 174), (some (168, true))⟩,
    ⟨(some 176), .mv (.t 25), (some (168, true))⟩,
    ⟨(some 177), .call 33 [(.t 169), (.t 170), (.t 171), (.t 175), (.t 176)] none, (some (168, true))⟩,
    ⟨(some 178), .mv (.t 11), (some (168, true))⟩,
    ⟨(some 179), .mv (.t 3), (some (168, true))⟩,
    ⟨(some 180), .idxSl 1 (.t 178) (.t 179), (some (168, true))⟩,
    ⟨(some 181), .load .sc (.t 180), (some (168, true))⟩,
    ⟨(some 182), .mv (.t 11), (some (168, true))⟩,
    ⟨(some 183), .mv (.t 4), (some (168, true))⟩,
    ⟨(some 184), .idxSl 1 (.t 182) (.t 183), (some (168, true))⟩,
    ⟨(some 185), .load .sc (.t 184), (some (168, true))⟩,
    ⟨(some 186), .call 19 [(.t 181), (.t 185)] none, (some (168, true))⟩,
    ⟨(some 187), .eqB false (.t 177) (.t 186), (some (168, true))⟩,
    ⟨(some 188), .pick (.t 168) (.t 187) (.k (.c (.d (.bool false)))), none⟩,
    ⟨(some 10), .mv (.t 188), none⟩])
  (.ret))))))))))))))))),
  [(10, none)]⟩
theorem cf_topb : compFn Tryd.prog { own := [], comp := [], frz := [], nils := [] } Tryd.f9 = some sf_topb := by kernel_rfl
set_option maxHeartbeats 1600000 in
theorem topb_c (G : Glob) (seed : Int) (hseed1 : -9223372036854775808 ≤ seed) (hseed2 : seed ≤ 9223372036854775807) (n : Int) (hn1 : -9223372036854775808 ≤ n) (hn2 : n ≤ 9223372036854775807) (more : Int) (hmore1 : -9223372036854775808 ≤ more) (hmore2 : more ≤ 9223372036854775807) (i : Int) (hi1 : -9223372036854775808 ≤ i) (hi2 : i ≤ 9223372036854775807) (k : Int) (hk1 : -9223372036854775808 ≤ k) (hk2 : k ≤ 9223372036854775807) (hF : G.at 0 = some (.ra (firstK.map wD))) (hG : G.at 1 = some (.ra (constK.map wD))) : Den Tryd.prog G 9 [.int .i64 seed, .int .i64 n, .int .i64 more, .int .i64 i, .int .i64 k] (.w (.c (.d (.bool true)))) := by
  refine den_walk Tryd.func9 cf_topb rfl rfl ?_
  have r0 := withinN_range seed 1000 (by decide)
  have e0 := within_c G seed 1000 (by decide)
  obtain ⟨sd, hsd⟩ := Int.eq_ofNat_of_zero_le r0.1
  rw [hsd] at r0 e0
  have r1 := withinN_range n 9 (by decide)
  have e1 := within_c G n 9 (by decide)
  obtain ⟨n0, hn0⟩ := Int.eq_ofNat_of_zero_le r1.1
  rw [hn0] at r1 e1
  have r2 := withinN_range more 6 (by decide)
  have e2 := within_c G more 6 (by decide)
  obtain ⟨m, hm⟩ := Int.eq_ofNat_of_zero_le r2.1
  rw [hm] at r2 e2
  have r3 := withinN_range i ((n0 + 1 : Nat) : Int) (by omega)
  have e3 := within_c G i ((n0 + 1 : Nat) : Int) (by omega)
  obtain ⟨a, ha⟩ := Int.eq_ofNat_of_zero_le r3.1
  rw [ha] at r3 e3
  have r4 := withinN_range k ((n0 + 1 : Nat) : Int) (by omega)
  have e4 := within_c G k ((n0 + 1 : Nat) : Int) (by omega)
  obtain ⟨b, hb⟩ := Int.eq_ofNat_of_zero_le r4.1
  rw [hb] at r4 e4
  have en : (1 : Int) + (n0 : Int) = ((n0 + 1 : Nat) : Int) := by omega
  have hN9 : n0 + 1 ≤ 9 := by omega
  have hN1 : 1 ≤ n0 + 1 := by omega
  generalize n0 + 1 = N at *
  simp only [sf_topb, putAll, wx, wy, wz, stV, seval, IntWalk.iteOmega, IntWalk.toNatUp, reduceCtorEq]
  refine st_call (e0) rfl (.inl rfl) ?_
  simp only [wx, wy, wz, stV, seval, IntWalk.iteOmega, IntWalk.toNatUp, reduceCtorEq]
  refine st_call (e1) rfl (.inl rfl) ?_
  simp only [wx, wy, wz, stV, seval, IntWalk.iteOmega, IntWalk.toNatUp, reduceCtorEq]
  refine st_call (e2) rfl (.inl rfl) ?_
  simp only [en, wx, wy, wz, stV, seval, IntWalk.iteOmega, IntWalk.toNatUp, reduceCtorEq]
  refine st_call (e3) rfl (.inl rfl) ?_
  simp only [wx, wy, wz, stV, seval, IntWalk.iteOmega, IntWalk.toNatUp, reduceCtorEq]
  refine st_call (e4) rfl (.inl rfl) ?_
  simp only [wx, wy, wz, stV, seval, IntWalk.iteOmega, IntWalk.toNatUp, reduceCtorEq]
  refine loop_st (tbSt sd N m a b) (fun j => N + m - j) (fun j => j ≤ N + m) 0 (Nat.zero_le _) ?_ ?_
  · refine ent_l (fun i => i) ?_ ?_ rfl rfl <;> simp only [wx, wex, wez, stV, seval, IntWalk.iteOmega, IntWalk.toNatUp, reduceCtorEq, tbV, tbH]
  · intro j hj
    by_cases hlt : j < N + m
    · have hB := wbytes_c G ((sd : Int) + ((j % 7 : Nat) : Int)) 20 (by decide)
      have hx : bytesK ((sd : Int) + ((j % 7 : Nat) : Int)) 20 = xB sd (j % 7) := by
        unfold xB
        rw [Int.natCast_add]
      rw [hx] at hB
      have t7 := tmod7 j
      have hs := lawL_succ sd j
      have hll := lawL_len sd (j + 1)
      rcases j with _ | j
      · have h0 : lawL sd 0 = [] := rfl
        rw [h0] at hs
        have hs2 : [D.sl ((xB sd (0 % 7)).map bD)] = (lawL sd (0 + 1)).map fun l => D.sl (l.map bD) := by rw [← hs]; rfl
        simp only [lp_topb_0, tbSt, tbV, tbH, wx, wy, wz, stV, seval, IntWalk.iteOmega, IntWalk.toNatUp, reduceCtorEq, t7]
        refine st_call (hB) rfl (.inl rfl) ?_
        simp only [srcV, wx, wy, wz, stV, seval, IntWalk.iteOmega, IntWalk.toNatUp, reduceCtorEq]
        refine lop_next (0 + 1) (by omega) (by omega) (ent_l (fun _ => 448) ?_ ?_ rfl rfl) <;> simp only [wx, wex, wez, stV, seval, IntWalk.iteOmega, IntWalk.toNatUp, reduceCtorEq, tbV, tbH, hs2, hll]
      · have hs2 : ((lawL sd (j + 1)).map fun l => D.sl (l.map bD)) ++ [D.sl ((xB sd ((j + 1) % 7)).map bD)] = (lawL sd (j + 1 + 1)).map fun l => D.sl (l.map bD) := by rw [← hs, List.map_append]; rfl
        have hlj := lawL_len sd (j + 1)
        have t7 : Int.tmod ((j : Int) + 1) 7 = (((j + 1) % 7 : Nat) : Int) := t7
        simp only [lp_topb_0, tbSt, tbV, tbH, wx, wy, wz, stV, seval, IntWalk.iteOmega, IntWalk.toNatUp, reduceCtorEq, t7]
        refine st_call (hB) rfl (.inl rfl) ?_
        simp only [srcV, hs2, hlj, wx, wy, wz, stV, seval, IntWalk.iteOmega, IntWalk.toNatUp, reduceCtorEq]
        refine lop_next (j + 1 + 1) (by omega) (by omega) (ent_l (fun _ => 448) ?_ ?_ rfl rfl) <;> simp only [wx, wex, wez, stV, seval, IntWalk.iteOmega, IntWalk.toNatUp, reduceCtorEq, tbV, tbH, hll]
    · obtain rfl : j = N + m := by omega
      obtain ⟨q, hq⟩ : ∃ q, N + m = q + 1 := ⟨N + m - 1, by omega⟩
      have hk := wkey_c G (sd : Int)
      have lk := key9 (sd : Int)
      generalize bytesK (sd : Int) 32 = K at *
      have hll := lawL_len sd (N + m)
      have hlN := lawL_len sd N
      have htk := lawL_take sd (show N ≤ N + m by omega)
      have hmem : ∀ x ∈ lawL sd (N + m), x.length ≤ 1000000000 := fun x hx => by rw [lawL_mem x hx]; decide
      have hmemN : ∀ x ∈ lawL sd N, x.length ≤ 1000000000 := fun x hx => by rw [lawL_mem x hx]; decide
      have hl9 : (lawL sd (N + m)).length ≤ 1024 := by omega
      have b1 := npub_c G hF hG K ((1 : Nat) : Int)
      rw [(spub_ok (h := 1) lk (by decide)).1, (spub_ok (h := 1) lk (by decide)).2] at b1
      have b2 := root_f G hF hG (lawL sd N) (by omega) hmemN
      rw [(rootV_ok (l := lawL sd N) (by omega)).1, (rootV_ok (l := lawL sd N) (by omega)).2] at b2
      have b3 := root_f G hF hG (lawL sd (N + m)) (by omega) hmem
      rw [(rootV_ok (l := lawL sd (N + m)) (by omega)).1, (rootV_ok (l := lawL sd (N + m)) (by omega)).2] at b3
      have ro := rootM_len (lawL sd N)
      have rn := rootM_len (lawL sd (N + m))
      have rp := root_32 (lvsM K 1)
      have b4 := nsgn_c G hF hG K ((1 : Nat) : Int) ((0 : Nat) : Int) (rootM (lawL sd N)) (by omega)
      obtain ⟨s1, s2, _⟩ := sgn_ok (seed := K) (msg := rootM (lawL sd N)) (h := 1) (n := 0) lk (by decide) (by decide) (by omega)
      rw [s1, s2, sgE_0 (h := 1) (n := 0) lk (by decide) (by decide) (by omega)] at b4
      have b5 := nsgn_c G hF hG K ((1 : Nat) : Int) ((1 : Nat) : Int) (rootM (lawL sd (N + m))) (by omega)
      obtain ⟨s3, s4, _⟩ := sgn_ok (seed := K) (msg := rootM (lawL sd (N + m))) (h := 1) (n := 1) lk (by decide) (by decide) (by omega)
      rw [s3, s4, sgE_0 (h := 1) (n := 1) lk (by decide) (by decide) (by omega)] at b5
      have l4 := sgM_len K (h := 1) (n := 0) (by decide) (rootM (lawL sd N))
      have l5 := sgM_len K (h := 1) (n := 1) (by decide) (rootM (lawL sd (N + m)))
      have haN : a < N := by omega
      have hbN : b < N := by omega
      have b6 := path_f G hF hG (lawL sd N) (a : Int) (by omega) hmemN
      rw [(pathV_ok (l := lawL sd N) (i := a) (by omega) (by omega)).1, (pathV_ok (l := lawL sd N) (i := a) (by omega) (by omega)).2] at b6
      have b7 := cons_f G hF hG (lawL sd (N + m)) (N : Int) (by omega) hmem
      rw [(consV_ok (l := lawL sd (N + m)) (m := N) (by omega) hN1 (by omega)).1, (consV_ok (l := lawL sd (N + m)) (m := N) (by omega) hN1 (by omega)).2] at b7
      have b8 := nvf_c G hF hG (rootM (lvsM K 1)) (rootM (lawL sd N)) (sgM K 1 0 (rootM (lawL sd N))) (by omega) (by omega) (by omega)
      rw [sg_verifies K (h := 1) (n := 0) (by decide) (by decide) (by omega)] at b8
      have b9 := nvf_c G hF hG (rootM (lvsM K 1)) (rootM (lawL sd (N + m))) (sgM K 1 1 (rootM (lawL sd (N + m)))) (by omega) (by omega) (by omega)
      rw [sg_verifies K (h := 1) (n := 1) (by decide) (by decide) (by omega)] at b9
      have pl : ∀ x ∈ pathM (lawL sd N) a, x.length ≤ 1000000000 := fun x hx => by rw [path_32 _ _ _ rfl x hx]; decide
      have pn : (pathM (lawL sd N) a).length ≤ 9223372036854775807 := by
        rw [path_len N _ a hlN haN]
        have := depth_lev N a
        have h2 : levN N ≤ levN 9 := lev_mono hN9
        have h3 : levN 9 = 4 := by decide
        omega
      have c1 := chkt_c G hF hG (rootM (lawL sd N)) (N : Int) (a : Int) (xB sd (a % 7)) (pathM (lawL sd N) a) (by rw [xB_len]; decide) pn pl
      rw [check_at (by omega) hN9 haN, beq_self_eq_true] at c1
      have c2 := chkt_c G hF hG (rootM (lawL sd N)) (N : Int) (a : Int) (xB sd (b % 7)) (pathM (lawL sd N) a) (by rw [xB_len]; decide) pn pl
      rw [check_at (by omega) hN9 haN] at c2
      have gr := check_grown (l := lawL sd (N + m)) (m := N) (by omega) hN1 (by omega)
      rw [htk, hll] at gr
      have gm : ∀ x ∈ proofM N (lawL sd (N + m)) true, x.length ≤ 1000000000 := fun x hx => by rw [proof_big _ (lawL sd (N + m)) N true rfl hN1 (by omega) x hx]; decide
      have gl : (proofM N (lawL sd (N + m)) true).length ≤ 1024 := by rw [proof_len _ (lawL sd (N + m)) N true rfl hN1 (by omega)]; have := plen_le (lawL sd (N + m)).length N true hN1 (by omega); omega
      have c3 := chkg_c G hF hG (rootM (lawL sd N)) (N : Int) (rootM (lawL sd (N + m))) ((N + m : Nat) : Int) (proofM N (lawL sd (N + m)) true) (by omega) (by omega) gm
      rw [gr] at c3
      have c4 := rsame_c G (xB sd (a % 7)) (xB sd (b % 7))
      have g1 := getLs (l := lawL sd (N + m)) (j := a) (by omega)
      have g2 := getLs (l := lawL sd (N + m)) (j := b) (by omega)
      rw [lawL_get sd (by omega)] at g1 g2
      have u1 := noU8_ls (lawL sd N)
      have u2 := noU8_ls (lawL sd (N + m))
      have y1 := by_lt 1 (pathM (lawL sd N) a) .i64 0
      have y2 := by_lt 1 (proofM N (lawL sd (N + m)) true) .i64 0
      have vq : tbV (N + m) = .w (.c (.own 1 1 0 (N + m))) := by rw [hq]; rfl
      have hqH : tbH sd (N + m) = [(1, .row 1 ((lawL sd (N + m)).map fun l => D.sl (l.map bD)))] := by rw [hq]; rfl
      have o1 : ((1 : Nat) : Int) = 1 := rfl
      have o0 : ((0 : Nat) : Int) = 0 := rfl
      rw [o1] at b1
      rw [o1, o0] at b4
      rw [o1] at b5
      generalize sgM K 1 0 (rootM (lawL sd N)) = z1 at *
      generalize sgM K 1 1 (rootM (lawL sd (N + m))) = z2 at *
      generalize pathM (lawL sd N) a = z3 at *
      generalize proofM N (lawL sd (N + m)) true = z4 at *
      generalize rootM (lvsM K 1) = z5 at *
      generalize rootM (lawL sd N) = z6 at *
      generalize rootM (lawL sd (N + m)) = z7 at *
      generalize xB sd (a % 7) = xa at *
      generalize xB sd (b % 7) = xb at *
      have tt : (lawL sd (N + m)).take (N + m) = lawL sd (N + m) := List.take_of_length_le (by omega)
      generalize hA : lawL sd (N + m) = A at *
      generalize hBs : lawL sd N = B at *
      simp only [lp_topb_0, tbSt, vq, hqH, wx, wy, wz, stV, seval, IntWalk.iteOmega, IntWalk.toNatUp, reduceCtorEq]
      refine st_call (hk) rfl (.inl rfl) ?_
      simp only [wx, wy, wz, stV, seval, IntWalk.iteOmega, IntWalk.toNatUp, reduceCtorEq]
      refine st_call (b1) rfl (.inl rfl) ?_
      simp only [wx, wy, wz, stV, seval, IntWalk.iteOmega, IntWalk.toNatUp, reduceCtorEq]
      refine st_call b2 (by simp only [wx, wy, wz, stV, seval, IntWalk.iteOmega, IntWalk.toNatUp, reduceCtorEq, hll, htk]) (.inr (fl_by _ _ _ _)) ?_
      simp only [wx, wy, wz, stV, seval, IntWalk.iteOmega, IntWalk.toNatUp, reduceCtorEq]
      refine st_call b3 (by simp only [wx, wy, wz, stV, seval, IntWalk.iteOmega, IntWalk.toNatUp, reduceCtorEq, hll, tt]) (.inr (fl_by _ _ _ _)) ?_
      simp only [wx, wy, wz, stV, seval, IntWalk.iteOmega, IntWalk.toNatUp, reduceCtorEq]
      refine st_call (b4) rfl (.inl rfl) ?_
      simp only [wx, wy, wz, stV, seval, IntWalk.iteOmega, IntWalk.toNatUp, reduceCtorEq]
      refine st_call (b5) rfl (.inl rfl) ?_
      simp only [hll, wx, wy, wz, stV, seval, IntWalk.iteOmega, IntWalk.toNatUp, reduceCtorEq]
      refine st_callB b6 (by simp only [wx, wy, wz, stV, seval, IntWalk.iteOmega, IntWalk.toNatUp, reduceCtorEq, hll, htk]) y1 (by simp only [wx, wy, wz, stV, seval, IntWalk.iteOmega, IntWalk.toNatUp, reduceCtorEq, noU8s, V.hasOwn, C.isOwn, V.own1, u1, Bool.not_true, Bool.not_false, Bool.true_or, Bool.false_or]) ?_
      simp only [wx, wy, wz, stV, seval, IntWalk.iteOmega, IntWalk.toNatUp, reduceCtorEq]
      refine st_callB b7 (by simp only [wx, wy, wz, stV, seval, IntWalk.iteOmega, IntWalk.toNatUp, reduceCtorEq, hll, tt]) y2 (by simp only [wx, wy, wz, stV, seval, IntWalk.iteOmega, IntWalk.toNatUp, reduceCtorEq, noU8s, V.hasOwn, C.isOwn, V.own1, u2, Bool.not_true, Bool.not_false, Bool.true_or, Bool.false_or]) ?_
      simp only [wx, wy, wz, stV, seval, IntWalk.iteOmega, IntWalk.toNatUp, reduceCtorEq]
      refine st_call (b8) rfl (.inl rfl) ?_
      simp only [wx, wy, wz, stV, seval, IntWalk.iteOmega, IntWalk.toNatUp, reduceCtorEq]
      refine st_call (b9) rfl (.inl rfl) ?_
      simp only [hll, get_map, g1, wx, wy, wz, stV, seval, IntWalk.iteOmega, IntWalk.toNatUp, reduceCtorEq]
      refine st_call (c1) rfl (.inl rfl) ?_
      simp only [wx, wy, wz, stV, seval, IntWalk.iteOmega, IntWalk.toNatUp, reduceCtorEq]
      refine st_call (c3) rfl (.inl rfl) ?_
      simp only [wx, wy, wz, stV, seval, IntWalk.iteOmega, IntWalk.toNatUp, reduceCtorEq]
      refine st_call (roused_c G hF hG) rfl (.inl rfl) ?_
      simp only [hll, get_map, g1, g2, wx, wy, wz, stV, seval, IntWalk.iteOmega, IntWalk.toNatUp, reduceCtorEq]
      refine st_call (c2) rfl (.inl rfl) ?_
      simp only [hll, get_map, g1, g2, wx, wy, wz, stV, seval, IntWalk.iteOmega, IntWalk.toNatUp, reduceCtorEq]
      refine st_call (c4) rfl (.inl rfl) ?_
      simp only [wx, wy, wz, stV, seval, IntWalk.iteOmega, IntWalk.toNatUp, reduceCtorEq]
      exact ret_d1 (by simp only [wx, wy, wz, stV, seval, IntWalk.iteOmega, IntWalk.toNatUp, reduceCtorEq])
end Go.Proofs.YtjgkchmdhicmpaaDoor
