/- The laws of layer 7: leaves, the sanity check. Own work. -/
import Derived.Test.YtalilcljonkmaaaDoorPt6
import Derived.Test.YtalilcljonkmaaaDoorPw1
set_option linter.unusedVariables false
set_option linter.unusedSimpArgs false
namespace Go.Proofs.YtalilcljonkmaaaDoor
open Go.RowKit

theorem binS_ba (a b : ByteArray) : binS .eql a b = some (.bool (a.data.toList == b.data.toList)) := by
  cases a; cases b
  rename_i x y
  have h := binS_same x.toList y.toList
  simpa using h
theorem hex7a : hexL (sumK []) = [101, 51, 98, 48, 99, 52, 52, 50, 57, 56, 102, 99, 49, 99, 49, 52, 57, 97, 102, 98, 102, 52, 99, 56, 57, 57, 54, 102, 98, 57, 50, 52, 50, 55, 97, 101, 52, 49, 101, 52, 54, 52, 57, 98, 57, 51, 52, 99, 97, 52, 57, 53, 57, 57, 49, 98, 55, 56, 53, 50, 98, 56, 53, 53] := by decide +kernel
theorem hex7b : hexL (sumK [0]) = [54, 101, 51, 52, 48, 98, 57, 99, 102, 102, 98, 51, 55, 97, 57, 56, 57, 99, 97, 53, 52, 52, 101, 54, 98, 98, 55, 56, 48, 97, 50, 99, 55, 56, 57, 48, 49, 100, 51, 102, 98, 51, 51, 55, 51, 56, 55, 54, 56, 53, 49, 49, 97, 51, 48, 54, 49, 55, 97, 102, 97, 48, 49, 100] := by decide +kernel
theorem root7a : rootV [] = sumK [] := by unfold rootV; rw [if_neg (by decide), root_0 rfl]
theorem root7b : rootV [[]] = sumK [0] := by unfold rootV; rw [if_neg (by decide), root_1 rfl]; rfl
def sf_known7 : SFn := ⟨0, 30,
  .seq (.reg [⟨(some 0), .mv (.k (.c (.d (.bool false)))), none⟩])
  (.seq (.reg [⟨(some 6), .call 13 [(.k (.c .nil))] none, none⟩,
    ⟨(some 5), .mv (.t 6), none⟩,
    ⟨(some 7), .extract (.t 5) 0, none⟩,
    ⟨(some 8), .extract (.t 5) 1, none⟩,
    ⟨(some 1), .mv (.t 7), none⟩,
    ⟨(some 2), .mv (.t 8), none⟩])
  (.seq (.reg [⟨(some 10), .bldSl false 1 1 (.sl []) [(0, (.k (.c .nil)))], none⟩,
    ⟨(some 11), .call 13 [(.t 10)] none, none⟩,
    ⟨(some 9), .mv (.t 11), none⟩,
    ⟨(some 12), .extract (.t 9) 0, none⟩,
    ⟨(some 13), .extract (.t 9) 1, none⟩,
    ⟨(some 3), .mv (.t 12), none⟩,
    ⟨(some 4), .mv (.t 13), none⟩])
  (.seq (.reg [⟨(some 14), .mv (.t 2), none⟩,
    ⟨(some 15), .bin .eql (.t 14) (.k (.c (.d (.int .i64 0)))), none⟩,
    ⟨(some 16), .mv (.t 15), none⟩,
    ⟨(some 17), .mv (.t 4), (some (16, true))⟩,
    ⟨(some 18), .bin .eql (.t 17) (.k (.c (.d (.int .i64 0)))), (some (16, true))⟩,
    ⟨(some 19), .pick (.t 16) (.t 18) (.k (.c (.d (.bool false)))), none⟩,
    ⟨(some 20), .mv (.t 19), none⟩,
    ⟨(some 21), .mv (.t 1), (some (20, true))⟩,
    ⟨(some 22), .call 36 [(.t 21)] none, (some (20, true))⟩,
    ⟨(some 23), .bin .eql (.t 22) (.k (.c (.d (.str ⟨#[101, 51, 98, 48, 99, 52, 52, 50, 57, 56, 102, 99, 49, 99, 49, 52, 57, 97, 102, 98, 102, 52, 99, 56, 57, 57, 54, 102, 98, 57, 50, 52, 50, 55, 97, 101, 52, 49, 101, 52, 54, 52, 57, 98, 57, 51, 52, 99, 97, 52, 57, 53, 57, 57, 49, 98, 55, 56, 53, 50, 98, 56, 53, 53]⟩)))), (some (20, true))⟩,
    ⟨(some 24), .pick (.t 20) (.t 23) (.k (.c (.d (.bool false)))), none⟩,
    ⟨(some 25), .mv (.t 24), none⟩,
    ⟨(some 26), .mv (.t 3), (some (25, true))⟩,
    ⟨(some 27), .call 36 [(.t 26)] none, (some (25, true))⟩,
    ⟨(some 28), .bin .eql (.t 27) (.k (.c (.d (.str ⟨#[54, 101, 51, 52, 48, 98, 57, 99, 102, 102, 98, 51, 55, 97, 57, 56, 57, 99, 97, 53, 52, 52, 101, 54, 98, 98, 55, 56, 48, 97, 50, 99, 55, 56, 57, 48, 49, 100, 51, 102, 98, 51, 51, 55, 51, 56, 55, 54, 56, 53, 49, 49, 97, 51, 48, 54, 49, 55, 97, 102, 97, 48, 49, 100]⟩)))), (some (25, true))⟩,
    ⟨(some 29), .pick (.t 25) (.t 28) (.k (.c (.d (.bool false)))), none⟩,
    ⟨(some 0), .mv (.t 29), none⟩])
  (.ret)))),
  [(0, none)]⟩
theorem cf_known7 : compFn Tryd.prog { own := [], comp := [], frz := [], nils := [] } Tryd.f12 = some sf_known7 := by kernel_rfl
set_option maxHeartbeats 1600000 in
theorem known7_c (G : Glob) (hF : G.at 0 = some (.ra (firstK.map wD))) (hG : G.at 1 = some (.ra (constK.map wD))) : Den Tryd.prog G 12 [] (.w (.c (.d (.bool true)))) := by
  refine den_walk Tryd.func12 cf_known7 rfl rfl ?_
  have r1 := root_c G hF hG [] (by simp) (by simp)
  have r2 := root_c G hF hG [[]] (by simp) (by simp)
  have E1 : rootE [] = 0 := rfl
  have E2 : rootE [[]] = 0 := rfl
  rw [root7a, E1] at r1
  rw [root7b, E2] at r2
  simp only [sf_known7, putAll, wx, wy, wz, stV, seval, IntWalk.iteOmega, IntWalk.toNatUp, reduceCtorEq]
  refine st_call (r1) rfl (.inl rfl) ?_
  simp only [wx, wy, wz, stV, seval, IntWalk.iteOmega, IntWalk.toNatUp, reduceCtorEq]
  refine st_call (r2) rfl (.inl rfl) ?_
  simp only [wx, wy, wz, stV, seval, IntWalk.iteOmega, IntWalk.toNatUp, reduceCtorEq]
  refine st_call (hex_c G (sumK []) (by rw [sumK_len]; decide)) rfl (.inl rfl) ?_
  simp only [binS_ba, hex7a, beq_self_eq_true, wx, wy, wz, stV, seval, IntWalk.iteOmega, IntWalk.toNatUp, reduceCtorEq]
  refine st_call (hex_c G (sumK [0]) (by rw [sumK_len]; decide)) rfl (.inl rfl) ?_
  simp only [binS_ba, hex7b, beq_self_eq_true, wx, wy, wz, stV, seval, IntWalk.iteOmega, IntWalk.toNatUp, reduceCtorEq]
  exact ret_d1 (by simp only [wx, wy, wz, stV, seval, IntWalk.iteOmega, IntWalk.toNatUp, reduceCtorEq])
def lightL (l : List (List UInt8)) : Bool := decide (l.length ≤ 20) && l.all fun x => decide (x.length ≤ 60)
theorem lightL_ok {l : List (List UInt8)} (h : lightL l = true) : l.length ≤ 20 ∧ ∀ x ∈ l, x.length ≤ 60 := by
  unfold lightL at h
  simp only [Bool.and_eq_true, decide_eq_true_eq, List.all_eq_true] at h
  exact h
theorem lightL_1 {l : List (List UInt8)} (h : 20 < l.length ∨ ∃ x ∈ l, 60 < x.length) : lightL l = false := by
  cases hl : lightL l
  · rfl
  · obtain ⟨h2, h4⟩ := lightL_ok hl
    rcases h with h | ⟨x, hx, h⟩
    · omega
    · have := h4 x hx; omega
def ltSt (l : List (List UInt8)) (i : Nat) : St := ⟨ofL [(0, .w (.c (.d (sls l)))), (5, .w (.c (.d (.int .i64 (i : Int)))))], hL [], uL []⟩
def lp_lig_0 : SCode :=
  .seq (.seq (.reg [⟨(some 10), .mv (.t 5), none⟩,
    ⟨(some 11), .mv (.t 0), none⟩,
    ⟨(some 12), .len (.t 11), none⟩,
    ⟨(some 13), .bin .lss (.t 10) (.t 12), none⟩])
  (.cond (.t 13) (.skip)
   (.exit 0)))
  (.seq (.block 1 (.seq (.reg [⟨(some 16), .mv (.t 0), none⟩,
     ⟨(some 17), .mv (.t 5), none⟩,
     ⟨(some 18), .idxSl 1 (.t 16) (.t 17), none⟩,
     ⟨(some 19), .load .sc (.t 18), none⟩,
     ⟨(some 20), .len (.t 19), none⟩,
     ⟨(some 21), .bin .gtr (.t 20) (.k (.c (.d (.int .i64 60)))), none⟩])
   (.cond (.t 21) (.seq (.reg [⟨(some 4), .mv (.k (.c (.d (.bool false)))), none⟩])
    (.ret))
    (.skip))))
  (.reg [⟨(some 14), .mv (.t 5), none⟩,
    ⟨(some 15), .bin .add (.t 14) (.k (.c (.d (.int .i64 1)))), none⟩,
    ⟨(some 5), .mv (.t 15), none⟩]))
def sf_lig : SFn := ⟨2, 22,
  .seq (.reg [⟨(some 4), .mv (.k (.c (.d (.bool false)))), none⟩])
  (.seq (.seq (.reg [⟨(some 6), .mv (.t 0), none⟩,
    ⟨(some 7), .len (.t 6), none⟩,
    ⟨(some 8), .mv (.t 1), none⟩,
    ⟨(some 9), .bin .gtr (.t 7) (.t 8), none⟩])
  (.cond (.t 9) (.seq (.reg [⟨(some 4), .mv (.k (.c (.d (.bool false)))), none⟩])
   (.ret))
   (.skip)))
  (.seq (.seq (.reg [⟨(some 5), .mv (.k (.c (.d (.int .i64 0)))), none⟩])
  (.block 0 (.loop lp_lig_0)))
  (.seq (.reg [⟨(some 4), .mv (.k (.c (.d (.bool true)))), none⟩])
  (.ret)))),
  [(4, none)]⟩
theorem cf_lig : compFn Tryd.prog { own := [], comp := [], frz := [], nils := [] } Tryd.f11 = some sf_lig := by kernel_rfl
set_option maxHeartbeats 1600000 in
theorem lig_c (G : Glob) (l : List (List UInt8)) (hl : l.length ≤ 9223372036854775807) (hb : ∀ x ∈ l, x.length ≤ 9223372036854775807) : Den Tryd.prog G 11 [sls l, .int .i64 20] (.w (.c (.d (.bool (lightL l))))) := by
  refine den_walk Tryd.func11 cf_lig rfl rfl ?_
  by_cases h : 20 < l.length
  · rw [lightL_1 (.inl h)]
    simp only [sf_lig, putAll, wx, wy, wz, stV, seval, IntWalk.iteOmega, IntWalk.toNatUp, reduceCtorEq]
    exact ret_d1 (by simp only [wx, wy, wz, stV, seval, IntWalk.iteOmega, IntWalk.toNatUp, reduceCtorEq])
  · simp only [sf_lig, putAll, wx, wy, wz, stV, seval, IntWalk.iteOmega, IntWalk.toNatUp, reduceCtorEq]
    refine loop_st (ltSt l) (fun i => l.length - i) (fun i => i ≤ l.length ∧ ∀ j, j < i → (l.getD j []).length ≤ 60) 0 ⟨Nat.zero_le _, fun j hj => by omega⟩ ?_ ?_
    · refine ent_l (fun i => i) ?_ ?_ rfl rfl <;> simp only [wx, wex, wez, stV, seval, IntWalk.iteOmega, IntWalk.toNatUp, reduceCtorEq] <;> rfl
    · rintro i ⟨hi, hok⟩
      by_cases hlt : i < l.length
      · have g1 := getLs hlt
        have hx := hb _ (getLs_mem hlt)
        by_cases hlong : 60 < (l.getD i []).length
        · rw [lightL_1 (.inr ⟨_, getLs_mem hlt, hlong⟩)]
          simp only [lp_lig_0, ltSt, wx, wy, wz, stV, seval, IntWalk.iteOmega, IntWalk.toNatUp, reduceCtorEq, get_map, g1]
          exact ret_d1 (by simp only [wx, wy, wz, stV, seval, IntWalk.iteOmega, IntWalk.toNatUp, reduceCtorEq])
        · simp only [lp_lig_0, ltSt, wx, wy, wz, stV, seval, IntWalk.iteOmega, IntWalk.toNatUp, reduceCtorEq, get_map, g1]
          refine lop_next (i + 1) (by omega) ⟨by omega, fun j hj => ?_⟩ (ent_l (fun i => i) ?_ ?_ rfl rfl)
          · rcases Nat.lt_or_ge j i with h | h
            · exact hok j h
            · obtain rfl : j = i := by omega
              omega
          all_goals simp only [wx, wex, wez, stV, seval, IntWalk.iteOmega, IntWalk.toNatUp, reduceCtorEq]
      · have : lightL l = true := by
          unfold lightL
          rw [decide_eq_true (by omega), Bool.true_and, List.all_eq_true]
          intro x hx
          obtain ⟨j, hj, rfl⟩ := List.getElem_of_mem hx
          have := hok j (by omega)
          rw [List.getD_eq_getElem?_getD, List.getElem?_eq_getElem hj] at this
          exact decide_eq_true this
        rw [this]
        simp only [lp_lig_0, ltSt, wx, wy, wz, stV, seval, IntWalk.iteOmega, IntWalk.toNatUp, reduceCtorEq]
        exact ret_d1 (by simp only [wx, wy, wz, stV, seval, IntWalk.iteOmega, IntWalk.toNatUp, reduceCtorEq])
/-! ### Leaves -/
def leafN (s : Int) (j : Nat) : List UInt8 := bytesK (s + j) ((j % 5 : Nat) : Int)
def leavesN (s : Int) (n : Nat) : List (List UInt8) := (List.range n).map (leafN s)
theorem leavesN_len (s : Int) (n : Nat) : (leavesN s n).length = n := by unfold leavesN; rw [List.length_map, List.length_range]
theorem leavesN_succ (s : Int) (n : Nat) : leavesN s n ++ [leafN s n] = leavesN s (n + 1) := by unfold leavesN; rw [List.range_succ, List.map_append]; rfl
theorem leafN_le (s : Int) (j : Nat) : (leafN s j).length ≤ 4 := by unfold leafN; rw [bytesK_len]; omega
theorem leavesN_le {s : Int} {n : Nat} : ∀ x ∈ leavesN s n, x.length ≤ 1000000000 := by
  intro x hx
  unfold leavesN at hx
  obtain ⟨j, _, rfl⟩ := List.mem_map.1 hx
  have := leafN_le s j
  omega
def lvV : Nat → V
  | 0 => .w (.c .nil)
  | j + 1 => .w (.c (.own 1 1 0 (j + 1)))
def lvH (s : Int) : Nat → List (Nat × Ob)
  | 0 => []
  | j + 1 => [(1, .row 1 ((leavesN s (j + 1)).map fun l => D.sl (l.map bD)))]
def lvSt (seed : Int) (n j : Nat) : St := ⟨ofL [(0, .w (.c (.d (.int .i64 seed)))), (1, .w (.c (.d (.int .i64 (n : Int))))), (5, lvV j), (6, .w (.c (.d (.int .i64 (j : Int)))))], hL (lvH (withinN seed 1000) j), uL [1]⟩
theorem tmod5 (a : Nat) : Int.tmod (a : Int) 5 = ((a % 5 : Nat) : Int) := rfl
def lp_lvs_0 : SCode :=
  .seq (.seq (.reg [⟨(some 7), .mv (.t 6), none⟩,
    ⟨(some 8), .mv (.t 1), none⟩,
    ⟨(some 9), .bin .lss (.t 7) (.t 8), none⟩])
  (.cond (.t 9) (.skip)
   (.exit 0)))
  (.seq (.block 1 (.reg [⟨(some 12), .mv (.t 5), none⟩,
     ⟨(some 13), .mv (.t 0), none⟩,
     ⟨(some 14), .call 31 [(.t 13), (.k (.c (.d (.int .i64 1000))))] none, none⟩,
     ⟨(some 15), .mv (.t 6), none⟩,
     ⟨(some 16), .bin .add (.t 14) (.t 15), none⟩,
     ⟨(some 17), .mv (.t 6), none⟩,
     ⟨(some 18), .bin .rem (.t 17) (.k (.c (.d (.int .i64 5)))), none⟩,
     ⟨(some 19), .call 51 [(.t 16), (.t 18)] none, none⟩,
     ⟨(some 20), .bldSl false 1 1 (.sl []) [(0, (.t 19))], none⟩,
     ⟨(some 21), .app false 1 24 (.t 12) (.t 20), none⟩,
     ⟨(some 5), .mv (.t 21), none⟩]))
  (.reg [⟨(some 10), .mv (.t 6), none⟩,
    ⟨(some 11), .bin .add (.t 10) (.k (.c (.d (.int .i64 1)))), none⟩,
    ⟨(some 6), .mv (.t 11), none⟩]))
def sf_lvs : SFn := ⟨2, 23,
  .seq (.reg [⟨(some 4), .mv (.k (.c .nil)), none⟩])
  (.seq (.reg [⟨(some 5), .mv (.k (.c .nil)), none⟩])
  (.seq (.seq (.reg [⟨(some 6), .mv (.k (.c (.d (.int .i64 0)))), none⟩])
  (.block 0 (.loop lp_lvs_0)))
  (.seq (.reg [⟨(some 22), .mv (.t 5), none⟩,
    ⟨(some 4), .mv (.t 22), none⟩])
  (.ret)))),
  [(4, none)]⟩
theorem cf_lvs : compFn Tryd.prog { own := [], comp := [], frz := [], nils := [] } Tryd.f32 = some sf_lvs := by kernel_rfl
set_option maxHeartbeats 3200000 in
theorem lvs_f (G : Glob) (seed : Int) (n : Nat) (hn : n ≤ 65536) : Den Tryd.prog G 32 [.int .i64 seed, .int .i64 (n : Int)] (.w (.c (.fr 1 ((leavesN (withinN seed 1000) n).map fun l => D.sl (l.map bD))))) := by
  refine den_walk Tryd.func32 cf_lvs rfl rfl ?_
  have r0 := withinN_range seed 1000 (by decide)
  have e0 := within_c G seed 1000 (by decide)
  simp only [sf_lvs, putAll, wx, wy, wz, stV, seval, IntWalk.iteOmega, IntWalk.toNatUp, reduceCtorEq]
  refine loop_st (lvSt seed n) (fun j => n - j) (fun j => j ≤ n) 0 (Nat.zero_le _) ?_ ?_
  · refine ent_l (fun i => i) ?_ ?_ rfl rfl <;> simp only [wx, wex, wez, stV, seval, IntWalk.iteOmega, IntWalk.toNatUp, reduceCtorEq, lvV, lvH]
  · intro j hj
    by_cases hlt : j < n
    · have hb := wbytes_c G (withinN seed 1000 + j) ((j % 5 : Nat) : Int) (by omega)
      have hl : bytesK (withinN seed 1000 + j) ((j % 5 : Nat) : Int) = leafN (withinN seed 1000) j := rfl
      rw [hl] at hb
      have t5 := tmod5 j
      have hs := leavesN_succ (withinN seed 1000) j
      have hll := leavesN_len (withinN seed 1000) (j + 1)
      rcases j with _ | j
      · have h0 : leavesN (withinN seed 1000) 0 = [] := rfl
        rw [h0] at hs
        have hs2 : [D.sl ((leafN (withinN seed 1000) 0).map bD)] = (leavesN (withinN seed 1000) (0 + 1)).map fun l => D.sl (l.map bD) := by rw [← hs]; rfl
        simp only [lp_lvs_0, lvSt, lvV, lvH, wx, wy, wz, stV, seval, IntWalk.iteOmega, IntWalk.toNatUp, reduceCtorEq]
        refine st_call e0 rfl (.inl rfl) ?_
        simp only [wx, wy, wz, stV, seval, IntWalk.iteOmega, IntWalk.toNatUp, reduceCtorEq, t5]
        refine st_call hb rfl (.inl rfl) ?_
        simp only [wx, wy, wz, stV, seval, IntWalk.iteOmega, IntWalk.toNatUp, reduceCtorEq, srcV]
        refine lop_next (0 + 1) (by omega) (by omega) (ent_l (fun i => 168) ?_ ?_ rfl rfl) <;> simp only [wx, wex, wez, stV, seval, IntWalk.iteOmega, IntWalk.toNatUp, reduceCtorEq, lvV, lvH, hs2]
      · have hs2 : ((leavesN (withinN seed 1000) (j + 1)).map fun l => D.sl (l.map bD)) ++ [D.sl ((leafN (withinN seed 1000) (j + 1)).map bD)] = (leavesN (withinN seed 1000) (j + 1 + 1)).map fun l => D.sl (l.map bD) := by rw [← hs, List.map_append]; rfl
        have hlj := leavesN_len (withinN seed 1000) (j + 1)
        simp only [lp_lvs_0, lvSt, lvV, lvH, wx, wy, wz, stV, seval, IntWalk.iteOmega, IntWalk.toNatUp, reduceCtorEq]
        refine st_call e0 rfl (.inl rfl) ?_
        simp only [wx, wy, wz, stV, seval, IntWalk.iteOmega, IntWalk.toNatUp, reduceCtorEq, t5]
        refine st_call hb rfl (.inl rfl) ?_
        simp only [wx, wy, wz, stV, seval, IntWalk.iteOmega, IntWalk.toNatUp, reduceCtorEq, srcV, hs2]
        refine lop_next (j + 1 + 1) (by omega) (by omega) (ent_l (fun i => 168) ?_ ?_ rfl rfl) <;> simp only [wx, wex, wez, stV, seval, IntWalk.iteOmega, IntWalk.toNatUp, reduceCtorEq, lvV, lvH, hll]
    · obtain rfl : j = n := by omega
      rcases j with _ | j
      · have h0 : leavesN (withinN seed 1000) 0 = [] := rfl
        simp only [lp_lvs_0, lvSt, lvV, lvH, wx, wy, wz, stV, seval, IntWalk.iteOmega, IntWalk.toNatUp, reduceCtorEq, h0]
        exact ret_f1 (by simp only [wx, wy, wz, stV, seval, IntWalk.iteOmega, IntWalk.toNatUp, reduceCtorEq])
      · have hll := leavesN_len (withinN seed 1000) (j + 1)
        simp only [lp_lvs_0, lvSt, lvV, lvH, wx, wy, wz, stV, seval, IntWalk.iteOmega, IntWalk.toNatUp, reduceCtorEq]
        exact ret_f1 (by simp only [wx, wy, wz, stV, seval, IntWalk.iteOmega, IntWalk.toNatUp, reduceCtorEq, hll])
theorem lvs_c (G : Glob) (seed : Int) (n : Nat) (hn : n ≤ 65536) : Den Tryd.prog G 32 [.int .i64 seed, .int .i64 (n : Int)] (.w (.c (.d (sls (leavesN (withinN seed 1000) n))))) := den_ro (lvs_f G seed n hn)
end Go.Proofs.YtalilcljonkmaaaDoor
