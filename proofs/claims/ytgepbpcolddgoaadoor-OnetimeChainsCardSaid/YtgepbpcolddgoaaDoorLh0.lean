/- The laws of layer 8: the sanity check, what is looked at. Own work. -/
import Derived.Test.YtgepbpcolddgoaaDoorPn1
import Derived.Test.YtgepbpcolddgoaaDoorPs1
set_option linter.unusedVariables false
set_option linter.unusedSimpArgs false
namespace Go.Proofs.YtgepbpcolddgoaaDoor
open Go.RowKit

theorem z16o : [D.int .u8 0, D.int .u8 0, D.int .u8 0, D.int .u8 0, D.int .u8 0, D.int .u8 0, D.int .u8 0, D.int .u8 0, D.int .u8 0, D.int .u8 0, D.int .u8 0, D.int .u8 0, D.int .u8 0, D.int .u8 0, D.int .u8 0, D.int .u8 0] = (repL 16 (0 : UInt8)).map bD := rfl
theorem z17o : [D.int .u8 0, D.int .u8 0, D.int .u8 0, D.int .u8 0, D.int .u8 0, D.int .u8 0, D.int .u8 0, D.int .u8 0, D.int .u8 0, D.int .u8 0, D.int .u8 0, D.int .u8 0, D.int .u8 0, D.int .u8 0, D.int .u8 0, D.int .u8 0, D.int .u8 0] = (repL 17 (0 : UInt8)).map bD := rfl
theorem dig_zero : digN (repL 16 0) = repL 32 0 ++ [1, 14, 0] := by decide
def sf_known8 : SFn := ⟨0, 39,
  .seq (.reg [⟨(some 0), .mv (.k (.c (.d (.bool false)))), none⟩])
  (.seq (.reg [⟨(some 4), .make 1 1 (.int .u8 0) (.k (.c (.d (.int .i64 16)))) (.k (.c (.d (.int .i64 16)))), none⟩,
    ⟨(some 5), .call 9 [(.t 4)] none, none⟩,
    ⟨(some 3), .mv (.t 5), none⟩,
    ⟨(some 6), .extract (.t 3) 0, none⟩,
    ⟨(some 7), .extract (.t 3) 1, none⟩,
    ⟨(some 1), .mv (.t 6), none⟩,
    ⟨(some 2), .mv (.t 7), none⟩])
  (.seq (.reg [⟨(some 8), .mv (.t 2), none⟩,
    ⟨(some 9), .bin .eql (.t 8) (.k (.c (.d (.int .i64 0)))), none⟩,
    ⟨(some 10), .mv (.t 9), none⟩,
    ⟨(some 11), .mv (.t 1), (some (10, true))⟩,
    ⟨(some 12), .len (.t 11), (some (10, true))⟩,
    ⟨(some 13), .bin .eql (.t 12) (.k (.c (.d (.int .i64 35)))), (some (10, true))⟩,
    ⟨(some 14), .pick (.t 10) (.t 13) (.k (.c (.d (.bool false)))), none⟩,
    ⟨(some 15), .mv (.t 14), none⟩,
    ⟨(some 16), .mv (.t 1), (some (15, true))⟩,
    ⟨(some 17), .idxSl 1 (.t 16) (.k (.c (.d (.int .i64 0)))), (some (15, true))⟩,
    ⟨(some 18), .load .sc (.t 17), (some (15, true))⟩,
    ⟨(some 19), .bin .eql (.t 18) (.k (.c (.d (.int .i64 0)))), (some (15, true))⟩,
    ⟨(some 20), .pick (.t 15) (.t 19) (.k (.c (.d (.bool false)))), none⟩,
    ⟨(some 21), .mv (.t 20), none⟩,
    ⟨(some 22), .mv (.t 1), (some (21, true))⟩,
    ⟨(some 23), .idxSl 1 (.t 22) (.k (.c (.d (.int .i64 32)))), (some (21, true))⟩,
    ⟨(some 24), .load .sc (.t 23), (some (21, true))⟩,
    ⟨(some 25), .bin .eql (.t 24) (.k (.c (.d (.int .i64 1)))), (some (21, true))⟩,
    ⟨(some 26), .pick (.t 21) (.t 25) (.k (.c (.d (.bool false)))), none⟩,
    ⟨(some 27), .mv (.t 26), none⟩,
    ⟨(some 28), .mv (.t 1), (some (27, true))⟩,
    ⟨(some 29), .idxSl 1 (.t 28) (.k (.c (.d (.int .i64 33)))), (some (27, true))⟩,
    ⟨(some 30), .load .sc (.t 29), (some (27, true))⟩,
    ⟨(some 31), .bin .eql (.t 30) (.k (.c (.d (.int .i64 14)))), (some (27, true))⟩,
    ⟨(some 32), .pick (.t 27) (.t 31) (.k (.c (.d (.bool false)))), none⟩,
    ⟨(some 33), .mv (.t 32), none⟩,
    ⟨(some 34), .mv (.t 1), (some (33, true))⟩,
    ⟨(some 35), .idxSl 1 (.t 34) (.k (.c (.d (.int .i64 34)))), (some (33, true))⟩,
    ⟨(some 36), .load .sc (.t 35), (some (33, true))⟩,
    ⟨(some 37), .bin .eql (.t 36) (.k (.c (.d (.int .i64 0)))), (some (33, true))⟩,
    ⟨(some 38), .pick (.t 33) (.t 37) (.k (.c (.d (.bool false)))), none⟩,
    ⟨(some 0), .mv (.t 38), none⟩])
  (.ret))),
  [(0, none)]⟩
theorem cf_known8 : compFn Tryd.prog { own := [], comp := [], frz := [], nils := [] } Tryd.f8 = some sf_known8 := by kernel_rfl
set_option maxHeartbeats 1600000 in
theorem known8_c (G : Glob) : Den Tryd.prog G 8 [] (.w (.c (.d (.bool true)))) := by
  refine den_walk Tryd.func8 cf_known8 rfl rfl ?_
  have hz : (repL 16 (0 : UInt8)).length = 16 := repL_len _ _
  have hd := dgs_f G (repL 16 0) (by omega)
  rw [(dig_ok hz).1, (dig_ok hz).2] at hd
  have hl : (digN (repL 16 0)).length = 35 := by rw [digN_len, hz]
  have g0 := getI (l := digN (repL 16 0)) (j := 0) (by omega)
  have g1 := getI (l := digN (repL 16 0)) (j := 32) (by omega)
  have g2 := getI (l := digN (repL 16 0)) (j := 33) (by omega)
  have g3 := getI (l := digN (repL 16 0)) (j := 34) (by omega)
  have v0 : (digN (repL 16 0)).getD 0 0 = 0 := by rw [dig_zero]; rfl
  have v1 : (digN (repL 16 0)).getD 32 0 = 1 := by rw [dig_zero]; rfl
  have v2 : (digN (repL 16 0)).getD 33 0 = 14 := by rw [dig_zero]; rfl
  have v3 : (digN (repL 16 0)).getD 34 0 = 0 := by rw [dig_zero]; rfl
  rw [v0] at g0
  rw [v1] at g1
  rw [v2] at g2
  rw [v3] at g3
  have t0 : (repL 16 (0 : UInt8)).take 16 = repL 16 0 := List.take_of_length_le (by omega)
  generalize digN (repL 16 0) = l at *
  simp only [sf_known8, putAll, wx, wy, wz, stV, seval, IntWalk.iteOmega, IntWalk.toNatUp, reduceCtorEq, z16o]
  refine st_call hd (by simp only [wx, wy, wz, stV, seval, IntWalk.iteOmega, IntWalk.toNatUp, reduceCtorEq, take_map, z16o, t0, repL_len]) (.inr (fl_iy _ _ _ _)) ?_
  simp only [wx, wy, wz, stV, seval, IntWalk.iteOmega, IntWalk.toNatUp, reduceCtorEq, hl, g0, g1, g2, g3]
  exact ret_d1 (by simp only [wx, wy, wz, stV, seval, IntWalk.iteOmega, IntWalk.toNatUp, reduceCtorEq])
theorem iD_inj {x y : Nat} (h : (x : Int) = (y : Int)) : x = y := by omega
def smSt (l : List Nat) (i : Nat) : St := ⟨ofL [(0, .w (.c (.d (.sl (l.map iD))))), (1, .w (.c (.d (.sl (l.map iD))))), (5, .w (.c (.d (.int .i64 (i : Int)))))], hL [], uL []⟩
def lp_same8_0 : SCode :=
  .seq (.seq (.reg [⟨(some 11), .mv (.t 5), none⟩,
    ⟨(some 12), .mv (.t 0), none⟩,
    ⟨(some 13), .len (.t 12), none⟩,
    ⟨(some 14), .bin .lss (.t 11) (.t 13), none⟩])
  (.cond (.t 14) (.skip)
   (.exit 0)))
  (.seq (.block 1 (.seq (.reg [⟨(some 17), .mv (.t 0), none⟩,
     ⟨(some 18), .mv (.t 5), none⟩,
     ⟨(some 19), .idxSl 1 (.t 17) (.t 18), none⟩,
     ⟨(some 20), .load .sc (.t 19), none⟩,
     ⟨(some 21), .mv (.t 1), none⟩,
     ⟨(some 22), .mv (.t 5), none⟩,
     ⟨(some 23), .idxSl 1 (.t 21) (.t 22), none⟩,
     ⟨(some 24), .load .sc (.t 23), none⟩,
     ⟨(some 25), .bin .neq (.t 20) (.t 24), none⟩])
   (.cond (.t 25) (.seq (.reg [⟨(some 4), .mv (.k (.c (.d (.bool false)))), none⟩])
    (.ret))
    (.skip))))
  (.reg [⟨(some 15), .mv (.t 5), none⟩,
    ⟨(some 16), .bin .add (.t 15) (.k (.c (.d (.int .i64 1)))), none⟩,
    ⟨(some 5), .mv (.t 16), none⟩]))
def sf_same8 : SFn := ⟨2, 26,
  .seq (.reg [⟨(some 4), .mv (.k (.c (.d (.bool false)))), none⟩])
  (.seq (.seq (.reg [⟨(some 6), .mv (.t 0), none⟩,
    ⟨(some 7), .len (.t 6), none⟩,
    ⟨(some 8), .mv (.t 1), none⟩,
    ⟨(some 9), .len (.t 8), none⟩,
    ⟨(some 10), .bin .neq (.t 7) (.t 9), none⟩])
  (.cond (.t 10) (.seq (.reg [⟨(some 4), .mv (.k (.c (.d (.bool false)))), none⟩])
   (.ret))
   (.skip)))
  (.seq (.seq (.reg [⟨(some 5), .mv (.k (.c (.d (.int .i64 0)))), none⟩])
  (.block 0 (.loop lp_same8_0)))
  (.seq (.reg [⟨(some 4), .mv (.k (.c (.d (.bool true)))), none⟩])
  (.ret)))),
  [(4, none)]⟩
theorem cf_same8 : compFn Tryd.prog { own := [], comp := [], frz := [], nils := [] } Tryd.f17 = some sf_same8 := by kernel_rfl
set_option maxHeartbeats 1600000 in
theorem same8_c (G : Glob) (l : List Nat) (hl : l.length ≤ 1000000) : Den Tryd.prog G 17 [.sl (l.map iD), .sl (l.map iD)] (.w (.c (.d (.bool true)))) := by
  refine den_walk Tryd.func17 cf_same8 rfl rfl ?_
  simp only [sf_same8, putAll, wx, wy, wz, stV, seval, IntWalk.iteOmega, IntWalk.toNatUp, reduceCtorEq]
  refine loop_st (smSt l) (fun i => l.length - i) (fun i => i ≤ l.length) 0 (Nat.zero_le _) ?_ ?_
  · refine ent_l (fun i => i) ?_ ?_ rfl rfl <;> simp only [wx, wex, wez, stV, seval, IntWalk.iteOmega, IntWalk.toNatUp, reduceCtorEq]
  · intro i hi
    by_cases hlt : i < l.length
    · have g1 := getI hlt
      simp only [lp_same8_0, smSt, wx, wy, wz, stV, seval, IntWalk.iteOmega, IntWalk.toNatUp, reduceCtorEq, g1]
      refine lop_next (i + 1) (by omega) (by omega) (ent_l (fun i => i) ?_ ?_ rfl rfl) <;> simp only [wx, wex, wez, stV, seval, IntWalk.iteOmega, IntWalk.toNatUp, reduceCtorEq]
    · obtain rfl : i = l.length := by omega
      simp only [lp_same8_0, smSt, wx, wy, wz, stV, seval, IntWalk.iteOmega, IntWalk.toNatUp, reduceCtorEq]
      exact ret_d1 (by simp only [wx, wy, wz, stV, seval, IntWalk.iteOmega, IntWalk.toNatUp, reduceCtorEq])
def light8B (l : List (List UInt8)) : Bool := decide (l.length ≤ 40) && l.all fun x => decide (x.length ≤ 40)
theorem light8_ok {l : List (List UInt8)} (h : light8B l = true) : l.length ≤ 40 ∧ ∀ x ∈ l, x.length ≤ 40 := by
  unfold light8B at h
  simp only [Bool.and_eq_true, decide_eq_true_eq, List.all_eq_true] at h
  exact h
theorem light8_1 {l : List (List UInt8)} (h : 40 < l.length ∨ ∃ x ∈ l, 40 < x.length) : light8B l = false := by
  cases hl : light8B l
  · rfl
  · obtain ⟨h2, h4⟩ := light8_ok hl
    rcases h with h | ⟨x, hx, h⟩
    · omega
    · have := h4 x hx; omega
def lt8St (l : List (List UInt8)) (i : Nat) : St := ⟨ofL [(0, .w (.c (.d (sls l)))), (3, .w (.c (.d (.int .i64 (i : Int)))))], hL [], uL []⟩
def lp_lig8_0 : SCode :=
  .seq (.seq (.reg [⟨(some 7), .mv (.t 3), none⟩,
    ⟨(some 8), .mv (.t 0), none⟩,
    ⟨(some 9), .len (.t 8), none⟩,
    ⟨(some 10), .bin .lss (.t 7) (.t 9), none⟩])
  (.cond (.t 10) (.skip)
   (.exit 0)))
  (.seq (.block 1 (.seq (.reg [⟨(some 13), .mv (.t 0), none⟩,
     ⟨(some 14), .mv (.t 3), none⟩,
     ⟨(some 15), .idxSl 1 (.t 13) (.t 14), none⟩,
     ⟨(some 16), .load .sc (.t 15), none⟩,
     ⟨(some 17), .len (.t 16), none⟩,
     ⟨(some 18), .bin .gtr (.t 17) (.k (.c (.d (.int .i64 40)))), none⟩])
   (.cond (.t 18) (.seq (.reg [⟨(some 2), .mv (.k (.c (.d (.bool false)))), none⟩])
    (.ret))
    (.skip))))
  (.reg [⟨(some 11), .mv (.t 3), none⟩,
    ⟨(some 12), .bin .add (.t 11) (.k (.c (.d (.int .i64 1)))), none⟩,
    ⟨(some 3), .mv (.t 12), none⟩]))
def sf_lig8 : SFn := ⟨1, 19,
  .seq (.reg [⟨(some 2), .mv (.k (.c (.d (.bool false)))), none⟩])
  (.seq (.seq (.reg [⟨(some 4), .mv (.t 0), none⟩,
    ⟨(some 5), .len (.t 4), none⟩,
    ⟨(some 6), .bin .gtr (.t 5) (.k (.c (.d (.int .i64 40)))), none⟩])
  (.cond (.t 6) (.seq (.reg [⟨(some 2), .mv (.k (.c (.d (.bool false)))), none⟩])
   (.ret))
   (.skip)))
  (.seq (.seq (.reg [⟨(some 3), .mv (.k (.c (.d (.int .i64 0)))), none⟩])
  (.block 0 (.loop lp_lig8_0)))
  (.seq (.reg [⟨(some 2), .mv (.k (.c (.d (.bool true)))), none⟩])
  (.ret)))),
  [(2, none)]⟩
theorem cf_lig8 : compFn Tryd.prog { own := [], comp := [], frz := [], nils := [] } Tryd.f7 = some sf_lig8 := by kernel_rfl
set_option maxHeartbeats 1600000 in
theorem lig8_c (G : Glob) (l : List (List UInt8)) (hl : l.length ≤ 9223372036854775807) (hb : ∀ x ∈ l, x.length ≤ 9223372036854775807) : Den Tryd.prog G 7 [sls l] (.w (.c (.d (.bool (light8B l))))) := by
  refine den_walk Tryd.func7 cf_lig8 rfl rfl ?_
  by_cases h : 40 < l.length
  · rw [light8_1 (.inl h)]
    simp only [sf_lig8, putAll, wx, wy, wz, stV, seval, IntWalk.iteOmega, IntWalk.toNatUp, reduceCtorEq]
    exact ret_d1 (by simp only [wx, wy, wz, stV, seval, IntWalk.iteOmega, IntWalk.toNatUp, reduceCtorEq])
  · simp only [sf_lig8, putAll, wx, wy, wz, stV, seval, IntWalk.iteOmega, IntWalk.toNatUp, reduceCtorEq]
    refine loop_st (lt8St l) (fun i => l.length - i) (fun i => i ≤ l.length ∧ ∀ j, j < i → (l.getD j []).length ≤ 40) 0 ⟨Nat.zero_le _, fun j hj => by omega⟩ ?_ ?_
    · refine ent_l (fun i => i) ?_ ?_ rfl rfl <;> simp only [wx, wex, wez, stV, seval, IntWalk.iteOmega, IntWalk.toNatUp, reduceCtorEq] <;> rfl
    · rintro i ⟨hi, hok⟩
      by_cases hlt : i < l.length
      · have g1 := getLs hlt
        have hx := hb _ (getLs_mem hlt)
        by_cases hlong : 40 < (l.getD i []).length
        · rw [light8_1 (.inr ⟨_, getLs_mem hlt, hlong⟩)]
          simp only [lp_lig8_0, lt8St, wx, wy, wz, stV, seval, IntWalk.iteOmega, IntWalk.toNatUp, reduceCtorEq, get_map, g1]
          exact ret_d1 (by simp only [wx, wy, wz, stV, seval, IntWalk.iteOmega, IntWalk.toNatUp, reduceCtorEq])
        · simp only [lp_lig8_0, lt8St, wx, wy, wz, stV, seval, IntWalk.iteOmega, IntWalk.toNatUp, reduceCtorEq, get_map, g1]
          refine lop_next (i + 1) (by omega) ⟨by omega, fun j hj => ?_⟩ (ent_l (fun i => i) ?_ ?_ rfl rfl)
          · rcases Nat.lt_or_ge j i with h | h
            · exact hok j h
            · obtain rfl : j = i := by omega
              omega
          all_goals simp only [wx, wex, wez, stV, seval, IntWalk.iteOmega, IntWalk.toNatUp, reduceCtorEq]
      · have : light8B l = true := by
          unfold light8B
          rw [decide_eq_true (by omega), Bool.true_and, List.all_eq_true]
          intro x hx
          obtain ⟨j, hj, rfl⟩ := List.getElem_of_mem hx
          have := hok j (by omega)
          rw [List.getD_eq_getElem?_getD, List.getElem?_eq_getElem hj] at this
          exact decide_eq_true this
        rw [this]
        simp only [lp_lig8_0, lt8St, wx, wy, wz, stV, seval, IntWalk.iteOmega, IntWalk.toNatUp, reduceCtorEq]
        exact ret_d1 (by simp only [wx, wy, wz, stV, seval, IntWalk.iteOmega, IntWalk.toNatUp, reduceCtorEq])
end Go.Proofs.YtgepbpcolddgoaaDoor
