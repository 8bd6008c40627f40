/- The laws of layer 8: the sanity check, what is looked at. Own work. -/
import Derived.Test.YtgepbpcolddgoaaPn1
import Derived.Test.YtgepbpcolddgoaaPs1
set_option linter.unusedVariables false
set_option linter.unusedSimpArgs false
namespace Go.Proofs.Ytgepbpcolddgoaa
open Go.RowKit

theorem z16o : [D.int .u8 0, D.int .u8 0, D.int .u8 0, D.int .u8 0, D.int .u8 0, D.int .u8 0, D.int .u8 0, D.int .u8 0, D.int .u8 0, D.int .u8 0, D.int .u8 0, D.int .u8 0, D.int .u8 0, D.int .u8 0, D.int .u8 0, D.int .u8 0] = (repL 16 (0 : UInt8)).map bD := rfl
theorem z17o : [D.int .u8 0, D.int .u8 0, D.int .u8 0, D.int .u8 0, D.int .u8 0, D.int .u8 0, D.int .u8 0, D.int .u8 0, D.int .u8 0, D.int .u8 0, D.int .u8 0, D.int .u8 0, D.int .u8 0, D.int .u8 0, D.int .u8 0, D.int .u8 0, D.int .u8 0] = (repL 17 (0 : UInt8)).map bD := rfl
theorem dig_zero : digN (repL 16 0) = repL 32 0 ++ [1, 14, 0] := by decide
def sf_known8 : SFn := ⟨0, 39,
  .seq (.reg [⟨(some 0), .mv (.k (.c (.d (.bool false)))), none⟩])
  (.seq (.reg [⟨(some 4), .make 1 1 (.int .u8 0) (.k (.c (.d (.int .i64 16)))) (.k (.c (.d (.int .i64 16)))), none⟩,
    ⟨(some 5), .call 4 [(.t 4)] none, none⟩,
    ⟨(some 3), .mv (.t 5), none⟩,
    ⟨(some 6), .extract (.t 3) 0, none⟩,
    ⟨(some 7), .extract (.t 3) 1, none⟩,
    ⟨(some 1), .mv (.t 6), none⟩,
    ⟨(some 2), .mv (.t 7), none⟩])
  (.seq (.reg [⟨(some 8), .mv (.t 2), none⟩,
    ⟨(some 9), .bin .eql (.t 8) (.k (.c (.d (.int .i64 0)))), none⟩,
    ⟨(some 10), .mv (.t 9), none⟩,
    ⟨(some 11), .mv (.t 1), (some (10, true))⟩,
    ⟨(some 12), .len (.t 11), (some (10, true))⟩,
    ⟨(some 13), .bin .eql (.t 12) (.k (.c (.d (.int .i64 35)))), (some (10, true))⟩,
    ⟨(some 14), .pick (.t 10) (.t 13) (.k (.c (.d (.bool false)))), none⟩,
    ⟨(some 15), .mv (.t 14), none⟩,
    ⟨(some 16), .mv (.t 1), (some (15, true))⟩,
    ⟨(some 17), .idxSl 1 (.t 16) (.k (.c (.d (.int .i64 0)))), (some (15, true))⟩,
    ⟨(some 18), .load .sc (.t 17), (some (15, true))⟩,
    ⟨(some 19), .bin .eql (.t 18) (.k (.c (.d (.int .i64 0)))), (some (15, true))⟩,
    ⟨(some 20), .pick (.t 15) (.t 19) (.k (.c (.d (.bool false)))), none⟩,
    ⟨(some 21), .mv (.t 20), none⟩,
    ⟨(some 22), .mv (.t 1), (some (21, true))⟩,
    ⟨(some 23), .idxSl 1 (.t 22) (.k (.c (.d (.int .i64 32)))), (some (21, true))⟩,
    ⟨(some 24), .load .sc (.t 23), (some (21, true))⟩,
    ⟨(some 25), .bin .eql (.t 24) (.k (.c (.d (.int .i64 1)))), (some (21, true))⟩,
    ⟨(some 26), .pick (.t 21) (.t 25) (.k (.c (.d (.bool false)))), none⟩,
    ⟨(some 27), .mv (.t 26), none⟩,
    ⟨(some 28), .mv (.t 1), (some (27, true))⟩,
    ⟨(some 29), .idxSl 1 (.t 28) (.k (.c (.d (.int .i64 33)))), (some (27, true))⟩,
    ⟨(some 30), .load .sc (.t 29), (some (27, true))⟩,
    ⟨(some 31), .bin .eql (.t 30) (.k (.c (.d (.int .i64 14)))), (some (27, true))⟩,
    ⟨(some 32), .pick (.t 27) (.t 31) (.k (.c (.d (.bool false)))), none⟩,
    ⟨(some 33), .mv (.t 32), none⟩,
    ⟨(some 34), .mv (.t 1), (some (33, true))⟩,
    ⟨(some 35), .idxSl 1 (.t 34) (.k (.c (.d (.int .i64 34)))), (some (33, true))⟩,
    ⟨(some 36), .load .sc (.t 35), (some (33, true))⟩,
    ⟨(some 37), .bin .eql (.t 36) (.k (.c (.d (.int .i64 0)))), (some (33, true))⟩,
    ⟨(some 38), .pick (.t 33) (.t 37) (.k (.c (.d (.bool false)))), none⟩,
    ⟨(some 0), .mv (.t 38), none⟩])
  (.ret))),
  [(0, none)]⟩
theorem cf_known8 : compFn Try.prog { own := [], comp := [], frz := [], nils := [] } Try.f6 = some sf_known8 := by kernel_rfl
set_option maxHeartbeats 1600000 in
theorem known8_c (G : Glob) : Den Try.prog G 6 [] (.w (.c (.d (.bool true)))) := by
  refine den_walk Try.func6 cf_known8 rfl rfl ?_
  have hz : (repL 16 (0 : UInt8)).length = 16 := repL_len _ _
  have hd := dgs_f G (repL 16 0) (by omega)
  rw [(dig_ok hz).1, (dig_ok hz).2] at hd
  have hl : (digN (repL 16 0)).length = 35 := by rw [digN_len, hz]
  have g0 := getI (l := digN (repL 16 0)) (j := 0) (by omega)
  have g1 := getI (l := digN (repL 16 0)) (j := 32) (by omega)
  have g2 := getI (l := digN (repL 16 0)) (j := 33) (by omega)
  have g3 := getI (l := digN (repL 16 0)) (j := 34) (by omega)
  have v0 : (digN (repL 16 0)).getD 0 0 = 0 := by rw [dig_zero]; rfl
  have v1 : (digN (repL 16 0)).getD 32 0 = 1 := by rw [dig_zero]; rfl
  have v2 : (digN (repL 16 0)).getD 33 0 = 14 := by rw [dig_zero]; rfl
  have v3 : (digN (repL 16 0)).getD 34 0 = 0 := by rw [dig_zero]; rfl
  rw [v0] at g0
  rw [v1] at g1
  rw [v2] at g2
  rw [v3] at g3
  have t0 : (repL 16 (0 : UInt8)).take 16 = repL 16 0 := List.take_of_length_le (by omega)
  generalize digN (repL 16 0) = l at *
  simp only [sf_known8, putAll, wx, wy, wz, stV, seval, IntWalk.iteOmega, IntWalk.toNatUp, reduceCtorEq, z16o]
  refine st_call hd (by simp only [wx, wy, wz, stV, seval, IntWalk.iteOmega, IntWalk.toNatUp, reduceCtorEq, take_map, z16o, t0, repL_len]) (.inr (fl_iy _ _ _ _)) ?_
  simp only [wx, wy, wz, stV, seval, IntWalk.iteOmega, IntWalk.toNatUp, reduceCtorEq, hl, g0, g1, g2, g3]
  exact ret_d1 (by simp only [wx, wy, wz, stV, seval, IntWalk.iteOmega, IntWalk.toNatUp, reduceCtorEq])
theorem iD_inj {x y : Nat} (h : (x : Int) = (y : Int)) : x = y := by omega
def smSt (l : List Nat) (i : Nat) : St := ⟨ofL [(0, .w (.c (.d (.sl (l.map iD))))), (1, .w (.c (.d (.sl (l.map iD))))), (5, .w (.c (.d (.int .i64 (i : Int)))))], hL [], uL []⟩
def light8B (l : List (List UInt8)) : Bool := decide (l.length ≤ 40) && l.all fun x => decide (x.length ≤ 40)
theorem light8_ok {l : List (List UInt8)} (h : light8B l = true) : l.length ≤ 40 ∧ ∀ x ∈ l, x.length ≤ 40 := by
  unfold light8B at h
  simp only [Bool.and_eq_true, decide_eq_true_eq, List.all_eq_true] at h
  exact h
theorem light8_1 {l : List (List UInt8)} (h : 40 < l.length ∨ ∃ x ∈ l, 40 < x.length) : light8B l = false := by
  cases hl : light8B l
  · rfl
  · obtain ⟨h2, h4⟩ := light8_ok hl
    rcases h with h | ⟨x, hx, h⟩
    · omega
    · have := h4 x hx; omega
def lt8St (l : List (List UInt8)) (i : Nat) : St := ⟨ofL [(0, .w (.c (.d (sls l)))), (3, .w (.c (.d (.int .i64 (i : Int)))))], hL [], uL []⟩
end Go.Proofs.Ytgepbpcolddgoaa
