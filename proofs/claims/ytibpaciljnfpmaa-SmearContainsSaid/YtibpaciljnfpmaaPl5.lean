/- Layer 12 on data: the reference. Own work. -/
import Derived.Test.YtibpaciljnfpmaaPl4
set_option linter.unusedVariables false
set_option linter.unusedSimpArgs false
namespace Go.Proofs.Ytibpaciljnfpmaa
open Go.RowKit

def rvSt (l : List Lp) (f : Int) (i : Nat) : St := ⟨ofL [(1, .w (.c (.rp [.int .i64 f, .sl (l.map spD)]))), (3, .w (.c (.d (.int .i64 (lastO f l i))))), (4, .w (.c (.d (.int .i64 (i : Int)))))], hL [], uL []⟩
theorem suc_sub (j : Nat) : (j : Int) + 1 - 1 = j := by omega
def lp_rlv_0 : SCode :=
  .seq (.seq (.reg [⟨(some 22), .mv (.t 4), none⟩,
    ⟨(some 23), .fieldAddr 1 (.t 1), none⟩,
    ⟨(some 24), .load .sc (.t 23), none⟩,
    ⟨(some 25), .len (.t 24), none⟩,
    ⟨(some 26), .bin .lss (.t 22) (.t 25), none⟩])
  (.cond (.t 26) (.skip)
   (.exit 0)))
  (.seq (.block 1 (.seq (.reg [⟨(some 29), .fieldAddr 1 (.t 1), none⟩,
     ⟨(some 30), .load .sc (.t 29), none⟩,
     ⟨(some 31), .mv (.t 4), none⟩,
     ⟨(some 32), .idxSl 2 (.t 30) (.t 31), none⟩,
     ⟨(some 33), .load (.ag 2) (.t 32), none⟩,
     ⟨(some 5), .alloc [(.d (.int .i64 0)), (.d (.int .i64 0))], none⟩,
     ⟨none, .store (.ag 2) (.t 5) (.t 33), none⟩])
   (.seq (.seq (.reg [⟨(some 34), .fieldAddr 0 (.t 5), none⟩,
     ⟨(some 35), .load .sc (.t 34), none⟩,
     ⟨(some 36), .bin .lss (.t 35) (.k (.c (.d (.int .i64 86400)))), none⟩,
     ⟨(some 37), .mv (.t 36), none⟩,
     ⟨(some 38), .fieldAddr 0 (.t 5), (some (37, false))⟩,
     ⟨(some 39), .load .sc (.t 38), (some (37, false))⟩,
     ⟨(some 40), .bin .gtr (.t 39) (.k (.c (.d (.int .i64 137438953472)))), (some (37, false))⟩,
     ⟨(some 41), .pick (.t 37) (.k (.c (.d (.bool true)))) (.t 40), none⟩,
     ⟨(some 42), .mv (.t 41), none⟩,
     ⟨(some 43), .fieldAddr 0 (.t 5), (some (42, false))⟩,
     ⟨(some 44), .load .sc (.t 43), (some (42, false))⟩,
     ⟨(some 45), .bin .rem (.t 44) (.k (.c (.d (.int .i64 86400)))), (some (42, false))⟩,
     ⟨(some 46), .bin .neq (.t 45) (.k (.c (.d (.int .i64 0)))), (some (42, false))⟩,
     ⟨(some 47), .pick (.t 42) (.k (.c (.d (.bool true)))) (.t 46), none⟩,
     ⟨(some 48), .mv (.t 47), none⟩,
     ⟨(some 49), .mv (.t 4), (some (48, false))⟩,
     ⟨(some 50), .bin .gtr (.t 49) (.k (.c (.d (.int .i64 0)))), (some (48, false))⟩,
     ⟨(some 51), .mv (.t 50), (some (48, false))⟩,
     ⟨(some 52), .fieldAddr 0 (.t 5), (some (51, true))⟩,
     ⟨(some 53), .load .sc (.t 52), (some (51, true))⟩,
     ⟨(some 54), .fieldAddr 1 (.t 1), (some (51, true))⟩,
     ⟨(some 55), .load .sc (.t 54), (some (51, true))⟩,
     ⟨(some 56), .mv (.t 4), (some (51, true))⟩,
     ⟨(some 57), .bin .sub (.t 56) (.k (.c (.d (.int .i64 1)))), (some (51, true))⟩,
     ⟨(some 58), .idxSl 2 (.t 55) (.t 57), (some (51, true))⟩,
     ⟨(some 59), .fieldAddr 0 (.t 58), (some (51, true))⟩,
     ⟨(some 60), .load .sc (.t 59), (some (51, true))⟩,
     ⟨(some 61), .bin .add (.t 60) (.k (.c (.d (.int .i64 172800)))), (some (51, true))⟩,
     ⟨(some 62), .bin .lss (.t 53) (.t 61), (some (51, true))⟩,
     ⟨(some 63), .pick (.t 51) (.t 62) (.k (.c (.d (.bool false)))), (some (48, false))⟩,
     ⟨(some 64), .pick (.t 48) (.k (.c (.d (.bool true)))) (.t 63), none⟩,
     ⟨(some 65), .mv (.t 64), none⟩,
     ⟨(some 66), .fieldAddr 1 (.t 5), (some (65, false))⟩,
     ⟨(some 67), .load .sc (.t 66), (some (65, false))⟩,
     ⟨(some 68), .mv (.t 3), (some (65, false))⟩,
     ⟨(some 69), .bin .add (.t 68) (.k (.c (.d (.int .i64 1)))), (some (65, false))⟩,
     ⟨(some 70), .bin .neq (.t 67) (.t 69), (some (65, false))⟩,
     ⟨(some 71), .mv (.t 70), (some (65, false))⟩,
     ⟨(some 72), .fieldAddr 1 (.t 5), (some (71, true))⟩,
     ⟨(some 73), .load .sc (.t 72), (some (71, true))⟩,
     ⟨(some 74), .mv (.t 3), (some (71, true))⟩,
     ⟨(some 75), .bin .sub (.t 74) (.k (.c (.d (.int .i64 1)))), (some (71, true))⟩,
     ⟨(some 76), .bin .neq (.t 73) (.t 75), (some (71, true))⟩,
     ⟨(some 77), .pick (.t 71) (.t 76) (.k (.c (.d (.bool false)))), (some (65, false))⟩,
     ⟨(some 78), .pick (.t 65) (.k (.c (.d (.bool true)))) (.t 77), none⟩])
   (.cond (.t 78) (.seq (.reg [⟨(some 2), .mv (.k (.c (.d (.bool false)))), none⟩])
    (.ret))
    (.skip)))
   (.reg [⟨(some 79), .fieldAddr 1 (.t 5), none⟩,
     ⟨(some 80), .load .sc (.t 79), none⟩,
     ⟨(some 3), .mv (.t 80), none⟩]))))
  (.reg [⟨(some 27), .mv (.t 4), none⟩,
    ⟨(some 28), .bin .add (.t 27) (.k (.c (.d (.int .i64 1)))), none⟩,
    ⟨(some 4), .mv (.t 28), none⟩]))
def sf_rlv : SFn := ⟨1, 81,
  .seq (.reg [⟨(some 1), .box .roBox (.t 0), none⟩,
    ⟨(some 2), .mv (.k (.c (.d (.bool false)))), none⟩])
  (.seq (.seq (.reg [⟨(some 6), .fieldAddr 0 (.t 1), none⟩,
    ⟨(some 7), .load .sc (.t 6), none⟩,
    ⟨(some 8), .bin .lss (.t 7) (.k (.c (.d (.int .i64 0)))), none⟩,
    ⟨(some 9), .mv (.t 8), none⟩,
    ⟨(some 10), .fieldAddr 0 (.t 1), (some (9, false))⟩,
    ⟨(some 11), .load .sc (.t 10), (some (9, false))⟩,
    ⟨(some 12), .bin .gtr (.t 11) (.k (.c (.d (.int .i64 100)))), (some (9, false))⟩,
    ⟨(some 13), .pick (.t 9) (.k (.c (.d (.bool true)))) (.t 12), none⟩,
    ⟨(some 14), .mv (.t 13), none⟩,
    ⟨(some 15), .fieldAddr 1 (.t 1), (some (14, false))⟩,
    ⟨(some 16), .load .sc (.t 15), (some (14, false))⟩,
    ⟨(some 17), .len (.t 16), (some (14, false))⟩,
    ⟨(some 18), .bin .gtr (.t 17) (.k (.c (.d (.int .i64 64)))), (some (14, false))⟩,
    ⟨(some 19), .pick (.t 14) (.k (.c (.d (.bool true)))) (.t 18), none⟩])
  (.cond (.t 19) (.seq (.reg [⟨(some 2), .mv (.k (.c (.d (.bool false)))), none⟩])
   (.ret))
   (.skip)))
  (.seq (.reg [⟨(some 20), .fieldAddr 0 (.t 1), none⟩,
    ⟨(some 21), .load .sc (.t 20), none⟩,
    ⟨(some 3), .mv (.t 21), none⟩])
  (.seq (.seq (.reg [⟨(some 4), .mv (.k (.c (.d (.int .i64 0)))), none⟩])
  (.block 0 (.loop lp_rlv_0)))
  (.seq (.reg [⟨(some 2), .mv (.k (.c (.d (.bool true)))), none⟩])
  (.ret))))),
  [(2, none)]⟩
theorem cf_rlv : compFn Try.prog { own := [], comp := [], frz := [], nils := [] } Try.f21 = some sf_rlv := by kernel_rfl
set_option maxHeartbeats 1600000 in
theorem rlv_c (G : Glob) (f : Int) (l : List Lp) (hl : l.length ≤ 9223372036854775807) : Den Try.prog G 21 [lpD f l] (.w (.c (.d (.bool (okB f l))))) := by
  refine den_walk Try.func21 cf_rlv rfl rfl ?_
  unfold lpD
  by_cases h1 : f < 0
  · have e : okB f l = false := by unfold okB headB; rw [decide_eq_false (by omega)]; rfl
    rw [e]
    simp only [sf_rlv, putAll, wx, wy, wz, stV, seval, IntWalk.iteOmega, IntWalk.toNatUp, reduceCtorEq]
    exact ret_d1 (by simp only [wx, wy, wz, stV, seval, IntWalk.iteOmega, IntWalk.toNatUp, reduceCtorEq])
  · by_cases h2 : f > 100
    · have e : okB f l = false := by unfold okB headB; rw [decide_eq_false (by omega)]; rfl
      rw [e]
      simp only [sf_rlv, putAll, wx, wy, wz, stV, seval, IntWalk.iteOmega, IntWalk.toNatUp, reduceCtorEq, eq_true h2]
      exact ret_d1 (by simp only [wx, wy, wz, stV, seval, IntWalk.iteOmega, IntWalk.toNatUp, reduceCtorEq])
    · by_cases h3 : (l.length : Int) > 64
      · have e : okB f l = false := by unfold okB headB; rw [decide_eq_false (by omega)]; rfl
        rw [e]
        simp only [sf_rlv, putAll, wx, wy, wz, stV, seval, IntWalk.iteOmega, IntWalk.toNatUp, reduceCtorEq, eq_false h2, eq_true h3]
        exact ret_d1 (by simp only [wx, wy, wz, stV, seval, IntWalk.iteOmega, IntWalk.toNatUp, reduceCtorEq])
      · simp only [sf_rlv, putAll, wx, wy, wz, stV, seval, IntWalk.iteOmega, IntWalk.toNatUp, reduceCtorEq, eq_false h2, eq_false h3]
        refine loop_st (rvSt l f) (fun i => l.length - i) (fun i => i ≤ l.length ∧ ∀ j, j < i → okE f l j = true) 0 ⟨Nat.zero_le _, fun j hj => by omega⟩ ?_ ?_
        · have e2 : lastO f l 0 = f := rfl
          refine ent_l (fun i => i) ?_ ?_ rfl rfl <;> simp only [wx, wex, wez, stV, seval, IntWalk.iteOmega, IntWalk.toNatUp, reduceCtorEq, e2]
        · rintro i ⟨hi, hok⟩
          by_cases hlt : i < l.length
          · have g := lpG_get hlt
            have b2 := lastO_in hok
            have n2 : lastO f l (i + 1) = (lpG l i).2 := rfl
            have no : okE f l i = false → okB f l = false := okB_no hlt
            have nx : okE f l i = true → ∀ j, j < i + 1 → okE f l j = true := fun ok j hj => by
              rcases Nat.lt_succ_iff_lt_or_eq.1 hj with hj | rfl
              · exact hok j hj
              · exact ok
            have ee : okE f l i = decide (86400 ≤ (lpG l i).1 ∧ (lpG l i).1 ≤ 137438953472 ∧ (lpG l i).1 % 86400 = 0 ∧ (0 < i → (lpG l (i - 1)).1 + 172800 ≤ (lpG l i).1) ∧ ((lpG l i).2 = lastO f l i + 1 ∨ (lpG l i).2 = lastO f l i - 1)) := rfl
            generalize lpG l i = X at *
            obtain ⟨A, O⟩ := X
            simp only at ee n2
            by_cases c1 : A < 86400
            · rw [no (ee.trans (decide_eq_false (by omega)))]
              simp only [lp_rlv_0, rvSt, wx, wy, wz, stV, seval, IntWalk.iteOmega, IntWalk.toNatUp, reduceCtorEq, get_map, g, spD]
              exact ret_d1 (by simp only [wx, wy, wz, stV, seval, IntWalk.iteOmega, IntWalk.toNatUp, reduceCtorEq])
            · by_cases c2 : A > 137438953472
              · rw [no (ee.trans (decide_eq_false (by omega)))]
                simp only [lp_rlv_0, rvSt, wx, wy, wz, stV, seval, IntWalk.iteOmega, IntWalk.toNatUp, reduceCtorEq, get_map, g, spD, eq_true c2]
                exact ret_d1 (by simp only [wx, wy, wz, stV, seval, IntWalk.iteOmega, IntWalk.toNatUp, reduceCtorEq])
              · have tm := tmod86 (x := A) (by omega)
                by_cases c3 : A % 86400 = 0
                · have c3' : A.tmod 86400 = 0 := by rw [tm]; exact c3
                  rcases i with _ | i
                  · generalize hL : lastO f l 0 = L at *
                    have p0 : ((0 : Int) > 0) = False := eq_false (by omega)
                    by_cases c4 : O = L - 1
                    · have ok : okE f l 0 = true := ee.trans (decide_eq_true ⟨by omega, by omega, c3, fun k => by omega, .inr c4⟩)
                      have c5 : ¬ L - 1 = L + 1 := by omega
                      simp only [lp_rlv_0, rvSt, wx, wy, wz, stV, seval, IntWalk.iteOmega, IntWalk.toNatUp, reduceCtorEq, get_map, g, spD, hL, c3', eq_false c2, p0, c4, c5]
                      refine lop_next 1 (by omega) ⟨by omega, nx ok⟩ (ent_l (fun i => i) ?_ ?_ rfl rfl) <;> simp only [wx, wex, wez, stV, seval, IntWalk.iteOmega, IntWalk.toNatUp, reduceCtorEq, n2, c4]
                    · by_cases c5 : O = L + 1
                      · have ok : okE f l 0 = true := ee.trans (decide_eq_true ⟨by omega, by omega, c3, fun k => by omega, .inl c5⟩)
                        simp only [lp_rlv_0, rvSt, wx, wy, wz, stV, seval, IntWalk.iteOmega, IntWalk.toNatUp, reduceCtorEq, get_map, g, spD, hL, c3', eq_false c2, p0, c5]
                        refine lop_next 1 (by omega) ⟨by omega, nx ok⟩ (ent_l (fun i => i) ?_ ?_ rfl rfl) <;> simp only [wx, wex, wez, stV, seval, IntWalk.iteOmega, IntWalk.toNatUp, reduceCtorEq, n2, c5]
                      · rw [no (ee.trans (decide_eq_false (by omega)))]
                        simp only [lp_rlv_0, rvSt, wx, wy, wz, stV, seval, IntWalk.iteOmega, IntWalk.toNatUp, reduceCtorEq, get_map, g, spD, hL, c3', eq_false c2, p0, c4, c5]
                        exact ret_d1 (by simp only [wx, wy, wz, stV, seval, IntWalk.iteOmega, IntWalk.toNatUp, reduceCtorEq])
                  · have gp := lpG_get (l := l) (i := i) (by omega)
                    have op := okE_e (hok i (by omega))
                    rw [Nat.add_sub_cancel] at ee
                    generalize lpG l i = Y at *
                    obtain ⟨B, O'⟩ := Y
                    simp only at ee op
                    generalize hL : lastO f l (i + 1) = L at *
                    have p0 : ((i : Int) + 1 > 0) = True := eq_true (by omega)
                    by_cases c6 : A < B + 172800
                    · rw [no (ee.trans (decide_eq_false (by omega)))]
                      simp only [lp_rlv_0, rvSt, wx, wy, wz, stV, seval, IntWalk.iteOmega, IntWalk.toNatUp, reduceCtorEq, get_map, g, spD, hL, c3', eq_false c2, p0, suc_sub, gp]
                      exact ret_d1 (by simp only [wx, wy, wz, stV, seval, IntWalk.iteOmega, IntWalk.toNatUp, reduceCtorEq])
                    · by_cases c4 : O = L - 1
                      · have ok : okE f l (i + 1) = true := ee.trans (decide_eq_true ⟨by omega, by omega, c3, fun k => by omega, .inr c4⟩)
                        have c5 : ¬ L - 1 = L + 1 := by omega
                        simp only [lp_rlv_0, rvSt, wx, wy, wz, stV, seval, IntWalk.iteOmega, IntWalk.toNatUp, reduceCtorEq, get_map, g, spD, hL, c3', eq_false c2, p0, suc_sub, gp, c4, c5]
                        refine lop_next (i + 1 + 1) (by omega) ⟨by omega, nx ok⟩ (ent_l (fun i => i) ?_ ?_ rfl rfl) <;> simp only [wx, wex, wez, stV, seval, IntWalk.iteOmega, IntWalk.toNatUp, reduceCtorEq, n2, c4]
                      · by_cases c5 : O = L + 1
                        · have ok : okE f l (i + 1) = true := ee.trans (decide_eq_true ⟨by omega, by omega, c3, fun k => by omega, .inl c5⟩)
                          simp only [lp_rlv_0, rvSt, wx, wy, wz, stV, seval, IntWalk.iteOmega, IntWalk.toNatUp, reduceCtorEq, get_map, g, spD, hL, c3', eq_false c2, p0, suc_sub, gp, c5]
                          refine lop_next (i + 1 + 1) (by omega) ⟨by omega, nx ok⟩ (ent_l (fun i => i) ?_ ?_ rfl rfl) <;> simp only [wx, wex, wez, stV, seval, IntWalk.iteOmega, IntWalk.toNatUp, reduceCtorEq, n2, c5]
                        · rw [no (ee.trans (decide_eq_false (by omega)))]
                          simp only [lp_rlv_0, rvSt, wx, wy, wz, stV, seval, IntWalk.iteOmega, IntWalk.toNatUp, reduceCtorEq, get_map, g, spD, hL, c3', eq_false c2, p0, suc_sub, gp, c4, c5]
                          exact ret_d1 (by simp only [wx, wy, wz, stV, seval, IntWalk.iteOmega, IntWalk.toNatUp, reduceCtorEq])
                · have c3' : ¬ A.tmod 86400 = 0 := by rw [tm]; exact c3
                  rw [no (ee.trans (decide_eq_false fun k => c3 k.2.2.1))]
                  simp only [lp_rlv_0, rvSt, wx, wy, wz, stV, seval, IntWalk.iteOmega, IntWalk.toNatUp, reduceCtorEq, get_map, g, spD, c3', eq_false c2]
                  exact ret_d1 (by simp only [wx, wy, wz, stV, seval, IntWalk.iteOmega, IntWalk.toNatUp, reduceCtorEq])
          · have hil : i = l.length := by omega
            have e : okB f l = true := okB_iff.2 ⟨⟨by omega, by omega, by omega⟩, by rw [← hil]; exact hok⟩
            rw [e]
            simp only [lp_rlv_0, rvSt, wx, wy, wz, stV, seval, IntWalk.iteOmega, IntWalk.toNatUp, reduceCtorEq]
            exact ret_d1 (by simp only [wx, wy, wz, stV, seval, IntWalk.iteOmega, IntWalk.toNatUp, reduceCtorEq])
def roSt (l : List Lp) (f s : Int) (i : Nat) : St := ⟨ofL [(1, .w (.c (.d (.int .i64 s)))), (2, .w (.c (.rp [.int .i64 f, .sl (l.map spD)]))), (5, .w (.c (.d (.int .i64 (lastO f l i))))), (6, .w (.c (.d (.int .i64 (i : Int)))))], hL [], uL []⟩
def lp_rlof_0 : SCode :=
  .seq (.seq (.reg [⟨(some 9), .mv (.t 6), none⟩,
    ⟨(some 10), .fieldAddr 1 (.t 2), none⟩,
    ⟨(some 11), .load .sc (.t 10), none⟩,
    ⟨(some 12), .len (.t 11), none⟩,
    ⟨(some 13), .bin .lss (.t 9) (.t 12), none⟩,
    ⟨(some 14), .mv (.t 13), none⟩,
    ⟨(some 15), .fieldAddr 1 (.t 2), (some (14, true))⟩,
    ⟨(some 16), .load .sc (.t 15), (some (14, true))⟩,
    ⟨(some 17), .mv (.t 6), (some (14, true))⟩,
    ⟨(some 18), .idxSl 2 (.t 16) (.t 17), (some (14, true))⟩,
    ⟨(some 19), .fieldAddr 0 (.t 18), (some (14, true))⟩,
    ⟨(some 20), .load .sc (.t 19), (some (14, true))⟩,
    ⟨(some 21), .mv (.t 1), (some (14, true))⟩,
    ⟨(some 22), .bin .leq (.t 20) (.t 21), (some (14, true))⟩,
    ⟨(some 23), .pick (.t 14) (.t 22) (.k (.c (.d (.bool false)))), none⟩])
  (.cond (.t 23) (.skip)
   (.exit 0)))
  (.seq (.block 1 (.reg [⟨(some 26), .fieldAddr 1 (.t 2), none⟩,
     ⟨(some 27), .load .sc (.t 26), none⟩,
     ⟨(some 28), .mv (.t 6), none⟩,
     ⟨(some 29), .idxSl 2 (.t 27) (.t 28), none⟩,
     ⟨(some 30), .fieldAddr 1 (.t 29), none⟩,
     ⟨(some 31), .load .sc (.t 30), none⟩,
     ⟨(some 5), .mv (.t 31), none⟩]))
  (.reg [⟨(some 24), .mv (.t 6), none⟩,
    ⟨(some 25), .bin .add (.t 24) (.k (.c (.d (.int .i64 1)))), none⟩,
    ⟨(some 6), .mv (.t 25), none⟩]))
def sf_rlof : SFn := ⟨2, 33,
  .seq (.reg [⟨(some 2), .box .roBox (.t 0), none⟩,
    ⟨(some 4), .mv (.k (.c (.d (.int .i64 0)))), none⟩])
  (.seq (.reg [⟨(some 7), .fieldAddr 0 (.t 2), none⟩,
    ⟨(some 8), .load .sc (.t 7), none⟩,
    ⟨(some 5), .mv (.t 8), none⟩])
  (.seq (.seq (.reg [⟨(some 6), .mv (.k (.c (.d (.int .i64 0)))), none⟩])
  (.block 0 (.loop lp_rlof_0)))
  (.seq (.reg [⟨(some 32), .mv (.t 5), none⟩,
    ⟨(some 4), .mv (.t 32), none⟩])
  (.ret)))),
  [(4, none)]⟩
theorem cf_rlof : compFn Try.prog { own := [], comp := [], frz := [], nils := [] } Try.f50 = some sf_rlof := by kernel_rfl
theorem rlof_c (G : Glob) (f : Int) (l : List Lp) (s : Int) (hl : l.length ≤ 9223372036854775807) : Den Try.prog G 50 [lpD f l, .int .i64 s] (.w (.c (.d (.int .i64 (offN f l s))))) := by
  refine den_walk Try.func50 cf_rlof rfl rfl ?_
  unfold lpD
  simp only [sf_rlof, putAll, wx, wy, wz, stV, seval, IntWalk.iteOmega, IntWalk.toNatUp, reduceCtorEq]
  refine loop_st (roSt l f s) (fun i => l.length - i) (fun i => i ≤ l.length ∧ offN (lastO f l i) (l.drop i) s = offN f l s) 0 ⟨Nat.zero_le _, rfl⟩ ?_ ?_
  · have e2 : lastO f l 0 = f := rfl
    refine ent_l (fun i => i) ?_ ?_ rfl rfl <;> simp only [wx, wex, wez, stV, seval, IntWalk.iteOmega, IntWalk.toNatUp, reduceCtorEq, e2]
  · rintro i ⟨hi, hok⟩
    by_cases hlt : i < l.length
    · have g := lpG_get hlt
      have n2 : lastO f l (i + 1) = (lpG l i).2 := rfl
      by_cases c : (lpG l i).1 ≤ s
      · have e := off_drop hlt c hok
        simp only [lp_rlof_0, roSt, wx, wy, wz, stV, seval, IntWalk.iteOmega, IntWalk.toNatUp, reduceCtorEq, get_map, g, spD, c]
        refine lop_next (i + 1) (by omega) ⟨by omega, e⟩ (ent_l (fun i => i) ?_ ?_ rfl rfl) <;> simp only [wx, wex, wez, stV, seval, IntWalk.iteOmega, IntWalk.toNatUp, reduceCtorEq, n2]
      · have e := off_stop hlt (by omega) hok
        simp only [lp_rlof_0, roSt, wx, wy, wz, stV, seval, IntWalk.iteOmega, IntWalk.toNatUp, reduceCtorEq, get_map, g, spD, c]
        simp only [wx, wy, wz, stV, seval, IntWalk.iteOmega, IntWalk.toNatUp, reduceCtorEq, e]
        exact ret_d1 (by simp only [wx, wy, wz, stV, seval, IntWalk.iteOmega, IntWalk.toNatUp, reduceCtorEq])
    · have e := off_all (by omega) hok
      simp only [lp_rlof_0, roSt, wx, wy, wz, stV, seval, IntWalk.iteOmega, IntWalk.toNatUp, reduceCtorEq]
      simp only [wx, wy, wz, stV, seval, IntWalk.iteOmega, IntWalk.toNatUp, reduceCtorEq, e]
      exact ret_d1 (by simp only [wx, wy, wz, stV, seval, IntWalk.iteOmega, IntWalk.toNatUp, reduceCtorEq])
def sf_rlst : SFn := ⟨2, 13,
  .seq (.reg [⟨(some 2), .box .roBox (.t 0), none⟩,
    ⟨(some 4), .mv (.k (.c (.d (.int .i64 0)))), none⟩])
  (.seq (.reg [⟨(some 5), .load (.ag 2) (.t 2), none⟩,
    ⟨(some 6), .mv (.t 1), none⟩,
    ⟨(some 7), .bin .add (.t 6) (.k (.c (.d (.int .i64 1)))), none⟩,
    ⟨(some 8), .call 50 [(.t 5), (.t 7)] none, none⟩,
    ⟨(some 9), .load (.ag 2) (.t 2), none⟩,
    ⟨(some 10), .mv (.t 1), none⟩,
    ⟨(some 11), .call 50 [(.t 9), (.t 10)] none, none⟩,
    ⟨(some 12), .bin .sub (.t 8) (.t 11), none⟩,
    ⟨(some 4), .mv (.t 12), none⟩])
  (.ret)),
  [(4, none)]⟩
theorem cf_rlst : compFn Try.prog { own := [], comp := [], frz := [], nils := [] } Try.f49 = some sf_rlst := by kernel_rfl
theorem rlst_c (G : Glob) (f : Int) (l : List Lp) (s : Int) (hl : l.length ≤ 9223372036854775807) (h : okB f l = true) (h1 : -9223372036854775808 ≤ s) (h2 : s < 9223372036854775807) : Den Try.prog G 49 [lpD f l, .int .i64 s] (.w (.c (.d (.int .i64 (stpN f l s))))) := by
  refine den_walk Try.func49 cf_rlst rfl rfl ?_
  have a := off_in h s
  have b := off_in h (s + 1)
  have c1 := rlof_c G f l s hl
  have c2 := rlof_c G f l (s + 1) hl
  unfold lpD at c1 c2 ⊢
  unfold stpN
  generalize offN f l s = X at *
  generalize offN f l (s + 1) = Y at *
  simp only [sf_rlst, putAll, wx, wy, wz, stV, seval, IntWalk.iteOmega, IntWalk.toNatUp, reduceCtorEq]
  refine st_call (c2) rfl (.inl rfl) ?_
  simp only [wx, wy, wz, stV, seval, IntWalk.iteOmega, IntWalk.toNatUp, reduceCtorEq]
  refine st_call (c1) rfl (.inl rfl) ?_
  simp only [wx, wy, wz, stV, seval, IntWalk.iteOmega, IntWalk.toNatUp, reduceCtorEq]
  exact ret_d1 (by simp only [wx, wy, wz, stV, seval, IntWalk.iteOmega, IntWalk.toNatUp, reduceCtorEq])
def sf_rltai : SFn := ⟨2, 55,
  .seq (.reg [⟨(some 2), .box .roBox (.t 0), none⟩,
    ⟨(some 3), .box .roBox (.t 1), none⟩,
    ⟨(some 4), .mv (.k (.c (.d (.int .i64 0)))), none⟩,
    ⟨(some 5), .mv (.k (.c (.d (.int .i64 0)))), none⟩])
  (.seq (.seq (.reg [⟨(some 8), .load (.ag 2) (.t 2), none⟩,
    ⟨(some 9), .call 21 [(.t 8)] none, none⟩,
    ⟨(some 10), .un .not (.t 9), none⟩])
  (.cond (.t 10) (.seq (.reg [⟨(some 4), .mv (.k (.c (.d (.int .i64 0)))), none⟩,
     ⟨(some 5), .mv (.k (.c (.d (.int .i64 3)))), none⟩])
   (.ret))
   (.skip)))
  (.seq (.seq (.reg [⟨(some 11), .fieldAddr 0 (.t 3), none⟩,
    ⟨(some 12), .load .sc (.t 11), none⟩,
    ⟨(some 13), .call 48 [(.t 12)] none, none⟩,
    ⟨(some 14), .un .not (.t 13), none⟩,
    ⟨(some 15), .mv (.t 14), none⟩,
    ⟨(some 16), .fieldAddr 2 (.t 3), (some (15, false))⟩,
    ⟨(some 17), .load .sc (.t 16), (some (15, false))⟩,
    ⟨(some 18), .bin .lss (.t 17) (.k (.c (.d (.int .i64 0)))), (some (15, false))⟩,
    ⟨(some 19), .pick (.t 15) (.k (.c (.d (.bool true)))) (.t 18), none⟩,
    ⟨(some 20), .mv (.t 19), none⟩,
    ⟨(some 21), .fieldAddr 2 (.t 3), (some (20, false))⟩,
    ⟨(some 22), .load .sc (.t 21), (some (20, false))⟩,
    ⟨(some 23), .bin .geq (.t 22) (.k (.c (.d (.int .i64 1048576)))), (some (20, false))⟩,
    ⟨(some 24), .pick (.t 20) (.k (.c (.d (.bool true)))) (.t 23), none⟩])
  (.cond (.t 24) (.seq (.reg [⟨(some 4), .mv (.k (.c (.d (.int .i64 0)))), none⟩,
     ⟨(some 5), .mv (.k (.c (.d (.int .i64 4)))), none⟩])
   (.ret))
   (.skip)))
  (.seq (.reg [⟨(some 25), .load (.ag 2) (.t 2), none⟩,
    ⟨(some 26), .fieldAddr 0 (.t 3), none⟩,
    ⟨(some 27), .load .sc (.t 26), none⟩,
    ⟨(some 28), .call 49 [(.t 25), (.t 27)] none, none⟩,
    ⟨(some 6), .mv (.t 28), none⟩])
  (.seq (.seq (.reg [⟨(some 29), .fieldAddr 1 (.t 3), none⟩,
    ⟨(some 30), .load .sc (.t 29), none⟩,
    ⟨(some 31), .mv (.t 30), none⟩,
    ⟨(some 32), .mv (.t 6), (some (31, true))⟩,
    ⟨(some 33), .bin .neq (.t 32) (.k (.c (.d (.int .i64 1)))), (some (31, true))⟩,
    ⟨(some 34), .pick (.t 31) (.t 33) (.k (.c (.d (.bool false)))), none⟩,
    ⟨(some 35), .mv (.t 34), none⟩,
    ⟨(some 36), .mv (.t 6), (some (35, false))⟩,
    ⟨(some 37), .bin .eql (.t 36) (.k (.c (.d (.int .i64 (-1))))), (some (35, false))⟩,
    ⟨(some 38), .pick (.t 35) (.k (.c (.d (.bool true)))) (.t 37), none⟩])
  (.cond (.t 38) (.seq (.reg [⟨(some 4), .mv (.k (.c (.d (.int .i64 0)))), none⟩,
     ⟨(some 5), .mv (.k (.c (.d (.int .i64 10)))), none⟩])
   (.ret))
   (.skip)))
  (.seq (.reg [⟨(some 39), .fieldAddr 0 (.t 3), none⟩,
    ⟨(some 40), .load .sc (.t 39), none⟩,
    ⟨(some 41), .load (.ag 2) (.t 2), none⟩,
    ⟨(some 42), .fieldAddr 0 (.t 3), none⟩,
    ⟨(some 43), .load .sc (.t 42), none⟩,
    ⟨(some 44), .call 50 [(.t 41), (.t 43)] none, none⟩,
    ⟨(some 45), .bin .add (.t 40) (.t 44), none⟩,
    ⟨(some 7), .mv (.t 45), none⟩])
  (.seq (.seq (.reg [⟨(some 46), .fieldAddr 1 (.t 3), none⟩,
    ⟨(some 47), .load .sc (.t 46), none⟩])
  (.cond (.t 47) (.reg [⟨(some 48), .mv (.t 7), none⟩,
     ⟨(some 49), .bin .add (.t 48) (.k (.c (.d (.int .i64 1)))), none⟩,
     ⟨(some 7), .mv (.t 49), none⟩])
   (.skip)))
  (.seq (.reg [⟨(some 50), .mv (.t 7), none⟩,
    ⟨(some 51), .bin .shl (.t 50) (.k (.c (.d (.int .u64 20)))), none⟩,
    ⟨(some 52), .fieldAddr 2 (.t 3), none⟩,
    ⟨(some 53), .load .sc (.t 52), none⟩,
    ⟨(some 54), .bin .add (.t 51) (.t 53), none⟩,
    ⟨(some 4), .mv (.t 54), none⟩,
    ⟨(some 5), .mv (.k (.c (.d (.int .i64 0)))), none⟩])
  (.ret)))))))),
  [(4, none), (5, none)]⟩
theorem cf_rltai : compFn Try.prog { own := [], comp := [], frz := [], nils := [] } Try.f44 = some sf_rltai := by kernel_rfl
set_option maxHeartbeats 800000 in
theorem rltai_c (G : Glob) (f : Int) (l : List Lp) (s : Int) (b : Bool) (k : Int) (hl : l.length ≤ 9223372036854775807) : Den Try.prog G 44 [lpD f l, .agg [.int .i64 s, .bool b, .int .i64 k]] (.tup [.c (.d (.int .i64 (taiV f l s b k))), .c (.d (.int .i64 (taiE f l s b k)))]) := by
  refine den_walk Try.func44 cf_rltai rfl rfl ?_
  have c1 := rlv_c G f l hl
  have c3 := rin12_c G s
  unfold taiV taiB taiE
  unfold lpD at c1 ⊢
  cases h1 : okB f l <;> rw [h1] at c1
  · simp only [sf_rltai, putAll, wx, wy, wz, stV, seval, IntWalk.iteOmega, IntWalk.toNatUp, reduceCtorEq]
    refine st_call (c1) rfl (.inl rfl) ?_
    simp only [wx, wy, wz, stV, seval, IntWalk.iteOmega, IntWalk.toNatUp, reduceCtorEq]
    exact ret_d2 (by simp only [wx, wy, wz, stV, seval, IntWalk.iteOmega, IntWalk.toNatUp, reduceCtorEq]) (by simp only [wx, wy, wz, stV, seval, IntWalk.iteOmega, IntWalk.toNatUp, reduceCtorEq])
  · cases h2 : secIn s <;> rw [h2] at c3
    · simp only [sf_rltai, putAll, wx, wy, wz, stV, seval, IntWalk.iteOmega, IntWalk.toNatUp, reduceCtorEq]
      refine st_call (c1) rfl (.inl rfl) ?_
      simp only [wx, wy, wz, stV, seval, IntWalk.iteOmega, IntWalk.toNatUp, reduceCtorEq]
      refine st_call (c3) rfl (.inl rfl) ?_
      simp only [wx, wy, wz, stV, seval, IntWalk.iteOmega, IntWalk.toNatUp, reduceCtorEq]
      exact ret_d2 (by simp only [wx, wy, wz, stV, seval, IntWalk.iteOmega, IntWalk.toNatUp, reduceCtorEq]) (by simp only [wx, wy, wz, stV, seval, IntWalk.iteOmega, IntWalk.toNatUp, reduceCtorEq])
    · by_cases k1 : k < 0
      · rw [show tikIn k = false from decide_eq_false (by omega)]
        simp only [sf_rltai, putAll, wx, wy, wz, stV, seval, IntWalk.iteOmega, IntWalk.toNatUp, reduceCtorEq]
        refine st_call (c1) rfl (.inl rfl) ?_
        simp only [wx, wy, wz, stV, seval, IntWalk.iteOmega, IntWalk.toNatUp, reduceCtorEq]
        refine st_call (c3) rfl (.inl rfl) ?_
        simp only [wx, wy, wz, stV, seval, IntWalk.iteOmega, IntWalk.toNatUp, reduceCtorEq]
        exact ret_d2 (by simp only [wx, wy, wz, stV, seval, IntWalk.iteOmega, IntWalk.toNatUp, reduceCtorEq]) (by simp only [wx, wy, wz, stV, seval, IntWalk.iteOmega, IntWalk.toNatUp, reduceCtorEq])
      · by_cases k2 : k ≥ 1048576
        · rw [show tikIn k = false from decide_eq_false (by omega)]
          simp only [sf_rltai, putAll, wx, wy, wz, stV, seval, IntWalk.iteOmega, IntWalk.toNatUp, reduceCtorEq]
          refine st_call (c1) rfl (.inl rfl) ?_
          simp only [wx, wy, wz, stV, seval, IntWalk.iteOmega, IntWalk.toNatUp, reduceCtorEq]
          refine st_call (c3) rfl (.inl rfl) ?_
          simp only [eq_true k2, wx, wy, wz, stV, seval, IntWalk.iteOmega, IntWalk.toNatUp, reduceCtorEq]
          exact ret_d2 (by simp only [wx, wy, wz, stV, seval, IntWalk.iteOmega, IntWalk.toNatUp, reduceCtorEq]) (by simp only [wx, wy, wz, stV, seval, IntWalk.iteOmega, IntWalk.toNatUp, reduceCtorEq])
        · rw [show tikIn k = true from decide_eq_true (by omega)]
          have := sec_i h2
          have c2 := rlst_c G f l s hl h1 (by omega) (by omega)
          have c4 := rlof_c G f l s hl
          have of := off_in h1 s
          have s3 := stp_3 h1 s
          unfold lpD at c2 c4
          unfold noneB taiS taiN bI
          generalize offN f l s = X at *
          generalize stpN f l s = Y at *
          cases b
          · by_cases y1 : Y = -1
            · simp only [sf_rltai, putAll, wx, wy, wz, stV, seval, IntWalk.iteOmega, IntWalk.toNatUp, reduceCtorEq]
              refine st_call (c1) rfl (.inl rfl) ?_
              simp only [wx, wy, wz, stV, seval, IntWalk.iteOmega, IntWalk.toNatUp, reduceCtorEq]
              refine st_call (c3) rfl (.inl rfl) ?_
              simp only [eq_false k2, wx, wy, wz, stV, seval, IntWalk.iteOmega, IntWalk.toNatUp, reduceCtorEq]
              refine st_call (c2) rfl (.inl rfl) ?_
              simp only [y1, wx, wy, wz, stV, seval, IntWalk.iteOmega, IntWalk.toNatUp, reduceCtorEq]
              exact ret_d2 (by simp only [wx, wy, wz, stV, seval, IntWalk.iteOmega, IntWalk.toNatUp, reduceCtorEq, y1, Bool.or_true, Bool.or_false, Bool.true_or, Bool.false_or, Bool.false_eq_true, if_false, if_true, Int.add_zero]) (by simp only [wx, wy, wz, stV, seval, IntWalk.iteOmega, IntWalk.toNatUp, reduceCtorEq, Bool.or_true, Bool.or_false, Bool.true_or, Bool.false_or, Bool.false_eq_true, if_false, if_true, Int.add_zero])
            · simp only [sf_rltai, putAll, wx, wy, wz, stV, seval, IntWalk.iteOmega, IntWalk.toNatUp, reduceCtorEq]
              refine st_call (c1) rfl (.inl rfl) ?_
              simp only [wx, wy, wz, stV, seval, IntWalk.iteOmega, IntWalk.toNatUp, reduceCtorEq]
              refine st_call (c3) rfl (.inl rfl) ?_
              simp only [eq_false k2, wx, wy, wz, stV, seval, IntWalk.iteOmega, IntWalk.toNatUp, reduceCtorEq]
              refine st_call (c2) rfl (.inl rfl) ?_
              simp only [y1, wx, wy, wz, stV, seval, IntWalk.iteOmega, IntWalk.toNatUp, reduceCtorEq]
              refine st_call (c4) rfl (.inl rfl) ?_
              simp only [bI64, wx, wy, wz, stV, seval, IntWalk.iteOmega, IntWalk.toNatUp, reduceCtorEq]
              exact ret_d2 (by simp only [wx, wy, wz, stV, seval, IntWalk.iteOmega, IntWalk.toNatUp, reduceCtorEq, y1, Bool.or_true, Bool.or_false, Bool.true_or, Bool.false_or, Bool.false_eq_true, if_false, if_true, Int.add_zero]) (by simp only [wx, wy, wz, stV, seval, IntWalk.iteOmega, IntWalk.toNatUp, reduceCtorEq, y1, Bool.or_true, Bool.or_false, Bool.true_or, Bool.false_or, Bool.false_eq_true, if_false, if_true, Int.add_zero])
          · by_cases y1 : Y = 1
            · subst y1
              simp only [sf_rltai, putAll, wx, wy, wz, stV, seval, IntWalk.iteOmega, IntWalk.toNatUp, reduceCtorEq]
              refine st_call (c1) rfl (.inl rfl) ?_
              simp only [wx, wy, wz, stV, seval, IntWalk.iteOmega, IntWalk.toNatUp, reduceCtorEq]
              refine st_call (c3) rfl (.inl rfl) ?_
              simp only [eq_false k2, wx, wy, wz, stV, seval, IntWalk.iteOmega, IntWalk.toNatUp, reduceCtorEq]
              refine st_call (c2) rfl (.inl rfl) ?_
              simp only [wx, wy, wz, stV, seval, IntWalk.iteOmega, IntWalk.toNatUp, reduceCtorEq]
              refine st_call (c4) rfl (.inl rfl) ?_
              simp only [bI64, wx, wy, wz, stV, seval, IntWalk.iteOmega, IntWalk.toNatUp, reduceCtorEq]
              exact ret_d2 (by simp only [wx, wy, wz, stV, seval, IntWalk.iteOmega, IntWalk.toNatUp, reduceCtorEq, Bool.or_true, Bool.or_false, Bool.true_or, Bool.false_or, Bool.false_eq_true, if_false, if_true, Int.add_zero]) (by simp only [wx, wy, wz, stV, seval, IntWalk.iteOmega, IntWalk.toNatUp, reduceCtorEq, Bool.or_true, Bool.or_false, Bool.true_or, Bool.false_or, Bool.false_eq_true, if_false, if_true, Int.add_zero])
            · simp only [sf_rltai, putAll, wx, wy, wz, stV, seval, IntWalk.iteOmega, IntWalk.toNatUp, reduceCtorEq]
              refine st_call (c1) rfl (.inl rfl) ?_
              simp only [wx, wy, wz, stV, seval, IntWalk.iteOmega, IntWalk.toNatUp, reduceCtorEq]
              refine st_call (c3) rfl (.inl rfl) ?_
              simp only [eq_false k2, wx, wy, wz, stV, seval, IntWalk.iteOmega, IntWalk.toNatUp, reduceCtorEq]
              refine st_call (c2) rfl (.inl rfl) ?_
              simp only [y1, wx, wy, wz, stV, seval, IntWalk.iteOmega, IntWalk.toNatUp, reduceCtorEq]
              exact ret_d2 (by simp only [wx, wy, wz, stV, seval, IntWalk.iteOmega, IntWalk.toNatUp, reduceCtorEq, y1, Bool.or_true, Bool.or_false, Bool.true_or, Bool.false_or, Bool.false_eq_true, if_false, if_true, Int.add_zero]) (by simp only [wx, wy, wz, stV, seval, IntWalk.iteOmega, IntWalk.toNatUp, reduceCtorEq, y1, Bool.or_true, Bool.or_false, Bool.true_or, Bool.false_or, Bool.false_eq_true, if_false, if_true, Int.add_zero])
end Go.Proofs.Ytibpaciljnfpmaa
