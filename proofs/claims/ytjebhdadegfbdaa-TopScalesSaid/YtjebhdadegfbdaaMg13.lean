/- Texts of one's own, merged: from: Layer 12 on data: the program: tables, offsets and steps. Own work. -/
import Derived.Test.YtjebhdadegfbdaaProg
import Derived.Test.YtjebhdadegfbdaaMg7
import Derived.Test.YtjebhdadegfbdaaMg9
import Derived.Test.YtjebhdadegfbdaaMg12
import Derived.Test.YtjebhdadegfbdaaMg10
import Derived.Test.YtjebhdadegfbdaaMg15
set_option linter.unusedVariables false
set_option linter.unusedSimpArgs false
namespace Go.Proofs.Ytjebhdadegfbdaa
open Go.RowKit

/-- A table, as data. -/
def lpD (f : Int) (l : List Lp) : D := .agg [.int .i64 f, .sl (l.map spD)]
theorem tmod86 {x : Int} (h : 0 ≤ x) : Int.tmod x 86400 = x % 86400 := Int.tmod_eq_emod_of_nonneg h
def lvSt (l : List Lp) (f : Int) (i : Nat) : St := ⟨ofL [(3, .w (.c (.d (.int .i64 (erlN l i))))), (4, .w (.c (.d (.int .i64 (lastO f l i))))), (24, .w (.c (.d (.sl (l.map spD))))), (25, .w (.c (.d (.int .i64 (l.length : Int))))), (26, .w (.c (.d (.int .i64 (i : Int)))))], hL [], uL []⟩
def lp_lvl_0 : SCode :=
  .seq (.reg [⟨(some 27), .bin .lss (.t 26) (.t 25), none⟩])
  (.seq (.cond (.t 27) (.skip)
   (.exit 0))
  (.seq (.block 1 (.seq (.reg [⟨(some 28), .idxSl 2 (.t 24) (.t 26), none⟩,
     ⟨(some 29), .load (.ag 2) (.t 28), none⟩,
     ⟨(some 6), .alloc [(.d (.int .i64 0)), (.d (.int .i64 0))], none⟩,
     ⟨none, .store (.ag 2) (.t 6) (.t 29), none⟩])
   (.seq (.seq (.reg [⟨(some 30), .fieldAddr 0 (.t 6), none⟩,
     ⟨(some 31), .load .sc (.t 30), none⟩,
     ⟨(some 32), .bin .rem (.t 31) (.k (.c (.d (.int .i64 86400)))), none⟩,
     ⟨(some 33), .bin .neq (.t 32) (.k (.c (.d (.int .i64 0)))), none⟩,
     ⟨(some 34), .mv (.t 33), none⟩,
     ⟨(some 35), .fieldAddr 0 (.t 6), (some (34, false))⟩,
     ⟨(some 36), .load .sc (.t 35), (some (34, false))⟩,
     ⟨(some 37), .mv (.t 3), (some (34, false))⟩,
     ⟨(some 38), .bin .lss (.t 36) (.t 37), (some (34, false))⟩,
     ⟨(some 39), .pick (.t 34) (.k (.c (.d (.bool true)))) (.t 38), none⟩,
     ⟨(some 40), .mv (.t 39), none⟩,
     ⟨(some 41), .fieldAddr 0 (.t 6), (some (40, false))⟩,
     ⟨(some 42), .load .sc (.t 41), (some (40, false))⟩,
     ⟨(some 43), .bin .gtr (.t 42) (.k (.c (.d (.int .i64 137438953472)))), (some (40, false))⟩,
     ⟨(some 44), .pick (.t 40) (.k (.c (.d (.bool true)))) (.t 43), none⟩])
   (.cond (.t 44) (.seq (.reg [⟨(some 2), .mv (.k (.c (.d (.bool false)))), none⟩])
    (.ret))
    (.skip)))
   (.seq (.seq (.reg [⟨(some 45), .fieldAddr 1 (.t 6), none⟩,
     ⟨(some 46), .load .sc (.t 45), none⟩,
     ⟨(some 47), .mv (.t 4), none⟩,
     ⟨(some 48), .bin .sub (.t 47) (.k (.c (.d (.int .i64 1)))), none⟩,
     ⟨(some 49), .bin .neq (.t 46) (.t 48), none⟩,
     ⟨(some 50), .mv (.t 49), none⟩,
     ⟨(some 51), .fieldAddr 1 (.t 6), (some (50, true))⟩,
     ⟨(some 52), .load .sc (.t 51), (some (50, true))⟩,
     ⟨(some 53), .mv (.t 4), (some (50, true))⟩,
     ⟨(some 54), .bin .add (.t 53) (.k (.c (.d (.int .i64 1)))), (some (50, true))⟩,
     ⟨(some 55), .bin .neq (.t 52) (.t 54), (some (50, true))⟩,
     ⟨(some 56), .pick (.t 50) (.t 55) (.k (.c (.d (.bool false)))), none⟩])
   (.cond (.t 56) (.seq (.reg [⟨(some 2), .mv (.k (.c (.d (.bool false)))), none⟩])
    (.ret))
    (.skip)))
   (.reg [⟨(some 57), .fieldAddr 0 (.t 6), none⟩,
     ⟨(some 58), .load .sc (.t 57), none⟩,
     ⟨(some 59), .bin .add (.t 58) (.k (.c (.d (.int .i64 172800)))), none⟩,
     ⟨(some 60), .fieldAddr 1 (.t 6), none⟩,
     ⟨(some 61), .load .sc (.t 60), none⟩,
     ⟨(some 3), .mv (.t 59), none⟩,
     ⟨(some 4), .mv (.t 61), none⟩])))))
  (.reg [⟨(some 62), .bin .add (.t 26) (.k (.c (.d (.int .i64 1)))), none⟩,
    ⟨(some 26), .mv (.t 62), none⟩])))
def sf_lvl : SFn := ⟨1, 63,
  .seq (.reg [⟨(some 1), .box .roBox (.t 0), none⟩,
    ⟨(some 2), .mv (.k (.c (.d (.bool false)))), none⟩])
  (.seq (.seq (.reg [⟨(some 7), .fieldAddr 0 (.t 1), none⟩,
    ⟨(some 8), .load .sc (.t 7), none⟩,
    ⟨(some 9), .bin .lss (.t 8) (.k (.c (.d (.int .i64 0)))), none⟩,
    ⟨(some 10), .mv (.t 9), none⟩,
    ⟨(some 11), .fieldAddr 0 (.t 1), (some (10, false))⟩,
    ⟨(some 12), .load .sc (.t 11), (some (10, false))⟩,
    ⟨(some 13), .bin .gtr (.t 12) (.k (.c (.d (.int .i64 100)))), (some (10, false))⟩,
    ⟨(some 14), .pick (.t 10) (.k (.c (.d (.bool true)))) (.t 13), none⟩,
    ⟨(some 15), .mv (.t 14), none⟩,
    ⟨(some 16), .fieldAddr 1 (.t 1), (some (15, false))⟩,
    ⟨(some 17), .load .sc (.t 16), (some (15, false))⟩,
    ⟨(some 18), .len (.t 17), (some (15, false))⟩,
    ⟨(some 19), .bin .gtr (.t 18) (.k (.c (.d (.int .i64 64)))), (some (15, false))⟩,
    ⟨(some 20), .pick (.t 15) (.k (.c (.d (.bool true)))) (.t 19), none⟩])
  (.cond (.t 20) (.seq (.reg [⟨(some 2), .mv (.k (.c (.d (.bool false)))), none⟩])
   (.ret))
   (.skip)))
  (.seq (.reg [⟨(some 21), .fieldAddr 0 (.t 1), none⟩,
    ⟨(some 22), .load .sc (.t 21), none⟩,
    ⟨(some 3), .mv (.k (.c (.d (.int .i64 86400)))), none⟩,
    ⟨(some 4), .mv (.t 22), none⟩])
  (.seq (.seq (.reg [⟨(some 23), .fieldAddr 1 (.t 1), none⟩,
    ⟨(some 24), .load .sc (.t 23), none⟩,
    ⟨(some 25), .len (.t 24), none⟩,
    ⟨(some 26), .mv (.k (.c (.d (.int .i64 0)))), none⟩])
  (.block 0 (.loop lp_lvl_0)))
  (.seq (.reg [⟨(some 2), .mv (.k (.c (.d (.bool true)))), none⟩])
  (.ret))))),
  [(2, none)]⟩
theorem cf_lvl : compFn Try.prog { own := [], comp := [], frz := [], nils := [] } Try.f59 = some sf_lvl := by kernel_rfl
set_option maxHeartbeats 800000 in
theorem lvl_c (G : Glob) (f : Int) (l : List Lp) (hl : l.length ≤ 9223372036854775807) : Den Try.prog G 59 [lpD f l] (.w (.c (.d (.bool (okB f l))))) := by
  refine den_walk Try.func59 cf_lvl rfl rfl ?_
  unfold lpD
  by_cases h1 : f < 0
  · have e : okB f l = false := by unfold okB headB; rw [decide_eq_false (by omega)]; rfl
    rw [e]
    simp only [sf_lvl, putAll, wx, wy, wz, stV, seval, IntWalk.iteOmega, IntWalk.toNatUp, reduceCtorEq]
    exact ret_d1 (by simp only [wx, wy, wz, stV, seval, IntWalk.iteOmega, IntWalk.toNatUp, reduceCtorEq])
  · by_cases h2 : f > 100
    · have e : okB f l = false := by unfold okB headB; rw [decide_eq_false (by omega)]; rfl
      rw [e]
      simp only [sf_lvl, putAll, wx, wy, wz, stV, seval, IntWalk.iteOmega, IntWalk.toNatUp, reduceCtorEq, eq_true h2]
      exact ret_d1 (by simp only [wx, wy, wz, stV, seval, IntWalk.iteOmega, IntWalk.toNatUp, reduceCtorEq])
    · by_cases h3 : (l.length : Int) > 64
      · have e : okB f l = false := by unfold okB headB; rw [decide_eq_false (by omega)]; rfl
        rw [e]
        simp only [sf_lvl, putAll, wx, wy, wz, stV, seval, IntWalk.iteOmega, IntWalk.toNatUp, reduceCtorEq, eq_false h2, eq_true h3]
        exact ret_d1 (by simp only [wx, wy, wz, stV, seval, IntWalk.iteOmega, IntWalk.toNatUp, reduceCtorEq])
      · simp only [sf_lvl, putAll, wx, wy, wz, stV, seval, IntWalk.iteOmega, IntWalk.toNatUp, reduceCtorEq, eq_false h2, eq_false h3]
        refine loop_st (lvSt l f) (fun i => l.length - i) (fun i => i ≤ l.length ∧ ∀ j, j < i → okE f l j = true) 0 ⟨Nat.zero_le _, fun j hj => by omega⟩ ?_ ?_
        · have e1 : erlN l 0 = 86400 := rfl
          have e2 : lastO f l 0 = f := rfl
          refine ent_l (fun i => i) ?_ ?_ rfl rfl <;> simp only [wx, wex, wez, stV, seval, IntWalk.iteOmega, IntWalk.toNatUp, reduceCtorEq, e1, e2]
        · rintro i ⟨hi, hok⟩
          by_cases hlt : i < l.length
          · have g := lpG_get hlt
            have ee := okE_erl hok
            have b1 := erlN_ge hok
            have b2 := lastO_in hok
            have n1 : erlN l (i + 1) = (lpG l i).1 + 172800 := rfl
            have n2 : lastO f l (i + 1) = (lpG l i).2 := rfl
            generalize lpG l i = X at *
            obtain ⟨A, O⟩ := X
            simp only at ee n1 n2
            generalize hE : erlN l i = E at *
            generalize hL : lastO f l i = L at *
            have no : okE f l i = false → okB f l = false := okB_no hlt
            by_cases c1 : A.tmod 86400 = 0
            · by_cases c2 : A < E
              · rw [no (ee.trans (decide_eq_false (by omega)))]
                simp only [lp_lvl_0, lvSt, wx, wy, wz, stV, seval, IntWalk.iteOmega, IntWalk.toNatUp, reduceCtorEq, get_map, g, spD, hE, hL, c1]
                exact ret_d1 (by simp only [wx, wy, wz, stV, seval, IntWalk.iteOmega, IntWalk.toNatUp, reduceCtorEq])
              · by_cases c3 : A > 137438953472
                · rw [no (ee.trans (decide_eq_false (by omega)))]
                  simp only [lp_lvl_0, lvSt, wx, wy, wz, stV, seval, IntWalk.iteOmega, IntWalk.toNatUp, reduceCtorEq, get_map, g, spD, hE, hL, c1, eq_true c3]
                  exact ret_d1 (by simp only [wx, wy, wz, stV, seval, IntWalk.iteOmega, IntWalk.toNatUp, reduceCtorEq])
                · have tm := tmod86 (x := A) (by omega)
                  by_cases c4 : O = L - 1
                  · have ok : okE f l i = true := ee.trans (decide_eq_true ⟨by omega, by omega, by omega, .inr c4⟩)
                    simp only [lp_lvl_0, lvSt, wx, wy, wz, stV, seval, IntWalk.iteOmega, IntWalk.toNatUp, reduceCtorEq, get_map, g, spD, hE, hL, c1, eq_false c3, c4]
                    refine lop_next (i + 1) (by omega) ⟨by omega, fun j hj => ?_⟩ (ent_l (fun i => i) ?_ ?_ rfl rfl)
                    · rcases Nat.lt_succ_iff_lt_or_eq.1 hj with hj | rfl
                      · exact hok j hj
                      · exact ok
                    all_goals simp only [wx, wex, wez, stV, seval, IntWalk.iteOmega, IntWalk.toNatUp, reduceCtorEq, n1, n2, c4]
                  · by_cases c5 : O = L + 1
                    · have ok : okE f l i = true := ee.trans (decide_eq_true ⟨by omega, by omega, by omega, .inl c5⟩)
                      simp only [lp_lvl_0, lvSt, wx, wy, wz, stV, seval, IntWalk.iteOmega, IntWalk.toNatUp, reduceCtorEq, get_map, g, spD, hE, hL, c1, eq_false c3, c4, c5]
                      refine lop_next (i + 1) (by omega) ⟨by omega, fun j hj => ?_⟩ (ent_l (fun i => i) ?_ ?_ rfl rfl)
                      · rcases Nat.lt_succ_iff_lt_or_eq.1 hj with hj | rfl
                        · exact hok j hj
                        · exact ok
                      all_goals simp only [wx, wex, wez, stV, seval, IntWalk.iteOmega, IntWalk.toNatUp, reduceCtorEq, n1, n2, c5]
                    · rw [no (ee.trans (decide_eq_false (by omega)))]
                      simp only [lp_lvl_0, lvSt, wx, wy, wz, stV, seval, IntWalk.iteOmega, IntWalk.toNatUp, reduceCtorEq, get_map, g, spD, hE, hL, c1, eq_false c3, c4, c5]
                      exact ret_d1 (by simp only [wx, wy, wz, stV, seval, IntWalk.iteOmega, IntWalk.toNatUp, reduceCtorEq])
            · have : ¬ (A % 86400 = 0 ∧ E ≤ A) := fun k => c1 (by rw [tmod86 (by omega)]; exact k.1)
              rw [no (ee.trans (decide_eq_false fun k => this ⟨k.1, k.2.1⟩))]
              simp only [lp_lvl_0, lvSt, wx, wy, wz, stV, seval, IntWalk.iteOmega, IntWalk.toNatUp, reduceCtorEq, get_map, g, spD, hE, hL, c1]
              exact ret_d1 (by simp only [wx, wy, wz, stV, seval, IntWalk.iteOmega, IntWalk.toNatUp, reduceCtorEq])
          · have hil : i = l.length := by omega
            have e : okB f l = true := okB_iff.2 ⟨⟨by omega, by omega, by omega⟩, by rw [← hil]; exact hok⟩
            rw [e]
            simp only [lp_lvl_0, lvSt, wx, wy, wz, stV, seval, IntWalk.iteOmega, IntWalk.toNatUp, reduceCtorEq]
            exact ret_d1 (by simp only [wx, wy, wz, stV, seval, IntWalk.iteOmega, IntWalk.toNatUp, reduceCtorEq])
/-! ### Offsets and steps -/
def loSt (l : List Lp) (f s : Int) (i : Nat) : St := ⟨ofL [(1, .w (.c (.d (.int .i64 s)))), (5, .w (.c (.d (.int .i64 (lastO f l i))))), (11, .w (.c (.d (.sl (l.map spD))))), (12, .w (.c (.d (.int .i64 (l.length : Int))))), (13, .w (.c (.d (.int .i64 (i : Int)))))], hL [], uL []⟩
theorem off_drop {f s : Int} {l : List Lp} {i : Nat} (hi : i < l.length) (h : (lpG l i).1 ≤ s) (e : offN (lastO f l i) (l.drop i) s = offN f l s) : offN (lastO f l (i + 1)) (l.drop (i + 1)) s = offN f l s := by
  rw [← e, drop_lp hi, off_cons_hi h]; rfl
theorem off_stop {f s : Int} {l : List Lp} {i : Nat} (hi : i < l.length) (h : s < (lpG l i).1) (e : offN (lastO f l i) (l.drop i) s = offN f l s) : lastO f l i = offN f l s := by
  rw [← e, drop_lp hi, off_cons_lo h]
theorem off_all {f s : Int} {l : List Lp} {i : Nat} (hi : i = l.length) (e : offN (lastO f l i) (l.drop i) s = offN f l s) : lastO f l i = offN f l s := by
  rw [← e, hi, List.drop_length]; rfl
def lp_lof_0 : SCode :=
  .seq (.reg [⟨(some 14), .bin .lss (.t 13) (.t 12), none⟩])
  (.seq (.cond (.t 14) (.skip)
   (.exit 0))
  (.seq (.block 1 (.seq (.reg [⟨(some 15), .idxSl 2 (.t 11) (.t 13), none⟩,
     ⟨(some 16), .load (.ag 2) (.t 15), none⟩,
     ⟨(some 7), .alloc [(.d (.int .i64 0)), (.d (.int .i64 0))], none⟩,
     ⟨none, .store (.ag 2) (.t 7) (.t 16), none⟩])
   (.seq (.seq (.reg [⟨(some 17), .fieldAddr 0 (.t 7), none⟩,
     ⟨(some 18), .load .sc (.t 17), none⟩,
     ⟨(some 19), .mv (.t 1), none⟩,
     ⟨(some 20), .bin .gtr (.t 18) (.t 19), none⟩])
   (.cond (.t 20) (.exit 0)
    (.skip)))
   (.reg [⟨(some 21), .fieldAddr 1 (.t 7), none⟩,
     ⟨(some 22), .load .sc (.t 21), none⟩,
     ⟨(some 5), .mv (.t 22), none⟩]))))
  (.reg [⟨(some 23), .bin .add (.t 13) (.k (.c (.d (.int .i64 1)))), none⟩,
    ⟨(some 13), .mv (.t 23), none⟩])))
def sf_lof : SFn := ⟨2, 25,
  .seq (.reg [⟨(some 2), .box .roBox (.t 0), none⟩,
    ⟨(some 4), .mv (.k (.c (.d (.int .i64 0)))), none⟩])
  (.seq (.reg [⟨(some 8), .fieldAddr 0 (.t 2), none⟩,
    ⟨(some 9), .load .sc (.t 8), none⟩,
    ⟨(some 5), .mv (.t 9), none⟩])
  (.seq (.seq (.reg [⟨(some 10), .fieldAddr 1 (.t 2), none⟩,
    ⟨(some 11), .load .sc (.t 10), none⟩,
    ⟨(some 12), .len (.t 11), none⟩,
    ⟨(some 13), .mv (.k (.c (.d (.int .i64 0)))), none⟩])
  (.block 0 (.loop lp_lof_0)))
  (.seq (.reg [⟨(some 24), .mv (.t 5), none⟩,
    ⟨(some 4), .mv (.t 24), none⟩])
  (.ret)))),
  [(4, none)]⟩
theorem cf_lof : compFn Try.prog { own := [], comp := [], frz := [], nils := [] } Try.f85 = some sf_lof := by kernel_rfl
theorem lof_c (G : Glob) (f : Int) (l : List Lp) (s : Int) (hl : l.length ≤ 9223372036854775807) : Den Try.prog G 85 [lpD f l, .int .i64 s] (.w (.c (.d (.int .i64 (offN f l s))))) := by
  refine den_walk Try.func85 cf_lof rfl rfl ?_
  unfold lpD
  simp only [sf_lof, putAll, wx, wy, wz, stV, seval, IntWalk.iteOmega, IntWalk.toNatUp, reduceCtorEq]
  refine loop_st (loSt l f s) (fun i => l.length - i) (fun i => i ≤ l.length ∧ offN (lastO f l i) (l.drop i) s = offN f l s) 0 ⟨Nat.zero_le _, rfl⟩ ?_ ?_
  · have e2 : lastO f l 0 = f := rfl
    refine ent_l (fun i => i) ?_ ?_ rfl rfl <;> simp only [wx, wex, wez, stV, seval, IntWalk.iteOmega, IntWalk.toNatUp, reduceCtorEq, e2]
  · rintro i ⟨hi, hok⟩
    by_cases hlt : i < l.length
    · have g := lpG_get hlt
      have n2 : lastO f l (i + 1) = (lpG l i).2 := rfl
      by_cases c : (lpG l i).1 > s
      · have e := off_stop hlt (by omega) hok
        simp only [lp_lof_0, loSt, wx, wy, wz, stV, seval, IntWalk.iteOmega, IntWalk.toNatUp, reduceCtorEq, get_map, g, spD, eq_true c]
        simp only [wx, wy, wz, stV, seval, IntWalk.iteOmega, IntWalk.toNatUp, reduceCtorEq, e]
        exact ret_d1 (by simp only [wx, wy, wz, stV, seval, IntWalk.iteOmega, IntWalk.toNatUp, reduceCtorEq])
      · have e := off_drop hlt (by omega) hok
        simp only [lp_lof_0, loSt, wx, wy, wz, stV, seval, IntWalk.iteOmega, IntWalk.toNatUp, reduceCtorEq, get_map, g, spD, eq_false c]
        refine lop_next (i + 1) (by omega) ⟨by omega, e⟩ (ent_l (fun i => i) ?_ ?_ rfl rfl) <;> simp only [wx, wex, wez, stV, seval, IntWalk.iteOmega, IntWalk.toNatUp, reduceCtorEq, n2]
    · have e := off_all (by omega) hok
      simp only [lp_lof_0, loSt, wx, wy, wz, stV, seval, IntWalk.iteOmega, IntWalk.toNatUp, reduceCtorEq]
      simp only [wx, wy, wz, stV, seval, IntWalk.iteOmega, IntWalk.toNatUp, reduceCtorEq, e]
      exact ret_d1 (by simp only [wx, wy, wz, stV, seval, IntWalk.iteOmega, IntWalk.toNatUp, reduceCtorEq])
def sf_lkn : SFn := ⟨1, 9,
  .seq (.reg [⟨(some 2), .mv (.k (.c (.d (.bool false)))), none⟩])
  (.seq (.reg [⟨(some 3), .mv (.t 0), none⟩,
    ⟨(some 4), .bin .geq (.t 3) (.k (.c (.d (.int .i64 0)))), none⟩,
    ⟨(some 5), .mv (.t 4), none⟩,
    ⟨(some 6), .mv (.t 0), (some (5, true))⟩,
    ⟨(some 7), .bin .leq (.t 6) (.k (.c (.d (.int .i64 274877906944)))), (some (5, true))⟩,
    ⟨(some 8), .pick (.t 5) (.t 7) (.k (.c (.d (.bool false)))), none⟩,
    ⟨(some 2), .mv (.t 8), none⟩])
  (.ret)),
  [(2, none)]⟩
theorem cf_lkn : compFn Try.prog { own := [], comp := [], frz := [], nils := [] } Try.f62 = some sf_lkn := by kernel_rfl
theorem lkn_c (G : Glob) (s : Int) : Den Try.prog G 62 [.int .i64 s] (.w (.c (.d (.bool (secIn s))))) := by
  refine den_walk Try.func62 cf_lkn rfl rfl ?_
  by_cases h1 : s ≥ 0
  · by_cases h2 : s ≤ 274877906944
    · rw [sec_t ⟨h1, h2⟩]
      simp only [sf_lkn, putAll, wx, wy, wz, stV, seval, IntWalk.iteOmega, IntWalk.toNatUp, reduceCtorEq, eq_true h1, eq_true h2]
      exact ret_d1 (by simp only [wx, wy, wz, stV, seval, IntWalk.iteOmega, IntWalk.toNatUp, reduceCtorEq])
    · rw [sec_f (by omega)]
      simp only [sf_lkn, putAll, wx, wy, wz, stV, seval, IntWalk.iteOmega, IntWalk.toNatUp, reduceCtorEq, eq_true h1, eq_false h2]
      exact ret_d1 (by simp only [wx, wy, wz, stV, seval, IntWalk.iteOmega, IntWalk.toNatUp, reduceCtorEq])
  · rw [sec_f (by omega)]
    simp only [sf_lkn, putAll, wx, wy, wz, stV, seval, IntWalk.iteOmega, IntWalk.toNatUp, reduceCtorEq, eq_false h1]
    exact ret_d1 (by simp only [wx, wy, wz, stV, seval, IntWalk.iteOmega, IntWalk.toNatUp, reduceCtorEq])
def sf_ler : SFn := ⟨2, 11,
  .seq (.reg [⟨(some 2), .box .roBox (.t 0), none⟩,
    ⟨(some 4), .mv (.k (.c (.d (.int .i64 0)))), none⟩])
  (.seq (.seq (.reg [⟨(some 5), .load (.ag 2) (.t 2), none⟩,
    ⟨(some 6), .call 59 [(.t 5)] none, none⟩,
    ⟨(some 7), .un .not (.t 6), none⟩])
  (.cond (.t 7) (.seq (.reg [⟨(some 4), .mv (.k (.c (.d (.int .i64 3)))), none⟩])
   (.ret))
   (.skip)))
  (.seq (.seq (.reg [⟨(some 8), .mv (.t 1), none⟩,
    ⟨(some 9), .call 62 [(.t 8)] none, none⟩,
    ⟨(some 10), .un .not (.t 9), none⟩])
  (.cond (.t 10) (.seq (.reg [⟨(some 4), .mv (.k (.c (.d (.int .i64 4)))), none⟩])
   (.ret))
   (.skip)))
  (.seq (.reg [⟨(some 4), .mv (.k (.c (.d (.int .i64 0)))), none⟩])
  (.ret)))),
  [(4, none)]⟩
theorem cf_ler : compFn Try.prog { own := [], comp := [], frz := [], nils := [] } Try.f84 = some sf_ler := by kernel_rfl
theorem ler_c (G : Glob) (f : Int) (l : List Lp) (s : Int) (hl : l.length ≤ 9223372036854775807) : Den Try.prog G 84 [lpD f l, .int .i64 s] (.w (.c (.d (.int .i64 (scdE f l s))))) := by
  refine den_walk Try.func84 cf_ler rfl rfl ?_
  have c1 := lvl_c G f l hl
  have c2 := lkn_c G s
  unfold scdE
  unfold lpD at c1 ⊢
  cases h1 : okB f l <;> rw [h1] at c1
  · simp only [sf_ler, putAll, wx, wy, wz, stV, seval, IntWalk.iteOmega, IntWalk.toNatUp, reduceCtorEq]
    refine st_call (c1) rfl (.inl rfl) ?_
    simp only [wx, wy, wz, stV, seval, IntWalk.iteOmega, IntWalk.toNatUp, reduceCtorEq]
    exact ret_d1 (by simp only [wx, wy, wz, stV, seval, IntWalk.iteOmega, IntWalk.toNatUp, reduceCtorEq])
  · cases h2 : secIn s <;> rw [h2] at c2
    · simp only [sf_ler, putAll, wx, wy, wz, stV, seval, IntWalk.iteOmega, IntWalk.toNatUp, reduceCtorEq]
      refine st_call (c1) rfl (.inl rfl) ?_
      simp only [wx, wy, wz, stV, seval, IntWalk.iteOmega, IntWalk.toNatUp, reduceCtorEq]
      refine st_call (c2) rfl (.inl rfl) ?_
      simp only [wx, wy, wz, stV, seval, IntWalk.iteOmega, IntWalk.toNatUp, reduceCtorEq]
      exact ret_d1 (by simp only [wx, wy, wz, stV, seval, IntWalk.iteOmega, IntWalk.toNatUp, reduceCtorEq])
    · simp only [sf_ler, putAll, wx, wy, wz, stV, seval, IntWalk.iteOmega, IntWalk.toNatUp, reduceCtorEq]
      refine st_call (c1) rfl (.inl rfl) ?_
      simp only [wx, wy, wz, stV, seval, IntWalk.iteOmega, IntWalk.toNatUp, reduceCtorEq]
      refine st_call (c2) rfl (.inl rfl) ?_
      simp only [wx, wy, wz, stV, seval, IntWalk.iteOmega, IntWalk.toNatUp, reduceCtorEq]
      exact ret_d1 (by simp only [wx, wy, wz, stV, seval, IntWalk.iteOmega, IntWalk.toNatUp, reduceCtorEq])
def sf_lst : SFn := ⟨2, 13,
  .seq (.reg [⟨(some 2), .box .roBox (.t 0), none⟩,
    ⟨(some 4), .mv (.k (.c (.d (.int .i64 0)))), none⟩])
  (.seq (.reg [⟨(some 5), .load (.ag 2) (.t 2), none⟩,
    ⟨(some 6), .mv (.t 1), none⟩,
    ⟨(some 7), .bin .add (.t 6) (.k (.c (.d (.int .i64 1)))), none⟩,
    ⟨(some 8), .call 85 [(.t 5), (.t 7)] none, none⟩,
    ⟨(some 9), .load (.ag 2) (.t 2), none⟩,
    ⟨(some 10), .mv (.t 1), none⟩,
    ⟨(some 11), .call 85 [(.t 9), (.t 10)] none, none⟩,
    ⟨(some 12), .bin .sub (.t 8) (.t 11), none⟩,
    ⟨(some 4), .mv (.t 12), none⟩])
  (.ret)),
  [(4, none)]⟩
theorem cf_lst : compFn Try.prog { own := [], comp := [], frz := [], nils := [] } Try.f65 = some sf_lst := by kernel_rfl
theorem lst_c (G : Glob) (f : Int) (l : List Lp) (s : Int) (hl : l.length ≤ 9223372036854775807) (h : okB f l = true) (h1 : -9223372036854775808 ≤ s) (h2 : s < 9223372036854775807) : Den Try.prog G 65 [lpD f l, .int .i64 s] (.w (.c (.d (.int .i64 (stpN f l s))))) := by
  refine den_walk Try.func65 cf_lst rfl rfl ?_
  have a := off_in h s
  have b := off_in h (s + 1)
  have c1 := lof_c G f l s hl
  have c2 := lof_c G f l (s + 1) hl
  unfold lpD at c1 c2 ⊢
  unfold stpN
  generalize offN f l s = X at *
  generalize offN f l (s + 1) = Y at *
  simp only [sf_lst, putAll, wx, wy, wz, stV, seval, IntWalk.iteOmega, IntWalk.toNatUp, reduceCtorEq]
  refine st_call (c2) rfl (.inl rfl) ?_
  simp only [wx, wy, wz, stV, seval, IntWalk.iteOmega, IntWalk.toNatUp, reduceCtorEq]
  refine st_call (c1) rfl (.inl rfl) ?_
  simp only [wx, wy, wz, stV, seval, IntWalk.iteOmega, IntWalk.toNatUp, reduceCtorEq]
  exact ret_d1 (by simp only [wx, wy, wz, stV, seval, IntWalk.iteOmega, IntWalk.toNatUp, reduceCtorEq])
def sf_lrd : SFn := ⟨3, 20,
  .seq (.reg [⟨(some 3), .box .roBox (.t 0), none⟩,
    ⟨(some 6), .mv (.k (.c (.d (.int .i64 0)))), none⟩])
  (.seq (.seq (.reg [⟨(some 8), .load (.ag 2) (.t 3), none⟩,
    ⟨(some 9), .mv (.t 1), none⟩,
    ⟨(some 10), .call 84 [(.t 8), (.t 9)] none, none⟩,
    ⟨(some 7), .mv (.t 10), none⟩])
  (.seq (.reg [⟨(some 11), .mv (.t 7), none⟩,
    ⟨(some 12), .bin .neq (.t 11) (.k (.c (.d (.int .i64 0)))), none⟩])
  (.cond (.t 12) (.seq (.reg [⟨(some 13), .mv (.t 7), none⟩,
     ⟨(some 6), .mv (.t 13), none⟩])
   (.ret))
   (.skip))))
  (.seq (.seq (.reg [⟨(some 14), .mv (.t 2), none⟩,
    ⟨(some 15), .bin .lss (.t 14) (.k (.c (.d (.int .i64 0)))), none⟩,
    ⟨(some 16), .mv (.t 15), none⟩,
    ⟨(some 17), .mv (.t 2), (some (16, false))⟩,
    ⟨(some 18), .bin .geq (.t 17) (.k (.c (.d (.int .i64 1048576)))), (some (16, false))⟩,
    ⟨(some 19), .pick (.t 16) (.k (.c (.d (.bool true)))) (.t 18), none⟩])
  (.cond (.t 19) (.seq (.reg [⟨(some 6), .mv (.k (.c (.d (.int .i64 4)))), none⟩])
   (.ret))
   (.skip)))
  (.seq (.reg [⟨(some 6), .mv (.k (.c (.d (.int .i64 0)))), none⟩])
  (.ret)))),
  [(6, none)]⟩
theorem cf_lrd : compFn Try.prog { own := [], comp := [], frz := [], nils := [] } Try.f64 = some sf_lrd := by kernel_rfl
theorem lrd_c (G : Glob) (f : Int) (l : List Lp) (s k : Int) (hl : l.length ≤ 9223372036854775807) : Den Try.prog G 64 [lpD f l, .int .i64 s, .int .i64 k] (.w (.c (.d (.int .i64 (redE f l s k))))) := by
  refine den_walk Try.func64 cf_lrd rfl rfl ?_
  have c1 := ler_c G f l s hl
  unfold redE
  unfold lpD at c1 ⊢
  cases h1 : okB f l
  · have e : scdE f l s = 3 := by unfold scdE; rw [h1]; rfl
    rw [e] at c1
    simp only [sf_lrd, putAll, wx, wy, wz, stV, seval, IntWalk.iteOmega, IntWalk.toNatUp, reduceCtorEq]
    refine st_call (c1) rfl (.inl rfl) ?_
    simp only [wx, wy, wz, stV, seval, IntWalk.iteOmega, IntWalk.toNatUp, reduceCtorEq]
    exact ret_d1 (by simp only [wx, wy, wz, stV, seval, IntWalk.iteOmega, IntWalk.toNatUp, reduceCtorEq])
  · cases h2 : secIn s
    · have e : scdE f l s = 4 := by unfold scdE; rw [h1, h2]; rfl
      rw [e] at c1
      simp only [sf_lrd, putAll, wx, wy, wz, stV, seval, IntWalk.iteOmega, IntWalk.toNatUp, reduceCtorEq]
      refine st_call (c1) rfl (.inl rfl) ?_
      simp only [wx, wy, wz, stV, seval, IntWalk.iteOmega, IntWalk.toNatUp, reduceCtorEq]
      exact ret_d1 (by simp only [wx, wy, wz, stV, seval, IntWalk.iteOmega, IntWalk.toNatUp, reduceCtorEq])
    · have e : scdE f l s = 0 := by unfold scdE; rw [h1, h2]; rfl
      rw [e] at c1
      by_cases h3 : k < 0
      · rw [show tikIn k = false from decide_eq_false (by omega)]
        simp only [sf_lrd, putAll, wx, wy, wz, stV, seval, IntWalk.iteOmega, IntWalk.toNatUp, reduceCtorEq]
        refine st_call (c1) rfl (.inl rfl) ?_
        simp only [wx, wy, wz, stV, seval, IntWalk.iteOmega, IntWalk.toNatUp, reduceCtorEq]
        exact ret_d1 (by simp only [wx, wy, wz, stV, seval, IntWalk.iteOmega, IntWalk.toNatUp, reduceCtorEq])
      · by_cases h4 : k ≥ 1048576
        · rw [show tikIn k = false from decide_eq_false (by omega)]
          simp only [sf_lrd, putAll, wx, wy, wz, stV, seval, IntWalk.iteOmega, IntWalk.toNatUp, reduceCtorEq]
          refine st_call (c1) rfl (.inl rfl) ?_
          simp only [eq_true h4, wx, wy, wz, stV, seval, IntWalk.iteOmega, IntWalk.toNatUp, reduceCtorEq]
          exact ret_d1 (by simp only [wx, wy, wz, stV, seval, IntWalk.iteOmega, IntWalk.toNatUp, reduceCtorEq])
        · rw [show tikIn k = true from decide_eq_true (by omega)]
          simp only [sf_lrd, putAll, wx, wy, wz, stV, seval, IntWalk.iteOmega, IntWalk.toNatUp, reduceCtorEq]
          refine st_call (c1) rfl (.inl rfl) ?_
          simp only [eq_false h4, wx, wy, wz, stV, seval, IntWalk.iteOmega, IntWalk.toNatUp, reduceCtorEq]
          exact ret_d1 (by simp only [wx, wy, wz, stV, seval, IntWalk.iteOmega, IntWalk.toNatUp, reduceCtorEq])
def shwB (p : Int) (b : Bool) : Bool := if p = -1 then false else if p = 0 then !b else true
theorem shw_none {f : Int} {l : List Lp} (h : okB f l = true) (s : Int) (b : Bool) : shwB (stpN f l s) b = !noneB f l s b := by
  unfold shwB noneB
  rcases stp_3 h s with e | e | e <;> rw [e] <;> cases b <;> rfl
def sf_lsh : SFn := ⟨2, 12,
  .seq (.reg [⟨(some 4), .mv (.k (.c (.d (.bool false)))), none⟩])
  (.seq (.seq (.reg [⟨(some 5), .mv (.t 0), none⟩])
  (.block 0 (.seq (.reg [⟨(some 7), .bin .eql (.t 5) (.k (.c (.d (.int .i64 (-1))))), none⟩,
     ⟨(some 6), .mv (.t 7), none⟩])
   (.cond (.t 6) (.seq (.reg [⟨(some 4), .mv (.k (.c (.d (.bool false)))), none⟩])
    (.ret))
    (.seq (.reg [⟨(some 9), .bin .eql (.t 5) (.k (.c (.d (.int .i64 0)))), none⟩,
      ⟨(some 8), .mv (.t 9), none⟩])
    (.cond (.t 8) (.seq (.reg [⟨(some 10), .mv (.t 1), none⟩,
       ⟨(some 11), .un .not (.t 10), none⟩,
       ⟨(some 4), .mv (.t 11), none⟩])
     (.ret))
     (.skip)))))))
  (.seq (.reg [⟨(some 4), .mv (.k (.c (.d (.bool true)))), none⟩])
  (.ret))),
  [(4, none)]⟩
theorem cf_lsh : compFn Try.prog { own := [], comp := [], frz := [], nils := [] } Try.f66 = some sf_lsh := by kernel_rfl
theorem lsh_c (G : Glob) (p : Int) (b : Bool) : Den Try.prog G 66 [.int .i64 p, .bool b] (.w (.c (.d (.bool (shwB p b))))) := by
  refine den_walk Try.func66 cf_lsh rfl rfl ?_
  unfold shwB
  by_cases h1 : p = -1
  · rw [if_pos h1]
    simp only [sf_lsh, putAll, wx, wy, wz, stV, seval, IntWalk.iteOmega, IntWalk.toNatUp, reduceCtorEq, h1]
    exact ret_d1 (by simp only [wx, wy, wz, stV, seval, IntWalk.iteOmega, IntWalk.toNatUp, reduceCtorEq])
  · rw [if_neg h1]
    by_cases h2 : p = 0
    · rw [if_pos h2]
      simp only [sf_lsh, putAll, wx, wy, wz, stV, seval, IntWalk.iteOmega, IntWalk.toNatUp, reduceCtorEq, h1, h2]
      exact ret_d1 (by simp only [wx, wy, wz, stV, seval, IntWalk.iteOmega, IntWalk.toNatUp, reduceCtorEq])
    · rw [if_neg h2]
      simp only [sf_lsh, putAll, wx, wy, wz, stV, seval, IntWalk.iteOmega, IntWalk.toNatUp, reduceCtorEq, h1, h2]
      exact ret_d1 (by simp only [wx, wy, wz, stV, seval, IntWalk.iteOmega, IntWalk.toNatUp, reduceCtorEq])
def sf_lin : SFn := ⟨2, 22,
  .seq (.reg [⟨(some 2), .box .roBox (.t 0), none⟩,
    ⟨(some 3), .box .roBox (.t 1), none⟩,
    ⟨(some 4), .mv (.k (.c (.d (.int .i64 0)))), none⟩])
  (.seq (.reg [⟨(some 6), .fieldAddr 0 (.t 3), none⟩,
    ⟨(some 7), .load .sc (.t 6), none⟩,
    ⟨(some 8), .load (.ag 2) (.t 2), none⟩,
    ⟨(some 9), .fieldAddr 0 (.t 3), none⟩,
    ⟨(some 10), .load .sc (.t 9), none⟩,
    ⟨(some 11), .call 85 [(.t 8), (.t 10)] none, none⟩,
    ⟨(some 12), .bin .add (.t 7) (.t 11), none⟩,
    ⟨(some 5), .mv (.t 12), none⟩])
  (.seq (.seq (.reg [⟨(some 13), .fieldAddr 1 (.t 3), none⟩,
    ⟨(some 14), .load .sc (.t 13), none⟩])
  (.cond (.t 14) (.reg [⟨(some 15), .mv (.t 5), none⟩,
     ⟨(some 16), .bin .add (.t 15) (.k (.c (.d (.int .i64 1)))), none⟩,
     ⟨(some 5), .mv (.t 16), none⟩])
   (.skip)))
  (.seq (.reg [⟨(some 17), .mv (.t 5), none⟩,
    ⟨(some 18), .bin .shl (.t 17) (.k (.c (.d (.int .u64 20)))), none⟩,
    ⟨(some 19), .fieldAddr 2 (.t 3), none⟩,
    ⟨(some 20), .load .sc (.t 19), none⟩,
    ⟨(some 21), .bin .add (.t 18) (.t 20), none⟩,
    ⟨(some 4), .mv (.t 21), none⟩])
  (.ret)))),
  [(4, none)]⟩
theorem cf_lin : compFn Try.prog { own := [], comp := [], frz := [], nils := [] } Try.f67 = some sf_lin := by kernel_rfl
theorem lin_c (G : Glob) (f : Int) (l : List Lp) (s : Int) (b : Bool) (k : Int) (hl : l.length ≤ 9223372036854775807) (h : okB f l = true) (hs : secIn s = true) (hk : tikIn k = true) : Den Try.prog G 67 [lpD f l, .agg [.int .i64 s, .bool b, .int .i64 k]] (.w (.c (.d (.int .i64 (taiS f l s b * 1048576 + k))))) := by
  refine den_walk Try.func67 cf_lin rfl rfl ?_
  have a := off_in h s
  have c1 := lof_c G f l s hl
  have h1 := sec_i hs
  have h2 := tik_i hk
  unfold lpD at c1 ⊢
  unfold taiS taiN bI
  generalize offN f l s = X at *
  cases b
  · simp only [sf_lin, putAll, wx, wy, wz, stV, seval, IntWalk.iteOmega, IntWalk.toNatUp, reduceCtorEq]
    refine st_call (c1) rfl (.inl rfl) ?_
    simp only [bI64, wx, wy, wz, stV, seval, IntWalk.iteOmega, IntWalk.toNatUp, reduceCtorEq]
    exact ret_d1 (by simp only [wx, wy, wz, stV, seval, IntWalk.iteOmega, IntWalk.toNatUp, reduceCtorEq, Bool.false_eq_true, Int.add_zero])
  · simp only [sf_lin, putAll, wx, wy, wz, stV, seval, IntWalk.iteOmega, IntWalk.toNatUp, reduceCtorEq]
    refine st_call (c1) rfl (.inl rfl) ?_
    simp only [bI64, wx, wy, wz, stV, seval, IntWalk.iteOmega, IntWalk.toNatUp, reduceCtorEq]
    exact ret_d1 (by simp only [wx, wy, wz, stV, seval, IntWalk.iteOmega, IntWalk.toNatUp, reduceCtorEq])
/-! ### TAI, Number -/
def sf_lnum : SFn := ⟨3, 38,
  .seq (.reg [⟨(some 3), .box .roBox (.t 0), none⟩,
    ⟨(some 6), .alloc [(.d (.int .i64 0)), (.d (.int .i64 0))], none⟩,
    ⟨(some 7), .mv (.k (.c (.d (.int .i64 0)))), none⟩])
  (.seq (.seq (.reg [⟨(some 10), .load (.ag 2) (.t 3), none⟩,
    ⟨(some 11), .mv (.t 1), none⟩,
    ⟨(some 12), .mv (.t 2), none⟩,
    ⟨(some 13), .call 64 [(.t 10), (.t 11), (.t 12)] none, none⟩,
    ⟨(some 8), .mv (.t 13), none⟩])
  (.seq (.reg [⟨(some 14), .mv (.t 8), none⟩,
    ⟨(some 15), .bin .neq (.t 14) (.k (.c (.d (.int .i64 0)))), none⟩])
  (.cond (.t 15) (.seq (.reg [⟨(some 16), .build [(.d (.int .i64 0)), (.d (.int .i64 0))] [], none⟩,
     ⟨(some 17), .mv (.t 8), none⟩,
     ⟨none, .store (.ag 2) (.t 6) (.t 16), none⟩,
     ⟨(some 7), .mv (.t 17), none⟩])
   (.ret))
   (.skip))))
  (.seq (.reg [⟨(some 18), .load (.ag 2) (.t 3), none⟩,
    ⟨(some 19), .mv (.t 1), none⟩,
    ⟨(some 20), .call 65 [(.t 18), (.t 19)] none, none⟩,
    ⟨(some 9), .mv (.t 20), none⟩])
  (.seq (.seq (.reg [⟨(some 21), .mv (.t 9), none⟩,
    ⟨(some 22), .call 66 [(.t 21), (.k (.c (.d (.bool false))))] none, none⟩,
    ⟨(some 23), .un .not (.t 22), none⟩])
  (.cond (.t 23) (.seq (.reg [⟨(some 24), .build [(.d (.int .i64 0)), (.d (.int .i64 0))] [], none⟩,
     ⟨none, .store (.ag 2) (.t 6) (.t 24), none⟩,
     ⟨(some 7), .mv (.k (.c (.d (.int .i64 10)))), none⟩])
   (.ret))
   (.skip)))
  (.seq (.reg [⟨(some 25), .load (.ag 2) (.t 3), none⟩,
    ⟨(some 26), .mv (.t 1), none⟩,
    ⟨(some 27), .mv (.t 2), none⟩,
    ⟨(some 28), .build [(.d (.int .i64 0)), (.d (.bool false)), (.d (.int .i64 0))] [(0, 1, (.t 26)), (2, 1, (.t 27))], none⟩,
    ⟨(some 29), .call 67 [(.t 25), (.t 28)] none, none⟩,
    ⟨(some 30), .load (.ag 2) (.t 3), none⟩,
    ⟨(some 31), .mv (.t 1), none⟩,
    ⟨(some 32), .mv (.t 9), none⟩,
    ⟨(some 33), .bin .eql (.t 32) (.k (.c (.d (.int .i64 1)))), none⟩,
    ⟨(some 34), .mv (.t 2), none⟩,
    ⟨(some 35), .build [(.d (.int .i64 0)), (.d (.bool false)), (.d (.int .i64 0))] [(0, 1, (.t 31)), (1, 1, (.t 33)), (2, 1, (.t 34))], none⟩,
    ⟨(some 36), .call 67 [(.t 30), (.t 35)] none, none⟩,
    ⟨(some 37), .build [(.d (.int .i64 0)), (.d (.int .i64 0))] [(0, 1, (.t 29)), (1, 1, (.t 36))], none⟩,
    ⟨none, .store (.ag 2) (.t 6) (.t 37), none⟩,
    ⟨(some 7), .mv (.k (.c (.d (.int .i64 0)))), none⟩])
  (.ret))))),
  [(6, (some (.ag 2))), (7, none)]⟩
theorem cf_lnum : compFn Try.prog { own := [], comp := [], frz := [], nils := [] } Try.f33 = some sf_lnum := by kernel_rfl
theorem lnum_c (G : Glob) (f : Int) (l : List Lp) (s k : Int) (hl : l.length ≤ 9223372036854775807) : Den Try.prog G 33 [lpD f l, .int .i64 s, .int .i64 k] (.tup [.c (.d (.agg [.int .i64 (taiV f l s false k), .int .i64 (numHi f l s k)])), .c (.d (.int .i64 (taiE f l s false k)))]) := by
  refine den_walk Try.func33 cf_lnum rfl rfl ?_
  have c1 := lrd_c G f l s k hl
  unfold taiV numHi taiB taiE
  unfold redE at c1
  unfold lpD at c1 ⊢
  cases h1 : okB f l
  · rw [h1] at c1
    simp only [Bool.false_eq_true, if_false] at c1
    simp only [sf_lnum, putAll, wx, wy, wz, stV, seval, IntWalk.iteOmega, IntWalk.toNatUp, reduceCtorEq]
    refine st_call (c1) rfl (.inl rfl) ?_
    simp only [wx, wy, wz, stV, seval, IntWalk.iteOmega, IntWalk.toNatUp, reduceCtorEq]
    exact ret_d2 (by simp only [wx, wy, wz, stV, seval, IntWalk.iteOmega, IntWalk.toNatUp, reduceCtorEq]) (by simp only [wx, wy, wz, stV, seval, IntWalk.iteOmega, IntWalk.toNatUp, reduceCtorEq])
  · cases h2 : (secIn s && tikIn k)
    · rw [h1, h2] at c1
      simp only [Bool.false_eq_true, if_false, if_true] at c1
      simp only [sf_lnum, putAll, wx, wy, wz, stV, seval, IntWalk.iteOmega, IntWalk.toNatUp, reduceCtorEq]
      refine st_call (c1) rfl (.inl rfl) ?_
      simp only [wx, wy, wz, stV, seval, IntWalk.iteOmega, IntWalk.toNatUp, reduceCtorEq]
      exact ret_d2 (by simp only [wx, wy, wz, stV, seval, IntWalk.iteOmega, IntWalk.toNatUp, reduceCtorEq]) (by simp only [wx, wy, wz, stV, seval, IntWalk.iteOmega, IntWalk.toNatUp, reduceCtorEq])
    · rw [h1, h2] at c1
      simp only [if_true] at c1
      have hs : secIn s = true := by cases e : secIn s <;> simp_all
      have hk : tikIn k = true := by cases e : tikIn k <;> simp_all
      have := sec_i hs
      have c2 := lst_c G f l s hl h1 (by omega) (by omega)
      have c3 := lsh_c G (stpN f l s) false
      rw [shw_none h1] at c3
      have c4 := lin_c G f l s false k hl h1 hs hk
      have e4 : taiS f l s false = taiN f l s := by unfold taiS bI; simp
      unfold lpD at c2 c4
      cases h3 : noneB f l s false
      · rw [h3] at c3
        by_cases h5 : stpN f l s = 1
        · have c5 := lin_c G f l s true k hl h1 hs hk
          have e5 : taiS f l s true = taiN f l s + 1 := rfl
          unfold lpD at c5
          rw [e5] at c5
          simp only [sf_lnum, putAll, wx, wy, wz, stV, seval, IntWalk.iteOmega, IntWalk.toNatUp, reduceCtorEq]
          refine st_call (c1) rfl (.inl rfl) ?_
          simp only [wx, wy, wz, stV, seval, IntWalk.iteOmega, IntWalk.toNatUp, reduceCtorEq]
          refine st_call (c2) rfl (.inl rfl) ?_
          simp only [wx, wy, wz, stV, seval, IntWalk.iteOmega, IntWalk.toNatUp, reduceCtorEq]
          refine st_call (c3) rfl (.inl rfl) ?_
          simp only [wx, wy, wz, stV, seval, IntWalk.iteOmega, IntWalk.toNatUp, reduceCtorEq]
          refine st_call (c4) rfl (.inl rfl) ?_
          simp only [h5, wx, wy, wz, stV, seval, IntWalk.iteOmega, IntWalk.toNatUp, reduceCtorEq]
          refine st_call (c5) rfl (.inl rfl) ?_
          simp only [h5, wx, wy, wz, stV, seval, IntWalk.iteOmega, IntWalk.toNatUp, reduceCtorEq]
          exact ret_d2 (by simp only [wx, wy, wz, stV, seval, IntWalk.iteOmega, IntWalk.toNatUp, reduceCtorEq]) (by simp only [wx, wy, wz, stV, seval, IntWalk.iteOmega, IntWalk.toNatUp, reduceCtorEq])
        · simp only [sf_lnum, putAll, wx, wy, wz, stV, seval, IntWalk.iteOmega, IntWalk.toNatUp, reduceCtorEq]
          refine st_call (c1) rfl (.inl rfl) ?_
          simp only [wx, wy, wz, stV, seval, IntWalk.iteOmega, IntWalk.toNatUp, reduceCtorEq]
          refine st_call (c2) rfl (.inl rfl) ?_
          simp only [wx, wy, wz, stV, seval, IntWalk.iteOmega, IntWalk.toNatUp, reduceCtorEq]
          refine st_call (c3) rfl (.inl rfl) ?_
          simp only [wx, wy, wz, stV, seval, IntWalk.iteOmega, IntWalk.toNatUp, reduceCtorEq]
          refine st_call (c4) rfl (.inl rfl) ?_
          simp only [h5, wx, wy, wz, stV, seval, IntWalk.iteOmega, IntWalk.toNatUp, reduceCtorEq]
          refine st_call (c4) rfl (.inl rfl) ?_
          simp only [h5, e4, wx, wy, wz, stV, seval, IntWalk.iteOmega, IntWalk.toNatUp, reduceCtorEq]
          exact ret_d2 (by simp only [wx, wy, wz, stV, seval, IntWalk.iteOmega, IntWalk.toNatUp, reduceCtorEq, e4, Int.add_zero]) (by simp only [wx, wy, wz, stV, seval, IntWalk.iteOmega, IntWalk.toNatUp, reduceCtorEq])
      · rw [h3] at c3
        simp only [sf_lnum, putAll, wx, wy, wz, stV, seval, IntWalk.iteOmega, IntWalk.toNatUp, reduceCtorEq]
        refine st_call (c1) rfl (.inl rfl) ?_
        simp only [wx, wy, wz, stV, seval, IntWalk.iteOmega, IntWalk.toNatUp, reduceCtorEq]
        refine st_call (c2) rfl (.inl rfl) ?_
        simp only [wx, wy, wz, stV, seval, IntWalk.iteOmega, IntWalk.toNatUp, reduceCtorEq]
        refine st_call (c3) rfl (.inl rfl) ?_
        simp only [wx, wy, wz, stV, seval, IntWalk.iteOmega, IntWalk.toNatUp, reduceCtorEq]
        exact ret_d2 (by simp only [wx, wy, wz, stV, seval, IntWalk.iteOmega, IntWalk.toNatUp, reduceCtorEq]) (by simp only [wx, wy, wz, stV, seval, IntWalk.iteOmega, IntWalk.toNatUp, reduceCtorEq])
end Go.Proofs.Ytjebhdadegfbdaa
set_option linter.unusedVariables false
set_option linter.unusedSimpArgs false
namespace Go.Proofs.Ytjebhdadegfbdaa
open Go.RowKit

def utcS (f : Int) (l : List Lp) (t : Int) : Int := if utcB f l t = true then (shwN f l (t / 1048576)).1 else 0
def utcL (f : Int) (l : List Lp) (t : Int) : Bool := utcB f l t && (shwN f l (t / 1048576)).2
def utcK (f : Int) (l : List Lp) (t : Int) : Int := if utcB f l t = true then t % 1048576 else 0
theorem shw_drop {f n : Int} {l : List Lp} {i : Nat} (hi : i < l.length) (e : shwN (lastO f l i) (l.drop i) n = shwN f l n) :
    (n = (lpG l i).1 + (lpG l i).2 - 1 ∧ (lpG l i).2 > lastO f l i → shwN f l n = ((lpG l i).1 - 1, true)) ∧
    (¬ (n = (lpG l i).1 + (lpG l i).2 - 1 ∧ (lpG l i).2 > lastO f l i) → (n < (lpG l i).1 + (lpG l i).2 → shwN f l n = (n - lastO f l i, false)) ∧ (¬ n < (lpG l i).1 + (lpG l i).2 → shwN (lastO f l (i + 1)) (l.drop (i + 1)) n = shwN f l n)) := by
  rw [drop_lp hi] at e
  refine ⟨fun h => ?_, fun h => ⟨fun h2 => ?_, fun h2 => ?_⟩⟩
  · rw [← e]; exact if_pos h
  · rw [← e]
    show (if _ then _ else _) = _
    rw [if_neg h, if_pos h2]
  · rw [← e]
    show _ = (if _ then _ else _)
    rw [if_neg h, if_neg h2]; rfl
theorem shw_end {f n : Int} {l : List Lp} {i : Nat} (hi : i = l.length) (e : shwN (lastO f l i) (l.drop i) n = shwN f l n) : shwN f l n = (n - lastO f l i, false) := by
  rw [← e, hi, List.drop_length]; rfl
def lsSt (l : List Lp) (f n : Int) (i : Nat) : St := ⟨ofL [(1, .w (.c (.d (.int .i64 n)))), (4, .w (.c (.ptr 1 1 0 0))), (5, .w (.c (.d (.int .i64 (lastO f l i))))), (12, .w (.c (.d (.sl (l.map spD))))), (13, .w (.c (.d (.int .i64 (l.length : Int))))), (14, .w (.c (.d (.int .i64 (i : Int)))))],
  hL [(1, .box [.d (.int .i64 0), .d (.bool false), .d (.int .i64 0)])], uL [1]⟩
def lp_lsw_0 : SCode :=
  .seq (.reg [⟨(some 15), .bin .lss (.t 14) (.t 13), none⟩])
  (.seq (.cond (.t 15) (.skip)
   (.exit 0))
  (.seq (.block 1 (.seq (.reg [⟨(some 16), .idxSl 2 (.t 12) (.t 14), none⟩,
     ⟨(some 17), .load (.ag 2) (.t 16), none⟩,
     ⟨(some 7), .alloc [(.d (.int .i64 0)), (.d (.int .i64 0))], none⟩,
     ⟨none, .store (.ag 2) (.t 7) (.t 17), none⟩])
   (.seq (.reg [⟨(some 18), .fieldAddr 0 (.t 7), none⟩,
     ⟨(some 19), .load .sc (.t 18), none⟩,
     ⟨(some 20), .fieldAddr 1 (.t 7), none⟩,
     ⟨(some 21), .load .sc (.t 20), none⟩,
     ⟨(some 22), .bin .add (.t 19) (.t 21), none⟩,
     ⟨(some 8), .mv (.t 22), none⟩])
   (.seq (.seq (.reg [⟨(some 23), .mv (.t 1), none⟩,
     ⟨(some 24), .mv (.t 8), none⟩,
     ⟨(some 25), .bin .sub (.t 24) (.k (.c (.d (.int .i64 1)))), none⟩,
     ⟨(some 26), .bin .eql (.t 23) (.t 25), none⟩,
     ⟨(some 27), .mv (.t 26), none⟩,
     ⟨(some 28), .fieldAddr 1 (.t 7), (some (27, true))⟩,
     ⟨(some 29), .load .sc (.t 28), (some (27, true))⟩,
     ⟨(some 30), .mv (.t 5), (some (27, true))⟩,
     ⟨(some 31), .bin .gtr (.t 29) (.t 30), (some (27, true))⟩,
     ⟨(some 32), .pick (.t 27) (.t 31) (.k (.c (.d (.bool false)))), none⟩])
   (.cond (.t 32) (.seq (.reg [⟨(some 33), .fieldAddr 0 (.t 7), none⟩,
      ⟨(some 34), .load .sc (.t 33), none⟩,
      ⟨(some 35), .bin .sub (.t 34) (.k (.c (.d (.int .i64 1)))), none⟩,
      ⟨(some 36), .build [(.d (.int .i64 0)), (.d (.bool false)), (.d (.int .i64 0))] [(0, 1, (.t 35)), (1, 1, (.k (.c (.d (.bool true)))))], none⟩,
      ⟨none, .store (.ag 3) (.t 4) (.t 36), none⟩])
    (.ret))
    (.skip)))
   (.seq (.seq (.reg [⟨(some 37), .mv (.t 1), none⟩,
     ⟨(some 38), .mv (.t 8), none⟩,
     ⟨(some 39), .bin .lss (.t 37) (.t 38), none⟩])
   (.cond (.t 39) (.exit 0)
    (.skip)))
   (.reg [⟨(some 40), .fieldAddr 1 (.t 7), none⟩,
     ⟨(some 41), .load .sc (.t 40), none⟩,
     ⟨(some 5), .mv (.t 41), none⟩]))))))
  (.reg [⟨(some 42), .bin .add (.t 14) (.k (.c (.d (.int .i64 1)))), none⟩,
    ⟨(some 14), .mv (.t 42), none⟩])))
def sf_lsw : SFn := ⟨2, 47,
  .seq (.reg [⟨(some 2), .box .roBox (.t 0), none⟩,
    ⟨(some 4), .alloc [(.d (.int .i64 0)), (.d (.bool false)), (.d (.int .i64 0))], none⟩])
  (.seq (.reg [⟨(some 9), .fieldAddr 0 (.t 2), none⟩,
    ⟨(some 10), .load .sc (.t 9), none⟩,
    ⟨(some 5), .mv (.t 10), none⟩])
  (.seq (.seq (.reg [⟨(some 11), .fieldAddr 1 (.t 2), none⟩,
    ⟨(some 12), .load .sc (.t 11), none⟩,
    ⟨(some 13), .len (.t 12), none⟩,
    ⟨(some 14), .mv (.k (.c (.d (.int .i64 0)))), none⟩])
  (.block 0 (.loop lp_lsw_0)))
  (.seq (.reg [⟨(some 43), .mv (.t 1), none⟩,
    ⟨(some 44), .mv (.t 5), none⟩,
    ⟨(some 45), .bin .sub (.t 43) (.t 44), none⟩,
    ⟨(some 46), .build [(.d (.int .i64 0)), (.d (.bool false)), (.d (.int .i64 0))] [(0, 1, (.t 45))], none⟩,
    ⟨none, .store (.ag 3) (.t 4) (.t 46), none⟩])
  (.ret)))),
  [(4, (some (.ag 3)))]⟩
theorem cf_lsw : compFn Try.prog { own := [], comp := [], frz := [], nils := [] } Try.f60 = some sf_lsw := by kernel_rfl
set_option maxHeartbeats 800000 in
theorem lsw_c (G : Glob) (f : Int) (l : List Lp) (n : Int) (hl : l.length ≤ 9223372036854775807) (h : okB f l = true) (h1 : -1000000000000000000 ≤ n) (h2 : n ≤ 1000000000000000000) : Den Try.prog G 60 [lpD f l, .int .i64 n] (.w (.c (.d (.agg [.int .i64 (shwN f l n).1, .bool (shwN f l n).2, .int .i64 0])))) := by
  refine den_walk Try.func60 cf_lsw rfl rfl ?_
  unfold lpD
  simp only [sf_lsw, putAll, wx, wy, wz, stV, seval, IntWalk.iteOmega, IntWalk.toNatUp, reduceCtorEq]
  refine loop_st (lsSt l f n) (fun i => l.length - i) (fun i => i ≤ l.length ∧ shwN (lastO f l i) (l.drop i) n = shwN f l n) 0 ⟨Nat.zero_le _, rfl⟩ ?_ ?_
  · have e2 : lastO f l 0 = f := rfl
    refine ent_l (fun _ => 32) ?_ ?_ rfl rfl <;> simp only [wx, wex, wez, stV, seval, IntWalk.iteOmega, IntWalk.toNatUp, reduceCtorEq, e2]
  · rintro i ⟨hi, hok⟩
    have bl := ok_last h hi
    by_cases hlt : i < l.length
    · have g := lpG_get hlt
      have be := ok_el h hlt
      obtain ⟨s1, s2⟩ := shw_drop hlt hok
      have n2 : lastO f l (i + 1) = (lpG l i).2 := rfl
      generalize lpG l i = X at *
      obtain ⟨A, O⟩ := X
      simp only at be s1 s2 n2
      generalize hL : lastO f l i = L at *
      by_cases c1 : n = A + O - 1
      · by_cases c2 : O > L
        · rw [s1 ⟨c1, c2⟩]
          simp only [lp_lsw_0, lsSt, wx, wy, wz, stV, seval, IntWalk.iteOmega, IntWalk.toNatUp, reduceCtorEq, get_map, g, spD, hL, c1, eq_true c2]
          exact ret_d1 (by simp only [wx, wy, wz, stV, seval, IntWalk.iteOmega, IntWalk.toNatUp, reduceCtorEq])
        · obtain ⟨s3, s4⟩ := s2 (fun k => c2 k.2)
          have c3 : n < A + O := by omega
          rw [s3 c3]
          subst c1
          simp only [lp_lsw_0, lsSt, wx, wy, wz, stV, seval, IntWalk.iteOmega, IntWalk.toNatUp, reduceCtorEq, get_map, g, spD, hL, eq_false c2, eq_true c3]
          exact ret_d1 (by simp only [wx, wy, wz, stV, seval, IntWalk.iteOmega, IntWalk.toNatUp, reduceCtorEq])
      · obtain ⟨s3, s4⟩ := s2 (fun k => c1 k.1)
        by_cases c3 : n < A + O
        · rw [s3 c3]
          simp only [lp_lsw_0, lsSt, wx, wy, wz, stV, seval, IntWalk.iteOmega, IntWalk.toNatUp, reduceCtorEq, get_map, g, spD, hL, c1, eq_true c3]
          exact ret_d1 (by simp only [wx, wy, wz, stV, seval, IntWalk.iteOmega, IntWalk.toNatUp, reduceCtorEq])
        · have e := s4 c3
          simp only [lp_lsw_0, lsSt, wx, wy, wz, stV, seval, IntWalk.iteOmega, IntWalk.toNatUp, reduceCtorEq, get_map, g, spD, hL, c1, eq_false c3]
          refine lop_next (i + 1) (by omega) ⟨by omega, e⟩ (ent_l (fun i => i) ?_ ?_ rfl rfl) <;> simp only [wx, wex, wez, stV, seval, IntWalk.iteOmega, IntWalk.toNatUp, reduceCtorEq, n2]
    · rw [shw_end (by omega) hok]
      simp only [lp_lsw_0, lsSt, wx, wy, wz, stV, seval, IntWalk.iteOmega, IntWalk.toNatUp, reduceCtorEq]
      exact ret_d1 (by simp only [wx, wy, wz, stV, seval, IntWalk.iteOmega, IntWalk.toNatUp, reduceCtorEq])
def sf_lutc : SFn := ⟨2, 24,
  .seq (.reg [⟨(some 2), .box .roBox (.t 0), none⟩,
    ⟨(some 4), .alloc [(.d (.int .i64 0)), (.d (.bool false)), (.d (.int .i64 0))], none⟩,
    ⟨(some 5), .mv (.k (.c (.d (.int .i64 0)))), none⟩])
  (.seq (.seq (.reg [⟨(some 7), .load (.ag 2) (.t 2), none⟩,
    ⟨(some 8), .call 59 [(.t 7)] none, none⟩,
    ⟨(some 9), .un .not (.t 8), none⟩])
  (.cond (.t 9) (.seq (.reg [⟨(some 10), .build [(.d (.int .i64 0)), (.d (.bool false)), (.d (.int .i64 0))] [], none⟩,
     ⟨none, .store (.ag 3) (.t 4) (.t 10), none⟩,
     ⟨(some 5), .mv (.k (.c (.d (.int .i64 3)))), none⟩])
   (.ret))
   (.skip)))
  (.seq (.reg [⟨(some 11), .load (.ag 2) (.t 2), none⟩,
    ⟨(some 12), .mv (.t 1), none⟩,
    ⟨(some 13), .call 61 [(.t 12)] none, none⟩,
    ⟨(some 14), .call 60 [(.t 11), (.t 13)] none, none⟩,
    ⟨(some 6), .alloc [(.d (.int .i64 0)), (.d (.bool false)), (.d (.int .i64 0))], none⟩,
    ⟨none, .store (.ag 3) (.t 6) (.t 14), none⟩])
  (.seq (.seq (.reg [⟨(some 15), .fieldAddr 0 (.t 6), none⟩,
    ⟨(some 16), .load .sc (.t 15), none⟩,
    ⟨(some 17), .call 62 [(.t 16)] none, none⟩,
    ⟨(some 18), .un .not (.t 17), none⟩])
  (.cond (.t 18) (.seq (.reg [⟨(some 19), .build [(.d (.int .i64 0)), (.d (.bool false)), (.d (.int .i64 0))] [], none⟩,
     ⟨none, .store (.ag 3) (.t 4) (.t 19), none⟩,
     ⟨(some 5), .mv (.k (.c (.d (.int .i64 9)))), none⟩])
   (.ret))
   (.skip)))
  (.seq (.reg [⟨(some 20), .mv (.t 1), none⟩,
    ⟨(some 21), .call 63 [(.t 20)] none, none⟩,
    ⟨(some 22), .fieldAddr 2 (.t 6), none⟩,
    ⟨none, .store .sc (.t 22) (.t 21), none⟩])
  (.seq (.reg [⟨(some 23), .load (.ag 3) (.t 6), none⟩,
    ⟨none, .store (.ag 3) (.t 4) (.t 23), none⟩,
    ⟨(some 5), .mv (.k (.c (.d (.int .i64 0)))), none⟩])
  (.ret)))))),
  [(4, (some (.ag 3))), (5, none)]⟩
theorem cf_lutc : compFn Try.prog { own := [], comp := [], frz := [], nils := [] } Try.f32 = some sf_lutc := by kernel_rfl
theorem lutc_c (G : Glob) (f : Int) (l : List Lp) (t : Int) (hl : l.length ≤ 9223372036854775807) (h1 : -9223372036854775808 ≤ t) (h2 : t ≤ 9223372036854775807) : Den Try.prog G 32 [lpD f l, .int .i64 t] (.tup [.c (.d (.agg [.int .i64 (utcS f l t), .bool (utcL f l t), .int .i64 (utcK f l t)])), .c (.d (.int .i64 (utcE f l t)))]) := by
  refine den_walk Try.func32 cf_lutc rfl rfl ?_
  have c1 := lvl_c G f l hl
  unfold lpD at c1 ⊢
  unfold utcS utcL utcK utcE utcB
  cases ho : okB f l
  · rw [ho] at c1
    simp only [sf_lutc, putAll, wx, wy, wz, stV, seval, IntWalk.iteOmega, IntWalk.toNatUp, reduceCtorEq]
    refine st_call (c1) rfl (.inl rfl) ?_
    simp only [wx, wy, wz, stV, seval, IntWalk.iteOmega, IntWalk.toNatUp, reduceCtorEq]
    exact ret_d2 (by simp only [wx, wy, wz, stV, seval, IntWalk.iteOmega, IntWalk.toNatUp, reduceCtorEq]) (by simp only [wx, wy, wz, stV, seval, IntWalk.iteOmega, IntWalk.toNatUp, reduceCtorEq])
  · rw [ho] at c1
    have c2 := lsw_c G f l (t / 1048576) hl ho (by omega) (by omega)
    have c3 := lkn_c G (shwN f l (t / 1048576)).1
    unfold lpD at c2
    cases hs : secIn (shwN f l (t / 1048576)).1
    · rw [hs] at c3
      simp only [sf_lutc, putAll, wx, wy, wz, stV, seval, IntWalk.iteOmega, IntWalk.toNatUp, reduceCtorEq]
      refine st_call (c1) rfl (.inl rfl) ?_
      simp only [wx, wy, wz, stV, seval, IntWalk.iteOmega, IntWalk.toNatUp, reduceCtorEq]
      refine st_call (snd_c G t) rfl (.inl rfl) ?_
      simp only [wx, wy, wz, stV, seval, IntWalk.iteOmega, IntWalk.toNatUp, reduceCtorEq]
      refine st_call (c2) rfl (.inl rfl) ?_
      simp only [wx, wy, wz, stV, seval, IntWalk.iteOmega, IntWalk.toNatUp, reduceCtorEq]
      refine st_call (c3) rfl (.inl rfl) ?_
      simp only [wx, wy, wz, stV, seval, IntWalk.iteOmega, IntWalk.toNatUp, reduceCtorEq]
      exact ret_d2 (by simp only [wx, wy, wz, stV, seval, IntWalk.iteOmega, IntWalk.toNatUp, reduceCtorEq]) (by simp only [wx, wy, wz, stV, seval, IntWalk.iteOmega, IntWalk.toNatUp, reduceCtorEq])
    · rw [hs] at c3
      simp only [sf_lutc, putAll, wx, wy, wz, stV, seval, IntWalk.iteOmega, IntWalk.toNatUp, reduceCtorEq]
      refine st_call (c1) rfl (.inl rfl) ?_
      simp only [wx, wy, wz, stV, seval, IntWalk.iteOmega, IntWalk.toNatUp, reduceCtorEq]
      refine st_call (snd_c G t) rfl (.inl rfl) ?_
      simp only [wx, wy, wz, stV, seval, IntWalk.iteOmega, IntWalk.toNatUp, reduceCtorEq]
      refine st_call (c2) rfl (.inl rfl) ?_
      simp only [wx, wy, wz, stV, seval, IntWalk.iteOmega, IntWalk.toNatUp, reduceCtorEq]
      refine st_call (c3) rfl (.inl rfl) ?_
      simp only [wx, wy, wz, stV, seval, IntWalk.iteOmega, IntWalk.toNatUp, reduceCtorEq]
      refine st_call (prt_c G t) rfl (.inl rfl) ?_
      simp only [wx, wy, wz, stV, seval, IntWalk.iteOmega, IntWalk.toNatUp, reduceCtorEq]
      exact ret_d2 (by simp only [wx, wy, wz, stV, seval, IntWalk.iteOmega, IntWalk.toNatUp, reduceCtorEq]) (by simp only [wx, wy, wz, stV, seval, IntWalk.iteOmega, IntWalk.toNatUp, reduceCtorEq])
end Go.Proofs.Ytjebhdadegfbdaa
set_option linter.unusedVariables false
set_option linter.unusedSimpArgs false
namespace Go.Proofs.Ytjebhdadegfbdaa
open Go.RowKit

def rvSt (l : List Lp) (f : Int) (i : Nat) : St := ⟨ofL [(1, .w (.c (.rp [.int .i64 f, .sl (l.map spD)]))), (3, .w (.c (.d (.int .i64 (lastO f l i))))), (4, .w (.c (.d (.int .i64 (i : Int)))))], hL [], uL []⟩
theorem suc_sub (j : Nat) : (j : Int) + 1 - 1 = j := by omega
def roSt (l : List Lp) (f s : Int) (i : Nat) : St := ⟨ofL [(1, .w (.c (.d (.int .i64 s)))), (2, .w (.c (.rp [.int .i64 f, .sl (l.map spD)]))), (5, .w (.c (.d (.int .i64 (lastO f l i))))), (6, .w (.c (.d (.int .i64 (i : Int)))))], hL [], uL []⟩
end Go.Proofs.Ytjebhdadegfbdaa
set_option linter.unusedVariables false
set_option linter.unusedSimpArgs false
namespace Go.Proofs.Ytjebhdadegfbdaa
open Go.RowKit

theorem cand_ok {f : Int} {l : List Lp} (h : okB f l = true) {t s : Int} {b : Bool} : (taiE f l s b (t % 1048576) = 0 ∧ taiV f l s b (t % 1048576) = t) ↔ IsR f l (t / 1048576) s b := by
  have hk : tikIn (t % 1048576) = true := decide_eq_true (by omega)
  constructor
  · rintro ⟨h1, h2⟩
    unfold taiE at h1
    unfold taiV taiB at h2
    rw [h, hk] at h1 h2
    cases a2 : secIn s <;> rw [a2] at h1 h2
    · simp at h1
    · cases a3 : noneB f l s b <;> rw [a3] at h1 h2
      · refine ⟨a2, a3, ?_⟩
        simp at h2
        omega
      · simp at h1
  · intro k
    unfold taiE taiV taiB
    rw [h, hk, k.sec, k.some, k.tai]
    simp
    omega
theorem utc_of {f : Int} {l : List Lp} (h : okB f l = true) {t s : Int} {b : Bool} (k : IsR f l (t / 1048576) s b) : utcS f l t = s ∧ utcL f l t = b ∧ utcK f l t = t % 1048576 ∧ utcE f l t = 0 := by
  have e := shw_is h k
  have eb : utcB f l t = true := by unfold utcB; rw [h, e]; exact k.sec
  unfold utcS utcL utcK utcE
  rw [eb, h, e]
  refine ⟨rfl, rfl, rfl, ?_⟩
  simp only [if_true]
  rw [if_pos k.sec]
theorem utc_no {f : Int} {l : List Lp} (h : okB f l = true) {t : Int} (k : ∀ s b, ¬ IsR f l (t / 1048576) s b) : utcS f l t = 0 ∧ utcL f l t = false ∧ utcK f l t = 0 ∧ utcE f l t = 9 := by
  have e : secIn (shwN f l (t / 1048576)).1 = false := by
    cases hs : secIn (shwN f l (t / 1048576)).1
    · rfl
    · exact absurd (shw_isR h hs) (k _ _)
  unfold utcS utcL utcK utcE utcB
  rw [h, e]
  exact ⟨rfl, rfl, rfl, rfl⟩
def boI : Bool → Nat | false => 0 | true => 1
def ruSt (f : Int) (l : List Lp) (t : Int) (i : Nat) : St := ⟨ofL [(1, .w (.c (.d (.int .i64 t)))), (2, .w (.c (.rp [.int .i64 f, .sl (l.map spD)]))), (4, .w (.c (.ptr 1 1 0 0))), (6, .w (.c (.d (.int .i64 (t / 1048576))))), (7, .w (.c (.d (.int .i64 (t % 1048576))))), (8, .w (.c (.d (.int .i64 (t / 1048576 - 170 + (i : Int))))))],
  hL [(1, .box [.d (.int .i64 0), .d (.bool false), .d (.int .i64 0)])], uL [1]⟩
def rwSt (f : Int) (l : List Lp) (t S : Int) (k : Nat) : St := ⟨ofL [(1, .w (.c (.d (.int .i64 t)))), (2, .w (.c (.rp [.int .i64 f, .sl (l.map spD)]))), (4, .w (.c (.ptr 1 1 0 0))), (6, .w (.c (.d (.int .i64 (t / 1048576))))), (7, .w (.c (.d (.int .i64 (t % 1048576))))), (8, .w (.c (.d (.int .i64 S)))), (9, .w (.c (.d (.int .i64 (k : Int)))))],
  hL [(1, .box [.d (.int .i64 0), .d (.bool false), .d (.int .i64 0)])], uL [1]⟩
end Go.Proofs.Ytjebhdadegfbdaa
set_option linter.unusedVariables false
set_option linter.unusedSimpArgs false
namespace Go.Proofs.Ytjebhdadegfbdaa
open Go.RowKit

/-! ### world.Leaps -/
def wlA (tb : List Int) : Nat → Int
  | 0 => 1728000
  | i + 1 => wlA tb i + 86400 * (2 + withinN (tb.getD (2 * i) 0) 300)
def wlO (tb : List Int) : Nat → Int
  | 0 => 10
  | i + 1 => if withinN (tb.getD (2 * i + 1) 0) 3 = 0 then wlO tb i - 1 else wlO tb i + 1
def wlL (tb : List Int) : Nat → List Lp
  | 0 => []
  | i + 1 => wlL tb i ++ [(wlA tb (i + 1), wlO tb (i + 1))]
def wlK (tb : List Int) : Nat := min 4 (tb.length / 2)
def wlT (tb : List Int) : List Lp := wlL tb (wlK tb)
theorem wlL_len (tb : List Int) : ∀ i, (wlL tb i).length = i
  | 0 => rfl
  | i + 1 => by rw [wlL, List.length_append, wlL_len tb i]; rfl
theorem wlA_s (tb : List Int) (i : Nat) : wlA tb (i + 1) = wlA tb i + 86400 * (2 + withinN (tb.getD (2 * i) 0) 300) := rfl
theorem wlO_s (tb : List Int) (i : Nat) : wlO tb (i + 1) = if withinN (tb.getD (2 * i + 1) 0) 3 = 0 then wlO tb i - 1 else wlO tb i + 1 := rfl
theorem wlL_s (tb : List Int) (i : Nat) : wlL tb (i + 1) = wlL tb i ++ [(wlA tb (i + 1), wlO tb (i + 1))] := rfl
theorem wlA_b (tb : List Int) : ∀ i, 1728000 ≤ wlA tb i ∧ wlA tb i ≤ 1728000 + 26006400 * i
  | 0 => by simp [wlA]
  | i + 1 => by
    have ih := wlA_b tb i
    have := withinN_range (tb.getD (2 * i) 0) 300 (by decide)
    rw [wlA_s]; omega
theorem wlO_b (tb : List Int) : ∀ i : Nat, 10 - (i : Int) ≤ wlO tb i ∧ wlO tb i ≤ 10 + i
  | 0 => by simp [wlO]
  | i + 1 => by
    have ih := wlO_b tb i
    rw [wlO_s]; split <;> omega
theorem wlL_g (tb : List Int) : ∀ (n i : Nat), i < n → lpG (wlL tb n) i = (wlA tb (i + 1), wlO tb (i + 1))
  | 0, i, h => by omega
  | n + 1, i, h => by
    unfold lpG
    rw [wlL_s]
    rcases Nat.lt_succ_iff_lt_or_eq.1 h with h | rfl
    · have ih := wlL_g tb n i h
      unfold lpG at ih
      rw [List.getD_eq_getElem?_getD, List.getElem?_append_left (by rw [wlL_len]; exact h), ← List.getD_eq_getElem?_getD, ih]
    · rw [List.getD_eq_getElem?_getD, List.getElem?_append_right (by rw [wlL_len]; exact Nat.le_refl _), wlL_len, Nat.sub_self]; rfl
theorem wlL_last (tb : List Int) (n i : Nat) (h : i ≤ n) : lastO 10 (wlL tb n) i = wlO tb i := by
  cases i with
  | zero => rfl
  | succ i => rw [lastO_s, wlL_g tb n i h]
theorem wlL_ok (tb : List Int) (n : Nat) (h : n ≤ 4) : okB 10 (wlL tb n) = true := by
  refine okB_iff.2 ⟨⟨by decide, by decide, by rw [wlL_len]; omega⟩, fun i hi => ?_⟩
  rw [wlL_len] at hi
  have a1 := wlA_b tb i
  have a2 := wlA_b tb (i + 1)
  have w := withinN_range (tb.getD (2 * i) 0) 300 (by decide)
  have asx := wlA_s tb i
  have os := wlO_s tb i
  have md : ∀ j, wlA tb j % 86400 = 0 := by
    intro j
    induction j with
    | zero => rfl
    | succ j ih => rw [wlA_s]; omega
  refine decide_eq_true ?_
  rw [wlL_last tb n i (by omega), wlL_g tb n i hi]
  refine ⟨by simp only; omega, by simp only; omega, md _, fun h0 => ?_, ?_⟩
  · rw [wlL_g tb n (i - 1) (by omega)]
    obtain ⟨j, rfl⟩ : ∃ j, i = j + 1 := ⟨i - 1, by omega⟩
    rw [Nat.add_sub_cancel]
    simp only
    omega
  · simp only
    rw [os]
    split
    · exact .inr rfl
    · exact .inl rfl
theorem wlT_ok (tb : List Int) : okB 10 (wlT tb) = true := wlL_ok tb _ (Nat.min_le_left _ _)
def wlN (i : Nat) : Nat := 2 * i
theorem wlN_e (i : Nat) : wlN i = 2 * i := rfl
theorem wlN_0 : wlN 0 = 0 := rfl
def wlSt (tb : List Int) : Nat → St
  | 0 => ⟨ofL [(0, .w (.c (.d (.sl (tb.map zD))))), (2, .w (.c (.ptr 3 1 0 0))), (3, .w (.c (.ptr 1 1 0 0))), (4, .w (.c (.d (.int .i64 1728000)))), (5, .w (.c (.d (.int .i64 10)))), (6, .w (.c (.d (.int .i64 ((wlN 0 : Nat) : Int)))))],
    hL [(1, .box [.d (.int .i64 10), .nil]), (3, .box [.d (.int .i64 0), .nil])], uL [1, 3]⟩
  | i + 1 => ⟨ofL [(0, .w (.c (.d (.sl (tb.map zD))))), (2, .w (.c (.ptr 3 1 0 0))), (3, .w (.c (.ptr 1 1 0 0))), (4, .w (.c (.d (.int .i64 (wlA tb (i + 1)))))), (5, .w (.c (.d (.int .i64 (wlO tb (i + 1)))))), (6, .w (.c (.d (.int .i64 ((wlN (i + 1) : Nat) : Int)))))],
    hL [(1, .box [.d (.int .i64 10), .own 2 2 0 (i + 1)]), (2, .row 2 ((wlL tb (i + 1)).map spD)), (3, .box [.d (.int .i64 0), .nil])], uL [1, 2, 3]⟩
theorem get_z {l : List Int} {i : Nat} (h : i < l.length) : l[i]? = some (l.getD i 0) := by
  rw [List.getD_eq_getElem?_getD, List.getElem?_eq_getElem h]; rfl
def lp_wleap_0 : SCode :=
  .seq (.seq (.reg [⟨(some 8), .mv (.t 6), none⟩,
    ⟨(some 9), .bin .add (.t 8) (.k (.c (.d (.int .i64 1)))), none⟩,
    ⟨(some 10), .mv (.t 0), none⟩,
    ⟨(some 11), .len (.t 10), none⟩,
    ⟨(some 12), .bin .lss (.t 9) (.t 11), none⟩,
    ⟨(some 13), .mv (.t 12), none⟩,
    ⟨(some 14), .mv (.t 6), (some (13, true))⟩,
    ⟨(some 15), .bin .lss (.t 14) (.k (.c (.d (.int .i64 8)))), (some (13, true))⟩,
    ⟨(some 16), .pick (.t 13) (.t 15) (.k (.c (.d (.bool false)))), none⟩])
  (.cond (.t 16) (.skip)
   (.exit 0)))
  (.seq (.block 1 (.seq (.reg [⟨(some 19), .mv (.t 4), none⟩,
     ⟨(some 20), .mv (.t 0), none⟩,
     ⟨(some 21), .mv (.t 6), none⟩,
     ⟨(some 22), .idxSl 1 (.t 20) (.t 21), none⟩,
     ⟨(some 23), .load .sc (.t 22), none⟩,
     ⟨(some 24), .call 25 [(.t 23), (.k (.c (.d (.int .i64 300))))] none, none⟩,
     ⟨(some 25), .bin .add (.k (.c (.d (.int .i64 2)))) (.t 24), none⟩,
     ⟨(some 26), .bin .mul (.k (.c (.d (.int .i64 86400)))) (.t 25), none⟩,
     ⟨(some 27), .bin .add (.t 19) (.t 26), none⟩,
     ⟨(some 4), .mv (.t 27), none⟩])
   (.seq (.seq (.reg [⟨(some 28), .mv (.t 0), none⟩,
     ⟨(some 29), .mv (.t 6), none⟩,
     ⟨(some 30), .bin .add (.t 29) (.k (.c (.d (.int .i64 1)))), none⟩,
     ⟨(some 31), .idxSl 1 (.t 28) (.t 30), none⟩,
     ⟨(some 32), .load .sc (.t 31), none⟩,
     ⟨(some 33), .call 25 [(.t 32), (.k (.c (.d (.int .i64 3))))] none, none⟩,
     ⟨(some 34), .bin .eql (.t 33) (.k (.c (.d (.int .i64 0)))), none⟩])
   (.cond (.t 34) (.reg [⟨(some 35), .mv (.t 5), none⟩,
      ⟨(some 36), .bin .sub (.t 35) (.k (.c (.d (.int .i64 1)))), none⟩,
      ⟨(some 5), .mv (.t 36), none⟩])
    (.reg [⟨(some 37), .mv (.t 5), none⟩,
      ⟨(some 38), .bin .add (.t 37) (.k (.c (.d (.int .i64 1)))), none⟩,
      ⟨(some 5), .mv (.t 38), none⟩])))
   (.reg [⟨(some 39), .fieldAddr 1 (.t 3), none⟩,
     ⟨(some 40), .load .sc (.t 39), none⟩,
     ⟨(some 41), .mv (.t 4), none⟩,
     ⟨(some 42), .mv (.t 5), none⟩,
     ⟨(some 43), .build [(.d (.int .i64 0)), (.d (.int .i64 0))] [(0, 1, (.t 41)), (1, 1, (.t 42))], none⟩,
     ⟨(some 44), .bldSl false 1 2 (.agg [(.int .i64 0), (.int .i64 0)]) [(0, (.t 43))], none⟩,
     ⟨(some 45), .app false 2 16 (.t 40) (.t 44), none⟩,
     ⟨(some 46), .fieldAddr 1 (.t 3), none⟩,
     ⟨none, .store .sc (.t 46) (.t 45), none⟩]))))
  (.reg [⟨(some 17), .mv (.t 6), none⟩,
    ⟨(some 18), .bin .add (.t 17) (.k (.c (.d (.int .i64 2)))), none⟩,
    ⟨(some 6), .mv (.t 18), none⟩]))
def sf_wleap : SFn := ⟨1, 48,
  .seq (.reg [⟨(some 2), .alloc [(.d (.int .i64 0)), .nil], none⟩])
  (.seq (.reg [⟨(some 7), .build [(.d (.int .i64 0)), .nil] [(0, 1, (.k (.c (.d (.int .i64 10)))))], none⟩,
    ⟨(some 3), .alloc [(.d (.int .i64 0)), .nil], none⟩,
    ⟨none, .store (.ag 2) (.t 3) (.t 7), none⟩])
  (.seq (.reg [⟨(some 4), .mv (.k (.c (.d (.int .i64 1728000)))), none⟩,
    ⟨(some 5), .mv (.k (.c (.d (.int .i64 10)))), none⟩])
  (.seq (.seq (.reg [⟨(some 6), .mv (.k (.c (.d (.int .i64 0)))), none⟩])
  (.block 0 (.loop lp_wleap_0)))
  (.seq (.reg [⟨(some 47), .load (.ag 2) (.t 3), none⟩,
    ⟨none, .store (.ag 2) (.t 2) (.t 47), none⟩])
  (.ret))))),
  [(2, (some (.ag 2)))]⟩
theorem cf_wleap : compFn Try.prog { own := [], comp := [], frz := [], nils := [] } Try.f30 = some sf_wleap := by kernel_rfl
set_option maxHeartbeats 1600000 in
theorem wleap_c (G : Glob) (tb : List Int) (hl : tb.length ≤ 9223372036854775807) : Den Try.prog G 30 [.sl (tb.map zD)] (.w (.c (.d (lpD 10 (wlT tb))))) := by
  refine den_walk Try.func30 cf_wleap rfl rfl ?_
  unfold lpD
  simp only [sf_wleap, putAll, wx, wy, wz, stV, seval, IntWalk.iteOmega, IntWalk.toNatUp, reduceCtorEq]
  refine loop_st (wlSt tb) (fun i => 4 - i) (fun i => i ≤ wlK tb) 0 (Nat.zero_le _) ?_ ?_
  · have e0 : ((wlN 0 : Nat) : Int) = 0 := rfl
    refine ent_l (fun i => if i = 1 then 24 else 16) ?_ ?_ rfl rfl <;> simp only [wx, wex, wez, stV, seval, IntWalk.iteOmega, IntWalk.toNatUp, reduceCtorEq, e0]
  · intro i hi
    have hk : wlK tb ≤ 4 ∧ wlK tb ≤ tb.length / 2 := ⟨Nat.min_le_left _ _, Nat.min_le_right _ _⟩
    have hk2 : wlK tb = 4 ∨ wlK tb = tb.length / 2 := by unfold wlK; omega
    have w1 := withinN_range (tb.getD (2 * i) 0) 300 (by decide)
    have w2 := withinN_range (tb.getD (2 * i + 1) 0) 3 (by decide)
    have cw1 := within_c G (tb.getD (2 * i) 0) 300 (by decide)
    have cw2 := within_c G (tb.getD (2 * i + 1) 0) 3 (by decide)
    have a1 := wlA_b tb i
    have o1 := wlO_b tb i
    have asx := wlA_s tb i
    have os := wlO_s tb i
    have ls := wlL_s tb i
    have ll := wlL_len tb i
    have we := wlN_e i
    have we2 := wlN_e (i + 1)
    have lm : (wlL tb (i + 1)).map spD = (wlL tb i).map spD ++ [.agg [.int .i64 (wlA tb (i + 1)), .int .i64 (wlO tb (i + 1))]] := by rw [ls, List.map_append]; rfl
    have mlen : ((wlL tb i).map spD).length = i := by rw [List.length_map]; exact ll
    have asz := allSz_sp (wlL tb i)
    by_cases hlt : i < wlK tb
    · have g1 := get_z (l := tb) (i := 2 * i) (by omega)
      have g2 := get_z (l := tb) (i := 2 * i + 1) (by omega)
      rw [← we] at g1 g2 cw1 cw2 w1 w2 asx os
      generalize withinN (tb.getD (wlN i) 0) 300 = W1 at *
      generalize withinN (tb.getD (wlN i + 1) 0) 3 = W2 at *
      have n2 : ((wlN (i + 1) : Nat) : Int) = (wlN i : Int) + 2 := by omega
      have n1 : (wlN i : Int) + 1 < (tb.length : Int) := by omega
      have n3 : (wlN i : Int) < 8 := by omega
      generalize tb.getD (wlN i) 0 = X1 at *
      generalize tb.getD (wlN i + 1) 0 = X2 at *
      rcases i with _ | i
      · have e0 : wlO tb 0 = 10 := rfl
        have e1 : wlA tb 0 = 1728000 := rfl
        have e2 : (wlL tb 0).map spD = [] := rfl
        rw [e0] at os
        rw [e1] at asx
        rw [e2] at lm
        by_cases hw : W2 = 0
        · rw [if_pos hw] at os
          simp only [lp_wleap_0, wlSt, wx, wy, wz, stV, seval, IntWalk.iteOmega, IntWalk.toNatUp, reduceCtorEq, n1, n3, get_map, g1, g2, zD, srcV]
          refine st_call (cw1) rfl (.inl rfl) ?_
          simp only [get_map, g2, zD, n1, wx, wy, wz, stV, seval, IntWalk.iteOmega, IntWalk.toNatUp, reduceCtorEq]
          refine st_call (cw2) rfl (.inl rfl) ?_
          simp only [hw, srcV, wx, wy, wz, stV, seval, IntWalk.iteOmega, IntWalk.toNatUp, reduceCtorEq]
          refine lop_next 1 (by omega) (by omega) (ent_l (fun i => if i = 2 then 360 else i) ?_ ?_ rfl rfl) <;> simp only [wx, wex, wez, stV, seval, IntWalk.iteOmega, IntWalk.toNatUp, reduceCtorEq, lm, asx, os, n2]
        · rw [if_neg hw] at os
          simp only [lp_wleap_0, wlSt, wx, wy, wz, stV, seval, IntWalk.iteOmega, IntWalk.toNatUp, reduceCtorEq, n1, n3, get_map, g1, g2, zD, srcV]
          refine st_call (cw1) rfl (.inl rfl) ?_
          simp only [get_map, g2, zD, n1, wx, wy, wz, stV, seval, IntWalk.iteOmega, IntWalk.toNatUp, reduceCtorEq]
          refine st_call (cw2) rfl (.inl rfl) ?_
          simp only [hw, srcV, wx, wy, wz, stV, seval, IntWalk.iteOmega, IntWalk.toNatUp, reduceCtorEq]
          refine lop_next 1 (by omega) (by omega) (ent_l (fun i => if i = 2 then 360 else i) ?_ ?_ rfl rfl) <;> simp only [wx, wex, wez, stV, seval, IntWalk.iteOmega, IntWalk.toNatUp, reduceCtorEq, lm, asx, os, n2]
      · generalize hA : wlA tb (i + 1) = A0 at *
        generalize hO : wlO tb (i + 1) = O0 at *
        by_cases hw : W2 = 0
        · rw [if_pos hw] at os
          simp only [lp_wleap_0, wlSt, wx, wy, wz, stV, seval, IntWalk.iteOmega, IntWalk.toNatUp, reduceCtorEq, n1, n3, get_map, g1, g2, zD, srcV, hA, hO]
          refine st_call (cw1) rfl (.inl rfl) ?_
          simp only [get_map, g2, zD, n1, wx, wy, wz, stV, seval, IntWalk.iteOmega, IntWalk.toNatUp, reduceCtorEq]
          refine st_call (cw2) rfl (.inl rfl) ?_
          simp only [hw, srcV, mlen, asz, wx, wy, wz, stV, seval, IntWalk.iteOmega, IntWalk.toNatUp, reduceCtorEq]
          refine lop_next (i + 1 + 1) (by omega) (by omega) (ent_l (fun i => if i = 2 then 360 else i) ?_ ?_ rfl rfl) <;> simp only [wx, wex, wez, stV, seval, IntWalk.iteOmega, IntWalk.toNatUp, reduceCtorEq, lm, asx, os, n2, ll]
        · rw [if_neg hw] at os
          simp only [lp_wleap_0, wlSt, wx, wy, wz, stV, seval, IntWalk.iteOmega, IntWalk.toNatUp, reduceCtorEq, n1, n3, get_map, g1, g2, zD, srcV, hA, hO]
          refine st_call (cw1) rfl (.inl rfl) ?_
          simp only [get_map, g2, zD, n1, wx, wy, wz, stV, seval, IntWalk.iteOmega, IntWalk.toNatUp, reduceCtorEq]
          refine st_call (cw2) rfl (.inl rfl) ?_
          simp only [hw, srcV, mlen, asz, wx, wy, wz, stV, seval, IntWalk.iteOmega, IntWalk.toNatUp, reduceCtorEq]
          refine lop_next (i + 1 + 1) (by omega) (by omega) (ent_l (fun i => if i = 2 then 360 else i) ?_ ?_ rfl rfl) <;> simp only [wx, wex, wez, stV, seval, IntWalk.iteOmega, IntWalk.toNatUp, reduceCtorEq, lm, asx, os, n2, ll]
    · have eK : i = wlK tb := by omega
      have eT : wlT tb = wlL tb i := by rw [eK]; rfl
      rw [eT]
      rcases i with _ | i
      · have e0 : (wlL tb 0).map spD = [] := rfl
        have n0 : wlN 0 = 0 := rfl
        by_cases k1 : (tb.length : Int) > 1
        · exfalso; omega
        · have k2 : ¬ ((wlN 0 : Int) + 1 < (tb.length : Int)) := by omega
          simp only [lp_wleap_0, wlSt, wx, wy, wz, stV, seval, IntWalk.iteOmega, IntWalk.toNatUp, reduceCtorEq, k2, e0]
          exact ret_d1 (by simp only [wx, wy, wz, stV, seval, IntWalk.iteOmega, IntWalk.toNatUp, reduceCtorEq])
      · have tk : (wlL tb (i + 1)).take (i + 1) = wlL tb (i + 1) := List.take_of_length_le (by omega)
        by_cases k1 : (wlN (i + 1) : Int) + 1 < (tb.length : Int)
        · have k2 : ¬ ((wlN (i + 1) : Int) < 8) := by omega
          simp only [lp_wleap_0, wlSt, wx, wy, wz, stV, seval, IntWalk.iteOmega, IntWalk.toNatUp, reduceCtorEq, k1, k2]
          exact ret_d1 (by simp only [wx, wy, wz, stV, seval, IntWalk.iteOmega, IntWalk.toNatUp, reduceCtorEq, tk])
        · simp only [lp_wleap_0, wlSt, wx, wy, wz, stV, seval, IntWalk.iteOmega, IntWalk.toNatUp, reduceCtorEq, k1]
          exact ret_d1 (by simp only [wx, wy, wz, stV, seval, IntWalk.iteOmega, IntWalk.toNatUp, reduceCtorEq, tk])
/-! ### world.NearLeap -/
def nlX (l : List Lp) (v : Int) : Lp := lpG l (withinN (v.tdiv 4) (l.length : Int)).toNat
def nlB (l : List Lp) (v : Int) : Int := ((nlX l v).1 + (nlX l v).2) * 1048576
def nlV (l : List Lp) (v : Int) : Int :=
  if withinN (v.tdiv 16) 4 = 0 then nlB l v + withinN (v.tdiv 64) 5242880 - 3145728
  else if withinN (v.tdiv 16) 4 = 1 then nlB l v + withinN (v.tdiv 64) 7 - 3
  else if withinN (v.tdiv 16) 4 = 2 then nlB l v - 1048576 + withinN (v.tdiv 64) 7 - 3
  else nlB l v + withinN (v.tdiv 64) 94371840000 - 47185920000
def nlN (l : List Lp) (v : Int) : Int := if l.length > 0 ∧ withinN v 4 > 0 then nlV l v else 536870912 + withinN v 35184372088832
/-- Elements within bounds. -/
def elmB (l : List Lp) : Prop := ∀ i, i < l.length → 86400 ≤ (lpG l i).1 ∧ (lpG l i).1 ≤ 200000000 ∧ -64 ≤ (lpG l i).2 ∧ (lpG l i).2 ≤ 164
theorem nlX_ex {l : List Lp} (h : 0 < l.length) (v : Int) : ∃ J : Nat, J < l.length ∧ withinN (v.tdiv 4) (l.length : Int) = (J : Int) ∧ nlX l v = lpG l J := by
  have w := withinN_range (v.tdiv 4) (l.length : Int) (by omega)
  obtain ⟨J, hJ⟩ := Int.eq_ofNat_of_zero_le w.1
  refine ⟨J, by omega, hJ, ?_⟩
  unfold nlX; rw [hJ, Int.toNat_natCast]
/-- An instant that the laws draw is one that UTC knows. -/
theorem nlN_in {l : List Lp} (h : elmB l) (v : Int) : 536870912 ≤ nlN l v ∧ nlN l v ≤ 300000000000000 := by
  unfold nlN
  split
  · rename_i h0
    obtain ⟨J, j1, j2, j3⟩ := nlX_ex h0.1 v
    have := h J j1
    have w1 := withinN_range (v.tdiv 64) 5242880 (by decide)
    have w2 := withinN_range (v.tdiv 64) 7 (by decide)
    have w3 := withinN_range (v.tdiv 64) 94371840000 (by decide)
    unfold nlV nlB
    rw [j3]
    split
    · omega
    · split
      · omega
      · split <;> omega
  · have := withinN_range v 35184372088832 (by decide)
    omega
theorem tdv_in (a : Int) {b : Int} (h : 1 ≤ b) (h1 : -9223372036854775808 ≤ a) (h2 : a ≤ 9223372036854775807) : -9223372036854775808 ≤ a.tdiv b ∧ a.tdiv b ≤ 9223372036854775807 := by
  obtain ⟨f1, f2, f3, f4, f5⟩ := tdiv_facts a h
  have f0 : 0 < a.tmod b ∨ a.tmod b < 0 ∨ a.tmod b = 0 := by omega
  rcases f0 with k | k | k
  · have := f3 k; omega
  · have := f4 k; omega
  · have := f5 k
    rcases Int.le_total 0 a with h | h
    · have := this.1 h; omega
    · have := this.2 h; omega
def sf_wnear : SFn := ⟨2, 69,
  .seq (.reg [⟨(some 2), .box .roBox (.t 0), none⟩,
    ⟨(some 4), .mv (.k (.c (.d (.int .i64 0)))), none⟩])
  (.seq (.seq (.reg [⟨(some 7), .fieldAddr 1 (.t 2), none⟩,
    ⟨(some 8), .load .sc (.t 7), none⟩,
    ⟨(some 9), .len (.t 8), none⟩,
    ⟨(some 10), .bin .gtr (.t 9) (.k (.c (.d (.int .i64 0)))), none⟩,
    ⟨(some 11), .mv (.t 10), none⟩,
    ⟨(some 12), .mv (.t 1), (some (11, true))⟩,
    ⟨(some 13), .call 25 [(.t 12), (.k (.c (.d (.int .i64 4))))] none, (some (11, true))⟩,
    ⟨(some 14), .bin .gtr (.t 13) (.k (.c (.d (.int .i64 0)))), (some (11, true))⟩,
    ⟨(some 15), .pick (.t 11) (.t 14) (.k (.c (.d (.bool false)))), none⟩])
  (.cond (.t 15) (.seq (.reg [⟨(some 16), .fieldAddr 1 (.t 2), none⟩,
     ⟨(some 17), .load .sc (.t 16), none⟩,
     ⟨(some 18), .mv (.t 1), none⟩,
     ⟨(some 19), .bin .quo (.t 18) (.k (.c (.d (.int .i64 4)))), none⟩,
     ⟨(some 20), .fieldAddr 1 (.t 2), none⟩,
     ⟨(some 21), .load .sc (.t 20), none⟩,
     ⟨(some 22), .len (.t 21), none⟩,
     ⟨(some 23), .call 25 [(.t 19), (.t 22)] none, none⟩,
     ⟨(some 24), .idxSl 2 (.t 17) (.t 23), none⟩,
     ⟨(some 25), .load (.ag 2) (.t 24), none⟩,
     ⟨(some 5), .alloc [(.d (.int .i64 0)), (.d (.int .i64 0))], none⟩,
     ⟨none, .store (.ag 2) (.t 5) (.t 25), none⟩])
   (.seq (.reg [⟨(some 26), .fieldAddr 0 (.t 5), none⟩,
     ⟨(some 27), .load .sc (.t 26), none⟩,
     ⟨(some 28), .fieldAddr 1 (.t 5), none⟩,
     ⟨(some 29), .load .sc (.t 28), none⟩,
     ⟨(some 30), .bin .add (.t 27) (.t 29), none⟩,
     ⟨(some 31), .bin .shl (.t 30) (.k (.c (.d (.int .u64 20)))), none⟩,
     ⟨(some 6), .mv (.t 31), none⟩])
   (.seq (.seq (.reg [⟨(some 32), .mv (.t 1), none⟩,
     ⟨(some 33), .bin .quo (.t 32) (.k (.c (.d (.int .i64 16)))), none⟩,
     ⟨(some 34), .call 25 [(.t 33), (.k (.c (.d (.int .i64 4))))] none, none⟩])
   (.block 0 (.seq (.reg [⟨(some 36), .bin .eql (.t 34) (.k (.c (.d (.int .i64 0)))), none⟩,
      ⟨(some 35), .mv (.t 36), none⟩])
    (.cond (.t 35) (.seq (.reg [⟨(some 37), .mv (.t 6), none⟩,
       ⟨(some 38), .mv (.t 1), none⟩,
       ⟨(some 39), .bin .quo (.t 38) (.k (.c (.d (.int .i64 64)))), none⟩,
       ⟨(some 40), .call 25 [(.t 39), (.k (.c (.d (.int .i64 5242880))))] none, none⟩,
       ⟨(some 41), .bin .add (.t 37) (.t 40), none⟩,
       ⟨(some 42), .bin .sub (.t 41) (.k (.c (.d (.int .i64 3145728)))), none⟩,
       ⟨(some 4), .mv (.t 42), none⟩])
     (.ret))
     (.seq (.reg [⟨(some 44), .bin .eql (.t 34) (.k (.c (.d (.int .i64 1)))), none⟩,
       ⟨(some 43), .mv (.t 44), none⟩])
     (.cond (.t 43) (.seq (.reg [⟨(some 45), .mv (.t 6), none⟩,
        ⟨(some 46), .mv (.t 1), none⟩,
        ⟨(some 47), .bin .quo (.t 46) (.k (.c (.d (.int .i64 64)))), none⟩,
        ⟨(some 48), .call 25 [(.t 47), (.k (.c (.d (.int .i64 7))))] none, none⟩,
        ⟨(some 49), .bin .add (.t 45) (.t 48), none⟩,
        ⟨(some 50), .bin .sub (.t 49) (.k (.c (.d (.int .i64 3)))), none⟩,
        ⟨(some 4), .mv (.t 50), none⟩])
      (.ret))
      (.seq (.reg [⟨(some 52), .bin .eql (.t 34) (.k (.c (.d (.int .i64 2)))), none⟩,
        ⟨(some 51), .mv (.t 52), none⟩])
      (.cond (.t 51) (.seq (.reg [⟨(some 53), .mv (.t 6), none⟩,
         ⟨(some 54), .bin .sub (.t 53) (.k (.c (.d (.int .i64 1048576)))), none⟩,
         ⟨(some 55), .mv (.t 1), none⟩,
         ⟨(some 56), .bin .quo (.t 55) (.k (.c (.d (.int .i64 64)))), none⟩,
         ⟨(some 57), .call 25 [(.t 56), (.k (.c (.d (.int .i64 7))))] none, none⟩,
         ⟨(some 58), .bin .add (.t 54) (.t 57), none⟩,
         ⟨(some 59), .bin .sub (.t 58) (.k (.c (.d (.int .i64 3)))), none⟩,
         ⟨(some 4), .mv (.t 59), none⟩])
       (.ret))
       (.skip)))))))))
   (.seq (.reg [⟨(some 60), .mv (.t 6), none⟩,
     ⟨(some 61), .mv (.t 1), none⟩,
     ⟨(some 62), .bin .quo (.t 61) (.k (.c (.d (.int .i64 64)))), none⟩,
     ⟨(some 63), .call 25 [(.t 62), (.k (.c (.d (.int .i64 94371840000))))] none, none⟩,
     ⟨(some 64), .bin .add (.t 60) (.t 63), none⟩,
     ⟨(some 65), .bin .sub (.t 64) (.k (.c (.d (.int .i64 47185920000)))), none⟩,
     ⟨(some 4), .mv (.t 65), none⟩])
   (.ret)))))
   (.skip)))
  (.seq (.reg [⟨(some 66), .mv (.t 1), none⟩,
    ⟨(some 67), .call 25 [(.t 66), (.k (.c (.d (.int .i64 35184372088832))))] none, none⟩,
    ⟨(some 68), .bin .add (.k (.c (.d (.int .i64 536870912)))) (.t 67), none⟩,
    ⟨(some 4), .mv (.t 68), none⟩])
  (.ret))),
  [(4, none)]⟩
theorem cf_wnear : compFn Try.prog { own := [], comp := [], frz := [], nils := [] } Try.f31 = some sf_wnear := by kernel_rfl
set_option maxHeartbeats 800000 in
theorem wnear_c (G : Glob) (f : Int) (l : List Lp) (v : Int) (hl : l.length ≤ 9223372036854775807) (h : elmB l) (v1 : -9223372036854775808 ≤ v) (v2 : v ≤ 9223372036854775807) : Den Try.prog G 31 [lpD f l, .int .i64 v] (.w (.c (.d (.int .i64 (nlN l v))))) := by
  refine den_walk Try.func31 cf_wnear rfl rfl ?_
  have c0 := within_c G v 4 (by decide)
  have c1 := within_c G v 35184372088832 (by decide)
  have w0 := withinN_range v 4 (by decide)
  have w1 := withinN_range v 35184372088832 (by decide)
  unfold lpD nlN
  by_cases h0 : (l.length : Int) > 0
  · by_cases h1 : withinN v 4 > 0
    · rw [if_pos ⟨by omega, h1⟩]
      obtain ⟨J, j1, j2, j3⟩ := nlX_ex (l := l) (by omega) v
      have g := lpG_get j1
      have hb := h J j1
      have t4 := tdv_in v (b := 4) (by decide) v1 v2
      have t16 := tdv_in v (b := 16) (by decide) v1 v2
      have t64 := tdv_in v (b := 64) (by decide) v1 v2
      have c2 := within_c G (v.tdiv 4) (l.length : Int) (by omega)
      rw [j2] at c2
      have c3 := within_c G (v.tdiv 16) 4 (by decide)
      have w3 := withinN_range (v.tdiv 16) 4 (by decide)
      have c4 := within_c G (v.tdiv 64) 5242880 (by decide)
      have w4 := withinN_range (v.tdiv 64) 5242880 (by decide)
      have c5 := within_c G (v.tdiv 64) 7 (by decide)
      have w5 := withinN_range (v.tdiv 64) 7 (by decide)
      have c6 := within_c G (v.tdiv 64) 94371840000 (by decide)
      have w6 := withinN_range (v.tdiv 64) 94371840000 (by decide)
      unfold nlV nlB
      rw [j3]
      generalize q4 : v.tdiv 4 = V4 at *
      generalize q16 : v.tdiv 16 = V16 at *
      generalize q64 : v.tdiv 64 = V64 at *
      generalize withinN v 4 = W0 at *
      generalize withinN V16 4 = W3 at *
      generalize withinN V64 5242880 = W4 at *
      generalize withinN V64 7 = W5 at *
      generalize withinN V64 94371840000 = W6 at *
      generalize lpG l J = X at *
      obtain ⟨A, O⟩ := X
      simp only at hb ⊢
      by_cases k0 : W3 = 0
      · subst k0
        simp only [sf_wnear, putAll, wx, wy, wz, stV, seval, IntWalk.iteOmega, IntWalk.toNatUp, reduceCtorEq, eq_true h0]
        refine st_call (c0) rfl (.inl rfl) ?_
        simp only [eq_true h1, q4, wx, wy, wz, stV, seval, IntWalk.iteOmega, IntWalk.toNatUp, reduceCtorEq]
        refine st_call (c2) rfl (.inl rfl) ?_
        simp only [get_map, g, spD, bI64, q16, wx, wy, wz, stV, seval, IntWalk.iteOmega, IntWalk.toNatUp, reduceCtorEq]
        refine st_call (c3) rfl (.inl rfl) ?_
        simp only [q64, wx, wy, wz, stV, seval, IntWalk.iteOmega, IntWalk.toNatUp, reduceCtorEq]
        refine st_call (c4) rfl (.inl rfl) ?_
        simp only [wx, wy, wz, stV, seval, IntWalk.iteOmega, IntWalk.toNatUp, reduceCtorEq]
        exact ret_d1 (by simp only [wx, wy, wz, stV, seval, IntWalk.iteOmega, IntWalk.toNatUp, reduceCtorEq])
      · by_cases k1 : W3 = 1
        · subst k1
          simp only [sf_wnear, putAll, wx, wy, wz, stV, seval, IntWalk.iteOmega, IntWalk.toNatUp, reduceCtorEq, eq_true h0]
          refine st_call (c0) rfl (.inl rfl) ?_
          simp only [eq_true h1, q4, wx, wy, wz, stV, seval, IntWalk.iteOmega, IntWalk.toNatUp, reduceCtorEq]
          refine st_call (c2) rfl (.inl rfl) ?_
          simp only [get_map, g, spD, bI64, q16, wx, wy, wz, stV, seval, IntWalk.iteOmega, IntWalk.toNatUp, reduceCtorEq]
          refine st_call (c3) rfl (.inl rfl) ?_
          simp only [q64, wx, wy, wz, stV, seval, IntWalk.iteOmega, IntWalk.toNatUp, reduceCtorEq]
          refine st_call (c5) rfl (.inl rfl) ?_
          simp only [wx, wy, wz, stV, seval, IntWalk.iteOmega, IntWalk.toNatUp, reduceCtorEq]
          exact ret_d1 (by simp only [wx, wy, wz, stV, seval, IntWalk.iteOmega, IntWalk.toNatUp, reduceCtorEq])
        · by_cases k2 : W3 = 2
          · subst k2
            simp only [sf_wnear, putAll, wx, wy, wz, stV, seval, IntWalk.iteOmega, IntWalk.toNatUp, reduceCtorEq, eq_true h0]
            refine st_call (c0) rfl (.inl rfl) ?_
            simp only [eq_true h1, q4, wx, wy, wz, stV, seval, IntWalk.iteOmega, IntWalk.toNatUp, reduceCtorEq]
            refine st_call (c2) rfl (.inl rfl) ?_
            simp only [get_map, g, spD, bI64, q16, wx, wy, wz, stV, seval, IntWalk.iteOmega, IntWalk.toNatUp, reduceCtorEq]
            refine st_call (c3) rfl (.inl rfl) ?_
            simp only [q64, wx, wy, wz, stV, seval, IntWalk.iteOmega, IntWalk.toNatUp, reduceCtorEq]
            refine st_call (c5) rfl (.inl rfl) ?_
            simp only [wx, wy, wz, stV, seval, IntWalk.iteOmega, IntWalk.toNatUp, reduceCtorEq]
            exact ret_d1 (by simp only [wx, wy, wz, stV, seval, IntWalk.iteOmega, IntWalk.toNatUp, reduceCtorEq])
          · simp only [sf_wnear, putAll, wx, wy, wz, stV, seval, IntWalk.iteOmega, IntWalk.toNatUp, reduceCtorEq, eq_true h0]
            refine st_call (c0) rfl (.inl rfl) ?_
            simp only [eq_true h1, q4, wx, wy, wz, stV, seval, IntWalk.iteOmega, IntWalk.toNatUp, reduceCtorEq]
            refine st_call (c2) rfl (.inl rfl) ?_
            simp only [get_map, g, spD, bI64, q16, wx, wy, wz, stV, seval, IntWalk.iteOmega, IntWalk.toNatUp, reduceCtorEq]
            refine st_call (c3) rfl (.inl rfl) ?_
            simp only [k0, k1, k2, q64, wx, wy, wz, stV, seval, IntWalk.iteOmega, IntWalk.toNatUp, reduceCtorEq]
            refine st_call (c6) rfl (.inl rfl) ?_
            simp only [k0, k1, k2, wx, wy, wz, stV, seval, IntWalk.iteOmega, IntWalk.toNatUp, reduceCtorEq]
            exact ret_d1 (by simp only [wx, wy, wz, stV, seval, IntWalk.iteOmega, IntWalk.toNatUp, reduceCtorEq, k0, k1, k2])
    · rw [if_neg (fun k => h1 k.2)]
      generalize withinN v 4 = W0 at *
      generalize withinN v 35184372088832 = W1 at *
      simp only [sf_wnear, putAll, wx, wy, wz, stV, seval, IntWalk.iteOmega, IntWalk.toNatUp, reduceCtorEq, eq_true h0]
      refine st_call (c0) rfl (.inl rfl) ?_
      simp only [eq_false h1, wx, wy, wz, stV, seval, IntWalk.iteOmega, IntWalk.toNatUp, reduceCtorEq]
      refine st_call (c1) rfl (.inl rfl) ?_
      simp only [wx, wy, wz, stV, seval, IntWalk.iteOmega, IntWalk.toNatUp, reduceCtorEq]
      exact ret_d1 (by simp only [wx, wy, wz, stV, seval, IntWalk.iteOmega, IntWalk.toNatUp, reduceCtorEq])
  · rw [if_neg (fun k => h0 (by omega))]
    generalize withinN v 35184372088832 = W1 at *
    simp only [sf_wnear, putAll, wx, wy, wz, stV, seval, IntWalk.iteOmega, IntWalk.toNatUp, reduceCtorEq, eq_false h0]
    refine st_call (c1) rfl (.inl rfl) ?_
    simp only [wx, wy, wz, stV, seval, IntWalk.iteOmega, IntWalk.toNatUp, reduceCtorEq]
    exact ret_d1 (by simp only [wx, wy, wz, stV, seval, IntWalk.iteOmega, IntWalk.toNatUp, reduceCtorEq])
end Go.Proofs.Ytjebhdadegfbdaa
set_option linter.unusedVariables false
set_option linter.unusedSimpArgs false
namespace Go.Proofs.Ytjebhdadegfbdaa
open Go.RowKit

end Go.Proofs.Ytjebhdadegfbdaa
set_option linter.unusedVariables false
set_option linter.unusedSimpArgs false
namespace Go.Proofs.Ytjebhdadegfbdaa
open Go.RowKit

theorem rd_ex {f : Int} {l : List Lp} (h : okB f l = true) {T : Int} (h1 : 512 ≤ T) (h2 : T ≤ 137438953472) : ∃ s b, IsR f l T s b ∧ 300 ≤ s ∧ s ≤ 137438953600 := by
  obtain ⟨s, b, h3, h4⟩ := isR_ex h T
  have o := off_in h s
  have t := h4
  unfold taiS taiN bI at t
  have hs : 300 ≤ s ∧ s ≤ 137438953600 := by cases b <;> simp at t <;> omega
  exact ⟨s, b, ⟨sec_t (by omega), h3, h4⟩, hs⟩
/-- The next second of TAI is shown later. -/
theorem rd_next {f : Int} {l : List Lp} (h : okB f l = true) {T s s' : Int} {b b' : Bool} (k : IsR f l T s b) (k' : IsR f l (T + 1) s' b') : s < s' ∨ (s' = s ∧ b = false ∧ b' = true) := by
  obtain ⟨a1, a2⟩ := isR_at h k
  obtain ⟨c1, c2⟩ := isR_at h k'
  rcases Int.lt_trichotomy s s' with e | e | e
  · exact .inl e
  · subst e
    right
    have t := k.tai
    have t' := k'.tai
    unfold taiS bI at t t'
    refine ⟨rfl, ?_⟩
    cases b <;> cases b' <;> simp at t t' ⊢ <;> omega
  · have := tai_mono (okB_leap h) (show s' + 1 ≤ s by omega); omega
theorem wl_el (tb : List Int) : elmB (wlT tb) := by
  intro i hi
  have hk : wlK tb ≤ 4 := Nat.min_le_left _ _
  unfold wlT at hi ⊢
  rw [wlL_len] at hi
  rw [wlL_g tb _ i hi]
  have a := wlA_b tb (i + 1)
  have o := wlO_b tb (i + 1)
  simp only
  omega
theorem wl_len (tb : List Int) : (wlT tb).length ≤ 4 := by
  unfold wlT; rw [wlL_len]; exact Nat.min_le_left _ _
end Go.Proofs.Ytjebhdadegfbdaa
set_option linter.unusedVariables false
set_option linter.unusedSimpArgs false
namespace Go.Proofs.Ytjebhdadegfbdaa
open Go.RowKit

theorem getS {l : List Spn} {j : Nat} (h : j < l.length) : l[j]? = some (l.getD j (0, 0)) := by
  rw [List.getD_eq_getElem?_getD, List.getElem?_eq_getElem h]; rfl
theorem getS_mem {l : List Spn} {j : Nat} (h : j < l.length) : l.getD j (0, 0) ∈ l := by
  rw [List.getD_eq_getElem?_getD, List.getElem?_eq_getElem h]; exact List.getElem_mem h
theorem takeS {l : List Spn} {j : Nat} (h : j < l.length) : l.take (j + 1) = l.take j ++ [l.getD j (0, 0)] := by
  rw [List.take_succ_eq_append_getElem h, List.getD_eq_getElem?_getD, List.getElem?_eq_getElem h]; rfl
def sf_wspan : SFn := ⟨2, 15,
  .seq (.reg [⟨(some 4), .alloc [(.d (.int .i64 0)), (.d (.int .i64 0))], none⟩])
  (.seq (.reg [⟨(some 6), .mv (.t 0), none⟩,
    ⟨(some 7), .call 25 [(.t 6), (.k (.c (.d (.int .i64 2000))))] none, none⟩,
    ⟨(some 8), .bin .sub (.t 7) (.k (.c (.d (.int .i64 1000)))), none⟩,
    ⟨(some 5), .mv (.t 8), none⟩])
  (.seq (.reg [⟨(some 9), .mv (.t 5), none⟩,
    ⟨(some 10), .mv (.t 5), none⟩,
    ⟨(some 11), .mv (.t 1), none⟩,
    ⟨(some 12), .call 25 [(.t 11), (.k (.c (.d (.int .i64 500))))] none, none⟩,
    ⟨(some 13), .bin .add (.t 10) (.t 12), none⟩,
    ⟨(some 14), .build [(.d (.int .i64 0)), (.d (.int .i64 0))] [(0, 1, (.t 9)), (1, 1, (.t 13))], none⟩,
    ⟨none, .store (.ag 2) (.t 4) (.t 14), none⟩])
  (.ret))),
  [(4, (some (.ag 2)))]⟩
theorem cf_wspan : compFn Try.prog { own := [], comp := [], frz := [], nils := [] } Try.f27 = some sf_wspan := by kernel_rfl
theorem wspan_c (G : Glob) (a b : Int) : Den Try.prog G 27 [.int .i64 a, .int .i64 b] (.w (.c (.d (.agg [.int .i64 (withinN a 2000 - 1000), .int .i64 (withinN a 2000 - 1000 + withinN b 500)])))) := by
  refine den_walk Try.func27 cf_wspan rfl rfl ?_
  have h1 := withinN_range a 2000 (by decide)
  have h2 := withinN_range b 500 (by decide)
  have c1 := within_c G a 2000 (by decide)
  have c2 := within_c G b 500 (by decide)
  simp only [sf_wspan, putAll, wx, wy, wz, stV, seval, IntWalk.iteOmega, IntWalk.toNatUp, reduceCtorEq]
  refine st_call (c1) rfl (.inl rfl) ?_
  simp only [wx, wy, wz, stV, seval, IntWalk.iteOmega, IntWalk.toNatUp, reduceCtorEq]
  refine st_call (c2) rfl (.inl rfl) ?_
  simp only [wx, wy, wz, stV, seval, IntWalk.iteOmega, IntWalk.toNatUp, reduceCtorEq]
  exact ret_d1 (by simp only [wx, wy, wz, stV, seval, IntWalk.iteOmega, IntWalk.toNatUp, reduceCtorEq])
/-! ### Common -/
theorem comF_s (p q : Spn) : comF (some p) q = if meetB p q = true then some (meetV p q) else none := rfl
def cmV (o : Option Spn) : Spn := o.getD (0, 0)
def comT (l : List Spn) (i : Nat) : Option Spn := comL (l.take i)
theorem comT_succ {l : List Spn} {i : Nat} (h0 : 1 ≤ i) (h : i < l.length) : comT l (i + 1) = comF (comT l i) (l.getD i (0, 0)) := by
  unfold comT
  rw [takeS h]
  cases hl : l.take i with
  | nil =>
    have := congrArg List.length hl
    rw [List.length_take, List.length_nil] at this
    omega
  | cons p r =>
    show (if okP p = true then (r ++ [_]).foldl comF (some p) else none) = comF (if okP p = true then r.foldl comF (some p) else none) _
    split
    · rw [List.foldl_append]; rfl
    · rfl
theorem comT_none {l : List Spn} {i : Nat} (h0 : 1 ≤ i) (h : comT l i = none) : comL l = none := by
  have key : ∀ n, i + n ≤ l.length → comT l (i + n) = none := by
    intro n
    induction n with
    | zero => intro _; exact h
    | succ n ih =>
      intro hn
      have := comT_succ (l := l) (i := i + n) (by omega) (by omega)
      rw [ih (by omega)] at this
      exact this
  rcases Nat.lt_or_ge i l.length with hi | hi
  · have := key (l.length - i) (by omega)
    rw [show i + (l.length - i) = l.length by omega] at this
    unfold comT at this
    rwa [List.take_length] at this
  · unfold comT at h
    rwa [List.take_of_length_le hi] at h
def cmoSt (l : List Spn) (i : Nat) : St := ⟨ofL [(0, .w (.c (.d (.sl (l.map spD))))), (2, .w (.c (.ptr 1 1 0 0))), (4, .w (.c (.ptr 2 1 0 0))), (5, .w (.c (.d (.int .i64 (i : Int)))))],
  hL [(1, .box [.d (.int .i64 0), .d (.int .i64 0)]), (2, .box [.d (.int .i64 (cmV (comT l i)).1), .d (.int .i64 (cmV (comT l i)).2)])], uL [1, 2]⟩
/-! ### Equal lists -/
def ssSt (u v : List Spn) (i : Nat) : St := ⟨ofL [(0, .w (.c (.d (.sl (u.map spD))))), (1, .w (.c (.d (.sl (v.map spD))))), (5, .w (.c (.d (.int .i64 (i : Int)))))], hL [], uL []⟩
end Go.Proofs.Ytjebhdadegfbdaa
set_option linter.unusedVariables false
set_option linter.unusedSimpArgs false
namespace Go.Proofs.Ytjebhdadegfbdaa
open Go.RowKit

/-! ### Are all valid? -/
def allOk (l : List Spn) : Bool := l.all okP
def unaSt (l : List Spn) (i : Nat) : St := ⟨ofL [(0, .w (.c (.d (.sl (l.map spD))))), (4, .w (.c (.d (.int .i64 (i : Int)))))], hL [], uL []⟩
theorem allOk_f {l : List Spn} {i : Nat} (h : i < l.length) (hv : okP (l.getD i (0, 0)) = false) : allOk l = false := by
  unfold allOk
  rw [List.all_eq_false]
  exact ⟨l.getD i (0, 0), getS_mem h, by rw [hv]; simp⟩
theorem allOk_take {l : List Spn} {i : Nat} (h : i < l.length) : allOk (l.take (i + 1)) = (allOk (l.take i) && okP (l.getD i (0, 0))) := by
  unfold allOk
  rw [takeS h, List.all_append]
  simp
def uniEr (l : List Spn) : Int := if allOk l = true then (if l.length ≤ 64 then 0 else 8) else 3
def uniLs (l : List Spn) : List Spn := if allOk l = true ∧ l.length ≤ 64 then unionL l else []
/-! ### The least -/
def unbSt (out : List Spn) (r : List Spn) (i : Nat) : St := ⟨ofL [(5, .w (.c (.d (.sl (r.map spD))))), (6, .w (.c (.own 1 2 0 out.length))), (7, .w (.c (.d (.int .i64 (leastN r i : Int))))), (8, .w (.c (.d (.int .i64 (i : Int)))))],
  hL [(1, .row 2 (out.map spD))], uL [1]⟩
/-! ### A pass -/
def scnN (r : List Spn) (h : Int) (i : Nat) : Pas := (r.take i).foldl scanS ⟨h, false, []⟩
theorem scnN_succ {r : List Spn} {h : Int} {i : Nat} (hi : i < r.length) : scnN r h (i + 1) = scanS (scnN r h i) (r.getD i (0, 0)) := by
  unfold scnN
  rw [takeS hi, List.foldl_append]; rfl
theorem scnN_all (r : List Spn) (h : Int) : scnN r h r.length = scanU r h := by
  unfold scnN scanU
  rw [List.take_length]
def uncSt (out : List Spn) (lo : Int) (r : List Spn) (h : Int) (i : Nat) : St := ⟨ofL [(5, .w (.c (.d (.sl (r.map spD))))), (6, .w (.c (.own 1 2 0 out.length))), (9, .w (.c (.ptr 2 1 0 0))), (10, .w (.c (.d (.bool (scnN r h i).again)))), (11, .w (.c (.own 3 2 0 (scnN r h i).left.length))), (12, .w (.c (.d (.int .i64 (i : Int)))))],
  hL [(1, .row 2 (out.map spD)), (2, .box [.d (.int .i64 lo), .d (.int .i64 (scnN r h i).hi)]), (3, .row 2 ((scnN r h i).left.map spD))], uL [1, 2, 3]⟩
/-! ### Passes -/
def undSt (out : List Spn) (lo h : Int) (r : List Spn) (k : Nat) : St := ⟨ofL [(5, .w (.c (.d (.sl ((passN h r k).left.map spD))))), (6, .w (.c (.own 1 2 0 out.length))), (9, .w (.c (.ptr 2 1 0 0))), (10, .w (.c (.d (.bool (passN h r k).again))))],
  hL [(1, .row 2 (out.map spD)), (2, .box [.d (.int .i64 lo), .d (.int .i64 (passN h r k).hi)])], uL [1, 2]⟩
/-! ### Spans taken -/
def uneSt (l : List Spn) (k : Nat) : St := ⟨ofL [(5, .w (.c (.d (.sl ((unjN l k).rest.map spD))))), (6, .w (.c (.own 1 2 0 (unjN l k).out.length)))], hL [(1, .row 2 ((unjN l k).out.map spD))], uL [1]⟩
theorem allOk_le {l : List Spn} (h : allOk l = true) : ∀ p ∈ l, -1152921504606846976 ≤ p.1 ∧ p.2 ≤ 1152921504606846976 ∧ p.1 ≤ p.2 := by
  unfold allOk at h
  rw [List.all_eq_true] at h
  exact fun p hp => okP_t (h p hp)
theorem scn_in {L M h : Int} {r : List Spn} (h1 : L ≤ h) (h2 : h ≤ M) (hr : ∀ p ∈ r, L ≤ p.1 ∧ p.1 ≤ p.2 ∧ p.2 ≤ M) (i : Nat) : L ≤ (scnN r h i).hi ∧ (scnN r h i).hi ≤ M ∧ (scnN r h i).left.length ≤ r.length := by
  have hr' : ∀ p ∈ r.take i, L ≤ p.1 ∧ p.1 ≤ p.2 := fun p hp => ⟨(hr p (List.mem_of_mem_take hp)).1, (hr p (List.mem_of_mem_take hp)).2.1⟩
  obtain ⟨a1, a2, _, _, _, a6⟩ := scan_spec L (r.take i) ⟨h, false, []⟩ h1 hr'
  have e : (r.take i).foldl scanS ⟨h, false, []⟩ = scnN r h i := rfl
  rw [e] at a1 a2 a6
  dsimp only at a1
  have hlo : L ≤ (scnN r h i).hi := Int.le_trans h1 a1
  refine ⟨hlo, ?_, ?_⟩
  · rcases (a6 _).1 (.inl ⟨hlo, Int.le_refl _⟩) with k | k | ⟨p, hp, k⟩
    · exact Int.le_trans k.2 h2
    · exact absurd k (inU_nil _)
    · exact Int.le_trans k.2 (hr p (List.mem_of_mem_take hp)).2.2
  · rw [List.length_take] at a2
    simp only [List.length_nil] at a2
    omega
theorem pas_in {L M h : Int} {r : List Spn} (h1 : L ≤ h) (h2 : h ≤ M) (hr : ∀ p ∈ r, L ≤ p.1 ∧ p.1 ≤ p.2 ∧ p.2 ≤ M) (k : Nat) : L ≤ (passN h r k).hi ∧ (passN h r k).hi ≤ M ∧ (passN h r k).left.length ≤ r.length ∧ (∀ p ∈ (passN h r k).left, L ≤ p.1 ∧ p.1 ≤ p.2 ∧ p.2 ≤ M) := by
  have ko := passN_ok h1 (fun p hp => ⟨(hr p hp).1, (hr p hp).2.1⟩) k
  refine ⟨ko.lo, ?_, ko.len, fun p hp => hr p (ko.mem p hp)⟩
  rcases (ko.cov _).1 (.inl ⟨ko.lo, Int.le_refl _⟩) with k | ⟨p, hp, k⟩
  · exact Int.le_trans k.2 h2
  · exact Int.le_trans k.2 (hr p hp).2.2
theorem scn_pass (h : Int) (r : List Spn) (k : Nat) : scnN (passN h r k).left (passN h r k).hi (passN h r k).left.length = passN h r (k + 1) := scnN_all _ _
theorem scanS_j {s : Pas} {p : Spn} (h : p.1 ≤ s.hi + 1) : scanS s p = ⟨max s.hi p.2, s.again || decide (p.2 > s.hi), s.left⟩ := if_pos h
theorem scanS_n {s : Pas} {p : Spn} (h : ¬ p.1 ≤ s.hi + 1) : scanS s p = ⟨s.hi, s.again, s.left ++ [p]⟩ := if_neg h
end Go.Proofs.Ytjebhdadegfbdaa
set_option linter.unusedVariables false
set_option linter.unusedSimpArgs false
namespace Go.Proofs.Ytjebhdadegfbdaa
open Go.RowKit

def sf_isv : SFn := ⟨1, 18,
  .seq (.reg [⟨(some 1), .box .roBox (.t 0), none⟩,
    ⟨(some 2), .mv (.k (.c (.d (.bool false)))), none⟩])
  (.seq (.reg [⟨(some 3), .fieldAddr 0 (.t 1), none⟩,
    ⟨(some 4), .load .sc (.t 3), none⟩,
    ⟨(some 5), .call 71 [(.t 4)] none, none⟩,
    ⟨(some 6), .mv (.t 5), none⟩,
    ⟨(some 7), .fieldAddr 1 (.t 1), (some (6, true))⟩,
    ⟨(some 8), .load .sc (.t 7), (some (6, true))⟩,
    ⟨(some 9), .call 71 [(.t 8)] none, (some (6, true))⟩,
    ⟨(some 10), .pick (.t 6) (.t 9) (.k (.c (.d (.bool false)))), none⟩,
    ⟨(some 11), .mv (.t 10), none⟩,
    ⟨(some 12), .fieldAddr 0 (.t 1), (some (11, true))⟩,
    ⟨(some 13), .load .sc (.t 12), (some (11, true))⟩,
    ⟨(some 14), .fieldAddr 1 (.t 1), (some (11, true))⟩,
    ⟨(some 15), .load .sc (.t 14), (some (11, true))⟩,
    ⟨(some 16), .bin .leq (.t 13) (.t 15), (some (11, true))⟩,
    ⟨(some 17), .pick (.t 11) (.t 16) (.k (.c (.d (.bool false)))), none⟩,
    ⟨(some 2), .mv (.t 17), none⟩])
  (.ret)),
  [(2, none)]⟩
theorem cf_isv : compFn Try.prog { own := [], comp := [], frz := [], nils := [] } Try.f76 = some sf_isv := by kernel_rfl
theorem isv_c (G : Glob) (a b : Int) : Den Try.prog G 76 [.agg [.int .i64 a, .int .i64 b]] (.w (.c (.d (.bool (okP (a, b)))))) := by
  refine den_walk Try.func76 cf_isv rfl rfl ?_
  rw [okP_v]
  cases h1 : valT a
  · simp only [sf_isv, putAll, wx, wy, wz, stV, seval, IntWalk.iteOmega, IntWalk.toNatUp, reduceCtorEq]
    refine st_call (val_c G a) rfl (.inl rfl) ?_
    simp only [h1, wx, wy, wz, stV, seval, IntWalk.iteOmega, IntWalk.toNatUp, reduceCtorEq]
    exact ret_d1 (by simp only [wx, wy, wz, stV, seval, IntWalk.iteOmega, IntWalk.toNatUp, reduceCtorEq])
  · cases h2 : valT b
    · simp only [sf_isv, putAll, wx, wy, wz, stV, seval, IntWalk.iteOmega, IntWalk.toNatUp, reduceCtorEq]
      refine st_call (val_c G a) rfl (.inl rfl) ?_
      simp only [h1, wx, wy, wz, stV, seval, IntWalk.iteOmega, IntWalk.toNatUp, reduceCtorEq]
      refine st_call (val_c G b) rfl (.inl rfl) ?_
      simp only [h2, wx, wy, wz, stV, seval, IntWalk.iteOmega, IntWalk.toNatUp, reduceCtorEq]
      exact ret_d1 (by simp only [wx, wy, wz, stV, seval, IntWalk.iteOmega, IntWalk.toNatUp, reduceCtorEq])
    · by_cases h3 : a ≤ b
      · rw [decide_eq_true h3]
        simp only [sf_isv, putAll, wx, wy, wz, stV, seval, IntWalk.iteOmega, IntWalk.toNatUp, reduceCtorEq]
        refine st_call (val_c G a) rfl (.inl rfl) ?_
        simp only [h1, wx, wy, wz, stV, seval, IntWalk.iteOmega, IntWalk.toNatUp, reduceCtorEq]
        refine st_call (val_c G b) rfl (.inl rfl) ?_
        simp only [h2, wx, wy, wz, stV, seval, IntWalk.iteOmega, IntWalk.toNatUp, reduceCtorEq]
        exact ret_d1 (by simp only [wx, wy, wz, stV, seval, IntWalk.iteOmega, IntWalk.toNatUp, reduceCtorEq])
      · rw [decide_eq_false h3]
        simp only [sf_isv, putAll, wx, wy, wz, stV, seval, IntWalk.iteOmega, IntWalk.toNatUp, reduceCtorEq]
        refine st_call (val_c G a) rfl (.inl rfl) ?_
        simp only [h1, wx, wy, wz, stV, seval, IntWalk.iteOmega, IntWalk.toNatUp, reduceCtorEq]
        refine st_call (val_c G b) rfl (.inl rfl) ?_
        simp only [h2, wx, wy, wz, stV, seval, IntWalk.iteOmega, IntWalk.toNatUp, reduceCtorEq]
        exact ret_d1 (by simp only [wx, wy, wz, stV, seval, IntWalk.iteOmega, IntWalk.toNatUp, reduceCtorEq])
def sf_ihld : SFn := ⟨2, 19,
  .seq (.reg [⟨(some 2), .box .roBox (.t 0), none⟩,
    ⟨(some 4), .mv (.k (.c (.d (.bool false)))), none⟩])
  (.seq (.reg [⟨(some 5), .load (.ag 2) (.t 2), none⟩,
    ⟨(some 6), .call 76 [(.t 5)] none, none⟩,
    ⟨(some 7), .mv (.t 6), none⟩,
    ⟨(some 8), .fieldAddr 0 (.t 2), (some (7, true))⟩,
    ⟨(some 9), .load .sc (.t 8), (some (7, true))⟩,
    ⟨(some 10), .mv (.t 1), (some (7, true))⟩,
    ⟨(some 11), .bin .leq (.t 9) (.t 10), (some (7, true))⟩,
    ⟨(some 12), .pick (.t 7) (.t 11) (.k (.c (.d (.bool false)))), none⟩,
    ⟨(some 13), .mv (.t 12), none⟩,
    ⟨(some 14), .mv (.t 1), (some (13, true))⟩,
    ⟨(some 15), .fieldAddr 1 (.t 2), (some (13, true))⟩,
    ⟨(some 16), .load .sc (.t 15), (some (13, true))⟩,
    ⟨(some 17), .bin .leq (.t 14) (.t 16), (some (13, true))⟩,
    ⟨(some 18), .pick (.t 13) (.t 17) (.k (.c (.d (.bool false)))), none⟩,
    ⟨(some 4), .mv (.t 18), none⟩])
  (.ret)),
  [(4, none)]⟩
theorem cf_ihld : compFn Try.prog { own := [], comp := [], frz := [], nils := [] } Try.f41 = some sf_ihld := by kernel_rfl
theorem ihld_c (G : Glob) (a b t : Int) : Den Try.prog G 41 [.agg [.int .i64 a, .int .i64 b], .int .i64 t] (.w (.c (.d (.bool (hldB a b t))))) := by
  refine den_walk Try.func41 cf_ihld rfl rfl ?_
  unfold hldB
  cases hv : okP (a, b)
  · simp only [sf_ihld, putAll, wx, wy, wz, stV, seval, IntWalk.iteOmega, IntWalk.toNatUp, reduceCtorEq]
    refine st_call (isv_c G a b) rfl (.inl rfl) ?_
    simp only [hv, wx, wy, wz, stV, seval, IntWalk.iteOmega, IntWalk.toNatUp, reduceCtorEq]
    exact ret_d1 (by simp only [wx, wy, wz, stV, seval, IntWalk.iteOmega, IntWalk.toNatUp, reduceCtorEq])
  · by_cases h1 : a ≤ t
    · by_cases h2 : t ≤ b
      · rw [decide_eq_true ⟨h1, h2⟩]
        simp only [sf_ihld, putAll, wx, wy, wz, stV, seval, IntWalk.iteOmega, IntWalk.toNatUp, reduceCtorEq]
        refine st_call (isv_c G a b) rfl (.inl rfl) ?_
        simp only [hv, wx, wy, wz, stV, seval, IntWalk.iteOmega, IntWalk.toNatUp, reduceCtorEq]
        exact ret_d1 (by simp only [wx, wy, wz, stV, seval, IntWalk.iteOmega, IntWalk.toNatUp, reduceCtorEq])
      · rw [decide_eq_false (by omega)]
        simp only [sf_ihld, putAll, wx, wy, wz, stV, seval, IntWalk.iteOmega, IntWalk.toNatUp, reduceCtorEq]
        refine st_call (isv_c G a b) rfl (.inl rfl) ?_
        simp only [hv, wx, wy, wz, stV, seval, IntWalk.iteOmega, IntWalk.toNatUp, reduceCtorEq]
        exact ret_d1 (by simp only [wx, wy, wz, stV, seval, IntWalk.iteOmega, IntWalk.toNatUp, reduceCtorEq])
    · rw [decide_eq_false (by omega)]
      simp only [sf_ihld, putAll, wx, wy, wz, stV, seval, IntWalk.iteOmega, IntWalk.toNatUp, reduceCtorEq]
      refine st_call (isv_c G a b) rfl (.inl rfl) ?_
      simp only [hv, wx, wy, wz, stV, seval, IntWalk.iteOmega, IntWalk.toNatUp, reduceCtorEq]
      exact ret_d1 (by simp only [wx, wy, wz, stV, seval, IntWalk.iteOmega, IntWalk.toNatUp, reduceCtorEq])
def sf_iwid : SFn := ⟨1, 11,
  .seq (.reg [⟨(some 1), .box .roBox (.t 0), none⟩,
    ⟨(some 2), .mv (.k (.c (.d (.int .i64 0)))), none⟩])
  (.seq (.seq (.reg [⟨(some 3), .load (.ag 2) (.t 1), none⟩,
    ⟨(some 4), .call 76 [(.t 3)] none, none⟩,
    ⟨(some 5), .un .not (.t 4), none⟩])
  (.cond (.t 5) (.seq (.reg [⟨(some 2), .mv (.k (.c (.d (.int .i64 0)))), none⟩])
   (.ret))
   (.skip)))
  (.seq (.reg [⟨(some 6), .fieldAddr 1 (.t 1), none⟩,
    ⟨(some 7), .load .sc (.t 6), none⟩,
    ⟨(some 8), .fieldAddr 0 (.t 1), none⟩,
    ⟨(some 9), .load .sc (.t 8), none⟩,
    ⟨(some 10), .bin .sub (.t 7) (.t 9), none⟩,
    ⟨(some 2), .mv (.t 10), none⟩])
  (.ret))),
  [(2, none)]⟩
theorem cf_iwid : compFn Try.prog { own := [], comp := [], frz := [], nils := [] } Try.f42 = some sf_iwid := by kernel_rfl
theorem iwid_c (G : Glob) (a b : Int) : Den Try.prog G 42 [.agg [.int .i64 a, .int .i64 b]] (.w (.c (.d (.int .i64 (widV a b))))) := by
  refine den_walk Try.func42 cf_iwid rfl rfl ?_
  unfold widV
  cases hv : okP (a, b)
  · simp only [sf_iwid, putAll, wx, wy, wz, stV, seval, IntWalk.iteOmega, IntWalk.toNatUp, reduceCtorEq]
    refine st_call (isv_c G a b) rfl (.inl rfl) ?_
    simp only [hv, wx, wy, wz, stV, seval, IntWalk.iteOmega, IntWalk.toNatUp, reduceCtorEq]
    exact ret_d1 (by simp only [wx, wy, wz, stV, seval, IntWalk.iteOmega, IntWalk.toNatUp, reduceCtorEq])
  · obtain ⟨h1, h2, h3⟩ := okP_i hv
    simp only [sf_iwid, putAll, wx, wy, wz, stV, seval, IntWalk.iteOmega, IntWalk.toNatUp, reduceCtorEq]
    refine st_call (isv_c G a b) rfl (.inl rfl) ?_
    simp only [hv, wx, wy, wz, stV, seval, IntWalk.iteOmega, IntWalk.toNatUp, reduceCtorEq]
    exact ret_d1 (by simp only [wx, wy, wz, stV, seval, IntWalk.iteOmega, IntWalk.toNatUp, reduceCtorEq])
/-! ### What is made of spans, if they are valid -/
def vldSt (l : List Spn) (i : Nat) : St := ⟨ofL [(5, .w (.c (.d (.sl (l.map spD))))), (6, .w (.c (.d (.int .i64 (l.length : Int))))), (7, .w (.c (.d (.int .i64 (i : Int)))))], hL [], uL []⟩
def lp_vls_0 : SCode :=
  .seq (.reg [⟨(some 8), .bin .lss (.t 7) (.t 6), none⟩])
  (.seq (.cond (.t 8) (.skip)
   (.exit 0))
  (.seq (.block 1 (.seq (.reg [⟨(some 9), .idxSl 2 (.t 5) (.t 7), none⟩,
     ⟨(some 10), .load (.ag 2) (.t 9), none⟩,
     ⟨(some 4), .alloc [(.d (.int .i64 0)), (.d (.int .i64 0))], none⟩,
     ⟨none, .store (.ag 2) (.t 4) (.t 10), none⟩])
   (.seq (.reg [⟨(some 11), .load (.ag 2) (.t 4), none⟩,
     ⟨(some 12), .call 76 [(.t 11)] none, none⟩,
     ⟨(some 13), .un .not (.t 12), none⟩])
   (.cond (.t 13) (.seq (.reg [⟨(some 2), .mv (.k (.c (.d (.bool false)))), none⟩])
    (.ret))
    (.skip)))))
  (.reg [⟨(some 14), .bin .add (.t 7) (.k (.c (.d (.int .i64 1)))), none⟩,
    ⟨(some 7), .mv (.t 14), none⟩])))
def sf_vls : SFn := ⟨1, 15,
  .seq (.reg [⟨(some 2), .mv (.k (.c (.d (.bool false)))), none⟩])
  (.seq (.seq (.reg [⟨(some 5), .mv (.t 0), none⟩,
    ⟨(some 6), .len (.t 5), none⟩,
    ⟨(some 7), .mv (.k (.c (.d (.int .i64 0)))), none⟩])
  (.block 0 (.loop lp_vls_0)))
  (.seq (.reg [⟨(some 2), .mv (.k (.c (.d (.bool true)))), none⟩])
  (.ret))),
  [(2, none)]⟩
theorem cf_vls : compFn Try.prog { own := [], comp := [], frz := [], nils := [] } Try.f95 = some sf_vls := by kernel_rfl
theorem vls_c (G : Glob) (l : List Spn) (hl : l.length ≤ 9223372036854775807) : Den Try.prog G 95 [.sl (l.map spD)] (.w (.c (.d (.bool (allOk l))))) := by
  refine den_walk Try.func95 cf_vls rfl rfl ?_
  simp only [sf_vls, putAll, wx, wy, wz, stV, seval, IntWalk.iteOmega, IntWalk.toNatUp, reduceCtorEq]
  refine loop_st (vldSt l) (fun i => l.length - i) (fun i => i ≤ l.length ∧ allOk (l.take i) = true) 0 ⟨Nat.zero_le _, rfl⟩ ?_ ?_
  · refine ent_l (fun i => i) ?_ ?_ rfl rfl <;> simp only [wx, wex, wez, stV, seval, IntWalk.iteOmega, IntWalk.toNatUp, reduceCtorEq]
  · rintro i ⟨hi, hok⟩
    by_cases hlt : i < l.length
    · have g := getS hlt
      have c := isv_c G (l.getD i (0, 0)).1 (l.getD i (0, 0)).2
      have ht := allOk_take hlt
      rw [hok, Bool.true_and] at ht
      cases hv : okP (l.getD i (0, 0))
      · have hv' : okP ((l.getD i (0, 0)).1, (l.getD i (0, 0)).2) = false := hv
        rw [hv'] at c
        rw [allOk_f hlt hv]
        simp only [lp_vls_0, vldSt, wx, wy, wz, stV, seval, IntWalk.iteOmega, IntWalk.toNatUp, reduceCtorEq, get_map, g, spD]
        refine st_call (c) rfl (.inl rfl) ?_
        simp only [wx, wy, wz, stV, seval, IntWalk.iteOmega, IntWalk.toNatUp, reduceCtorEq]
        exact ret_d1 (by simp only [wx, wy, wz, stV, seval, IntWalk.iteOmega, IntWalk.toNatUp, reduceCtorEq])
      · have hv' : okP ((l.getD i (0, 0)).1, (l.getD i (0, 0)).2) = true := hv
        rw [hv'] at c
        rw [hv] at ht
        simp only [lp_vls_0, vldSt, wx, wy, wz, stV, seval, IntWalk.iteOmega, IntWalk.toNatUp, reduceCtorEq, get_map, g, spD]
        refine st_call (c) rfl (.inl rfl) ?_
        simp only [wx, wy, wz, stV, seval, IntWalk.iteOmega, IntWalk.toNatUp, reduceCtorEq]
        refine lop_next (i + 1) (by omega) ⟨by omega, ht⟩ (ent_l (fun i => i) ?_ ?_ rfl rfl) <;> simp only [wx, wex, wez, stV, seval, IntWalk.iteOmega, IntWalk.toNatUp, reduceCtorEq]
    · have e1 : l.take i = l := List.take_of_length_le (by omega)
      rw [e1] at hok
      rw [hok]
      simp only [lp_vls_0, vldSt, wx, wy, wz, stV, seval, IntWalk.iteOmega, IntWalk.toNatUp, reduceCtorEq]
      exact ret_d1 (by simp only [wx, wy, wz, stV, seval, IntWalk.iteOmega, IntWalk.toNatUp, reduceCtorEq])
def mdB (l : List Spn) (k : Bool) (x y : Int) : Bool := allOk l && k && okP (x, y)
def mdE (l : List Spn) (k : Bool) (x y : Int) : Int := if allOk l = true then (if (k && okP (x, y)) = true then 0 else 4) else 3
theorem md_no {l : List Spn} (h : allOk l = false) (k : Bool) (x y : Int) : mdB l k x y = false ∧ mdE l k x y = 3 := by
  unfold mdB mdE; rw [h]; exact ⟨rfl, rfl⟩
def sf_imad : SFn := ⟨2, 26,
  .seq (.reg [⟨(some 4), .alloc [(.d (.int .i64 0)), (.d (.int .i64 0))], none⟩,
    ⟨(some 5), .mv (.k (.c (.d (.int .i64 0)))), none⟩])
  (.seq (.seq (.reg [⟨(some 8), .mv (.t 1), none⟩,
    ⟨(some 9), .call 95 [(.t 8)] none, none⟩,
    ⟨(some 10), .un .not (.t 9), none⟩])
  (.cond (.t 10) (.seq (.reg [⟨(some 11), .build [(.d (.int .i64 0)), (.d (.int .i64 0))] [], none⟩,
     ⟨none, .store (.ag 2) (.t 4) (.t 11), none⟩,
     ⟨(some 5), .mv (.k (.c (.d (.int .i64 3)))), none⟩])
   (.ret))
   (.skip)))
  (.seq (.reg [⟨(some 13), .mv (.t 0), none⟩,
    ⟨(some 14), .call 1000000007 [(.t 13)] none, none⟩,
    ⟨(some 12), .mv (.t 14), none⟩,
    ⟨(some 15), .extract (.t 12) 0, none⟩,
    ⟨(some 16), .extract (.t 12) 1, none⟩,
    ⟨(some 6), .alloc [(.d (.int .i64 0)), (.d (.int .i64 0))], none⟩,
    ⟨none, .store (.ag 2) (.t 6) (.t 15), none⟩,
    ⟨(some 7), .mv (.t 16), none⟩])
  (.seq (.seq (.reg [⟨(some 17), .mv (.t 7), none⟩,
    ⟨(some 18), .un .not (.t 17), none⟩,
    ⟨(some 19), .mv (.t 18), none⟩,
    ⟨(some 20), .load (.ag 2) (.t 6), (some (19, false))⟩,
    ⟨(some 21), .call 76 [(.t 20)] none, (some (19, false))⟩,
    ⟨(some 22), .un .not (.t 21), (some (19, false))⟩,
    ⟨(some 23), .pick (.t 19) (.k (.c (.d (.bool true)))) (.t 22), none⟩])
  (.cond (.t 23) (.seq (.reg [⟨(some 24), .build [(.d (.int .i64 0)), (.d (.int .i64 0))] [], none⟩,
     ⟨none, .store (.ag 2) (.t 4) (.t 24), none⟩,
     ⟨(some 5), .mv (.k (.c (.d (.int .i64 4)))), none⟩])
   (.ret))
   (.skip)))
  (.seq (.reg [⟨(some 25), .load (.ag 2) (.t 6), none⟩,
    ⟨none, .store (.ag 2) (.t 4) (.t 25), none⟩,
    ⟨(some 5), .mv (.k (.c (.d (.int .i64 0)))), none⟩])
  (.ret))))),
  [(4, (some (.ag 2))), (5, none)]⟩
theorem cf_imad : compFn Try.prog { own := [], comp := [], frz := [], nils := [] } Try.f74 = some sf_imad := by kernel_rfl
theorem imad_c (G : Glob) (g : Nat) (caps : List D) (l : List Spn) (hl : l.length ≤ 9223372036854775807) (k : Bool) (x y : Int) (hd : allOk l = true → DenF Try.prog G g caps [] (.tup [.c (.d (.agg [.int .i64 x, .int .i64 y])), .c (.d (.bool k))])) : Den Try.prog G 74 [.fn g caps, .sl (l.map spD)] (.tup [.c (.d (spA (mdB l k x y) x y)), .c (.d (.int .i64 (mdE l k x y)))]) := by
  refine den_walk Try.func74 cf_imad rfl rfl ?_
  have cw := vls_c G l hl
  unfold mdB mdE
  cases ha : allOk l
  · rw [ha] at cw
    simp only [sf_imad, putAll, wx, wy, wz, stV, seval, IntWalk.iteOmega, IntWalk.toNatUp, reduceCtorEq]
    refine st_call (cw) rfl (.inl rfl) ?_
    simp only [wx, wy, wz, stV, seval, IntWalk.iteOmega, IntWalk.toNatUp, reduceCtorEq]
    unfold spA
    exact ret_d2 (by simp only [wx, wy, wz, stV, seval, IntWalk.iteOmega, IntWalk.toNatUp, reduceCtorEq]) (by simp only [wx, wy, wz, stV, seval, IntWalk.iteOmega, IntWalk.toNatUp, reduceCtorEq])
  · rw [ha] at cw
    have cv := isv_c G x y
    simp only [sf_imad, putAll, wx, wy, wz, stV, seval, IntWalk.iteOmega, IntWalk.toNatUp, reduceCtorEq]
    refine st_call (cw) rfl (.inl rfl) ?_
    simp only [wx, wy, wz, stV, seval, IntWalk.iteOmega, IntWalk.toNatUp, reduceCtorEq]
    refine st_callF (hd ha) rfl (.inl rfl) ?_
    simp only [wx, wy, wz, stV, seval, IntWalk.iteOmega, IntWalk.toNatUp, reduceCtorEq]
    cases k
    · simp only [wx, wy, wz, stV, seval, IntWalk.iteOmega, IntWalk.toNatUp, reduceCtorEq]
      unfold spA
      exact ret_d2 (by simp only [wx, wy, wz, stV, seval, IntWalk.iteOmega, IntWalk.toNatUp, reduceCtorEq]) (by simp only [wx, wy, wz, stV, seval, IntWalk.iteOmega, IntWalk.toNatUp, reduceCtorEq])
    · cases hv : okP (x, y)
      · rw [hv] at cv
        simp only [wx, wy, wz, stV, seval, IntWalk.iteOmega, IntWalk.toNatUp, reduceCtorEq]
        refine st_call (cv) rfl (.inl rfl) ?_
        simp only [wx, wy, wz, stV, seval, IntWalk.iteOmega, IntWalk.toNatUp, reduceCtorEq]
        unfold spA
        exact ret_d2 (by simp only [wx, wy, wz, stV, seval, IntWalk.iteOmega, IntWalk.toNatUp, reduceCtorEq]) (by simp only [wx, wy, wz, stV, seval, IntWalk.iteOmega, IntWalk.toNatUp, reduceCtorEq])
      · rw [hv] at cv
        simp only [wx, wy, wz, stV, seval, IntWalk.iteOmega, IntWalk.toNatUp, reduceCtorEq]
        refine st_call (cv) rfl (.inl rfl) ?_
        simp only [wx, wy, wz, stV, seval, IntWalk.iteOmega, IntWalk.toNatUp, reduceCtorEq]
        unfold spA
        exact ret_d2 (by simp only [wx, wy, wz, stV, seval, IntWalk.iteOmega, IntWalk.toNatUp, reduceCtorEq]) (by simp only [wx, wy, wz, stV, seval, IntWalk.iteOmega, IntWalk.toNatUp, reduceCtorEq])
end Go.Proofs.Ytjebhdadegfbdaa
set_option linter.unusedVariables false
set_option linter.unusedSimpArgs false
namespace Go.Proofs.Ytjebhdadegfbdaa
open Go.RowKit

def sf_gbeg : SFn := ⟨2, 10,
  .seq (.reg [⟨(some 4), .mv (.k (.c (.d (.int .i64 0)))), none⟩])
  (.seq (.reg [⟨(some 5), .mv (.t 0), none⟩,
    ⟨(some 6), .mv (.t 1), none⟩,
    ⟨(some 7), .call 98 [(.t 6)] none, none⟩,
    ⟨(some 8), .bin .sub (.t 5) (.t 7), none⟩,
    ⟨(some 9), .bin .shr (.t 8) (.k (.c (.d (.int .u64 52)))), none⟩,
    ⟨(some 4), .mv (.t 9), none⟩])
  (.ret)),
  [(4, none)]⟩
theorem cf_gbeg : compFn Try.prog { own := [], comp := [], frz := [], nils := [] } Try.f92 = some sf_gbeg := by kernel_rfl
theorem gbeg_c (G : Glob) (t w : Int) (h1 : -2305843009213693952 ≤ t) (h2 : t ≤ 2305843009213693952) (w1 : 0 ≤ w) (w2 : w < 18446744073709551616) : Den Try.prog G 92 [.int .i64 t, .int .u64 w] (.w (.c (.d (.int .i64 ((t - w / 4096) / 4503599627370496))))) := by
  refine den_walk Try.func92 cf_gbeg rfl rfl ?_
  simp only [sf_gbeg, putAll, wx, wy, wz, stV, seval, IntWalk.iteOmega, IntWalk.toNatUp, reduceCtorEq]
  refine st_call (dwn_c G w w1 w2) rfl (.inl rfl) ?_
  simp only [bI64, wx, wy, wz, stV, seval, IntWalk.iteOmega, IntWalk.toNatUp, reduceCtorEq]
  exact ret_d1 (by simp only [wx, wy, wz, stV, seval, IntWalk.iteOmega, IntWalk.toNatUp, reduceCtorEq])
def sf_gine : SFn := ⟨2, 17,
  .seq (.reg [⟨(some 4), .alloc [(.d (.int .i64 0)), (.d (.int .i64 0))], none⟩])
  (.seq (.reg [⟨(some 6), .mv (.t 0), none⟩,
    ⟨(some 7), .bin .shl (.t 6) (.k (.c (.d (.int .u64 52)))), none⟩,
    ⟨(some 5), .mv (.t 7), none⟩])
  (.seq (.reg [⟨(some 8), .mv (.t 5), none⟩,
    ⟨(some 9), .mv (.t 1), none⟩,
    ⟨(some 10), .call 98 [(.t 9)] none, none⟩,
    ⟨(some 11), .bin .add (.t 8) (.t 10), none⟩,
    ⟨(some 12), .mv (.t 5), none⟩,
    ⟨(some 13), .mv (.t 1), none⟩,
    ⟨(some 14), .call 91 [(.t 13)] none, none⟩,
    ⟨(some 15), .bin .add (.t 12) (.t 14), none⟩,
    ⟨(some 16), .build [(.d (.int .i64 0)), (.d (.int .i64 0))] [(0, 1, (.t 11)), (1, 1, (.t 15))], none⟩,
    ⟨none, .store (.ag 2) (.t 4) (.t 16), none⟩])
  (.ret))),
  [(4, (some (.ag 2)))]⟩
theorem cf_gine : compFn Try.prog { own := [], comp := [], frz := [], nils := [] } Try.f93 = some sf_gine := by kernel_rfl
theorem gine_c (G : Glob) (k w : Int) (h1 : -1024 ≤ k) (h2 : k ≤ 1024) (w1 : 0 ≤ w) (w2 : w < 18446744073709551616) : Den Try.prog G 93 [.int .i64 k, .int .u64 w] (.w (.c (.d (.agg [.int .i64 (k * 4503599627370496 + w / 4096), .int .i64 (k * 4503599627370496 + upV w)])))) := by
  refine den_walk Try.func93 cf_gine rfl rfl ?_
  obtain ⟨u1, u2, u3, u4, u5⟩ := upw_in w1 w2
  have cu := upp_c G w w1 w2
  generalize upV w = u at *
  simp only [sf_gine, putAll, wx, wy, wz, stV, seval, IntWalk.iteOmega, IntWalk.toNatUp, reduceCtorEq, bI64]
  refine st_call (dwn_c G w w1 w2) rfl (.inl rfl) ?_
  simp only [wx, wy, wz, stV, seval, IntWalk.iteOmega, IntWalk.toNatUp, reduceCtorEq]
  refine st_call (cu) rfl (.inl rfl) ?_
  simp only [wx, wy, wz, stV, seval, IntWalk.iteOmega, IntWalk.toNatUp, reduceCtorEq]
  exact ret_d1 (by simp only [wx, wy, wz, stV, seval, IntWalk.iteOmega, IntWalk.toNatUp, reduceCtorEq])
def unfSt (w d u A : Int) (N n : Nat) : St := ⟨ofL [(1, .w (.c (.d (.int .u64 w)))), (6, .w (.c (.d (.int .i64 (A - 1))))), (8, .w (.c (.own 1 2 0 n))), (28, .w (.c (.d (.int .i64 (N : Int))))), (29, .w (.c (.d (.int .i64 (n : Int)))))],
  hL [(1, .row 2 ((erL d u A n).map spD))], uL [1]⟩
def lp_gunf_0 : SCode :=
  .seq (.reg [⟨(some 30), .bin .lss (.t 29) (.t 28), none⟩])
  (.seq (.cond (.t 30) (.skip)
   (.exit 0))
  (.seq (.block 1 (.seq (.reg [⟨(some 31), .mv (.t 29), none⟩,
     ⟨(some 9), .mv (.t 31), none⟩])
   (.reg [⟨(some 32), .mv (.t 8), none⟩,
     ⟨(some 33), .mv (.t 6), none⟩,
     ⟨(some 34), .bin .add (.t 33) (.k (.c (.d (.int .i64 1)))), none⟩,
     ⟨(some 35), .mv (.t 9), none⟩,
     ⟨(some 36), .bin .add (.t 34) (.t 35), none⟩,
     ⟨(some 37), .mv (.t 1), none⟩,
     ⟨(some 38), .call 93 [(.t 36), (.t 37)] none, none⟩,
     ⟨(some 39), .bldSl false 1 2 (.agg [(.int .i64 0), (.int .i64 0)]) [(0, (.t 38))], none⟩,
     ⟨(some 40), .app false 2 16 (.t 32) (.t 39), none⟩,
     ⟨(some 8), .mv (.t 40), none⟩])))
  (.reg [⟨(some 41), .bin .add (.t 29) (.k (.c (.d (.int .i64 1)))), none⟩,
    ⟨(some 29), .mv (.t 41), none⟩])))
def sf_gunf : SFn := ⟨2, 43,
  .seq (.reg [⟨(some 2), .box .roBox (.t 0), none⟩,
    ⟨(some 4), .mv (.k (.c .nil)), none⟩,
    ⟨(some 5), .mv (.k (.c (.d (.int .i64 0)))), none⟩])
  (.seq (.seq (.reg [⟨(some 10), .load (.ag 2) (.t 2), none⟩,
    ⟨(some 11), .call 76 [(.t 10)] none, none⟩,
    ⟨(some 12), .un .not (.t 11), none⟩])
  (.cond (.t 12) (.seq (.reg [⟨(some 4), .mv (.k (.c .nil)), none⟩,
     ⟨(some 5), .mv (.k (.c (.d (.int .i64 3)))), none⟩])
   (.ret))
   (.skip)))
  (.seq (.reg [⟨(some 13), .fieldAddr 0 (.t 2), none⟩,
    ⟨(some 14), .load .sc (.t 13), none⟩,
    ⟨(some 15), .bin .sub (.t 14) (.k (.c (.d (.int .i64 1)))), none⟩,
    ⟨(some 16), .mv (.t 1), none⟩,
    ⟨(some 17), .call 91 [(.t 16)] none, none⟩,
    ⟨(some 18), .bin .sub (.t 15) (.t 17), none⟩,
    ⟨(some 19), .bin .shr (.t 18) (.k (.c (.d (.int .u64 52)))), none⟩,
    ⟨(some 6), .mv (.t 19), none⟩])
  (.seq (.reg [⟨(some 20), .fieldAddr 1 (.t 2), none⟩,
    ⟨(some 21), .load .sc (.t 20), none⟩,
    ⟨(some 22), .mv (.t 1), none⟩,
    ⟨(some 23), .call 92 [(.t 21), (.t 22)] none, none⟩,
    ⟨(some 24), .mv (.t 6), none⟩,
    ⟨(some 25), .bin .sub (.t 23) (.t 24), none⟩,
    ⟨(some 7), .mv (.t 25), none⟩])
  (.seq (.seq (.reg [⟨(some 26), .mv (.t 7), none⟩,
    ⟨(some 27), .bin .gtr (.t 26) (.k (.c (.d (.int .i64 64)))), none⟩])
  (.cond (.t 27) (.seq (.reg [⟨(some 4), .mv (.k (.c .nil)), none⟩,
     ⟨(some 5), .mv (.k (.c (.d (.int .i64 8)))), none⟩])
   (.ret))
   (.skip)))
  (.seq (.reg [⟨(some 8), .nilOwn 2, none⟩])
  (.seq (.seq (.reg [⟨(some 28), .mv (.t 7), none⟩,
    ⟨(some 29), .mv (.k (.c (.d (.int .i64 0)))), none⟩])
  (.block 0 (.loop lp_gunf_0)))
  (.seq (.reg [⟨(some 42), .mv (.t 8), none⟩,
    ⟨(some 4), .mv (.t 42), none⟩,
    ⟨(some 5), .mv (.k (.c (.d (.int .i64 0)))), none⟩])
  (.ret)))))))),
  [(4, none), (5, none)]⟩
theorem cf_gunf : compFn Try.prog { own := [8], comp := [], frz := [], nils := [] } Try.f72 = some sf_gunf := by kernel_rfl
set_option maxHeartbeats 1600000 in
theorem gunf_f (G : Glob) (lo hi w : Int) (w1 : 0 ≤ w) (w2 : w < 18446744073709551616) : Den Try.prog G 72 [.agg [.int .i64 lo, .int .i64 hi], .int .u64 w] (.tup [.c (.fr 2 ((unfW (w / 4096) (upV w) lo hi).map spD)), .c (.d (.int .i64 (unfE (w / 4096) (upV w) lo hi)))]) := by
  refine den_walk Try.func72 cf_gunf rfl rfl ?_
  have cv := isv_c G lo hi
  unfold unfW unfE
  cases hv : okP (lo, hi)
  · rw [hv] at cv
    simp only [Bool.false_eq_true, if_false, false_and]
    simp only [sf_gunf, putAll, wx, wy, wz, stV, seval, IntWalk.iteOmega, IntWalk.toNatUp, reduceCtorEq]
    refine st_call (cv) rfl (.inl rfl) ?_
    simp only [wx, wy, wz, stV, seval, IntWalk.iteOmega, IntWalk.toNatUp, reduceCtorEq]
    exact ret_f2 (by simp only [wx, wy, wz, stV, seval, IntWalk.iteOmega, IntWalk.toNatUp, reduceCtorEq]) (by simp only [wx, wy, wz, stV, seval, IntWalk.iteOmega, IntWalk.toNatUp, reduceCtorEq])
  · rw [hv] at cv
    obtain ⟨h1, h2, h3⟩ := okP_i hv
    obtain ⟨u1, u2, u3, u4, _⟩ := upw_in w1 w2
    obtain ⟨n1, n2, n3⟩ := unfN_i h3 u3 u4
    have cu := upp_c G w w1 w2
    have cb := gbeg_c G hi w (by omega) (by omega) w1 w2
    have hA : -300 ≤ eraA lo (upV w) ∧ eraA lo (upV w) ≤ 300 := by unfold eraA; omega
    have hB : -300 ≤ eraB hi (w / 4096) ∧ eraB hi (w / 4096) ≤ 300 := by unfold eraB; omega
    rw [n3] at cb
    have ce : ∀ k, -1024 ≤ k → k ≤ 1024 → _ := fun k k1 k2 => gine_c G k w k1 k2 w1 w2
    by_cases hb : unfN (w / 4096) (upV w) lo hi ≤ 64
    · have hb' : ((unfN (w / 4096) (upV w) lo hi : Int) > 64) = False := eq_false (by omega)
      have ec : eraB hi (w / 4096) - (eraA lo (upV w) - 1) = (unfN (w / 4096) (upV w) lo hi : Int) := by omega
      rw [if_pos rfl, if_pos hb, if_pos ⟨rfl, hb⟩]
      rw [unfL_er]
      generalize w / 4096 = d at *
      generalize upV w = u at *
      generalize eraA lo u = A at *
      generalize unfN d u lo hi = N at *
      generalize eraB hi d = B at *
      simp only [sf_gunf, putAll, wx, wy, wz, stV, seval, IntWalk.iteOmega, IntWalk.toNatUp, reduceCtorEq]
      refine st_call (cv) rfl (.inl rfl) ?_
      simp only [wx, wy, wz, stV, seval, IntWalk.iteOmega, IntWalk.toNatUp, reduceCtorEq]
      refine st_call (cu) rfl (.inl rfl) ?_
      simp only [bI64, n2, wx, wy, wz, stV, seval, IntWalk.iteOmega, IntWalk.toNatUp, reduceCtorEq]
      refine st_call (cb) rfl (.inl rfl) ?_
      simp only [ec, hb', wx, wy, wz, stV, seval, IntWalk.iteOmega, IntWalk.toNatUp, reduceCtorEq]
      refine loop_st (unfSt w d u A N) (fun i => N - i) (fun i => i ≤ N) 0 (Nat.zero_le _) ?_ ?_
      · have e0 : erL d u A 0 = [] := rfl
        refine ent_l (fun _ => 64) ?_ ?_ rfl rfl <;> simp only [wx, wex, wez, stV, seval, IntWalk.iteOmega, IntWalk.toNatUp, reduceCtorEq, e0]
      · intro i hi'
        have f2 := erL_len d u A i
        by_cases hlt : i < N
        · have f1 : (erL d u A (i + 1)).map spD = (erL d u A i).map spD ++ [.agg [.int .i64 ((A + i) * 4503599627370496 + d), .int .i64 ((A + i) * 4503599627370496 + u)]] := by
            rw [erL_add, List.map_append]
            show _ ++ [spD (eraS d u (A + (i : Int) + 0))] = _
            rw [Int.add_zero]; rfl
          have ek : A - 1 + 1 + (i : Int) = A + i := by omega
          have cei := ce (A + i) (by omega) (by omega)
          simp only [lp_gunf_0, unfSt, wx, wy, wz, stV, seval, IntWalk.iteOmega, IntWalk.toNatUp, reduceCtorEq, ek, srcV]
          refine st_call (cei) rfl (.inl rfl) ?_
          simp only [srcV, f2, wx, wy, wz, stV, seval, IntWalk.iteOmega, IntWalk.toNatUp, reduceCtorEq]
          refine lop_next (i + 1) (by omega) (by omega) (ent_l (fun _ => 320) ?_ ?_ rfl rfl) <;> simp only [wx, wex, wez, stV, seval, IntWalk.iteOmega, IntWalk.toNatUp, reduceCtorEq, f1]
        · obtain rfl : i = N := by omega
          simp only [lp_gunf_0, unfSt, wx, wy, wz, stV, seval, IntWalk.iteOmega, IntWalk.toNatUp, reduceCtorEq]
          exact ret_f2 (by simp only [wx, wy, wz, stV, seval, IntWalk.iteOmega, IntWalk.toNatUp, reduceCtorEq, f2]) (by simp only [wx, wy, wz, stV, seval, IntWalk.iteOmega, IntWalk.toNatUp, reduceCtorEq])
    · have hb' : ((unfN (w / 4096) (upV w) lo hi : Int) > 64) = True := eq_true (by omega)
      have ec : eraB hi (w / 4096) - (eraA lo (upV w) - 1) = (unfN (w / 4096) (upV w) lo hi : Int) := by omega
      rw [if_pos rfl, if_neg hb, if_neg (fun k => hb k.2)]
      generalize w / 4096 = d at *
      generalize upV w = u at *
      simp only [sf_gunf, putAll, wx, wy, wz, stV, seval, IntWalk.iteOmega, IntWalk.toNatUp, reduceCtorEq]
      refine st_call (cv) rfl (.inl rfl) ?_
      simp only [wx, wy, wz, stV, seval, IntWalk.iteOmega, IntWalk.toNatUp, reduceCtorEq]
      refine st_call (cu) rfl (.inl rfl) ?_
      simp only [bI64, n2, wx, wy, wz, stV, seval, IntWalk.iteOmega, IntWalk.toNatUp, reduceCtorEq]
      refine st_call (cb) rfl (.inl rfl) ?_
      simp only [ec, hb', wx, wy, wz, stV, seval, IntWalk.iteOmega, IntWalk.toNatUp, reduceCtorEq]
      exact ret_f2 (by simp only [wx, wy, wz, stV, seval, IntWalk.iteOmega, IntWalk.toNatUp, reduceCtorEq]) (by simp only [wx, wy, wz, stV, seval, IntWalk.iteOmega, IntWalk.toNatUp, reduceCtorEq])
theorem gunf_c (G : Glob) (lo hi w : Int) (w1 : 0 ≤ w) (w2 : w < 18446744073709551616) : Den Try.prog G 72 [.agg [.int .i64 lo, .int .i64 hi], .int .u64 w] (.tup [.c (.d (.sl ((unfW (w / 4096) (upV w) lo hi).map spD))), .c (.d (.int .i64 (unfE (w / 4096) (upV w) lo hi)))]) := den_ro2 (gunf_f G lo hi w w1 w2)
def sf_gonl : SFn := ⟨2, 35,
  .seq (.reg [⟨(some 2), .box .roBox (.t 0), none⟩,
    ⟨(some 4), .alloc [(.d (.int .i64 0)), (.d (.int .i64 0))], none⟩,
    ⟨(some 5), .mv (.k (.c (.d (.int .i64 0)))), none⟩])
  (.seq (.reg [⟨(some 9), .load (.ag 2) (.t 2), none⟩,
    ⟨(some 10), .mv (.t 1), none⟩,
    ⟨(some 11), .call 72 [(.t 9), (.t 10)] none, none⟩,
    ⟨(some 8), .mv (.t 11), none⟩,
    ⟨(some 12), .extract (.t 8) 0, none⟩,
    ⟨(some 13), .extract (.t 8) 1, none⟩,
    ⟨(some 6), .mv (.t 12), none⟩,
    ⟨(some 7), .mv (.t 13), none⟩])
  (.seq (.block 0 (.seq (.reg [⟨(some 15), .mv (.t 7), none⟩,
     ⟨(some 16), .bin .eql (.t 15) (.k (.c (.d (.int .i64 3)))), none⟩,
     ⟨(some 14), .mv (.t 16), none⟩])
   (.cond (.t 14) (.seq (.reg [⟨(some 17), .build [(.d (.int .i64 0)), (.d (.int .i64 0))] [], none⟩,
      ⟨none, .store (.ag 2) (.t 4) (.t 17), none⟩,
      ⟨(some 5), .mv (.k (.c (.d (.int .i64 3)))), none⟩])
    (.ret))
    (.seq (.reg [⟨(some 19), .mv (.t 7), none⟩,
      ⟨(some 20), .bin .eql (.t 19) (.k (.c (.d (.int .i64 8)))), none⟩,
      ⟨(some 21), .mv (.t 20), none⟩,
      ⟨(some 22), .mv (.t 6), (some (21, false))⟩,
      ⟨(some 23), .len (.t 22), (some (21, false))⟩,
      ⟨(some 24), .bin .gtr (.t 23) (.k (.c (.d (.int .i64 1)))), (some (21, false))⟩,
      ⟨(some 25), .pick (.t 21) (.k (.c (.d (.bool true)))) (.t 24), none⟩,
      ⟨(some 18), .mv (.t 25), none⟩])
    (.cond (.t 18) (.seq (.reg [⟨(some 26), .build [(.d (.int .i64 0)), (.d (.int .i64 0))] [], none⟩,
       ⟨none, .store (.ag 2) (.t 4) (.t 26), none⟩,
       ⟨(some 5), .mv (.k (.c (.d (.int .i64 9)))), none⟩])
     (.ret))
     (.seq (.reg [⟨(some 28), .mv (.t 6), none⟩,
       ⟨(some 29), .len (.t 28), none⟩,
       ⟨(some 30), .bin .eql (.t 29) (.k (.c (.d (.int .i64 0)))), none⟩,
       ⟨(some 27), .mv (.t 30), none⟩])
     (.cond (.t 27) (.seq (.reg [⟨(some 31), .build [(.d (.int .i64 0)), (.d (.int .i64 0))] [], none⟩,
        ⟨none, .store (.ag 2) (.t 4) (.t 31), none⟩,
        ⟨(some 5), .mv (.k (.c (.d (.int .i64 10)))), none⟩])
      (.ret))
      (.skip))))))))
  (.seq (.reg [⟨(some 32), .mv (.t 6), none⟩,
    ⟨(some 33), .idxSl 2 (.t 32) (.k (.c (.d (.int .i64 0)))), none⟩,
    ⟨(some 34), .load (.ag 2) (.t 33), none⟩,
    ⟨none, .store (.ag 2) (.t 4) (.t 34), none⟩,
    ⟨(some 5), .mv (.k (.c (.d (.int .i64 0)))), none⟩])
  (.ret)))),
  [(4, (some (.ag 2))), (5, none)]⟩
theorem cf_gonl : compFn Try.prog { own := [], comp := [], frz := [], nils := [] } Try.f37 = some sf_gonl := by kernel_rfl
theorem gonl_c (G : Glob) (lo hi w : Int) (w1 : 0 ≤ w) (w2 : w < 18446744073709551616) : Den Try.prog G 37 [.agg [.int .i64 lo, .int .i64 hi], .int .u64 w] (.tup [.c (.d (spA (onlB (w / 4096) (upV w) lo hi) (eraA lo (upV w) * 4503599627370496 + w / 4096) (eraA lo (upV w) * 4503599627370496 + upV w))), .c (.d (.int .i64 (onlE (w / 4096) (upV w) lo hi)))]) := by
  refine den_walk Try.func37 cf_gonl rfl rfl ?_
  have c := gunf_c G lo hi w w1 w2
  unfold spA onlB onlE
  unfold unfW unfE at c
  generalize w / 4096 = d at *
  generalize upV w = u at *
  cases hv : okP (lo, hi)
  · rw [hv] at c
    simp only [Bool.false_eq_true, if_false, false_and] at c
    simp only [sf_gonl, putAll, wx, wy, wz, stV, seval, IntWalk.iteOmega, IntWalk.toNatUp, reduceCtorEq]
    refine st_call (c) rfl (.inl rfl) ?_
    simp only [wx, wy, wz, stV, seval, IntWalk.iteOmega, IntWalk.toNatUp, reduceCtorEq]
    exact ret_d2 (by simp only [wx, wy, wz, stV, seval, IntWalk.iteOmega, IntWalk.toNatUp, reduceCtorEq]) (by simp only [wx, wy, wz, stV, seval, IntWalk.iteOmega, IntWalk.toNatUp, reduceCtorEq])
  · rw [hv] at c
    simp only [if_true, true_and] at c
    have hl : (unfL d u lo hi).length = unfN d u lo hi := unfP_len _ _ _ _
    by_cases hb : unfN d u lo hi ≤ 64
    · rw [if_pos hb, if_pos hb] at c
      by_cases h0 : unfN d u lo hi = 0
      · have e : unfL d u lo hi = [] := List.length_eq_zero_iff.1 (by omega)
        rw [e] at c
        rw [h0]
        simp only [sf_gonl, putAll, wx, wy, wz, stV, seval, IntWalk.iteOmega, IntWalk.toNatUp, reduceCtorEq]
        refine st_call (c) rfl (.inl rfl) ?_
        simp only [wx, wy, wz, stV, seval, IntWalk.iteOmega, IntWalk.toNatUp, reduceCtorEq]
        exact ret_d2 (by simp only [wx, wy, wz, stV, seval, IntWalk.iteOmega, IntWalk.toNatUp, reduceCtorEq]) (by simp only [wx, wy, wz, stV, seval, IntWalk.iteOmega, IntWalk.toNatUp, reduceCtorEq])
      · by_cases h1 : unfN d u lo hi = 1
        · have e : (unfL d u lo hi).map spD = [.agg [.int .i64 (eraA lo u * 4503599627370496 + d), .int .i64 (eraA lo u * 4503599627370496 + u)]] := by
            unfold unfL; rw [h1, unfP_succ]
            show [spD (eraS d u (eraA lo u + 0))] = _
            rw [Int.add_zero]; rfl
          rw [e] at c
          rw [h1]
          simp only [sf_gonl, putAll, wx, wy, wz, stV, seval, IntWalk.iteOmega, IntWalk.toNatUp, reduceCtorEq]
          refine st_call (c) rfl (.inl rfl) ?_
          simp only [wx, wy, wz, stV, seval, IntWalk.iteOmega, IntWalk.toNatUp, reduceCtorEq]
          exact ret_d2 (by simp only [wx, wy, wz, stV, seval, IntWalk.iteOmega, IntWalk.toNatUp, reduceCtorEq]) (by simp only [wx, wy, wz, stV, seval, IntWalk.iteOmega, IntWalk.toNatUp, reduceCtorEq])
        · have hgt : (((unfL d u lo hi).length : Int) > 1) = True := eq_true (by omega)
          rw [decide_eq_false h1, if_neg h0, if_neg h1]
          generalize unfL d u lo hi = L at *
          simp only [sf_gonl, putAll, wx, wy, wz, stV, seval, IntWalk.iteOmega, IntWalk.toNatUp, reduceCtorEq]
          refine st_call (c) rfl (.inl rfl) ?_
          simp only [hgt, wx, wy, wz, stV, seval, IntWalk.iteOmega, IntWalk.toNatUp, reduceCtorEq]
          exact ret_d2 (by simp only [wx, wy, wz, stV, seval, IntWalk.iteOmega, IntWalk.toNatUp, reduceCtorEq]) (by simp only [wx, wy, wz, stV, seval, IntWalk.iteOmega, IntWalk.toNatUp, reduceCtorEq])
    · rw [if_neg hb, if_neg hb] at c
      rw [decide_eq_false (show ¬ unfN d u lo hi = 1 by omega), if_neg (show ¬ unfN d u lo hi = 0 by omega), if_neg (show ¬ unfN d u lo hi = 1 by omega)]
      simp only [sf_gonl, putAll, wx, wy, wz, stV, seval, IntWalk.iteOmega, IntWalk.toNatUp, reduceCtorEq]
      refine st_call (c) rfl (.inl rfl) ?_
      simp only [wx, wy, wz, stV, seval, IntWalk.iteOmega, IntWalk.toNatUp, reduceCtorEq]
      exact ret_d2 (by simp only [wx, wy, wz, stV, seval, IntWalk.iteOmega, IntWalk.toNatUp, reduceCtorEq]) (by simp only [wx, wy, wz, stV, seval, IntWalk.iteOmega, IntWalk.toNatUp, reduceCtorEq])
end Go.Proofs.Ytjebhdadegfbdaa
set_option linter.unusedVariables false
set_option linter.unusedSimpArgs false
namespace Go.Proofs.Ytjebhdadegfbdaa
open Go.RowKit

/-! ### The timestamp of an instant -/
theorem onl_at {t lo hi : Int} (h1 : lo ≤ t) (h2 : t ≤ hi) (h3 : hi - lo < 4503599627370496 - 2) (h4 : -1152921504606846976 ≤ lo) (h5 : hi ≤ 1152921504606846976) :
    okP (lo, hi) = true ∧ unfN (t % 4503599627370496) (t % 4503599627370496) lo hi = 1 ∧ eraA lo (t % 4503599627370496) * 4503599627370496 + t % 4503599627370496 = t := by
  obtain ⟨a, b⟩ := era_only h1 h2 h3
  obtain ⟨n, _⟩ := unfN_i (d := t % 4503599627370496) (u := t % 4503599627370496) (Int.le_trans h1 h2) (Int.le_refl _) (by omega)
  exact ⟨okP_d ⟨h4, h5, by omega⟩, by omega, by rw [a]; omega⟩
theorem near_at {t : Int} : nearK (t % 4503599627370496) (t % 4503599627370496) t * 4503599627370496 + t % 4503599627370496 = t := by
  rw [near_self]; omega
end Go.Proofs.Ytjebhdadegfbdaa
