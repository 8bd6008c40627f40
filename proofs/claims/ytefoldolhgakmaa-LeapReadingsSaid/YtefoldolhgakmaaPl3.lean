/- Layer 12 on data: the program: tables, offsets and steps. Own work. -/
import Derived.Test.YtefoldolhgakmaaProg
import Derived.Test.YtefoldolhgakmaaAlW
import Derived.Test.YtefoldolhgakmaaAlZ
import Derived.Test.YtefoldolhgakmaaPr1
import Derived.Test.YtefoldolhgakmaaPl2
set_option linter.unusedVariables false
set_option linter.unusedSimpArgs false
namespace Go.Proofs.Ytefoldolhgakmaa
open Go.RowKit

/-- A table, as data. -/
def lpD (f : Int) (l : List Lp) : D := .agg [.int .i64 f, .sl (l.map spD)]
theorem tmod86 {x : Int} (h : 0 ≤ x) : Int.tmod x 86400 = x % 86400 := Int.tmod_eq_emod_of_nonneg h
def lvSt (l : List Lp) (f : Int) (i : Nat) : St := ⟨ofL [(3, .w (.c (.d (.int .i64 (erlN l i))))), (4, .w (.c (.d (.int .i64 (lastO f l i))))), (24, .w (.c (.d (.sl (l.map spD))))), (25, .w (.c (.d (.int .i64 (l.length : Int))))), (26, .w (.c (.d (.int .i64 (i : Int)))))], hL [], uL []⟩
def lp_lvl_0 : SCode :=
  .seq (.reg [⟨(some 27), .bin .lss (.t 26) (.t 25), none⟩])
  (.seq (.cond (.t 27) (.skip)
   (.exit 0))
  (.seq (.block 1 (.seq (.reg [⟨(some 28), .idxSl 2 (.t 24) (.t 26), none⟩,
     ⟨(some 29), .load (.ag 2) (.t 28), none⟩,
     ⟨(some 6), .alloc [(.d (.int .i64 0)), (.d (.int .i64 0))], none⟩,
     ⟨none, .store (.ag 2) (.t 6) (.t 29), none⟩])
   (.seq (.seq (.reg [⟨(some 30), .fieldAddr 0 (.t 6), none⟩,
     ⟨(some 31), .load .sc (.t 30), none⟩,
     ⟨(some 32), .bin .rem (.t 31) (.k (.c (.d (.int .i64 86400)))), none⟩,
     ⟨(some 33), .bin .neq (.t 32) (.k (.c (.d (.int .i64 0)))), none⟩,
     ⟨(some 34), .mv (.t 33), none⟩,
     ⟨(some 35), .fieldAddr 0 (.t 6), (some (34, false))⟩,
     ⟨(some 36), .load .sc (.t 35), (some (34, false))⟩,
     ⟨(some 37), .mv (.t 3), (some (34, false))⟩,
     ⟨(some 38), .bin .lss (.t 36) (.t 37), (some (34, false))⟩,
     ⟨(some 39), .pick (.t 34) (.k (.c (.d (.bool true)))) (.t 38), none⟩,
     ⟨(some 40), .mv (.t 39), none⟩,
     ⟨(some 41), .fieldAddr 0 (.t 6), (some (40, false))⟩,
     ⟨(some 42), .load .sc (.t 41), (some (40, false))⟩,
     ⟨(some 43), .bin .gtr (.t 42) (.k (.c (.d (.int .i64 137438953472)))), (some (40, false))⟩,
     ⟨(some 44), .pick (.t 40) (.k (.c (.d (.bool true)))) (.t 43), none⟩])
   (.cond (.t 44) (.seq (.reg [⟨(some 2), .mv (.k (.c (.d (.bool false)))), none⟩])
    (.ret))
    (.skip)))
   (.seq (.seq (.reg [⟨(some 45), .fieldAddr 1 (.t 6), none⟩,
     ⟨(some 46), .load .sc (.t 45), none⟩,
     ⟨(some 47), .mv (.t 4), none⟩,
     ⟨(some 48), .bin .sub (.t 47) (.k (.c (.d (.int .i64 1)))), none⟩,
     ⟨(some 49), .bin .neq (.t 46) (.t 48), none⟩,
     ⟨(some 50), .mv (.t 49), none⟩,
     ⟨(some 51), .fieldAddr 1 (.t 6), (some (50, true))⟩,
     ⟨(some 52), .load .sc (.t 51), (some (50, true))⟩,
     ⟨(some 53), .mv (.t 4), (some (50, true))⟩,
     ⟨(some 54), .bin .add (.t 53) (.k (.c (.d (.int .i64 1)))), (some (50, true))⟩,
     ⟨(some 55), .bin .neq (.t 52) (.t 54), (some (50, true))⟩,
     ⟨(some 56), .pick (.t 50) (.t 55) (.k (.c (.d (.bool false)))), none⟩])
   (.cond (.t 56) (.seq (.reg [⟨(some 2), .mv (.k (.c (.d (.bool false)))), none⟩])
    (.ret))
    (.skip)))
   (.reg [⟨(some 57), .fieldAddr 0 (.t 6), none⟩,
     ⟨(some 58), .load .sc (.t 57), none⟩,
     ⟨(some 59), .bin .add (.t 58) (.k (.c (.d (.int .i64 172800)))), none⟩,
     ⟨(some 60), .fieldAddr 1 (.t 6), none⟩,
     ⟨(some 61), .load .sc (.t 60), none⟩,
     ⟨(some 3), .mv (.t 59), none⟩,
     ⟨(some 4), .mv (.t 61), none⟩])))))
  (.reg [⟨(some 62), .bin .add (.t 26) (.k (.c (.d (.int .i64 1)))), none⟩,
    ⟨(some 26), .mv (.t 62), none⟩])))
def sf_lvl : SFn := ⟨1, 63,
  .seq (.reg [⟨(some 1), .box .roBox (.t 0), none⟩,
    ⟨(some 2), .mv (.k (.c (.d (.bool false)))), none⟩])
  (.seq (.seq (.reg [⟨(some 7), .fieldAddr 0 (.t 1), none⟩,
    ⟨(some 8), .load .sc (.t 7), none⟩,
    ⟨(some 9), .bin .lss (.t 8) (.k (.c (.d (.int .i64 0)))), none⟩,
    ⟨(some 10), .mv (.t 9), none⟩,
    ⟨(some 11), .fieldAddr 0 (.t 1), (some (10, false))⟩,
    ⟨(some 12), .load .sc (.t 11), (some (10, false))⟩,
    ⟨(some 13), .bin .gtr (.t 12) (.k (.c (.d (.int .i64 100)))), (some (10, false))⟩,
    ⟨(some 14), .pick (.t 10) (.k (.c (.d (.bool true)))) (.t 13), none⟩,
    ⟨(some 15), .mv (.t 14), none⟩,
    ⟨(some 16), .fieldAddr 1 (.t 1), (some (15, false))⟩,
    ⟨(some 17), .load .sc (.t 16), (some (15, false))⟩,
    ⟨(some 18), .len (.t 17), (some (15, false))⟩,
    ⟨(some 19), .bin .gtr (.t 18) (.k (.c (.d (.int .i64 64)))), (some (15, false))⟩,
    ⟨(some 20), .pick (.t 15) (.k (.c (.d (.bool true)))) (.t 19), none⟩])
  (.cond (.t 20) (.seq (.reg [⟨(some 2), .mv (.k (.c (.d (.bool false)))), none⟩])
   (.ret))
   (.skip)))
  (.seq (.reg [⟨(some 21), .fieldAddr 0 (.t 1), none⟩,
    ⟨(some 22), .load .sc (.t 21), none⟩,
    ⟨(some 3), .mv (.k (.c (.d (.int .i64 86400)))), none⟩,
    ⟨(some 4), .mv (.t 22), none⟩])
  (.seq (.seq (.reg [⟨(some 23), .fieldAddr 1 (.t 1), none⟩,
    ⟨(some 24), .load .sc (.t 23), none⟩,
    ⟨(some 25), .len (.t 24), none⟩,
    ⟨(some 26), .mv (.k (.c (.d (.int .i64 0)))), none⟩])
  (.block 0 (.loop lp_lvl_0)))
  (.seq (.reg [⟨(some 2), .mv (.k (.c (.d (.bool true)))), none⟩])
  (.ret))))),
  [(2, none)]⟩
theorem cf_lvl : compFn Try.prog { own := [], comp := [], frz := [], nils := [] } Try.f20 = some sf_lvl := by kernel_rfl
set_option maxHeartbeats 800000 in
theorem lvl_c (G : Glob) (f : Int) (l : List Lp) (hl : l.length ≤ 9223372036854775807) : Den Try.prog G 20 [lpD f l] (.w (.c (.d (.bool (okB f l))))) := by
  refine den_walk Try.func20 cf_lvl rfl rfl ?_
  unfold lpD
  by_cases h1 : f < 0
  · have e : okB f l = false := by unfold okB headB; rw [decide_eq_false (by omega)]; rfl
    rw [e]
    simp only [sf_lvl, putAll, wx, wy, wz, stV, seval, IntWalk.iteOmega, IntWalk.toNatUp, reduceCtorEq]
    exact ret_d1 (by simp only [wx, wy, wz, stV, seval, IntWalk.iteOmega, IntWalk.toNatUp, reduceCtorEq])
  · by_cases h2 : f > 100
    · have e : okB f l = false := by unfold okB headB; rw [decide_eq_false (by omega)]; rfl
      rw [e]
      simp only [sf_lvl, putAll, wx, wy, wz, stV, seval, IntWalk.iteOmega, IntWalk.toNatUp, reduceCtorEq, eq_true h2]
      exact ret_d1 (by simp only [wx, wy, wz, stV, seval, IntWalk.iteOmega, IntWalk.toNatUp, reduceCtorEq])
    · by_cases h3 : (l.length : Int) > 64
      · have e : okB f l = false := by unfold okB headB; rw [decide_eq_false (by omega)]; rfl
        rw [e]
        simp only [sf_lvl, putAll, wx, wy, wz, stV, seval, IntWalk.iteOmega, IntWalk.toNatUp, reduceCtorEq, eq_false h2, eq_true h3]
        exact ret_d1 (by simp only [wx, wy, wz, stV, seval, IntWalk.iteOmega, IntWalk.toNatUp, reduceCtorEq])
      · simp only [sf_lvl, putAll, wx, wy, wz, stV, seval, IntWalk.iteOmega, IntWalk.toNatUp, reduceCtorEq, eq_false h2, eq_false h3]
        refine loop_st (lvSt l f) (fun i => l.length - i) (fun i => i ≤ l.length ∧ ∀ j, j < i → okE f l j = true) 0 ⟨Nat.zero_le _, fun j hj => by omega⟩ ?_ ?_
        · have e1 : erlN l 0 = 86400 := rfl
          have e2 : lastO f l 0 = f := rfl
          refine ent_l (fun i => i) ?_ ?_ rfl rfl <;> simp only [wx, wex, wez, stV, seval, IntWalk.iteOmega, IntWalk.toNatUp, reduceCtorEq, e1, e2]
        · rintro i ⟨hi, hok⟩
          by_cases hlt : i < l.length
          · have g := lpG_get hlt
            have ee := okE_erl hok
            have b1 := erlN_ge hok
            have b2 := lastO_in hok
            have n1 : erlN l (i + 1) = (lpG l i).1 + 172800 := rfl
            have n2 : lastO f l (i + 1) = (lpG l i).2 := rfl
            generalize lpG l i = X at *
            obtain ⟨A, O⟩ := X
            simp only at ee n1 n2
            generalize hE : erlN l i = E at *
            generalize hL : lastO f l i = L at *
            have no : okE f l i = false → okB f l = false := okB_no hlt
            by_cases c1 : A.tmod 86400 = 0
            · by_cases c2 : A < E
              · rw [no (ee.trans (decide_eq_false (by omega)))]
                simp only [lp_lvl_0, lvSt, wx, wy, wz, stV, seval, IntWalk.iteOmega, IntWalk.toNatUp, reduceCtorEq, get_map, g, spD, hE, hL, c1]
                exact ret_d1 (by simp only [wx, wy, wz, stV, seval, IntWalk.iteOmega, IntWalk.toNatUp, reduceCtorEq])
              · by_cases c3 : A > 137438953472
                · rw [no (ee.trans (decide_eq_false (by omega)))]
                  simp only [lp_lvl_0, lvSt, wx, wy, wz, stV, seval, IntWalk.iteOmega, IntWalk.toNatUp, reduceCtorEq, get_map, g, spD, hE, hL, c1, eq_true c3]
                  exact ret_d1 (by simp only [wx, wy, wz, stV, seval, IntWalk.iteOmega, IntWalk.toNatUp, reduceCtorEq])
                · have tm := tmod86 (x := A) (by omega)
                  by_cases c4 : O = L - 1
                  · have ok : okE f l i = true := ee.trans (decide_eq_true ⟨by omega, by omega, by omega, .inr c4⟩)
                    simp only [lp_lvl_0, lvSt, wx, wy, wz, stV, seval, IntWalk.iteOmega, IntWalk.toNatUp, reduceCtorEq, get_map, g, spD, hE, hL, c1, eq_false c3, c4]
                    refine lop_next (i + 1) (by omega) ⟨by omega, fun j hj => ?_⟩ (ent_l (fun i => i) ?_ ?_ rfl rfl)
                    · rcases Nat.lt_succ_iff_lt_or_eq.1 hj with hj | rfl
                      · exact hok j hj
                      · exact ok
                    all_goals simp only [wx, wex, wez, stV, seval, IntWalk.iteOmega, IntWalk.toNatUp, reduceCtorEq, n1, n2, c4]
                  · by_cases c5 : O = L + 1
                    · have ok : okE f l i = true := ee.trans (decide_eq_true ⟨by omega, by omega, by omega, .inl c5⟩)
                      simp only [lp_lvl_0, lvSt, wx, wy, wz, stV, seval, IntWalk.iteOmega, IntWalk.toNatUp, reduceCtorEq, get_map, g, spD, hE, hL, c1, eq_false c3, c4, c5]
                      refine lop_next (i + 1) (by omega) ⟨by omega, fun j hj => ?_⟩ (ent_l (fun i => i) ?_ ?_ rfl rfl)
                      · rcases Nat.lt_succ_iff_lt_or_eq.1 hj with hj | rfl
                        · exact hok j hj
                        · exact ok
                      all_goals simp only [wx, wex, wez, stV, seval, IntWalk.iteOmega, IntWalk.toNatUp, reduceCtorEq, n1, n2, c5]
                    · rw [no (ee.trans (decide_eq_false (by omega)))]
                      simp only [lp_lvl_0, lvSt, wx, wy, wz, stV, seval, IntWalk.iteOmega, IntWalk.toNatUp, reduceCtorEq, get_map, g, spD, hE, hL, c1, eq_false c3, c4, c5]
                      exact ret_d1 (by simp only [wx, wy, wz, stV, seval, IntWalk.iteOmega, IntWalk.toNatUp, reduceCtorEq])
            · have : ¬ (A % 86400 = 0 ∧ E ≤ A) := fun k => c1 (by rw [tmod86 (by omega)]; exact k.1)
              rw [no (ee.trans (decide_eq_false fun k => this ⟨k.1, k.2.1⟩))]
              simp only [lp_lvl_0, lvSt, wx, wy, wz, stV, seval, IntWalk.iteOmega, IntWalk.toNatUp, reduceCtorEq, get_map, g, spD, hE, hL, c1]
              exact ret_d1 (by simp only [wx, wy, wz, stV, seval, IntWalk.iteOmega, IntWalk.toNatUp, reduceCtorEq])
          · have hil : i = l.length := by omega
            have e : okB f l = true := okB_iff.2 ⟨⟨by omega, by omega, by omega⟩, by rw [← hil]; exact hok⟩
            rw [e]
            simp only [lp_lvl_0, lvSt, wx, wy, wz, stV, seval, IntWalk.iteOmega, IntWalk.toNatUp, reduceCtorEq]
            exact ret_d1 (by simp only [wx, wy, wz, stV, seval, IntWalk.iteOmega, IntWalk.toNatUp, reduceCtorEq])
/-! ### Offsets and steps -/
def loSt (l : List Lp) (f s : Int) (i : Nat) : St := ⟨ofL [(1, .w (.c (.d (.int .i64 s)))), (5, .w (.c (.d (.int .i64 (lastO f l i))))), (11, .w (.c (.d (.sl (l.map spD))))), (12, .w (.c (.d (.int .i64 (l.length : Int))))), (13, .w (.c (.d (.int .i64 (i : Int)))))], hL [], uL []⟩
theorem off_drop {f s : Int} {l : List Lp} {i : Nat} (hi : i < l.length) (h : (lpG l i).1 ≤ s) (e : offN (lastO f l i) (l.drop i) s = offN f l s) : offN (lastO f l (i + 1)) (l.drop (i + 1)) s = offN f l s := by
  rw [← e, drop_lp hi, off_cons_hi h]; rfl
theorem off_stop {f s : Int} {l : List Lp} {i : Nat} (hi : i < l.length) (h : s < (lpG l i).1) (e : offN (lastO f l i) (l.drop i) s = offN f l s) : lastO f l i = offN f l s := by
  rw [← e, drop_lp hi, off_cons_lo h]
theorem off_all {f s : Int} {l : List Lp} {i : Nat} (hi : i = l.length) (e : offN (lastO f l i) (l.drop i) s = offN f l s) : lastO f l i = offN f l s := by
  rw [← e, hi, List.drop_length]; rfl
def lp_lof_0 : SCode :=
  .seq (.reg [⟨(some 14), .bin .lss (.t 13) (.t 12), none⟩])
  (.seq (.cond (.t 14) (.skip)
   (.exit 0))
  (.seq (.block 1 (.seq (.reg [⟨(some 15), .idxSl 2 (.t 11) (.t 13), none⟩,
     ⟨(some 16), .load (.ag 2) (.t 15), none⟩,
     ⟨(some 7), .alloc [(.d (.int .i64 0)), (.d (.int .i64 0))], none⟩,
     ⟨none, .store (.ag 2) (.t 7) (.t 16), none⟩])
   (.seq (.seq (.reg [⟨(some 17), .fieldAddr 0 (.t 7), none⟩,
     ⟨(some 18), .load .sc (.t 17), none⟩,
     ⟨(some 19), .mv (.t 1), none⟩,
     ⟨(some 20), .bin .gtr (.t 18) (.t 19), none⟩])
   (.cond (.t 20) (.exit 0)
    (.skip)))
   (.reg [⟨(some 21), .fieldAddr 1 (.t 7), none⟩,
     ⟨(some 22), .load .sc (.t 21), none⟩,
     ⟨(some 5), .mv (.t 22), none⟩]))))
  (.reg [⟨(some 23), .bin .add (.t 13) (.k (.c (.d (.int .i64 1)))), none⟩,
    ⟨(some 13), .mv (.t 23), none⟩])))
def sf_lof : SFn := ⟨2, 25,
  .seq (.reg [⟨(some 2), .box .roBox (.t 0), none⟩,
    ⟨(some 4), .mv (.k (.c (.d (.int .i64 0)))), none⟩])
  (.seq (.reg [⟨(some 8), .fieldAddr 0 (.t 2), none⟩,
    ⟨(some 9), .load .sc (.t 8), none⟩,
    ⟨(some 5), .mv (.t 9), none⟩])
  (.seq (.seq (.reg [⟨(some 10), .fieldAddr 1 (.t 2), none⟩,
    ⟨(some 11), .load .sc (.t 10), none⟩,
    ⟨(some 12), .len (.t 11), none⟩,
    ⟨(some 13), .mv (.k (.c (.d (.int .i64 0)))), none⟩])
  (.block 0 (.loop lp_lof_0)))
  (.seq (.reg [⟨(some 24), .mv (.t 5), none⟩,
    ⟨(some 4), .mv (.t 24), none⟩])
  (.ret)))),
  [(4, none)]⟩
theorem cf_lof : compFn Try.prog { own := [], comp := [], frz := [], nils := [] } Try.f26 = some sf_lof := by kernel_rfl
theorem lof_c (G : Glob) (f : Int) (l : List Lp) (s : Int) (hl : l.length ≤ 9223372036854775807) : Den Try.prog G 26 [lpD f l, .int .i64 s] (.w (.c (.d (.int .i64 (offN f l s))))) := by
  refine den_walk Try.func26 cf_lof rfl rfl ?_
  unfold lpD
  simp only [sf_lof, putAll, wx, wy, wz, stV, seval, IntWalk.iteOmega, IntWalk.toNatUp, reduceCtorEq]
  refine loop_st (loSt l f s) (fun i => l.length - i) (fun i => i ≤ l.length ∧ offN (lastO f l i) (l.drop i) s = offN f l s) 0 ⟨Nat.zero_le _, rfl⟩ ?_ ?_
  · have e2 : lastO f l 0 = f := rfl
    refine ent_l (fun i => i) ?_ ?_ rfl rfl <;> simp only [wx, wex, wez, stV, seval, IntWalk.iteOmega, IntWalk.toNatUp, reduceCtorEq, e2]
  · rintro i ⟨hi, hok⟩
    by_cases hlt : i < l.length
    · have g := lpG_get hlt
      have n2 : lastO f l (i + 1) = (lpG l i).2 := rfl
      by_cases c : (lpG l i).1 > s
      · have e := off_stop hlt (by omega) hok
        simp only [lp_lof_0, loSt, wx, wy, wz, stV, seval, IntWalk.iteOmega, IntWalk.toNatUp, reduceCtorEq, get_map, g, spD, eq_true c]
        simp only [wx, wy, wz, stV, seval, IntWalk.iteOmega, IntWalk.toNatUp, reduceCtorEq, e]
        exact ret_d1 (by simp only [wx, wy, wz, stV, seval, IntWalk.iteOmega, IntWalk.toNatUp, reduceCtorEq])
      · have e := off_drop hlt (by omega) hok
        simp only [lp_lof_0, loSt, wx, wy, wz, stV, seval, IntWalk.iteOmega, IntWalk.toNatUp, reduceCtorEq, get_map, g, spD, eq_false c]
        refine lop_next (i + 1) (by omega) ⟨by omega, e⟩ (ent_l (fun i => i) ?_ ?_ rfl rfl) <;> simp only [wx, wex, wez, stV, seval, IntWalk.iteOmega, IntWalk.toNatUp, reduceCtorEq, n2]
    · have e := off_all (by omega) hok
      simp only [lp_lof_0, loSt, wx, wy, wz, stV, seval, IntWalk.iteOmega, IntWalk.toNatUp, reduceCtorEq]
      simp only [wx, wy, wz, stV, seval, IntWalk.iteOmega, IntWalk.toNatUp, reduceCtorEq, e]
      exact ret_d1 (by simp only [wx, wy, wz, stV, seval, IntWalk.iteOmega, IntWalk.toNatUp, reduceCtorEq])
def sf_lkn : SFn := ⟨1, 9,
  .seq (.reg [⟨(some 2), .mv (.k (.c (.d (.bool false)))), none⟩])
  (.seq (.reg [⟨(some 3), .mv (.t 0), none⟩,
    ⟨(some 4), .bin .geq (.t 3) (.k (.c (.d (.int .i64 0)))), none⟩,
    ⟨(some 5), .mv (.t 4), none⟩,
    ⟨(some 6), .mv (.t 0), (some (5, true))⟩,
    ⟨(some 7), .bin .leq (.t 6) (.k (.c (.d (.int .i64 274877906944)))), (some (5, true))⟩,
    ⟨(some 8), .pick (.t 5) (.t 7) (.k (.c (.d (.bool false)))), none⟩,
    ⟨(some 2), .mv (.t 8), none⟩])
  (.ret)),
  [(2, none)]⟩
theorem cf_lkn : compFn Try.prog { own := [], comp := [], frz := [], nils := [] } Try.f36 = some sf_lkn := by kernel_rfl
theorem lkn_c (G : Glob) (s : Int) : Den Try.prog G 36 [.int .i64 s] (.w (.c (.d (.bool (secIn s))))) := by
  refine den_walk Try.func36 cf_lkn rfl rfl ?_
  by_cases h1 : s ≥ 0
  · by_cases h2 : s ≤ 274877906944
    · rw [sec_t ⟨h1, h2⟩]
      simp only [sf_lkn, putAll, wx, wy, wz, stV, seval, IntWalk.iteOmega, IntWalk.toNatUp, reduceCtorEq, eq_true h1, eq_true h2]
      exact ret_d1 (by simp only [wx, wy, wz, stV, seval, IntWalk.iteOmega, IntWalk.toNatUp, reduceCtorEq])
    · rw [sec_f (by omega)]
      simp only [sf_lkn, putAll, wx, wy, wz, stV, seval, IntWalk.iteOmega, IntWalk.toNatUp, reduceCtorEq, eq_true h1, eq_false h2]
      exact ret_d1 (by simp only [wx, wy, wz, stV, seval, IntWalk.iteOmega, IntWalk.toNatUp, reduceCtorEq])
  · rw [sec_f (by omega)]
    simp only [sf_lkn, putAll, wx, wy, wz, stV, seval, IntWalk.iteOmega, IntWalk.toNatUp, reduceCtorEq, eq_false h1]
    exact ret_d1 (by simp only [wx, wy, wz, stV, seval, IntWalk.iteOmega, IntWalk.toNatUp, reduceCtorEq])
def sf_rin12 : SFn := ⟨1, 9,
  .seq (.reg [⟨(some 2), .mv (.k (.c (.d (.bool false)))), none⟩])
  (.seq (.reg [⟨(some 3), .mv (.t 0), none⟩,
    ⟨(some 4), .bin .geq (.t 3) (.k (.c (.d (.int .i64 0)))), none⟩,
    ⟨(some 5), .mv (.t 4), none⟩,
    ⟨(some 6), .mv (.t 0), (some (5, true))⟩,
    ⟨(some 7), .bin .leq (.t 6) (.k (.c (.d (.int .i64 274877906944)))), (some (5, true))⟩,
    ⟨(some 8), .pick (.t 5) (.t 7) (.k (.c (.d (.bool false)))), none⟩,
    ⟨(some 2), .mv (.t 8), none⟩])
  (.ret)),
  [(2, none)]⟩
theorem cf_rin12 : compFn Try.prog { own := [], comp := [], frz := [], nils := [] } Try.f27 = some sf_rin12 := by kernel_rfl
theorem rin12_c (G : Glob) (s : Int) : Den Try.prog G 27 [.int .i64 s] (.w (.c (.d (.bool (secIn s))))) := by
  refine den_walk Try.func27 cf_rin12 rfl rfl ?_
  by_cases h1 : s ≥ 0
  · by_cases h2 : s ≤ 274877906944
    · rw [sec_t ⟨h1, h2⟩]
      simp only [sf_rin12, putAll, wx, wy, wz, stV, seval, IntWalk.iteOmega, IntWalk.toNatUp, reduceCtorEq, eq_true h1, eq_true h2]
      exact ret_d1 (by simp only [wx, wy, wz, stV, seval, IntWalk.iteOmega, IntWalk.toNatUp, reduceCtorEq])
    · rw [sec_f (by omega)]
      simp only [sf_rin12, putAll, wx, wy, wz, stV, seval, IntWalk.iteOmega, IntWalk.toNatUp, reduceCtorEq, eq_true h1, eq_false h2]
      exact ret_d1 (by simp only [wx, wy, wz, stV, seval, IntWalk.iteOmega, IntWalk.toNatUp, reduceCtorEq])
  · rw [sec_f (by omega)]
    simp only [sf_rin12, putAll, wx, wy, wz, stV, seval, IntWalk.iteOmega, IntWalk.toNatUp, reduceCtorEq, eq_false h1]
    exact ret_d1 (by simp only [wx, wy, wz, stV, seval, IntWalk.iteOmega, IntWalk.toNatUp, reduceCtorEq])
def sf_ler : SFn := ⟨2, 11,
  .seq (.reg [⟨(some 2), .box .roBox (.t 0), none⟩,
    ⟨(some 4), .mv (.k (.c (.d (.int .i64 0)))), none⟩])
  (.seq (.seq (.reg [⟨(some 5), .load (.ag 2) (.t 2), none⟩,
    ⟨(some 6), .call 20 [(.t 5)] none, none⟩,
    ⟨(some 7), .un .not (.t 6), none⟩])
  (.cond (.t 7) (.seq (.reg [⟨(some 4), .mv (.k (.c (.d (.int .i64 3)))), none⟩])
   (.ret))
   (.skip)))
  (.seq (.seq (.reg [⟨(some 8), .mv (.t 1), none⟩,
    ⟨(some 9), .call 36 [(.t 8)] none, none⟩,
    ⟨(some 10), .un .not (.t 9), none⟩])
  (.cond (.t 10) (.seq (.reg [⟨(some 4), .mv (.k (.c (.d (.int .i64 4)))), none⟩])
   (.ret))
   (.skip)))
  (.seq (.reg [⟨(some 4), .mv (.k (.c (.d (.int .i64 0)))), none⟩])
  (.ret)))),
  [(4, none)]⟩
theorem cf_ler : compFn Try.prog { own := [], comp := [], frz := [], nils := [] } Try.f25 = some sf_ler := by kernel_rfl
theorem ler_c (G : Glob) (f : Int) (l : List Lp) (s : Int) (hl : l.length ≤ 9223372036854775807) : Den Try.prog G 25 [lpD f l, .int .i64 s] (.w (.c (.d (.int .i64 (secE f l s))))) := by
  refine den_walk Try.func25 cf_ler rfl rfl ?_
  have c1 := lvl_c G f l hl
  have c2 := lkn_c G s
  unfold secE
  unfold lpD at c1 ⊢
  cases h1 : okB f l <;> rw [h1] at c1
  · simp only [sf_ler, putAll, wx, wy, wz, stV, seval, IntWalk.iteOmega, IntWalk.toNatUp, reduceCtorEq]
    refine st_call (c1) rfl (.inl rfl) ?_
    simp only [wx, wy, wz, stV, seval, IntWalk.iteOmega, IntWalk.toNatUp, reduceCtorEq]
    exact ret_d1 (by simp only [wx, wy, wz, stV, seval, IntWalk.iteOmega, IntWalk.toNatUp, reduceCtorEq])
  · cases h2 : secIn s <;> rw [h2] at c2
    · simp only [sf_ler, putAll, wx, wy, wz, stV, seval, IntWalk.iteOmega, IntWalk.toNatUp, reduceCtorEq]
      refine st_call (c1) rfl (.inl rfl) ?_
      simp only [wx, wy, wz, stV, seval, IntWalk.iteOmega, IntWalk.toNatUp, reduceCtorEq]
      refine st_call (c2) rfl (.inl rfl) ?_
      simp only [wx, wy, wz, stV, seval, IntWalk.iteOmega, IntWalk.toNatUp, reduceCtorEq]
      exact ret_d1 (by simp only [wx, wy, wz, stV, seval, IntWalk.iteOmega, IntWalk.toNatUp, reduceCtorEq])
    · simp only [sf_ler, putAll, wx, wy, wz, stV, seval, IntWalk.iteOmega, IntWalk.toNatUp, reduceCtorEq]
      refine st_call (c1) rfl (.inl rfl) ?_
      simp only [wx, wy, wz, stV, seval, IntWalk.iteOmega, IntWalk.toNatUp, reduceCtorEq]
      refine st_call (c2) rfl (.inl rfl) ?_
      simp only [wx, wy, wz, stV, seval, IntWalk.iteOmega, IntWalk.toNatUp, reduceCtorEq]
      exact ret_d1 (by simp only [wx, wy, wz, stV, seval, IntWalk.iteOmega, IntWalk.toNatUp, reduceCtorEq])
def sf_lst : SFn := ⟨2, 13,
  .seq (.reg [⟨(some 2), .box .roBox (.t 0), none⟩,
    ⟨(some 4), .mv (.k (.c (.d (.int .i64 0)))), none⟩])
  (.seq (.reg [⟨(some 5), .load (.ag 2) (.t 2), none⟩,
    ⟨(some 6), .mv (.t 1), none⟩,
    ⟨(some 7), .bin .add (.t 6) (.k (.c (.d (.int .i64 1)))), none⟩,
    ⟨(some 8), .call 26 [(.t 5), (.t 7)] none, none⟩,
    ⟨(some 9), .load (.ag 2) (.t 2), none⟩,
    ⟨(some 10), .mv (.t 1), none⟩,
    ⟨(some 11), .call 26 [(.t 9), (.t 10)] none, none⟩,
    ⟨(some 12), .bin .sub (.t 8) (.t 11), none⟩,
    ⟨(some 4), .mv (.t 12), none⟩])
  (.ret)),
  [(4, none)]⟩
theorem cf_lst : compFn Try.prog { own := [], comp := [], frz := [], nils := [] } Try.f31 = some sf_lst := by kernel_rfl
theorem lst_c (G : Glob) (f : Int) (l : List Lp) (s : Int) (hl : l.length ≤ 9223372036854775807) (h : okB f l = true) (h1 : -9223372036854775808 ≤ s) (h2 : s < 9223372036854775807) : Den Try.prog G 31 [lpD f l, .int .i64 s] (.w (.c (.d (.int .i64 (stpN f l s))))) := by
  refine den_walk Try.func31 cf_lst rfl rfl ?_
  have a := off_in h s
  have b := off_in h (s + 1)
  have c1 := lof_c G f l s hl
  have c2 := lof_c G f l (s + 1) hl
  unfold lpD at c1 c2 ⊢
  unfold stpN
  generalize offN f l s = X at *
  generalize offN f l (s + 1) = Y at *
  simp only [sf_lst, putAll, wx, wy, wz, stV, seval, IntWalk.iteOmega, IntWalk.toNatUp, reduceCtorEq]
  refine st_call (c2) rfl (.inl rfl) ?_
  simp only [wx, wy, wz, stV, seval, IntWalk.iteOmega, IntWalk.toNatUp, reduceCtorEq]
  refine st_call (c1) rfl (.inl rfl) ?_
  simp only [wx, wy, wz, stV, seval, IntWalk.iteOmega, IntWalk.toNatUp, reduceCtorEq]
  exact ret_d1 (by simp only [wx, wy, wz, stV, seval, IntWalk.iteOmega, IntWalk.toNatUp, reduceCtorEq])
def sf_lofs : SFn := ⟨2, 16,
  .seq (.reg [⟨(some 2), .box .roBox (.t 0), none⟩,
    ⟨(some 4), .mv (.k (.c (.d (.int .i64 0)))), none⟩,
    ⟨(some 5), .mv (.k (.c (.d (.int .i64 0)))), none⟩])
  (.seq (.seq (.reg [⟨(some 7), .load (.ag 2) (.t 2), none⟩,
    ⟨(some 8), .mv (.t 1), none⟩,
    ⟨(some 9), .call 25 [(.t 7), (.t 8)] none, none⟩,
    ⟨(some 6), .mv (.t 9), none⟩])
  (.seq (.reg [⟨(some 10), .mv (.t 6), none⟩,
    ⟨(some 11), .bin .neq (.t 10) (.k (.c (.d (.int .i64 0)))), none⟩])
  (.cond (.t 11) (.seq (.reg [⟨(some 12), .mv (.t 6), none⟩,
     ⟨(some 4), .mv (.k (.c (.d (.int .i64 0)))), none⟩,
     ⟨(some 5), .mv (.t 12), none⟩])
   (.ret))
   (.skip))))
  (.seq (.reg [⟨(some 13), .load (.ag 2) (.t 2), none⟩,
    ⟨(some 14), .mv (.t 1), none⟩,
    ⟨(some 15), .call 26 [(.t 13), (.t 14)] none, none⟩,
    ⟨(some 4), .mv (.t 15), none⟩,
    ⟨(some 5), .mv (.k (.c (.d (.int .i64 0)))), none⟩])
  (.ret))),
  [(4, none), (5, none)]⟩
theorem cf_lofs : compFn Try.prog { own := [], comp := [], frz := [], nils := [] } Try.f10 = some sf_lofs := by kernel_rfl
theorem lofs_c (G : Glob) (f : Int) (l : List Lp) (s : Int) (hl : l.length ≤ 9223372036854775807) : Den Try.prog G 10 [lpD f l, .int .i64 s] (.tup [.c (.d (.int .i64 (offV f l s))), .c (.d (.int .i64 (secE f l s)))]) := by
  refine den_walk Try.func10 cf_lofs rfl rfl ?_
  have c1 := ler_c G f l s hl
  have c2 := lof_c G f l s hl
  unfold offV
  unfold lpD at c1 c2 ⊢
  cases h1 : okB f l
  · have e : secE f l s = 3 := by unfold secE; rw [h1]; rfl
    rw [e] at c1 ⊢
    simp only [sf_lofs, putAll, wx, wy, wz, stV, seval, IntWalk.iteOmega, IntWalk.toNatUp, reduceCtorEq]
    refine st_call (c1) rfl (.inl rfl) ?_
    simp only [wx, wy, wz, stV, seval, IntWalk.iteOmega, IntWalk.toNatUp, reduceCtorEq]
    exact ret_d2 (by simp only [wx, wy, wz, stV, seval, IntWalk.iteOmega, IntWalk.toNatUp, reduceCtorEq]) (by simp only [wx, wy, wz, stV, seval, IntWalk.iteOmega, IntWalk.toNatUp, reduceCtorEq])
  · cases h2 : secIn s
    · have e : secE f l s = 4 := by unfold secE; rw [h1, h2]; rfl
      rw [e] at c1 ⊢
      simp only [sf_lofs, putAll, wx, wy, wz, stV, seval, IntWalk.iteOmega, IntWalk.toNatUp, reduceCtorEq]
      refine st_call (c1) rfl (.inl rfl) ?_
      simp only [wx, wy, wz, stV, seval, IntWalk.iteOmega, IntWalk.toNatUp, reduceCtorEq]
      exact ret_d2 (by simp only [wx, wy, wz, stV, seval, IntWalk.iteOmega, IntWalk.toNatUp, reduceCtorEq]) (by simp only [wx, wy, wz, stV, seval, IntWalk.iteOmega, IntWalk.toNatUp, reduceCtorEq])
    · have e : secE f l s = 0 := by unfold secE; rw [h1, h2]; rfl
      rw [e] at c1 ⊢
      simp only [sf_lofs, putAll, wx, wy, wz, stV, seval, IntWalk.iteOmega, IntWalk.toNatUp, reduceCtorEq]
      refine st_call (c1) rfl (.inl rfl) ?_
      simp only [wx, wy, wz, stV, seval, IntWalk.iteOmega, IntWalk.toNatUp, reduceCtorEq]
      refine st_call (c2) rfl (.inl rfl) ?_
      simp only [wx, wy, wz, stV, seval, IntWalk.iteOmega, IntWalk.toNatUp, reduceCtorEq]
      exact ret_d2 (by simp only [wx, wy, wz, stV, seval, IntWalk.iteOmega, IntWalk.toNatUp, reduceCtorEq]) (by simp only [wx, wy, wz, stV, seval, IntWalk.iteOmega, IntWalk.toNatUp, reduceCtorEq])
def sf_lsts : SFn := ⟨2, 16,
  .seq (.reg [⟨(some 2), .box .roBox (.t 0), none⟩,
    ⟨(some 4), .mv (.k (.c (.d (.int .i64 0)))), none⟩,
    ⟨(some 5), .mv (.k (.c (.d (.int .i64 0)))), none⟩])
  (.seq (.seq (.reg [⟨(some 7), .load (.ag 2) (.t 2), none⟩,
    ⟨(some 8), .mv (.t 1), none⟩,
    ⟨(some 9), .call 25 [(.t 7), (.t 8)] none, none⟩,
    ⟨(some 6), .mv (.t 9), none⟩])
  (.seq (.reg [⟨(some 10), .mv (.t 6), none⟩,
    ⟨(some 11), .bin .neq (.t 10) (.k (.c (.d (.int .i64 0)))), none⟩])
  (.cond (.t 11) (.seq (.reg [⟨(some 12), .mv (.t 6), none⟩,
     ⟨(some 4), .mv (.k (.c (.d (.int .i64 0)))), none⟩,
     ⟨(some 5), .mv (.t 12), none⟩])
   (.ret))
   (.skip))))
  (.seq (.reg [⟨(some 13), .load (.ag 2) (.t 2), none⟩,
    ⟨(some 14), .mv (.t 1), none⟩,
    ⟨(some 15), .call 31 [(.t 13), (.t 14)] none, none⟩,
    ⟨(some 4), .mv (.t 15), none⟩,
    ⟨(some 5), .mv (.k (.c (.d (.int .i64 0)))), none⟩])
  (.ret))),
  [(4, none), (5, none)]⟩
theorem cf_lsts : compFn Try.prog { own := [], comp := [], frz := [], nils := [] } Try.f18 = some sf_lsts := by kernel_rfl
theorem lsts_c (G : Glob) (f : Int) (l : List Lp) (s : Int) (hl : l.length ≤ 9223372036854775807) : Den Try.prog G 18 [lpD f l, .int .i64 s] (.tup [.c (.d (.int .i64 (stpV f l s))), .c (.d (.int .i64 (secE f l s)))]) := by
  refine den_walk Try.func18 cf_lsts rfl rfl ?_
  have c1 := ler_c G f l s hl
  unfold stpV
  unfold lpD at c1 ⊢
  cases h1 : okB f l
  · have e : secE f l s = 3 := by unfold secE; rw [h1]; rfl
    rw [e] at c1 ⊢
    simp only [sf_lsts, putAll, wx, wy, wz, stV, seval, IntWalk.iteOmega, IntWalk.toNatUp, reduceCtorEq]
    refine st_call (c1) rfl (.inl rfl) ?_
    simp only [wx, wy, wz, stV, seval, IntWalk.iteOmega, IntWalk.toNatUp, reduceCtorEq]
    exact ret_d2 (by simp only [wx, wy, wz, stV, seval, IntWalk.iteOmega, IntWalk.toNatUp, reduceCtorEq]) (by simp only [wx, wy, wz, stV, seval, IntWalk.iteOmega, IntWalk.toNatUp, reduceCtorEq])
  · cases h2 : secIn s
    · have e : secE f l s = 4 := by unfold secE; rw [h1, h2]; rfl
      rw [e] at c1 ⊢
      simp only [sf_lsts, putAll, wx, wy, wz, stV, seval, IntWalk.iteOmega, IntWalk.toNatUp, reduceCtorEq]
      refine st_call (c1) rfl (.inl rfl) ?_
      simp only [wx, wy, wz, stV, seval, IntWalk.iteOmega, IntWalk.toNatUp, reduceCtorEq]
      exact ret_d2 (by simp only [wx, wy, wz, stV, seval, IntWalk.iteOmega, IntWalk.toNatUp, reduceCtorEq]) (by simp only [wx, wy, wz, stV, seval, IntWalk.iteOmega, IntWalk.toNatUp, reduceCtorEq])
    · have e : secE f l s = 0 := by unfold secE; rw [h1, h2]; rfl
      have := sec_i h2
      have c2 := lst_c G f l s hl h1 (by omega) (by omega)
      unfold lpD at c2
      rw [e] at c1 ⊢
      simp only [sf_lsts, putAll, wx, wy, wz, stV, seval, IntWalk.iteOmega, IntWalk.toNatUp, reduceCtorEq]
      refine st_call (c1) rfl (.inl rfl) ?_
      simp only [wx, wy, wz, stV, seval, IntWalk.iteOmega, IntWalk.toNatUp, reduceCtorEq]
      refine st_call (c2) rfl (.inl rfl) ?_
      simp only [wx, wy, wz, stV, seval, IntWalk.iteOmega, IntWalk.toNatUp, reduceCtorEq]
      exact ret_d2 (by simp only [wx, wy, wz, stV, seval, IntWalk.iteOmega, IntWalk.toNatUp, reduceCtorEq]) (by simp only [wx, wy, wz, stV, seval, IntWalk.iteOmega, IntWalk.toNatUp, reduceCtorEq])
def sf_lrd : SFn := ⟨3, 20,
  .seq (.reg [⟨(some 3), .box .roBox (.t 0), none⟩,
    ⟨(some 6), .mv (.k (.c (.d (.int .i64 0)))), none⟩])
  (.seq (.seq (.reg [⟨(some 8), .load (.ag 2) (.t 3), none⟩,
    ⟨(some 9), .mv (.t 1), none⟩,
    ⟨(some 10), .call 25 [(.t 8), (.t 9)] none, none⟩,
    ⟨(some 7), .mv (.t 10), none⟩])
  (.seq (.reg [⟨(some 11), .mv (.t 7), none⟩,
    ⟨(some 12), .bin .neq (.t 11) (.k (.c (.d (.int .i64 0)))), none⟩])
  (.cond (.t 12) (.seq (.reg [⟨(some 13), .mv (.t 7), none⟩,
     ⟨(some 6), .mv (.t 13), none⟩])
   (.ret))
   (.skip))))
  (.seq (.seq (.reg [⟨(some 14), .mv (.t 2), none⟩,
    ⟨(some 15), .bin .lss (.t 14) (.k (.c (.d (.int .i64 0)))), none⟩,
    ⟨(some 16), .mv (.t 15), none⟩,
    ⟨(some 17), .mv (.t 2), (some (16, false))⟩,
    ⟨(some 18), .bin .geq (.t 17) (.k (.c (.d (.int .i64 1048576)))), (some (16, false))⟩,
    ⟨(some 19), .pick (.t 16) (.k (.c (.d (.bool true)))) (.t 18), none⟩])
  (.cond (.t 19) (.seq (.reg [⟨(some 6), .mv (.k (.c (.d (.int .i64 4)))), none⟩])
   (.ret))
   (.skip)))
  (.seq (.reg [⟨(some 6), .mv (.k (.c (.d (.int .i64 0)))), none⟩])
  (.ret)))),
  [(6, none)]⟩
theorem cf_lrd : compFn Try.prog { own := [], comp := [], frz := [], nils := [] } Try.f29 = some sf_lrd := by kernel_rfl
theorem lrd_c (G : Glob) (f : Int) (l : List Lp) (s k : Int) (hl : l.length ≤ 9223372036854775807) : Den Try.prog G 29 [lpD f l, .int .i64 s, .int .i64 k] (.w (.c (.d (.int .i64 (redE f l s k))))) := by
  refine den_walk Try.func29 cf_lrd rfl rfl ?_
  have c1 := ler_c G f l s hl
  unfold redE
  unfold lpD at c1 ⊢
  cases h1 : okB f l
  · have e : secE f l s = 3 := by unfold secE; rw [h1]; rfl
    rw [e] at c1
    simp only [sf_lrd, putAll, wx, wy, wz, stV, seval, IntWalk.iteOmega, IntWalk.toNatUp, reduceCtorEq]
    refine st_call (c1) rfl (.inl rfl) ?_
    simp only [wx, wy, wz, stV, seval, IntWalk.iteOmega, IntWalk.toNatUp, reduceCtorEq]
    exact ret_d1 (by simp only [wx, wy, wz, stV, seval, IntWalk.iteOmega, IntWalk.toNatUp, reduceCtorEq])
  · cases h2 : secIn s
    · have e : secE f l s = 4 := by unfold secE; rw [h1, h2]; rfl
      rw [e] at c1
      simp only [sf_lrd, putAll, wx, wy, wz, stV, seval, IntWalk.iteOmega, IntWalk.toNatUp, reduceCtorEq]
      refine st_call (c1) rfl (.inl rfl) ?_
      simp only [wx, wy, wz, stV, seval, IntWalk.iteOmega, IntWalk.toNatUp, reduceCtorEq]
      exact ret_d1 (by simp only [wx, wy, wz, stV, seval, IntWalk.iteOmega, IntWalk.toNatUp, reduceCtorEq])
    · have e : secE f l s = 0 := by unfold secE; rw [h1, h2]; rfl
      rw [e] at c1
      by_cases h3 : k < 0
      · rw [show tikIn k = false from decide_eq_false (by omega)]
        simp only [sf_lrd, putAll, wx, wy, wz, stV, seval, IntWalk.iteOmega, IntWalk.toNatUp, reduceCtorEq]
        refine st_call (c1) rfl (.inl rfl) ?_
        simp only [wx, wy, wz, stV, seval, IntWalk.iteOmega, IntWalk.toNatUp, reduceCtorEq]
        exact ret_d1 (by simp only [wx, wy, wz, stV, seval, IntWalk.iteOmega, IntWalk.toNatUp, reduceCtorEq])
      · by_cases h4 : k ≥ 1048576
        · rw [show tikIn k = false from decide_eq_false (by omega)]
          simp only [sf_lrd, putAll, wx, wy, wz, stV, seval, IntWalk.iteOmega, IntWalk.toNatUp, reduceCtorEq]
          refine st_call (c1) rfl (.inl rfl) ?_
          simp only [eq_true h4, wx, wy, wz, stV, seval, IntWalk.iteOmega, IntWalk.toNatUp, reduceCtorEq]
          exact ret_d1 (by simp only [wx, wy, wz, stV, seval, IntWalk.iteOmega, IntWalk.toNatUp, reduceCtorEq])
        · rw [show tikIn k = true from decide_eq_true (by omega)]
          simp only [sf_lrd, putAll, wx, wy, wz, stV, seval, IntWalk.iteOmega, IntWalk.toNatUp, reduceCtorEq]
          refine st_call (c1) rfl (.inl rfl) ?_
          simp only [eq_false h4, wx, wy, wz, stV, seval, IntWalk.iteOmega, IntWalk.toNatUp, reduceCtorEq]
          exact ret_d1 (by simp only [wx, wy, wz, stV, seval, IntWalk.iteOmega, IntWalk.toNatUp, reduceCtorEq])
def shwB (p : Int) (b : Bool) : Bool := if p = -1 then false else if p = 0 then !b else true
theorem shw_none {f : Int} {l : List Lp} (h : okB f l = true) (s : Int) (b : Bool) : shwB (stpN f l s) b = !noneB f l s b := by
  unfold shwB noneB
  rcases stp_3 h s with e | e | e <;> rw [e] <;> cases b <;> rfl
def sf_lsh : SFn := ⟨2, 12,
  .seq (.reg [⟨(some 4), .mv (.k (.c (.d (.bool false)))), none⟩])
  (.seq (.seq (.reg [⟨(some 5), .mv (.t 0), none⟩])
  (.block 0 (.seq (.reg [⟨(some 7), .bin .eql (.t 5) (.k (.c (.d (.int .i64 (-1))))), none⟩,
     ⟨(some 6), .mv (.t 7), none⟩])
   (.cond (.t 6) (.seq (.reg [⟨(some 4), .mv (.k (.c (.d (.bool false)))), none⟩])
    (.ret))
    (.seq (.reg [⟨(some 9), .bin .eql (.t 5) (.k (.c (.d (.int .i64 0)))), none⟩,
      ⟨(some 8), .mv (.t 9), none⟩])
    (.cond (.t 8) (.seq (.reg [⟨(some 10), .mv (.t 1), none⟩,
       ⟨(some 11), .un .not (.t 10), none⟩,
       ⟨(some 4), .mv (.t 11), none⟩])
     (.ret))
     (.skip)))))))
  (.seq (.reg [⟨(some 4), .mv (.k (.c (.d (.bool true)))), none⟩])
  (.ret))),
  [(4, none)]⟩
theorem cf_lsh : compFn Try.prog { own := [], comp := [], frz := [], nils := [] } Try.f30 = some sf_lsh := by kernel_rfl
theorem lsh_c (G : Glob) (p : Int) (b : Bool) : Den Try.prog G 30 [.int .i64 p, .bool b] (.w (.c (.d (.bool (shwB p b))))) := by
  refine den_walk Try.func30 cf_lsh rfl rfl ?_
  unfold shwB
  by_cases h1 : p = -1
  · rw [if_pos h1]
    simp only [sf_lsh, putAll, wx, wy, wz, stV, seval, IntWalk.iteOmega, IntWalk.toNatUp, reduceCtorEq, h1]
    exact ret_d1 (by simp only [wx, wy, wz, stV, seval, IntWalk.iteOmega, IntWalk.toNatUp, reduceCtorEq])
  · rw [if_neg h1]
    by_cases h2 : p = 0
    · rw [if_pos h2]
      simp only [sf_lsh, putAll, wx, wy, wz, stV, seval, IntWalk.iteOmega, IntWalk.toNatUp, reduceCtorEq, h1, h2]
      exact ret_d1 (by simp only [wx, wy, wz, stV, seval, IntWalk.iteOmega, IntWalk.toNatUp, reduceCtorEq])
    · rw [if_neg h2]
      simp only [sf_lsh, putAll, wx, wy, wz, stV, seval, IntWalk.iteOmega, IntWalk.toNatUp, reduceCtorEq, h1, h2]
      exact ret_d1 (by simp only [wx, wy, wz, stV, seval, IntWalk.iteOmega, IntWalk.toNatUp, reduceCtorEq])
def sf_lin : SFn := ⟨2, 22,
  .seq (.reg [⟨(some 2), .box .roBox (.t 0), none⟩,
    ⟨(some 3), .box .roBox (.t 1), none⟩,
    ⟨(some 4), .mv (.k (.c (.d (.int .i64 0)))), none⟩])
  (.seq (.reg [⟨(some 6), .fieldAddr 0 (.t 3), none⟩,
    ⟨(some 7), .load .sc (.t 6), none⟩,
    ⟨(some 8), .load (.ag 2) (.t 2), none⟩,
    ⟨(some 9), .fieldAddr 0 (.t 3), none⟩,
    ⟨(some 10), .load .sc (.t 9), none⟩,
    ⟨(some 11), .call 26 [(.t 8), (.t 10)] none, none⟩,
    ⟨(some 12), .bin .add (.t 7) (.t 11), none⟩,
    ⟨(some 5), .mv (.t 12), none⟩])
  (.seq (.seq (.reg [⟨(some 13), .fieldAddr 1 (.t 3), none⟩,
    ⟨(some 14), .load .sc (.t 13), none⟩])
  (.cond (.t 14) (.reg [⟨(some 15), .mv (.t 5), none⟩,
     ⟨(some 16), .bin .add (.t 15) (.k (.c (.d (.int .i64 1)))), none⟩,
     ⟨(some 5), .mv (.t 16), none⟩])
   (.skip)))
  (.seq (.reg [⟨(some 17), .mv (.t 5), none⟩,
    ⟨(some 18), .bin .shl (.t 17) (.k (.c (.d (.int .u64 20)))), none⟩,
    ⟨(some 19), .fieldAddr 2 (.t 3), none⟩,
    ⟨(some 20), .load .sc (.t 19), none⟩,
    ⟨(some 21), .bin .add (.t 18) (.t 20), none⟩,
    ⟨(some 4), .mv (.t 21), none⟩])
  (.ret)))),
  [(4, none)]⟩
theorem cf_lin : compFn Try.prog { own := [], comp := [], frz := [], nils := [] } Try.f32 = some sf_lin := by kernel_rfl
theorem lin_c (G : Glob) (f : Int) (l : List Lp) (s : Int) (b : Bool) (k : Int) (hl : l.length ≤ 9223372036854775807) (h : okB f l = true) (hs : secIn s = true) (hk : tikIn k = true) : Den Try.prog G 32 [lpD f l, .agg [.int .i64 s, .bool b, .int .i64 k]] (.w (.c (.d (.int .i64 (taiS f l s b * 1048576 + k))))) := by
  refine den_walk Try.func32 cf_lin rfl rfl ?_
  have a := off_in h s
  have c1 := lof_c G f l s hl
  have h1 := sec_i hs
  have h2 := tik_i hk
  unfold lpD at c1 ⊢
  unfold taiS taiN bI
  generalize offN f l s = X at *
  cases b
  · simp only [sf_lin, putAll, wx, wy, wz, stV, seval, IntWalk.iteOmega, IntWalk.toNatUp, reduceCtorEq]
    refine st_call (c1) rfl (.inl rfl) ?_
    simp only [bI64, wx, wy, wz, stV, seval, IntWalk.iteOmega, IntWalk.toNatUp, reduceCtorEq]
    exact ret_d1 (by simp only [wx, wy, wz, stV, seval, IntWalk.iteOmega, IntWalk.toNatUp, reduceCtorEq, Bool.false_eq_true, Int.add_zero])
  · simp only [sf_lin, putAll, wx, wy, wz, stV, seval, IntWalk.iteOmega, IntWalk.toNatUp, reduceCtorEq]
    refine st_call (c1) rfl (.inl rfl) ?_
    simp only [bI64, wx, wy, wz, stV, seval, IntWalk.iteOmega, IntWalk.toNatUp, reduceCtorEq]
    exact ret_d1 (by simp only [wx, wy, wz, stV, seval, IntWalk.iteOmega, IntWalk.toNatUp, reduceCtorEq])
/-! ### TAI, Number -/
def sf_ltai : SFn := ⟨2, 27,
  .seq (.reg [⟨(some 2), .box .roBox (.t 0), none⟩,
    ⟨(some 3), .box .roBox (.t 1), none⟩,
    ⟨(some 4), .mv (.k (.c (.d (.int .i64 0)))), none⟩,
    ⟨(some 5), .mv (.k (.c (.d (.int .i64 0)))), none⟩])
  (.seq (.seq (.reg [⟨(some 7), .load (.ag 2) (.t 2), none⟩,
    ⟨(some 8), .fieldAddr 0 (.t 3), none⟩,
    ⟨(some 9), .load .sc (.t 8), none⟩,
    ⟨(some 10), .fieldAddr 2 (.t 3), none⟩,
    ⟨(some 11), .load .sc (.t 10), none⟩,
    ⟨(some 12), .call 29 [(.t 7), (.t 9), (.t 11)] none, none⟩,
    ⟨(some 6), .mv (.t 12), none⟩])
  (.seq (.reg [⟨(some 13), .mv (.t 6), none⟩,
    ⟨(some 14), .bin .neq (.t 13) (.k (.c (.d (.int .i64 0)))), none⟩])
  (.cond (.t 14) (.seq (.reg [⟨(some 15), .mv (.t 6), none⟩,
     ⟨(some 4), .mv (.k (.c (.d (.int .i64 0)))), none⟩,
     ⟨(some 5), .mv (.t 15), none⟩])
   (.ret))
   (.skip))))
  (.seq (.seq (.reg [⟨(some 16), .load (.ag 2) (.t 2), none⟩,
    ⟨(some 17), .fieldAddr 0 (.t 3), none⟩,
    ⟨(some 18), .load .sc (.t 17), none⟩,
    ⟨(some 19), .call 31 [(.t 16), (.t 18)] none, none⟩,
    ⟨(some 20), .fieldAddr 1 (.t 3), none⟩,
    ⟨(some 21), .load .sc (.t 20), none⟩,
    ⟨(some 22), .call 30 [(.t 19), (.t 21)] none, none⟩,
    ⟨(some 23), .un .not (.t 22), none⟩])
  (.cond (.t 23) (.seq (.reg [⟨(some 4), .mv (.k (.c (.d (.int .i64 0)))), none⟩,
     ⟨(some 5), .mv (.k (.c (.d (.int .i64 10)))), none⟩])
   (.ret))
   (.skip)))
  (.seq (.reg [⟨(some 24), .load (.ag 2) (.t 2), none⟩,
    ⟨(some 25), .load (.ag 3) (.t 3), none⟩,
    ⟨(some 26), .call 32 [(.t 24), (.t 25)] none, none⟩,
    ⟨(some 4), .mv (.t 26), none⟩,
    ⟨(some 5), .mv (.k (.c (.d (.int .i64 0)))), none⟩])
  (.ret)))),
  [(4, none), (5, none)]⟩
theorem cf_ltai : compFn Try.prog { own := [], comp := [], frz := [], nils := [] } Try.f12 = some sf_ltai := by kernel_rfl
theorem ltai_c (G : Glob) (f : Int) (l : List Lp) (s : Int) (b : Bool) (k : Int) (hl : l.length ≤ 9223372036854775807) : Den Try.prog G 12 [lpD f l, .agg [.int .i64 s, .bool b, .int .i64 k]] (.tup [.c (.d (.int .i64 (taiV f l s b k))), .c (.d (.int .i64 (taiE f l s b k)))]) := by
  refine den_walk Try.func12 cf_ltai rfl rfl ?_
  have c1 := lrd_c G f l s k hl
  unfold taiV taiB taiE
  unfold redE at c1
  unfold lpD at c1 ⊢
  cases h1 : okB f l
  · rw [h1] at c1
    simp only [Bool.false_eq_true, if_false] at c1
    simp only [sf_ltai, putAll, wx, wy, wz, stV, seval, IntWalk.iteOmega, IntWalk.toNatUp, reduceCtorEq]
    refine st_call (c1) rfl (.inl rfl) ?_
    simp only [wx, wy, wz, stV, seval, IntWalk.iteOmega, IntWalk.toNatUp, reduceCtorEq]
    exact ret_d2 (by simp only [wx, wy, wz, stV, seval, IntWalk.iteOmega, IntWalk.toNatUp, reduceCtorEq]) (by simp only [wx, wy, wz, stV, seval, IntWalk.iteOmega, IntWalk.toNatUp, reduceCtorEq])
  · cases h2 : (secIn s && tikIn k)
    · rw [h1, h2] at c1
      simp only [Bool.false_eq_true, if_false, if_true] at c1
      simp only [sf_ltai, putAll, wx, wy, wz, stV, seval, IntWalk.iteOmega, IntWalk.toNatUp, reduceCtorEq]
      refine st_call (c1) rfl (.inl rfl) ?_
      simp only [wx, wy, wz, stV, seval, IntWalk.iteOmega, IntWalk.toNatUp, reduceCtorEq]
      exact ret_d2 (by simp only [wx, wy, wz, stV, seval, IntWalk.iteOmega, IntWalk.toNatUp, reduceCtorEq]) (by simp only [wx, wy, wz, stV, seval, IntWalk.iteOmega, IntWalk.toNatUp, reduceCtorEq])
    · rw [h1, h2] at c1
      simp only [if_true] at c1
      have hs : secIn s = true := by cases e : secIn s <;> simp_all
      have hk : tikIn k = true := by cases e : tikIn k <;> simp_all
      have := sec_i hs
      have c2 := lst_c G f l s hl h1 (by omega) (by omega)
      have c3 := lsh_c G (stpN f l s) b
      rw [shw_none h1] at c3
      have c4 := lin_c G f l s b k hl h1 hs hk
      unfold lpD at c2 c4
      cases h3 : noneB f l s b
      · rw [h3] at c3
        simp only [sf_ltai, putAll, wx, wy, wz, stV, seval, IntWalk.iteOmega, IntWalk.toNatUp, reduceCtorEq]
        refine st_call (c1) rfl (.inl rfl) ?_
        simp only [wx, wy, wz, stV, seval, IntWalk.iteOmega, IntWalk.toNatUp, reduceCtorEq]
        refine st_call (c2) rfl (.inl rfl) ?_
        simp only [wx, wy, wz, stV, seval, IntWalk.iteOmega, IntWalk.toNatUp, reduceCtorEq]
        refine st_call (c3) rfl (.inl rfl) ?_
        simp only [wx, wy, wz, stV, seval, IntWalk.iteOmega, IntWalk.toNatUp, reduceCtorEq]
        refine st_call (c4) rfl (.inl rfl) ?_
        simp only [wx, wy, wz, stV, seval, IntWalk.iteOmega, IntWalk.toNatUp, reduceCtorEq]
        exact ret_d2 (by simp only [wx, wy, wz, stV, seval, IntWalk.iteOmega, IntWalk.toNatUp, reduceCtorEq]) (by simp only [wx, wy, wz, stV, seval, IntWalk.iteOmega, IntWalk.toNatUp, reduceCtorEq])
      · rw [h3] at c3
        simp only [sf_ltai, putAll, wx, wy, wz, stV, seval, IntWalk.iteOmega, IntWalk.toNatUp, reduceCtorEq]
        refine st_call (c1) rfl (.inl rfl) ?_
        simp only [wx, wy, wz, stV, seval, IntWalk.iteOmega, IntWalk.toNatUp, reduceCtorEq]
        refine st_call (c2) rfl (.inl rfl) ?_
        simp only [wx, wy, wz, stV, seval, IntWalk.iteOmega, IntWalk.toNatUp, reduceCtorEq]
        refine st_call (c3) rfl (.inl rfl) ?_
        simp only [wx, wy, wz, stV, seval, IntWalk.iteOmega, IntWalk.toNatUp, reduceCtorEq]
        exact ret_d2 (by simp only [wx, wy, wz, stV, seval, IntWalk.iteOmega, IntWalk.toNatUp, reduceCtorEq]) (by simp only [wx, wy, wz, stV, seval, IntWalk.iteOmega, IntWalk.toNatUp, reduceCtorEq])
def sf_lnum : SFn := ⟨3, 38,
  .seq (.reg [⟨(some 3), .box .roBox (.t 0), none⟩,
    ⟨(some 6), .alloc [(.d (.int .i64 0)), (.d (.int .i64 0))], none⟩,
    ⟨(some 7), .mv (.k (.c (.d (.int .i64 0)))), none⟩])
  (.seq (.seq (.reg [⟨(some 10), .load (.ag 2) (.t 3), none⟩,
    ⟨(some 11), .mv (.t 1), none⟩,
    ⟨(some 12), .mv (.t 2), none⟩,
    ⟨(some 13), .call 29 [(.t 10), (.t 11), (.t 12)] none, none⟩,
    ⟨(some 8), .mv (.t 13), none⟩])
  (.seq (.reg [⟨(some 14), .mv (.t 8), none⟩,
    ⟨(some 15), .bin .neq (.t 14) (.k (.c (.d (.int .i64 0)))), none⟩])
  (.cond (.t 15) (.seq (.reg [⟨(some 16), .build [(.d (.int .i64 0)), (.d (.int .i64 0))] [], none⟩,
     ⟨(some 17), .mv (.t 8), none⟩,
     ⟨none, .store (.ag 2) (.t 6) (.t 16), none⟩,
     ⟨(some 7), .mv (.t 17), none⟩])
   (.ret))
   (.skip))))
  (.seq (.reg [⟨(some 18), .load (.ag 2) (.t 3), none⟩,
    ⟨(some 19), .mv (.t 1), none⟩,
    ⟨(some 20), .call 31 [(.t 18), (.t 19)] none, none⟩,
    ⟨(some 9), .mv (.t 20), none⟩])
  (.seq (.seq (.reg [⟨(some 21), .mv (.t 9), none⟩,
    ⟨(some 22), .call 30 [(.t 21), (.k (.c (.d (.bool false))))] none, none⟩,
    ⟨(some 23), .un .not (.t 22), none⟩])
  (.cond (.t 23) (.seq (.reg [⟨(some 24), .build [(.d (.int .i64 0)), (.d (.int .i64 0))] [], none⟩,
     ⟨none, .store (.ag 2) (.t 6) (.t 24), none⟩,
     ⟨(some 7), .mv (.k (.c (.d (.int .i64 10)))), none⟩])
   (.ret))
   (.skip)))
  (.seq (.reg [⟨(some 25), .load (.ag 2) (.t 3), none⟩,
    ⟨(some 26), .mv (.t 1), none⟩,
    ⟨(some 27), .mv (.t 2), none⟩,
    ⟨(some 28), .build [(.d (.int .i64 0)), (.d (.bool false)), (.d (.int .i64 0))] [(0, 1, (.t 26)), (2, 1, (.t 27))], none⟩,
    ⟨(some 29), .call 32 [(.t 25), (.t 28)] none, none⟩,
    ⟨(some 30), .load (.ag 2) (.t 3), none⟩,
    ⟨(some 31), .mv (.t 1), none⟩,
    ⟨(some 32), .mv (.t 9), none⟩,
    ⟨(some 33), .bin .eql (.t 32) (.k (.c (.d (.int .i64 1)))), none⟩,
    ⟨(some 34), .mv (.t 2), none⟩,
    ⟨(some 35), .build [(.d (.int .i64 0)), (.d (.bool false)), (.d (.int .i64 0))] [(0, 1, (.t 31)), (1, 1, (.t 33)), (2, 1, (.t 34))], none⟩,
    ⟨(some 36), .call 32 [(.t 30), (.t 35)] none, none⟩,
    ⟨(some 37), .build [(.d (.int .i64 0)), (.d (.int .i64 0))] [(0, 1, (.t 29)), (1, 1, (.t 36))], none⟩,
    ⟨none, .store (.ag 2) (.t 6) (.t 37), none⟩,
    ⟨(some 7), .mv (.k (.c (.d (.int .i64 0)))), none⟩])
  (.ret))))),
  [(6, (some (.ag 2))), (7, none)]⟩
theorem cf_lnum : compFn Try.prog { own := [], comp := [], frz := [], nils := [] } Try.f16 = some sf_lnum := by kernel_rfl
theorem lnum_c (G : Glob) (f : Int) (l : List Lp) (s k : Int) (hl : l.length ≤ 9223372036854775807) : Den Try.prog G 16 [lpD f l, .int .i64 s, .int .i64 k] (.tup [.c (.d (.agg [.int .i64 (taiV f l s false k), .int .i64 (numHi f l s k)])), .c (.d (.int .i64 (taiE f l s false k)))]) := by
  refine den_walk Try.func16 cf_lnum rfl rfl ?_
  have c1 := lrd_c G f l s k hl
  unfold taiV numHi taiB taiE
  unfold redE at c1
  unfold lpD at c1 ⊢
  cases h1 : okB f l
  · rw [h1] at c1
    simp only [Bool.false_eq_true, if_false] at c1
    simp only [sf_lnum, putAll, wx, wy, wz, stV, seval, IntWalk.iteOmega, IntWalk.toNatUp, reduceCtorEq]
    refine st_call (c1) rfl (.inl rfl) ?_
    simp only [wx, wy, wz, stV, seval, IntWalk.iteOmega, IntWalk.toNatUp, reduceCtorEq]
    exact ret_d2 (by simp only [wx, wy, wz, stV, seval, IntWalk.iteOmega, IntWalk.toNatUp, reduceCtorEq]) (by simp only [wx, wy, wz, stV, seval, IntWalk.iteOmega, IntWalk.toNatUp, reduceCtorEq])
  · cases h2 : (secIn s && tikIn k)
    · rw [h1, h2] at c1
      simp only [Bool.false_eq_true, if_false, if_true] at c1
      simp only [sf_lnum, putAll, wx, wy, wz, stV, seval, IntWalk.iteOmega, IntWalk.toNatUp, reduceCtorEq]
      refine st_call (c1) rfl (.inl rfl) ?_
      simp only [wx, wy, wz, stV, seval, IntWalk.iteOmega, IntWalk.toNatUp, reduceCtorEq]
      exact ret_d2 (by simp only [wx, wy, wz, stV, seval, IntWalk.iteOmega, IntWalk.toNatUp, reduceCtorEq]) (by simp only [wx, wy, wz, stV, seval, IntWalk.iteOmega, IntWalk.toNatUp, reduceCtorEq])
    · rw [h1, h2] at c1
      simp only [if_true] at c1
      have hs : secIn s = true := by cases e : secIn s <;> simp_all
      have hk : tikIn k = true := by cases e : tikIn k <;> simp_all
      have := sec_i hs
      have c2 := lst_c G f l s hl h1 (by omega) (by omega)
      have c3 := lsh_c G (stpN f l s) false
      rw [shw_none h1] at c3
      have c4 := lin_c G f l s false k hl h1 hs hk
      have e4 : taiS f l s false = taiN f l s := by unfold taiS bI; simp
      unfold lpD at c2 c4
      cases h3 : noneB f l s false
      · rw [h3] at c3
        by_cases h5 : stpN f l s = 1
        · have c5 := lin_c G f l s true k hl h1 hs hk
          have e5 : taiS f l s true = taiN f l s + 1 := rfl
          unfold lpD at c5
          rw [e5] at c5
          simp only [sf_lnum, putAll, wx, wy, wz, stV, seval, IntWalk.iteOmega, IntWalk.toNatUp, reduceCtorEq]
          refine st_call (c1) rfl (.inl rfl) ?_
          simp only [wx, wy, wz, stV, seval, IntWalk.iteOmega, IntWalk.toNatUp, reduceCtorEq]
          refine st_call (c2) rfl (.inl rfl) ?_
          simp only [wx, wy, wz, stV, seval, IntWalk.iteOmega, IntWalk.toNatUp, reduceCtorEq]
          refine st_call (c3) rfl (.inl rfl) ?_
          simp only [wx, wy, wz, stV, seval, IntWalk.iteOmega, IntWalk.toNatUp, reduceCtorEq]
          refine st_call (c4) rfl (.inl rfl) ?_
          simp only [h5, wx, wy, wz, stV, seval, IntWalk.iteOmega, IntWalk.toNatUp, reduceCtorEq]
          refine st_call (c5) rfl (.inl rfl) ?_
          simp only [h5, wx, wy, wz, stV, seval, IntWalk.iteOmega, IntWalk.toNatUp, reduceCtorEq]
          exact ret_d2 (by simp only [wx, wy, wz, stV, seval, IntWalk.iteOmega, IntWalk.toNatUp, reduceCtorEq]) (by simp only [wx, wy, wz, stV, seval, IntWalk.iteOmega, IntWalk.toNatUp, reduceCtorEq])
        · simp only [sf_lnum, putAll, wx, wy, wz, stV, seval, IntWalk.iteOmega, IntWalk.toNatUp, reduceCtorEq]
          refine st_call (c1) rfl (.inl rfl) ?_
          simp only [wx, wy, wz, stV, seval, IntWalk.iteOmega, IntWalk.toNatUp, reduceCtorEq]
          refine st_call (c2) rfl (.inl rfl) ?_
          simp only [wx, wy, wz, stV, seval, IntWalk.iteOmega, IntWalk.toNatUp, reduceCtorEq]
          refine st_call (c3) rfl (.inl rfl) ?_
          simp only [wx, wy, wz, stV, seval, IntWalk.iteOmega, IntWalk.toNatUp, reduceCtorEq]
          refine st_call (c4) rfl (.inl rfl) ?_
          simp only [h5, wx, wy, wz, stV, seval, IntWalk.iteOmega, IntWalk.toNatUp, reduceCtorEq]
          refine st_call (c4) rfl (.inl rfl) ?_
          simp only [h5, e4, wx, wy, wz, stV, seval, IntWalk.iteOmega, IntWalk.toNatUp, reduceCtorEq]
          exact ret_d2 (by simp only [wx, wy, wz, stV, seval, IntWalk.iteOmega, IntWalk.toNatUp, reduceCtorEq, e4, Int.add_zero]) (by simp only [wx, wy, wz, stV, seval, IntWalk.iteOmega, IntWalk.toNatUp, reduceCtorEq])
      · rw [h3] at c3
        simp only [sf_lnum, putAll, wx, wy, wz, stV, seval, IntWalk.iteOmega, IntWalk.toNatUp, reduceCtorEq]
        refine st_call (c1) rfl (.inl rfl) ?_
        simp only [wx, wy, wz, stV, seval, IntWalk.iteOmega, IntWalk.toNatUp, reduceCtorEq]
        refine st_call (c2) rfl (.inl rfl) ?_
        simp only [wx, wy, wz, stV, seval, IntWalk.iteOmega, IntWalk.toNatUp, reduceCtorEq]
        refine st_call (c3) rfl (.inl rfl) ?_
        simp only [wx, wy, wz, stV, seval, IntWalk.iteOmega, IntWalk.toNatUp, reduceCtorEq]
        exact ret_d2 (by simp only [wx, wy, wz, stV, seval, IntWalk.iteOmega, IntWalk.toNatUp, reduceCtorEq]) (by simp only [wx, wy, wz, stV, seval, IntWalk.iteOmega, IntWalk.toNatUp, reduceCtorEq])
end Go.Proofs.Ytefoldolhgakmaa
