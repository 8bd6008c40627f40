/- Layer 12 on data: the program: tables, offsets and steps. Own work. -/
import Derived.Test.YtibpaciljnfpmaaProg
import Derived.Test.YtibpaciljnfpmaaAlW
import Derived.Test.YtibpaciljnfpmaaAlZ
import Derived.Test.YtibpaciljnfpmaaPr1
import Derived.Test.YtibpaciljnfpmaaPl2
set_option linter.unusedVariables false
set_option linter.unusedSimpArgs false
namespace Go.Proofs.Ytibpaciljnfpmaa
open Go.RowKit

/-- A table, as data. -/
def lpD (f : Int) (l : List Lp) : D := .agg [.int .i64 f, .sl (l.map spD)]
theorem tmod86 {x : Int} (h : 0 ≤ x) : Int.tmod x 86400 = x % 86400 := Int.tmod_eq_emod_of_nonneg h
def lvSt (l : List Lp) (f : Int) (i : Nat) : St := ⟨ofL [(3, .w (.c (.d (.int .i64 (erlN l i))))), (4, .w (.c (.d (.int .i64 (lastO f l i))))), (24, .w (.c (.d (.sl (l.map spD))))), (25, .w (.c (.d (.int .i64 (l.length : Int))))), (26, .w (.c (.d (.int .i64 (i : Int)))))], hL [], uL []⟩
def lp_lvl_0 : SCode :=
  .seq (.reg [⟨(some 27), .bin .lss (.t 26) (.t 25), none⟩])
  (.seq (.cond (.t 27) (.skip)
   (.exit 0))
  (.seq (.block 1 (.seq (.reg [⟨(some 28), .idxSl 2 (.t 24) (.t 26), none⟩,
     ⟨(some 29), .load (.ag 2) (.t 28), none⟩,
     ⟨(some 6), .alloc [(.d (.int .i64 0)), (.d (.int .i64 0))], none⟩,
     ⟨none, .store (.ag 2) (.t 6) (.t 29), none⟩])
   (.seq (.seq (.reg [⟨(some 30), .fieldAddr 0 (.t 6), none⟩,
     ⟨(some 31), .load .sc (.t 30), none⟩,
     ⟨(some 32), .bin .rem (.t 31) (.k (.c (.d (.int .i64 86400)))), none⟩,
     ⟨(some 33), .bin .neq (.t 32) (.k (.c (.d (.int .i64 0)))), none⟩,
     ⟨(some 34), .mv (.t 33), none⟩,
     ⟨(some 35), .fieldAddr 0 (.t 6), (some (34, false))⟩,
     ⟨(some 36), .load .sc (.t 35), (some (34, false))⟩,
     ⟨(some 37), .mv (.t 3), (some (34, false))⟩,
     ⟨(some 38), .bin .lss (.t 36) (.t 37), (some (34, false))⟩,
     ⟨(some 39), .pick (.t 34) (.k (.c (.d (.bool true)))) (.t 38), none⟩,
     ⟨(some 40), .mv (.t 39), none⟩,
     ⟨(some 41), .fieldAddr 0 (.t 6), (some (40, false))⟩,
     ⟨(some 42), .load .sc (.t 41), (some (40, false))⟩,
     ⟨(some 43), .bin .gtr (.t 42) (.k (.c (.d (.int .i64 137438953472)))), (some (40, false))⟩,
     ⟨(some 44), .pick (.t 40) (.k (.c (.d (.bool true)))) (.t 43), none⟩])
   (.cond (.t 44) (.seq (.reg [⟨(some 2), .mv (.k (.c (.d (.bool false)))), none⟩])
    (.ret))
    (.skip)))
   (.seq (.seq (.reg [⟨(some 45), .fieldAddr 1 (.t 6), none⟩,
     ⟨(some 46), .load .sc (.t 45), none⟩,
     ⟨(some 47), .mv (.t 4), none⟩,
     ⟨(some 48), .bin .sub (.t 47) (.k (.c (.d (.int .i64 1)))), none⟩,
     ⟨(some 49), .bin .neq (.t 46) (.t 48), none⟩,
     ⟨(some 50), .mv (.t 49), none⟩,
     ⟨(some 51), .fieldAddr 1 (.t 6), (some (50, true))⟩,
     ⟨(some 52), .load .sc (.t 51), (some (50, true))⟩,
     ⟨(some 53), .mv (.t 4), (some (50, true))⟩,
     ⟨(some 54), .bin .add (.t 53) (.k (.c (.d (.int .i64 1)))), (some (50, true))⟩,
     ⟨(some 55), .bin .neq (.t 52) (.t 54), (some (50, true))⟩,
     ⟨(some 56), .pick (.t 50) (.t 55) (.k (.c (.d (.bool false)))), none⟩])
   (.cond (.t 56) (.seq (.reg [⟨(some 2), .mv (.k (.c (.d (.bool false)))), none⟩])
    (.ret))
    (.skip)))
   (.reg [⟨(some 57), .fieldAddr 0 (.t 6), none⟩,
     ⟨(some 58), .load .sc (.t 57), none⟩,
     ⟨(some 59), .bin .add (.t 58) (.k (.c (.d (.int .i64 172800)))), none⟩,
     ⟨(some 60), .fieldAddr 1 (.t 6), none⟩,
     ⟨(some 61), .load .sc (.t 60), none⟩,
     ⟨(some 3), .mv (.t 59), none⟩,
     ⟨(some 4), .mv (.t 61), none⟩])))))
  (.reg [⟨(some 62), .bin .add (.t 26) (.k (.c (.d (.int .i64 1)))), none⟩,
    ⟨(some 26), .mv (.t 62), none⟩])))
def sf_lvl : SFn := ⟨1, 63,
  .seq (.reg [⟨(some 1), .box .roBox (.t 0), none⟩,
    ⟨(some 2), .mv (.k (.c (.d (.bool false)))), none⟩])
  (.seq (.seq (.reg [⟨(some 7), .fieldAddr 0 (.t 1), none⟩,
    ⟨(some 8), .load .sc (.t 7), none⟩,
    ⟨(some 9), .bin .lss (.t 8) (.k (.c (.d (.int .i64 0)))), none⟩,
    ⟨(some 10), .mv (.t 9), none⟩,
    ⟨(some 11), .fieldAddr 0 (.t 1), (some (10, false))⟩,
    ⟨(some 12), .load .sc (.t 11), (some (10, false))⟩,
    ⟨(some 13), .bin .gtr (.t 12) (.k (.c (.d (.int .i64 100)))), (some (10, false))⟩,
    ⟨(some 14), .pick (.t 10) (.k (.c (.d (.bool true)))) (.t 13), none⟩,
    ⟨(some 15), .mv (.t 14), none⟩,
    ⟨(some 16), .fieldAddr 1 (.t 1), (some (15, false))⟩,
    ⟨(some 17), .load .sc (.t 16), (some (15, false))⟩,
    ⟨(some 18), .len (.t 17), (some (15, false))⟩,
    ⟨(some 19), .bin .gtr (.t 18) (.k (.c (.d (.int .i64 64)))), (some (15, false))⟩,
    ⟨(some 20), .pick (.t 15) (.k (.c (.d (.bool true)))) (.t 19), none⟩])
  (.cond (.t 20) (.seq (.reg [⟨(some 2), .mv (.k (.c (.d (.bool false)))), none⟩])
   (.ret))
   (.skip)))
  (.seq (.reg [⟨(some 21), .fieldAddr 0 (.t 1), none⟩,
    ⟨(some 22), .load .sc (.t 21), none⟩,
    ⟨(some 3), .mv (.k (.c (.d (.int .i64 86400)))), none⟩,
    ⟨(some 4), .mv (.t 22), none⟩])
  (.seq (.seq (.reg [⟨(some 23), .fieldAddr 1 (.t 1), none⟩,
    ⟨(some 24), .load .sc (.t 23), none⟩,
    ⟨(some 25), .len (.t 24), none⟩,
    ⟨(some 26), .mv (.k (.c (.d (.int .i64 0)))), none⟩])
  (.block 0 (.loop lp_lvl_0)))
  (.seq (.reg [⟨(some 2), .mv (.k (.c (.d (.bool true)))), none⟩])
  (.ret))))),
  [(2, none)]⟩
theorem cf_lvl : compFn Try.prog { own := [], comp := [], frz := [], nils := [] } Try.f30 = some sf_lvl := by kernel_rfl
set_option maxHeartbeats 800000 in
theorem lvl_c (G : Glob) (f : Int) (l : List Lp) (hl : l.length ≤ 9223372036854775807) : Den Try.prog G 30 [lpD f l] (.w (.c (.d (.bool (okB f l))))) := by
  refine den_walk Try.func30 cf_lvl rfl rfl ?_
  unfold lpD
  by_cases h1 : f < 0
  · have e : okB f l = false := by unfold okB headB; rw [decide_eq_false (by omega)]; rfl
    rw [e]
    simp only [sf_lvl, putAll, wx, wy, wz, stV, seval, IntWalk.iteOmega, IntWalk.toNatUp, reduceCtorEq]
    exact ret_d1 (by simp only [wx, wy, wz, stV, seval, IntWalk.iteOmega, IntWalk.toNatUp, reduceCtorEq])
  · by_cases h2 : f > 100
    · have e : okB f l = false := by unfold okB headB; rw [decide_eq_false (by omega)]; rfl
      rw [e]
      simp only [sf_lvl, putAll, wx, wy, wz, stV, seval, IntWalk.iteOmega, IntWalk.toNatUp, reduceCtorEq, eq_true h2]
      exact ret_d1 (by simp only [wx, wy, wz, stV, seval, IntWalk.iteOmega, IntWalk.toNatUp, reduceCtorEq])
    · by_cases h3 : (l.length : Int) > 64
      · have e : okB f l = false := by unfold okB headB; rw [decide_eq_false (by omega)]; rfl
        rw [e]
        simp only [sf_lvl, putAll, wx, wy, wz, stV, seval, IntWalk.iteOmega, IntWalk.toNatUp, reduceCtorEq, eq_false h2, eq_true h3]
        exact ret_d1 (by simp only [wx, wy, wz, stV, seval, IntWalk.iteOmega, IntWalk.toNatUp, reduceCtorEq])
      · simp only [sf_lvl, putAll, wx, wy, wz, stV, seval, IntWalk.iteOmega, IntWalk.toNatUp, reduceCtorEq, eq_false h2, eq_false h3]
        refine loop_st (lvSt l f) (fun i => l.length - i) (fun i => i ≤ l.length ∧ ∀ j, j < i → okE f l j = true) 0 ⟨Nat.zero_le _, fun j hj => by omega⟩ ?_ ?_
        · have e1 : erlN l 0 = 86400 := rfl
          have e2 : lastO f l 0 = f := rfl
          refine ent_l (fun i => i) ?_ ?_ rfl rfl <;> simp only [wx, wex, wez, stV, seval, IntWalk.iteOmega, IntWalk.toNatUp, reduceCtorEq, e1, e2]
        · rintro i ⟨hi, hok⟩
          by_cases hlt : i < l.length
          · have g := lpG_get hlt
            have ee := okE_erl hok
            have b1 := erlN_ge hok
            have b2 := lastO_in hok
            have n1 : erlN l (i + 1) = (lpG l i).1 + 172800 := rfl
            have n2 : lastO f l (i + 1) = (lpG l i).2 := rfl
            generalize lpG l i = X at *
            obtain ⟨A, O⟩ := X
            simp only at ee n1 n2
            generalize hE : erlN l i = E at *
            generalize hL : lastO f l i = L at *
            have no : okE f l i = false → okB f l = false := okB_no hlt
            by_cases c1 : A.tmod 86400 = 0
            · by_cases c2 : A < E
              · rw [no (ee.trans (decide_eq_false (by omega)))]
                simp only [lp_lvl_0, lvSt, wx, wy, wz, stV, seval, IntWalk.iteOmega, IntWalk.toNatUp, reduceCtorEq, get_map, g, spD, hE, hL, c1]
                exact ret_d1 (by simp only [wx, wy, wz, stV, seval, IntWalk.iteOmega, IntWalk.toNatUp, reduceCtorEq])
              · by_cases c3 : A > 137438953472
                · rw [no (ee.trans (decide_eq_false (by omega)))]
                  simp only [lp_lvl_0, lvSt, wx, wy, wz, stV, seval, IntWalk.iteOmega, IntWalk.toNatUp, reduceCtorEq, get_map, g, spD, hE, hL, c1, eq_true c3]
                  exact ret_d1 (by simp only [wx, wy, wz, stV, seval, IntWalk.iteOmega, IntWalk.toNatUp, reduceCtorEq])
                · have tm := tmod86 (x := A) (by omega)
                  by_cases c4 : O = L - 1
                  · have ok : okE f l i = true := ee.trans (decide_eq_true ⟨by omega, by omega, by omega, .inr c4⟩)
                    simp only [lp_lvl_0, lvSt, wx, wy, wz, stV, seval, IntWalk.iteOmega, IntWalk.toNatUp, reduceCtorEq, get_map, g, spD, hE, hL, c1, eq_false c3, c4]
                    refine lop_next (i + 1) (by omega) ⟨by omega, fun j hj => ?_⟩ (ent_l (fun i => i) ?_ ?_ rfl rfl)
                    · rcases Nat.lt_succ_iff_lt_or_eq.1 hj with hj | rfl
                      · exact hok j hj
                      · exact ok
                    all_goals simp only [wx, wex, wez, stV, seval, IntWalk.iteOmega, IntWalk.toNatUp, reduceCtorEq, n1, n2, c4]
                  · by_cases c5 : O = L + 1
                    · have ok : okE f l i = true := ee.trans (decide_eq_true ⟨by omega, by omega, by omega, .inl c5⟩)
                      simp only [lp_lvl_0, lvSt, wx, wy, wz, stV, seval, IntWalk.iteOmega, IntWalk.toNatUp, reduceCtorEq, get_map, g, spD, hE, hL, c1, eq_false c3, c4, c5]
                      refine lop_next (i + 1) (by omega) ⟨by omega, fun j hj => ?_⟩ (ent_l (fun i => i) ?_ ?_ rfl rfl)
                      · rcases Nat.lt_succ_iff_lt_or_eq.1 hj with hj | rfl
                        · exact hok j hj
                        · exact ok
                      all_goals simp only [wx, wex, wez, stV, seval, IntWalk.iteOmega, IntWalk.toNatUp, reduceCtorEq, n1, n2, c5]
                    · rw [no (ee.trans (decide_eq_false (by omega)))]
                      simp only [lp_lvl_0, lvSt, wx, wy, wz, stV, seval, IntWalk.iteOmega, IntWalk.toNatUp, reduceCtorEq, get_map, g, spD, hE, hL, c1, eq_false c3, c4, c5]
                      exact ret_d1 (by simp only [wx, wy, wz, stV, seval, IntWalk.iteOmega, IntWalk.toNatUp, reduceCtorEq])
            · have : ¬ (A % 86400 = 0 ∧ E ≤ A) := fun k => c1 (by rw [tmod86 (by omega)]; exact k.1)
              rw [no (ee.trans (decide_eq_false fun k => this ⟨k.1, k.2.1⟩))]
              simp only [lp_lvl_0, lvSt, wx, wy, wz, stV, seval, IntWalk.iteOmega, IntWalk.toNatUp, reduceCtorEq, get_map, g, spD, hE, hL, c1]
              exact ret_d1 (by simp only [wx, wy, wz, stV, seval, IntWalk.iteOmega, IntWalk.toNatUp, reduceCtorEq])
          · have hil : i = l.length := by omega
            have e : okB f l = true := okB_iff.2 ⟨⟨by omega, by omega, by omega⟩, by rw [← hil]; exact hok⟩
            rw [e]
            simp only [lp_lvl_0, lvSt, wx, wy, wz, stV, seval, IntWalk.iteOmega, IntWalk.toNatUp, reduceCtorEq]
            exact ret_d1 (by simp only [wx, wy, wz, stV, seval, IntWalk.iteOmega, IntWalk.toNatUp, reduceCtorEq])
/-! ### Offsets and steps -/
def loSt (l : List Lp) (f s : Int) (i : Nat) : St := ⟨ofL [(1, .w (.c (.d (.int .i64 s)))), (5, .w (.c (.d (.int .i64 (lastO f l i))))), (11, .w (.c (.d (.sl (l.map spD))))), (12, .w (.c (.d (.int .i64 (l.length : Int))))), (13, .w (.c (.d (.int .i64 (i : Int)))))], hL [], uL []⟩
theorem off_drop {f s : Int} {l : List Lp} {i : Nat} (hi : i < l.length) (h : (lpG l i).1 ≤ s) (e : offN (lastO f l i) (l.drop i) s = offN f l s) : offN (lastO f l (i + 1)) (l.drop (i + 1)) s = offN f l s := by
  rw [← e, drop_lp hi, off_cons_hi h]; rfl
theorem off_stop {f s : Int} {l : List Lp} {i : Nat} (hi : i < l.length) (h : s < (lpG l i).1) (e : offN (lastO f l i) (l.drop i) s = offN f l s) : lastO f l i = offN f l s := by
  rw [← e, drop_lp hi, off_cons_lo h]
theorem off_all {f s : Int} {l : List Lp} {i : Nat} (hi : i = l.length) (e : offN (lastO f l i) (l.drop i) s = offN f l s) : lastO f l i = offN f l s := by
  rw [← e, hi, List.drop_length]; rfl
def sf_lkn : SFn := ⟨1, 9,
  .seq (.reg [⟨(some 2), .mv (.k (.c (.d (.bool false)))), none⟩])
  (.seq (.reg [⟨(some 3), .mv (.t 0), none⟩,
    ⟨(some 4), .bin .geq (.t 3) (.k (.c (.d (.int .i64 0)))), none⟩,
    ⟨(some 5), .mv (.t 4), none⟩,
    ⟨(some 6), .mv (.t 0), (some (5, true))⟩,
    ⟨(some 7), .bin .leq (.t 6) (.k (.c (.d (.int .i64 274877906944)))), (some (5, true))⟩,
    ⟨(some 8), .pick (.t 5) (.t 7) (.k (.c (.d (.bool false)))), none⟩,
    ⟨(some 2), .mv (.t 8), none⟩])
  (.ret)),
  [(2, none)]⟩
theorem cf_lkn : compFn Try.prog { own := [], comp := [], frz := [], nils := [] } Try.f33 = some sf_lkn := by kernel_rfl
theorem lkn_c (G : Glob) (s : Int) : Den Try.prog G 33 [.int .i64 s] (.w (.c (.d (.bool (secIn s))))) := by
  refine den_walk Try.func33 cf_lkn rfl rfl ?_
  by_cases h1 : s ≥ 0
  · by_cases h2 : s ≤ 274877906944
    · rw [sec_t ⟨h1, h2⟩]
      simp only [sf_lkn, putAll, wx, wy, wz, stV, seval, IntWalk.iteOmega, IntWalk.toNatUp, reduceCtorEq, eq_true h1, eq_true h2]
      exact ret_d1 (by simp only [wx, wy, wz, stV, seval, IntWalk.iteOmega, IntWalk.toNatUp, reduceCtorEq])
    · rw [sec_f (by omega)]
      simp only [sf_lkn, putAll, wx, wy, wz, stV, seval, IntWalk.iteOmega, IntWalk.toNatUp, reduceCtorEq, eq_true h1, eq_false h2]
      exact ret_d1 (by simp only [wx, wy, wz, stV, seval, IntWalk.iteOmega, IntWalk.toNatUp, reduceCtorEq])
  · rw [sec_f (by omega)]
    simp only [sf_lkn, putAll, wx, wy, wz, stV, seval, IntWalk.iteOmega, IntWalk.toNatUp, reduceCtorEq, eq_false h1]
    exact ret_d1 (by simp only [wx, wy, wz, stV, seval, IntWalk.iteOmega, IntWalk.toNatUp, reduceCtorEq])
def sf_rin12 : SFn := ⟨1, 9,
  .seq (.reg [⟨(some 2), .mv (.k (.c (.d (.bool false)))), none⟩])
  (.seq (.reg [⟨(some 3), .mv (.t 0), none⟩,
    ⟨(some 4), .bin .geq (.t 3) (.k (.c (.d (.int .i64 0)))), none⟩,
    ⟨(some 5), .mv (.t 4), none⟩,
    ⟨(some 6), .mv (.t 0), (some (5, true))⟩,
    ⟨(some 7), .bin .leq (.t 6) (.k (.c (.d (.int .i64 274877906944)))), (some (5, true))⟩,
    ⟨(some 8), .pick (.t 5) (.t 7) (.k (.c (.d (.bool false)))), none⟩,
    ⟨(some 2), .mv (.t 8), none⟩])
  (.ret)),
  [(2, none)]⟩
theorem cf_rin12 : compFn Try.prog { own := [], comp := [], frz := [], nils := [] } Try.f48 = some sf_rin12 := by kernel_rfl
theorem rin12_c (G : Glob) (s : Int) : Den Try.prog G 48 [.int .i64 s] (.w (.c (.d (.bool (secIn s))))) := by
  refine den_walk Try.func48 cf_rin12 rfl rfl ?_
  by_cases h1 : s ≥ 0
  · by_cases h2 : s ≤ 274877906944
    · rw [sec_t ⟨h1, h2⟩]
      simp only [sf_rin12, putAll, wx, wy, wz, stV, seval, IntWalk.iteOmega, IntWalk.toNatUp, reduceCtorEq, eq_true h1, eq_true h2]
      exact ret_d1 (by simp only [wx, wy, wz, stV, seval, IntWalk.iteOmega, IntWalk.toNatUp, reduceCtorEq])
    · rw [sec_f (by omega)]
      simp only [sf_rin12, putAll, wx, wy, wz, stV, seval, IntWalk.iteOmega, IntWalk.toNatUp, reduceCtorEq, eq_true h1, eq_false h2]
      exact ret_d1 (by simp only [wx, wy, wz, stV, seval, IntWalk.iteOmega, IntWalk.toNatUp, reduceCtorEq])
  · rw [sec_f (by omega)]
    simp only [sf_rin12, putAll, wx, wy, wz, stV, seval, IntWalk.iteOmega, IntWalk.toNatUp, reduceCtorEq, eq_false h1]
    exact ret_d1 (by simp only [wx, wy, wz, stV, seval, IntWalk.iteOmega, IntWalk.toNatUp, reduceCtorEq])
def shwB (p : Int) (b : Bool) : Bool := if p = -1 then false else if p = 0 then !b else true
theorem shw_none {f : Int} {l : List Lp} (h : okB f l = true) (s : Int) (b : Bool) : shwB (stpN f l s) b = !noneB f l s b := by
  unfold shwB noneB
  rcases stp_3 h s with e | e | e <;> rw [e] <;> cases b <;> rfl
/-! ### TAI, Number -/
end Go.Proofs.Ytibpaciljnfpmaa
