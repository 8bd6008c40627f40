/- Layer 12: the tables and instants that its laws draw (world.Leaps, world.NearLeap). Own work. -/
import Derived.Test.YtibpaciljnfpmaaPl6
import Derived.Test.YtibpaciljnfpmaaPw0
set_option linter.unusedVariables false
set_option linter.unusedSimpArgs false
namespace Go.Proofs.Ytibpaciljnfpmaa
open Go.RowKit

/-! ### world.Leaps -/
def wlA (tb : List Int) : Nat → Int
  | 0 => 1728000
  | i + 1 => wlA tb i + 86400 * (2 + withinN (tb.getD (2 * i) 0) 300)
def wlO (tb : List Int) : Nat → Int
  | 0 => 10
  | i + 1 => if withinN (tb.getD (2 * i + 1) 0) 3 = 0 then wlO tb i - 1 else wlO tb i + 1
def wlL (tb : List Int) : Nat → List Lp
  | 0 => []
  | i + 1 => wlL tb i ++ [(wlA tb (i + 1), wlO tb (i + 1))]
def wlK (tb : List Int) : Nat := min 4 (tb.length / 2)
def wlT (tb : List Int) : List Lp := wlL tb (wlK tb)
theorem wlL_len (tb : List Int) : ∀ i, (wlL tb i).length = i
  | 0 => rfl
  | i + 1 => by rw [wlL, List.length_append, wlL_len tb i]; rfl
theorem wlA_s (tb : List Int) (i : Nat) : wlA tb (i + 1) = wlA tb i + 86400 * (2 + withinN (tb.getD (2 * i) 0) 300) := rfl
theorem wlO_s (tb : List Int) (i : Nat) : wlO tb (i + 1) = if withinN (tb.getD (2 * i + 1) 0) 3 = 0 then wlO tb i - 1 else wlO tb i + 1 := rfl
theorem wlL_s (tb : List Int) (i : Nat) : wlL tb (i + 1) = wlL tb i ++ [(wlA tb (i + 1), wlO tb (i + 1))] := rfl
theorem wlA_b (tb : List Int) : ∀ i, 1728000 ≤ wlA tb i ∧ wlA tb i ≤ 1728000 + 26006400 * i
  | 0 => by simp [wlA]
  | i + 1 => by
    have ih := wlA_b tb i
    have := withinN_range (tb.getD (2 * i) 0) 300 (by decide)
    rw [wlA_s]; omega
theorem wlO_b (tb : List Int) : ∀ i : Nat, 10 - (i : Int) ≤ wlO tb i ∧ wlO tb i ≤ 10 + i
  | 0 => by simp [wlO]
  | i + 1 => by
    have ih := wlO_b tb i
    rw [wlO_s]; split <;> omega
theorem wlL_g (tb : List Int) : ∀ (n i : Nat), i < n → lpG (wlL tb n) i = (wlA tb (i + 1), wlO tb (i + 1))
  | 0, i, h => by omega
  | n + 1, i, h => by
    unfold lpG
    rw [wlL_s]
    rcases Nat.lt_succ_iff_lt_or_eq.1 h with h | rfl
    · have ih := wlL_g tb n i h
      unfold lpG at ih
      rw [List.getD_eq_getElem?_getD, List.getElem?_append_left (by rw [wlL_len]; exact h), ← List.getD_eq_getElem?_getD, ih]
    · rw [List.getD_eq_getElem?_getD, List.getElem?_append_right (by rw [wlL_len]; exact Nat.le_refl _), wlL_len, Nat.sub_self]; rfl
theorem wlL_last (tb : List Int) (n i : Nat) (h : i ≤ n) : lastO 10 (wlL tb n) i = wlO tb i := by
  cases i with
  | zero => rfl
  | succ i => rw [lastO_s, wlL_g tb n i h]
theorem wlL_ok (tb : List Int) (n : Nat) (h : n ≤ 4) : okB 10 (wlL tb n) = true := by
  refine okB_iff.2 ⟨⟨by decide, by decide, by rw [wlL_len]; omega⟩, fun i hi => ?_⟩
  rw [wlL_len] at hi
  have a1 := wlA_b tb i
  have a2 := wlA_b tb (i + 1)
  have w := withinN_range (tb.getD (2 * i) 0) 300 (by decide)
  have asx := wlA_s tb i
  have os := wlO_s tb i
  have md : ∀ j, wlA tb j % 86400 = 0 := by
    intro j
    induction j with
    | zero => rfl
    | succ j ih => rw [wlA_s]; omega
  refine decide_eq_true ?_
  rw [wlL_last tb n i (by omega), wlL_g tb n i hi]
  refine ⟨by simp only; omega, by simp only; omega, md _, fun h0 => ?_, ?_⟩
  · rw [wlL_g tb n (i - 1) (by omega)]
    obtain ⟨j, rfl⟩ : ∃ j, i = j + 1 := ⟨i - 1, by omega⟩
    rw [Nat.add_sub_cancel]
    simp only
    omega
  · simp only
    rw [os]
    split
    · exact .inr rfl
    · exact .inl rfl
theorem wlT_ok (tb : List Int) : okB 10 (wlT tb) = true := wlL_ok tb _ (Nat.min_le_left _ _)
def wlN (i : Nat) : Nat := 2 * i
theorem wlN_e (i : Nat) : wlN i = 2 * i := rfl
theorem wlN_0 : wlN 0 = 0 := rfl
def wlSt (tb : List Int) : Nat → St
  | 0 => ⟨ofL [(0, .w (.c (.d (.sl (tb.map zD))))), (2, .w (.c (.ptr 3 1 0 0))), (3, .w (.c (.ptr 1 1 0 0))), (4, .w (.c (.d (.int .i64 1728000)))), (5, .w (.c (.d (.int .i64 10)))), (6, .w (.c (.d (.int .i64 ((wlN 0 : Nat) : Int)))))],
    hL [(1, .box [.d (.int .i64 10), .nil]), (3, .box [.d (.int .i64 0), .nil])], uL [1, 3]⟩
  | i + 1 => ⟨ofL [(0, .w (.c (.d (.sl (tb.map zD))))), (2, .w (.c (.ptr 3 1 0 0))), (3, .w (.c (.ptr 1 1 0 0))), (4, .w (.c (.d (.int .i64 (wlA tb (i + 1)))))), (5, .w (.c (.d (.int .i64 (wlO tb (i + 1)))))), (6, .w (.c (.d (.int .i64 ((wlN (i + 1) : Nat) : Int)))))],
    hL [(1, .box [.d (.int .i64 10), .own 2 2 0 (i + 1)]), (2, .row 2 ((wlL tb (i + 1)).map spD)), (3, .box [.d (.int .i64 0), .nil])], uL [1, 2, 3]⟩
theorem get_z {l : List Int} {i : Nat} (h : i < l.length) : l[i]? = some (l.getD i 0) := by
  rw [List.getD_eq_getElem?_getD, List.getElem?_eq_getElem h]; rfl
def lp_wleap_0 : SCode :=
  .seq (.seq (.reg [⟨(some 8), .mv (.t 6), none⟩,
    ⟨(some 9), .bin .add (.t 8) (.k (.c (.d (.int .i64 1)))), none⟩,
    ⟨(some 10), .mv (.t 0), none⟩,
    ⟨(some 11), .len (.t 10), none⟩,
    ⟨(some 12), .bin .lss (.t 9) (.t 11), none⟩,
    ⟨(some 13), .mv (.t 12), none⟩,
    ⟨(some 14), .mv (.t 6), (some (13, true))⟩,
    ⟨(some 15), .bin .lss (.t 14) (.k (.c (.d (.int .i64 8)))), (some (13, true))⟩,
    ⟨(some 16), .pick (.t 13) (.t 15) (.k (.c (.d (.bool false)))), none⟩])
  (.cond (.t 16) (.skip)
   (.exit 0)))
  (.seq (.block 1 (.seq (.reg [⟨(some 19), .mv (.t 4), none⟩,
     ⟨(some 20), .mv (.t 0), none⟩,
     ⟨(some 21), .mv (.t 6), none⟩,
     ⟨(some 22), .idxSl 1 (.t 20) (.t 21), none⟩,
     ⟨(some 23), .load .sc (.t 22), none⟩,
     ⟨(some 24), .call 19 [(.t 23), (.k (.c (.d (.int .i64 300))))] none, none⟩,
     ⟨(some 25), .bin .add (.k (.c (.d (.int .i64 2)))) (.t 24), none⟩,
     ⟨(some 26), .bin .mul (.k (.c (.d (.int .i64 86400)))) (.t 25), none⟩,
     ⟨(some 27), .bin .add (.t 19) (.t 26), none⟩,
     ⟨(some 4), .mv (.t 27), none⟩])
   (.seq (.seq (.reg [⟨(some 28), .mv (.t 0), none⟩,
     ⟨(some 29), .mv (.t 6), none⟩,
     ⟨(some 30), .bin .add (.t 29) (.k (.c (.d (.int .i64 1)))), none⟩,
     ⟨(some 31), .idxSl 1 (.t 28) (.t 30), none⟩,
     ⟨(some 32), .load .sc (.t 31), none⟩,
     ⟨(some 33), .call 19 [(.t 32), (.k (.c (.d (.int .i64 3))))] none, none⟩,
     ⟨(some 34), .bin .eql (.t 33) (.k (.c (.d (.int .i64 0)))), none⟩])
   (.cond (.t 34) (.reg [⟨(some 35), .mv (.t 5), none⟩,
      ⟨(some 36), .bin .sub (.t 35) (.k (.c (.d (.int .i64 1)))), none⟩,
      ⟨(some 5), .mv (.t 36), none⟩])
    (.reg [⟨(some 37), .mv (.t 5), none⟩,
      ⟨(some 38), .bin .add (.t 37) (.k (.c (.d (.int .i64 1)))), none⟩,
      ⟨(some 5), .mv (.t 38), none⟩])))
   (.reg [⟨(some 39), .fieldAddr 1 (.t 3), none⟩,
     ⟨(some 40), .load .sc (.t 39), none⟩,
     ⟨(some 41), .mv (.t 4), none⟩,
     ⟨(some 42), .mv (.t 5), none⟩,
     ⟨(some 43), .build [(.d (.int .i64 0)), (.d (.int .i64 0))] [(0, 1, (.t 41)), (1, 1, (.t 42))], none⟩,
     ⟨(some 44), .bldSl false 1 2 (.agg [(.int .i64 0), (.int .i64 0)]) [(0, (.t 43))], none⟩,
     ⟨(some 45), .app false 2 16 (.t 40) (.t 44), none⟩,
     ⟨(some 46), .fieldAddr 1 (.t 3), none⟩,
     ⟨none, .store .sc (.t 46) (.t 45), none⟩]))))
  (.reg [⟨(some 17), .mv (.t 6), none⟩,
    ⟨(some 18), .bin .add (.t 17) (.k (.c (.d (.int .i64 2)))), none⟩,
    ⟨(some 6), .mv (.t 18), none⟩]))
def sf_wleap : SFn := ⟨1, 48,
  .seq (.reg [⟨(some 2), .alloc [(.d (.int .i64 0)), .nil], none⟩])
  (.seq (.reg [⟨(some 7), .build [(.d (.int .i64 0)), .nil] [(0, 1, (.k (.c (.d (.int .i64 10)))))], none⟩,
    ⟨(some 3), .alloc [(.d (.int .i64 0)), .nil], none⟩,
    ⟨none, .store (.ag 2) (.t 3) (.t 7), none⟩])
  (.seq (.reg [⟨(some 4), .mv (.k (.c (.d (.int .i64 1728000)))), none⟩,
    ⟨(some 5), .mv (.k (.c (.d (.int .i64 10)))), none⟩])
  (.seq (.seq (.reg [⟨(some 6), .mv (.k (.c (.d (.int .i64 0)))), none⟩])
  (.block 0 (.loop lp_wleap_0)))
  (.seq (.reg [⟨(some 47), .load (.ag 2) (.t 3), none⟩,
    ⟨none, .store (.ag 2) (.t 2) (.t 47), none⟩])
  (.ret))))),
  [(2, (some (.ag 2)))]⟩
theorem cf_wleap : compFn Try.prog { own := [], comp := [], frz := [], nils := [] } Try.f17 = some sf_wleap := by kernel_rfl
set_option maxHeartbeats 1600000 in
theorem wleap_c (G : Glob) (tb : List Int) (hl : tb.length ≤ 9223372036854775807) : Den Try.prog G 17 [.sl (tb.map zD)] (.w (.c (.d (lpD 10 (wlT tb))))) := by
  refine den_walk Try.func17 cf_wleap rfl rfl ?_
  unfold lpD
  simp only [sf_wleap, putAll, wx, wy, wz, stV, seval, IntWalk.iteOmega, IntWalk.toNatUp, reduceCtorEq]
  refine loop_st (wlSt tb) (fun i => 4 - i) (fun i => i ≤ wlK tb) 0 (Nat.zero_le _) ?_ ?_
  · have e0 : ((wlN 0 : Nat) : Int) = 0 := rfl
    refine ent_l (fun i => if i = 1 then 24 else 16) ?_ ?_ rfl rfl <;> simp only [wx, wex, wez, stV, seval, IntWalk.iteOmega, IntWalk.toNatUp, reduceCtorEq, e0]
  · intro i hi
    have hk : wlK tb ≤ 4 ∧ wlK tb ≤ tb.length / 2 := ⟨Nat.min_le_left _ _, Nat.min_le_right _ _⟩
    have hk2 : wlK tb = 4 ∨ wlK tb = tb.length / 2 := by unfold wlK; omega
    have w1 := withinN_range (tb.getD (2 * i) 0) 300 (by decide)
    have w2 := withinN_range (tb.getD (2 * i + 1) 0) 3 (by decide)
    have cw1 := within_c G (tb.getD (2 * i) 0) 300 (by decide)
    have cw2 := within_c G (tb.getD (2 * i + 1) 0) 3 (by decide)
    have a1 := wlA_b tb i
    have o1 := wlO_b tb i
    have asx := wlA_s tb i
    have os := wlO_s tb i
    have ls := wlL_s tb i
    have ll := wlL_len tb i
    have we := wlN_e i
    have we2 := wlN_e (i + 1)
    have lm : (wlL tb (i + 1)).map spD = (wlL tb i).map spD ++ [.agg [.int .i64 (wlA tb (i + 1)), .int .i64 (wlO tb (i + 1))]] := by rw [ls, List.map_append]; rfl
    have mlen : ((wlL tb i).map spD).length = i := by rw [List.length_map]; exact ll
    have asz := allSz_sp (wlL tb i)
    by_cases hlt : i < wlK tb
    · have g1 := get_z (l := tb) (i := 2 * i) (by omega)
      have g2 := get_z (l := tb) (i := 2 * i + 1) (by omega)
      rw [← we] at g1 g2 cw1 cw2 w1 w2 asx os
      generalize withinN (tb.getD (wlN i) 0) 300 = W1 at *
      generalize withinN (tb.getD (wlN i + 1) 0) 3 = W2 at *
      have n2 : ((wlN (i + 1) : Nat) : Int) = (wlN i : Int) + 2 := by omega
      have n1 : (wlN i : Int) + 1 < (tb.length : Int) := by omega
      have n3 : (wlN i : Int) < 8 := by omega
      generalize tb.getD (wlN i) 0 = X1 at *
      generalize tb.getD (wlN i + 1) 0 = X2 at *
      rcases i with _ | i
      · have e0 : wlO tb 0 = 10 := rfl
        have e1 : wlA tb 0 = 1728000 := rfl
        have e2 : (wlL tb 0).map spD = [] := rfl
        rw [e0] at os
        rw [e1] at asx
        rw [e2] at lm
        by_cases hw : W2 = 0
        · rw [if_pos hw] at os
          simp only [lp_wleap_0, wlSt, wx, wy, wz, stV, seval, IntWalk.iteOmega, IntWalk.toNatUp, reduceCtorEq, n1, n3, get_map, g1, g2, zD, srcV]
          refine st_call (cw1) rfl (.inl rfl) ?_
          simp only [get_map, g2, zD, n1, wx, wy, wz, stV, seval, IntWalk.iteOmega, IntWalk.toNatUp, reduceCtorEq]
          refine st_call (cw2) rfl (.inl rfl) ?_
          simp only [hw, srcV, wx, wy, wz, stV, seval, IntWalk.iteOmega, IntWalk.toNatUp, reduceCtorEq]
          refine lop_next 1 (by omega) (by omega) (ent_l (fun i => if i = 2 then 360 else i) ?_ ?_ rfl rfl) <;> simp only [wx, wex, wez, stV, seval, IntWalk.iteOmega, IntWalk.toNatUp, reduceCtorEq, lm, asx, os, n2]
        · rw [if_neg hw] at os
          simp only [lp_wleap_0, wlSt, wx, wy, wz, stV, seval, IntWalk.iteOmega, IntWalk.toNatUp, reduceCtorEq, n1, n3, get_map, g1, g2, zD, srcV]
          refine st_call (cw1) rfl (.inl rfl) ?_
          simp only [get_map, g2, zD, n1, wx, wy, wz, stV, seval, IntWalk.iteOmega, IntWalk.toNatUp, reduceCtorEq]
          refine st_call (cw2) rfl (.inl rfl) ?_
          simp only [hw, srcV, wx, wy, wz, stV, seval, IntWalk.iteOmega, IntWalk.toNatUp, reduceCtorEq]
          refine lop_next 1 (by omega) (by omega) (ent_l (fun i => if i = 2 then 360 else i) ?_ ?_ rfl rfl) <;> simp only [wx, wex, wez, stV, seval, IntWalk.iteOmega, IntWalk.toNatUp, reduceCtorEq, lm, asx, os, n2]
      · generalize hA : wlA tb (i + 1) = A0 at *
        generalize hO : wlO tb (i + 1) = O0 at *
        by_cases hw : W2 = 0
        · rw [if_pos hw] at os
          simp only [lp_wleap_0, wlSt, wx, wy, wz, stV, seval, IntWalk.iteOmega, IntWalk.toNatUp, reduceCtorEq, n1, n3, get_map, g1, g2, zD, srcV, hA, hO]
          refine st_call (cw1) rfl (.inl rfl) ?_
          simp only [get_map, g2, zD, n1, wx, wy, wz, stV, seval, IntWalk.iteOmega, IntWalk.toNatUp, reduceCtorEq]
          refine st_call (cw2) rfl (.inl rfl) ?_
          simp only [hw, srcV, mlen, asz, wx, wy, wz, stV, seval, IntWalk.iteOmega, IntWalk.toNatUp, reduceCtorEq]
          refine lop_next (i + 1 + 1) (by omega) (by omega) (ent_l (fun i => if i = 2 then 360 else i) ?_ ?_ rfl rfl) <;> simp only [wx, wex, wez, stV, seval, IntWalk.iteOmega, IntWalk.toNatUp, reduceCtorEq, lm, asx, os, n2, ll]
        · rw [if_neg hw] at os
          simp only [lp_wleap_0, wlSt, wx, wy, wz, stV, seval, IntWalk.iteOmega, IntWalk.toNatUp, reduceCtorEq, n1, n3, get_map, g1, g2, zD, srcV, hA, hO]
          refine st_call (cw1) rfl (.inl rfl) ?_
          simp only [get_map, g2, zD, n1, wx, wy, wz, stV, seval, IntWalk.iteOmega, IntWalk.toNatUp, reduceCtorEq]
          refine st_call (cw2) rfl (.inl rfl) ?_
          simp only [hw, srcV, mlen, asz, wx, wy, wz, stV, seval, IntWalk.iteOmega, IntWalk.toNatUp, reduceCtorEq]
          refine lop_next (i + 1 + 1) (by omega) (by omega) (ent_l (fun i => if i = 2 then 360 else i) ?_ ?_ rfl rfl) <;> simp only [wx, wex, wez, stV, seval, IntWalk.iteOmega, IntWalk.toNatUp, reduceCtorEq, lm, asx, os, n2, ll]
    · have eK : i = wlK tb := by omega
      have eT : wlT tb = wlL tb i := by rw [eK]; rfl
      rw [eT]
      rcases i with _ | i
      · have e0 : (wlL tb 0).map spD = [] := rfl
        have n0 : wlN 0 = 0 := rfl
        by_cases k1 : (tb.length : Int) > 1
        · exfalso; omega
        · have k2 : ¬ ((wlN 0 : Int) + 1 < (tb.length : Int)) := by omega
          simp only [lp_wleap_0, wlSt, wx, wy, wz, stV, seval, IntWalk.iteOmega, IntWalk.toNatUp, reduceCtorEq, k2, e0]
          exact ret_d1 (by simp only [wx, wy, wz, stV, seval, IntWalk.iteOmega, IntWalk.toNatUp, reduceCtorEq])
      · have tk : (wlL tb (i + 1)).take (i + 1) = wlL tb (i + 1) := List.take_of_length_le (by omega)
        by_cases k1 : (wlN (i + 1) : Int) + 1 < (tb.length : Int)
        · have k2 : ¬ ((wlN (i + 1) : Int) < 8) := by omega
          simp only [lp_wleap_0, wlSt, wx, wy, wz, stV, seval, IntWalk.iteOmega, IntWalk.toNatUp, reduceCtorEq, k1, k2]
          exact ret_d1 (by simp only [wx, wy, wz, stV, seval, IntWalk.iteOmega, IntWalk.toNatUp, reduceCtorEq, tk])
        · simp only [lp_wleap_0, wlSt, wx, wy, wz, stV, seval, IntWalk.iteOmega, IntWalk.toNatUp, reduceCtorEq, k1]
          exact ret_d1 (by simp only [wx, wy, wz, stV, seval, IntWalk.iteOmega, IntWalk.toNatUp, reduceCtorEq, tk])
/-! ### world.NearLeap -/
def nlX (l : List Lp) (v : Int) : Lp := lpG l (withinN (v.tdiv 4) (l.length : Int)).toNat
def nlB (l : List Lp) (v : Int) : Int := ((nlX l v).1 + (nlX l v).2) * 1048576
def nlV (l : List Lp) (v : Int) : Int :=
  if withinN (v.tdiv 16) 4 = 0 then nlB l v + withinN (v.tdiv 64) 5242880 - 3145728
  else if withinN (v.tdiv 16) 4 = 1 then nlB l v + withinN (v.tdiv 64) 7 - 3
  else if withinN (v.tdiv 16) 4 = 2 then nlB l v - 1048576 + withinN (v.tdiv 64) 7 - 3
  else nlB l v + withinN (v.tdiv 64) 94371840000 - 47185920000
def nlN (l : List Lp) (v : Int) : Int := if l.length > 0 ∧ withinN v 4 > 0 then nlV l v else 536870912 + withinN v 35184372088832
/-- Elements within bounds. -/
def elmB (l : List Lp) : Prop := ∀ i, i < l.length → 86400 ≤ (lpG l i).1 ∧ (lpG l i).1 ≤ 200000000 ∧ -64 ≤ (lpG l i).2 ∧ (lpG l i).2 ≤ 164
theorem nlX_ex {l : List Lp} (h : 0 < l.length) (v : Int) : ∃ J : Nat, J < l.length ∧ withinN (v.tdiv 4) (l.length : Int) = (J : Int) ∧ nlX l v = lpG l J := by
  have w := withinN_range (v.tdiv 4) (l.length : Int) (by omega)
  obtain ⟨J, hJ⟩ := Int.eq_ofNat_of_zero_le w.1
  refine ⟨J, by omega, hJ, ?_⟩
  unfold nlX; rw [hJ, Int.toNat_natCast]
/-- An instant that the laws draw is one that UTC knows. -/
theorem nlN_in {l : List Lp} (h : elmB l) (v : Int) : 536870912 ≤ nlN l v ∧ nlN l v ≤ 300000000000000 := by
  unfold nlN
  split
  · rename_i h0
    obtain ⟨J, j1, j2, j3⟩ := nlX_ex h0.1 v
    have := h J j1
    have w1 := withinN_range (v.tdiv 64) 5242880 (by decide)
    have w2 := withinN_range (v.tdiv 64) 7 (by decide)
    have w3 := withinN_range (v.tdiv 64) 94371840000 (by decide)
    unfold nlV nlB
    rw [j3]
    split
    · omega
    · split
      · omega
      · split <;> omega
  · have := withinN_range v 35184372088832 (by decide)
    omega
theorem tdv_in (a : Int) {b : Int} (h : 1 ≤ b) (h1 : -9223372036854775808 ≤ a) (h2 : a ≤ 9223372036854775807) : -9223372036854775808 ≤ a.tdiv b ∧ a.tdiv b ≤ 9223372036854775807 := by
  obtain ⟨f1, f2, f3, f4, f5⟩ := tdiv_facts a h
  have f0 : 0 < a.tmod b ∨ a.tmod b < 0 ∨ a.tmod b = 0 := by omega
  rcases f0 with k | k | k
  · have := f3 k; omega
  · have := f4 k; omega
  · have := f5 k
    rcases Int.le_total 0 a with h | h
    · have := this.1 h; omega
    · have := this.2 h; omega
def sf_wnear : SFn := ⟨2, 69,
  .seq (.reg [⟨(some 2), .box .roBox (.t 0), none⟩,
    ⟨(some 4), .mv (.k (.c (.d (.int .i64 0)))), none⟩])
  (.seq (.seq (.reg [⟨(some 7), .fieldAddr 1 (.t 2), none⟩,
    ⟨(some 8), .load .sc (.t 7), none⟩,
    ⟨(some 9), .len (.t 8), none⟩,
    ⟨(some 10), .bin .gtr (.t 9) (.k (.c (.d (.int .i64 0)))), none⟩,
    ⟨(some 11), .mv (.t 10), none⟩,
    ⟨(some 12), .mv (.t 1), (some (11, true))⟩,
    ⟨(some 13), .call 19 [(.t 12), (.k (.c (.d (.int .i64 4))))] none, (some (11, true))⟩,
    ⟨(some 14), .bin .gtr (.t 13) (.k (.c (.d (.int .i64 0)))), (some (11, true))⟩,
    ⟨(some 15), .pick (.t 11) (.t 14) (.k (.c (.d (.bool false)))), none⟩])
  (.cond (.t 15) (.seq (.reg [⟨(some 16), .fieldAddr 1 (.t 2), none⟩,
     ⟨(some 17), .load .sc (.t 16), none⟩,
     ⟨(some 18), .mv (.t 1), none⟩,
     ⟨(some 19), .bin .quo (.t 18) (.k (.c (.d (.int .i64 4)))), none⟩,
     ⟨(some 20), .fieldAddr 1 (.t 2), none⟩,
     ⟨(some 21), .load .sc (.t 20), none⟩,
     ⟨(some 22), .len (.t 21), none⟩,
     ⟨(some 23), .call 19 [(.t 19), (.t 22)] none, none⟩,
     ⟨(some 24), .idxSl 2 (.t 17) (.t 23), none⟩,
     ⟨(some 25), .load (.ag 2) (.t 24), none⟩,
     ⟨(some 5), .alloc [(.d (.int .i64 0)), (.d (.int .i64 0))], none⟩,
     ⟨none, .store (.ag 2) (.t 5) (.t 25), none⟩])
   (.seq (.reg [⟨(some 26), .fieldAddr 0 (.t 5), none⟩,
     ⟨(some 27), .load .sc (.t 26), none⟩,
     ⟨(some 28), .fieldAddr 1 (.t 5), none⟩,
     ⟨(some 29), .load .sc (.t 28), none⟩,
     ⟨(some 30), .bin .add (.t 27) (.t 29), none⟩,
     ⟨(some 31), .bin .shl (.t 30) (.k (.c (.d (.int .u64 20)))), none⟩,
     ⟨(some 6), .mv (.t 31), none⟩])
   (.seq (.seq (.reg [⟨(some 32), .mv (.t 1), none⟩,
     ⟨(some 33), .bin .quo (.t 32) (.k (.c (.d (.int .i64 16)))), none⟩,
     ⟨(some 34), .call 19 [(.t 33), (.k (.c (.d (.int .i64 4))))] none, none⟩])
   (.block 0 (.seq (.reg [⟨(some 36), .bin .eql (.t 34) (.k (.c (.d (.int .i64 0)))), none⟩,
      ⟨(some 35), .mv (.t 36), none⟩])
    (.cond (.t 35) (.seq (.reg [⟨(some 37), .mv (.t 6), none⟩,
       ⟨(some 38), .mv (.t 1), none⟩,
       ⟨(some 39), .bin .quo (.t 38) (.k (.c (.d (.int .i64 64)))), none⟩,
       ⟨(some 40), .call 19 [(.t 39), (.k (.c (.d (.int .i64 5242880))))] none, none⟩,
       ⟨(some 41), .bin .add (.t 37) (.t 40), none⟩,
       ⟨(some 42), .bin .sub (.t 41) (.k (.c (.d (.int .i64 3145728)))), none⟩,
       ⟨(some 4), .mv (.t 42), none⟩])
     (.ret))
     (.seq (.reg [⟨(some 44), .bin .eql (.t 34) (.k (.c (.d (.int .i64 1)))), none⟩,
       ⟨(some 43), .mv (.t 44), none⟩])
     (.cond (.t 43) (.seq (.reg [⟨(some 45), .mv (.t 6), none⟩,
        ⟨(some 46), .mv (.t 1), none⟩,
        ⟨(some 47), .bin .quo (.t 46) (.k (.c (.d (.int .i64 64)))), none⟩,
        ⟨(some 48), .call 19 [(.t 47), (.k (.c (.d (.int .i64 7))))] none, none⟩,
        ⟨(some 49), .bin .add (.t 45) (.t 48), none⟩,
        ⟨(some 50), .bin .sub (.t 49) (.k (.c (.d (.int .i64 3)))), none⟩,
        ⟨(some 4), .mv (.t 50), none⟩])
      (.ret))
      (.seq (.reg [⟨(some 52), .bin .eql (.t 34) (.k (.c (.d (.int .i64 2)))), none⟩,
        ⟨(some 51), .mv (.t 52), none⟩])
      (.cond (.t 51) (.seq (.reg [⟨(some 53), .mv (.t 6), none⟩,
         ⟨(some 54), .bin .sub (.t 53) (.k (.c (.d (.int .i64 1048576)))), none⟩,
         ⟨(some 55), .mv (.t 1), none⟩,
         ⟨(some 56), .bin .quo (.t 55) (.k (.c (.d (.int .i64 64)))), none⟩,
         ⟨(some 57), .call 19 [(.t 56), (.k (.c (.d (.int .i64 7))))] none, none⟩,
         ⟨(some 58), .bin .add (.t 54) (.t 57), none⟩,
         ⟨(some 59), .bin .sub (.t 58) (.k (.c (.d (.int .i64 3)))), none⟩,
         ⟨(some 4), .mv (.t 59), none⟩])
       (.ret))
       (.skip)))))))))
   (.seq (.reg [⟨(some 60), .mv (.t 6), none⟩,
     ⟨(some 61), .mv (.t 1), none⟩,
     ⟨(some 62), .bin .quo (.t 61) (.k (.c (.d (.int .i64 64)))), none⟩,
     ⟨(some 63), .call 19 [(.t 62), (.k (.c (.d (.int .i64 94371840000))))] none, none⟩,
     ⟨(some 64), .bin .add (.t 60) (.t 63), none⟩,
     ⟨(some 65), .bin .sub (.t 64) (.k (.c (.d (.int .i64 47185920000)))), none⟩,
     ⟨(some 4), .mv (.t 65), none⟩])
   (.ret)))))
   (.skip)))
  (.seq (.reg [⟨(some 66), .mv (.t 1), none⟩,
    ⟨(some 67), .call 19 [(.t 66), (.k (.c (.d (.int .i64 35184372088832))))] none, none⟩,
    ⟨(some 68), .bin .add (.k (.c (.d (.int .i64 536870912)))) (.t 67), none⟩,
    ⟨(some 4), .mv (.t 68), none⟩])
  (.ret))),
  [(4, none)]⟩
theorem cf_wnear : compFn Try.prog { own := [], comp := [], frz := [], nils := [] } Try.f18 = some sf_wnear := by kernel_rfl
set_option maxHeartbeats 800000 in
theorem wnear_c (G : Glob) (f : Int) (l : List Lp) (v : Int) (hl : l.length ≤ 9223372036854775807) (h : elmB l) (v1 : -9223372036854775808 ≤ v) (v2 : v ≤ 9223372036854775807) : Den Try.prog G 18 [lpD f l, .int .i64 v] (.w (.c (.d (.int .i64 (nlN l v))))) := by
  refine den_walk Try.func18 cf_wnear rfl rfl ?_
  have c0 := within_c G v 4 (by decide)
  have c1 := within_c G v 35184372088832 (by decide)
  have w0 := withinN_range v 4 (by decide)
  have w1 := withinN_range v 35184372088832 (by decide)
  unfold lpD nlN
  by_cases h0 : (l.length : Int) > 0
  · by_cases h1 : withinN v 4 > 0
    · rw [if_pos ⟨by omega, h1⟩]
      obtain ⟨J, j1, j2, j3⟩ := nlX_ex (l := l) (by omega) v
      have g := lpG_get j1
      have hb := h J j1
      have t4 := tdv_in v (b := 4) (by decide) v1 v2
      have t16 := tdv_in v (b := 16) (by decide) v1 v2
      have t64 := tdv_in v (b := 64) (by decide) v1 v2
      have c2 := within_c G (v.tdiv 4) (l.length : Int) (by omega)
      rw [j2] at c2
      have c3 := within_c G (v.tdiv 16) 4 (by decide)
      have w3 := withinN_range (v.tdiv 16) 4 (by decide)
      have c4 := within_c G (v.tdiv 64) 5242880 (by decide)
      have w4 := withinN_range (v.tdiv 64) 5242880 (by decide)
      have c5 := within_c G (v.tdiv 64) 7 (by decide)
      have w5 := withinN_range (v.tdiv 64) 7 (by decide)
      have c6 := within_c G (v.tdiv 64) 94371840000 (by decide)
      have w6 := withinN_range (v.tdiv 64) 94371840000 (by decide)
      unfold nlV nlB
      rw [j3]
      generalize q4 : v.tdiv 4 = V4 at *
      generalize q16 : v.tdiv 16 = V16 at *
      generalize q64 : v.tdiv 64 = V64 at *
      generalize withinN v 4 = W0 at *
      generalize withinN V16 4 = W3 at *
      generalize withinN V64 5242880 = W4 at *
      generalize withinN V64 7 = W5 at *
      generalize withinN V64 94371840000 = W6 at *
      generalize lpG l J = X at *
      obtain ⟨A, O⟩ := X
      simp only at hb ⊢
      by_cases k0 : W3 = 0
      · subst k0
        simp only [sf_wnear, putAll, wx, wy, wz, stV, seval, IntWalk.iteOmega, IntWalk.toNatUp, reduceCtorEq, eq_true h0]
        refine st_call (c0) rfl (.inl rfl) ?_
        simp only [eq_true h1, q4, wx, wy, wz, stV, seval, IntWalk.iteOmega, IntWalk.toNatUp, reduceCtorEq]
        refine st_call (c2) rfl (.inl rfl) ?_
        simp only [get_map, g, spD, bI64, q16, wx, wy, wz, stV, seval, IntWalk.iteOmega, IntWalk.toNatUp, reduceCtorEq]
        refine st_call (c3) rfl (.inl rfl) ?_
        simp only [q64, wx, wy, wz, stV, seval, IntWalk.iteOmega, IntWalk.toNatUp, reduceCtorEq]
        refine st_call (c4) rfl (.inl rfl) ?_
        simp only [wx, wy, wz, stV, seval, IntWalk.iteOmega, IntWalk.toNatUp, reduceCtorEq]
        exact ret_d1 (by simp only [wx, wy, wz, stV, seval, IntWalk.iteOmega, IntWalk.toNatUp, reduceCtorEq])
      · by_cases k1 : W3 = 1
        · subst k1
          simp only [sf_wnear, putAll, wx, wy, wz, stV, seval, IntWalk.iteOmega, IntWalk.toNatUp, reduceCtorEq, eq_true h0]
          refine st_call (c0) rfl (.inl rfl) ?_
          simp only [eq_true h1, q4, wx, wy, wz, stV, seval, IntWalk.iteOmega, IntWalk.toNatUp, reduceCtorEq]
          refine st_call (c2) rfl (.inl rfl) ?_
          simp only [get_map, g, spD, bI64, q16, wx, wy, wz, stV, seval, IntWalk.iteOmega, IntWalk.toNatUp, reduceCtorEq]
          refine st_call (c3) rfl (.inl rfl) ?_
          simp only [q64, wx, wy, wz, stV, seval, IntWalk.iteOmega, IntWalk.toNatUp, reduceCtorEq]
          refine st_call (c5) rfl (.inl rfl) ?_
          simp only [wx, wy, wz, stV, seval, IntWalk.iteOmega, IntWalk.toNatUp, reduceCtorEq]
          exact ret_d1 (by simp only [wx, wy, wz, stV, seval, IntWalk.iteOmega, IntWalk.toNatUp, reduceCtorEq])
        · by_cases k2 : W3 = 2
          · subst k2
            simp only [sf_wnear, putAll, wx, wy, wz, stV, seval, IntWalk.iteOmega, IntWalk.toNatUp, reduceCtorEq, eq_true h0]
            refine st_call (c0) rfl (.inl rfl) ?_
            simp only [eq_true h1, q4, wx, wy, wz, stV, seval, IntWalk.iteOmega, IntWalk.toNatUp, reduceCtorEq]
            refine st_call (c2) rfl (.inl rfl) ?_
            simp only [get_map, g, spD, bI64, q16, wx, wy, wz, stV, seval, IntWalk.iteOmega, IntWalk.toNatUp, reduceCtorEq]
            refine st_call (c3) rfl (.inl rfl) ?_
            simp only [q64, wx, wy, wz, stV, seval, IntWalk.iteOmega, IntWalk.toNatUp, reduceCtorEq]
            refine st_call (c5) rfl (.inl rfl) ?_
            simp only [wx, wy, wz, stV, seval, IntWalk.iteOmega, IntWalk.toNatUp, reduceCtorEq]
            exact ret_d1 (by simp only [wx, wy, wz, stV, seval, IntWalk.iteOmega, IntWalk.toNatUp, reduceCtorEq])
          · simp only [sf_wnear, putAll, wx, wy, wz, stV, seval, IntWalk.iteOmega, IntWalk.toNatUp, reduceCtorEq, eq_true h0]
            refine st_call (c0) rfl (.inl rfl) ?_
            simp only [eq_true h1, q4, wx, wy, wz, stV, seval, IntWalk.iteOmega, IntWalk.toNatUp, reduceCtorEq]
            refine st_call (c2) rfl (.inl rfl) ?_
            simp only [get_map, g, spD, bI64, q16, wx, wy, wz, stV, seval, IntWalk.iteOmega, IntWalk.toNatUp, reduceCtorEq]
            refine st_call (c3) rfl (.inl rfl) ?_
            simp only [k0, k1, k2, q64, wx, wy, wz, stV, seval, IntWalk.iteOmega, IntWalk.toNatUp, reduceCtorEq]
            refine st_call (c6) rfl (.inl rfl) ?_
            simp only [k0, k1, k2, wx, wy, wz, stV, seval, IntWalk.iteOmega, IntWalk.toNatUp, reduceCtorEq]
            exact ret_d1 (by simp only [wx, wy, wz, stV, seval, IntWalk.iteOmega, IntWalk.toNatUp, reduceCtorEq, k0, k1, k2])
    · rw [if_neg (fun k => h1 k.2)]
      generalize withinN v 4 = W0 at *
      generalize withinN v 35184372088832 = W1 at *
      simp only [sf_wnear, putAll, wx, wy, wz, stV, seval, IntWalk.iteOmega, IntWalk.toNatUp, reduceCtorEq, eq_true h0]
      refine st_call (c0) rfl (.inl rfl) ?_
      simp only [eq_false h1, wx, wy, wz, stV, seval, IntWalk.iteOmega, IntWalk.toNatUp, reduceCtorEq]
      refine st_call (c1) rfl (.inl rfl) ?_
      simp only [wx, wy, wz, stV, seval, IntWalk.iteOmega, IntWalk.toNatUp, reduceCtorEq]
      exact ret_d1 (by simp only [wx, wy, wz, stV, seval, IntWalk.iteOmega, IntWalk.toNatUp, reduceCtorEq])
  · rw [if_neg (fun k => h0 (by omega))]
    generalize withinN v 35184372088832 = W1 at *
    simp only [sf_wnear, putAll, wx, wy, wz, stV, seval, IntWalk.iteOmega, IntWalk.toNatUp, reduceCtorEq, eq_false h0]
    refine st_call (c1) rfl (.inl rfl) ?_
    simp only [wx, wy, wz, stV, seval, IntWalk.iteOmega, IntWalk.toNatUp, reduceCtorEq]
    exact ret_d1 (by simp only [wx, wy, wz, stV, seval, IntWalk.iteOmega, IntWalk.toNatUp, reduceCtorEq])
end Go.Proofs.Ytibpaciljnfpmaa
