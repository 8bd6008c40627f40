/- Layer 11 on data: lists of spans: the reference's Common and SameSpans; world.Span. Own work. -/
import Derived.Test.YtcafaihnflnkfaaAlZ
import Derived.Test.YtcafaihnflnkfaaPw0
import Derived.Test.YtcafaihnflnkfaaPi3
set_option linter.unusedVariables false
set_option linter.unusedSimpArgs false
namespace Go.Proofs.Ytcafaihnflnkfaa
open Go.RowKit

theorem getS {l : List Spn} {j : Nat} (h : j < l.length) : l[j]? = some (l.getD j (0, 0)) := by
  rw [List.getD_eq_getElem?_getD, List.getElem?_eq_getElem h]; rfl
theorem getS_mem {l : List Spn} {j : Nat} (h : j < l.length) : l.getD j (0, 0) ∈ l := by
  rw [List.getD_eq_getElem?_getD, List.getElem?_eq_getElem h]; exact List.getElem_mem h
theorem takeS {l : List Spn} {j : Nat} (h : j < l.length) : l.take (j + 1) = l.take j ++ [l.getD j (0, 0)] := by
  rw [List.take_succ_eq_append_getElem h, List.getD_eq_getElem?_getD, List.getElem?_eq_getElem h]; rfl
/-! ### Common -/
theorem comF_s (p q : Spn) : comF (some p) q = if meetB p q = true then some (meetV p q) else none := rfl
def cmV (o : Option Spn) : Spn := o.getD (0, 0)
def comT (l : List Spn) (i : Nat) : Option Spn := comL (l.take i)
theorem comT_succ {l : List Spn} {i : Nat} (h0 : 1 ≤ i) (h : i < l.length) : comT l (i + 1) = comF (comT l i) (l.getD i (0, 0)) := by
  unfold comT
  rw [takeS h]
  cases hl : l.take i with
  | nil =>
    have := congrArg List.length hl
    rw [List.length_take, List.length_nil] at this
    omega
  | cons p r =>
    show (if okP p = true then (r ++ [_]).foldl comF (some p) else none) = comF (if okP p = true then r.foldl comF (some p) else none) _
    split
    · rw [List.foldl_append]; rfl
    · rfl
theorem comT_none {l : List Spn} {i : Nat} (h0 : 1 ≤ i) (h : comT l i = none) : comL l = none := by
  have key : ∀ n, i + n ≤ l.length → comT l (i + n) = none := by
    intro n
    induction n with
    | zero => intro _; exact h
    | succ n ih =>
      intro hn
      have := comT_succ (l := l) (i := i + n) (by omega) (by omega)
      rw [ih (by omega)] at this
      exact this
  rcases Nat.lt_or_ge i l.length with hi | hi
  · have := key (l.length - i) (by omega)
    rw [show i + (l.length - i) = l.length by omega] at this
    unfold comT at this
    rwa [List.take_length] at this
  · unfold comT at h
    rwa [List.take_of_length_le hi] at h
def cmoSt (l : List Spn) (i : Nat) : St := ⟨ofL [(0, .w (.c (.d (.sl (l.map spD))))), (2, .w (.c (.ptr 1 1 0 0))), (4, .w (.c (.ptr 2 1 0 0))), (5, .w (.c (.d (.int .i64 (i : Int)))))],
  hL [(1, .box [.d (.int .i64 0), .d (.int .i64 0)]), (2, .box [.d (.int .i64 (cmV (comT l i)).1), .d (.int .i64 (cmV (comT l i)).2)])], uL [1, 2]⟩
/-! ### Equal lists -/
def ssSt (u v : List Spn) (i : Nat) : St := ⟨ofL [(0, .w (.c (.d (.sl (u.map spD))))), (1, .w (.c (.d (.sl (v.map spD))))), (5, .w (.c (.d (.int .i64 (i : Int)))))], hL [], uL []⟩
def lp_rsps_0 : SCode :=
  .seq (.seq (.reg [⟨(some 11), .mv (.t 5), none⟩,
    ⟨(some 12), .mv (.t 0), none⟩,
    ⟨(some 13), .len (.t 12), none⟩,
    ⟨(some 14), .bin .lss (.t 11) (.t 13), none⟩])
  (.cond (.t 14) (.skip)
   (.exit 0)))
  (.seq (.block 1 (.seq (.reg [⟨(some 17), .mv (.t 0), none⟩,
     ⟨(some 18), .mv (.t 5), none⟩,
     ⟨(some 19), .idxSl 2 (.t 17) (.t 18), none⟩,
     ⟨(some 20), .load (.ag 2) (.t 19), none⟩,
     ⟨(some 21), .mv (.t 1), none⟩,
     ⟨(some 22), .mv (.t 5), none⟩,
     ⟨(some 23), .idxSl 2 (.t 21) (.t 22), none⟩,
     ⟨(some 24), .load (.ag 2) (.t 23), none⟩,
     ⟨(some 25), .eqA true [0, 0] (.t 20) (.t 24), none⟩])
   (.cond (.t 25) (.seq (.reg [⟨(some 4), .mv (.k (.c (.d (.bool false)))), none⟩])
    (.ret))
    (.skip))))
  (.reg [⟨(some 15), .mv (.t 5), none⟩,
    ⟨(some 16), .bin .add (.t 15) (.k (.c (.d (.int .i64 1)))), none⟩,
    ⟨(some 5), .mv (.t 16), none⟩]))
def sf_rsps : SFn := ⟨2, 26,
  .seq (.reg [⟨(some 4), .mv (.k (.c (.d (.bool false)))), none⟩])
  (.seq (.seq (.reg [⟨(some 6), .mv (.t 0), none⟩,
    ⟨(some 7), .len (.t 6), none⟩,
    ⟨(some 8), .mv (.t 1), none⟩,
    ⟨(some 9), .len (.t 8), none⟩,
    ⟨(some 10), .bin .neq (.t 7) (.t 9), none⟩])
  (.cond (.t 10) (.seq (.reg [⟨(some 4), .mv (.k (.c (.d (.bool false)))), none⟩])
   (.ret))
   (.skip)))
  (.seq (.seq (.reg [⟨(some 5), .mv (.k (.c (.d (.int .i64 0)))), none⟩])
  (.block 0 (.loop lp_rsps_0)))
  (.seq (.reg [⟨(some 4), .mv (.k (.c (.d (.bool true)))), none⟩])
  (.ret)))),
  [(4, none)]⟩
theorem cf_rsps : compFn Try.prog { own := [], comp := [], frz := [], nils := [] } Try.f15 = some sf_rsps := by kernel_rfl
theorem rsps_c (G : Glob) (u v : List Spn) (hu : u.length ≤ 9223372036854775807) (hv : v.length ≤ 9223372036854775807) : Den Try.prog G 15 [.sl (u.map spD), .sl (v.map spD)] (.w (.c (.d (.bool (decide (u = v)))))) := by
  refine den_walk Try.func15 cf_rsps rfl rfl ?_
  by_cases hl : u.length = v.length
  · have hli : (u.length : Int) = (v.length : Int) := by omega
    simp only [sf_rsps, putAll, wx, wy, wz, stV, seval, IntWalk.iteOmega, IntWalk.toNatUp, reduceCtorEq, hli]
    refine loop_st (ssSt u v) (fun i => u.length - i) (fun i => i ≤ u.length ∧ u.take i = v.take i) 0 ⟨Nat.zero_le _, rfl⟩ ?_ ?_
    · refine ent_l (fun i => i) ?_ ?_ rfl rfl <;> simp only [wx, wex, wez, stV, seval, IntWalk.iteOmega, IntWalk.toNatUp, reduceCtorEq]
    · rintro i ⟨hi, ht⟩
      by_cases hlt : i < u.length
      · have g1 := getS hlt
        have g2 := getS (l := v) (j := i) (by omega)
        have t1 := takeS hlt
        have t2 := takeS (l := v) (j := i) (by omega)
        by_cases he : u.getD i (0, 0) = v.getD i (0, 0)
        · have ht' : u.take (i + 1) = v.take (i + 1) := by rw [t1, t2, ht, he]
          simp only [lp_rsps_0, ssSt, wx, wy, wz, stV, seval, IntWalk.iteOmega, IntWalk.toNatUp, reduceCtorEq, get_map, g1, g2, spD, he]
          refine lop_next (i + 1) (by omega) ⟨by omega, ht'⟩ (ent_l (fun i => i) ?_ ?_ rfl rfl) <;> simp only [wx, wex, wez, stV, seval, IntWalk.iteOmega, IntWalk.toNatUp, reduceCtorEq]
        · have hne : decide (u = v) = false := decide_eq_false (fun h => he (by rw [h]))
          rw [hne]
          by_cases h1 : (u.getD i (0, 0)).1 = (v.getD i (0, 0)).1
          · have h2 : ¬ (u.getD i (0, 0)).2 = (v.getD i (0, 0)).2 := fun h => he (Prod.ext h1 h)
            simp only [lp_rsps_0, ssSt, wx, wy, wz, stV, seval, IntWalk.iteOmega, IntWalk.toNatUp, reduceCtorEq, get_map, g1, g2, spD, h1, eq_false h2]
            exact ret_d1 (by simp only [wx, wy, wz, stV, seval, IntWalk.iteOmega, IntWalk.toNatUp, reduceCtorEq])
          · simp only [lp_rsps_0, ssSt, wx, wy, wz, stV, seval, IntWalk.iteOmega, IntWalk.toNatUp, reduceCtorEq, get_map, g1, g2, spD, eq_false h1]
            exact ret_d1 (by simp only [wx, wy, wz, stV, seval, IntWalk.iteOmega, IntWalk.toNatUp, reduceCtorEq])
      · have e1 : u.take i = u := List.take_of_length_le (by omega)
        have e2 : v.take i = v := List.take_of_length_le (by omega)
        rw [e1, e2] at ht
        rw [decide_eq_true ht]
        simp only [lp_rsps_0, ssSt, wx, wy, wz, stV, seval, IntWalk.iteOmega, IntWalk.toNatUp, reduceCtorEq]
        exact ret_d1 (by simp only [wx, wy, wz, stV, seval, IntWalk.iteOmega, IntWalk.toNatUp, reduceCtorEq])
  · have hne : decide (u = v) = false := decide_eq_false (fun h => hl (by rw [h]))
    have hli : ((u.length : Int) = (v.length : Int)) = False := eq_false (by omega)
    rw [hne]
    simp only [sf_rsps, putAll, wx, wy, wz, stV, seval, IntWalk.iteOmega, IntWalk.toNatUp, reduceCtorEq, hli]
    exact ret_d1 (by simp only [wx, wy, wz, stV, seval, IntWalk.iteOmega, IntWalk.toNatUp, reduceCtorEq])
end Go.Proofs.Ytcafaihnflnkfaa
