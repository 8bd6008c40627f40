/- Layer 11 on data: lists of spans: the reference's Common and SameSpans; world.Span. Own work. -/
import Derived.Test.YtaodfdnncdelnaaAlZ
import Derived.Test.YtaodfdnncdelnaaPw0
import Derived.Test.YtaodfdnncdelnaaPi3
set_option linter.unusedVariables false
set_option linter.unusedSimpArgs false
namespace Go.Proofs.Ytaodfdnncdelnaa
open Go.RowKit

theorem getS {l : List Spn} {j : Nat} (h : j < l.length) : l[j]? = some (l.getD j (0, 0)) := by
  rw [List.getD_eq_getElem?_getD, List.getElem?_eq_getElem h]; rfl
theorem getS_mem {l : List Spn} {j : Nat} (h : j < l.length) : l.getD j (0, 0) ∈ l := by
  rw [List.getD_eq_getElem?_getD, List.getElem?_eq_getElem h]; exact List.getElem_mem h
theorem takeS {l : List Spn} {j : Nat} (h : j < l.length) : l.take (j + 1) = l.take j ++ [l.getD j (0, 0)] := by
  rw [List.take_succ_eq_append_getElem h, List.getD_eq_getElem?_getD, List.getElem?_eq_getElem h]; rfl
def sf_wspan : SFn := ⟨2, 15,
  .seq (.reg [⟨(some 4), .alloc [(.d (.int .i64 0)), (.d (.int .i64 0))], none⟩])
  (.seq (.reg [⟨(some 6), .mv (.t 0), none⟩,
    ⟨(some 7), .call 38 [(.t 6), (.k (.c (.d (.int .i64 2000))))] none, none⟩,
    ⟨(some 8), .bin .sub (.t 7) (.k (.c (.d (.int .i64 1000)))), none⟩,
    ⟨(some 5), .mv (.t 8), none⟩])
  (.seq (.reg [⟨(some 9), .mv (.t 5), none⟩,
    ⟨(some 10), .mv (.t 5), none⟩,
    ⟨(some 11), .mv (.t 1), none⟩,
    ⟨(some 12), .call 38 [(.t 11), (.k (.c (.d (.int .i64 500))))] none, none⟩,
    ⟨(some 13), .bin .add (.t 10) (.t 12), none⟩,
    ⟨(some 14), .build [(.d (.int .i64 0)), (.d (.int .i64 0))] [(0, 1, (.t 9)), (1, 1, (.t 13))], none⟩,
    ⟨none, .store (.ag 2) (.t 4) (.t 14), none⟩])
  (.ret))),
  [(4, (some (.ag 2)))]⟩
theorem cf_wspan : compFn Try.prog { own := [], comp := [], frz := [], nils := [] } Try.f37 = some sf_wspan := by kernel_rfl
theorem wspan_c (G : Glob) (a b : Int) : Den Try.prog G 37 [.int .i64 a, .int .i64 b] (.w (.c (.d (.agg [.int .i64 (withinN a 2000 - 1000), .int .i64 (withinN a 2000 - 1000 + withinN b 500)])))) := by
  refine den_walk Try.func37 cf_wspan rfl rfl ?_
  have h1 := withinN_range a 2000 (by decide)
  have h2 := withinN_range b 500 (by decide)
  have c1 := within_c G a 2000 (by decide)
  have c2 := within_c G b 500 (by decide)
  simp only [sf_wspan, putAll, wx, wy, wz, stV, seval, IntWalk.iteOmega, IntWalk.toNatUp, reduceCtorEq]
  refine st_call (c1) rfl (.inl rfl) ?_
  simp only [wx, wy, wz, stV, seval, IntWalk.iteOmega, IntWalk.toNatUp, reduceCtorEq]
  refine st_call (c2) rfl (.inl rfl) ?_
  simp only [wx, wy, wz, stV, seval, IntWalk.iteOmega, IntWalk.toNatUp, reduceCtorEq]
  exact ret_d1 (by simp only [wx, wy, wz, stV, seval, IntWalk.iteOmega, IntWalk.toNatUp, reduceCtorEq])
/-! ### Common -/
theorem comF_s (p q : Spn) : comF (some p) q = if meetB p q = true then some (meetV p q) else none := rfl
def cmV (o : Option Spn) : Spn := o.getD (0, 0)
def comT (l : List Spn) (i : Nat) : Option Spn := comL (l.take i)
theorem comT_succ {l : List Spn} {i : Nat} (h0 : 1 ≤ i) (h : i < l.length) : comT l (i + 1) = comF (comT l i) (l.getD i (0, 0)) := by
  unfold comT
  rw [takeS h]
  cases hl : l.take i with
  | nil =>
    have := congrArg List.length hl
    rw [List.length_take, List.length_nil] at this
    omega
  | cons p r =>
    show (if okP p = true then (r ++ [_]).foldl comF (some p) else none) = comF (if okP p = true then r.foldl comF (some p) else none) _
    split
    · rw [List.foldl_append]; rfl
    · rfl
theorem comT_none {l : List Spn} {i : Nat} (h0 : 1 ≤ i) (h : comT l i = none) : comL l = none := by
  have key : ∀ n, i + n ≤ l.length → comT l (i + n) = none := by
    intro n
    induction n with
    | zero => intro _; exact h
    | succ n ih =>
      intro hn
      have := comT_succ (l := l) (i := i + n) (by omega) (by omega)
      rw [ih (by omega)] at this
      exact this
  rcases Nat.lt_or_ge i l.length with hi | hi
  · have := key (l.length - i) (by omega)
    rw [show i + (l.length - i) = l.length by omega] at this
    unfold comT at this
    rwa [List.take_length] at this
  · unfold comT at h
    rwa [List.take_of_length_le hi] at h
def cmoSt (l : List Spn) (i : Nat) : St := ⟨ofL [(0, .w (.c (.d (.sl (l.map spD))))), (2, .w (.c (.ptr 1 1 0 0))), (4, .w (.c (.ptr 2 1 0 0))), (5, .w (.c (.d (.int .i64 (i : Int)))))],
  hL [(1, .box [.d (.int .i64 0), .d (.int .i64 0)]), (2, .box [.d (.int .i64 (cmV (comT l i)).1), .d (.int .i64 (cmV (comT l i)).2)])], uL [1, 2]⟩
def lp_rcom_0 : SCode :=
  .seq (.seq (.reg [⟨(some 22), .mv (.t 5), none⟩,
    ⟨(some 23), .mv (.t 0), none⟩,
    ⟨(some 24), .len (.t 23), none⟩,
    ⟨(some 25), .bin .lss (.t 22) (.t 24), none⟩])
  (.cond (.t 25) (.skip)
   (.exit 0)))
  (.seq (.block 1 (.seq (.reg [⟨(some 29), .load (.ag 2) (.t 4), none⟩,
     ⟨(some 30), .mv (.t 0), none⟩,
     ⟨(some 31), .mv (.t 5), none⟩,
     ⟨(some 32), .idxSl 2 (.t 30) (.t 31), none⟩,
     ⟨(some 33), .load (.ag 2) (.t 32), none⟩,
     ⟨(some 34), .call 10 [(.t 29), (.t 33)] none, none⟩,
     ⟨(some 28), .mv (.t 34), none⟩,
     ⟨(some 35), .extract (.t 28) 0, none⟩,
     ⟨(some 36), .extract (.t 28) 1, none⟩,
     ⟨(some 6), .alloc [(.d (.int .i64 0)), (.d (.int .i64 0))], none⟩,
     ⟨none, .store (.ag 2) (.t 6) (.t 35), none⟩,
     ⟨(some 7), .mv (.t 36), none⟩])
   (.seq (.seq (.reg [⟨(some 37), .mv (.t 7), none⟩,
     ⟨(some 38), .un .not (.t 37), none⟩])
   (.cond (.t 38) (.seq (.reg [⟨(some 39), .build [(.d (.int .i64 0)), (.d (.int .i64 0))] [], none⟩,
      ⟨none, .store (.ag 2) (.t 2) (.t 39), none⟩,
      ⟨(some 3), .mv (.k (.c (.d (.bool false)))), none⟩])
    (.ret))
    (.skip)))
   (.reg [⟨(some 40), .load (.ag 2) (.t 6), none⟩,
     ⟨none, .store (.ag 2) (.t 4) (.t 40), none⟩]))))
  (.reg [⟨(some 26), .mv (.t 5), none⟩,
    ⟨(some 27), .bin .add (.t 26) (.k (.c (.d (.int .i64 1)))), none⟩,
    ⟨(some 5), .mv (.t 27), none⟩]))
def sf_rcom : SFn := ⟨1, 42,
  .seq (.reg [⟨(some 2), .alloc [(.d (.int .i64 0)), (.d (.int .i64 0))], none⟩,
    ⟨(some 3), .mv (.k (.c (.d (.bool false)))), none⟩])
  (.seq (.seq (.reg [⟨(some 8), .mv (.t 0), none⟩,
    ⟨(some 9), .len (.t 8), none⟩,
    ⟨(some 10), .bin .eql (.t 9) (.k (.c (.d (.int .i64 0)))), none⟩,
    ⟨(some 11), .mv (.t 10), none⟩,
    ⟨(some 12), .mv (.t 0), (some (11, false))⟩,
    ⟨(some 13), .idxSl 2 (.t 12) (.k (.c (.d (.int .i64 0)))), (some (11, false))⟩,
    ⟨(some 14), .load (.ag 2) (.t 13), (some (11, false))⟩,
    ⟨(some 15), .call 23 [(.t 14)] none, (some (11, false))⟩,
    ⟨(some 16), .un .not (.t 15), (some (11, false))⟩,
    ⟨(some 17), .pick (.t 11) (.k (.c (.d (.bool true)))) (.t 16), none⟩])
  (.cond (.t 17) (.seq (.reg [⟨(some 18), .build [(.d (.int .i64 0)), (.d (.int .i64 0))] [], none⟩,
     ⟨none, .store (.ag 2) (.t 2) (.t 18), none⟩,
     ⟨(some 3), .mv (.k (.c (.d (.bool false)))), none⟩])
   (.ret))
   (.skip)))
  (.seq (.reg [⟨(some 19), .mv (.t 0), none⟩,
    ⟨(some 20), .idxSl 2 (.t 19) (.k (.c (.d (.int .i64 0)))), none⟩,
    ⟨(some 21), .load (.ag 2) (.t 20), none⟩,
    ⟨(some 4), .alloc [(.d (.int .i64 0)), (.d (.int .i64 0))], none⟩,
    ⟨none, .store (.ag 2) (.t 4) (.t 21), none⟩])
  (.seq (.seq (.reg [⟨(some 5), .mv (.k (.c (.d (.int .i64 1)))), none⟩])
  (.block 0 (.loop lp_rcom_0)))
  (.seq (.reg [⟨(some 41), .load (.ag 2) (.t 4), none⟩,
    ⟨none, .store (.ag 2) (.t 2) (.t 41), none⟩,
    ⟨(some 3), .mv (.k (.c (.d (.bool true)))), none⟩])
  (.ret))))),
  [(2, (some (.ag 2))), (3, none)]⟩
theorem cf_rcom : compFn Try.prog { own := [], comp := [], frz := [], nils := [] } Try.f33 = some sf_rcom := by kernel_rfl
set_option maxHeartbeats 1600000 in
theorem rcom_c (G : Glob) (l : List Spn) (hl : l.length ≤ 9223372036854775807) : Den Try.prog G 33 [.sl (l.map spD)] (.tup [.c (.d (spD (cmV (comL l)))), .c (.d (.bool (comL l).isSome))]) := by
  refine den_walk Try.func33 cf_rcom rfl rfl ?_
  by_cases h0 : l.length = 0
  · have hn : l = [] := List.length_eq_zero_iff.1 h0
    subst hn
    simp only [sf_rcom, putAll, wx, wy, wz, stV, seval, IntWalk.iteOmega, IntWalk.toNatUp, reduceCtorEq]
    have e : comL [] = none := rfl
    simp only [e, cmV, spD, Option.getD_none, Option.isSome_none]
    exact ret_d2 (by simp only [wx, wy, wz, stV, seval, IntWalk.iteOmega, IntWalk.toNatUp, reduceCtorEq]) (by simp only [wx, wy, wz, stV, seval, IntWalk.iteOmega, IntWalk.toNatUp, reduceCtorEq])
  · have g0 := getS (l := l) (j := 0) (by omega)
    have e1 : comT l 1 = if okP (l.getD 0 (0, 0)) = true then some (l.getD 0 (0, 0)) else none := by
      unfold comT
      rw [show (1 : Nat) = 0 + 1 from rfl, takeS (by omega)]
      rfl
    have c0 := rsv_c G (l.getD 0 (0, 0)).1 (l.getD 0 (0, 0)).2
    cases hv : okP (l.getD 0 (0, 0))
    · have hnone : comL l = none := comT_none (i := 1) (Nat.le_refl _) (by rw [e1, hv]; rfl)
      have hv' : okP ((l.getD 0 (0, 0)).1, (l.getD 0 (0, 0)).2) = false := hv
      rw [hv'] at c0
      rw [hnone]
      simp only [sf_rcom, putAll, wx, wy, wz, stV, seval, IntWalk.iteOmega, IntWalk.toNatUp, reduceCtorEq, get_map, g0, spD]
      refine st_call (c0) rfl (.inl rfl) ?_
      simp only [wx, wy, wz, stV, seval, IntWalk.iteOmega, IntWalk.toNatUp, reduceCtorEq]
      simp only [cmV, Option.getD_none, Option.isSome_none]
      exact ret_d2 (by simp only [wx, wy, wz, stV, seval, IntWalk.iteOmega, IntWalk.toNatUp, reduceCtorEq]) (by simp only [wx, wy, wz, stV, seval, IntWalk.iteOmega, IntWalk.toNatUp, reduceCtorEq])
    · have hv' : okP ((l.getD 0 (0, 0)).1, (l.getD 0 (0, 0)).2) = true := hv
      rw [hv'] at c0
      rw [hv, if_pos rfl] at e1
      simp only [sf_rcom, putAll, wx, wy, wz, stV, seval, IntWalk.iteOmega, IntWalk.toNatUp, reduceCtorEq, get_map, g0, spD]
      refine st_call (c0) rfl (.inl rfl) ?_
      simp only [get_map, g0, spD, wx, wy, wz, stV, seval, IntWalk.iteOmega, IntWalk.toNatUp, reduceCtorEq]
      refine loop_st (cmoSt l) (fun i => l.length - i) (fun i => 1 ≤ i ∧ i ≤ l.length ∧ (comT l i).isSome = true) 1 ⟨Nat.le_refl _, by omega, by rw [e1]; rfl⟩ ?_ ?_
      · have e2 : cmV (comT l 1) = l.getD 0 (0, 0) := by rw [e1]; rfl
        refine ent_l (fun i => if i = 1 then 16 else 32) ?_ ?_ rfl rfl <;> simp only [wx, wex, wez, stV, seval, IntWalk.iteOmega, IntWalk.toNatUp, reduceCtorEq, e2]
      · rintro i ⟨hi0, hi, hs⟩
        by_cases hlt : i < l.length
        · have g := getS hlt
          have hc := comT_succ hi0 hlt
          obtain ⟨p, hp⟩ := Option.isSome_iff_exists.1 hs
          rw [hp] at hc
          have cm := rmet_c G p.1 p.2 (l.getD i (0, 0)).1 (l.getD i (0, 0)).2
          have hmb : mtB p.1 p.2 (l.getD i (0, 0)).1 (l.getD i (0, 0)).2 = meetB p (l.getD i (0, 0)) := rfl
          rw [hmb] at cm
          have ep : cmV (some p) = p := rfl
          cases hm : meetB p (l.getD i (0, 0))
          · rw [hm] at cm
            have hn : comL l = none := comT_none (i := i + 1) (by omega) (by rw [hc, comF_s, hm]; rfl)
            rw [hn]
            simp only [lp_rcom_0, cmoSt, wx, wy, wz, stV, seval, IntWalk.iteOmega, IntWalk.toNatUp, reduceCtorEq, hp, ep, get_map, g, spD]
            refine st_call (cm) rfl (.inl rfl) ?_
            simp only [spA, wx, wy, wz, stV, seval, IntWalk.iteOmega, IntWalk.toNatUp, reduceCtorEq]
            simp only [cmV, Option.getD_none, Option.isSome_none]
            exact ret_d2 (by simp only [wx, wy, wz, stV, seval, IntWalk.iteOmega, IntWalk.toNatUp, reduceCtorEq]) (by simp only [wx, wy, wz, stV, seval, IntWalk.iteOmega, IntWalk.toNatUp, reduceCtorEq])
          · rw [hm] at cm
            have hc' : comT l (i + 1) = some (meetV p (l.getD i (0, 0))) := by rw [hc, comF_s, hm]; rfl
            have e3 : cmV (comT l (i + 1)) = (max p.1 (l.getD i (0, 0)).1, min p.2 (l.getD i (0, 0)).2) := by rw [hc']; rfl
            simp only [lp_rcom_0, cmoSt, wx, wy, wz, stV, seval, IntWalk.iteOmega, IntWalk.toNatUp, reduceCtorEq, hp, ep, get_map, g, spD]
            refine st_call (cm) rfl (.inl rfl) ?_
            simp only [spA, wx, wy, wz, stV, seval, IntWalk.iteOmega, IntWalk.toNatUp, reduceCtorEq]
            refine lop_next (i + 1) (by omega) ⟨by omega, by omega, by rw [hc']; rfl⟩ (ent_l (fun i => i) ?_ ?_ rfl rfl) <;> simp only [wx, wex, wez, stV, seval, IntWalk.iteOmega, IntWalk.toNatUp, reduceCtorEq, e3]
        · have hil : i = l.length := by omega
          have hcl : comT l i = comL l := by unfold comT; rw [hil, List.take_length]
          simp only [lp_rcom_0, cmoSt, wx, wy, wz, stV, seval, IntWalk.iteOmega, IntWalk.toNatUp, reduceCtorEq, hcl]
          rw [hcl] at hs
          rw [hs]
          exact ret_d2 (by simp only [wx, wy, wz, stV, seval, IntWalk.iteOmega, IntWalk.toNatUp, reduceCtorEq]) (by simp only [wx, wy, wz, stV, seval, IntWalk.iteOmega, IntWalk.toNatUp, reduceCtorEq])
/-! ### Equal lists -/
def ssSt (u v : List Spn) (i : Nat) : St := ⟨ofL [(0, .w (.c (.d (.sl (u.map spD))))), (1, .w (.c (.d (.sl (v.map spD))))), (5, .w (.c (.d (.int .i64 (i : Int)))))], hL [], uL []⟩
def lp_rsps_0 : SCode :=
  .seq (.seq (.reg [⟨(some 11), .mv (.t 5), none⟩,
    ⟨(some 12), .mv (.t 0), none⟩,
    ⟨(some 13), .len (.t 12), none⟩,
    ⟨(some 14), .bin .lss (.t 11) (.t 13), none⟩])
  (.cond (.t 14) (.skip)
   (.exit 0)))
  (.seq (.block 1 (.seq (.reg [⟨(some 17), .mv (.t 0), none⟩,
     ⟨(some 18), .mv (.t 5), none⟩,
     ⟨(some 19), .idxSl 2 (.t 17) (.t 18), none⟩,
     ⟨(some 20), .load (.ag 2) (.t 19), none⟩,
     ⟨(some 21), .mv (.t 1), none⟩,
     ⟨(some 22), .mv (.t 5), none⟩,
     ⟨(some 23), .idxSl 2 (.t 21) (.t 22), none⟩,
     ⟨(some 24), .load (.ag 2) (.t 23), none⟩,
     ⟨(some 25), .eqA true [0, 0] (.t 20) (.t 24), none⟩])
   (.cond (.t 25) (.seq (.reg [⟨(some 4), .mv (.k (.c (.d (.bool false)))), none⟩])
    (.ret))
    (.skip))))
  (.reg [⟨(some 15), .mv (.t 5), none⟩,
    ⟨(some 16), .bin .add (.t 15) (.k (.c (.d (.int .i64 1)))), none⟩,
    ⟨(some 5), .mv (.t 16), none⟩]))
def sf_rsps : SFn := ⟨2, 26,
  .seq (.reg [⟨(some 4), .mv (.k (.c (.d (.bool false)))), none⟩])
  (.seq (.seq (.reg [⟨(some 6), .mv (.t 0), none⟩,
    ⟨(some 7), .len (.t 6), none⟩,
    ⟨(some 8), .mv (.t 1), none⟩,
    ⟨(some 9), .len (.t 8), none⟩,
    ⟨(some 10), .bin .neq (.t 7) (.t 9), none⟩])
  (.cond (.t 10) (.seq (.reg [⟨(some 4), .mv (.k (.c (.d (.bool false)))), none⟩])
   (.ret))
   (.skip)))
  (.seq (.seq (.reg [⟨(some 5), .mv (.k (.c (.d (.int .i64 0)))), none⟩])
  (.block 0 (.loop lp_rsps_0)))
  (.seq (.reg [⟨(some 4), .mv (.k (.c (.d (.bool true)))), none⟩])
  (.ret)))),
  [(4, none)]⟩
theorem cf_rsps : compFn Try.prog { own := [], comp := [], frz := [], nils := [] } Try.f36 = some sf_rsps := by kernel_rfl
theorem rsps_c (G : Glob) (u v : List Spn) (hu : u.length ≤ 9223372036854775807) (hv : v.length ≤ 9223372036854775807) : Den Try.prog G 36 [.sl (u.map spD), .sl (v.map spD)] (.w (.c (.d (.bool (decide (u = v)))))) := by
  refine den_walk Try.func36 cf_rsps rfl rfl ?_
  by_cases hl : u.length = v.length
  · have hli : (u.length : Int) = (v.length : Int) := by omega
    simp only [sf_rsps, putAll, wx, wy, wz, stV, seval, IntWalk.iteOmega, IntWalk.toNatUp, reduceCtorEq, hli]
    refine loop_st (ssSt u v) (fun i => u.length - i) (fun i => i ≤ u.length ∧ u.take i = v.take i) 0 ⟨Nat.zero_le _, rfl⟩ ?_ ?_
    · refine ent_l (fun i => i) ?_ ?_ rfl rfl <;> simp only [wx, wex, wez, stV, seval, IntWalk.iteOmega, IntWalk.toNatUp, reduceCtorEq]
    · rintro i ⟨hi, ht⟩
      by_cases hlt : i < u.length
      · have g1 := getS hlt
        have g2 := getS (l := v) (j := i) (by omega)
        have t1 := takeS hlt
        have t2 := takeS (l := v) (j := i) (by omega)
        by_cases he : u.getD i (0, 0) = v.getD i (0, 0)
        · have ht' : u.take (i + 1) = v.take (i + 1) := by rw [t1, t2, ht, he]
          simp only [lp_rsps_0, ssSt, wx, wy, wz, stV, seval, IntWalk.iteOmega, IntWalk.toNatUp, reduceCtorEq, get_map, g1, g2, spD, he]
          refine lop_next (i + 1) (by omega) ⟨by omega, ht'⟩ (ent_l (fun i => i) ?_ ?_ rfl rfl) <;> simp only [wx, wex, wez, stV, seval, IntWalk.iteOmega, IntWalk.toNatUp, reduceCtorEq]
        · have hne : decide (u = v) = false := decide_eq_false (fun h => he (by rw [h]))
          rw [hne]
          by_cases h1 : (u.getD i (0, 0)).1 = (v.getD i (0, 0)).1
          · have h2 : ¬ (u.getD i (0, 0)).2 = (v.getD i (0, 0)).2 := fun h => he (Prod.ext h1 h)
            simp only [lp_rsps_0, ssSt, wx, wy, wz, stV, seval, IntWalk.iteOmega, IntWalk.toNatUp, reduceCtorEq, get_map, g1, g2, spD, h1, eq_false h2]
            exact ret_d1 (by simp only [wx, wy, wz, stV, seval, IntWalk.iteOmega, IntWalk.toNatUp, reduceCtorEq])
          · simp only [lp_rsps_0, ssSt, wx, wy, wz, stV, seval, IntWalk.iteOmega, IntWalk.toNatUp, reduceCtorEq, get_map, g1, g2, spD, eq_false h1]
            exact ret_d1 (by simp only [wx, wy, wz, stV, seval, IntWalk.iteOmega, IntWalk.toNatUp, reduceCtorEq])
      · have e1 : u.take i = u := List.take_of_length_le (by omega)
        have e2 : v.take i = v := List.take_of_length_le (by omega)
        rw [e1, e2] at ht
        rw [decide_eq_true ht]
        simp only [lp_rsps_0, ssSt, wx, wy, wz, stV, seval, IntWalk.iteOmega, IntWalk.toNatUp, reduceCtorEq]
        exact ret_d1 (by simp only [wx, wy, wz, stV, seval, IntWalk.iteOmega, IntWalk.toNatUp, reduceCtorEq])
  · have hne : decide (u = v) = false := decide_eq_false (fun h => hl (by rw [h]))
    have hli : ((u.length : Int) = (v.length : Int)) = False := eq_false (by omega)
    rw [hne]
    simp only [sf_rsps, putAll, wx, wy, wz, stV, seval, IntWalk.iteOmega, IntWalk.toNatUp, reduceCtorEq, hli]
    exact ret_d1 (by simp only [wx, wy, wz, stV, seval, IntWalk.iteOmega, IntWalk.toNatUp, reduceCtorEq])
end Go.Proofs.Ytaodfdnncdelnaa
