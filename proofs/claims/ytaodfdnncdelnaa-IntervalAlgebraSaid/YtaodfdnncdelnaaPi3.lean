/- Layer 11 on data: spans: the reference, for one span and two. Own work. -/
import Derived.Test.YtaodfdnncdelnaaPr1
import Derived.Test.YtaodfdnncdelnaaPi2
set_option linter.unusedVariables false
set_option linter.unusedSimpArgs false
namespace Go.Proofs.Ytaodfdnncdelnaa
open Go.RowKit

theorem okP_v (a b : Int) : okP (a, b) = (valT a && valT b && decide (a ≤ b)) := by
  unfold okP valT
  rw [← Bool.decide_and, ← Bool.decide_and]
  apply decide_eq_decide.2
  omega
theorem okP_i {a b : Int} (h : okP (a, b) = true) : -1152921504606846976 ≤ a ∧ b ≤ 1152921504606846976 ∧ a ≤ b := okP_t h
theorem okP_f {a b : Int} (h : okP (a, b) = false) : ¬ (-1152921504606846976 ≤ a ∧ b ≤ 1152921504606846976 ∧ a ≤ b) := of_decide_eq_false h
theorem okP_d {a b : Int} (h : -1152921504606846976 ≤ a ∧ b ≤ 1152921504606846976 ∧ a ≤ b) : okP (a, b) = true := decide_eq_true h
theorem okP_n {a b : Int} (h : ¬ (-1152921504606846976 ≤ a ∧ b ≤ 1152921504606846976 ∧ a ≤ b)) : okP (a, b) = false := decide_eq_false h
def sf_rsv : SFn := ⟨1, 18,
  .seq (.reg [⟨(some 1), .box .roBox (.t 0), none⟩,
    ⟨(some 2), .mv (.k (.c (.d (.bool false)))), none⟩])
  (.seq (.reg [⟨(some 3), .fieldAddr 0 (.t 1), none⟩,
    ⟨(some 4), .load .sc (.t 3), none⟩,
    ⟨(some 5), .call 47 [(.t 4)] none, none⟩,
    ⟨(some 6), .mv (.t 5), none⟩,
    ⟨(some 7), .fieldAddr 1 (.t 1), (some (6, true))⟩,
    ⟨(some 8), .load .sc (.t 7), (some (6, true))⟩,
    ⟨(some 9), .call 47 [(.t 8)] none, (some (6, true))⟩,
    ⟨(some 10), .pick (.t 6) (.t 9) (.k (.c (.d (.bool false)))), none⟩,
    ⟨(some 11), .mv (.t 10), none⟩,
    ⟨(some 12), .fieldAddr 0 (.t 1), (some (11, true))⟩,
    ⟨(some 13), .load .sc (.t 12), (some (11, true))⟩,
    ⟨(some 14), .fieldAddr 1 (.t 1), (some (11, true))⟩,
    ⟨(some 15), .load .sc (.t 14), (some (11, true))⟩,
    ⟨(some 16), .bin .leq (.t 13) (.t 15), (some (11, true))⟩,
    ⟨(some 17), .pick (.t 11) (.t 16) (.k (.c (.d (.bool false)))), none⟩,
    ⟨(some 2), .mv (.t 17), none⟩])
  (.ret)),
  [(2, none)]⟩
theorem cf_rsv : compFn Try.prog { own := [], comp := [], frz := [], nils := [] } Try.f23 = some sf_rsv := by kernel_rfl
theorem rsv_c (G : Glob) (a b : Int) : Den Try.prog G 23 [.agg [.int .i64 a, .int .i64 b]] (.w (.c (.d (.bool (okP (a, b)))))) := by
  refine den_walk Try.func23 cf_rsv rfl rfl ?_
  rw [okP_v]
  cases h1 : valT a
  · simp only [sf_rsv, putAll, wx, wy, wz, stV, seval, IntWalk.iteOmega, IntWalk.toNatUp, reduceCtorEq]
    refine st_call (rval_c G a) rfl (.inl rfl) ?_
    simp only [h1, wx, wy, wz, stV, seval, IntWalk.iteOmega, IntWalk.toNatUp, reduceCtorEq]
    exact ret_d1 (by simp only [wx, wy, wz, stV, seval, IntWalk.iteOmega, IntWalk.toNatUp, reduceCtorEq])
  · cases h2 : valT b
    · simp only [sf_rsv, putAll, wx, wy, wz, stV, seval, IntWalk.iteOmega, IntWalk.toNatUp, reduceCtorEq]
      refine st_call (rval_c G a) rfl (.inl rfl) ?_
      simp only [h1, wx, wy, wz, stV, seval, IntWalk.iteOmega, IntWalk.toNatUp, reduceCtorEq]
      refine st_call (rval_c G b) rfl (.inl rfl) ?_
      simp only [h2, wx, wy, wz, stV, seval, IntWalk.iteOmega, IntWalk.toNatUp, reduceCtorEq]
      exact ret_d1 (by simp only [wx, wy, wz, stV, seval, IntWalk.iteOmega, IntWalk.toNatUp, reduceCtorEq])
    · by_cases h3 : a ≤ b
      · rw [decide_eq_true h3]
        simp only [sf_rsv, putAll, wx, wy, wz, stV, seval, IntWalk.iteOmega, IntWalk.toNatUp, reduceCtorEq]
        refine st_call (rval_c G a) rfl (.inl rfl) ?_
        simp only [h1, wx, wy, wz, stV, seval, IntWalk.iteOmega, IntWalk.toNatUp, reduceCtorEq]
        refine st_call (rval_c G b) rfl (.inl rfl) ?_
        simp only [h2, wx, wy, wz, stV, seval, IntWalk.iteOmega, IntWalk.toNatUp, reduceCtorEq]
        exact ret_d1 (by simp only [wx, wy, wz, stV, seval, IntWalk.iteOmega, IntWalk.toNatUp, reduceCtorEq])
      · rw [decide_eq_false h3]
        simp only [sf_rsv, putAll, wx, wy, wz, stV, seval, IntWalk.iteOmega, IntWalk.toNatUp, reduceCtorEq]
        refine st_call (rval_c G a) rfl (.inl rfl) ?_
        simp only [h1, wx, wy, wz, stV, seval, IntWalk.iteOmega, IntWalk.toNatUp, reduceCtorEq]
        refine st_call (rval_c G b) rfl (.inl rfl) ?_
        simp only [h2, wx, wy, wz, stV, seval, IntWalk.iteOmega, IntWalk.toNatUp, reduceCtorEq]
        exact ret_d1 (by simp only [wx, wy, wz, stV, seval, IntWalk.iteOmega, IntWalk.toNatUp, reduceCtorEq])
/-! ### Holds, Inside, Width, Middle -/
def hldB (a b t : Int) : Bool := okP (a, b) && decide (a ≤ t ∧ t ≤ b)
def insB (a b c d : Int) : Bool := okP (a, b) && okP (c, d) && decide (c ≤ a ∧ b ≤ d)
def widV (a b : Int) : Int := if okP (a, b) = true then b - a else 0
def midV (a b : Int) : Int := if okP (a, b) = true then (a + b) / 2 else 0
def sf_rhld : SFn := ⟨2, 19,
  .seq (.reg [⟨(some 2), .box .roBox (.t 0), none⟩,
    ⟨(some 4), .mv (.k (.c (.d (.bool false)))), none⟩])
  (.seq (.reg [⟨(some 5), .load (.ag 2) (.t 2), none⟩,
    ⟨(some 6), .call 23 [(.t 5)] none, none⟩,
    ⟨(some 7), .mv (.t 6), none⟩,
    ⟨(some 8), .fieldAddr 0 (.t 2), (some (7, true))⟩,
    ⟨(some 9), .load .sc (.t 8), (some (7, true))⟩,
    ⟨(some 10), .mv (.t 1), (some (7, true))⟩,
    ⟨(some 11), .bin .leq (.t 9) (.t 10), (some (7, true))⟩,
    ⟨(some 12), .pick (.t 7) (.t 11) (.k (.c (.d (.bool false)))), none⟩,
    ⟨(some 13), .mv (.t 12), none⟩,
    ⟨(some 14), .mv (.t 1), (some (13, true))⟩,
    ⟨(some 15), .fieldAddr 1 (.t 2), (some (13, true))⟩,
    ⟨(some 16), .load .sc (.t 15), (some (13, true))⟩,
    ⟨(some 17), .bin .leq (.t 14) (.t 16), (some (13, true))⟩,
    ⟨(some 18), .pick (.t 13) (.t 17) (.k (.c (.d (.bool false)))), none⟩,
    ⟨(some 4), .mv (.t 18), none⟩])
  (.ret)),
  [(4, none)]⟩
theorem cf_rhld : compFn Try.prog { own := [], comp := [], frz := [], nils := [] } Try.f25 = some sf_rhld := by kernel_rfl
theorem rhld_c (G : Glob) (a b t : Int) : Den Try.prog G 25 [.agg [.int .i64 a, .int .i64 b], .int .i64 t] (.w (.c (.d (.bool (hldB a b t))))) := by
  refine den_walk Try.func25 cf_rhld rfl rfl ?_
  unfold hldB
  cases hv : okP (a, b)
  · simp only [sf_rhld, putAll, wx, wy, wz, stV, seval, IntWalk.iteOmega, IntWalk.toNatUp, reduceCtorEq]
    refine st_call (rsv_c G a b) rfl (.inl rfl) ?_
    simp only [hv, wx, wy, wz, stV, seval, IntWalk.iteOmega, IntWalk.toNatUp, reduceCtorEq]
    exact ret_d1 (by simp only [wx, wy, wz, stV, seval, IntWalk.iteOmega, IntWalk.toNatUp, reduceCtorEq])
  · by_cases h1 : a ≤ t
    · by_cases h2 : t ≤ b
      · rw [decide_eq_true ⟨h1, h2⟩]
        simp only [sf_rhld, putAll, wx, wy, wz, stV, seval, IntWalk.iteOmega, IntWalk.toNatUp, reduceCtorEq]
        refine st_call (rsv_c G a b) rfl (.inl rfl) ?_
        simp only [hv, wx, wy, wz, stV, seval, IntWalk.iteOmega, IntWalk.toNatUp, reduceCtorEq]
        exact ret_d1 (by simp only [wx, wy, wz, stV, seval, IntWalk.iteOmega, IntWalk.toNatUp, reduceCtorEq])
      · rw [decide_eq_false (by omega)]
        simp only [sf_rhld, putAll, wx, wy, wz, stV, seval, IntWalk.iteOmega, IntWalk.toNatUp, reduceCtorEq]
        refine st_call (rsv_c G a b) rfl (.inl rfl) ?_
        simp only [hv, wx, wy, wz, stV, seval, IntWalk.iteOmega, IntWalk.toNatUp, reduceCtorEq]
        exact ret_d1 (by simp only [wx, wy, wz, stV, seval, IntWalk.iteOmega, IntWalk.toNatUp, reduceCtorEq])
    · rw [decide_eq_false (by omega)]
      simp only [sf_rhld, putAll, wx, wy, wz, stV, seval, IntWalk.iteOmega, IntWalk.toNatUp, reduceCtorEq]
      refine st_call (rsv_c G a b) rfl (.inl rfl) ?_
      simp only [hv, wx, wy, wz, stV, seval, IntWalk.iteOmega, IntWalk.toNatUp, reduceCtorEq]
      exact ret_d1 (by simp only [wx, wy, wz, stV, seval, IntWalk.iteOmega, IntWalk.toNatUp, reduceCtorEq])
def sf_rins : SFn := ⟨2, 25,
  .seq (.reg [⟨(some 2), .box .roBox (.t 0), none⟩,
    ⟨(some 3), .box .roBox (.t 1), none⟩,
    ⟨(some 4), .mv (.k (.c (.d (.bool false)))), none⟩])
  (.seq (.reg [⟨(some 5), .load (.ag 2) (.t 2), none⟩,
    ⟨(some 6), .call 23 [(.t 5)] none, none⟩,
    ⟨(some 7), .mv (.t 6), none⟩,
    ⟨(some 8), .load (.ag 2) (.t 3), (some (7, true))⟩,
    ⟨(some 9), .call 23 [(.t 8)] none, (some (7, true))⟩,
    ⟨(some 10), .pick (.t 7) (.t 9) (.k (.c (.d (.bool false)))), none⟩,
    ⟨(some 11), .mv (.t 10), none⟩,
    ⟨(some 12), .fieldAddr 0 (.t 3), (some (11, true))⟩,
    ⟨(some 13), .load .sc (.t 12), (some (11, true))⟩,
    ⟨(some 14), .fieldAddr 0 (.t 2), (some (11, true))⟩,
    ⟨(some 15), .load .sc (.t 14), (some (11, true))⟩,
    ⟨(some 16), .bin .leq (.t 13) (.t 15), (some (11, true))⟩,
    ⟨(some 17), .pick (.t 11) (.t 16) (.k (.c (.d (.bool false)))), none⟩,
    ⟨(some 18), .mv (.t 17), none⟩,
    ⟨(some 19), .fieldAddr 1 (.t 2), (some (18, true))⟩,
    ⟨(some 20), .load .sc (.t 19), (some (18, true))⟩,
    ⟨(some 21), .fieldAddr 1 (.t 3), (some (18, true))⟩,
    ⟨(some 22), .load .sc (.t 21), (some (18, true))⟩,
    ⟨(some 23), .bin .leq (.t 20) (.t 22), (some (18, true))⟩,
    ⟨(some 24), .pick (.t 18) (.t 23) (.k (.c (.d (.bool false)))), none⟩,
    ⟨(some 4), .mv (.t 24), none⟩])
  (.ret)),
  [(4, none)]⟩
theorem cf_rins : compFn Try.prog { own := [], comp := [], frz := [], nils := [] } Try.f27 = some sf_rins := by kernel_rfl
theorem rins_c (G : Glob) (a b c d : Int) : Den Try.prog G 27 [.agg [.int .i64 a, .int .i64 b], .agg [.int .i64 c, .int .i64 d]] (.w (.c (.d (.bool (insB a b c d))))) := by
  refine den_walk Try.func27 cf_rins rfl rfl ?_
  unfold insB
  cases hv : okP (a, b)
  · simp only [sf_rins, putAll, wx, wy, wz, stV, seval, IntWalk.iteOmega, IntWalk.toNatUp, reduceCtorEq]
    refine st_call (rsv_c G a b) rfl (.inl rfl) ?_
    simp only [hv, wx, wy, wz, stV, seval, IntWalk.iteOmega, IntWalk.toNatUp, reduceCtorEq]
    exact ret_d1 (by simp only [wx, wy, wz, stV, seval, IntWalk.iteOmega, IntWalk.toNatUp, reduceCtorEq])
  · cases hv2 : okP (c, d)
    · simp only [sf_rins, putAll, wx, wy, wz, stV, seval, IntWalk.iteOmega, IntWalk.toNatUp, reduceCtorEq]
      refine st_call (rsv_c G a b) rfl (.inl rfl) ?_
      simp only [hv, wx, wy, wz, stV, seval, IntWalk.iteOmega, IntWalk.toNatUp, reduceCtorEq]
      refine st_call (rsv_c G c d) rfl (.inl rfl) ?_
      simp only [hv2, wx, wy, wz, stV, seval, IntWalk.iteOmega, IntWalk.toNatUp, reduceCtorEq]
      exact ret_d1 (by simp only [wx, wy, wz, stV, seval, IntWalk.iteOmega, IntWalk.toNatUp, reduceCtorEq])
    · by_cases h1 : c ≤ a
      · by_cases h2 : b ≤ d
        · rw [decide_eq_true ⟨h1, h2⟩]
          simp only [sf_rins, putAll, wx, wy, wz, stV, seval, IntWalk.iteOmega, IntWalk.toNatUp, reduceCtorEq]
          refine st_call (rsv_c G a b) rfl (.inl rfl) ?_
          simp only [hv, wx, wy, wz, stV, seval, IntWalk.iteOmega, IntWalk.toNatUp, reduceCtorEq]
          refine st_call (rsv_c G c d) rfl (.inl rfl) ?_
          simp only [hv2, wx, wy, wz, stV, seval, IntWalk.iteOmega, IntWalk.toNatUp, reduceCtorEq]
          exact ret_d1 (by simp only [wx, wy, wz, stV, seval, IntWalk.iteOmega, IntWalk.toNatUp, reduceCtorEq])
        · rw [decide_eq_false (by omega)]
          simp only [sf_rins, putAll, wx, wy, wz, stV, seval, IntWalk.iteOmega, IntWalk.toNatUp, reduceCtorEq]
          refine st_call (rsv_c G a b) rfl (.inl rfl) ?_
          simp only [hv, wx, wy, wz, stV, seval, IntWalk.iteOmega, IntWalk.toNatUp, reduceCtorEq]
          refine st_call (rsv_c G c d) rfl (.inl rfl) ?_
          simp only [hv2, wx, wy, wz, stV, seval, IntWalk.iteOmega, IntWalk.toNatUp, reduceCtorEq]
          exact ret_d1 (by simp only [wx, wy, wz, stV, seval, IntWalk.iteOmega, IntWalk.toNatUp, reduceCtorEq])
      · rw [decide_eq_false (by omega)]
        simp only [sf_rins, putAll, wx, wy, wz, stV, seval, IntWalk.iteOmega, IntWalk.toNatUp, reduceCtorEq]
        refine st_call (rsv_c G a b) rfl (.inl rfl) ?_
        simp only [hv, wx, wy, wz, stV, seval, IntWalk.iteOmega, IntWalk.toNatUp, reduceCtorEq]
        refine st_call (rsv_c G c d) rfl (.inl rfl) ?_
        simp only [hv2, wx, wy, wz, stV, seval, IntWalk.iteOmega, IntWalk.toNatUp, reduceCtorEq]
        exact ret_d1 (by simp only [wx, wy, wz, stV, seval, IntWalk.iteOmega, IntWalk.toNatUp, reduceCtorEq])
def sf_rwid : SFn := ⟨1, 11,
  .seq (.reg [⟨(some 1), .box .roBox (.t 0), none⟩,
    ⟨(some 2), .mv (.k (.c (.d (.int .i64 0)))), none⟩])
  (.seq (.seq (.reg [⟨(some 3), .load (.ag 2) (.t 1), none⟩,
    ⟨(some 4), .call 23 [(.t 3)] none, none⟩,
    ⟨(some 5), .un .not (.t 4), none⟩])
  (.cond (.t 5) (.seq (.reg [⟨(some 2), .mv (.k (.c (.d (.int .i64 0)))), none⟩])
   (.ret))
   (.skip)))
  (.seq (.reg [⟨(some 6), .fieldAddr 1 (.t 1), none⟩,
    ⟨(some 7), .load .sc (.t 6), none⟩,
    ⟨(some 8), .fieldAddr 0 (.t 1), none⟩,
    ⟨(some 9), .load .sc (.t 8), none⟩,
    ⟨(some 10), .bin .sub (.t 7) (.t 9), none⟩,
    ⟨(some 2), .mv (.t 10), none⟩])
  (.ret))),
  [(2, none)]⟩
theorem cf_rwid : compFn Try.prog { own := [], comp := [], frz := [], nils := [] } Try.f29 = some sf_rwid := by kernel_rfl
theorem rwid_c (G : Glob) (a b : Int) : Den Try.prog G 29 [.agg [.int .i64 a, .int .i64 b]] (.w (.c (.d (.int .i64 (widV a b))))) := by
  refine den_walk Try.func29 cf_rwid rfl rfl ?_
  unfold widV
  cases hv : okP (a, b)
  · simp only [sf_rwid, putAll, wx, wy, wz, stV, seval, IntWalk.iteOmega, IntWalk.toNatUp, reduceCtorEq]
    refine st_call (rsv_c G a b) rfl (.inl rfl) ?_
    simp only [hv, wx, wy, wz, stV, seval, IntWalk.iteOmega, IntWalk.toNatUp, reduceCtorEq]
    exact ret_d1 (by simp only [wx, wy, wz, stV, seval, IntWalk.iteOmega, IntWalk.toNatUp, reduceCtorEq])
  · obtain ⟨h1, h2, h3⟩ := okP_i hv
    simp only [sf_rwid, putAll, wx, wy, wz, stV, seval, IntWalk.iteOmega, IntWalk.toNatUp, reduceCtorEq]
    refine st_call (rsv_c G a b) rfl (.inl rfl) ?_
    simp only [hv, wx, wy, wz, stV, seval, IntWalk.iteOmega, IntWalk.toNatUp, reduceCtorEq]
    exact ret_d1 (by simp only [wx, wy, wz, stV, seval, IntWalk.iteOmega, IntWalk.toNatUp, reduceCtorEq])
def sf_rmid : SFn := ⟨1, 12,
  .seq (.reg [⟨(some 1), .box .roBox (.t 0), none⟩,
    ⟨(some 2), .mv (.k (.c (.d (.int .i64 0)))), none⟩])
  (.seq (.seq (.reg [⟨(some 3), .load (.ag 2) (.t 1), none⟩,
    ⟨(some 4), .call 23 [(.t 3)] none, none⟩,
    ⟨(some 5), .un .not (.t 4), none⟩])
  (.cond (.t 5) (.seq (.reg [⟨(some 2), .mv (.k (.c (.d (.int .i64 0)))), none⟩])
   (.ret))
   (.skip)))
  (.seq (.reg [⟨(some 6), .fieldAddr 0 (.t 1), none⟩,
    ⟨(some 7), .load .sc (.t 6), none⟩,
    ⟨(some 8), .fieldAddr 1 (.t 1), none⟩,
    ⟨(some 9), .load .sc (.t 8), none⟩,
    ⟨(some 10), .bin .add (.t 7) (.t 9), none⟩,
    ⟨(some 11), .call 50 [(.t 10), (.k (.c (.d (.int .i64 2)))), (.k (.c (.d (.bool false))))] none, none⟩,
    ⟨(some 2), .mv (.t 11), none⟩])
  (.ret))),
  [(2, none)]⟩
theorem cf_rmid : compFn Try.prog { own := [], comp := [], frz := [], nils := [] } Try.f31 = some sf_rmid := by kernel_rfl
theorem rmid_c (G : Glob) (a b : Int) : Den Try.prog G 31 [.agg [.int .i64 a, .int .i64 b]] (.w (.c (.d (.int .i64 (midV a b))))) := by
  refine den_walk Try.func31 cf_rmid rfl rfl ?_
  unfold midV
  cases hv : okP (a, b)
  · simp only [sf_rmid, putAll, wx, wy, wz, stV, seval, IntWalk.iteOmega, IntWalk.toNatUp, reduceCtorEq]
    refine st_call (rsv_c G a b) rfl (.inl rfl) ?_
    simp only [hv, wx, wy, wz, stV, seval, IntWalk.iteOmega, IntWalk.toNatUp, reduceCtorEq]
    exact ret_d1 (by simp only [wx, wy, wz, stV, seval, IntWalk.iteOmega, IntWalk.toNatUp, reduceCtorEq])
  · obtain ⟨h1, h2, h3⟩ := okP_i hv
    have c := rquo_c G (a + b) 2 false (by omega) (by omega) (by decide)
    rw [show roundI (a + b) 2 false = (a + b) / 2 from if_neg (by intro k; cases k.1)] at c
    simp only [sf_rmid, putAll, wx, wy, wz, stV, seval, IntWalk.iteOmega, IntWalk.toNatUp, reduceCtorEq]
    refine st_call (rsv_c G a b) rfl (.inl rfl) ?_
    simp only [hv, wx, wy, wz, stV, seval, IntWalk.iteOmega, IntWalk.toNatUp, reduceCtorEq]
    refine st_call (c) rfl (.inl rfl) ?_
    simp only [wx, wy, wz, stV, seval, IntWalk.iteOmega, IntWalk.toNatUp, reduceCtorEq]
    exact ret_d1 (by simp only [wx, wy, wz, stV, seval, IntWalk.iteOmega, IntWalk.toNatUp, reduceCtorEq])
/-! ### Meet, Hull -/
theorem max2 (a c : Int) : [c].foldl (fun x y => if y > x then y else x) a = max a c := by
  simp only [List.foldl_cons, List.foldl_nil]
  rw [Int.max_def]; split <;> split <;> omega
theorem min2 (a c : Int) : [c].foldl (fun x y => if y < x then y else x) a = min a c := by
  simp only [List.foldl_cons, List.foldl_nil]
  rw [Int.min_def]; split <;> split <;> omega
def spA (k : Bool) (x y : Int) : D := .agg [.int .i64 (if k = true then x else 0), .int .i64 (if k = true then y else 0)]
def mtB (a b c d : Int) : Bool := meetB (a, b) (c, d)
def hulB (a b c d : Int) : Bool := okP (a, b) && okP (c, d)
def sf_rmet : SFn := ⟨2, 39,
  .seq (.reg [⟨(some 2), .box .roBox (.t 0), none⟩,
    ⟨(some 3), .box .roBox (.t 1), none⟩,
    ⟨(some 4), .alloc [(.d (.int .i64 0)), (.d (.int .i64 0))], none⟩,
    ⟨(some 5), .mv (.k (.c (.d (.bool false)))), none⟩])
  (.seq (.seq (.reg [⟨(some 6), .load (.ag 2) (.t 2), none⟩,
    ⟨(some 7), .call 23 [(.t 6)] none, none⟩,
    ⟨(some 8), .un .not (.t 7), none⟩,
    ⟨(some 9), .mv (.t 8), none⟩,
    ⟨(some 10), .load (.ag 2) (.t 3), (some (9, false))⟩,
    ⟨(some 11), .call 23 [(.t 10)] none, (some (9, false))⟩,
    ⟨(some 12), .un .not (.t 11), (some (9, false))⟩,
    ⟨(some 13), .pick (.t 9) (.k (.c (.d (.bool true)))) (.t 12), none⟩,
    ⟨(some 14), .mv (.t 13), none⟩,
    ⟨(some 15), .fieldAddr 0 (.t 2), (some (14, false))⟩,
    ⟨(some 16), .load .sc (.t 15), (some (14, false))⟩,
    ⟨(some 17), .fieldAddr 0 (.t 3), (some (14, false))⟩,
    ⟨(some 18), .load .sc (.t 17), (some (14, false))⟩,
    ⟨(some 19), .max [(.t 16), (.t 18)], (some (14, false))⟩,
    ⟨(some 20), .fieldAddr 1 (.t 2), (some (14, false))⟩,
    ⟨(some 21), .load .sc (.t 20), (some (14, false))⟩,
    ⟨(some 22), .fieldAddr 1 (.t 3), (some (14, false))⟩,
    ⟨(some 23), .load .sc (.t 22), (some (14, false))⟩,
    ⟨(some 24), .min [(.t 21), (.t 23)], (some (14, false))⟩,
    ⟨(some 25), .bin .gtr (.t 19) (.t 24), (some (14, false))⟩,
    ⟨(some 26), .pick (.t 14) (.k (.c (.d (.bool true)))) (.t 25), none⟩])
  (.cond (.t 26) (.seq (.reg [⟨(some 27), .build [(.d (.int .i64 0)), (.d (.int .i64 0))] [], none⟩,
     ⟨none, .store (.ag 2) (.t 4) (.t 27), none⟩,
     ⟨(some 5), .mv (.k (.c (.d (.bool false)))), none⟩])
   (.ret))
   (.skip)))
  (.seq (.reg [⟨(some 28), .fieldAddr 0 (.t 2), none⟩,
    ⟨(some 29), .load .sc (.t 28), none⟩,
    ⟨(some 30), .fieldAddr 0 (.t 3), none⟩,
    ⟨(some 31), .load .sc (.t 30), none⟩,
    ⟨(some 32), .max [(.t 29), (.t 31)], none⟩,
    ⟨(some 33), .fieldAddr 1 (.t 2), none⟩,
    ⟨(some 34), .load .sc (.t 33), none⟩,
    ⟨(some 35), .fieldAddr 1 (.t 3), none⟩,
    ⟨(some 36), .load .sc (.t 35), none⟩,
    ⟨(some 37), .min [(.t 34), (.t 36)], none⟩,
    ⟨(some 38), .build [(.d (.int .i64 0)), (.d (.int .i64 0))] [(0, 1, (.t 32)), (1, 1, (.t 37))], none⟩,
    ⟨none, .store (.ag 2) (.t 4) (.t 38), none⟩,
    ⟨(some 5), .mv (.k (.c (.d (.bool true)))), none⟩])
  (.ret))),
  [(4, (some (.ag 2))), (5, none)]⟩
theorem cf_rmet : compFn Try.prog { own := [], comp := [], frz := [], nils := [] } Try.f10 = some sf_rmet := by kernel_rfl
theorem rmet_c (G : Glob) (a b c d : Int) : Den Try.prog G 10 [.agg [.int .i64 a, .int .i64 b], .agg [.int .i64 c, .int .i64 d]] (.tup [.c (.d (spA (mtB a b c d) (max a c) (min b d))), .c (.d (.bool (mtB a b c d)))]) := by
  refine den_walk Try.func10 cf_rmet rfl rfl ?_
  unfold mtB meetB spA
  cases hv : okP (a, b)
  · simp only [sf_rmet, putAll, wx, wy, wz, stV, seval, IntWalk.iteOmega, IntWalk.toNatUp, reduceCtorEq]
    refine st_call (rsv_c G a b) rfl (.inl rfl) ?_
    simp only [hv, wx, wy, wz, stV, seval, IntWalk.iteOmega, IntWalk.toNatUp, reduceCtorEq]
    exact ret_d2 (by simp only [wx, wy, wz, stV, seval, IntWalk.iteOmega, IntWalk.toNatUp, reduceCtorEq]) (by simp only [wx, wy, wz, stV, seval, IntWalk.iteOmega, IntWalk.toNatUp, reduceCtorEq])
  · cases hv2 : okP (c, d)
    · simp only [sf_rmet, putAll, wx, wy, wz, stV, seval, IntWalk.iteOmega, IntWalk.toNatUp, reduceCtorEq]
      refine st_call (rsv_c G a b) rfl (.inl rfl) ?_
      simp only [hv, wx, wy, wz, stV, seval, IntWalk.iteOmega, IntWalk.toNatUp, reduceCtorEq]
      refine st_call (rsv_c G c d) rfl (.inl rfl) ?_
      simp only [hv2, wx, wy, wz, stV, seval, IntWalk.iteOmega, IntWalk.toNatUp, reduceCtorEq]
      exact ret_d2 (by simp only [wx, wy, wz, stV, seval, IntWalk.iteOmega, IntWalk.toNatUp, reduceCtorEq]) (by simp only [wx, wy, wz, stV, seval, IntWalk.iteOmega, IntWalk.toNatUp, reduceCtorEq])
    · by_cases h3 : max a c ≤ min b d
      · have hgt : (max a c > min b d) = False := eq_false (by omega)
        rw [decide_eq_true h3]
        simp only [sf_rmet, putAll, wx, wy, wz, stV, seval, IntWalk.iteOmega, IntWalk.toNatUp, reduceCtorEq]
        refine st_call (rsv_c G a b) rfl (.inl rfl) ?_
        simp only [hv, wx, wy, wz, stV, seval, IntWalk.iteOmega, IntWalk.toNatUp, reduceCtorEq]
        refine st_call (rsv_c G c d) rfl (.inl rfl) ?_
        simp only [hv2, max2, min2, hgt, wx, wy, wz, stV, seval, IntWalk.iteOmega, IntWalk.toNatUp, reduceCtorEq]
        exact ret_d2 (by simp only [wx, wy, wz, stV, seval, IntWalk.iteOmega, IntWalk.toNatUp, reduceCtorEq]) (by simp only [wx, wy, wz, stV, seval, IntWalk.iteOmega, IntWalk.toNatUp, reduceCtorEq])
      · have hgt : (max a c > min b d) = True := eq_true (by omega)
        rw [decide_eq_false h3]
        simp only [sf_rmet, putAll, wx, wy, wz, stV, seval, IntWalk.iteOmega, IntWalk.toNatUp, reduceCtorEq]
        refine st_call (rsv_c G a b) rfl (.inl rfl) ?_
        simp only [hv, wx, wy, wz, stV, seval, IntWalk.iteOmega, IntWalk.toNatUp, reduceCtorEq]
        refine st_call (rsv_c G c d) rfl (.inl rfl) ?_
        simp only [hv2, max2, min2, hgt, wx, wy, wz, stV, seval, IntWalk.iteOmega, IntWalk.toNatUp, reduceCtorEq]
        exact ret_d2 (by simp only [wx, wy, wz, stV, seval, IntWalk.iteOmega, IntWalk.toNatUp, reduceCtorEq]) (by simp only [wx, wy, wz, stV, seval, IntWalk.iteOmega, IntWalk.toNatUp, reduceCtorEq])
def sf_rhul : SFn := ⟨2, 26,
  .seq (.reg [⟨(some 2), .box .roBox (.t 0), none⟩,
    ⟨(some 3), .box .roBox (.t 1), none⟩,
    ⟨(some 4), .alloc [(.d (.int .i64 0)), (.d (.int .i64 0))], none⟩,
    ⟨(some 5), .mv (.k (.c (.d (.int .i64 0)))), none⟩])
  (.seq (.seq (.reg [⟨(some 6), .load (.ag 2) (.t 2), none⟩,
    ⟨(some 7), .call 23 [(.t 6)] none, none⟩,
    ⟨(some 8), .un .not (.t 7), none⟩,
    ⟨(some 9), .mv (.t 8), none⟩,
    ⟨(some 10), .load (.ag 2) (.t 3), (some (9, false))⟩,
    ⟨(some 11), .call 23 [(.t 10)] none, (some (9, false))⟩,
    ⟨(some 12), .un .not (.t 11), (some (9, false))⟩,
    ⟨(some 13), .pick (.t 9) (.k (.c (.d (.bool true)))) (.t 12), none⟩])
  (.cond (.t 13) (.seq (.reg [⟨(some 14), .build [(.d (.int .i64 0)), (.d (.int .i64 0))] [], none⟩,
     ⟨none, .store (.ag 2) (.t 4) (.t 14), none⟩,
     ⟨(some 5), .mv (.k (.c (.d (.int .i64 3)))), none⟩])
   (.ret))
   (.skip)))
  (.seq (.reg [⟨(some 15), .fieldAddr 0 (.t 2), none⟩,
    ⟨(some 16), .load .sc (.t 15), none⟩,
    ⟨(some 17), .fieldAddr 0 (.t 3), none⟩,
    ⟨(some 18), .load .sc (.t 17), none⟩,
    ⟨(some 19), .min [(.t 16), (.t 18)], none⟩,
    ⟨(some 20), .fieldAddr 1 (.t 2), none⟩,
    ⟨(some 21), .load .sc (.t 20), none⟩,
    ⟨(some 22), .fieldAddr 1 (.t 3), none⟩,
    ⟨(some 23), .load .sc (.t 22), none⟩,
    ⟨(some 24), .max [(.t 21), (.t 23)], none⟩,
    ⟨(some 25), .build [(.d (.int .i64 0)), (.d (.int .i64 0))] [(0, 1, (.t 19)), (1, 1, (.t 24))], none⟩,
    ⟨none, .store (.ag 2) (.t 4) (.t 25), none⟩,
    ⟨(some 5), .mv (.k (.c (.d (.int .i64 0)))), none⟩])
  (.ret))),
  [(4, (some (.ag 2))), (5, none)]⟩
theorem cf_rhul : compFn Try.prog { own := [], comp := [], frz := [], nils := [] } Try.f12 = some sf_rhul := by kernel_rfl
theorem rhul_c (G : Glob) (a b c d : Int) : Den Try.prog G 12 [.agg [.int .i64 a, .int .i64 b], .agg [.int .i64 c, .int .i64 d]] (.tup [.c (.d (spA (hulB a b c d) (min a c) (max b d))), .c (.d (.int .i64 (if hulB a b c d = true then 0 else 3)))]) := by
  refine den_walk Try.func12 cf_rhul rfl rfl ?_
  unfold hulB spA
  cases hv : okP (a, b)
  · simp only [sf_rhul, putAll, wx, wy, wz, stV, seval, IntWalk.iteOmega, IntWalk.toNatUp, reduceCtorEq]
    refine st_call (rsv_c G a b) rfl (.inl rfl) ?_
    simp only [hv, wx, wy, wz, stV, seval, IntWalk.iteOmega, IntWalk.toNatUp, reduceCtorEq]
    exact ret_d2 (by simp only [wx, wy, wz, stV, seval, IntWalk.iteOmega, IntWalk.toNatUp, reduceCtorEq]) (by simp only [wx, wy, wz, stV, seval, IntWalk.iteOmega, IntWalk.toNatUp, reduceCtorEq])
  · cases hv2 : okP (c, d)
    · simp only [sf_rhul, putAll, wx, wy, wz, stV, seval, IntWalk.iteOmega, IntWalk.toNatUp, reduceCtorEq]
      refine st_call (rsv_c G a b) rfl (.inl rfl) ?_
      simp only [hv, wx, wy, wz, stV, seval, IntWalk.iteOmega, IntWalk.toNatUp, reduceCtorEq]
      refine st_call (rsv_c G c d) rfl (.inl rfl) ?_
      simp only [hv2, wx, wy, wz, stV, seval, IntWalk.iteOmega, IntWalk.toNatUp, reduceCtorEq]
      exact ret_d2 (by simp only [wx, wy, wz, stV, seval, IntWalk.iteOmega, IntWalk.toNatUp, reduceCtorEq]) (by simp only [wx, wy, wz, stV, seval, IntWalk.iteOmega, IntWalk.toNatUp, reduceCtorEq])
    · simp only [sf_rhul, putAll, wx, wy, wz, stV, seval, IntWalk.iteOmega, IntWalk.toNatUp, reduceCtorEq]
      refine st_call (rsv_c G a b) rfl (.inl rfl) ?_
      simp only [hv, wx, wy, wz, stV, seval, IntWalk.iteOmega, IntWalk.toNatUp, reduceCtorEq]
      refine st_call (rsv_c G c d) rfl (.inl rfl) ?_
      simp only [hv2, max2, min2, wx, wy, wz, stV, seval, IntWalk.iteOmega, IntWalk.toNatUp, reduceCtorEq]
      exact ret_d2 (by simp only [wx, wy, wz, stV, seval, IntWalk.iteOmega, IntWalk.toNatUp, reduceCtorEq]) (by simp only [wx, wy, wz, stV, seval, IntWalk.iteOmega, IntWalk.toNatUp, reduceCtorEq])
/-! ### Sums -/
def sf_rmad : SFn := ⟨2, 15,
  .seq (.reg [⟨(some 4), .alloc [(.d (.int .i64 0)), (.d (.int .i64 0))], none⟩,
    ⟨(some 5), .mv (.k (.c (.d (.int .i64 0)))), none⟩])
  (.seq (.reg [⟨(some 7), .mv (.t 0), none⟩,
    ⟨(some 8), .mv (.t 1), none⟩,
    ⟨(some 9), .build [(.d (.int .i64 0)), (.d (.int .i64 0))] [(0, 1, (.t 7)), (1, 1, (.t 8))], none⟩,
    ⟨(some 6), .alloc [(.d (.int .i64 0)), (.d (.int .i64 0))], none⟩,
    ⟨none, .store (.ag 2) (.t 6) (.t 9), none⟩])
  (.seq (.seq (.reg [⟨(some 10), .load (.ag 2) (.t 6), none⟩,
    ⟨(some 11), .call 23 [(.t 10)] none, none⟩,
    ⟨(some 12), .un .not (.t 11), none⟩])
  (.cond (.t 12) (.seq (.reg [⟨(some 13), .build [(.d (.int .i64 0)), (.d (.int .i64 0))] [], none⟩,
     ⟨none, .store (.ag 2) (.t 4) (.t 13), none⟩,
     ⟨(some 5), .mv (.k (.c (.d (.int .i64 4)))), none⟩])
   (.ret))
   (.skip)))
  (.seq (.reg [⟨(some 14), .load (.ag 2) (.t 6), none⟩,
    ⟨none, .store (.ag 2) (.t 4) (.t 14), none⟩,
    ⟨(some 5), .mv (.k (.c (.d (.int .i64 0)))), none⟩])
  (.ret)))),
  [(4, (some (.ag 2))), (5, none)]⟩
theorem cf_rmad : compFn Try.prog { own := [], comp := [], frz := [], nils := [] } Try.f43 = some sf_rmad := by kernel_rfl
theorem rmad_c (G : Glob) (a b : Int) : Den Try.prog G 43 [.int .i64 a, .int .i64 b] (.tup [.c (.d (spA (okP (a, b)) a b)), .c (.d (.int .i64 (if okP (a, b) = true then 0 else 4)))]) := by
  refine den_walk Try.func43 cf_rmad rfl rfl ?_
  unfold spA
  cases hv : okP (a, b)
  · simp only [sf_rmad, putAll, wx, wy, wz, stV, seval, IntWalk.iteOmega, IntWalk.toNatUp, reduceCtorEq]
    refine st_call (rsv_c G a b) rfl (.inl rfl) ?_
    simp only [hv, wx, wy, wz, stV, seval, IntWalk.iteOmega, IntWalk.toNatUp, reduceCtorEq]
    exact ret_d2 (by simp only [wx, wy, wz, stV, seval, IntWalk.iteOmega, IntWalk.toNatUp, reduceCtorEq]) (by simp only [wx, wy, wz, stV, seval, IntWalk.iteOmega, IntWalk.toNatUp, reduceCtorEq])
  · simp only [sf_rmad, putAll, wx, wy, wz, stV, seval, IntWalk.iteOmega, IntWalk.toNatUp, reduceCtorEq]
    refine st_call (rsv_c G a b) rfl (.inl rfl) ?_
    simp only [hv, wx, wy, wz, stV, seval, IntWalk.iteOmega, IntWalk.toNatUp, reduceCtorEq]
    exact ret_d2 (by simp only [wx, wy, wz, stV, seval, IntWalk.iteOmega, IntWalk.toNatUp, reduceCtorEq]) (by simp only [wx, wy, wz, stV, seval, IntWalk.iteOmega, IntWalk.toNatUp, reduceCtorEq])
/-- A span made of sums, if two spans are valid. -/
def smsB (a b c d x y : Int) : Bool := okP (a, b) && okP (c, d) && okP (x, y)
def sumE (a b c d x y : Int) : Int := if (okP (a, b) && okP (c, d)) = true then (if okP (x, y) = true then 0 else 4) else 3
def sf_radd : SFn := ⟨2, 28,
  .seq (.reg [⟨(some 2), .box .roBox (.t 0), none⟩,
    ⟨(some 3), .box .roBox (.t 1), none⟩,
    ⟨(some 4), .alloc [(.d (.int .i64 0)), (.d (.int .i64 0))], none⟩,
    ⟨(some 5), .mv (.k (.c (.d (.int .i64 0)))), none⟩])
  (.seq (.seq (.reg [⟨(some 6), .load (.ag 2) (.t 2), none⟩,
    ⟨(some 7), .call 23 [(.t 6)] none, none⟩,
    ⟨(some 8), .un .not (.t 7), none⟩,
    ⟨(some 9), .mv (.t 8), none⟩,
    ⟨(some 10), .load (.ag 2) (.t 3), (some (9, false))⟩,
    ⟨(some 11), .call 23 [(.t 10)] none, (some (9, false))⟩,
    ⟨(some 12), .un .not (.t 11), (some (9, false))⟩,
    ⟨(some 13), .pick (.t 9) (.k (.c (.d (.bool true)))) (.t 12), none⟩])
  (.cond (.t 13) (.seq (.reg [⟨(some 14), .build [(.d (.int .i64 0)), (.d (.int .i64 0))] [], none⟩,
     ⟨none, .store (.ag 2) (.t 4) (.t 14), none⟩,
     ⟨(some 5), .mv (.k (.c (.d (.int .i64 3)))), none⟩])
   (.ret))
   (.skip)))
  (.seq (.reg [⟨(some 15), .fieldAddr 0 (.t 2), none⟩,
    ⟨(some 16), .load .sc (.t 15), none⟩,
    ⟨(some 17), .fieldAddr 0 (.t 3), none⟩,
    ⟨(some 18), .load .sc (.t 17), none⟩,
    ⟨(some 19), .bin .add (.t 16) (.t 18), none⟩,
    ⟨(some 20), .fieldAddr 1 (.t 2), none⟩,
    ⟨(some 21), .load .sc (.t 20), none⟩,
    ⟨(some 22), .fieldAddr 1 (.t 3), none⟩,
    ⟨(some 23), .load .sc (.t 22), none⟩,
    ⟨(some 24), .bin .add (.t 21) (.t 23), none⟩,
    ⟨(some 25), .call 43 [(.t 19), (.t 24)] none, none⟩,
    ⟨(some 26), .extract (.t 25) 0, none⟩,
    ⟨(some 27), .extract (.t 25) 1, none⟩,
    ⟨none, .store (.ag 2) (.t 4) (.t 26), none⟩,
    ⟨(some 5), .mv (.t 27), none⟩])
  (.ret))),
  [(4, (some (.ag 2))), (5, none)]⟩
theorem cf_radd : compFn Try.prog { own := [], comp := [], frz := [], nils := [] } Try.f14 = some sf_radd := by kernel_rfl
theorem radd_c (G : Glob) (a b c d : Int) : Den Try.prog G 14 [.agg [.int .i64 a, .int .i64 b], .agg [.int .i64 c, .int .i64 d]] (.tup [.c (.d (spA (smsB a b c d (a + c) (b + d)) (a + c) (b + d))), .c (.d (.int .i64 (sumE a b c d (a + c) (b + d))))]) := by
  refine den_walk Try.func14 cf_radd rfl rfl ?_
  unfold smsB sumE
  cases hv : okP (a, b)
  · simp only [sf_radd, putAll, wx, wy, wz, stV, seval, IntWalk.iteOmega, IntWalk.toNatUp, reduceCtorEq]
    refine st_call (rsv_c G a b) rfl (.inl rfl) ?_
    simp only [hv, wx, wy, wz, stV, seval, IntWalk.iteOmega, IntWalk.toNatUp, reduceCtorEq]
    unfold spA
    exact ret_d2 (by simp only [wx, wy, wz, stV, seval, IntWalk.iteOmega, IntWalk.toNatUp, reduceCtorEq]) (by simp only [wx, wy, wz, stV, seval, IntWalk.iteOmega, IntWalk.toNatUp, reduceCtorEq])
  · cases hv2 : okP (c, d)
    · simp only [sf_radd, putAll, wx, wy, wz, stV, seval, IntWalk.iteOmega, IntWalk.toNatUp, reduceCtorEq]
      refine st_call (rsv_c G a b) rfl (.inl rfl) ?_
      simp only [hv, wx, wy, wz, stV, seval, IntWalk.iteOmega, IntWalk.toNatUp, reduceCtorEq]
      refine st_call (rsv_c G c d) rfl (.inl rfl) ?_
      simp only [hv2, wx, wy, wz, stV, seval, IntWalk.iteOmega, IntWalk.toNatUp, reduceCtorEq]
      unfold spA
      exact ret_d2 (by simp only [wx, wy, wz, stV, seval, IntWalk.iteOmega, IntWalk.toNatUp, reduceCtorEq]) (by simp only [wx, wy, wz, stV, seval, IntWalk.iteOmega, IntWalk.toNatUp, reduceCtorEq])
    · obtain ⟨h1, h2, h3⟩ := okP_i hv
      obtain ⟨k1, k2, k3⟩ := okP_i hv2
      have cm := rmad_c G (a + c) (b + d)
      simp only [sf_radd, putAll, wx, wy, wz, stV, seval, IntWalk.iteOmega, IntWalk.toNatUp, reduceCtorEq]
      refine st_call (rsv_c G a b) rfl (.inl rfl) ?_
      simp only [hv, wx, wy, wz, stV, seval, IntWalk.iteOmega, IntWalk.toNatUp, reduceCtorEq]
      refine st_call (rsv_c G c d) rfl (.inl rfl) ?_
      simp only [hv2, wx, wy, wz, stV, seval, IntWalk.iteOmega, IntWalk.toNatUp, reduceCtorEq]
      refine st_call (cm) rfl (.inl rfl) ?_
      simp only [spA, wx, wy, wz, stV, seval, IntWalk.iteOmega, IntWalk.toNatUp, reduceCtorEq]
      exact ret_d2 (by simp only [wx, wy, wz, stV, seval, IntWalk.iteOmega, IntWalk.toNatUp, reduceCtorEq]) (by simp only [wx, wy, wz, stV, seval, IntWalk.iteOmega, IntWalk.toNatUp, reduceCtorEq])
def sf_rsbs : SFn := ⟨2, 28,
  .seq (.reg [⟨(some 2), .box .roBox (.t 0), none⟩,
    ⟨(some 3), .box .roBox (.t 1), none⟩,
    ⟨(some 4), .alloc [(.d (.int .i64 0)), (.d (.int .i64 0))], none⟩,
    ⟨(some 5), .mv (.k (.c (.d (.int .i64 0)))), none⟩])
  (.seq (.seq (.reg [⟨(some 6), .load (.ag 2) (.t 2), none⟩,
    ⟨(some 7), .call 23 [(.t 6)] none, none⟩,
    ⟨(some 8), .un .not (.t 7), none⟩,
    ⟨(some 9), .mv (.t 8), none⟩,
    ⟨(some 10), .load (.ag 2) (.t 3), (some (9, false))⟩,
    ⟨(some 11), .call 23 [(.t 10)] none, (some (9, false))⟩,
    ⟨(some 12), .un .not (.t 11), (some (9, false))⟩,
    ⟨(some 13), .pick (.t 9) (.k (.c (.d (.bool true)))) (.t 12), none⟩])
  (.cond (.t 13) (.seq (.reg [⟨(some 14), .build [(.d (.int .i64 0)), (.d (.int .i64 0))] [], none⟩,
     ⟨none, .store (.ag 2) (.t 4) (.t 14), none⟩,
     ⟨(some 5), .mv (.k (.c (.d (.int .i64 3)))), none⟩])
   (.ret))
   (.skip)))
  (.seq (.reg [⟨(some 15), .fieldAddr 0 (.t 2), none⟩,
    ⟨(some 16), .load .sc (.t 15), none⟩,
    ⟨(some 17), .fieldAddr 1 (.t 3), none⟩,
    ⟨(some 18), .load .sc (.t 17), none⟩,
    ⟨(some 19), .bin .sub (.t 16) (.t 18), none⟩,
    ⟨(some 20), .fieldAddr 1 (.t 2), none⟩,
    ⟨(some 21), .load .sc (.t 20), none⟩,
    ⟨(some 22), .fieldAddr 0 (.t 3), none⟩,
    ⟨(some 23), .load .sc (.t 22), none⟩,
    ⟨(some 24), .bin .sub (.t 21) (.t 23), none⟩,
    ⟨(some 25), .call 43 [(.t 19), (.t 24)] none, none⟩,
    ⟨(some 26), .extract (.t 25) 0, none⟩,
    ⟨(some 27), .extract (.t 25) 1, none⟩,
    ⟨none, .store (.ag 2) (.t 4) (.t 26), none⟩,
    ⟨(some 5), .mv (.t 27), none⟩])
  (.ret))),
  [(4, (some (.ag 2))), (5, none)]⟩
theorem cf_rsbs : compFn Try.prog { own := [], comp := [], frz := [], nils := [] } Try.f16 = some sf_rsbs := by kernel_rfl
theorem rsbs_c (G : Glob) (a b c d : Int) : Den Try.prog G 16 [.agg [.int .i64 a, .int .i64 b], .agg [.int .i64 c, .int .i64 d]] (.tup [.c (.d (spA (smsB a b c d (a - d) (b - c)) (a - d) (b - c))), .c (.d (.int .i64 (sumE a b c d (a - d) (b - c))))]) := by
  refine den_walk Try.func16 cf_rsbs rfl rfl ?_
  unfold smsB sumE
  cases hv : okP (a, b)
  · simp only [sf_rsbs, putAll, wx, wy, wz, stV, seval, IntWalk.iteOmega, IntWalk.toNatUp, reduceCtorEq]
    refine st_call (rsv_c G a b) rfl (.inl rfl) ?_
    simp only [hv, wx, wy, wz, stV, seval, IntWalk.iteOmega, IntWalk.toNatUp, reduceCtorEq]
    unfold spA
    exact ret_d2 (by simp only [wx, wy, wz, stV, seval, IntWalk.iteOmega, IntWalk.toNatUp, reduceCtorEq]) (by simp only [wx, wy, wz, stV, seval, IntWalk.iteOmega, IntWalk.toNatUp, reduceCtorEq])
  · cases hv2 : okP (c, d)
    · simp only [sf_rsbs, putAll, wx, wy, wz, stV, seval, IntWalk.iteOmega, IntWalk.toNatUp, reduceCtorEq]
      refine st_call (rsv_c G a b) rfl (.inl rfl) ?_
      simp only [hv, wx, wy, wz, stV, seval, IntWalk.iteOmega, IntWalk.toNatUp, reduceCtorEq]
      refine st_call (rsv_c G c d) rfl (.inl rfl) ?_
      simp only [hv2, wx, wy, wz, stV, seval, IntWalk.iteOmega, IntWalk.toNatUp, reduceCtorEq]
      unfold spA
      exact ret_d2 (by simp only [wx, wy, wz, stV, seval, IntWalk.iteOmega, IntWalk.toNatUp, reduceCtorEq]) (by simp only [wx, wy, wz, stV, seval, IntWalk.iteOmega, IntWalk.toNatUp, reduceCtorEq])
    · obtain ⟨h1, h2, h3⟩ := okP_i hv
      obtain ⟨k1, k2, k3⟩ := okP_i hv2
      have cm := rmad_c G (a - d) (b - c)
      simp only [sf_rsbs, putAll, wx, wy, wz, stV, seval, IntWalk.iteOmega, IntWalk.toNatUp, reduceCtorEq]
      refine st_call (rsv_c G a b) rfl (.inl rfl) ?_
      simp only [hv, wx, wy, wz, stV, seval, IntWalk.iteOmega, IntWalk.toNatUp, reduceCtorEq]
      refine st_call (rsv_c G c d) rfl (.inl rfl) ?_
      simp only [hv2, wx, wy, wz, stV, seval, IntWalk.iteOmega, IntWalk.toNatUp, reduceCtorEq]
      refine st_call (cm) rfl (.inl rfl) ?_
      simp only [spA, wx, wy, wz, stV, seval, IntWalk.iteOmega, IntWalk.toNatUp, reduceCtorEq]
      exact ret_d2 (by simp only [wx, wy, wz, stV, seval, IntWalk.iteOmega, IntWalk.toNatUp, reduceCtorEq]) (by simp only [wx, wy, wz, stV, seval, IntWalk.iteOmega, IntWalk.toNatUp, reduceCtorEq])
def shfB (a b d : Int) : Bool := okP (a, b) && valT d && okP (a + d, b + d)
def shfE (a b d : Int) : Int := if okP (a, b) = true then (if (valT d && okP (a + d, b + d)) = true then 0 else 4) else 3
def sf_rshf : SFn := ⟨2, 25,
  .seq (.reg [⟨(some 2), .box .roBox (.t 0), none⟩,
    ⟨(some 4), .alloc [(.d (.int .i64 0)), (.d (.int .i64 0))], none⟩,
    ⟨(some 5), .mv (.k (.c (.d (.int .i64 0)))), none⟩])
  (.seq (.seq (.reg [⟨(some 6), .load (.ag 2) (.t 2), none⟩,
    ⟨(some 7), .call 23 [(.t 6)] none, none⟩,
    ⟨(some 8), .un .not (.t 7), none⟩])
  (.cond (.t 8) (.seq (.reg [⟨(some 9), .build [(.d (.int .i64 0)), (.d (.int .i64 0))] [], none⟩,
     ⟨none, .store (.ag 2) (.t 4) (.t 9), none⟩,
     ⟨(some 5), .mv (.k (.c (.d (.int .i64 3)))), none⟩])
   (.ret))
   (.skip)))
  (.seq (.seq (.reg [⟨(some 10), .mv (.t 1), none⟩,
    ⟨(some 11), .call 47 [(.t 10)] none, none⟩,
    ⟨(some 12), .un .not (.t 11), none⟩])
  (.cond (.t 12) (.seq (.reg [⟨(some 13), .build [(.d (.int .i64 0)), (.d (.int .i64 0))] [], none⟩,
     ⟨none, .store (.ag 2) (.t 4) (.t 13), none⟩,
     ⟨(some 5), .mv (.k (.c (.d (.int .i64 4)))), none⟩])
   (.ret))
   (.skip)))
  (.seq (.reg [⟨(some 14), .fieldAddr 0 (.t 2), none⟩,
    ⟨(some 15), .load .sc (.t 14), none⟩,
    ⟨(some 16), .mv (.t 1), none⟩,
    ⟨(some 17), .bin .add (.t 15) (.t 16), none⟩,
    ⟨(some 18), .fieldAddr 1 (.t 2), none⟩,
    ⟨(some 19), .load .sc (.t 18), none⟩,
    ⟨(some 20), .mv (.t 1), none⟩,
    ⟨(some 21), .bin .add (.t 19) (.t 20), none⟩,
    ⟨(some 22), .call 43 [(.t 17), (.t 21)] none, none⟩,
    ⟨(some 23), .extract (.t 22) 0, none⟩,
    ⟨(some 24), .extract (.t 22) 1, none⟩,
    ⟨none, .store (.ag 2) (.t 4) (.t 23), none⟩,
    ⟨(some 5), .mv (.t 24), none⟩])
  (.ret)))),
  [(4, (some (.ag 2))), (5, none)]⟩
theorem cf_rshf : compFn Try.prog { own := [], comp := [], frz := [], nils := [] } Try.f18 = some sf_rshf := by kernel_rfl
theorem rshf_c (G : Glob) (a b d : Int) : Den Try.prog G 18 [.agg [.int .i64 a, .int .i64 b], .int .i64 d] (.tup [.c (.d (spA (shfB a b d) (a + d) (b + d))), .c (.d (.int .i64 (shfE a b d)))]) := by
  refine den_walk Try.func18 cf_rshf rfl rfl ?_
  unfold shfB shfE
  cases hv : okP (a, b)
  · simp only [sf_rshf, putAll, wx, wy, wz, stV, seval, IntWalk.iteOmega, IntWalk.toNatUp, reduceCtorEq]
    refine st_call (rsv_c G a b) rfl (.inl rfl) ?_
    simp only [hv, wx, wy, wz, stV, seval, IntWalk.iteOmega, IntWalk.toNatUp, reduceCtorEq]
    unfold spA
    exact ret_d2 (by simp only [wx, wy, wz, stV, seval, IntWalk.iteOmega, IntWalk.toNatUp, reduceCtorEq]) (by simp only [wx, wy, wz, stV, seval, IntWalk.iteOmega, IntWalk.toNatUp, reduceCtorEq])
  · cases hv2 : valT d
    · simp only [sf_rshf, putAll, wx, wy, wz, stV, seval, IntWalk.iteOmega, IntWalk.toNatUp, reduceCtorEq]
      refine st_call (rsv_c G a b) rfl (.inl rfl) ?_
      simp only [hv, wx, wy, wz, stV, seval, IntWalk.iteOmega, IntWalk.toNatUp, reduceCtorEq]
      refine st_call (rval_c G d) rfl (.inl rfl) ?_
      simp only [hv2, wx, wy, wz, stV, seval, IntWalk.iteOmega, IntWalk.toNatUp, reduceCtorEq]
      unfold spA
      exact ret_d2 (by simp only [wx, wy, wz, stV, seval, IntWalk.iteOmega, IntWalk.toNatUp, reduceCtorEq]) (by simp only [wx, wy, wz, stV, seval, IntWalk.iteOmega, IntWalk.toNatUp, reduceCtorEq])
    · obtain ⟨h1, h2, h3⟩ := okP_i hv
      have k : -1152921504606846976 ≤ d ∧ d ≤ 1152921504606846976 := of_decide_eq_true hv2
      have cm := rmad_c G (a + d) (b + d)
      simp only [sf_rshf, putAll, wx, wy, wz, stV, seval, IntWalk.iteOmega, IntWalk.toNatUp, reduceCtorEq]
      refine st_call (rsv_c G a b) rfl (.inl rfl) ?_
      simp only [hv, wx, wy, wz, stV, seval, IntWalk.iteOmega, IntWalk.toNatUp, reduceCtorEq]
      refine st_call (rval_c G d) rfl (.inl rfl) ?_
      simp only [hv2, wx, wy, wz, stV, seval, IntWalk.iteOmega, IntWalk.toNatUp, reduceCtorEq]
      refine st_call (cm) rfl (.inl rfl) ?_
      simp only [spA, wx, wy, wz, stV, seval, IntWalk.iteOmega, IntWalk.toNatUp, reduceCtorEq]
      exact ret_d2 (by simp only [wx, wy, wz, stV, seval, IntWalk.iteOmega, IntWalk.toNatUp, reduceCtorEq]) (by simp only [wx, wy, wz, stV, seval, IntWalk.iteOmega, IntWalk.toNatUp, reduceCtorEq])
def groK (x y : Int) : Bool := decide (0 ≤ x ∧ x ≤ 1152921504606846976 ∧ 0 ≤ y ∧ y ≤ 1152921504606846976)
def groB (a b x y : Int) : Bool := okP (a, b) && groK x y && okP (a - x, b + y)
def groE (a b x y : Int) : Int := if okP (a, b) = true then (if (groK x y && okP (a - x, b + y)) = true then 0 else 4) else 3
def sf_rgro : SFn := ⟨3, 38,
  .seq (.reg [⟨(some 3), .box .roBox (.t 0), none⟩,
    ⟨(some 6), .alloc [(.d (.int .i64 0)), (.d (.int .i64 0))], none⟩,
    ⟨(some 7), .mv (.k (.c (.d (.int .i64 0)))), none⟩])
  (.seq (.seq (.reg [⟨(some 8), .load (.ag 2) (.t 3), none⟩,
    ⟨(some 9), .call 23 [(.t 8)] none, none⟩,
    ⟨(some 10), .un .not (.t 9), none⟩])
  (.cond (.t 10) (.seq (.reg [⟨(some 11), .build [(.d (.int .i64 0)), (.d (.int .i64 0))] [], none⟩,
     ⟨none, .store (.ag 2) (.t 6) (.t 11), none⟩,
     ⟨(some 7), .mv (.k (.c (.d (.int .i64 3)))), none⟩])
   (.ret))
   (.skip)))
  (.seq (.seq (.reg [⟨(some 12), .mv (.t 1), none⟩,
    ⟨(some 13), .bin .lss (.t 12) (.k (.c (.d (.int .i64 0)))), none⟩,
    ⟨(some 14), .mv (.t 13), none⟩,
    ⟨(some 15), .mv (.t 1), (some (14, false))⟩,
    ⟨(some 16), .bin .gtr (.t 15) (.k (.c (.d (.int .i64 1152921504606846976)))), (some (14, false))⟩,
    ⟨(some 17), .pick (.t 14) (.k (.c (.d (.bool true)))) (.t 16), none⟩,
    ⟨(some 18), .mv (.t 17), none⟩,
    ⟨(some 19), .mv (.t 2), (some (18, false))⟩,
    ⟨(some 20), .bin .lss (.t 19) (.k (.c (.d (.int .i64 0)))), (some (18, false))⟩,
    ⟨(some 21), .pick (.t 18) (.k (.c (.d (.bool true)))) (.t 20), none⟩,
    ⟨(some 22), .mv (.t 21), none⟩,
    ⟨(some 23), .mv (.t 2), (some (22, false))⟩,
    ⟨(some 24), .bin .gtr (.t 23) (.k (.c (.d (.int .i64 1152921504606846976)))), (some (22, false))⟩,
    ⟨(some 25), .pick (.t 22) (.k (.c (.d (.bool true)))) (.t 24), none⟩])
  (.cond (.t 25) (.seq (.reg [⟨(some 26), .build [(.d (.int .i64 0)), (.d (.int .i64 0))] [], none⟩,
     ⟨none, .store (.ag 2) (.t 6) (.t 26), none⟩,
     ⟨(some 7), .mv (.k (.c (.d (.int .i64 4)))), none⟩])
   (.ret))
   (.skip)))
  (.seq (.reg [⟨(some 27), .fieldAddr 0 (.t 3), none⟩,
    ⟨(some 28), .load .sc (.t 27), none⟩,
    ⟨(some 29), .mv (.t 1), none⟩,
    ⟨(some 30), .bin .sub (.t 28) (.t 29), none⟩,
    ⟨(some 31), .fieldAddr 1 (.t 3), none⟩,
    ⟨(some 32), .load .sc (.t 31), none⟩,
    ⟨(some 33), .mv (.t 2), none⟩,
    ⟨(some 34), .bin .add (.t 32) (.t 33), none⟩,
    ⟨(some 35), .call 43 [(.t 30), (.t 34)] none, none⟩,
    ⟨(some 36), .extract (.t 35) 0, none⟩,
    ⟨(some 37), .extract (.t 35) 1, none⟩,
    ⟨none, .store (.ag 2) (.t 6) (.t 36), none⟩,
    ⟨(some 7), .mv (.t 37), none⟩])
  (.ret)))),
  [(6, (some (.ag 2))), (7, none)]⟩
theorem cf_rgro : compFn Try.prog { own := [], comp := [], frz := [], nils := [] } Try.f20 = some sf_rgro := by kernel_rfl
theorem rgro_c (G : Glob) (a b x y : Int) : Den Try.prog G 20 [.agg [.int .i64 a, .int .i64 b], .int .i64 x, .int .i64 y] (.tup [.c (.d (spA (groB a b x y) (a - x) (b + y))), .c (.d (.int .i64 (groE a b x y)))]) := by
  refine den_walk Try.func20 cf_rgro rfl rfl ?_
  unfold groB groE
  cases hv : okP (a, b)
  · simp only [sf_rgro, putAll, wx, wy, wz, stV, seval, IntWalk.iteOmega, IntWalk.toNatUp, reduceCtorEq]
    refine st_call (rsv_c G a b) rfl (.inl rfl) ?_
    simp only [hv, wx, wy, wz, stV, seval, IntWalk.iteOmega, IntWalk.toNatUp, reduceCtorEq]
    unfold spA
    exact ret_d2 (by simp only [wx, wy, wz, stV, seval, IntWalk.iteOmega, IntWalk.toNatUp, reduceCtorEq]) (by simp only [wx, wy, wz, stV, seval, IntWalk.iteOmega, IntWalk.toNatUp, reduceCtorEq])
  · obtain ⟨h1, h2, h3⟩ := okP_i hv
    by_cases k1 : x < 0
    · rw [show groK x y = false from decide_eq_false (by omega)]
      simp only [sf_rgro, putAll, wx, wy, wz, stV, seval, IntWalk.iteOmega, IntWalk.toNatUp, reduceCtorEq]
      refine st_call (rsv_c G a b) rfl (.inl rfl) ?_
      simp only [hv, wx, wy, wz, stV, seval, IntWalk.iteOmega, IntWalk.toNatUp, reduceCtorEq]
      unfold spA
      exact ret_d2 (by simp only [wx, wy, wz, stV, seval, IntWalk.iteOmega, IntWalk.toNatUp, reduceCtorEq]) (by simp only [wx, wy, wz, stV, seval, IntWalk.iteOmega, IntWalk.toNatUp, reduceCtorEq])
    · by_cases k2 : x > 1152921504606846976
      · rw [show groK x y = false from decide_eq_false (by omega)]
        simp only [sf_rgro, putAll, wx, wy, wz, stV, seval, IntWalk.iteOmega, IntWalk.toNatUp, reduceCtorEq]
        refine st_call (rsv_c G a b) rfl (.inl rfl) ?_
        simp only [hv, eq_true k2, wx, wy, wz, stV, seval, IntWalk.iteOmega, IntWalk.toNatUp, reduceCtorEq]
        unfold spA
        exact ret_d2 (by simp only [wx, wy, wz, stV, seval, IntWalk.iteOmega, IntWalk.toNatUp, reduceCtorEq]) (by simp only [wx, wy, wz, stV, seval, IntWalk.iteOmega, IntWalk.toNatUp, reduceCtorEq])
      · by_cases k3 : y < 0
        · rw [show groK x y = false from decide_eq_false (by omega)]
          simp only [sf_rgro, putAll, wx, wy, wz, stV, seval, IntWalk.iteOmega, IntWalk.toNatUp, reduceCtorEq]
          refine st_call (rsv_c G a b) rfl (.inl rfl) ?_
          simp only [hv, eq_false k2, wx, wy, wz, stV, seval, IntWalk.iteOmega, IntWalk.toNatUp, reduceCtorEq]
          unfold spA
          exact ret_d2 (by simp only [wx, wy, wz, stV, seval, IntWalk.iteOmega, IntWalk.toNatUp, reduceCtorEq]) (by simp only [wx, wy, wz, stV, seval, IntWalk.iteOmega, IntWalk.toNatUp, reduceCtorEq])
        · by_cases k4 : y > 1152921504606846976
          · rw [show groK x y = false from decide_eq_false (by omega)]
            simp only [sf_rgro, putAll, wx, wy, wz, stV, seval, IntWalk.iteOmega, IntWalk.toNatUp, reduceCtorEq]
            refine st_call (rsv_c G a b) rfl (.inl rfl) ?_
            simp only [hv, eq_false k2, eq_true k4, wx, wy, wz, stV, seval, IntWalk.iteOmega, IntWalk.toNatUp, reduceCtorEq]
            unfold spA
            exact ret_d2 (by simp only [wx, wy, wz, stV, seval, IntWalk.iteOmega, IntWalk.toNatUp, reduceCtorEq]) (by simp only [wx, wy, wz, stV, seval, IntWalk.iteOmega, IntWalk.toNatUp, reduceCtorEq])
          · rw [show groK x y = true from decide_eq_true (by omega)]
            have cm := rmad_c G (a - x) (b + y)
            simp only [sf_rgro, putAll, wx, wy, wz, stV, seval, IntWalk.iteOmega, IntWalk.toNatUp, reduceCtorEq]
            refine st_call (rsv_c G a b) rfl (.inl rfl) ?_
            simp only [hv, eq_false k2, eq_false k4, wx, wy, wz, stV, seval, IntWalk.iteOmega, IntWalk.toNatUp, reduceCtorEq]
            refine st_call (cm) rfl (.inl rfl) ?_
            simp only [spA, wx, wy, wz, stV, seval, IntWalk.iteOmega, IntWalk.toNatUp, reduceCtorEq]
            exact ret_d2 (by simp only [wx, wy, wz, stV, seval, IntWalk.iteOmega, IntWalk.toNatUp, reduceCtorEq]) (by simp only [wx, wy, wz, stV, seval, IntWalk.iteOmega, IntWalk.toNatUp, reduceCtorEq])
end Go.Proofs.Ytaodfdnncdelnaa
