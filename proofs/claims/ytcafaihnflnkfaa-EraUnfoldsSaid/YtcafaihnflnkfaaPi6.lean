/- Layer 11 on data: the program: one span and two. Own work. -/
import Derived.Test.YtcafaihnflnkfaaPi5
set_option linter.unusedVariables false
set_option linter.unusedSimpArgs false
namespace Go.Proofs.Ytcafaihnflnkfaa
open Go.RowKit

def sf_isv : SFn := ⟨1, 18,
  .seq (.reg [⟨(some 1), .box .roBox (.t 0), none⟩,
    ⟨(some 2), .mv (.k (.c (.d (.bool false)))), none⟩])
  (.seq (.reg [⟨(some 3), .fieldAddr 0 (.t 1), none⟩,
    ⟨(some 4), .load .sc (.t 3), none⟩,
    ⟨(some 5), .call 16 [(.t 4)] none, none⟩,
    ⟨(some 6), .mv (.t 5), none⟩,
    ⟨(some 7), .fieldAddr 1 (.t 1), (some (6, true))⟩,
    ⟨(some 8), .load .sc (.t 7), (some (6, true))⟩,
    ⟨(some 9), .call 16 [(.t 8)] none, (some (6, true))⟩,
    ⟨(some 10), .pick (.t 6) (.t 9) (.k (.c (.d (.bool false)))), none⟩,
    ⟨(some 11), .mv (.t 10), none⟩,
    ⟨(some 12), .fieldAddr 0 (.t 1), (some (11, true))⟩,
    ⟨(some 13), .load .sc (.t 12), (some (11, true))⟩,
    ⟨(some 14), .fieldAddr 1 (.t 1), (some (11, true))⟩,
    ⟨(some 15), .load .sc (.t 14), (some (11, true))⟩,
    ⟨(some 16), .bin .leq (.t 13) (.t 15), (some (11, true))⟩,
    ⟨(some 17), .pick (.t 11) (.t 16) (.k (.c (.d (.bool false)))), none⟩,
    ⟨(some 2), .mv (.t 17), none⟩])
  (.ret)),
  [(2, none)]⟩
theorem cf_isv : compFn Try.prog { own := [], comp := [], frz := [], nils := [] } Try.f19 = some sf_isv := by kernel_rfl
theorem isv_c (G : Glob) (a b : Int) : Den Try.prog G 19 [.agg [.int .i64 a, .int .i64 b]] (.w (.c (.d (.bool (okP (a, b)))))) := by
  refine den_walk Try.func19 cf_isv rfl rfl ?_
  rw [okP_v]
  cases h1 : valT a
  · simp only [sf_isv, putAll, wx, wy, wz, stV, seval, IntWalk.iteOmega, IntWalk.toNatUp, reduceCtorEq]
    refine st_call (val_c G a) rfl (.inl rfl) ?_
    simp only [h1, wx, wy, wz, stV, seval, IntWalk.iteOmega, IntWalk.toNatUp, reduceCtorEq]
    exact ret_d1 (by simp only [wx, wy, wz, stV, seval, IntWalk.iteOmega, IntWalk.toNatUp, reduceCtorEq])
  · cases h2 : valT b
    · simp only [sf_isv, putAll, wx, wy, wz, stV, seval, IntWalk.iteOmega, IntWalk.toNatUp, reduceCtorEq]
      refine st_call (val_c G a) rfl (.inl rfl) ?_
      simp only [h1, wx, wy, wz, stV, seval, IntWalk.iteOmega, IntWalk.toNatUp, reduceCtorEq]
      refine st_call (val_c G b) rfl (.inl rfl) ?_
      simp only [h2, wx, wy, wz, stV, seval, IntWalk.iteOmega, IntWalk.toNatUp, reduceCtorEq]
      exact ret_d1 (by simp only [wx, wy, wz, stV, seval, IntWalk.iteOmega, IntWalk.toNatUp, reduceCtorEq])
    · by_cases h3 : a ≤ b
      · rw [decide_eq_true h3]
        simp only [sf_isv, putAll, wx, wy, wz, stV, seval, IntWalk.iteOmega, IntWalk.toNatUp, reduceCtorEq]
        refine st_call (val_c G a) rfl (.inl rfl) ?_
        simp only [h1, wx, wy, wz, stV, seval, IntWalk.iteOmega, IntWalk.toNatUp, reduceCtorEq]
        refine st_call (val_c G b) rfl (.inl rfl) ?_
        simp only [h2, wx, wy, wz, stV, seval, IntWalk.iteOmega, IntWalk.toNatUp, reduceCtorEq]
        exact ret_d1 (by simp only [wx, wy, wz, stV, seval, IntWalk.iteOmega, IntWalk.toNatUp, reduceCtorEq])
      · rw [decide_eq_false h3]
        simp only [sf_isv, putAll, wx, wy, wz, stV, seval, IntWalk.iteOmega, IntWalk.toNatUp, reduceCtorEq]
        refine st_call (val_c G a) rfl (.inl rfl) ?_
        simp only [h1, wx, wy, wz, stV, seval, IntWalk.iteOmega, IntWalk.toNatUp, reduceCtorEq]
        refine st_call (val_c G b) rfl (.inl rfl) ?_
        simp only [h2, wx, wy, wz, stV, seval, IntWalk.iteOmega, IntWalk.toNatUp, reduceCtorEq]
        exact ret_d1 (by simp only [wx, wy, wz, stV, seval, IntWalk.iteOmega, IntWalk.toNatUp, reduceCtorEq])
/-! ### What is made of spans, if they are valid -/
def vldSt (l : List Spn) (i : Nat) : St := ⟨ofL [(5, .w (.c (.d (.sl (l.map spD))))), (6, .w (.c (.d (.int .i64 (l.length : Int))))), (7, .w (.c (.d (.int .i64 (i : Int)))))], hL [], uL []⟩
def mdB (l : List Spn) (k : Bool) (x y : Int) : Bool := allOk l && k && okP (x, y)
def mdE (l : List Spn) (k : Bool) (x y : Int) : Int := if allOk l = true then (if (k && okP (x, y)) = true then 0 else 4) else 3
theorem md_no {l : List Spn} (h : allOk l = false) (k : Bool) (x y : Int) : mdB l k x y = false ∧ mdE l k x y = 3 := by
  unfold mdB mdE; rw [h]; exact ⟨rfl, rfl⟩
end Go.Proofs.Ytcafaihnflnkfaa
