/- Layer 11 on data: lists of spans: the reference's Common and SameSpans; world.Span. Own work. -/
import Derived.Test.YtjebhdadegfbdaaAlZ
import Derived.Test.YtjebhdadegfbdaaPw0
import Derived.Test.YtjebhdadegfbdaaPi3
set_option linter.unusedVariables false
set_option linter.unusedSimpArgs false
namespace Go.Proofs.Ytjebhdadegfbdaa
open Go.RowKit

theorem getS {l : List Spn} {j : Nat} (h : j < l.length) : l[j]? = some (l.getD j (0, 0)) := by
  rw [List.getD_eq_getElem?_getD, List.getElem?_eq_getElem h]; rfl
theorem getS_mem {l : List Spn} {j : Nat} (h : j < l.length) : l.getD j (0, 0) ∈ l := by
  rw [List.getD_eq_getElem?_getD, List.getElem?_eq_getElem h]; exact List.getElem_mem h
theorem takeS {l : List Spn} {j : Nat} (h : j < l.length) : l.take (j + 1) = l.take j ++ [l.getD j (0, 0)] := by
  rw [List.take_succ_eq_append_getElem h, List.getD_eq_getElem?_getD, List.getElem?_eq_getElem h]; rfl
def sf_wspan : SFn := ⟨2, 15,
  .seq (.reg [⟨(some 4), .alloc [(.d (.int .i64 0)), (.d (.int .i64 0))], none⟩])
  (.seq (.reg [⟨(some 6), .mv (.t 0), none⟩,
    ⟨(some 7), .call 25 [(.t 6), (.k (.c (.d (.int .i64 2000))))] none, none⟩,
    ⟨(some 8), .bin .sub (.t 7) (.k (.c (.d (.int .i64 1000)))), none⟩,
    ⟨(some 5), .mv (.t 8), none⟩])
  (.seq (.reg [⟨(some 9), .mv (.t 5), none⟩,
    ⟨(some 10), .mv (.t 5), none⟩,
    ⟨(some 11), .mv (.t 1), none⟩,
    ⟨(some 12), .call 25 [(.t 11), (.k (.c (.d (.int .i64 500))))] none, none⟩,
    ⟨(some 13), .bin .add (.t 10) (.t 12), none⟩,
    ⟨(some 14), .build [(.d (.int .i64 0)), (.d (.int .i64 0))] [(0, 1, (.t 9)), (1, 1, (.t 13))], none⟩,
    ⟨none, .store (.ag 2) (.t 4) (.t 14), none⟩])
  (.ret))),
  [(4, (some (.ag 2)))]⟩
theorem cf_wspan : compFn Try.prog { own := [], comp := [], frz := [], nils := [] } Try.f27 = some sf_wspan := by kernel_rfl
theorem wspan_c (G : Glob) (a b : Int) : Den Try.prog G 27 [.int .i64 a, .int .i64 b] (.w (.c (.d (.agg [.int .i64 (withinN a 2000 - 1000), .int .i64 (withinN a 2000 - 1000 + withinN b 500)])))) := by
  refine den_walk Try.func27 cf_wspan rfl rfl ?_
  have h1 := withinN_range a 2000 (by decide)
  have h2 := withinN_range b 500 (by decide)
  have c1 := within_c G a 2000 (by decide)
  have c2 := within_c G b 500 (by decide)
  simp only [sf_wspan, putAll, wx, wy, wz, stV, seval, IntWalk.iteOmega, IntWalk.toNatUp, reduceCtorEq]
  refine st_call (c1) rfl (.inl rfl) ?_
  simp only [wx, wy, wz, stV, seval, IntWalk.iteOmega, IntWalk.toNatUp, reduceCtorEq]
  refine st_call (c2) rfl (.inl rfl) ?_
  simp only [wx, wy, wz, stV, seval, IntWalk.iteOmega, IntWalk.toNatUp, reduceCtorEq]
  exact ret_d1 (by simp only [wx, wy, wz, stV, seval, IntWalk.iteOmega, IntWalk.toNatUp, reduceCtorEq])
/-! ### Common -/
theorem comF_s (p q : Spn) : comF (some p) q = if meetB p q = true then some (meetV p q) else none := rfl
def cmV (o : Option Spn) : Spn := o.getD (0, 0)
def comT (l : List Spn) (i : Nat) : Option Spn := comL (l.take i)
theorem comT_succ {l : List Spn} {i : Nat} (h0 : 1 ≤ i) (h : i < l.length) : comT l (i + 1) = comF (comT l i) (l.getD i (0, 0)) := by
  unfold comT
  rw [takeS h]
  cases hl : l.take i with
  | nil =>
    have := congrArg List.length hl
    rw [List.length_take, List.length_nil] at this
    omega
  | cons p r =>
    show (if okP p = true then (r ++ [_]).foldl comF (some p) else none) = comF (if okP p = true then r.foldl comF (some p) else none) _
    split
    · rw [List.foldl_append]; rfl
    · rfl
theorem comT_none {l : List Spn} {i : Nat} (h0 : 1 ≤ i) (h : comT l i = none) : comL l = none := by
  have key : ∀ n, i + n ≤ l.length → comT l (i + n) = none := by
    intro n
    induction n with
    | zero => intro _; exact h
    | succ n ih =>
      intro hn
      have := comT_succ (l := l) (i := i + n) (by omega) (by omega)
      rw [ih (by omega)] at this
      exact this
  rcases Nat.lt_or_ge i l.length with hi | hi
  · have := key (l.length - i) (by omega)
    rw [show i + (l.length - i) = l.length by omega] at this
    unfold comT at this
    rwa [List.take_length] at this
  · unfold comT at h
    rwa [List.take_of_length_le hi] at h
def cmoSt (l : List Spn) (i : Nat) : St := ⟨ofL [(0, .w (.c (.d (.sl (l.map spD))))), (2, .w (.c (.ptr 1 1 0 0))), (4, .w (.c (.ptr 2 1 0 0))), (5, .w (.c (.d (.int .i64 (i : Int)))))],
  hL [(1, .box [.d (.int .i64 0), .d (.int .i64 0)]), (2, .box [.d (.int .i64 (cmV (comT l i)).1), .d (.int .i64 (cmV (comT l i)).2)])], uL [1, 2]⟩
/-! ### Equal lists -/
def ssSt (u v : List Spn) (i : Nat) : St := ⟨ofL [(0, .w (.c (.d (.sl (u.map spD))))), (1, .w (.c (.d (.sl (v.map spD))))), (5, .w (.c (.d (.int .i64 (i : Int)))))], hL [], uL []⟩
end Go.Proofs.Ytjebhdadegfbdaa
