/- Package slices on data: Grow of nil (the kit's walk), Concat, ContainsFunc over lists of bytes. Own work. -/
import Derived.Test.YtgepbpcolddgoaaDoorPo1
import Derived.Lib.AppendZerosOnto
import Derived.Lib.Walk
set_option linter.unusedVariables false
set_option linter.unusedSimpArgs false
namespace Go.Proofs.YtgepbpcolddgoaaDoor
open Go.RowKit
attribute [local go_sem] Oper.semAt_some

/-- Some bytes of a list of lists. -/
abbrev sls (l : List (List UInt8)) : D := .sl (l.map fun l => D.sl (l.map bD))
/-! ### Lists of functions' answers -/
def idxSt (l : List (List UInt8)) (g : Nat) (caps : List D) (i : Nat) : St := ⟨ofL [(0, .w (.c (.d (sls l)))), (1, .w (.c (.d (.fn g caps)))), (7, .w (.c (.d (.int .i64 (l.length : Int))))), (8, .w (.c (.d (.int .i64 (i : Int)))))], hL [], uL []⟩
/-- The place of the first element of which p holds. -/
def idxP (p : List UInt8 → Bool) (l : List (List UInt8)) : Int := match l.findIdx? p with | some i => (i : Int) | none => -1
theorem getLs {l : List (List UInt8)} {j : Nat} (h : j < l.length) : l[j]? = some (l.getD j []) := by
  rw [List.getD_eq_getElem?_getD, List.getElem?_eq_getElem h]; rfl
theorem getLs_mem {l : List (List UInt8)} {j : Nat} (h : j < l.length) : l.getD j [] ∈ l := by
  rw [List.getD_eq_getElem?_getD, List.getElem?_eq_getElem h]; exact List.getElem_mem h
theorem idxP_some {p : List UInt8 → Bool} {l : List (List UInt8)} {i : Nat} (h : i < l.length) (hp : p (l.getD i []) = true) (hn : ∀ j, j < i → p (l.getD j []) = false) : idxP p l = (i : Int) := by
  have : l.findIdx? p = some i := by
    rw [List.findIdx?_eq_some_iff_getElem]
    have e : ∀ k (hk : k < l.length), l[k] = l.getD k [] := fun k hk => by rw [List.getD_eq_getElem?_getD, List.getElem?_eq_getElem hk]; rfl
    refine ⟨h, by rw [e i h]; exact hp, fun j hj => ?_⟩
    rw [e j (by omega)]
    simpa using hn j hj
  unfold idxP
  rw [this]
theorem idxP_none {p : List UInt8 → Bool} {l : List (List UInt8)} (hn : ∀ j, j < l.length → p (l.getD j []) = false) : idxP p l = -1 := by
  have : l.findIdx? p = none := by
    rw [List.findIdx?_eq_none_iff]
    intro x hx
    obtain ⟨j, hj, rfl⟩ := List.getElem_of_mem hx
    have := hn j hj
    rw [List.getD_eq_getElem?_getD, List.getElem?_eq_getElem hj] at this
    exact this
  unfold idxP
  rw [this]
theorem idxP_any (p : List UInt8 → Bool) (l : List (List UInt8)) : decide (0 ≤ idxP p l) = l.any p := by
  unfold idxP
  cases h : l.findIdx? p with
  | some i =>
    rw [List.findIdx?_eq_some_iff_getElem] at h
    obtain ⟨h1, h2, _⟩ := h
    have : l.any p = true := List.any_eq_true.2 ⟨_, List.getElem_mem h1, h2⟩
    rw [this]
    exact decide_eq_true (by simp only; omega)
  | none =>
    rw [List.findIdx?_eq_none_iff] at h
    have : l.any p = false := List.any_eq_false.2 fun x hx => by rw [h x hx]; simp
    rw [this]
    rfl
/-! ### Lists joined -/
def cncSt1 (ls : List (List (List UInt8))) (i : Nat) : St := ⟨ofL [(0, .w (.c (.d (.sl (ls.map sls))))), (3, .w (.c (.d (.int .i64 ((ls.take i).flatten.length : Int))))), (9, .w (.c (.d (.sl (ls.map sls))))), (10, .w (.c (.d (.int .i64 (ls.length : Int))))), (11, .w (.c (.d (.int .i64 (i : Int)))))], hL [], uL []⟩
def cncSt2 (ls : List (List (List UInt8))) (i : Nat) : St := ⟨ofL [(6, .w (.c (.own 1 1 0 (ls.take i).flatten.length))), (25, .w (.c (.d (.sl (ls.map sls))))), (26, .w (.c (.d (.int .i64 (ls.length : Int))))), (27, .w (.c (.d (.int .i64 (i : Int)))))], hL [(1, .row 1 ((ls.take i).flatten.map fun l => D.sl (l.map bD)))], uL [1]⟩
theorem take_flat3 (ls : List (List (List UInt8))) {i : Nat} (h : i < ls.length) : (ls.take (i + 1)).flatten = (ls.take i).flatten ++ ls.getD i [] := by
  rw [List.getD_eq_getElem?_getD, List.getElem?_eq_getElem h, List.take_succ_eq_append_getElem h, List.flatten_append]; simp
theorem flat_le3 (ls : List (List (List UInt8))) {i : Nat} (h : i < ls.length) : (ls.take i).flatten.length + (ls.getD i []).length ≤ ls.flatten.length := by
  rw [← List.length_append, ← take_flat3 ls h]
  conv => rhs; rw [← List.take_append_drop (i + 1) ls]
  rw [List.flatten_append, List.length_append]; omega
theorem getL3 {l : List (List (List UInt8))} {j : Nat} (h : j < l.length) : l[j]? = some (l.getD j []) := by
  rw [List.getD_eq_getElem?_getD, List.getElem?_eq_getElem h]; rfl
end Go.Proofs.YtgepbpcolddgoaaDoor
