/- Layer 2 on data: hashes in steps, both codes. Own work. -/
import Derived.Test.YtgepbpcolddgoaaDoorPh5
set_option linter.unusedVariables false
set_option linter.unusedSimpArgs false
namespace Go.Proofs.YtgepbpcolddgoaaDoor
open Go.RowKit

/-- A computation. -/
abbrev hsD (ws : List UInt32) (rest : List UInt8) (count : Int) : D := .agg [.sl (ws.map wD), .sl (rest.map bD), .int .i64 count]
def validK (ws : List UInt32) (rest : List UInt8) (count : Int) : Bool := decide (ws.length = 8 ∧ 0 ≤ count ∧ count ≤ 1099511627776 ∧ (rest.length : Int) = count % 64)
/-- What More answers: the computation, and the error. -/
def moreK (ws : List UInt32) (rest : List UInt8) (count : Int) (b : List UInt8) : (List UInt32 × List UInt8 × Int) × Int :=
  if validK ws rest count = true then if (b.length : Int) ≤ 1099511627776 - count then ((foldB ws (rest ++ b) ((rest ++ b).length / 64), (rest ++ b).drop (64 * ((rest ++ b).length / 64)), count + b.length), 0) else (([], [], 0), 2) else (([], [], 0), 3)
theorem validK_is {ws : List UInt32} {rest : List UInt8} {count : Int} (h : validK ws rest count = true) : ws.length = 8 ∧ 0 ≤ count ∧ count ≤ 1099511627776 ∧ (rest.length : Int) = count % 64 := by
  simpa only [validK, decide_eq_true_eq] using h
abbrev mrD (p : (List UInt32 × List UInt8 × Int) × Int) : V := .tup [.c (.d (hsD p.1.1 p.1.2.1 p.1.2.2)), .c (.d (.int .i64 p.2))]
theorem moreK_bad {ws : List UInt32} {rest : List UInt8} {count : Int} {b : List UInt8} (h : validK ws rest count = false) : moreK ws rest count b = (([], [], 0), 3) := by simp [moreK, h]
theorem moreK_long {ws : List UInt32} {rest : List UInt8} {count : Int} {b : List UInt8} (h : validK ws rest count = true) (h2 : ¬ (b.length : Int) ≤ 1099511627776 - count) : moreK ws rest count b = (([], [], 0), 2) := by
  unfold moreK; rw [if_pos h, if_neg h2]
theorem moreK_ok {ws : List UInt32} {rest : List UInt8} {count : Int} {b : List UInt8} (h : validK ws rest count = true) (h2 : (b.length : Int) ≤ 1099511627776 - count) : moreK ws rest count b = ((foldB ws (rest ++ b) ((rest ++ b).length / 64), (rest ++ b).drop (64 * ((rest ++ b).length / 64)), count + b.length), 0) := by
  unfold moreK; rw [if_pos h, if_pos h2]
def endK (ws : List UInt32) (rest : List UInt8) (count : Int) : List UInt8 × Int := if validK ws rest count = true then (finK ws rest count.toNat, 0) else ([], 3)
theorem endK_bad {ws : List UInt32} {rest : List UInt8} {count : Int} (h : validK ws rest count = false) : endK ws rest count = ([], 3) := by simp [endK, h]
theorem endK_ok {ws : List UInt32} {rest : List UInt8} {count : Int} (h : validK ws rest count = true) : endK ws rest count = (finK ws rest count.toNat, 0) := by simp [endK, h]
abbrev enD (p : List UInt8 × Int) : V := .tup [.c (.d (.sl (p.1.map bD))), .c (.d (.int .i64 p.2))]

def rmSt (ws : List UInt32) (al : List UInt8) (c : Int) : Nat → St
  | 0 => ⟨ofL [(4, .w (.c (.ptr 1 1 0 0))), (6, .w (.c (.d (.sl (al.map bD))))), (7, .w (.c (.ptr 2 1 0 0))), (8, .w (.c (.d (.sl (constK.map wD))))), (9, .w (.c (.d (.int .i64 0))))],
      hL [(1, .box [.nil, .nil, .d (.int .i64 0)]), (2, .box [.own 3 1 0 ws.length, .nil, .d (.int .i64 c)]), (3, .row 1 (ws.map wD))], uL [1, 2, 3]⟩
  | n + 1 => ⟨ofL [(4, .w (.c (.ptr 1 1 0 0))), (6, .w (.c (.d (.sl (al.map bD))))), (7, .w (.c (.ptr 2 1 0 0))), (8, .w (.c (.d (.sl (constK.map wD))))), (9, .w (.c (.d (.int .i64 ((64 * (n + 1) : Nat) : Int)))))],
      hL [(1, .box [.nil, .nil, .d (.int .i64 0)]), (2, .box [.d (.sl ((foldB ws al (n + 1)).map wD)), .nil, .d (.int .i64 c)])], uL [1, 2]⟩

theorem take_eq_succ {α : Type} [DecidableEq α] {l m : List α} (h : l.length = m.length) {i : Nat} (hi : i < l.length) (ht : l.take i = m.take i) : l.take (i + 1) = m.take (i + 1) ↔ l[i] = m[i] := by
  rw [List.take_succ_eq_append_getElem hi, List.take_succ_eq_append_getElem (show i < m.length by omega), ht]
  constructor
  · intro e
    have := List.append_cancel_left e
    simpa using this
  · intro e
    rw [e]
def sameH (ws vs : List UInt32) (r s : List UInt8) (c d : Int) : Bool := decide (ws = vs ∧ c = d ∧ r = s)
def rssSt (ws vs : List UInt32) (r s : List UInt8) (c d : Int) (i : Nat) : St := ⟨ofL [(2, .w (.c (.rp [.sl (ws.map wD), .sl (r.map bD), .int .i64 c]))), (3, .w (.c (.rp [.sl (vs.map wD), .sl (s.map bD), .int .i64 d]))), (5, .w (.c (.d (.int .i64 (i : Int)))))], hL [], uL []⟩
end Go.Proofs.YtgepbpcolddgoaaDoor
