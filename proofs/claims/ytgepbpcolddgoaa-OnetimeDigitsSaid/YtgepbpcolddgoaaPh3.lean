/- Layer 2 on data: a block. Own work. -/
import Derived.Test.YtgepbpcolddgoaaPh2
set_option linter.unusedVariables false
set_option linter.unusedSimpArgs false
namespace Go.Proofs.Ytgepbpcolddgoaa
open Go.RowKit

theorem ev_g {G : Glob} {n : Nat} {c : C} (h : G.at n = some c) (f : Nat → V) : ev G f (.g n) = .w (.c c) := by simp [ev, h]
theorem getD_some {l : List UInt32} {i : Nat} (h : i < l.length) : l[i]? = some (l.getD i 0) := by simp [h]
theorem eight {l : List UInt32} (h : l.length = 8) : ∃ a b c d e f g i, l = [a, b, c, d, e, f, g, i] := by
  match l, h with
  | [a, b, c, d, e, f, g, i], _ => exact ⟨a, b, c, d, e, f, g, i, rfl⟩
def Eight.list (s : Eight) : List UInt32 := [s.a, s.b, s.c, s.d, s.e, s.f, s.g, s.h]
theorem step_a (s : Eight) (k w : UInt32) : (s.step k w).a = addW (addW (addW (addW (addW s.h (bigE s.e)) (chW s.e s.f s.g)) k) w) (addW (bigA s.a) (majW s.a s.b s.c)) := rfl
theorem step_b (s : Eight) (k w : UInt32) : (s.step k w).b = s.a := rfl
theorem step_c (s : Eight) (k w : UInt32) : (s.step k w).c = s.b := rfl
theorem step_d (s : Eight) (k w : UInt32) : (s.step k w).d = s.c := rfl
theorem step_e (s : Eight) (k w : UInt32) : (s.step k w).e = addW s.d (addW (addW (addW (addW s.h (bigE s.e)) (chW s.e s.f s.g)) k) w) := rfl
theorem step_f (s : Eight) (k w : UInt32) : (s.step k w).f = s.e := rfl
theorem step_g (s : Eight) (k w : UInt32) : (s.step k w).g = s.f := rfl
theorem step_h (s : Eight) (k w : UInt32) : (s.step k w).h = s.g := rfl
theorem rounds_at (s : Eight) (k w : List UInt32) (n m : Nat) (h : n = m) : s.rounds k w n = s.rounds k w m := by rw [h]

def blSt1 (h : List UInt32) (b : List UInt8) (s : Eight) (n : Nat) : St := ⟨ofL [(2, .w (.c (.pa 1 1))), (4, .w (.c (.pa 2 1))), (5, .w (.c (.pa 3 1))), (6, .w (.c (.d (wD s.a)))), (7, .w (.c (.d (wD s.b)))), (8, .w (.c (.d (wD s.c)))), (9, .w (.c (.d (wD s.d)))), (10, .w (.c (.d (wD s.e)))), (11, .w (.c (.d (wD s.f)))), (12, .w (.c (.d (wD s.g)))), (13, .w (.c (.d (wD s.h)))), (37, .w (.c (.d (.int .i64 (n : Int)))))],
  hL [(1, .row 1 (h.map wD)), (2, .row 1 ((List.replicate 8 (0 : UInt32)).map wD)), (3, .row 1 ((sched b).map wD))], uL [1, 2, 3]⟩
def blR1 (h : List UInt32) (b : List UInt8) (n : Nat) : St := blSt1 h b ((Eight.of h).rounds constK (sched b) n) n
def sumTo (s : Eight) (h : List UInt32) (k : Nat) : List UInt32 := (s.sum h).take k ++ h.drop k
def blSt2 (h : List UInt32) (s : Eight) (n : Nat) : St := ⟨ofL [(2, .w (.c (.pa 1 1))), (4, .w (.c (.pa 2 1))), (108, .w (.c (.d (.agg (s.list.map wD))))), (109, .w (.c (.d (.int .i64 (n : Int)))))],
  hL [(1, .row 1 ((sumTo s h n).map wD)), (2, .row 1 ((List.replicate 8 (0 : UInt32)).map wD))], uL [1, 2]⟩

theorem getD_someB {l : List UInt8} {i : Nat} (h : i < l.length) : l[i]? = some (l.getD i 0) := by simp [h]
def rbSt1 (h k : List UInt32) (b : List UInt8) (t : Nat) : St := ⟨ofL [(0, .w (.c (.d (.sl (h.map wD))))), (1, .w (.c (.d (.sl (k.map wD))))), (2, .w (.c (.d (.sl (b.map bD))))), (7, .w (.c (.pa 1 1))), (8, .w (.c (.d (.int .i64 (t : Int)))))],
  hL [(1, .row 1 ((sched16 b t ++ List.replicate (64 - t) 0).map wD))], uL [1]⟩
def rbSt2 (h k : List UInt32) (b : List UInt8) (n : Nat) : St := ⟨ofL [(0, .w (.c (.d (.sl (h.map wD))))), (1, .w (.c (.d (.sl (k.map wD))))), (7, .w (.c (.pa 1 1))), (9, .w (.c (.d (.int .i64 ((16 + n : Nat) : Int)))))],
  hL [(1, .row 1 ((schedN b n ++ List.replicate (48 - n) 0).map wD))], uL [1]⟩
def rbSt3 (h : List UInt32) (b : List UInt8) (s : Eight) (n : Nat) : St := ⟨ofL [(0, .w (.c (.d (.sl (h.map wD))))), (1, .w (.c (.d (.sl (constK.map wD))))), (7, .w (.c (.pa 1 1))), (12, .w (.c (.d (wD s.a)))), (13, .w (.c (.d (wD s.b)))), (14, .w (.c (.d (wD s.c)))), (15, .w (.c (.d (wD s.d)))), (16, .w (.c (.d (wD s.e)))), (17, .w (.c (.d (wD s.f)))), (18, .w (.c (.d (wD s.g)))), (19, .w (.c (.d (wD s.h)))), (20, .w (.c (.d (.int .i64 (n : Int)))))],
  hL [(1, .row 1 ((sched b).map wD))], uL [1]⟩
def rbR3 (h : List UInt32) (b : List UInt8) (n : Nat) : St := rbSt3 h b ((Eight.of h).rounds constK (sched b) n) n
end Go.Proofs.Ytgepbpcolddgoaa
