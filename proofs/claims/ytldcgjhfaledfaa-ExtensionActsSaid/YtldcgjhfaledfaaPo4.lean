/- Layer 1 on data: the program's Same. Own work. -/
import Derived.Test.YtldcgjhfaledfaaPo1
set_option linter.unusedVariables false
set_option linter.unusedSimpArgs false
namespace Go.Proofs.Ytldcgjhfaledfaa
open Go.RowKit
theorem fl_by (s : Nat) (l : List UInt8) (k : IntKind) (n : Int) : V.flat (.tup [.c (.fr s (l.map bD)), .c (.d (.int k n))]) = true := by
  have := fl_b s l
  simp only [V.flat, W.flat, List.all_cons, List.all_nil, Bool.and_true] at this ⊢
  rw [this]; rfl
def sf_beq : SFn := ⟨2, 10,
  .seq (.reg [⟨(some 4), .mv (.k (.c (.d (.bool false)))), none⟩])
  (.seq (.reg [⟨(some 5), .mv (.t 0), none⟩,
    ⟨(some 6), .b2s (.t 5), none⟩,
    ⟨(some 7), .mv (.t 1), none⟩,
    ⟨(some 8), .b2s (.t 7), none⟩,
    ⟨(some 9), .bin .eql (.t 6) (.t 8), none⟩,
    ⟨(some 4), .mv (.t 9), none⟩])
  (.ret)),
  [(4, none)]⟩
theorem cf_beq : compFn Try.prog { own := [], comp := [], frz := [], nils := [] } Try.f43 = some sf_beq := by kernel_rfl
theorem beq_c (G : Glob) (l m : List UInt8) : Den Try.prog G 43 [.sl (l.map bD), .sl (m.map bD)] (.w (.c (.d (.bool (l == m))))) := by
  refine den_walk Try.func43 cf_beq rfl rfl ?_
  simp only [sf_beq, putAll, wx, stV, seval, IntWalk.iteOmega, IntWalk.toNatUp, reduceCtorEq, ofBs_map, binS_same]
  exact ret_d (by simp only [wx, stV, seval, IntWalk.iteOmega, IntWalk.toNatUp, reduceCtorEq])
def sf_same : SFn := ⟨2, 8,
  .seq (.reg [⟨(some 4), .mv (.k (.c (.d (.bool false)))), none⟩])
  (.seq (.reg [⟨(some 5), .mv (.t 0), none⟩,
    ⟨(some 6), .mv (.t 1), none⟩,
    ⟨(some 7), .call 43 [(.t 5), (.t 6)] none, none⟩,
    ⟨(some 4), .mv (.t 7), none⟩])
  (.ret)),
  [(4, none)]⟩
theorem cf_same : compFn Try.prog { own := [], comp := [], frz := [], nils := [] } Try.f37 = some sf_same := by kernel_rfl
theorem same_c (G : Glob) (l m : List UInt8) : Den Try.prog G 37 [.sl (l.map bD), .sl (m.map bD)] (.w (.c (.d (.bool (l == m))))) := by
  refine den_walk Try.func37 cf_same rfl rfl ?_
  simp only [sf_same, putAll, wx, wy, wz, stV, seval, IntWalk.iteOmega, IntWalk.toNatUp, reduceCtorEq]
  refine st_call (beq_c G l m) rfl (.inl rfl) ?_
  simp only [wx, wy, wz, stV, seval, IntWalk.iteOmega, IntWalk.toNatUp, reduceCtorEq]
  exact ret_d1 (by simp only [wx, wy, wz, stV, seval, IntWalk.iteOmega, IntWalk.toNatUp, reduceCtorEq])
end Go.Proofs.Ytldcgjhfaledfaa
