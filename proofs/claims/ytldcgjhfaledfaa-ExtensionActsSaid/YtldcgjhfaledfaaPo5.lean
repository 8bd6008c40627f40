/- Layer 1 on data: the reference's Get. Own work. -/
import Derived.Test.YtldcgjhfaledfaaPo1
set_option linter.unusedVariables false
set_option linter.unusedSimpArgs false
namespace Go.Proofs.Ytldcgjhfaledfaa
open Go.RowKit

def rgetSt (l : List UInt8) (i : Nat) : St := ⟨ofL [(0, .w (.c (.d (.sl (l.map bD))))), (3, .w (.c (.d (.int .u64 (getN (l.take i)))))), (4, .w (.c (.d (.int .i64 (i : Int)))))], hL [], uL []⟩
def lp_rget_0 : SCode :=
  .seq (.seq (.reg [⟨(some 5), .mv (.t 4), none⟩,
    ⟨(some 6), .mv (.t 0), none⟩,
    ⟨(some 7), .len (.t 6), none⟩,
    ⟨(some 8), .bin .lss (.t 5) (.t 7), none⟩])
  (.cond (.t 8) (.skip)
   (.exit 0)))
  (.seq (.block 1 (.reg [⟨(some 11), .mv (.t 3), none⟩,
     ⟨(some 12), .bin .shl (.t 11) (.k (.c (.d (.int .u64 8)))), none⟩,
     ⟨(some 13), .mv (.t 0), none⟩,
     ⟨(some 14), .mv (.t 4), none⟩,
     ⟨(some 15), .idxSl 1 (.t 13) (.t 14), none⟩,
     ⟨(some 16), .load .sc (.t 15), none⟩,
     ⟨(some 17), .conv .u64 (.t 16), none⟩,
     ⟨(some 18), .bin .or (.t 12) (.t 17), none⟩,
     ⟨(some 3), .mv (.t 18), none⟩]))
  (.reg [⟨(some 9), .mv (.t 4), none⟩,
    ⟨(some 10), .bin .add (.t 9) (.k (.c (.d (.int .i64 1)))), none⟩,
    ⟨(some 4), .mv (.t 10), none⟩]))
def sf_rget : SFn := ⟨1, 20,
  .seq (.reg [⟨(some 2), .mv (.k (.c (.d (.int .u64 0)))), none⟩])
  (.seq (.reg [⟨(some 3), .mv (.k (.c (.d (.int .u64 0)))), none⟩])
  (.seq (.seq (.reg [⟨(some 4), .mv (.k (.c (.d (.int .i64 0)))), none⟩])
  (.block 0 (.loop lp_rget_0)))
  (.seq (.reg [⟨(some 19), .mv (.t 3), none⟩,
    ⟨(some 2), .mv (.t 19), none⟩])
  (.ret)))),
  [(2, none)]⟩
theorem cf_rget : compFn Try.prog { own := [], comp := [], frz := [], nils := [] } Try.f42 = some sf_rget := by kernel_rfl
set_option maxHeartbeats 400000 in
theorem rget_c (G : Glob) (l : List UInt8) (hl : l.length ≤ 9223372036854775807) : Den Try.prog G 42 [.sl (l.map bD)] (.w (.c (.d (.int .u64 (getN l))))) := by
  refine den_walk Try.func42 cf_rget rfl rfl ?_
  simp only [sf_rget, putAll, wx, wy, wz, stV, seval, IntWalk.iteOmega, IntWalk.toNatUp, reduceCtorEq]
  refine loop_st (rgetSt l) (fun i => l.length - i) (fun i => i ≤ l.length) 0 (Nat.zero_le _) ?_ ?_
  · refine ent_l (fun i => i) ?_ ?_ rfl rfl <;> simp only [wx, wex, wez, stV, seval, IntWalk.iteOmega, IntWalk.toNatUp, reduceCtorEq] <;> rfl
  · intro i hi
    by_cases hlt : i < l.length
    · have hb := l[i].toNat_lt
      have e2 : l[i]? = some l[i] := List.getElem?_eq_getElem hlt
      have e3 : IntKind.u64.wrap (l[i].toNat : Int) = (l[i].toNat : Int) := u64_in _ (by omega) (by omega)
      have e4 : IntKind.i64.wrap ((i : Int) + 1) = ((i + 1 : Nat) : Int) := by rw [IntWalk.i64_in _ (by omega)]; rfl
      have e5 := getN_take l i hlt
      simp only [lp_rget_0, rgetSt, wx, stV, seval, IntWalk.iteOmega, IntWalk.toNatUp, reduceCtorEq, get_map, e2, IntKind.bits, e3, e4]
      refine lop_next (i + 1) (by omega) (by omega) (ent_l id ?_ ?_ rfl rfl) <;> simp only [wx, wex, stV, seval, IntWalk.iteOmega, IntWalk.toNatUp, reduceCtorEq, ← e5]
    · have : l.take i = l := List.take_of_length_le (by omega)
      simp only [lp_rget_0, rgetSt, wx, stV, seval, IntWalk.iteOmega, IntWalk.toNatUp, reduceCtorEq, this]
      exact ret_d (by simp only [wx, stV, seval, IntWalk.iteOmega, IntWalk.toNatUp, reduceCtorEq])
end Go.Proofs.Ytldcgjhfaledfaa
