/- The laws of layer 12: the sanity check. Own work. -/
import Derived.Test.YtefoldolhgakmaaPl7
set_option linter.unusedVariables false
set_option linter.unusedSimpArgs false
namespace Go.Proofs.Ytefoldolhgakmaa
open Go.RowKit

def sf_known12 : SFn := ⟨0, 35,
  .seq (.reg [⟨(some 0), .mv (.k (.c (.d (.bool false)))), none⟩])
  (.seq (.reg [⟨(some 6), .build [(.d (.int .i64 0)), (.d (.int .i64 0))] [(0, 1, (.k (.c (.d (.int .i64 172800))))), (1, 1, (.k (.c (.d (.int .i64 11)))))], none⟩,
    ⟨(some 7), .bldSl false 1 2 (.agg [(.int .i64 0), (.int .i64 0)]) [(0, (.t 6))], none⟩,
    ⟨(some 8), .build [(.d (.int .i64 0)), .nil] [(0, 1, (.k (.c (.d (.int .i64 10))))), (1, 1, (.t 7))], none⟩,
    ⟨(some 1), .alloc [(.d (.int .i64 0)), .nil], none⟩,
    ⟨none, .store (.ag 2) (.t 1) (.t 8), none⟩])
  (.seq (.reg [⟨(some 10), .load (.ag 2) (.t 1), none⟩,
    ⟨(some 11), .build [(.d (.int .i64 0)), (.d (.bool false)), (.d (.int .i64 0))] [(0, 1, (.k (.c (.d (.int .i64 172799))))), (1, 1, (.k (.c (.d (.bool true)))))], none⟩,
    ⟨(some 12), .call 12 [(.t 10), (.t 11)] none, none⟩,
    ⟨(some 9), .mv (.t 12), none⟩,
    ⟨(some 13), .extract (.t 9) 0, none⟩,
    ⟨(some 14), .extract (.t 9) 1, none⟩,
    ⟨(some 2), .mv (.t 13), none⟩,
    ⟨(some 3), .mv (.t 14), none⟩])
  (.seq (.reg [⟨(some 16), .load (.ag 2) (.t 1), none⟩,
    ⟨(some 17), .call 16 [(.t 16), (.k (.c (.d (.int .i64 172799)))), (.k (.c (.d (.int .i64 5))))] none, none⟩,
    ⟨(some 15), .mv (.t 17), none⟩,
    ⟨(some 18), .extract (.t 15) 0, none⟩,
    ⟨(some 19), .extract (.t 15) 1, none⟩,
    ⟨(some 4), .alloc [(.d (.int .i64 0)), (.d (.int .i64 0))], none⟩,
    ⟨none, .store (.ag 2) (.t 4) (.t 18), none⟩,
    ⟨(some 5), .mv (.t 19), none⟩])
  (.seq (.reg [⟨(some 20), .mv (.t 3), none⟩,
    ⟨(some 21), .bin .eql (.t 20) (.k (.c (.d (.int .i64 0)))), none⟩,
    ⟨(some 22), .mv (.t 21), none⟩,
    ⟨(some 23), .mv (.t 5), (some (22, true))⟩,
    ⟨(some 24), .bin .eql (.t 23) (.k (.c (.d (.int .i64 0)))), (some (22, true))⟩,
    ⟨(some 25), .pick (.t 22) (.t 24) (.k (.c (.d (.bool false)))), none⟩,
    ⟨(some 26), .mv (.t 25), none⟩,
    ⟨(some 27), .mv (.t 2), (some (26, true))⟩,
    ⟨(some 28), .bin .eql (.t 27) (.k (.c (.d (.int .i64 181204418560)))), (some (26, true))⟩,
    ⟨(some 29), .pick (.t 26) (.t 28) (.k (.c (.d (.bool false)))), none⟩,
    ⟨(some 30), .mv (.t 29), none⟩,
    ⟨(some 31), .load (.ag 2) (.t 4), (some (30, true))⟩,
    ⟨(some 32), .build [(.d (.int .i64 0)), (.d (.int .i64 0))] [(0, 1, (.k (.c (.d (.int .i64 181203369989))))), (1, 1, (.k (.c (.d (.int .i64 181204418565)))))], (some (30, true))⟩,
    ⟨(some 33), .eqA false [0, 0] (.t 31) (.t 32), (some (30, true))⟩,
    ⟨(some 34), .pick (.t 30) (.t 33) (.k (.c (.d (.bool false)))), none⟩,
    ⟨(some 0), .mv (.t 34), none⟩])
  (.ret))))),
  [(0, none)]⟩
theorem cf_known12 : compFn Try.prog { own := [], comp := [], frz := [], nils := [] } Try.f9 = some sf_known12 := by kernel_rfl
theorem known12_c (G : Glob) : Den Try.prog G 9 [] (.w (.c (.d (.bool true)))) := by
  refine den_walk Try.func9 cf_known12 rfl rfl ?_
  have c1 := ltai_c G 10 [(172800, 11)] 172799 true 0 (by decide)
  rw [show taiV 10 [(172800, 11)] 172799 true 0 = 181204418560 by decide +kernel, show taiE 10 [(172800, 11)] 172799 true 0 = 0 by decide +kernel] at c1
  have c2 := lnum_c G 10 [(172800, 11)] 172799 5 (by decide)
  rw [show taiV 10 [(172800, 11)] 172799 false 5 = 181203369989 by decide +kernel, show numHi 10 [(172800, 11)] 172799 5 = 181204418565 by decide +kernel, show taiE 10 [(172800, 11)] 172799 false 5 = 0 by decide +kernel] at c2
  simp only [lpD, List.map_cons, List.map_nil, spD] at c1 c2
  simp only [sf_known12, putAll, wx, wy, wz, stV, seval, IntWalk.iteOmega, IntWalk.toNatUp, reduceCtorEq]
  refine st_call (c1) rfl (.inl rfl) ?_
  simp only [wx, wy, wz, stV, seval, IntWalk.iteOmega, IntWalk.toNatUp, reduceCtorEq]
  refine st_call (c2) rfl (.inl rfl) ?_
  simp only [wx, wy, wz, stV, seval, IntWalk.iteOmega, IntWalk.toNatUp, reduceCtorEq]
  exact ret_d1 (by simp only [wx, wy, wz, stV, seval, IntWalk.iteOmega, IntWalk.toNatUp, reduceCtorEq])
end Go.Proofs.Ytefoldolhgakmaa
