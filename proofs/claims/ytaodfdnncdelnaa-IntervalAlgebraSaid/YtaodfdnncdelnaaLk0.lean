/- The laws of layer 11: the sanity check. Own work. -/
import Derived.Test.YtaodfdnncdelnaaPi8
set_option linter.unusedVariables false
set_option linter.unusedSimpArgs false
namespace Go.Proofs.Ytaodfdnncdelnaa
open Go.RowKit

theorem known_u : unionL [(4, 9), (1, 3), (11, 12)] = [(1, 9), (11, 12)] := by
  refine (union_is (by decide) ?_ ?_).symm
  · refine ⟨by decide, ?_, by decide, ?_, trivial⟩
    · intro q hq; rw [List.mem_singleton.1 hq]; decide
    · intro q hq; cases hq
  · intro t
    simp only [inU_cons, inS]
    have h := inU_nil t
    constructor
    · rintro (h1 | h1 | h1)
      · by_cases k : t ≤ 3
        · exact .inr (.inl ⟨by omega, k⟩)
        · exact .inl ⟨by omega, by omega⟩
      · exact .inr (.inr (.inl h1))
      · exact absurd h1 h
    · rintro (h1 | h1 | h1 | h1)
      · exact .inl ⟨by omega, by omega⟩
      · exact .inl ⟨by omega, by omega⟩
      · exact .inr (.inl h1)
      · exact absurd h1 h
def sf_known11 : SFn := ⟨0, 41,
  .seq (.reg [⟨(some 0), .mv (.k (.c (.d (.bool false)))), none⟩])
  (.seq (.reg [⟨(some 6), .build [(.d (.int .i64 0)), (.d (.int .i64 0))] [(0, 1, (.k (.c (.d (.int .i64 1))))), (1, 1, (.k (.c (.d (.int .i64 5)))))], none⟩,
    ⟨(some 7), .build [(.d (.int .i64 0)), (.d (.int .i64 0))] [(0, 1, (.k (.c (.d (.int .i64 4))))), (1, 1, (.k (.c (.d (.int .i64 9)))))], none⟩,
    ⟨(some 8), .call 9 [(.t 6), (.t 7)] none, none⟩,
    ⟨(some 5), .mv (.t 8), none⟩,
    ⟨(some 9), .extract (.t 5) 0, none⟩,
    ⟨(some 10), .extract (.t 5) 1, none⟩,
    ⟨(some 1), .alloc [(.d (.int .i64 0)), (.d (.int .i64 0))], none⟩,
    ⟨none, .store (.ag 2) (.t 1) (.t 9), none⟩,
    ⟨(some 2), .mv (.t 10), none⟩])
  (.seq (.reg [⟨(some 12), .build [(.d (.int .i64 0)), (.d (.int .i64 0))] [(0, 1, (.k (.c (.d (.int .i64 4))))), (1, 1, (.k (.c (.d (.int .i64 9)))))], none⟩,
    ⟨(some 13), .build [(.d (.int .i64 0)), (.d (.int .i64 0))] [(0, 1, (.k (.c (.d (.int .i64 1))))), (1, 1, (.k (.c (.d (.int .i64 3)))))], none⟩,
    ⟨(some 14), .build [(.d (.int .i64 0)), (.d (.int .i64 0))] [(0, 1, (.k (.c (.d (.int .i64 11))))), (1, 1, (.k (.c (.d (.int .i64 12)))))], none⟩,
    ⟨(some 15), .bldSl false 3 2 (.agg [(.int .i64 0), (.int .i64 0)]) [(0, (.t 12)), (1, (.t 13)), (2, (.t 14))], none⟩,
    ⟨(some 16), .call 34 [(.t 15)] none, none⟩,
    ⟨(some 11), .mv (.t 16), none⟩,
    ⟨(some 17), .extract (.t 11) 0, none⟩,
    ⟨(some 18), .extract (.t 11) 1, none⟩,
    ⟨(some 3), .mv (.t 17), none⟩,
    ⟨(some 4), .mv (.t 18), none⟩])
  (.seq (.reg [⟨(some 19), .mv (.t 2), none⟩,
    ⟨(some 20), .mv (.t 19), none⟩,
    ⟨(some 21), .load (.ag 2) (.t 1), (some (20, true))⟩,
    ⟨(some 22), .build [(.d (.int .i64 0)), (.d (.int .i64 0))] [(0, 1, (.k (.c (.d (.int .i64 4))))), (1, 1, (.k (.c (.d (.int .i64 5)))))], (some (20, true))⟩,
    ⟨(some 23), .eqA false [0, 0] (.t 21) (.t 22), (some (20, true))⟩,
    ⟨(some 24), .pick (.t 20) (.t 23) (.k (.c (.d (.bool false)))), none⟩,
    ⟨(some 25), .mv (.t 24), none⟩,
    ⟨(some 26), .mv (.t 4), (some (25, true))⟩,
    ⟨(some 27), .bin .eql (.t 26) (.k (.c (.d (.int .i64 0)))), (some (25, true))⟩,
    ⟨(some 28), .pick (.t 25) (.t 27) (.k (.c (.d (.bool false)))), none⟩,
    ⟨(some 29), .mv (.t 28), none⟩,
    ⟨(some 30), .mv (.t 3), (some (29, true))⟩,
    ⟨(some 31), .len (.t 30), (some (29, true))⟩,
    ⟨(some 32), .bin .eql (.t 31) (.k (.c (.d (.int .i64 2)))), (some (29, true))⟩,
    ⟨(some 33), .pick (.t 29) (.t 32) (.k (.c (.d (.bool false)))), none⟩,
    ⟨(some 34), .mv (.t 33), none⟩,
    ⟨(some 35), .mv (.t 3), (some (34, true))⟩,
    ⟨(some 36), .idxSl 2 (.t 35) (.k (.c (.d (.int .i64 0)))), (some (34, true))⟩,
    ⟨(some 37), .load (.ag 2) (.t 36), (some (34, true))⟩,
    ⟨(some 38), .build [(.d (.int .i64 0)), (.d (.int .i64 0))] [(0, 1, (.k (.c (.d (.int .i64 1))))), (1, 1, (.k (.c (.d (.int .i64 9)))))], (some (34, true))⟩,
    ⟨(some 39), .eqA false [0, 0] (.t 37) (.t 38), (some (34, true))⟩,
    ⟨(some 40), .pick (.t 34) (.t 39) (.k (.c (.d (.bool false)))), none⟩,
    ⟨(some 0), .mv (.t 40), none⟩])
  (.ret)))),
  [(0, none)]⟩
theorem cf_known11 : compFn Try.prog { own := [], comp := [], frz := [], nils := [] } Try.f21 = some sf_known11 := by kernel_rfl
set_option maxHeartbeats 1600000 in
theorem known11_c (G : Glob) : Den Try.prog G 21 [] (.w (.c (.d (.bool true)))) := by
  refine den_walk Try.func21 cf_known11 rfl rfl ?_
  have c1 := imet_c G 1 5 4 9
  rw [show mtB 1 5 4 9 = true by decide, show max (1 : Int) 4 = 4 by decide, show min (5 : Int) 9 = 5 by decide] at c1
  have c2 := iuni11_c G [(4, 9), (1, 3), (11, 12)] (by decide)
  rw [show uniEr [(4, 9), (1, 3), (11, 12)] = 0 by decide, show uniLs [(4, 9), (1, 3), (11, 12)] = unionL [(4, 9), (1, 3), (11, 12)] by rfl, known_u] at c2
  simp only [List.map_cons, List.map_nil, spD] at c2
  simp only [sf_known11, putAll, wx, wy, wz, stV, seval, IntWalk.iteOmega, IntWalk.toNatUp, reduceCtorEq]
  refine st_call (c1) rfl (.inl rfl) ?_
  simp only [spA, wx, wy, wz, stV, seval, IntWalk.iteOmega, IntWalk.toNatUp, reduceCtorEq]
  refine st_call (c2) rfl (.inl rfl) ?_
  simp only [spD, wx, wy, wz, stV, seval, IntWalk.iteOmega, IntWalk.toNatUp, reduceCtorEq]
  exact ret_d1 (by simp only [wx, wy, wz, stV, seval, IntWalk.iteOmega, IntWalk.toNatUp, reduceCtorEq])
end Go.Proofs.Ytaodfdnncdelnaa
