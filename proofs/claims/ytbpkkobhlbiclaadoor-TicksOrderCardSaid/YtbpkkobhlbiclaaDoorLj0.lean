/- The laws of layer 10: the sanity check. Own work. -/
import Derived.Test.YtbpkkobhlbiclaaDoorPr3
import Derived.Test.YtbpkkobhlbiclaaDoorPw0
set_option linter.unusedVariables false
set_option linter.unusedSimpArgs false
namespace Go.Proofs.YtbpkkobhlbiclaaDoor
open Go.RowKit

theorem fmt_m1 : fmtL (-1) = [45, 49, 46, 49, 48, 52, 56, 53, 55, 53] := by
  simp [fmtL, fmtU, dec_s, dec_0]
def sf_known10 : SFn := ⟨0, 31,
  .seq (.reg [⟨(some 0), .mv (.k (.c (.d (.bool false)))), none⟩])
  (.seq (.reg [⟨(some 6), .call 15 [(.k (.c (.d (.int .i64 1572864))))] none, none⟩,
    ⟨(some 5), .mv (.t 6), none⟩,
    ⟨(some 7), .extract (.t 5) 0, none⟩,
    ⟨(some 8), .extract (.t 5) 1, none⟩,
    ⟨(some 1), .mv (.t 7), none⟩,
    ⟨(some 2), .mv (.t 8), none⟩])
  (.seq (.reg [⟨(some 10), .call 13 [(.k (.c (.d (.int .i64 (-1))))), (.k (.c (.d (.int .i64 1)))), (.k (.c (.d (.bool false))))] none, none⟩,
    ⟨(some 9), .mv (.t 10), none⟩,
    ⟨(some 11), .extract (.t 9) 0, none⟩,
    ⟨(some 12), .extract (.t 9) 1, none⟩,
    ⟨(some 3), .mv (.t 11), none⟩,
    ⟨(some 4), .mv (.t 12), none⟩])
  (.seq (.reg [⟨(some 13), .mv (.t 2), none⟩,
    ⟨(some 14), .bin .eql (.t 13) (.k (.c (.d (.int .i64 0)))), none⟩,
    ⟨(some 15), .mv (.t 14), none⟩,
    ⟨(some 16), .mv (.t 4), (some (15, true))⟩,
    ⟨(some 17), .bin .eql (.t 16) (.k (.c (.d (.int .i64 0)))), (some (15, true))⟩,
    ⟨(some 18), .pick (.t 15) (.t 17) (.k (.c (.d (.bool false)))), none⟩,
    ⟨(some 19), .mv (.t 18), none⟩,
    ⟨(some 20), .mv (.t 1), (some (19, true))⟩,
    ⟨(some 21), .bin .eql (.t 20) (.k (.c (.d (.int .u64 6442450944)))), (some (19, true))⟩,
    ⟨(some 22), .pick (.t 19) (.t 21) (.k (.c (.d (.bool false)))), none⟩,
    ⟨(some 23), .mv (.t 22), none⟩,
    ⟨(some 24), .mv (.t 3), (some (23, true))⟩,
    ⟨(some 25), .bin .eql (.t 24) (.k (.c (.d (.int .i64 (-1))))), (some (23, true))⟩,
    ⟨(some 26), .pick (.t 23) (.t 25) (.k (.c (.d (.bool false)))), none⟩,
    ⟨(some 27), .mv (.t 26), none⟩,
    ⟨(some 28), .call 33 [(.k (.c (.d (.int .i64 (-1)))))] none, (some (27, true))⟩,
    ⟨(some 29), .bin .eql (.t 28) (.k (.c (.d (.str ⟨#[45, 49, 46, 49, 48, 52, 56, 53, 55, 53]⟩)))), (some (27, true))⟩,
    ⟨(some 30), .pick (.t 27) (.t 29) (.k (.c (.d (.bool false)))), none⟩,
    ⟨(some 0), .mv (.t 30), none⟩])
  (.ret)))),
  [(0, none)]⟩
theorem cf_known10 : compFn Tryd.prog { own := [], comp := [], frz := [], nils := [] } Tryd.f10 = some sf_known10 := by kernel_rfl
set_option maxHeartbeats 1600000 in
theorem known10_c (G : Glob) (hP : G.at 1 = some (.ra (Lib.pow10Tab.map fun z => D.int .u64 z))) : Den Tryd.prog G 10 [] (.w (.c (.d (.bool true)))) := by
  refine den_walk Tryd.func10 cf_known10 rfl rfl ?_
  have c1 := wir_c G 1572864 (by decide) (by decide)
  have c2 := sca_c G (-1) 1 false (by decide) (by decide)
  have c3 := fmt_c G hP (-1) (by decide) (by decide)
  rw [show wirV 1572864 = 6442450944 by decide, show wirE 1572864 = 0 by decide] at c1
  rw [show scaV (-1) 1 false = -1 by decide, show scaE (-1) 1 = 0 by decide] at c2
  rw [fmt_m1] at c3
  simp only [sf_known10, putAll, wx, wy, wz, stV, seval, IntWalk.iteOmega, IntWalk.toNatUp, reduceCtorEq]
  refine st_call (c1) rfl (.inl rfl) ?_
  simp only [wx, wy, wz, stV, seval, IntWalk.iteOmega, IntWalk.toNatUp, reduceCtorEq]
  refine st_call (c2) rfl (.inl rfl) ?_
  simp only [wx, wy, wz, stV, seval, IntWalk.iteOmega, IntWalk.toNatUp, reduceCtorEq]
  refine st_call (c3) rfl (.inl rfl) ?_
  simp only [wx, wy, wz, stV, seval, IntWalk.iteOmega, IntWalk.toNatUp, reduceCtorEq]
  exact ret_d1 (by simp only [wx, wy, wz, stV, seval, IntWalk.iteOmega, IntWalk.toNatUp, reduceCtorEq])
end Go.Proofs.YtbpkkobhlbiclaaDoor
