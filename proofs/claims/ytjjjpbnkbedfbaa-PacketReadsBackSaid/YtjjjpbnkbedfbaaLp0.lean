/- The laws of layer 16: the sanity check. Own work. -/
import Derived.Test.YtjjjpbnkbedfbaaPp2
set_option linter.unusedVariables false
set_option linter.unusedSimpArgs false
namespace Go.Proofs.Ytjjjpbnkbedfbaa
open Go.RowKit

def sf_known16 : SFn := ⟨0, 33,
  .seq (.reg [⟨(some 0), .mv (.k (.c (.d (.bool false)))), none⟩])
  (.seq (.reg [⟨(some 4), .call 16 [(.k (.c (.d (.int .u64 1))))] none, none⟩,
    ⟨(some 5), .call 7 [(.t 4)] none, none⟩,
    ⟨(some 3), .mv (.t 5), none⟩,
    ⟨(some 6), .extract (.t 3) 0, none⟩,
    ⟨(some 7), .extract (.t 3) 1, none⟩,
    ⟨(some 1), .mv (.t 6), none⟩,
    ⟨(some 2), .mv (.t 7), none⟩])
  (.seq (.reg [⟨(some 8), .mv (.t 2), none⟩,
    ⟨(some 9), .bin .eql (.t 8) (.k (.c (.d (.int .i64 0)))), none⟩,
    ⟨(some 10), .mv (.t 9), none⟩,
    ⟨(some 11), .mv (.t 1), (some (10, true))⟩,
    ⟨(some 12), .len (.t 11), (some (10, true))⟩,
    ⟨(some 13), .bin .eql (.t 12) (.k (.c (.d (.int .i64 48)))), (some (10, true))⟩,
    ⟨(some 14), .pick (.t 10) (.t 13) (.k (.c (.d (.bool false)))), none⟩,
    ⟨(some 15), .mv (.t 14), none⟩,
    ⟨(some 16), .mv (.t 1), (some (15, true))⟩,
    ⟨(some 17), .idxSl 1 (.t 16) (.k (.c (.d (.int .i64 0)))), (some (15, true))⟩,
    ⟨(some 18), .load .sc (.t 17), (some (15, true))⟩,
    ⟨(some 19), .bin .eql (.t 18) (.k (.c (.d (.int .u8 35)))), (some (15, true))⟩,
    ⟨(some 20), .pick (.t 15) (.t 19) (.k (.c (.d (.bool false)))), none⟩,
    ⟨(some 21), .mv (.t 20), none⟩,
    ⟨(some 22), .mv (.t 1), (some (21, true))⟩,
    ⟨(some 23), .idxSl 1 (.t 22) (.k (.c (.d (.int .i64 2)))), (some (21, true))⟩,
    ⟨(some 24), .load .sc (.t 23), (some (21, true))⟩,
    ⟨(some 25), .bin .eql (.t 24) (.k (.c (.d (.int .u8 6)))), (some (21, true))⟩,
    ⟨(some 26), .pick (.t 21) (.t 25) (.k (.c (.d (.bool false)))), none⟩,
    ⟨(some 27), .mv (.t 26), none⟩,
    ⟨(some 28), .mv (.t 1), (some (27, true))⟩,
    ⟨(some 29), .slice 1 (.t 28) (some (.k (.c (.d (.int .i64 40))))) none none, (some (27, true))⟩,
    ⟨(some 30), .call 19 [(.t 29)] none, (some (27, true))⟩,
    ⟨(some 31), .bin .eql (.t 30) (.k (.c (.d (.int .u64 1)))), (some (27, true))⟩,
    ⟨(some 32), .pick (.t 27) (.t 31) (.k (.c (.d (.bool false)))), none⟩,
    ⟨(some 0), .mv (.t 32), none⟩])
  (.ret))),
  [(0, none)]⟩
theorem cf_known16 : compFn Try.prog { own := [], comp := [], frz := [], nils := [] } Try.f6 = some sf_known16 := by kernel_rfl
set_option maxHeartbeats 1600000 in
theorem known16_c (G : Glob) : Den Try.prog G 6 [] (.w (.c (.d (.bool true)))) := by
  refine den_walk Try.func6 cf_known16 rfl rfl ?_
  have c1 := pask_c G 1
  have c2 := penc_c G (askH 1) (by unfold hdF askH; decide)
  have e1 : encB (askH 1) = [35, 0, 6, 0, 0, 0, 0, 0, 0, 0, 0, 0, 0, 0, 0, 0, 0, 0, 0, 0, 0, 0, 0, 0, 0, 0, 0, 0, 0, 0, 0, 0, 0, 0, 0, 0, 0, 0, 0, 0, 0, 0, 0, 0, 0, 0, 0, 1] := by decide +kernel
  have e2 : hdE (askH 1) = 0 := by decide +kernel
  have c3 := get_c G [0, 0, 0, 0, 0, 0, 0, 1] (by decide)
  rw [show getN [0, 0, 0, 0, 0, 0, 0, 1] = 1 by decide] at c3
  rw [e1, e2] at c2
  generalize hL : ([35, 0, 6, 0, 0, 0, 0, 0, 0, 0, 0, 0, 0, 0, 0, 0, 0, 0, 0, 0, 0, 0, 0, 0, 0, 0, 0, 0, 0, 0, 0, 0, 0, 0, 0, 0, 0, 0, 0, 0, 0, 0, 0, 0, 0, 0, 0, 1] : List UInt8) = L at c2
  have hl : L.length = 48 := by rw [← hL]; rfl
  have g0 : (L.map bD)[0]? = some (.int .u8 35) := by rw [← hL]; rfl
  have g2 : (L.map bD)[2]? = some (.int .u8 6) := by rw [← hL]; rfl
  have gd : L.drop 40 = [0, 0, 0, 0, 0, 0, 0, 1] := by rw [← hL]; rfl
  have gt : ∀ X : List UInt8, X = [0, 0, 0, 0, 0, 0, 0, 1] → X.take 8 = X := fun X h => by rw [h]; rfl
  clear hL
  generalize hX : ([0, 0, 0, 0, 0, 0, 0, 1] : List UInt8) = X at *
  have gt := gt X rfl
  unfold hdD at *
  generalize askH 1 = Q at *
  simp only [sf_known16, putAll, wx, wy, wz, stV, seval, IntWalk.iteOmega, IntWalk.toNatUp, reduceCtorEq]
  refine st_call (c1) rfl (.inl rfl) ?_
  simp only [wx, wy, wz, stV, seval, IntWalk.iteOmega, IntWalk.toNatUp, reduceCtorEq]
  refine st_call (c2) rfl (.inl rfl) ?_
  simp only [hl, g0, g2, gd, gt, wx, wy, wz, stV, seval, IntWalk.iteOmega, IntWalk.toNatUp, reduceCtorEq]
  refine st_call (c3) rfl (.inl rfl) ?_
  simp only [wx, wy, wz, stV, seval, IntWalk.iteOmega, IntWalk.toNatUp, reduceCtorEq]
  exact ret_d1 (by simp only [wx, wy, wz, stV, seval, IntWalk.iteOmega, IntWalk.toNatUp, reduceCtorEq])
end Go.Proofs.Ytjjjpbnkbedfbaa
