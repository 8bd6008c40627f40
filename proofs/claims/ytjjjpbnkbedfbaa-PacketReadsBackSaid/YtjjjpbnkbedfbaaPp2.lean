/- Layer 16 on data: the reference: headers. Own work. -/
import Derived.Test.YtjjjpbnkbedfbaaPp1
import Derived.Test.YtjjjpbnkbedfbaaPo5
set_option linter.unusedVariables false
set_option linter.unusedSimpArgs false
namespace Go.Proofs.Ytjjjpbnkbedfbaa
open Go.RowKit

def sf_rpvl : SFn := ⟨1, 61,
  .seq (.reg [⟨(some 1), .box .roBox (.t 0), none⟩,
    ⟨(some 2), .mv (.k (.c (.d (.int .i64 0)))), none⟩])
  (.seq (.seq (.reg [⟨(some 3), .fieldAddr 0 (.t 1), none⟩,
    ⟨(some 4), .load .sc (.t 3), none⟩,
    ⟨(some 5), .bin .lss (.t 4) (.k (.c (.d (.int .i64 0)))), none⟩,
    ⟨(some 6), .mv (.t 5), none⟩,
    ⟨(some 7), .fieldAddr 0 (.t 1), (some (6, false))⟩,
    ⟨(some 8), .load .sc (.t 7), (some (6, false))⟩,
    ⟨(some 9), .bin .gtr (.t 8) (.k (.c (.d (.int .i64 3)))), (some (6, false))⟩,
    ⟨(some 10), .pick (.t 6) (.k (.c (.d (.bool true)))) (.t 9), none⟩,
    ⟨(some 11), .mv (.t 10), none⟩,
    ⟨(some 12), .fieldAddr 1 (.t 1), (some (11, false))⟩,
    ⟨(some 13), .load .sc (.t 12), (some (11, false))⟩,
    ⟨(some 14), .bin .neq (.t 13) (.k (.c (.d (.int .i64 3)))), (some (11, false))⟩,
    ⟨(some 15), .mv (.t 14), (some (11, false))⟩,
    ⟨(some 16), .fieldAddr 1 (.t 1), (some (15, true))⟩,
    ⟨(some 17), .load .sc (.t 16), (some (15, true))⟩,
    ⟨(some 18), .bin .neq (.t 17) (.k (.c (.d (.int .i64 4)))), (some (15, true))⟩,
    ⟨(some 19), .pick (.t 15) (.t 18) (.k (.c (.d (.bool false)))), (some (11, false))⟩,
    ⟨(some 20), .pick (.t 11) (.k (.c (.d (.bool true)))) (.t 19), none⟩,
    ⟨(some 21), .mv (.t 20), none⟩,
    ⟨(some 22), .fieldAddr 2 (.t 1), (some (21, false))⟩,
    ⟨(some 23), .load .sc (.t 22), (some (21, false))⟩,
    ⟨(some 24), .bin .lss (.t 23) (.k (.c (.d (.int .i64 0)))), (some (21, false))⟩,
    ⟨(some 25), .pick (.t 21) (.k (.c (.d (.bool true)))) (.t 24), none⟩,
    ⟨(some 26), .mv (.t 25), none⟩,
    ⟨(some 27), .fieldAddr 2 (.t 1), (some (26, false))⟩,
    ⟨(some 28), .load .sc (.t 27), (some (26, false))⟩,
    ⟨(some 29), .bin .gtr (.t 28) (.k (.c (.d (.int .i64 7)))), (some (26, false))⟩,
    ⟨(some 30), .pick (.t 26) (.k (.c (.d (.bool true)))) (.t 29), none⟩,
    ⟨(some 31), .mv (.t 30), none⟩,
    ⟨(some 32), .fieldAddr 3 (.t 1), (some (31, false))⟩,
    ⟨(some 33), .load .sc (.t 32), (some (31, false))⟩,
    ⟨(some 34), .bin .lss (.t 33) (.k (.c (.d (.int .i64 0)))), (some (31, false))⟩,
    ⟨(some 35), .pick (.t 31) (.k (.c (.d (.bool true)))) (.t 34), none⟩,
    ⟨(some 36), .mv (.t 35), none⟩,
    ⟨(some 37), .fieldAddr 3 (.t 1), (some (36, false))⟩,
    ⟨(some 38), .load .sc (.t 37), (some (36, false))⟩,
    ⟨(some 39), .bin .gtr (.t 38) (.k (.c (.d (.int .i64 255)))), (some (36, false))⟩,
    ⟨(some 40), .pick (.t 36) (.k (.c (.d (.bool true)))) (.t 39), none⟩,
    ⟨(some 41), .mv (.t 40), none⟩,
    ⟨(some 42), .fieldAddr 4 (.t 1), (some (41, false))⟩,
    ⟨(some 43), .load .sc (.t 42), (some (41, false))⟩,
    ⟨(some 44), .bin .lss (.t 43) (.k (.c (.d (.int .i64 (-128))))), (some (41, false))⟩,
    ⟨(some 45), .pick (.t 41) (.k (.c (.d (.bool true)))) (.t 44), none⟩,
    ⟨(some 46), .mv (.t 45), none⟩,
    ⟨(some 47), .fieldAddr 4 (.t 1), (some (46, false))⟩,
    ⟨(some 48), .load .sc (.t 47), (some (46, false))⟩,
    ⟨(some 49), .bin .gtr (.t 48) (.k (.c (.d (.int .i64 127)))), (some (46, false))⟩,
    ⟨(some 50), .pick (.t 46) (.k (.c (.d (.bool true)))) (.t 49), none⟩,
    ⟨(some 51), .mv (.t 50), none⟩,
    ⟨(some 52), .fieldAddr 5 (.t 1), (some (51, false))⟩,
    ⟨(some 53), .load .sc (.t 52), (some (51, false))⟩,
    ⟨(some 54), .bin .lss (.t 53) (.k (.c (.d (.int .i64 (-128))))), (some (51, false))⟩,
    ⟨(some 55), .pick (.t 51) (.k (.c (.d (.bool true)))) (.t 54), none⟩,
    ⟨(some 56), .mv (.t 55), none⟩,
    ⟨(some 57), .fieldAddr 5 (.t 1), (some (56, false))⟩,
    ⟨(some 58), .load .sc (.t 57), (some (56, false))⟩,
    ⟨(some 59), .bin .gtr (.t 58) (.k (.c (.d (.int .i64 127)))), (some (56, false))⟩,
    ⟨(some 60), .pick (.t 56) (.k (.c (.d (.bool true)))) (.t 59), none⟩])
  (.cond (.t 60) (.seq (.reg [⟨(some 2), .mv (.k (.c (.d (.int .i64 4)))), none⟩])
   (.ret))
   (.skip)))
  (.seq (.reg [⟨(some 2), .mv (.k (.c (.d (.int .i64 0)))), none⟩])
  (.ret))),
  [(2, none)]⟩
theorem cf_rpvl : compFn Try.prog { own := [], comp := [], frz := [], nils := [] } Try.f14 = some sf_rpvl := by kernel_rfl
set_option maxHeartbeats 3200000 in
theorem rpvl_c (G : Glob) (h : Hd) : Den Try.prog G 14 [hdD h] (.w (.c (.d (.int .i64 (hdE h))))) := by
  refine den_walk Try.func14 cf_rpvl rfl rfl ?_
  have bad : ¬ hdR h → hdE h = 4 := fun k => by unfold hdE hdOk; rw [decide_eq_false k]; rfl
  have good : hdR h → hdE h = 0 := fun k => by unfold hdE hdOk; rw [decide_eq_true k]; rfl
  unfold hdR at bad good
  unfold hdD
  by_cases h1 : h.lp < 0
  · rw [bad (by omega)]; clear bad good
    simp only [sf_rpvl, putAll, wx, wy, wz, stV, seval, IntWalk.iteOmega, IntWalk.toNatUp, reduceCtorEq]
    exact ret_d1 (by simp only [wx, wy, wz, stV, seval, IntWalk.iteOmega, IntWalk.toNatUp, reduceCtorEq])
  by_cases h2 : h.lp > 3
  · rw [bad (by omega)]; clear bad good
    simp only [sf_rpvl, putAll, wx, wy, wz, stV, seval, IntWalk.iteOmega, IntWalk.toNatUp, reduceCtorEq]
    exact ret_d1 (by simp only [wx, wy, wz, stV, seval, IntWalk.iteOmega, IntWalk.toNatUp, reduceCtorEq])
  by_cases h3 : h.vr = 3
  · by_cases h4 : h.md < 0
    · rw [bad (by omega)]; clear bad good
      simp only [sf_rpvl, putAll, wx, wy, wz, stV, seval, IntWalk.iteOmega, IntWalk.toNatUp, reduceCtorEq]
      exact ret_d1 (by simp only [wx, wy, wz, stV, seval, IntWalk.iteOmega, IntWalk.toNatUp, reduceCtorEq])
    by_cases h5 : h.md > 7
    · rw [bad (by omega)]; clear bad good
      simp only [sf_rpvl, putAll, wx, wy, wz, stV, seval, IntWalk.iteOmega, IntWalk.toNatUp, reduceCtorEq]
      exact ret_d1 (by simp only [wx, wy, wz, stV, seval, IntWalk.iteOmega, IntWalk.toNatUp, reduceCtorEq])
    by_cases h6 : h.st < 0
    · rw [bad (by omega)]; clear bad good
      simp only [sf_rpvl, putAll, wx, wy, wz, stV, seval, IntWalk.iteOmega, IntWalk.toNatUp, reduceCtorEq]
      exact ret_d1 (by simp only [wx, wy, wz, stV, seval, IntWalk.iteOmega, IntWalk.toNatUp, reduceCtorEq])
    by_cases h7 : h.st > 255
    · rw [bad (by omega)]; clear bad good
      simp only [sf_rpvl, putAll, wx, wy, wz, stV, seval, IntWalk.iteOmega, IntWalk.toNatUp, reduceCtorEq]
      exact ret_d1 (by simp only [wx, wy, wz, stV, seval, IntWalk.iteOmega, IntWalk.toNatUp, reduceCtorEq])
    by_cases h8 : h.pl < -128
    · rw [bad (by omega)]; clear bad good
      simp only [sf_rpvl, putAll, wx, wy, wz, stV, seval, IntWalk.iteOmega, IntWalk.toNatUp, reduceCtorEq]
      exact ret_d1 (by simp only [wx, wy, wz, stV, seval, IntWalk.iteOmega, IntWalk.toNatUp, reduceCtorEq])
    by_cases h9 : h.pl > 127
    · rw [bad (by omega)]; clear bad good
      simp only [sf_rpvl, putAll, wx, wy, wz, stV, seval, IntWalk.iteOmega, IntWalk.toNatUp, reduceCtorEq]
      exact ret_d1 (by simp only [wx, wy, wz, stV, seval, IntWalk.iteOmega, IntWalk.toNatUp, reduceCtorEq])
    by_cases hA : h.pr < -128
    · rw [bad (by omega)]; clear bad good
      simp only [sf_rpvl, putAll, wx, wy, wz, stV, seval, IntWalk.iteOmega, IntWalk.toNatUp, reduceCtorEq]
      exact ret_d1 (by simp only [wx, wy, wz, stV, seval, IntWalk.iteOmega, IntWalk.toNatUp, reduceCtorEq])
    by_cases hB : h.pr > 127
    · rw [bad (by omega)]; clear bad good
      simp only [sf_rpvl, putAll, wx, wy, wz, stV, seval, IntWalk.iteOmega, IntWalk.toNatUp, reduceCtorEq]
      exact ret_d1 (by simp only [wx, wy, wz, stV, seval, IntWalk.iteOmega, IntWalk.toNatUp, reduceCtorEq])
    · rw [good (by omega)]; clear bad good
      simp only [sf_rpvl, putAll, wx, wy, wz, stV, seval, IntWalk.iteOmega, IntWalk.toNatUp, reduceCtorEq]
      exact ret_d1 (by simp only [wx, wy, wz, stV, seval, IntWalk.iteOmega, IntWalk.toNatUp, reduceCtorEq])
  by_cases h3' : h.vr = 4
  · obtain ⟨lp, vr, md, st, pl, pr, rd, rp, ri, rf, og, rc, tr⟩ := h
    simp only at h1 h2 h3 h3' bad good
    subst h3'
    clear h3
    dsimp only
    by_cases h4 : md < 0
    · rw [bad (by omega)]; clear bad good
      simp only [sf_rpvl, putAll, wx, wy, wz, stV, seval, IntWalk.iteOmega, IntWalk.toNatUp, reduceCtorEq]
      exact ret_d1 (by simp only [wx, wy, wz, stV, seval, IntWalk.iteOmega, IntWalk.toNatUp, reduceCtorEq])
    by_cases h5 : md > 7
    · rw [bad (by omega)]; clear bad good
      simp only [sf_rpvl, putAll, wx, wy, wz, stV, seval, IntWalk.iteOmega, IntWalk.toNatUp, reduceCtorEq]
      exact ret_d1 (by simp only [wx, wy, wz, stV, seval, IntWalk.iteOmega, IntWalk.toNatUp, reduceCtorEq])
    by_cases h6 : st < 0
    · rw [bad (by omega)]; clear bad good
      simp only [sf_rpvl, putAll, wx, wy, wz, stV, seval, IntWalk.iteOmega, IntWalk.toNatUp, reduceCtorEq]
      exact ret_d1 (by simp only [wx, wy, wz, stV, seval, IntWalk.iteOmega, IntWalk.toNatUp, reduceCtorEq])
    by_cases h7 : st > 255
    · rw [bad (by omega)]; clear bad good
      simp only [sf_rpvl, putAll, wx, wy, wz, stV, seval, IntWalk.iteOmega, IntWalk.toNatUp, reduceCtorEq]
      exact ret_d1 (by simp only [wx, wy, wz, stV, seval, IntWalk.iteOmega, IntWalk.toNatUp, reduceCtorEq])
    by_cases h8 : pl < -128
    · rw [bad (by omega)]; clear bad good
      simp only [sf_rpvl, putAll, wx, wy, wz, stV, seval, IntWalk.iteOmega, IntWalk.toNatUp, reduceCtorEq]
      exact ret_d1 (by simp only [wx, wy, wz, stV, seval, IntWalk.iteOmega, IntWalk.toNatUp, reduceCtorEq])
    by_cases h9 : pl > 127
    · rw [bad (by omega)]; clear bad good
      simp only [sf_rpvl, putAll, wx, wy, wz, stV, seval, IntWalk.iteOmega, IntWalk.toNatUp, reduceCtorEq]
      exact ret_d1 (by simp only [wx, wy, wz, stV, seval, IntWalk.iteOmega, IntWalk.toNatUp, reduceCtorEq])
    by_cases hA : pr < -128
    · rw [bad (by omega)]; clear bad good
      simp only [sf_rpvl, putAll, wx, wy, wz, stV, seval, IntWalk.iteOmega, IntWalk.toNatUp, reduceCtorEq]
      exact ret_d1 (by simp only [wx, wy, wz, stV, seval, IntWalk.iteOmega, IntWalk.toNatUp, reduceCtorEq])
    by_cases hB : pr > 127
    · rw [bad (by omega)]; clear bad good
      simp only [sf_rpvl, putAll, wx, wy, wz, stV, seval, IntWalk.iteOmega, IntWalk.toNatUp, reduceCtorEq]
      exact ret_d1 (by simp only [wx, wy, wz, stV, seval, IntWalk.iteOmega, IntWalk.toNatUp, reduceCtorEq])
    · rw [good (by omega)]; clear bad good
      simp only [sf_rpvl, putAll, wx, wy, wz, stV, seval, IntWalk.iteOmega, IntWalk.toNatUp, reduceCtorEq]
      exact ret_d1 (by simp only [wx, wy, wz, stV, seval, IntWalk.iteOmega, IntWalk.toNatUp, reduceCtorEq])
  · rw [bad (by omega)]; clear bad good
    simp only [sf_rpvl, putAll, wx, wy, wz, stV, seval, IntWalk.iteOmega, IntWalk.toNatUp, reduceCtorEq]
    exact ret_d1 (by simp only [wx, wy, wz, stV, seval, IntWalk.iteOmega, IntWalk.toNatUp, reduceCtorEq])
def sf_rask : SFn := ⟨1, 5,
  .seq (.reg [⟨(some 2), .alloc [(.d (.int .i64 0)), (.d (.int .i64 0)), (.d (.int .i64 0)), (.d (.int .i64 0)), (.d (.int .i64 0)), (.d (.int .i64 0)), (.d (.int .u32 0)), (.d (.int .u32 0)), (.d (.int .u32 0)), (.d (.int .u64 0)), (.d (.int .u64 0)), (.d (.int .u64 0)), (.d (.int .u64 0))], none⟩])
  (.seq (.reg [⟨(some 3), .mv (.t 0), none⟩,
    ⟨(some 4), .build [(.d (.int .i64 0)), (.d (.int .i64 0)), (.d (.int .i64 0)), (.d (.int .i64 0)), (.d (.int .i64 0)), (.d (.int .i64 0)), (.d (.int .u32 0)), (.d (.int .u32 0)), (.d (.int .u32 0)), (.d (.int .u64 0)), (.d (.int .u64 0)), (.d (.int .u64 0)), (.d (.int .u64 0))] [(1, 1, (.k (.c (.d (.int .i64 4))))), (2, 1, (.k (.c (.d (.int .i64 3))))), (4, 1, (.k (.c (.d (.int .i64 6))))), (12, 1, (.t 3))], none⟩,
    ⟨none, .store (.ag 13) (.t 2) (.t 4), none⟩])
  (.ret)),
  [(2, (some (.ag 13)))]⟩
theorem cf_rask : compFn Try.prog { own := [], comp := [], frz := [], nils := [] } Try.f17 = some sf_rask := by kernel_rfl
theorem rask_c (G : Glob) (t : Nat) : Den Try.prog G 17 [.int .u64 (t : Int)] (.w (.c (.d (hdD (askH t))))) := by
  refine den_walk Try.func17 cf_rask rfl rfl ?_
  unfold hdD askH
  simp only [sf_rask, putAll, wx, wy, wz, stV, seval, IntWalk.iteOmega, IntWalk.toNatUp, reduceCtorEq]
  exact ret_d1 (by simp only [wx, wy, wz, stV, seval, IntWalk.iteOmega, IntWalk.toNatUp, reduceCtorEq])
def sf_rrep : SFn := ⟨4, 38,
  .seq (.reg [⟨(some 4), .box .roBox (.t 0), none⟩,
    ⟨(some 8), .alloc [(.d (.int .i64 0)), (.d (.int .i64 0)), (.d (.int .i64 0)), (.d (.int .i64 0)), (.d (.int .i64 0)), (.d (.int .i64 0)), (.d (.int .u32 0)), (.d (.int .u32 0)), (.d (.int .u32 0)), (.d (.int .u64 0)), (.d (.int .u64 0)), (.d (.int .u64 0)), (.d (.int .u64 0))], none⟩,
    ⟨(some 9), .mv (.k (.c (.d (.int .i64 0)))), none⟩])
  (.seq (.seq (.reg [⟨(some 11), .load (.ag 13) (.t 4), none⟩,
    ⟨(some 12), .call 14 [(.t 11)] none, none⟩,
    ⟨(some 10), .mv (.t 12), none⟩])
  (.seq (.reg [⟨(some 13), .mv (.t 10), none⟩,
    ⟨(some 14), .bin .neq (.t 13) (.k (.c (.d (.int .i64 0)))), none⟩])
  (.cond (.t 14) (.seq (.reg [⟨(some 15), .build [(.d (.int .i64 0)), (.d (.int .i64 0)), (.d (.int .i64 0)), (.d (.int .i64 0)), (.d (.int .i64 0)), (.d (.int .i64 0)), (.d (.int .u32 0)), (.d (.int .u32 0)), (.d (.int .u32 0)), (.d (.int .u64 0)), (.d (.int .u64 0)), (.d (.int .u64 0)), (.d (.int .u64 0))] [], none⟩,
     ⟨(some 16), .mv (.t 10), none⟩,
     ⟨none, .store (.ag 13) (.t 8) (.t 15), none⟩,
     ⟨(some 9), .mv (.t 16), none⟩])
   (.ret))
   (.skip))))
  (.seq (.seq (.reg [⟨(some 17), .fieldAddr 2 (.t 4), none⟩,
    ⟨(some 18), .load .sc (.t 17), none⟩,
    ⟨(some 19), .bin .neq (.t 18) (.k (.c (.d (.int .i64 3)))), none⟩])
  (.cond (.t 19) (.seq (.reg [⟨(some 20), .build [(.d (.int .i64 0)), (.d (.int .i64 0)), (.d (.int .i64 0)), (.d (.int .i64 0)), (.d (.int .i64 0)), (.d (.int .i64 0)), (.d (.int .u32 0)), (.d (.int .u32 0)), (.d (.int .u32 0)), (.d (.int .u64 0)), (.d (.int .u64 0)), (.d (.int .u64 0)), (.d (.int .u64 0))] [], none⟩,
     ⟨none, .store (.ag 13) (.t 8) (.t 20), none⟩,
     ⟨(some 9), .mv (.k (.c (.d (.int .i64 3)))), none⟩])
   (.ret))
   (.skip)))
  (.seq (.seq (.reg [⟨(some 21), .mv (.t 1), none⟩,
    ⟨(some 22), .bin .lss (.t 21) (.k (.c (.d (.int .i64 0)))), none⟩,
    ⟨(some 23), .mv (.t 22), none⟩,
    ⟨(some 24), .mv (.t 1), (some (23, false))⟩,
    ⟨(some 25), .bin .gtr (.t 24) (.k (.c (.d (.int .i64 255)))), (some (23, false))⟩,
    ⟨(some 26), .pick (.t 23) (.k (.c (.d (.bool true)))) (.t 25), none⟩])
  (.cond (.t 26) (.seq (.reg [⟨(some 27), .build [(.d (.int .i64 0)), (.d (.int .i64 0)), (.d (.int .i64 0)), (.d (.int .i64 0)), (.d (.int .i64 0)), (.d (.int .i64 0)), (.d (.int .u32 0)), (.d (.int .u32 0)), (.d (.int .u32 0)), (.d (.int .u64 0)), (.d (.int .u64 0)), (.d (.int .u64 0)), (.d (.int .u64 0))] [], none⟩,
     ⟨none, .store (.ag 13) (.t 8) (.t 27), none⟩,
     ⟨(some 9), .mv (.k (.c (.d (.int .i64 4)))), none⟩])
   (.ret))
   (.skip)))
  (.seq (.reg [⟨(some 28), .fieldAddr 1 (.t 4), none⟩,
    ⟨(some 29), .load .sc (.t 28), none⟩,
    ⟨(some 30), .mv (.t 1), none⟩,
    ⟨(some 31), .fieldAddr 4 (.t 4), none⟩,
    ⟨(some 32), .load .sc (.t 31), none⟩,
    ⟨(some 33), .fieldAddr 12 (.t 4), none⟩,
    ⟨(some 34), .load .sc (.t 33), none⟩,
    ⟨(some 35), .mv (.t 2), none⟩,
    ⟨(some 36), .mv (.t 3), none⟩,
    ⟨(some 37), .build [(.d (.int .i64 0)), (.d (.int .i64 0)), (.d (.int .i64 0)), (.d (.int .i64 0)), (.d (.int .i64 0)), (.d (.int .i64 0)), (.d (.int .u32 0)), (.d (.int .u32 0)), (.d (.int .u32 0)), (.d (.int .u64 0)), (.d (.int .u64 0)), (.d (.int .u64 0)), (.d (.int .u64 0))] [(1, 1, (.t 29)), (2, 1, (.k (.c (.d (.int .i64 4))))), (3, 1, (.t 30)), (4, 1, (.t 32)), (5, 1, (.k (.c (.d (.int .i64 (-20)))))), (10, 1, (.t 34)), (11, 1, (.t 35)), (12, 1, (.t 36))], none⟩,
    ⟨none, .store (.ag 13) (.t 8) (.t 37), none⟩,
    ⟨(some 9), .mv (.k (.c (.d (.int .i64 0)))), none⟩])
  (.ret))))),
  [(8, (some (.ag 13))), (9, none)]⟩
theorem cf_rrep : compFn Try.prog { own := [], comp := [], frz := [], nils := [] } Try.f12 = some sf_rrep := by kernel_rfl
set_option maxHeartbeats 1600000 in
theorem rrep_c (G : Glob) (q : Hd) (st : Int) (rc tr : Nat) : Den Try.prog G 12 [hdD q, .int .i64 st, .int .u64 (rc : Int), .int .u64 (tr : Int)] (.tup [.c (.d (hdD (repH q st rc tr))), .c (.d (.int .i64 (repE q st)))]) := by
  refine den_walk Try.func12 cf_rrep rfl rfl ?_
  have c1 := rpvl_c G q
  unfold hdE at c1
  cases hv : hdOk q
  · rw [hv, if_neg (by decide : ¬ false = true)] at c1
    have he : repE q st = 4 := by unfold repE; rw [hv]; rfl
    unfold repH
    rw [he, if_neg (by decide : ¬ (4 : Int) = 0)]
    unfold hdD Hd.z at *
    simp only [sf_rrep, putAll, wx, wy, wz, stV, seval, IntWalk.iteOmega, IntWalk.toNatUp, reduceCtorEq]
    refine st_call (c1) rfl (.inl rfl) ?_
    simp only [wx, wy, wz, stV, seval, IntWalk.iteOmega, IntWalk.toNatUp, reduceCtorEq]
    exact ret_d2 (by simp only [wx, wy, wz, stV, seval, IntWalk.iteOmega, IntWalk.toNatUp, reduceCtorEq]) (by simp only [wx, wy, wz, stV, seval, IntWalk.iteOmega, IntWalk.toNatUp, reduceCtorEq])
  · rw [hv, if_pos rfl] at c1
    by_cases hm : q.md = 3
    · by_cases s1 : st < 0
      · have he : repE q st = 4 := by unfold repE; rw [if_pos hv, if_pos hm, if_neg (by omega)]
        unfold repH
        rw [he, if_neg (by decide : ¬ (4 : Int) = 0)]
        unfold hdD Hd.z at *
        simp only [sf_rrep, putAll, wx, wy, wz, stV, seval, IntWalk.iteOmega, IntWalk.toNatUp, reduceCtorEq]
        refine st_call (c1) rfl (.inl rfl) ?_
        simp only [wx, wy, wz, stV, seval, IntWalk.iteOmega, IntWalk.toNatUp, reduceCtorEq]
        exact ret_d2 (by simp only [wx, wy, wz, stV, seval, IntWalk.iteOmega, IntWalk.toNatUp, reduceCtorEq]) (by simp only [wx, wy, wz, stV, seval, IntWalk.iteOmega, IntWalk.toNatUp, reduceCtorEq])
      · by_cases s2 : st > 255
        · have he : repE q st = 4 := by unfold repE; rw [if_pos hv, if_pos hm, if_neg (by omega)]
          unfold repH
          rw [he, if_neg (by decide : ¬ (4 : Int) = 0)]
          unfold hdD Hd.z at *
          simp only [sf_rrep, putAll, wx, wy, wz, stV, seval, IntWalk.iteOmega, IntWalk.toNatUp, reduceCtorEq]
          refine st_call (c1) rfl (.inl rfl) ?_
          simp only [wx, wy, wz, stV, seval, IntWalk.iteOmega, IntWalk.toNatUp, reduceCtorEq]
          exact ret_d2 (by simp only [wx, wy, wz, stV, seval, IntWalk.iteOmega, IntWalk.toNatUp, reduceCtorEq]) (by simp only [wx, wy, wz, stV, seval, IntWalk.iteOmega, IntWalk.toNatUp, reduceCtorEq])
        · have he : repE q st = 0 := by unfold repE; rw [if_pos hv, if_pos hm, if_pos (by omega)]
          unfold repH
          rw [he, if_pos rfl]
          unfold hdD at *
          simp only [sf_rrep, putAll, wx, wy, wz, stV, seval, IntWalk.iteOmega, IntWalk.toNatUp, reduceCtorEq]
          refine st_call (c1) rfl (.inl rfl) ?_
          simp only [wx, wy, wz, stV, seval, IntWalk.iteOmega, IntWalk.toNatUp, reduceCtorEq]
          exact ret_d2 (by simp only [wx, wy, wz, stV, seval, IntWalk.iteOmega, IntWalk.toNatUp, reduceCtorEq]) (by simp only [wx, wy, wz, stV, seval, IntWalk.iteOmega, IntWalk.toNatUp, reduceCtorEq])
    · have he : repE q st = 3 := by unfold repE; rw [if_pos hv, if_neg hm]
      unfold repH
      rw [he, if_neg (by decide : ¬ (3 : Int) = 0)]
      unfold hdD Hd.z at *
      simp only [sf_rrep, putAll, wx, wy, wz, stV, seval, IntWalk.iteOmega, IntWalk.toNatUp, reduceCtorEq]
      refine st_call (c1) rfl (.inl rfl) ?_
      simp only [wx, wy, wz, stV, seval, IntWalk.iteOmega, IntWalk.toNatUp, reduceCtorEq]
      exact ret_d2 (by simp only [wx, wy, wz, stV, seval, IntWalk.iteOmega, IntWalk.toNatUp, reduceCtorEq]) (by simp only [wx, wy, wz, stV, seval, IntWalk.iteOmega, IntWalk.toNatUp, reduceCtorEq])
def sf_rsgn : SFn := ⟨1, 10,
  .seq (.reg [⟨(some 2), .mv (.k (.c (.d (.int .i64 0)))), none⟩])
  (.seq (.seq (.reg [⟨(some 3), .mv (.t 0), none⟩,
    ⟨(some 4), .bin .gtr (.t 3) (.k (.c (.d (.int .u8 127)))), none⟩])
  (.cond (.t 4) (.seq (.reg [⟨(some 5), .mv (.t 0), none⟩,
     ⟨(some 6), .conv .i64 (.t 5), none⟩,
     ⟨(some 7), .bin .sub (.t 6) (.k (.c (.d (.int .i64 256)))), none⟩,
     ⟨(some 2), .mv (.t 7), none⟩])
   (.ret))
   (.skip)))
  (.seq (.reg [⟨(some 8), .mv (.t 0), none⟩,
    ⟨(some 9), .conv .i64 (.t 8), none⟩,
    ⟨(some 2), .mv (.t 9), none⟩])
  (.ret))),
  [(2, none)]⟩
theorem cf_rsgn : compFn Try.prog { own := [], comp := [], frz := [], nils := [] } Try.f25 = some sf_rsgn := by kernel_rfl
theorem rsgn_c (G : Glob) (b : UInt8) : Den Try.prog G 25 [.int .u8 (b.toNat : Int)] (.w (.c (.d (.int .i64 (sgB8 b))))) := by
  refine den_walk Try.func25 cf_rsgn rfl rfl ?_
  have hb := b.toNat_lt
  unfold sgB8
  generalize b.toNat = n at *
  by_cases h : n > 127
  · have h' : (n : Int) > 127 := by omega
    rw [if_pos h]
    simp only [sf_rsgn, putAll, wx, wy, wz, stV, seval, IntWalk.iteOmega, IntWalk.toNatUp, reduceCtorEq]
    exact ret_d1 (by simp only [wx, wy, wz, stV, seval, IntWalk.iteOmega, IntWalk.toNatUp, reduceCtorEq])
  · have h' : ¬ (n : Int) > 127 := by omega
    rw [if_neg h]
    simp only [sf_rsgn, putAll, wx, wy, wz, stV, seval, IntWalk.iteOmega, IntWalk.toNatUp, reduceCtorEq]
    exact ret_d1 (by simp only [wx, wy, wz, stV, seval, IntWalk.iteOmega, IntWalk.toNatUp, reduceCtorEq])
theorem and7b : ∀ m : Fin 256, bits .and .u8 (m.val : Int) 7 = ((m.val % 8 : Nat) : Int) := by decide +kernel
theorem and7b_n {m : Nat} (h : m < 256) : bits .and .u8 (m : Int) 7 = ((m % 8 : Nat) : Int) := and7b ⟨m, h⟩
theorem at_n {l : List UInt8} {i n : Nat} (h : i < l.length) (hn : (l.getD i 0).toNat = n) : (l.map bD)[i]? = some (.int .u8 (n : Int)) := by
  rw [List.getElem?_map, List.getElem?_eq_getElem h, ← hn, List.getD_eq_getElem?_getD, List.getElem?_eq_getElem h]
  rfl
def sf_rdec : SFn := ⟨1, 81,
  .seq (.reg [⟨(some 2), .alloc [(.d (.int .i64 0)), (.d (.int .i64 0)), (.d (.int .i64 0)), (.d (.int .i64 0)), (.d (.int .i64 0)), (.d (.int .i64 0)), (.d (.int .u32 0)), (.d (.int .u32 0)), (.d (.int .u32 0)), (.d (.int .u64 0)), (.d (.int .u64 0)), (.d (.int .u64 0)), (.d (.int .u64 0))], none⟩,
    ⟨(some 3), .mv (.k (.c .nil)), none⟩,
    ⟨(some 4), .mv (.k (.c (.d (.int .i64 0)))), none⟩])
  (.seq (.seq (.reg [⟨(some 6), .mv (.t 0), none⟩,
    ⟨(some 7), .len (.t 6), none⟩,
    ⟨(some 8), .bin .lss (.t 7) (.k (.c (.d (.int .i64 48)))), none⟩])
  (.cond (.t 8) (.seq (.reg [⟨(some 9), .build [(.d (.int .i64 0)), (.d (.int .i64 0)), (.d (.int .i64 0)), (.d (.int .i64 0)), (.d (.int .i64 0)), (.d (.int .i64 0)), (.d (.int .u32 0)), (.d (.int .u32 0)), (.d (.int .u32 0)), (.d (.int .u64 0)), (.d (.int .u64 0)), (.d (.int .u64 0)), (.d (.int .u64 0))] [], none⟩,
     ⟨none, .store (.ag 13) (.t 2) (.t 9), none⟩,
     ⟨(some 3), .mv (.k (.c .nil)), none⟩,
     ⟨(some 4), .mv (.k (.c (.d (.int .i64 1)))), none⟩])
   (.ret))
   (.skip)))
  (.seq (.seq (.reg [⟨(some 10), .mv (.t 0), none⟩,
    ⟨(some 11), .len (.t 10), none⟩,
    ⟨(some 12), .bin .gtr (.t 11) (.k (.c (.d (.int .i64 1280)))), none⟩])
  (.cond (.t 12) (.seq (.reg [⟨(some 13), .build [(.d (.int .i64 0)), (.d (.int .i64 0)), (.d (.int .i64 0)), (.d (.int .i64 0)), (.d (.int .i64 0)), (.d (.int .i64 0)), (.d (.int .u32 0)), (.d (.int .u32 0)), (.d (.int .u32 0)), (.d (.int .u64 0)), (.d (.int .u64 0)), (.d (.int .u64 0)), (.d (.int .u64 0))] [], none⟩,
     ⟨none, .store (.ag 13) (.t 2) (.t 13), none⟩,
     ⟨(some 3), .mv (.k (.c .nil)), none⟩,
     ⟨(some 4), .mv (.k (.c (.d (.int .i64 2)))), none⟩])
   (.ret))
   (.skip)))
  (.seq (.reg [⟨(some 14), .mv (.t 0), none⟩,
    ⟨(some 15), .idxSl 1 (.t 14) (.k (.c (.d (.int .i64 0)))), none⟩,
    ⟨(some 16), .load .sc (.t 15), none⟩,
    ⟨(some 17), .bin .shr (.t 16) (.k (.c (.d (.int .u64 6)))), none⟩,
    ⟨(some 18), .conv .i64 (.t 17), none⟩,
    ⟨(some 19), .mv (.t 0), none⟩,
    ⟨(some 20), .idxSl 1 (.t 19) (.k (.c (.d (.int .i64 0)))), none⟩,
    ⟨(some 21), .load .sc (.t 20), none⟩,
    ⟨(some 22), .bin .shr (.t 21) (.k (.c (.d (.int .u64 3)))), none⟩,
    ⟨(some 23), .bin .and (.t 22) (.k (.c (.d (.int .u8 7)))), none⟩,
    ⟨(some 24), .conv .i64 (.t 23), none⟩,
    ⟨(some 25), .mv (.t 0), none⟩,
    ⟨(some 26), .idxSl 1 (.t 25) (.k (.c (.d (.int .i64 0)))), none⟩,
    ⟨(some 27), .load .sc (.t 26), none⟩,
    ⟨(some 28), .bin .and (.t 27) (.k (.c (.d (.int .u8 7)))), none⟩,
    ⟨(some 29), .conv .i64 (.t 28), none⟩,
    ⟨(some 30), .mv (.t 0), none⟩,
    ⟨(some 31), .idxSl 1 (.t 30) (.k (.c (.d (.int .i64 1)))), none⟩,
    ⟨(some 32), .load .sc (.t 31), none⟩,
    ⟨(some 33), .conv .i64 (.t 32), none⟩,
    ⟨(some 34), .mv (.t 0), none⟩,
    ⟨(some 35), .idxSl 1 (.t 34) (.k (.c (.d (.int .i64 2)))), none⟩,
    ⟨(some 36), .load .sc (.t 35), none⟩,
    ⟨(some 37), .call 25 [(.t 36)] none, none⟩,
    ⟨(some 38), .mv (.t 0), none⟩,
    ⟨(some 39), .idxSl 1 (.t 38) (.k (.c (.d (.int .i64 3)))), none⟩,
    ⟨(some 40), .load .sc (.t 39), none⟩,
    ⟨(some 41), .call 25 [(.t 40)] none, none⟩,
    ⟨(some 42), .mv (.t 0), none⟩,
    ⟨(some 43), .slice 1 (.t 42) (some (.k (.c (.d (.int .i64 4))))) (some (.k (.c (.d (.int .i64 8))))) none, none⟩,
    ⟨(some 44), .call 26 [(.t 43)] none, none⟩,
    ⟨(some 45), .conv .u32 (.t 44), none⟩,
    ⟨(some 46), .mv (.t 0), none⟩,
    ⟨(some 47), .slice 1 (.t 46) (some (.k (.c (.d (.int .i64 8))))) (some (.k (.c (.d (.int .i64 12))))) none, none⟩,
    ⟨(some 48), .call 26 [(.t 47)] none, none⟩,
    ⟨(some 49), .conv .u32 (.t 48), none⟩,
    ⟨(some 50), .mv (.t 0), none⟩,
    ⟨(some 51), .slice 1 (.t 50) (some (.k (.c (.d (.int .i64 12))))) (some (.k (.c (.d (.int .i64 16))))) none, none⟩,
    ⟨(some 52), .call 26 [(.t 51)] none, none⟩,
    ⟨(some 53), .conv .u32 (.t 52), none⟩,
    ⟨(some 54), .mv (.t 0), none⟩,
    ⟨(some 55), .slice 1 (.t 54) (some (.k (.c (.d (.int .i64 16))))) (some (.k (.c (.d (.int .i64 24))))) none, none⟩,
    ⟨(some 56), .call 26 [(.t 55)] none, none⟩,
    ⟨(some 57), .mv (.t 0), none⟩,
    ⟨(some 58), .slice 1 (.t 57) (some (.k (.c (.d (.int .i64 24))))) (some (.k (.c (.d (.int .i64 32))))) none, none⟩,
    ⟨(some 59), .call 26 [(.t 58)] none, none⟩,
    ⟨(some 60), .mv (.t 0), none⟩,
    ⟨(some 61), .slice 1 (.t 60) (some (.k (.c (.d (.int .i64 32))))) (some (.k (.c (.d (.int .i64 40))))) none, none⟩,
    ⟨(some 62), .call 26 [(.t 61)] none, none⟩,
    ⟨(some 63), .mv (.t 0), none⟩,
    ⟨(some 64), .slice 1 (.t 63) (some (.k (.c (.d (.int .i64 40))))) (some (.k (.c (.d (.int .i64 48))))) none, none⟩,
    ⟨(some 65), .call 26 [(.t 64)] none, none⟩,
    ⟨(some 66), .build [(.d (.int .i64 0)), (.d (.int .i64 0)), (.d (.int .i64 0)), (.d (.int .i64 0)), (.d (.int .i64 0)), (.d (.int .i64 0)), (.d (.int .u32 0)), (.d (.int .u32 0)), (.d (.int .u32 0)), (.d (.int .u64 0)), (.d (.int .u64 0)), (.d (.int .u64 0)), (.d (.int .u64 0))] [(0, 1, (.t 18)), (1, 1, (.t 24)), (2, 1, (.t 29)), (3, 1, (.t 33)), (4, 1, (.t 37)), (5, 1, (.t 41)), (6, 1, (.t 45)), (7, 1, (.t 49)), (8, 1, (.t 53)), (9, 1, (.t 56)), (10, 1, (.t 59)), (11, 1, (.t 62)), (12, 1, (.t 65))], none⟩,
    ⟨(some 5), .alloc [(.d (.int .i64 0)), (.d (.int .i64 0)), (.d (.int .i64 0)), (.d (.int .i64 0)), (.d (.int .i64 0)), (.d (.int .i64 0)), (.d (.int .u32 0)), (.d (.int .u32 0)), (.d (.int .u32 0)), (.d (.int .u64 0)), (.d (.int .u64 0)), (.d (.int .u64 0)), (.d (.int .u64 0))], none⟩,
    ⟨none, .store (.ag 13) (.t 5) (.t 66), none⟩])
  (.seq (.seq (.reg [⟨(some 67), .fieldAddr 1 (.t 5), none⟩,
    ⟨(some 68), .load .sc (.t 67), none⟩,
    ⟨(some 69), .bin .neq (.t 68) (.k (.c (.d (.int .i64 3)))), none⟩,
    ⟨(some 70), .mv (.t 69), none⟩,
    ⟨(some 71), .fieldAddr 1 (.t 5), (some (70, true))⟩,
    ⟨(some 72), .load .sc (.t 71), (some (70, true))⟩,
    ⟨(some 73), .bin .neq (.t 72) (.k (.c (.d (.int .i64 4)))), (some (70, true))⟩,
    ⟨(some 74), .pick (.t 70) (.t 73) (.k (.c (.d (.bool false)))), none⟩])
  (.cond (.t 74) (.seq (.reg [⟨(some 75), .build [(.d (.int .i64 0)), (.d (.int .i64 0)), (.d (.int .i64 0)), (.d (.int .i64 0)), (.d (.int .i64 0)), (.d (.int .i64 0)), (.d (.int .u32 0)), (.d (.int .u32 0)), (.d (.int .u32 0)), (.d (.int .u64 0)), (.d (.int .u64 0)), (.d (.int .u64 0)), (.d (.int .u64 0))] [], none⟩,
     ⟨none, .store (.ag 13) (.t 2) (.t 75), none⟩,
     ⟨(some 3), .mv (.k (.c .nil)), none⟩,
     ⟨(some 4), .mv (.k (.c (.d (.int .i64 3)))), none⟩])
   (.ret))
   (.skip)))
  (.seq (.reg [⟨(some 76), .load (.ag 13) (.t 5), none⟩,
    ⟨(some 77), .mv (.t 0), none⟩,
    ⟨(some 78), .slice 1 (.t 77) (some (.k (.c (.d (.int .i64 48))))) none none, none⟩,
    ⟨(some 79), .bldSl false 1 1 (.sl []) [(0, (.t 78))], none⟩,
    ⟨(some 80), .call 18 [(.t 79)] (some (0, 1)), none⟩,
    ⟨none, .store (.ag 13) (.t 2) (.t 76), none⟩,
    ⟨(some 3), .mv (.t 80), none⟩,
    ⟨(some 4), .mv (.k (.c (.d (.int .i64 0)))), none⟩])
  (.ret)))))),
  [(2, (some (.ag 13))), (3, none), (4, none)]⟩
theorem cf_rdec : compFn Try.prog { own := [80], comp := [], frz := [], nils := [] } Try.f10 = some sf_rdec := by kernel_rfl
set_option maxHeartbeats 6400000 in
theorem rdec_c (G : Glob) (l : List UInt8) (hl : l.length ≤ 9223372036854775807) : Den Try.prog G 10 [.sl (l.map bD)] (.tup [.c (.d (hdD (decH l))), .c (.d (.sl ((decR l).map bD))), .c (.d (.int .i64 (decE l)))]) := by
  refine den_walk Try.func10 cf_rdec rfl rfl ?_
  unfold decH decR
  by_cases h1 : l.length < 48
  · rw [show decE l = 1 from if_pos h1, if_neg (by decide), if_neg (by decide)]
    unfold hdD Hd.z
    simp only [sf_rdec, putAll, wx, wy, wz, stV, seval, IntWalk.iteOmega, IntWalk.toNatUp, reduceCtorEq]
    exact ret_d3 (by simp only [wx, wy, wz, stV, seval, IntWalk.iteOmega, IntWalk.toNatUp, reduceCtorEq]) (by simp only [wx, wy, wz, stV, seval, IntWalk.iteOmega, IntWalk.toNatUp, reduceCtorEq] <;> rfl) (by simp only [wx, wy, wz, stV, seval, IntWalk.iteOmega, IntWalk.toNatUp, reduceCtorEq])
  by_cases h2 : 1280 < l.length
  · rw [show decE l = 2 from (if_neg h1).trans (if_pos h2), if_neg (by decide), if_neg (by decide)]
    unfold hdD Hd.z
    simp only [sf_rdec, putAll, wx, wy, wz, stV, seval, IntWalk.iteOmega, IntWalk.toNatUp, reduceCtorEq]
    exact ret_d3 (by simp only [wx, wy, wz, stV, seval, IntWalk.iteOmega, IntWalk.toNatUp, reduceCtorEq]) (by simp only [wx, wy, wz, stV, seval, IntWalk.iteOmega, IntWalk.toNatUp, reduceCtorEq] <;> rfl) (by simp only [wx, wy, wz, stV, seval, IntWalk.iteOmega, IntWalk.toNatUp, reduceCtorEq])
  have hh : ∀ a n, a + n ≤ 48 → (cutN l a n).length ≤ 9223372036854775807 := fun a n h => by rw [cutN_len (by omega)]; omega
  have c4 := rget_c G (cutN l 4 4) (hh _ _ (by decide))
  have c5 := rget_c G (cutN l 8 4) (hh _ _ (by decide))
  have c6 := rget_c G (cutN l 12 4) (hh _ _ (by decide))
  have c7 := rget_c G (cutN l 16 8) (hh _ _ (by decide))
  have c8 := rget_c G (cutN l 24 8) (hh _ _ (by decide))
  have c9 := rget_c G (cutN l 32 8) (hh _ _ (by decide))
  have cA := rget_c G (cutN l 40 8) (hh _ _ (by decide))
  have s2 := rsgn_c G (l.getD 2 0)
  have s3 := rsgn_c G (l.getD 3 0)
  have cj := rjoin_c G [l.drop 48] (by simp) (by simp; omega)
  simp only [List.map_cons, List.map_nil, List.flatten_cons, List.flatten_nil, List.append_nil] at cj
  have et : (l.drop 48).take (l.length - 48) = l.drop 48 := List.take_of_length_le (by simp)
  have q4 := (getN_lt_pow 4 (cutN l 4 4) (cutN_len (by omega)) (by decide)).1
  have q5 := (getN_lt_pow 4 (cutN l 8 4) (cutN_len (by omega)) (by decide)).1
  have q6 := (getN_lt_pow 4 (cutN l 12 4) (cutN_len (by omega)) (by decide)).1
  have b0 := (l.getD 0 0).toNat_lt
  have b1 := (l.getD 1 0).toNat_lt
  have i2 := sgB8_in (l.getD 2 0)
  have i3 := sgB8_in (l.getD 3 0)
  have he : decE l = if (hdG l).vr = 3 ∨ (hdG l).vr = 4 then 0 else 3 := by
    unfold decE
    rw [if_neg h1, if_neg h2]
  rw [he]
  unfold hdG hdD
  dsimp only
  generalize sgB8 (l.getD 2 0) = S2 at *
  generalize sgB8 (l.getD 3 0) = S3 at *
  obtain ⟨N0, hN0⟩ : ∃ n, (l.getD 0 0).toNat = n := ⟨_, rfl⟩
  obtain ⟨N1, hN1⟩ : ∃ n, (l.getD 1 0).toNat = n := ⟨_, rfl⟩
  obtain ⟨N2, hN2⟩ : ∃ n, (l.getD 2 0).toNat = n := ⟨_, rfl⟩
  obtain ⟨N3, hN3⟩ : ∃ n, (l.getD 3 0).toNat = n := ⟨_, rfl⟩
  have g0 := at_n (l := l) (i := 0) (by omega) hN0
  have g1 := at_n (l := l) (i := 1) (by omega) hN1
  have g2 := at_n (l := l) (i := 2) (by omega) hN2
  have g3 := at_n (l := l) (i := 3) (by omega) hN3
  rw [hN0] at b0 ⊢
  rw [hN1] at b1 ⊢
  rw [hN2] at s2
  rw [hN3] at s3
  generalize hX4 : cutN l 4 4 = X4 at *
  generalize hX5 : cutN l 8 4 = X5 at *
  generalize hX6 : cutN l 12 4 = X6 at *
  generalize hX7 : cutN l 16 8 = X7 at *
  generalize hX8 : cutN l 24 8 = X8 at *
  generalize hX9 : cutN l 32 8 = X9 at *
  generalize hXA : cutN l 40 8 = XA at *
  unfold cutN at hX4 hX5 hX6 hX7 hX8 hX9 hXA
  generalize hR : l.drop 48 = R at *
  generalize getN X4 = N4 at *
  generalize getN X5 = N5 at *
  generalize getN X6 = N6 at *
  generalize getN X7 = N7 at *
  generalize getN X8 = N8 at *
  generalize getN X9 = N9 at *
  generalize getN XA = NA at *
  have a1 := and7b_n (m := N0 / 8) (by omega)
  have a2 := and7b_n b0
  have d1 : (N0 : Int) / 64 = ((N0 / 64 : Nat) : Int) := (Int.natCast_ediv N0 64).symm
  have d2 : (N0 : Int) / 8 = ((N0 / 8 : Nat) : Int) := (Int.natCast_ediv N0 8).symm
  generalize hV : N0 / 8 % 8 = V at *
  by_cases v3 : (V : Int) = 3
  · have hz : (if (V : Int) = 3 ∨ (V : Int) = 4 then (0 : Int) else 3) = 0 := if_pos (Or.inl v3)
    simp only [hz, if_true]
    simp only [sf_rdec, putAll, wx, wy, wz, stV, seval, IntWalk.iteOmega, IntWalk.toNatUp, reduceCtorEq, IntKind.bits, g0, g1, g2, g3, d1, d2, a1, a2]
    refine st_call (s2) rfl (.inl rfl) ?_
    simp only [g3, wx, wy, wz, stV, seval, IntWalk.iteOmega, IntWalk.toNatUp, reduceCtorEq]
    refine st_call (s3) rfl (.inl rfl) ?_
    simp only [hX4, wx, wy, wz, stV, seval, IntWalk.iteOmega, IntWalk.toNatUp, reduceCtorEq]
    refine st_call (c4) rfl (.inl rfl) ?_
    simp only [hX5, wx, wy, wz, stV, seval, IntWalk.iteOmega, IntWalk.toNatUp, reduceCtorEq]
    refine st_call (c5) rfl (.inl rfl) ?_
    simp only [hX6, wx, wy, wz, stV, seval, IntWalk.iteOmega, IntWalk.toNatUp, reduceCtorEq]
    refine st_call (c6) rfl (.inl rfl) ?_
    simp only [hX7, wx, wy, wz, stV, seval, IntWalk.iteOmega, IntWalk.toNatUp, reduceCtorEq]
    refine st_call (c7) rfl (.inl rfl) ?_
    simp only [hX8, wx, wy, wz, stV, seval, IntWalk.iteOmega, IntWalk.toNatUp, reduceCtorEq]
    refine st_call (c8) rfl (.inl rfl) ?_
    simp only [hX9, wx, wy, wz, stV, seval, IntWalk.iteOmega, IntWalk.toNatUp, reduceCtorEq]
    refine st_call (c9) rfl (.inl rfl) ?_
    simp only [hXA, wx, wy, wz, stV, seval, IntWalk.iteOmega, IntWalk.toNatUp, reduceCtorEq]
    refine st_call (cA) rfl (.inl rfl) ?_
    simp only [hR, et, wx, wy, wz, stV, seval, IntWalk.iteOmega, IntWalk.toNatUp, reduceCtorEq]
    refine st_call (cj) rfl (.inl rfl) ?_
    simp only [wx, wy, wz, stV, seval, IntWalk.iteOmega, IntWalk.toNatUp, reduceCtorEq]
    exact ret_d3 (by simp only [wx, wy, wz, stV, seval, IntWalk.iteOmega, IntWalk.toNatUp, reduceCtorEq]) (by simp only [wx, wy, wz, stV, seval, IntWalk.iteOmega, IntWalk.toNatUp, reduceCtorEq]) (by simp only [wx, wy, wz, stV, seval, IntWalk.iteOmega, IntWalk.toNatUp, reduceCtorEq])
  · by_cases v4 : (V : Int) = 4
    · have hz : (if (V : Int) = 3 ∨ (V : Int) = 4 then (0 : Int) else 3) = 0 := if_pos (Or.inr v4)
      simp only [hz, if_true]
      simp only [sf_rdec, putAll, wx, wy, wz, stV, seval, IntWalk.iteOmega, IntWalk.toNatUp, reduceCtorEq, IntKind.bits, g0, g1, g2, g3, d1, d2, a1, a2]
      refine st_call (s2) rfl (.inl rfl) ?_
      simp only [g3, wx, wy, wz, stV, seval, IntWalk.iteOmega, IntWalk.toNatUp, reduceCtorEq]
      refine st_call (s3) rfl (.inl rfl) ?_
      simp only [hX4, wx, wy, wz, stV, seval, IntWalk.iteOmega, IntWalk.toNatUp, reduceCtorEq]
      refine st_call (c4) rfl (.inl rfl) ?_
      simp only [hX5, wx, wy, wz, stV, seval, IntWalk.iteOmega, IntWalk.toNatUp, reduceCtorEq]
      refine st_call (c5) rfl (.inl rfl) ?_
      simp only [hX6, wx, wy, wz, stV, seval, IntWalk.iteOmega, IntWalk.toNatUp, reduceCtorEq]
      refine st_call (c6) rfl (.inl rfl) ?_
      simp only [hX7, wx, wy, wz, stV, seval, IntWalk.iteOmega, IntWalk.toNatUp, reduceCtorEq]
      refine st_call (c7) rfl (.inl rfl) ?_
      simp only [hX8, wx, wy, wz, stV, seval, IntWalk.iteOmega, IntWalk.toNatUp, reduceCtorEq]
      refine st_call (c8) rfl (.inl rfl) ?_
      simp only [hX9, wx, wy, wz, stV, seval, IntWalk.iteOmega, IntWalk.toNatUp, reduceCtorEq]
      refine st_call (c9) rfl (.inl rfl) ?_
      simp only [hXA, wx, wy, wz, stV, seval, IntWalk.iteOmega, IntWalk.toNatUp, reduceCtorEq]
      refine st_call (cA) rfl (.inl rfl) ?_
      simp only [hR, et, wx, wy, wz, stV, seval, IntWalk.iteOmega, IntWalk.toNatUp, reduceCtorEq]
      refine st_call (cj) rfl (.inl rfl) ?_
      simp only [wx, wy, wz, stV, seval, IntWalk.iteOmega, IntWalk.toNatUp, reduceCtorEq]
      exact ret_d3 (by simp only [wx, wy, wz, stV, seval, IntWalk.iteOmega, IntWalk.toNatUp, reduceCtorEq]) (by simp only [wx, wy, wz, stV, seval, IntWalk.iteOmega, IntWalk.toNatUp, reduceCtorEq]) (by simp only [wx, wy, wz, stV, seval, IntWalk.iteOmega, IntWalk.toNatUp, reduceCtorEq])
    · have hz : (if (V : Int) = 3 ∨ (V : Int) = 4 then (0 : Int) else 3) = 3 := if_neg (fun h => h.elim v3 v4)
      simp only [hz, show ((3 : Int) = 0) = False from by decide, if_false]
      unfold Hd.z
      simp only [sf_rdec, putAll, wx, wy, wz, stV, seval, IntWalk.iteOmega, IntWalk.toNatUp, reduceCtorEq, IntKind.bits, g0, g1, g2, g3, d1, d2, a1, a2]
      refine st_call (s2) rfl (.inl rfl) ?_
      simp only [g3, wx, wy, wz, stV, seval, IntWalk.iteOmega, IntWalk.toNatUp, reduceCtorEq]
      refine st_call (s3) rfl (.inl rfl) ?_
      simp only [hX4, wx, wy, wz, stV, seval, IntWalk.iteOmega, IntWalk.toNatUp, reduceCtorEq]
      refine st_call (c4) rfl (.inl rfl) ?_
      simp only [hX5, wx, wy, wz, stV, seval, IntWalk.iteOmega, IntWalk.toNatUp, reduceCtorEq]
      refine st_call (c5) rfl (.inl rfl) ?_
      simp only [hX6, wx, wy, wz, stV, seval, IntWalk.iteOmega, IntWalk.toNatUp, reduceCtorEq]
      refine st_call (c6) rfl (.inl rfl) ?_
      simp only [hX7, wx, wy, wz, stV, seval, IntWalk.iteOmega, IntWalk.toNatUp, reduceCtorEq]
      refine st_call (c7) rfl (.inl rfl) ?_
      simp only [hX8, wx, wy, wz, stV, seval, IntWalk.iteOmega, IntWalk.toNatUp, reduceCtorEq]
      refine st_call (c8) rfl (.inl rfl) ?_
      simp only [hX9, wx, wy, wz, stV, seval, IntWalk.iteOmega, IntWalk.toNatUp, reduceCtorEq]
      refine st_call (c9) rfl (.inl rfl) ?_
      simp only [hXA, wx, wy, wz, stV, seval, IntWalk.iteOmega, IntWalk.toNatUp, reduceCtorEq]
      refine st_call (cA) rfl (.inl rfl) ?_
      simp only [hR, et, wx, wy, wz, stV, seval, IntWalk.iteOmega, IntWalk.toNatUp, reduceCtorEq]
      exact ret_d3 (by simp only [wx, wy, wz, stV, seval, IntWalk.iteOmega, IntWalk.toNatUp, reduceCtorEq]) (by simp only [wx, wy, wz, stV, seval, IntWalk.iteOmega, IntWalk.toNatUp, reduceCtorEq] <;> rfl) (by simp only [wx, wy, wz, stV, seval, IntWalk.iteOmega, IntWalk.toNatUp, reduceCtorEq])
theorem wrap_b (z : Int) : D.int .u8 (IntKind.u8.wrap z) = bD (byZ z) := by
  unfold bD
  rw [byZ_nat, IntKind.wrap_u8]
def sf_renc : SFn := ⟨1, 57,
  .seq (.reg [⟨(some 1), .box .roBox (.t 0), none⟩,
    ⟨(some 2), .mv (.k (.c .nil)), none⟩,
    ⟨(some 3), .mv (.k (.c (.d (.int .i64 0)))), none⟩])
  (.seq (.seq (.reg [⟨(some 5), .load (.ag 13) (.t 1), none⟩,
    ⟨(some 6), .call 14 [(.t 5)] none, none⟩,
    ⟨(some 4), .mv (.t 6), none⟩])
  (.seq (.reg [⟨(some 7), .mv (.t 4), none⟩,
    ⟨(some 8), .bin .neq (.t 7) (.k (.c (.d (.int .i64 0)))), none⟩])
  (.cond (.t 8) (.seq (.reg [⟨(some 9), .mv (.t 4), none⟩,
     ⟨(some 2), .mv (.k (.c .nil)), none⟩,
     ⟨(some 3), .mv (.t 9), none⟩])
   (.ret))
   (.skip))))
  (.seq (.reg [⟨(some 10), .fieldAddr 0 (.t 1), none⟩,
    ⟨(some 11), .load .sc (.t 10), none⟩,
    ⟨(some 12), .bin .shl (.t 11) (.k (.c (.d (.int .u64 6)))), none⟩,
    ⟨(some 13), .fieldAddr 1 (.t 1), none⟩,
    ⟨(some 14), .load .sc (.t 13), none⟩,
    ⟨(some 15), .bin .shl (.t 14) (.k (.c (.d (.int .u64 3)))), none⟩,
    ⟨(some 16), .bin .or (.t 12) (.t 15), none⟩,
    ⟨(some 17), .fieldAddr 2 (.t 1), none⟩,
    ⟨(some 18), .load .sc (.t 17), none⟩,
    ⟨(some 19), .bin .or (.t 16) (.t 18), none⟩,
    ⟨(some 20), .conv .u8 (.t 19), none⟩,
    ⟨(some 21), .fieldAddr 3 (.t 1), none⟩,
    ⟨(some 22), .load .sc (.t 21), none⟩,
    ⟨(some 23), .conv .u8 (.t 22), none⟩,
    ⟨(some 24), .fieldAddr 4 (.t 1), none⟩,
    ⟨(some 25), .load .sc (.t 24), none⟩,
    ⟨(some 26), .conv .u8 (.t 25), none⟩,
    ⟨(some 27), .fieldAddr 5 (.t 1), none⟩,
    ⟨(some 28), .load .sc (.t 27), none⟩,
    ⟨(some 29), .conv .u8 (.t 28), none⟩,
    ⟨(some 30), .bldSl false 4 1 (.int .u8 0) [(0, (.t 20)), (1, (.t 23)), (2, (.t 26)), (3, (.t 29))], none⟩,
    ⟨(some 31), .fieldAddr 6 (.t 1), none⟩,
    ⟨(some 32), .load .sc (.t 31), none⟩,
    ⟨(some 33), .conv .u64 (.t 32), none⟩,
    ⟨(some 34), .call 22 [(.t 33), (.k (.c (.d (.int .i64 4))))] none, none⟩,
    ⟨(some 35), .fieldAddr 7 (.t 1), none⟩,
    ⟨(some 36), .load .sc (.t 35), none⟩,
    ⟨(some 37), .conv .u64 (.t 36), none⟩,
    ⟨(some 38), .call 22 [(.t 37), (.k (.c (.d (.int .i64 4))))] none, none⟩,
    ⟨(some 39), .fieldAddr 8 (.t 1), none⟩,
    ⟨(some 40), .load .sc (.t 39), none⟩,
    ⟨(some 41), .conv .u64 (.t 40), none⟩,
    ⟨(some 42), .call 22 [(.t 41), (.k (.c (.d (.int .i64 4))))] none, none⟩,
    ⟨(some 43), .fieldAddr 9 (.t 1), none⟩,
    ⟨(some 44), .load .sc (.t 43), none⟩,
    ⟨(some 45), .call 22 [(.t 44), (.k (.c (.d (.int .i64 8))))] none, none⟩,
    ⟨(some 46), .fieldAddr 10 (.t 1), none⟩,
    ⟨(some 47), .load .sc (.t 46), none⟩,
    ⟨(some 48), .call 22 [(.t 47), (.k (.c (.d (.int .i64 8))))] none, none⟩,
    ⟨(some 49), .fieldAddr 11 (.t 1), none⟩,
    ⟨(some 50), .load .sc (.t 49), none⟩,
    ⟨(some 51), .call 22 [(.t 50), (.k (.c (.d (.int .i64 8))))] none, none⟩,
    ⟨(some 52), .fieldAddr 12 (.t 1), none⟩,
    ⟨(some 53), .load .sc (.t 52), none⟩,
    ⟨(some 54), .call 22 [(.t 53), (.k (.c (.d (.int .i64 8))))] none, none⟩,
    ⟨(some 55), .bldSl false 8 1 (.sl []) [(0, (.t 30)), (1, (.t 34)), (2, (.t 38)), (3, (.t 42)), (4, (.t 45)), (5, (.t 48)), (6, (.t 51)), (7, (.t 54))], none⟩,
    ⟨(some 56), .call 18 [(.t 55)] (some (0, 1)), none⟩,
    ⟨(some 2), .mv (.t 56), none⟩,
    ⟨(some 3), .mv (.k (.c (.d (.int .i64 0)))), none⟩])
  (.ret))),
  [(2, none), (3, none)]⟩
theorem cf_renc : compFn Try.prog { own := [56], comp := [], frz := [], nils := [] } Try.f8 = some sf_renc := by kernel_rfl
set_option maxHeartbeats 3200000 in
theorem renc_c (G : Glob) (h : Hd) (hf : hdF h) : Den Try.prog G 8 [hdD h] (.tup [.c (.d (.sl ((encB h).map bD))), .c (.d (.int .i64 (hdE h)))]) := by
  refine den_walk Try.func8 cf_renc rfl rfl ?_
  have c1 := rpvl_c G h
  unfold encB hdE at *
  by_cases hv : hdOk h = true
  · have hr : hdR h := of_decide_eq_true hv
    rw [if_pos hv] at c1 ⊢
    rw [if_pos hv]
    obtain ⟨o1, o2, o3, o4, o5, o6, o7, o8, o9, o10, o11⟩ := hr
    obtain ⟨f1, f2, f3, f4, f5, f6, f7⟩ := hf
    have p5 := rputk_c G h.rd 4 (by decide)
    have p6 := rputk_c G h.rp 4 (by decide)
    have p7 := rputk_c G h.ri 4 (by decide)
    have p8 := rputk_c G h.rf 8 (by decide)
    have p9 := rputk_c G h.og 8 (by decide)
    have pA := rputk_c G h.rc 8 (by decide)
    have pB := rputk_c G h.tr 8 (by decide)
    rw [show (4 : Int).toNat = 4 from rfl] at p5 p6 p7
    rw [show (8 : Int).toNat = 8 from rfl] at p8 p9 pA pB
    have cj := rjoin_c G [[byZ (h.lp * 64 + h.vr * 8 + h.md), byZ h.st, byZ h.pl, byZ h.pr], putL h.rd 4, putL h.rp 4, putL h.ri 4, putL h.rf 8, putL h.og 8, putL h.rc 8, putL h.tr 8] (by simp) (by simp [putL_length])
    have ef : ([[byZ (h.lp * 64 + h.vr * 8 + h.md), byZ h.st, byZ h.pl, byZ h.pr], putL h.rd 4, putL h.rp 4, putL h.ri 4, putL h.rf 8, putL h.og 8, putL h.rc 8, putL h.tr 8] : List (List UInt8)).flatten = hdB h := by
      unfold hdB hdT
      simp only [List.flatten_cons, List.flatten_nil, List.append_nil]
    rw [ef] at cj
    have ho := or_hdI o1 o2 (v := h.vr) (by omega) (by omega) o4 o5
    unfold hdD at *
    have w1 := wrap_b (h.lp * 64 + h.vr * 8 + h.md)
    have w2 := wrap_b h.st
    have w3 := wrap_b h.pl
    have w4 := wrap_b h.pr
    generalize hdB h = B at *
    generalize putL h.rd 4 = B5 at *
    generalize putL h.rp 4 = B6 at *
    generalize putL h.ri 4 = B7 at *
    generalize putL h.rf 8 = B8 at *
    generalize putL h.og 8 = B9 at *
    generalize putL h.rc 8 = BA at *
    generalize putL h.tr 8 = BB at *
    simp only [List.map_cons, List.map_nil] at cj
    rw [← w1, ← w2, ← w3, ← w4, IntWalk.u8_in (h.lp * 64 + h.vr * 8 + h.md) (by omega), IntWalk.u8_in h.st (by omega), wr_u8 h.pl, wr_u8 h.pr] at cj
    generalize hF : h.lp * 64 + h.vr * 8 + h.md = F at *
    simp only [sf_renc, putAll, wx, wy, wz, stV, seval, IntWalk.iteOmega, IntWalk.toNatUp, reduceCtorEq]
    refine st_call (c1) rfl (.inl rfl) ?_
    simp only [ho, IntKind.bits, wx, wy, wz, stV, seval, IntWalk.iteOmega, IntWalk.toNatUp, reduceCtorEq]
    refine st_call (p5) rfl (.inl rfl) ?_
    simp only [wx, wy, wz, stV, seval, IntWalk.iteOmega, IntWalk.toNatUp, reduceCtorEq]
    refine st_call (p6) rfl (.inl rfl) ?_
    simp only [wx, wy, wz, stV, seval, IntWalk.iteOmega, IntWalk.toNatUp, reduceCtorEq]
    refine st_call (p7) rfl (.inl rfl) ?_
    simp only [wx, wy, wz, stV, seval, IntWalk.iteOmega, IntWalk.toNatUp, reduceCtorEq]
    refine st_call (p8) rfl (.inl rfl) ?_
    simp only [wx, wy, wz, stV, seval, IntWalk.iteOmega, IntWalk.toNatUp, reduceCtorEq]
    refine st_call (p9) rfl (.inl rfl) ?_
    simp only [wx, wy, wz, stV, seval, IntWalk.iteOmega, IntWalk.toNatUp, reduceCtorEq]
    refine st_call (pA) rfl (.inl rfl) ?_
    simp only [wx, wy, wz, stV, seval, IntWalk.iteOmega, IntWalk.toNatUp, reduceCtorEq]
    refine st_call (pB) rfl (.inl rfl) ?_
    simp only [wx, wy, wz, stV, seval, IntWalk.iteOmega, IntWalk.toNatUp, reduceCtorEq]
    refine st_call (cj) rfl (.inl rfl) ?_
    simp only [wx, wy, wz, stV, seval, IntWalk.iteOmega, IntWalk.toNatUp, reduceCtorEq]
    exact ret_d2 (by simp only [wx, wy, wz, stV, seval, IntWalk.iteOmega, IntWalk.toNatUp, reduceCtorEq]) (by simp only [wx, wy, wz, stV, seval, IntWalk.iteOmega, IntWalk.toNatUp, reduceCtorEq])
  · have hv : hdOk h = false := by simpa using hv
    rw [hv] at c1 ⊢
    rw [if_neg (by decide : ¬ false = true)] at c1
    rw [if_neg (by decide : ¬ false = true), if_neg (by decide : ¬ false = true)]
    unfold hdD at *
    simp only [sf_renc, putAll, wx, wy, wz, stV, seval, IntWalk.iteOmega, IntWalk.toNatUp, reduceCtorEq]
    refine st_call (c1) rfl (.inl rfl) ?_
    simp only [wx, wy, wz, stV, seval, IntWalk.iteOmega, IntWalk.toNatUp, reduceCtorEq]
    exact ret_d2 (by simp only [wx, wy, wz, stV, seval, IntWalk.iteOmega, IntWalk.toNatUp, reduceCtorEq] <;> rfl) (by simp only [wx, wy, wz, stV, seval, IntWalk.iteOmega, IntWalk.toNatUp, reduceCtorEq])
end Go.Proofs.Ytjjjpbnkbedfbaa
