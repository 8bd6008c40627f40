/- Layer 16 on data: the program: headers. Own work. -/
import Derived.Test.YtjjjpbnkbedfbaaProg
import Derived.Test.YtjjjpbnkbedfbaaAlW
import Derived.Test.YtjjjpbnkbedfbaaAlZ
import Derived.Test.YtjjjpbnkbedfbaaAm0
import Derived.Test.YtjjjpbnkbedfbaaPo1
import Derived.Test.YtjjjpbnkbedfbaaPp0
set_option linter.unusedVariables false
set_option linter.unusedSimpArgs false
namespace Go.Proofs.Ytjjjpbnkbedfbaa
open Go.RowKit

/-! ### Headers as data; what the functions return -/
def hdD (h : Hd) : D := .agg [.int .i64 h.lp, .int .i64 h.vr, .int .i64 h.md, .int .i64 h.st, .int .i64 h.pl, .int .i64 h.pr, .int .u32 (h.rd : Int), .int .u32 (h.rp : Int), .int .u32 (h.ri : Int), .int .u64 (h.rf : Int), .int .u64 (h.og : Int), .int .u64 (h.rc : Int), .int .u64 (h.tr : Int)]
def hdE (h : Hd) : Int := if hdOk h then 0 else 4
def encB (h : Hd) : List UInt8 := if hdOk h then hdB h else []
def decE (l : List UInt8) : Int := if l.length < 48 then 1 else if 1280 < l.length then 2 else if (hdG l).vr = 3 ∨ (hdG l).vr = 4 then 0 else 3
def decH (l : List UInt8) : Hd := if decE l = 0 then hdG l else Hd.z
def decR (l : List UInt8) : List UInt8 := if decE l = 0 then l.drop 48 else []
def askH (t : Nat) : Hd := ⟨0, 4, 3, 0, 6, 0, 0, 0, 0, 0, 0, 0, t⟩
def repE (q : Hd) (st : Int) : Int := if hdOk q then (if q.md = 3 then (if 0 ≤ st ∧ st ≤ 255 then 0 else 4) else 3) else 4
def repH (q : Hd) (st : Int) (rc tr : Nat) : Hd := if repE q st = 0 then ⟨0, q.vr, 4, st, q.pl, -20, 0, 0, 0, 0, q.tr, rc, tr⟩ else Hd.z
theorem hdOk_is (h : Hd) : hdOk h = (decide (0 ≤ h.lp ∧ h.lp ≤ 3) && (decide (3 ≤ h.vr ∧ h.vr ≤ 4) && (decide (0 ≤ h.md ∧ h.md ≤ 7) && (decide (0 ≤ h.st ∧ h.st ≤ 255) && (decide (-128 ≤ h.pl ∧ h.pl ≤ 127) && decide (-128 ≤ h.pr ∧ h.pr ≤ 127)))))) := by
  unfold hdOk hdR
  by_cases k : 0 ≤ h.lp ∧ h.lp ≤ 3 ∧ (h.vr = 3 ∨ h.vr = 4) ∧ 0 ≤ h.md ∧ h.md ≤ 7 ∧ 0 ≤ h.st ∧ h.st ≤ 255 ∧ -128 ≤ h.pl ∧ h.pl ≤ 127 ∧ -128 ≤ h.pr ∧ h.pr ≤ 127
  · rw [decide_eq_true k]
    simp only [show (0 ≤ h.lp ∧ h.lp ≤ 3) from by omega, show (3 ≤ h.vr ∧ h.vr ≤ 4) from by omega, show (0 ≤ h.md ∧ h.md ≤ 7) from by omega, show (0 ≤ h.st ∧ h.st ≤ 255) from by omega, show (-128 ≤ h.pl ∧ h.pl ≤ 127) from by omega, show (-128 ≤ h.pr ∧ h.pr ≤ 127) from by omega]
    decide
  · rw [decide_eq_false k]
    symm
    rw [← Bool.not_eq_true]
    intro e
    simp only [Bool.and_eq_true, decide_eq_true_eq] at e
    exact k (by omega)

/-! ### Ranges -/
def sf_pfrm : SFn := ⟨3, 15,
  .seq (.reg [⟨(some 6), .mv (.k (.c (.d (.bool false)))), none⟩])
  (.seq (.reg [⟨(some 7), .mv (.t 0), none⟩,
    ⟨(some 8), .mv (.t 1), none⟩,
    ⟨(some 9), .bin .leq (.t 7) (.t 8), none⟩,
    ⟨(some 10), .mv (.t 9), none⟩,
    ⟨(some 11), .mv (.t 1), (some (10, true))⟩,
    ⟨(some 12), .mv (.t 2), (some (10, true))⟩,
    ⟨(some 13), .bin .leq (.t 11) (.t 12), (some (10, true))⟩,
    ⟨(some 14), .pick (.t 10) (.t 13) (.k (.c (.d (.bool false)))), none⟩,
    ⟨(some 6), .mv (.t 14), none⟩])
  (.ret)),
  [(6, none)]⟩
theorem cf_pfrm : compFn Try.prog { own := [], comp := [], frz := [], nils := [] } Try.f27 = some sf_pfrm := by kernel_rfl
theorem pfrm_c (G : Glob) (a n b : Int) : Den Try.prog G 27 [.int .i64 a, .int .i64 n, .int .i64 b] (.w (.c (.d (.bool (decide (a ≤ n ∧ n ≤ b)))))) := by
  refine den_walk Try.func27 cf_pfrm rfl rfl ?_
  by_cases h1 : a ≤ n
  · by_cases h2 : n ≤ b
    · rw [decide_eq_true ⟨h1, h2⟩]
      simp only [sf_pfrm, putAll, wx, wy, wz, stV, seval, IntWalk.iteOmega, IntWalk.toNatUp, reduceCtorEq]
      exact ret_d1 (by simp only [wx, wy, wz, stV, seval, IntWalk.iteOmega, IntWalk.toNatUp, reduceCtorEq])
    · rw [decide_eq_false (fun h => h2 h.2)]
      simp only [sf_pfrm, putAll, wx, wy, wz, stV, seval, IntWalk.iteOmega, IntWalk.toNatUp, reduceCtorEq]
      exact ret_d1 (by simp only [wx, wy, wz, stV, seval, IntWalk.iteOmega, IntWalk.toNatUp, reduceCtorEq])
  · rw [decide_eq_false (fun h => h1 h.1)]
    simp only [sf_pfrm, putAll, wx, wy, wz, stV, seval, IntWalk.iteOmega, IntWalk.toNatUp, reduceCtorEq]
    exact ret_d1 (by simp only [wx, wy, wz, stV, seval, IntWalk.iteOmega, IntWalk.toNatUp, reduceCtorEq])
def sf_pkno : SFn := ⟨1, 5,
  .seq (.reg [⟨(some 2), .mv (.k (.c (.d (.bool false)))), none⟩])
  (.seq (.reg [⟨(some 3), .mv (.t 0), none⟩,
    ⟨(some 4), .call 27 [(.k (.c (.d (.int .i64 3)))), (.t 3), (.k (.c (.d (.int .i64 4))))] none, none⟩,
    ⟨(some 2), .mv (.t 4), none⟩])
  (.ret)),
  [(2, none)]⟩
theorem cf_pkno : compFn Try.prog { own := [], comp := [], frz := [], nils := [] } Try.f24 = some sf_pkno := by kernel_rfl
theorem pkno_c (G : Glob) (n : Int) : Den Try.prog G 24 [.int .i64 n] (.w (.c (.d (.bool (decide (3 ≤ n ∧ n ≤ 4)))))) := by
  refine den_walk Try.func24 cf_pkno rfl rfl ?_
  have c := pfrm_c G (3) n 4
  generalize decide (3 ≤ n ∧ n ≤ 4) = b at *
  simp only [sf_pkno, putAll, wx, wy, wz, stV, seval, IntWalk.iteOmega, IntWalk.toNatUp, reduceCtorEq]
  refine st_call (c) rfl (.inl rfl) ?_
  simp only [wx, wy, wz, stV, seval, IntWalk.iteOmega, IntWalk.toNatUp, reduceCtorEq]
  exact ret_d1 (by simp only [wx, wy, wz, stV, seval, IntWalk.iteOmega, IntWalk.toNatUp, reduceCtorEq])
def sf_psgn : SFn := ⟨1, 5,
  .seq (.reg [⟨(some 2), .mv (.k (.c (.d (.bool false)))), none⟩])
  (.seq (.reg [⟨(some 3), .mv (.t 0), none⟩,
    ⟨(some 4), .call 27 [(.k (.c (.d (.int .i64 (-128))))), (.t 3), (.k (.c (.d (.int .i64 127))))] none, none⟩,
    ⟨(some 2), .mv (.t 4), none⟩])
  (.ret)),
  [(2, none)]⟩
theorem cf_psgn : compFn Try.prog { own := [], comp := [], frz := [], nils := [] } Try.f28 = some sf_psgn := by kernel_rfl
theorem psgn_c (G : Glob) (n : Int) : Den Try.prog G 28 [.int .i64 n] (.w (.c (.d (.bool (decide (-128 ≤ n ∧ n ≤ 127)))))) := by
  refine den_walk Try.func28 cf_psgn rfl rfl ?_
  have c := pfrm_c G (-128) n 127
  generalize decide (-128 ≤ n ∧ n ≤ 127) = b at *
  simp only [sf_psgn, putAll, wx, wy, wz, stV, seval, IntWalk.iteOmega, IntWalk.toNatUp, reduceCtorEq]
  refine st_call (c) rfl (.inl rfl) ?_
  simp only [wx, wy, wz, stV, seval, IntWalk.iteOmega, IntWalk.toNatUp, reduceCtorEq]
  exact ret_d1 (by simp only [wx, wy, wz, stV, seval, IntWalk.iteOmega, IntWalk.toNatUp, reduceCtorEq])
def sf_pval : SFn := ⟨1, 35,
  .seq (.reg [⟨(some 1), .box .roBox (.t 0), none⟩,
    ⟨(some 2), .mv (.k (.c (.d (.int .i64 0)))), none⟩])
  (.seq (.seq (.reg [⟨(some 3), .fieldAddr 0 (.t 1), none⟩,
    ⟨(some 4), .load .sc (.t 3), none⟩,
    ⟨(some 5), .call 27 [(.k (.c (.d (.int .i64 0)))), (.t 4), (.k (.c (.d (.int .i64 3))))] none, none⟩,
    ⟨(some 6), .un .not (.t 5), none⟩,
    ⟨(some 7), .mv (.t 6), none⟩,
    ⟨(some 8), .fieldAddr 1 (.t 1), (some (7, false))⟩,
    ⟨(some 9), .load .sc (.t 8), (some (7, false))⟩,
    ⟨(some 10), .call 24 [(.t 9)] none, (some (7, false))⟩,
    ⟨(some 11), .un .not (.t 10), (some (7, false))⟩,
    ⟨(some 12), .pick (.t 7) (.k (.c (.d (.bool true)))) (.t 11), none⟩,
    ⟨(some 13), .mv (.t 12), none⟩,
    ⟨(some 14), .fieldAddr 2 (.t 1), (some (13, false))⟩,
    ⟨(some 15), .load .sc (.t 14), (some (13, false))⟩,
    ⟨(some 16), .call 27 [(.k (.c (.d (.int .i64 0)))), (.t 15), (.k (.c (.d (.int .i64 7))))] none, (some (13, false))⟩,
    ⟨(some 17), .un .not (.t 16), (some (13, false))⟩,
    ⟨(some 18), .pick (.t 13) (.k (.c (.d (.bool true)))) (.t 17), none⟩])
  (.cond (.t 18) (.seq (.reg [⟨(some 2), .mv (.k (.c (.d (.int .i64 4)))), none⟩])
   (.ret))
   (.skip)))
  (.seq (.seq (.reg [⟨(some 19), .fieldAddr 3 (.t 1), none⟩,
    ⟨(some 20), .load .sc (.t 19), none⟩,
    ⟨(some 21), .call 27 [(.k (.c (.d (.int .i64 0)))), (.t 20), (.k (.c (.d (.int .i64 255))))] none, none⟩,
    ⟨(some 22), .un .not (.t 21), none⟩,
    ⟨(some 23), .mv (.t 22), none⟩,
    ⟨(some 24), .fieldAddr 4 (.t 1), (some (23, false))⟩,
    ⟨(some 25), .load .sc (.t 24), (some (23, false))⟩,
    ⟨(some 26), .call 28 [(.t 25)] none, (some (23, false))⟩,
    ⟨(some 27), .un .not (.t 26), (some (23, false))⟩,
    ⟨(some 28), .pick (.t 23) (.k (.c (.d (.bool true)))) (.t 27), none⟩,
    ⟨(some 29), .mv (.t 28), none⟩,
    ⟨(some 30), .fieldAddr 5 (.t 1), (some (29, false))⟩,
    ⟨(some 31), .load .sc (.t 30), (some (29, false))⟩,
    ⟨(some 32), .call 28 [(.t 31)] none, (some (29, false))⟩,
    ⟨(some 33), .un .not (.t 32), (some (29, false))⟩,
    ⟨(some 34), .pick (.t 29) (.k (.c (.d (.bool true)))) (.t 33), none⟩])
  (.cond (.t 34) (.seq (.reg [⟨(some 2), .mv (.k (.c (.d (.int .i64 4)))), none⟩])
   (.ret))
   (.skip)))
  (.seq (.reg [⟨(some 2), .mv (.k (.c (.d (.int .i64 0)))), none⟩])
  (.ret)))),
  [(2, none)]⟩
theorem cf_pval : compFn Try.prog { own := [], comp := [], frz := [], nils := [] } Try.f13 = some sf_pval := by kernel_rfl
set_option maxHeartbeats 1600000 in
theorem pval_c (G : Glob) (h : Hd) : Den Try.prog G 13 [hdD h] (.w (.c (.d (.int .i64 (hdE h))))) := by
  refine den_walk Try.func13 cf_pval rfl rfl ?_
  have c1 := pfrm_c G 0 h.lp 3
  have c2 := pkno_c G h.vr
  have c3 := pfrm_c G 0 h.md 7
  have c4 := pfrm_c G 0 h.st 255
  have c5 := psgn_c G h.pl
  have c6 := psgn_c G h.pr
  have he : hdE h = if hdOk h = true then 0 else 4 := rfl
  rw [hdOk_is] at he
  unfold hdD
  generalize decide (0 ≤ h.lp ∧ h.lp ≤ 3) = b1 at *
  generalize decide (3 ≤ h.vr ∧ h.vr ≤ 4) = b2 at *
  generalize decide (0 ≤ h.md ∧ h.md ≤ 7) = b3 at *
  generalize decide (0 ≤ h.st ∧ h.st ≤ 255) = b4 at *
  generalize decide (-128 ≤ h.pl ∧ h.pl ≤ 127) = b5 at *
  generalize decide (-128 ≤ h.pr ∧ h.pr ≤ 127) = b6 at *
  cases b1
  · rw [he]
    simp only [sf_pval, putAll, wx, wy, wz, stV, seval, IntWalk.iteOmega, IntWalk.toNatUp, reduceCtorEq]
    refine st_call (c1) rfl (.inl rfl) ?_
    simp only [wx, wy, wz, stV, seval, IntWalk.iteOmega, IntWalk.toNatUp, reduceCtorEq]
    exact ret_d1 (by simp only [wx, wy, wz, stV, seval, IntWalk.iteOmega, IntWalk.toNatUp, reduceCtorEq])
  cases b2
  · rw [he]
    simp only [sf_pval, putAll, wx, wy, wz, stV, seval, IntWalk.iteOmega, IntWalk.toNatUp, reduceCtorEq]
    refine st_call (c1) rfl (.inl rfl) ?_
    simp only [wx, wy, wz, stV, seval, IntWalk.iteOmega, IntWalk.toNatUp, reduceCtorEq]
    refine st_call (c2) rfl (.inl rfl) ?_
    simp only [wx, wy, wz, stV, seval, IntWalk.iteOmega, IntWalk.toNatUp, reduceCtorEq]
    exact ret_d1 (by simp only [wx, wy, wz, stV, seval, IntWalk.iteOmega, IntWalk.toNatUp, reduceCtorEq])
  cases b3
  · rw [he]
    simp only [sf_pval, putAll, wx, wy, wz, stV, seval, IntWalk.iteOmega, IntWalk.toNatUp, reduceCtorEq]
    refine st_call (c1) rfl (.inl rfl) ?_
    simp only [wx, wy, wz, stV, seval, IntWalk.iteOmega, IntWalk.toNatUp, reduceCtorEq]
    refine st_call (c2) rfl (.inl rfl) ?_
    simp only [wx, wy, wz, stV, seval, IntWalk.iteOmega, IntWalk.toNatUp, reduceCtorEq]
    refine st_call (c3) rfl (.inl rfl) ?_
    simp only [wx, wy, wz, stV, seval, IntWalk.iteOmega, IntWalk.toNatUp, reduceCtorEq]
    exact ret_d1 (by simp only [wx, wy, wz, stV, seval, IntWalk.iteOmega, IntWalk.toNatUp, reduceCtorEq])
  cases b4
  · rw [he]
    simp only [sf_pval, putAll, wx, wy, wz, stV, seval, IntWalk.iteOmega, IntWalk.toNatUp, reduceCtorEq]
    refine st_call (c1) rfl (.inl rfl) ?_
    simp only [wx, wy, wz, stV, seval, IntWalk.iteOmega, IntWalk.toNatUp, reduceCtorEq]
    refine st_call (c2) rfl (.inl rfl) ?_
    simp only [wx, wy, wz, stV, seval, IntWalk.iteOmega, IntWalk.toNatUp, reduceCtorEq]
    refine st_call (c3) rfl (.inl rfl) ?_
    simp only [wx, wy, wz, stV, seval, IntWalk.iteOmega, IntWalk.toNatUp, reduceCtorEq]
    refine st_call (c4) rfl (.inl rfl) ?_
    simp only [wx, wy, wz, stV, seval, IntWalk.iteOmega, IntWalk.toNatUp, reduceCtorEq]
    exact ret_d1 (by simp only [wx, wy, wz, stV, seval, IntWalk.iteOmega, IntWalk.toNatUp, reduceCtorEq])
  cases b5
  · rw [he]
    simp only [sf_pval, putAll, wx, wy, wz, stV, seval, IntWalk.iteOmega, IntWalk.toNatUp, reduceCtorEq]
    refine st_call (c1) rfl (.inl rfl) ?_
    simp only [wx, wy, wz, stV, seval, IntWalk.iteOmega, IntWalk.toNatUp, reduceCtorEq]
    refine st_call (c2) rfl (.inl rfl) ?_
    simp only [wx, wy, wz, stV, seval, IntWalk.iteOmega, IntWalk.toNatUp, reduceCtorEq]
    refine st_call (c3) rfl (.inl rfl) ?_
    simp only [wx, wy, wz, stV, seval, IntWalk.iteOmega, IntWalk.toNatUp, reduceCtorEq]
    refine st_call (c4) rfl (.inl rfl) ?_
    simp only [wx, wy, wz, stV, seval, IntWalk.iteOmega, IntWalk.toNatUp, reduceCtorEq]
    refine st_call (c5) rfl (.inl rfl) ?_
    simp only [wx, wy, wz, stV, seval, IntWalk.iteOmega, IntWalk.toNatUp, reduceCtorEq]
    exact ret_d1 (by simp only [wx, wy, wz, stV, seval, IntWalk.iteOmega, IntWalk.toNatUp, reduceCtorEq])
  cases b6
  · rw [he]
    simp only [sf_pval, putAll, wx, wy, wz, stV, seval, IntWalk.iteOmega, IntWalk.toNatUp, reduceCtorEq]
    refine st_call (c1) rfl (.inl rfl) ?_
    simp only [wx, wy, wz, stV, seval, IntWalk.iteOmega, IntWalk.toNatUp, reduceCtorEq]
    refine st_call (c2) rfl (.inl rfl) ?_
    simp only [wx, wy, wz, stV, seval, IntWalk.iteOmega, IntWalk.toNatUp, reduceCtorEq]
    refine st_call (c3) rfl (.inl rfl) ?_
    simp only [wx, wy, wz, stV, seval, IntWalk.iteOmega, IntWalk.toNatUp, reduceCtorEq]
    refine st_call (c4) rfl (.inl rfl) ?_
    simp only [wx, wy, wz, stV, seval, IntWalk.iteOmega, IntWalk.toNatUp, reduceCtorEq]
    refine st_call (c5) rfl (.inl rfl) ?_
    simp only [wx, wy, wz, stV, seval, IntWalk.iteOmega, IntWalk.toNatUp, reduceCtorEq]
    refine st_call (c6) rfl (.inl rfl) ?_
    simp only [wx, wy, wz, stV, seval, IntWalk.iteOmega, IntWalk.toNatUp, reduceCtorEq]
    exact ret_d1 (by simp only [wx, wy, wz, stV, seval, IntWalk.iteOmega, IntWalk.toNatUp, reduceCtorEq])
  · rw [he]
    simp only [sf_pval, putAll, wx, wy, wz, stV, seval, IntWalk.iteOmega, IntWalk.toNatUp, reduceCtorEq]
    refine st_call (c1) rfl (.inl rfl) ?_
    simp only [wx, wy, wz, stV, seval, IntWalk.iteOmega, IntWalk.toNatUp, reduceCtorEq]
    refine st_call (c2) rfl (.inl rfl) ?_
    simp only [wx, wy, wz, stV, seval, IntWalk.iteOmega, IntWalk.toNatUp, reduceCtorEq]
    refine st_call (c3) rfl (.inl rfl) ?_
    simp only [wx, wy, wz, stV, seval, IntWalk.iteOmega, IntWalk.toNatUp, reduceCtorEq]
    refine st_call (c4) rfl (.inl rfl) ?_
    simp only [wx, wy, wz, stV, seval, IntWalk.iteOmega, IntWalk.toNatUp, reduceCtorEq]
    refine st_call (c5) rfl (.inl rfl) ?_
    simp only [wx, wy, wz, stV, seval, IntWalk.iteOmega, IntWalk.toNatUp, reduceCtorEq]
    refine st_call (c6) rfl (.inl rfl) ?_
    simp only [wx, wy, wz, stV, seval, IntWalk.iteOmega, IntWalk.toNatUp, reduceCtorEq]
    exact ret_d1 (by simp only [wx, wy, wz, stV, seval, IntWalk.iteOmega, IntWalk.toNatUp, reduceCtorEq])

/-! ### A number is read: the reader goes on -/
def sf_num : SFn := ⟨2, 23,
  .seq (.reg [⟨(some 4), .mv (.k (.c (.d (.int .u64 0)))), none⟩])
  (.seq (.reg [⟨(some 6), .mv (.t 0), none⟩,
    ⟨(some 7), .nilChk (.t 6), none⟩,
    ⟨(some 8), .fieldAddr 0 (.t 7), none⟩,
    ⟨(some 9), .load .sc (.t 8), none⟩,
    ⟨(some 10), .mv (.t 1), none⟩,
    ⟨(some 11), .slice 1 (.t 9) none (some (.t 10)) none, none⟩,
    ⟨(some 12), .call 19 [(.t 11)] none, none⟩,
    ⟨(some 5), .mv (.t 12), none⟩])
  (.seq (.reg [⟨(some 13), .mv (.t 0), none⟩,
    ⟨(some 14), .mv (.t 0), none⟩,
    ⟨(some 15), .nilChk (.t 14), none⟩,
    ⟨(some 16), .fieldAddr 0 (.t 15), none⟩,
    ⟨(some 17), .load .sc (.t 16), none⟩,
    ⟨(some 18), .mv (.t 1), none⟩,
    ⟨(some 19), .slice 1 (.t 17) (some (.t 18)) none none, none⟩,
    ⟨(some 20), .nilChk (.t 13), none⟩,
    ⟨(some 21), .fieldAddr 0 (.t 20), none⟩,
    ⟨none, .store .sc (.t 21) (.t 19), none⟩])
  (.seq (.reg [⟨(some 22), .mv (.t 5), none⟩,
    ⟨(some 4), .mv (.t 22), none⟩])
  (.ret)))),
  [(4, none)]⟩
theorem cf_num : compFn Try.prog { own := [], comp := [], frz := [], nils := [] } Try.f29 = some sf_num := by kernel_rfl
set_option maxHeartbeats 800000 in
theorem num_m (G : Glob) (l : List UInt8) (k : Nat) (hk : k ≤ l.length) (hl : l.length ≤ 9223372036854775807) : DenM Try.prog G 29 [.c (.ptr 1 1 0 0), .c (.d (.int .i64 (k : Int)))] (bxH [.sl (l.map bD)]) [1] (.w (.c (.d (.int .u64 (getN (l.take k)))))) (bxH [.sl ((l.drop k).map bD)]) [1] := by
  have c := get_c G (l.take k) (by simp; omega)
  have e : (l.drop k).take (l.length - k) = l.drop k := List.take_of_length_le (by simp)
  refine denM_walk Try.func29 cf_num 0 rfl rfl rfl rfl rfl rfl ?_
  simp only [sf_num, putW, bxH, wmn, wx, wy, wz, stV, seval, IntWalk.iteOmega, IntWalk.toNatUp, reduceCtorEq]
  refine st_call c rfl (.inl rfl) ?_
  simp only [wmn, endB_ret, wx, wy, wz, stV, seval, IntWalk.iteOmega, IntWalk.toNatUp, reduceCtorEq]
  refine ret_b (by simp only [wx, wy, wz, stV, seval, IntWalk.iteOmega, IntWalk.toNatUp, reduceCtorEq]) ?_ (by simp only [wx, wy, wz, stV, seval, IntWalk.iteOmega, IntWalk.toNatUp, reduceCtorEq])
  simp only [wx, wy, wz, stV, seval, IntWalk.iteOmega, IntWalk.toNatUp, reduceCtorEq, List.map_cons, List.map_nil, e]
theorem num_at (G : Glob) (l : List UInt8) (a k c : Nat) (K : Int) (hK : (k : Int) = K) (hc : a + k = c) (hk : c ≤ l.length) (hl : l.length ≤ 9223372036854775807) : DenM Try.prog G 29 [.c (.ptr 1 1 0 0), .c (.d (.int .i64 K))] (bxH [.sl ((l.drop a).map bD)]) [1] (.w (.c (.d (.int .u64 (getN (cutN l a k)))))) (bxH [.sl ((l.drop c).map bD)]) [1] := by
  have h := num_m G (l.drop a) k (by simp; omega) (by simp; omega)
  rw [List.drop_drop, hc, hK] at h
  exact h
theorem num_e : ∀ (args : Array Value) (w : World), (callFunc 29 args).run Try.prog w = .ok (.enter 29 args) w := enters_of Try.func29 (by kernel_rfl) rfl
theorem and7 : ∀ m : Fin 256, bits .and .i64 (m.val : Int) 7 = ((m.val % 8 : Nat) : Int) := by decide +kernel
theorem and7_n {m : Nat} (h : m < 256) : bits .and .i64 (m : Int) 7 = ((m % 8 : Nat) : Int) := and7 ⟨m, h⟩
theorem or_hd : ∀ (l : Fin 4) (v : Fin 8) (m : Fin 8), bits .or .i64 (bits .or .i64 ((l.val * 64 : Nat) : Int) ((v.val * 8 : Nat) : Int)) (m.val : Int) = ((l.val * 64 + v.val * 8 + m.val : Nat) : Int) := by decide +kernel
theorem or_hdI {l v m : Int} (l0 : 0 ≤ l) (l1 : l ≤ 3) (v0 : 0 ≤ v) (v1 : v ≤ 7) (m0 : 0 ≤ m) (m1 : m ≤ 7) : bits .or .i64 (bits .or .i64 (l * 64) (v * 8)) m = l * 64 + v * 8 + m := by
  obtain ⟨L, rfl⟩ := Int.eq_ofNat_of_zero_le l0
  obtain ⟨V, rfl⟩ := Int.eq_ofNat_of_zero_le v0
  obtain ⟨M, rfl⟩ := Int.eq_ofNat_of_zero_le m0
  have := or_hd ⟨L, by omega⟩ ⟨V, by omega⟩ ⟨M, by omega⟩
  simpa using this
theorem getN_1 {l : List UInt8} {a : Nat} (h : a < l.length) : getN (cutN l a 1) = (l.getD a 0).toNat := by
  have e : cutN l a 1 = [l.getD a 0] := by
    unfold cutN
    rw [List.drop_eq_getElem_cons h, List.take_succ_cons, List.take_zero, List.getD_eq_getElem?_getD, List.getElem?_eq_getElem h]
    rfl
  rw [e]
  have := (l.getD a 0).toNat_lt
  simp [getN]
theorem i8_all : ∀ b : Fin 256, IntKind.i8.wrap (b.val : Int) = if b.val > 127 then (b.val : Int) - 256 else (b.val : Int) := by decide +kernel
theorem sg_wrap (b : UInt8) : IntKind.i8.wrap (b.toNat : Int) = sgB8 b := i8_all ⟨b.toNat, b.toNat_lt⟩
theorem hdG_take (l : List UInt8) (h : 48 ≤ l.length) : hdG (l.take 48) = hdG l := by
  have c : ∀ a n, a + n ≤ 48 → cutN (l.take 48) a n = cutN l a n := by
    intro a n hn
    unfold cutN
    rw [List.drop_take, List.take_take, Nat.min_eq_left (by omega)]
  have g : ∀ i, i < 48 → (l.take 48).getD i 0 = l.getD i 0 := by
    intro i hi
    rw [List.getD_eq_getElem?_getD, List.getD_eq_getElem?_getD, List.getElem?_take_of_lt hi]
  unfold hdG
  rw [c 4 4 (by omega), c 8 4 (by omega), c 12 4 (by omega), c 16 8 (by omega), c 24 8 (by omega), c 32 8 (by omega), c 40 8 (by omega), g 0 (by omega), g 1 (by omega), g 2 (by omega), g 3 (by omega)]
def sf_hdr : SFn := ⟨1, 48,
  .seq (.reg [⟨(some 2), .alloc [(.d (.int .i64 0)), (.d (.int .i64 0)), (.d (.int .i64 0)), (.d (.int .i64 0)), (.d (.int .i64 0)), (.d (.int .i64 0)), (.d (.int .u32 0)), (.d (.int .u32 0)), (.d (.int .u32 0)), (.d (.int .u64 0)), (.d (.int .u64 0)), (.d (.int .u64 0)), (.d (.int .u64 0))], none⟩])
  (.seq (.reg [⟨(some 6), .mv (.t 0), none⟩,
    ⟨(some 7), .build [.nil] [(0, 1, (.t 6))], none⟩,
    ⟨(some 3), .alloc [.nil], none⟩,
    ⟨none, .store (.ag 1) (.t 3) (.t 7), none⟩])
  (.seq (.reg [⟨(some 8), .closM 29 [(.t 3)] [], none⟩,
    ⟨(some 4), .mv (.t 8), none⟩])
  (.seq (.reg [⟨(some 9), .mv (.t 4), none⟩,
    ⟨(some 10), .callM 1000000007 [(.t 9), (.k (.c (.d (.int .i64 1))))], none⟩,
    ⟨(some 11), .conv .i64 (.t 10), none⟩,
    ⟨(some 5), .mv (.t 11), none⟩])
  (.seq (.reg [⟨(some 12), .mv (.t 5), none⟩,
    ⟨(some 13), .bin .shr (.t 12) (.k (.c (.d (.int .u64 6)))), none⟩,
    ⟨(some 14), .mv (.t 5), none⟩,
    ⟨(some 15), .bin .shr (.t 14) (.k (.c (.d (.int .u64 3)))), none⟩,
    ⟨(some 16), .bin .and (.t 15) (.k (.c (.d (.int .i64 7)))), none⟩,
    ⟨(some 17), .mv (.t 5), none⟩,
    ⟨(some 18), .bin .and (.t 17) (.k (.c (.d (.int .i64 7)))), none⟩,
    ⟨(some 19), .mv (.t 4), none⟩,
    ⟨(some 20), .callM 1000000007 [(.t 19), (.k (.c (.d (.int .i64 1))))], none⟩,
    ⟨(some 21), .conv .i64 (.t 20), none⟩,
    ⟨(some 22), .mv (.t 4), none⟩,
    ⟨(some 23), .callM 1000000007 [(.t 22), (.k (.c (.d (.int .i64 1))))], none⟩,
    ⟨(some 24), .conv .i8 (.t 23), none⟩,
    ⟨(some 25), .conv .i64 (.t 24), none⟩,
    ⟨(some 26), .mv (.t 4), none⟩,
    ⟨(some 27), .callM 1000000007 [(.t 26), (.k (.c (.d (.int .i64 1))))], none⟩,
    ⟨(some 28), .conv .i8 (.t 27), none⟩,
    ⟨(some 29), .conv .i64 (.t 28), none⟩,
    ⟨(some 30), .mv (.t 4), none⟩,
    ⟨(some 31), .callM 1000000007 [(.t 30), (.k (.c (.d (.int .i64 4))))], none⟩,
    ⟨(some 32), .conv .u32 (.t 31), none⟩,
    ⟨(some 33), .mv (.t 4), none⟩,
    ⟨(some 34), .callM 1000000007 [(.t 33), (.k (.c (.d (.int .i64 4))))], none⟩,
    ⟨(some 35), .conv .u32 (.t 34), none⟩,
    ⟨(some 36), .mv (.t 4), none⟩,
    ⟨(some 37), .callM 1000000007 [(.t 36), (.k (.c (.d (.int .i64 4))))], none⟩,
    ⟨(some 38), .conv .u32 (.t 37), none⟩,
    ⟨(some 39), .mv (.t 4), none⟩,
    ⟨(some 40), .callM 1000000007 [(.t 39), (.k (.c (.d (.int .i64 8))))], none⟩,
    ⟨(some 41), .mv (.t 4), none⟩,
    ⟨(some 42), .callM 1000000007 [(.t 41), (.k (.c (.d (.int .i64 8))))], none⟩,
    ⟨(some 43), .mv (.t 4), none⟩,
    ⟨(some 44), .callM 1000000007 [(.t 43), (.k (.c (.d (.int .i64 8))))], none⟩,
    ⟨(some 45), .mv (.t 4), none⟩,
    ⟨(some 46), .callM 1000000007 [(.t 45), (.k (.c (.d (.int .i64 8))))], none⟩,
    ⟨(some 47), .build [(.d (.int .i64 0)), (.d (.int .i64 0)), (.d (.int .i64 0)), (.d (.int .i64 0)), (.d (.int .i64 0)), (.d (.int .i64 0)), (.d (.int .u32 0)), (.d (.int .u32 0)), (.d (.int .u32 0)), (.d (.int .u64 0)), (.d (.int .u64 0)), (.d (.int .u64 0)), (.d (.int .u64 0))] [(0, 1, (.t 13)), (1, 1, (.t 16)), (2, 1, (.t 18)), (3, 1, (.t 21)), (4, 1, (.t 25)), (5, 1, (.t 29)), (6, 1, (.t 32)), (7, 1, (.t 35)), (8, 1, (.t 38)), (9, 1, (.t 40)), (10, 1, (.t 42)), (11, 1, (.t 44)), (12, 1, (.t 46))], none⟩,
    ⟨none, .store (.ag 13) (.t 2) (.t 47), none⟩])
  (.ret))))),
  [(2, (some (.ag 13)))]⟩
theorem cf_hdr : compFn Try.prog { own := [], comp := [], frz := [], nils := [], mt := [8, 10, 20, 23, 27, 31, 34, 37, 40, 42, 44, 46] } Try.f23 = some sf_hdr := by kernel_rfl
set_option maxHeartbeats 6400000 in
theorem hdr_c (G : Glob) (l : List UInt8) (hl : l.length = 48) : Den Try.prog G 23 [.sl (l.map bD)] (.w (.c (.d (hdD (hdG l))))) := by
  refine den_walk Try.func23 cf_hdr rfl rfl ?_
  have hb := by exact (show l.length ≤ 9223372036854775807 by omega)
  have c0 := num_at G l 0 1 1 1 rfl rfl (by omega) hb
  have c1 := num_at G l 1 1 2 1 rfl rfl (by omega) hb
  have c2 := num_at G l 2 1 3 1 rfl rfl (by omega) hb
  have c3 := num_at G l 3 1 4 1 rfl rfl (by omega) hb
  have c4 := num_at G l 4 4 8 4 rfl rfl (by omega) hb
  have c5 := num_at G l 8 4 12 4 rfl rfl (by omega) hb
  have c6 := num_at G l 12 4 16 4 rfl rfl (by omega) hb
  have c7 := num_at G l 16 8 24 8 rfl rfl (by omega) hb
  have c8 := num_at G l 24 8 32 8 rfl rfl (by omega) hb
  have c9 := num_at G l 32 8 40 8 rfl rfl (by omega) hb
  have cA := num_at G l 40 8 48 8 rfl rfl (by omega) hb
  rw [getN_1 (by omega)] at c0 c1 c2 c3
  have q4 := (getN_lt_pow 4 (cutN l 4 4) (cutN_len (by omega)) (by decide)).1
  have q5 := (getN_lt_pow 4 (cutN l 8 4) (cutN_len (by omega)) (by decide)).1
  have q6 := (getN_lt_pow 4 (cutN l 12 4) (cutN_len (by omega)) (by decide)).1
  have b0 := (l.getD 0 0).toNat_lt
  have b1 := (l.getD 1 0).toNat_lt
  have s2 := sg_wrap (l.getD 2 0)
  have s3 := sg_wrap (l.getD 3 0)
  have i2 := sgB8_in (l.getD 2 0)
  have i3 := sgB8_in (l.getD 3 0)
  unfold hdG hdD
  dsimp only
  rw [List.drop_zero] at c0
  generalize l.drop 1 = L1 at *
  generalize l.drop 2 = L2 at *
  generalize l.drop 3 = L3 at *
  generalize l.drop 4 = L4 at *
  generalize l.drop 8 = L5 at *
  generalize l.drop 12 = L6 at *
  generalize l.drop 16 = L7 at *
  generalize l.drop 24 = L8 at *
  generalize l.drop 32 = L9 at *
  generalize l.drop 40 = LA at *
  generalize l.drop 48 = LB at *
  generalize sgB8 (l.getD 2 0) = S2 at *
  generalize sgB8 (l.getD 3 0) = S3 at *
  generalize (l.getD 0 0).toNat = N0 at *
  generalize (l.getD 1 0).toNat = N1 at *
  generalize (l.getD 2 0).toNat = N2 at *
  generalize (l.getD 3 0).toNat = N3 at *
  generalize getN (cutN l 4 4) = N4 at *
  generalize getN (cutN l 8 4) = N5 at *
  generalize getN (cutN l 12 4) = N6 at *
  generalize getN (cutN l 16 8) = N7 at *
  generalize getN (cutN l 24 8) = N8 at *
  generalize getN (cutN l 32 8) = N9 at *
  generalize getN (cutN l 40 8) = NA at *
  have a1 := and7_n (m := N0 / 8) (by omega)
  have a2 := and7_n b0
  have d1 : (N0 : Int) / 64 = ((N0 / 64 : Nat) : Int) := (Int.natCast_ediv N0 64).symm
  have d2 : (N0 : Int) / 8 = ((N0 / 8 : Nat) : Int) := (Int.natCast_ediv N0 8).symm
  simp only [sf_hdr, putAll, wmm, wmn, wx, wy, wz, stV, seval, IntWalk.iteOmega, IntWalk.toNatUp, reduceCtorEq]
  refine st_boxF (id := 24) (pre := [.p 24 1 0 0]) (post := []) (ws := [.c (.d (.int .i64 1))]) c0 num_e rfl rfl (by simp only [wx, wy, wz, stV, seval, IntWalk.iteOmega, IntWalk.toNatUp, reduceCtorEq, List.map_cons, List.map_nil]) rfl ?_
  simp only [wmm, wmn, wx, wy, wz, stV, seval, IntWalk.iteOmega, IntWalk.toNatUp, reduceCtorEq, IntKind.bits, s2, s3, d1, d2, a1, a2]
  refine st_boxF (id := 24) (pre := [.p 24 1 0 0]) (post := []) (ws := [.c (.d (.int .i64 1))]) c1 num_e rfl rfl (by simp only [wx, wy, wz, stV, seval, IntWalk.iteOmega, IntWalk.toNatUp, reduceCtorEq, List.map_cons, List.map_nil]) rfl ?_
  simp only [wmm, wmn, wx, wy, wz, stV, seval, IntWalk.iteOmega, IntWalk.toNatUp, reduceCtorEq, IntKind.bits, s2, s3, d1, d2, a1, a2]
  refine st_boxF (id := 24) (pre := [.p 24 1 0 0]) (post := []) (ws := [.c (.d (.int .i64 1))]) c2 num_e rfl rfl (by simp only [wx, wy, wz, stV, seval, IntWalk.iteOmega, IntWalk.toNatUp, reduceCtorEq, List.map_cons, List.map_nil]) rfl ?_
  simp only [wmm, wmn, wx, wy, wz, stV, seval, IntWalk.iteOmega, IntWalk.toNatUp, reduceCtorEq, IntKind.bits, s2, s3, d1, d2, a1, a2]
  refine st_boxF (id := 24) (pre := [.p 24 1 0 0]) (post := []) (ws := [.c (.d (.int .i64 1))]) c3 num_e rfl rfl (by simp only [wx, wy, wz, stV, seval, IntWalk.iteOmega, IntWalk.toNatUp, reduceCtorEq, List.map_cons, List.map_nil]) rfl ?_
  simp only [wmm, wmn, wx, wy, wz, stV, seval, IntWalk.iteOmega, IntWalk.toNatUp, reduceCtorEq, IntKind.bits, s2, s3, d1, d2, a1, a2]
  refine st_boxF (id := 24) (pre := [.p 24 1 0 0]) (post := []) (ws := [.c (.d (.int .i64 4))]) c4 num_e rfl rfl (by simp only [wx, wy, wz, stV, seval, IntWalk.iteOmega, IntWalk.toNatUp, reduceCtorEq, List.map_cons, List.map_nil]) rfl ?_
  simp only [wmm, wmn, wx, wy, wz, stV, seval, IntWalk.iteOmega, IntWalk.toNatUp, reduceCtorEq, IntKind.bits, s2, s3, d1, d2, a1, a2]
  refine st_boxF (id := 24) (pre := [.p 24 1 0 0]) (post := []) (ws := [.c (.d (.int .i64 4))]) c5 num_e rfl rfl (by simp only [wx, wy, wz, stV, seval, IntWalk.iteOmega, IntWalk.toNatUp, reduceCtorEq, List.map_cons, List.map_nil]) rfl ?_
  simp only [wmm, wmn, wx, wy, wz, stV, seval, IntWalk.iteOmega, IntWalk.toNatUp, reduceCtorEq, IntKind.bits, s2, s3, d1, d2, a1, a2]
  refine st_boxF (id := 24) (pre := [.p 24 1 0 0]) (post := []) (ws := [.c (.d (.int .i64 4))]) c6 num_e rfl rfl (by simp only [wx, wy, wz, stV, seval, IntWalk.iteOmega, IntWalk.toNatUp, reduceCtorEq, List.map_cons, List.map_nil]) rfl ?_
  simp only [wmm, wmn, wx, wy, wz, stV, seval, IntWalk.iteOmega, IntWalk.toNatUp, reduceCtorEq, IntKind.bits, s2, s3, d1, d2, a1, a2]
  refine st_boxF (id := 24) (pre := [.p 24 1 0 0]) (post := []) (ws := [.c (.d (.int .i64 8))]) c7 num_e rfl rfl (by simp only [wx, wy, wz, stV, seval, IntWalk.iteOmega, IntWalk.toNatUp, reduceCtorEq, List.map_cons, List.map_nil]) rfl ?_
  simp only [wmm, wmn, wx, wy, wz, stV, seval, IntWalk.iteOmega, IntWalk.toNatUp, reduceCtorEq, IntKind.bits, s2, s3, d1, d2, a1, a2]
  refine st_boxF (id := 24) (pre := [.p 24 1 0 0]) (post := []) (ws := [.c (.d (.int .i64 8))]) c8 num_e rfl rfl (by simp only [wx, wy, wz, stV, seval, IntWalk.iteOmega, IntWalk.toNatUp, reduceCtorEq, List.map_cons, List.map_nil]) rfl ?_
  simp only [wmm, wmn, wx, wy, wz, stV, seval, IntWalk.iteOmega, IntWalk.toNatUp, reduceCtorEq, IntKind.bits, s2, s3, d1, d2, a1, a2]
  refine st_boxF (id := 24) (pre := [.p 24 1 0 0]) (post := []) (ws := [.c (.d (.int .i64 8))]) c9 num_e rfl rfl (by simp only [wx, wy, wz, stV, seval, IntWalk.iteOmega, IntWalk.toNatUp, reduceCtorEq, List.map_cons, List.map_nil]) rfl ?_
  simp only [wmm, wmn, wx, wy, wz, stV, seval, IntWalk.iteOmega, IntWalk.toNatUp, reduceCtorEq, IntKind.bits, s2, s3, d1, d2, a1, a2]
  refine st_boxF (id := 24) (pre := [.p 24 1 0 0]) (post := []) (ws := [.c (.d (.int .i64 8))]) cA num_e rfl rfl (by simp only [wx, wy, wz, stV, seval, IntWalk.iteOmega, IntWalk.toNatUp, reduceCtorEq, List.map_cons, List.map_nil]) rfl ?_
  simp only [wmm, wmn, wx, wy, wz, stV, seval, IntWalk.iteOmega, IntWalk.toNatUp, reduceCtorEq, IntKind.bits, s2, s3, d1, d2, a1, a2]
  exact ret_d1 (by simp only [wx, wy, wz, stV, seval, IntWalk.iteOmega, IntWalk.toNatUp, reduceCtorEq])
/-! ### Questions and answers -/
def sf_pask : SFn := ⟨1, 5,
  .seq (.reg [⟨(some 2), .alloc [(.d (.int .i64 0)), (.d (.int .i64 0)), (.d (.int .i64 0)), (.d (.int .i64 0)), (.d (.int .i64 0)), (.d (.int .i64 0)), (.d (.int .u32 0)), (.d (.int .u32 0)), (.d (.int .u32 0)), (.d (.int .u64 0)), (.d (.int .u64 0)), (.d (.int .u64 0)), (.d (.int .u64 0))], none⟩])
  (.seq (.reg [⟨(some 3), .mv (.t 0), none⟩,
    ⟨(some 4), .build [(.d (.int .i64 0)), (.d (.int .i64 0)), (.d (.int .i64 0)), (.d (.int .i64 0)), (.d (.int .i64 0)), (.d (.int .i64 0)), (.d (.int .u32 0)), (.d (.int .u32 0)), (.d (.int .u32 0)), (.d (.int .u64 0)), (.d (.int .u64 0)), (.d (.int .u64 0)), (.d (.int .u64 0))] [(1, 1, (.k (.c (.d (.int .i64 4))))), (2, 1, (.k (.c (.d (.int .i64 3))))), (4, 1, (.k (.c (.d (.int .i64 6))))), (12, 1, (.t 3))], none⟩,
    ⟨none, .store (.ag 13) (.t 2) (.t 4), none⟩])
  (.ret)),
  [(2, (some (.ag 13)))]⟩
theorem cf_pask : compFn Try.prog { own := [], comp := [], frz := [], nils := [] } Try.f16 = some sf_pask := by kernel_rfl
theorem pask_c (G : Glob) (t : Nat) : Den Try.prog G 16 [.int .u64 (t : Int)] (.w (.c (.d (hdD (askH t))))) := by
  refine den_walk Try.func16 cf_pask rfl rfl ?_
  unfold hdD askH
  simp only [sf_pask, putAll, wx, wy, wz, stV, seval, IntWalk.iteOmega, IntWalk.toNatUp, reduceCtorEq]
  exact ret_d1 (by simp only [wx, wy, wz, stV, seval, IntWalk.iteOmega, IntWalk.toNatUp, reduceCtorEq])
def sf_prep : SFn := ⟨4, 35,
  .seq (.reg [⟨(some 4), .box .roBox (.t 0), none⟩,
    ⟨(some 8), .alloc [(.d (.int .i64 0)), (.d (.int .i64 0)), (.d (.int .i64 0)), (.d (.int .i64 0)), (.d (.int .i64 0)), (.d (.int .i64 0)), (.d (.int .u32 0)), (.d (.int .u32 0)), (.d (.int .u32 0)), (.d (.int .u64 0)), (.d (.int .u64 0)), (.d (.int .u64 0)), (.d (.int .u64 0))], none⟩,
    ⟨(some 9), .mv (.k (.c (.d (.int .i64 0)))), none⟩])
  (.seq (.seq (.reg [⟨(some 11), .load (.ag 13) (.t 4), none⟩,
    ⟨(some 12), .call 13 [(.t 11)] none, none⟩,
    ⟨(some 10), .mv (.t 12), none⟩])
  (.seq (.reg [⟨(some 13), .mv (.t 10), none⟩,
    ⟨(some 14), .bin .neq (.t 13) (.k (.c (.d (.int .i64 0)))), none⟩])
  (.cond (.t 14) (.seq (.reg [⟨(some 15), .build [(.d (.int .i64 0)), (.d (.int .i64 0)), (.d (.int .i64 0)), (.d (.int .i64 0)), (.d (.int .i64 0)), (.d (.int .i64 0)), (.d (.int .u32 0)), (.d (.int .u32 0)), (.d (.int .u32 0)), (.d (.int .u64 0)), (.d (.int .u64 0)), (.d (.int .u64 0)), (.d (.int .u64 0))] [], none⟩,
     ⟨(some 16), .mv (.t 10), none⟩,
     ⟨none, .store (.ag 13) (.t 8) (.t 15), none⟩,
     ⟨(some 9), .mv (.t 16), none⟩])
   (.ret))
   (.skip))))
  (.seq (.seq (.reg [⟨(some 17), .fieldAddr 2 (.t 4), none⟩,
    ⟨(some 18), .load .sc (.t 17), none⟩,
    ⟨(some 19), .bin .neq (.t 18) (.k (.c (.d (.int .i64 3)))), none⟩])
  (.cond (.t 19) (.seq (.reg [⟨(some 20), .build [(.d (.int .i64 0)), (.d (.int .i64 0)), (.d (.int .i64 0)), (.d (.int .i64 0)), (.d (.int .i64 0)), (.d (.int .i64 0)), (.d (.int .u32 0)), (.d (.int .u32 0)), (.d (.int .u32 0)), (.d (.int .u64 0)), (.d (.int .u64 0)), (.d (.int .u64 0)), (.d (.int .u64 0))] [], none⟩,
     ⟨none, .store (.ag 13) (.t 8) (.t 20), none⟩,
     ⟨(some 9), .mv (.k (.c (.d (.int .i64 3)))), none⟩])
   (.ret))
   (.skip)))
  (.seq (.seq (.reg [⟨(some 21), .mv (.t 1), none⟩,
    ⟨(some 22), .call 27 [(.k (.c (.d (.int .i64 0)))), (.t 21), (.k (.c (.d (.int .i64 255))))] none, none⟩,
    ⟨(some 23), .un .not (.t 22), none⟩])
  (.cond (.t 23) (.seq (.reg [⟨(some 24), .build [(.d (.int .i64 0)), (.d (.int .i64 0)), (.d (.int .i64 0)), (.d (.int .i64 0)), (.d (.int .i64 0)), (.d (.int .i64 0)), (.d (.int .u32 0)), (.d (.int .u32 0)), (.d (.int .u32 0)), (.d (.int .u64 0)), (.d (.int .u64 0)), (.d (.int .u64 0)), (.d (.int .u64 0))] [], none⟩,
     ⟨none, .store (.ag 13) (.t 8) (.t 24), none⟩,
     ⟨(some 9), .mv (.k (.c (.d (.int .i64 4)))), none⟩])
   (.ret))
   (.skip)))
  (.seq (.reg [⟨(some 25), .fieldAddr 1 (.t 4), none⟩,
    ⟨(some 26), .load .sc (.t 25), none⟩,
    ⟨(some 27), .mv (.t 1), none⟩,
    ⟨(some 28), .fieldAddr 4 (.t 4), none⟩,
    ⟨(some 29), .load .sc (.t 28), none⟩,
    ⟨(some 30), .fieldAddr 12 (.t 4), none⟩,
    ⟨(some 31), .load .sc (.t 30), none⟩,
    ⟨(some 32), .mv (.t 2), none⟩,
    ⟨(some 33), .mv (.t 3), none⟩,
    ⟨(some 34), .build [(.d (.int .i64 0)), (.d (.int .i64 0)), (.d (.int .i64 0)), (.d (.int .i64 0)), (.d (.int .i64 0)), (.d (.int .i64 0)), (.d (.int .u32 0)), (.d (.int .u32 0)), (.d (.int .u32 0)), (.d (.int .u64 0)), (.d (.int .u64 0)), (.d (.int .u64 0)), (.d (.int .u64 0))] [(1, 1, (.t 26)), (2, 1, (.k (.c (.d (.int .i64 4))))), (3, 1, (.t 27)), (4, 1, (.t 29)), (5, 1, (.k (.c (.d (.int .i64 (-20)))))), (10, 1, (.t 31)), (11, 1, (.t 32)), (12, 1, (.t 33))], none⟩,
    ⟨none, .store (.ag 13) (.t 8) (.t 34), none⟩,
    ⟨(some 9), .mv (.k (.c (.d (.int .i64 0)))), none⟩])
  (.ret))))),
  [(8, (some (.ag 13))), (9, none)]⟩
theorem cf_prep : compFn Try.prog { own := [], comp := [], frz := [], nils := [] } Try.f11 = some sf_prep := by kernel_rfl
set_option maxHeartbeats 1600000 in
theorem prep_c (G : Glob) (q : Hd) (st : Int) (rc tr : Nat) : Den Try.prog G 11 [hdD q, .int .i64 st, .int .u64 (rc : Int), .int .u64 (tr : Int)] (.tup [.c (.d (hdD (repH q st rc tr))), .c (.d (.int .i64 (repE q st)))]) := by
  refine den_walk Try.func11 cf_prep rfl rfl ?_
  have c1 := pval_c G q
  have c2 := pfrm_c G 0 st 255
  have he : repE q st = if hdOk q then (if q.md = 3 then (if decide (0 ≤ st ∧ st ≤ 255) = true then 0 else 4) else 3) else 4 := by
    unfold repE; simp only [decide_eq_true_eq]
  unfold repH
  rw [he]
  unfold hdE at c1
  generalize decide (0 ≤ st ∧ st ≤ 255) = b at *
  cases hv : hdOk q
  · rw [hv] at c1
    rw [if_neg (by decide : ¬ false = true), if_neg (by decide : ¬ (4 : Int) = 0)]
    rw [if_neg (by decide : ¬ false = true)] at c1
    unfold hdD Hd.z at *
    simp only [sf_prep, putAll, wx, wy, wz, stV, seval, IntWalk.iteOmega, IntWalk.toNatUp, reduceCtorEq]
    refine st_call (c1) rfl (.inl rfl) ?_
    simp only [wx, wy, wz, stV, seval, IntWalk.iteOmega, IntWalk.toNatUp, reduceCtorEq]
    exact ret_d2 (by simp only [wx, wy, wz, stV, seval, IntWalk.iteOmega, IntWalk.toNatUp, reduceCtorEq]) (by simp only [wx, wy, wz, stV, seval, IntWalk.iteOmega, IntWalk.toNatUp, reduceCtorEq])
  · rw [hv, if_pos rfl] at c1
    rw [if_pos rfl]
    by_cases hm : q.md = 3
    · rw [if_pos hm]
      cases b
      · rw [if_neg (by decide : ¬ false = true), if_neg (by decide : ¬ (4 : Int) = 0)]
        unfold hdD Hd.z at *
        simp only [sf_prep, putAll, wx, wy, wz, stV, seval, IntWalk.iteOmega, IntWalk.toNatUp, reduceCtorEq]
        refine st_call (c1) rfl (.inl rfl) ?_
        simp only [wx, wy, wz, stV, seval, IntWalk.iteOmega, IntWalk.toNatUp, reduceCtorEq]
        refine st_call (c2) rfl (.inl rfl) ?_
        simp only [wx, wy, wz, stV, seval, IntWalk.iteOmega, IntWalk.toNatUp, reduceCtorEq]
        exact ret_d2 (by simp only [wx, wy, wz, stV, seval, IntWalk.iteOmega, IntWalk.toNatUp, reduceCtorEq]) (by simp only [wx, wy, wz, stV, seval, IntWalk.iteOmega, IntWalk.toNatUp, reduceCtorEq])
      · rw [if_pos rfl, if_pos rfl]
        unfold hdD at *
        simp only [sf_prep, putAll, wx, wy, wz, stV, seval, IntWalk.iteOmega, IntWalk.toNatUp, reduceCtorEq]
        refine st_call (c1) rfl (.inl rfl) ?_
        simp only [wx, wy, wz, stV, seval, IntWalk.iteOmega, IntWalk.toNatUp, reduceCtorEq]
        refine st_call (c2) rfl (.inl rfl) ?_
        simp only [wx, wy, wz, stV, seval, IntWalk.iteOmega, IntWalk.toNatUp, reduceCtorEq]
        exact ret_d2 (by simp only [wx, wy, wz, stV, seval, IntWalk.iteOmega, IntWalk.toNatUp, reduceCtorEq]) (by simp only [wx, wy, wz, stV, seval, IntWalk.iteOmega, IntWalk.toNatUp, reduceCtorEq])
    · rw [if_neg hm, if_neg (by decide : ¬ (3 : Int) = 0)]
      unfold hdD Hd.z at *
      simp only [sf_prep, putAll, wx, wy, wz, stV, seval, IntWalk.iteOmega, IntWalk.toNatUp, reduceCtorEq]
      refine st_call (c1) rfl (.inl rfl) ?_
      simp only [wx, wy, wz, stV, seval, IntWalk.iteOmega, IntWalk.toNatUp, reduceCtorEq]
      exact ret_d2 (by simp only [wx, wy, wz, stV, seval, IntWalk.iteOmega, IntWalk.toNatUp, reduceCtorEq]) (by simp only [wx, wy, wz, stV, seval, IntWalk.iteOmega, IntWalk.toNatUp, reduceCtorEq])
/-! ### Bytes -/
def sf_pdec : SFn := ⟨1, 26,
  .seq (.reg [⟨(some 2), .alloc [(.d (.int .i64 0)), (.d (.int .i64 0)), (.d (.int .i64 0)), (.d (.int .i64 0)), (.d (.int .i64 0)), (.d (.int .i64 0)), (.d (.int .u32 0)), (.d (.int .u32 0)), (.d (.int .u32 0)), (.d (.int .u64 0)), (.d (.int .u64 0)), (.d (.int .u64 0)), (.d (.int .u64 0))], none⟩,
    ⟨(some 3), .mv (.k (.c .nil)), none⟩,
    ⟨(some 4), .mv (.k (.c (.d (.int .i64 0)))), none⟩])
  (.seq (.seq (.reg [⟨(some 5), .mv (.t 0), none⟩,
    ⟨(some 6), .len (.t 5), none⟩,
    ⟨(some 7), .bin .lss (.t 6) (.k (.c (.d (.int .i64 48)))), none⟩])
  (.cond (.t 7) (.seq (.reg [⟨(some 8), .build [(.d (.int .i64 0)), (.d (.int .i64 0)), (.d (.int .i64 0)), (.d (.int .i64 0)), (.d (.int .i64 0)), (.d (.int .i64 0)), (.d (.int .u32 0)), (.d (.int .u32 0)), (.d (.int .u32 0)), (.d (.int .u64 0)), (.d (.int .u64 0)), (.d (.int .u64 0)), (.d (.int .u64 0))] [], none⟩,
     ⟨none, .store (.ag 13) (.t 2) (.t 8), none⟩,
     ⟨(some 3), .mv (.k (.c .nil)), none⟩,
     ⟨(some 4), .mv (.k (.c (.d (.int .i64 1)))), none⟩])
   (.ret))
   (.skip)))
  (.seq (.seq (.reg [⟨(some 9), .mv (.t 0), none⟩,
    ⟨(some 10), .len (.t 9), none⟩,
    ⟨(some 11), .bin .gtr (.t 10) (.k (.c (.d (.int .i64 1280)))), none⟩])
  (.cond (.t 11) (.seq (.reg [⟨(some 12), .build [(.d (.int .i64 0)), (.d (.int .i64 0)), (.d (.int .i64 0)), (.d (.int .i64 0)), (.d (.int .i64 0)), (.d (.int .i64 0)), (.d (.int .u32 0)), (.d (.int .u32 0)), (.d (.int .u32 0)), (.d (.int .u64 0)), (.d (.int .u64 0)), (.d (.int .u64 0)), (.d (.int .u64 0))] [], none⟩,
     ⟨none, .store (.ag 13) (.t 2) (.t 12), none⟩,
     ⟨(some 3), .mv (.k (.c .nil)), none⟩,
     ⟨(some 4), .mv (.k (.c (.d (.int .i64 2)))), none⟩])
   (.ret))
   (.skip)))
  (.seq (.reg [⟨(some 13), .mv (.t 0), none⟩,
    ⟨(some 14), .slice 1 (.t 13) none (some (.k (.c (.d (.int .i64 48))))) none, none⟩,
    ⟨(some 15), .call 23 [(.t 14)] none, none⟩,
    ⟨none, .store (.ag 13) (.t 2) (.t 15), none⟩])
  (.seq (.seq (.reg [⟨(some 16), .fieldAddr 1 (.t 2), none⟩,
    ⟨(some 17), .load .sc (.t 16), none⟩,
    ⟨(some 18), .call 24 [(.t 17)] none, none⟩,
    ⟨(some 19), .un .not (.t 18), none⟩])
  (.cond (.t 19) (.seq (.reg [⟨(some 20), .build [(.d (.int .i64 0)), (.d (.int .i64 0)), (.d (.int .i64 0)), (.d (.int .i64 0)), (.d (.int .i64 0)), (.d (.int .i64 0)), (.d (.int .u32 0)), (.d (.int .u32 0)), (.d (.int .u32 0)), (.d (.int .u64 0)), (.d (.int .u64 0)), (.d (.int .u64 0)), (.d (.int .u64 0))] [], none⟩,
     ⟨none, .store (.ag 13) (.t 2) (.t 20), none⟩,
     ⟨(some 3), .mv (.k (.c .nil)), none⟩,
     ⟨(some 4), .mv (.k (.c (.d (.int .i64 3)))), none⟩])
   (.ret))
   (.skip)))
  (.seq (.reg [⟨(some 21), .load (.ag 13) (.t 2), none⟩,
    ⟨(some 22), .mv (.t 0), none⟩,
    ⟨(some 23), .slice 1 (.t 22) (some (.k (.c (.d (.int .i64 48))))) none none, none⟩,
    ⟨(some 24), .bldSl false 1 1 (.sl []) [(0, (.t 23))], none⟩,
    ⟨(some 25), .call 20 [(.t 24)] (some (0, 1)), none⟩,
    ⟨none, .store (.ag 13) (.t 2) (.t 21), none⟩,
    ⟨(some 3), .mv (.t 25), none⟩,
    ⟨(some 4), .mv (.k (.c (.d (.int .i64 0)))), none⟩])
  (.ret)))))),
  [(2, (some (.ag 13))), (3, none), (4, none)]⟩
theorem cf_pdec : compFn Try.prog { own := [25], comp := [], frz := [], nils := [] } Try.f9 = some sf_pdec := by kernel_rfl
set_option maxHeartbeats 1600000 in
theorem pdec_c (G : Glob) (l : List UInt8) (hl : l.length ≤ 9223372036854775807) : Den Try.prog G 9 [.sl (l.map bD)] (.tup [.c (.d (hdD (decH l))), .c (.d (.sl ((decR l).map bD))), .c (.d (.int .i64 (decE l)))]) := by
  refine den_walk Try.func9 cf_pdec rfl rfl ?_
  unfold decH decR
  by_cases h1 : l.length < 48
  · rw [show decE l = 1 from if_pos h1, if_neg (by decide), if_neg (by decide)]
    unfold hdD Hd.z
    simp only [sf_pdec, putAll, wx, wy, wz, stV, seval, IntWalk.iteOmega, IntWalk.toNatUp, reduceCtorEq]
    exact ret_d3 (by simp only [wx, wy, wz, stV, seval, IntWalk.iteOmega, IntWalk.toNatUp, reduceCtorEq]) (by simp only [wx, wy, wz, stV, seval, IntWalk.iteOmega, IntWalk.toNatUp, reduceCtorEq] <;> rfl) (by simp only [wx, wy, wz, stV, seval, IntWalk.iteOmega, IntWalk.toNatUp, reduceCtorEq])
  · by_cases h2 : 1280 < l.length
    · rw [show decE l = 2 from (if_neg h1).trans (if_pos h2), if_neg (by decide), if_neg (by decide)]
      unfold hdD Hd.z
      simp only [sf_pdec, putAll, wx, wy, wz, stV, seval, IntWalk.iteOmega, IntWalk.toNatUp, reduceCtorEq]
      exact ret_d3 (by simp only [wx, wy, wz, stV, seval, IntWalk.iteOmega, IntWalk.toNatUp, reduceCtorEq]) (by simp only [wx, wy, wz, stV, seval, IntWalk.iteOmega, IntWalk.toNatUp, reduceCtorEq] <;> rfl) (by simp only [wx, wy, wz, stV, seval, IntWalk.iteOmega, IntWalk.toNatUp, reduceCtorEq])
    · have c1 := hdr_c G (l.take 48) (by simp; omega)
      have e48 : hdG (l.take 48) = hdG l := by
        exact hdG_take l (by omega)
      rw [e48] at c1
      have c2 := pkno_c G (hdG l).vr
      have cj := join_c G [l.drop 48] (by simp) (by simp; omega)
      simp only [List.map_cons, List.map_nil, List.flatten_cons, List.flatten_nil, List.append_nil] at cj
      have et : (l.drop 48).take (l.length - 48) = l.drop 48 := List.take_of_length_le (by simp)
      have hv : decide (3 ≤ (hdG l).vr ∧ (hdG l).vr ≤ 4) = decide ((hdG l).vr = 3 ∨ (hdG l).vr = 4) := by
        congr 1
        exact propext (by omega)
      rw [hv] at c2
      have he : decE l = if decide ((hdG l).vr = 3 ∨ (hdG l).vr = 4) = true then 0 else 3 := by
        unfold decE
        rw [if_neg h1, if_neg h2]
        simp only [decide_eq_true_eq]
      rw [he]
      generalize decide ((hdG l).vr = 3 ∨ (hdG l).vr = 4) = b at *
      generalize hdG l = q at *
      generalize hR : l.drop 48 = R at *
      cases b
      · rw [if_neg (by decide : ¬ false = true), if_neg (by decide), if_neg (by decide)]
        unfold hdD Hd.z at *
        simp only [sf_pdec, putAll, wx, wy, wz, stV, seval, IntWalk.iteOmega, IntWalk.toNatUp, reduceCtorEq]
        refine st_call (c1) rfl (.inl rfl) ?_
        simp only [wx, wy, wz, stV, seval, IntWalk.iteOmega, IntWalk.toNatUp, reduceCtorEq]
        refine st_call (c2) rfl (.inl rfl) ?_
        simp only [wx, wy, wz, stV, seval, IntWalk.iteOmega, IntWalk.toNatUp, reduceCtorEq]
        exact ret_d3 (by simp only [wx, wy, wz, stV, seval, IntWalk.iteOmega, IntWalk.toNatUp, reduceCtorEq]) (by simp only [wx, wy, wz, stV, seval, IntWalk.iteOmega, IntWalk.toNatUp, reduceCtorEq] <;> rfl) (by simp only [wx, wy, wz, stV, seval, IntWalk.iteOmega, IntWalk.toNatUp, reduceCtorEq])
      · rw [if_pos rfl, if_pos rfl, if_pos rfl]
        unfold hdD at *
        simp only [sf_pdec, putAll, wx, wy, wz, stV, seval, IntWalk.iteOmega, IntWalk.toNatUp, reduceCtorEq]
        refine st_call (c1) rfl (.inl rfl) ?_
        simp only [wx, wy, wz, stV, seval, IntWalk.iteOmega, IntWalk.toNatUp, reduceCtorEq]
        refine st_call (c2) rfl (.inl rfl) ?_
        simp only [hR, et, wx, wy, wz, stV, seval, IntWalk.iteOmega, IntWalk.toNatUp, reduceCtorEq]
        refine st_call (cj) rfl (.inl rfl) ?_
        simp only [wx, wy, wz, stV, seval, IntWalk.iteOmega, IntWalk.toNatUp, reduceCtorEq]
        exact ret_d3 (by simp only [wx, wy, wz, stV, seval, IntWalk.iteOmega, IntWalk.toNatUp, reduceCtorEq]) (by simp only [wx, wy, wz, stV, seval, IntWalk.iteOmega, IntWalk.toNatUp, reduceCtorEq]) (by simp only [wx, wy, wz, stV, seval, IntWalk.iteOmega, IntWalk.toNatUp, reduceCtorEq])
theorem wrap_u (z : Int) : IntKind.u64.wrap z = (((z % 18446744073709551616).toNat : Nat) : Int) := by
  rw [IntKind.wrap_u64, Int.toNat_of_nonneg (Int.emod_nonneg _ (by decide))]
theorem putL_1 (z : Int) : putL (z % 18446744073709551616).toNat 1 = [byZ z] := by
  have h := Int.emod_nonneg z (show (18446744073709551616 : Int) ≠ 0 by decide)
  have e : (z % 18446744073709551616) % 256 = z % 256 := Int.emod_emod_of_dvd z (by decide)
  unfold putL byZ
  rw [show List.range 1 = [0] from rfl, List.map_cons, List.map_nil, Nat.pow_zero, Nat.div_one]
  congr 1
  rw [← UInt8.toNat_inj, UInt8.toNat_ofNat', UInt8.toNat_ofNat']
  omega
theorem put1_c (G : Glob) (z : Int) : Den Try.prog G 21 [.int .u64 (IntKind.u64.wrap z), .int .i64 1] (.w (.c (.fr 1 (([byZ z] : List UInt8).map bD)))) := by
  have c := put_c G (z % 18446744073709551616).toNat 1
  rw [show putN (z % 18446744073709551616).toNat 1 = [byZ z] from putL_1 z, ← wrap_u] at c
  exact c
theorem rput1_c (G : Glob) (z : Int) : Den Try.prog G 22 [.int .u64 (IntKind.u64.wrap z), .int .i64 1] (.w (.c (.fr 1 (([byZ z] : List UInt8).map bD)))) := by
  have c := rput_c G (z % 18446744073709551616).toNat 1
  rw [show putN (z % 18446744073709551616).toNat 1 = [byZ z] from putL_1 z, ← wrap_u] at c
  exact c
theorem putk_c (G : Glob) (v : Nat) (k : Int) (hk : 0 ≤ k ∧ k ≤ 64) : Den Try.prog G 21 [.int .u64 (v : Int), .int .i64 k] (.w (.c (.fr 1 ((putL v k.toNat).map bD)))) := by
  have c := put_c G v k
  rw [show putN v k = putL v k.toNat from if_pos hk] at c
  exact c
theorem rputk_c (G : Glob) (v : Nat) (k : Int) (hk : 0 ≤ k ∧ k ≤ 64) : Den Try.prog G 22 [.int .u64 (v : Int), .int .i64 k] (.w (.c (.fr 1 ((putL v k.toNat).map bD)))) := by
  have c := rput_c G v k
  rw [show putN v k = putL v k.toNat from if_pos hk] at c
  exact c
def sf_penc : SFn := ⟨1, 62,
  .seq (.reg [⟨(some 1), .box .roBox (.t 0), none⟩,
    ⟨(some 2), .mv (.k (.c .nil)), none⟩,
    ⟨(some 3), .mv (.k (.c (.d (.int .i64 0)))), none⟩])
  (.seq (.seq (.reg [⟨(some 6), .load (.ag 13) (.t 1), none⟩,
    ⟨(some 7), .call 13 [(.t 6)] none, none⟩,
    ⟨(some 4), .mv (.t 7), none⟩])
  (.seq (.reg [⟨(some 8), .mv (.t 4), none⟩,
    ⟨(some 9), .bin .neq (.t 8) (.k (.c (.d (.int .i64 0)))), none⟩])
  (.cond (.t 9) (.seq (.reg [⟨(some 10), .mv (.t 4), none⟩,
     ⟨(some 2), .mv (.k (.c .nil)), none⟩,
     ⟨(some 3), .mv (.t 10), none⟩])
   (.ret))
   (.skip))))
  (.seq (.reg [⟨(some 11), .fieldAddr 0 (.t 1), none⟩,
    ⟨(some 12), .load .sc (.t 11), none⟩,
    ⟨(some 13), .bin .shl (.t 12) (.k (.c (.d (.int .u64 6)))), none⟩,
    ⟨(some 14), .fieldAddr 1 (.t 1), none⟩,
    ⟨(some 15), .load .sc (.t 14), none⟩,
    ⟨(some 16), .bin .shl (.t 15) (.k (.c (.d (.int .u64 3)))), none⟩,
    ⟨(some 17), .bin .or (.t 13) (.t 16), none⟩,
    ⟨(some 18), .fieldAddr 2 (.t 1), none⟩,
    ⟨(some 19), .load .sc (.t 18), none⟩,
    ⟨(some 20), .bin .or (.t 17) (.t 19), none⟩,
    ⟨(some 5), .mv (.t 20), none⟩])
  (.seq (.reg [⟨(some 21), .mv (.t 5), none⟩,
    ⟨(some 22), .conv .u64 (.t 21), none⟩,
    ⟨(some 23), .call 21 [(.t 22), (.k (.c (.d (.int .i64 1))))] none, none⟩,
    ⟨(some 24), .fieldAddr 3 (.t 1), none⟩,
    ⟨(some 25), .load .sc (.t 24), none⟩,
    ⟨(some 26), .conv .u64 (.t 25), none⟩,
    ⟨(some 27), .call 21 [(.t 26), (.k (.c (.d (.int .i64 1))))] none, none⟩,
    ⟨(some 28), .fieldAddr 4 (.t 1), none⟩,
    ⟨(some 29), .load .sc (.t 28), none⟩,
    ⟨(some 30), .conv .u64 (.t 29), none⟩,
    ⟨(some 31), .call 21 [(.t 30), (.k (.c (.d (.int .i64 1))))] none, none⟩,
    ⟨(some 32), .fieldAddr 5 (.t 1), none⟩,
    ⟨(some 33), .load .sc (.t 32), none⟩,
    ⟨(some 34), .conv .u64 (.t 33), none⟩,
    ⟨(some 35), .call 21 [(.t 34), (.k (.c (.d (.int .i64 1))))] none, none⟩,
    ⟨(some 36), .fieldAddr 6 (.t 1), none⟩,
    ⟨(some 37), .load .sc (.t 36), none⟩,
    ⟨(some 38), .conv .u64 (.t 37), none⟩,
    ⟨(some 39), .call 21 [(.t 38), (.k (.c (.d (.int .i64 4))))] none, none⟩,
    ⟨(some 40), .fieldAddr 7 (.t 1), none⟩,
    ⟨(some 41), .load .sc (.t 40), none⟩,
    ⟨(some 42), .conv .u64 (.t 41), none⟩,
    ⟨(some 43), .call 21 [(.t 42), (.k (.c (.d (.int .i64 4))))] none, none⟩,
    ⟨(some 44), .fieldAddr 8 (.t 1), none⟩,
    ⟨(some 45), .load .sc (.t 44), none⟩,
    ⟨(some 46), .conv .u64 (.t 45), none⟩,
    ⟨(some 47), .call 21 [(.t 46), (.k (.c (.d (.int .i64 4))))] none, none⟩,
    ⟨(some 48), .fieldAddr 9 (.t 1), none⟩,
    ⟨(some 49), .load .sc (.t 48), none⟩,
    ⟨(some 50), .call 21 [(.t 49), (.k (.c (.d (.int .i64 8))))] none, none⟩,
    ⟨(some 51), .fieldAddr 10 (.t 1), none⟩,
    ⟨(some 52), .load .sc (.t 51), none⟩,
    ⟨(some 53), .call 21 [(.t 52), (.k (.c (.d (.int .i64 8))))] none, none⟩,
    ⟨(some 54), .fieldAddr 11 (.t 1), none⟩,
    ⟨(some 55), .load .sc (.t 54), none⟩,
    ⟨(some 56), .call 21 [(.t 55), (.k (.c (.d (.int .i64 8))))] none, none⟩,
    ⟨(some 57), .fieldAddr 12 (.t 1), none⟩,
    ⟨(some 58), .load .sc (.t 57), none⟩,
    ⟨(some 59), .call 21 [(.t 58), (.k (.c (.d (.int .i64 8))))] none, none⟩,
    ⟨(some 60), .bldSl false 11 1 (.sl []) [(0, (.t 23)), (1, (.t 27)), (2, (.t 31)), (3, (.t 35)), (4, (.t 39)), (5, (.t 43)), (6, (.t 47)), (7, (.t 50)), (8, (.t 53)), (9, (.t 56)), (10, (.t 59))], none⟩,
    ⟨(some 61), .call 20 [(.t 60)] (some (0, 1)), none⟩,
    ⟨(some 2), .mv (.t 61), none⟩,
    ⟨(some 3), .mv (.k (.c (.d (.int .i64 0)))), none⟩])
  (.ret)))),
  [(2, none), (3, none)]⟩
theorem cf_penc : compFn Try.prog { own := [61], comp := [], frz := [], nils := [] } Try.f7 = some sf_penc := by kernel_rfl
set_option maxHeartbeats 3200000 in
theorem penc_c (G : Glob) (h : Hd) (hf : hdF h) : Den Try.prog G 7 [hdD h] (.tup [.c (.d (.sl ((encB h).map bD))), .c (.d (.int .i64 (hdE h)))]) := by
  refine den_walk Try.func7 cf_penc rfl rfl ?_
  have c1 := pval_c G h
  unfold encB hdE at *
  by_cases hv : hdOk h = true
  · have hr : hdR h := of_decide_eq_true hv
    rw [if_pos hv] at c1 ⊢
    rw [if_pos hv]
    obtain ⟨o1, o2, o3, o4, o5, o6, o7, o8, o9, o10, o11⟩ := hr
    obtain ⟨f1, f2, f3, f4, f5, f6, f7⟩ := hf
    have p1 := put1_c G (h.lp * 64 + h.vr * 8 + h.md)
    have p2 := put1_c G h.st
    have p3 := put1_c G h.pl
    have p4 := put1_c G h.pr
    rw [u64_in _ (by omega) (by omega)] at p1 p2
    rw [wr_u64] at p3 p4
    have p5 := putk_c G h.rd 4 (by decide)
    have p6 := putk_c G h.rp 4 (by decide)
    have p7 := putk_c G h.ri 4 (by decide)
    have p8 := putk_c G h.rf 8 (by decide)
    have p9 := putk_c G h.og 8 (by decide)
    have pA := putk_c G h.rc 8 (by decide)
    have pB := putk_c G h.tr 8 (by decide)
    rw [show (4 : Int).toNat = 4 from rfl] at p5 p6 p7
    rw [show (8 : Int).toNat = 8 from rfl] at p8 p9 pA pB
    have cj := join_c G [[byZ (h.lp * 64 + h.vr * 8 + h.md)], [byZ h.st], [byZ h.pl], [byZ h.pr], putL h.rd 4, putL h.rp 4, putL h.ri 4, putL h.rf 8, putL h.og 8, putL h.rc 8, putL h.tr 8] (by simp) (by simp [putL_length])
    have ef : ([[byZ (h.lp * 64 + h.vr * 8 + h.md)], [byZ h.st], [byZ h.pl], [byZ h.pr], putL h.rd 4, putL h.rp 4, putL h.ri 4, putL h.rf 8, putL h.og 8, putL h.rc 8, putL h.tr 8] : List (List UInt8)).flatten = hdB h := by
      unfold hdB hdT
      simp only [List.flatten_cons, List.flatten_nil, List.append_nil, List.cons_append, List.nil_append]
    rw [ef] at cj
    have ho := or_hdI o1 o2 (v := h.vr) (by omega) (by omega) o4 o5
    unfold hdD at *
    generalize hdB h = B at *
    generalize putL h.rd 4 = B5 at *
    generalize putL h.rp 4 = B6 at *
    generalize putL h.ri 4 = B7 at *
    generalize putL h.rf 8 = B8 at *
    generalize putL h.og 8 = B9 at *
    generalize putL h.rc 8 = BA at *
    generalize putL h.tr 8 = BB at *
    generalize [byZ h.st] = B2 at *
    generalize [byZ h.pl] = B3 at *
    generalize [byZ h.pr] = B4 at *
    generalize hF : h.lp * 64 + h.vr * 8 + h.md = F at *
    generalize [byZ F] = B1 at *
    simp only [List.map_cons, List.map_nil] at cj
    simp only [sf_penc, putAll, wx, wy, wz, stV, seval, IntWalk.iteOmega, IntWalk.toNatUp, reduceCtorEq]
    refine st_call (c1) rfl (.inl rfl) ?_
    simp only [ho, IntKind.bits, wx, wy, wz, stV, seval, IntWalk.iteOmega, IntWalk.toNatUp, reduceCtorEq]
    refine st_call (p1) rfl (.inl rfl) ?_
    simp only [wx, wy, wz, stV, seval, IntWalk.iteOmega, IntWalk.toNatUp, reduceCtorEq]
    refine st_call (p2) rfl (.inl rfl) ?_
    simp only [wx, wy, wz, stV, seval, IntWalk.iteOmega, IntWalk.toNatUp, reduceCtorEq]
    refine st_call (p3) rfl (.inl rfl) ?_
    simp only [wx, wy, wz, stV, seval, IntWalk.iteOmega, IntWalk.toNatUp, reduceCtorEq]
    refine st_call (p4) rfl (.inl rfl) ?_
    simp only [wx, wy, wz, stV, seval, IntWalk.iteOmega, IntWalk.toNatUp, reduceCtorEq]
    refine st_call (p5) rfl (.inl rfl) ?_
    simp only [wx, wy, wz, stV, seval, IntWalk.iteOmega, IntWalk.toNatUp, reduceCtorEq]
    refine st_call (p6) rfl (.inl rfl) ?_
    simp only [wx, wy, wz, stV, seval, IntWalk.iteOmega, IntWalk.toNatUp, reduceCtorEq]
    refine st_call (p7) rfl (.inl rfl) ?_
    simp only [wx, wy, wz, stV, seval, IntWalk.iteOmega, IntWalk.toNatUp, reduceCtorEq]
    refine st_call (p8) rfl (.inl rfl) ?_
    simp only [wx, wy, wz, stV, seval, IntWalk.iteOmega, IntWalk.toNatUp, reduceCtorEq]
    refine st_call (p9) rfl (.inl rfl) ?_
    simp only [wx, wy, wz, stV, seval, IntWalk.iteOmega, IntWalk.toNatUp, reduceCtorEq]
    refine st_call (pA) rfl (.inl rfl) ?_
    simp only [wx, wy, wz, stV, seval, IntWalk.iteOmega, IntWalk.toNatUp, reduceCtorEq]
    refine st_call (pB) rfl (.inl rfl) ?_
    simp only [wx, wy, wz, stV, seval, IntWalk.iteOmega, IntWalk.toNatUp, reduceCtorEq]
    refine st_call (cj) rfl (.inl rfl) ?_
    simp only [wx, wy, wz, stV, seval, IntWalk.iteOmega, IntWalk.toNatUp, reduceCtorEq]
    exact ret_d2 (by simp only [wx, wy, wz, stV, seval, IntWalk.iteOmega, IntWalk.toNatUp, reduceCtorEq]) (by simp only [wx, wy, wz, stV, seval, IntWalk.iteOmega, IntWalk.toNatUp, reduceCtorEq])
  · have hv : hdOk h = false := by simpa using hv
    rw [hv] at c1 ⊢
    rw [if_neg (by decide : ¬ false = true)] at c1
    rw [if_neg (by decide : ¬ false = true), if_neg (by decide : ¬ false = true)]
    unfold hdD at *
    simp only [sf_penc, putAll, wx, wy, wz, stV, seval, IntWalk.iteOmega, IntWalk.toNatUp, reduceCtorEq]
    refine st_call (c1) rfl (.inl rfl) ?_
    simp only [wx, wy, wz, stV, seval, IntWalk.iteOmega, IntWalk.toNatUp, reduceCtorEq]
    exact ret_d2 (by simp only [wx, wy, wz, stV, seval, IntWalk.iteOmega, IntWalk.toNatUp, reduceCtorEq] <;> rfl) (by simp only [wx, wy, wz, stV, seval, IntWalk.iteOmega, IntWalk.toNatUp, reduceCtorEq])
end Go.Proofs.Ytjjjpbnkbedfbaa
