/- Layer 17 on data: the program: sizes, bytes. Own work. -/
import Derived.Test.YtldcgjhfaledfaaProg
import Derived.Test.YtldcgjhfaledfaaAlW
import Derived.Test.YtldcgjhfaledfaaAm1
import Derived.Test.YtldcgjhfaledfaaPo4
import Derived.Test.YtldcgjhfaledfaaPo6
import Derived.Test.YtldcgjhfaledfaaPf0
set_option linter.unusedVariables false
set_option linter.unusedSimpArgs false
namespace Go.Proofs.Ytldcgjhfaledfaa
open Go.RowKit

theorem getF {l : List Fd} {i : Nat} (h : i < l.length) : l[i]? = some (l.getD i default) := by
  rw [List.getD_eq_getElem?_getD, List.getElem?_eq_getElem h]; rfl
theorem getF_mem {l : List Fd} {i : Nat} (h : i < l.length) : l.getD i default ∈ l := by
  rw [List.getD_eq_getElem?_getD, List.getElem?_eq_getElem h]
  exact List.getElem_mem h
theorem tdiv4 (n : Nat) : Int.tdiv ((n : Int) + 4 - 1) 4 = (((n + 3) / 4 : Nat) : Int) := by
  rw [Int.tdiv_eq_ediv_of_nonneg (by omega)]; omega
theorem xsT_hi {f : Fd} (h : 16 < (4 + f.da.length + 3) / 4 * 4) : xsT f = (4 + f.da.length + 3) / 4 * 4 := by unfold xsT; omega
theorem xsT_lo {f : Fd} (h : (4 + f.da.length + 3) / 4 * 4 ≤ 16) : xsT f = 16 := by unfold xsT; omega
theorem xs_err {f : Fd} (h : f.ty < 0 ∨ 65535 < f.ty) : xsE f = 4 ∧ xsN f = 0 := by
  have e : xsE f = 4 := if_pos h
  exact ⟨e, by unfold xsN; rw [e]; rfl⟩
theorem xs_fit {f : Fd} (h1 : 0 ≤ f.ty) (h2 : f.ty ≤ 65535) (h : xsT f ≤ 1232) : xsE f = 0 ∧ xsN f = xsT f := by
  have e : xsE f = 0 := xsE_of h1 h2 h
  exact ⟨e, by unfold xsN; rw [if_pos e]⟩
theorem xs_long {f : Fd} (h1 : 0 ≤ f.ty) (h2 : f.ty ≤ 65535) (h : 1232 < xsT f) : xsE f = 2 ∧ xsN f = 0 := by
  have e : xsE f = 2 := by unfold xsE; rw [if_neg (by omega), if_pos h]
  exact ⟨e, by unfold xsN; rw [e]; rfl⟩
def sf_xrup : SFn := ⟨1, 8,
  .seq (.reg [⟨(some 2), .mv (.k (.c (.d (.int .i64 0)))), none⟩])
  (.seq (.reg [⟨(some 3), .mv (.t 0), none⟩,
    ⟨(some 4), .bin .add (.t 3) (.k (.c (.d (.int .i64 4)))), none⟩,
    ⟨(some 5), .bin .sub (.t 4) (.k (.c (.d (.int .i64 1)))), none⟩,
    ⟨(some 6), .bin .quo (.t 5) (.k (.c (.d (.int .i64 4)))), none⟩,
    ⟨(some 7), .bin .mul (.t 6) (.k (.c (.d (.int .i64 4)))), none⟩,
    ⟨(some 2), .mv (.t 7), none⟩])
  (.ret)),
  [(2, none)]⟩
theorem cf_xrup : compFn Try.prog { own := [], comp := [], frz := [], nils := [] } Try.f28 = some sf_xrup := by kernel_rfl
theorem xrup_c (G : Glob) (n : Nat) (hn : n ≤ 9000000000000000000) : Den Try.prog G 28 [.int .i64 (n : Int)] (.w (.c (.d (.int .i64 (((n + 3) / 4 * 4 : Nat) : Int))))) := by
  refine den_walk Try.func28 cf_xrup rfl rfl ?_
  have e := tdiv4 n
  have hq : (n + 3) / 4 * 4 ≤ n + 3 := by omega
  generalize (n + 3) / 4 = q at *
  simp only [sf_xrup, putAll, wx, wy, wz, stV, seval, IntWalk.iteOmega, IntWalk.toNatUp, reduceCtorEq, e]
  exact ret_d1 (by simp only [wx, wy, wz, stV, seval, IntWalk.iteOmega, IntWalk.toNatUp, reduceCtorEq])
def sf_xsiz : SFn := ⟨1, 22,
  .seq (.reg [⟨(some 1), .box .roBox (.t 0), none⟩,
    ⟨(some 2), .mv (.k (.c (.d (.int .i64 0)))), none⟩,
    ⟨(some 3), .mv (.k (.c (.d (.int .i64 0)))), none⟩])
  (.seq (.seq (.reg [⟨(some 5), .fieldAddr 0 (.t 1), none⟩,
    ⟨(some 6), .load .sc (.t 5), none⟩,
    ⟨(some 7), .bin .lss (.t 6) (.k (.c (.d (.int .i64 0)))), none⟩,
    ⟨(some 8), .mv (.t 7), none⟩,
    ⟨(some 9), .fieldAddr 0 (.t 1), (some (8, false))⟩,
    ⟨(some 10), .load .sc (.t 9), (some (8, false))⟩,
    ⟨(some 11), .bin .gtr (.t 10) (.k (.c (.d (.int .i64 65535)))), (some (8, false))⟩,
    ⟨(some 12), .pick (.t 8) (.k (.c (.d (.bool true)))) (.t 11), none⟩])
  (.cond (.t 12) (.seq (.reg [⟨(some 2), .mv (.k (.c (.d (.int .i64 0)))), none⟩,
     ⟨(some 3), .mv (.k (.c (.d (.int .i64 4)))), none⟩])
   (.ret))
   (.skip)))
  (.seq (.reg [⟨(some 13), .fieldAddr 1 (.t 1), none⟩,
    ⟨(some 14), .load .sc (.t 13), none⟩,
    ⟨(some 15), .len (.t 14), none⟩,
    ⟨(some 16), .bin .add (.k (.c (.d (.int .i64 4)))) (.t 15), none⟩,
    ⟨(some 17), .call 28 [(.t 16)] none, none⟩,
    ⟨(some 18), .max [(.k (.c (.d (.int .i64 16)))), (.t 17)], none⟩,
    ⟨(some 4), .mv (.t 18), none⟩])
  (.seq (.seq (.reg [⟨(some 19), .mv (.t 4), none⟩,
    ⟨(some 20), .bin .gtr (.t 19) (.k (.c (.d (.int .i64 1232)))), none⟩])
  (.cond (.t 20) (.seq (.reg [⟨(some 2), .mv (.k (.c (.d (.int .i64 0)))), none⟩,
     ⟨(some 3), .mv (.k (.c (.d (.int .i64 2)))), none⟩])
   (.ret))
   (.skip)))
  (.seq (.reg [⟨(some 21), .mv (.t 4), none⟩,
    ⟨(some 2), .mv (.t 21), none⟩,
    ⟨(some 3), .mv (.k (.c (.d (.int .i64 0)))), none⟩])
  (.ret))))),
  [(2, none), (3, none)]⟩
theorem cf_xsiz : compFn Try.prog { own := [], comp := [], frz := [], nils := [] } Try.f9 = some sf_xsiz := by kernel_rfl
set_option maxHeartbeats 1600000 in
theorem xsiz_c (G : Glob) (f : Fd) (hd : f.da.length ≤ 8000000000000000000) : Den Try.prog G 9 [fdD f] (.tup [.c (.d (.int .i64 (xsN f : Int))), .c (.d (.int .i64 (xsE f)))]) := by
  refine den_walk Try.func9 cf_xsiz rfl rfl ?_
  unfold fdD
  rcases Int.lt_or_le f.ty 0 with h1 | h1
  · obtain ⟨e1, e2⟩ := xs_err (f := f) (.inl h1)
    rw [e1, e2]
    simp only [sf_xsiz, putAll, wx, wy, wz, stV, seval, IntWalk.iteOmega, IntWalk.toNatUp, reduceCtorEq]
    exact ret_d2 (by simp only [wx, wy, wz, stV, seval, IntWalk.iteOmega, IntWalk.toNatUp, reduceCtorEq]) (by simp only [wx, wy, wz, stV, seval, IntWalk.iteOmega, IntWalk.toNatUp, reduceCtorEq])
  · rcases Int.lt_or_le 65535 f.ty with h2 | h2
    · obtain ⟨e1, e2⟩ := xs_err (f := f) (.inr h2)
      rw [e1, e2]
      have g : (f.ty > 65535) = True := eq_true h2
      simp only [sf_xsiz, putAll, wx, wy, wz, stV, seval, IntWalk.iteOmega, IntWalk.toNatUp, reduceCtorEq, g]
      exact ret_d2 (by simp only [wx, wy, wz, stV, seval, IntWalk.iteOmega, IntWalk.toNatUp, reduceCtorEq]) (by simp only [wx, wy, wz, stV, seval, IntWalk.iteOmega, IntWalk.toNatUp, reduceCtorEq])
    · have c := xrup_c G (4 + f.da.length) (by omega)
      rw [show ((4 + f.da.length : Nat) : Int) = 4 + (f.da.length : Int) by omega] at c
      have g : (f.ty > 65535) = False := eq_false (by omega)
      rcases Nat.lt_or_ge 16 ((4 + f.da.length + 3) / 4 * 4) with h3 | h3
      · have hT := xsT_hi h3
        have hb : (4 + f.da.length + 3) / 4 * 4 ≤ 4 + f.da.length + 3 := by omega
        rcases Nat.lt_or_ge 1232 (xsT f) with h4 | h4
        · obtain ⟨e1, e2⟩ := xs_long h1 h2 h4
          rw [e1, e2]
          rw [hT] at h4
          generalize (4 + f.da.length + 3) / 4 * 4 = Y at *
          have g3 : ((Y : Int) > 16) = True := eq_true (by omega)
          have g4 : ((Y : Int) > 1232) = True := eq_true (by omega)
          simp only [sf_xsiz, putAll, wx, wy, wz, stV, seval, IntWalk.iteOmega, IntWalk.toNatUp, reduceCtorEq, g]
          refine st_call (c) rfl (.inl rfl) ?_
          simp only [g3, g4, List.foldl_cons, List.foldl_nil, wx, wy, wz, stV, seval, IntWalk.iteOmega, IntWalk.toNatUp, reduceCtorEq]
          exact ret_d2 (by simp only [wx, wy, wz, stV, seval, IntWalk.iteOmega, IntWalk.toNatUp, reduceCtorEq]) (by simp only [wx, wy, wz, stV, seval, IntWalk.iteOmega, IntWalk.toNatUp, reduceCtorEq])
        · obtain ⟨e1, e2⟩ := xs_fit h1 h2 h4
          rw [e1, e2, hT]
          rw [hT] at h4
          generalize (4 + f.da.length + 3) / 4 * 4 = Y at *
          have g3 : ((Y : Int) > 16) = True := eq_true (by omega)
          have g4 : ((Y : Int) > 1232) = False := eq_false (by omega)
          simp only [sf_xsiz, putAll, wx, wy, wz, stV, seval, IntWalk.iteOmega, IntWalk.toNatUp, reduceCtorEq, g]
          refine st_call (c) rfl (.inl rfl) ?_
          simp only [g3, g4, List.foldl_cons, List.foldl_nil, wx, wy, wz, stV, seval, IntWalk.iteOmega, IntWalk.toNatUp, reduceCtorEq]
          exact ret_d2 (by simp only [wx, wy, wz, stV, seval, IntWalk.iteOmega, IntWalk.toNatUp, reduceCtorEq]) (by simp only [wx, wy, wz, stV, seval, IntWalk.iteOmega, IntWalk.toNatUp, reduceCtorEq])
      · have hT := xsT_lo h3
        obtain ⟨e1, e2⟩ := xs_fit h1 h2 (by omega)
        rw [e1, e2, hT]
        generalize (4 + f.da.length + 3) / 4 * 4 = Y at *
        have g3 : ((Y : Int) > 16) = False := eq_false (by omega)
        simp only [sf_xsiz, putAll, wx, wy, wz, stV, seval, IntWalk.iteOmega, IntWalk.toNatUp, reduceCtorEq, g]
        refine st_call (c) rfl (.inl rfl) ?_
        simp only [g3, List.foldl_cons, List.foldl_nil, wx, wy, wz, stV, seval, IntWalk.iteOmega, IntWalk.toNatUp, reduceCtorEq]
        exact ret_d2 (by simp only [wx, wy, wz, stV, seval, IntWalk.iteOmega, IntWalk.toNatUp, reduceCtorEq]) (by simp only [wx, wy, wz, stV, seval, IntWalk.iteOmega, IntWalk.toNatUp, reduceCtorEq])
theorem putL_zero (n : Nat) : putL 0 n = List.replicate n 0 := by
  unfold putL
  refine List.ext_getElem (by simp) fun i i1 i2 => ?_
  simp
def sf_xbof : SFn := ⟨1, 30,
  .seq (.reg [⟨(some 1), .box .roBox (.t 0), none⟩,
    ⟨(some 2), .mv (.k (.c .nil)), none⟩])
  (.seq (.reg [⟨(some 7), .load (.ag 2) (.t 1), none⟩,
    ⟨(some 8), .call 9 [(.t 7)] none, none⟩,
    ⟨(some 6), .mv (.t 8), none⟩,
    ⟨(some 9), .extract (.t 6) 0, none⟩,
    ⟨(some 10), .extract (.t 6) 1, none⟩,
    ⟨(some 3), .mv (.t 9), none⟩,
    ⟨(some 4), .mv (.t 10), none⟩])
  (.seq (.reg [⟨(some 11), .mv (.t 3), none⟩,
    ⟨(some 12), .bin .sub (.t 11) (.k (.c (.d (.int .i64 4)))), none⟩,
    ⟨(some 13), .fieldAddr 1 (.t 1), none⟩,
    ⟨(some 14), .load .sc (.t 13), none⟩,
    ⟨(some 15), .len (.t 14), none⟩,
    ⟨(some 16), .bin .sub (.t 12) (.t 15), none⟩,
    ⟨(some 17), .call 40 [(.k (.c (.d (.int .u64 0)))), (.t 16)] none, none⟩,
    ⟨(some 5), .mv (.t 17), none⟩])
  (.seq (.reg [⟨(some 18), .fieldAddr 0 (.t 1), none⟩,
    ⟨(some 19), .load .sc (.t 18), none⟩,
    ⟨(some 20), .conv .u64 (.t 19), none⟩,
    ⟨(some 21), .call 40 [(.t 20), (.k (.c (.d (.int .i64 2))))] none, none⟩,
    ⟨(some 22), .mv (.t 3), none⟩,
    ⟨(some 23), .conv .u64 (.t 22), none⟩,
    ⟨(some 24), .call 40 [(.t 23), (.k (.c (.d (.int .i64 2))))] none, none⟩,
    ⟨(some 25), .fieldAddr 1 (.t 1), none⟩,
    ⟨(some 26), .load .sc (.t 25), none⟩,
    ⟨(some 27), .mv (.t 5), none⟩,
    ⟨(some 28), .bldSl false 4 1 (.sl []) [(0, (.t 21)), (1, (.t 24)), (2, (.t 26)), (3, (.t 27))], none⟩,
    ⟨(some 29), .call 34 [(.t 28)] (some (0, 1)), none⟩,
    ⟨(some 2), .mv (.t 29), none⟩])
  (.ret)))),
  [(2, none)]⟩
theorem cf_xbof : compFn Try.prog { own := [29], comp := [], frz := [], nils := [] } Try.f29 = some sf_xbof := by kernel_rfl
set_option maxHeartbeats 1600000 in
theorem xbof_f (G : Glob) (f : Fd) (h : xsE f = 0) : Den Try.prog G 29 [fdD f] (.w (.c (.fr 1 ((xfB f).map bD)))) := by
  refine den_walk Try.func29 cf_xbof rfl rfl ?_
  obtain ⟨h1, h2, h3⟩ := xsE_0 h
  have hl := xsT_len f
  have hp := xsT_pad f
  have c1 := xsiz_c G f (by omega)
  have eN : xsN f = xsT f := (xs_fit h1 h2 h3).2
  rw [h, eN] at c1
  have c2 := putk_c G 0 ((xsT f : Int) - 4 - (f.da.length : Int)) (by omega)
  rw [show ((xsT f : Int) - 4 - (f.da.length : Int)).toNat = xsT f - 4 - f.da.length by omega, putL_zero] at c2
  have c3 := putk_c G f.ty.toNat 2 (by decide)
  rw [show (2 : Int).toNat = 2 from rfl, show (f.ty.toNat : Int) = f.ty by omega] at c3
  have c4 := putk_c G (xsT f) 2 (by decide)
  rw [show (2 : Int).toNat = 2 from rfl] at c4
  have cj := join_c G [putL f.ty.toNat 2, putL (xsT f) 2, f.da, List.replicate (xsT f - 4 - f.da.length) 0] (by simp) (by simp [putL_length]; omega)
  have ef : ([putL f.ty.toNat 2, putL (xsT f) 2, f.da, List.replicate (xsT f - 4 - f.da.length) 0] : List (List UInt8)).flatten = xfB f := by
    unfold xfB
    simp only [List.flatten_cons, List.flatten_nil, List.append_nil]
  rw [ef] at cj
  have n0 : xsN f ≤ 1232 := by omega
  unfold fdD at *
  generalize xfB f = B at *
  generalize putL f.ty.toNat 2 = B1 at *
  generalize putL (xsT f) 2 = B2 at *
  generalize List.replicate (xsT f - 4 - f.da.length) (0 : UInt8) = B3 at *
  generalize f.da = da at *
  generalize f.ty = ty at *
  generalize xsT f = T at *
  simp only [List.map_cons, List.map_nil] at cj
  simp only [sf_xbof, putAll, wx, wy, wz, stV, seval, IntWalk.iteOmega, IntWalk.toNatUp, reduceCtorEq]
  refine st_call (c1) rfl (.inl rfl) ?_
  simp only [wx, wy, wz, stV, seval, IntWalk.iteOmega, IntWalk.toNatUp, reduceCtorEq]
  refine st_call (c2) rfl (.inl rfl) ?_
  simp only [wx, wy, wz, stV, seval, IntWalk.iteOmega, IntWalk.toNatUp, reduceCtorEq]
  refine st_call (c3) rfl (.inl rfl) ?_
  simp only [wx, wy, wz, stV, seval, IntWalk.iteOmega, IntWalk.toNatUp, reduceCtorEq]
  refine st_call (c4) rfl (.inl rfl) ?_
  simp only [wx, wy, wz, stV, seval, IntWalk.iteOmega, IntWalk.toNatUp, reduceCtorEq]
  refine st_call (cj) rfl (.inl rfl) ?_
  simp only [wx, wy, wz, stV, seval, IntWalk.iteOmega, IntWalk.toNatUp, reduceCtorEq]
  exact ret_f1 (by simp only [wx, wy, wz, stV, seval, IntWalk.iteOmega, IntWalk.toNatUp, reduceCtorEq])
theorem xeE_big {l : List Fd} (h0 : xfE l = 0) (h : 24 < l.length) : xeE l = 8 ∧ xeB l = [] := by
  have e : xeE l = 8 := by unfold xeE; rw [if_pos h0, if_pos h]
  exact ⟨e, by unfold xeB; rw [e]; rfl⟩
theorem xeE_long {l : List Fd} (h0 : xfE l = 0) (h : l.length ≤ 24) (h2 : 1232 < xtot l) : xeE l = 2 ∧ xeB l = [] := by
  have e : xeE l = 2 := by unfold xeE; rw [if_pos h0, if_neg (by omega), if_pos h2]
  exact ⟨e, by unfold xeB; rw [e]; rfl⟩
theorem xeE_fit {l : List Fd} (h0 : xfE l = 0) (h : l.length ≤ 24) (h2 : xtot l ≤ 1232) : xeE l = 0 ∧ xeB l = xall l := by
  have e : xeE l = 0 := by unfold xeE; rw [if_pos h0, if_neg (by omega), if_neg (by omega)]
  exact ⟨e, by unfold xeB; rw [if_pos e]⟩
theorem xeE_err {l : List Fd} {e : Int} (h0 : xfE l = e) (h : e ≠ 0) : xeE l = e ∧ xeB l = [] := by
  have e : xeE l = e := by unfold xeE; rw [h0, if_neg h]
  exact ⟨e, by unfold xeB; rw [e, if_neg h]⟩
theorem xfE_mem {l : List Fd} (h : xfE l = 0) {i : Nat} (hi : i < l.length) : xsE (l.getD i default) = 0 := xfE_0.1 h _ (getF_mem hi)
def xe1St (l : List Fd) (i : Nat) : St := ⟨ofL [(0, .w (.c (.d (.sl (l.map fdD))))), (4, .w (.c (.d (.int .i64 (xtot (l.take i) : Int))))), (12, .w (.c (.d (.sl (l.map fdD))))), (13, .w (.c (.d (.int .i64 (l.length : Int))))), (14, .w (.c (.d (.int .i64 (i : Int)))))], hL [], uL []⟩
def xe2St (l : List Fd) (i : Nat) : St := ⟨ofL [(9, .w (.c (.own 1 1 0 (xall (l.take i)).length))), (37, .w (.c (.d (.sl (l.map fdD))))), (38, .w (.c (.d (.int .i64 (l.length : Int))))), (39, .w (.c (.d (.int .i64 (i : Int)))))], hL [(1, .row 1 ((xall (l.take i)).map bD))], uL [1]⟩
def lp_xenc_0 : SCode :=
  .seq (.reg [⟨(some 15), .bin .lss (.t 14) (.t 13), none⟩])
  (.seq (.cond (.t 15) (.skip)
   (.exit 0))
  (.seq (.block 1 (.seq (.reg [⟨(some 16), .idxSl 2 (.t 12) (.t 14), none⟩,
     ⟨(some 17), .load (.ag 2) (.t 16), none⟩,
     ⟨(some 6), .alloc [(.d (.int .i64 0)), .nil], none⟩,
     ⟨none, .store (.ag 2) (.t 6) (.t 17), none⟩])
   (.seq (.reg [⟨(some 19), .load (.ag 2) (.t 6), none⟩,
     ⟨(some 20), .call 9 [(.t 19)] none, none⟩,
     ⟨(some 18), .mv (.t 20), none⟩,
     ⟨(some 21), .extract (.t 18) 0, none⟩,
     ⟨(some 22), .extract (.t 18) 1, none⟩,
     ⟨(some 7), .mv (.t 21), none⟩,
     ⟨(some 8), .mv (.t 22), none⟩])
   (.seq (.seq (.reg [⟨(some 23), .mv (.t 8), none⟩,
     ⟨(some 24), .bin .neq (.t 23) (.k (.c (.d (.int .i64 0)))), none⟩])
   (.cond (.t 24) (.seq (.reg [⟨(some 25), .mv (.t 8), none⟩,
      ⟨(some 2), .mv (.k (.c .nil)), none⟩,
      ⟨(some 3), .mv (.t 25), none⟩])
    (.ret))
    (.skip)))
   (.reg [⟨(some 26), .mv (.t 4), none⟩,
     ⟨(some 27), .mv (.t 7), none⟩,
     ⟨(some 28), .bin .add (.t 26) (.t 27), none⟩,
     ⟨(some 4), .mv (.t 28), none⟩])))))
  (.reg [⟨(some 29), .bin .add (.t 14) (.k (.c (.d (.int .i64 1)))), none⟩,
    ⟨(some 14), .mv (.t 29), none⟩])))
def lp_xenc_1 : SCode :=
  .seq (.reg [⟨(some 40), .bin .lss (.t 39) (.t 38), none⟩])
  (.seq (.cond (.t 40) (.skip)
   (.exit 2))
  (.seq (.block 3 (.seq (.reg [⟨(some 41), .idxSl 2 (.t 37) (.t 39), none⟩,
     ⟨(some 42), .load (.ag 2) (.t 41), none⟩,
     ⟨(some 11), .alloc [(.d (.int .i64 0)), .nil], none⟩,
     ⟨none, .store (.ag 2) (.t 11) (.t 42), none⟩])
   (.reg [⟨(some 43), .mv (.t 9), none⟩,
     ⟨(some 44), .load (.ag 2) (.t 11), none⟩,
     ⟨(some 45), .call 29 [(.t 44)] none, none⟩,
     ⟨(some 46), .app false 1 1 (.t 43) (.t 45), none⟩,
     ⟨(some 9), .mv (.t 46), none⟩])))
  (.reg [⟨(some 47), .bin .add (.t 39) (.k (.c (.d (.int .i64 1)))), none⟩,
    ⟨(some 39), .mv (.t 47), none⟩])))
def sf_xenc : SFn := ⟨1, 49,
  .seq (.reg [⟨(some 2), .mv (.k (.c .nil)), none⟩,
    ⟨(some 3), .mv (.k (.c (.d (.int .i64 0)))), none⟩])
  (.seq (.reg [⟨(some 4), .mv (.k (.c (.d (.int .i64 0)))), none⟩])
  (.seq (.seq (.reg [⟨(some 12), .mv (.t 0), none⟩,
    ⟨(some 13), .len (.t 12), none⟩,
    ⟨(some 14), .mv (.k (.c (.d (.int .i64 0)))), none⟩])
  (.block 0 (.loop lp_xenc_0)))
  (.seq (.seq (.reg [⟨(some 30), .mv (.t 0), none⟩,
    ⟨(some 31), .len (.t 30), none⟩,
    ⟨(some 32), .bin .gtr (.t 31) (.k (.c (.d (.int .i64 24)))), none⟩])
  (.cond (.t 32) (.seq (.reg [⟨(some 2), .mv (.k (.c .nil)), none⟩,
     ⟨(some 3), .mv (.k (.c (.d (.int .i64 8)))), none⟩])
   (.ret))
   (.skip)))
  (.seq (.seq (.reg [⟨(some 33), .mv (.t 4), none⟩,
    ⟨(some 34), .bin .gtr (.t 33) (.k (.c (.d (.int .i64 1232)))), none⟩])
  (.cond (.t 34) (.seq (.reg [⟨(some 2), .mv (.k (.c .nil)), none⟩,
     ⟨(some 3), .mv (.k (.c (.d (.int .i64 2)))), none⟩])
   (.ret))
   (.skip)))
  (.seq (.reg [⟨(some 35), .mv (.t 4), none⟩,
    ⟨(some 36), .make 1 1 (.int .u8 0) (.k (.c (.d (.int .i64 0)))) (.t 35), none⟩,
    ⟨(some 9), .mv (.t 36), none⟩])
  (.seq (.seq (.reg [⟨(some 37), .mv (.t 0), none⟩,
    ⟨(some 38), .len (.t 37), none⟩,
    ⟨(some 39), .mv (.k (.c (.d (.int .i64 0)))), none⟩])
  (.block 2 (.loop lp_xenc_1)))
  (.seq (.reg [⟨(some 48), .mv (.t 9), none⟩,
    ⟨(some 2), .mv (.t 48), none⟩,
    ⟨(some 3), .mv (.k (.c (.d (.int .i64 0)))), none⟩])
  (.ret)))))))),
  [(2, none), (3, none)]⟩
theorem cf_xenc : compFn Try.prog { own := [], comp := [], frz := [], nils := [] } Try.f11 = some sf_xenc := by kernel_rfl
set_option maxHeartbeats 3200000 in
theorem xenc_f (G : Glob) (l : List Fd) (hl : l.length ≤ 1000000) (hd : ∀ f ∈ l, f.da.length ≤ 8000000000000000000) : Den Try.prog G 11 [.sl (l.map fdD)] (.tup [.c (.fr 1 ((xeB l).map bD)), .c (.d (.int .i64 (xeE l)))]) := by
  refine den_walk Try.func11 cf_xenc rfl rfl ?_
  simp only [sf_xenc, putAll, wx, wy, wz, stV, seval, IntWalk.iteOmega, IntWalk.toNatUp, reduceCtorEq]
  refine loop_st (xe1St l) (fun i => l.length - i) (fun i => i ≤ l.length ∧ xfE (l.take i) = 0) 0 ⟨Nat.zero_le _, rfl⟩ ?_ ?_
  · refine ent_l (fun i => i) ?_ ?_ rfl rfl <;> simp only [wx, wex, wez, stV, seval, IntWalk.iteOmega, IntWalk.toNatUp, reduceCtorEq, xtot_nil]
  · rintro i ⟨hi, hok⟩
    have hb := xtot_bd (l.take i) (xfE_0.1 hok)
    rw [List.length_take, Nat.min_eq_left hi] at hb
    by_cases hlt : i < l.length
    · have g := getF hlt
      have c := xsiz_c G (l.getD i default) (hd _ (getF_mem hlt))
      have ht := xtot_take hlt
      have hf := xfE_take hlt hok
      by_cases he : xsE (l.getD i default) = 0
      · obtain ⟨q1, q2, q3⟩ := xsE_0 he
        have eN : xsN (l.getD i default) = xsT (l.getD i default) := (xs_fit q1 q2 q3).2
        rw [he, eN] at c
        rw [he] at hf
        unfold fdD at c
        generalize l.getD i default = x at *
        generalize xsT x = T at *
        simp only [lp_xenc_0, xe1St, wx, wy, wz, stV, seval, IntWalk.iteOmega, IntWalk.toNatUp, reduceCtorEq, get_map, g, fdD]
        refine st_call (c) rfl (.inl rfl) ?_
        simp only [wx, wy, wz, stV, seval, IntWalk.iteOmega, IntWalk.toNatUp, reduceCtorEq]
        refine lop_next (i + 1) (by omega) ⟨by omega, hf⟩ (ent_l (fun i => i) ?_ ?_ rfl rfl) <;> simp only [wx, wex, wez, stV, seval, IntWalk.iteOmega, IntWalk.toNatUp, reduceCtorEq, ht]
      · obtain ⟨e1, e2⟩ := xeE_err (xfE_stop hlt hok he) he
        have hne : (xsE (l.getD i default) = 0) = False := eq_false he
        rw [e1, e2]
        unfold fdD at c
        generalize xsE (l.getD i default) = e at *
        generalize xsN (l.getD i default) = n at *
        generalize l.getD i default = x at *
        simp only [lp_xenc_0, xe1St, wx, wy, wz, stV, seval, IntWalk.iteOmega, IntWalk.toNatUp, reduceCtorEq, get_map, g, fdD]
        refine st_call (c) rfl (.inl rfl) ?_
        simp only [hne, wx, wy, wz, stV, seval, IntWalk.iteOmega, IntWalk.toNatUp, reduceCtorEq]
        exact ret_f2 (by simp only [wx, wy, wz, stV, seval, IntWalk.iteOmega, IntWalk.toNatUp, reduceCtorEq]) (by simp only [wx, wy, wz, stV, seval, IntWalk.iteOmega, IntWalk.toNatUp, reduceCtorEq])
    · have hil : l.take i = l := List.take_of_length_le (by omega)
      rw [hil] at hok
      rcases Nat.lt_or_ge 24 l.length with h24 | h24
      · obtain ⟨e1, e2⟩ := xeE_big hok h24
        rw [e1, e2]
        have g1 : ((l.length : Int) > 24) = True := eq_true (by omega)
        simp only [lp_xenc_0, xe1St, wx, wy, wz, stV, seval, IntWalk.iteOmega, IntWalk.toNatUp, reduceCtorEq, g1]
        exact ret_f2 (by simp only [wx, wy, wz, stV, seval, IntWalk.iteOmega, IntWalk.toNatUp, reduceCtorEq]) (by simp only [wx, wy, wz, stV, seval, IntWalk.iteOmega, IntWalk.toNatUp, reduceCtorEq])
      · have g1 : ((l.length : Int) > 24) = False := eq_false (by omega)
        rcases Nat.lt_or_ge 1232 (xtot l) with h12 | h12
        · obtain ⟨e1, e2⟩ := xeE_long hok h24 h12
          rw [e1, e2]
          have g2 : ((xtot l : Int) > 1232) = True := eq_true (by omega)
          simp only [lp_xenc_0, xe1St, wx, wy, wz, stV, seval, IntWalk.iteOmega, IntWalk.toNatUp, reduceCtorEq, g1, hil, g2]
          exact ret_f2 (by simp only [wx, wy, wz, stV, seval, IntWalk.iteOmega, IntWalk.toNatUp, reduceCtorEq]) (by simp only [wx, wy, wz, stV, seval, IntWalk.iteOmega, IntWalk.toNatUp, reduceCtorEq])
        · obtain ⟨e1, e2⟩ := xeE_fit hok h24 h12
          rw [e1, e2]
          have g2 : ((xtot l : Int) > 1232) = False := eq_false (by omega)
          simp only [lp_xenc_0, xe1St, wx, wy, wz, stV, seval, IntWalk.iteOmega, IntWalk.toNatUp, reduceCtorEq, g1, hil, g2]
          refine loop_st (xe2St l) (fun i => l.length - i) (fun i => i ≤ l.length) 0 (Nat.zero_le _) ?_ ?_
          · refine ent_l (fun _ => 288) ?_ ?_ rfl rfl <;> simp only [wx, wex, wez, stV, seval, IntWalk.iteOmega, IntWalk.toNatUp, reduceCtorEq, xall_nil]
          · intro i hi
            by_cases hlt : i < l.length
            · have g := getF hlt
              have c := den_ro (xbof_f G (l.getD i default) (xfE_mem hok hlt))
              have ha := xall_take hlt
              have h1 := xall_len (l.take (i + 1))
              have h2 := xtot_le l (i + 1)
              rw [ha, List.length_append] at h1
              unfold fdD at c
              generalize l.getD i default = x at *
              generalize xfB x = B at *
              simp only [lp_xenc_1, xe2St, wx, wy, wz, stV, seval, IntWalk.iteOmega, IntWalk.toNatUp, reduceCtorEq, get_map, g, fdD]
              refine st_call (c) rfl (.inl rfl) ?_
              simp only [srcV, wx, wy, wz, stV, seval, IntWalk.iteOmega, IntWalk.toNatUp, reduceCtorEq]
              refine lop_next (i + 1) (by omega) (by omega) (ent_l (fun _ => 368) ?_ ?_ rfl rfl) <;> simp only [wx, wex, wez, stV, seval, IntWalk.iteOmega, IntWalk.toNatUp, reduceCtorEq, ha]
            · have hil : l.take i = l := List.take_of_length_le (by omega)
              simp only [lp_xenc_1, xe2St, wx, wy, wz, stV, seval, IntWalk.iteOmega, IntWalk.toNatUp, reduceCtorEq, hil]
              exact ret_f2 (by simp only [wx, wy, wz, stV, seval, IntWalk.iteOmega, IntWalk.toNatUp, reduceCtorEq]) (by simp only [wx, wy, wz, stV, seval, IntWalk.iteOmega, IntWalk.toNatUp, reduceCtorEq])
theorem xenc_c (G : Glob) (l : List Fd) (hl : l.length ≤ 1000000) (hd : ∀ f ∈ l, f.da.length ≤ 8000000000000000000) : Den Try.prog G 11 [.sl (l.map fdD)] (.tup [.c (.d (.sl ((xeB l).map bD))), .c (.d (.int .i64 (xeE l)))]) := den_ro2 (xenc_f G l hl hd)
end Go.Proofs.Ytldcgjhfaledfaa
