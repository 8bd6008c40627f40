/- Layer 17 on data: the fields that laws draw. Own work. -/
import Derived.Test.YtldcgjhfaledfaaPf2
import Derived.Test.YtldcgjhfaledfaaPw0
set_option linter.unusedVariables false
set_option linter.unusedSimpArgs false
namespace Go.Proofs.Ytldcgjhfaledfaa
open Go.RowKit

def sf_wfew : SFn := ⟨2, 14,
  .seq (.reg [⟨(some 4), .mv (.k (.c .nil)), none⟩])
  (.seq (.reg [⟨(some 5), .mv (.t 0), none⟩,
    ⟨(some 6), .mv (.t 0), none⟩,
    ⟨(some 7), .len (.t 6), none⟩,
    ⟨(some 8), .mv (.t 1), none⟩,
    ⟨(some 9), .max [(.t 8), (.k (.c (.d (.int .i64 0))))], none⟩,
    ⟨(some 10), .min [(.t 7), (.t 9)], none⟩,
    ⟨(some 11), .slice 1 (.t 5) none (some (.t 10)) none, none⟩,
    ⟨(some 12), .bldSl false 1 1 (.sl []) [(0, (.t 11))], none⟩,
    ⟨(some 13), .call 25 [(.t 12)] (some (0, 1)), none⟩,
    ⟨(some 4), .mv (.t 13), none⟩])
  (.ret)),
  [(4, none)]⟩
theorem cf_wfew : compFn Try.prog { own := [13], comp := [], frz := [], nils := [] } Try.f44 = some sf_wfew := by kernel_rfl
set_option maxHeartbeats 800000 in
theorem wfew_f (G : Glob) (l : List UInt8) (n : Nat) (hl : l.length ≤ 9223372036854775807) (hn : n ≤ 1000000) : Den Try.prog G 44 [.sl (l.map bD), .int .i64 (n : Int)] (.w (.c (.fr 1 ((l.take n).map bD)))) := by
  refine den_walk Try.func44 cf_wfew rfl rfl ?_
  have cj := rjoin_c G [l.take n] (by simp) (by simp; omega)
  simp only [List.map_cons, List.map_nil, List.flatten_cons, List.flatten_nil, List.append_nil] at cj
  rcases Nat.eq_zero_or_pos n with h0 | h0
  · subst h0
    have e1 : ((0 : Int) > ((0 : Nat) : Int)) = False := eq_false (by omega)
    have e2 : ((0 : Int) < (l.length : Int)) ∨ l.length = 0 := by omega
    rcases e2 with e2 | e2
    · simp only [sf_wfew, putAll, wx, wy, wz, stV, seval, IntWalk.iteOmega, IntWalk.toNatUp, reduceCtorEq, List.foldl_cons, List.foldl_nil]
      refine st_call cj (by simp only [wx, wy, wz, stV, seval, IntWalk.iteOmega, IntWalk.toNatUp, reduceCtorEq]) (.inl rfl) ?_
      simp only [wx, wy, wz, stV, seval, IntWalk.iteOmega, IntWalk.toNatUp, reduceCtorEq]
      exact ret_f1 (by simp only [wx, wy, wz, stV, seval, IntWalk.iteOmega, IntWalk.toNatUp, reduceCtorEq])
    · have hl0 : l = [] := List.length_eq_zero_iff.1 e2
      subst hl0
      simp only [sf_wfew, putAll, wx, wy, wz, stV, seval, IntWalk.iteOmega, IntWalk.toNatUp, reduceCtorEq, List.foldl_cons, List.foldl_nil]
      refine st_call cj (by simp only [wx, wy, wz, stV, seval, IntWalk.iteOmega, IntWalk.toNatUp, reduceCtorEq]) (.inl rfl) ?_
      simp only [wx, wy, wz, stV, seval, IntWalk.iteOmega, IntWalk.toNatUp, reduceCtorEq]
      exact ret_f1 (by simp only [wx, wy, wz, stV, seval, IntWalk.iteOmega, IntWalk.toNatUp, reduceCtorEq])
  · have e1 : ((0 : Int) > (n : Int)) = False := eq_false (by omega)
    rcases Nat.lt_or_ge n l.length with h1 | h1
    · simp only [sf_wfew, putAll, wx, wy, wz, stV, seval, IntWalk.iteOmega, IntWalk.toNatUp, reduceCtorEq, e1, List.foldl_cons, List.foldl_nil]
      refine st_call cj (by simp only [wx, wy, wz, stV, seval, IntWalk.iteOmega, IntWalk.toNatUp, reduceCtorEq]) (.inl rfl) ?_
      simp only [wx, wy, wz, stV, seval, IntWalk.iteOmega, IntWalk.toNatUp, reduceCtorEq]
      exact ret_f1 (by simp only [wx, wy, wz, stV, seval, IntWalk.iteOmega, IntWalk.toNatUp, reduceCtorEq])
    · have e3 : l.take n = l := List.take_of_length_le h1
      rw [e3] at cj ⊢
      simp only [sf_wfew, putAll, wx, wy, wz, stV, seval, IntWalk.iteOmega, IntWalk.toNatUp, reduceCtorEq, e1, List.foldl_cons, List.foldl_nil]
      refine st_call cj (by simp only [wx, wy, wz, stV, seval, IntWalk.iteOmega, IntWalk.toNatUp, reduceCtorEq]) (.inl rfl) ?_
      simp only [wx, wy, wz, stV, seval, IntWalk.iteOmega, IntWalk.toNatUp, reduceCtorEq]
      exact ret_f1 (by simp only [wx, wy, wz, stV, seval, IntWalk.iteOmega, IntWalk.toNatUp, reduceCtorEq])
def kndZ (n : Int) : Int := ([260, 516, 772, 8192] : List Int).getD n.toNat 0
def wfF (f : Fd) : Fd := ⟨kndZ (withinN f.ty 4), f.da.take 60⟩
def wfL (l : List Fd) : List Fd := (l.take 4).map wfF
theorem kndZ_in (v : Int) : kndZ (withinN v 4) = 260 ∨ kndZ (withinN v 4) = 516 ∨ kndZ (withinN v 4) = 772 ∨ kndZ (withinN v 4) = 8192 := by
  obtain ⟨h1, h2⟩ := withinN_range v 4 (by decide)
  generalize withinN v 4 = n at *
  have : n = 0 ∨ n = 1 ∨ n = 2 ∨ n = 3 := by omega
  rcases this with rfl | rfl | rfl | rfl <;> decide
theorem kndZ_get {n : Int} (h1 : 0 ≤ n) (h2 : n < 4) : ([.int .i64 260, .int .i64 516, .int .i64 772, .int .i64 8192] : List D)[n.toNat]? = some (.int .i64 (kndZ n)) := by
  have : n = 0 ∨ n = 1 ∨ n = 2 ∨ n = 3 := by omega
  rcases this with rfl | rfl | rfl | rfl <;> rfl
def sf_wfld : SFn := ⟨3, 16,
  .seq (.reg [⟨(some 6), .alloc [(.d (.int .i64 0)), .nil], none⟩])
  (.seq (.reg [⟨(some 7), .bldSl false 4 1 (.int .i64 0) [(0, (.k (.c (.d (.int .i64 260))))), (1, (.k (.c (.d (.int .i64 516))))), (2, (.k (.c (.d (.int .i64 772))))), (3, (.k (.c (.d (.int .i64 8192)))))], none⟩,
    ⟨(some 8), .mv (.t 0), none⟩,
    ⟨(some 9), .call 26 [(.t 8), (.k (.c (.d (.int .i64 4))))] none, none⟩,
    ⟨(some 10), .idxSl 1 (.t 7) (.t 9), none⟩,
    ⟨(some 11), .load .sc (.t 10), none⟩,
    ⟨(some 12), .mv (.t 1), none⟩,
    ⟨(some 13), .mv (.t 2), none⟩,
    ⟨(some 14), .call 44 [(.t 12), (.t 13)] none, none⟩,
    ⟨(some 15), .build [(.d (.int .i64 0)), .nil] [(0, 1, (.t 11)), (1, 1, (.t 14))], none⟩,
    ⟨none, .store (.ag 2) (.t 6) (.t 15), none⟩])
  (.ret)),
  [(6, (some (.ag 2)))]⟩
theorem cf_wfld : compFn Try.prog { own := [], comp := [], frz := [], nils := [] } Try.f38 = some sf_wfld := by kernel_rfl
set_option maxHeartbeats 800000 in
theorem wfld_c (G : Glob) (f : Fd) (hl : f.da.length ≤ 9223372036854775807) : Den Try.prog G 38 [.int .i64 f.ty, .sl (f.da.map bD), .int .i64 60] (.w (.c (.d (fdD (wfF f))))) := by
  refine den_walk Try.func38 cf_wfld rfl rfl ?_
  have c1 := within_c G f.ty 4 (by decide)
  obtain ⟨h1, h2⟩ := withinN_range f.ty 4 (by decide)
  have c2 := den_ro (wfew_f G f.da 60 hl (by decide))
  rw [show ((60 : Nat) : Int) = 60 from rfl] at c2
  unfold wfF fdD
  dsimp only
  have g := kndZ_get h1 h2
  generalize withinN f.ty 4 = n at *
  generalize f.da.take 60 = B at *
  simp only [sf_wfld, putAll, wx, wy, wz, stV, seval, IntWalk.iteOmega, IntWalk.toNatUp, reduceCtorEq]
  refine st_call (c1) rfl (.inl rfl) ?_
  simp only [g, wx, wy, wz, stV, seval, IntWalk.iteOmega, IntWalk.toNatUp, reduceCtorEq]
  refine st_call (c2) rfl (.inl rfl) ?_
  simp only [wx, wy, wz, stV, seval, IntWalk.iteOmega, IntWalk.toNatUp, reduceCtorEq]
  exact ret_d1 (by simp only [wx, wy, wz, stV, seval, IntWalk.iteOmega, IntWalk.toNatUp, reduceCtorEq])
def wfsSt (l : List Fd) (i : Nat) : St := ⟨ofL [(0, .w (.c (.d (.sl (l.map fdD))))), (3, .w (.c (.own 1 2 0 (wfL (l.take i)).length))), (4, .w (.c (.d (.int .i64 (i : Int)))))], hL [(1, .row 2 ((wfL (l.take i)).map fdD))], uL [1]⟩
theorem wfL_len (l : List Fd) : (wfL l).length = min 4 l.length := by simp [wfL]
theorem wfL_take {l : List Fd} {i : Nat} (h : i < l.length) (h4 : i < 4) : wfL (l.take (i + 1)) = wfL (l.take i) ++ [wfF (l.getD i default)] := by
  unfold wfL
  have e1 : (l.take i ++ [l.getD i default]).take 4 = l.take i ++ [l.getD i default] := List.take_of_length_le (by simp; omega)
  have e2 : (l.take i).take 4 = l.take i := List.take_of_length_le (by simp; omega)
  rw [take_snoc h, e1, e2, List.map_append]
  rfl
theorem wfL_all {l : List Fd} {i : Nat} (h : i ≤ l.length) (h2 : l.length ≤ i ∨ 4 ≤ i) : wfL (l.take i) = wfL l := by
  unfold wfL
  rw [List.take_take]
  rcases h2 with h2 | h2
  · rw [show i = l.length by omega, ← List.take_take, List.take_length]
  · rw [Nat.min_eq_left h2]
def lp_wfds_0 : SCode :=
  .seq (.seq (.reg [⟨(some 5), .mv (.t 4), none⟩,
    ⟨(some 6), .mv (.t 0), none⟩,
    ⟨(some 7), .len (.t 6), none⟩,
    ⟨(some 8), .bin .lss (.t 5) (.t 7), none⟩,
    ⟨(some 9), .mv (.t 8), none⟩,
    ⟨(some 10), .mv (.t 4), (some (9, true))⟩,
    ⟨(some 11), .bin .lss (.t 10) (.k (.c (.d (.int .i64 4)))), (some (9, true))⟩,
    ⟨(some 12), .pick (.t 9) (.t 11) (.k (.c (.d (.bool false)))), none⟩])
  (.cond (.t 12) (.skip)
   (.exit 0)))
  (.seq (.block 1 (.reg [⟨(some 15), .mv (.t 3), none⟩,
     ⟨(some 16), .mv (.t 0), none⟩,
     ⟨(some 17), .mv (.t 4), none⟩,
     ⟨(some 18), .idxSl 2 (.t 16) (.t 17), none⟩,
     ⟨(some 19), .fieldAddr 0 (.t 18), none⟩,
     ⟨(some 20), .load .sc (.t 19), none⟩,
     ⟨(some 21), .mv (.t 0), none⟩,
     ⟨(some 22), .mv (.t 4), none⟩,
     ⟨(some 23), .idxSl 2 (.t 21) (.t 22), none⟩,
     ⟨(some 24), .fieldAddr 1 (.t 23), none⟩,
     ⟨(some 25), .load .sc (.t 24), none⟩,
     ⟨(some 26), .call 38 [(.t 20), (.t 25), (.k (.c (.d (.int .i64 60))))] none, none⟩,
     ⟨(some 27), .bldSl false 1 2 (.agg [(.int .i64 0), (.sl [])]) [(0, (.t 26))], none⟩,
     ⟨(some 28), .app false 2 32 (.t 15) (.t 27), none⟩,
     ⟨(some 3), .mv (.t 28), none⟩]))
  (.reg [⟨(some 13), .mv (.t 4), none⟩,
    ⟨(some 14), .bin .add (.t 13) (.k (.c (.d (.int .i64 1)))), none⟩,
    ⟨(some 4), .mv (.t 14), none⟩]))
def sf_wfds : SFn := ⟨1, 30,
  .seq (.reg [⟨(some 2), .mv (.k (.c .nil)), none⟩])
  (.seq (.reg [⟨(some 3), .nilOwn 2, none⟩])
  (.seq (.seq (.reg [⟨(some 4), .mv (.k (.c (.d (.int .i64 0)))), none⟩])
  (.block 0 (.loop lp_wfds_0)))
  (.seq (.reg [⟨(some 29), .mv (.t 3), none⟩,
    ⟨(some 2), .mv (.t 29), none⟩])
  (.ret)))),
  [(2, none)]⟩
theorem cf_wfds : compFn Try.prog { own := [3], comp := [], frz := [], nils := [] } Try.f23 = some sf_wfds := by kernel_rfl
set_option maxHeartbeats 1600000 in
theorem wfds_c (G : Glob) (l : List Fd) (hl : l.length ≤ 9223372036854775807) (hd : ∀ f ∈ l, f.da.length ≤ 9223372036854775807) : Den Try.prog G 23 [.sl (l.map fdD)] (.w (.c (.d (.sl ((wfL l).map fdD))))) := by
  refine den_walk Try.func23 cf_wfds rfl rfl ?_
  have e0 : wfL (l.take 0) = [] := rfl
  have e00 : wfL [] = [] := rfl
  simp only [sf_wfds, putAll, wx, wy, wz, stV, seval, IntWalk.iteOmega, IntWalk.toNatUp, reduceCtorEq]
  refine loop_st (wfsSt l) (fun i => 4 - i) (fun i => i ≤ l.length ∧ i ≤ 4) 0 ⟨Nat.zero_le _, Nat.zero_le _⟩ ?_ ?_
  · refine ent_l (fun i => 24) ?_ ?_ rfl rfl <;> simp only [wx, wex, wez, stV, seval, IntWalk.iteOmega, IntWalk.toNatUp, reduceCtorEq, e0, e00]
  · rintro i ⟨hi, hi4⟩
    by_cases hlt : i < l.length
    · by_cases h4 : i < 4
      · have g := getF hlt
        have hs := wfL_take hlt h4
        have hn := wfL_len (l.take i)
        have c := wfld_c G (l.getD i default) (hd _ (getF_mem hlt))
        have az := allSz_fd (wfL (l.take i))
        have hw : (wfL (l.take i)).length ≤ 4 := by omega
        have est : wfsSt l i = ⟨ofL [(0, .w (.c (.d (.sl (l.map fdD))))), (3, .w (.c (.own 1 2 0 (wfL (l.take i)).length))), (4, .w (.c (.d (.int .i64 (i : Int)))))], hL [(1, .row 2 ((wfL (l.take i)).map fdD))], uL [1]⟩ := rfl
        rw [est]
        generalize wfL (l.take i) = W at *
        generalize l.getD i default = x at *
        generalize wfF x = y at *
        simp only [lp_wfds_0, wx, wy, wz, stV, seval, IntWalk.iteOmega, IntWalk.toNatUp, reduceCtorEq, get_map, g, fdD]
        refine st_call c rfl (.inl rfl) ?_
        simp only [wx, wy, wz, stV, seval, IntWalk.iteOmega, IntWalk.toNatUp, reduceCtorEq, srcV, fdD_cells, fdD]
        refine lop_next (i + 1) (by omega) (by omega) (ent_l (fun _ => 224) ?_ ?_ rfl rfl) <;> simp only [hs, List.map_append, fdD, wx, wex, wez, stV, seval, IntWalk.iteOmega, IntWalk.toNatUp, reduceCtorEq]
      · have e := wfL_all hi (.inr (by omega))
        have g4 : ((i : Int) < 4) = False := eq_false (by omega)
        simp only [lp_wfds_0, wfsSt, wx, wy, wz, stV, seval, IntWalk.iteOmega, IntWalk.toNatUp, reduceCtorEq, e, g4]
        exact ret_d1 (by simp only [wx, wy, wz, stV, seval, IntWalk.iteOmega, IntWalk.toNatUp, reduceCtorEq])
    · have e := wfL_all hi (.inl (by omega))
      simp only [lp_wfds_0, wfsSt, wx, wy, wz, stV, seval, IntWalk.iteOmega, IntWalk.toNatUp, reduceCtorEq, e]
      exact ret_d1 (by simp only [wx, wy, wz, stV, seval, IntWalk.iteOmega, IntWalk.toNatUp, reduceCtorEq])
/-! ### With zeros behind the data -/
def wpdSt (f : Fd) (j : Nat) : St := ⟨ofL [(2, .w (.c (.ptr 3 1 0 0))), (3, .w (.c (.ptr 1 1 0 0)))], hL [(1, .box [.d (.int .i64 f.ty), .own 2 1 0 (f.da ++ List.replicate j 0).length]), (2, .row 1 ((f.da ++ List.replicate j 0).map bD)), (3, .box [.d (.int .i64 0), .nil])], uL [1, 2, 3]⟩
theorem pad_go {f : Fd} {j : Nat} (h : j < xsT f - 4 - f.da.length) : (4 + (f.da.length + j)) % 4 ≠ 0 ∨ f.da.length + j < 12 := by
  unfold xsT at h; omega
theorem pad_end {f : Fd} {j : Nat} (h : j = xsT f - 4 - f.da.length) : (4 + (f.da.length + j)) % 4 = 0 ∧ 12 ≤ f.da.length + j := by
  unfold xsT at h; omega
def lp_wpad_0 : SCode :=
  .seq (.seq (.reg [⟨(some 11), .fieldAddr 1 (.t 3), none⟩,
    ⟨(some 12), .load .sc (.t 11), none⟩,
    ⟨(some 13), .len (.t 12), none⟩,
    ⟨(some 14), .bin .add (.k (.c (.d (.int .i64 4)))) (.t 13), none⟩,
    ⟨(some 15), .bin .rem (.t 14) (.k (.c (.d (.int .i64 4)))), none⟩,
    ⟨(some 16), .bin .neq (.t 15) (.k (.c (.d (.int .i64 0)))), none⟩,
    ⟨(some 17), .mv (.t 16), none⟩,
    ⟨(some 18), .fieldAddr 1 (.t 3), (some (17, false))⟩,
    ⟨(some 19), .load .sc (.t 18), (some (17, false))⟩,
    ⟨(some 20), .len (.t 19), (some (17, false))⟩,
    ⟨(some 21), .bin .lss (.t 20) (.k (.c (.d (.int .i64 12)))), (some (17, false))⟩,
    ⟨(some 22), .pick (.t 17) (.k (.c (.d (.bool true)))) (.t 21), none⟩])
  (.cond (.t 22) (.skip)
   (.exit 0)))
  (.block 1 (.reg [⟨(some 23), .fieldAddr 1 (.t 3), none⟩,
     ⟨(some 24), .load .sc (.t 23), none⟩,
     ⟨(some 25), .bldSl false 1 1 (.int .u8 0) [(0, (.k (.c (.d (.int .u8 0)))))], none⟩,
     ⟨(some 26), .app false 1 1 (.t 24) (.t 25), none⟩,
     ⟨(some 27), .fieldAddr 1 (.t 3), none⟩,
     ⟨none, .store .sc (.t 27) (.t 26), none⟩]))
def sf_wpad : SFn := ⟨1, 29,
  .seq (.reg [⟨(some 1), .box .roBox (.t 0), none⟩,
    ⟨(some 2), .alloc [(.d (.int .i64 0)), .nil], none⟩])
  (.seq (.reg [⟨(some 4), .fieldAddr 0 (.t 1), none⟩,
    ⟨(some 5), .load .sc (.t 4), none⟩,
    ⟨(some 6), .fieldAddr 1 (.t 1), none⟩,
    ⟨(some 7), .load .sc (.t 6), none⟩,
    ⟨(some 8), .bldSl false 1 1 (.sl []) [(0, (.t 7))], none⟩,
    ⟨(some 9), .call 25 [(.t 8)] (some (0, 1)), none⟩,
    ⟨(some 10), .build [(.d (.int .i64 0)), .nil] [(0, 1, (.t 5)), (1, 1, (.t 9))], none⟩,
    ⟨(some 3), .alloc [(.d (.int .i64 0)), .nil], none⟩,
    ⟨none, .store (.ag 2) (.t 3) (.t 10), none⟩])
  (.seq (.block 0 (.loop lp_wpad_0))
  (.seq (.reg [⟨(some 28), .load (.ag 2) (.t 3), none⟩,
    ⟨none, .store (.ag 2) (.t 2) (.t 28), none⟩])
  (.ret)))),
  [(2, (some (.ag 2)))]⟩
theorem cf_wpad : compFn Try.prog { own := [9], comp := [], frz := [], nils := [] } Try.f39 = some sf_wpad := by kernel_rfl
set_option maxHeartbeats 1600000 in
theorem wpad_c (G : Glob) (f : Fd) (hl : f.da.length ≤ 1000000) : Den Try.prog G 39 [fdD f] (.w (.c (.d (fdD (padF f))))) := by
  refine den_walk Try.func39 cf_wpad rfl rfl ?_
  have cj := rjoin_c G [f.da] (by simp) (by simp; omega)
  simp only [List.map_cons, List.map_nil, List.flatten_cons, List.flatten_nil, List.append_nil] at cj
  unfold fdD
  simp only [sf_wpad, putAll, wx, wy, wz, stV, seval, IntWalk.iteOmega, IntWalk.toNatUp, reduceCtorEq]
  refine st_call cj (by simp only [wx, wy, wz, stV, seval, IntWalk.iteOmega, IntWalk.toNatUp, reduceCtorEq]) (.inl rfl) ?_
  simp only [wx, wy, wz, stV, seval, IntWalk.iteOmega, IntWalk.toNatUp, reduceCtorEq]
  refine loop_st (wpdSt f) (fun j => xsT f - 4 - f.da.length - j) (fun j => j ≤ xsT f - 4 - f.da.length) 0 (Nat.zero_le _) ?_ ?_
  · refine ent_l (fun i => if i = 1 then 24 else if i = 2 then 72 else 16) ?_ ?_ rfl rfl <;> simp only [wx, wex, wez, stV, seval, IntWalk.iteOmega, IntWalk.toNatUp, reduceCtorEq]
  · intro j hj
    have hp := xsT_pad f
    have hlen : (f.da ++ List.replicate j (0 : UInt8)).length = f.da.length + j := by simp
    by_cases hlt : j < xsT f - 4 - f.da.length
    · have hg := pad_go hlt
      have hm : Int.tmod (4 + ((f.da.length + j : Nat) : Int)) 4 = (((4 + (f.da.length + j)) % 4 : Nat) : Int) := tmod4 (4 + (f.da.length + j))
      have hr : f.da ++ List.replicate (j + 1) (0 : UInt8) = (f.da ++ List.replicate j 0) ++ [0] := by rw [List.replicate_succ', List.append_assoc]
      have est : wpdSt f j = ⟨ofL [(2, .w (.c (.ptr 3 1 0 0))), (3, .w (.c (.ptr 1 1 0 0)))], hL [(1, .box [.d (.int .i64 f.ty), .own 2 1 0 (f.da ++ List.replicate j 0).length]), (2, .row 1 ((f.da ++ List.replicate j 0).map bD)), (3, .box [.d (.int .i64 0), .nil])], uL [1, 2, 3]⟩ := rfl
      rw [est]
      rw [← hlen] at hg hm
      have hnx : ∀ E : List UInt8, E = f.da ++ List.replicate j 0 → ((E.length : Nat) : Int) ≤ 1000012 ∧ True := fun E h => ⟨by rw [h, hlen]; omega, trivial⟩
      generalize hC : f.da ++ List.replicate j (0 : UInt8) = E at *
      have hE := (hnx E rfl).1
      clear hnx
      by_cases h4 : (4 + E.length) % 4 = 0
      · have g1 : (((4 + E.length) % 4 : Nat) : Int) = 0 := by omega
        have g2 : (E.length : Int) < 12 := by omega
        rw [g1] at hm
        simp only [lp_wpad_0, wx, wy, wz, stV, seval, IntWalk.iteOmega, IntWalk.toNatUp, reduceCtorEq, hm, srcV]
        refine lop_next (j + 1) (by omega) (by omega) (ent_l (fun i => if i = 1 then 1 else if i = 2 then 208 else 3) ?_ ?_ rfl rfl) <;> simp only [hr, List.map_append, bD, wx, wex, wez, stV, seval, IntWalk.iteOmega, IntWalk.toNatUp, reduceCtorEq]
        all_goals rfl
      · have g1 : ((((4 + E.length) % 4 : Nat) : Int) = 0) = False := eq_false (by omega)
        simp only [lp_wpad_0, wx, wy, wz, stV, seval, IntWalk.iteOmega, IntWalk.toNatUp, reduceCtorEq, hm, g1, srcV]
        refine lop_next (j + 1) (by omega) (by omega) (ent_l (fun i => if i = 1 then 1 else if i = 2 then 208 else 3) ?_ ?_ rfl rfl) <;> simp only [hr, List.map_append, bD, wx, wex, wez, stV, seval, IntWalk.iteOmega, IntWalk.toNatUp, reduceCtorEq]
        all_goals rfl
    · have hje : j = xsT f - 4 - f.da.length := by omega
      obtain ⟨g1, g2⟩ := pad_end hje
      have hm : Int.tmod (4 + ((f.da.length + j : Nat) : Int)) 4 = (((4 + (f.da.length + j)) % 4 : Nat) : Int) := tmod4 (4 + (f.da.length + j))
      rw [g1] at hm
      have est : wpdSt f j = ⟨ofL [(2, .w (.c (.ptr 3 1 0 0))), (3, .w (.c (.ptr 1 1 0 0)))], hL [(1, .box [.d (.int .i64 f.ty), .own 2 1 0 (f.da ++ List.replicate j 0).length]), (2, .row 1 ((f.da ++ List.replicate j 0).map bD)), (3, .box [.d (.int .i64 0), .nil])], uL [1, 2, 3]⟩ := rfl
      rw [est]
      unfold padF
      rw [← hje]
      rw [← hlen] at g2 hm
      generalize hC : f.da ++ List.replicate j (0 : UInt8) = E at *
      have g3 : (12 : Int) ≤ (E.length : Int) := by omega
      simp only [lp_wpad_0, wx, wy, wz, stV, seval, IntWalk.iteOmega, IntWalk.toNatUp, reduceCtorEq, hm, srcV]
      exact ret_d1 (by simp only [wx, wy, wz, stV, seval, IntWalk.iteOmega, IntWalk.toNatUp, reduceCtorEq])
def wpsSt (l : List Fd) (i : Nat) : St := ⟨ofL [(0, .w (.c (.d (.sl (l.map fdD))))), (3, .w (.c (.own 1 2 0 ((l.take i).map padF).length))), (4, .w (.c (.d (.int .i64 (i : Int)))))], hL [(1, .row 2 (((l.take i).map padF).map fdD))], uL [1]⟩
def lp_wpds_0 : SCode :=
  .seq (.seq (.reg [⟨(some 5), .mv (.t 4), none⟩,
    ⟨(some 6), .mv (.t 0), none⟩,
    ⟨(some 7), .len (.t 6), none⟩,
    ⟨(some 8), .bin .lss (.t 5) (.t 7), none⟩])
  (.cond (.t 8) (.skip)
   (.exit 0)))
  (.seq (.block 1 (.reg [⟨(some 11), .mv (.t 3), none⟩,
     ⟨(some 12), .mv (.t 0), none⟩,
     ⟨(some 13), .mv (.t 4), none⟩,
     ⟨(some 14), .idxSl 2 (.t 12) (.t 13), none⟩,
     ⟨(some 15), .load (.ag 2) (.t 14), none⟩,
     ⟨(some 16), .call 39 [(.t 15)] none, none⟩,
     ⟨(some 17), .bldSl false 1 2 (.agg [(.int .i64 0), (.sl [])]) [(0, (.t 16))], none⟩,
     ⟨(some 18), .app false 2 32 (.t 11) (.t 17), none⟩,
     ⟨(some 3), .mv (.t 18), none⟩]))
  (.reg [⟨(some 9), .mv (.t 4), none⟩,
    ⟨(some 10), .bin .add (.t 9) (.k (.c (.d (.int .i64 1)))), none⟩,
    ⟨(some 4), .mv (.t 10), none⟩]))
def sf_wpds : SFn := ⟨1, 20,
  .seq (.reg [⟨(some 2), .mv (.k (.c .nil)), none⟩])
  (.seq (.reg [⟨(some 3), .nilOwn 2, none⟩])
  (.seq (.seq (.reg [⟨(some 4), .mv (.k (.c (.d (.int .i64 0)))), none⟩])
  (.block 0 (.loop lp_wpds_0)))
  (.seq (.reg [⟨(some 19), .mv (.t 3), none⟩,
    ⟨(some 2), .mv (.t 19), none⟩])
  (.ret)))),
  [(2, none)]⟩
theorem cf_wpds : compFn Try.prog { own := [3], comp := [], frz := [], nils := [] } Try.f24 = some sf_wpds := by kernel_rfl
set_option maxHeartbeats 1600000 in
theorem wpds_c (G : Glob) (l : List Fd) (hl : l.length ≤ 1000000) (hd : ∀ f ∈ l, f.da.length ≤ 1000000) : Den Try.prog G 24 [.sl (l.map fdD)] (.w (.c (.d (.sl ((l.map padF).map fdD))))) := by
  refine den_walk Try.func24 cf_wpds rfl rfl ?_
  have e0 : l.take 0 = [] := rfl
  simp only [sf_wpds, putAll, wx, wy, wz, stV, seval, IntWalk.iteOmega, IntWalk.toNatUp, reduceCtorEq]
  refine loop_st (wpsSt l) (fun i => l.length - i) (fun i => i ≤ l.length) 0 (Nat.zero_le _) ?_ ?_
  · refine ent_l (fun i => 24) ?_ ?_ rfl rfl <;> simp only [wx, wex, wez, stV, seval, IntWalk.iteOmega, IntWalk.toNatUp, reduceCtorEq, e0]
  · intro i hi
    by_cases hlt : i < l.length
    · have g := getF hlt
      have hs : (l.take (i + 1)).map padF = (l.take i).map padF ++ [padF (l.getD i default)] := by rw [take_snoc hlt, List.map_append]; rfl
      have hn : ((l.take i).map padF).length = i := by simp; omega
      have c := wpad_c G (l.getD i default) (hd _ (getF_mem hlt))
      have az := allSz_fd ((l.take i).map padF)
      have est : wpsSt l i = ⟨ofL [(0, .w (.c (.d (.sl (l.map fdD))))), (3, .w (.c (.own 1 2 0 ((l.take i).map padF).length))), (4, .w (.c (.d (.int .i64 (i : Int)))))], hL [(1, .row 2 (((l.take i).map padF).map fdD))], uL [1]⟩ := rfl
      rw [est]
      generalize (l.take i).map padF = W at *
      generalize l.getD i default = x at *
      generalize padF x = y at *
      unfold fdD at c
      simp only [lp_wpds_0, wx, wy, wz, stV, seval, IntWalk.iteOmega, IntWalk.toNatUp, reduceCtorEq, get_map, g, fdD]
      refine st_call c rfl (.inl rfl) ?_
      simp only [wx, wy, wz, stV, seval, IntWalk.iteOmega, IntWalk.toNatUp, reduceCtorEq, srcV]
      refine lop_next (i + 1) (by omega) (by omega) (ent_l (fun _ => 144) ?_ ?_ rfl rfl) <;> simp only [hs, List.map_append, fdD, wx, wex, wez, stV, seval, IntWalk.iteOmega, IntWalk.toNatUp, reduceCtorEq]
    · have e : l.take i = l := List.take_of_length_le (by omega)
      simp only [lp_wpds_0, wpsSt, wx, wy, wz, stV, seval, IntWalk.iteOmega, IntWalk.toNatUp, reduceCtorEq, e]
      exact ret_d1 (by simp only [wx, wy, wz, stV, seval, IntWalk.iteOmega, IntWalk.toNatUp, reduceCtorEq])
end Go.Proofs.Ytldcgjhfaledfaa
