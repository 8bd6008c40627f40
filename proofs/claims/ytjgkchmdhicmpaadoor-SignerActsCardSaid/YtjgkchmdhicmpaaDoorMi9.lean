/- Texts of one's own, merged: from: Layer 1 on data: Put, Get, Same, Join, Hex: what they return. Own work. -/
import Derived.Test.YtjgkchmdhicmpaaDoorProg
import Derived.Test.YtjgkchmdhicmpaaDoorMi6
set_option linter.unusedVariables false
set_option linter.unusedSimpArgs false
namespace Go.Proofs.YtjgkchmdhicmpaaDoor
open Go.RowKit

/-! ### Stores of bytes and words -/
theorem stO_bs {l : List UInt8} {i : Nat} {x : D} (hi : i < l.length) (hx : x.one = true) : stO .sc (.c (.d x)) i 0 (.row 1 (l.map bD)) = some (.row 1 ((l.map bD).set i x)) := by
  simp [stO, get_map, List.getElem?_eq_getElem hi, bD, pureW, hx]
theorem stO_ws {l : List UInt32} {i : Nat} {x : D} (hi : i < l.length) (hx : x.one = true) : stO .sc (.c (.d x)) i 0 (.row 1 (l.map wD)) = some (.row 1 ((l.map wD).set i x)) := by
  simp [stO, get_map, List.getElem?_eq_getElem hi, wD, pureW, hx]
theorem set_bs (l : List UInt8) (i : Nat) (x : UInt8) : (l.map bD).set i (bD x) = (l.set i x).map bD := set_map bD l i x
theorem set_ws (l : List UInt32) (i : Nat) (x : UInt32) : (l.map wD).set i (wD x) = (l.set i x).map wD := set_map wD l i x
theorem rep_b (n : Nat) : List.replicate n (D.int .u8 0) = (List.replicate n (0 : UInt8)).map bD := by simp [bD]
theorem rep_w (n : Nat) : List.replicate n (D.int .u32 0) = (List.replicate n (0 : UInt32)).map wD := by simp [wD]

/-! ### Put -/
def putL (v n : Nat) : List UInt8 := (List.range n).map fun i => UInt8.ofNat (v / 256 ^ (n - 1 - i))
def putS (v n m : Nat) : List UInt8 := List.replicate m 0 ++ (putL v n).drop m
def putN (v : Nat) (n : Int) : List UInt8 := if 0 ≤ n ∧ n ≤ 64 then putL v n.toNat else []
theorem putL_length (v n : Nat) : (putL v n).length = n := by simp [putL]
theorem putS_length (v n m : Nat) (h : m ≤ n) : (putS v n m).length = n := by simp [putS, putL_length]; omega
theorem putS_zero (v n : Nat) : putS v n 0 = putL v n := by simp [putS]
theorem putS_full (v n : Nat) : putS v n n = List.replicate n 0 := by simp [putS, putL_length]
theorem putS_step (v n i : Nat) (h : i + 1 ≤ n) : putS v n i = (putS v n (i + 1)).set i (UInt8.ofNat (v / 256 ^ (n - (i + 1)))) := by
  apply List.ext_getElem?
  intro j
  rw [List.getElem?_set]
  have hl : i < (putL v n).length := by rw [putL_length]; omega
  by_cases hj : i = j
  · subst hj
    rw [if_pos rfl, if_pos (by rw [putS_length _ _ _ h]; omega)]
    simp only [putS, List.getElem?_append, List.length_replicate, Nat.lt_irrefl, if_false, Nat.sub_self, List.getElem?_drop, Nat.add_zero]
    rw [List.getElem?_eq_getElem hl]
    simp [putL, Nat.sub_sub, Nat.add_comm 1 i]
  · rw [if_neg hj]
    simp only [putS, List.getElem?_append, List.length_replicate, List.getElem?_replicate, List.getElem?_drop]
    by_cases h1 : j < i
    · rw [if_pos h1, if_pos h1, if_pos (by omega), if_pos (by omega)]
    · rw [if_neg h1, if_neg (by omega)]
      congr 1; omega
theorem byte_of (v : Nat) : D.int .u8 (IntKind.u8.wrap (v : Int)) = bD (UInt8.ofNat v) := by
  rw [IntKind.wrap_u8]
  simp [bD]
def putSt (v n m : Nat) : St := ⟨ofL [(0, .w (.c (.d (.int .u64 ((v / 256 ^ (n - m) : Nat) : Int))))), (5, .w (.c (.own 1 1 0 n))), (6, .w (.c (.d (.int .i64 ((m : Int) - 1)))))], hL [(1, .row 1 ((putS v n m).map bD))], uL [1]⟩

def lp_put_0 : SCode :=
  .seq (.seq (.reg [⟨(some 17), .mv (.t 6), none⟩,
    ⟨(some 18), .bin .geq (.t 17) (.k (.c (.d (.int .i64 0)))), none⟩])
  (.cond (.t 18) (.skip)
   (.exit 0)))
  (.seq (.block 1 (.seq (.reg [⟨(some 21), .mv (.t 5), none⟩,
     ⟨(some 22), .mv (.t 6), none⟩,
     ⟨(some 23), .mv (.t 0), none⟩,
     ⟨(some 24), .conv .u8 (.t 23), none⟩,
     ⟨(some 25), .idxSl 1 (.t 21) (.t 22), none⟩,
     ⟨none, .store .sc (.t 25) (.t 24), none⟩])
   (.reg [⟨(some 26), .mv (.t 0), none⟩,
     ⟨(some 27), .bin .shr (.t 26) (.k (.c (.d (.int .u64 8)))), none⟩,
     ⟨(some 0), .mv (.t 27), none⟩])))
  (.reg [⟨(some 19), .mv (.t 6), none⟩,
    ⟨(some 20), .bin .sub (.t 19) (.k (.c (.d (.int .i64 1)))), none⟩,
    ⟨(some 6), .mv (.t 20), none⟩]))
def sf_put : SFn := ⟨2, 29,
  .seq (.reg [⟨(some 4), .mv (.k (.c .nil)), none⟩])
  (.seq (.seq (.reg [⟨(some 7), .mv (.t 1), none⟩,
    ⟨(some 8), .bin .lss (.t 7) (.k (.c (.d (.int .i64 0)))), none⟩,
    ⟨(some 9), .mv (.t 8), none⟩,
    ⟨(some 10), .mv (.t 1), (some (9, false))⟩,
    ⟨(some 11), .bin .gtr (.t 10) (.k (.c (.d (.int .i64 64)))), (some (9, false))⟩,
    ⟨(some 12), .pick (.t 9) (.k (.c (.d (.bool true)))) (.t 11), none⟩])
  (.cond (.t 12) (.seq (.reg [⟨(some 4), .mv (.k (.c .nil)), none⟩])
   (.ret))
   (.skip)))
  (.seq (.reg [⟨(some 13), .mv (.t 1), none⟩,
    ⟨(some 14), .make 1 1 (.int .u8 0) (.t 13) (.t 13), none⟩,
    ⟨(some 5), .mv (.t 14), none⟩])
  (.seq (.seq (.reg [⟨(some 15), .mv (.t 1), none⟩,
    ⟨(some 16), .bin .sub (.t 15) (.k (.c (.d (.int .i64 1)))), none⟩,
    ⟨(some 6), .mv (.t 16), none⟩])
  (.block 0 (.loop lp_put_0)))
  (.seq (.reg [⟨(some 28), .mv (.t 5), none⟩,
    ⟨(some 4), .mv (.t 28), none⟩])
  (.ret))))),
  [(4, none)]⟩
theorem cf_put : compFn Tryd.prog { own := [], comp := [], frz := [], nils := [] } Tryd.f75 = some sf_put := by kernel_rfl
set_option maxHeartbeats 400000 in
theorem put_in (G : Glob) (v n : Nat) (hn : n ≤ 64) : Den Tryd.prog G 75 [.int .u64 v, .int .i64 n] (.w (.c (.fr 1 ((putL v n).map bD)))) := by
  refine den_walk Tryd.func75 cf_put rfl rfl ?_
  have e1 : IntKind.i64.wrap ((n : Int) - 1) = (n : Int) - 1 := IntWalk.i64_in _ (by omega)
  simp only [sf_put, putAll, wx, stV, seval, IntWalk.iteOmega, IntWalk.toNatUp, reduceCtorEq, e1]
  refine loop_st (putSt v n) (fun m => m) (fun m => m ≤ n) n (Nat.le_refl _) ?_ ?_
  · refine ent_l (fun _ => 112) ?_ ?_ rfl rfl <;> simp only [wx, wex, stV, seval, IntWalk.iteOmega, IntWalk.toNatUp, reduceCtorEq, putS_full, rep_b, Nat.sub_self, Nat.pow_zero, Nat.div_one]
  · intro m hm
    rcases Nat.eq_zero_or_pos m with rfl | hpos
    · simp only [lp_put_0, putSt, wx, stV, seval, IntWalk.iteOmega, IntWalk.toNatUp, reduceCtorEq, putS_zero]
      refine ret_own (id := 1) (n := n) (s := 1) ?_ ?_ ?_ <;> simp only [wx, stV, seval, IntWalk.iteOmega, IntWalk.toNatUp, reduceCtorEq, putL_length]
    · obtain ⟨i, rfl⟩ : ∃ i, m = i + 1 := ⟨m - 1, by omega⟩
      have e2 : ((i + 1 : Nat) : Int) - 1 = (i : Int) := by omega
      have hlt : i < (putS v n (i + 1)).length := by rw [putS_length _ _ _ hm]; omega
      have e3 : IntKind.i64.wrap ((i : Int) - 1) = (i : Int) - 1 := IntWalk.i64_in _ (by omega)
      simp only [lp_put_0, putSt, wx, stV, seval, IntWalk.iteOmega, IntWalk.toNatUp, reduceCtorEq, e2, e3, Nat.zero_add, Nat.add_zero, byte_of, stO_bs hlt (one_b _), set_bs, ← putS_step _ _ _ hm, IntKind.bits]
      refine lop_next i (by omega) (by omega) (ent_l id ?_ ?_ rfl rfl) <;> simp only [wx, wex, stV, seval, IntWalk.iteOmega, IntWalk.toNatUp, reduceCtorEq]
      have e4 : v / 256 ^ (n - (i + 1)) / 256 = v / 256 ^ (n - i) := by
        rw [show n - i = n - (i + 1) + 1 by omega, Nat.pow_succ, ← Nat.div_div_eq_div_mul]
      simpa using congrArg (Nat.cast : Nat → Int) e4
theorem put_c (G : Glob) (v : Nat) (n : Int) : Den Tryd.prog G 75 [.int .u64 v, .int .i64 n] (.w (.c (.fr 1 ((putN v n).map bD)))) := by
  unfold putN
  by_cases h : 0 ≤ n ∧ n ≤ 64
  · rw [if_pos h]
    obtain ⟨n, rfl⟩ := Int.eq_ofNat_of_zero_le h.1
    exact put_in G v n (by omega)
  · rw [if_neg h]
    refine den_walk Tryd.func75 cf_put rfl rfl ?_
    by_cases h0 : n < 0
    · simp only [sf_put, putAll, wx, stV, seval, IntWalk.iteOmega, IntWalk.toNatUp, reduceCtorEq]
      exact ret_nil (by simp [wx, stV, seval, IntWalk.iteOmega, IntWalk.toNatUp, reduceCtorEq])
    · have h1 : 64 < n := by omega
      simp only [sf_put, putAll, wx, stV, seval, IntWalk.iteOmega, IntWalk.toNatUp, reduceCtorEq]
      exact ret_nil (by simp [wx, stV, seval, IntWalk.iteOmega, IntWalk.toNatUp, reduceCtorEq])
def lp_rput_0 : SCode :=
  .seq (.seq (.reg [⟨(some 17), .mv (.t 6), none⟩,
    ⟨(some 18), .bin .geq (.t 17) (.k (.c (.d (.int .i64 0)))), none⟩])
  (.cond (.t 18) (.skip)
   (.exit 0)))
  (.seq (.block 1 (.seq (.reg [⟨(some 21), .mv (.t 5), none⟩,
     ⟨(some 22), .mv (.t 6), none⟩,
     ⟨(some 23), .mv (.t 0), none⟩,
     ⟨(some 24), .conv .u8 (.t 23), none⟩,
     ⟨(some 25), .idxSl 1 (.t 21) (.t 22), none⟩,
     ⟨none, .store .sc (.t 25) (.t 24), none⟩])
   (.reg [⟨(some 26), .mv (.t 0), none⟩,
     ⟨(some 27), .bin .shr (.t 26) (.k (.c (.d (.int .u64 8)))), none⟩,
     ⟨(some 0), .mv (.t 27), none⟩])))
  (.reg [⟨(some 19), .mv (.t 6), none⟩,
    ⟨(some 20), .bin .sub (.t 19) (.k (.c (.d (.int .i64 1)))), none⟩,
    ⟨(some 6), .mv (.t 20), none⟩]))
def sf_rput : SFn := ⟨2, 29,
  .seq (.reg [⟨(some 4), .mv (.k (.c .nil)), none⟩])
  (.seq (.seq (.reg [⟨(some 7), .mv (.t 1), none⟩,
    ⟨(some 8), .bin .lss (.t 7) (.k (.c (.d (.int .i64 0)))), none⟩,
    ⟨(some 9), .mv (.t 8), none⟩,
    ⟨(some 10), .mv (.t 1), (some (9, false))⟩,
    ⟨(some 11), .bin .gtr (.t 10) (.k (.c (.d (.int .i64 64)))), (some (9, false))⟩,
    ⟨(some 12), .pick (.t 9) (.k (.c (.d (.bool true)))) (.t 11), none⟩])
  (.cond (.t 12) (.seq (.reg [⟨(some 4), .mv (.k (.c .nil)), none⟩])
   (.ret))
   (.skip)))
  (.seq (.reg [⟨(some 13), .mv (.t 1), none⟩,
    ⟨(some 14), .make 1 1 (.int .u8 0) (.t 13) (.t 13), none⟩,
    ⟨(some 5), .mv (.t 14), none⟩])
  (.seq (.seq (.reg [⟨(some 15), .mv (.t 1), none⟩,
    ⟨(some 16), .bin .sub (.t 15) (.k (.c (.d (.int .i64 1)))), none⟩,
    ⟨(some 6), .mv (.t 16), none⟩])
  (.block 0 (.loop lp_rput_0)))
  (.seq (.reg [⟨(some 28), .mv (.t 5), none⟩,
    ⟨(some 4), .mv (.t 28), none⟩])
  (.ret))))),
  [(4, none)]⟩
theorem cf_rput : compFn Tryd.prog { own := [], comp := [], frz := [], nils := [] } Tryd.f51 = some sf_rput := by kernel_rfl
set_option maxHeartbeats 400000 in
theorem rput_in (G : Glob) (v n : Nat) (hn : n ≤ 64) : Den Tryd.prog G 51 [.int .u64 v, .int .i64 n] (.w (.c (.fr 1 ((putL v n).map bD)))) := by
  refine den_walk Tryd.func51 cf_rput rfl rfl ?_
  have e1 : IntKind.i64.wrap ((n : Int) - 1) = (n : Int) - 1 := IntWalk.i64_in _ (by omega)
  simp only [sf_rput, putAll, wx, stV, seval, IntWalk.iteOmega, IntWalk.toNatUp, reduceCtorEq, e1]
  refine loop_st (putSt v n) (fun m => m) (fun m => m ≤ n) n (Nat.le_refl _) ?_ ?_
  · refine ent_l (fun _ => 112) ?_ ?_ rfl rfl <;> simp only [wx, wex, stV, seval, IntWalk.iteOmega, IntWalk.toNatUp, reduceCtorEq, putS_full, rep_b, Nat.sub_self, Nat.pow_zero, Nat.div_one]
  · intro m hm
    rcases Nat.eq_zero_or_pos m with rfl | hpos
    · simp only [lp_rput_0, putSt, wx, stV, seval, IntWalk.iteOmega, IntWalk.toNatUp, reduceCtorEq, putS_zero]
      refine ret_own (id := 1) (n := n) (s := 1) ?_ ?_ ?_ <;> simp only [wx, stV, seval, IntWalk.iteOmega, IntWalk.toNatUp, reduceCtorEq, putL_length]
    · obtain ⟨i, rfl⟩ : ∃ i, m = i + 1 := ⟨m - 1, by omega⟩
      have e2 : ((i + 1 : Nat) : Int) - 1 = (i : Int) := by omega
      have hlt : i < (putS v n (i + 1)).length := by rw [putS_length _ _ _ hm]; omega
      have e3 : IntKind.i64.wrap ((i : Int) - 1) = (i : Int) - 1 := IntWalk.i64_in _ (by omega)
      simp only [lp_rput_0, putSt, wx, stV, seval, IntWalk.iteOmega, IntWalk.toNatUp, reduceCtorEq, e2, e3, Nat.zero_add, Nat.add_zero, byte_of, stO_bs hlt (one_b _), set_bs, ← putS_step _ _ _ hm, IntKind.bits]
      refine lop_next i (by omega) (by omega) (ent_l id ?_ ?_ rfl rfl) <;> simp only [wx, wex, stV, seval, IntWalk.iteOmega, IntWalk.toNatUp, reduceCtorEq]
      have e4 : v / 256 ^ (n - (i + 1)) / 256 = v / 256 ^ (n - i) := by
        rw [show n - i = n - (i + 1) + 1 by omega, Nat.pow_succ, ← Nat.div_div_eq_div_mul]
      simpa using congrArg (Nat.cast : Nat → Int) e4
theorem rput_c (G : Glob) (v : Nat) (n : Int) : Den Tryd.prog G 51 [.int .u64 v, .int .i64 n] (.w (.c (.fr 1 ((putN v n).map bD)))) := by
  unfold putN
  by_cases h : 0 ≤ n ∧ n ≤ 64
  · rw [if_pos h]
    obtain ⟨n, rfl⟩ := Int.eq_ofNat_of_zero_le h.1
    exact rput_in G v n (by omega)
  · rw [if_neg h]
    refine den_walk Tryd.func51 cf_rput rfl rfl ?_
    by_cases h0 : n < 0
    · simp only [sf_rput, putAll, wx, stV, seval, IntWalk.iteOmega, IntWalk.toNatUp, reduceCtorEq]
      exact ret_nil (by simp [wx, stV, seval, IntWalk.iteOmega, IntWalk.toNatUp, reduceCtorEq])
    · have h1 : 64 < n := by omega
      simp only [sf_rput, putAll, wx, stV, seval, IntWalk.iteOmega, IntWalk.toNatUp, reduceCtorEq]
      exact ret_nil (by simp [wx, stV, seval, IntWalk.iteOmega, IntWalk.toNatUp, reduceCtorEq])

/-! ### Same -/
theorem toList_mk (l : List UInt8) : (⟨l.toArray⟩ : ByteArray).toList = l := Go.ByteArray.toList_mk l
theorem binS_same (l m : List UInt8) : binS .eql ⟨l.toArray⟩ ⟨m.toArray⟩ = some (.bool (l == m)) := by
  simp only [binS, toList_mk]
def sf_rsame : SFn := ⟨2, 10,
  .seq (.reg [⟨(some 4), .mv (.k (.c (.d (.bool false)))), none⟩])
  (.seq (.reg [⟨(some 5), .mv (.t 0), none⟩,
    ⟨(some 6), .b2s (.t 5), none⟩,
    ⟨(some 7), .mv (.t 1), none⟩,
    ⟨(some 8), .b2s (.t 7), none⟩,
    ⟨(some 9), .bin .eql (.t 6) (.t 8), none⟩,
    ⟨(some 4), .mv (.t 9), none⟩])
  (.ret)),
  [(4, none)]⟩
theorem cf_rsame : compFn Tryd.prog { own := [], comp := [], frz := [], nils := [] } Tryd.f19 = some sf_rsame := by kernel_rfl
theorem rsame_c (G : Glob) (l m : List UInt8) : Den Tryd.prog G 19 [.sl (l.map bD), .sl (m.map bD)] (.w (.c (.d (.bool (l == m))))) := by
  refine den_walk Tryd.func19 cf_rsame rfl rfl ?_
  simp only [sf_rsame, putAll, wx, stV, seval, IntWalk.iteOmega, IntWalk.toNatUp, reduceCtorEq, ofBs_map, binS_same]
  exact ret_d (by simp only [wx, stV, seval, IntWalk.iteOmega, IntWalk.toNatUp, reduceCtorEq])

/-! ### Join -/
def lD (ls : List (List UInt8)) : D := .sl (ls.map fun l => .sl (l.map bD))
theorem sl_cells (es : List D) : D.cells (.sl es) = [.sl es] := rfl
theorem allSz_ls (ls : List (List UInt8)) : allSz 1 (ls.map fun l => D.sl (l.map bD)) = true := allSz_map _ (fun _ => rfl) ls
def rjoinSt (ls : List (List UInt8)) (i : Nat) : St := ⟨ofL [(0, .w (.c (.d (.sl (ls.map fun l => D.sl (l.map bD)))))), (3, .w (.c (.own 1 1 0 ((ls.take i).flatten).length))), (4, .w (.c (.d (.int .i64 (i : Int)))))], hL [(1, .row 1 (((ls.take i).flatten).map bD))], uL [1]⟩
theorem take_flat {α : Type} (ls : List (List α)) (i : Nat) (h : i < ls.length) : (ls.take (i + 1)).flatten = (ls.take i).flatten ++ ls[i] := by
  rw [List.take_succ_eq_append_getElem h, List.flatten_append]; simp
theorem flat_le {α : Type} (ls : List (List α)) (i : Nat) (h : i < ls.length) : (ls.take i).flatten.length + ls[i].length ≤ ls.flatten.length := by
  have h1 := take_flat ls i h
  have h2 : ls.flatten = (ls.take (i + 1)).flatten ++ (ls.drop (i + 1)).flatten := by rw [← List.flatten_append, List.take_append_drop]
  have h3 := congrArg List.length h2
  rw [List.length_append, h1, List.length_append] at h3
  omega
def lp_rjoin_0 : SCode :=
  .seq (.seq (.reg [⟨(some 6), .mv (.t 4), none⟩,
    ⟨(some 7), .mv (.t 0), none⟩,
    ⟨(some 8), .len (.t 7), none⟩,
    ⟨(some 9), .bin .lss (.t 6) (.t 8), none⟩])
  (.cond (.t 9) (.skip)
   (.exit 0)))
  (.seq (.block 1 (.reg [⟨(some 12), .mv (.t 3), none⟩,
     ⟨(some 13), .mv (.t 0), none⟩,
     ⟨(some 14), .mv (.t 4), none⟩,
     ⟨(some 15), .idxSl 1 (.t 13) (.t 14), none⟩,
     ⟨(some 16), .load .sc (.t 15), none⟩,
     ⟨(some 17), .app false 1 1 (.t 12) (.t 16), none⟩,
     ⟨(some 3), .mv (.t 17), none⟩]))
  (.reg [⟨(some 10), .mv (.t 4), none⟩,
    ⟨(some 11), .bin .add (.t 10) (.k (.c (.d (.int .i64 1)))), none⟩,
    ⟨(some 4), .mv (.t 11), none⟩]))
def sf_rjoin : SFn := ⟨1, 19,
  .seq (.reg [⟨(some 2), .mv (.k (.c .nil)), none⟩])
  (.seq (.reg [⟨(some 5), .bldSl true 0 1 (.int .u8 0) [], none⟩,
    ⟨(some 3), .mv (.t 5), none⟩])
  (.seq (.seq (.reg [⟨(some 4), .mv (.k (.c (.d (.int .i64 0)))), none⟩])
  (.block 0 (.loop lp_rjoin_0)))
  (.seq (.reg [⟨(some 18), .mv (.t 3), none⟩,
    ⟨(some 2), .mv (.t 18), none⟩])
  (.ret)))),
  [(2, none)]⟩
theorem cf_rjoin : compFn Tryd.prog { own := [5], comp := [], frz := [], nils := [] } Tryd.f41 = some sf_rjoin := by kernel_rfl
set_option maxHeartbeats 400000 in
theorem rjoin_c (G : Glob) (ls : List (List UInt8)) (hl : ls.length ≤ 9223372036854775807) (hf : ls.flatten.length ≤ 140737488355328) : Den Tryd.prog G 41 [.sl (ls.map fun l => D.sl (l.map bD))] (.w (.c (.fr 1 (ls.flatten.map bD)))) := by
  refine den_walk Tryd.func41 cf_rjoin rfl rfl ?_
  simp only [sf_rjoin, putAll, wx, stV, seval, IntWalk.iteOmega, IntWalk.toNatUp, reduceCtorEq]
  refine loop_st (rjoinSt ls) (fun i => ls.length - i) (fun i => i ≤ ls.length) 0 (Nat.zero_le _) ?_ ?_
  · refine ent_l (fun _ => 40) ?_ ?_ rfl rfl <;> simp only [wx, wex, stV, seval, IntWalk.iteOmega, IntWalk.toNatUp, reduceCtorEq]
  · intro i hi
    by_cases hlt : i < ls.length
    · have e2 : ls[i]? = some ls[i] := List.getElem?_eq_getElem hlt
      have e4 : IntKind.i64.wrap ((i : Int) + 1) = ((i + 1 : Nat) : Int) := by rw [IntWalk.i64_in _ (by omega)]; rfl
      have h5 := flat_le ls i hlt
      simp only [lp_rjoin_0, rjoinSt, wx, stV, seval, IntWalk.iteOmega, IntWalk.toNatUp, reduceCtorEq, get_map, e2, e4, Nat.mul_one, srcV]
      refine lop_next (i + 1) (by omega) (by omega) (ent_l (fun _ => 136) ?_ ?_ rfl rfl) <;> simp only [wx, wex, stV, seval, IntWalk.iteOmega, IntWalk.toNatUp, reduceCtorEq, take_flat ls i hlt]
    · have : ls.take i = ls := List.take_of_length_le (by omega)
      simp only [lp_rjoin_0, rjoinSt, wx, stV, seval, IntWalk.iteOmega, IntWalk.toNatUp, reduceCtorEq, this]
      refine ret_own (id := 1) (n := ls.flatten.length) (s := 1) ?_ ?_ ?_ <;> simp only [wx, stV, seval, IntWalk.iteOmega, IntWalk.toNatUp, reduceCtorEq]

def joinSt1 (ls : List (List UInt8)) (i : Nat) : St := ⟨ofL [(0, .w (.c (.d (.sl (ls.map fun l => D.sl (l.map bD)))))), (3, .w (.c (.d (.int .i64 (((ls.take i).flatten).length : Int))))), (9, .w (.c (.d (.sl (ls.map fun l => D.sl (l.map bD)))))), (10, .w (.c (.d (.int .i64 (ls.length : Int))))), (11, .w (.c (.d (.int .i64 (i : Int)))))], hL [], uL []⟩
def joinSt2 (ls : List (List UInt8)) (i : Nat) : St := ⟨ofL [(6, .w (.c (.own 1 1 0 ((ls.take i).flatten).length))), (22, .w (.c (.d (.sl (ls.map fun l => D.sl (l.map bD)))))), (23, .w (.c (.d (.int .i64 (ls.length : Int))))), (24, .w (.c (.d (.int .i64 (i : Int)))))], hL [(1, .row 1 (((ls.take i).flatten).map bD))], uL [1]⟩
def lp_join_0 : SCode :=
  .seq (.reg [⟨(some 12), .bin .lss (.t 11) (.t 10), none⟩])
  (.seq (.cond (.t 12) (.skip)
   (.exit 0))
  (.seq (.block 1 (.seq (.reg [⟨(some 13), .idxSl 1 (.t 9) (.t 11), none⟩,
     ⟨(some 14), .load .sc (.t 13), none⟩,
     ⟨(some 5), .mv (.t 14), none⟩])
   (.reg [⟨(some 15), .mv (.t 3), none⟩,
     ⟨(some 16), .mv (.t 5), none⟩,
     ⟨(some 17), .len (.t 16), none⟩,
     ⟨(some 18), .bin .add (.t 15) (.t 17), none⟩,
     ⟨(some 3), .mv (.t 18), none⟩])))
  (.reg [⟨(some 19), .bin .add (.t 11) (.k (.c (.d (.int .i64 1)))), none⟩,
    ⟨(some 11), .mv (.t 19), none⟩])))
def lp_join_1 : SCode :=
  .seq (.reg [⟨(some 25), .bin .lss (.t 24) (.t 23), none⟩])
  (.seq (.cond (.t 25) (.skip)
   (.exit 2))
  (.seq (.block 3 (.seq (.reg [⟨(some 26), .idxSl 1 (.t 22) (.t 24), none⟩,
     ⟨(some 27), .load .sc (.t 26), none⟩,
     ⟨(some 8), .mv (.t 27), none⟩])
   (.reg [⟨(some 28), .mv (.t 6), none⟩,
     ⟨(some 29), .mv (.t 8), none⟩,
     ⟨(some 30), .app false 1 1 (.t 28) (.t 29), none⟩,
     ⟨(some 6), .mv (.t 30), none⟩])))
  (.reg [⟨(some 31), .bin .add (.t 24) (.k (.c (.d (.int .i64 1)))), none⟩,
    ⟨(some 24), .mv (.t 31), none⟩])))
def sf_join : SFn := ⟨1, 33,
  .seq (.reg [⟨(some 2), .mv (.k (.c .nil)), none⟩])
  (.seq (.reg [⟨(some 3), .mv (.k (.c (.d (.int .i64 0)))), none⟩])
  (.seq (.seq (.reg [⟨(some 9), .mv (.t 0), none⟩,
    ⟨(some 10), .len (.t 9), none⟩,
    ⟨(some 11), .mv (.k (.c (.d (.int .i64 0)))), none⟩])
  (.block 0 (.loop lp_join_0)))
  (.seq (.reg [⟨(some 20), .mv (.t 3), none⟩,
    ⟨(some 21), .make 1 1 (.int .u8 0) (.k (.c (.d (.int .i64 0)))) (.t 20), none⟩,
    ⟨(some 6), .mv (.t 21), none⟩])
  (.seq (.seq (.reg [⟨(some 22), .mv (.t 0), none⟩,
    ⟨(some 23), .len (.t 22), none⟩,
    ⟨(some 24), .mv (.k (.c (.d (.int .i64 0)))), none⟩])
  (.block 2 (.loop lp_join_1)))
  (.seq (.reg [⟨(some 32), .mv (.t 6), none⟩,
    ⟨(some 2), .mv (.t 32), none⟩])
  (.ret)))))),
  [(2, none)]⟩
theorem cf_join : compFn Tryd.prog { own := [], comp := [], frz := [], nils := [] } Tryd.f43 = some sf_join := by kernel_rfl
set_option maxHeartbeats 400000 in
theorem join_c (G : Glob) (ls : List (List UInt8)) (hl : ls.length ≤ 9223372036854775807) (hf : ls.flatten.length ≤ 140737488355328) : Den Tryd.prog G 43 [.sl (ls.map fun l => D.sl (l.map bD))] (.w (.c (.fr 1 (ls.flatten.map bD)))) := by
  refine den_walk Tryd.func43 cf_join rfl rfl ?_
  simp only [sf_join, putAll, wx, stV, seval, IntWalk.iteOmega, IntWalk.toNatUp, reduceCtorEq]
  refine loop_st (joinSt1 ls) (fun i => ls.length - i) (fun i => i ≤ ls.length) 0 (Nat.zero_le _) ?_ ?_
  · refine ent_l id ?_ ?_ rfl rfl <;> simp only [wx, wex, stV, seval, IntWalk.iteOmega, IntWalk.toNatUp, reduceCtorEq]
  · intro i hi
    by_cases hlt : i < ls.length
    · have e2 : ls[i]? = some ls[i] := List.getElem?_eq_getElem hlt
      have e4 : IntKind.i64.wrap ((i : Int) + 1) = ((i + 1 : Nat) : Int) := by rw [IntWalk.i64_in _ (by omega)]; rfl
      have h5 := flat_le ls i hlt
      have e5 : IntKind.i64.wrap (((ls.take i).flatten.length : Int) + (ls[i].length : Int)) = (((ls.take (i + 1)).flatten.length : Nat) : Int) := by
        rw [take_flat ls i hlt, List.length_append, IntWalk.i64_in _ (by omega)]; rfl
      simp only [lp_join_0, joinSt1, wx, stV, seval, IntWalk.iteOmega, IntWalk.toNatUp, reduceCtorEq, get_map, e2, e4, e5]
      refine lop_next (i + 1) (by omega) (by omega) (ent_l id ?_ ?_ rfl rfl) <;> simp only [wx, wex, stV, seval, IntWalk.iteOmega, IntWalk.toNatUp, reduceCtorEq]
    · have : ls.take i = ls := List.take_of_length_le (by omega)
      simp only [lp_join_0, joinSt1, wx, stV, seval, IntWalk.iteOmega, IntWalk.toNatUp, reduceCtorEq, this, Nat.mul_one]
      refine loop_st (joinSt2 ls) (fun i => ls.length - i) (fun i => i ≤ ls.length) 0 (Nat.zero_le _) ?_ ?_
      · refine ent_l (fun _ => 168) ?_ ?_ rfl rfl <;> simp only [wx, wex, stV, seval, IntWalk.iteOmega, IntWalk.toNatUp, reduceCtorEq]
      · intro i hi
        by_cases hlt : i < ls.length
        · have e2 : ls[i]? = some ls[i] := List.getElem?_eq_getElem hlt
          have e4 : IntKind.i64.wrap ((i : Int) + 1) = ((i + 1 : Nat) : Int) := by rw [IntWalk.i64_in _ (by omega)]; rfl
          have h5 := flat_le ls i hlt
          simp only [lp_join_1, joinSt2, wx, stV, seval, IntWalk.iteOmega, IntWalk.toNatUp, reduceCtorEq, get_map, e2, e4, Nat.mul_one, srcV]
          refine lop_next (i + 1) (by omega) (by omega) (ent_l (fun _ => 240) ?_ ?_ rfl rfl) <;> simp only [wx, wex, stV, seval, IntWalk.iteOmega, IntWalk.toNatUp, reduceCtorEq, take_flat ls i hlt]
        · have : ls.take i = ls := List.take_of_length_le (by omega)
          simp only [lp_join_1, joinSt2, wx, stV, seval, IntWalk.iteOmega, IntWalk.toNatUp, reduceCtorEq, this]
          refine ret_own (id := 1) (n := ls.flatten.length) (s := 1) ?_ ?_ ?_ <;> simp only [wx, stV, seval, IntWalk.iteOmega, IntWalk.toNatUp, reduceCtorEq]

/-! ### Get -/
def getN (l : List UInt8) : Nat := l.foldl (fun a x => (a * 256 + x.toNat) % 18446744073709551616) 0
theorem getN_lt (l : List UInt8) : getN l < 18446744073709551616 := by
  unfold getN
  rcases List.eq_nil_or_concat l with rfl | ⟨a, x, rfl⟩
  · simp
  · simp only [List.concat_eq_append, List.foldl_append, List.foldl_cons, List.foldl_nil]; omega
theorem u64_in (n : Int) (h₀ : 0 ≤ n) (h₁ : n < 2 ^ 64) : IntKind.u64.wrap n = n := by rw [IntKind.wrap_u64]; omega
theorem getN_snoc (a : List UInt8) (x : UInt8) : bits .or .u64 (IntKind.u64.wrap ((getN a : Int) * 256)) (x.toNat : Int) = (getN (a ++ [x]) : Int) := by
  have hx : x.toNat < 256 := x.toNat_lt
  have h1 := bits_join .u64 64 (by decide) u64_in 8 (IntKind.u64.wrap ((getN a : Int) * 256)) (x.toNat : Int)
    (by rw [IntKind.wrap_u64]; omega) (by rw [IntKind.wrap_u64]; omega) (by rw [IntKind.wrap_u64]; omega) (by omega) (by omega) (by omega)
  rw [h1, IntKind.wrap_u64]
  simp only [getN, List.foldl_append, List.foldl_cons, List.foldl_nil]
  omega
theorem getN_take (l : List UInt8) (j : Nat) (h : j < l.length) : bits .or .u64 (IntKind.u64.wrap ((getN (l.take j) : Int) * 256)) (l[j].toNat : Int) = (getN (l.take (j + 1)) : Int) := by
  rw [getN_snoc, List.take_succ_eq_append_getElem h]
theorem getN_app (a b : List UInt8) : getN (a ++ b) = (getN a * 256 ^ b.length + getN b) % 18446744073709551616 := by
  have key : ∀ (n : Nat) (b : List UInt8), b.length = n → getN (a ++ b) = (getN a * 256 ^ n + getN b) % 18446744073709551616 := by
    intro n
    induction n with
    | zero =>
      intro b hb
      have : b = [] := List.eq_nil_of_length_eq_zero hb
      subst this
      have h0 : getN [] = 0 := rfl
      rw [List.append_nil, Nat.pow_zero, h0]
      have := getN_lt a
      omega
    | succ n ih =>
      intro b hb
      rcases List.eq_nil_or_concat b with rfl | ⟨c, x, rfl⟩
      · simp at hb
      · rw [List.concat_eq_append] at hb ⊢
        rw [← List.append_assoc]
        have h1 : ∀ l : List UInt8, getN (l ++ [x]) = (getN l * 256 + x.toNat) % 18446744073709551616 := fun l => by simp [getN]
        rw [h1, h1, ih c (by simpa using hb), Nat.pow_succ]
        generalize getN a = p
        generalize getN c = q
        generalize 256 ^ n = r
        have e : p * (r * 256) = p * r * 256 := by rw [Nat.mul_assoc]
        rw [e]
        generalize p * r = z
        omega
  exact key _ b rfl
theorem getN_tail (l : List UInt8) (h : 8 < l.length) : getN (l.drop (l.length - 8)) = getN l := by
  have h1 := getN_app (l.take (l.length - 8)) (l.drop (l.length - 8))
  rw [List.take_append_drop] at h1
  have h2 : (l.drop (l.length - 8)).length = 8 := by rw [List.length_drop]; omega
  rw [h2] at h1
  have h3 := getN_lt (l.drop (l.length - 8))
  rw [h1]
  have : (256 : Nat) ^ 8 = 18446744073709551616 := by decide
  rw [this]
  omega
def getSt (l : List UInt8) (i : Nat) : St := ⟨ofL [(3, .w (.c (.d (.int .u64 (getN (l.take i)))))), (14, .w (.c (.d (.sl (l.map bD))))), (15, .w (.c (.d (.int .i64 (l.length : Int))))), (16, .w (.c (.d (.int .i64 (i : Int)))))], hL [], uL []⟩
def lp_get_0 : SCode :=
  .seq (.reg [⟨(some 17), .bin .lss (.t 16) (.t 15), none⟩])
  (.seq (.cond (.t 17) (.skip)
   (.exit 0))
  (.seq (.block 1 (.seq (.reg [⟨(some 18), .idxSl 1 (.t 14) (.t 16), none⟩,
     ⟨(some 19), .load .sc (.t 18), none⟩,
     ⟨(some 5), .mv (.t 19), none⟩])
   (.reg [⟨(some 20), .mv (.t 3), none⟩,
     ⟨(some 21), .bin .shl (.t 20) (.k (.c (.d (.int .u64 8)))), none⟩,
     ⟨(some 22), .mv (.t 5), none⟩,
     ⟨(some 23), .conv .u64 (.t 22), none⟩,
     ⟨(some 24), .bin .or (.t 21) (.t 23), none⟩,
     ⟨(some 3), .mv (.t 24), none⟩])))
  (.reg [⟨(some 25), .bin .add (.t 16) (.k (.c (.d (.int .i64 1)))), none⟩,
    ⟨(some 16), .mv (.t 25), none⟩])))
def sf_get : SFn := ⟨1, 27,
  .seq (.reg [⟨(some 2), .mv (.k (.c (.d (.int .u64 0)))), none⟩])
  (.seq (.seq (.reg [⟨(some 6), .mv (.t 0), none⟩,
    ⟨(some 7), .len (.t 6), none⟩,
    ⟨(some 8), .bin .gtr (.t 7) (.k (.c (.d (.int .i64 8)))), none⟩])
  (.cond (.t 8) (.reg [⟨(some 9), .mv (.t 0), none⟩,
     ⟨(some 10), .mv (.t 0), none⟩,
     ⟨(some 11), .len (.t 10), none⟩,
     ⟨(some 12), .bin .sub (.t 11) (.k (.c (.d (.int .i64 8)))), none⟩,
     ⟨(some 13), .slice 1 (.t 9) (some (.t 12)) none none, none⟩,
     ⟨(some 0), .mv (.t 13), none⟩])
   (.skip)))
  (.seq (.reg [⟨(some 3), .mv (.k (.c (.d (.int .u64 0)))), none⟩])
  (.seq (.seq (.reg [⟨(some 14), .mv (.t 0), none⟩,
    ⟨(some 15), .len (.t 14), none⟩,
    ⟨(some 16), .mv (.k (.c (.d (.int .i64 0)))), none⟩])
  (.block 0 (.loop lp_get_0)))
  (.seq (.reg [⟨(some 26), .mv (.t 3), none⟩,
    ⟨(some 2), .mv (.t 26), none⟩])
  (.ret))))),
  [(2, none)]⟩
theorem cf_get : compFn Tryd.prog { own := [], comp := [], frz := [], nils := [] } Tryd.f115 = some sf_get := by kernel_rfl
set_option maxHeartbeats 400000 in
theorem get_l (G : Glob) (Q : AX → St → Prop) (l : List UInt8) (hl : l.length ≤ 8) (σ : St) (he : Ent σ (getSt l 0)) (hq : ∀ f, f 3 = .w (.c (.d (.int .u64 (getN l)))) → Q (.ex 0) ⟨f, hN, uN⟩) : awp Tryd.prog G (.loop lp_get_0) Q σ := by
  refine loop_st (getSt l) (fun i => l.length - i) (fun i => i ≤ l.length) 0 (Nat.zero_le _) he ?_
  intro i hi
  by_cases hlt : i < l.length
  · have hb := l[i].toNat_lt
    have e2 : l[i]? = some l[i] := List.getElem?_eq_getElem hlt
    have e3 : IntKind.u64.wrap (l[i].toNat : Int) = (l[i].toNat : Int) := u64_in _ (by omega) (by omega)
    have e4 : IntKind.i64.wrap ((i : Int) + 1) = ((i + 1 : Nat) : Int) := by rw [IntWalk.i64_in _ (by omega)]; rfl
    have e5 := getN_take l i hlt
    simp only [lp_get_0, getSt, wx, stV, seval, IntWalk.iteOmega, IntWalk.toNatUp, reduceCtorEq, get_map, e2, IntKind.bits, e3, e4]
    refine lop_next (i + 1) (by omega) (by omega) (ent_l id ?_ ?_ rfl rfl) <;> simp only [wx, wex, stV, seval, IntWalk.iteOmega, IntWalk.toNatUp, reduceCtorEq, ← e5]
  · have : l.take i = l := List.take_of_length_le (by omega)
    simp only [lp_get_0, getSt, wx, stV, seval, IntWalk.iteOmega, IntWalk.toNatUp, reduceCtorEq, this]
    exact hq _ (by simp only [wx, stV, seval, IntWalk.iteOmega, IntWalk.toNatUp, reduceCtorEq])
theorem get_c (G : Glob) (l : List UInt8) (hl : l.length ≤ 9223372036854775807) : Den Tryd.prog G 115 [.sl (l.map bD)] (.w (.c (.d (.int .u64 (getN l))))) := by
  refine den_walk Tryd.func115 cf_get rfl rfl ?_
  by_cases h8 : 8 < l.length
  · have e0 : IntKind.i64.wrap ((l.length : Int) - 8) = ((l.length - 8 : Nat) : Int) := by rw [IntWalk.i64_in _ (by omega)]; omega
    have e1 : (l.drop (l.length - 8)).take (l.length - (l.length - 8)) = l.drop (l.length - 8) := List.take_of_length_le (by rw [List.length_drop]; omega)
    simp only [sf_get, putAll, wx, stV, seval, IntWalk.iteOmega, IntWalk.toNatUp, reduceCtorEq, e0, e1]
    refine get_l G _ (l.drop (l.length - 8)) (by rw [List.length_drop]; omega) _ ?_ fun f hf => ?_
    · refine ent_l id ?_ ?_ rfl rfl <;> simp only [wx, wex, stV, seval, IntWalk.iteOmega, IntWalk.toNatUp, reduceCtorEq] <;> rfl
    · rw [getN_tail l h8] at hf
      simp only [wx, stV, seval, IntWalk.iteOmega, IntWalk.toNatUp, reduceCtorEq, hf]
      exact ret_d (by simp only [wx, stV, seval, IntWalk.iteOmega, IntWalk.toNatUp, reduceCtorEq])
  · simp only [sf_get, putAll, wx, stV, seval, IntWalk.iteOmega, IntWalk.toNatUp, reduceCtorEq]
    refine get_l G _ l (by omega) _ ?_ fun f hf => ?_
    · refine ent_l id ?_ ?_ rfl rfl <;> simp only [wx, wex, stV, seval, IntWalk.iteOmega, IntWalk.toNatUp, reduceCtorEq] <;> rfl
    · simp only [wx, stV, seval, IntWalk.iteOmega, IntWalk.toNatUp, reduceCtorEq, hf]
      exact ret_d (by simp only [wx, stV, seval, IntWalk.iteOmega, IntWalk.toNatUp, reduceCtorEq])

/-! ### Hex -/
def hexD (n : Nat) : UInt8 := if n < 10 then UInt8.ofNat (48 + n) else UInt8.ofNat (87 + n)
def hexL (l : List UInt8) : List UInt8 := l.flatMap fun b => [hexD (b.toNat / 16), hexD (b.toNat % 16)]
theorem hex_size : (⟨#[48, 49, 50, 51, 52, 53, 54, 55, 56, 57, 97, 98, 99, 100, 101, 102]⟩ : ByteArray).size = 16 := rfl
theorem hex_get (j : Nat) (h : j < 16) : (⟨#[48, 49, 50, 51, 52, 53, 54, 55, 56, 57, 97, 98, 99, 100, 101, 102]⟩ : ByteArray).data.toList[j]? = some (hexD j) := by
  have : ∀ j : Fin 16, (⟨#[48, 49, 50, 51, 52, 53, 54, 55, 56, 57, 97, 98, 99, 100, 101, 102]⟩ : ByteArray).data.toList[j.val]? = some (hexD j.val) := by decide
  exact this ⟨j, h⟩
theorem app_b1 (l : List UInt8) (a : UInt8) : l.map bD ++ [bD a] = (l ++ [a]).map bD := by simp
theorem app_b2 (l : List UInt8) (a b : UInt8) : l.map bD ++ [bD a, bD b] = (l ++ [a, b]).map bD := by simp
theorem hexL_len (l : List UInt8) : (hexL l).length = 2 * l.length := by
  induction l with
  | nil => rfl
  | cons b l ih =>
    have : hexL (b :: l) = [hexD (b.toNat / 16), hexD (b.toNat % 16)] ++ hexL l := rfl
    rw [this, List.length_append, ih]; simp; omega
theorem hexL_snoc (l : List UInt8) (i : Nat) (h : i < l.length) : hexL (l.take i) ++ [hexD (l[i].toNat / 16), hexD (l[i].toNat % 16)] = hexL (l.take (i + 1)) := by
  rw [List.take_succ_eq_append_getElem h]
  unfold hexL
  rw [List.flatMap_append]
  rfl
def hexSt (l : List UInt8) (i : Nat) : St := ⟨ofL [(3, .w (.c (.own 1 1 0 (hexL (l.take i)).length))), (10, .w (.c (.d (.sl (l.map bD))))), (11, .w (.c (.d (.int .i64 (l.length : Int))))), (12, .w (.c (.d (.int .i64 (i : Int)))))], hL [(1, .row 1 ((hexL (l.take i)).map bD))], uL [1]⟩
end Go.Proofs.YtjgkchmdhicmpaaDoor
set_option linter.unusedVariables false
set_option linter.unusedSimpArgs false
namespace Go.Proofs.YtjgkchmdhicmpaaDoor
open Go.RowKit

def firstK : List UInt32 := [0x6a09e667, 0xbb67ae85, 0x3c6ef372, 0xa54ff53a, 0x510e527f, 0x9b05688c, 0x1f83d9ab, 0x5be0cd19]
def constK : List UInt32 := [
  0x428a2f98, 0x71374491, 0xb5c0fbcf, 0xe9b5dba5, 0x3956c25b, 0x59f111f1, 0x923f82a4, 0xab1c5ed5,
  0xd807aa98, 0x12835b01, 0x243185be, 0x550c7dc3, 0x72be5d74, 0x80deb1fe, 0x9bdc06a7, 0xc19bf174,
  0xe49b69c1, 0xefbe4786, 0x0fc19dc6, 0x240ca1cc, 0x2de92c6f, 0x4a7484aa, 0x5cb0a9dc, 0x76f988da,
  0x983e5152, 0xa831c66d, 0xb00327c8, 0xbf597fc7, 0xc6e00bf3, 0xd5a79147, 0x06ca6351, 0x14292967,
  0x27b70a85, 0x2e1b2138, 0x4d2c6dfc, 0x53380d13, 0x650a7354, 0x766a0abb, 0x81c2c92e, 0x92722c85,
  0xa2bfe8a1, 0xa81a664b, 0xc24b8b70, 0xc76c51a3, 0xd192e819, 0xd6990624, 0xf40e3585, 0x106aa070,
  0x19a4c116, 0x1e376c08, 0x2748774c, 0x34b0bcb5, 0x391c0cb3, 0x4ed8aa4a, 0x5b9cca4f, 0x682e6ff3,
  0x748f82ee, 0x78a5636f, 0x84c87814, 0x8cc70208, 0x90befffa, 0xa4506ceb, 0xbef9a3f7, 0xc67178f2]
theorem firstK_len : firstK.length = 8 := rfl
theorem constK_len : constK.length = 64 := rfl

/-! ### A block -/
def wordAt (b : List UInt8) (t : Nat) : UInt32 :=
  orW (orW (orW (shlW (byteW (b.getD (4 * t) 0)) 24) (shlW (byteW (b.getD (4 * t + 1) 0)) 16)) (shlW (byteW (b.getD (4 * t + 2) 0)) 8)) (byteW (b.getD (4 * t + 3) 0))
def smallA (x : UInt32) : UInt32 := xorW (xorW (rotW x 7) (rotW x 18)) (shrW x 3)
def smallB (y : UInt32) : UInt32 := xorW (xorW (rotW y 17) (rotW y 19)) (shrW y 10)
def nextW (s : List UInt32) (t : Nat) : UInt32 :=
  addW (addW (addW (smallB (s.getD (t - 2) 0)) (s.getD (t - 7) 0)) (smallA (s.getD (t - 15) 0))) (s.getD (t - 16) 0)
def sched16 (b : List UInt8) (n : Nat) : List UInt32 := (List.range n).map (wordAt b)
/-- The schedule, n words behind the first 16. -/
def schedN (b : List UInt8) : Nat → List UInt32
  | 0 => sched16 b 16
  | n + 1 => schedN b n ++ [nextW (schedN b n) (16 + n)]
def sched (b : List UInt8) : List UInt32 := schedN b 48
theorem sched_at (b : List UInt8) (m : Nat) (h : m = 48) : sched b = schedN b m := by rw [h]; rfl
def bigE (e : UInt32) : UInt32 := xorW (xorW (rotW e 6) (rotW e 11)) (rotW e 25)
def bigA (a : UInt32) : UInt32 := xorW (xorW (rotW a 2) (rotW a 13)) (rotW a 22)
def chW (e f g : UInt32) : UInt32 := xorW (andW e f) (andW (notW e) g)
def majW (a b c : UInt32) : UInt32 := xorW (xorW (andW a b) (andW a c)) (andW b c)
structure Eight where
  (a b c d e f g h : UInt32)
def Eight.step (s : Eight) (k w : UInt32) : Eight :=
  let t1 := addW (addW (addW (addW s.h (bigE s.e)) (chW s.e s.f s.g)) k) w
  let t2 := addW (bigA s.a) (majW s.a s.b s.c)
  ⟨addW t1 t2, s.a, s.b, s.c, addW s.d t1, s.e, s.f, s.g⟩
def Eight.of (h : List UInt32) : Eight := ⟨h.getD 0 0, h.getD 1 0, h.getD 2 0, h.getD 3 0, h.getD 4 0, h.getD 5 0, h.getD 6 0, h.getD 7 0⟩
def Eight.rounds (s : Eight) (k w : List UInt32) : Nat → Eight
  | 0 => s
  | n + 1 => (s.rounds k w n).step (k.getD n 0) (w.getD n 0)
def Eight.sum (s : Eight) (h : List UInt32) : List UInt32 :=
  [addW (h.getD 0 0) s.a, addW (h.getD 1 0) s.b, addW (h.getD 2 0) s.c, addW (h.getD 3 0) s.d, addW (h.getD 4 0) s.e, addW (h.getD 5 0) s.f, addW (h.getD 6 0) s.g, addW (h.getD 7 0) s.h]
def blockK (h : List UInt32) (b : List UInt8) : List UInt32 := ((Eight.of h).rounds constK (sched b) 64).sum h
theorem blockK_len (h : List UInt32) (b : List UInt8) : (blockK h b).length = 8 := rfl

/-- "abc", padded, as one block: the hash that the standard gives. -/
def abcBlock : List UInt8 := [97, 98, 99, 128] ++ List.replicate 52 0 ++ [0, 0, 0, 0, 0, 0, 0, 24]
theorem abc_hash : blockK firstK abcBlock = [0xba7816bf, 0x8f01cfea, 0x414140de, 0x5dae2223, 0xb00361a3, 0x96177a9c, 0xb410ff61, 0xf20015ad] := by
  decide +kernel
end Go.Proofs.YtjgkchmdhicmpaaDoor
set_option linter.unusedVariables false
set_option linter.unusedSimpArgs false
namespace Go.Proofs.YtjgkchmdhicmpaaDoor
open Go.RowKit

theorem orW_comm (x y : UInt32) : orW x y = orW y x := UInt32.or_comm x y
def sf_rturn : SFn := ⟨2, 15,
  .seq (.reg [⟨(some 4), .mv (.k (.c (.d (.int .u32 0)))), none⟩])
  (.seq (.reg [⟨(some 5), .mv (.t 0), none⟩,
    ⟨(some 6), .mv (.t 1), none⟩,
    ⟨(some 7), .conv .u64 (.t 6), none⟩,
    ⟨(some 8), .bin .shr (.t 5) (.t 7), none⟩,
    ⟨(some 9), .mv (.t 0), none⟩,
    ⟨(some 10), .mv (.t 1), none⟩,
    ⟨(some 11), .bin .sub (.k (.c (.d (.int .i64 32)))) (.t 10), none⟩,
    ⟨(some 12), .conv .u64 (.t 11), none⟩,
    ⟨(some 13), .bin .shl (.t 9) (.t 12), none⟩,
    ⟨(some 14), .bin .or (.t 8) (.t 13), none⟩,
    ⟨(some 4), .mv (.t 14), none⟩])
  (.ret)),
  [(4, none)]⟩
theorem cf_rturn : compFn Tryd.prog { own := [], comp := [], frz := [], nils := [] } Tryd.f120 = some sf_rturn := by kernel_rfl
theorem rturn_c (G : Glob) (x : UInt32) (n : Nat) (h0 : 0 < n) (hn : n < 32) : Den Tryd.prog G 120 [wD x, .int .i64 n] (.w (.c (.d (wD (rotW x n))))) := by
  refine den_walk Tryd.func120 cf_rturn rfl rfl ?_
  have e1 : IntKind.u64.wrap (n : Int) = (n : Int) := IntWalk.u64_in _ (by omega)
  have e2 : IntKind.i64.wrap (32 - (n : Int)) = ((32 - n : Nat) : Int) := by rw [IntWalk.i64_in _ (by omega)]; omega
  have e3 : IntKind.u64.wrap ((32 - n : Nat) : Int) = ((32 - n : Nat) : Int) := IntWalk.u64_in _ (by omega)
  simp only [sf_rturn, putAll, wx, stV, seval, IntWalk.iteOmega, IntWalk.toNatUp, reduceCtorEq, e1, e2, e3]
  exact ret_d (by simp only [wx, stV, seval, IntWalk.iteOmega, IntWalk.toNatUp, reduceCtorEq] <;> rfl)
def sf_rotl : SFn := ⟨2, 17,
  .seq (.reg [⟨(some 4), .mv (.k (.c (.d (.int .u32 0)))), none⟩])
  (.seq (.reg [⟨(some 6), .mv (.t 1), none⟩,
    ⟨(some 7), .conv .u64 (.t 6), none⟩,
    ⟨(some 8), .bin .and (.t 7) (.k (.c (.d (.int .u64 31)))), none⟩,
    ⟨(some 5), .mv (.t 8), none⟩])
  (.seq (.reg [⟨(some 9), .mv (.t 0), none⟩,
    ⟨(some 10), .mv (.t 5), none⟩,
    ⟨(some 11), .bin .shl (.t 9) (.t 10), none⟩,
    ⟨(some 12), .mv (.t 0), none⟩,
    ⟨(some 13), .mv (.t 5), none⟩,
    ⟨(some 14), .bin .sub (.k (.c (.d (.int .u64 32)))) (.t 13), none⟩,
    ⟨(some 15), .bin .shr (.t 12) (.t 14), none⟩,
    ⟨(some 16), .bin .or (.t 11) (.t 15), none⟩,
    ⟨(some 4), .mv (.t 16), none⟩])
  (.ret))),
  [(4, none)]⟩
theorem cf_rotl : compFn Tryd.prog { own := [], comp := [], frz := [], nils := [] } Tryd.f128 = some sf_rotl := by kernel_rfl
theorem rotl_c (G : Glob) (x : UInt32) (n : Nat) (h0 : 0 < n) (hn : n < 32) : Den Tryd.prog G 128 [wD x, .int .i64 (-(n : Int))] (.w (.c (.d (wD (rotW x n))))) := by
  refine den_walk Tryd.func128 cf_rotl rfl rfl ?_
  have e1 : bits .and .u64 (IntKind.u64.wrap (-(n : Int))) 31 = ((32 - n : Nat) : Int) := by
    have h := bits_mask .u64 64 (by decide) u64_in 5 (by decide) (IntKind.u64.wrap (-(n : Int))) (by rw [IntKind.wrap_u64]; omega) (by rw [IntKind.wrap_u64]; omega)
    rw [show (31 : Int) = 2 ^ 5 - 1 by decide, h, IntKind.wrap_u64]
    omega
  have e2 : IntKind.u64.wrap (32 - ((32 - n : Nat) : Int)) = ((n : Nat) : Int) := by rw [IntWalk.u64_in _ (by omega)]; omega
  simp only [sf_rotl, putAll, wx, stV, seval, IntWalk.iteOmega, IntWalk.toNatUp, reduceCtorEq, e1, e2]
  rw [orW_comm]
  exact ret_d (by simp only [wx, stV, seval, IntWalk.iteOmega, IntWalk.toNatUp, reduceCtorEq] <;> rfl)
def sf_turn : SFn := ⟨2, 9,
  .seq (.reg [⟨(some 4), .mv (.k (.c (.d (.int .u32 0)))), none⟩])
  (.seq (.reg [⟨(some 5), .mv (.t 0), none⟩,
    ⟨(some 6), .mv (.t 1), none⟩,
    ⟨(some 7), .un .neg (.t 6), none⟩,
    ⟨(some 8), .call 128 [(.t 5), (.t 7)] none, none⟩,
    ⟨(some 4), .mv (.t 8), none⟩])
  (.ret)),
  [(4, none)]⟩
theorem cf_turn : compFn Tryd.prog { own := [], comp := [], frz := [], nils := [] } Tryd.f123 = some sf_turn := by kernel_rfl
theorem turn_c (G : Glob) (x : UInt32) (n : Nat) (h0 : 0 < n) (hn : n < 32) : Den Tryd.prog G 123 [wD x, .int .i64 n] (.w (.c (.d (wD (rotW x n))))) := by
  refine den_walk Tryd.func123 cf_turn rfl rfl ?_
  have e1 : IntKind.i64.wrap (0 - (n : Int)) = -(n : Int) := by rw [IntWalk.i64_in _ (by omega)]; omega
  simp only [sf_turn, putAll, wx, stV, seval, IntWalk.iteOmega, IntWalk.toNatUp, reduceCtorEq, e1]
  refine st_call (rotl_c G x n h0 hn) rfl (.inr rfl) ?_
  simp only [wx, stV, seval, IntWalk.iteOmega, IntWalk.toNatUp, reduceCtorEq]
  exact ret_d (by simp only [wx, stV, seval, IntWalk.iteOmega, IntWalk.toNatUp, reduceCtorEq])
def sf_rfst : SFn := ⟨0, 2,
  .seq (.reg [⟨(some 0), .mv (.k (.c .nil)), none⟩])
  (.seq (.reg [⟨(some 1), .bldSl true 8 1 (.int .u32 0) [(0, (.k (.c (.d (.int .u32 1779033703))))), (1, (.k (.c (.d (.int .u32 3144134277))))), (2, (.k (.c (.d (.int .u32 1013904242))))), (3, (.k (.c (.d (.int .u32 2773480762))))), (4, (.k (.c (.d (.int .u32 1359893119))))), (5, (.k (.c (.d (.int .u32 2600822924))))), (6, (.k (.c (.d (.int .u32 528734635))))), (7, (.k (.c (.d (.int .u32 1541459225)))))], none⟩,
    ⟨(some 0), .mv (.t 1), none⟩])
  (.ret)),
  [(0, none)]⟩
theorem cf_rfst : compFn Tryd.prog { own := [1], comp := [], frz := [], nils := [] } Tryd.f99 = some sf_rfst := by kernel_rfl
theorem rfst_c (G : Glob) : Den Tryd.prog G 99 [] (.w (.c (.fr 1 (firstK.map wD)))) := by
  refine den_walk Tryd.func99 cf_rfst rfl rfl ?_
  simp only [sf_rfst, putAll, sx]
  refine optK_mk (.w (.c (.own 8 1 0 8)), upd hN 8 (some (.row 1 (firstK.map wD))), upd uN 8 true) (by kernel_rfl) ?_
  simp only [wx, stV, seval, IntWalk.iteOmega, IntWalk.toNatUp, reduceCtorEq]
  exact ret_own (id := 8) (n := 8) (s := 1) (by simp only [wx, stV, seval, IntWalk.iteOmega, IntWalk.toNatUp, reduceCtorEq]) (by simp only [wx, stV, seval, IntWalk.iteOmega, IntWalk.toNatUp, reduceCtorEq]) rfl
def sf_rcon : SFn := ⟨0, 2,
  .seq (.reg [⟨(some 0), .mv (.k (.c .nil)), none⟩])
  (.seq (.reg [⟨(some 1), .bldSl true 64 1 (.int .u32 0) [(0, (.k (.c (.d (.int .u32 1116352408))))), (1, (.k (.c (.d (.int .u32 1899447441))))), (2, (.k (.c (.d (.int .u32 3049323471))))), (3, (.k (.c (.d (.int .u32 3921009573))))), (4, (.k (.c (.d (.int .u32 961987163))))), (5, (.k (.c (.d (.int .u32 1508970993))))), (6, (.k (.c (.d (.int .u32 2453635748))))), (7, (.k (.c (.d (.int .u32 2870763221))))), (8, (.k (.c (.d (.int .u32 3624381080))))), (9, (.k (.c (.d (.int .u32 310598401))))), (10, (.k (.c (.d (.int .u32 607225278))))), (11, (.k (.c (.d (.int .u32 1426881987))))), (12, (.k (.c (.d (.int .u32 1925078388))))), (13, (.k (.c (.d (.int .u32 2162078206))))), (14, (.k (.c (.d (.int .u32 2614888103))))), (15, (.k (.c (.d (.int .u32 3248222580))))), (16, (.k (.c (.d (.int .u32 3835390401))))), (17, (.k (.c (.d (.int .u32 4022224774))))), (18, (.k (.c (.d (.int .u32 264347078))))), (19, (.k (.c (.d (.int .u32 604807628))))), (20, (.k (.c (.d (.int .u32 770255983))))), (21, (.k (.c (.d (.int .u32 1249150122))))), (22, (.k (.c (.d (.int .u32 1555081692))))), (23, (.k (.c (.d (.int .u32 1996064986))))), (24, (.k (.c (.d (.int .u32 2554220882))))), (25, (.k (.c (.d (.int .u32 2821834349))))), (26, (.k (.c (.d (.int .u32 2952996808))))), (27, (.k (.c (.d (.int .u32 3210313671))))), (28, (.k (.c (.d (.int .u32 3336571891))))), (29, (.k (.c (.d (.int .u32 3584528711))))), (30, (.k (.c (.d (.int .u32 113926993))))), (31, (.k (.c (.d (.int .u32 338241895))))), (32, (.k (.c (.d (.int .u32 666307205))))), (33, (.k (.c (.d (.int .u32 773529912))))), (34, (.k (.c (.d (.int .u32 1294757372))))), (35, (.k (.c (.d (.int .u32 1396182291))))), (36, (.k (.c (.d (.int .u32 1695183700))))), (37, (.k (.c (.d (.int .u32 1986661051))))), (38, (.k (.c (.d (.int .u32 2177026350))))), (39, (.k (.c (.d (.int .u32 2456956037))))), (40, (.k (.c (.d (.int .u32 2730485921))))), (41, (.k (.c (.d (.int .u32 2820302411))))), (42, (.k (.c (.d (.int .u32 3259730800))))), (43, (.k (.c (.d (.int .u32 3345764771))))), (44, (.k (.c (.d (.int .u32 3516065817))))), (45, (.k (.c (.d (.int .u32 3600352804))))), (46, (.k (.c (.d (.int .u32 4094571909))))), (47, (.k (.c (.d (.int .u32 275423344))))), (48, (.k (.c (.d (.int .u32 430227734))))), (49, (.k (.c (.d (.int .u32 506948616))))), (50, (.k (.c (.d (.int .u32 659060556))))), (51, (.k (.c (.d (.int .u32 883997877))))), (52, (.k (.c (.d (.int .u32 958139571))))), (53, (.k (.c (.d (.int .u32 1322822218))))), (54, (.k (.c (.d (.int .u32 1537002063))))), (55, (.k (.c (.d (.int .u32 1747873779))))), (56, (.k (.c (.d (.int .u32 1955562222))))), (57, (.k (.c (.d (.int .u32 2024104815))))), (58, (.k (.c (.d (.int .u32 2227730452))))), (59, (.k (.c (.d (.int .u32 2361852424))))), (60, (.k (.c (.d (.int .u32 2428436474))))), (61, (.k (.c (.d (.int .u32 2756734187))))), (62, (.k (.c (.d (.int .u32 3204031479))))), (63, (.k (.c (.d (.int .u32 3329325298)))))], none⟩,
    ⟨(some 0), .mv (.t 1), none⟩])
  (.ret)),
  [(0, none)]⟩
theorem cf_rcon : compFn Tryd.prog { own := [1], comp := [], frz := [], nils := [] } Tryd.f100 = some sf_rcon := by kernel_rfl
theorem rcon_c (G : Glob) : Den Tryd.prog G 100 [] (.w (.c (.fr 1 (constK.map wD)))) := by
  refine den_walk Tryd.func100 cf_rcon rfl rfl ?_
  simp only [sf_rcon, putAll, sx]
  refine optK_mk (.w (.c (.own 8 1 0 64)), upd hN 8 (some (.row 1 (constK.map wD))), upd uN 8 true) (by kernel_rfl) ?_
  simp only [wx, stV, seval, IntWalk.iteOmega, IntWalk.toNatUp, reduceCtorEq]
  exact ret_own (id := 8) (n := 64) (s := 1) (by simp only [wx, stV, seval, IntWalk.iteOmega, IntWalk.toNatUp, reduceCtorEq]) (by simp only [wx, stV, seval, IntWalk.iteOmega, IntWalk.toNatUp, reduceCtorEq]) rfl
end Go.Proofs.YtjgkchmdhicmpaaDoor
set_option linter.unusedVariables false
set_option linter.unusedSimpArgs false
namespace Go.Proofs.YtjgkchmdhicmpaaDoor
open Go.RowKit

theorem byteW_nat' (b : UInt8) : (byteW b).toNat = b.toNat := by have := byteW_nat b; omega
theorem shlW_byte (b : UInt8) (n : Nat) (hn : n ≤ 24) : (shlW (byteW b) n).toNat = 2 ^ n * b.toNat := by
  have hb := b.toNat_lt
  have h : (2 : Nat) ^ n ≤ 2 ^ 24 := Nat.pow_le_pow_right (by decide) hn
  have h2 : 2 ^ n * b.toNat ≤ 2 ^ 24 * 255 := Nat.mul_le_mul h (by omega)
  unfold shlW
  rw [byteW_nat', UInt32.toNat_ofNat_of_lt' (by rw [Nat.mul_comm]; simp only [UInt32.size]; omega), Nat.mul_comm]
theorem orW_nat (x y : UInt32) : (orW x y).toNat = x.toNat ||| y.toNat := UInt32.toNat_or x y
theorem wordAt_nat (b : List UInt8) (t : Nat) : (wordAt b t).toNat = ((((b.getD (4 * t) 0).toNat * 256 + (b.getD (4 * t + 1) 0).toNat) * 256 + (b.getD (4 * t + 2) 0).toNat) * 256 + (b.getD (4 * t + 3) 0).toNat) := by
  unfold wordAt
  generalize b.getD (4 * t) 0 = p
  generalize b.getD (4 * t + 1) 0 = q
  generalize b.getD (4 * t + 2) 0 = r
  generalize b.getD (4 * t + 3) 0 = s
  have hp := p.toNat_lt
  have hq := q.toNat_lt
  have hr := r.toNat_lt
  have hs := s.toNat_lt
  rw [orW_nat, orW_nat, orW_nat, shlW_byte _ _ (by decide), shlW_byte _ _ (by decide), shlW_byte _ _ (by decide), byteW_nat']
  have e1 := Nat.two_pow_add_eq_or_of_lt (i := 24) (b := 2 ^ 16 * q.toNat) (by omega) p.toNat
  rw [← e1]
  have e2 := Nat.two_pow_add_eq_or_of_lt (i := 16) (b := 2 ^ 8 * r.toNat) (by omega) (2 ^ 8 * p.toNat + q.toNat)
  have e3 : 2 ^ 24 * p.toNat + 2 ^ 16 * q.toNat = 2 ^ 16 * (2 ^ 8 * p.toNat + q.toNat) := by omega
  rw [e3, ← e2]
  have e4 := Nat.two_pow_add_eq_or_of_lt (i := 8) (b := s.toNat) (by omega) (2 ^ 8 * (2 ^ 8 * p.toNat + q.toNat) + r.toNat)
  have e5 : 2 ^ 16 * (2 ^ 8 * p.toNat + q.toNat) + 2 ^ 8 * r.toNat = 2 ^ 8 * (2 ^ 8 * (2 ^ 8 * p.toNat + q.toNat) + r.toNat) := by omega
  rw [e5, ← e4]
  omega
theorem four (b : List UInt8) (t : Nat) (h : 4 * t + 4 ≤ b.length) : (b.drop (4 * t)).take 4 = [b.getD (4 * t) 0, b.getD (4 * t + 1) 0, b.getD (4 * t + 2) 0, b.getD (4 * t + 3) 0] := by
  apply List.ext_getElem?
  intro j
  rw [List.getElem?_take, List.getElem?_drop]
  rcases j with _ | _ | _ | _ | j
  · simp [List.getD, List.getElem?_eq_getElem (show 4 * t < b.length by omega)]
  · simp [List.getD, List.getElem?_eq_getElem (show 4 * t + 1 < b.length by omega)]
  · simp [List.getD, List.getElem?_eq_getElem (show 4 * t + 2 < b.length by omega)]
  · simp [List.getD, List.getElem?_eq_getElem (show 4 * t + 3 < b.length by omega)]
  · rw [if_neg (by omega)]
    rfl
theorem getW (b : List UInt8) (t : Nat) (h : 4 * t + 4 ≤ b.length) : D.int .u32 (IntKind.u32.wrap (getN ((b.drop (4 * t)).take 4) : Int)) = wD (wordAt b t) := by
  have h1 := wordAt_nat b t
  rw [four b t h]
  unfold wD
  rw [h1]
  generalize b.getD (4 * t) 0 = p
  generalize b.getD (4 * t + 1) 0 = q
  generalize b.getD (4 * t + 2) 0 = r
  generalize b.getD (4 * t + 3) 0 = s
  have hp := p.toNat_lt
  have hq := q.toNat_lt
  have hr := r.toNat_lt
  have hs := s.toNat_lt
  have e : getN [p, q, r, s] = (((p.toNat * 256 + q.toNat) * 256 + r.toNat) * 256 + s.toNat) := by
    simp only [getN, List.foldl_cons, List.foldl_nil]
    omega
  rw [e, IntWalk.u32_in _ (by omega)]
theorem sched16_len (b : List UInt8) (n : Nat) : (sched16 b n).length = n := by simp [sched16]
theorem schedN_len (b : List UInt8) : ∀ n, (schedN b n).length = 16 + n
  | 0 => by simp [schedN, sched16_len]
  | n + 1 => by rw [schedN, List.length_append, schedN_len b n]; simp; omega
theorem set_next {α : Type} (l : List α) (z x : α) (n : Nat) (h : 0 < n) : (l ++ List.replicate n z).set l.length x = (l ++ [x]) ++ List.replicate (n - 1) z := by
  obtain ⟨k, rfl⟩ : ∃ k, n = k + 1 := ⟨n - 1, by omega⟩
  rw [List.set_append_right _ _ (Nat.le_refl _), Nat.sub_self, List.replicate_succ, List.set_cons_zero]
  simp
theorem get_of {l : List UInt32} {r : List UInt32} {i : Nat} (h : i < l.length) : (l ++ r)[i]? = some (l.getD i 0) := by
  rw [List.getElem?_append_left h]
  simp [h]
def spSt1 (b : List UInt8) (t : Nat) : St := ⟨ofL [(0, .w (.c (.d (.sl (b.map bD))))), (2, .w (.c (.pa 1 1))), (3, .w (.c (.pa 2 1))), (10, .w (.c (.d (.int .i64 (t : Int)))))], hL [(1, .row 1 ((List.replicate 64 (0 : UInt32)).map wD)), (2, .row 1 ((sched16 b t ++ List.replicate (64 - t) 0).map wD))], uL [1, 2]⟩
def spSt2 (b : List UInt8) (n : Nat) : St := ⟨ofL [(2, .w (.c (.pa 1 1))), (3, .w (.c (.pa 2 1))), (5, .w (.c (.d (.int .i64 ((16 + n : Nat) : Int)))))], hL [(1, .row 1 ((List.replicate 64 (0 : UInt32)).map wD)), (2, .row 1 ((schedN b n ++ List.replicate (48 - n) 0).map wD))], uL [1, 2]⟩
def lp_spread_0 : SCode :=
  .seq (.reg [⟨(some 11), .bin .lss (.t 10) (.k (.c (.d (.int .i64 16)))), none⟩])
  (.seq (.cond (.t 11) (.skip)
   (.exit 0))
  (.seq (.block 1 (.seq (.reg [⟨(some 12), .mv (.t 10), none⟩,
     ⟨(some 4), .mv (.t 12), none⟩])
   (.reg [⟨(some 13), .mv (.t 4), none⟩,
     ⟨(some 14), .mv (.t 0), none⟩,
     ⟨(some 15), .mv (.t 4), none⟩,
     ⟨(some 16), .bin .mul (.t 15) (.k (.c (.d (.int .i64 4)))), none⟩,
     ⟨(some 17), .mv (.t 4), none⟩,
     ⟨(some 18), .bin .add (.t 17) (.k (.c (.d (.int .i64 1)))), none⟩,
     ⟨(some 19), .bin .mul (.t 18) (.k (.c (.d (.int .i64 4)))), none⟩,
     ⟨(some 20), .slice 1 (.t 14) (some (.t 16)) (some (.t 19)) none, none⟩,
     ⟨(some 21), .call 115 [(.t 20)] none, none⟩,
     ⟨(some 22), .conv .u32 (.t 21), none⟩,
     ⟨(some 23), .idxPa 1 64 (.t 3) (.t 13), none⟩,
     ⟨none, .store .sc (.t 23) (.t 22), none⟩])))
  (.reg [⟨(some 24), .bin .add (.t 10) (.k (.c (.d (.int .i64 1)))), none⟩,
    ⟨(some 10), .mv (.t 24), none⟩])))
def lp_spread_1 : SCode :=
  .seq (.seq (.reg [⟨(some 25), .mv (.t 5), none⟩,
    ⟨(some 26), .bin .lss (.t 25) (.k (.c (.d (.int .i64 64)))), none⟩])
  (.cond (.t 26) (.skip)
   (.exit 2)))
  (.seq (.block 3 (.seq (.reg [⟨(some 29), .mv (.t 5), none⟩,
     ⟨(some 30), .bin .sub (.t 29) (.k (.c (.d (.int .i64 15)))), none⟩,
     ⟨(some 31), .idxPa 1 64 (.t 3) (.t 30), none⟩,
     ⟨(some 32), .load .sc (.t 31), none⟩,
     ⟨(some 33), .mv (.t 5), none⟩,
     ⟨(some 34), .bin .sub (.t 33) (.k (.c (.d (.int .i64 2)))), none⟩,
     ⟨(some 35), .idxPa 1 64 (.t 3) (.t 34), none⟩,
     ⟨(some 36), .load .sc (.t 35), none⟩,
     ⟨(some 6), .mv (.t 32), none⟩,
     ⟨(some 7), .mv (.t 36), none⟩])
   (.seq (.reg [⟨(some 37), .mv (.t 6), none⟩,
     ⟨(some 38), .call 123 [(.t 37), (.k (.c (.d (.int .i64 7))))] none, none⟩,
     ⟨(some 39), .mv (.t 6), none⟩,
     ⟨(some 40), .call 123 [(.t 39), (.k (.c (.d (.int .i64 18))))] none, none⟩,
     ⟨(some 41), .bin .xor (.t 38) (.t 40), none⟩,
     ⟨(some 42), .mv (.t 6), none⟩,
     ⟨(some 43), .bin .shr (.t 42) (.k (.c (.d (.int .u64 3)))), none⟩,
     ⟨(some 44), .bin .xor (.t 41) (.t 43), none⟩,
     ⟨(some 8), .mv (.t 44), none⟩])
   (.seq (.reg [⟨(some 45), .mv (.t 7), none⟩,
     ⟨(some 46), .call 123 [(.t 45), (.k (.c (.d (.int .i64 17))))] none, none⟩,
     ⟨(some 47), .mv (.t 7), none⟩,
     ⟨(some 48), .call 123 [(.t 47), (.k (.c (.d (.int .i64 19))))] none, none⟩,
     ⟨(some 49), .bin .xor (.t 46) (.t 48), none⟩,
     ⟨(some 50), .mv (.t 7), none⟩,
     ⟨(some 51), .bin .shr (.t 50) (.k (.c (.d (.int .u64 10)))), none⟩,
     ⟨(some 52), .bin .xor (.t 49) (.t 51), none⟩,
     ⟨(some 9), .mv (.t 52), none⟩])
   (.reg [⟨(some 53), .mv (.t 5), none⟩,
     ⟨(some 54), .mv (.t 9), none⟩,
     ⟨(some 55), .mv (.t 5), none⟩,
     ⟨(some 56), .bin .sub (.t 55) (.k (.c (.d (.int .i64 7)))), none⟩,
     ⟨(some 57), .idxPa 1 64 (.t 3) (.t 56), none⟩,
     ⟨(some 58), .load .sc (.t 57), none⟩,
     ⟨(some 59), .bin .add (.t 54) (.t 58), none⟩,
     ⟨(some 60), .mv (.t 8), none⟩,
     ⟨(some 61), .bin .add (.t 59) (.t 60), none⟩,
     ⟨(some 62), .mv (.t 5), none⟩,
     ⟨(some 63), .bin .sub (.t 62) (.k (.c (.d (.int .i64 16)))), none⟩,
     ⟨(some 64), .idxPa 1 64 (.t 3) (.t 63), none⟩,
     ⟨(some 65), .load .sc (.t 64), none⟩,
     ⟨(some 66), .bin .add (.t 61) (.t 65), none⟩,
     ⟨(some 67), .idxPa 1 64 (.t 3) (.t 53), none⟩,
     ⟨none, .store .sc (.t 67) (.t 66), none⟩])))))
  (.reg [⟨(some 27), .mv (.t 5), none⟩,
    ⟨(some 28), .bin .add (.t 27) (.k (.c (.d (.int .i64 1)))), none⟩,
    ⟨(some 5), .mv (.t 28), none⟩]))
def sf_spread : SFn := ⟨1, 69,
  .seq (.reg [⟨(some 2), .allocArr [(.int .u32 0), (.int .u32 0), (.int .u32 0), (.int .u32 0), (.int .u32 0), (.int .u32 0), (.int .u32 0), (.int .u32 0), (.int .u32 0), (.int .u32 0), (.int .u32 0), (.int .u32 0), (.int .u32 0), (.int .u32 0), (.int .u32 0), (.int .u32 0), (.int .u32 0), (.int .u32 0), (.int .u32 0), (.int .u32 0), (.int .u32 0), (.int .u32 0), (.int .u32 0), (.int .u32 0), (.int .u32 0), (.int .u32 0), (.int .u32 0), (.int .u32 0), (.int .u32 0), (.int .u32 0), (.int .u32 0), (.int .u32 0), (.int .u32 0), (.int .u32 0), (.int .u32 0), (.int .u32 0), (.int .u32 0), (.int .u32 0), (.int .u32 0), (.int .u32 0), (.int .u32 0), (.int .u32 0), (.int .u32 0), (.int .u32 0), (.int .u32 0), (.int .u32 0), (.int .u32 0), (.int .u32 0), (.int .u32 0), (.int .u32 0), (.int .u32 0), (.int .u32 0), (.int .u32 0), (.int .u32 0), (.int .u32 0), (.int .u32 0), (.int .u32 0), (.int .u32 0), (.int .u32 0), (.int .u32 0), (.int .u32 0), (.int .u32 0), (.int .u32 0), (.int .u32 0)], none⟩])
  (.seq (.reg [⟨(some 3), .allocArr [(.int .u32 0), (.int .u32 0), (.int .u32 0), (.int .u32 0), (.int .u32 0), (.int .u32 0), (.int .u32 0), (.int .u32 0), (.int .u32 0), (.int .u32 0), (.int .u32 0), (.int .u32 0), (.int .u32 0), (.int .u32 0), (.int .u32 0), (.int .u32 0), (.int .u32 0), (.int .u32 0), (.int .u32 0), (.int .u32 0), (.int .u32 0), (.int .u32 0), (.int .u32 0), (.int .u32 0), (.int .u32 0), (.int .u32 0), (.int .u32 0), (.int .u32 0), (.int .u32 0), (.int .u32 0), (.int .u32 0), (.int .u32 0), (.int .u32 0), (.int .u32 0), (.int .u32 0), (.int .u32 0), (.int .u32 0), (.int .u32 0), (.int .u32 0), (.int .u32 0), (.int .u32 0), (.int .u32 0), (.int .u32 0), (.int .u32 0), (.int .u32 0), (.int .u32 0), (.int .u32 0), (.int .u32 0), (.int .u32 0), (.int .u32 0), (.int .u32 0), (.int .u32 0), (.int .u32 0), (.int .u32 0), (.int .u32 0), (.int .u32 0), (.int .u32 0), (.int .u32 0), (.int .u32 0), (.int .u32 0), (.int .u32 0), (.int .u32 0), (.int .u32 0), (.int .u32 0)], none⟩])
  (.seq (.seq (.reg [⟨(some 10), .mv (.k (.c (.d (.int .i64 0)))), none⟩])
  (.block 0 (.loop lp_spread_0)))
  (.seq (.seq (.reg [⟨(some 5), .mv (.k (.c (.d (.int .i64 16)))), none⟩])
  (.block 2 (.loop lp_spread_1)))
  (.seq (.reg [⟨(some 68), .load (.ag 64) (.t 3), none⟩,
    ⟨none, .store (.ag 64) (.t 2) (.t 68), none⟩])
  (.ret))))),
  [(2, (some (.ag 64)))]⟩
theorem cf_spread : compFn Tryd.prog { own := [], comp := [], frz := [], nils := [] } Tryd.f122 = some sf_spread := by kernel_rfl
set_option maxHeartbeats 800000 in
theorem spread_c (G : Glob) (b : List UInt8) (hb : b.length = 64) : Den Tryd.prog G 122 [.sl (b.map bD)] (.w (.c (.d (.agg ((sched b).map wD))))) := by
  refine den_walk Tryd.func122 cf_spread rfl rfl ?_
  simp only [sf_spread, putAll, wx, stV, seval, IntWalk.iteOmega, IntWalk.toNatUp, reduceCtorEq]
  refine loop_st (spSt1 b) (fun t => 16 - t) (fun t => t ≤ 16) 0 (Nat.zero_le _) ?_ ?_
  · refine ent_l (fun i => 8 * (i + 1)) ?_ ?_ rfl rfl <;> simp only [wx, wex, stV, seval, IntWalk.iteOmega, IntWalk.toNatUp, reduceCtorEq]
    exact ⟨rfl, rfl⟩
  · intro t ht
    by_cases hlt : t < 16
    · have e1 : IntKind.i64.wrap ((t : Int) * 4) = ((4 * t : Nat) : Int) := by rw [IntWalk.i64_in _ (by omega)]; omega
      have e2 : IntKind.i64.wrap ((t : Int) + 1) = ((t + 1 : Nat) : Int) := by rw [IntWalk.i64_in _ (by omega)]; rfl
      have e3 : IntKind.i64.wrap (((t + 1 : Nat) : Int) * 4) = ((4 * t + 4 : Nat) : Int) := by rw [IntWalk.i64_in _ (by omega)]; omega
      have e4 : 4 * t + 4 - 4 * t = 4 := by omega
      simp only [lp_spread_0, spSt1, wx, stV, seval, IntWalk.iteOmega, IntWalk.toNatUp, reduceCtorEq, e1, e2, e3, e4]
      refine st_call (get_c G _ (by rw [List.length_take, List.length_drop]; omega)) rfl (.inr rfl) ?_
      have h1 : t < (sched16 b t ++ List.replicate (64 - t) 0).length := by rw [List.length_append, sched16_len, List.length_replicate]; omega
      have h2 := set_next (sched16 b t) 0 (wordAt b t) (64 - t) (by omega)
      rw [sched16_len] at h2
      have h3 : sched16 b t ++ [wordAt b t] = sched16 b (t + 1) := by simp [sched16, List.range_succ]
      have h4 : 64 - t - 1 = 64 - (t + 1) := by omega
      rw [h3, h4] at h2
      simp only [wx, stV, seval, IntWalk.iteOmega, IntWalk.toNatUp, reduceCtorEq, getW b t (by omega), Nat.zero_add, stO_ws h1 (one_w _), set_ws, h2, e2]
      refine lop_next (t + 1) (by omega) (by omega) (ent_l id ?_ ?_ rfl rfl) <;> simp only [wx, wex, stV, seval, IntWalk.iteOmega, IntWalk.toNatUp, reduceCtorEq]
    · obtain rfl : t = 16 := by omega
      simp only [lp_spread_0, spSt1, wx, stV, seval, IntWalk.iteOmega, IntWalk.toNatUp, reduceCtorEq]
      refine loop_st (spSt2 b) (fun n => 48 - n) (fun n => n ≤ 48) 0 (Nat.zero_le _) ?_ ?_
      · have h0 : sched16 b 16 = schedN b 0 := rfl
        refine ent_l id ?_ ?_ rfl rfl <;> simp only [wx, wex, stV, seval, IntWalk.iteOmega, IntWalk.toNatUp, reduceCtorEq, h0]
      · intro n hn
        by_cases hlt : n < 48
        · have hl := schedN_len b n
          have w1 : ∀ k : Nat, k ≤ 16 → IntKind.i64.wrap (((16 + n : Nat) : Int) - (k : Int)) = ((16 + n - k : Nat) : Int) := fun k hk => by rw [IntWalk.i64_in _ (by omega)]; omega
          have e15 : IntKind.i64.wrap (((16 + n : Nat) : Int) - 15) = ((16 + n - 15 : Nat) : Int) := w1 15 (by decide)
          have e2 : IntKind.i64.wrap (((16 + n : Nat) : Int) - 2) = ((16 + n - 2 : Nat) : Int) := w1 2 (by decide)
          have e7 : IntKind.i64.wrap (((16 + n : Nat) : Int) - 7) = ((16 + n - 7 : Nat) : Int) := w1 7 (by decide)
          have e16 : IntKind.i64.wrap (((16 + n : Nat) : Int) - 16) = ((16 + n - 16 : Nat) : Int) := w1 16 (by decide)
          have e0 : IntKind.i64.wrap (((16 + n : Nat) : Int) + 1) = ((16 + (n + 1) : Nat) : Int) := by rw [IntWalk.i64_in _ (by omega)]; omega
          have g : ∀ k, k < 16 + n → ((schedN b n ++ List.replicate (48 - n) 0).map wD)[k]? = some (wD ((schedN b n).getD k 0)) := fun k hk => by
            rw [List.getElem?_map, get_of (by omega)]; rfl
          have g15 := g (16 + n - 15) (by omega)
          have g2 := g (16 + n - 2) (by omega)
          have g7 := g (16 + n - 7) (by omega)
          have g16 := g (16 + n - 16) (by omega)
          simp only [lp_spread_1, spSt2, wx, stV, seval, IntWalk.iteOmega, IntWalk.toNatUp, reduceCtorEq, e15, e2, e7, e16, e0, g15, g2, g7, g16]
          refine st_call (turn_c G _ 7 (by decide) (by decide)) rfl (.inr rfl) ?_
          simp only [wx, stV, seval, IntWalk.iteOmega, IntWalk.toNatUp, reduceCtorEq]
          refine st_call (turn_c G _ 18 (by decide) (by decide)) rfl (.inr rfl) ?_
          simp only [wx, stV, seval, IntWalk.iteOmega, IntWalk.toNatUp, reduceCtorEq]
          refine st_call (turn_c G _ 17 (by decide) (by decide)) rfl (.inr rfl) ?_
          simp only [wx, stV, seval, IntWalk.iteOmega, IntWalk.toNatUp, reduceCtorEq]
          refine st_call (turn_c G _ 19 (by decide) (by decide)) rfl (.inr rfl) ?_
          have h1 : 16 + n < (schedN b n ++ List.replicate (48 - n) 0).length := by rw [List.length_append, hl, List.length_replicate]; omega
          have h2 := set_next (schedN b n) 0 (nextW (schedN b n) (16 + n)) (48 - n) (by omega)
          rw [hl] at h2
          have h4 : 48 - n - 1 = 48 - (n + 1) := by omega
          have h3 : schedN b n ++ [nextW (schedN b n) (16 + n)] = schedN b (n + 1) := rfl
          rw [h3, h4] at h2
          simp only [nextW, smallA, smallB] at h2
          simp only [wx, stV, seval, IntWalk.iteOmega, IntWalk.toNatUp, reduceCtorEq, e15, e2, e7, e16, e0, g15, g2, g7, g16, stO_ws h1 (one_w _), set_ws, h2]
          refine lop_next (n + 1) (by omega) (by omega) (ent_l id ?_ ?_ rfl rfl) <;> simp only [wx, wex, stV, seval, IntWalk.iteOmega, IntWalk.toNatUp, reduceCtorEq]
        · have hn48 : n = 48 := by omega
          have hl : (schedN b n).length = 64 := by rw [schedN_len]; omega
          have h0 : 48 - n = 0 := by omega
          simp only [lp_spread_1, spSt2, wx, stV, seval, IntWalk.iteOmega, IntWalk.toNatUp, reduceCtorEq, h0, List.append_nil, List.replicate_zero, hl]
          refine ret_d ?_
          simp only [wx, stV, seval, IntWalk.iteOmega, IntWalk.toNatUp, reduceCtorEq, sched_at b n hn48, hl]
end Go.Proofs.YtjgkchmdhicmpaaDoor
set_option linter.unusedVariables false
set_option linter.unusedSimpArgs false
namespace Go.Proofs.YtjgkchmdhicmpaaDoor
open Go.RowKit

theorem ev_g {G : Glob} {n : Nat} {c : C} (h : G.at n = some c) (f : Nat → V) : ev G f (.g n) = .w (.c c) := by simp [ev, h]
theorem getD_some {l : List UInt32} {i : Nat} (h : i < l.length) : l[i]? = some (l.getD i 0) := by simp [h]
theorem eight {l : List UInt32} (h : l.length = 8) : ∃ a b c d e f g i, l = [a, b, c, d, e, f, g, i] := by
  match l, h with
  | [a, b, c, d, e, f, g, i], _ => exact ⟨a, b, c, d, e, f, g, i, rfl⟩
def Eight.list (s : Eight) : List UInt32 := [s.a, s.b, s.c, s.d, s.e, s.f, s.g, s.h]
theorem step_a (s : Eight) (k w : UInt32) : (s.step k w).a = addW (addW (addW (addW (addW s.h (bigE s.e)) (chW s.e s.f s.g)) k) w) (addW (bigA s.a) (majW s.a s.b s.c)) := rfl
theorem step_b (s : Eight) (k w : UInt32) : (s.step k w).b = s.a := rfl
theorem step_c (s : Eight) (k w : UInt32) : (s.step k w).c = s.b := rfl
theorem step_d (s : Eight) (k w : UInt32) : (s.step k w).d = s.c := rfl
theorem step_e (s : Eight) (k w : UInt32) : (s.step k w).e = addW s.d (addW (addW (addW (addW s.h (bigE s.e)) (chW s.e s.f s.g)) k) w) := rfl
theorem step_f (s : Eight) (k w : UInt32) : (s.step k w).f = s.e := rfl
theorem step_g (s : Eight) (k w : UInt32) : (s.step k w).g = s.f := rfl
theorem step_h (s : Eight) (k w : UInt32) : (s.step k w).h = s.g := rfl
theorem rounds_at (s : Eight) (k w : List UInt32) (n m : Nat) (h : n = m) : s.rounds k w n = s.rounds k w m := by rw [h]

def blSt1 (h : List UInt32) (b : List UInt8) (s : Eight) (n : Nat) : St := ⟨ofL [(2, .w (.c (.pa 1 1))), (4, .w (.c (.pa 2 1))), (5, .w (.c (.pa 3 1))), (6, .w (.c (.d (wD s.a)))), (7, .w (.c (.d (wD s.b)))), (8, .w (.c (.d (wD s.c)))), (9, .w (.c (.d (wD s.d)))), (10, .w (.c (.d (wD s.e)))), (11, .w (.c (.d (wD s.f)))), (12, .w (.c (.d (wD s.g)))), (13, .w (.c (.d (wD s.h)))), (37, .w (.c (.d (.int .i64 (n : Int)))))],
  hL [(1, .row 1 (h.map wD)), (2, .row 1 ((List.replicate 8 (0 : UInt32)).map wD)), (3, .row 1 ((sched b).map wD))], uL [1, 2, 3]⟩
def blR1 (h : List UInt32) (b : List UInt8) (n : Nat) : St := blSt1 h b ((Eight.of h).rounds constK (sched b) n) n
def sumTo (s : Eight) (h : List UInt32) (k : Nat) : List UInt32 := (s.sum h).take k ++ h.drop k
def blSt2 (h : List UInt32) (s : Eight) (n : Nat) : St := ⟨ofL [(2, .w (.c (.pa 1 1))), (4, .w (.c (.pa 2 1))), (108, .w (.c (.d (.agg (s.list.map wD))))), (109, .w (.c (.d (.int .i64 (n : Int)))))],
  hL [(1, .row 1 ((sumTo s h n).map wD)), (2, .row 1 ((List.replicate 8 (0 : UInt32)).map wD))], uL [1, 2]⟩
def lp_block_0 : SCode :=
  .seq (.reg [⟨(some 38), .bin .lss (.t 37) (.k (.c (.d (.int .i64 64)))), none⟩])
  (.seq (.cond (.t 38) (.skip)
   (.exit 0))
  (.seq (.block 1 (.seq (.reg [⟨(some 39), .mv (.t 37), none⟩,
     ⟨(some 14), .mv (.t 39), none⟩])
   (.seq (.reg [⟨(some 40), .mv (.t 13), none⟩,
     ⟨(some 41), .mv (.t 10), none⟩,
     ⟨(some 42), .call 123 [(.t 41), (.k (.c (.d (.int .i64 6))))] none, none⟩,
     ⟨(some 43), .mv (.t 10), none⟩,
     ⟨(some 44), .call 123 [(.t 43), (.k (.c (.d (.int .i64 11))))] none, none⟩,
     ⟨(some 45), .bin .xor (.t 42) (.t 44), none⟩,
     ⟨(some 46), .mv (.t 10), none⟩,
     ⟨(some 47), .call 123 [(.t 46), (.k (.c (.d (.int .i64 25))))] none, none⟩,
     ⟨(some 48), .bin .xor (.t 45) (.t 47), none⟩,
     ⟨(some 49), .bin .add (.t 40) (.t 48), none⟩,
     ⟨(some 50), .mv (.t 10), none⟩,
     ⟨(some 51), .mv (.t 11), none⟩,
     ⟨(some 52), .bin .and (.t 50) (.t 51), none⟩,
     ⟨(some 53), .mv (.t 10), none⟩,
     ⟨(some 54), .un .xor (.t 53), none⟩,
     ⟨(some 55), .mv (.t 12), none⟩,
     ⟨(some 56), .bin .and (.t 54) (.t 55), none⟩,
     ⟨(some 57), .bin .xor (.t 52) (.t 56), none⟩,
     ⟨(some 58), .bin .add (.t 49) (.t 57), none⟩,
     ⟨(some 59), .mv (.t 14), none⟩,
     ⟨(some 60), .idxPa 1 64 (.g 1) (.t 59), none⟩,
     ⟨(some 61), .load .sc (.t 60), none⟩,
     ⟨(some 62), .bin .add (.t 58) (.t 61), none⟩,
     ⟨(some 63), .mv (.t 14), none⟩,
     ⟨(some 64), .idxPa 1 64 (.t 5) (.t 63), none⟩,
     ⟨(some 65), .load .sc (.t 64), none⟩,
     ⟨(some 66), .bin .add (.t 62) (.t 65), none⟩,
     ⟨(some 15), .mv (.t 66), none⟩])
   (.seq (.reg [⟨(some 67), .mv (.t 6), none⟩,
     ⟨(some 68), .call 123 [(.t 67), (.k (.c (.d (.int .i64 2))))] none, none⟩,
     ⟨(some 69), .mv (.t 6), none⟩,
     ⟨(some 70), .call 123 [(.t 69), (.k (.c (.d (.int .i64 13))))] none, none⟩,
     ⟨(some 71), .bin .xor (.t 68) (.t 70), none⟩,
     ⟨(some 72), .mv (.t 6), none⟩,
     ⟨(some 73), .call 123 [(.t 72), (.k (.c (.d (.int .i64 22))))] none, none⟩,
     ⟨(some 74), .bin .xor (.t 71) (.t 73), none⟩,
     ⟨(some 75), .mv (.t 6), none⟩,
     ⟨(some 76), .mv (.t 7), none⟩,
     ⟨(some 77), .bin .and (.t 75) (.t 76), none⟩,
     ⟨(some 78), .mv (.t 6), none⟩,
     ⟨(some 79), .mv (.t 8), none⟩,
     ⟨(some 80), .bin .and (.t 78) (.t 79), none⟩,
     ⟨(some 81), .bin .xor (.t 77) (.t 80), none⟩,
     ⟨(some 82), .mv (.t 7), none⟩,
     ⟨(some 83), .mv (.t 8), none⟩,
     ⟨(some 84), .bin .and (.t 82) (.t 83), none⟩,
     ⟨(some 85), .bin .xor (.t 81) (.t 84), none⟩,
     ⟨(some 86), .bin .add (.t 74) (.t 85), none⟩,
     ⟨(some 16), .mv (.t 86), none⟩])
   (.reg [⟨(some 87), .mv (.t 12), none⟩,
     ⟨(some 88), .mv (.t 11), none⟩,
     ⟨(some 89), .mv (.t 10), none⟩,
     ⟨(some 90), .mv (.t 9), none⟩,
     ⟨(some 91), .mv (.t 15), none⟩,
     ⟨(some 92), .bin .add (.t 90) (.t 91), none⟩,
     ⟨(some 93), .mv (.t 8), none⟩,
     ⟨(some 94), .mv (.t 7), none⟩,
     ⟨(some 95), .mv (.t 6), none⟩,
     ⟨(some 96), .mv (.t 15), none⟩,
     ⟨(some 97), .mv (.t 16), none⟩,
     ⟨(some 98), .bin .add (.t 96) (.t 97), none⟩,
     ⟨(some 13), .mv (.t 87), none⟩,
     ⟨(some 12), .mv (.t 88), none⟩,
     ⟨(some 11), .mv (.t 89), none⟩,
     ⟨(some 10), .mv (.t 92), none⟩,
     ⟨(some 9), .mv (.t 93), none⟩,
     ⟨(some 8), .mv (.t 94), none⟩,
     ⟨(some 7), .mv (.t 95), none⟩,
     ⟨(some 6), .mv (.t 98), none⟩])))))
  (.reg [⟨(some 99), .bin .add (.t 37) (.k (.c (.d (.int .i64 1)))), none⟩,
    ⟨(some 37), .mv (.t 99), none⟩])))
def lp_block_1 : SCode :=
  .seq (.reg [⟨(some 110), .bin .lss (.t 109) (.k (.c (.d (.int .i64 8)))), none⟩])
  (.seq (.cond (.t 110) (.skip)
   (.exit 2))
  (.seq (.block 3 (.seq (.reg [⟨(some 111), .mv (.t 109), none⟩,
     ⟨(some 112), .idxArr 1 8 .sc (.t 108) (.t 109), none⟩,
     ⟨(some 17), .mv (.t 111), none⟩,
     ⟨(some 18), .mv (.t 112), none⟩])
   (.reg [⟨(some 113), .mv (.t 17), none⟩,
     ⟨(some 114), .idxPa 1 8 (.t 2) (.t 113), none⟩,
     ⟨(some 115), .load .sc (.t 114), none⟩,
     ⟨(some 116), .mv (.t 18), none⟩,
     ⟨(some 117), .bin .add (.t 115) (.t 116), none⟩,
     ⟨(some 118), .idxPa 1 8 (.t 2) (.t 113), none⟩,
     ⟨none, .store .sc (.t 118) (.t 117), none⟩])))
  (.reg [⟨(some 119), .bin .add (.t 109) (.k (.c (.d (.int .i64 1)))), none⟩,
    ⟨(some 109), .mv (.t 119), none⟩])))
def sf_block : SFn := ⟨2, 121,
  .seq (.reg [⟨(some 2), .box .ownArr (.t 0), none⟩,
    ⟨(some 4), .allocArr [(.int .u32 0), (.int .u32 0), (.int .u32 0), (.int .u32 0), (.int .u32 0), (.int .u32 0), (.int .u32 0), (.int .u32 0)], none⟩])
  (.seq (.reg [⟨(some 19), .mv (.t 1), none⟩,
    ⟨(some 20), .call 122 [(.t 19)] none, none⟩,
    ⟨(some 5), .allocArr [(.int .u32 0), (.int .u32 0), (.int .u32 0), (.int .u32 0), (.int .u32 0), (.int .u32 0), (.int .u32 0), (.int .u32 0), (.int .u32 0), (.int .u32 0), (.int .u32 0), (.int .u32 0), (.int .u32 0), (.int .u32 0), (.int .u32 0), (.int .u32 0), (.int .u32 0), (.int .u32 0), (.int .u32 0), (.int .u32 0), (.int .u32 0), (.int .u32 0), (.int .u32 0), (.int .u32 0), (.int .u32 0), (.int .u32 0), (.int .u32 0), (.int .u32 0), (.int .u32 0), (.int .u32 0), (.int .u32 0), (.int .u32 0), (.int .u32 0), (.int .u32 0), (.int .u32 0), (.int .u32 0), (.int .u32 0), (.int .u32 0), (.int .u32 0), (.int .u32 0), (.int .u32 0), (.int .u32 0), (.int .u32 0), (.int .u32 0), (.int .u32 0), (.int .u32 0), (.int .u32 0), (.int .u32 0), (.int .u32 0), (.int .u32 0), (.int .u32 0), (.int .u32 0), (.int .u32 0), (.int .u32 0), (.int .u32 0), (.int .u32 0), (.int .u32 0), (.int .u32 0), (.int .u32 0), (.int .u32 0), (.int .u32 0), (.int .u32 0), (.int .u32 0), (.int .u32 0)], none⟩,
    ⟨none, .store (.ag 64) (.t 5) (.t 20), none⟩])
  (.seq (.reg [⟨(some 21), .idxPa 1 8 (.t 2) (.k (.c (.d (.int .i64 0)))), none⟩,
    ⟨(some 22), .load .sc (.t 21), none⟩,
    ⟨(some 23), .idxPa 1 8 (.t 2) (.k (.c (.d (.int .i64 1)))), none⟩,
    ⟨(some 24), .load .sc (.t 23), none⟩,
    ⟨(some 25), .idxPa 1 8 (.t 2) (.k (.c (.d (.int .i64 2)))), none⟩,
    ⟨(some 26), .load .sc (.t 25), none⟩,
    ⟨(some 27), .idxPa 1 8 (.t 2) (.k (.c (.d (.int .i64 3)))), none⟩,
    ⟨(some 28), .load .sc (.t 27), none⟩,
    ⟨(some 29), .idxPa 1 8 (.t 2) (.k (.c (.d (.int .i64 4)))), none⟩,
    ⟨(some 30), .load .sc (.t 29), none⟩,
    ⟨(some 31), .idxPa 1 8 (.t 2) (.k (.c (.d (.int .i64 5)))), none⟩,
    ⟨(some 32), .load .sc (.t 31), none⟩,
    ⟨(some 33), .idxPa 1 8 (.t 2) (.k (.c (.d (.int .i64 6)))), none⟩,
    ⟨(some 34), .load .sc (.t 33), none⟩,
    ⟨(some 35), .idxPa 1 8 (.t 2) (.k (.c (.d (.int .i64 7)))), none⟩,
    ⟨(some 36), .load .sc (.t 35), none⟩,
    ⟨(some 6), .mv (.t 22), none⟩,
    ⟨(some 7), .mv (.t 24), none⟩,
    ⟨(some 8), .mv (.t 26), none⟩,
    ⟨(some 9), .mv (.t 28), none⟩,
    ⟨(some 10), .mv (.t 30), none⟩,
    ⟨(some 11), .mv (.t 32), none⟩,
    ⟨(some 12), .mv (.t 34), none⟩,
    ⟨(some 13), .mv (.t 36), none⟩])
  (.seq (.seq (.reg [⟨(some 37), .mv (.k (.c (.d (.int .i64 0)))), none⟩])
  (.block 0 (.loop lp_block_0)))
  (.seq (.seq (.reg [⟨(some 100), .mv (.t 6), none⟩,
    ⟨(some 101), .mv (.t 7), none⟩,
    ⟨(some 102), .mv (.t 8), none⟩,
    ⟨(some 103), .mv (.t 9), none⟩,
    ⟨(some 104), .mv (.t 10), none⟩,
    ⟨(some 105), .mv (.t 11), none⟩,
    ⟨(some 106), .mv (.t 12), none⟩,
    ⟨(some 107), .mv (.t 13), none⟩,
    ⟨(some 108), .build [(.d (.int .u32 0)), (.d (.int .u32 0)), (.d (.int .u32 0)), (.d (.int .u32 0)), (.d (.int .u32 0)), (.d (.int .u32 0)), (.d (.int .u32 0)), (.d (.int .u32 0))] [(0, 1, (.t 100)), (1, 1, (.t 101)), (2, 1, (.t 102)), (3, 1, (.t 103)), (4, 1, (.t 104)), (5, 1, (.t 105)), (6, 1, (.t 106)), (7, 1, (.t 107))], none⟩,
    ⟨(some 109), .mv (.k (.c (.d (.int .i64 0)))), none⟩])
  (.block 2 (.loop lp_block_1)))
  (.seq (.reg [⟨(some 120), .load (.ag 8) (.t 2), none⟩,
    ⟨none, .store (.ag 8) (.t 4) (.t 120), none⟩])
  (.ret)))))),
  [(4, (some (.ag 8)))]⟩
theorem cf_block : compFn Tryd.prog { own := [2], comp := [], frz := [], nils := [] } Tryd.f109 = some sf_block := by kernel_rfl
set_option maxHeartbeats 1600000 in
theorem block_c (G : Glob) (hG : G.at 1 = some (.ra (constK.map wD))) (h : List UInt32) (b : List UInt8) (hh : h.length = 8) (hb : b.length = 64) : Den Tryd.prog G 109 [.agg (h.map wD), .sl (b.map bD)] (.w (.c (.d (.agg ((blockK h b).map wD))))) := by
  refine den_walk Tryd.func109 cf_block rfl rfl ?_
  have hsl : (sched b).length = 64 := schedN_len b 48
  have eg := @ev_g G 1 _ hG
  have hcl : constK.length = 64 := constK_len
  obtain ⟨h0, h1, h2, h3, h4, h5, h6, h7, rfl⟩ := eight hh
  simp only [sf_block, putAll, wx, stV, seval, IntWalk.iteOmega, IntWalk.toNatUp, reduceCtorEq]
  refine st_call (spread_c G b hb) rfl (.inl rfl) ?_
  simp only [wx, stV, seval, IntWalk.iteOmega, IntWalk.toNatUp, reduceCtorEq, hsl]
  refine loop_st (blR1 [h0, h1, h2, h3, h4, h5, h6, h7] b) (fun n => 64 - n) (fun n => n ≤ 64) 0 (Nat.zero_le _) ?_ ?_
  · refine ent_l (fun i => match i with | 1 => 16 | 2 => 32 | _ => 40) ?_ ?_ rfl rfl <;> simp only [blR1, blSt1, wx, wex, stV, seval, IntWalk.iteOmega, IntWalk.toNatUp, reduceCtorEq]
    · exact ⟨rfl, rfl, rfl, rfl, rfl, rfl, rfl, rfl⟩
    · rfl
  · intro n hn
    by_cases hlt : n < 64
    · have e1 : IntKind.i64.wrap ((n : Int) + 1) = ((n + 1 : Nat) : Int) := by rw [IntWalk.i64_in _ (by omega)]; rfl
      have g1 : (constK.map wD)[n]? = some (wD (constK.getD n 0)) := by rw [get_map, getD_some (by omega)]; rfl
      have g2 : ((sched b).map wD)[n]? = some (wD ((sched b).getD n 0)) := by rw [get_map, getD_some (by omega)]; rfl
      have hr : (Eight.of [h0, h1, h2, h3, h4, h5, h6, h7]).rounds constK (sched b) (n + 1) = ((Eight.of [h0, h1, h2, h3, h4, h5, h6, h7]).rounds constK (sched b) n).step (constK.getD n 0) ((sched b).getD n 0) := rfl
      generalize hs : (Eight.of [h0, h1, h2, h3, h4, h5, h6, h7]).rounds constK (sched b) n = s at hr
      simp only [lp_block_0, blR1, blSt1, hs, wx, stV, seval, IntWalk.iteOmega, IntWalk.toNatUp, reduceCtorEq, eg, g1, g2, e1]
      refine st_call (turn_c G _ 6 (by decide) (by decide)) rfl (.inr rfl) ?_
      simp only [wx, stV, seval, IntWalk.iteOmega, IntWalk.toNatUp, reduceCtorEq]
      refine st_call (turn_c G _ 11 (by decide) (by decide)) rfl (.inr rfl) ?_
      simp only [wx, stV, seval, IntWalk.iteOmega, IntWalk.toNatUp, reduceCtorEq]
      refine st_call (turn_c G _ 25 (by decide) (by decide)) rfl (.inr rfl) ?_
      simp only [wx, stV, seval, IntWalk.iteOmega, IntWalk.toNatUp, reduceCtorEq, eg, g1, g2, hcl]
      refine st_call (turn_c G _ 2 (by decide) (by decide)) rfl (.inr rfl) ?_
      simp only [wx, stV, seval, IntWalk.iteOmega, IntWalk.toNatUp, reduceCtorEq]
      refine st_call (turn_c G _ 13 (by decide) (by decide)) rfl (.inr rfl) ?_
      simp only [wx, stV, seval, IntWalk.iteOmega, IntWalk.toNatUp, reduceCtorEq]
      refine st_call (turn_c G _ 22 (by decide) (by decide)) rfl (.inr rfl) ?_
      simp only [wx, stV, seval, IntWalk.iteOmega, IntWalk.toNatUp, reduceCtorEq, e1]
      refine lop_next (n + 1) (by omega) (by omega) ?_
      rw [blR1, hr]
      refine (ent_l id ?_ ?_ rfl rfl) <;> simp only [wx, wex, stV, seval, IntWalk.iteOmega, IntWalk.toNatUp, reduceCtorEq, step_a, step_b, step_c, step_d, step_e, step_f, step_g, step_h]
      exact ⟨rfl, rfl⟩
    · obtain rfl : n = 64 := by omega
      have hK : blockK [h0, h1, h2, h3, h4, h5, h6, h7] b = ((Eight.of [h0, h1, h2, h3, h4, h5, h6, h7]).rounds constK (sched b) 64).sum [h0, h1, h2, h3, h4, h5, h6, h7] := rfl
      rw [hK]
      simp only [blR1]
      generalize (Eight.of [h0, h1, h2, h3, h4, h5, h6, h7]).rounds constK (sched b) 64 = s
      simp only [lp_block_0, blSt1, wx, stV, seval, IntWalk.iteOmega, IntWalk.toNatUp, reduceCtorEq]
      refine loop_st (blSt2 [h0, h1, h2, h3, h4, h5, h6, h7] s) (fun n => 8 - n) (fun n => n ≤ 8) 0 (Nat.zero_le _) ?_ ?_
      · refine ent_l id ?_ ?_ rfl rfl <;> simp only [wx, wex, stV, seval, IntWalk.iteOmega, IntWalk.toNatUp, reduceCtorEq, blSt2]
        · rfl
        · rfl
      · have e8 : s.sum [h0, h1, h2, h3, h4, h5, h6, h7] = [addW h0 s.a, addW h1 s.b, addW h2 s.c, addW h3 s.d, addW h4 s.e, addW h5 s.f, addW h6 s.g, addW h7 s.h] := rfl
        intro n hn
        have hc : n = 8 ∨ n = 0 ∨ n = 1 ∨ n = 2 ∨ n = 3 ∨ n = 4 ∨ n = 5 ∨ n = 6 ∨ n = 7 := by omega
        rcases hc with rfl | rfl | rfl | rfl | rfl | rfl | rfl | rfl | rfl
        · simp only [lp_block_1, blSt2, sumTo, e8, Eight.list, wx, stV, seval, IntWalk.iteOmega, IntWalk.toNatUp, reduceCtorEq]
          exact ret_d (by simp only [wx, stV, seval, IntWalk.iteOmega, IntWalk.toNatUp, reduceCtorEq])
        all_goals
          simp only [lp_block_1, blSt2, sumTo, e8, Eight.list, wx, wy, stV, seval, IntWalk.iteOmega, IntWalk.toNatUp, reduceCtorEq]
          first | refine lop_next 1 (by decide) (by decide) ?_ | refine lop_next 2 (by decide) (by decide) ?_ | refine lop_next 3 (by decide) (by decide) ?_ | refine lop_next 4 (by decide) (by decide) ?_ | refine lop_next 5 (by decide) (by decide) ?_ | refine lop_next 6 (by decide) (by decide) ?_ | refine lop_next 7 (by decide) (by decide) ?_ | refine lop_next 8 (by decide) (by decide) ?_
          refine ent_l id ?_ ?_ rfl rfl <;> simp only [wx, wex, stV, seval, IntWalk.iteOmega, IntWalk.toNatUp, reduceCtorEq, sumTo, e8, Eight.list] <;> rfl

theorem getD_someB {l : List UInt8} {i : Nat} (h : i < l.length) : l[i]? = some (l.getD i 0) := by simp [h]
def rbSt1 (h k : List UInt32) (b : List UInt8) (t : Nat) : St := ⟨ofL [(0, .w (.c (.d (.sl (h.map wD))))), (1, .w (.c (.d (.sl (k.map wD))))), (2, .w (.c (.d (.sl (b.map bD))))), (7, .w (.c (.pa 1 1))), (8, .w (.c (.d (.int .i64 (t : Int)))))],
  hL [(1, .row 1 ((sched16 b t ++ List.replicate (64 - t) 0).map wD))], uL [1]⟩
def rbSt2 (h k : List UInt32) (b : List UInt8) (n : Nat) : St := ⟨ofL [(0, .w (.c (.d (.sl (h.map wD))))), (1, .w (.c (.d (.sl (k.map wD))))), (7, .w (.c (.pa 1 1))), (9, .w (.c (.d (.int .i64 ((16 + n : Nat) : Int)))))],
  hL [(1, .row 1 ((schedN b n ++ List.replicate (48 - n) 0).map wD))], uL [1]⟩
def rbSt3 (h : List UInt32) (b : List UInt8) (s : Eight) (n : Nat) : St := ⟨ofL [(0, .w (.c (.d (.sl (h.map wD))))), (1, .w (.c (.d (.sl (constK.map wD))))), (7, .w (.c (.pa 1 1))), (12, .w (.c (.d (wD s.a)))), (13, .w (.c (.d (wD s.b)))), (14, .w (.c (.d (wD s.c)))), (15, .w (.c (.d (wD s.d)))), (16, .w (.c (.d (wD s.e)))), (17, .w (.c (.d (wD s.f)))), (18, .w (.c (.d (wD s.g)))), (19, .w (.c (.d (wD s.h)))), (20, .w (.c (.d (.int .i64 (n : Int)))))],
  hL [(1, .row 1 ((sched b).map wD))], uL [1]⟩
def rbR3 (h : List UInt32) (b : List UInt8) (n : Nat) : St := rbSt3 h b ((Eight.of h).rounds constK (sched b) n) n
def lp_rblock_0 : SCode :=
  .seq (.seq (.reg [⟨(some 23), .mv (.t 8), none⟩,
    ⟨(some 24), .bin .lss (.t 23) (.k (.c (.d (.int .i64 16)))), none⟩])
  (.cond (.t 24) (.skip)
   (.exit 0)))
  (.seq (.block 1 (.reg [⟨(some 27), .mv (.t 8), none⟩,
     ⟨(some 28), .mv (.t 2), none⟩,
     ⟨(some 29), .mv (.t 8), none⟩,
     ⟨(some 30), .bin .mul (.k (.c (.d (.int .i64 4)))) (.t 29), none⟩,
     ⟨(some 31), .idxSl 1 (.t 28) (.t 30), none⟩,
     ⟨(some 32), .load .sc (.t 31), none⟩,
     ⟨(some 33), .conv .u32 (.t 32), none⟩,
     ⟨(some 34), .bin .shl (.t 33) (.k (.c (.d (.int .u64 24)))), none⟩,
     ⟨(some 35), .mv (.t 2), none⟩,
     ⟨(some 36), .mv (.t 8), none⟩,
     ⟨(some 37), .bin .mul (.k (.c (.d (.int .i64 4)))) (.t 36), none⟩,
     ⟨(some 38), .bin .add (.t 37) (.k (.c (.d (.int .i64 1)))), none⟩,
     ⟨(some 39), .idxSl 1 (.t 35) (.t 38), none⟩,
     ⟨(some 40), .load .sc (.t 39), none⟩,
     ⟨(some 41), .conv .u32 (.t 40), none⟩,
     ⟨(some 42), .bin .shl (.t 41) (.k (.c (.d (.int .u64 16)))), none⟩,
     ⟨(some 43), .bin .or (.t 34) (.t 42), none⟩,
     ⟨(some 44), .mv (.t 2), none⟩,
     ⟨(some 45), .mv (.t 8), none⟩,
     ⟨(some 46), .bin .mul (.k (.c (.d (.int .i64 4)))) (.t 45), none⟩,
     ⟨(some 47), .bin .add (.t 46) (.k (.c (.d (.int .i64 2)))), none⟩,
     ⟨(some 48), .idxSl 1 (.t 44) (.t 47), none⟩,
     ⟨(some 49), .load .sc (.t 48), none⟩,
     ⟨(some 50), .conv .u32 (.t 49), none⟩,
     ⟨(some 51), .bin .shl (.t 50) (.k (.c (.d (.int .u64 8)))), none⟩,
     ⟨(some 52), .bin .or (.t 43) (.t 51), none⟩,
     ⟨(some 53), .mv (.t 2), none⟩,
     ⟨(some 54), .mv (.t 8), none⟩,
     ⟨(some 55), .bin .mul (.k (.c (.d (.int .i64 4)))) (.t 54), none⟩,
     ⟨(some 56), .bin .add (.t 55) (.k (.c (.d (.int .i64 3)))), none⟩,
     ⟨(some 57), .idxSl 1 (.t 53) (.t 56), none⟩,
     ⟨(some 58), .load .sc (.t 57), none⟩,
     ⟨(some 59), .conv .u32 (.t 58), none⟩,
     ⟨(some 60), .bin .or (.t 52) (.t 59), none⟩,
     ⟨(some 61), .idxPa 1 64 (.t 7) (.t 27), none⟩,
     ⟨none, .store .sc (.t 61) (.t 60), none⟩]))
  (.reg [⟨(some 25), .mv (.t 8), none⟩,
    ⟨(some 26), .bin .add (.t 25) (.k (.c (.d (.int .i64 1)))), none⟩,
    ⟨(some 8), .mv (.t 26), none⟩]))
def lp_rblock_1 : SCode :=
  .seq (.seq (.reg [⟨(some 62), .mv (.t 9), none⟩,
    ⟨(some 63), .bin .lss (.t 62) (.k (.c (.d (.int .i64 64)))), none⟩])
  (.cond (.t 63) (.skip)
   (.exit 2)))
  (.seq (.block 3 (.seq (.reg [⟨(some 66), .mv (.t 9), none⟩,
     ⟨(some 67), .bin .sub (.t 66) (.k (.c (.d (.int .i64 15)))), none⟩,
     ⟨(some 68), .idxPa 1 64 (.t 7) (.t 67), none⟩,
     ⟨(some 69), .load .sc (.t 68), none⟩,
     ⟨(some 70), .mv (.t 9), none⟩,
     ⟨(some 71), .bin .sub (.t 70) (.k (.c (.d (.int .i64 2)))), none⟩,
     ⟨(some 72), .idxPa 1 64 (.t 7) (.t 71), none⟩,
     ⟨(some 73), .load .sc (.t 72), none⟩,
     ⟨(some 10), .mv (.t 69), none⟩,
     ⟨(some 11), .mv (.t 73), none⟩])
   (.reg [⟨(some 74), .mv (.t 9), none⟩,
     ⟨(some 75), .mv (.t 11), none⟩,
     ⟨(some 76), .call 120 [(.t 75), (.k (.c (.d (.int .i64 17))))] none, none⟩,
     ⟨(some 77), .mv (.t 11), none⟩,
     ⟨(some 78), .call 120 [(.t 77), (.k (.c (.d (.int .i64 19))))] none, none⟩,
     ⟨(some 79), .bin .xor (.t 76) (.t 78), none⟩,
     ⟨(some 80), .mv (.t 11), none⟩,
     ⟨(some 81), .bin .shr (.t 80) (.k (.c (.d (.int .u64 10)))), none⟩,
     ⟨(some 82), .bin .xor (.t 79) (.t 81), none⟩,
     ⟨(some 83), .mv (.t 9), none⟩,
     ⟨(some 84), .bin .sub (.t 83) (.k (.c (.d (.int .i64 7)))), none⟩,
     ⟨(some 85), .idxPa 1 64 (.t 7) (.t 84), none⟩,
     ⟨(some 86), .load .sc (.t 85), none⟩,
     ⟨(some 87), .bin .add (.t 82) (.t 86), none⟩,
     ⟨(some 88), .mv (.t 10), none⟩,
     ⟨(some 89), .call 120 [(.t 88), (.k (.c (.d (.int .i64 7))))] none, none⟩,
     ⟨(some 90), .mv (.t 10), none⟩,
     ⟨(some 91), .call 120 [(.t 90), (.k (.c (.d (.int .i64 18))))] none, none⟩,
     ⟨(some 92), .bin .xor (.t 89) (.t 91), none⟩,
     ⟨(some 93), .mv (.t 10), none⟩,
     ⟨(some 94), .bin .shr (.t 93) (.k (.c (.d (.int .u64 3)))), none⟩,
     ⟨(some 95), .bin .xor (.t 92) (.t 94), none⟩,
     ⟨(some 96), .bin .add (.t 87) (.t 95), none⟩,
     ⟨(some 97), .mv (.t 9), none⟩,
     ⟨(some 98), .bin .sub (.t 97) (.k (.c (.d (.int .i64 16)))), none⟩,
     ⟨(some 99), .idxPa 1 64 (.t 7) (.t 98), none⟩,
     ⟨(some 100), .load .sc (.t 99), none⟩,
     ⟨(some 101), .bin .add (.t 96) (.t 100), none⟩,
     ⟨(some 102), .idxPa 1 64 (.t 7) (.t 74), none⟩,
     ⟨none, .store .sc (.t 102) (.t 101), none⟩])))
  (.reg [⟨(some 64), .mv (.t 9), none⟩,
    ⟨(some 65), .bin .add (.t 64) (.k (.c (.d (.int .i64 1)))), none⟩,
    ⟨(some 9), .mv (.t 65), none⟩]))
def lp_rblock_2 : SCode :=
  .seq (.seq (.reg [⟨(some 127), .mv (.t 20), none⟩,
    ⟨(some 128), .bin .lss (.t 127) (.k (.c (.d (.int .i64 64)))), none⟩])
  (.cond (.t 128) (.skip)
   (.exit 4)))
  (.seq (.block 5 (.seq (.reg [⟨(some 131), .mv (.t 19), none⟩,
     ⟨(some 132), .mv (.t 16), none⟩,
     ⟨(some 133), .call 120 [(.t 132), (.k (.c (.d (.int .i64 6))))] none, none⟩,
     ⟨(some 134), .mv (.t 16), none⟩,
     ⟨(some 135), .call 120 [(.t 134), (.k (.c (.d (.int .i64 11))))] none, none⟩,
     ⟨(some 136), .bin .xor (.t 133) (.t 135), none⟩,
     ⟨(some 137), .mv (.t 16), none⟩,
     ⟨(some 138), .call 120 [(.t 137), (.k (.c (.d (.int .i64 25))))] none, none⟩,
     ⟨(some 139), .bin .xor (.t 136) (.t 138), none⟩,
     ⟨(some 140), .bin .add (.t 131) (.t 139), none⟩,
     ⟨(some 141), .mv (.t 16), none⟩,
     ⟨(some 142), .mv (.t 17), none⟩,
     ⟨(some 143), .bin .and (.t 141) (.t 142), none⟩,
     ⟨(some 144), .mv (.t 16), none⟩,
     ⟨(some 145), .un .xor (.t 144), none⟩,
     ⟨(some 146), .mv (.t 18), none⟩,
     ⟨(some 147), .bin .and (.t 145) (.t 146), none⟩,
     ⟨(some 148), .bin .xor (.t 143) (.t 147), none⟩,
     ⟨(some 149), .bin .add (.t 140) (.t 148), none⟩,
     ⟨(some 150), .mv (.t 1), none⟩,
     ⟨(some 151), .mv (.t 20), none⟩,
     ⟨(some 152), .idxSl 1 (.t 150) (.t 151), none⟩,
     ⟨(some 153), .load .sc (.t 152), none⟩,
     ⟨(some 154), .bin .add (.t 149) (.t 153), none⟩,
     ⟨(some 155), .mv (.t 20), none⟩,
     ⟨(some 156), .idxPa 1 64 (.t 7) (.t 155), none⟩,
     ⟨(some 157), .load .sc (.t 156), none⟩,
     ⟨(some 158), .bin .add (.t 154) (.t 157), none⟩,
     ⟨(some 21), .mv (.t 158), none⟩])
   (.seq (.reg [⟨(some 159), .mv (.t 12), none⟩,
     ⟨(some 160), .call 120 [(.t 159), (.k (.c (.d (.int .i64 2))))] none, none⟩,
     ⟨(some 161), .mv (.t 12), none⟩,
     ⟨(some 162), .call 120 [(.t 161), (.k (.c (.d (.int .i64 13))))] none, none⟩,
     ⟨(some 163), .bin .xor (.t 160) (.t 162), none⟩,
     ⟨(some 164), .mv (.t 12), none⟩,
     ⟨(some 165), .call 120 [(.t 164), (.k (.c (.d (.int .i64 22))))] none, none⟩,
     ⟨(some 166), .bin .xor (.t 163) (.t 165), none⟩,
     ⟨(some 167), .mv (.t 12), none⟩,
     ⟨(some 168), .mv (.t 13), none⟩,
     ⟨(some 169), .bin .and (.t 167) (.t 168), none⟩,
     ⟨(some 170), .mv (.t 12), none⟩,
     ⟨(some 171), .mv (.t 14), none⟩,
     ⟨(some 172), .bin .and (.t 170) (.t 171), none⟩,
     ⟨(some 173), .bin .xor (.t 169) (.t 172), none⟩,
     ⟨(some 174), .mv (.t 13), none⟩,
     ⟨(some 175), .mv (.t 14), none⟩,
     ⟨(some 176), .bin .and (.t 174) (.t 175), none⟩,
     ⟨(some 177), .bin .xor (.t 173) (.t 176), none⟩,
     ⟨(some 178), .bin .add (.t 166) (.t 177), none⟩,
     ⟨(some 22), .mv (.t 178), none⟩])
   (.reg [⟨(some 179), .mv (.t 21), none⟩,
     ⟨(some 180), .mv (.t 22), none⟩,
     ⟨(some 181), .bin .add (.t 179) (.t 180), none⟩,
     ⟨(some 182), .mv (.t 12), none⟩,
     ⟨(some 183), .mv (.t 13), none⟩,
     ⟨(some 184), .mv (.t 14), none⟩,
     ⟨(some 185), .mv (.t 15), none⟩,
     ⟨(some 186), .mv (.t 21), none⟩,
     ⟨(some 187), .bin .add (.t 185) (.t 186), none⟩,
     ⟨(some 188), .mv (.t 16), none⟩,
     ⟨(some 189), .mv (.t 17), none⟩,
     ⟨(some 190), .mv (.t 18), none⟩,
     ⟨(some 12), .mv (.t 181), none⟩,
     ⟨(some 13), .mv (.t 182), none⟩,
     ⟨(some 14), .mv (.t 183), none⟩,
     ⟨(some 15), .mv (.t 184), none⟩,
     ⟨(some 16), .mv (.t 187), none⟩,
     ⟨(some 17), .mv (.t 188), none⟩,
     ⟨(some 18), .mv (.t 189), none⟩,
     ⟨(some 19), .mv (.t 190), none⟩]))))
  (.reg [⟨(some 129), .mv (.t 20), none⟩,
    ⟨(some 130), .bin .add (.t 129) (.k (.c (.d (.int .i64 1)))), none⟩,
    ⟨(some 20), .mv (.t 130), none⟩]))
def sf_rblock : SFn := ⟨3, 232,
  .seq (.reg [⟨(some 6), .mv (.k (.c .nil)), none⟩])
  (.seq (.reg [⟨(some 7), .allocArr [(.int .u32 0), (.int .u32 0), (.int .u32 0), (.int .u32 0), (.int .u32 0), (.int .u32 0), (.int .u32 0), (.int .u32 0), (.int .u32 0), (.int .u32 0), (.int .u32 0), (.int .u32 0), (.int .u32 0), (.int .u32 0), (.int .u32 0), (.int .u32 0), (.int .u32 0), (.int .u32 0), (.int .u32 0), (.int .u32 0), (.int .u32 0), (.int .u32 0), (.int .u32 0), (.int .u32 0), (.int .u32 0), (.int .u32 0), (.int .u32 0), (.int .u32 0), (.int .u32 0), (.int .u32 0), (.int .u32 0), (.int .u32 0), (.int .u32 0), (.int .u32 0), (.int .u32 0), (.int .u32 0), (.int .u32 0), (.int .u32 0), (.int .u32 0), (.int .u32 0), (.int .u32 0), (.int .u32 0), (.int .u32 0), (.int .u32 0), (.int .u32 0), (.int .u32 0), (.int .u32 0), (.int .u32 0), (.int .u32 0), (.int .u32 0), (.int .u32 0), (.int .u32 0), (.int .u32 0), (.int .u32 0), (.int .u32 0), (.int .u32 0), (.int .u32 0), (.int .u32 0), (.int .u32 0), (.int .u32 0), (.int .u32 0), (.int .u32 0), (.int .u32 0), (.int .u32 0)], none⟩])
  (.seq (.seq (.reg [⟨(some 8), .mv (.k (.c (.d (.int .i64 0)))), none⟩])
  (.block 0 (.loop lp_rblock_0)))
  (.seq (.seq (.reg [⟨(some 9), .mv (.k (.c (.d (.int .i64 16)))), none⟩])
  (.block 2 (.loop lp_rblock_1)))
  (.seq (.reg [⟨(some 103), .mv (.t 0), none⟩,
    ⟨(some 104), .idxSl 1 (.t 103) (.k (.c (.d (.int .i64 0)))), none⟩,
    ⟨(some 105), .load .sc (.t 104), none⟩,
    ⟨(some 106), .mv (.t 0), none⟩,
    ⟨(some 107), .idxSl 1 (.t 106) (.k (.c (.d (.int .i64 1)))), none⟩,
    ⟨(some 108), .load .sc (.t 107), none⟩,
    ⟨(some 109), .mv (.t 0), none⟩,
    ⟨(some 110), .idxSl 1 (.t 109) (.k (.c (.d (.int .i64 2)))), none⟩,
    ⟨(some 111), .load .sc (.t 110), none⟩,
    ⟨(some 112), .mv (.t 0), none⟩,
    ⟨(some 113), .idxSl 1 (.t 112) (.k (.c (.d (.int .i64 3)))), none⟩,
    ⟨(some 114), .load .sc (.t 113), none⟩,
    ⟨(some 115), .mv (.t 0), none⟩,
    ⟨(some 116), .idxSl 1 (.t 115) (.k (.c (.d (.int .i64 4)))), none⟩,
    ⟨(some 117), .load .sc (.t 116), none⟩,
    ⟨(some 118), .mv (.t 0), none⟩,
    ⟨(some 119), .idxSl 1 (.t 118) (.k (.c (.d (.int .i64 5)))), none⟩,
    ⟨(some 120), .load .sc (.t 119), none⟩,
    ⟨(some 121), .mv (.t 0), none⟩,
    ⟨(some 122), .idxSl 1 (.t 121) (.k (.c (.d (.int .i64 6)))), none⟩,
    ⟨(some 123), .load .sc (.t 122), none⟩,
    ⟨(some 124), .mv (.t 0), none⟩,
    ⟨(some 125), .idxSl 1 (.t 124) (.k (.c (.d (.int .i64 7)))), none⟩,
    ⟨(some 126), .load .sc (.t 125), none⟩,
    ⟨(some 12), .mv (.t 105), none⟩,
    ⟨(some 13), .mv (.t 108), none⟩,
    ⟨(some 14), .mv (.t 111), none⟩,
    ⟨(some 15), .mv (.t 114), none⟩,
    ⟨(some 16), .mv (.t 117), none⟩,
    ⟨(some 17), .mv (.t 120), none⟩,
    ⟨(some 18), .mv (.t 123), none⟩,
    ⟨(some 19), .mv (.t 126), none⟩])
  (.seq (.seq (.reg [⟨(some 20), .mv (.k (.c (.d (.int .i64 0)))), none⟩])
  (.block 4 (.loop lp_rblock_2)))
  (.seq (.reg [⟨(some 191), .mv (.t 0), none⟩,
    ⟨(some 192), .idxSl 1 (.t 191) (.k (.c (.d (.int .i64 0)))), none⟩,
    ⟨(some 193), .load .sc (.t 192), none⟩,
    ⟨(some 194), .mv (.t 12), none⟩,
    ⟨(some 195), .bin .add (.t 193) (.t 194), none⟩,
    ⟨(some 196), .mv (.t 0), none⟩,
    ⟨(some 197), .idxSl 1 (.t 196) (.k (.c (.d (.int .i64 1)))), none⟩,
    ⟨(some 198), .load .sc (.t 197), none⟩,
    ⟨(some 199), .mv (.t 13), none⟩,
    ⟨(some 200), .bin .add (.t 198) (.t 199), none⟩,
    ⟨(some 201), .mv (.t 0), none⟩,
    ⟨(some 202), .idxSl 1 (.t 201) (.k (.c (.d (.int .i64 2)))), none⟩,
    ⟨(some 203), .load .sc (.t 202), none⟩,
    ⟨(some 204), .mv (.t 14), none⟩,
    ⟨(some 205), .bin .add (.t 203) (.t 204), none⟩,
    ⟨(some 206), .mv (.t 0), none⟩,
    ⟨(some 207), .idxSl 1 (.t 206) (.k (.c (.d (.int .i64 3)))), none⟩,
    ⟨(some 208), .load .sc (.t 207), none⟩,
    ⟨(some 209), .mv (.t 15), none⟩,
    ⟨(some 210), .bin .add (.t 208) (.t 209), none⟩,
    ⟨(some 211), .mv (.t 0), none⟩,
    ⟨(some 212), .idxSl 1 (.t 211) (.k (.c (.d (.int .i64 4)))), none⟩,
    ⟨(some 213), .load .sc (.t 212), none⟩,
    ⟨(some 214), .mv (.t 16), none⟩,
    ⟨(some 215), .bin .add (.t 213) (.t 214), none⟩,
    ⟨(some 216), .mv (.t 0), none⟩,
    ⟨(some 217), .idxSl 1 (.t 216) (.k (.c (.d (.int .i64 5)))), none⟩,
    ⟨(some 218), .load .sc (.t 217), none⟩,
    ⟨(some 219), .mv (.t 17), none⟩,
    ⟨(some 220), .bin .add (.t 218) (.t 219), none⟩,
    ⟨(some 221), .mv (.t 0), none⟩,
    ⟨(some 222), .idxSl 1 (.t 221) (.k (.c (.d (.int .i64 6)))), none⟩,
    ⟨(some 223), .load .sc (.t 222), none⟩,
    ⟨(some 224), .mv (.t 18), none⟩,
    ⟨(some 225), .bin .add (.t 223) (.t 224), none⟩,
    ⟨(some 226), .mv (.t 0), none⟩,
    ⟨(some 227), .idxSl 1 (.t 226) (.k (.c (.d (.int .i64 7)))), none⟩,
    ⟨(some 228), .load .sc (.t 227), none⟩,
    ⟨(some 229), .mv (.t 19), none⟩,
    ⟨(some 230), .bin .add (.t 228) (.t 229), none⟩,
    ⟨(some 231), .bldSl true 8 1 (.int .u32 0) [(0, (.t 195)), (1, (.t 200)), (2, (.t 205)), (3, (.t 210)), (4, (.t 215)), (5, (.t 220)), (6, (.t 225)), (7, (.t 230))], none⟩,
    ⟨(some 6), .mv (.t 231), none⟩])
  (.ret))))))),
  [(6, none)]⟩
theorem cf_rblock : compFn Tryd.prog { own := [231], comp := [], frz := [], nils := [] } Tryd.f101 = some sf_rblock := by kernel_rfl
set_option maxHeartbeats 1600000 in
theorem rblock_c (G : Glob) (h : List UInt32) (b : List UInt8) (hh : h.length = 8) (hb : b.length = 64) : Den Tryd.prog G 101 [.sl (h.map wD), .sl (constK.map wD), .sl (b.map bD)] (.w (.c (.fr 1 ((blockK h b).map wD)))) := by
  refine den_walk Tryd.func101 cf_rblock rfl rfl ?_
  have hsl : (sched b).length = 64 := schedN_len b 48
  have hcl : constK.length = 64 := constK_len
  simp only [sf_rblock, putAll, wx, stV, seval, IntWalk.iteOmega, IntWalk.toNatUp, reduceCtorEq]
  refine loop_st (rbSt1 h constK b) (fun t => 16 - t) (fun t => t ≤ 16) 0 (Nat.zero_le _) ?_ ?_
  · refine ent_l (fun _ => 56) ?_ ?_ rfl rfl <;> simp only [wx, wex, stV, seval, IntWalk.iteOmega, IntWalk.toNatUp, reduceCtorEq]
    rfl
  · intro t ht
    by_cases hlt : t < 16
    · have e0 : IntKind.i64.wrap (4 * (t : Int)) = ((4 * t : Nat) : Int) := by rw [IntWalk.i64_in _ (by omega)]; omega
      have e1 : IntKind.i64.wrap (((4 * t : Nat) : Int) + 1) = ((4 * t + 1 : Nat) : Int) := by rw [IntWalk.i64_in _ (by omega)]; omega
      have e2 : IntKind.i64.wrap (((4 * t : Nat) : Int) + 2) = ((4 * t + 2 : Nat) : Int) := by rw [IntWalk.i64_in _ (by omega)]; omega
      have e3 : IntKind.i64.wrap (((4 * t : Nat) : Int) + 3) = ((4 * t + 3 : Nat) : Int) := by rw [IntWalk.i64_in _ (by omega)]; omega
      have e4 : IntKind.i64.wrap ((t : Int) + 1) = ((t + 1 : Nat) : Int) := by rw [IntWalk.i64_in _ (by omega)]; omega
      have g : ∀ k, k < 64 → (b.map bD)[k]? = some (bD (b.getD k 0)) := fun k hk => by rw [get_map, getD_someB (by omega)]; rfl
      have g0 := g (4 * t) (by omega)
      have g1 := g (4 * t + 1) (by omega)
      have g2 := g (4 * t + 2) (by omega)
      have g3 := g (4 * t + 3) (by omega)
      have h1 : t < (sched16 b t ++ List.replicate (64 - t) 0).length := by rw [List.length_append, sched16_len, List.length_replicate]; omega
      have h2 := set_next (sched16 b t) 0 (wordAt b t) (64 - t) (by omega)
      rw [sched16_len] at h2
      have h3 : sched16 b t ++ [wordAt b t] = sched16 b (t + 1) := by simp [sched16, List.range_succ]
      have h4 : 64 - t - 1 = 64 - (t + 1) := by omega
      rw [h3, h4] at h2
      simp only [wordAt] at h2
      have m24 : min (24 : Int).toNat 32 = 24 := by decide
      have m16 : min (16 : Int).toNat 32 = 16 := by decide
      have m8 : min (8 : Int).toNat 32 = 8 := by decide
      simp only [lp_rblock_0, rbSt1, wx, stV, seval, IntWalk.iteOmega, IntWalk.toNatUp, reduceCtorEq, e0, e1, e2, e3, e4, g0, g1, g2, g3, Nat.zero_add, stO_ws h1 (one_w _), set_ws, h2]
      refine lop_next (t + 1) (by omega) (by omega) (ent_l id ?_ ?_ rfl rfl) <;> simp only [wx, wex, stV, seval, IntWalk.iteOmega, IntWalk.toNatUp, reduceCtorEq]
    · obtain rfl : t = 16 := by omega
      simp only [lp_rblock_0, rbSt1, wx, stV, seval, IntWalk.iteOmega, IntWalk.toNatUp, reduceCtorEq]
      refine loop_st (rbSt2 h constK b) (fun n => 48 - n) (fun n => n ≤ 48) 0 (Nat.zero_le _) ?_ ?_
      · have h0 : sched16 b 16 = schedN b 0 := rfl
        refine ent_l id ?_ ?_ rfl rfl <;> simp only [wx, wex, stV, seval, IntWalk.iteOmega, IntWalk.toNatUp, reduceCtorEq, h0]
      · intro n hn
        by_cases hlt : n < 48
        · have hl := schedN_len b n
          have w1 : ∀ k : Nat, k ≤ 16 → IntKind.i64.wrap (((16 + n : Nat) : Int) - (k : Int)) = ((16 + n - k : Nat) : Int) := fun k hk => by rw [IntWalk.i64_in _ (by omega)]; omega
          have e15 : IntKind.i64.wrap (((16 + n : Nat) : Int) - 15) = ((16 + n - 15 : Nat) : Int) := w1 15 (by decide)
          have e2 : IntKind.i64.wrap (((16 + n : Nat) : Int) - 2) = ((16 + n - 2 : Nat) : Int) := w1 2 (by decide)
          have e7 : IntKind.i64.wrap (((16 + n : Nat) : Int) - 7) = ((16 + n - 7 : Nat) : Int) := w1 7 (by decide)
          have e16 : IntKind.i64.wrap (((16 + n : Nat) : Int) - 16) = ((16 + n - 16 : Nat) : Int) := w1 16 (by decide)
          have e0 : IntKind.i64.wrap (((16 + n : Nat) : Int) + 1) = ((16 + (n + 1) : Nat) : Int) := by rw [IntWalk.i64_in _ (by omega)]; omega
          have g : ∀ k, k < 16 + n → ((schedN b n ++ List.replicate (48 - n) 0).map wD)[k]? = some (wD ((schedN b n).getD k 0)) := fun k hk => by
            rw [List.getElem?_map, get_of (by omega)]; rfl
          have g15 := g (16 + n - 15) (by omega)
          have g2 := g (16 + n - 2) (by omega)
          have g7 := g (16 + n - 7) (by omega)
          have g16 := g (16 + n - 16) (by omega)
          simp only [lp_rblock_1, rbSt2, wx, stV, seval, IntWalk.iteOmega, IntWalk.toNatUp, reduceCtorEq, e15, e2, e7, e16, e0, g15, g2, g7, g16]
          refine st_call (rturn_c G _ 17 (by decide) (by decide)) rfl (.inr rfl) ?_
          simp only [wx, stV, seval, IntWalk.iteOmega, IntWalk.toNatUp, reduceCtorEq]
          refine st_call (rturn_c G _ 19 (by decide) (by decide)) rfl (.inr rfl) ?_
          simp only [wx, stV, seval, IntWalk.iteOmega, IntWalk.toNatUp, reduceCtorEq, e15, e2, e7, e16, e0, g15, g2, g7, g16]
          refine st_call (rturn_c G _ 7 (by decide) (by decide)) rfl (.inr rfl) ?_
          simp only [wx, stV, seval, IntWalk.iteOmega, IntWalk.toNatUp, reduceCtorEq]
          refine st_call (rturn_c G _ 18 (by decide) (by decide)) rfl (.inr rfl) ?_
          have h1 : 16 + n < (schedN b n ++ List.replicate (48 - n) 0).length := by rw [List.length_append, hl, List.length_replicate]; omega
          have h2 := set_next (schedN b n) 0 (nextW (schedN b n) (16 + n)) (48 - n) (by omega)
          rw [hl] at h2
          have h4 : 48 - n - 1 = 48 - (n + 1) := by omega
          have h3 : schedN b n ++ [nextW (schedN b n) (16 + n)] = schedN b (n + 1) := rfl
          rw [h3, h4] at h2
          simp only [nextW, smallA, smallB] at h2
          simp only [wx, stV, seval, IntWalk.iteOmega, IntWalk.toNatUp, reduceCtorEq, e15, e2, e7, e16, e0, g15, g2, g7, g16, stO_ws h1 (one_w _), set_ws, h2]
          refine lop_next (n + 1) (by omega) (by omega) (ent_l id ?_ ?_ rfl rfl) <;> simp only [wx, wex, stV, seval, IntWalk.iteOmega, IntWalk.toNatUp, reduceCtorEq]
        · have hn48 : n = 48 := by omega
          have h0 : 48 - n = 0 := by omega
          obtain ⟨h0', h1, h2, h3, h4, h5, h6, h7, rfl⟩ := eight hh
          simp only [lp_rblock_1, rbSt2, wx, stV, seval, IntWalk.iteOmega, IntWalk.toNatUp, reduceCtorEq, h0, List.append_nil, List.replicate_zero, ← sched_at b n hn48]
          refine loop_st (rbR3 [h0', h1, h2, h3, h4, h5, h6, h7] b) (fun n => 64 - n) (fun n => n ≤ 64) 0 (Nat.zero_le _) ?_ ?_
          · refine ent_l id ?_ ?_ rfl rfl <;> simp only [rbR3, rbSt3, wx, wex, stV, seval, IntWalk.iteOmega, IntWalk.toNatUp, reduceCtorEq]
            exact ⟨rfl, rfl, rfl, rfl, rfl, rfl, rfl, rfl⟩
          · clear hn hlt hn48 h0
            intro n hn
            by_cases hlt : n < 64
            · have e1 : IntKind.i64.wrap ((n : Int) + 1) = ((n + 1 : Nat) : Int) := by rw [IntWalk.i64_in _ (by omega)]; rfl
              have g1 : (constK.map wD)[n]? = some (wD (constK.getD n 0)) := by rw [get_map, getD_some (by omega)]; rfl
              have g2 : ((sched b).map wD)[n]? = some (wD ((sched b).getD n 0)) := by rw [get_map, getD_some (by omega)]; rfl
              have hr : (Eight.of [h0', h1, h2, h3, h4, h5, h6, h7]).rounds constK (sched b) (n + 1) = ((Eight.of [h0', h1, h2, h3, h4, h5, h6, h7]).rounds constK (sched b) n).step (constK.getD n 0) ((sched b).getD n 0) := rfl
              generalize hs : (Eight.of [h0', h1, h2, h3, h4, h5, h6, h7]).rounds constK (sched b) n = s at hr
              simp only [lp_rblock_2, rbR3, rbSt3, hs, wx, stV, seval, IntWalk.iteOmega, IntWalk.toNatUp, reduceCtorEq, hcl, hsl, g1, g2, e1]
              refine st_call (rturn_c G _ 6 (by decide) (by decide)) rfl (.inr rfl) ?_
              simp only [wx, stV, seval, IntWalk.iteOmega, IntWalk.toNatUp, reduceCtorEq]
              refine st_call (rturn_c G _ 11 (by decide) (by decide)) rfl (.inr rfl) ?_
              simp only [wx, stV, seval, IntWalk.iteOmega, IntWalk.toNatUp, reduceCtorEq]
              refine st_call (rturn_c G _ 25 (by decide) (by decide)) rfl (.inr rfl) ?_
              simp only [wx, stV, seval, IntWalk.iteOmega, IntWalk.toNatUp, reduceCtorEq, g1, g2, hcl, hsl]
              refine st_call (rturn_c G _ 2 (by decide) (by decide)) rfl (.inr rfl) ?_
              simp only [wx, stV, seval, IntWalk.iteOmega, IntWalk.toNatUp, reduceCtorEq]
              refine st_call (rturn_c G _ 13 (by decide) (by decide)) rfl (.inr rfl) ?_
              simp only [wx, stV, seval, IntWalk.iteOmega, IntWalk.toNatUp, reduceCtorEq]
              refine st_call (rturn_c G _ 22 (by decide) (by decide)) rfl (.inr rfl) ?_
              simp only [wx, stV, seval, IntWalk.iteOmega, IntWalk.toNatUp, reduceCtorEq, e1]
              refine lop_next (n + 1) (by omega) (by omega) ?_
              rw [rbR3, hr]
              refine (ent_l id ?_ ?_ rfl rfl) <;> simp only [wx, wex, stV, seval, IntWalk.iteOmega, IntWalk.toNatUp, reduceCtorEq, step_a, step_b, step_c, step_d, step_e, step_f, step_g, step_h]
              exact ⟨rfl, rfl⟩
            · obtain rfl : n = 64 := by omega
              have hK : blockK [h0', h1, h2, h3, h4, h5, h6, h7] b = ((Eight.of [h0', h1, h2, h3, h4, h5, h6, h7]).rounds constK (sched b) 64).sum [h0', h1, h2, h3, h4, h5, h6, h7] := rfl
              rw [hK]
              simp only [rbR3]
              generalize (Eight.of [h0', h1, h2, h3, h4, h5, h6, h7]).rounds constK (sched b) 64 = s
              have e8 : s.sum [h0', h1, h2, h3, h4, h5, h6, h7] = [addW h0' s.a, addW h1 s.b, addW h2 s.c, addW h3 s.d, addW h4 s.e, addW h5 s.f, addW h6 s.g, addW h7 s.h] := rfl
              simp only [lp_rblock_2, rbSt3, e8, wx, stV, seval, IntWalk.iteOmega, IntWalk.toNatUp, reduceCtorEq]
              exact ret_own (id := 1848) (n := 8) (s := 1) (by simp only [wx, stV, seval, IntWalk.iteOmega, IntWalk.toNatUp, reduceCtorEq]) (by simp only [wx, stV, seval, IntWalk.iteOmega, IntWalk.toNatUp, reduceCtorEq] <;> rfl) rfl
end Go.Proofs.YtjgkchmdhicmpaaDoor
set_option linter.unusedVariables false
set_option linter.unusedSimpArgs false
namespace Go.Proofs.YtjgkchmdhicmpaaDoor
open Go.RowKit

/-! ### SHA-256 of bytes -/
def foldB (h : List UInt32) (b : List UInt8) : Nat → List UInt32
  | 0 => h
  | n + 1 => blockK (foldB h b n) ((b.drop (64 * n)).take 64)
theorem foldB_len {h : List UInt32} (hh : h.length = 8) (b : List UInt8) : ∀ n, (foldB h b n).length = 8
  | 0 => hh
  | n + 1 => blockK_len _ _
def padK (rest : List UInt8) (count : Nat) : List UInt8 := rest ++ [128] ++ List.replicate ((119 - rest.length) % 64) 0 ++ putL (count * 8) 8
def wordsB (ws : List UInt32) : List UInt8 := ws.flatMap fun w => putL w.toNat 4
def finK (s : List UInt32) (rest : List UInt8) (count : Nat) : List UInt8 := wordsB (foldB s (padK rest count) ((padK rest count).length / 64))
def sumK (b : List UInt8) : List UInt8 := finK (foldB firstK b (b.length / 64)) (b.drop (64 * (b.length / 64))) b.length
def shortK (b : List UInt8) : List UInt8 := (sumK b).take 16
def chainK (b : List UInt8) : Nat → List UInt8
  | 0 => b
  | n + 1 => shortK (chainK b n)
theorem wordsB_len : ∀ ws : List UInt32, (wordsB ws).length = 4 * ws.length
  | [] => rfl
  | w :: ws => by
    have : wordsB (w :: ws) = putL w.toNat 4 ++ wordsB ws := rfl
    rw [this, List.length_append, putL_length, wordsB_len ws, List.length_cons]; omega
theorem finK_len {s : List UInt32} (hs : s.length = 8) (rest : List UInt8) (count : Nat) : (finK s rest count).length = 32 := by
  unfold finK
  rw [wordsB_len, foldB_len hs]
theorem sumK_len (b : List UInt8) : (sumK b).length = 32 := finK_len (foldB_len firstK_len _ _) _ _
theorem shortK_len (b : List UInt8) : (shortK b).length = 16 := by unfold shortK; rw [List.length_take, sumK_len]; rfl
theorem putL_zero (n : Nat) : putL 0 n = List.replicate n 0 := by
  unfold putL
  apply List.ext_getElem?
  intro i
  simp only [List.getElem?_map, List.getElem?_replicate, List.getElem?_range]
  by_cases h : i < n
  · simp [h, List.getElem?_range]
  · simp [h, List.getElem?_range]
theorem padK_len (rest : List UInt8) (count : Nat) (h : rest.length < 64) : (padK rest count).length = rest.length + 9 + (119 - rest.length) % 64 ∧ (padK rest count).length % 64 = 0 := by
  have : (padK rest count).length = rest.length + 9 + (119 - rest.length) % 64 := by simp [padK, putL_length]; omega
  exact ⟨this, by omega⟩
theorem wordsB_take (ws : List UInt32) (k : Nat) (h : k < ws.length) : wordsB (ws.take k) ++ putL (ws.getD k 0).toNat 4 = wordsB (ws.take (k + 1)) := by
  rw [List.take_succ_eq_append_getElem h]
  unfold wordsB
  rw [List.flatMap_append]
  simp [h]
theorem get_words {ws : List UInt32} {k : Nat} (h : k < ws.length) : ((ws.map wD).map C.d)[k]? = some (.d (wD (ws.getD k 0))) := by
  simp [h]
theorem drop_take_drop (b : List UInt8) (n : Nat) : (b.drop (64 * n)).drop 64 = b.drop (64 * (n + 1)) := by rw [List.drop_drop, Nat.mul_succ]

def bksSt (s : List UInt32) (b : List UInt8) (n : Nat) : St := ⟨ofL [(1, .w (.c (.d (.sl ((b.drop (64 * n)).map bD))))), (2, .w (.c (.pa 1 1))), (4, .w (.c (.pa 2 1))), (5, .w (.c .nil))], hL [(1, .row 1 ((foldB s b n).map wD)), (2, .row 1 ((List.replicate 8 (0 : UInt32)).map wD))], uL [1, 2]⟩
def lp_blocks_0 : SCode :=
  .seq (.seq (.reg [⟨(some 6), .mv (.t 1), none⟩,
    ⟨(some 7), .len (.t 6), none⟩,
    ⟨(some 8), .bin .geq (.t 7) (.k (.c (.d (.int .i64 64)))), none⟩])
  (.cond (.t 8) (.skip)
   (.exit 0)))
  (.block 1 (.seq (.reg [⟨(some 9), .load (.ag 8) (.t 2), none⟩,
     ⟨(some 10), .mv (.t 1), none⟩,
     ⟨(some 11), .slice 1 (.t 10) none (some (.k (.c (.d (.int .i64 64))))) none, none⟩,
     ⟨(some 12), .call 109 [(.t 9), (.t 11)] none, none⟩,
     ⟨none, .store (.ag 8) (.t 2) (.t 12), none⟩])
   (.reg [⟨(some 13), .mv (.t 1), none⟩,
     ⟨(some 14), .slice 1 (.t 13) (some (.k (.c (.d (.int .i64 64))))) none none, none⟩,
     ⟨(some 1), .mv (.t 14), none⟩])))
def sf_blocks : SFn := ⟨2, 17,
  .seq (.reg [⟨(some 2), .box .ownArr (.t 0), none⟩,
    ⟨(some 4), .allocArr [(.int .u32 0), (.int .u32 0), (.int .u32 0), (.int .u32 0), (.int .u32 0), (.int .u32 0), (.int .u32 0), (.int .u32 0)], none⟩,
    ⟨(some 5), .mv (.k (.c .nil)), none⟩])
  (.seq (.block 0 (.loop lp_blocks_0))
  (.seq (.reg [⟨(some 15), .load (.ag 8) (.t 2), none⟩,
    ⟨(some 16), .mv (.t 1), none⟩,
    ⟨none, .store (.ag 8) (.t 4) (.t 15), none⟩,
    ⟨(some 5), .mv (.t 16), none⟩])
  (.ret))),
  [(4, (some (.ag 8))), (5, none)]⟩
theorem cf_blocks : compFn Tryd.prog { own := [2], comp := [], frz := [], nils := [] } Tryd.f71 = some sf_blocks := by kernel_rfl
set_option maxHeartbeats 1600000 in
theorem blocks_c (G : Glob) (hG : G.at 1 = some (.ra (constK.map wD))) (s : List UInt32) (b : List UInt8) (hs : s.length = 8) (hb : b.length ≤ 140737488355328) : Den Tryd.prog G 71 [.agg (s.map wD), .sl (b.map bD)] (.tup [.c (.d (.agg ((foldB s b (b.length / 64)).map wD))), .c (.d (.sl ((b.drop (64 * (b.length / 64))).map bD)))]) := by
  refine den_walk Tryd.func71 cf_blocks rfl rfl ?_
  simp only [sf_blocks, putAll, wx, stV, seval, IntWalk.iteOmega, IntWalk.toNatUp, reduceCtorEq]
  refine loop_st (bksSt s b) (fun n => b.length / 64 - n) (fun n => n ≤ b.length / 64) 0 (Nat.zero_le _) ?_ ?_
  · refine ent_l (fun i => match i with | 1 => 16 | _ => 32) ?_ ?_ rfl rfl <;> simp only [wx, wex, stV, seval, IntWalk.iteOmega, IntWalk.toNatUp, reduceCtorEq, bksSt, foldB]
    rfl
  · intro n hn
    have hl := foldB_len hs b n
    by_cases hlt : n < b.length / 64
    · have h1 : (64 : Int) ≤ ((b.drop (64 * n)).length : Int) := by rw [List.length_drop]; omega
      have h2 : ((b.drop (64 * n)).take 64).length = 64 := by rw [List.length_take, List.length_drop]; omega
      have e1 := drop_take_drop b n
      simp only [lp_blocks_0, bksSt, wx, stV, seval, IntWalk.iteOmega, IntWalk.toNatUp, reduceCtorEq, hl, h1]
      refine st_call (block_c G hG (foldB s b n) ((b.drop (64 * n)).take 64) hl h2) rfl (.inl rfl) ?_
      have e2 : (blockK (foldB s b n) ((b.drop (64 * n)).take 64)).length = 8 := blockK_len _ _
      have e3 : (b.drop (64 * n)).length - 64 = ((b.drop (64 * (n + 1)))).length := by rw [List.length_drop, List.length_drop]; omega
      simp only [wx, stV, seval, IntWalk.iteOmega, IntWalk.toNatUp, reduceCtorEq, hl, e2, e1, e3]
      refine lop_next (n + 1) (by omega) (by omega) (ent_l id ?_ ?_ rfl rfl) <;> simp only [wx, wex, stV, seval, IntWalk.iteOmega, IntWalk.toNatUp, reduceCtorEq, foldB]
    · obtain rfl : n = b.length / 64 := by omega
      have h1 : ¬ (64 : Int) ≤ ((b.drop (64 * (b.length / 64))).length : Int) := by rw [List.length_drop]; omega
      simp only [lp_blocks_0, bksSt, wx, stV, seval, IntWalk.iteOmega, IntWalk.toNatUp, reduceCtorEq, hl, h1]
      exact ret_d2 (by simp only [wx, stV, seval, IntWalk.iteOmega, IntWalk.toNatUp, reduceCtorEq, hl]) (by simp only [wx, stV, seval, IntWalk.iteOmega, IntWalk.toNatUp, reduceCtorEq])

def finSt (ws : List UInt32) (k : Nat) : St := ⟨ofL [(9, .w (.c (.own 1 1 0 (wordsB (ws.take k)).length))), (36, .w (.c (.d (.agg (ws.map wD))))), (37, .w (.c (.d (.int .i64 (k : Int)))))], hL [(1, .row 1 ((wordsB (ws.take k)).map bD))], uL [1]⟩
def lp_fin_0 : SCode :=
  .seq (.reg [⟨(some 38), .bin .lss (.t 37) (.k (.c (.d (.int .i64 8)))), none⟩])
  (.seq (.cond (.t 38) (.skip)
   (.exit 0))
  (.seq (.block 1 (.seq (.reg [⟨(some 39), .idxArr 1 8 .sc (.t 36) (.t 37), none⟩,
     ⟨(some 11), .mv (.t 39), none⟩])
   (.reg [⟨(some 40), .mv (.t 9), none⟩,
     ⟨(some 41), .mv (.t 11), none⟩,
     ⟨(some 42), .conv .u64 (.t 41), none⟩,
     ⟨(some 43), .call 75 [(.t 42), (.k (.c (.d (.int .i64 4))))] none, none⟩,
     ⟨(some 44), .app false 1 1 (.t 40) (.t 43), none⟩,
     ⟨(some 9), .mv (.t 44), none⟩])))
  (.reg [⟨(some 45), .bin .add (.t 37) (.k (.c (.d (.int .i64 1)))), none⟩,
    ⟨(some 37), .mv (.t 45), none⟩])))
def sf_fin : SFn := ⟨3, 47,
  .seq (.reg [⟨(some 3), .box .ownArr (.t 0), none⟩,
    ⟨(some 6), .mv (.k (.c .nil)), none⟩])
  (.seq (.reg [⟨(some 12), .bldSl false 1 1 (.int .u8 0) [(0, (.k (.c (.d (.int .u8 128)))))], none⟩,
    ⟨(some 7), .mv (.t 12), none⟩])
  (.seq (.reg [⟨(some 13), .mv (.t 7), none⟩,
    ⟨(some 14), .len (.t 13), none⟩,
    ⟨(some 15), .bin .sub (.k (.c (.d (.int .i64 120)))) (.t 14), none⟩,
    ⟨(some 16), .mv (.t 1), none⟩,
    ⟨(some 17), .len (.t 16), none⟩,
    ⟨(some 18), .bin .sub (.t 15) (.t 17), none⟩,
    ⟨(some 19), .bin .rem (.t 18) (.k (.c (.d (.int .i64 64)))), none⟩,
    ⟨(some 8), .mv (.t 19), none⟩])
  (.seq (.reg [⟨(some 21), .load (.ag 8) (.t 3), none⟩,
    ⟨(some 22), .mv (.t 1), none⟩,
    ⟨(some 23), .mv (.t 7), none⟩,
    ⟨(some 24), .mv (.t 8), none⟩,
    ⟨(some 25), .call 75 [(.k (.c (.d (.int .u64 0)))), (.t 24)] none, none⟩,
    ⟨(some 26), .mv (.t 2), none⟩,
    ⟨(some 27), .conv .u64 (.t 26), none⟩,
    ⟨(some 28), .bin .mul (.t 27) (.k (.c (.d (.int .u64 8)))), none⟩,
    ⟨(some 29), .call 75 [(.t 28), (.k (.c (.d (.int .i64 8))))] none, none⟩,
    ⟨(some 30), .bldSl false 4 1 (.sl []) [(0, (.t 22)), (1, (.t 23)), (2, (.t 25)), (3, (.t 29))], none⟩,
    ⟨(some 31), .call 43 [(.t 30)] none, none⟩,
    ⟨(some 32), .call 71 [(.t 21), (.t 31)] none, none⟩,
    ⟨(some 20), .mv (.t 32), none⟩,
    ⟨(some 33), .extract (.t 20) 0, none⟩,
    ⟨(some 34), .extract (.t 20) 1, none⟩,
    ⟨none, .store (.ag 8) (.t 3) (.t 33), none⟩])
  (.seq (.reg [⟨(some 35), .make 1 1 (.int .u8 0) (.k (.c (.d (.int .i64 0)))) (.k (.c (.d (.int .i64 32)))), none⟩,
    ⟨(some 9), .mv (.t 35), none⟩])
  (.seq (.seq (.reg [⟨(some 36), .load (.ag 8) (.t 3), none⟩,
    ⟨(some 37), .mv (.k (.c (.d (.int .i64 0)))), none⟩])
  (.block 0 (.loop lp_fin_0)))
  (.seq (.reg [⟨(some 46), .mv (.t 9), none⟩,
    ⟨(some 6), .mv (.t 46), none⟩])
  (.ret))))))),
  [(6, none)]⟩
theorem cf_fin : compFn Tryd.prog { own := [3], comp := [], frz := [], nils := [] } Tryd.f74 = some sf_fin := by kernel_rfl
set_option maxHeartbeats 1600000 in
theorem fin_c (G : Glob) (hG : G.at 1 = some (.ra (constK.map wD))) (s : List UInt32) (rest : List UInt8) (count : Nat) (hs : s.length = 8) (hr : rest.length < 64) (hc : count ≤ 140737488355328) : Den Tryd.prog G 74 [.agg (s.map wD), .sl (rest.map bD), .int .i64 (count : Int)] (.w (.c (.fr 1 ((finK s rest count).map bD)))) := by
  refine den_walk Tryd.func74 cf_fin rfl rfl ?_
  have e3 : (119 - (rest.length : Int)).tmod 64 = (((119 - rest.length) % 64 : Nat) : Int) := by
    rw [show (119 - (rest.length : Int)) = ((119 - rest.length : Nat) : Int) by omega]; rfl
  simp only [sf_fin, putAll, wx, wy, wz, stV, seval, IntWalk.iteOmega, IntWalk.toNatUp, reduceCtorEq, hs, e3]
  have hz : (119 - rest.length) % 64 ≤ 64 := by omega
  refine st_call (put_in G 0 ((119 - rest.length) % 64) hz) rfl (.inl rfl) ?_
  simp only [wx, wy, wz, stV, seval, IntWalk.iteOmega, IntWalk.toNatUp, reduceCtorEq]
  refine st_call (put_in G (count * 8) 8 (by decide)) ?_ (.inl rfl) ?_
  · simp only [wx, wy, wz, stV, seval, IntWalk.iteOmega, IntWalk.toNatUp, reduceCtorEq]
  obtain ⟨hp1, hp2⟩ := padK_len rest count hr
  have hp : [rest, [128], putL 0 ((119 - rest.length) % 64), putL (count * 8) 8].flatten = padK rest count := by
    rw [putL_zero]; simp [padK]
  have hj := join_c G [rest, [128], putL 0 ((119 - rest.length) % 64), putL (count * 8) 8] (by simp) (by rw [hp, hp1]; omega)
  rw [hp] at hj
  simp only [wx, wy, wz, stV, seval, IntWalk.iteOmega, IntWalk.toNatUp, reduceCtorEq]
  refine st_call hj rfl (.inl rfl) ?_
  simp only [wx, wy, wz, stV, seval, IntWalk.iteOmega, IntWalk.toNatUp, reduceCtorEq]
  refine st_call (blocks_c G hG s (padK rest count) hs (by rw [hp1]; omega)) rfl (.inl rfl) ?_
  have hw : (foldB s (padK rest count) ((padK rest count).length / 64)).length = 8 := foldB_len hs _ _
  have hf : finK s rest count = wordsB (foldB s (padK rest count) ((padK rest count).length / 64)) := rfl
  rw [hf]
  generalize foldB s (padK rest count) ((padK rest count).length / 64) = ws at hw
  simp only [wx, wy, wz, stV, seval, IntWalk.iteOmega, IntWalk.toNatUp, reduceCtorEq, hs, hw]
  refine loop_st (finSt ws) (fun k => 8 - k) (fun k => k ≤ 8) 0 (Nat.zero_le _) ?_ ?_
  · refine ent_l (fun _ => 280) ?_ ?_ rfl rfl <;> simp only [wx, wex, wez, stV, seval, IntWalk.iteOmega, IntWalk.toNatUp, reduceCtorEq, wordsB]
  · intro k hk
    by_cases hlt : k < 8
    · have hw1 : (ws.getD k 0).toNat < 4294967296 := word_lt _
      have hwl := wordsB_len (ws.take k)
      rw [List.length_take] at hwl
      simp only [lp_fin_0, finSt, wx, wy, wz, stV, seval, IntWalk.iteOmega, IntWalk.toNatUp, reduceCtorEq, get_words (show k < ws.length by omega)]
      refine st_call (put_in G (ws.getD k 0).toNat 4 (by decide)) ?_ (.inl rfl) ?_
      · simp only [wx, wy, wz, stV, seval, IntWalk.iteOmega, IntWalk.toNatUp, reduceCtorEq]
      simp only [wx, wy, wz, stV, seval, IntWalk.iteOmega, IntWalk.toNatUp, reduceCtorEq, srcV, wordsB_take ws k (by omega), putL_length]
      refine lop_next (k + 1) (by omega) (by omega) (ent_l (fun _ => 352) ?_ ?_ rfl rfl) <;> simp only [wx, wex, wez, stV, seval, IntWalk.iteOmega, IntWalk.toNatUp, reduceCtorEq]
    · obtain rfl : k = 8 := by omega
      have : ws.take 8 = ws := List.take_of_length_le (by omega)
      simp only [lp_fin_0, finSt, wx, wy, wz, stV, seval, IntWalk.iteOmega, IntWalk.toNatUp, reduceCtorEq, this]
      exact ret_own (id := 1) (n := (wordsB ws).length) (s := 1) (by simp only [wx, stV, seval, IntWalk.iteOmega, IntWalk.toNatUp, reduceCtorEq]) (by simp only [wx, stV, seval, IntWalk.iteOmega, IntWalk.toNatUp, reduceCtorEq]) (by rw [List.length_map])

def sf_sum : SFn := ⟨1, 16,
  .seq (.reg [⟨(some 2), .mv (.k (.c .nil)), none⟩])
  (.seq (.reg [⟨(some 6), .load (.ag 8) (.g 0), none⟩,
    ⟨(some 7), .mv (.t 0), none⟩,
    ⟨(some 8), .call 71 [(.t 6), (.t 7)] none, none⟩,
    ⟨(some 5), .mv (.t 8), none⟩,
    ⟨(some 9), .extract (.t 5) 0, none⟩,
    ⟨(some 10), .extract (.t 5) 1, none⟩,
    ⟨(some 3), .allocArr [(.int .u32 0), (.int .u32 0), (.int .u32 0), (.int .u32 0), (.int .u32 0), (.int .u32 0), (.int .u32 0), (.int .u32 0)], none⟩,
    ⟨none, .store (.ag 8) (.t 3) (.t 9), none⟩,
    ⟨(some 4), .mv (.t 10), none⟩])
  (.seq (.reg [⟨(some 11), .load (.ag 8) (.t 3), none⟩,
    ⟨(some 12), .mv (.t 4), none⟩,
    ⟨(some 13), .mv (.t 0), none⟩,
    ⟨(some 14), .len (.t 13), none⟩,
    ⟨(some 15), .call 74 [(.t 11), (.t 12), (.t 14)] (some (0, 1)), none⟩,
    ⟨(some 2), .mv (.t 15), none⟩])
  (.ret))),
  [(2, none)]⟩
theorem cf_sum : compFn Tryd.prog { own := [15], comp := [], frz := [], nils := [] } Tryd.f42 = some sf_sum := by kernel_rfl
set_option maxHeartbeats 1600000 in
theorem sum_c (G : Glob) (hF : G.at 0 = some (.ra (firstK.map wD))) (hG : G.at 1 = some (.ra (constK.map wD))) (b : List UInt8) (hb : b.length ≤ 140737488355328) : Den Tryd.prog G 42 [.sl (b.map bD)] (.w (.c (.fr 1 ((sumK b).map bD)))) := by
  refine den_walk Tryd.func42 cf_sum rfl rfl ?_
  have eg := @ev_g G 0 _ hF
  have hl : (foldB firstK b (b.length / 64)).length = 8 := foldB_len firstK_len _ _
  have h8 : firstK.length = 8 := firstK_len
  simp only [sf_sum, putAll, wx, wy, wz, stV, seval, IntWalk.iteOmega, IntWalk.toNatUp, reduceCtorEq, eg, h8]
  refine st_call (blocks_c G hG firstK b firstK_len hb) rfl (.inl rfl) ?_
  simp only [wx, wy, wz, stV, seval, IntWalk.iteOmega, IntWalk.toNatUp, reduceCtorEq, hl]
  refine st_call (fin_c G hG _ (b.drop (64 * (b.length / 64))) b.length hl (by rw [List.length_drop]; omega) hb) ?_ (.inl rfl) ?_
  · simp only [wx, wy, wz, stV, seval, IntWalk.iteOmega, IntWalk.toNatUp, reduceCtorEq]
  simp only [wx, wy, wz, stV, seval, IntWalk.iteOmega, IntWalk.toNatUp, reduceCtorEq]
  exact ret_own (id := 120) (n := (finK (foldB firstK b (b.length / 64)) (b.drop (64 * (b.length / 64))) b.length).length) (s := 1) (by simp only [wx, stV, seval, IntWalk.iteOmega, IntWalk.toNatUp, reduceCtorEq]) (by simp only [wx, stV, seval, IntWalk.iteOmega, IntWalk.toNatUp, reduceCtorEq] <;> rfl) (by rw [List.length_map]; rfl)
def sf_short : SFn := ⟨1, 8,
  .seq (.reg [⟨(some 2), .mv (.k (.c .nil)), none⟩])
  (.seq (.reg [⟨(some 3), .mv (.t 0), none⟩,
    ⟨(some 4), .call 42 [(.t 3)] none, none⟩,
    ⟨(some 5), .slice 1 (.t 4) none (some (.k (.c (.d (.int .i64 16))))) none, none⟩,
    ⟨(some 6), .bldSl false 1 1 (.sl []) [(0, (.t 5))], none⟩,
    ⟨(some 7), .call 43 [(.t 6)] (some (0, 1)), none⟩,
    ⟨(some 2), .mv (.t 7), none⟩])
  (.ret)),
  [(2, none)]⟩
theorem cf_short : compFn Tryd.prog { own := [7], comp := [], frz := [], nils := [] } Tryd.f95 = some sf_short := by kernel_rfl
set_option maxHeartbeats 1600000 in
theorem short_c (G : Glob) (hF : G.at 0 = some (.ra (firstK.map wD))) (hG : G.at 1 = some (.ra (constK.map wD))) (b : List UInt8) (hb : b.length ≤ 140737488355328) : Den Tryd.prog G 95 [.sl (b.map bD)] (.w (.c (.fr 1 ((shortK b).map bD)))) := by
  refine den_walk Tryd.func95 cf_short rfl rfl ?_
  have hl := sumK_len b
  simp only [sf_short, putAll, wx, wy, wz, stV, seval, IntWalk.iteOmega, IntWalk.toNatUp, reduceCtorEq]
  refine st_call (sum_c G hF hG b hb) rfl (.inl rfl) ?_
  simp only [wx, wy, wz, stV, seval, IntWalk.iteOmega, IntWalk.toNatUp, reduceCtorEq, hl]
  have hj := join_c G [shortK b] (by simp) (by simp [shortK_len])
  have hf : [shortK b].flatten = shortK b := by simp
  rw [hf] at hj
  refine st_call hj ?_ (.inl rfl) ?_
  · simp only [wx, wy, wz, stV, seval, IntWalk.iteOmega, IntWalk.toNatUp, reduceCtorEq, shortK]
  simp only [wx, wy, wz, stV, seval, IntWalk.iteOmega, IntWalk.toNatUp, reduceCtorEq]
  exact ret_own (id := 56) (n := (shortK b).length) (s := 1) (by simp only [wx, stV, seval, IntWalk.iteOmega, IntWalk.toNatUp, reduceCtorEq]) (by simp only [wx, stV, seval, IntWalk.iteOmega, IntWalk.toNatUp, reduceCtorEq]) (by rw [List.length_map])
def chSt (b : List UInt8) (M : Int) (i : Nat) : St := ⟨ofL [(0, .w (.c (.d (.sl ((chainK b i).map bD))))), (9, .w (.c (.d (.int .i64 M)))), (10, .w (.c (.d (.int .i64 (i : Int)))))], hL [], uL []⟩
theorem chainK_len (b : List UInt8) (hb : b.length ≤ 140737488355328) : ∀ n, (chainK b n).length ≤ 140737488355328
  | 0 => hb
  | n + 1 => by rw [chainK, shortK_len]; decide
def lp_chain_0 : SCode :=
  .seq (.reg [⟨(some 11), .bin .lss (.t 10) (.t 9), none⟩])
  (.seq (.cond (.t 11) (.skip)
   (.exit 0))
  (.seq (.block 1 (.reg [⟨(some 12), .mv (.t 0), none⟩,
     ⟨(some 13), .call 95 [(.t 12)] none, none⟩,
     ⟨(some 0), .mv (.t 13), none⟩]))
  (.reg [⟨(some 14), .bin .add (.t 10) (.k (.c (.d (.int .i64 1)))), none⟩,
    ⟨(some 10), .mv (.t 14), none⟩])))
def sf_chain : SFn := ⟨2, 16,
  .seq (.reg [⟨(some 4), .mv (.k (.c .nil)), none⟩])
  (.seq (.reg [⟨(some 5), .mv (.t 0), none⟩,
    ⟨(some 6), .bldFz 1 1 (.sl []) [(0, (.t 5))], none⟩,
    ⟨(some 7), .call 43 [(.t 6)] none, none⟩,
    ⟨(some 0), .mv (.t 7), none⟩])
  (.seq (.seq (.reg [⟨(some 8), .mv (.t 1), none⟩,
    ⟨(some 9), .min [(.t 8), (.k (.c (.d (.int .i64 65536))))], none⟩,
    ⟨(some 10), .mv (.k (.c (.d (.int .i64 0)))), none⟩])
  (.block 0 (.loop lp_chain_0)))
  (.seq (.reg [⟨(some 15), .mv (.t 0), none⟩,
    ⟨(some 4), .mv (.t 15), none⟩])
  (.ret)))),
  [(4, none)]⟩
theorem cf_chain : compFn Tryd.prog { own := [], comp := [], frz := [6], nils := [] } Tryd.f94 = some sf_chain := by kernel_rfl
set_option maxHeartbeats 1600000 in
theorem chain_l (G : Glob) (hF : G.at 0 = some (.ra (firstK.map wD))) (hG : G.at 1 = some (.ra (constK.map wD))) (b : List UInt8) (hb : b.length ≤ 140737488355328) (M : Int) (hM : M ≤ 65536) (Q : AX → St → Prop) (σ : St) (he : Ent σ (chSt b M 0)) (hq : ∀ f, f 0 = .w (.c (.d (.sl ((chainK b M.toNat).map bD)))) → Q (.ex 0) ⟨f, hN, uN⟩) : awp Tryd.prog G (.loop lp_chain_0) Q σ := by
  refine loop_st (chSt b M) (fun i => M.toNat - i) (fun i => i ≤ M.toNat) 0 (Nat.zero_le _) he ?_
  intro i hi
  by_cases hlt : (i : Int) < M
  · simp only [lp_chain_0, chSt, wx, wy, wz, stV, seval, IntWalk.iteOmega, IntWalk.toNatUp, reduceCtorEq]
    refine st_call (short_c G hF hG (chainK b i) (chainK_len b hb i)) rfl (.inl rfl) ?_
    simp only [wx, wy, wz, stV, seval, IntWalk.iteOmega, IntWalk.toNatUp, reduceCtorEq]
    refine lop_next (i + 1) (by omega) (by omega) (ent_l id ?_ ?_ rfl rfl) <;> simp only [wx, wex, wez, stV, seval, IntWalk.iteOmega, IntWalk.toNatUp, reduceCtorEq, chainK]
  · obtain rfl : i = M.toNat := by omega
    simp only [lp_chain_0, chSt, wx, wy, wz, stV, seval, IntWalk.iteOmega, IntWalk.toNatUp, reduceCtorEq]
    exact hq _ (by simp only [wx, wy, wz, stV, seval, IntWalk.iteOmega, IntWalk.toNatUp, reduceCtorEq])
set_option maxHeartbeats 1600000 in
theorem chain_c (G : Glob) (hF : G.at 0 = some (.ra (firstK.map wD))) (hG : G.at 1 = some (.ra (constK.map wD))) (b : List UInt8) (hb : b.length ≤ 140737488355328) (n : Int) : Den Tryd.prog G 94 [.sl (b.map bD), .int .i64 n] (.w (.c (.d (.sl ((chainK b (min n 65536).toNat).map bD))))) := by
  refine den_walk Tryd.func94 cf_chain rfl rfl ?_
  have hj := join_c G [b] (by simp) (by simpa using hb)
  have hf : [b].flatten = b := by simp
  rw [hf] at hj
  simp only [sf_chain, putAll, wx, wy, wz, stV, seval, IntWalk.iteOmega, IntWalk.toNatUp, reduceCtorEq]
  refine st_call hj rfl (.inl rfl) ?_
  by_cases hc : (65536 : Int) < n
  · have hm : (min n 65536).toNat = (65536 : Int).toNat := by omega
    rw [hm]
    simp only [wx, wy, wz, stV, seval, IntWalk.iteOmega, IntWalk.toNatUp, reduceCtorEq, List.foldl_cons, List.foldl_nil]
    refine chain_l G hF hG b hb 65536 (by omega) _ _ (ent_l id ?_ ?_ rfl rfl) fun f hf => ?_
    · simp only [wx, wex, wez, stV, seval, IntWalk.iteOmega, IntWalk.toNatUp, reduceCtorEq, chainK]
    · simp only [wx, wex, wez, stV, seval, IntWalk.iteOmega, IntWalk.toNatUp, reduceCtorEq]
    · simp only [wx, wy, wz, stV, seval, IntWalk.iteOmega, IntWalk.toNatUp, reduceCtorEq, hf]
      exact ret_d1 (by simp only [wx, wy, wz, stV, seval, IntWalk.iteOmega, IntWalk.toNatUp, reduceCtorEq])
  · have hm : (min n 65536).toNat = n.toNat := by omega
    rw [hm]
    simp only [wx, wy, wz, stV, seval, IntWalk.iteOmega, IntWalk.toNatUp, reduceCtorEq, List.foldl_cons, List.foldl_nil]
    refine chain_l G hF hG b hb n (by omega) _ _ (ent_l id ?_ ?_ rfl rfl) fun f hf => ?_
    · simp only [wx, wex, wez, stV, seval, IntWalk.iteOmega, IntWalk.toNatUp, reduceCtorEq, chainK]
    · simp only [wx, wex, wez, stV, seval, IntWalk.iteOmega, IntWalk.toNatUp, reduceCtorEq]
    · simp only [wx, wy, wz, stV, seval, IntWalk.iteOmega, IntWalk.toNatUp, reduceCtorEq, hf]
      exact ret_d1 (by simp only [wx, wy, wz, stV, seval, IntWalk.iteOmega, IntWalk.toNatUp, reduceCtorEq])
end Go.Proofs.YtjgkchmdhicmpaaDoor
set_option linter.unusedVariables false
set_option linter.unusedSimpArgs false
namespace Go.Proofs.YtjgkchmdhicmpaaDoor
open Go.RowKit

theorem rep_snoc {α : Type} (a : α) (j : Nat) : List.replicate j a ++ [a] = List.replicate (j + 1) a := by rw [List.replicate_succ']
theorem sum_rep (n : Nat) : ((List.replicate n (0 : UInt8)).map UInt8.toNat).sum = 0 := by induction n with
  | zero => rfl
  | succ n ih => rw [List.replicate_succ, List.map_cons, List.sum_cons, ih]; rfl
def rf1St (h : List UInt32) (rest : List UInt8) (count : Nat) (j : Nat) : St := ⟨ofL [(0, .w (.c (.d (.sl (h.map wD))))), (2, .w (.c (.d (.int .i64 (count : Int))))), (7, .w (.c (.d (.sl (constK.map wD))))), (8, .w (.c (.own 1 1 0 (rest ++ [128] ++ List.replicate j 0).length)))], hL [(1, .row 1 ((rest ++ [128] ++ List.replicate j 0).map bD))], uL [1]⟩
def rf2St (h : List UInt32) (p : List UInt8) (n : Nat) : St := ⟨ofL [(0, .w (.c (.d (.sl ((foldB h p n).map wD))))), (7, .w (.c (.d (.sl (constK.map wD))))), (8, .w (.c (.own 1 1 0 p.length))), (9, .w (.c (.d (.int .i64 ((64 * n : Nat) : Int)))))], hL [(1, .row 1 (p.map bD))], uL [1]⟩
def rf3St (ws : List UInt32) (k : Nat) : St := ⟨ofL [(0, .w (.c (.d (.sl (ws.map wD))))), (10, .w (.c (.own 1 1 0 (wordsB (ws.take k)).length))), (11, .w (.c (.d (.int .i64 (k : Int)))))], hL [(1, .row 1 ((wordsB (ws.take k)).map bD))], uL [1]⟩
theorem get_ws {ws : List UInt32} {k : Nat} (h : k < ws.length) : (ws.map wD)[k]? = some (wD (ws.getD k 0)) := by
  simp [h]
theorem b0_is : D.int .u8 0 = bD 0 := rfl
theorem b128_is : D.int .u8 128 = bD 128 := rfl
theorem app_c (l : List UInt8) (a : UInt8) : l.map bD ++ [bD a] = (l ++ [a]).map bD := by simp
def lp_rfin_0 : SCode :=
  .seq (.seq (.reg [⟨(some 18), .mv (.t 8), none⟩,
    ⟨(some 19), .len (.t 18), none⟩,
    ⟨(some 20), .bin .rem (.t 19) (.k (.c (.d (.int .i64 64)))), none⟩,
    ⟨(some 21), .bin .neq (.t 20) (.k (.c (.d (.int .i64 56)))), none⟩])
  (.cond (.t 21) (.skip)
   (.exit 0)))
  (.block 1 (.reg [⟨(some 22), .mv (.t 8), none⟩,
     ⟨(some 23), .bldSl false 1 1 (.int .u8 0) [(0, (.k (.c (.d (.int .u8 0)))))], none⟩,
     ⟨(some 24), .app false 1 1 (.t 22) (.t 23), none⟩,
     ⟨(some 8), .mv (.t 24), none⟩]))
def lp_rfin_1 : SCode :=
  .seq (.seq (.reg [⟨(some 31), .mv (.t 9), none⟩,
    ⟨(some 32), .mv (.t 8), none⟩,
    ⟨(some 33), .len (.t 32), none⟩,
    ⟨(some 34), .bin .lss (.t 31) (.t 33), none⟩])
  (.cond (.t 34) (.skip)
   (.exit 2)))
  (.seq (.block 3 (.reg [⟨(some 37), .mv (.t 0), none⟩,
     ⟨(some 38), .mv (.t 7), none⟩,
     ⟨(some 39), .mv (.t 8), none⟩,
     ⟨(some 40), .mv (.t 9), none⟩,
     ⟨(some 41), .mv (.t 9), none⟩,
     ⟨(some 42), .bin .add (.t 41) (.k (.c (.d (.int .i64 64)))), none⟩,
     ⟨(some 43), .slice 1 (.t 39) (some (.t 40)) (some (.t 42)) none, none⟩,
     ⟨(some 44), .call 101 [(.t 37), (.t 38), (.t 43)] none, none⟩,
     ⟨(some 0), .mv (.t 44), none⟩]))
  (.reg [⟨(some 35), .mv (.t 9), none⟩,
    ⟨(some 36), .bin .add (.t 35) (.k (.c (.d (.int .i64 64)))), none⟩,
    ⟨(some 9), .mv (.t 36), none⟩]))
def lp_rfin_2 : SCode :=
  .seq (.seq (.reg [⟨(some 46), .mv (.t 11), none⟩,
    ⟨(some 47), .bin .lss (.t 46) (.k (.c (.d (.int .i64 8)))), none⟩])
  (.cond (.t 47) (.skip)
   (.exit 4)))
  (.seq (.block 5 (.reg [⟨(some 50), .mv (.t 10), none⟩,
     ⟨(some 51), .mv (.t 0), none⟩,
     ⟨(some 52), .mv (.t 11), none⟩,
     ⟨(some 53), .idxSl 1 (.t 51) (.t 52), none⟩,
     ⟨(some 54), .load .sc (.t 53), none⟩,
     ⟨(some 55), .conv .u64 (.t 54), none⟩,
     ⟨(some 56), .call 51 [(.t 55), (.k (.c (.d (.int .i64 4))))] none, none⟩,
     ⟨(some 57), .app false 1 1 (.t 50) (.t 56), none⟩,
     ⟨(some 10), .mv (.t 57), none⟩]))
  (.reg [⟨(some 48), .mv (.t 11), none⟩,
    ⟨(some 49), .bin .add (.t 48) (.k (.c (.d (.int .i64 1)))), none⟩,
    ⟨(some 11), .mv (.t 49), none⟩]))
def sf_rfin : SFn := ⟨3, 59,
  .seq (.reg [⟨(some 6), .mv (.k (.c .nil)), none⟩])
  (.seq (.reg [⟨(some 12), .call 100 [] none, none⟩,
    ⟨(some 7), .mv (.t 12), none⟩])
  (.seq (.reg [⟨(some 13), .mv (.t 1), none⟩,
    ⟨(some 14), .bldSl false 1 1 (.sl []) [(0, (.t 13))], none⟩,
    ⟨(some 15), .call 41 [(.t 14)] (some (0, 1)), none⟩,
    ⟨(some 16), .bldSl false 1 1 (.int .u8 0) [(0, (.k (.c (.d (.int .u8 128)))))], none⟩,
    ⟨(some 17), .app false 1 1 (.t 15) (.t 16), none⟩,
    ⟨(some 8), .mv (.t 17), none⟩])
  (.seq (.block 0 (.loop lp_rfin_0))
  (.seq (.reg [⟨(some 25), .mv (.t 8), none⟩,
    ⟨(some 26), .mv (.t 2), none⟩,
    ⟨(some 27), .conv .u64 (.t 26), none⟩,
    ⟨(some 28), .bin .mul (.t 27) (.k (.c (.d (.int .u64 8)))), none⟩,
    ⟨(some 29), .call 51 [(.t 28), (.k (.c (.d (.int .i64 8))))] none, none⟩,
    ⟨(some 30), .app false 1 1 (.t 25) (.t 29), none⟩,
    ⟨(some 8), .mv (.t 30), none⟩])
  (.seq (.seq (.reg [⟨(some 9), .mv (.k (.c (.d (.int .i64 0)))), none⟩])
  (.block 2 (.loop lp_rfin_1)))
  (.seq (.reg [⟨(some 45), .bldSl true 0 1 (.int .u8 0) [], none⟩,
    ⟨(some 10), .mv (.t 45), none⟩])
  (.seq (.seq (.reg [⟨(some 11), .mv (.k (.c (.d (.int .i64 0)))), none⟩])
  (.block 4 (.loop lp_rfin_2)))
  (.seq (.reg [⟨(some 58), .mv (.t 10), none⟩,
    ⟨(some 6), .mv (.t 58), none⟩])
  (.ret))))))))),
  [(6, none)]⟩
theorem cf_rfin : compFn Tryd.prog { own := [15, 45], comp := [], frz := [], nils := [] } Tryd.f102 = some sf_rfin := by kernel_rfl
set_option maxHeartbeats 1600000 in
theorem rfin_c (G : Glob) (s : List UInt32) (rest : List UInt8) (count : Nat) (hs : s.length = 8) (hr : rest.length < 64) (hc : count ≤ 140737488355328) : Den Tryd.prog G 102 [.sl (s.map wD), .sl (rest.map bD), .int .i64 (count : Int)] (.w (.c (.fr 1 ((finK s rest count).map bD)))) := by
  refine den_walk Tryd.func102 cf_rfin rfl rfl ?_
  have hj := rjoin_c G [rest] (by simp) (by simp; omega)
  have hf : [rest].flatten = rest := by simp
  rw [hf] at hj
  obtain ⟨hp1, hp2⟩ := padK_len rest count hr
  simp only [sf_rfin, putAll, wx, wy, wz, stV, seval, IntWalk.iteOmega, IntWalk.toNatUp, reduceCtorEq]
  refine st_call (rcon_c G) rfl (.inl rfl) ?_
  simp only [wx, wy, wz, stV, seval, IntWalk.iteOmega, IntWalk.toNatUp, reduceCtorEq]
  refine st_call hj rfl (.inl rfl) ?_
  simp only [wx, wy, wz, stV, seval, IntWalk.iteOmega, IntWalk.toNatUp, reduceCtorEq, srcV, b128_is, app_c]
  refine loop_st (rf1St s rest count) (fun j => (119 - rest.length) % 64 - j) (fun j => j ≤ (119 - rest.length) % 64) 0 (Nat.zero_le _) ?_ ?_
  · refine ent_l (fun _ => 136) ?_ ?_ rfl rfl <;> simp only [wx, wex, wez, stV, seval, IntWalk.iteOmega, IntWalk.toNatUp, reduceCtorEq]
  · intro j hj
    have hl : (rest ++ [128] ++ List.replicate j 0).length = rest.length + 1 + j := by simp; omega
    have ht : ((rest ++ [128] ++ List.replicate j 0).length : Int).tmod 64 = (((rest.length + 1 + j) % 64 : Nat) : Int) := by rw [hl]; rfl
    by_cases hlt : j < (119 - rest.length) % 64
    · have e1 : rest ++ [128] ++ List.replicate j 0 ++ [0] = rest ++ [128] ++ List.replicate (j + 1) 0 := by
        rw [List.append_assoc, rep_snoc]
      generalize hx : rest ++ [128] ++ List.replicate j 0 = x at *
      simp only [lp_rfin_0, rf1St, hx, wx, wy, wz, stV, seval, IntWalk.iteOmega, IntWalk.toNatUp, reduceCtorEq, ht, srcV, b0_is, app_c, e1]
      refine lop_next (j + 1) (by omega) (by omega) (ent_l (fun _ => 192) ?_ ?_ rfl rfl) <;> simp only [wx, wex, wez, stV, seval, IntWalk.iteOmega, IntWalk.toNatUp, reduceCtorEq]
    · obtain rfl : j = (119 - rest.length) % 64 := by omega
      generalize hx : rest ++ [128] ++ List.replicate ((119 - rest.length) % 64) 0 = x at *
      simp only [lp_rfin_0, rf1St, hx, wx, wy, wz, stV, seval, IntWalk.iteOmega, IntWalk.toNatUp, reduceCtorEq, ht]
      refine st_call (rput_in G (count * 8) 8 (by decide)) ?_ (.inl rfl) ?_
      · simp only [wx, wy, wz, stV, seval, IntWalk.iteOmega, IntWalk.toNatUp, reduceCtorEq]
      have hx2 : x ++ putL (count * 8) 8 = padK rest count := by rw [← hx]; rfl
      simp only [wx, wy, wz, stV, seval, IntWalk.iteOmega, IntWalk.toNatUp, reduceCtorEq, srcV, app_map, hx2, putL_length]
      refine loop_st (rf2St s (padK rest count)) (fun n => (padK rest count).length / 64 - n) (fun n => n ≤ (padK rest count).length / 64) 0 (Nat.zero_le _) ?_ ?_
      · refine ent_l (fun _ => 240) ?_ ?_ rfl rfl <;> simp only [wx, wex, wez, stV, seval, IntWalk.iteOmega, IntWalk.toNatUp, reduceCtorEq, foldB]
      · generalize hpk : padK rest count = p at *
        intro n hn
        have hl8 := foldB_len hs p n
        by_cases hlt : n < p.length / 64
        · have h2 : ((p.drop (64 * n)).take 64).length = 64 := by rw [List.length_take, List.length_drop]; omega
          have e1 : 64 * n + 64 - 64 * n = 64 := by omega
          simp only [lp_rfin_1, rf2St, wx, wy, wz, stV, seval, IntWalk.iteOmega, IntWalk.toNatUp, reduceCtorEq]
          refine st_call (rblock_c G (foldB s p n) ((p.drop (64 * n)).take 64) hl8 h2) ?_ (.inr (fl_w _ _)) ?_
          · simp only [wx, wy, wz, stV, seval, IntWalk.iteOmega, IntWalk.toNatUp, reduceCtorEq, obSl, e1]
          simp only [wx, wy, wz, stV, seval, IntWalk.iteOmega, IntWalk.toNatUp, reduceCtorEq]
          have e2 : 64 * (n : Int) + 64 = 64 * ((n : Int) + 1) := by omega
          refine lop_next (n + 1) (by omega) (by omega) (ent_l id ?_ ?_ rfl rfl) <;> simp only [wx, wex, wez, stV, seval, IntWalk.iteOmega, IntWalk.toNatUp, reduceCtorEq, foldB, e2]
        · obtain rfl : n = p.length / 64 := by omega
          have hfk : finK s rest count = wordsB (foldB s p (p.length / 64)) := by unfold finK; rw [hpk]
          rw [hfk]
          simp only [rf2St]
          generalize foldB s p (p.length / 64) = ws at hl8
          have h64 : ¬ ((64 * (p.length / 64) : Nat) : Int) < (p.length : Int) := by omega
          simp only [lp_rfin_1, wx, wy, wz, stV, seval, IntWalk.iteOmega, IntWalk.toNatUp, reduceCtorEq, h64]
          refine loop_st (rf3St ws) (fun k => 8 - k) (fun k => k ≤ 8) 0 (Nat.zero_le _) ?_ ?_
          · refine ent_l (fun _ => 360) ?_ ?_ rfl rfl <;> simp only [wx, wex, wez, stV, seval, IntWalk.iteOmega, IntWalk.toNatUp, reduceCtorEq, wordsB]
          · intro k hk
            by_cases hlt : k < 8
            · have hw1 : (ws.getD k 0).toNat < 4294967296 := word_lt _
              have hwl := wordsB_len (ws.take k)
              rw [List.length_take] at hwl
              simp only [lp_rfin_2, rf3St, wx, wy, wz, stV, seval, IntWalk.iteOmega, IntWalk.toNatUp, reduceCtorEq, get_ws (show k < ws.length by omega)]
              refine st_call (rput_in G (ws.getD k 0).toNat 4 (by decide)) ?_ (.inl rfl) ?_
              · simp only [wx, wy, wz, stV, seval, IntWalk.iteOmega, IntWalk.toNatUp, reduceCtorEq]
              simp only [wx, wy, wz, stV, seval, IntWalk.iteOmega, IntWalk.toNatUp, reduceCtorEq, srcV, wordsB_take ws k (by omega), putL_length]
              refine lop_next (k + 1) (by omega) (by omega) (ent_l (fun _ => 456) ?_ ?_ rfl rfl) <;> simp only [wx, wex, wez, stV, seval, IntWalk.iteOmega, IntWalk.toNatUp, reduceCtorEq]
            · obtain rfl : k = 8 := by omega
              have : ws.take 8 = ws := List.take_of_length_le (by omega)
              simp only [lp_rfin_2, rf3St, wx, wy, wz, stV, seval, IntWalk.iteOmega, IntWalk.toNatUp, reduceCtorEq, this]
              exact ret_own (id := 1) (n := (wordsB ws).length) (s := 1) (by simp only [wx, stV, seval, IntWalk.iteOmega, IntWalk.toNatUp, reduceCtorEq]) (by simp only [wx, stV, seval, IntWalk.iteOmega, IntWalk.toNatUp, reduceCtorEq]) (by rw [List.length_map])

def rsSt (b : List UInt8) (n : Nat) : St := ⟨ofL [(0, .w (.c (.d (.sl (b.map bD))))), (3, .w (.c (.d (.sl ((foldB firstK b n).map wD))))), (4, .w (.c (.d (.sl (constK.map wD))))), (5, .w (.c (.d (.int .i64 ((64 * (b.length / 64) : Nat) : Int))))), (6, .w (.c (.d (.int .i64 ((64 * n : Nat) : Int)))))], hL [], uL []⟩
def lp_rsum_0 : SCode :=
  .seq (.seq (.reg [⟨(some 13), .mv (.t 6), none⟩,
    ⟨(some 14), .mv (.t 5), none⟩,
    ⟨(some 15), .bin .lss (.t 13) (.t 14), none⟩])
  (.cond (.t 15) (.skip)
   (.exit 0)))
  (.seq (.block 1 (.reg [⟨(some 18), .mv (.t 3), none⟩,
     ⟨(some 19), .mv (.t 4), none⟩,
     ⟨(some 20), .mv (.t 0), none⟩,
     ⟨(some 21), .mv (.t 6), none⟩,
     ⟨(some 22), .mv (.t 6), none⟩,
     ⟨(some 23), .bin .add (.t 22) (.k (.c (.d (.int .i64 64)))), none⟩,
     ⟨(some 24), .slice 1 (.t 20) (some (.t 21)) (some (.t 23)) none, none⟩,
     ⟨(some 25), .call 101 [(.t 18), (.t 19), (.t 24)] none, none⟩,
     ⟨(some 3), .mv (.t 25), none⟩]))
  (.reg [⟨(some 16), .mv (.t 6), none⟩,
    ⟨(some 17), .bin .add (.t 16) (.k (.c (.d (.int .i64 64)))), none⟩,
    ⟨(some 6), .mv (.t 17), none⟩]))
def sf_rsum : SFn := ⟨1, 33,
  .seq (.reg [⟨(some 2), .mv (.k (.c .nil)), none⟩])
  (.seq (.reg [⟨(some 7), .call 99 [] none, none⟩,
    ⟨(some 8), .call 100 [] none, none⟩,
    ⟨(some 3), .mv (.t 7), none⟩,
    ⟨(some 4), .mv (.t 8), none⟩])
  (.seq (.reg [⟨(some 9), .mv (.t 0), none⟩,
    ⟨(some 10), .len (.t 9), none⟩,
    ⟨(some 11), .bin .quo (.t 10) (.k (.c (.d (.int .i64 64)))), none⟩,
    ⟨(some 12), .bin .mul (.t 11) (.k (.c (.d (.int .i64 64)))), none⟩,
    ⟨(some 5), .mv (.t 12), none⟩])
  (.seq (.seq (.reg [⟨(some 6), .mv (.k (.c (.d (.int .i64 0)))), none⟩])
  (.block 0 (.loop lp_rsum_0)))
  (.seq (.reg [⟨(some 26), .mv (.t 3), none⟩,
    ⟨(some 27), .mv (.t 0), none⟩,
    ⟨(some 28), .mv (.t 5), none⟩,
    ⟨(some 29), .slice 1 (.t 27) (some (.t 28)) none none, none⟩,
    ⟨(some 30), .mv (.t 0), none⟩,
    ⟨(some 31), .len (.t 30), none⟩,
    ⟨(some 32), .call 102 [(.t 26), (.t 29), (.t 31)] (some (0, 1)), none⟩,
    ⟨(some 2), .mv (.t 32), none⟩])
  (.ret))))),
  [(2, none)]⟩
theorem cf_rsum : compFn Tryd.prog { own := [32], comp := [], frz := [], nils := [] } Tryd.f61 = some sf_rsum := by kernel_rfl
set_option maxHeartbeats 1600000 in
theorem rsum_c (G : Glob) (b : List UInt8) (hb : b.length ≤ 140737488355328) : Den Tryd.prog G 61 [.sl (b.map bD)] (.w (.c (.fr 1 ((sumK b).map bD)))) := by
  refine den_walk Tryd.func61 cf_rsum rfl rfl ?_
  have e1 : (b.length : Int).tdiv 64 = ((b.length / 64 : Nat) : Int) := rfl
  have e2 : ((b.length / 64 : Nat) : Int) * 64 = ((64 * (b.length / 64) : Nat) : Int) := by omega
  have e3 : IntKind.i64.wrap ((64 * (b.length / 64) : Nat) : Int) = ((64 * (b.length / 64) : Nat) : Int) := IntWalk.i64_in _ (by omega)
  have e4 : IntKind.i64.wrap ((b.length / 64 : Nat) : Int) = ((b.length / 64 : Nat) : Int) := IntWalk.i64_in _ (by omega)
  simp only [sf_rsum, putAll, wx, wy, stV, seval, IntWalk.iteOmega, IntWalk.toNatUp, reduceCtorEq]
  refine st_call (rfst_c G) rfl (.inl rfl) ?_
  simp only [wx, wy, stV, seval, IntWalk.iteOmega, IntWalk.toNatUp, reduceCtorEq]
  refine st_call (rcon_c G) rfl (.inl rfl) ?_
  simp only [wx, wy, stV, seval, IntWalk.iteOmega, IntWalk.toNatUp, reduceCtorEq, e1, e2, e3, e4]
  refine loop_st (rsSt b) (fun n => b.length / 64 - n) (fun n => n ≤ b.length / 64) 0 (Nat.zero_le _) ?_ ?_
  · refine ent_l id ?_ ?_ rfl rfl <;> simp only [wx, wex, stV, seval, IntWalk.iteOmega, IntWalk.toNatUp, reduceCtorEq, foldB]
  · intro n hn
    have hl8 := foldB_len firstK_len b n
    by_cases hlt : n < b.length / 64
    · have h2 : ((b.drop (64 * n)).take 64).length = 64 := by rw [List.length_take, List.length_drop]; omega
      have e1 : 64 * n + 64 - 64 * n = 64 := by omega
      have e5 : IntKind.i64.wrap (((64 * n : Nat) : Int) + 64) = ((64 * (n + 1) : Nat) : Int) := by rw [IntWalk.i64_in _ (by omega)]; omega
      have e6 : 64 * (n + 1) - 64 * n = 64 := by omega
      simp only [lp_rsum_0, rsSt, wx, wy, stV, seval, IntWalk.iteOmega, IntWalk.toNatUp, reduceCtorEq, e1, e5, e6]
      refine st_call (rblock_c G (foldB firstK b n) ((b.drop (64 * n)).take 64) hl8 h2) ?_ (.inl rfl) ?_
      · simp only [wx, wy, stV, seval, IntWalk.iteOmega, IntWalk.toNatUp, reduceCtorEq]
      simp only [wx, wy, stV, seval, IntWalk.iteOmega, IntWalk.toNatUp, reduceCtorEq, e5]
      refine lop_next (n + 1) (by omega) (by omega) (ent_l id ?_ ?_ rfl rfl) <;> simp only [wx, wex, stV, seval, IntWalk.iteOmega, IntWalk.toNatUp, reduceCtorEq, foldB]
    · obtain rfl : n = b.length / 64 := by omega
      have e1 : List.take (b.length - 64 * (b.length / 64)) (b.drop (64 * (b.length / 64))) = b.drop (64 * (b.length / 64)) := List.take_of_length_le (by rw [List.length_drop]; exact Nat.le_refl _)
      simp only [lp_rsum_0, rsSt, wx, wy, stV, seval, IntWalk.iteOmega, IntWalk.toNatUp, reduceCtorEq, e1]
      refine st_call (rfin_c G (foldB firstK b (b.length / 64)) (b.drop (64 * (b.length / 64))) b.length hl8 (by rw [List.length_drop]; omega) hb) ?_ (.inl rfl) ?_
      · simp only [wx, wy, stV, seval, IntWalk.iteOmega, IntWalk.toNatUp, reduceCtorEq]
      simp only [wx, wy, stV, seval, IntWalk.iteOmega, IntWalk.toNatUp, reduceCtorEq]
      exact ret_own (id := 256) (n := (finK (foldB firstK b (b.length / 64)) (b.drop (64 * (b.length / 64))) b.length).length) (s := 1) (by simp only [wx, stV, seval, IntWalk.iteOmega, IntWalk.toNatUp, reduceCtorEq]) (by simp only [wx, stV, seval, IntWalk.iteOmega, IntWalk.toNatUp, reduceCtorEq] <;> rfl) (by rw [List.length_map]; rfl)
def sf_rshort : SFn := ⟨1, 6,
  .seq (.reg [⟨(some 2), .mv (.k (.c .nil)), none⟩])
  (.seq (.reg [⟨(some 3), .mv (.t 0), none⟩,
    ⟨(some 4), .call 61 [(.t 3)] none, none⟩,
    ⟨(some 5), .slice 1 (.t 4) none (some (.k (.c (.d (.int .i64 16))))) none, none⟩,
    ⟨(some 2), .mv (.t 5), none⟩])
  (.ret)),
  [(2, none)]⟩
theorem cf_rshort : compFn Tryd.prog { own := [], comp := [], frz := [], nils := [] } Tryd.f87 = some sf_rshort := by kernel_rfl
set_option maxHeartbeats 1600000 in
theorem rshort_c (G : Glob) (b : List UInt8) (hb : b.length ≤ 140737488355328) : Den Tryd.prog G 87 [.sl (b.map bD)] (.w (.c (.d (.sl ((shortK b).map bD))))) := by
  refine den_walk Tryd.func87 cf_rshort rfl rfl ?_
  have hl := sumK_len b
  simp only [sf_rshort, putAll, wx, wy, wz, stV, seval, IntWalk.iteOmega, IntWalk.toNatUp, reduceCtorEq]
  refine st_call (rsum_c G b hb) rfl (.inl rfl) ?_
  simp only [wx, wy, wz, stV, seval, IntWalk.iteOmega, IntWalk.toNatUp, reduceCtorEq, hl]
  exact ret_d1 (by simp only [wx, wy, wz, stV, seval, IntWalk.iteOmega, IntWalk.toNatUp, reduceCtorEq, shortK])
def rchSt (b : List UInt8) (M : Int) (i : Nat) : St := ⟨ofL [(1, .w (.c (.d (.int .i64 M)))), (5, .w (.c (.d (.sl ((chainK b i).map bD))))), (6, .w (.c (.d (.int .i64 (i : Int)))))], hL [], uL []⟩
def lp_rchain_0 : SCode :=
  .seq (.seq (.reg [⟨(some 10), .mv (.t 6), none⟩,
    ⟨(some 11), .mv (.t 1), none⟩,
    ⟨(some 12), .bin .lss (.t 10) (.t 11), none⟩,
    ⟨(some 13), .mv (.t 12), none⟩,
    ⟨(some 14), .mv (.t 6), (some (13, true))⟩,
    ⟨(some 15), .bin .lss (.t 14) (.k (.c (.d (.int .i64 65536)))), (some (13, true))⟩,
    ⟨(some 16), .pick (.t 13) (.t 15) (.k (.c (.d (.bool false)))), none⟩])
  (.cond (.t 16) (.skip)
   (.exit 0)))
  (.seq (.block 1 (.reg [⟨(some 19), .mv (.t 5), none⟩,
     ⟨(some 20), .call 87 [(.t 19)] none, none⟩,
     ⟨(some 5), .mv (.t 20), none⟩]))
  (.reg [⟨(some 17), .mv (.t 6), none⟩,
    ⟨(some 18), .bin .add (.t 17) (.k (.c (.d (.int .i64 1)))), none⟩,
    ⟨(some 6), .mv (.t 18), none⟩]))
def sf_rchain : SFn := ⟨2, 22,
  .seq (.reg [⟨(some 4), .mv (.k (.c .nil)), none⟩])
  (.seq (.reg [⟨(some 7), .mv (.t 0), none⟩,
    ⟨(some 8), .bldSl false 1 1 (.sl []) [(0, (.t 7))], none⟩,
    ⟨(some 9), .call 41 [(.t 8)] none, none⟩,
    ⟨(some 5), .mv (.t 9), none⟩])
  (.seq (.seq (.reg [⟨(some 6), .mv (.k (.c (.d (.int .i64 0)))), none⟩])
  (.block 0 (.loop lp_rchain_0)))
  (.seq (.reg [⟨(some 21), .mv (.t 5), none⟩,
    ⟨(some 4), .mv (.t 21), none⟩])
  (.ret)))),
  [(4, none)]⟩
theorem cf_rchain : compFn Tryd.prog { own := [], comp := [], frz := [], nils := [] } Tryd.f86 = some sf_rchain := by kernel_rfl
set_option maxHeartbeats 1600000 in
theorem rchain_c (G : Glob) (b : List UInt8) (hb : b.length ≤ 140737488355328) (n : Int) : Den Tryd.prog G 86 [.sl (b.map bD), .int .i64 n] (.w (.c (.d (.sl ((chainK b (min n 65536).toNat).map bD))))) := by
  refine den_walk Tryd.func86 cf_rchain rfl rfl ?_
  have hj := rjoin_c G [b] (by simp) (by simpa using hb)
  have hf : [b].flatten = b := by simp
  rw [hf] at hj
  simp only [sf_rchain, putAll, wx, wy, wz, stV, seval, IntWalk.iteOmega, IntWalk.toNatUp, reduceCtorEq]
  refine st_call hj rfl (.inl rfl) ?_
  simp only [wx, wy, wz, stV, seval, IntWalk.iteOmega, IntWalk.toNatUp, reduceCtorEq]
  refine loop_st (rchSt b n) (fun i => (min n 65536).toNat - i) (fun i => i ≤ (min n 65536).toNat) 0 (Nat.zero_le _) ?_ ?_
  · refine ent_l id ?_ ?_ rfl rfl <;> simp only [wx, wex, wez, stV, seval, IntWalk.iteOmega, IntWalk.toNatUp, reduceCtorEq, chainK]
  · intro i hi
    by_cases hlt : (i : Int) < n
    · by_cases hlt2 : i < 65536
      · simp only [lp_rchain_0, rchSt, wx, wy, wz, stV, seval, IntWalk.iteOmega, IntWalk.toNatUp, reduceCtorEq]
        refine st_call (rshort_c G (chainK b i) (chainK_len b hb i)) rfl (.inl rfl) ?_
        simp only [wx, wy, wz, stV, seval, IntWalk.iteOmega, IntWalk.toNatUp, reduceCtorEq]
        refine lop_next (i + 1) (by omega) (by omega) (ent_l id ?_ ?_ rfl rfl) <;> simp only [wx, wex, wez, stV, seval, IntWalk.iteOmega, IntWalk.toNatUp, reduceCtorEq, chainK]
      · obtain rfl : i = (min n 65536).toNat := by omega
        simp only [lp_rchain_0, rchSt, wx, wy, wz, stV, seval, IntWalk.iteOmega, IntWalk.toNatUp, reduceCtorEq]
        exact ret_d1 (by simp only [wx, wy, wz, stV, seval, IntWalk.iteOmega, IntWalk.toNatUp, reduceCtorEq])
    · obtain rfl : i = (min n 65536).toNat := by omega
      simp only [lp_rchain_0, rchSt, wx, wy, wz, stV, seval, IntWalk.iteOmega, IntWalk.toNatUp, reduceCtorEq]
      exact ret_d1 (by simp only [wx, wy, wz, stV, seval, IntWalk.iteOmega, IntWalk.toNatUp, reduceCtorEq])
end Go.Proofs.YtjgkchmdhicmpaaDoor
set_option linter.unusedVariables false
set_option linter.unusedSimpArgs false
namespace Go.Proofs.YtjgkchmdhicmpaaDoor
open Go.RowKit

/-! ### Digits -/
def halfN (b : List UInt8) : List Nat := b.flatMap fun x => [x.toNat / 16, x.toNat % 16]
def lackN (d : List Nat) : Nat := (d.map fun x => 15 - x).sum
def digN (b : List UInt8) : List Nat := halfN b ++ [lackN (halfN b) / 256, lackN (halfN b) / 16 % 16, lackN (halfN b) % 16]
def digA (b : List UInt8) (i : Nat) : Nat := (digN b).getD i 0
theorem halfN_len (b : List UInt8) : (halfN b).length = 2 * b.length := by
  induction b with
  | nil => rfl
  | cons x b ih =>
    have : halfN (x :: b) = [x.toNat / 16, x.toNat % 16] ++ halfN b := rfl
    rw [this, List.length_append, ih]; simp; omega
theorem halfN_le {b : List UInt8} : ∀ x ∈ halfN b, x ≤ 15 := by
  intro x hx
  unfold halfN at hx
  obtain ⟨y, _, hy⟩ := List.mem_flatMap.1 hx
  have := y.toNat_lt
  simp only [List.mem_cons, List.not_mem_nil, or_false] at hy
  rcases hy with rfl | rfl <;> omega
theorem halfN_inj : ∀ {a b : List UInt8}, a.length = b.length → halfN a = halfN b → a = b
  | [], [], _, _ => rfl
  | [], _ :: _, h, _ => by simp at h
  | _ :: _, [], h, _ => by simp at h
  | x :: a, y :: b, h, e => by
    have e1 : halfN (x :: a) = x.toNat / 16 :: x.toNat % 16 :: halfN a := rfl
    have e2 : halfN (y :: b) = y.toNat / 16 :: y.toNat % 16 :: halfN b := rfl
    rw [e1, e2] at e
    simp only [List.cons.injEq] at e
    obtain ⟨h1, h2, h3⟩ := e
    have hxy : x = y := UInt8.toNat_inj.1 (by omega)
    rw [hxy, halfN_inj (by simpa using h) h3]
theorem halfN_snoc (b : List UInt8) (x : UInt8) : halfN (b ++ [x]) = halfN b ++ [x.toNat / 16, x.toNat % 16] := by unfold halfN; rw [List.flatMap_append]; rfl
theorem lackN_app (a b : List Nat) : lackN (a ++ b) = lackN a + lackN b := by unfold lackN; rw [List.map_append, List.sum_append]
theorem lackN_le : ∀ (d : List Nat), lackN d ≤ 15 * d.length
  | [] => Nat.le_refl _
  | x :: d => by
    have h := lackN_le d
    have e : lackN (x :: d) = (15 - x) + lackN d := by unfold lackN; rw [List.map_cons, List.sum_cons]
    rw [e, List.length_cons]; omega
theorem digN_len (b : List UInt8) : (digN b).length = 2 * b.length + 3 := by unfold digN; rw [List.length_append, halfN_len]; rfl
theorem digN_le {b : List UInt8} (h : b.length = 16) : ∀ x ∈ digN b, x ≤ 15 := by
  intro x hx
  have h1 := lackN_le (halfN b)
  rw [halfN_len, h] at h1
  unfold digN at hx
  rcases List.mem_append.1 hx with hx | hx
  · exact halfN_le x hx
  · simp only [List.mem_cons, List.not_mem_nil, or_false] at hx
    rcases hx with rfl | rfl | rfl <;> omega
theorem digA_le {b : List UInt8} (h : b.length = 16) (i : Nat) : digA b i ≤ 15 := by
  unfold digA
  by_cases hi : i < (digN b).length
  · rw [List.getD_eq_getElem?_getD, List.getElem?_eq_getElem hi]
    exact digN_le h _ (List.getElem_mem hi)
  · rw [List.getD_eq_getElem?_getD, List.getElem?_eq_none (by omega)]; exact Nat.zero_le _
theorem digA_lo {b : List UInt8} {i : Nat} (hi : i < 2 * b.length) : digA b i = (halfN b).getD i 0 := by
  unfold digA digN
  rw [List.getD_eq_getElem?_getD, List.getD_eq_getElem?_getD, List.getElem?_append_left (by rw [halfN_len]; exact hi)]
theorem digA_hi {b : List UInt8} (h : b.length = 16) : digA b 32 = lackN (halfN b) / 256 ∧ digA b 33 = lackN (halfN b) / 16 % 16 ∧ digA b 34 = lackN (halfN b) % 16 := by
  have hl : (halfN b).length = 32 := by rw [halfN_len, h]
  unfold digA digN
  refine ⟨?_, ?_, ?_⟩ <;> (rw [List.getD_eq_getElem?_getD, List.getElem?_append_right (by omega), hl]; rfl)
theorem lackN_mono : ∀ {a b : List Nat}, a.length = b.length → (∀ i, i < a.length → b.getD i 0 ≤ a.getD i 0) → (∀ x ∈ a, x ≤ 15) → lackN a ≤ lackN b ∧ (lackN a = lackN b → a = b)
  | [], [], _, _, _ => ⟨Nat.le_refl _, fun _ => rfl⟩
  | [], _ :: _, h, _, _ => by simp at h
  | _ :: _, [], h, _, _ => by simp at h
  | x :: a, y :: b, h, hle, hb => by
    have ih := lackN_mono (a := a) (b := b) (by simpa using h) (fun i hi => by simpa using hle (i + 1) (by simpa using hi)) (fun z hz => hb z (List.mem_cons_of_mem _ hz))
    have h0 : y ≤ x := by simpa using hle 0 (by simp)
    have hx := hb x List.mem_cons_self
    have e1 : lackN (x :: a) = (15 - x) + lackN a := by unfold lackN; rw [List.map_cons, List.sum_cons]
    have e2 : lackN (y :: b) = (15 - y) + lackN b := by unfold lackN; rw [List.map_cons, List.sum_cons]
    rw [e1, e2]
    refine ⟨by omega, fun he => ?_⟩
    have h1 : lackN a = lackN b := by omega
    rw [ih.2 h1, show x = y by omega]
/-- Of two different digests each one has a digit that is less. -/
theorem dig_less {a b : List UInt8} (ha : a.length = 16) (hb : b.length = 16) (h : a ≠ b) : ∃ i, i < 35 ∧ digA a i < digA b i := by
  refine Classical.byContradiction fun hn => ?_
  have hle : ∀ i, i < 35 → digA b i ≤ digA a i := fun i hi => Nat.le_of_not_lt fun hlt => hn ⟨i, hi, hlt⟩
  have la : (halfN a).length = 32 := by rw [halfN_len, ha]
  have lb : (halfN b).length = 32 := by rw [halfN_len, hb]
  obtain ⟨m1, m2⟩ := lackN_mono (a := halfN a) (b := halfN b) (by omega) (fun i hi => by
    have := hle i (by omega)
    rwa [digA_lo (by omega), digA_lo (by omega)] at this) halfN_le
  obtain ⟨p1, p2, p3⟩ := digA_hi ha
  obtain ⟨q1, q2, q3⟩ := digA_hi hb
  have h1 := hle 32 (by decide)
  have h2 := hle 33 (by decide)
  have h3 := hle 34 (by decide)
  have b1 := lackN_le (halfN a)
  have b2 := lackN_le (halfN b)
  rw [p1, q1] at h1
  rw [p2, q2] at h2
  rw [p3, q3] at h3
  rw [la] at b1
  rw [lb] at b2
  exact h (halfN_inj (by omega) (m2 (by omega)))
/-- The digits say the sum. -/
theorem dig_sum {b : List UInt8} (h : b.length = 16) : lackN (halfN b) = 256 * digA b 32 + 16 * digA b 33 + digA b 34 := by
  obtain ⟨p1, p2, p3⟩ := digA_hi h
  have b1 := lackN_le (halfN b)
  rw [halfN_len, h] at b1
  rw [p1, p2, p3]; omega
theorem lackN_take {d : List Nat} {i : Nat} (h : i < d.length) : lackN (d.take (i + 1)) = lackN (d.take i) + (15 - d.getD i 0) := by
  have e : d.take (i + 1) = d.take i ++ [d.getD i 0] := by
    rw [List.take_succ_eq_append_getElem h, List.getD_eq_getElem?_getD, List.getElem?_eq_getElem h]; rfl
  rw [e, lackN_app]
  simp [lackN]
/-! ### Chains -/
theorem chainK_add (b : List UInt8) (m : Nat) : ∀ n, chainK (chainK b m) n = chainK b (m + n)
  | 0 => rfl
  | n + 1 => by rw [chainK, chainK_add b m n]; rfl
def secM (seed : List UInt8) (index : Nat) (c : Nat) : List UInt8 := shortK (seed ++ putL index 4 ++ [UInt8.ofNat c])
def endsM (f : Nat → List UInt8) (n : Nat) : List UInt8 := (List.range n).flatMap f
theorem endsM_succ (f : Nat → List UInt8) (n : Nat) : endsM f (n + 1) = endsM f n ++ f n := by unfold endsM; rw [List.range_succ, List.flatMap_append]; simp
theorem endsM_len {f : Nat → List UInt8} (h : ∀ i, (f i).length = 16) : ∀ n, (endsM f n).length = 16 * n
  | 0 => rfl
  | n + 1 => by rw [endsM_succ, List.length_append, endsM_len h n, h]; omega
theorem endsM_congr {f g : Nat → List UInt8} : ∀ {n : Nat}, (∀ i, i < n → f i = g i) → endsM f n = endsM g n
  | 0, _ => rfl
  | n + 1, h => by rw [endsM_succ, endsM_succ, endsM_congr (fun i hi => h i (by omega)), h n (by omega)]
def pubM (seed : List UInt8) (index : Nat) : List UInt8 := shortK (endsM (fun c => chainK (secM seed index c) 15) 35)
def sigN (seed : List UInt8) (index : Nat) (digest : List UInt8) (n : Nat) : List (List UInt8) := (List.range n).map fun c => chainK (secM seed index c) (digA digest c)
def sigM (seed : List UInt8) (index : Nat) (digest : List UInt8) : List (List UInt8) := sigN seed index digest 35
def recM (digest : List UInt8) (s : List (List UInt8)) : List UInt8 := shortK (endsM (fun c => chainK (s.getD c []) (15 - digA digest c)) 35)
theorem secM_len (seed : List UInt8) (index c : Nat) : (secM seed index c).length = 16 := shortK_len _
theorem chain16 {b : List UInt8} (h : b.length = 16) : ∀ n, (chainK b n).length = 16
  | 0 => h
  | n + 1 => shortK_len _
theorem sigN_len (seed : List UInt8) (index : Nat) (digest : List UInt8) (n : Nat) : (sigN seed index digest n).length = n := by unfold sigN; rw [List.length_map, List.length_range]
theorem sigN_succ (seed : List UInt8) (index : Nat) (digest : List UInt8) (n : Nat) : sigN seed index digest n ++ [chainK (secM seed index n) (digA digest n)] = sigN seed index digest (n + 1) := by unfold sigN; rw [List.range_succ, List.map_append]; rfl
theorem sig_get (seed : List UInt8) (index : Nat) (digest : List UInt8) {c : Nat} (h : c < 35) : (sigM seed index digest).getD c [] = chainK (secM seed index c) (digA digest c) := by
  unfold sigM sigN
  rw [List.getD_eq_getElem?_getD, List.getElem?_map, List.getElem?_range h]; rfl
theorem sig_mem {seed : List UInt8} {index : Nat} {digest : List UInt8} : ∀ x ∈ sigM seed index digest, x.length = 16 := by
  intro x hx
  unfold sigM sigN at hx
  obtain ⟨c, _, rfl⟩ := List.mem_map.1 hx
  exact chain16 (secM_len _ _ _) _
/-- A signature gives the public key back. -/
theorem rec_sig (seed : List UInt8) (index : Nat) {digest : List UInt8} (h : digest.length = 16) : recM digest (sigM seed index digest) = pubM seed index := by
  unfold recM pubM
  congr 1
  refine endsM_congr fun c hc => ?_
  have := digA_le h c
  rw [sig_get _ _ _ hc, chainK_add, show digA digest c + (15 - digA digest c) = 15 by omega]
end Go.Proofs.YtjgkchmdhicmpaaDoor
set_option linter.unusedVariables false
set_option linter.unusedSimpArgs false
namespace Go.Proofs.YtjgkchmdhicmpaaDoor
open Go.RowKit

/-- A computation. -/
abbrev hsD (ws : List UInt32) (rest : List UInt8) (count : Int) : D := .agg [.sl (ws.map wD), .sl (rest.map bD), .int .i64 count]
def validK (ws : List UInt32) (rest : List UInt8) (count : Int) : Bool := decide (ws.length = 8 ∧ 0 ≤ count ∧ count ≤ 1099511627776 ∧ (rest.length : Int) = count % 64)
def sf_valid : SFn := ⟨1, 26,
  .seq (.reg [⟨(some 1), .box .roBox (.t 0), none⟩,
    ⟨(some 2), .mv (.k (.c (.d (.bool false)))), none⟩])
  (.seq (.reg [⟨(some 3), .fieldAddr 0 (.t 1), none⟩,
    ⟨(some 4), .load .sc (.t 3), none⟩,
    ⟨(some 5), .len (.t 4), none⟩,
    ⟨(some 6), .bin .eql (.t 5) (.k (.c (.d (.int .i64 8)))), none⟩,
    ⟨(some 7), .mv (.t 6), none⟩,
    ⟨(some 8), .fieldAddr 2 (.t 1), (some (7, true))⟩,
    ⟨(some 9), .load .sc (.t 8), (some (7, true))⟩,
    ⟨(some 10), .bin .geq (.t 9) (.k (.c (.d (.int .i64 0)))), (some (7, true))⟩,
    ⟨(some 11), .pick (.t 7) (.t 10) (.k (.c (.d (.bool false)))), none⟩,
    ⟨(some 12), .mv (.t 11), none⟩,
    ⟨(some 13), .fieldAddr 2 (.t 1), (some (12, true))⟩,
    ⟨(some 14), .load .sc (.t 13), (some (12, true))⟩,
    ⟨(some 15), .bin .leq (.t 14) (.k (.c (.d (.int .i64 1099511627776)))), (some (12, true))⟩,
    ⟨(some 16), .pick (.t 12) (.t 15) (.k (.c (.d (.bool false)))), none⟩,
    ⟨(some 17), .mv (.t 16), none⟩,
    ⟨(some 18), .fieldAddr 1 (.t 1), (some (17, true))⟩,
    ⟨(some 19), .load .sc (.t 18), (some (17, true))⟩,
    ⟨(some 20), .len (.t 19), (some (17, true))⟩,
    ⟨(some 21), .fieldAddr 2 (.t 1), (some (17, true))⟩,
    ⟨(some 22), .load .sc (.t 21), (some (17, true))⟩,
    ⟨(some 23), .bin .rem (.t 22) (.k (.c (.d (.int .i64 64)))), (some (17, true))⟩,
    ⟨(some 24), .bin .eql (.t 20) (.t 23), (some (17, true))⟩,
    ⟨(some 25), .pick (.t 17) (.t 24) (.k (.c (.d (.bool false)))), none⟩,
    ⟨(some 2), .mv (.t 25), none⟩])
  (.ret)),
  [(2, none)]⟩
theorem cf_valid : compFn Tryd.prog { own := [], comp := [], frz := [], nils := [] } Tryd.f70 = some sf_valid := by kernel_rfl
set_option maxHeartbeats 1600000 in
theorem valid_c (G : Glob) (ws : List UInt32) (rest : List UInt8) (count : Int) : Den Tryd.prog G 70 [hsD ws rest count] (.w (.c (.d (.bool (validK ws rest count))))) := by
  refine den_walk Tryd.func70 cf_valid rfl rfl ?_
  by_cases h1 : ws.length = 8
  · by_cases h2 : 0 ≤ count
    · have ht : count.tmod 64 = count % 64 := Int.tmod_eq_emod_of_nonneg h2
      by_cases h3 : count ≤ 1099511627776
      · by_cases h4 : (rest.length : Int) = count % 64
        · have hv : validK ws rest count = true := by simp only [validK, decide_eq_true_eq]; exact ⟨h1, h2, h3, h4⟩
          simp only [sf_valid, putAll, wx, wy, wz, stV, seval, IntWalk.iteOmega, IntWalk.toNatUp, reduceCtorEq, ht, h4]
          exact ret_d1 (by simp only [wx, wy, wz, stV, seval, IntWalk.iteOmega, IntWalk.toNatUp, reduceCtorEq, hv])
        · have hv : validK ws rest count = false := by simp only [validK, decide_eq_false_iff_not]; exact fun h => h4 h.2.2.2
          simp only [sf_valid, putAll, wx, wy, wz, stV, seval, IntWalk.iteOmega, IntWalk.toNatUp, reduceCtorEq, ht, h4]
          exact ret_d1 (by simp only [wx, wy, wz, stV, seval, IntWalk.iteOmega, IntWalk.toNatUp, reduceCtorEq, hv])
      · have hv : validK ws rest count = false := by simp only [validK, decide_eq_false_iff_not]; exact fun h => h3 h.2.2.1
        simp only [sf_valid, putAll, wx, wy, wz, stV, seval, IntWalk.iteOmega, IntWalk.toNatUp, reduceCtorEq, ht]
        exact ret_d1 (by simp only [wx, wy, wz, stV, seval, IntWalk.iteOmega, IntWalk.toNatUp, reduceCtorEq, hv])
    · have hv : validK ws rest count = false := by simp only [validK, decide_eq_false_iff_not]; exact fun h => h2 h.2.1
      simp only [sf_valid, putAll, wx, wy, wz, stV, seval, IntWalk.iteOmega, IntWalk.toNatUp, reduceCtorEq]
      exact ret_d1 (by simp only [wx, wy, wz, stV, seval, IntWalk.iteOmega, IntWalk.toNatUp, reduceCtorEq, hv])
  · have hv : validK ws rest count = false := by simp only [validK, decide_eq_false_iff_not]; exact fun h => h1 h.1
    simp only [sf_valid, putAll, wx, wy, wz, stV, seval, IntWalk.iteOmega, IntWalk.toNatUp, reduceCtorEq, h1]
    exact ret_d1 (by simp only [wx, wy, wz, stV, seval, IntWalk.iteOmega, IntWalk.toNatUp, reduceCtorEq, hv])
def sf_state : SFn := ⟨3, 13,
  .seq (.reg [⟨(some 3), .box .ownArr (.t 0), none⟩,
    ⟨(some 6), .alloc [.nil, .nil, (.d (.int .i64 0))], none⟩])
  (.seq (.reg [⟨(some 7), .sliceArr 1 8 (.t 3) none none, none⟩,
    ⟨(some 8), .mv (.t 1), none⟩,
    ⟨(some 9), .bldSl false 1 1 (.sl []) [(0, (.t 8))], none⟩,
    ⟨(some 10), .call 43 [(.t 9)] (some (0, 1)), none⟩,
    ⟨(some 11), .mv (.t 2), none⟩,
    ⟨(some 12), .build [.nil, .nil, (.d (.int .i64 0))] [(0, 1, (.t 7)), (1, 1, (.t 10)), (2, 1, (.t 11))], none⟩,
    ⟨none, .store (.ag 3) (.t 6) (.t 12), none⟩])
  (.ret)),
  [(6, (some (.ag 3)))]⟩
theorem cf_state : compFn Tryd.prog { own := [3, 10], comp := [], frz := [], nils := [] } Tryd.f73 = some sf_state := by kernel_rfl
set_option maxHeartbeats 1600000 in
theorem state_c (G : Glob) (ws : List UInt32) (rest : List UInt8) (count : Int) (hw : ws.length = 8) (hr : rest.length ≤ 140737488355328) : Den Tryd.prog G 73 [.agg (ws.map wD), .sl (rest.map bD), .int .i64 count] (.w (.c (.d (hsD ws rest count)))) := by
  refine den_walk Tryd.func73 cf_state rfl rfl ?_
  have hj := join_c G [rest] (by simp) (by simpa using hr)
  have hf : [rest].flatten = rest := by simp
  rw [hf] at hj
  have e8 : ws.take 8 = ws := List.take_of_length_le (by omega)
  simp only [sf_state, putAll, wx, wy, wz, stV, seval, IntWalk.iteOmega, IntWalk.toNatUp, reduceCtorEq, hw]
  refine st_call hj rfl (.inl rfl) ?_
  simp only [wx, wy, wz, stV, seval, IntWalk.iteOmega, IntWalk.toNatUp, reduceCtorEq]
  exact ret_d1 (by simp only [wx, wy, wz, stV, seval, IntWalk.iteOmega, IntWalk.toNatUp, reduceCtorEq, toDs, toD, obSl, hw, e8])
def sf_wof : SFn := ⟨1, 9,
  .seq (.reg [⟨(some 1), .box .roBox (.t 0), none⟩,
    ⟨(some 2), .allocArr [(.int .u32 0), (.int .u32 0), (.int .u32 0), (.int .u32 0), (.int .u32 0), (.int .u32 0), (.int .u32 0), (.int .u32 0)], none⟩])
  (.seq (.reg [⟨(some 3), .allocArr [(.int .u32 0), (.int .u32 0), (.int .u32 0), (.int .u32 0), (.int .u32 0), (.int .u32 0), (.int .u32 0), (.int .u32 0)], none⟩])
  (.seq (.reg [⟨(some 4), .sliceArr 1 8 (.t 3) none none, none⟩,
    ⟨(some 5), .fieldAddr 0 (.t 1), none⟩,
    ⟨(some 6), .load .sc (.t 5), none⟩,
    ⟨(some 7), .copy 1 (.t 4) (.t 6), none⟩])
  (.seq (.reg [⟨(some 8), .load (.ag 8) (.t 3), none⟩,
    ⟨none, .store (.ag 8) (.t 2) (.t 8), none⟩])
  (.ret)))),
  [(2, (some (.ag 8)))]⟩
theorem cf_wof : compFn Tryd.prog { own := [], comp := [], frz := [], nils := [] } Tryd.f72 = some sf_wof := by kernel_rfl
set_option maxHeartbeats 1600000 in
theorem wof_c (G : Glob) (ws : List UInt32) (rest : List UInt8) (count : Int) (hw : ws.length = 8) : Den Tryd.prog G 72 [hsD ws rest count] (.w (.c (.d (.agg (ws.map wD))))) := by
  refine den_walk Tryd.func72 cf_wof rfl rfl ?_
  obtain ⟨h0, h1, h2, h3, h4, h5, h6, h7, rfl⟩ := eight hw
  simp only [sf_wof, putAll, wx, wy, wz, stV, seval, IntWalk.iteOmega, IntWalk.toNatUp, reduceCtorEq]
  exact ret_d1 (by simp only [wx, wy, wz, stV, seval, IntWalk.iteOmega, IntWalk.toNatUp, reduceCtorEq])
def sf_beg : SFn := ⟨0, 3,
  .seq (.reg [⟨(some 0), .alloc [.nil, .nil, (.d (.int .i64 0))], none⟩])
  (.seq (.reg [⟨(some 1), .load (.ag 8) (.g 0), none⟩,
    ⟨(some 2), .call 73 [(.t 1), (.k (.c .nil)), (.k (.c (.d (.int .i64 0))))] none, none⟩,
    ⟨none, .store (.ag 3) (.t 0) (.t 2), none⟩])
  (.ret)),
  [(0, (some (.ag 3)))]⟩
theorem cf_beg : compFn Tryd.prog { own := [], comp := [], frz := [], nils := [] } Tryd.f37 = some sf_beg := by kernel_rfl
set_option maxHeartbeats 1600000 in
theorem beg_c (G : Glob) (hF : G.at 0 = some (.ra (firstK.map wD))) : Den Tryd.prog G 37 [] (.w (.c (.d (hsD firstK [] 0)))) := by
  refine den_walk Tryd.func37 cf_beg rfl rfl ?_
  have eg := @ev_g G 0 _ hF
  have h8 : firstK.length = 8 := firstK_len
  simp only [sf_beg, putAll, wx, wy, wz, stV, seval, IntWalk.iteOmega, IntWalk.toNatUp, reduceCtorEq, eg, h8]
  refine st_call (state_c G firstK [] 0 firstK_len (by simp)) rfl (.inl rfl) ?_
  simp only [wx, wy, wz, stV, seval, IntWalk.iteOmega, IntWalk.toNatUp, reduceCtorEq]
  exact ret_d1 (by simp only [wx, wy, wz, stV, seval, IntWalk.iteOmega, IntWalk.toNatUp, reduceCtorEq, toDs, toD] <;> rfl)
/-- What More answers: the computation, and the error. -/
def moreK (ws : List UInt32) (rest : List UInt8) (count : Int) (b : List UInt8) : (List UInt32 × List UInt8 × Int) × Int :=
  if validK ws rest count = true then if (b.length : Int) ≤ 1099511627776 - count then ((foldB ws (rest ++ b) ((rest ++ b).length / 64), (rest ++ b).drop (64 * ((rest ++ b).length / 64)), count + b.length), 0) else (([], [], 0), 2) else (([], [], 0), 3)
theorem validK_is {ws : List UInt32} {rest : List UInt8} {count : Int} (h : validK ws rest count = true) : ws.length = 8 ∧ 0 ≤ count ∧ count ≤ 1099511627776 ∧ (rest.length : Int) = count % 64 := by
  simpa only [validK, decide_eq_true_eq] using h
abbrev mrD (p : (List UInt32 × List UInt8 × Int) × Int) : V := .tup [.c (.d (hsD p.1.1 p.1.2.1 p.1.2.2)), .c (.d (.int .i64 p.2))]
theorem moreK_bad {ws : List UInt32} {rest : List UInt8} {count : Int} {b : List UInt8} (h : validK ws rest count = false) : moreK ws rest count b = (([], [], 0), 3) := by simp [moreK, h]
theorem moreK_long {ws : List UInt32} {rest : List UInt8} {count : Int} {b : List UInt8} (h : validK ws rest count = true) (h2 : ¬ (b.length : Int) ≤ 1099511627776 - count) : moreK ws rest count b = (([], [], 0), 2) := by
  unfold moreK; rw [if_pos h, if_neg h2]
theorem moreK_ok {ws : List UInt32} {rest : List UInt8} {count : Int} {b : List UInt8} (h : validK ws rest count = true) (h2 : (b.length : Int) ≤ 1099511627776 - count) : moreK ws rest count b = ((foldB ws (rest ++ b) ((rest ++ b).length / 64), (rest ++ b).drop (64 * ((rest ++ b).length / 64)), count + b.length), 0) := by
  unfold moreK; rw [if_pos h, if_pos h2]
def sf_more : SFn := ⟨2, 38,
  .seq (.reg [⟨(some 2), .box .roBox (.t 0), none⟩,
    ⟨(some 4), .alloc [.nil, .nil, (.d (.int .i64 0))], none⟩,
    ⟨(some 5), .mv (.k (.c (.d (.int .i64 0)))), none⟩])
  (.seq (.seq (.reg [⟨(some 8), .load (.ag 3) (.t 2), none⟩,
    ⟨(some 9), .call 70 [(.t 8)] none, none⟩,
    ⟨(some 10), .un .not (.t 9), none⟩])
  (.cond (.t 10) (.seq (.reg [⟨(some 11), .build [.nil, .nil, (.d (.int .i64 0))] [], none⟩,
     ⟨none, .store (.ag 3) (.t 4) (.t 11), none⟩,
     ⟨(some 5), .mv (.k (.c (.d (.int .i64 3)))), none⟩])
   (.ret))
   (.skip)))
  (.seq (.seq (.reg [⟨(some 12), .mv (.t 1), none⟩,
    ⟨(some 13), .len (.t 12), none⟩,
    ⟨(some 14), .fieldAddr 2 (.t 2), none⟩,
    ⟨(some 15), .load .sc (.t 14), none⟩,
    ⟨(some 16), .bin .sub (.k (.c (.d (.int .i64 1099511627776)))) (.t 15), none⟩,
    ⟨(some 17), .bin .gtr (.t 13) (.t 16), none⟩])
  (.cond (.t 17) (.seq (.reg [⟨(some 18), .build [.nil, .nil, (.d (.int .i64 0))] [], none⟩,
     ⟨none, .store (.ag 3) (.t 4) (.t 18), none⟩,
     ⟨(some 5), .mv (.k (.c (.d (.int .i64 2)))), none⟩])
   (.ret))
   (.skip)))
  (.seq (.reg [⟨(some 20), .load (.ag 3) (.t 2), none⟩,
    ⟨(some 21), .call 72 [(.t 20)] none, none⟩,
    ⟨(some 22), .fieldAddr 1 (.t 2), none⟩,
    ⟨(some 23), .load .sc (.t 22), none⟩,
    ⟨(some 24), .mv (.t 1), none⟩,
    ⟨(some 25), .bldSl false 2 1 (.sl []) [(0, (.t 23)), (1, (.t 24))], none⟩,
    ⟨(some 26), .call 43 [(.t 25)] none, none⟩,
    ⟨(some 27), .call 71 [(.t 21), (.t 26)] none, none⟩,
    ⟨(some 19), .mv (.t 27), none⟩,
    ⟨(some 28), .extract (.t 19) 0, none⟩,
    ⟨(some 29), .extract (.t 19) 1, none⟩,
    ⟨(some 6), .allocArr [(.int .u32 0), (.int .u32 0), (.int .u32 0), (.int .u32 0), (.int .u32 0), (.int .u32 0), (.int .u32 0), (.int .u32 0)], none⟩,
    ⟨none, .store (.ag 8) (.t 6) (.t 28), none⟩,
    ⟨(some 7), .mv (.t 29), none⟩])
  (.seq (.reg [⟨(some 30), .load (.ag 8) (.t 6), none⟩,
    ⟨(some 31), .mv (.t 7), none⟩,
    ⟨(some 32), .fieldAddr 2 (.t 2), none⟩,
    ⟨(some 33), .load .sc (.t 32), none⟩,
    ⟨(some 34), .mv (.t 1), none⟩,
    ⟨(some 35), .len (.t 34), none⟩,
    ⟨(some 36), .bin .add (.t 33) (.t 35), none⟩,
    ⟨(some 37), .call 73 [(.t 30), (.t 31), (.t 36)] none, none⟩,
    ⟨none, .store (.ag 3) (.t 4) (.t 37), none⟩,
    ⟨(some 5), .mv (.k (.c (.d (.int .i64 0)))), none⟩])
  (.ret))))),
  [(4, (some (.ag 3))), (5, none)]⟩
theorem cf_more : compFn Tryd.prog { own := [], comp := [], frz := [], nils := [] } Tryd.f36 = some sf_more := by kernel_rfl
set_option maxHeartbeats 1600000 in
theorem more_c (G : Glob) (hG : G.at 1 = some (.ra (constK.map wD))) (ws : List UInt32) (rest : List UInt8) (count : Int) (b : List UInt8) : Den Tryd.prog G 36 [hsD ws rest count, .sl (b.map bD)] (mrD (moreK ws rest count b)) := by
  refine den_walk Tryd.func36 cf_more rfl rfl ?_
  cases hv : validK ws rest count with
  | false =>
    rw [moreK_bad hv]
    have hc := valid_c G ws rest count
    rw [hv] at hc
    simp only [sf_more, putAll, wx, wy, wz, stV, seval, IntWalk.iteOmega, IntWalk.toNatUp, reduceCtorEq]
    refine st_call hc rfl (.inl rfl) ?_
    simp only [wx, wy, wz, stV, seval, IntWalk.iteOmega, IntWalk.toNatUp, reduceCtorEq]
    exact ret_d2 (by simp only [wx, wy, wz, stV, seval, IntWalk.iteOmega, IntWalk.toNatUp, reduceCtorEq, toDs, toD] <;> rfl) (by simp only [wx, wy, wz, stV, seval, IntWalk.iteOmega, IntWalk.toNatUp, reduceCtorEq])
  | true =>
    obtain ⟨h1, h2, h3, h4⟩ := validK_is hv
    have hc := valid_c G ws rest count
    rw [hv] at hc
    by_cases hb : (b.length : Int) ≤ 1099511627776 - count
    · rw [moreK_ok hv hb]
      have hj := join_c G [rest, b] (by simp) (by simp; omega)
      have hf : [rest, b].flatten = rest ++ b := by simp
      rw [hf] at hj
      have hall : (rest ++ b).length = rest.length + b.length := List.length_append
      generalize rest ++ b = al at *
      have hl := foldB_len h1 al (al.length / 64)
      simp only [sf_more, putAll, wx, wy, wz, stV, seval, IntWalk.iteOmega, IntWalk.toNatUp, reduceCtorEq]
      refine st_call hc rfl (.inl rfl) ?_
      simp only [wx, wy, wz, stV, seval, IntWalk.iteOmega, IntWalk.toNatUp, reduceCtorEq]
      refine st_call (wof_c G ws rest count h1) rfl (.inl rfl) ?_
      simp only [wx, wy, wz, stV, seval, IntWalk.iteOmega, IntWalk.toNatUp, reduceCtorEq]
      refine st_call hj rfl (.inl rfl) ?_
      simp only [wx, wy, wz, stV, seval, IntWalk.iteOmega, IntWalk.toNatUp, reduceCtorEq]
      refine st_call (blocks_c G hG ws al h1 (by omega)) rfl (.inl rfl) ?_
      have hdl : (al.drop (64 * (al.length / 64))).length ≤ 140737488355328 := by rw [List.length_drop]; omega
      generalize foldB ws al (al.length / 64) = vs at *
      generalize al.drop (64 * (al.length / 64)) = re at *
      simp only [wx, wy, wz, stV, seval, IntWalk.iteOmega, IntWalk.toNatUp, reduceCtorEq, hl]
      refine st_call (state_c G vs re (count + b.length) hl hdl) ?_ (.inl rfl) ?_
      · simp only [wx, wy, wz, stV, seval, IntWalk.iteOmega, IntWalk.toNatUp, reduceCtorEq]
      simp only [wx, wy, wz, stV, seval, IntWalk.iteOmega, IntWalk.toNatUp, reduceCtorEq]
      exact ret_d2 (by simp only [wx, wy, wz, stV, seval, IntWalk.iteOmega, IntWalk.toNatUp, reduceCtorEq, toDs, toD]) (by simp only [wx, wy, wz, stV, seval, IntWalk.iteOmega, IntWalk.toNatUp, reduceCtorEq])
    · rw [moreK_long hv hb]
      simp only [sf_more, putAll, wx, wy, wz, stV, seval, IntWalk.iteOmega, IntWalk.toNatUp, reduceCtorEq]
      refine st_call hc rfl (.inl rfl) ?_
      simp only [wx, wy, wz, stV, seval, IntWalk.iteOmega, IntWalk.toNatUp, reduceCtorEq]
      exact ret_d2 (by simp only [wx, wy, wz, stV, seval, IntWalk.iteOmega, IntWalk.toNatUp, reduceCtorEq, toDs, toD] <;> rfl) (by simp only [wx, wy, wz, stV, seval, IntWalk.iteOmega, IntWalk.toNatUp, reduceCtorEq])
def endK (ws : List UInt32) (rest : List UInt8) (count : Int) : List UInt8 × Int := if validK ws rest count = true then (finK ws rest count.toNat, 0) else ([], 3)
theorem endK_bad {ws : List UInt32} {rest : List UInt8} {count : Int} (h : validK ws rest count = false) : endK ws rest count = ([], 3) := by simp [endK, h]
theorem endK_ok {ws : List UInt32} {rest : List UInt8} {count : Int} (h : validK ws rest count = true) : endK ws rest count = (finK ws rest count.toNat, 0) := by simp [endK, h]
abbrev enD (p : List UInt8 × Int) : V := .tup [.c (.d (.sl (p.1.map bD))), .c (.d (.int .i64 p.2))]
def sf_end : SFn := ⟨1, 14,
  .seq (.reg [⟨(some 1), .box .roBox (.t 0), none⟩,
    ⟨(some 2), .mv (.k (.c .nil)), none⟩,
    ⟨(some 3), .mv (.k (.c (.d (.int .i64 0)))), none⟩])
  (.seq (.seq (.reg [⟨(some 4), .load (.ag 3) (.t 1), none⟩,
    ⟨(some 5), .call 70 [(.t 4)] none, none⟩,
    ⟨(some 6), .un .not (.t 5), none⟩])
  (.cond (.t 6) (.seq (.reg [⟨(some 2), .mv (.k (.c .nil)), none⟩,
     ⟨(some 3), .mv (.k (.c (.d (.int .i64 3)))), none⟩])
   (.ret))
   (.skip)))
  (.seq (.reg [⟨(some 7), .load (.ag 3) (.t 1), none⟩,
    ⟨(some 8), .call 72 [(.t 7)] none, none⟩,
    ⟨(some 9), .fieldAddr 1 (.t 1), none⟩,
    ⟨(some 10), .load .sc (.t 9), none⟩,
    ⟨(some 11), .fieldAddr 2 (.t 1), none⟩,
    ⟨(some 12), .load .sc (.t 11), none⟩,
    ⟨(some 13), .call 74 [(.t 8), (.t 10), (.t 12)] none, none⟩,
    ⟨(some 2), .mv (.t 13), none⟩,
    ⟨(some 3), .mv (.k (.c (.d (.int .i64 0)))), none⟩])
  (.ret))),
  [(2, none), (3, none)]⟩
theorem cf_end : compFn Tryd.prog { own := [], comp := [], frz := [], nils := [] } Tryd.f38 = some sf_end := by kernel_rfl
set_option maxHeartbeats 1600000 in
theorem end_c (G : Glob) (hG : G.at 1 = some (.ra (constK.map wD))) (ws : List UInt32) (rest : List UInt8) (count : Int) : Den Tryd.prog G 38 [hsD ws rest count] (enD (endK ws rest count)) := by
  refine den_walk Tryd.func38 cf_end rfl rfl ?_
  cases hv : validK ws rest count with
  | false =>
    rw [endK_bad hv]
    have hc := valid_c G ws rest count
    rw [hv] at hc
    simp only [sf_end, putAll, wx, wy, wz, stV, seval, IntWalk.iteOmega, IntWalk.toNatUp, reduceCtorEq]
    refine st_call hc rfl (.inl rfl) ?_
    simp only [wx, wy, wz, stV, seval, IntWalk.iteOmega, IntWalk.toNatUp, reduceCtorEq]
    exact ret_d2 (by simp only [wx, wy, wz, stV, seval, IntWalk.iteOmega, IntWalk.toNatUp, reduceCtorEq, toDs, toD]) (by simp only [wx, wy, wz, stV, seval, IntWalk.iteOmega, IntWalk.toNatUp, reduceCtorEq])
  | true =>
    obtain ⟨h1, h2, h3, h4⟩ := validK_is hv
    have hc := valid_c G ws rest count
    rw [hv] at hc
    rw [endK_ok hv]
    obtain ⟨count, rfl⟩ := Int.eq_ofNat_of_zero_le h2
    simp only [sf_end, putAll, wx, wy, wz, stV, seval, IntWalk.iteOmega, IntWalk.toNatUp, reduceCtorEq]
    refine st_call hc rfl (.inl rfl) ?_
    simp only [wx, wy, wz, stV, seval, IntWalk.iteOmega, IntWalk.toNatUp, reduceCtorEq]
    refine st_call (wof_c G ws rest count h1) rfl (.inl rfl) ?_
    simp only [wx, wy, wz, stV, seval, IntWalk.iteOmega, IntWalk.toNatUp, reduceCtorEq]
    refine st_call (fin_c G hG ws rest count h1 (by omega) (by omega)) rfl (.inl rfl) ?_
    simp only [wx, wy, wz, stV, seval, IntWalk.iteOmega, IntWalk.toNatUp, reduceCtorEq]
    exact ret_d2 (by simp only [wx, wy, wz, stV, seval, IntWalk.iteOmega, IntWalk.toNatUp, reduceCtorEq, toDs, toD]) (by simp only [wx, wy, wz, stV, seval, IntWalk.iteOmega, IntWalk.toNatUp, reduceCtorEq])

def rmSt (ws : List UInt32) (al : List UInt8) (c : Int) : Nat → St
  | 0 => ⟨ofL [(4, .w (.c (.ptr 1 1 0 0))), (6, .w (.c (.d (.sl (al.map bD))))), (7, .w (.c (.ptr 2 1 0 0))), (8, .w (.c (.d (.sl (constK.map wD))))), (9, .w (.c (.d (.int .i64 0))))],
      hL [(1, .box [.nil, .nil, .d (.int .i64 0)]), (2, .box [.own 3 1 0 ws.length, .nil, .d (.int .i64 c)]), (3, .row 1 (ws.map wD))], uL [1, 2, 3]⟩
  | n + 1 => ⟨ofL [(4, .w (.c (.ptr 1 1 0 0))), (6, .w (.c (.d (.sl (al.map bD))))), (7, .w (.c (.ptr 2 1 0 0))), (8, .w (.c (.d (.sl (constK.map wD))))), (9, .w (.c (.d (.int .i64 ((64 * (n + 1) : Nat) : Int)))))],
      hL [(1, .box [.nil, .nil, .d (.int .i64 0)]), (2, .box [.d (.sl ((foldB ws al (n + 1)).map wD)), .nil, .d (.int .i64 c)])], uL [1, 2]⟩

theorem take_eq_succ {α : Type} [DecidableEq α] {l m : List α} (h : l.length = m.length) {i : Nat} (hi : i < l.length) (ht : l.take i = m.take i) : l.take (i + 1) = m.take (i + 1) ↔ l[i] = m[i] := by
  rw [List.take_succ_eq_append_getElem hi, List.take_succ_eq_append_getElem (show i < m.length by omega), ht]
  constructor
  · intro e
    have := List.append_cancel_left e
    simpa using this
  · intro e
    rw [e]
def sameH (ws vs : List UInt32) (r s : List UInt8) (c d : Int) : Bool := decide (ws = vs ∧ c = d ∧ r = s)
def rssSt (ws vs : List UInt32) (r s : List UInt8) (c d : Int) (i : Nat) : St := ⟨ofL [(2, .w (.c (.rp [.sl (ws.map wD), .sl (r.map bD), .int .i64 c]))), (3, .w (.c (.rp [.sl (vs.map wD), .sl (s.map bD), .int .i64 d]))), (5, .w (.c (.d (.int .i64 (i : Int)))))], hL [], uL []⟩
end Go.Proofs.YtjgkchmdhicmpaaDoor
set_option linter.unusedVariables false
set_option linter.unusedSimpArgs false
namespace Go.Proofs.YtjgkchmdhicmpaaDoor
open Go.RowKit

def withinN (v m : Int) : Int := if m < 1 then 0 else v % m
theorem withinN_range (v m : Int) (h : 1 ≤ m) : 0 ≤ withinN v m ∧ withinN v m < m := by
  unfold withinN
  rw [if_neg (by omega)]
  exact ⟨Int.emod_nonneg _ (by omega), Int.emod_lt_of_pos _ (by omega)⟩
theorem tmod_neg {v m : Int} (hm : 0 < m) (h : v.tmod m < 0) : v.tmod m + m = v % m := by
  have h1 := Int.emod_add_mul_ediv v m
  have h2 := Int.tmod_add_mul_tdiv v m
  have h3 := Int.emod_nonneg v (show m ≠ 0 by omega)
  have h4 := Int.emod_lt_of_pos v hm
  have h5 := Int.lt_tmod_of_pos v hm
  have e : m * (v.tdiv m - v / m) = v % m - v.tmod m := by rw [Int.mul_sub]; omega
  have k1 : v.tdiv m - v / m = 1 := by
    rcases Int.lt_trichotomy (v.tdiv m - v / m) 1 with hlt | heq | hgt
    · exfalso
      have : v.tdiv m - v / m ≤ 0 := by omega
      have := Int.mul_le_mul_of_nonneg_left this (show 0 ≤ m by omega)
      omega
    · exact heq
    · exfalso
      have : 2 ≤ v.tdiv m - v / m := by omega
      have := Int.mul_le_mul_of_nonneg_left this (show 0 ≤ m by omega)
      omega
  rw [k1] at e
  omega
theorem tmod_pos {v m : Int} (hm : 0 < m) (h : 0 ≤ v.tmod m) : v.tmod m = v % m := by
  have h1 := Int.emod_add_mul_ediv v m
  have h2 := Int.tmod_add_mul_tdiv v m
  have h3 := Int.emod_nonneg v (show m ≠ 0 by omega)
  have h4 := Int.emod_lt_of_pos v hm
  have h5 := Int.tmod_lt_of_pos v hm
  have e : m * (v.tdiv m - v / m) = v % m - v.tmod m := by rw [Int.mul_sub]; omega
  have k1 : v.tdiv m - v / m = 0 := by
    rcases Int.lt_trichotomy (v.tdiv m - v / m) 0 with hlt | heq | hgt
    · exfalso
      have : v.tdiv m - v / m ≤ -1 := by omega
      have := Int.mul_le_mul_of_nonneg_left this (show 0 ≤ m by omega)
      omega
    · exact heq
    · exfalso
      have : 1 ≤ v.tdiv m - v / m := by omega
      have := Int.mul_le_mul_of_nonneg_left this (show 0 ≤ m by omega)
      omega
  rw [k1] at e
  omega
def sf_within : SFn := ⟨2, 16,
  .seq (.reg [⟨(some 4), .mv (.k (.c (.d (.int .i64 0)))), none⟩])
  (.seq (.seq (.reg [⟨(some 5), .mv (.t 1), none⟩,
    ⟨(some 6), .bin .lss (.t 5) (.k (.c (.d (.int .i64 1)))), none⟩])
  (.cond (.t 6) (.seq (.reg [⟨(some 4), .mv (.k (.c (.d (.int .i64 0)))), none⟩])
   (.ret))
   (.skip)))
  (.seq (.reg [⟨(some 7), .mv (.t 0), none⟩,
    ⟨(some 8), .mv (.t 1), none⟩,
    ⟨(some 9), .bin .rem (.t 7) (.t 8), none⟩,
    ⟨(some 0), .mv (.t 9), none⟩])
  (.seq (.seq (.reg [⟨(some 10), .mv (.t 0), none⟩,
    ⟨(some 11), .bin .lss (.t 10) (.k (.c (.d (.int .i64 0)))), none⟩])
  (.cond (.t 11) (.reg [⟨(some 12), .mv (.t 0), none⟩,
     ⟨(some 13), .mv (.t 1), none⟩,
     ⟨(some 14), .bin .add (.t 12) (.t 13), none⟩,
     ⟨(some 0), .mv (.t 14), none⟩])
   (.skip)))
  (.seq (.reg [⟨(some 15), .mv (.t 0), none⟩,
    ⟨(some 4), .mv (.t 15), none⟩])
  (.ret))))),
  [(4, none)]⟩
theorem cf_within : compFn Tryd.prog { own := [], comp := [], frz := [], nils := [] } Tryd.f24 = some sf_within := by kernel_rfl
theorem within_c (G : Glob) (v m : Int) (hm : m ≤ 9223372036854775807) : Den Tryd.prog G 24 [.int .i64 v, .int .i64 m] (.w (.c (.d (.int .i64 (withinN v m))))) := by
  refine den_walk Tryd.func24 cf_within rfl rfl ?_
  unfold withinN
  by_cases h : m < 1
  · rw [if_pos h]
    simp only [sf_within, putAll, wx, wy, wz, stV, seval, IntWalk.iteOmega, IntWalk.toNatUp, reduceCtorEq]
    exact ret_d1 (by simp only [wx, wy, wz, stV, seval, IntWalk.iteOmega, IntWalk.toNatUp, reduceCtorEq])
  · rw [if_neg h]
    have hne : ¬ m = 0 := by omega
    have h4 := Int.tmod_lt_of_pos v (show 0 < m by omega)
    by_cases hn : v.tmod m < 0
    · have e := tmod_neg (by omega) hn
      have h3 := Int.emod_lt_of_pos v (show 0 < m by omega)
      have h5 := Int.emod_nonneg v (show m ≠ 0 by omega)
      simp only [sf_within, putAll, wx, wy, wz, stV, seval, IntWalk.iteOmega, IntWalk.toNatUp, reduceCtorEq, hne]
      exact ret_d1 (by simp only [wx, wy, wz, stV, seval, IntWalk.iteOmega, IntWalk.toNatUp, reduceCtorEq, e])
    · have e := tmod_pos (v := v) (show 0 < m by omega) (by omega)
      simp only [sf_within, putAll, wx, wy, wz, stV, seval, IntWalk.iteOmega, IntWalk.toNatUp, reduceCtorEq, hne]
      exact ret_d1 (by simp only [wx, wy, wz, stV, seval, IntWalk.iteOmega, IntWalk.toNatUp, reduceCtorEq, e])

/-! ### Bytes of a number -/
def hashAt (s i : Nat) : List UInt8 := sumK (putL s 8 ++ putL i 4)
def bytesN (s : Nat) (k : Nat) : List UInt8 := ((List.range k).map (hashAt s)).flatten
theorem bytesN_succ (s k : Nat) : bytesN s k ++ hashAt s k = bytesN s (k + 1) := by simp [bytesN, List.range_succ]
theorem bytesN_len (s : Nat) : ∀ k, (bytesN s k).length = 32 * k
  | 0 => rfl
  | k + 1 => by rw [← bytesN_succ, List.length_append, bytesN_len s k]; unfold hashAt; rw [sumK_len]; omega
def bytesK (seed n : Int) : List UInt8 := (bytesN (seed % 18446744073709551616).toNat ((n.toNat + 31) / 32)).take n.toNat
theorem bytesK_len (seed n : Int) : (bytesK seed n).length = n.toNat := by
  unfold bytesK; rw [List.length_take, bytesN_len]; omega
def byLSt (seed n : Int) (s : Nat) (k : Nat) : St := ⟨ofL [(0, .w (.c (.d (.int .i64 seed)))), (1, .w (.c (.d (.int .i64 n)))), (5, .w (.c (.own 1 1 0 (bytesN s k).length))), (6, .w (.c (.d (.int .i64 (k : Int)))))], hL [(1, .row 1 ((bytesN s k).map bD))], uL [1]⟩
def lp_wbytes_0 : SCode :=
  .seq (.seq (.reg [⟨(some 8), .mv (.t 5), none⟩,
    ⟨(some 9), .len (.t 8), none⟩,
    ⟨(some 10), .mv (.t 1), none⟩,
    ⟨(some 11), .bin .lss (.t 9) (.t 10), none⟩])
  (.cond (.t 11) (.skip)
   (.exit 0)))
  (.seq (.block 1 (.reg [⟨(some 14), .mv (.t 5), none⟩,
     ⟨(some 15), .mv (.t 0), none⟩,
     ⟨(some 16), .conv .u64 (.t 15), none⟩,
     ⟨(some 17), .call 51 [(.t 16), (.k (.c (.d (.int .i64 8))))] none, none⟩,
     ⟨(some 18), .mv (.t 6), none⟩,
     ⟨(some 19), .conv .u64 (.t 18), none⟩,
     ⟨(some 20), .call 51 [(.t 19), (.k (.c (.d (.int .i64 4))))] none, none⟩,
     ⟨(some 21), .bldSl false 2 1 (.sl []) [(0, (.t 17)), (1, (.t 20))], none⟩,
     ⟨(some 22), .call 41 [(.t 21)] none, none⟩,
     ⟨(some 23), .call 61 [(.t 22)] none, none⟩,
     ⟨(some 24), .app false 1 1 (.t 14) (.t 23), none⟩,
     ⟨(some 5), .mv (.t 24), none⟩]))
  (.reg [⟨(some 12), .mv (.t 6), none⟩,
    ⟨(some 13), .bin .add (.t 12) (.k (.c (.d (.int .i64 1)))), none⟩,
    ⟨(some 6), .mv (.t 13), none⟩]))
def sf_wbytes : SFn := ⟨2, 29,
  .seq (.reg [⟨(some 4), .mv (.k (.c .nil)), none⟩])
  (.seq (.reg [⟨(some 7), .bldSl true 0 1 (.int .u8 0) [], none⟩,
    ⟨(some 5), .mv (.t 7), none⟩])
  (.seq (.seq (.reg [⟨(some 6), .mv (.k (.c (.d (.int .i64 0)))), none⟩])
  (.block 0 (.loop lp_wbytes_0)))
  (.seq (.reg [⟨(some 25), .mv (.t 5), none⟩,
    ⟨(some 26), .mv (.t 1), none⟩,
    ⟨(some 27), .max [(.t 26), (.k (.c (.d (.int .i64 0))))], none⟩,
    ⟨(some 28), .slice 1 (.t 25) none (some (.t 27)) none, none⟩,
    ⟨(some 4), .mv (.t 28), none⟩])
  (.ret)))),
  [(4, none)]⟩
theorem cf_wbytes : compFn Tryd.prog { own := [7], comp := [], frz := [], nils := [] } Tryd.f27 = some sf_wbytes := by kernel_rfl
set_option maxHeartbeats 1600000 in
theorem wbytes_f (G : Glob) (seed n : Int) (hn : n ≤ 1099511627776) : Den Tryd.prog G 27 [.int .i64 seed, .int .i64 n] (.w (.c (.fr 1 ((bytesK seed n).map bD)))) := by
  refine den_walk Tryd.func27 cf_wbytes rfl rfl ?_
  obtain ⟨s, hs⟩ : ∃ s : Nat, (seed % 18446744073709551616).toNat = s := ⟨_, rfl⟩
  have hw : IntKind.u64.wrap seed = (s : Int) := by rw [IntKind.wrap_u64, ← hs]; omega
  have hs2 : s < 18446744073709551616 := by omega
  have hK : bytesK seed n = (bytesN s ((n.toNat + 31) / 32)).take n.toNat := by unfold bytesK; rw [hs]
  rw [hK]
  simp only [sf_wbytes, putAll, wx, wy, wz, stV, seval, IntWalk.iteOmega, IntWalk.toNatUp, reduceCtorEq]
  refine loop_st (byLSt seed n s) (fun k => (n.toNat + 31) / 32 - k) (fun k => k ≤ (n.toNat + 31) / 32) 0 (Nat.zero_le _) ?_ ?_
  · refine ent_l (fun _ => 56) ?_ ?_ rfl rfl <;> simp only [wx, wex, wez, stV, seval, IntWalk.iteOmega, IntWalk.toNatUp, reduceCtorEq] <;> rfl
  · intro k hk
    have hl := bytesN_len s k
    by_cases hlt : k < (n.toNat + 31) / 32
    · have hc : ((bytesN s k).length : Int) < n := by omega
      have hj := rjoin_c G [putL s 8, putL k 4] (by simp) (by simp [putL_length])
      have hf : [putL s 8, putL k 4].flatten = putL s 8 ++ putL k 4 := by simp
      rw [hf] at hj
      have hb := bytesN_succ s k
      have hk2 : IntKind.u64.wrap (k : Int) = (k : Int) := u64_in _ (by omega) (by omega)
      simp only [lp_wbytes_0, byLSt, wx, wy, stV, seval, IntWalk.iteOmega, IntWalk.toNatUp, reduceCtorEq, hw, hk2]
      refine st_call (rput_in G s 8 (by decide)) rfl (.inl rfl) ?_
      simp only [wx, wy, stV, seval, IntWalk.iteOmega, IntWalk.toNatUp, reduceCtorEq, hw, hk2]
      refine st_call (rput_in G k 4 (by decide)) rfl (.inl rfl) ?_
      simp only [wx, wy, stV, seval, IntWalk.iteOmega, IntWalk.toNatUp, reduceCtorEq]
      refine st_call hj rfl (.inl rfl) ?_
      simp only [wx, wy, stV, seval, IntWalk.iteOmega, IntWalk.toNatUp, reduceCtorEq]
      refine st_call (rsum_c G (putL s 8 ++ putL k 4) (by simp [putL_length])) rfl (.inl rfl) ?_
      have hh : (sumK (putL s 8 ++ putL k 4)).length = 32 := sumK_len _
      have hb' : bytesN s k ++ sumK (putL s 8 ++ putL k 4) = bytesN s (k + 1) := hb
      simp only [wx, wy, wz, stV, seval, IntWalk.iteOmega, IntWalk.toNatUp, reduceCtorEq, srcV, app_map, hb', hh]
      refine lop_next (k + 1) (by omega) (by omega) (ent_l (fun _ => 192) ?_ ?_ rfl rfl) <;> simp only [wx, wex, wez, stV, seval, IntWalk.iteOmega, IntWalk.toNatUp, reduceCtorEq]
    · obtain rfl : k = (n.toNat + 31) / 32 := by omega
      have hc : ¬ ((bytesN s ((n.toNat + 31) / 32)).length : Int) < n := by omega
      by_cases h0 : n < 0
      · have e0 : n.toNat = 0 := by omega
        simp only [lp_wbytes_0, byLSt, wx, wy, wz, stV, seval, IntWalk.iteOmega, IntWalk.toNatUp, reduceCtorEq, hc, List.foldl_cons, List.foldl_nil]
        rw [e0, List.map_take]
        exact ret_ownN (id := 1) (s := 1) (by simp only [wx, stV, seval, IntWalk.iteOmega, IntWalk.toNatUp, reduceCtorEq]) (by simp only [wx, stV, seval, IntWalk.iteOmega, IntWalk.toNatUp, reduceCtorEq]) (Nat.zero_le _)
      · simp only [lp_wbytes_0, byLSt, wx, wy, wz, stV, seval, IntWalk.iteOmega, IntWalk.toNatUp, reduceCtorEq, hc, List.foldl_cons, List.foldl_nil]
        rw [List.map_take]
        exact ret_ownN (id := 1) (s := 1) (by simp only [wx, stV, seval, IntWalk.iteOmega, IntWalk.toNatUp, reduceCtorEq]) (by simp only [wx, stV, seval, IntWalk.iteOmega, IntWalk.toNatUp, reduceCtorEq]) (by rw [List.length_map, bytesN_len]; omega)
theorem wbytes_c (G : Glob) (seed n : Int) (hn : n ≤ 1099511627776) : Den Tryd.prog G 27 [.int .i64 seed, .int .i64 n] (.w (.c (.d (.sl ((bytesK seed n).map bD))))) := den_ro (wbytes_f G seed n hn)

/-! ### The sanity check -/
theorem abc_hex : hexL (sumK [97, 98, 99]) = [98, 97, 55, 56, 49, 54, 98, 102, 56, 102, 48, 49, 99, 102, 101, 97, 52, 49, 52, 49, 52, 48, 100, 101, 53, 100, 97, 101, 50, 50, 50, 51, 98, 48, 48, 51, 54, 49, 97, 51, 57, 54, 49, 55, 55, 97, 57, 99, 98, 52, 49, 48, 102, 102, 54, 49, 102, 50, 48, 48, 49, 53, 97, 100] := by decide +kernel
end Go.Proofs.YtjgkchmdhicmpaaDoor
set_option linter.unusedVariables false
set_option linter.unusedSimpArgs false
namespace Go.Proofs.YtjgkchmdhicmpaaDoor
open Go.RowKit
theorem fl_by (s : Nat) (l : List UInt8) (k : IntKind) (n : Int) : V.flat (.tup [.c (.fr s (l.map bD)), .c (.d (.int k n))]) = true := by
  have := fl_b s l
  simp only [V.flat, W.flat, List.all_cons, List.all_nil, Bool.and_true] at this ⊢
  rw [this]; rfl
def sf_beq : SFn := ⟨2, 10,
  .seq (.reg [⟨(some 4), .mv (.k (.c (.d (.bool false)))), none⟩])
  (.seq (.reg [⟨(some 5), .mv (.t 0), none⟩,
    ⟨(some 6), .b2s (.t 5), none⟩,
    ⟨(some 7), .mv (.t 1), none⟩,
    ⟨(some 8), .b2s (.t 7), none⟩,
    ⟨(some 9), .bin .eql (.t 6) (.t 8), none⟩,
    ⟨(some 4), .mv (.t 9), none⟩])
  (.ret)),
  [(4, none)]⟩
theorem cf_beq : compFn Tryd.prog { own := [], comp := [], frz := [], nils := [] } Tryd.f107 = some sf_beq := by kernel_rfl
theorem beq_c (G : Glob) (l m : List UInt8) : Den Tryd.prog G 107 [.sl (l.map bD), .sl (m.map bD)] (.w (.c (.d (.bool (l == m))))) := by
  refine den_walk Tryd.func107 cf_beq rfl rfl ?_
  simp only [sf_beq, putAll, wx, stV, seval, IntWalk.iteOmega, IntWalk.toNatUp, reduceCtorEq, ofBs_map, binS_same]
  exact ret_d (by simp only [wx, stV, seval, IntWalk.iteOmega, IntWalk.toNatUp, reduceCtorEq])
def sf_same : SFn := ⟨2, 8,
  .seq (.reg [⟨(some 4), .mv (.k (.c (.d (.bool false)))), none⟩])
  (.seq (.reg [⟨(some 5), .mv (.t 0), none⟩,
    ⟨(some 6), .mv (.t 1), none⟩,
    ⟨(some 7), .call 107 [(.t 5), (.t 6)] none, none⟩,
    ⟨(some 4), .mv (.t 7), none⟩])
  (.ret)),
  [(4, none)]⟩
theorem cf_same : compFn Tryd.prog { own := [], comp := [], frz := [], nils := [] } Tryd.f67 = some sf_same := by kernel_rfl
theorem same_c (G : Glob) (l m : List UInt8) : Den Tryd.prog G 67 [.sl (l.map bD), .sl (m.map bD)] (.w (.c (.d (.bool (l == m))))) := by
  refine den_walk Tryd.func67 cf_same rfl rfl ?_
  simp only [sf_same, putAll, wx, wy, wz, stV, seval, IntWalk.iteOmega, IntWalk.toNatUp, reduceCtorEq]
  refine st_call (beq_c G l m) rfl (.inl rfl) ?_
  simp only [wx, wy, wz, stV, seval, IntWalk.iteOmega, IntWalk.toNatUp, reduceCtorEq]
  exact ret_d1 (by simp only [wx, wy, wz, stV, seval, IntWalk.iteOmega, IntWalk.toNatUp, reduceCtorEq])
end Go.Proofs.YtjgkchmdhicmpaaDoor
set_option linter.unusedVariables false
set_option linter.unusedSimpArgs false
namespace Go.Proofs.YtjgkchmdhicmpaaDoor
open Go.RowKit

abbrev iD (n : Nat) : D := .int .i64 (n : Int)
theorem allSz_i (l : List Nat) : allSz 1 (l.map iD) = true := allSz_map _ (fun _ => rfl) l
theorem fl_iy (s : Nat) (l : List Nat) (k : IntKind) (n : Int) : V.flat (.tup [.c (.fr s (l.map iD)), .c (.d (.int k n))]) = true := by
  simp only [V.flat, W.flat, C.flat, List.all_cons, List.all_nil, Bool.and_true, List.all_map, Bool.and_eq_true, List.all_eq_true]
  exact ⟨fun x _ => rfl, rfl⟩
theorem getI {l : List Nat} {j : Nat} (h : j < l.length) : (l.map iD)[j]? = some (.int .i64 ((l.getD j 0 : Nat) : Int)) := by
  rw [List.getElem?_map, List.getElem?_eq_getElem h, List.getD_eq_getElem?_getD, List.getElem?_eq_getElem h]; rfl
theorem half_i (b : List UInt8) {j : Nat} (h : j < b.length) : (halfN (b.take j)).map iD ++ [.int .i64 ((b[j].toNat / 16 : Nat) : Int), .int .i64 ((b[j].toNat % 16 : Nat) : Int)] = (halfN (b.take (j + 1))).map iD := by
  rw [List.take_succ_eq_append_getElem h, halfN_snoc, List.map_append]; rfl
theorem half_0 (b : List UInt8) (h : 0 < b.length) : [D.int .i64 ((b[0].toNat / 16 : Nat) : Int), .int .i64 ((b[0].toNat % 16 : Nat) : Int)] = (halfN (b.take 1)).map iD := by
  rw [← half_i b h]; rfl
def hvV : Nat → V
  | 0 => .w (.c .nil)
  | j + 1 => .w (.c (.own 1 1 0 (2 * (j + 1))))
def hvH (b : List UInt8) : Nat → List (Nat × Ob)
  | 0 => []
  | j + 1 => [(1, .row 1 ((halfN (b.take (j + 1))).map iD))]
def hvSt (b : List UInt8) (j : Nat) : St := ⟨ofL [(3, hvV j), (6, .w (.c (.d (.sl (b.map bD))))), (7, .w (.c (.d (.int .i64 (b.length : Int))))), (8, .w (.c (.d (.int .i64 (j : Int)))))], hL (hvH b j), uL [1]⟩
def lp_halv_0 : SCode :=
  .seq (.reg [⟨(some 9), .bin .lss (.t 8) (.t 7), none⟩])
  (.seq (.cond (.t 9) (.skip)
   (.exit 0))
  (.seq (.block 1 (.seq (.reg [⟨(some 10), .idxSl 1 (.t 6) (.t 8), none⟩,
     ⟨(some 11), .load .sc (.t 10), none⟩,
     ⟨(some 5), .mv (.t 11), none⟩])
   (.reg [⟨(some 12), .mv (.t 3), none⟩,
     ⟨(some 13), .mv (.t 5), none⟩,
     ⟨(some 14), .bin .shr (.t 13) (.k (.c (.d (.int .u64 4)))), none⟩,
     ⟨(some 15), .conv .i64 (.t 14), none⟩,
     ⟨(some 16), .mv (.t 5), none⟩,
     ⟨(some 17), .bin .and (.t 16) (.k (.c (.d (.int .u8 15)))), none⟩,
     ⟨(some 18), .conv .i64 (.t 17), none⟩,
     ⟨(some 19), .bldSl false 2 1 (.int .i64 0) [(0, (.t 15)), (1, (.t 18))], none⟩,
     ⟨(some 20), .app false 1 8 (.t 12) (.t 19), none⟩,
     ⟨(some 3), .mv (.t 20), none⟩])))
  (.reg [⟨(some 21), .bin .add (.t 8) (.k (.c (.d (.int .i64 1)))), none⟩,
    ⟨(some 8), .mv (.t 21), none⟩])))
def sf_halv : SFn := ⟨1, 23,
  .seq (.reg [⟨(some 2), .mv (.k (.c .nil)), none⟩])
  (.seq (.reg [⟨(some 3), .mv (.k (.c .nil)), none⟩])
  (.seq (.seq (.reg [⟨(some 6), .mv (.t 0), none⟩,
    ⟨(some 7), .len (.t 6), none⟩,
    ⟨(some 8), .mv (.k (.c (.d (.int .i64 0)))), none⟩])
  (.block 0 (.loop lp_halv_0)))
  (.seq (.reg [⟨(some 22), .mv (.t 3), none⟩,
    ⟨(some 2), .mv (.t 22), none⟩])
  (.ret)))),
  [(2, none)]⟩
theorem cf_halv : compFn Tryd.prog { own := [], comp := [], frz := [], nils := [] } Tryd.f118 = some sf_halv := by kernel_rfl
set_option maxHeartbeats 1600000 in
theorem halv_f (G : Glob) (b : List UInt8) (hb : b.length ≤ 1000000) : Den Tryd.prog G 118 [.sl (b.map bD)] (.w (.c (.fr 1 ((halfN b).map iD)))) := by
  refine den_walk Tryd.func118 cf_halv rfl rfl ?_
  simp only [sf_halv, putAll, wx, wy, wz, stV, seval, IntWalk.iteOmega, IntWalk.toNatUp, reduceCtorEq]
  refine loop_st (hvSt b) (fun i => b.length - i) (fun i => i ≤ b.length) 0 (Nat.zero_le _) ?_ ?_
  · refine ent_l (fun i => i) ?_ ?_ rfl rfl <;> simp only [wx, wex, wez, stV, seval, IntWalk.iteOmega, IntWalk.toNatUp, reduceCtorEq, hvV, hvH]
  · intro i hi
    by_cases hlt : i < b.length
    · have hb8 := b[i].toNat_lt
      have e2 : b[i]? = some b[i] := List.getElem?_eq_getElem hlt
      have e5 : bits .and .u8 (b[i].toNat : Int) 15 = ((b[i].toNat % 16 : Nat) : Int) := u8_and15 _ (by omega) (by omega)
      have e6 : (b[i].toNat : Int) / 16 = ((b[i].toNat / 16 : Nat) : Int) := rfl
      rcases i with _ | i
      · have h0 := half_0 b hlt
        have hl : (halfN (b.take 1)).length = 2 := by rw [halfN_len, List.length_take]; omega
        simp only [lp_halv_0, hvSt, hvV, hvH, wx, wy, wz, stV, seval, IntWalk.iteOmega, IntWalk.toNatUp, reduceCtorEq, get_map, e2, IntKind.bits, e5, e6, srcV, List.replicate, h0, allSz_i, hl]
        refine lop_next (0 + 1) (by omega) (by omega) (ent_l (fun _ => 160) ?_ ?_ rfl rfl) <;> simp only [wx, wex, wez, stV, seval, IntWalk.iteOmega, IntWalk.toNatUp, reduceCtorEq, hvV, hvH, hl]
      · have h0 := half_i b hlt
        have hl : (halfN (b.take (i + 1))).length = 2 * (i + 1) := by rw [halfN_len, List.length_take]; omega
        have hl2 : (halfN (b.take (i + 1 + 1))).length = 2 * (i + 1 + 1) := by rw [halfN_len, List.length_take]; omega
        simp only [lp_halv_0, hvSt, hvV, hvH, wx, wy, wz, stV, seval, IntWalk.iteOmega, IntWalk.toNatUp, reduceCtorEq, get_map, e2, IntKind.bits, e5, e6, srcV, List.replicate, h0, allSz_i, hl, hl2]
        refine lop_next (i + 1 + 1) (by omega) (by omega) (ent_l (fun _ => 160) ?_ ?_ rfl rfl) <;> simp only [wx, wex, wez, stV, seval, IntWalk.iteOmega, IntWalk.toNatUp, reduceCtorEq, hvV, hvH, hl2]
    · obtain rfl : i = b.length := by omega
      have ht : b.take b.length = b := List.take_length
      rcases hbl : b.length with _ | n
      · obtain rfl : b = [] := List.length_eq_zero_iff.1 hbl
        simp only [lp_halv_0, hvSt, hvV, hvH, wx, wy, wz, stV, seval, IntWalk.iteOmega, IntWalk.toNatUp, reduceCtorEq, hbl]
        exact ret_f1 (by simp only [wx, wy, wz, stV, seval, IntWalk.iteOmega, IntWalk.toNatUp, reduceCtorEq, halfN])
      · have hl := halfN_len b
        rw [hbl] at ht
        simp only [lp_halv_0, hvSt, hvV, hvH, wx, wy, wz, stV, seval, IntWalk.iteOmega, IntWalk.toNatUp, reduceCtorEq, hbl, ht]
        exact ret_f1 (by simp only [wx, wy, wz, stV, seval, IntWalk.iteOmega, IntWalk.toNatUp, reduceCtorEq, hl, hbl])
theorem half_put {s : Nat} (h : s ≤ 480) : halfN (putL s 2) = [0, s / 256, s / 16 % 16, s % 16] := by
  have e : putL s 2 = [UInt8.ofNat (s / 256), UInt8.ofNat (s / 1)] := rfl
  have e1 : (UInt8.ofNat (s / 256)).toNat = s / 256 := by rw [UInt8.toNat_ofNat']; omega
  have e2 : (UInt8.ofNat (s / 1)).toNat = s % 256 := by rw [UInt8.toNat_ofNat', Nat.div_one]
  have e3 : halfN [UInt8.ofNat (s / 256), UInt8.ofNat (s / 1)] = [(UInt8.ofNat (s / 256)).toNat / 16, (UInt8.ofNat (s / 256)).toNat % 16, (UInt8.ofNat (s / 1)).toNat / 16, (UInt8.ofNat (s / 1)).toNat % 16] := rfl
  rw [e, e3, e1, e2]
  congr 1
  · omega
  congr 1
  · omega
  congr 1
  · omega
  congr 1
  omega
def dgtE (b : List UInt8) : Int := if b.length = 16 then 0 else 3
def dgtV (b : List UInt8) : List Nat := if b.length = 16 then digN b else []
theorem dig_ok {b : List UInt8} (h : b.length = 16) : dgtE b = 0 ∧ dgtV b = digN b := ⟨if_pos h, if_pos h⟩
theorem dig_no {b : List UInt8} (h : ¬ b.length = 16) : dgtE b = 3 ∧ dgtV b = [] := ⟨if_neg h, if_neg h⟩
theorem digN_map (b : List UInt8) : (digN b).map iD = (halfN b).map iD ++ [iD (lackN (halfN b) / 256), iD (lackN (halfN b) / 16 % 16), iD (lackN (halfN b) % 16)] := by unfold digN; rw [List.map_append]; rfl
def dgSt (l : List Nat) (j : Nat) : St := ⟨ofL [(4, .w (.c (.own 1 1 0 32))), (5, .w (.c (.d (.int .i64 ((lackN (l.take j) : Nat) : Int))))), (13, .w (.c (.own 1 1 0 32))), (14, .w (.c (.d (.int .i64 32)))), (15, .w (.c (.d (.int .i64 (j : Int)))))], hL [(1, .row 1 (l.map iD))], uL [1]⟩
def lp_dgs_0 : SCode :=
  .seq (.reg [⟨(some 16), .bin .lss (.t 15) (.t 14), none⟩])
  (.seq (.cond (.t 16) (.skip)
   (.exit 0))
  (.seq (.block 1 (.seq (.reg [⟨(some 17), .idxSl 1 (.t 13) (.t 15), none⟩,
     ⟨(some 18), .load .sc (.t 17), none⟩,
     ⟨(some 7), .mv (.t 18), none⟩])
   (.reg [⟨(some 19), .mv (.t 5), none⟩,
     ⟨(some 20), .mv (.t 7), none⟩,
     ⟨(some 21), .bin .sub (.k (.c (.d (.int .i64 15)))) (.t 20), none⟩,
     ⟨(some 22), .bin .add (.t 19) (.t 21), none⟩,
     ⟨(some 5), .mv (.t 22), none⟩])))
  (.reg [⟨(some 23), .bin .add (.t 15) (.k (.c (.d (.int .i64 1)))), none⟩,
    ⟨(some 15), .mv (.t 23), none⟩])))
def sf_dgs : SFn := ⟨1, 31,
  .seq (.reg [⟨(some 2), .mv (.k (.c .nil)), none⟩,
    ⟨(some 3), .mv (.k (.c (.d (.int .i64 0)))), none⟩])
  (.seq (.seq (.reg [⟨(some 8), .mv (.t 0), none⟩,
    ⟨(some 9), .len (.t 8), none⟩,
    ⟨(some 10), .bin .neq (.t 9) (.k (.c (.d (.int .i64 16)))), none⟩])
  (.cond (.t 10) (.seq (.reg [⟨(some 2), .mv (.k (.c .nil)), none⟩,
     ⟨(some 3), .mv (.k (.c (.d (.int .i64 3)))), none⟩])
   (.ret))
   (.skip)))
  (.seq (.reg [⟨(some 11), .mv (.t 0), none⟩,
    ⟨(some 12), .call 118 [(.t 11)] (some (0, 1)), none⟩,
    ⟨(some 4), .mv (.t 12), none⟩])
  (.seq (.reg [⟨(some 5), .mv (.k (.c (.d (.int .i64 0)))), none⟩])
  (.seq (.seq (.reg [⟨(some 13), .mv (.t 4), none⟩,
    ⟨(some 14), .len (.t 13), none⟩,
    ⟨(some 15), .mv (.k (.c (.d (.int .i64 0)))), none⟩])
  (.block 0 (.loop lp_dgs_0)))
  (.seq (.reg [⟨(some 24), .mv (.t 4), none⟩,
    ⟨(some 25), .mv (.t 5), none⟩,
    ⟨(some 26), .conv .u64 (.t 25), none⟩,
    ⟨(some 27), .call 75 [(.t 26), (.k (.c (.d (.int .i64 2))))] none, none⟩,
    ⟨(some 28), .call 118 [(.t 27)] none, none⟩,
    ⟨(some 29), .slice 1 (.t 28) (some (.k (.c (.d (.int .i64 1))))) none none, none⟩,
    ⟨(some 30), .app false 1 8 (.t 24) (.t 29), none⟩,
    ⟨(some 2), .mv (.t 30), none⟩,
    ⟨(some 3), .mv (.k (.c (.d (.int .i64 0)))), none⟩])
  (.ret)))))),
  [(2, none), (3, none)]⟩
theorem cf_dgs : compFn Tryd.prog { own := [12], comp := [], frz := [], nils := [] } Tryd.f92 = some sf_dgs := by kernel_rfl
set_option maxHeartbeats 1600000 in
theorem dgs_f (G : Glob) (b : List UInt8) (hb : b.length ≤ 9223372036854775807) : Den Tryd.prog G 92 [.sl (b.map bD)] (.tup [.c (.fr 1 ((dgtV b).map iD)), .c (.d (.int .i64 (dgtE b)))]) := by
  refine den_walk Tryd.func92 cf_dgs rfl rfl ?_
  by_cases h : b.length = 16
  · obtain ⟨hE, hV⟩ := dig_ok h
    have hl : (halfN b).length = 32 := by rw [halfN_len, h]
    have hle := halfN_le (b := b)
    have hh := halv_f G b (by omega)
    have hs := lackN_le (halfN b)
    have hm := digN_map b
    rw [hE, hV]
    generalize halfN b = l at *
    simp only [sf_dgs, putAll, wx, wy, wz, stV, seval, IntWalk.iteOmega, IntWalk.toNatUp, reduceCtorEq, h]
    refine st_call (hh) rfl (.inl rfl) ?_
    simp only [hl, wx, wy, wz, stV, seval, IntWalk.iteOmega, IntWalk.toNatUp, reduceCtorEq]
    refine loop_st (dgSt l) (fun j => 32 - j) (fun j => j ≤ 32) 0 (Nat.zero_le _) ?_ ?_
    · refine ent_l (fun _ => 96) ?_ ?_ rfl rfl <;> simp only [wx, wex, wez, stV, seval, IntWalk.iteOmega, IntWalk.toNatUp, reduceCtorEq, lackN, List.sum_nil]
    · intro j hj
      have hsj : lackN (l.take j) ≤ 15 * j := by
        have := lackN_le (l.take j)
        rw [List.length_take] at this
        omega
      by_cases hlt : j < 32
      · have g1 := getI (l := l) (j := j) (by omega)
        have hx : l.getD j 0 ≤ 15 := by
          rw [List.getD_eq_getElem?_getD, List.getElem?_eq_getElem (by omega : j < l.length)]
          exact hle _ (List.getElem_mem _)
        have e : ((lackN (l.take (j + 1)) : Nat) : Int) = (lackN (l.take j) : Int) + (15 - ((l.getD j 0 : Nat) : Int)) := by
          rw [lackN_take (by omega : j < l.length)]; omega
        simp only [lp_dgs_0, dgSt, wx, wy, wz, stV, seval, IntWalk.iteOmega, IntWalk.toNatUp, reduceCtorEq, g1]
        refine lop_next (j + 1) (by omega) (by omega) (ent_l (fun i => i) ?_ ?_ rfl rfl) <;> simp only [wx, wex, wez, stV, seval, IntWalk.iteOmega, IntWalk.toNatUp, reduceCtorEq, e]
      · obtain rfl : j = 32 := by omega
        have ht : l.take 32 = l := List.take_of_length_le (by omega)
        rw [ht] at hsj
        have hp := put_in G (lackN l) 2 (by decide)
        have hq := halv_f G (putL (lackN l) 2) (by rw [putL_length]; decide)
        rw [half_put (by omega)] at hq
        have hw : IntKind.u64.wrap (lackN l : Int) = (lackN l : Int) := by rw [IntKind.wrap_u64]; omega
        simp only [lp_dgs_0, dgSt, wx, wy, wz, stV, seval, IntWalk.iteOmega, IntWalk.toNatUp, reduceCtorEq, ht, hw]
        refine st_call (hp) rfl (.inl rfl) ?_
        simp only [wx, wy, wz, stV, seval, IntWalk.iteOmega, IntWalk.toNatUp, reduceCtorEq]
        refine st_call (hq) rfl (.inl rfl) ?_
        simp only [srcV, List.map_cons, List.map_nil, hl, allSz_i, wx, wy, wz, stV, seval, IntWalk.iteOmega, IntWalk.toNatUp, reduceCtorEq]
        exact ret_f2 (by simp only [wx, wy, wz, stV, seval, IntWalk.iteOmega, IntWalk.toNatUp, reduceCtorEq, hm]) (by simp only [wx, wy, wz, stV, seval, IntWalk.iteOmega, IntWalk.toNatUp, reduceCtorEq])
  · obtain ⟨hE, hV⟩ := dig_no h
    rw [hE, hV]
    simp only [sf_dgs, putAll, wx, wy, wz, stV, seval, IntWalk.iteOmega, IntWalk.toNatUp, reduceCtorEq]
    exact ret_f2 (by simp only [wx, wy, wz, stV, seval, IntWalk.iteOmega, IntWalk.toNatUp, reduceCtorEq]) (by simp only [wx, wy, wz, stV, seval, IntWalk.iteOmega, IntWalk.toNatUp, reduceCtorEq])
theorem den_ro2N {P : Program} {G : Glob} {F : FuncId} {args : List D} {l : List Nat} {y : D} (h : Den P G F args (.tup [.c (.fr 1 (l.map iD)), .c (.d y)])) : Den P G F args (.tup [.c (.d (.sl (l.map iD))), .c (.d y)]) := den_ro2 h
/-! ### The reference's digits -/
def rdSt (b : List UInt8) (j : Nat) : St := ⟨ofL [(0, .w (.c (.d (.sl (b.map bD))))), (4, hvV j), (5, .w (.c (.d (.int .i64 ((lackN (halfN (b.take j)) : Nat) : Int))))), (6, .w (.c (.d (.int .i64 (j : Int)))))], hL (hvH b j), uL [1]⟩
theorem lack_half (b : List UInt8) {j : Nat} (h : j < b.length) : ((lackN (halfN (b.take (j + 1))) : Nat) : Int) = (lackN (halfN (b.take j)) : Int) + 15 - ((b[j].toNat / 16 : Nat) : Int) + 15 - ((b[j].toNat % 16 : Nat) : Int) := by
  have hb := b[j].toNat_lt
  rw [List.take_succ_eq_append_getElem h, halfN_snoc, lackN_app]
  have e : lackN [b[j].toNat / 16, b[j].toNat % 16] = (15 - b[j].toNat / 16) + (15 - b[j].toNat % 16) := by simp [lackN]
  rw [e]; omega
def lp_rdgs_0 : SCode :=
  .seq (.seq (.reg [⟨(some 12), .mv (.t 6), none⟩,
    ⟨(some 13), .mv (.t 0), none⟩,
    ⟨(some 14), .len (.t 13), none⟩,
    ⟨(some 15), .bin .lss (.t 12) (.t 14), none⟩])
  (.cond (.t 15) (.skip)
   (.exit 0)))
  (.seq (.block 1 (.seq (.reg [⟨(some 18), .mv (.t 0), none⟩,
     ⟨(some 19), .mv (.t 6), none⟩,
     ⟨(some 20), .idxSl 1 (.t 18) (.t 19), none⟩,
     ⟨(some 21), .load .sc (.t 20), none⟩,
     ⟨(some 22), .bin .shr (.t 21) (.k (.c (.d (.int .u64 4)))), none⟩,
     ⟨(some 23), .conv .i64 (.t 22), none⟩,
     ⟨(some 24), .mv (.t 0), none⟩,
     ⟨(some 25), .mv (.t 6), none⟩,
     ⟨(some 26), .idxSl 1 (.t 24) (.t 25), none⟩,
     ⟨(some 27), .load .sc (.t 26), none⟩,
     ⟨(some 28), .bin .and (.t 27) (.k (.c (.d (.int .u8 15)))), none⟩,
     ⟨(some 29), .conv .i64 (.t 28), none⟩,
     ⟨(some 7), .mv (.t 23), none⟩,
     ⟨(some 8), .mv (.t 29), none⟩])
   (.seq (.reg [⟨(some 30), .mv (.t 4), none⟩,
     ⟨(some 31), .mv (.t 7), none⟩,
     ⟨(some 32), .mv (.t 8), none⟩,
     ⟨(some 33), .bldSl false 2 1 (.int .i64 0) [(0, (.t 31)), (1, (.t 32))], none⟩,
     ⟨(some 34), .app false 1 8 (.t 30) (.t 33), none⟩,
     ⟨(some 4), .mv (.t 34), none⟩])
   (.reg [⟨(some 35), .mv (.t 5), none⟩,
     ⟨(some 36), .bin .add (.t 35) (.k (.c (.d (.int .i64 15)))), none⟩,
     ⟨(some 37), .mv (.t 7), none⟩,
     ⟨(some 38), .bin .sub (.t 36) (.t 37), none⟩,
     ⟨(some 39), .bin .add (.t 38) (.k (.c (.d (.int .i64 15)))), none⟩,
     ⟨(some 40), .mv (.t 8), none⟩,
     ⟨(some 41), .bin .sub (.t 39) (.t 40), none⟩,
     ⟨(some 5), .mv (.t 41), none⟩]))))
  (.reg [⟨(some 16), .mv (.t 6), none⟩,
    ⟨(some 17), .bin .add (.t 16) (.k (.c (.d (.int .i64 1)))), none⟩,
    ⟨(some 6), .mv (.t 17), none⟩]))
def sf_rdgs : SFn := ⟨1, 52,
  .seq (.reg [⟨(some 2), .mv (.k (.c .nil)), none⟩,
    ⟨(some 3), .mv (.k (.c (.d (.int .i64 0)))), none⟩])
  (.seq (.seq (.reg [⟨(some 9), .mv (.t 0), none⟩,
    ⟨(some 10), .len (.t 9), none⟩,
    ⟨(some 11), .bin .neq (.t 10) (.k (.c (.d (.int .i64 16)))), none⟩])
  (.cond (.t 11) (.seq (.reg [⟨(some 2), .mv (.k (.c .nil)), none⟩,
     ⟨(some 3), .mv (.k (.c (.d (.int .i64 3)))), none⟩])
   (.ret))
   (.skip)))
  (.seq (.reg [⟨(some 4), .mv (.k (.c .nil)), none⟩])
  (.seq (.reg [⟨(some 5), .mv (.k (.c (.d (.int .i64 0)))), none⟩])
  (.seq (.seq (.reg [⟨(some 6), .mv (.k (.c (.d (.int .i64 0)))), none⟩])
  (.block 0 (.loop lp_rdgs_0)))
  (.seq (.reg [⟨(some 42), .mv (.t 4), none⟩,
    ⟨(some 43), .mv (.t 5), none⟩,
    ⟨(some 44), .bin .quo (.t 43) (.k (.c (.d (.int .i64 256)))), none⟩,
    ⟨(some 45), .mv (.t 5), none⟩,
    ⟨(some 46), .bin .quo (.t 45) (.k (.c (.d (.int .i64 16)))), none⟩,
    ⟨(some 47), .bin .rem (.t 46) (.k (.c (.d (.int .i64 16)))), none⟩,
    ⟨(some 48), .mv (.t 5), none⟩,
    ⟨(some 49), .bin .rem (.t 48) (.k (.c (.d (.int .i64 16)))), none⟩,
    ⟨(some 50), .bldSl false 3 1 (.int .i64 0) [(0, (.t 44)), (1, (.t 47)), (2, (.t 49))], none⟩,
    ⟨(some 51), .app false 1 8 (.t 42) (.t 50), none⟩,
    ⟨(some 2), .mv (.t 51), none⟩,
    ⟨(some 3), .mv (.k (.c (.d (.int .i64 0)))), none⟩])
  (.ret)))))),
  [(2, none), (3, none)]⟩
theorem cf_rdgs : compFn Tryd.prog { own := [], comp := [], frz := [], nils := [] } Tryd.f84 = some sf_rdgs := by kernel_rfl
set_option maxHeartbeats 3200000 in
theorem rdgs_f (G : Glob) (b : List UInt8) (hb : b.length ≤ 9223372036854775807) : Den Tryd.prog G 84 [.sl (b.map bD)] (.tup [.c (.fr 1 ((dgtV b).map iD)), .c (.d (.int .i64 (dgtE b)))]) := by
  refine den_walk Tryd.func84 cf_rdgs rfl rfl ?_
  by_cases h : b.length = 16
  · obtain ⟨hE, hV⟩ := dig_ok h
    rw [hE, hV]
    simp only [sf_rdgs, putAll, wx, wy, wz, stV, seval, IntWalk.iteOmega, IntWalk.toNatUp, reduceCtorEq, h]
    refine loop_st (rdSt b) (fun j => 16 - j) (fun j => j ≤ 16) 0 (Nat.zero_le _) ?_ ?_
    · refine ent_l (fun i => i) ?_ ?_ rfl rfl <;> simp only [wx, wex, wez, stV, seval, IntWalk.iteOmega, IntWalk.toNatUp, reduceCtorEq, hvV, hvH, halfN, lackN, List.map_nil, List.sum_nil]
    · intro i hi
      have hs := lackN_le (halfN (b.take i))
      rw [halfN_len, List.length_take] at hs
      by_cases hlt : i < 16
      · have hb8 := b[i].toNat_lt
        have hlt' : i < b.length := by omega
        have e2 : b[i]? = some b[i] := List.getElem?_eq_getElem hlt'
        have e5 : bits .and .u8 (b[i].toNat : Int) 15 = ((b[i].toNat % 16 : Nat) : Int) := u8_and15 _ (by omega) (by omega)
        have e6 : (b[i].toNat : Int) / 16 = ((b[i].toNat / 16 : Nat) : Int) := rfl
        have e7 := lack_half b hlt'
        have q1 : b[i].toNat / 16 < 16 := by omega
        have q2 : b[i].toNat % 16 < 16 := by omega
        rcases i with _ | i
        · have h0 := half_0 b hlt'
          have hl : (halfN (b.take 1)).length = 2 := by rw [halfN_len, List.length_take]; omega
          have z0 : lackN (halfN []) = 0 := rfl
          have z1 : lackN (halfN (b.take 0)) = 0 := rfl
          simp only [Nat.zero_add, z1] at e7
          generalize b[0].toNat / 16 = x at *
          generalize b[0].toNat % 16 = y at *
          simp only [lp_rdgs_0, rdSt, hvV, hvH, wx, wy, wz, stV, seval, IntWalk.iteOmega, IntWalk.toNatUp, reduceCtorEq, h, get_map, e2, IntKind.bits, e5, e6, srcV, List.replicate, h0, allSz_i, hl, z0]
          refine lop_next (0 + 1) (by omega) (by omega) (ent_l (fun _ => 272) ?_ ?_ rfl rfl) <;> simp only [wx, wex, wez, stV, seval, IntWalk.iteOmega, IntWalk.toNatUp, reduceCtorEq, hvV, hvH, hl, e7]
        · have h0 := half_i b hlt'
          have hl : (halfN (b.take (i + 1))).length = 2 * (i + 1) := by rw [halfN_len, List.length_take]; omega
          have hl2 : (halfN (b.take (i + 1 + 1))).length = 2 * (i + 1 + 1) := by rw [halfN_len, List.length_take]; omega
          generalize b[i + 1].toNat / 16 = x at *
          generalize b[i + 1].toNat % 16 = y at *
          simp only [lp_rdgs_0, rdSt, hvV, hvH, wx, wy, wz, stV, seval, IntWalk.iteOmega, IntWalk.toNatUp, reduceCtorEq, h, get_map, e2, IntKind.bits, e5, e6, srcV, List.replicate, h0, allSz_i, hl, hl2]
          refine lop_next (i + 1 + 1) (by omega) (by omega) (ent_l (fun _ => 272) ?_ ?_ rfl rfl) <;> simp only [wx, wex, wez, stV, seval, IntWalk.iteOmega, IntWalk.toNatUp, reduceCtorEq, hvV, hvH, hl2, e7]
      · obtain rfl : i = 16 := by omega
        have ht : b.take 16 = b := List.take_of_length_le (by omega)
        have hl : (halfN b).length = 32 := by rw [halfN_len, h]
        have hm := digN_map b
        rw [ht] at hs
        have d1 : (lackN (halfN b) : Int).tdiv 256 = ((lackN (halfN b) / 256 : Nat) : Int) := rfl
        have d2 : (lackN (halfN b) : Int).tdiv 16 = ((lackN (halfN b) / 16 : Nat) : Int) := rfl
        have d3 : ((lackN (halfN b) / 16 : Nat) : Int).tmod 16 = ((lackN (halfN b) / 16 % 16 : Nat) : Int) := rfl
        have d4 : (lackN (halfN b) : Int).tmod 16 = ((lackN (halfN b) % 16 : Nat) : Int) := rfl
        simp only [lp_rdgs_0, rdSt, hvV, hvH, wx, wy, wz, stV, seval, IntWalk.iteOmega, IntWalk.toNatUp, reduceCtorEq, ht, h, d1, d2, d3, d4, srcV, allSz_i, hl]
        exact ret_f2 (by simp only [wx, wy, wz, stV, seval, IntWalk.iteOmega, IntWalk.toNatUp, reduceCtorEq, hm]) (by simp only [wx, wy, wz, stV, seval, IntWalk.iteOmega, IntWalk.toNatUp, reduceCtorEq])
  · obtain ⟨hE, hV⟩ := dig_no h
    rw [hE, hV]
    simp only [sf_rdgs, putAll, wx, wy, wz, stV, seval, IntWalk.iteOmega, IntWalk.toNatUp, reduceCtorEq]
    exact ret_f2 (by simp only [wx, wy, wz, stV, seval, IntWalk.iteOmega, IntWalk.toNatUp, reduceCtorEq]) (by simp only [wx, wy, wz, stV, seval, IntWalk.iteOmega, IntWalk.toNatUp, reduceCtorEq])
theorem dgs_c (G : Glob) (b : List UInt8) (hb : b.length ≤ 9223372036854775807) : Den Tryd.prog G 92 [.sl (b.map bD)] (.tup [.c (.d (.sl ((dgtV b).map iD))), .c (.d (.int .i64 (dgtE b)))]) := den_ro2N (dgs_f G b hb)
theorem rdgs_c (G : Glob) (b : List UInt8) (hb : b.length ≤ 9223372036854775807) : Den Tryd.prog G 84 [.sl (b.map bD)] (.tup [.c (.d (.sl ((dgtV b).map iD))), .c (.d (.int .i64 (dgtE b)))]) := den_ro2N (rdgs_f G b hb)
/-! ### Errors, secrets -/
def chkE (seed : List UInt8) (index : Int) : Int := if ¬ seed.length = 32 then 5 else if index < 0 ∨ 2147483647 < index then 4 else 0
def sf_ochk : SFn := ⟨2, 14,
  .seq (.reg [⟨(some 4), .mv (.k (.c (.d (.int .i64 0)))), none⟩])
  (.seq (.seq (.reg [⟨(some 5), .mv (.t 0), none⟩,
    ⟨(some 6), .len (.t 5), none⟩,
    ⟨(some 7), .bin .neq (.t 6) (.k (.c (.d (.int .i64 32)))), none⟩])
  (.cond (.t 7) (.seq (.reg [⟨(some 4), .mv (.k (.c (.d (.int .i64 5)))), none⟩])
   (.ret))
   (.skip)))
  (.seq (.seq (.reg [⟨(some 8), .mv (.t 1), none⟩,
    ⟨(some 9), .bin .lss (.t 8) (.k (.c (.d (.int .i64 0)))), none⟩,
    ⟨(some 10), .mv (.t 9), none⟩,
    ⟨(some 11), .mv (.t 1), (some (10, false))⟩,
    ⟨(some 12), .bin .gtr (.t 11) (.k (.c (.d (.int .i64 2147483647)))), (some (10, false))⟩,
    ⟨(some 13), .pick (.t 10) (.k (.c (.d (.bool true)))) (.t 12), none⟩])
  (.cond (.t 13) (.seq (.reg [⟨(some 4), .mv (.k (.c (.d (.int .i64 4)))), none⟩])
   (.ret))
   (.skip)))
  (.seq (.reg [⟨(some 4), .mv (.k (.c (.d (.int .i64 0)))), none⟩])
  (.ret)))),
  [(4, none)]⟩
theorem cf_ochk : compFn Tryd.prog { own := [], comp := [], frz := [], nils := [] } Tryd.f110 = some sf_ochk := by kernel_rfl
theorem ochk_c (G : Glob) (seed : List UInt8) (index : Int) : Den Tryd.prog G 110 [.sl (seed.map bD), .int .i64 index] (.w (.c (.d (.int .i64 (chkE seed index))))) := by
  refine den_walk Tryd.func110 cf_ochk rfl rfl ?_
  unfold chkE
  by_cases h : seed.length = 32
  · rw [if_neg (by omega)]
    by_cases h1 : index < 0
    · rw [if_pos (.inl h1)]
      simp only [sf_ochk, putAll, wx, wy, wz, stV, seval, IntWalk.iteOmega, IntWalk.toNatUp, reduceCtorEq, h]
      exact ret_d1 (by simp only [wx, wy, wz, stV, seval, IntWalk.iteOmega, IntWalk.toNatUp, reduceCtorEq])
    · by_cases h2 : 2147483647 < index
      · rw [if_pos (.inr h2)]
        simp only [sf_ochk, putAll, wx, wy, wz, stV, seval, IntWalk.iteOmega, IntWalk.toNatUp, reduceCtorEq, h]
        exact ret_d1 (by simp only [wx, wy, wz, stV, seval, IntWalk.iteOmega, IntWalk.toNatUp, reduceCtorEq])
      · rw [if_neg (by omega)]
        simp only [sf_ochk, putAll, wx, wy, wz, stV, seval, IntWalk.iteOmega, IntWalk.toNatUp, reduceCtorEq, h]
        exact ret_d1 (by simp only [wx, wy, wz, stV, seval, IntWalk.iteOmega, IntWalk.toNatUp, reduceCtorEq])
  · rw [if_pos h]
    simp only [sf_ochk, putAll, wx, wy, wz, stV, seval, IntWalk.iteOmega, IntWalk.toNatUp, reduceCtorEq]
    exact ret_d1 (by simp only [wx, wy, wz, stV, seval, IntWalk.iteOmega, IntWalk.toNatUp, reduceCtorEq])
def sf_rochk : SFn := ⟨2, 14,
  .seq (.reg [⟨(some 4), .mv (.k (.c (.d (.int .i64 0)))), none⟩])
  (.seq (.seq (.reg [⟨(some 5), .mv (.t 0), none⟩,
    ⟨(some 6), .len (.t 5), none⟩,
    ⟨(some 7), .bin .neq (.t 6) (.k (.c (.d (.int .i64 32)))), none⟩])
  (.cond (.t 7) (.seq (.reg [⟨(some 4), .mv (.k (.c (.d (.int .i64 5)))), none⟩])
   (.ret))
   (.skip)))
  (.seq (.seq (.reg [⟨(some 8), .mv (.t 1), none⟩,
    ⟨(some 9), .bin .lss (.t 8) (.k (.c (.d (.int .i64 0)))), none⟩,
    ⟨(some 10), .mv (.t 9), none⟩,
    ⟨(some 11), .mv (.t 1), (some (10, false))⟩,
    ⟨(some 12), .bin .gtr (.t 11) (.k (.c (.d (.int .i64 2147483647)))), (some (10, false))⟩,
    ⟨(some 13), .pick (.t 10) (.k (.c (.d (.bool true)))) (.t 12), none⟩])
  (.cond (.t 13) (.seq (.reg [⟨(some 4), .mv (.k (.c (.d (.int .i64 4)))), none⟩])
   (.ret))
   (.skip)))
  (.seq (.reg [⟨(some 4), .mv (.k (.c (.d (.int .i64 0)))), none⟩])
  (.ret)))),
  [(4, none)]⟩
theorem cf_rochk : compFn Tryd.prog { own := [], comp := [], frz := [], nils := [] } Tryd.f83 = some sf_rochk := by kernel_rfl
theorem rochk_c (G : Glob) (seed : List UInt8) (index : Int) : Den Tryd.prog G 83 [.sl (seed.map bD), .int .i64 index] (.w (.c (.d (.int .i64 (chkE seed index))))) := by
  refine den_walk Tryd.func83 cf_rochk rfl rfl ?_
  unfold chkE
  by_cases h : seed.length = 32
  · rw [if_neg (by omega)]
    by_cases h1 : index < 0
    · rw [if_pos (.inl h1)]
      simp only [sf_rochk, putAll, wx, wy, wz, stV, seval, IntWalk.iteOmega, IntWalk.toNatUp, reduceCtorEq, h]
      exact ret_d1 (by simp only [wx, wy, wz, stV, seval, IntWalk.iteOmega, IntWalk.toNatUp, reduceCtorEq])
    · by_cases h2 : 2147483647 < index
      · rw [if_pos (.inr h2)]
        simp only [sf_rochk, putAll, wx, wy, wz, stV, seval, IntWalk.iteOmega, IntWalk.toNatUp, reduceCtorEq, h]
        exact ret_d1 (by simp only [wx, wy, wz, stV, seval, IntWalk.iteOmega, IntWalk.toNatUp, reduceCtorEq])
      · rw [if_neg (by omega)]
        simp only [sf_rochk, putAll, wx, wy, wz, stV, seval, IntWalk.iteOmega, IntWalk.toNatUp, reduceCtorEq, h]
        exact ret_d1 (by simp only [wx, wy, wz, stV, seval, IntWalk.iteOmega, IntWalk.toNatUp, reduceCtorEq])
  · rw [if_pos h]
    simp only [sf_rochk, putAll, wx, wy, wz, stV, seval, IntWalk.iteOmega, IntWalk.toNatUp, reduceCtorEq]
    exact ret_d1 (by simp only [wx, wy, wz, stV, seval, IntWalk.iteOmega, IntWalk.toNatUp, reduceCtorEq])
theorem chkE_ok {seed : List UInt8} {index : Int} (h : chkE seed index = 0) : seed.length = 32 ∧ 0 ≤ index ∧ index ≤ 2147483647 := by
  unfold chkE at h
  split at h
  · cases h
  · split at h
    · cases h
    · omega
def secE (seed : List UInt8) (index chain : Int) : Int := if chkE seed index = 0 then (if chain < 0 ∨ 35 ≤ chain then 4 else 0) else chkE seed index
def secV (seed : List UInt8) (index chain : Int) : List UInt8 := if secE seed index chain = 0 then secM seed index.toNat chain.toNat else []
theorem putL_1 (c : Nat) : putL c 1 = [UInt8.ofNat c] := by
  show [UInt8.ofNat (c / 1)] = _
  rw [Nat.div_one]
theorem sec_join (seed : List UInt8) (i c : Nat) : [seed, putL i 4, putL c 1].flatten = seed ++ putL i 4 ++ [UInt8.ofNat c] := by rw [putL_1]; simp
def sf_sec0 : SFn := ⟨3, 17,
  .seq (.reg [⟨(some 6), .mv (.k (.c .nil)), none⟩])
  (.seq (.reg [⟨(some 7), .mv (.t 0), none⟩,
    ⟨(some 8), .mv (.t 1), none⟩,
    ⟨(some 9), .conv .u64 (.t 8), none⟩,
    ⟨(some 10), .call 75 [(.t 9), (.k (.c (.d (.int .i64 4))))] none, none⟩,
    ⟨(some 11), .mv (.t 2), none⟩,
    ⟨(some 12), .conv .u64 (.t 11), none⟩,
    ⟨(some 13), .call 75 [(.t 12), (.k (.c (.d (.int .i64 1))))] none, none⟩,
    ⟨(some 14), .bldSl false 3 1 (.sl []) [(0, (.t 7)), (1, (.t 10)), (2, (.t 13))], none⟩,
    ⟨(some 15), .call 43 [(.t 14)] none, none⟩,
    ⟨(some 16), .call 95 [(.t 15)] (some (0, 1)), none⟩,
    ⟨(some 6), .mv (.t 16), none⟩])
  (.ret)),
  [(6, none)]⟩
theorem cf_sec0 : compFn Tryd.prog { own := [16], comp := [], frz := [], nils := [] } Tryd.f111 = some sf_sec0 := by kernel_rfl
set_option maxHeartbeats 1600000 in
theorem sec0_f (G : Glob) (hF : G.at 0 = some (.ra (firstK.map wD))) (hG : G.at 1 = some (.ra (constK.map wD))) (seed : List UInt8) (i c : Nat) (hs : seed.length = 32) (hi : i ≤ 2147483647) (hc : c < 35) : Den Tryd.prog G 111 [.sl (seed.map bD), .int .i64 (i : Int), .int .i64 (c : Int)] (.w (.c (.fr 1 ((secM seed i c).map bD)))) := by
  refine den_walk Tryd.func111 cf_sec0 rfl rfl ?_
  have p1 := put_in G i 4 (by decide)
  have p2 := put_in G c 1 (by decide)
  have hj := join_c G [seed, putL i 4, putL c 1] (by simp) (by simp [putL_length]; omega)
  rw [sec_join] at hj
  have hh := short_c G hF hG (seed ++ putL i 4 ++ [UInt8.ofNat c]) (by simp [putL_length]; omega)
  have hm : shortK (seed ++ putL i 4 ++ [UInt8.ofNat c]) = secM seed i c := rfl
  rw [hm] at hh
  generalize seed ++ putL i 4 ++ [UInt8.ofNat c] = z at *
  have w1 : IntKind.u64.wrap (i : Int) = (i : Int) := by rw [IntKind.wrap_u64]; omega
  have w2 : IntKind.u64.wrap (c : Int) = (c : Int) := by rw [IntKind.wrap_u64]; omega
  simp only [sf_sec0, putAll, wx, wy, wz, stV, seval, IntWalk.iteOmega, IntWalk.toNatUp, reduceCtorEq, w1, w2]
  refine st_call (p1) rfl (.inl rfl) ?_
  simp only [w2, wx, wy, wz, stV, seval, IntWalk.iteOmega, IntWalk.toNatUp, reduceCtorEq]
  refine st_call (p2) rfl (.inl rfl) ?_
  simp only [wx, wy, wz, stV, seval, IntWalk.iteOmega, IntWalk.toNatUp, reduceCtorEq]
  refine st_call (hj) rfl (.inl rfl) ?_
  simp only [wx, wy, wz, stV, seval, IntWalk.iteOmega, IntWalk.toNatUp, reduceCtorEq]
  refine st_call (hh) rfl (.inl rfl) ?_
  simp only [wx, wy, wz, stV, seval, IntWalk.iteOmega, IntWalk.toNatUp, reduceCtorEq]
  exact ret_f1 (by simp only [wx, wy, wz, stV, seval, IntWalk.iteOmega, IntWalk.toNatUp, reduceCtorEq])
theorem sec0_c (G : Glob) (hF : G.at 0 = some (.ra (firstK.map wD))) (hG : G.at 1 = some (.ra (constK.map wD))) (seed : List UInt8) (i c : Nat) (hs : seed.length = 32) (hi : i ≤ 2147483647) (hc : c < 35) : Den Tryd.prog G 111 [.sl (seed.map bD), .int .i64 (i : Int), .int .i64 (c : Int)] (.w (.c (.d (.sl ((secM seed i c).map bD))))) := den_ro (sec0_f G hF hG seed i c hs hi hc)
def sf_rshF : SFn := ⟨1, 6,
  .seq (.reg [⟨(some 2), .mv (.k (.c .nil)), none⟩])
  (.seq (.reg [⟨(some 3), .mv (.t 0), none⟩,
    ⟨(some 4), .call 61 [(.t 3)] (some (0, 1)), none⟩,
    ⟨(some 5), .slice 1 (.t 4) none (some (.k (.c (.d (.int .i64 16))))) none, none⟩,
    ⟨(some 2), .mv (.t 5), none⟩])
  (.ret)),
  [(2, none)]⟩
theorem cf_rshF : compFn Tryd.prog { own := [4], comp := [], frz := [], nils := [] } Tryd.f87 = some sf_rshF := by kernel_rfl
set_option maxHeartbeats 1600000 in
theorem rshF_f (G : Glob) (b : List UInt8) (hb : b.length ≤ 140737488355328) : Den Tryd.prog G 87 [.sl (b.map bD)] (.w (.c (.fr 1 ((shortK b).map bD)))) := by
  refine den_walk Tryd.func87 cf_rshF rfl rfl ?_
  have hl := sumK_len b
  have hs : (shortK b).map bD = ((sumK b).map bD).take 16 := by unfold shortK; rw [List.map_take]
  simp only [sf_rshF, putAll, wx, wy, wz, stV, seval, IntWalk.iteOmega, IntWalk.toNatUp, reduceCtorEq]
  refine st_call (rsum_c G b hb) rfl (.inl rfl) ?_
  simp only [wx, wy, wz, stV, seval, IntWalk.iteOmega, IntWalk.toNatUp, reduceCtorEq, hl]
  rw [hs]
  exact ret_ownN (id := 32) (n := 16) (s := 1) (by simp only [wx, stV, seval, IntWalk.iteOmega, IntWalk.toNatUp, reduceCtorEq]) (by simp only [wx, stV, seval, IntWalk.iteOmega, IntWalk.toNatUp, reduceCtorEq]) (by rw [List.length_map]; omega)
def sf_rsec : SFn := ⟨3, 31,
  .seq (.reg [⟨(some 6), .mv (.k (.c .nil)), none⟩,
    ⟨(some 7), .mv (.k (.c (.d (.int .i64 0)))), none⟩])
  (.seq (.seq (.reg [⟨(some 9), .mv (.t 0), none⟩,
    ⟨(some 10), .mv (.t 1), none⟩,
    ⟨(some 11), .call 83 [(.t 9), (.t 10)] none, none⟩,
    ⟨(some 8), .mv (.t 11), none⟩])
  (.seq (.reg [⟨(some 12), .mv (.t 8), none⟩,
    ⟨(some 13), .bin .neq (.t 12) (.k (.c (.d (.int .i64 0)))), none⟩])
  (.cond (.t 13) (.seq (.reg [⟨(some 14), .mv (.t 8), none⟩,
     ⟨(some 6), .mv (.k (.c .nil)), none⟩,
     ⟨(some 7), .mv (.t 14), none⟩])
   (.ret))
   (.skip))))
  (.seq (.seq (.reg [⟨(some 15), .mv (.t 2), none⟩,
    ⟨(some 16), .bin .lss (.t 15) (.k (.c (.d (.int .i64 0)))), none⟩,
    ⟨(some 17), .mv (.t 16), none⟩,
    ⟨(some 18), .mv (.t 2), (some (17, false))⟩,
    ⟨(some 19), .bin .geq (.t 18) (.k (.c (.d (.int .i64 35)))), (some (17, false))⟩,
    ⟨(some 20), .pick (.t 17) (.k (.c (.d (.bool true)))) (.t 19), none⟩])
  (.cond (.t 20) (.seq (.reg [⟨(some 6), .mv (.k (.c .nil)), none⟩,
     ⟨(some 7), .mv (.k (.c (.d (.int .i64 4)))), none⟩])
   (.ret))
   (.skip)))
  (.seq (.reg [⟨(some 21), .mv (.t 0), none⟩,
    ⟨(some 22), .mv (.t 1), none⟩,
    ⟨(some 23), .conv .u64 (.t 22), none⟩,
    ⟨(some 24), .call 51 [(.t 23), (.k (.c (.d (.int .i64 4))))] none, none⟩,
    ⟨(some 25), .mv (.t 2), none⟩,
    ⟨(some 26), .conv .u8 (.t 25), none⟩,
    ⟨(some 27), .bldSl false 1 1 (.int .u8 0) [(0, (.t 26))], none⟩,
    ⟨(some 28), .bldSl false 3 1 (.sl []) [(0, (.t 21)), (1, (.t 24)), (2, (.t 27))], none⟩,
    ⟨(some 29), .call 41 [(.t 28)] none, none⟩,
    ⟨(some 30), .call 87 [(.t 29)] (some (0, 1)), none⟩,
    ⟨(some 6), .mv (.t 30), none⟩,
    ⟨(some 7), .mv (.k (.c (.d (.int .i64 0)))), none⟩])
  (.ret)))),
  [(6, none), (7, none)]⟩
theorem cf_rsec : compFn Tryd.prog { own := [30], comp := [], frz := [], nils := [] } Tryd.f85 = some sf_rsec := by kernel_rfl
set_option maxHeartbeats 1600000 in
theorem rsec_f (G : Glob) (seed : List UInt8) (index chain : Int) : Den Tryd.prog G 85 [.sl (seed.map bD), .int .i64 index, .int .i64 chain] (.tup [.c (.fr 1 ((secV seed index chain).map bD)), .c (.d (.int .i64 (secE seed index chain)))]) := by
  refine den_walk Tryd.func85 cf_rsec rfl rfl ?_
  have hk := rochk_c G seed index
  by_cases h : chkE seed index = 0
  · obtain ⟨k1, k2, k3⟩ := chkE_ok h
    rw [h] at hk
    by_cases h1 : chain < 0
    · have hE : secE seed index chain = 4 := by unfold secE; rw [if_pos h, if_pos (.inl h1)]
      have hV : secV seed index chain = [] := if_neg (by rw [hE]; decide)
      rw [hE, hV]
      simp only [sf_rsec, putAll, wx, wy, wz, stV, seval, IntWalk.iteOmega, IntWalk.toNatUp, reduceCtorEq]
      refine st_call (hk) rfl (.inl rfl) ?_
      simp only [wx, wy, wz, stV, seval, IntWalk.iteOmega, IntWalk.toNatUp, reduceCtorEq]
      exact ret_f2 (by simp only [wx, wy, wz, stV, seval, IntWalk.iteOmega, IntWalk.toNatUp, reduceCtorEq]) (by simp only [wx, wy, wz, stV, seval, IntWalk.iteOmega, IntWalk.toNatUp, reduceCtorEq])
    · by_cases h2 : 35 ≤ chain
      · have hE : secE seed index chain = 4 := by unfold secE; rw [if_pos h, if_pos (.inr h2)]
        have hV : secV seed index chain = [] := if_neg (by rw [hE]; decide)
        rw [hE, hV]
        simp only [sf_rsec, putAll, wx, wy, wz, stV, seval, IntWalk.iteOmega, IntWalk.toNatUp, reduceCtorEq]
        refine st_call (hk) rfl (.inl rfl) ?_
        simp only [wx, wy, wz, stV, seval, IntWalk.iteOmega, IntWalk.toNatUp, reduceCtorEq]
        exact ret_f2 (by simp only [wx, wy, wz, stV, seval, IntWalk.iteOmega, IntWalk.toNatUp, reduceCtorEq]) (by simp only [wx, wy, wz, stV, seval, IntWalk.iteOmega, IntWalk.toNatUp, reduceCtorEq])
      · have hE : secE seed index chain = 0 := by unfold secE; rw [if_pos h, if_neg (by omega)]
        have hV : secV seed index chain = secM seed index.toNat chain.toNat := if_pos hE
        rw [hE, hV]
        obtain ⟨i, rfl⟩ := Int.eq_ofNat_of_zero_le k2
        obtain ⟨c, rfl⟩ := Int.eq_ofNat_of_zero_le (by omega : 0 ≤ chain)
        have e1 : ((i : Int).toNat) = i := rfl
        have e2 : ((c : Int).toNat) = c := rfl
        rw [e1, e2]
        have p1 := rput_in G i 4 (by decide)
        have hj := rjoin_c G [seed, putL i 4, [UInt8.ofNat c]] (by simp) (by simp [putL_length]; omega)
        have hf : [seed, putL i 4, [UInt8.ofNat c]].flatten = seed ++ putL i 4 ++ [UInt8.ofNat c] := by simp
        rw [hf] at hj
        have hh := rshF_f G (seed ++ putL i 4 ++ [UInt8.ofNat c]) (by simp [putL_length]; omega)
        have hm : shortK (seed ++ putL i 4 ++ [UInt8.ofNat c]) = secM seed i c := rfl
        rw [hm] at hh
        have hbo := byte_of c
        have w1 : IntKind.u64.wrap (i : Int) = (i : Int) := by rw [IntKind.wrap_u64]; omega
        have w2 : IntKind.u8.wrap (c : Int) = (c : Int) := by rw [IntKind.wrap_u8]; omega
        rw [w2] at hbo
        simp only [List.map_cons, List.map_nil] at hj
        rw [← hbo] at hj
        generalize seed ++ putL i 4 ++ [UInt8.ofNat c] = z at *
        simp only [sf_rsec, putAll, wx, wy, wz, stV, seval, IntWalk.iteOmega, IntWalk.toNatUp, reduceCtorEq, w1]
        refine st_call (hk) rfl (.inl rfl) ?_
        simp only [w1, wx, wy, wz, stV, seval, IntWalk.iteOmega, IntWalk.toNatUp, reduceCtorEq]
        refine st_call (p1) rfl (.inl rfl) ?_
        simp only [wx, wy, wz, stV, seval, IntWalk.iteOmega, IntWalk.toNatUp, reduceCtorEq]
        refine st_call (hj) rfl (.inl rfl) ?_
        simp only [wx, wy, wz, stV, seval, IntWalk.iteOmega, IntWalk.toNatUp, reduceCtorEq]
        refine st_call (hh) rfl (.inl rfl) ?_
        simp only [wx, wy, wz, stV, seval, IntWalk.iteOmega, IntWalk.toNatUp, reduceCtorEq]
        exact ret_f2 (by simp only [wx, wy, wz, stV, seval, IntWalk.iteOmega, IntWalk.toNatUp, reduceCtorEq]) (by simp only [wx, wy, wz, stV, seval, IntWalk.iteOmega, IntWalk.toNatUp, reduceCtorEq])
  · have hE : secE seed index chain = chkE seed index := if_neg h
    have hV : secV seed index chain = [] := if_neg (by rw [hE]; exact h)
    rw [hE, hV]
    generalize chkE seed index = e at *
    simp only [sf_rsec, putAll, wx, wy, wz, stV, seval, IntWalk.iteOmega, IntWalk.toNatUp, reduceCtorEq]
    refine st_call (hk) rfl (.inl rfl) ?_
    simp only [wx, wy, wz, stV, seval, IntWalk.iteOmega, IntWalk.toNatUp, reduceCtorEq]
    exact ret_f2 (by simp only [wx, wy, wz, stV, seval, IntWalk.iteOmega, IntWalk.toNatUp, reduceCtorEq]) (by simp only [wx, wy, wz, stV, seval, IntWalk.iteOmega, IntWalk.toNatUp, reduceCtorEq])
theorem rsec_c (G : Glob) (seed : List UInt8) (index chain : Int) : Den Tryd.prog G 85 [.sl (seed.map bD), .int .i64 index, .int .i64 chain] (.tup [.c (.d (.sl ((secV seed index chain).map bD))), .c (.d (.int .i64 (secE seed index chain)))]) := den_ro2 (rsec_f G seed index chain)
end Go.Proofs.YtjgkchmdhicmpaaDoor
set_option linter.unusedVariables false
set_option linter.unusedSimpArgs false
namespace Go.Proofs.YtjgkchmdhicmpaaDoor
open Go.RowKit

/-! ### Hexadecimal digits read -/
def isDig (c : UInt8) : Bool := (decide (48 ≤ c.toNat) && decide (c.toNat ≤ 57)) || (decide (97 ≤ c.toNat) && decide (c.toNat ≤ 102))
def digV (c : UInt8) : UInt8 := if 48 ≤ c.toNat ∧ c.toNat ≤ 57 then UInt8.ofNat (c.toNat - 48) else if 97 ≤ c.toNat ∧ c.toNat ≤ 102 then UInt8.ofNat (c.toNat - 87) else 0
theorem bD_ofNat {i : Nat} (h : i < 256) : bD (UInt8.ofNat i) = .int .u8 (i : Int) := by
  unfold bD; rw [UInt8.toNat_ofNat_of_lt' (by simpa [UInt8.size] using h)]
theorem dig_a {c : UInt8} (h : 48 ≤ c.toNat ∧ c.toNat ≤ 57) : isDig c = true ∧ D.int .u8 ((c.toNat : Int) - 48) = bD (digV c) := by
  refine ⟨by simp [isDig, h.1, h.2], ?_⟩
  unfold digV
  rw [if_pos h, bD_ofNat (by omega)]
  congr 1; omega
theorem dig_b {c : UInt8} (h : 97 ≤ c.toNat ∧ c.toNat ≤ 102) : isDig c = true ∧ D.int .u8 ((c.toNat : Int) - 97 + 10) = bD (digV c) := by
  refine ⟨by simp [isDig, h.1, h.2], ?_⟩
  unfold digV
  rw [if_neg (by omega), if_pos h, bD_ofNat (by omega)]
  congr 1; omega
theorem dig_n {c : UInt8} (h1 : ¬ (48 ≤ c.toNat ∧ c.toNat ≤ 57)) (h2 : ¬ (97 ≤ c.toNat ∧ c.toNat ≤ 102)) : isDig c = false ∧ D.int .u8 0 = bD (digV c) := by
  refine ⟨?_, ?_⟩
  · unfold isDig
    rw [Bool.or_eq_false_iff]
    constructor
    · rw [← Bool.decide_and]; exact decide_eq_false h1
    · rw [← Bool.decide_and]; exact decide_eq_false h2
  · unfold digV; rw [if_neg h1, if_neg h2]; rfl
def hexV (l : List UInt8) (j : Nat) : UInt8 := orB (shlB (digV (l.getD (2 * j) 0)) 4) (digV (l.getD (2 * j + 1) 0))
def hexO (l : List UInt8) (j : Nat) : Bool := isDig (l.getD (2 * j) 0) && isDig (l.getD (2 * j + 1) 0)
def unhP (l : List UInt8) (j : Nat) : List UInt8 := (List.range j).map (hexV l)
def unhO (l : List UInt8) : Bool := decide (l.length % 2 = 0) && (List.range (l.length / 2)).all (hexO l)
def unhL (l : List UInt8) : List UInt8 := if unhO l = true then unhP l (l.length / 2) else []
theorem unhP_len (l : List UInt8) (j : Nat) : (unhP l j).length = j := by unfold unhP; rw [List.length_map, List.length_range]
theorem unhP_step (l : List UInt8) (j : Nat) : unhP l j ++ [hexV l j] = unhP l (j + 1) := by unfold unhP; rw [List.range_succ, List.map_append]; rfl
def unhSt (s : ByteArray) (j : Nat) : St := ⟨ofL [(0, .w (.c (.d (.str s)))), (4, .w (.c (.own 1 1 0 j))), (5, .w (.c (.d (.int .i64 ((2 * j : Nat) : Int)))))], hL [(1, .row 1 ((unhP s.data.toList j).map bD))], uL [1]⟩

/-! ### Lists of bytes that are the same -/
def slistB (l : List UInt8) : D := .sl (l.map bD)
def slsSt (a b : List (List UInt8)) (i : Nat) : St := ⟨ofL [(0, .w (.c (.d (.sl (a.map slistB))))), (1, .w (.c (.d (.sl (b.map slistB))))), (5, .w (.c (.d (.int .i64 (i : Int)))))], hL [], uL []⟩
end Go.Proofs.YtjgkchmdhicmpaaDoor
set_option linter.unusedVariables false
set_option linter.unusedSimpArgs false
namespace Go.Proofs.YtjgkchmdhicmpaaDoor
open Go.RowKit

def leafM (b : List UInt8) : List UInt8 := sumK (0 :: b)
def nodeM (l r : List UInt8) : List UInt8 := sumK (1 :: (l ++ r))
/-! ### The greatest power of two below a number -/
def splitN (n : Nat) : Nat := 2 ^ Nat.log2 (n - 1)
theorem split_eq {n j : Nat} (h1 : 2 ^ j < n) (h2 : n ≤ 2 ^ (j + 1)) : splitN n = 2 ^ j := by
  have : Nat.log2 (n - 1) = j := by
    have hp := Nat.two_pow_pos j
    rw [Nat.log2_eq_iff (by omega)]
    omega
  unfold splitN; rw [this]
theorem split_pos (n : Nat) : 1 ≤ splitN n := Nat.two_pow_pos _
theorem split_lt {n : Nat} (h : 2 ≤ n) : splitN n < n := by
  have := Nat.log2_self_le (n := n - 1) (by omega)
  unfold splitN; omega
theorem split_le {n : Nat} (h : 2 ≤ n) : n ≤ 2 * splitN n := by
  have := Nat.lt_log2_self (n := n - 1)
  unfold splitN; rw [Nat.pow_succ] at this; omega
/-- A number between the first part and the whole is divided at the same place. -/
theorem split_mid {n m : Nat} (h : 2 ≤ n) (h1 : splitN n < m) (h2 : m ≤ n) : splitN m = splitN n := by
  have := split_le h
  unfold splitN at h1 this ⊢
  exact split_eq h1 (by rw [Nat.pow_succ]; omega)
/-! ### Roots, paths -/
def rootM (l : List (List UInt8)) : List UInt8 :=
  if l.length = 0 then sumK [] else if l.length = 1 then leafM (l.getD 0 []) else nodeM (rootM (l.take (splitN l.length))) (rootM (l.drop (splitN l.length)))
termination_by l.length
decreasing_by
  · have := split_lt (n := l.length) (by omega); rw [List.length_take]; omega
  · have := split_pos l.length; rw [List.length_drop]; omega
theorem root_0 {l : List (List UInt8)} (h : l.length = 0) : rootM l = sumK [] := by rw [rootM, if_pos h]
theorem root_1 {l : List (List UInt8)} (h : l.length = 1) : rootM l = leafM (l.getD 0 []) := by rw [rootM, if_neg (by omega), if_pos h]
theorem root_2 {l : List (List UInt8)} (h : 2 ≤ l.length) : rootM l = nodeM (rootM (l.take (splitN l.length))) (rootM (l.drop (splitN l.length))) := by rw [rootM, if_neg (by omega), if_neg (by omega)]
def pathM (l : List (List UInt8)) (i : Nat) : List (List UInt8) :=
  if l.length ≤ 1 then [] else if i < splitN l.length then pathM (l.take (splitN l.length)) i ++ [rootM (l.drop (splitN l.length))] else pathM (l.drop (splitN l.length)) (i - splitN l.length) ++ [rootM (l.take (splitN l.length))]
termination_by l.length
decreasing_by
  · have := split_lt (n := l.length) (by omega); rw [List.length_take]; omega
  · have := split_pos l.length; rw [List.length_drop]; omega
theorem path_1 {l : List (List UInt8)} (h : l.length ≤ 1) (i : Nat) : pathM l i = [] := by rw [pathM, if_pos h]
theorem path_lo {l : List (List UInt8)} (h : 2 ≤ l.length) {i : Nat} (hi : i < splitN l.length) : pathM l i = pathM (l.take (splitN l.length)) i ++ [rootM (l.drop (splitN l.length))] := by rw [pathM, if_neg (by omega), if_pos hi]
theorem path_hi {l : List (List UInt8)} (h : 2 ≤ l.length) {i : Nat} (hi : ¬ i < splitN l.length) : pathM l i = pathM (l.drop (splitN l.length)) (i - splitN l.length) ++ [rootM (l.take (splitN l.length))] := by rw [pathM, if_neg (by omega), if_neg hi]
def depthM (n i : Nat) : Nat := if n ≤ 1 then 0 else if i < splitN n then depthM (splitN n) i + 1 else depthM (n - splitN n) (i - splitN n) + 1
termination_by n
decreasing_by
  · exact split_lt (by omega)
  · have := split_pos n; omega
theorem depth_1 {n : Nat} (h : n ≤ 1) (i : Nat) : depthM n i = 0 := by rw [depthM, if_pos h]
theorem depth_lo {n i : Nat} (h : 2 ≤ n) (hi : i < splitN n) : depthM n i = depthM (splitN n) i + 1 := by rw [depthM, if_neg (by omega), if_pos hi]
theorem depth_hi {n i : Nat} (h : 2 ≤ n) (hi : ¬ i < splitN n) : depthM n i = depthM (n - splitN n) (i - splitN n) + 1 := by rw [depthM, if_neg (by omega), if_neg hi]
def climbM (n i : Nat) (leaf : List UInt8) (p : List (List UInt8)) : List UInt8 :=
  if n ≤ 1 then leafM leaf else if i < splitN n then nodeM (climbM (splitN n) i leaf p) (p.getD (depthM (splitN n) i) []) else nodeM (p.getD (depthM (n - splitN n) (i - splitN n)) []) (climbM (n - splitN n) (i - splitN n) leaf p)
termination_by n
decreasing_by
  · exact split_lt (by omega)
  · have := split_pos n; omega
theorem climb_1 {n : Nat} (h : n ≤ 1) (i : Nat) (leaf : List UInt8) (p : List (List UInt8)) : climbM n i leaf p = leafM leaf := by rw [climbM, if_pos h]
theorem climb_lo {n i : Nat} (h : 2 ≤ n) (hi : i < splitN n) (leaf : List UInt8) (p : List (List UInt8)) : climbM n i leaf p = nodeM (climbM (splitN n) i leaf p) (p.getD (depthM (splitN n) i) []) := by rw [climbM, if_neg (by omega), if_pos hi]
theorem climb_hi {n i : Nat} (h : 2 ≤ n) (hi : ¬ i < splitN n) (leaf : List UInt8) (p : List (List UInt8)) : climbM n i leaf p = nodeM (p.getD (depthM (n - splitN n) (i - splitN n)) []) (climbM (n - splitN n) (i - splitN n) leaf p) := by rw [climbM, if_neg (by omega), if_neg hi]
theorem getD_app {p q : List (List UInt8)} {j : Nat} (h : j < p.length) : (p ++ q).getD j [] = p.getD j [] := by
  rw [List.getD_eq_getElem?_getD, List.getD_eq_getElem?_getD, List.getElem?_append_left h]
theorem getD_end {p : List (List UInt8)} {x : List UInt8} {j : Nat} (h : p.length = j) : (p ++ [x]).getD j [] = x := by
  rw [List.getD_eq_getElem?_getD, List.getElem?_append_right (by omega), h, Nat.sub_self]; rfl
/-- Only so many elements count. -/
theorem climb_app (leaf : List UInt8) (p q : List (List UInt8)) : ∀ (n i : Nat), depthM n i ≤ p.length → climbM n i leaf (p ++ q) = climbM n i leaf p := by
  intro n
  induction n using Nat.strongRecOn with
  | _ n ih =>
    intro i hd
    by_cases h : 2 ≤ n
    · by_cases hi : i < splitN n
      · rw [depth_lo h hi] at hd
        rw [climb_lo h hi, climb_lo h hi, ih _ (split_lt h) i (by omega), getD_app (by omega)]
      · rw [depth_hi h hi] at hd
        have := split_pos n
        rw [climb_hi h hi, climb_hi h hi, ih _ (by omega) _ (by omega), getD_app (by omega)]
    · rw [climb_1 (by omega), climb_1 (by omega)]
theorem path_len : ∀ (n : Nat) (l : List (List UInt8)) (i : Nat), l.length = n → i < n → (pathM l i).length = depthM n i := by
  intro n
  induction n using Nat.strongRecOn with
  | _ n ih =>
    intro l i hl hi
    subst hl
    by_cases h : 2 ≤ l.length
    · have h1 := split_pos l.length
      have h2 := split_lt h
      by_cases hk : i < splitN l.length
      · rw [path_lo h hk, depth_lo h hk, List.length_append, ih _ h2 _ i (by rw [List.length_take]; omega) hk]; rfl
      · rw [path_hi h hk, depth_hi h hk, List.length_append, ih _ (by omega) _ _ List.length_drop (by omega)]; rfl
    · rw [path_1 (by omega), depth_1 (by omega)]; rfl
/-- A path leads to the root. -/
theorem climb_path : ∀ (n : Nat) (l : List (List UInt8)) (i : Nat), l.length = n → i < n → climbM n i (l.getD i []) (pathM l i) = rootM l := by
  intro n
  induction n using Nat.strongRecOn with
  | _ n ih =>
    intro l i hl hi
    subst hl
    by_cases h : 2 ≤ l.length
    · have h1 := split_pos l.length
      have h2 := split_lt h
      by_cases hk : i < splitN l.length
      · have hl1 : (l.take (splitN l.length)).length = splitN l.length := by rw [List.length_take]; omega
        have e1 := path_len _ _ i hl1 hk
        have e2 := ih _ h2 _ i hl1 hk
        have e3 : (l.take (splitN l.length)).getD i [] = l.getD i [] := by rw [List.getD_eq_getElem?_getD, List.getD_eq_getElem?_getD, List.getElem?_take, if_pos hk]
        rw [e3] at e2
        rw [path_lo h hk, climb_lo h hk, root_2 h, climb_app _ _ _ _ _ (by omega), e2, getD_end e1]
      · have hl1 : (l.drop (splitN l.length)).length = l.length - splitN l.length := List.length_drop
        have e1 := path_len _ _ (i - splitN l.length) hl1 (by omega)
        have e2 := ih _ (by omega) _ (i - splitN l.length) hl1 (by omega)
        have e3 : (l.drop (splitN l.length)).getD (i - splitN l.length) [] = l.getD i [] := by rw [List.getD_eq_getElem?_getD, List.getD_eq_getElem?_getD, List.getElem?_drop, show splitN l.length + (i - splitN l.length) = i by omega]
        rw [e3] at e2
        rw [path_hi h hk, climb_hi h hk, root_2 h, climb_app _ _ _ _ _ (by omega), e2, getD_end e1]
    · rw [path_1 (by omega), climb_1 (by omega), root_1 (by omega), show i = 0 by omega]
/-! ### How deep -/
def levN (n : Nat) : Nat := if n ≤ 1 then 0 else Nat.log2 (n - 1) + 1
theorem lev_pow (j : Nat) : levN (2 ^ j) = j := by
  unfold levN
  have hp := Nat.two_pow_pos j
  cases j with
  | zero => rfl
  | succ j =>
    have h2 : 2 ^ (j + 1) = 2 * 2 ^ j := by rw [Nat.pow_succ]; omega
    have hp := Nat.two_pow_pos j
    rw [if_neg (by omega)]
    have : Nat.log2 (2 ^ (j + 1) - 1) = j := by
      rw [Nat.log2_eq_iff (by omega)]
      omega
    rw [this]
theorem lev_split {n : Nat} (h : 2 ≤ n) : levN n = levN (splitN n) + 1 := by
  unfold splitN
  rw [lev_pow]
  unfold levN
  rw [if_neg (by omega)]
theorem lev_le (n : Nat) : n ≤ 2 ^ levN n := by
  unfold levN
  split
  · simpa using ‹_›
  · have := Nat.lt_log2_self (n := n - 1); omega
theorem lev_mono {m n : Nat} (h : m ≤ n) : levN m ≤ levN n := by
  unfold levN
  split
  · exact Nat.zero_le _
  · rw [if_neg (by omega)]
    have h1 := Nat.log2_self_le (n := m - 1) (by omega)
    have h2 := Nat.lt_log2_self (n := n - 1)
    have : 2 ^ Nat.log2 (m - 1) < 2 ^ (Nat.log2 (n - 1) + 1) := by omega
    have := (Nat.pow_lt_pow_iff_right (by decide)).1 this
    omega
theorem depth_lev : ∀ (n i : Nat), depthM n i ≤ levN n := by
  intro n
  induction n using Nat.strongRecOn with
  | _ n ih =>
    intro i
    by_cases h : 2 ≤ n
    · have h1 := split_pos n
      have h2 := split_le h
      rw [lev_split h]
      by_cases hi : i < splitN n
      · have := ih _ (split_lt h) i
        rw [depth_lo h hi]; omega
      · have h3 := ih _ (show n - splitN n < n by omega) (i - splitN n)
        have h4 := lev_mono (show n - splitN n ≤ splitN n by omega)
        rw [depth_hi h hi]; omega
    · rw [depth_1 (by omega)]; exact Nat.zero_le _
theorem depth_0 : ∀ (n : Nat), depthM n 0 = levN n := by
  intro n
  induction n using Nat.strongRecOn with
  | _ n ih =>
    by_cases h : 2 ≤ n
    · rw [depth_lo h (split_pos n), lev_split h, ih _ (split_lt h)]
    · rw [depth_1 (by omega)]; unfold levN; rw [if_pos (by omega)]
theorem depth_last (j : Nat) : depthM (2 ^ j) (2 ^ j - 1) = j := by
  induction j with
  | zero => exact depth_1 (by decide) _
  | succ j ih =>
    have hp := Nat.two_pow_pos j
    have h2 : 2 ^ (j + 1) = 2 * 2 ^ j := by rw [Nat.pow_succ]; omega
    have hs : splitN (2 ^ (j + 1)) = 2 ^ j := split_eq (by omega) (Nat.le_refl _)
    rw [depth_hi (by omega) (by omega), hs, show 2 ^ (j + 1) - 2 ^ j = 2 ^ j by omega, show 2 ^ (j + 1) - 1 - 2 ^ j = 2 ^ j - 1 by omega, ih]
/-- The last path ends at the root of the full part. -/
theorem path_last {l : List (List UInt8)} (h : 2 ≤ l.length) : ∃ q, pathM l (l.length - 1) = q ++ [rootM (l.take (splitN l.length))] := by
  have := split_lt h
  exact ⟨_, path_hi h (by omega)⟩
/-! ### Growth -/
def proofM (m : Nat) (l : List (List UInt8)) (whole : Bool) : List (List UInt8) :=
  if l.length ≤ m then (if whole then [] else [rootM l]) else if l.length ≤ 1 then [] else if m ≤ splitN l.length then proofM m (l.take (splitN l.length)) whole ++ [rootM (l.drop (splitN l.length))] else proofM (m - splitN l.length) (l.drop (splitN l.length)) false ++ [rootM (l.take (splitN l.length))]
termination_by l.length
decreasing_by
  · have := split_lt (n := l.length) (by omega); rw [List.length_take]; omega
  · have := split_pos l.length; rw [List.length_drop]; omega
theorem proof_all {m : Nat} {l : List (List UInt8)} (h : m = l.length) (whole : Bool) : proofM m l whole = if whole then [] else [rootM l] := by rw [proofM, if_pos (by omega)]
theorem proof_lo {m : Nat} {l : List (List UInt8)} (h0 : 1 ≤ m) (h : m < l.length) (hk : m ≤ splitN l.length) (whole : Bool) : proofM m l whole = proofM m (l.take (splitN l.length)) whole ++ [rootM (l.drop (splitN l.length))] := by
  rw [proofM, if_neg (by omega), if_neg (by omega), if_pos hk]
theorem proof_hi {m : Nat} {l : List (List UInt8)} (h0 : 1 ≤ m) (h : m < l.length) (hk : ¬ m ≤ splitN l.length) (whole : Bool) : proofM m l whole = proofM (m - splitN l.length) (l.drop (splitN l.length)) false ++ [rootM (l.take (splitN l.length))] := by
  rw [proofM, if_neg (by omega), if_neg (by omega), if_neg hk]
def plenM (m n : Nat) (whole : Bool) : Nat := if n ≤ m then (if whole then 0 else 1) else if n ≤ 1 then 0 else if m ≤ splitN n then plenM m (splitN n) whole + 1 else plenM (m - splitN n) (n - splitN n) false + 1
termination_by n
decreasing_by
  · exact split_lt (by omega)
  · have := split_pos n; omega
theorem plen_all {m n : Nat} (h : m = n) (whole : Bool) : plenM m n whole = if whole then 0 else 1 := by rw [plenM, if_pos (by omega)]
theorem plen_lo {m n : Nat} (h0 : 1 ≤ m) (h : m < n) (hk : m ≤ splitN n) (whole : Bool) : plenM m n whole = plenM m (splitN n) whole + 1 := by rw [plenM, if_neg (by omega), if_neg (by omega), if_pos hk]
theorem plen_hi {m n : Nat} (h0 : 1 ≤ m) (h : m < n) (hk : ¬ m ≤ splitN n) (whole : Bool) : plenM m n whole = plenM (m - splitN n) (n - splitN n) false + 1 := by rw [plenM, if_neg (by omega), if_neg (by omega), if_neg hk]
/-- Both roots that a proof gives. -/
def grownM (m n : Nat) (whole : Bool) (old : List UInt8) (p : List (List UInt8)) : List UInt8 × List UInt8 :=
  if n ≤ m then (if whole then (old, old) else (p.getD 0 [], p.getD 0 [])) else if n ≤ 1 then ([], []) else if m ≤ splitN n then ((grownM m (splitN n) whole old p).1, nodeM (grownM m (splitN n) whole old p).2 (p.getD (plenM m (splitN n) whole) [])) else (nodeM (p.getD (plenM (m - splitN n) (n - splitN n) false) []) (grownM (m - splitN n) (n - splitN n) false old p).1, nodeM (p.getD (plenM (m - splitN n) (n - splitN n) false) []) (grownM (m - splitN n) (n - splitN n) false old p).2)
termination_by n
decreasing_by
  all_goals first | (have := split_pos n; omega) | exact split_lt (by omega)
theorem grown_all {m n : Nat} (h : m = n) (whole : Bool) (old : List UInt8) (p : List (List UInt8)) : grownM m n whole old p = if whole then (old, old) else (p.getD 0 [], p.getD 0 []) := by rw [grownM, if_pos (by omega)]
theorem grown_lo {m n : Nat} (h0 : 1 ≤ m) (h : m < n) (hk : m ≤ splitN n) (whole : Bool) (old : List UInt8) (p : List (List UInt8)) : grownM m n whole old p = ((grownM m (splitN n) whole old p).1, nodeM (grownM m (splitN n) whole old p).2 (p.getD (plenM m (splitN n) whole) [])) := by rw [grownM, if_neg (by omega), if_neg (by omega), if_pos hk]
theorem grown_hi {m n : Nat} (h0 : 1 ≤ m) (h : m < n) (hk : ¬ m ≤ splitN n) (whole : Bool) (old : List UInt8) (p : List (List UInt8)) : grownM m n whole old p = (nodeM (p.getD (plenM (m - splitN n) (n - splitN n) false) []) (grownM (m - splitN n) (n - splitN n) false old p).1, nodeM (p.getD (plenM (m - splitN n) (n - splitN n) false) []) (grownM (m - splitN n) (n - splitN n) false old p).2) := by rw [grownM, if_neg (by omega), if_neg (by omega), if_neg hk]
theorem plen_pos : ∀ (n m : Nat), 1 ≤ m → m ≤ n → 1 ≤ plenM m n false := by
  intro n m h0 h
  by_cases hm : m = n
  · rw [plen_all hm]; decide
  · by_cases hk : m ≤ splitN n
    · rw [plen_lo h0 (by omega) hk]; omega
    · rw [plen_hi h0 (by omega) hk]; omega
theorem grown_app (old : List UInt8) (p q : List (List UInt8)) : ∀ (n m : Nat) (whole : Bool), 1 ≤ m → m ≤ n → plenM m n whole ≤ p.length → grownM m n whole old (p ++ q) = grownM m n whole old p := by
  intro n
  induction n using Nat.strongRecOn with
  | _ n ih =>
    intro m whole h0 h hd
    by_cases hm : m = n
    · rw [plen_all hm] at hd
      rw [grown_all hm, grown_all hm]
      cases whole
      · simp only [Bool.false_eq_true, if_false] at hd ⊢
        rw [getD_app (by omega)]
      · rfl
    · have h1 := split_pos n
      have h2 := split_lt (n := n) (by omega)
      by_cases hk : m ≤ splitN n
      · rw [plen_lo h0 (by omega) hk] at hd
        rw [grown_lo h0 (by omega) hk, grown_lo h0 (by omega) hk, ih _ h2 m whole h0 hk (by omega), getD_app (by omega)]
      · rw [plen_hi h0 (by omega) hk] at hd
        rw [grown_hi h0 (by omega) hk, grown_hi h0 (by omega) hk, ih _ (by omega) _ false (by omega) (by omega) (by omega), getD_app (by omega)]
theorem proof_len : ∀ (n : Nat) (l : List (List UInt8)) (m : Nat) (whole : Bool), l.length = n → 1 ≤ m → m ≤ n → (proofM m l whole).length = plenM m n whole := by
  intro n
  induction n using Nat.strongRecOn with
  | _ n ih =>
    intro l m whole hl h0 h
    subst hl
    by_cases hm : m = l.length
    · rw [proof_all hm, plen_all hm]
      cases whole <;> rfl
    · have h1 := split_pos l.length
      have h2 := split_lt (n := l.length) (by omega)
      by_cases hk : m ≤ splitN l.length
      · rw [proof_lo h0 (by omega) hk, plen_lo h0 (by omega) hk, List.length_append, ih _ h2 _ m whole (by rw [List.length_take]; omega) h0 hk]; rfl
      · rw [proof_hi h0 (by omega) hk, plen_hi h0 (by omega) hk, List.length_append, ih _ (by omega) _ _ false List.length_drop (by omega) (by omega)]; rfl
/-- A proof gives both roots. -/
theorem grown_proof : ∀ (n : Nat) (l : List (List UInt8)) (m : Nat) (whole : Bool) (old : List UInt8), l.length = n → 1 ≤ m → m ≤ n → (whole = true → old = rootM (l.take m)) → grownM m n whole old (proofM m l whole) = (rootM (l.take m), rootM l) := by
  intro n
  induction n using Nat.strongRecOn with
  | _ n ih =>
    intro l m whole old hl h0 h ho
    subst hl
    by_cases hm : m = l.length
    · rw [proof_all hm, grown_all hm]
      have ht : l.take m = l := List.take_of_length_le (by omega)
      rw [ht] at ho ⊢
      cases whole
      · rfl
      · rw [ho rfl]; rfl
    · have h1 := split_pos l.length
      have h2 := split_lt (n := l.length) (by omega)
      by_cases hk : m ≤ splitN l.length
      · have hl1 : (l.take (splitN l.length)).length = splitN l.length := by rw [List.length_take]; omega
        have ht : (l.take (splitN l.length)).take m = l.take m := by rw [List.take_take, Nat.min_eq_left hk]
        have e1 := ih _ h2 _ m whole old hl1 h0 hk (by rw [ht]; exact ho)
        have e2 := proof_len _ _ m whole hl1 h0 hk
        rw [ht] at e1
        rw [proof_lo h0 (by omega) hk, grown_lo h0 (by omega) hk, grown_app _ _ _ _ _ _ h0 hk (by omega), e1, getD_end e2, ← root_2 (by omega)]
      · have hl1 : (l.drop (splitN l.length)).length = l.length - splitN l.length := List.length_drop
        have e1 := ih _ (by omega) _ (m - splitN l.length) false old hl1 (by omega) (by omega) (by intro h; cases h)
        have e2 := proof_len _ _ (m - splitN l.length) false hl1 (by omega) (by omega)
        have hml : (l.take m).length = m := by rw [List.length_take]; omega
        have hs : splitN m = splitN l.length := split_mid (by omega) (by omega) (by omega)
        have hr : rootM (l.take m) = nodeM (rootM (l.take (splitN l.length))) (rootM ((l.drop (splitN l.length)).take (m - splitN l.length))) := by
          rw [root_2 (l := l.take m) (by omega), hml, hs, List.take_take, Nat.min_eq_left (by omega), List.drop_take]
        rw [proof_hi h0 (by omega) hk, grown_hi h0 (by omega) hk, grown_app _ _ _ _ _ _ (by omega) (by omega) (by omega), e1, getD_end e2, hr, ← root_2 (by omega)]
end Go.Proofs.YtjgkchmdhicmpaaDoor
set_option linter.unusedVariables false
set_option linter.unusedSimpArgs false
namespace Go.Proofs.YtjgkchmdhicmpaaDoor
open Go.RowKit

/-! ### The way up from a tree of s leaves with leaf i -/
def wayM (n i s : Nat) : List Bool := if n ≤ s then [] else if n ≤ 1 then [] else if i < splitN n then wayM (splitN n) i s ++ [false] else wayM (n - splitN n) (i - splitN n) s ++ [true]
termination_by n
decreasing_by
  · exact split_lt (by omega)
  · have := split_pos n; omega
theorem way_0 {n s : Nat} (h : n ≤ s) (i : Nat) : wayM n i s = [] := by rw [wayM, if_pos h]
theorem way_lo {n i s : Nat} (h0 : 1 ≤ s) (h : s < n) (hi : i < splitN n) : wayM n i s = wayM (splitN n) i s ++ [false] := by rw [wayM, if_neg (by omega), if_neg (by omega), if_pos hi]
theorem way_hi {n i s : Nat} (h0 : 1 ≤ s) (h : s < n) (hi : ¬ i < splitN n) : wayM n i s = wayM (n - splitN n) (i - splitN n) s ++ [true] := by rw [wayM, if_neg (by omega), if_neg (by omega), if_neg hi]
def othM (l : List (List UInt8)) (i s : Nat) : List (List UInt8) :=
  if l.length ≤ s then [] else if l.length ≤ 1 then [] else if i < splitN l.length then othM (l.take (splitN l.length)) i s ++ [rootM (l.drop (splitN l.length))] else othM (l.drop (splitN l.length)) (i - splitN l.length) s ++ [rootM (l.take (splitN l.length))]
termination_by l.length
decreasing_by
  · have := split_lt (n := l.length) (by omega); rw [List.length_take]; omega
  · have := split_pos l.length; rw [List.length_drop]; omega
theorem oth_0 {l : List (List UInt8)} {s : Nat} (h : l.length ≤ s) (i : Nat) : othM l i s = [] := by rw [othM, if_pos h]
theorem oth_lo {l : List (List UInt8)} {i s : Nat} (h0 : 1 ≤ s) (h : s < l.length) (hi : i < splitN l.length) : othM l i s = othM (l.take (splitN l.length)) i s ++ [rootM (l.drop (splitN l.length))] := by rw [othM, if_neg (by omega), if_neg (by omega), if_pos hi]
theorem oth_hi {l : List (List UInt8)} {i s : Nat} (h0 : 1 ≤ s) (h : s < l.length) (hi : ¬ i < splitN l.length) : othM l i s = othM (l.drop (splitN l.length)) (i - splitN l.length) s ++ [rootM (l.take (splitN l.length))] := by rw [othM, if_neg (by omega), if_neg (by omega), if_neg hi]
theorem way_len1 : ∀ (n i : Nat), (wayM n i 1).length = depthM n i := by
  intro n
  induction n using Nat.strongRecOn with
  | _ n ih =>
    intro i
    by_cases h : 2 ≤ n
    · have h1 := split_pos n
      by_cases hi : i < splitN n
      · rw [way_lo (by decide) (by omega) hi, depth_lo h hi, List.length_append, ih _ (split_lt h)]; rfl
      · rw [way_hi (by decide) (by omega) hi, depth_hi h hi, List.length_append, ih _ (by omega)]; rfl
    · rw [way_0 (by omega), depth_1 (by omega)]; rfl
theorem oth_path : ∀ (n : Nat) (l : List (List UInt8)) (i : Nat), l.length = n → othM l i 1 = pathM l i := by
  intro n
  induction n using Nat.strongRecOn with
  | _ n ih =>
    intro l i hl
    subst hl
    by_cases h : 2 ≤ l.length
    · have h1 := split_pos l.length
      have h2 := split_lt h
      by_cases hi : i < splitN l.length
      · rw [oth_lo (by decide) (by omega) hi, path_lo h hi, ih _ h2 _ i (by rw [List.length_take]; omega)]
      · rw [oth_hi (by decide) (by omega) hi, path_hi h hi, ih _ (by omega) _ _ List.length_drop]
    · rw [oth_0 (by omega), path_1 (by omega)]
theorem way_le : ∀ (n i s : Nat), (wayM n i s).length ≤ n := by
  intro n
  induction n using Nat.strongRecOn with
  | _ n ih =>
    intro i s
    by_cases h : n ≤ s
    · rw [way_0 h]; exact Nat.zero_le _
    · rw [wayM, if_neg h]
      by_cases h1 : n ≤ 1
      · rw [if_pos h1]; exact Nat.zero_le _
      · have h2 := split_lt (n := n) (by omega)
        have h3 := split_pos n
        rw [if_neg h1]
        split
        · have := ih _ h2 i s
          rw [List.length_append, List.length_singleton]; omega
        · have := ih (n - splitN n) (by omega) (i - splitN n) s
          rw [List.length_append, List.length_singleton]; omega
theorem oth_le : ∀ (n : Nat) (l : List (List UInt8)) (i s : Nat), l.length = n → (othM l i s).length ≤ n := by
  intro n
  induction n using Nat.strongRecOn with
  | _ n ih =>
    intro l i s hl
    subst hl
    by_cases h : l.length ≤ s
    · rw [oth_0 h]; exact Nat.zero_le _
    · rw [othM, if_neg h]
      by_cases h1 : l.length ≤ 1
      · rw [if_pos h1]; exact Nat.zero_le _
      · have h2 := split_lt (n := l.length) (by omega)
        have h3 := split_pos l.length
        rw [if_neg h1]
        split
        · have := ih _ h2 (l.take (splitN l.length)) i s (by rw [List.length_take]; omega)
          rw [List.length_append, List.length_singleton]; omega
        · have := ih (l.length - splitN l.length) (by omega) (l.drop (splitN l.length)) (i - splitN l.length) s List.length_drop
          rw [List.length_append, List.length_singleton]; omega
/-! ### The least power of two in a sum -/
def lowF : Nat → Nat → Nat
  | 0, _ => 1
  | f + 1, m => if m % 2 = 1 then 1 else 2 * lowF f (m / 2)
def lowN (m : Nat) : Nat := lowF 64 m
theorem lowF_le : ∀ (f m : Nat), 1 ≤ m → 1 ≤ lowF f m ∧ lowF f m ≤ m
  | 0, m, h => ⟨Nat.le_refl _, h⟩
  | f + 1, m, h => by
    unfold lowF
    split
    · omega
    · have := lowF_le f (m / 2) (by omega)
      omega
theorem low_le {m : Nat} (h : 1 ≤ m) : 1 ≤ lowN m ∧ lowN m ≤ m := lowF_le 64 m h
theorem lowF_pow : ∀ (j f : Nat), j ≤ f → lowF f (2 ^ j) = 2 ^ j
  | 0, 0, _ => rfl
  | 0, f + 1, _ => rfl
  | j + 1, 0, h => by omega
  | j + 1, f + 1, h => by
    have e : 2 ^ (j + 1) = 2 * 2 ^ j := by rw [Nat.pow_succ]; omega
    unfold lowF
    rw [if_neg (by omega), show 2 ^ (j + 1) / 2 = 2 ^ j by omega, lowF_pow j f (by omega)]
    omega
theorem low_pow {j : Nat} (h : j ≤ 64) : lowN (2 ^ j) = 2 ^ j := lowF_pow j 64 h
theorem lowF_sub : ∀ (j f m : Nat), 2 ^ j < m → m < 2 * 2 ^ j → lowF f (m - 2 ^ j) = lowF f m
  | _, 0, _, _, _ => rfl
  | 0, f + 1, m, h1, h2 => by simp at h1 h2; omega
  | j + 1, f + 1, m, h1, h2 => by
    have e : 2 ^ (j + 1) = 2 * 2 ^ j := by rw [Nat.pow_succ]; omega
    rw [lowF, lowF]
    by_cases ho : m % 2 = 1
    · rw [if_pos (by omega), if_pos ho]
    · rw [if_neg (by omega), if_neg ho, show (m - 2 ^ (j + 1)) / 2 = m / 2 - 2 ^ j by omega, lowF_sub j f (m / 2) (by omega) (by omega)]
theorem low_sub {n m : Nat} (hn : 2 ≤ n) (h : m < n) (hk : splitN n < m) : lowN (m - splitN n) = lowN m := by
  have := split_le hn
  unfold splitN at hk this ⊢
  exact lowF_sub _ _ _ hk (by omega)
theorem low_split {n : Nat} (h2 : 2 ≤ n) (h : n ≤ 1024) : lowN (splitN n) = splitN n := by
  have h1 := split_lt h2
  unfold splitN at h1 ⊢
  refine low_pow ?_
  have h3 : 2 ^ Nat.log2 (n - 1) < 2 ^ 10 := by omega
  have := (Nat.pow_lt_pow_iff_right (by decide)).1 h3
  omega
theorem split_split {n : Nat} (h : 2 ≤ splitN n) : splitN n = 2 * splitN (splitN n) := by
  unfold splitN at h ⊢
  generalize Nat.log2 (n - 1) = j at h ⊢
  cases j with
  | zero => simp at h
  | succ j =>
    have e : 2 ^ (j + 1) = 2 * 2 ^ j := by rw [Nat.pow_succ]; omega
    have := Nat.two_pow_pos j
    have h2 := split_eq (n := 2 ^ (j + 1)) (j := j) (by omega) (Nat.le_refl _)
    unfold splitN at h2
    rw [h2, e]
theorem low_bits : ∀ m : Fin 1025, 1 ≤ m.val → bits .and .i64 (m.val : Int) (-(m.val : Int)) = (lowN m.val : Int) := by decide +kernel
/-! ### Proofs of growth by both codes -/
def lastT (l : List (List UInt8)) (m : Nat) : List (List UInt8) := (l.drop (m - lowN m)).take (lowN m)
/-- Half way: the tree of m leaves is a tree of its own, or there are more leaves. -/
def Whole (m n : Nat) : Prop := m < n ∨ (m = n ∧ lowN m = m)
theorem proof_oth : ∀ (n : Nat) (l : List (List UInt8)) (m : Nat) (whole : Bool), l.length = n → n ≤ 1024 → 1 ≤ m → Whole m n → proofM m l whole = (if whole = true ∧ lowN m = m then othM l (m - 1) (lowN m) else rootM (lastT l m) :: othM l (m - 1) (lowN m)) := by
  intro n
  induction n using Nat.strongRecOn with
  | _ n ih =>
    intro l m whole hl hn h0 hw
    subst hl
    obtain ⟨q1, q2⟩ := low_le h0
    rcases hw with h | ⟨h, hp⟩
    · have h1 := split_pos l.length
      have h2 := split_lt (n := l.length) (by omega)
      by_cases hk : m ≤ splitN l.length
      · have hl1 : (l.take (splitN l.length)).length = splitN l.length := by rw [List.length_take]; omega
        have hW : Whole m (splitN l.length) := by
          rcases Nat.lt_or_ge m (splitN l.length) with h3 | h3
          · exact .inl h3
          · obtain rfl : m = splitN l.length := by omega
            exact .inr ⟨rfl, low_split (by omega) hn⟩
        have e1 := ih _ h2 _ m whole hl1 (by omega) h0 hW
        have e2 : lastT (l.take (splitN l.length)) m = lastT l m := by
          unfold lastT
          rw [List.drop_take, List.take_take]
          congr 1; omega
        rw [e2] at e1
        rw [proof_lo h0 h hk, e1, oth_lo (l := l) (i := m - 1) q1 (by omega) (by omega)]
        split <;> rfl
      · have hl1 : (l.drop (splitN l.length)).length = l.length - splitN l.length := List.length_drop
        have h4 := split_le (n := l.length) (by omega)
        have e0 := low_sub (n := l.length) (m := m) (by omega) h (by omega)
        obtain ⟨q3, q4⟩ := low_le (m := m - splitN l.length) (by omega)
        have e1 := ih _ (by omega) _ (m - splitN l.length) false hl1 (by omega) (by omega) (.inl (by omega))
        have e2 : lastT (l.drop (splitN l.length)) (m - splitN l.length) = lastT l m := by
          unfold lastT
          rw [e0, List.drop_drop, show splitN l.length + (m - splitN l.length - lowN m) = m - lowN m by omega]
        rw [e2, e0, if_neg (by simp)] at e1
        rw [proof_hi h0 h hk, e1, oth_hi (l := l) (i := m - 1) q1 (by omega) (by omega), if_neg (by omega), show m - 1 - splitN l.length = m - splitN l.length - 1 by omega]
        rfl
    · subst h
      have ht : lastT l l.length = l := by unfold lastT; rw [hp, Nat.sub_self, List.drop_zero]; exact List.take_of_length_le (Nat.le_refl _)
      rw [proof_all rfl, oth_0 (by omega), ht]
      cases whole <;> simp [hp]
/-- The elements of a path, used up from below. -/
def clF (t : List UInt8) (p : List (List UInt8)) (w : List Bool) : Nat → List UInt8
  | 0 => t
  | j + 1 => if w.getD j false = true then nodeM (p.getD j []) (clF t p w j) else nodeM (clF t p w j) (p.getD j [])
theorem getB_app {w v : List Bool} {j : Nat} (h : j < w.length) : (w ++ v).getD j false = w.getD j false := by
  rw [List.getD_eq_getElem?_getD, List.getD_eq_getElem?_getD, List.getElem?_append_left h]
theorem getB_end {w : List Bool} {x : Bool} : (w ++ [x]).getD w.length false = x := by
  rw [List.getD_eq_getElem?_getD, List.getElem?_append_right (Nat.le_refl _), Nat.sub_self]; rfl
theorem clF_app (t : List UInt8) (p : List (List UInt8)) (w v : List Bool) : ∀ j, j ≤ w.length → clF t p (w ++ v) j = clF t p w j
  | 0, _ => rfl
  | j + 1, h => by rw [clF, clF, clF_app t p w v j (by omega), getB_app (by omega)]
theorem climb_cl (leaf : List UInt8) (p : List (List UInt8)) : ∀ (n i : Nat), climbM n i leaf p = clF (leafM leaf) p (wayM n i 1) (wayM n i 1).length := by
  intro n
  induction n using Nat.strongRecOn with
  | _ n ih =>
    intro i
    by_cases h : 2 ≤ n
    · have h1 := split_pos n
      by_cases hi : i < splitN n
      · rw [climb_lo h hi, way_lo (by decide) (by omega) hi, List.length_append, List.length_singleton, clF, clF_app _ _ _ _ _ (Nat.le_refl _), getB_end, ih _ (split_lt h), if_neg (by simp), way_len1]
      · rw [climb_hi h hi, way_hi (by decide) (by omega) hi, List.length_append, List.length_singleton, clF, clF_app _ _ _ _ _ (Nat.le_refl _), getB_end, ih _ (by omega), if_pos rfl, way_len1]
    · rw [climb_1 (by omega), way_0 (by omega)]; rfl
def grF (c : List UInt8) (p : List (List UInt8)) (w : List Bool) : Nat → List UInt8 × List UInt8
  | 0 => (c, c)
  | j + 1 => if w.getD j false = true then (nodeM (p.getD j []) (grF c p w j).1, nodeM (p.getD j []) (grF c p w j).2) else ((grF c p w j).1, nodeM (grF c p w j).2 (p.getD j []))
theorem grF_app (c : List UInt8) (p : List (List UInt8)) (w v : List Bool) : ∀ j, j ≤ w.length → grF c p (w ++ v) j = grF c p w j
  | 0, _ => rfl
  | j + 1, h => by rw [grF, grF, grF_app c p w v j (by omega), getB_app (by omega)]
theorem getD_drop1 (p : List (List UInt8)) (j : Nat) : (p.drop 1).getD j [] = p.getD (j + 1) [] := by
  rw [List.getD_eq_getElem?_getD, List.getD_eq_getElem?_getD, List.getElem?_drop, Nat.add_comm]
/-- What a proof gives, by the elements from below. -/
theorem grown_gr (old : List UInt8) (p : List (List UInt8)) : ∀ (n m : Nat) (whole : Bool), n ≤ 1024 → 1 ≤ m → Whole m n →
    (whole = true ∧ lowN m = m → plenM m n whole = (wayM n (m - 1) (lowN m)).length ∧ grownM m n whole old p = grF old p (wayM n (m - 1) (lowN m)) (wayM n (m - 1) (lowN m)).length) ∧
    (¬ (whole = true ∧ lowN m = m) → plenM m n whole = (wayM n (m - 1) (lowN m)).length + 1 ∧ grownM m n whole old p = grF (p.getD 0 []) (p.drop 1) (wayM n (m - 1) (lowN m)) (wayM n (m - 1) (lowN m)).length) := by
  intro n
  induction n using Nat.strongRecOn with
  | _ n ih =>
    intro m whole hn h0 hw
    obtain ⟨q1, q2⟩ := low_le h0
    rcases hw with h | ⟨h, hp⟩
    · have h1 := split_pos n
      have h2 := split_lt (n := n) (by omega)
      by_cases hk : m ≤ splitN n
      · have hW : Whole m (splitN n) := by
          rcases Nat.lt_or_ge m (splitN n) with h3 | h3
          · exact .inl h3
          · obtain rfl : m = splitN n := by omega
            exact .inr ⟨rfl, low_split (by omega) hn⟩
        obtain ⟨e1, e2⟩ := ih _ h2 m whole (by omega) h0 hW
        rw [plen_lo h0 h hk, grown_lo h0 h hk, way_lo (i := m - 1) q1 (by omega) (by omega), List.length_append, List.length_singleton]
        refine ⟨fun hc => ?_, fun hc => ?_⟩
        · obtain ⟨e3, e4⟩ := e1 hc
          refine ⟨by omega, ?_⟩
          rw [grF, grF_app _ _ _ _ _ (Nat.le_refl _), getB_end, if_neg (by simp), e3, e4]
        · obtain ⟨e3, e4⟩ := e2 hc
          refine ⟨by omega, ?_⟩
          rw [grF, grF_app _ _ _ _ _ (Nat.le_refl _), getB_end, if_neg (by simp), e3, e4, getD_drop1]
      · have h4 := split_le (n := n) (by omega)
        have e0 := low_sub (n := n) (m := m) (by omega) h (by omega)
        obtain ⟨q3, q4⟩ := low_le (m := m - splitN n) (by omega)
        obtain ⟨e1, e2⟩ := ih (n - splitN n) (by omega) (m - splitN n) false (by omega) (by omega) (.inl (by omega))
        obtain ⟨e3, e4⟩ := e2 (by simp)
        rw [e0] at e3 e4
        rw [plen_hi h0 h hk, grown_hi h0 h hk, way_hi (i := m - 1) q1 (by omega) (by omega), List.length_append, List.length_singleton, show m - 1 - splitN n = m - splitN n - 1 by omega]
        refine ⟨fun hc => by omega, fun _ => ⟨by omega, ?_⟩⟩
        rw [grF, grF_app _ _ _ _ _ (Nat.le_refl _), getB_end, if_pos rfl, e3, e4, getD_drop1]
    · subst h
      rw [plen_all rfl, grown_all rfl, way_0 (by omega)]
      refine ⟨fun hc => ?_, fun hc => ?_⟩
      · rw [hc.1]; exact ⟨rfl, rfl⟩
      · have : whole = false := by cases whole <;> simp_all
        subst this
        exact ⟨rfl, rfl⟩
theorem plen_le : ∀ (n m : Nat) (whole : Bool), 1 ≤ m → m ≤ n → plenM m n whole ≤ n := by
  intro n
  induction n using Nat.strongRecOn with
  | _ n ih =>
    intro m whole h0 h
    by_cases hm : m = n
    · rw [plen_all hm]; split <;> omega
    · have h1 := split_pos n
      have h2 := split_lt (n := n) (by omega)
      by_cases hk : m ≤ splitN n
      · have := ih _ h2 m whole h0 hk
        rw [plen_lo h0 (by omega) hk]; omega
      · have := ih (n - splitN n) (by omega) (m - splitN n) false (by omega) (by omega)
        rw [plen_hi h0 (by omega) hk]; omega
theorem leafM_len (b : List UInt8) : (leafM b).length = 32 := sumK_len _
theorem nodeM_len (l r : List UInt8) : (nodeM l r).length = 32 := sumK_len _
theorem rootM_len (l : List (List UInt8)) : (rootM l).length = 32 := by
  rw [rootM]
  split
  · exact sumK_len _
  · split
    · exact leafM_len _
    · exact nodeM_len _ _
end Go.Proofs.YtjgkchmdhicmpaaDoor
set_option linter.unusedVariables false
set_option linter.unusedSimpArgs false
namespace Go.Proofs.YtjgkchmdhicmpaaDoor
open Go.RowKit

def rgetSt (l : List UInt8) (i : Nat) : St := ⟨ofL [(0, .w (.c (.d (.sl (l.map bD))))), (3, .w (.c (.d (.int .u64 (getN (l.take i)))))), (4, .w (.c (.d (.int .i64 (i : Int)))))], hL [], uL []⟩
def lp_rget_0 : SCode :=
  .seq (.seq (.reg [⟨(some 5), .mv (.t 4), none⟩,
    ⟨(some 6), .mv (.t 0), none⟩,
    ⟨(some 7), .len (.t 6), none⟩,
    ⟨(some 8), .bin .lss (.t 5) (.t 7), none⟩])
  (.cond (.t 8) (.skip)
   (.exit 0)))
  (.seq (.block 1 (.reg [⟨(some 11), .mv (.t 3), none⟩,
     ⟨(some 12), .bin .shl (.t 11) (.k (.c (.d (.int .u64 8)))), none⟩,
     ⟨(some 13), .mv (.t 0), none⟩,
     ⟨(some 14), .mv (.t 4), none⟩,
     ⟨(some 15), .idxSl 1 (.t 13) (.t 14), none⟩,
     ⟨(some 16), .load .sc (.t 15), none⟩,
     ⟨(some 17), .conv .u64 (.t 16), none⟩,
     ⟨(some 18), .bin .or (.t 12) (.t 17), none⟩,
     ⟨(some 3), .mv (.t 18), none⟩]))
  (.reg [⟨(some 9), .mv (.t 4), none⟩,
    ⟨(some 10), .bin .add (.t 9) (.k (.c (.d (.int .i64 1)))), none⟩,
    ⟨(some 4), .mv (.t 10), none⟩]))
def sf_rget : SFn := ⟨1, 20,
  .seq (.reg [⟨(some 2), .mv (.k (.c (.d (.int .u64 0)))), none⟩])
  (.seq (.reg [⟨(some 3), .mv (.k (.c (.d (.int .u64 0)))), none⟩])
  (.seq (.seq (.reg [⟨(some 4), .mv (.k (.c (.d (.int .i64 0)))), none⟩])
  (.block 0 (.loop lp_rget_0)))
  (.seq (.reg [⟨(some 19), .mv (.t 3), none⟩,
    ⟨(some 2), .mv (.t 19), none⟩])
  (.ret)))),
  [(2, none)]⟩
theorem cf_rget : compFn Tryd.prog { own := [], comp := [], frz := [], nils := [] } Tryd.f91 = some sf_rget := by kernel_rfl
set_option maxHeartbeats 400000 in
theorem rget_c (G : Glob) (l : List UInt8) (hl : l.length ≤ 9223372036854775807) : Den Tryd.prog G 91 [.sl (l.map bD)] (.w (.c (.d (.int .u64 (getN l))))) := by
  refine den_walk Tryd.func91 cf_rget rfl rfl ?_
  simp only [sf_rget, putAll, wx, wy, wz, stV, seval, IntWalk.iteOmega, IntWalk.toNatUp, reduceCtorEq]
  refine loop_st (rgetSt l) (fun i => l.length - i) (fun i => i ≤ l.length) 0 (Nat.zero_le _) ?_ ?_
  · refine ent_l (fun i => i) ?_ ?_ rfl rfl <;> simp only [wx, wex, wez, stV, seval, IntWalk.iteOmega, IntWalk.toNatUp, reduceCtorEq] <;> rfl
  · intro i hi
    by_cases hlt : i < l.length
    · have hb := l[i].toNat_lt
      have e2 : l[i]? = some l[i] := List.getElem?_eq_getElem hlt
      have e3 : IntKind.u64.wrap (l[i].toNat : Int) = (l[i].toNat : Int) := u64_in _ (by omega) (by omega)
      have e4 : IntKind.i64.wrap ((i : Int) + 1) = ((i + 1 : Nat) : Int) := by rw [IntWalk.i64_in _ (by omega)]; rfl
      have e5 := getN_take l i hlt
      simp only [lp_rget_0, rgetSt, wx, stV, seval, IntWalk.iteOmega, IntWalk.toNatUp, reduceCtorEq, get_map, e2, IntKind.bits, e3, e4]
      refine lop_next (i + 1) (by omega) (by omega) (ent_l id ?_ ?_ rfl rfl) <;> simp only [wx, wex, stV, seval, IntWalk.iteOmega, IntWalk.toNatUp, reduceCtorEq, ← e5]
    · have : l.take i = l := List.take_of_length_le (by omega)
      simp only [lp_rget_0, rgetSt, wx, stV, seval, IntWalk.iteOmega, IntWalk.toNatUp, reduceCtorEq, this]
      exact ret_d (by simp only [wx, stV, seval, IntWalk.iteOmega, IntWalk.toNatUp, reduceCtorEq])
end Go.Proofs.YtjgkchmdhicmpaaDoor
