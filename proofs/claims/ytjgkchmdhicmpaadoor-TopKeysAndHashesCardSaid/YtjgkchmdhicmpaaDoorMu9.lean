/- Texts of one's own, merged: from: Layer 1 on data: Put, Get, Same, Join, Hex: what they return. Own work. -/
import Derived.Test.YtjgkchmdhicmpaaDoorProg
import Derived.Test.YtjgkchmdhicmpaaDoorMu6
set_option linter.unusedVariables false
set_option linter.unusedSimpArgs false
namespace Go.Proofs.YtjgkchmdhicmpaaDoor
open Go.RowKit

/-! ### Stores of bytes and words -/
theorem stO_bs {l : List UInt8} {i : Nat} {x : D} (hi : i < l.length) (hx : x.one = true) : stO .sc (.c (.d x)) i 0 (.row 1 (l.map bD)) = some (.row 1 ((l.map bD).set i x)) := by
  simp [stO, get_map, List.getElem?_eq_getElem hi, bD, pureW, hx]
theorem stO_ws {l : List UInt32} {i : Nat} {x : D} (hi : i < l.length) (hx : x.one = true) : stO .sc (.c (.d x)) i 0 (.row 1 (l.map wD)) = some (.row 1 ((l.map wD).set i x)) := by
  simp [stO, get_map, List.getElem?_eq_getElem hi, wD, pureW, hx]
theorem set_bs (l : List UInt8) (i : Nat) (x : UInt8) : (l.map bD).set i (bD x) = (l.set i x).map bD := set_map bD l i x
theorem set_ws (l : List UInt32) (i : Nat) (x : UInt32) : (l.map wD).set i (wD x) = (l.set i x).map wD := set_map wD l i x
theorem rep_b (n : Nat) : List.replicate n (D.int .u8 0) = (List.replicate n (0 : UInt8)).map bD := by simp [bD]
theorem rep_w (n : Nat) : List.replicate n (D.int .u32 0) = (List.replicate n (0 : UInt32)).map wD := by simp [wD]

/-! ### Put -/
def putL (v n : Nat) : List UInt8 := (List.range n).map fun i => UInt8.ofNat (v / 256 ^ (n - 1 - i))
def putS (v n m : Nat) : List UInt8 := List.replicate m 0 ++ (putL v n).drop m
def putN (v : Nat) (n : Int) : List UInt8 := if 0 ≤ n ∧ n ≤ 64 then putL v n.toNat else []
theorem putL_length (v n : Nat) : (putL v n).length = n := by simp [putL]
theorem putS_length (v n m : Nat) (h : m ≤ n) : (putS v n m).length = n := by simp [putS, putL_length]; omega
theorem putS_zero (v n : Nat) : putS v n 0 = putL v n := by simp [putS]
theorem putS_full (v n : Nat) : putS v n n = List.replicate n 0 := by simp [putS, putL_length]
theorem putS_step (v n i : Nat) (h : i + 1 ≤ n) : putS v n i = (putS v n (i + 1)).set i (UInt8.ofNat (v / 256 ^ (n - (i + 1)))) := by
  apply List.ext_getElem?
  intro j
  rw [List.getElem?_set]
  have hl : i < (putL v n).length := by rw [putL_length]; omega
  by_cases hj : i = j
  · subst hj
    rw [if_pos rfl, if_pos (by rw [putS_length _ _ _ h]; omega)]
    simp only [putS, List.getElem?_append, List.length_replicate, Nat.lt_irrefl, if_false, Nat.sub_self, List.getElem?_drop, Nat.add_zero]
    rw [List.getElem?_eq_getElem hl]
    simp [putL, Nat.sub_sub, Nat.add_comm 1 i]
  · rw [if_neg hj]
    simp only [putS, List.getElem?_append, List.length_replicate, List.getElem?_replicate, List.getElem?_drop]
    by_cases h1 : j < i
    · rw [if_pos h1, if_pos h1, if_pos (by omega), if_pos (by omega)]
    · rw [if_neg h1, if_neg (by omega)]
      congr 1; omega
theorem byte_of (v : Nat) : D.int .u8 (IntKind.u8.wrap (v : Int)) = bD (UInt8.ofNat v) := by
  rw [IntKind.wrap_u8]
  simp [bD]
def putSt (v n m : Nat) : St := ⟨ofL [(0, .w (.c (.d (.int .u64 ((v / 256 ^ (n - m) : Nat) : Int))))), (5, .w (.c (.own 1 1 0 n))), (6, .w (.c (.d (.int .i64 ((m : Int) - 1)))))], hL [(1, .row 1 ((putS v n m).map bD))], uL [1]⟩

def lp_put_0 : SCode :=
  .seq (.seq (.reg [⟨(some 17), .mv (.t 6), none⟩,
    ⟨(some 18), .bin .geq (.t 17) (.k (.c (.d (.int .i64 0)))), none⟩])
  (.cond (.t 18) (.skip)
   (.exit 0)))
  (.seq (.block 1 (.seq (.reg [⟨(some 21), .mv (.t 5), none⟩,
     ⟨(some 22), .mv (.t 6), none⟩,
     ⟨(some 23), .mv (.t 0), none⟩,
     ⟨(some 24), .conv .u8 (.t 23), none⟩,
     ⟨(some 25), .idxSl 1 (.t 21) (.t 22), none⟩,
     ⟨none, .store .sc (.t 25) (.t 24), none⟩])
   (.reg [⟨(some 26), .mv (.t 0), none⟩,
     ⟨(some 27), .bin .shr (.t 26) (.k (.c (.d (.int .u64 8)))), none⟩,
     ⟨(some 0), .mv (.t 27), none⟩])))
  (.reg [⟨(some 19), .mv (.t 6), none⟩,
    ⟨(some 20), .bin .sub (.t 19) (.k (.c (.d (.int .i64 1)))), none⟩,
    ⟨(some 6), .mv (.t 20), none⟩]))
def sf_put : SFn := ⟨2, 29,
  .seq (.reg [⟨(some 4), .mv (.k (.c .nil)), none⟩])
  (.seq (.seq (.reg [⟨(some 7), .mv (.t 1), none⟩,
    ⟨(some 8), .bin .lss (.t 7) (.k (.c (.d (.int .i64 0)))), none⟩,
    ⟨(some 9), .mv (.t 8), none⟩,
    ⟨(some 10), .mv (.t 1), (some (9, false))⟩,
    ⟨(some 11), .bin .gtr (.t 10) (.k (.c (.d (.int .i64 64)))), (some (9, false))⟩,
    ⟨(some 12), .pick (.t 9) (.k (.c (.d (.bool true)))) (.t 11), none⟩])
  (.cond (.t 12) (.seq (.reg [⟨(some 4), .mv (.k (.c .nil)), none⟩])
   (.ret))
   (.skip)))
  (.seq (.reg [⟨(some 13), .mv (.t 1), none⟩,
    ⟨(some 14), .make 1 1 (.int .u8 0) (.t 13) (.t 13), none⟩,
    ⟨(some 5), .mv (.t 14), none⟩])
  (.seq (.seq (.reg [⟨(some 15), .mv (.t 1), none⟩,
    ⟨(some 16), .bin .sub (.t 15) (.k (.c (.d (.int .i64 1)))), none⟩,
    ⟨(some 6), .mv (.t 16), none⟩])
  (.block 0 (.loop lp_put_0)))
  (.seq (.reg [⟨(some 28), .mv (.t 5), none⟩,
    ⟨(some 4), .mv (.t 28), none⟩])
  (.ret))))),
  [(4, none)]⟩
theorem cf_put : compFn Tryd.prog { own := [], comp := [], frz := [], nils := [] } Tryd.f75 = some sf_put := by kernel_rfl
set_option maxHeartbeats 400000 in
theorem put_in (G : Glob) (v n : Nat) (hn : n ≤ 64) : Den Tryd.prog G 75 [.int .u64 v, .int .i64 n] (.w (.c (.fr 1 ((putL v n).map bD)))) := by
  refine den_walk Tryd.func75 cf_put rfl rfl ?_
  have e1 : IntKind.i64.wrap ((n : Int) - 1) = (n : Int) - 1 := IntWalk.i64_in _ (by omega)
  simp only [sf_put, putAll, wx, stV, seval, IntWalk.iteOmega, IntWalk.toNatUp, reduceCtorEq, e1]
  refine loop_st (putSt v n) (fun m => m) (fun m => m ≤ n) n (Nat.le_refl _) ?_ ?_
  · refine ent_l (fun _ => 112) ?_ ?_ rfl rfl <;> simp only [wx, wex, stV, seval, IntWalk.iteOmega, IntWalk.toNatUp, reduceCtorEq, putS_full, rep_b, Nat.sub_self, Nat.pow_zero, Nat.div_one]
  · intro m hm
    rcases Nat.eq_zero_or_pos m with rfl | hpos
    · simp only [lp_put_0, putSt, wx, stV, seval, IntWalk.iteOmega, IntWalk.toNatUp, reduceCtorEq, putS_zero]
      refine ret_own (id := 1) (n := n) (s := 1) ?_ ?_ ?_ <;> simp only [wx, stV, seval, IntWalk.iteOmega, IntWalk.toNatUp, reduceCtorEq, putL_length]
    · obtain ⟨i, rfl⟩ : ∃ i, m = i + 1 := ⟨m - 1, by omega⟩
      have e2 : ((i + 1 : Nat) : Int) - 1 = (i : Int) := by omega
      have hlt : i < (putS v n (i + 1)).length := by rw [putS_length _ _ _ hm]; omega
      have e3 : IntKind.i64.wrap ((i : Int) - 1) = (i : Int) - 1 := IntWalk.i64_in _ (by omega)
      simp only [lp_put_0, putSt, wx, stV, seval, IntWalk.iteOmega, IntWalk.toNatUp, reduceCtorEq, e2, e3, Nat.zero_add, Nat.add_zero, byte_of, stO_bs hlt (one_b _), set_bs, ← putS_step _ _ _ hm, IntKind.bits]
      refine lop_next i (by omega) (by omega) (ent_l id ?_ ?_ rfl rfl) <;> simp only [wx, wex, stV, seval, IntWalk.iteOmega, IntWalk.toNatUp, reduceCtorEq]
      have e4 : v / 256 ^ (n - (i + 1)) / 256 = v / 256 ^ (n - i) := by
        rw [show n - i = n - (i + 1) + 1 by omega, Nat.pow_succ, ← Nat.div_div_eq_div_mul]
      simpa using congrArg (Nat.cast : Nat → Int) e4
theorem put_c (G : Glob) (v : Nat) (n : Int) : Den Tryd.prog G 75 [.int .u64 v, .int .i64 n] (.w (.c (.fr 1 ((putN v n).map bD)))) := by
  unfold putN
  by_cases h : 0 ≤ n ∧ n ≤ 64
  · rw [if_pos h]
    obtain ⟨n, rfl⟩ := Int.eq_ofNat_of_zero_le h.1
    exact put_in G v n (by omega)
  · rw [if_neg h]
    refine den_walk Tryd.func75 cf_put rfl rfl ?_
    by_cases h0 : n < 0
    · simp only [sf_put, putAll, wx, stV, seval, IntWalk.iteOmega, IntWalk.toNatUp, reduceCtorEq]
      exact ret_nil (by simp [wx, stV, seval, IntWalk.iteOmega, IntWalk.toNatUp, reduceCtorEq])
    · have h1 : 64 < n := by omega
      simp only [sf_put, putAll, wx, stV, seval, IntWalk.iteOmega, IntWalk.toNatUp, reduceCtorEq]
      exact ret_nil (by simp [wx, stV, seval, IntWalk.iteOmega, IntWalk.toNatUp, reduceCtorEq])
def lp_rput_0 : SCode :=
  .seq (.seq (.reg [⟨(some 17), .mv (.t 6), none⟩,
    ⟨(some 18), .bin .geq (.t 17) (.k (.c (.d (.int .i64 0)))), none⟩])
  (.cond (.t 18) (.skip)
   (.exit 0)))
  (.seq (.block 1 (.seq (.reg [⟨(some 21), .mv (.t 5), none⟩,
     ⟨(some 22), .mv (.t 6), none⟩,
     ⟨(some 23), .mv (.t 0), none⟩,
     ⟨(some 24), .conv .u8 (.t 23), none⟩,
     ⟨(some 25), .idxSl 1 (.t 21) (.t 22), none⟩,
     ⟨none, .store .sc (.t 25) (.t 24), none⟩])
   (.reg [⟨(some 26), .mv (.t 0), none⟩,
     ⟨(some 27), .bin .shr (.t 26) (.k (.c (.d (.int .u64 8)))), none⟩,
     ⟨(some 0), .mv (.t 27), none⟩])))
  (.reg [⟨(some 19), .mv (.t 6), none⟩,
    ⟨(some 20), .bin .sub (.t 19) (.k (.c (.d (.int .i64 1)))), none⟩,
    ⟨(some 6), .mv (.t 20), none⟩]))
def sf_rput : SFn := ⟨2, 29,
  .seq (.reg [⟨(some 4), .mv (.k (.c .nil)), none⟩])
  (.seq (.seq (.reg [⟨(some 7), .mv (.t 1), none⟩,
    ⟨(some 8), .bin .lss (.t 7) (.k (.c (.d (.int .i64 0)))), none⟩,
    ⟨(some 9), .mv (.t 8), none⟩,
    ⟨(some 10), .mv (.t 1), (some (9, false))⟩,
    ⟨(some 11), .bin .gtr (.t 10) (.k (.c (.d (.int .i64 64)))), (some (9, false))⟩,
    ⟨(some 12), .pick (.t 9) (.k (.c (.d (.bool true)))) (.t 11), none⟩])
  (.cond (.t 12) (.seq (.reg [⟨(some 4), .mv (.k (.c .nil)), none⟩])
   (.ret))
   (.skip)))
  (.seq (.reg [⟨(some 13), .mv (.t 1), none⟩,
    ⟨(some 14), .make 1 1 (.int .u8 0) (.t 13) (.t 13), none⟩,
    ⟨(some 5), .mv (.t 14), none⟩])
  (.seq (.seq (.reg [⟨(some 15), .mv (.t 1), none⟩,
    ⟨(some 16), .bin .sub (.t 15) (.k (.c (.d (.int .i64 1)))), none⟩,
    ⟨(some 6), .mv (.t 16), none⟩])
  (.block 0 (.loop lp_rput_0)))
  (.seq (.reg [⟨(some 28), .mv (.t 5), none⟩,
    ⟨(some 4), .mv (.t 28), none⟩])
  (.ret))))),
  [(4, none)]⟩
theorem cf_rput : compFn Tryd.prog { own := [], comp := [], frz := [], nils := [] } Tryd.f51 = some sf_rput := by kernel_rfl
set_option maxHeartbeats 400000 in
theorem rput_in (G : Glob) (v n : Nat) (hn : n ≤ 64) : Den Tryd.prog G 51 [.int .u64 v, .int .i64 n] (.w (.c (.fr 1 ((putL v n).map bD)))) := by
  refine den_walk Tryd.func51 cf_rput rfl rfl ?_
  have e1 : IntKind.i64.wrap ((n : Int) - 1) = (n : Int) - 1 := IntWalk.i64_in _ (by omega)
  simp only [sf_rput, putAll, wx, stV, seval, IntWalk.iteOmega, IntWalk.toNatUp, reduceCtorEq, e1]
  refine loop_st (putSt v n) (fun m => m) (fun m => m ≤ n) n (Nat.le_refl _) ?_ ?_
  · refine ent_l (fun _ => 112) ?_ ?_ rfl rfl <;> simp only [wx, wex, stV, seval, IntWalk.iteOmega, IntWalk.toNatUp, reduceCtorEq, putS_full, rep_b, Nat.sub_self, Nat.pow_zero, Nat.div_one]
  · intro m hm
    rcases Nat.eq_zero_or_pos m with rfl | hpos
    · simp only [lp_rput_0, putSt, wx, stV, seval, IntWalk.iteOmega, IntWalk.toNatUp, reduceCtorEq, putS_zero]
      refine ret_own (id := 1) (n := n) (s := 1) ?_ ?_ ?_ <;> simp only [wx, stV, seval, IntWalk.iteOmega, IntWalk.toNatUp, reduceCtorEq, putL_length]
    · obtain ⟨i, rfl⟩ : ∃ i, m = i + 1 := ⟨m - 1, by omega⟩
      have e2 : ((i + 1 : Nat) : Int) - 1 = (i : Int) := by omega
      have hlt : i < (putS v n (i + 1)).length := by rw [putS_length _ _ _ hm]; omega
      have e3 : IntKind.i64.wrap ((i : Int) - 1) = (i : Int) - 1 := IntWalk.i64_in _ (by omega)
      simp only [lp_rput_0, putSt, wx, stV, seval, IntWalk.iteOmega, IntWalk.toNatUp, reduceCtorEq, e2, e3, Nat.zero_add, Nat.add_zero, byte_of, stO_bs hlt (one_b _), set_bs, ← putS_step _ _ _ hm, IntKind.bits]
      refine lop_next i (by omega) (by omega) (ent_l id ?_ ?_ rfl rfl) <;> simp only [wx, wex, stV, seval, IntWalk.iteOmega, IntWalk.toNatUp, reduceCtorEq]
      have e4 : v / 256 ^ (n - (i + 1)) / 256 = v / 256 ^ (n - i) := by
        rw [show n - i = n - (i + 1) + 1 by omega, Nat.pow_succ, ← Nat.div_div_eq_div_mul]
      simpa using congrArg (Nat.cast : Nat → Int) e4
theorem rput_c (G : Glob) (v : Nat) (n : Int) : Den Tryd.prog G 51 [.int .u64 v, .int .i64 n] (.w (.c (.fr 1 ((putN v n).map bD)))) := by
  unfold putN
  by_cases h : 0 ≤ n ∧ n ≤ 64
  · rw [if_pos h]
    obtain ⟨n, rfl⟩ := Int.eq_ofNat_of_zero_le h.1
    exact rput_in G v n (by omega)
  · rw [if_neg h]
    refine den_walk Tryd.func51 cf_rput rfl rfl ?_
    by_cases h0 : n < 0
    · simp only [sf_rput, putAll, wx, stV, seval, IntWalk.iteOmega, IntWalk.toNatUp, reduceCtorEq]
      exact ret_nil (by simp [wx, stV, seval, IntWalk.iteOmega, IntWalk.toNatUp, reduceCtorEq])
    · have h1 : 64 < n := by omega
      simp only [sf_rput, putAll, wx, stV, seval, IntWalk.iteOmega, IntWalk.toNatUp, reduceCtorEq]
      exact ret_nil (by simp [wx, stV, seval, IntWalk.iteOmega, IntWalk.toNatUp, reduceCtorEq])

/-! ### Same -/
theorem toList_mk (l : List UInt8) : (⟨l.toArray⟩ : ByteArray).toList = l := Go.ByteArray.toList_mk l
theorem binS_same (l m : List UInt8) : binS .eql ⟨l.toArray⟩ ⟨m.toArray⟩ = some (.bool (l == m)) := by
  simp only [binS, toList_mk]
def sf_rsame : SFn := ⟨2, 10,
  .seq (.reg [⟨(some 4), .mv (.k (.c (.d (.bool false)))), none⟩])
  (.seq (.reg [⟨(some 5), .mv (.t 0), none⟩,
    ⟨(some 6), .b2s (.t 5), none⟩,
    ⟨(some 7), .mv (.t 1), none⟩,
    ⟨(some 8), .b2s (.t 7), none⟩,
    ⟨(some 9), .bin .eql (.t 6) (.t 8), none⟩,
    ⟨(some 4), .mv (.t 9), none⟩])
  (.ret)),
  [(4, none)]⟩
theorem cf_rsame : compFn Tryd.prog { own := [], comp := [], frz := [], nils := [] } Tryd.f19 = some sf_rsame := by kernel_rfl
theorem rsame_c (G : Glob) (l m : List UInt8) : Den Tryd.prog G 19 [.sl (l.map bD), .sl (m.map bD)] (.w (.c (.d (.bool (l == m))))) := by
  refine den_walk Tryd.func19 cf_rsame rfl rfl ?_
  simp only [sf_rsame, putAll, wx, stV, seval, IntWalk.iteOmega, IntWalk.toNatUp, reduceCtorEq, ofBs_map, binS_same]
  exact ret_d (by simp only [wx, stV, seval, IntWalk.iteOmega, IntWalk.toNatUp, reduceCtorEq])

/-! ### Join -/
def lD (ls : List (List UInt8)) : D := .sl (ls.map fun l => .sl (l.map bD))
theorem sl_cells (es : List D) : D.cells (.sl es) = [.sl es] := rfl
theorem allSz_ls (ls : List (List UInt8)) : allSz 1 (ls.map fun l => D.sl (l.map bD)) = true := allSz_map _ (fun _ => rfl) ls
def rjoinSt (ls : List (List UInt8)) (i : Nat) : St := ⟨ofL [(0, .w (.c (.d (.sl (ls.map fun l => D.sl (l.map bD)))))), (3, .w (.c (.own 1 1 0 ((ls.take i).flatten).length))), (4, .w (.c (.d (.int .i64 (i : Int)))))], hL [(1, .row 1 (((ls.take i).flatten).map bD))], uL [1]⟩
theorem take_flat {α : Type} (ls : List (List α)) (i : Nat) (h : i < ls.length) : (ls.take (i + 1)).flatten = (ls.take i).flatten ++ ls[i] := by
  rw [List.take_succ_eq_append_getElem h, List.flatten_append]; simp
theorem flat_le {α : Type} (ls : List (List α)) (i : Nat) (h : i < ls.length) : (ls.take i).flatten.length + ls[i].length ≤ ls.flatten.length := by
  have h1 := take_flat ls i h
  have h2 : ls.flatten = (ls.take (i + 1)).flatten ++ (ls.drop (i + 1)).flatten := by rw [← List.flatten_append, List.take_append_drop]
  have h3 := congrArg List.length h2
  rw [List.length_append, h1, List.length_append] at h3
  omega
def lp_rjoin_0 : SCode :=
  .seq (.seq (.reg [⟨(some 6), .mv (.t 4), none⟩,
    ⟨(some 7), .mv (.t 0), none⟩,
    ⟨(some 8), .len (.t 7), none⟩,
    ⟨(some 9), .bin .lss (.t 6) (.t 8), none⟩])
  (.cond (.t 9) (.skip)
   (.exit 0)))
  (.seq (.block 1 (.reg [⟨(some 12), .mv (.t 3), none⟩,
     ⟨(some 13), .mv (.t 0), none⟩,
     ⟨(some 14), .mv (.t 4), none⟩,
     ⟨(some 15), .idxSl 1 (.t 13) (.t 14), none⟩,
     ⟨(some 16), .load .sc (.t 15), none⟩,
     ⟨(some 17), .app false 1 1 (.t 12) (.t 16), none⟩,
     ⟨(some 3), .mv (.t 17), none⟩]))
  (.reg [⟨(some 10), .mv (.t 4), none⟩,
    ⟨(some 11), .bin .add (.t 10) (.k (.c (.d (.int .i64 1)))), none⟩,
    ⟨(some 4), .mv (.t 11), none⟩]))
def sf_rjoin : SFn := ⟨1, 19,
  .seq (.reg [⟨(some 2), .mv (.k (.c .nil)), none⟩])
  (.seq (.reg [⟨(some 5), .bldSl true 0 1 (.int .u8 0) [], none⟩,
    ⟨(some 3), .mv (.t 5), none⟩])
  (.seq (.seq (.reg [⟨(some 4), .mv (.k (.c (.d (.int .i64 0)))), none⟩])
  (.block 0 (.loop lp_rjoin_0)))
  (.seq (.reg [⟨(some 18), .mv (.t 3), none⟩,
    ⟨(some 2), .mv (.t 18), none⟩])
  (.ret)))),
  [(2, none)]⟩
theorem cf_rjoin : compFn Tryd.prog { own := [5], comp := [], frz := [], nils := [] } Tryd.f41 = some sf_rjoin := by kernel_rfl
set_option maxHeartbeats 400000 in
theorem rjoin_c (G : Glob) (ls : List (List UInt8)) (hl : ls.length ≤ 9223372036854775807) (hf : ls.flatten.length ≤ 140737488355328) : Den Tryd.prog G 41 [.sl (ls.map fun l => D.sl (l.map bD))] (.w (.c (.fr 1 (ls.flatten.map bD)))) := by
  refine den_walk Tryd.func41 cf_rjoin rfl rfl ?_
  simp only [sf_rjoin, putAll, wx, stV, seval, IntWalk.iteOmega, IntWalk.toNatUp, reduceCtorEq]
  refine loop_st (rjoinSt ls) (fun i => ls.length - i) (fun i => i ≤ ls.length) 0 (Nat.zero_le _) ?_ ?_
  · refine ent_l (fun _ => 40) ?_ ?_ rfl rfl <;> simp only [wx, wex, stV, seval, IntWalk.iteOmega, IntWalk.toNatUp, reduceCtorEq]
  · intro i hi
    by_cases hlt : i < ls.length
    · have e2 : ls[i]? = some ls[i] := List.getElem?_eq_getElem hlt
      have e4 : IntKind.i64.wrap ((i : Int) + 1) = ((i + 1 : Nat) : Int) := by rw [IntWalk.i64_in _ (by omega)]; rfl
      have h5 := flat_le ls i hlt
      simp only [lp_rjoin_0, rjoinSt, wx, stV, seval, IntWalk.iteOmega, IntWalk.toNatUp, reduceCtorEq, get_map, e2, e4, Nat.mul_one, srcV]
      refine lop_next (i + 1) (by omega) (by omega) (ent_l (fun _ => 136) ?_ ?_ rfl rfl) <;> simp only [wx, wex, stV, seval, IntWalk.iteOmega, IntWalk.toNatUp, reduceCtorEq, take_flat ls i hlt]
    · have : ls.take i = ls := List.take_of_length_le (by omega)
      simp only [lp_rjoin_0, rjoinSt, wx, stV, seval, IntWalk.iteOmega, IntWalk.toNatUp, reduceCtorEq, this]
      refine ret_own (id := 1) (n := ls.flatten.length) (s := 1) ?_ ?_ ?_ <;> simp only [wx, stV, seval, IntWalk.iteOmega, IntWalk.toNatUp, reduceCtorEq]

def joinSt1 (ls : List (List UInt8)) (i : Nat) : St := ⟨ofL [(0, .w (.c (.d (.sl (ls.map fun l => D.sl (l.map bD)))))), (3, .w (.c (.d (.int .i64 (((ls.take i).flatten).length : Int))))), (9, .w (.c (.d (.sl (ls.map fun l => D.sl (l.map bD)))))), (10, .w (.c (.d (.int .i64 (ls.length : Int))))), (11, .w (.c (.d (.int .i64 (i : Int)))))], hL [], uL []⟩
def joinSt2 (ls : List (List UInt8)) (i : Nat) : St := ⟨ofL [(6, .w (.c (.own 1 1 0 ((ls.take i).flatten).length))), (22, .w (.c (.d (.sl (ls.map fun l => D.sl (l.map bD)))))), (23, .w (.c (.d (.int .i64 (ls.length : Int))))), (24, .w (.c (.d (.int .i64 (i : Int)))))], hL [(1, .row 1 (((ls.take i).flatten).map bD))], uL [1]⟩
def lp_join_0 : SCode :=
  .seq (.reg [⟨(some 12), .bin .lss (.t 11) (.t 10), none⟩])
  (.seq (.cond (.t 12) (.skip)
   (.exit 0))
  (.seq (.block 1 (.seq (.reg [⟨(some 13), .idxSl 1 (.t 9) (.t 11), none⟩,
     ⟨(some 14), .load .sc (.t 13), none⟩,
     ⟨(some 5), .mv (.t 14), none⟩])
   (.reg [⟨(some 15), .mv (.t 3), none⟩,
     ⟨(some 16), .mv (.t 5), none⟩,
     ⟨(some 17), .len (.t 16), none⟩,
     ⟨(some 18), .bin .add (.t 15) (.t 17), none⟩,
     ⟨(some 3), .mv (.t 18), none⟩])))
  (.reg [⟨(some 19), .bin .add (.t 11) (.k (.c (.d (.int .i64 1)))), none⟩,
    ⟨(some 11), .mv (.t 19), none⟩])))
def lp_join_1 : SCode :=
  .seq (.reg [⟨(some 25), .bin .lss (.t 24) (.t 23), none⟩])
  (.seq (.cond (.t 25) (.skip)
   (.exit 2))
  (.seq (.block 3 (.seq (.reg [⟨(some 26), .idxSl 1 (.t 22) (.t 24), none⟩,
     ⟨(some 27), .load .sc (.t 26), none⟩,
     ⟨(some 8), .mv (.t 27), none⟩])
   (.reg [⟨(some 28), .mv (.t 6), none⟩,
     ⟨(some 29), .mv (.t 8), none⟩,
     ⟨(some 30), .app false 1 1 (.t 28) (.t 29), none⟩,
     ⟨(some 6), .mv (.t 30), none⟩])))
  (.reg [⟨(some 31), .bin .add (.t 24) (.k (.c (.d (.int .i64 1)))), none⟩,
    ⟨(some 24), .mv (.t 31), none⟩])))
def sf_join : SFn := ⟨1, 33,
  .seq (.reg [⟨(some 2), .mv (.k (.c .nil)), none⟩])
  (.seq (.reg [⟨(some 3), .mv (.k (.c (.d (.int .i64 0)))), none⟩])
  (.seq (.seq (.reg [⟨(some 9), .mv (.t 0), none⟩,
    ⟨(some 10), .len (.t 9), none⟩,
    ⟨(some 11), .mv (.k (.c (.d (.int .i64 0)))), none⟩])
  (.block 0 (.loop lp_join_0)))
  (.seq (.reg [⟨(some 20), .mv (.t 3), none⟩,
    ⟨(some 21), .make 1 1 (.int .u8 0) (.k (.c (.d (.int .i64 0)))) (.t 20), none⟩,
    ⟨(some 6), .mv (.t 21), none⟩])
  (.seq (.seq (.reg [⟨(some 22), .mv (.t 0), none⟩,
    ⟨(some 23), .len (.t 22), none⟩,
    ⟨(some 24), .mv (.k (.c (.d (.int .i64 0)))), none⟩])
  (.block 2 (.loop lp_join_1)))
  (.seq (.reg [⟨(some 32), .mv (.t 6), none⟩,
    ⟨(some 2), .mv (.t 32), none⟩])
  (.ret)))))),
  [(2, none)]⟩
theorem cf_join : compFn Tryd.prog { own := [], comp := [], frz := [], nils := [] } Tryd.f43 = some sf_join := by kernel_rfl
set_option maxHeartbeats 400000 in
theorem join_c (G : Glob) (ls : List (List UInt8)) (hl : ls.length ≤ 9223372036854775807) (hf : ls.flatten.length ≤ 140737488355328) : Den Tryd.prog G 43 [.sl (ls.map fun l => D.sl (l.map bD))] (.w (.c (.fr 1 (ls.flatten.map bD)))) := by
  refine den_walk Tryd.func43 cf_join rfl rfl ?_
  simp only [sf_join, putAll, wx, stV, seval, IntWalk.iteOmega, IntWalk.toNatUp, reduceCtorEq]
  refine loop_st (joinSt1 ls) (fun i => ls.length - i) (fun i => i ≤ ls.length) 0 (Nat.zero_le _) ?_ ?_
  · refine ent_l id ?_ ?_ rfl rfl <;> simp only [wx, wex, stV, seval, IntWalk.iteOmega, IntWalk.toNatUp, reduceCtorEq]
  · intro i hi
    by_cases hlt : i < ls.length
    · have e2 : ls[i]? = some ls[i] := List.getElem?_eq_getElem hlt
      have e4 : IntKind.i64.wrap ((i : Int) + 1) = ((i + 1 : Nat) : Int) := by rw [IntWalk.i64_in _ (by omega)]; rfl
      have h5 := flat_le ls i hlt
      have e5 : IntKind.i64.wrap (((ls.take i).flatten.length : Int) + (ls[i].length : Int)) = (((ls.take (i + 1)).flatten.length : Nat) : Int) := by
        rw [take_flat ls i hlt, List.length_append, IntWalk.i64_in _ (by omega)]; rfl
      simp only [lp_join_0, joinSt1, wx, stV, seval, IntWalk.iteOmega, IntWalk.toNatUp, reduceCtorEq, get_map, e2, e4, e5]
      refine lop_next (i + 1) (by omega) (by omega) (ent_l id ?_ ?_ rfl rfl) <;> simp only [wx, wex, stV, seval, IntWalk.iteOmega, IntWalk.toNatUp, reduceCtorEq]
    · have : ls.take i = ls := List.take_of_length_le (by omega)
      simp only [lp_join_0, joinSt1, wx, stV, seval, IntWalk.iteOmega, IntWalk.toNatUp, reduceCtorEq, this, Nat.mul_one]
      refine loop_st (joinSt2 ls) (fun i => ls.length - i) (fun i => i ≤ ls.length) 0 (Nat.zero_le _) ?_ ?_
      · refine ent_l (fun _ => 168) ?_ ?_ rfl rfl <;> simp only [wx, wex, stV, seval, IntWalk.iteOmega, IntWalk.toNatUp, reduceCtorEq]
      · intro i hi
        by_cases hlt : i < ls.length
        · have e2 : ls[i]? = some ls[i] := List.getElem?_eq_getElem hlt
          have e4 : IntKind.i64.wrap ((i : Int) + 1) = ((i + 1 : Nat) : Int) := by rw [IntWalk.i64_in _ (by omega)]; rfl
          have h5 := flat_le ls i hlt
          simp only [lp_join_1, joinSt2, wx, stV, seval, IntWalk.iteOmega, IntWalk.toNatUp, reduceCtorEq, get_map, e2, e4, Nat.mul_one, srcV]
          refine lop_next (i + 1) (by omega) (by omega) (ent_l (fun _ => 240) ?_ ?_ rfl rfl) <;> simp only [wx, wex, stV, seval, IntWalk.iteOmega, IntWalk.toNatUp, reduceCtorEq, take_flat ls i hlt]
        · have : ls.take i = ls := List.take_of_length_le (by omega)
          simp only [lp_join_1, joinSt2, wx, stV, seval, IntWalk.iteOmega, IntWalk.toNatUp, reduceCtorEq, this]
          refine ret_own (id := 1) (n := ls.flatten.length) (s := 1) ?_ ?_ ?_ <;> simp only [wx, stV, seval, IntWalk.iteOmega, IntWalk.toNatUp, reduceCtorEq]

/-! ### Get -/
def getN (l : List UInt8) : Nat := l.foldl (fun a x => (a * 256 + x.toNat) % 18446744073709551616) 0
theorem getN_lt (l : List UInt8) : getN l < 18446744073709551616 := by
  unfold getN
  rcases List.eq_nil_or_concat l with rfl | ⟨a, x, rfl⟩
  · simp
  · simp only [List.concat_eq_append, List.foldl_append, List.foldl_cons, List.foldl_nil]; omega
theorem u64_in (n : Int) (h₀ : 0 ≤ n) (h₁ : n < 2 ^ 64) : IntKind.u64.wrap n = n := by rw [IntKind.wrap_u64]; omega
theorem getN_snoc (a : List UInt8) (x : UInt8) : bits .or .u64 (IntKind.u64.wrap ((getN a : Int) * 256)) (x.toNat : Int) = (getN (a ++ [x]) : Int) := by
  have hx : x.toNat < 256 := x.toNat_lt
  have h1 := bits_join .u64 64 (by decide) u64_in 8 (IntKind.u64.wrap ((getN a : Int) * 256)) (x.toNat : Int)
    (by rw [IntKind.wrap_u64]; omega) (by rw [IntKind.wrap_u64]; omega) (by rw [IntKind.wrap_u64]; omega) (by omega) (by omega) (by omega)
  rw [h1, IntKind.wrap_u64]
  simp only [getN, List.foldl_append, List.foldl_cons, List.foldl_nil]
  omega
theorem getN_take (l : List UInt8) (j : Nat) (h : j < l.length) : bits .or .u64 (IntKind.u64.wrap ((getN (l.take j) : Int) * 256)) (l[j].toNat : Int) = (getN (l.take (j + 1)) : Int) := by
  rw [getN_snoc, List.take_succ_eq_append_getElem h]
theorem getN_app (a b : List UInt8) : getN (a ++ b) = (getN a * 256 ^ b.length + getN b) % 18446744073709551616 := by
  have key : ∀ (n : Nat) (b : List UInt8), b.length = n → getN (a ++ b) = (getN a * 256 ^ n + getN b) % 18446744073709551616 := by
    intro n
    induction n with
    | zero =>
      intro b hb
      have : b = [] := List.eq_nil_of_length_eq_zero hb
      subst this
      have h0 : getN [] = 0 := rfl
      rw [List.append_nil, Nat.pow_zero, h0]
      have := getN_lt a
      omega
    | succ n ih =>
      intro b hb
      rcases List.eq_nil_or_concat b with rfl | ⟨c, x, rfl⟩
      · simp at hb
      · rw [List.concat_eq_append] at hb ⊢
        rw [← List.append_assoc]
        have h1 : ∀ l : List UInt8, getN (l ++ [x]) = (getN l * 256 + x.toNat) % 18446744073709551616 := fun l => by simp [getN]
        rw [h1, h1, ih c (by simpa using hb), Nat.pow_succ]
        generalize getN a = p
        generalize getN c = q
        generalize 256 ^ n = r
        have e : p * (r * 256) = p * r * 256 := by rw [Nat.mul_assoc]
        rw [e]
        generalize p * r = z
        omega
  exact key _ b rfl
theorem getN_tail (l : List UInt8) (h : 8 < l.length) : getN (l.drop (l.length - 8)) = getN l := by
  have h1 := getN_app (l.take (l.length - 8)) (l.drop (l.length - 8))
  rw [List.take_append_drop] at h1
  have h2 : (l.drop (l.length - 8)).length = 8 := by rw [List.length_drop]; omega
  rw [h2] at h1
  have h3 := getN_lt (l.drop (l.length - 8))
  rw [h1]
  have : (256 : Nat) ^ 8 = 18446744073709551616 := by decide
  rw [this]
  omega
def getSt (l : List UInt8) (i : Nat) : St := ⟨ofL [(3, .w (.c (.d (.int .u64 (getN (l.take i)))))), (14, .w (.c (.d (.sl (l.map bD))))), (15, .w (.c (.d (.int .i64 (l.length : Int))))), (16, .w (.c (.d (.int .i64 (i : Int)))))], hL [], uL []⟩
def lp_get_0 : SCode :=
  .seq (.reg [⟨(some 17), .bin .lss (.t 16) (.t 15), none⟩])
  (.seq (.cond (.t 17) (.skip)
   (.exit 0))
  (.seq (.block 1 (.seq (.reg [⟨(some 18), .idxSl 1 (.t 14) (.t 16), none⟩,
     ⟨(some 19), .load .sc (.t 18), none⟩,
     ⟨(some 5), .mv (.t 19), none⟩])
   (.reg [⟨(some 20), .mv (.t 3), none⟩,
     ⟨(some 21), .bin .shl (.t 20) (.k (.c (.d (.int .u64 8)))), none⟩,
     ⟨(some 22), .mv (.t 5), none⟩,
     ⟨(some 23), .conv .u64 (.t 22), none⟩,
     ⟨(some 24), .bin .or (.t 21) (.t 23), none⟩,
     ⟨(some 3), .mv (.t 24), none⟩])))
  (.reg [⟨(some 25), .bin .add (.t 16) (.k (.c (.d (.int .i64 1)))), none⟩,
    ⟨(some 16), .mv (.t 25), none⟩])))
def sf_get : SFn := ⟨1, 27,
  .seq (.reg [⟨(some 2), .mv (.k (.c (.d (.int .u64 0)))), none⟩])
  (.seq (.seq (.reg [⟨(some 6), .mv (.t 0), none⟩,
    ⟨(some 7), .len (.t 6), none⟩,
    ⟨(some 8), .bin .gtr (.t 7) (.k (.c (.d (.int .i64 8)))), none⟩])
  (.cond (.t 8) (.reg [⟨(some 9), .mv (.t 0), none⟩,
     ⟨(some 10), .mv (.t 0), none⟩,
     ⟨(some 11), .len (.t 10), none⟩,
     ⟨(some 12), .bin .sub (.t 11) (.k (.c (.d (.int .i64 8)))), none⟩,
     ⟨(some 13), .slice 1 (.t 9) (some (.t 12)) none none, none⟩,
     ⟨(some 0), .mv (.t 13), none⟩])
   (.skip)))
  (.seq (.reg [⟨(some 3), .mv (.k (.c (.d (.int .u64 0)))), none⟩])
  (.seq (.seq (.reg [⟨(some 14), .mv (.t 0), none⟩,
    ⟨(some 15), .len (.t 14), none⟩,
    ⟨(some 16), .mv (.k (.c (.d (.int .i64 0)))), none⟩])
  (.block 0 (.loop lp_get_0)))
  (.seq (.reg [⟨(some 26), .mv (.t 3), none⟩,
    ⟨(some 2), .mv (.t 26), none⟩])
  (.ret))))),
  [(2, none)]⟩
theorem cf_get : compFn Tryd.prog { own := [], comp := [], frz := [], nils := [] } Tryd.f115 = some sf_get := by kernel_rfl
set_option maxHeartbeats 400000 in
theorem get_l (G : Glob) (Q : AX → St → Prop) (l : List UInt8) (hl : l.length ≤ 8) (σ : St) (he : Ent σ (getSt l 0)) (hq : ∀ f, f 3 = .w (.c (.d (.int .u64 (getN l)))) → Q (.ex 0) ⟨f, hN, uN⟩) : awp Tryd.prog G (.loop lp_get_0) Q σ := by
  refine loop_st (getSt l) (fun i => l.length - i) (fun i => i ≤ l.length) 0 (Nat.zero_le _) he ?_
  intro i hi
  by_cases hlt : i < l.length
  · have hb := l[i].toNat_lt
    have e2 : l[i]? = some l[i] := List.getElem?_eq_getElem hlt
    have e3 : IntKind.u64.wrap (l[i].toNat : Int) = (l[i].toNat : Int) := u64_in _ (by omega) (by omega)
    have e4 : IntKind.i64.wrap ((i : Int) + 1) = ((i + 1 : Nat) : Int) := by rw [IntWalk.i64_in _ (by omega)]; rfl
    have e5 := getN_take l i hlt
    simp only [lp_get_0, getSt, wx, stV, seval, IntWalk.iteOmega, IntWalk.toNatUp, reduceCtorEq, get_map, e2, IntKind.bits, e3, e4]
    refine lop_next (i + 1) (by omega) (by omega) (ent_l id ?_ ?_ rfl rfl) <;> simp only [wx, wex, stV, seval, IntWalk.iteOmega, IntWalk.toNatUp, reduceCtorEq, ← e5]
  · have : l.take i = l := List.take_of_length_le (by omega)
    simp only [lp_get_0, getSt, wx, stV, seval, IntWalk.iteOmega, IntWalk.toNatUp, reduceCtorEq, this]
    exact hq _ (by simp only [wx, stV, seval, IntWalk.iteOmega, IntWalk.toNatUp, reduceCtorEq])
theorem get_c (G : Glob) (l : List UInt8) (hl : l.length ≤ 9223372036854775807) : Den Tryd.prog G 115 [.sl (l.map bD)] (.w (.c (.d (.int .u64 (getN l))))) := by
  refine den_walk Tryd.func115 cf_get rfl rfl ?_
  by_cases h8 : 8 < l.length
  · have e0 : IntKind.i64.wrap ((l.length : Int) - 8) = ((l.length - 8 : Nat) : Int) := by rw [IntWalk.i64_in _ (by omega)]; omega
    have e1 : (l.drop (l.length - 8)).take (l.length - (l.length - 8)) = l.drop (l.length - 8) := List.take_of_length_le (by rw [List.length_drop]; omega)
    simp only [sf_get, putAll, wx, stV, seval, IntWalk.iteOmega, IntWalk.toNatUp, reduceCtorEq, e0, e1]
    refine get_l G _ (l.drop (l.length - 8)) (by rw [List.length_drop]; omega) _ ?_ fun f hf => ?_
    · refine ent_l id ?_ ?_ rfl rfl <;> simp only [wx, wex, stV, seval, IntWalk.iteOmega, IntWalk.toNatUp, reduceCtorEq] <;> rfl
    · rw [getN_tail l h8] at hf
      simp only [wx, stV, seval, IntWalk.iteOmega, IntWalk.toNatUp, reduceCtorEq, hf]
      exact ret_d (by simp only [wx, stV, seval, IntWalk.iteOmega, IntWalk.toNatUp, reduceCtorEq])
  · simp only [sf_get, putAll, wx, stV, seval, IntWalk.iteOmega, IntWalk.toNatUp, reduceCtorEq]
    refine get_l G _ l (by omega) _ ?_ fun f hf => ?_
    · refine ent_l id ?_ ?_ rfl rfl <;> simp only [wx, wex, stV, seval, IntWalk.iteOmega, IntWalk.toNatUp, reduceCtorEq] <;> rfl
    · simp only [wx, stV, seval, IntWalk.iteOmega, IntWalk.toNatUp, reduceCtorEq, hf]
      exact ret_d (by simp only [wx, stV, seval, IntWalk.iteOmega, IntWalk.toNatUp, reduceCtorEq])

/-! ### Hex -/
def hexD (n : Nat) : UInt8 := if n < 10 then UInt8.ofNat (48 + n) else UInt8.ofNat (87 + n)
def hexL (l : List UInt8) : List UInt8 := l.flatMap fun b => [hexD (b.toNat / 16), hexD (b.toNat % 16)]
theorem hex_size : (⟨#[48, 49, 50, 51, 52, 53, 54, 55, 56, 57, 97, 98, 99, 100, 101, 102]⟩ : ByteArray).size = 16 := rfl
theorem hex_get (j : Nat) (h : j < 16) : (⟨#[48, 49, 50, 51, 52, 53, 54, 55, 56, 57, 97, 98, 99, 100, 101, 102]⟩ : ByteArray).data.toList[j]? = some (hexD j) := by
  have : ∀ j : Fin 16, (⟨#[48, 49, 50, 51, 52, 53, 54, 55, 56, 57, 97, 98, 99, 100, 101, 102]⟩ : ByteArray).data.toList[j.val]? = some (hexD j.val) := by decide
  exact this ⟨j, h⟩
theorem app_b1 (l : List UInt8) (a : UInt8) : l.map bD ++ [bD a] = (l ++ [a]).map bD := by simp
theorem app_b2 (l : List UInt8) (a b : UInt8) : l.map bD ++ [bD a, bD b] = (l ++ [a, b]).map bD := by simp
theorem hexL_len (l : List UInt8) : (hexL l).length = 2 * l.length := by
  induction l with
  | nil => rfl
  | cons b l ih =>
    have : hexL (b :: l) = [hexD (b.toNat / 16), hexD (b.toNat % 16)] ++ hexL l := rfl
    rw [this, List.length_append, ih]; simp; omega
theorem hexL_snoc (l : List UInt8) (i : Nat) (h : i < l.length) : hexL (l.take i) ++ [hexD (l[i].toNat / 16), hexD (l[i].toNat % 16)] = hexL (l.take (i + 1)) := by
  rw [List.take_succ_eq_append_getElem h]
  unfold hexL
  rw [List.flatMap_append]
  rfl
def hexSt (l : List UInt8) (i : Nat) : St := ⟨ofL [(3, .w (.c (.own 1 1 0 (hexL (l.take i)).length))), (10, .w (.c (.d (.sl (l.map bD))))), (11, .w (.c (.d (.int .i64 (l.length : Int))))), (12, .w (.c (.d (.int .i64 (i : Int)))))], hL [(1, .row 1 ((hexL (l.take i)).map bD))], uL [1]⟩
end Go.Proofs.YtjgkchmdhicmpaaDoor
set_option linter.unusedVariables false
set_option linter.unusedSimpArgs false
namespace Go.Proofs.YtjgkchmdhicmpaaDoor
open Go.RowKit

def firstK : List UInt32 := [0x6a09e667, 0xbb67ae85, 0x3c6ef372, 0xa54ff53a, 0x510e527f, 0x9b05688c, 0x1f83d9ab, 0x5be0cd19]
def constK : List UInt32 := [
  0x428a2f98, 0x71374491, 0xb5c0fbcf, 0xe9b5dba5, 0x3956c25b, 0x59f111f1, 0x923f82a4, 0xab1c5ed5,
  0xd807aa98, 0x12835b01, 0x243185be, 0x550c7dc3, 0x72be5d74, 0x80deb1fe, 0x9bdc06a7, 0xc19bf174,
  0xe49b69c1, 0xefbe4786, 0x0fc19dc6, 0x240ca1cc, 0x2de92c6f, 0x4a7484aa, 0x5cb0a9dc, 0x76f988da,
  0x983e5152, 0xa831c66d, 0xb00327c8, 0xbf597fc7, 0xc6e00bf3, 0xd5a79147, 0x06ca6351, 0x14292967,
  0x27b70a85, 0x2e1b2138, 0x4d2c6dfc, 0x53380d13, 0x650a7354, 0x766a0abb, 0x81c2c92e, 0x92722c85,
  0xa2bfe8a1, 0xa81a664b, 0xc24b8b70, 0xc76c51a3, 0xd192e819, 0xd6990624, 0xf40e3585, 0x106aa070,
  0x19a4c116, 0x1e376c08, 0x2748774c, 0x34b0bcb5, 0x391c0cb3, 0x4ed8aa4a, 0x5b9cca4f, 0x682e6ff3,
  0x748f82ee, 0x78a5636f, 0x84c87814, 0x8cc70208, 0x90befffa, 0xa4506ceb, 0xbef9a3f7, 0xc67178f2]
theorem firstK_len : firstK.length = 8 := rfl
theorem constK_len : constK.length = 64 := rfl

/-! ### A block -/
def wordAt (b : List UInt8) (t : Nat) : UInt32 :=
  orW (orW (orW (shlW (byteW (b.getD (4 * t) 0)) 24) (shlW (byteW (b.getD (4 * t + 1) 0)) 16)) (shlW (byteW (b.getD (4 * t + 2) 0)) 8)) (byteW (b.getD (4 * t + 3) 0))
def smallA (x : UInt32) : UInt32 := xorW (xorW (rotW x 7) (rotW x 18)) (shrW x 3)
def smallB (y : UInt32) : UInt32 := xorW (xorW (rotW y 17) (rotW y 19)) (shrW y 10)
def nextW (s : List UInt32) (t : Nat) : UInt32 :=
  addW (addW (addW (smallB (s.getD (t - 2) 0)) (s.getD (t - 7) 0)) (smallA (s.getD (t - 15) 0))) (s.getD (t - 16) 0)
def sched16 (b : List UInt8) (n : Nat) : List UInt32 := (List.range n).map (wordAt b)
/-- The schedule, n words behind the first 16. -/
def schedN (b : List UInt8) : Nat → List UInt32
  | 0 => sched16 b 16
  | n + 1 => schedN b n ++ [nextW (schedN b n) (16 + n)]
def sched (b : List UInt8) : List UInt32 := schedN b 48
theorem sched_at (b : List UInt8) (m : Nat) (h : m = 48) : sched b = schedN b m := by rw [h]; rfl
def bigE (e : UInt32) : UInt32 := xorW (xorW (rotW e 6) (rotW e 11)) (rotW e 25)
def bigA (a : UInt32) : UInt32 := xorW (xorW (rotW a 2) (rotW a 13)) (rotW a 22)
def chW (e f g : UInt32) : UInt32 := xorW (andW e f) (andW (notW e) g)
def majW (a b c : UInt32) : UInt32 := xorW (xorW (andW a b) (andW a c)) (andW b c)
structure Eight where
  (a b c d e f g h : UInt32)
def Eight.step (s : Eight) (k w : UInt32) : Eight :=
  let t1 := addW (addW (addW (addW s.h (bigE s.e)) (chW s.e s.f s.g)) k) w
  let t2 := addW (bigA s.a) (majW s.a s.b s.c)
  ⟨addW t1 t2, s.a, s.b, s.c, addW s.d t1, s.e, s.f, s.g⟩
def Eight.of (h : List UInt32) : Eight := ⟨h.getD 0 0, h.getD 1 0, h.getD 2 0, h.getD 3 0, h.getD 4 0, h.getD 5 0, h.getD 6 0, h.getD 7 0⟩
def Eight.rounds (s : Eight) (k w : List UInt32) : Nat → Eight
  | 0 => s
  | n + 1 => (s.rounds k w n).step (k.getD n 0) (w.getD n 0)
def Eight.sum (s : Eight) (h : List UInt32) : List UInt32 :=
  [addW (h.getD 0 0) s.a, addW (h.getD 1 0) s.b, addW (h.getD 2 0) s.c, addW (h.getD 3 0) s.d, addW (h.getD 4 0) s.e, addW (h.getD 5 0) s.f, addW (h.getD 6 0) s.g, addW (h.getD 7 0) s.h]
def blockK (h : List UInt32) (b : List UInt8) : List UInt32 := ((Eight.of h).rounds constK (sched b) 64).sum h
theorem blockK_len (h : List UInt32) (b : List UInt8) : (blockK h b).length = 8 := rfl

/-- "abc", padded, as one block: the hash that the standard gives. -/
def abcBlock : List UInt8 := [97, 98, 99, 128] ++ List.replicate 52 0 ++ [0, 0, 0, 0, 0, 0, 0, 24]
theorem abc_hash : blockK firstK abcBlock = [0xba7816bf, 0x8f01cfea, 0x414140de, 0x5dae2223, 0xb00361a3, 0x96177a9c, 0xb410ff61, 0xf20015ad] := by
  decide +kernel
end Go.Proofs.YtjgkchmdhicmpaaDoor
set_option linter.unusedVariables false
set_option linter.unusedSimpArgs false
namespace Go.Proofs.YtjgkchmdhicmpaaDoor
open Go.RowKit

theorem orW_comm (x y : UInt32) : orW x y = orW y x := UInt32.or_comm x y
def sf_rturn : SFn := ⟨2, 15,
  .seq (.reg [⟨(some 4), .mv (.k (.c (.d (.int .u32 0)))), none⟩])
  (.seq (.reg [⟨(some 5), .mv (.t 0), none⟩,
    ⟨(some 6), .mv (.t 1), none⟩,
    ⟨(some 7), .conv .u64 (.t 6), none⟩,
    ⟨(some 8), .bin .shr (.t 5) (.t 7), none⟩,
    ⟨(some 9), .mv (.t 0), none⟩,
    ⟨(some 10), .mv (.t 1), none⟩,
    ⟨(some 11), .bin .sub (.k (.c (.d (.int .i64 32)))) (.t 10), none⟩,
    ⟨(some 12), .conv .u64 (.t 11), none⟩,
    ⟨(some 13), .bin .shl (.t 9) (.t 12), none⟩,
    ⟨(some 14), .bin .or (.t 8) (.t 13), none⟩,
    ⟨(some 4), .mv (.t 14), none⟩])
  (.ret)),
  [(4, none)]⟩
theorem cf_rturn : compFn Tryd.prog { own := [], comp := [], frz := [], nils := [] } Tryd.f120 = some sf_rturn := by kernel_rfl
theorem rturn_c (G : Glob) (x : UInt32) (n : Nat) (h0 : 0 < n) (hn : n < 32) : Den Tryd.prog G 120 [wD x, .int .i64 n] (.w (.c (.d (wD (rotW x n))))) := by
  refine den_walk Tryd.func120 cf_rturn rfl rfl ?_
  have e1 : IntKind.u64.wrap (n : Int) = (n : Int) := IntWalk.u64_in _ (by omega)
  have e2 : IntKind.i64.wrap (32 - (n : Int)) = ((32 - n : Nat) : Int) := by rw [IntWalk.i64_in _ (by omega)]; omega
  have e3 : IntKind.u64.wrap ((32 - n : Nat) : Int) = ((32 - n : Nat) : Int) := IntWalk.u64_in _ (by omega)
  simp only [sf_rturn, putAll, wx, stV, seval, IntWalk.iteOmega, IntWalk.toNatUp, reduceCtorEq, e1, e2, e3]
  exact ret_d (by simp only [wx, stV, seval, IntWalk.iteOmega, IntWalk.toNatUp, reduceCtorEq] <;> rfl)
def sf_rotl : SFn := ⟨2, 17,
  .seq (.reg [⟨(some 4), .mv (.k (.c (.d (.int .u32 0)))), none⟩])
  (.seq (.reg [⟨(some 6), .mv (.t 1), none⟩,
    ⟨(some 7), .conv .u64 (.t 6), none⟩,
    ⟨(some 8), .bin .and (.t 7) (.k (.c (.d (.int .u64 31)))), none⟩,
    ⟨(some 5), .mv (.t 8), none⟩])
  (.seq (.reg [⟨(some 9), .mv (.t 0), none⟩,
    ⟨(some 10), .mv (.t 5), none⟩,
    ⟨(some 11), .bin .shl (.t 9) (.t 10), none⟩,
    ⟨(some 12), .mv (.t 0), none⟩,
    ⟨(some 13), .mv (.t 5), none⟩,
    ⟨(some 14), .bin .sub (.k (.c (.d (.int .u64 32)))) (.t 13), none⟩,
    ⟨(some 15), .bin .shr (.t 12) (.t 14), none⟩,
    ⟨(some 16), .bin .or (.t 11) (.t 15), none⟩,
    ⟨(some 4), .mv (.t 16), none⟩])
  (.ret))),
  [(4, none)]⟩
theorem cf_rotl : compFn Tryd.prog { own := [], comp := [], frz := [], nils := [] } Tryd.f128 = some sf_rotl := by kernel_rfl
theorem rotl_c (G : Glob) (x : UInt32) (n : Nat) (h0 : 0 < n) (hn : n < 32) : Den Tryd.prog G 128 [wD x, .int .i64 (-(n : Int))] (.w (.c (.d (wD (rotW x n))))) := by
  refine den_walk Tryd.func128 cf_rotl rfl rfl ?_
  have e1 : bits .and .u64 (IntKind.u64.wrap (-(n : Int))) 31 = ((32 - n : Nat) : Int) := by
    have h := bits_mask .u64 64 (by decide) u64_in 5 (by decide) (IntKind.u64.wrap (-(n : Int))) (by rw [IntKind.wrap_u64]; omega) (by rw [IntKind.wrap_u64]; omega)
    rw [show (31 : Int) = 2 ^ 5 - 1 by decide, h, IntKind.wrap_u64]
    omega
  have e2 : IntKind.u64.wrap (32 - ((32 - n : Nat) : Int)) = ((n : Nat) : Int) := by rw [IntWalk.u64_in _ (by omega)]; omega
  simp only [sf_rotl, putAll, wx, stV, seval, IntWalk.iteOmega, IntWalk.toNatUp, reduceCtorEq, e1, e2]
  rw [orW_comm]
  exact ret_d (by simp only [wx, stV, seval, IntWalk.iteOmega, IntWalk.toNatUp, reduceCtorEq] <;> rfl)
def sf_turn : SFn := ⟨2, 9,
  .seq (.reg [⟨(some 4), .mv (.k (.c (.d (.int .u32 0)))), none⟩])
  (.seq (.reg [⟨(some 5), .mv (.t 0), none⟩,
    ⟨(some 6), .mv (.t 1), none⟩,
    ⟨(some 7), .un .neg (.t 6), none⟩,
    ⟨(some 8), .call 128 [(.t 5), (.t 7)] none, none⟩,
    ⟨(some 4), .mv (.t 8), none⟩])
  (.ret)),
  [(4, none)]⟩
theorem cf_turn : compFn Tryd.prog { own := [], comp := [], frz := [], nils := [] } Tryd.f123 = some sf_turn := by kernel_rfl
theorem turn_c (G : Glob) (x : UInt32) (n : Nat) (h0 : 0 < n) (hn : n < 32) : Den Tryd.prog G 123 [wD x, .int .i64 n] (.w (.c (.d (wD (rotW x n))))) := by
  refine den_walk Tryd.func123 cf_turn rfl rfl ?_
  have e1 : IntKind.i64.wrap (0 - (n : Int)) = -(n : Int) := by rw [IntWalk.i64_in _ (by omega)]; omega
  simp only [sf_turn, putAll, wx, stV, seval, IntWalk.iteOmega, IntWalk.toNatUp, reduceCtorEq, e1]
  refine st_call (rotl_c G x n h0 hn) rfl (.inr rfl) ?_
  simp only [wx, stV, seval, IntWalk.iteOmega, IntWalk.toNatUp, reduceCtorEq]
  exact ret_d (by simp only [wx, stV, seval, IntWalk.iteOmega, IntWalk.toNatUp, reduceCtorEq])
def sf_rfst : SFn := ⟨0, 2,
  .seq (.reg [⟨(some 0), .mv (.k (.c .nil)), none⟩])
  (.seq (.reg [⟨(some 1), .bldSl true 8 1 (.int .u32 0) [(0, (.k (.c (.d (.int .u32 1779033703))))), (1, (.k (.c (.d (.int .u32 3144134277))))), (2, (.k (.c (.d (.int .u32 1013904242))))), (3, (.k (.c (.d (.int .u32 2773480762))))), (4, (.k (.c (.d (.int .u32 1359893119))))), (5, (.k (.c (.d (.int .u32 2600822924))))), (6, (.k (.c (.d (.int .u32 528734635))))), (7, (.k (.c (.d (.int .u32 1541459225)))))], none⟩,
    ⟨(some 0), .mv (.t 1), none⟩])
  (.ret)),
  [(0, none)]⟩
theorem cf_rfst : compFn Tryd.prog { own := [1], comp := [], frz := [], nils := [] } Tryd.f99 = some sf_rfst := by kernel_rfl
theorem rfst_c (G : Glob) : Den Tryd.prog G 99 [] (.w (.c (.fr 1 (firstK.map wD)))) := by
  refine den_walk Tryd.func99 cf_rfst rfl rfl ?_
  simp only [sf_rfst, putAll, sx]
  refine optK_mk (.w (.c (.own 8 1 0 8)), upd hN 8 (some (.row 1 (firstK.map wD))), upd uN 8 true) (by kernel_rfl) ?_
  simp only [wx, stV, seval, IntWalk.iteOmega, IntWalk.toNatUp, reduceCtorEq]
  exact ret_own (id := 8) (n := 8) (s := 1) (by simp only [wx, stV, seval, IntWalk.iteOmega, IntWalk.toNatUp, reduceCtorEq]) (by simp only [wx, stV, seval, IntWalk.iteOmega, IntWalk.toNatUp, reduceCtorEq]) rfl
def sf_rcon : SFn := ⟨0, 2,
  .seq (.reg [⟨(some 0), .mv (.k (.c .nil)), none⟩])
  (.seq (.reg [⟨(some 1), .bldSl true 64 1 (.int .u32 0) [(0, (.k (.c (.d (.int .u32 1116352408))))), (1, (.k (.c (.d (.int .u32 1899447441))))), (2, (.k (.c (.d (.int .u32 3049323471))))), (3, (.k (.c (.d (.int .u32 3921009573))))), (4, (.k (.c (.d (.int .u32 961987163))))), (5, (.k (.c (.d (.int .u32 1508970993))))), (6, (.k (.c (.d (.int .u32 2453635748))))), (7, (.k (.c (.d (.int .u32 2870763221))))), (8, (.k (.c (.d (.int .u32 3624381080))))), (9, (.k (.c (.d (.int .u32 310598401))))), (10, (.k (.c (.d (.int .u32 607225278))))), (11, (.k (.c (.d (.int .u32 1426881987))))), (12, (.k (.c (.d (.int .u32 1925078388))))), (13, (.k (.c (.d (.int .u32 2162078206))))), (14, (.k (.c (.d (.int .u32 2614888103))))), (15, (.k (.c (.d (.int .u32 3248222580))))), (16, (.k (.c (.d (.int .u32 3835390401))))), (17, (.k (.c (.d (.int .u32 4022224774))))), (18, (.k (.c (.d (.int .u32 264347078))))), (19, (.k (.c (.d (.int .u32 604807628))))), (20, (.k (.c (.d (.int .u32 770255983))))), (21, (.k (.c (.d (.int .u32 1249150122))))), (22, (.k (.c (.d (.int .u32 1555081692))))), (23, (.k (.c (.d (.int .u32 1996064986))))), (24, (.k (.c (.d (.int .u32 2554220882))))), (25, (.k (.c (.d (.int .u32 2821834349))))), (26, (.k (.c (.d (.int .u32 2952996808))))), (27, (.k (.c (.d (.int .u32 3210313671))))), (28, (.k (.c (.d (.int .u32 3336571891))))), (29, (.k (.c (.d (.int .u32 3584528711))))), (30, (.k (.c (.d (.int .u32 113926993))))), (31, (.k (.c (.d (.int .u32 338241895))))), (32, (.k (.c (.d (.int .u32 666307205))))), (33, (.k (.c (.d (.int .u32 773529912))))), (34, (.k (.c (.d (.int .u32 1294757372))))), (35, (.k (.c (.d (.int .u32 1396182291))))), (36, (.k (.c (.d (.int .u32 1695183700))))), (37, (.k (.c (.d (.int .u32 1986661051))))), (38, (.k (.c (.d (.int .u32 2177026350))))), (39, (.k (.c (.d (.int .u32 2456956037))))), (40, (.k (.c (.d (.int .u32 2730485921))))), (41, (.k (.c (.d (.int .u32 2820302411))))), (42, (.k (.c (.d (.int .u32 3259730800))))), (43, (.k (.c (.d (.int .u32 3345764771))))), (44, (.k (.c (.d (.int .u32 3516065817))))), (45, (.k (.c (.d (.int .u32 3600352804))))), (46, (.k (.c (.d (.int .u32 4094571909))))), (47, (.k (.c (.d (.int .u32 275423344))))), (48, (.k (.c (.d (.int .u32 430227734))))), (49, (.k (.c (.d (.int .u32 506948616))))), (50, (.k (.c (.d (.int .u32 659060556))))), (51, (.k (.c (.d (.int .u32 883997877))))), (52, (.k (.c (.d (.int .u32 958139571))))), (53, (.k (.c (.d (.int .u32 1322822218))))), (54, (.k (.c (.d (.int .u32 1537002063))))), (55, (.k (.c (.d (.int .u32 1747873779))))), (56, (.k (.c (.d (.int .u32 1955562222))))), (57, (.k (.c (.d (.int .u32 2024104815))))), (58, (.k (.c (.d (.int .u32 2227730452))))), (59, (.k (.c (.d (.int .u32 2361852424))))), (60, (.k (.c (.d (.int .u32 2428436474))))), (61, (.k (.c (.d (.int .u32 2756734187))))), (62, (.k (.c (.d (.int .u32 3204031479))))), (63, (.k (.c (.d (.int .u32 3329325298)))))], none⟩,
    ⟨(some 0), .mv (.t 1), none⟩])
  (.ret)),
  [(0, none)]⟩
theorem cf_rcon : compFn Tryd.prog { own := [1], comp := [], frz := [], nils := [] } Tryd.f100 = some sf_rcon := by kernel_rfl
theorem rcon_c (G : Glob) : Den Tryd.prog G 100 [] (.w (.c (.fr 1 (constK.map wD)))) := by
  refine den_walk Tryd.func100 cf_rcon rfl rfl ?_
  simp only [sf_rcon, putAll, sx]
  refine optK_mk (.w (.c (.own 8 1 0 64)), upd hN 8 (some (.row 1 (constK.map wD))), upd uN 8 true) (by kernel_rfl) ?_
  simp only [wx, stV, seval, IntWalk.iteOmega, IntWalk.toNatUp, reduceCtorEq]
  exact ret_own (id := 8) (n := 64) (s := 1) (by simp only [wx, stV, seval, IntWalk.iteOmega, IntWalk.toNatUp, reduceCtorEq]) (by simp only [wx, stV, seval, IntWalk.iteOmega, IntWalk.toNatUp, reduceCtorEq]) rfl
end Go.Proofs.YtjgkchmdhicmpaaDoor
set_option linter.unusedVariables false
set_option linter.unusedSimpArgs false
namespace Go.Proofs.YtjgkchmdhicmpaaDoor
open Go.RowKit

theorem byteW_nat' (b : UInt8) : (byteW b).toNat = b.toNat := by have := byteW_nat b; omega
theorem shlW_byte (b : UInt8) (n : Nat) (hn : n ≤ 24) : (shlW (byteW b) n).toNat = 2 ^ n * b.toNat := by
  have hb := b.toNat_lt
  have h : (2 : Nat) ^ n ≤ 2 ^ 24 := Nat.pow_le_pow_right (by decide) hn
  have h2 : 2 ^ n * b.toNat ≤ 2 ^ 24 * 255 := Nat.mul_le_mul h (by omega)
  unfold shlW
  rw [byteW_nat', UInt32.toNat_ofNat_of_lt' (by rw [Nat.mul_comm]; simp only [UInt32.size]; omega), Nat.mul_comm]
theorem orW_nat (x y : UInt32) : (orW x y).toNat = x.toNat ||| y.toNat := UInt32.toNat_or x y
theorem wordAt_nat (b : List UInt8) (t : Nat) : (wordAt b t).toNat = ((((b.getD (4 * t) 0).toNat * 256 + (b.getD (4 * t + 1) 0).toNat) * 256 + (b.getD (4 * t + 2) 0).toNat) * 256 + (b.getD (4 * t + 3) 0).toNat) := by
  unfold wordAt
  generalize b.getD (4 * t) 0 = p
  generalize b.getD (4 * t + 1) 0 = q
  generalize b.getD (4 * t + 2) 0 = r
  generalize b.getD (4 * t + 3) 0 = s
  have hp := p.toNat_lt
  have hq := q.toNat_lt
  have hr := r.toNat_lt
  have hs := s.toNat_lt
  rw [orW_nat, orW_nat, orW_nat, shlW_byte _ _ (by decide), shlW_byte _ _ (by decide), shlW_byte _ _ (by decide), byteW_nat']
  have e1 := Nat.two_pow_add_eq_or_of_lt (i := 24) (b := 2 ^ 16 * q.toNat) (by omega) p.toNat
  rw [← e1]
  have e2 := Nat.two_pow_add_eq_or_of_lt (i := 16) (b := 2 ^ 8 * r.toNat) (by omega) (2 ^ 8 * p.toNat + q.toNat)
  have e3 : 2 ^ 24 * p.toNat + 2 ^ 16 * q.toNat = 2 ^ 16 * (2 ^ 8 * p.toNat + q.toNat) := by omega
  rw [e3, ← e2]
  have e4 := Nat.two_pow_add_eq_or_of_lt (i := 8) (b := s.toNat) (by omega) (2 ^ 8 * (2 ^ 8 * p.toNat + q.toNat) + r.toNat)
  have e5 : 2 ^ 16 * (2 ^ 8 * p.toNat + q.toNat) + 2 ^ 8 * r.toNat = 2 ^ 8 * (2 ^ 8 * (2 ^ 8 * p.toNat + q.toNat) + r.toNat) := by omega
  rw [e5, ← e4]
  omega
theorem four (b : List UInt8) (t : Nat) (h : 4 * t + 4 ≤ b.length) : (b.drop (4 * t)).take 4 = [b.getD (4 * t) 0, b.getD (4 * t + 1) 0, b.getD (4 * t + 2) 0, b.getD (4 * t + 3) 0] := by
  apply List.ext_getElem?
  intro j
  rw [List.getElem?_take, List.getElem?_drop]
  rcases j with _ | _ | _ | _ | j
  · simp [List.getD, List.getElem?_eq_getElem (show 4 * t < b.length by omega)]
  · simp [List.getD, List.getElem?_eq_getElem (show 4 * t + 1 < b.length by omega)]
  · simp [List.getD, List.getElem?_eq_getElem (show 4 * t + 2 < b.length by omega)]
  · simp [List.getD, List.getElem?_eq_getElem (show 4 * t + 3 < b.length by omega)]
  · rw [if_neg (by omega)]
    rfl
theorem getW (b : List UInt8) (t : Nat) (h : 4 * t + 4 ≤ b.length) : D.int .u32 (IntKind.u32.wrap (getN ((b.drop (4 * t)).take 4) : Int)) = wD (wordAt b t) := by
  have h1 := wordAt_nat b t
  rw [four b t h]
  unfold wD
  rw [h1]
  generalize b.getD (4 * t) 0 = p
  generalize b.getD (4 * t + 1) 0 = q
  generalize b.getD (4 * t + 2) 0 = r
  generalize b.getD (4 * t + 3) 0 = s
  have hp := p.toNat_lt
  have hq := q.toNat_lt
  have hr := r.toNat_lt
  have hs := s.toNat_lt
  have e : getN [p, q, r, s] = (((p.toNat * 256 + q.toNat) * 256 + r.toNat) * 256 + s.toNat) := by
    simp only [getN, List.foldl_cons, List.foldl_nil]
    omega
  rw [e, IntWalk.u32_in _ (by omega)]
theorem sched16_len (b : List UInt8) (n : Nat) : (sched16 b n).length = n := by simp [sched16]
theorem schedN_len (b : List UInt8) : ∀ n, (schedN b n).length = 16 + n
  | 0 => by simp [schedN, sched16_len]
  | n + 1 => by rw [schedN, List.length_append, schedN_len b n]; simp; omega
theorem set_next {α : Type} (l : List α) (z x : α) (n : Nat) (h : 0 < n) : (l ++ List.replicate n z).set l.length x = (l ++ [x]) ++ List.replicate (n - 1) z := by
  obtain ⟨k, rfl⟩ : ∃ k, n = k + 1 := ⟨n - 1, by omega⟩
  rw [List.set_append_right _ _ (Nat.le_refl _), Nat.sub_self, List.replicate_succ, List.set_cons_zero]
  simp
theorem get_of {l : List UInt32} {r : List UInt32} {i : Nat} (h : i < l.length) : (l ++ r)[i]? = some (l.getD i 0) := by
  rw [List.getElem?_append_left h]
  simp [h]
def spSt1 (b : List UInt8) (t : Nat) : St := ⟨ofL [(0, .w (.c (.d (.sl (b.map bD))))), (2, .w (.c (.pa 1 1))), (3, .w (.c (.pa 2 1))), (10, .w (.c (.d (.int .i64 (t : Int)))))], hL [(1, .row 1 ((List.replicate 64 (0 : UInt32)).map wD)), (2, .row 1 ((sched16 b t ++ List.replicate (64 - t) 0).map wD))], uL [1, 2]⟩
def spSt2 (b : List UInt8) (n : Nat) : St := ⟨ofL [(2, .w (.c (.pa 1 1))), (3, .w (.c (.pa 2 1))), (5, .w (.c (.d (.int .i64 ((16 + n : Nat) : Int)))))], hL [(1, .row 1 ((List.replicate 64 (0 : UInt32)).map wD)), (2, .row 1 ((schedN b n ++ List.replicate (48 - n) 0).map wD))], uL [1, 2]⟩
def lp_spread_0 : SCode :=
  .seq (.reg [⟨(some 11), .bin .lss (.t 10) (.k (.c (.d (.int .i64 16)))), none⟩])
  (.seq (.cond (.t 11) (.skip)
   (.exit 0))
  (.seq (.block 1 (.seq (.reg [⟨(some 12), .mv (.t 10), none⟩,
     ⟨(some 4), .mv (.t 12), none⟩])
   (.reg [⟨(some 13), .mv (.t 4), none⟩,
     ⟨(some 14), .mv (.t 0), none⟩,
     ⟨(some 15), .mv (.t 4), none⟩,
     ⟨(some 16), .bin .mul (.t 15) (.k (.c (.d (.int .i64 4)))), none⟩,
     ⟨(some 17), .mv (.t 4), none⟩,
     ⟨(some 18), .bin .add (.t 17) (.k (.c (.d (.int .i64 1)))), none⟩,
     ⟨(some 19), .bin .mul (.t 18) (.k (.c (.d (.int .i64 4)))), none⟩,
     ⟨(some 20), .slice 1 (.t 14) (some (.t 16)) (some (.t 19)) none, none⟩,
     ⟨(some 21), .call 115 [(.t 20)] none, none⟩,
     ⟨(some 22), .conv .u32 (.t 21), none⟩,
     ⟨(some 23), .idxPa 1 64 (.t 3) (.t 13), none⟩,
     ⟨none, .store .sc (.t 23) (.t 22), none⟩])))
  (.reg [⟨(some 24), .bin .add (.t 10) (.k (.c (.d (.int .i64 1)))), none⟩,
    ⟨(some 10), .mv (.t 24), none⟩])))
def lp_spread_1 : SCode :=
  .seq (.seq (.reg [⟨(some 25), .mv (.t 5), none⟩,
    ⟨(some 26), .bin .lss (.t 25) (.k (.c (.d (.int .i64 64)))), none⟩])
  (.cond (.t 26) (.skip)
   (.exit 2)))
  (.seq (.block 3 (.seq (.reg [⟨(some 29), .mv (.t 5), none⟩,
     ⟨(some 30), .bin .sub (.t 29) (.k (.c (.d (.int .i64 15)))), none⟩,
     ⟨(some 31), .idxPa 1 64 (.t 3) (.t 30), none⟩,
     ⟨(some 32), .load .sc (.t 31), none⟩,
     ⟨(some 33), .mv (.t 5), none⟩,
     ⟨(some 34), .bin .sub (.t 33) (.k (.c (.d (.int .i64 2)))), none⟩,
     ⟨(some 35), .idxPa 1 64 (.t 3) (.t 34), none⟩,
     ⟨(some 36), .load .sc (.t 35), none⟩,
     ⟨(some 6), .mv (.t 32), none⟩,
     ⟨(some 7), .mv (.t 36), none⟩])
   (.seq (.reg [⟨(some 37), .mv (.t 6), none⟩,
     ⟨(some 38), .call 123 [(.t 37), (.k (.c (.d (.int .i64 7))))] none, none⟩,
     ⟨(some 39), .mv (.t 6), none⟩,
     ⟨(some 40), .call 123 [(.t 39), (.k (.c (.d (.int .i64 18))))] none, none⟩,
     ⟨(some 41), .bin .xor (.t 38) (.t 40), none⟩,
     ⟨(some 42), .mv (.t 6), none⟩,
     ⟨(some 43), .bin .shr (.t 42) (.k (.c (.d (.int .u64 3)))), none⟩,
     ⟨(some 44), .bin .xor (.t 41) (.t 43), none⟩,
     ⟨(some 8), .mv (.t 44), none⟩])
   (.seq (.reg [⟨(some 45), .mv (.t 7), none⟩,
     ⟨(some 46), .call 123 [(.t 45), (.k (.c (.d (.int .i64 17))))] none, none⟩,
     ⟨(some 47), .mv (.t 7), none⟩,
     ⟨(some 48), .call 123 [(.t 47), (.k (.c (.d (.int .i64 19))))] none, none⟩,
     ⟨(some 49), .bin .xor (.t 46) (.t 48), none⟩,
     ⟨(some 50), .mv (.t 7), none⟩,
     ⟨(some 51), .bin .shr (.t 50) (.k (.c (.d (.int .u64 10)))), none⟩,
     ⟨(some 52), .bin .xor (.t 49) (.t 51), none⟩,
     ⟨(some 9), .mv (.t 52), none⟩])
   (.reg [⟨(some 53), .mv (.t 5), none⟩,
     ⟨(some 54), .mv (.t 9), none⟩,
     ⟨(some 55), .mv (.t 5), none⟩,
     ⟨(some 56), .bin .sub (.t 55) (.k (.c (.d (.int .i64 7)))), none⟩,
     ⟨(some 57), .idxPa 1 64 (.t 3) (.t 56), none⟩,
     ⟨(some 58), .load .sc (.t 57), none⟩,
     ⟨(some 59), .bin .add (.t 54) (.t 58), none⟩,
     ⟨(some 60), .mv (.t 8), none⟩,
     ⟨(some 61), .bin .add (.t 59) (.t 60), none⟩,
     ⟨(some 62), .mv (.t 5), none⟩,
     ⟨(some 63), .bin .sub (.t 62) (.k (.c (.d (.int .i64 16)))), none⟩,
     ⟨(some 64), .idxPa 1 64 (.t 3) (.t 63), none⟩,
     ⟨(some 65), .load .sc (.t 64), none⟩,
     ⟨(some 66), .bin .add (.t 61) (.t 65), none⟩,
     ⟨(some 67), .idxPa 1 64 (.t 3) (.t 53), none⟩,
     ⟨none, .store .sc (.t 67) (.t 66), none⟩])))))
  (.reg [⟨(some 27), .mv (.t 5), none⟩,
    ⟨(some 28), .bin .add (.t 27) (.k (.c (.d (.int .i64 1)))), none⟩,
    ⟨(some 5), .mv (.t 28), none⟩]))
def sf_spread : SFn := ⟨1, 69,
  .seq (.reg [⟨(some 2), .allocArr [(.int .u32 0), (.int .u32 0), (.int .u32 0), (.int .u32 0), (.int .u32 0), (.int .u32 0), (.int .u32 0), (.int .u32 0), (.int .u32 0), (.int .u32 0), (.int .u32 0), (.int .u32 0), (.int .u32 0), (.int .u32 0), (.int .u32 0), (.int .u32 0), (.int .u32 0), (.int .u32 0), (.int .u32 0), (.int .u32 0), (.int .u32 0), (.int .u32 0), (.int .u32 0), (.int .u32 0), (.int .u32 0), (.int .u32 0), (.int .u32 0), (.int .u32 0), (.int .u32 0), (.int .u32 0), (.int .u32 0), (.int .u32 0), (.int .u32 0), (.int .u32 0), (.int .u32 0), (.int .u32 0), (.int .u32 0), (.int .u32 0), (.int .u32 0), (.int .u32 0), (.int .u32 0), (.int .u32 0), (.int .u32 0), (.int .u32 0), (.int .u32 0), (.int .u32 0), (.int .u32 0), (.int .u32 0), (.int .u32 0), (.int .u32 0), (.int .u32 0), (.int .u32 0), (.int .u32 0), (.int .u32 0), (.int .u32 0), (.int .u32 0), (.int .u32 0), (.int .u32 0), (.int .u32 0), (.int .u32 0), (.int .u32 0), (.int .u32 0), (.int .u32 0), (.int .u32 0)], none⟩])
  (.seq (.reg [⟨(some 3), .allocArr [(.int .u32 0), (.int .u32 0), (.int .u32 0), (.int .u32 0), (.int .u32 0), (.int .u32 0), (.int .u32 0), (.int .u32 0), (.int .u32 0), (.int .u32 0), (.int .u32 0), (.int .u32 0), (.int .u32 0), (.int .u32 0), (.int .u32 0), (.int .u32 0), (.int .u32 0), (.int .u32 0), (.int .u32 0), (.int .u32 0), (.int .u32 0), (.int .u32 0), (.int .u32 0), (.int .u32 0), (.int .u32 0), (.int .u32 0), (.int .u32 0), (.int .u32 0), (.int .u32 0), (.int .u32 0), (.int .u32 0), (.int .u32 0), (.int .u32 0), (.int .u32 0), (.int .u32 0), (.int .u32 0), (.int .u32 0), (.int .u32 0), (.int .u32 0), (.int .u32 0), (.int .u32 0), (.int .u32 0), (.int .u32 0), (.int .u32 0), (.int .u32 0), (.int .u32 0), (.int .u32 0), (.int .u32 0), (.int .u32 0), (.int .u32 0), (.int .u32 0), (.int .u32 0), (.int .u32 0), (.int .u32 0), (.int .u32 0), (.int .u32 0), (.int .u32 0), (.int .u32 0), (.int .u32 0), (.int .u32 0), (.int .u32 0), (.int .u32 0), (.int .u32 0), (.int .u32 0)], none⟩])
  (.seq (.seq (.reg [⟨(some 10), .mv (.k (.c (.d (.int .i64 0)))), none⟩])
  (.block 0 (.loop lp_spread_0)))
  (.seq (.seq (.reg [⟨(some 5), .mv (.k (.c (.d (.int .i64 16)))), none⟩])
  (.block 2 (.loop lp_spread_1)))
  (.seq (.reg [⟨(some 68), .load (.ag 64) (.t 3), none⟩,
    ⟨none, .store (.ag 64) (.t 2) (.t 68), none⟩])
  (.ret))))),
  [(2, (some (.ag 64)))]⟩
theorem cf_spread : compFn Tryd.prog { own := [], comp := [], frz := [], nils := [] } Tryd.f122 = some sf_spread := by kernel_rfl
set_option maxHeartbeats 800000 in
theorem spread_c (G : Glob) (b : List UInt8) (hb : b.length = 64) : Den Tryd.prog G 122 [.sl (b.map bD)] (.w (.c (.d (.agg ((sched b).map wD))))) := by
  refine den_walk Tryd.func122 cf_spread rfl rfl ?_
  simp only [sf_spread, putAll, wx, stV, seval, IntWalk.iteOmega, IntWalk.toNatUp, reduceCtorEq]
  refine loop_st (spSt1 b) (fun t => 16 - t) (fun t => t ≤ 16) 0 (Nat.zero_le _) ?_ ?_
  · refine ent_l (fun i => 8 * (i + 1)) ?_ ?_ rfl rfl <;> simp only [wx, wex, stV, seval, IntWalk.iteOmega, IntWalk.toNatUp, reduceCtorEq]
    exact ⟨rfl, rfl⟩
  · intro t ht
    by_cases hlt : t < 16
    · have e1 : IntKind.i64.wrap ((t : Int) * 4) = ((4 * t : Nat) : Int) := by rw [IntWalk.i64_in _ (by omega)]; omega
      have e2 : IntKind.i64.wrap ((t : Int) + 1) = ((t + 1 : Nat) : Int) := by rw [IntWalk.i64_in _ (by omega)]; rfl
      have e3 : IntKind.i64.wrap (((t + 1 : Nat) : Int) * 4) = ((4 * t + 4 : Nat) : Int) := by rw [IntWalk.i64_in _ (by omega)]; omega
      have e4 : 4 * t + 4 - 4 * t = 4 := by omega
      simp only [lp_spread_0, spSt1, wx, stV, seval, IntWalk.iteOmega, IntWalk.toNatUp, reduceCtorEq, e1, e2, e3, e4]
      refine st_call (get_c G _ (by rw [List.length_take, List.length_drop]; omega)) rfl (.inr rfl) ?_
      have h1 : t < (sched16 b t ++ List.replicate (64 - t) 0).length := by rw [List.length_append, sched16_len, List.length_replicate]; omega
      have h2 := set_next (sched16 b t) 0 (wordAt b t) (64 - t) (by omega)
      rw [sched16_len] at h2
      have h3 : sched16 b t ++ [wordAt b t] = sched16 b (t + 1) := by simp [sched16, List.range_succ]
      have h4 : 64 - t - 1 = 64 - (t + 1) := by omega
      rw [h3, h4] at h2
      simp only [wx, stV, seval, IntWalk.iteOmega, IntWalk.toNatUp, reduceCtorEq, getW b t (by omega), Nat.zero_add, stO_ws h1 (one_w _), set_ws, h2, e2]
      refine lop_next (t + 1) (by omega) (by omega) (ent_l id ?_ ?_ rfl rfl) <;> simp only [wx, wex, stV, seval, IntWalk.iteOmega, IntWalk.toNatUp, reduceCtorEq]
    · obtain rfl : t = 16 := by omega
      simp only [lp_spread_0, spSt1, wx, stV, seval, IntWalk.iteOmega, IntWalk.toNatUp, reduceCtorEq]
      refine loop_st (spSt2 b) (fun n => 48 - n) (fun n => n ≤ 48) 0 (Nat.zero_le _) ?_ ?_
      · have h0 : sched16 b 16 = schedN b 0 := rfl
        refine ent_l id ?_ ?_ rfl rfl <;> simp only [wx, wex, stV, seval, IntWalk.iteOmega, IntWalk.toNatUp, reduceCtorEq, h0]
      · intro n hn
        by_cases hlt : n < 48
        · have hl := schedN_len b n
          have w1 : ∀ k : Nat, k ≤ 16 → IntKind.i64.wrap (((16 + n : Nat) : Int) - (k : Int)) = ((16 + n - k : Nat) : Int) := fun k hk => by rw [IntWalk.i64_in _ (by omega)]; omega
          have e15 : IntKind.i64.wrap (((16 + n : Nat) : Int) - 15) = ((16 + n - 15 : Nat) : Int) := w1 15 (by decide)
          have e2 : IntKind.i64.wrap (((16 + n : Nat) : Int) - 2) = ((16 + n - 2 : Nat) : Int) := w1 2 (by decide)
          have e7 : IntKind.i64.wrap (((16 + n : Nat) : Int) - 7) = ((16 + n - 7 : Nat) : Int) := w1 7 (by decide)
          have e16 : IntKind.i64.wrap (((16 + n : Nat) : Int) - 16) = ((16 + n - 16 : Nat) : Int) := w1 16 (by decide)
          have e0 : IntKind.i64.wrap (((16 + n : Nat) : Int) + 1) = ((16 + (n + 1) : Nat) : Int) := by rw [IntWalk.i64_in _ (by omega)]; omega
          have g : ∀ k, k < 16 + n → ((schedN b n ++ List.replicate (48 - n) 0).map wD)[k]? = some (wD ((schedN b n).getD k 0)) := fun k hk => by
            rw [List.getElem?_map, get_of (by omega)]; rfl
          have g15 := g (16 + n - 15) (by omega)
          have g2 := g (16 + n - 2) (by omega)
          have g7 := g (16 + n - 7) (by omega)
          have g16 := g (16 + n - 16) (by omega)
          simp only [lp_spread_1, spSt2, wx, stV, seval, IntWalk.iteOmega, IntWalk.toNatUp, reduceCtorEq, e15, e2, e7, e16, e0, g15, g2, g7, g16]
          refine st_call (turn_c G _ 7 (by decide) (by decide)) rfl (.inr rfl) ?_
          simp only [wx, stV, seval, IntWalk.iteOmega, IntWalk.toNatUp, reduceCtorEq]
          refine st_call (turn_c G _ 18 (by decide) (by decide)) rfl (.inr rfl) ?_
          simp only [wx, stV, seval, IntWalk.iteOmega, IntWalk.toNatUp, reduceCtorEq]
          refine st_call (turn_c G _ 17 (by decide) (by decide)) rfl (.inr rfl) ?_
          simp only [wx, stV, seval, IntWalk.iteOmega, IntWalk.toNatUp, reduceCtorEq]
          refine st_call (turn_c G _ 19 (by decide) (by decide)) rfl (.inr rfl) ?_
          have h1 : 16 + n < (schedN b n ++ List.replicate (48 - n) 0).length := by rw [List.length_append, hl, List.length_replicate]; omega
          have h2 := set_next (schedN b n) 0 (nextW (schedN b n) (16 + n)) (48 - n) (by omega)
          rw [hl] at h2
          have h4 : 48 - n - 1 = 48 - (n + 1) := by omega
          have h3 : schedN b n ++ [nextW (schedN b n) (16 + n)] = schedN b (n + 1) := rfl
          rw [h3, h4] at h2
          simp only [nextW, smallA, smallB] at h2
          simp only [wx, stV, seval, IntWalk.iteOmega, IntWalk.toNatUp, reduceCtorEq, e15, e2, e7, e16, e0, g15, g2, g7, g16, stO_ws h1 (one_w _), set_ws, h2]
          refine lop_next (n + 1) (by omega) (by omega) (ent_l id ?_ ?_ rfl rfl) <;> simp only [wx, wex, stV, seval, IntWalk.iteOmega, IntWalk.toNatUp, reduceCtorEq]
        · have hn48 : n = 48 := by omega
          have hl : (schedN b n).length = 64 := by rw [schedN_len]; omega
          have h0 : 48 - n = 0 := by omega
          simp only [lp_spread_1, spSt2, wx, stV, seval, IntWalk.iteOmega, IntWalk.toNatUp, reduceCtorEq, h0, List.append_nil, List.replicate_zero, hl]
          refine ret_d ?_
          simp only [wx, stV, seval, IntWalk.iteOmega, IntWalk.toNatUp, reduceCtorEq, sched_at b n hn48, hl]
end Go.Proofs.YtjgkchmdhicmpaaDoor
set_option linter.unusedVariables false
set_option linter.unusedSimpArgs false
namespace Go.Proofs.YtjgkchmdhicmpaaDoor
open Go.RowKit

theorem ev_g {G : Glob} {n : Nat} {c : C} (h : G.at n = some c) (f : Nat → V) : ev G f (.g n) = .w (.c c) := by simp [ev, h]
theorem getD_some {l : List UInt32} {i : Nat} (h : i < l.length) : l[i]? = some (l.getD i 0) := by simp [h]
theorem eight {l : List UInt32} (h : l.length = 8) : ∃ a b c d e f g i, l = [a, b, c, d, e, f, g, i] := by
  match l, h with
  | [a, b, c, d, e, f, g, i], _ => exact ⟨a, b, c, d, e, f, g, i, rfl⟩
def Eight.list (s : Eight) : List UInt32 := [s.a, s.b, s.c, s.d, s.e, s.f, s.g, s.h]
theorem step_a (s : Eight) (k w : UInt32) : (s.step k w).a = addW (addW (addW (addW (addW s.h (bigE s.e)) (chW s.e s.f s.g)) k) w) (addW (bigA s.a) (majW s.a s.b s.c)) := rfl
theorem step_b (s : Eight) (k w : UInt32) : (s.step k w).b = s.a := rfl
theorem step_c (s : Eight) (k w : UInt32) : (s.step k w).c = s.b := rfl
theorem step_d (s : Eight) (k w : UInt32) : (s.step k w).d = s.c := rfl
theorem step_e (s : Eight) (k w : UInt32) : (s.step k w).e = addW s.d (addW (addW (addW (addW s.h (bigE s.e)) (chW s.e s.f s.g)) k) w) := rfl
theorem step_f (s : Eight) (k w : UInt32) : (s.step k w).f = s.e := rfl
theorem step_g (s : Eight) (k w : UInt32) : (s.step k w).g = s.f := rfl
theorem step_h (s : Eight) (k w : UInt32) : (s.step k w).h = s.g := rfl
theorem rounds_at (s : Eight) (k w : List UInt32) (n m : Nat) (h : n = m) : s.rounds k w n = s.rounds k w m := by rw [h]

def blSt1 (h : List UInt32) (b : List UInt8) (s : Eight) (n : Nat) : St := ⟨ofL [(2, .w (.c (.pa 1 1))), (4, .w (.c (.pa 2 1))), (5, .w (.c (.pa 3 1))), (6, .w (.c (.d (wD s.a)))), (7, .w (.c (.d (wD s.b)))), (8, .w (.c (.d (wD s.c)))), (9, .w (.c (.d (wD s.d)))), (10, .w (.c (.d (wD s.e)))), (11, .w (.c (.d (wD s.f)))), (12, .w (.c (.d (wD s.g)))), (13, .w (.c (.d (wD s.h)))), (37, .w (.c (.d (.int .i64 (n : Int)))))],
  hL [(1, .row 1 (h.map wD)), (2, .row 1 ((List.replicate 8 (0 : UInt32)).map wD)), (3, .row 1 ((sched b).map wD))], uL [1, 2, 3]⟩
def blR1 (h : List UInt32) (b : List UInt8) (n : Nat) : St := blSt1 h b ((Eight.of h).rounds constK (sched b) n) n
def sumTo (s : Eight) (h : List UInt32) (k : Nat) : List UInt32 := (s.sum h).take k ++ h.drop k
def blSt2 (h : List UInt32) (s : Eight) (n : Nat) : St := ⟨ofL [(2, .w (.c (.pa 1 1))), (4, .w (.c (.pa 2 1))), (108, .w (.c (.d (.agg (s.list.map wD))))), (109, .w (.c (.d (.int .i64 (n : Int)))))],
  hL [(1, .row 1 ((sumTo s h n).map wD)), (2, .row 1 ((List.replicate 8 (0 : UInt32)).map wD))], uL [1, 2]⟩
def lp_block_0 : SCode :=
  .seq (.reg [⟨(some 38), .bin .lss (.t 37) (.k (.c (.d (.int .i64 64)))), none⟩])
  (.seq (.cond (.t 38) (.skip)
   (.exit 0))
  (.seq (.block 1 (.seq (.reg [⟨(some 39), .mv (.t 37), none⟩,
     ⟨(some 14), .mv (.t 39), none⟩])
   (.seq (.reg [⟨(some 40), .mv (.t 13), none⟩,
     ⟨(some 41), .mv (.t 10), none⟩,
     ⟨(some 42), .call 123 [(.t 41), (.k (.c (.d (.int .i64 6))))] none, none⟩,
     ⟨(some 43), .mv (.t 10), none⟩,
     ⟨(some 44), .call 123 [(.t 43), (.k (.c (.d (.int .i64 11))))] none, none⟩,
     ⟨(some 45), .bin .xor (.t 42) (.t 44), none⟩,
     ⟨(some 46), .mv (.t 10), none⟩,
     ⟨(some 47), .call 123 [(.t 46), (.k (.c (.d (.int .i64 25))))] none, none⟩,
     ⟨(some 48), .bin .xor (.t 45) (.t 47), none⟩,
     ⟨(some 49), .bin .add (.t 40) (.t 48), none⟩,
     ⟨(some 50), .mv (.t 10), none⟩,
     ⟨(some 51), .mv (.t 11), none⟩,
     ⟨(some 52), .bin .and (.t 50) (.t 51), none⟩,
     ⟨(some 53), .mv (.t 10), none⟩,
     ⟨(some 54), .un .xor (.t 53), none⟩,
     ⟨(some 55), .mv (.t 12), none⟩,
     ⟨(some 56), .bin .and (.t 54) (.t 55), none⟩,
     ⟨(some 57), .bin .xor (.t 52) (.t 56), none⟩,
     ⟨(some 58), .bin .add (.t 49) (.t 57), none⟩,
     ⟨(some 59), .mv (.t 14), none⟩,
     ⟨(some 60), .idxPa 1 64 (.g 1) (.t 59), none⟩,
     ⟨(some 61), .load .sc (.t 60), none⟩,
     ⟨(some 62), .bin .add (.t 58) (.t 61), none⟩,
     ⟨(some 63), .mv (.t 14), none⟩,
     ⟨(some 64), .idxPa 1 64 (.t 5) (.t 63), none⟩,
     ⟨(some 65), .load .sc (.t 64), none⟩,
     ⟨(some 66), .bin .add (.t 62) (.t 65), none⟩,
     ⟨(some 15), .mv (.t 66), none⟩])
   (.seq (.reg [⟨(some 67), .mv (.t 6), none⟩,
     ⟨(some 68), .call 123 [(.t 67), (.k (.c (.d (.int .i64 2))))] none, none⟩,
     ⟨(some 69), .mv (.t 6), none⟩,
     ⟨(some 70), .call 123 [(.t 69), (.k (.c (.d (.int .i64 13))))] none, none⟩,
     ⟨(some 71), .bin .xor (.t 68) (.t 70), none⟩,
     ⟨(some 72), .mv (.t 6), none⟩,
     ⟨(some 73), .call 123 [(.t 72), (.k (.c (.d (.int .i64 22))))] none, none⟩,
     ⟨(some 74), .bin .xor (.t 71) (.t 73), none⟩,
     ⟨(some 75), .mv (.t 6), none⟩,
     ⟨(some 76), .mv (.t 7), none⟩,
     ⟨(some 77), .bin .and (.t 75) (.t 76), none⟩,
     ⟨(some 78), .mv (.t 6), none⟩,
     ⟨(some 79), .mv (.t 8), none⟩,
     ⟨(some 80), .bin .and (.t 78) (.t 79), none⟩,
     ⟨(some 81), .bin .xor (.t 77) (.t 80), none⟩,
     ⟨(some 82), .mv (.t 7), none⟩,
     ⟨(some 83), .mv (.t 8), none⟩,
     ⟨(some 84), .bin .and (.t 82) (.t 83), none⟩,
     ⟨(some 85), .bin .xor (.t 81) (.t 84), none⟩,
     ⟨(some 86), .bin .add (.t 74) (.t 85), none⟩,
     ⟨(some 16), .mv (.t 86), none⟩])
   (.reg [⟨(some 87), .mv (.t 12), none⟩,
     ⟨(some 88), .mv (.t 11), none⟩,
     ⟨(some 89), .mv (.t 10), none⟩,
     ⟨(some 90), .mv (.t 9), none⟩,
     ⟨(some 91), .mv (.t 15), none⟩,
     ⟨(some 92), .bin .add (.t 90) (.t 91), none⟩,
     ⟨(some 93), .mv (.t 8), none⟩,
     ⟨(some 94), .mv (.t 7), none⟩,
     ⟨(some 95), .mv (.t 6), none⟩,
     ⟨(some 96), .mv (.t 15), none⟩,
     ⟨(some 97), .mv (.t 16), none⟩,
     ⟨(some 98), .bin .add (.t 96) (.t 97), none⟩,
     ⟨(some 13), .mv (.t 87), none⟩,
     ⟨(some 12), .mv (.t 88), none⟩,
     ⟨(some 11), .mv (.t 89), none⟩,
     ⟨(some 10), .mv (.t 92), none⟩,
     ⟨(some 9), .mv (.t 93), none⟩,
     ⟨(some 8), .mv (.t 94), none⟩,
     ⟨(some 7), .mv (.t 95), none⟩,
     ⟨(some 6), .mv (.t 98), none⟩])))))
  (.reg [⟨(some 99), .bin .add (.t 37) (.k (.c (.d (.int .i64 1)))), none⟩,
    ⟨(some 37), .mv (.t 99), none⟩])))
def lp_block_1 : SCode :=
  .seq (.reg [⟨(some 110), .bin .lss (.t 109) (.k (.c (.d (.int .i64 8)))), none⟩])
  (.seq (.cond (.t 110) (.skip)
   (.exit 2))
  (.seq (.block 3 (.seq (.reg [⟨(some 111), .mv (.t 109), none⟩,
     ⟨(some 112), .idxArr 1 8 .sc (.t 108) (.t 109), none⟩,
     ⟨(some 17), .mv (.t 111), none⟩,
     ⟨(some 18), .mv (.t 112), none⟩])
   (.reg [⟨(some 113), .mv (.t 17), none⟩,
     ⟨(some 114), .idxPa 1 8 (.t 2) (.t 113), none⟩,
     ⟨(some 115), .load .sc (.t 114), none⟩,
     ⟨(some 116), .mv (.t 18), none⟩,
     ⟨(some 117), .bin .add (.t 115) (.t 116), none⟩,
     ⟨(some 118), .idxPa 1 8 (.t 2) (.t 113), none⟩,
     ⟨none, .store .sc (.t 118) (.t 117), none⟩])))
  (.reg [⟨(some 119), .bin .add (.t 109) (.k (.c (.d (.int .i64 1)))), none⟩,
    ⟨(some 109), .mv (.t 119), none⟩])))
def sf_block : SFn := ⟨2, 121,
  .seq (.reg [⟨(some 2), .box .ownArr (.t 0), none⟩,
    ⟨(some 4), .allocArr [(.int .u32 0), (.int .u32 0), (.int .u32 0), (.int .u32 0), (.int .u32 0), (.int .u32 0), (.int .u32 0), (.int .u32 0)], none⟩])
  (.seq (.reg [⟨(some 19), .mv (.t 1), none⟩,
    ⟨(some 20), .call 122 [(.t 19)] none, none⟩,
    ⟨(some 5), .allocArr [(.int .u32 0), (.int .u32 0), (.int .u32 0), (.int .u32 0), (.int .u32 0), (.int .u32 0), (.int .u32 0), (.int .u32 0), (.int .u32 0), (.int .u32 0), (.int .u32 0), (.int .u32 0), (.int .u32 0), (.int .u32 0), (.int .u32 0), (.int .u32 0), (.int .u32 0), (.int .u32 0), (.int .u32 0), (.int .u32 0), (.int .u32 0), (.int .u32 0), (.int .u32 0), (.int .u32 0), (.int .u32 0), (.int .u32 0), (.int .u32 0), (.int .u32 0), (.int .u32 0), (.int .u32 0), (.int .u32 0), (.int .u32 0), (.int .u32 0), (.int .u32 0), (.int .u32 0), (.int .u32 0), (.int .u32 0), (.int .u32 0), (.int .u32 0), (.int .u32 0), (.int .u32 0), (.int .u32 0), (.int .u32 0), (.int .u32 0), (.int .u32 0), (.int .u32 0), (.int .u32 0), (.int .u32 0), (.int .u32 0), (.int .u32 0), (.int .u32 0), (.int .u32 0), (.int .u32 0), (.int .u32 0), (.int .u32 0), (.int .u32 0), (.int .u32 0), (.int .u32 0), (.int .u32 0), (.int .u32 0), (.int .u32 0), (.int .u32 0), (.int .u32 0), (.int .u32 0)], none⟩,
    ⟨none, .store (.ag 64) (.t 5) (.t 20), none⟩])
  (.seq (.reg [⟨(some 21), .idxPa 1 8 (.t 2) (.k (.c (.d (.int .i64 0)))), none⟩,
    ⟨(some 22), .load .sc (.t 21), none⟩,
    ⟨(some 23), .idxPa 1 8 (.t 2) (.k (.c (.d (.int .i64 1)))), none⟩,
    ⟨(some 24), .load .sc (.t 23), none⟩,
    ⟨(some 25), .idxPa 1 8 (.t 2) (.k (.c (.d (.int .i64 2)))), none⟩,
    ⟨(some 26), .load .sc (.t 25), none⟩,
    ⟨(some 27), .idxPa 1 8 (.t 2) (.k (.c (.d (.int .i64 3)))), none⟩,
    ⟨(some 28), .load .sc (.t 27), none⟩,
    ⟨(some 29), .idxPa 1 8 (.t 2) (.k (.c (.d (.int .i64 4)))), none⟩,
    ⟨(some 30), .load .sc (.t 29), none⟩,
    ⟨(some 31), .idxPa 1 8 (.t 2) (.k (.c (.d (.int .i64 5)))), none⟩,
    ⟨(some 32), .load .sc (.t 31), none⟩,
    ⟨(some 33), .idxPa 1 8 (.t 2) (.k (.c (.d (.int .i64 6)))), none⟩,
    ⟨(some 34), .load .sc (.t 33), none⟩,
    ⟨(some 35), .idxPa 1 8 (.t 2) (.k (.c (.d (.int .i64 7)))), none⟩,
    ⟨(some 36), .load .sc (.t 35), none⟩,
    ⟨(some 6), .mv (.t 22), none⟩,
    ⟨(some 7), .mv (.t 24), none⟩,
    ⟨(some 8), .mv (.t 26), none⟩,
    ⟨(some 9), .mv (.t 28), none⟩,
    ⟨(some 10), .mv (.t 30), none⟩,
    ⟨(some 11), .mv (.t 32), none⟩,
    ⟨(some 12), .mv (.t 34), none⟩,
    ⟨(some 13), .mv (.t 36), none⟩])
  (.seq (.seq (.reg [⟨(some 37), .mv (.k (.c (.d (.int .i64 0)))), none⟩])
  (.block 0 (.loop lp_block_0)))
  (.seq (.seq (.reg [⟨(some 100), .mv (.t 6), none⟩,
    ⟨(some 101), .mv (.t 7), none⟩,
    ⟨(some 102), .mv (.t 8), none⟩,
    ⟨(some 103), .mv (.t 9), none⟩,
    ⟨(some 104), .mv (.t 10), none⟩,
    ⟨(some 105), .mv (.t 11), none⟩,
    ⟨(some 106), .mv (.t 12), none⟩,
    ⟨(some 107), .mv (.t 13), none⟩,
    ⟨(some 108), .build [(.d (.int .u32 0)), (.d (.int .u32 0)), (.d (.int .u32 0)), (.d (.int .u32 0)), (.d (.int .u32 0)), (.d (.int .u32 0)), (.d (.int .u32 0)), (.d (.int .u32 0))] [(0, 1, (.t 100)), (1, 1, (.t 101)), (2, 1, (.t 102)), (3, 1, (.t 103)), (4, 1, (.t 104)), (5, 1, (.t 105)), (6, 1, (.t 106)), (7, 1, (.t 107))], none⟩,
    ⟨(some 109), .mv (.k (.c (.d (.int .i64 0)))), none⟩])
  (.block 2 (.loop lp_block_1)))
  (.seq (.reg [⟨(some 120), .load (.ag 8) (.t 2), none⟩,
    ⟨none, .store (.ag 8) (.t 4) (.t 120), none⟩])
  (.ret)))))),
  [(4, (some (.ag 8)))]⟩
theorem cf_block : compFn Tryd.prog { own := [2], comp := [], frz := [], nils := [] } Tryd.f109 = some sf_block := by kernel_rfl
set_option maxHeartbeats 1600000 in
theorem block_c (G : Glob) (hG : G.at 1 = some (.ra (constK.map wD))) (h : List UInt32) (b : List UInt8) (hh : h.length = 8) (hb : b.length = 64) : Den Tryd.prog G 109 [.agg (h.map wD), .sl (b.map bD)] (.w (.c (.d (.agg ((blockK h b).map wD))))) := by
  refine den_walk Tryd.func109 cf_block rfl rfl ?_
  have hsl : (sched b).length = 64 := schedN_len b 48
  have eg := @ev_g G 1 _ hG
  have hcl : constK.length = 64 := constK_len
  obtain ⟨h0, h1, h2, h3, h4, h5, h6, h7, rfl⟩ := eight hh
  simp only [sf_block, putAll, wx, stV, seval, IntWalk.iteOmega, IntWalk.toNatUp, reduceCtorEq]
  refine st_call (spread_c G b hb) rfl (.inl rfl) ?_
  simp only [wx, stV, seval, IntWalk.iteOmega, IntWalk.toNatUp, reduceCtorEq, hsl]
  refine loop_st (blR1 [h0, h1, h2, h3, h4, h5, h6, h7] b) (fun n => 64 - n) (fun n => n ≤ 64) 0 (Nat.zero_le _) ?_ ?_
  · refine ent_l (fun i => match i with | 1 => 16 | 2 => 32 | _ => 40) ?_ ?_ rfl rfl <;> simp only [blR1, blSt1, wx, wex, stV, seval, IntWalk.iteOmega, IntWalk.toNatUp, reduceCtorEq]
    · exact ⟨rfl, rfl, rfl, rfl, rfl, rfl, rfl, rfl⟩
    · rfl
  · intro n hn
    by_cases hlt : n < 64
    · have e1 : IntKind.i64.wrap ((n : Int) + 1) = ((n + 1 : Nat) : Int) := by rw [IntWalk.i64_in _ (by omega)]; rfl
      have g1 : (constK.map wD)[n]? = some (wD (constK.getD n 0)) := by rw [get_map, getD_some (by omega)]; rfl
      have g2 : ((sched b).map wD)[n]? = some (wD ((sched b).getD n 0)) := by rw [get_map, getD_some (by omega)]; rfl
      have hr : (Eight.of [h0, h1, h2, h3, h4, h5, h6, h7]).rounds constK (sched b) (n + 1) = ((Eight.of [h0, h1, h2, h3, h4, h5, h6, h7]).rounds constK (sched b) n).step (constK.getD n 0) ((sched b).getD n 0) := rfl
      generalize hs : (Eight.of [h0, h1, h2, h3, h4, h5, h6, h7]).rounds constK (sched b) n = s at hr
      simp only [lp_block_0, blR1, blSt1, hs, wx, stV, seval, IntWalk.iteOmega, IntWalk.toNatUp, reduceCtorEq, eg, g1, g2, e1]
      refine st_call (turn_c G _ 6 (by decide) (by decide)) rfl (.inr rfl) ?_
      simp only [wx, stV, seval, IntWalk.iteOmega, IntWalk.toNatUp, reduceCtorEq]
      refine st_call (turn_c G _ 11 (by decide) (by decide)) rfl (.inr rfl) ?_
      simp only [wx, stV, seval, IntWalk.iteOmega, IntWalk.toNatUp, reduceCtorEq]
      refine st_call (turn_c G _ 25 (by decide) (by decide)) rfl (.inr rfl) ?_
      simp only [wx, stV, seval, IntWalk.iteOmega, IntWalk.toNatUp, reduceCtorEq, eg, g1, g2, hcl]
      refine st_call (turn_c G _ 2 (by decide) (by decide)) rfl (.inr rfl) ?_
      simp only [wx, stV, seval, IntWalk.iteOmega, IntWalk.toNatUp, reduceCtorEq]
      refine st_call (turn_c G _ 13 (by decide) (by decide)) rfl (.inr rfl) ?_
      simp only [wx, stV, seval, IntWalk.iteOmega, IntWalk.toNatUp, reduceCtorEq]
      refine st_call (turn_c G _ 22 (by decide) (by decide)) rfl (.inr rfl) ?_
      simp only [wx, stV, seval, IntWalk.iteOmega, IntWalk.toNatUp, reduceCtorEq, e1]
      refine lop_next (n + 1) (by omega) (by omega) ?_
      rw [blR1, hr]
      refine (ent_l id ?_ ?_ rfl rfl) <;> simp only [wx, wex, stV, seval, IntWalk.iteOmega, IntWalk.toNatUp, reduceCtorEq, step_a, step_b, step_c, step_d, step_e, step_f, step_g, step_h]
      exact ⟨rfl, rfl⟩
    · obtain rfl : n = 64 := by omega
      have hK : blockK [h0, h1, h2, h3, h4, h5, h6, h7] b = ((Eight.of [h0, h1, h2, h3, h4, h5, h6, h7]).rounds constK (sched b) 64).sum [h0, h1, h2, h3, h4, h5, h6, h7] := rfl
      rw [hK]
      simp only [blR1]
      generalize (Eight.of [h0, h1, h2, h3, h4, h5, h6, h7]).rounds constK (sched b) 64 = s
      simp only [lp_block_0, blSt1, wx, stV, seval, IntWalk.iteOmega, IntWalk.toNatUp, reduceCtorEq]
      refine loop_st (blSt2 [h0, h1, h2, h3, h4, h5, h6, h7] s) (fun n => 8 - n) (fun n => n ≤ 8) 0 (Nat.zero_le _) ?_ ?_
      · refine ent_l id ?_ ?_ rfl rfl <;> simp only [wx, wex, stV, seval, IntWalk.iteOmega, IntWalk.toNatUp, reduceCtorEq, blSt2]
        · rfl
        · rfl
      · have e8 : s.sum [h0, h1, h2, h3, h4, h5, h6, h7] = [addW h0 s.a, addW h1 s.b, addW h2 s.c, addW h3 s.d, addW h4 s.e, addW h5 s.f, addW h6 s.g, addW h7 s.h] := rfl
        intro n hn
        have hc : n = 8 ∨ n = 0 ∨ n = 1 ∨ n = 2 ∨ n = 3 ∨ n = 4 ∨ n = 5 ∨ n = 6 ∨ n = 7 := by omega
        rcases hc with rfl | rfl | rfl | rfl | rfl | rfl | rfl | rfl | rfl
        · simp only [lp_block_1, blSt2, sumTo, e8, Eight.list, wx, stV, seval, IntWalk.iteOmega, IntWalk.toNatUp, reduceCtorEq]
          exact ret_d (by simp only [wx, stV, seval, IntWalk.iteOmega, IntWalk.toNatUp, reduceCtorEq])
        all_goals
          simp only [lp_block_1, blSt2, sumTo, e8, Eight.list, wx, wy, stV, seval, IntWalk.iteOmega, IntWalk.toNatUp, reduceCtorEq]
          first | refine lop_next 1 (by decide) (by decide) ?_ | refine lop_next 2 (by decide) (by decide) ?_ | refine lop_next 3 (by decide) (by decide) ?_ | refine lop_next 4 (by decide) (by decide) ?_ | refine lop_next 5 (by decide) (by decide) ?_ | refine lop_next 6 (by decide) (by decide) ?_ | refine lop_next 7 (by decide) (by decide) ?_ | refine lop_next 8 (by decide) (by decide) ?_
          refine ent_l id ?_ ?_ rfl rfl <;> simp only [wx, wex, stV, seval, IntWalk.iteOmega, IntWalk.toNatUp, reduceCtorEq, sumTo, e8, Eight.list] <;> rfl

theorem getD_someB {l : List UInt8} {i : Nat} (h : i < l.length) : l[i]? = some (l.getD i 0) := by simp [h]
def rbSt1 (h k : List UInt32) (b : List UInt8) (t : Nat) : St := ⟨ofL [(0, .w (.c (.d (.sl (h.map wD))))), (1, .w (.c (.d (.sl (k.map wD))))), (2, .w (.c (.d (.sl (b.map bD))))), (7, .w (.c (.pa 1 1))), (8, .w (.c (.d (.int .i64 (t : Int)))))],
  hL [(1, .row 1 ((sched16 b t ++ List.replicate (64 - t) 0).map wD))], uL [1]⟩
def rbSt2 (h k : List UInt32) (b : List UInt8) (n : Nat) : St := ⟨ofL [(0, .w (.c (.d (.sl (h.map wD))))), (1, .w (.c (.d (.sl (k.map wD))))), (7, .w (.c (.pa 1 1))), (9, .w (.c (.d (.int .i64 ((16 + n : Nat) : Int)))))],
  hL [(1, .row 1 ((schedN b n ++ List.replicate (48 - n) 0).map wD))], uL [1]⟩
def rbSt3 (h : List UInt32) (b : List UInt8) (s : Eight) (n : Nat) : St := ⟨ofL [(0, .w (.c (.d (.sl (h.map wD))))), (1, .w (.c (.d (.sl (constK.map wD))))), (7, .w (.c (.pa 1 1))), (12, .w (.c (.d (wD s.a)))), (13, .w (.c (.d (wD s.b)))), (14, .w (.c (.d (wD s.c)))), (15, .w (.c (.d (wD s.d)))), (16, .w (.c (.d (wD s.e)))), (17, .w (.c (.d (wD s.f)))), (18, .w (.c (.d (wD s.g)))), (19, .w (.c (.d (wD s.h)))), (20, .w (.c (.d (.int .i64 (n : Int)))))],
  hL [(1, .row 1 ((sched b).map wD))], uL [1]⟩
def rbR3 (h : List UInt32) (b : List UInt8) (n : Nat) : St := rbSt3 h b ((Eight.of h).rounds constK (sched b) n) n
def lp_rblock_0 : SCode :=
  .seq (.seq (.reg [⟨(some 23), .mv (.t 8), none⟩,
    ⟨(some 24), .bin .lss (.t 23) (.k (.c (.d (.int .i64 16)))), none⟩])
  (.cond (.t 24) (.skip)
   (.exit 0)))
  (.seq (.block 1 (.reg [⟨(some 27), .mv (.t 8), none⟩,
     ⟨(some 28), .mv (.t 2), none⟩,
     ⟨(some 29), .mv (.t 8), none⟩,
     ⟨(some 30), .bin .mul (.k (.c (.d (.int .i64 4)))) (.t 29), none⟩,
     ⟨(some 31), .idxSl 1 (.t 28) (.t 30), none⟩,
     ⟨(some 32), .load .sc (.t 31), none⟩,
     ⟨(some 33), .conv .u32 (.t 32), none⟩,
     ⟨(some 34), .bin .shl (.t 33) (.k (.c (.d (.int .u64 24)))), none⟩,
     ⟨(some 35), .mv (.t 2), none⟩,
     ⟨(some 36), .mv (.t 8), none⟩,
     ⟨(some 37), .bin .mul (.k (.c (.d (.int .i64 4)))) (.t 36), none⟩,
     ⟨(some 38), .bin .add (.t 37) (.k (.c (.d (.int .i64 1)))), none⟩,
     ⟨(some 39), .idxSl 1 (.t 35) (.t 38), none⟩,
     ⟨(some 40), .load .sc (.t 39), none⟩,
     ⟨(some 41), .conv .u32 (.t 40), none⟩,
     ⟨(some 42), .bin .shl (.t 41) (.k (.c (.d (.int .u64 16)))), none⟩,
     ⟨(some 43), .bin .or (.t 34) (.t 42), none⟩,
     ⟨(some 44), .mv (.t 2), none⟩,
     ⟨(some 45), .mv (.t 8), none⟩,
     ⟨(some 46), .bin .mul (.k (.c (.d (.int .i64 4)))) (.t 45), none⟩,
     ⟨(some 47), .bin .add (.t 46) (.k (.c (.d (.int .i64 2)))), none⟩,
     ⟨(some 48), .idxSl 1 (.t 44) (.t 47), none⟩,
     ⟨(some 49), .load .sc (.t 48), none⟩,
     ⟨(some 50), .conv .u32 (.t 49), none⟩,
     ⟨(some 51), .bin .shl (.t 50) (.k (.c (.d (.int .u64 8)))), none⟩,
     ⟨(some 52), .bin .or (.t 43) (.t 51), none⟩,
     ⟨(some 53), .mv (.t 2), none⟩,
     ⟨(some 54), .mv (.t 8), none⟩,
     ⟨(some 55), .bin .mul (.k (.c (.d (.int .i64 4)))) (.t 54), none⟩,
     ⟨(some 56), .bin .add (.t 55) (.k (.c (.d (.int .i64 3)))), none⟩,
     ⟨(some 57), .idxSl 1 (.t 53) (.t 56), none⟩,
     ⟨(some 58), .load .sc (.t 57), none⟩,
     ⟨(some 59), .conv .u32 (.t 58), none⟩,
     ⟨(some 60), .bin .or (.t 52) (.t 59), none⟩,
     ⟨(some 61), .idxPa 1 64 (.t 7) (.t 27), none⟩,
     ⟨none, .store .sc (.t 61) (.t 60), none⟩]))
  (.reg [⟨(some 25), .mv (.t 8), none⟩,
    ⟨(some 26), .bin .add (.t 25) (.k (.c (.d (.int .i64 1)))), none⟩,
    ⟨(some 8), .mv (.t 26), none⟩]))
def lp_rblock_1 : SCode :=
  .seq (.seq (.reg [⟨(some 62), .mv (.t 9), none⟩,
    ⟨(some 63), .bin .lss (.t 62) (.k (.c (.d (.int .i64 64)))), none⟩])
  (.cond (.t 63) (.skip)
   (.exit 2)))
  (.seq (.block 3 (.seq (.reg [⟨(some 66), .mv (.t 9), none⟩,
     ⟨(some 67), .bin .sub (.t 66) (.k (.c (.d (.int .i64 15)))), none⟩,
     ⟨(some 68), .idxPa 1 64 (.t 7) (.t 67), none⟩,
     ⟨(some 69), .load .sc (.t 68), none⟩,
     ⟨(some 70), .mv (.t 9), none⟩,
     ⟨(some 71), .bin .sub (.t 70) (.k (.c (.d (.int .i64 2)))), none⟩,
     ⟨(some 72), .idxPa 1 64 (.t 7) (.t 71), none⟩,
     ⟨(some 73), .load .sc (.t 72), none⟩,
     ⟨(some 10), .mv (.t 69), none⟩,
     ⟨(some 11), .mv (.t 73), none⟩])
   (.reg [⟨(some 74), .mv (.t 9), none⟩,
     ⟨(some 75), .mv (.t 11), none⟩,
     ⟨(some 76), .call 120 [(.t 75), (.k (.c (.d (.int .i64 17))))] none, none⟩,
     ⟨(some 77), .mv (.t 11), none⟩,
     ⟨(some 78), .call 120 [(.t 77), (.k (.c (.d (.int .i64 19))))] none, none⟩,
     ⟨(some 79), .bin .xor (.t 76) (.t 78), none⟩,
     ⟨(some 80), .mv (.t 11), none⟩,
     ⟨(some 81), .bin .shr (.t 80) (.k (.c (.d (.int .u64 10)))), none⟩,
     ⟨(some 82), .bin .xor (.t 79) (.t 81), none⟩,
     ⟨(some 83), .mv (.t 9), none⟩,
     ⟨(some 84), .bin .sub (.t 83) (.k (.c (.d (.int .i64 7)))), none⟩,
     ⟨(some 85), .idxPa 1 64 (.t 7) (.t 84), none⟩,
     ⟨(some 86), .load .sc (.t 85), none⟩,
     ⟨(some 87), .bin .add (.t 82) (.t 86), none⟩,
     ⟨(some 88), .mv (.t 10), none⟩,
     ⟨(some 89), .call 120 [(.t 88), (.k (.c (.d (.int .i64 7))))] none, none⟩,
     ⟨(some 90), .mv (.t 10), none⟩,
     ⟨(some 91), .call 120 [(.t 90), (.k (.c (.d (.int .i64 18))))] none, none⟩,
     ⟨(some 92), .bin .xor (.t 89) (.t 91), none⟩,
     ⟨(some 93), .mv (.t 10), none⟩,
     ⟨(some 94), .bin .shr (.t 93) (.k (.c (.d (.int .u64 3)))), none⟩,
     ⟨(some 95), .bin .xor (.t 92) (.t 94), none⟩,
     ⟨(some 96), .bin .add (.t 87) (.t 95), none⟩,
     ⟨(some 97), .mv (.t 9), none⟩,
     ⟨(some 98), .bin .sub (.t 97) (.k (.c (.d (.int .i64 16)))), none⟩,
     ⟨(some 99), .idxPa 1 64 (.t 7) (.t 98), none⟩,
     ⟨(some 100), .load .sc (.t 99), none⟩,
     ⟨(some 101), .bin .add (.t 96) (.t 100), none⟩,
     ⟨(some 102), .idxPa 1 64 (.t 7) (.t 74), none⟩,
     ⟨none, .store .sc (.t 102) (.t 101), none⟩])))
  (.reg [⟨(some 64), .mv (.t 9), none⟩,
    ⟨(some 65), .bin .add (.t 64) (.k (.c (.d (.int .i64 1)))), none⟩,
    ⟨(some 9), .mv (.t 65), none⟩]))
def lp_rblock_2 : SCode :=
  .seq (.seq (.reg [⟨(some 127), .mv (.t 20), none⟩,
    ⟨(some 128), .bin .lss (.t 127) (.k (.c (.d (.int .i64 64)))), none⟩])
  (.cond (.t 128) (.skip)
   (.exit 4)))
  (.seq (.block 5 (.seq (.reg [⟨(some 131), .mv (.t 19), none⟩,
     ⟨(some 132), .mv (.t 16), none⟩,
     ⟨(some 133), .call 120 [(.t 132), (.k (.c (.d (.int .i64 6))))] none, none⟩,
     ⟨(some 134), .mv (.t 16), none⟩,
     ⟨(some 135), .call 120 [(.t 134), (.k (.c (.d (.int .i64 11))))] none, none⟩,
     ⟨(some 136), .bin .xor (.t 133) (.t 135), none⟩,
     ⟨(some 137), .mv (.t 16), none⟩,
     ⟨(some 138), .call 120 [(.t 137), (.k (.c (.d (.int .i64 25))))] none, none⟩,
     ⟨(some 139), .bin .xor (.t 136) (.t 138), none⟩,
     ⟨(some 140), .bin .add (.t 131) (.t 139), none⟩,
     ⟨(some 141), .mv (.t 16), none⟩,
     ⟨(some 142), .mv (.t 17), none⟩,
     ⟨(some 143), .bin .and (.t 141) (.t 142), none⟩,
     ⟨(some 144), .mv (.t 16), none⟩,
     ⟨(some 145), .un .xor (.t 144), none⟩,
     ⟨(some 146), .mv (.t 18), none⟩,
     ⟨(some 147), .bin .and (.t 145) (.t 146), none⟩,
     ⟨(some 148), .bin .xor (.t 143) (.t 147), none⟩,
     ⟨(some 149), .bin .add (.t 140) (.t 148), none⟩,
     ⟨(some 150), .mv (.t 1), none⟩,
     ⟨(some 151), .mv (.t 20), none⟩,
     ⟨(some 152), .idxSl 1 (.t 150) (.t 151), none⟩,
     ⟨(some 153), .load .sc (.t 152), none⟩,
     ⟨(some 154), .bin .add (.t 149) (.t 153), none⟩,
     ⟨(some 155), .mv (.t 20), none⟩,
     ⟨(some 156), .idxPa 1 64 (.t 7) (.t 155), none⟩,
     ⟨(some 157), .load .sc (.t 156), none⟩,
     ⟨(some 158), .bin .add (.t 154) (.t 157), none⟩,
     ⟨(some 21), .mv (.t 158), none⟩])
   (.seq (.reg [⟨(some 159), .mv (.t 12), none⟩,
     ⟨(some 160), .call 120 [(.t 159), (.k (.c (.d (.int .i64 2))))] none, none⟩,
     ⟨(some 161), .mv (.t 12), none⟩,
     ⟨(some 162), .call 120 [(.t 161), (.k (.c (.d (.int .i64 13))))] none, none⟩,
     ⟨(some 163), .bin .xor (.t 160) (.t 162), none⟩,
     ⟨(some 164), .mv (.t 12), none⟩,
     ⟨(some 165), .call 120 [(.t 164), (.k (.c (.d (.int .i64 22))))] none, none⟩,
     ⟨(some 166), .bin .xor (.t 163) (.t 165), none⟩,
     ⟨(some 167), .mv (.t 12), none⟩,
     ⟨(some 168), .mv (.t 13), none⟩,
     ⟨(some 169), .bin .and (.t 167) (.t 168), none⟩,
     ⟨(some 170), .mv (.t 12), none⟩,
     ⟨(some 171), .mv (.t 14), none⟩,
     ⟨(some 172), .bin .and (.t 170) (.t 171), none⟩,
     ⟨(some 173), .bin .xor (.t 169) (.t 172), none⟩,
     ⟨(some 174), .mv (.t 13), none⟩,
     ⟨(some 175), .mv (.t 14), none⟩,
     ⟨(some 176), .bin .and (.t 174) (.t 175), none⟩,
     ⟨(some 177), .bin .xor (.t 173) (.t 176), none⟩,
     ⟨(some 178), .bin .add (.t 166) (.t 177), none⟩,
     ⟨(some 22), .mv (.t 178), none⟩])
   (.reg [⟨(some 179), .mv (.t 21), none⟩,
     ⟨(some 180), .mv (.t 22), none⟩,
     ⟨(some 181), .bin .add (.t 179) (.t 180), none⟩,
     ⟨(some 182), .mv (.t 12), none⟩,
     ⟨(some 183), .mv (.t 13), none⟩,
     ⟨(some 184), .mv (.t 14), none⟩,
     ⟨(some 185), .mv (.t 15), none⟩,
     ⟨(some 186), .mv (.t 21), none⟩,
     ⟨(some 187), .bin .add (.t 185) (.t 186), none⟩,
     ⟨(some 188), .mv (.t 16), none⟩,
     ⟨(some 189), .mv (.t 17), none⟩,
     ⟨(some 190), .mv (.t 18), none⟩,
     ⟨(some 12), .mv (.t 181), none⟩,
     ⟨(some 13), .mv (.t 182), none⟩,
     ⟨(some 14), .mv (.t 183), none⟩,
     ⟨(some 15), .mv (.t 184), none⟩,
     ⟨(some 16), .mv (.t 187), none⟩,
     ⟨(some 17), .mv (.t 188), none⟩,
     ⟨(some 18), .mv (.t 189), none⟩,
     ⟨(some 19), .mv (.t 190), none⟩]))))
  (.reg [⟨(some 129), .mv (.t 20), none⟩,
    ⟨(some 130), .bin .add (.t 129) (.k (.c (.d (.int .i64 1)))), none⟩,
    ⟨(some 20), .mv (.t 130), none⟩]))
def sf_rblock : SFn := ⟨3, 232,
  .seq (.reg [⟨(some 6), .mv (.k (.c .nil)), none⟩])
  (.seq (.reg [⟨(some 7), .allocArr [(.int .u32 0), (.int .u32 0), (.int .u32 0), (.int .u32 0), (.int .u32 0), (.int .u32 0), (.int .u32 0), (.int .u32 0), (.int .u32 0), (.int .u32 0), (.int .u32 0), (.int .u32 0), (.int .u32 0), (.int .u32 0), (.int .u32 0), (.int .u32 0), (.int .u32 0), (.int .u32 0), (.int .u32 0), (.int .u32 0), (.int .u32 0), (.int .u32 0), (.int .u32 0), (.int .u32 0), (.int .u32 0), (.int .u32 0), (.int .u32 0), (.int .u32 0), (.int .u32 0), (.int .u32 0), (.int .u32 0), (.int .u32 0), (.int .u32 0), (.int .u32 0), (.int .u32 0), (.int .u32 0), (.int .u32 0), (.int .u32 0), (.int .u32 0), (.int .u32 0), (.int .u32 0), (.int .u32 0), (.int .u32 0), (.int .u32 0), (.int .u32 0), (.int .u32 0), (.int .u32 0), (.int .u32 0), (.int .u32 0), (.int .u32 0), (.int .u32 0), (.int .u32 0), (.int .u32 0), (.int .u32 0), (.int .u32 0), (.int .u32 0), (.int .u32 0), (.int .u32 0), (.int .u32 0), (.int .u32 0), (.int .u32 0), (.int .u32 0), (.int .u32 0), (.int .u32 0)], none⟩])
  (.seq (.seq (.reg [⟨(some 8), .mv (.k (.c (.d (.int .i64 0)))), none⟩])
  (.block 0 (.loop lp_rblock_0)))
  (.seq (.seq (.reg [⟨(some 9), .mv (.k (.c (.d (.int .i64 16)))), none⟩])
  (.block 2 (.loop lp_rblock_1)))
  (.seq (.reg [⟨(some 103), .mv (.t 0), none⟩,
    ⟨(some 104), .idxSl 1 (.t 103) (.k (.c (.d (.int .i64 0)))), none⟩,
    ⟨(some 105), .load .sc (.t 104), none⟩,
    ⟨(some 106), .mv (.t 0), none⟩,
    ⟨(some 107), .idxSl 1 (.t 106) (.k (.c (.d (.int .i64 1)))), none⟩,
    ⟨(some 108), .load .sc (.t 107), none⟩,
    ⟨(some 109), .mv (.t 0), none⟩,
    ⟨(some 110), .idxSl 1 (.t 109) (.k (.c (.d (.int .i64 2)))), none⟩,
    ⟨(some 111), .load .sc (.t 110), none⟩,
    ⟨(some 112), .mv (.t 0), none⟩,
    ⟨(some 113), .idxSl 1 (.t 112) (.k (.c (.d (.int .i64 3)))), none⟩,
    ⟨(some 114), .load .sc (.t 113), none⟩,
    ⟨(some 115), .mv (.t 0), none⟩,
    ⟨(some 116), .idxSl 1 (.t 115) (.k (.c (.d (.int .i64 4)))), none⟩,
    ⟨(some 117), .load .sc (.t 116), none⟩,
    ⟨(some 118), .mv (.t 0), none⟩,
    ⟨(some 119), .idxSl 1 (.t 118) (.k (.c (.d (.int .i64 5)))), none⟩,
    ⟨(some 120), .load .sc (.t 119), none⟩,
    ⟨(some 121), .mv (.t 0), none⟩,
    ⟨(some 122), .idxSl 1 (.t 121) (.k (.c (.d (.int .i64 6)))), none⟩,
    ⟨(some 123), .load .sc (.t 122), none⟩,
    ⟨(some 124), .mv (.t 0), none⟩,
    ⟨(some 125), .idxSl 1 (.t 124) (.k (.c (.d (.int .i64 7)))), none⟩,
    ⟨(some 126), .load .sc (.t 125), none⟩,
    ⟨(some 12), .mv (.t 105), none⟩,
    ⟨(some 13), .mv (.t 108), none⟩,
    ⟨(some 14), .mv (.t 111), none⟩,
    ⟨(some 15), .mv (.t 114), none⟩,
    ⟨(some 16), .mv (.t 117), none⟩,
    ⟨(some 17), .mv (.t 120), none⟩,
    ⟨(some 18), .mv (.t 123), none⟩,
    ⟨(some 19), .mv (.t 126), none⟩])
  (.seq (.seq (.reg [⟨(some 20), .mv (.k (.c (.d (.int .i64 0)))), none⟩])
  (.block 4 (.loop lp_rblock_2)))
  (.seq (.reg [⟨(some 191), .mv (.t 0), none⟩,
    ⟨(some 192), .idxSl 1 (.t 191) (.k (.c (.d (.int .i64 0)))), none⟩,
    ⟨(some 193), .load .sc (.t 192), none⟩,
    ⟨(some 194), .mv (.t 12), none⟩,
    ⟨(some 195), .bin .add (.t 193) (.t 194), none⟩,
    ⟨(some 196), .mv (.t 0), none⟩,
    ⟨(some 197), .idxSl 1 (.t 196) (.k (.c (.d (.int .i64 1)))), none⟩,
    ⟨(some 198), .load .sc (.t 197), none⟩,
    ⟨(some 199), .mv (.t 13), none⟩,
    ⟨(some 200), .bin .add (.t 198) (.t 199), none⟩,
    ⟨(some 201), .mv (.t 0), none⟩,
    ⟨(some 202), .idxSl 1 (.t 201) (.k (.c (.d (.int .i64 2)))), none⟩,
    ⟨(some 203), .load .sc (.t 202), none⟩,
    ⟨(some 204), .mv (.t 14), none⟩,
    ⟨(some 205), .bin .add (.t 203) (.t 204), none⟩,
    ⟨(some 206), .mv (.t 0), none⟩,
    ⟨(some 207), .idxSl 1 (.t 206) (.k (.c (.d (.int .i64 3)))), none⟩,
    ⟨(some 208), .load .sc (.t 207), none⟩,
    ⟨(some 209), .mv (.t 15), none⟩,
    ⟨(some 210), .bin .add (.t 208) (.t 209), none⟩,
    ⟨(some 211), .mv (.t 0), none⟩,
    ⟨(some 212), .idxSl 1 (.t 211) (.k (.c (.d (.int .i64 4)))), none⟩,
    ⟨(some 213), .load .sc (.t 212), none⟩,
    ⟨(some 214), .mv (.t 16), none⟩,
    ⟨(some 215), .bin .add (.t 213) (.t 214), none⟩,
    ⟨(some 216), .mv (.t 0), none⟩,
    ⟨(some 217), .idxSl 1 (.t 216) (.k (.c (.d (.int .i64 5)))), none⟩,
    ⟨(some 218), .load .sc (.t 217), none⟩,
    ⟨(some 219), .mv (.t 17), none⟩,
    ⟨(some 220), .bin .add (.t 218) (.t 219), none⟩,
    ⟨(some 221), .mv (.t 0), none⟩,
    ⟨(some 222), .idxSl 1 (.t 221) (.k (.c (.d (.int .i64 6)))), none⟩,
    ⟨(some 223), .load .sc (.t 222), none⟩,
    ⟨(some 224), .mv (.t 18), none⟩,
    ⟨(some 225), .bin .add (.t 223) (.t 224), none⟩,
    ⟨(some 226), .mv (.t 0), none⟩,
    ⟨(some 227), .idxSl 1 (.t 226) (.k (.c (.d (.int .i64 7)))), none⟩,
    ⟨(some 228), .load .sc (.t 227), none⟩,
    ⟨(some 229), .mv (.t 19), none⟩,
    ⟨(some 230), .bin .add (.t 228) (.t 229), none⟩,
    ⟨(some 231), .bldSl true 8 1 (.int .u32 0) [(0, (.t 195)), (1, (.t 200)), (2, (.t 205)), (3, (.t 210)), (4, (.t 215)), (5, (.t 220)), (6, (.t 225)), (7, (.t 230))], none⟩,
    ⟨(some 6), .mv (.t 231), none⟩])
  (.ret))))))),
  [(6, none)]⟩
theorem cf_rblock : compFn Tryd.prog { own := [231], comp := [], frz := [], nils := [] } Tryd.f101 = some sf_rblock := by kernel_rfl
set_option maxHeartbeats 1600000 in
theorem rblock_c (G : Glob) (h : List UInt32) (b : List UInt8) (hh : h.length = 8) (hb : b.length = 64) : Den Tryd.prog G 101 [.sl (h.map wD), .sl (constK.map wD), .sl (b.map bD)] (.w (.c (.fr 1 ((blockK h b).map wD)))) := by
  refine den_walk Tryd.func101 cf_rblock rfl rfl ?_
  have hsl : (sched b).length = 64 := schedN_len b 48
  have hcl : constK.length = 64 := constK_len
  simp only [sf_rblock, putAll, wx, stV, seval, IntWalk.iteOmega, IntWalk.toNatUp, reduceCtorEq]
  refine loop_st (rbSt1 h constK b) (fun t => 16 - t) (fun t => t ≤ 16) 0 (Nat.zero_le _) ?_ ?_
  · refine ent_l (fun _ => 56) ?_ ?_ rfl rfl <;> simp only [wx, wex, stV, seval, IntWalk.iteOmega, IntWalk.toNatUp, reduceCtorEq]
    rfl
  · intro t ht
    by_cases hlt : t < 16
    · have e0 : IntKind.i64.wrap (4 * (t : Int)) = ((4 * t : Nat) : Int) := by rw [IntWalk.i64_in _ (by omega)]; omega
      have e1 : IntKind.i64.wrap (((4 * t : Nat) : Int) + 1) = ((4 * t + 1 : Nat) : Int) := by rw [IntWalk.i64_in _ (by omega)]; omega
      have e2 : IntKind.i64.wrap (((4 * t : Nat) : Int) + 2) = ((4 * t + 2 : Nat) : Int) := by rw [IntWalk.i64_in _ (by omega)]; omega
      have e3 : IntKind.i64.wrap (((4 * t : Nat) : Int) + 3) = ((4 * t + 3 : Nat) : Int) := by rw [IntWalk.i64_in _ (by omega)]; omega
      have e4 : IntKind.i64.wrap ((t : Int) + 1) = ((t + 1 : Nat) : Int) := by rw [IntWalk.i64_in _ (by omega)]; omega
      have g : ∀ k, k < 64 → (b.map bD)[k]? = some (bD (b.getD k 0)) := fun k hk => by rw [get_map, getD_someB (by omega)]; rfl
      have g0 := g (4 * t) (by omega)
      have g1 := g (4 * t + 1) (by omega)
      have g2 := g (4 * t + 2) (by omega)
      have g3 := g (4 * t + 3) (by omega)
      have h1 : t < (sched16 b t ++ List.replicate (64 - t) 0).length := by rw [List.length_append, sched16_len, List.length_replicate]; omega
      have h2 := set_next (sched16 b t) 0 (wordAt b t) (64 - t) (by omega)
      rw [sched16_len] at h2
      have h3 : sched16 b t ++ [wordAt b t] = sched16 b (t + 1) := by simp [sched16, List.range_succ]
      have h4 : 64 - t - 1 = 64 - (t + 1) := by omega
      rw [h3, h4] at h2
      simp only [wordAt] at h2
      have m24 : min (24 : Int).toNat 32 = 24 := by decide
      have m16 : min (16 : Int).toNat 32 = 16 := by decide
      have m8 : min (8 : Int).toNat 32 = 8 := by decide
      simp only [lp_rblock_0, rbSt1, wx, stV, seval, IntWalk.iteOmega, IntWalk.toNatUp, reduceCtorEq, e0, e1, e2, e3, e4, g0, g1, g2, g3, Nat.zero_add, stO_ws h1 (one_w _), set_ws, h2]
      refine lop_next (t + 1) (by omega) (by omega) (ent_l id ?_ ?_ rfl rfl) <;> simp only [wx, wex, stV, seval, IntWalk.iteOmega, IntWalk.toNatUp, reduceCtorEq]
    · obtain rfl : t = 16 := by omega
      simp only [lp_rblock_0, rbSt1, wx, stV, seval, IntWalk.iteOmega, IntWalk.toNatUp, reduceCtorEq]
      refine loop_st (rbSt2 h constK b) (fun n => 48 - n) (fun n => n ≤ 48) 0 (Nat.zero_le _) ?_ ?_
      · have h0 : sched16 b 16 = schedN b 0 := rfl
        refine ent_l id ?_ ?_ rfl rfl <;> simp only [wx, wex, stV, seval, IntWalk.iteOmega, IntWalk.toNatUp, reduceCtorEq, h0]
      · intro n hn
        by_cases hlt : n < 48
        · have hl := schedN_len b n
          have w1 : ∀ k : Nat, k ≤ 16 → IntKind.i64.wrap (((16 + n : Nat) : Int) - (k : Int)) = ((16 + n - k : Nat) : Int) := fun k hk => by rw [IntWalk.i64_in _ (by omega)]; omega
          have e15 : IntKind.i64.wrap (((16 + n : Nat) : Int) - 15) = ((16 + n - 15 : Nat) : Int) := w1 15 (by decide)
          have e2 : IntKind.i64.wrap (((16 + n : Nat) : Int) - 2) = ((16 + n - 2 : Nat) : Int) := w1 2 (by decide)
          have e7 : IntKind.i64.wrap (((16 + n : Nat) : Int) - 7) = ((16 + n - 7 : Nat) : Int) := w1 7 (by decide)
          have e16 : IntKind.i64.wrap (((16 + n : Nat) : Int) - 16) = ((16 + n - 16 : Nat) : Int) := w1 16 (by decide)
          have e0 : IntKind.i64.wrap (((16 + n : Nat) : Int) + 1) = ((16 + (n + 1) : Nat) : Int) := by rw [IntWalk.i64_in _ (by omega)]; omega
          have g : ∀ k, k < 16 + n → ((schedN b n ++ List.replicate (48 - n) 0).map wD)[k]? = some (wD ((schedN b n).getD k 0)) := fun k hk => by
            rw [List.getElem?_map, get_of (by omega)]; rfl
          have g15 := g (16 + n - 15) (by omega)
          have g2 := g (16 + n - 2) (by omega)
          have g7 := g (16 + n - 7) (by omega)
          have g16 := g (16 + n - 16) (by omega)
          simp only [lp_rblock_1, rbSt2, wx, stV, seval, IntWalk.iteOmega, IntWalk.toNatUp, reduceCtorEq, e15, e2, e7, e16, e0, g15, g2, g7, g16]
          refine st_call (rturn_c G _ 17 (by decide) (by decide)) rfl (.inr rfl) ?_
          simp only [wx, stV, seval, IntWalk.iteOmega, IntWalk.toNatUp, reduceCtorEq]
          refine st_call (rturn_c G _ 19 (by decide) (by decide)) rfl (.inr rfl) ?_
          simp only [wx, stV, seval, IntWalk.iteOmega, IntWalk.toNatUp, reduceCtorEq, e15, e2, e7, e16, e0, g15, g2, g7, g16]
          refine st_call (rturn_c G _ 7 (by decide) (by decide)) rfl (.inr rfl) ?_
          simp only [wx, stV, seval, IntWalk.iteOmega, IntWalk.toNatUp, reduceCtorEq]
          refine st_call (rturn_c G _ 18 (by decide) (by decide)) rfl (.inr rfl) ?_
          have h1 : 16 + n < (schedN b n ++ List.replicate (48 - n) 0).length := by rw [List.length_append, hl, List.length_replicate]; omega
          have h2 := set_next (schedN b n) 0 (nextW (schedN b n) (16 + n)) (48 - n) (by omega)
          rw [hl] at h2
          have h4 : 48 - n - 1 = 48 - (n + 1) := by omega
          have h3 : schedN b n ++ [nextW (schedN b n) (16 + n)] = schedN b (n + 1) := rfl
          rw [h3, h4] at h2
          simp only [nextW, smallA, smallB] at h2
          simp only [wx, stV, seval, IntWalk.iteOmega, IntWalk.toNatUp, reduceCtorEq, e15, e2, e7, e16, e0, g15, g2, g7, g16, stO_ws h1 (one_w _), set_ws, h2]
          refine lop_next (n + 1) (by omega) (by omega) (ent_l id ?_ ?_ rfl rfl) <;> simp only [wx, wex, stV, seval, IntWalk.iteOmega, IntWalk.toNatUp, reduceCtorEq]
        · have hn48 : n = 48 := by omega
          have h0 : 48 - n = 0 := by omega
          obtain ⟨h0', h1, h2, h3, h4, h5, h6, h7, rfl⟩ := eight hh
          simp only [lp_rblock_1, rbSt2, wx, stV, seval, IntWalk.iteOmega, IntWalk.toNatUp, reduceCtorEq, h0, List.append_nil, List.replicate_zero, ← sched_at b n hn48]
          refine loop_st (rbR3 [h0', h1, h2, h3, h4, h5, h6, h7] b) (fun n => 64 - n) (fun n => n ≤ 64) 0 (Nat.zero_le _) ?_ ?_
          · refine ent_l id ?_ ?_ rfl rfl <;> simp only [rbR3, rbSt3, wx, wex, stV, seval, IntWalk.iteOmega, IntWalk.toNatUp, reduceCtorEq]
            exact ⟨rfl, rfl, rfl, rfl, rfl, rfl, rfl, rfl⟩
          · clear hn hlt hn48 h0
            intro n hn
            by_cases hlt : n < 64
            · have e1 : IntKind.i64.wrap ((n : Int) + 1) = ((n + 1 : Nat) : Int) := by rw [IntWalk.i64_in _ (by omega)]; rfl
              have g1 : (constK.map wD)[n]? = some (wD (constK.getD n 0)) := by rw [get_map, getD_some (by omega)]; rfl
              have g2 : ((sched b).map wD)[n]? = some (wD ((sched b).getD n 0)) := by rw [get_map, getD_some (by omega)]; rfl
              have hr : (Eight.of [h0', h1, h2, h3, h4, h5, h6, h7]).rounds constK (sched b) (n + 1) = ((Eight.of [h0', h1, h2, h3, h4, h5, h6, h7]).rounds constK (sched b) n).step (constK.getD n 0) ((sched b).getD n 0) := rfl
              generalize hs : (Eight.of [h0', h1, h2, h3, h4, h5, h6, h7]).rounds constK (sched b) n = s at hr
              simp only [lp_rblock_2, rbR3, rbSt3, hs, wx, stV, seval, IntWalk.iteOmega, IntWalk.toNatUp, reduceCtorEq, hcl, hsl, g1, g2, e1]
              refine st_call (rturn_c G _ 6 (by decide) (by decide)) rfl (.inr rfl) ?_
              simp only [wx, stV, seval, IntWalk.iteOmega, IntWalk.toNatUp, reduceCtorEq]
              refine st_call (rturn_c G _ 11 (by decide) (by decide)) rfl (.inr rfl) ?_
              simp only [wx, stV, seval, IntWalk.iteOmega, IntWalk.toNatUp, reduceCtorEq]
              refine st_call (rturn_c G _ 25 (by decide) (by decide)) rfl (.inr rfl) ?_
              simp only [wx, stV, seval, IntWalk.iteOmega, IntWalk.toNatUp, reduceCtorEq, g1, g2, hcl, hsl]
              refine st_call (rturn_c G _ 2 (by decide) (by decide)) rfl (.inr rfl) ?_
              simp only [wx, stV, seval, IntWalk.iteOmega, IntWalk.toNatUp, reduceCtorEq]
              refine st_call (rturn_c G _ 13 (by decide) (by decide)) rfl (.inr rfl) ?_
              simp only [wx, stV, seval, IntWalk.iteOmega, IntWalk.toNatUp, reduceCtorEq]
              refine st_call (rturn_c G _ 22 (by decide) (by decide)) rfl (.inr rfl) ?_
              simp only [wx, stV, seval, IntWalk.iteOmega, IntWalk.toNatUp, reduceCtorEq, e1]
              refine lop_next (n + 1) (by omega) (by omega) ?_
              rw [rbR3, hr]
              refine (ent_l id ?_ ?_ rfl rfl) <;> simp only [wx, wex, stV, seval, IntWalk.iteOmega, IntWalk.toNatUp, reduceCtorEq, step_a, step_b, step_c, step_d, step_e, step_f, step_g, step_h]
              exact ⟨rfl, rfl⟩
            · obtain rfl : n = 64 := by omega
              have hK : blockK [h0', h1, h2, h3, h4, h5, h6, h7] b = ((Eight.of [h0', h1, h2, h3, h4, h5, h6, h7]).rounds constK (sched b) 64).sum [h0', h1, h2, h3, h4, h5, h6, h7] := rfl
              rw [hK]
              simp only [rbR3]
              generalize (Eight.of [h0', h1, h2, h3, h4, h5, h6, h7]).rounds constK (sched b) 64 = s
              have e8 : s.sum [h0', h1, h2, h3, h4, h5, h6, h7] = [addW h0' s.a, addW h1 s.b, addW h2 s.c, addW h3 s.d, addW h4 s.e, addW h5 s.f, addW h6 s.g, addW h7 s.h] := rfl
              simp only [lp_rblock_2, rbSt3, e8, wx, stV, seval, IntWalk.iteOmega, IntWalk.toNatUp, reduceCtorEq]
              exact ret_own (id := 1848) (n := 8) (s := 1) (by simp only [wx, stV, seval, IntWalk.iteOmega, IntWalk.toNatUp, reduceCtorEq]) (by simp only [wx, stV, seval, IntWalk.iteOmega, IntWalk.toNatUp, reduceCtorEq] <;> rfl) rfl
end Go.Proofs.YtjgkchmdhicmpaaDoor
set_option linter.unusedVariables false
set_option linter.unusedSimpArgs false
namespace Go.Proofs.YtjgkchmdhicmpaaDoor
open Go.RowKit

/-! ### SHA-256 of bytes -/
def foldB (h : List UInt32) (b : List UInt8) : Nat → List UInt32
  | 0 => h
  | n + 1 => blockK (foldB h b n) ((b.drop (64 * n)).take 64)
theorem foldB_len {h : List UInt32} (hh : h.length = 8) (b : List UInt8) : ∀ n, (foldB h b n).length = 8
  | 0 => hh
  | n + 1 => blockK_len _ _
def padK (rest : List UInt8) (count : Nat) : List UInt8 := rest ++ [128] ++ List.replicate ((119 - rest.length) % 64) 0 ++ putL (count * 8) 8
def wordsB (ws : List UInt32) : List UInt8 := ws.flatMap fun w => putL w.toNat 4
def finK (s : List UInt32) (rest : List UInt8) (count : Nat) : List UInt8 := wordsB (foldB s (padK rest count) ((padK rest count).length / 64))
def sumK (b : List UInt8) : List UInt8 := finK (foldB firstK b (b.length / 64)) (b.drop (64 * (b.length / 64))) b.length
def shortK (b : List UInt8) : List UInt8 := (sumK b).take 16
def chainK (b : List UInt8) : Nat → List UInt8
  | 0 => b
  | n + 1 => shortK (chainK b n)
theorem wordsB_len : ∀ ws : List UInt32, (wordsB ws).length = 4 * ws.length
  | [] => rfl
  | w :: ws => by
    have : wordsB (w :: ws) = putL w.toNat 4 ++ wordsB ws := rfl
    rw [this, List.length_append, putL_length, wordsB_len ws, List.length_cons]; omega
theorem finK_len {s : List UInt32} (hs : s.length = 8) (rest : List UInt8) (count : Nat) : (finK s rest count).length = 32 := by
  unfold finK
  rw [wordsB_len, foldB_len hs]
theorem sumK_len (b : List UInt8) : (sumK b).length = 32 := finK_len (foldB_len firstK_len _ _) _ _
theorem shortK_len (b : List UInt8) : (shortK b).length = 16 := by unfold shortK; rw [List.length_take, sumK_len]; rfl
theorem putL_zero (n : Nat) : putL 0 n = List.replicate n 0 := by
  unfold putL
  apply List.ext_getElem?
  intro i
  simp only [List.getElem?_map, List.getElem?_replicate, List.getElem?_range]
  by_cases h : i < n
  · simp [h, List.getElem?_range]
  · simp [h, List.getElem?_range]
theorem padK_len (rest : List UInt8) (count : Nat) (h : rest.length < 64) : (padK rest count).length = rest.length + 9 + (119 - rest.length) % 64 ∧ (padK rest count).length % 64 = 0 := by
  have : (padK rest count).length = rest.length + 9 + (119 - rest.length) % 64 := by simp [padK, putL_length]; omega
  exact ⟨this, by omega⟩
theorem wordsB_take (ws : List UInt32) (k : Nat) (h : k < ws.length) : wordsB (ws.take k) ++ putL (ws.getD k 0).toNat 4 = wordsB (ws.take (k + 1)) := by
  rw [List.take_succ_eq_append_getElem h]
  unfold wordsB
  rw [List.flatMap_append]
  simp [h]
theorem get_words {ws : List UInt32} {k : Nat} (h : k < ws.length) : ((ws.map wD).map C.d)[k]? = some (.d (wD (ws.getD k 0))) := by
  simp [h]
theorem drop_take_drop (b : List UInt8) (n : Nat) : (b.drop (64 * n)).drop 64 = b.drop (64 * (n + 1)) := by rw [List.drop_drop, Nat.mul_succ]

def bksSt (s : List UInt32) (b : List UInt8) (n : Nat) : St := ⟨ofL [(1, .w (.c (.d (.sl ((b.drop (64 * n)).map bD))))), (2, .w (.c (.pa 1 1))), (4, .w (.c (.pa 2 1))), (5, .w (.c .nil))], hL [(1, .row 1 ((foldB s b n).map wD)), (2, .row 1 ((List.replicate 8 (0 : UInt32)).map wD))], uL [1, 2]⟩
def lp_blocks_0 : SCode :=
  .seq (.seq (.reg [⟨(some 6), .mv (.t 1), none⟩,
    ⟨(some 7), .len (.t 6), none⟩,
    ⟨(some 8), .bin .geq (.t 7) (.k (.c (.d (.int .i64 64)))), none⟩])
  (.cond (.t 8) (.skip)
   (.exit 0)))
  (.block 1 (.seq (.reg [⟨(some 9), .load (.ag 8) (.t 2), none⟩,
     ⟨(some 10), .mv (.t 1), none⟩,
     ⟨(some 11), .slice 1 (.t 10) none (some (.k (.c (.d (.int .i64 64))))) none, none⟩,
     ⟨(some 12), .call 109 [(.t 9), (.t 11)] none, none⟩,
     ⟨none, .store (.ag 8) (.t 2) (.t 12), none⟩])
   (.reg [⟨(some 13), .mv (.t 1), none⟩,
     ⟨(some 14), .slice 1 (.t 13) (some (.k (.c (.d (.int .i64 64))))) none none, none⟩,
     ⟨(some 1), .mv (.t 14), none⟩])))
def sf_blocks : SFn := ⟨2, 17,
  .seq (.reg [⟨(some 2), .box .ownArr (.t 0), none⟩,
    ⟨(some 4), .allocArr [(.int .u32 0), (.int .u32 0), (.int .u32 0), (.int .u32 0), (.int .u32 0), (.int .u32 0), (.int .u32 0), (.int .u32 0)], none⟩,
    ⟨(some 5), .mv (.k (.c .nil)), none⟩])
  (.seq (.block 0 (.loop lp_blocks_0))
  (.seq (.reg [⟨(some 15), .load (.ag 8) (.t 2), none⟩,
    ⟨(some 16), .mv (.t 1), none⟩,
    ⟨none, .store (.ag 8) (.t 4) (.t 15), none⟩,
    ⟨(some 5), .mv (.t 16), none⟩])
  (.ret))),
  [(4, (some (.ag 8))), (5, none)]⟩
theorem cf_blocks : compFn Tryd.prog { own := [2], comp := [], frz := [], nils := [] } Tryd.f71 = some sf_blocks := by kernel_rfl
set_option maxHeartbeats 1600000 in
theorem blocks_c (G : Glob) (hG : G.at 1 = some (.ra (constK.map wD))) (s : List UInt32) (b : List UInt8) (hs : s.length = 8) (hb : b.length ≤ 140737488355328) : Den Tryd.prog G 71 [.agg (s.map wD), .sl (b.map bD)] (.tup [.c (.d (.agg ((foldB s b (b.length / 64)).map wD))), .c (.d (.sl ((b.drop (64 * (b.length / 64))).map bD)))]) := by
  refine den_walk Tryd.func71 cf_blocks rfl rfl ?_
  simp only [sf_blocks, putAll, wx, stV, seval, IntWalk.iteOmega, IntWalk.toNatUp, reduceCtorEq]
  refine loop_st (bksSt s b) (fun n => b.length / 64 - n) (fun n => n ≤ b.length / 64) 0 (Nat.zero_le _) ?_ ?_
  · refine ent_l (fun i => match i with | 1 => 16 | _ => 32) ?_ ?_ rfl rfl <;> simp only [wx, wex, stV, seval, IntWalk.iteOmega, IntWalk.toNatUp, reduceCtorEq, bksSt, foldB]
    rfl
  · intro n hn
    have hl := foldB_len hs b n
    by_cases hlt : n < b.length / 64
    · have h1 : (64 : Int) ≤ ((b.drop (64 * n)).length : Int) := by rw [List.length_drop]; omega
      have h2 : ((b.drop (64 * n)).take 64).length = 64 := by rw [List.length_take, List.length_drop]; omega
      have e1 := drop_take_drop b n
      simp only [lp_blocks_0, bksSt, wx, stV, seval, IntWalk.iteOmega, IntWalk.toNatUp, reduceCtorEq, hl, h1]
      refine st_call (block_c G hG (foldB s b n) ((b.drop (64 * n)).take 64) hl h2) rfl (.inl rfl) ?_
      have e2 : (blockK (foldB s b n) ((b.drop (64 * n)).take 64)).length = 8 := blockK_len _ _
      have e3 : (b.drop (64 * n)).length - 64 = ((b.drop (64 * (n + 1)))).length := by rw [List.length_drop, List.length_drop]; omega
      simp only [wx, stV, seval, IntWalk.iteOmega, IntWalk.toNatUp, reduceCtorEq, hl, e2, e1, e3]
      refine lop_next (n + 1) (by omega) (by omega) (ent_l id ?_ ?_ rfl rfl) <;> simp only [wx, wex, stV, seval, IntWalk.iteOmega, IntWalk.toNatUp, reduceCtorEq, foldB]
    · obtain rfl : n = b.length / 64 := by omega
      have h1 : ¬ (64 : Int) ≤ ((b.drop (64 * (b.length / 64))).length : Int) := by rw [List.length_drop]; omega
      simp only [lp_blocks_0, bksSt, wx, stV, seval, IntWalk.iteOmega, IntWalk.toNatUp, reduceCtorEq, hl, h1]
      exact ret_d2 (by simp only [wx, stV, seval, IntWalk.iteOmega, IntWalk.toNatUp, reduceCtorEq, hl]) (by simp only [wx, stV, seval, IntWalk.iteOmega, IntWalk.toNatUp, reduceCtorEq])

def finSt (ws : List UInt32) (k : Nat) : St := ⟨ofL [(9, .w (.c (.own 1 1 0 (wordsB (ws.take k)).length))), (36, .w (.c (.d (.agg (ws.map wD))))), (37, .w (.c (.d (.int .i64 (k : Int)))))], hL [(1, .row 1 ((wordsB (ws.take k)).map bD))], uL [1]⟩
def lp_fin_0 : SCode :=
  .seq (.reg [⟨(some 38), .bin .lss (.t 37) (.k (.c (.d (.int .i64 8)))), none⟩])
  (.seq (.cond (.t 38) (.skip)
   (.exit 0))
  (.seq (.block 1 (.seq (.reg [⟨(some 39), .idxArr 1 8 .sc (.t 36) (.t 37), none⟩,
     ⟨(some 11), .mv (.t 39), none⟩])
   (.reg [⟨(some 40), .mv (.t 9), none⟩,
     ⟨(some 41), .mv (.t 11), none⟩,
     ⟨(some 42), .conv .u64 (.t 41), none⟩,
     ⟨(some 43), .call 75 [(.t 42), (.k (.c (.d (.int .i64 4))))] none, none⟩,
     ⟨(some 44), .app false 1 1 (.t 40) (.t 43), none⟩,
     ⟨(some 9), .mv (.t 44), none⟩])))
  (.reg [⟨(some 45), .bin .add (.t 37) (.k (.c (.d (.int .i64 1)))), none⟩,
    ⟨(some 37), .mv (.t 45), none⟩])))
def sf_fin : SFn := ⟨3, 47,
  .seq (.reg [⟨(some 3), .box .ownArr (.t 0), none⟩,
    ⟨(some 6), .mv (.k (.c .nil)), none⟩])
  (.seq (.reg [⟨(some 12), .bldSl false 1 1 (.int .u8 0) [(0, (.k (.c (.d (.int .u8 128)))))], none⟩,
    ⟨(some 7), .mv (.t 12), none⟩])
  (.seq (.reg [⟨(some 13), .mv (.t 7), none⟩,
    ⟨(some 14), .len (.t 13), none⟩,
    ⟨(some 15), .bin .sub (.k (.c (.d (.int .i64 120)))) (.t 14), none⟩,
    ⟨(some 16), .mv (.t 1), none⟩,
    ⟨(some 17), .len (.t 16), none⟩,
    ⟨(some 18), .bin .sub (.t 15) (.t 17), none⟩,
    ⟨(some 19), .bin .rem (.t 18) (.k (.c (.d (.int .i64 64)))), none⟩,
    ⟨(some 8), .mv (.t 19), none⟩])
  (.seq (.reg [⟨(some 21), .load (.ag 8) (.t 3), none⟩,
    ⟨(some 22), .mv (.t 1), none⟩,
    ⟨(some 23), .mv (.t 7), none⟩,
    ⟨(some 24), .mv (.t 8), none⟩,
    ⟨(some 25), .call 75 [(.k (.c (.d (.int .u64 0)))), (.t 24)] none, none⟩,
    ⟨(some 26), .mv (.t 2), none⟩,
    ⟨(some 27), .conv .u64 (.t 26), none⟩,
    ⟨(some 28), .bin .mul (.t 27) (.k (.c (.d (.int .u64 8)))), none⟩,
    ⟨(some 29), .call 75 [(.t 28), (.k (.c (.d (.int .i64 8))))] none, none⟩,
    ⟨(some 30), .bldSl false 4 1 (.sl []) [(0, (.t 22)), (1, (.t 23)), (2, (.t 25)), (3, (.t 29))], none⟩,
    ⟨(some 31), .call 43 [(.t 30)] none, none⟩,
    ⟨(some 32), .call 71 [(.t 21), (.t 31)] none, none⟩,
    ⟨(some 20), .mv (.t 32), none⟩,
    ⟨(some 33), .extract (.t 20) 0, none⟩,
    ⟨(some 34), .extract (.t 20) 1, none⟩,
    ⟨none, .store (.ag 8) (.t 3) (.t 33), none⟩])
  (.seq (.reg [⟨(some 35), .make 1 1 (.int .u8 0) (.k (.c (.d (.int .i64 0)))) (.k (.c (.d (.int .i64 32)))), none⟩,
    ⟨(some 9), .mv (.t 35), none⟩])
  (.seq (.seq (.reg [⟨(some 36), .load (.ag 8) (.t 3), none⟩,
    ⟨(some 37), .mv (.k (.c (.d (.int .i64 0)))), none⟩])
  (.block 0 (.loop lp_fin_0)))
  (.seq (.reg [⟨(some 46), .mv (.t 9), none⟩,
    ⟨(some 6), .mv (.t 46), none⟩])
  (.ret))))))),
  [(6, none)]⟩
theorem cf_fin : compFn Tryd.prog { own := [3], comp := [], frz := [], nils := [] } Tryd.f74 = some sf_fin := by kernel_rfl
set_option maxHeartbeats 1600000 in
theorem fin_c (G : Glob) (hG : G.at 1 = some (.ra (constK.map wD))) (s : List UInt32) (rest : List UInt8) (count : Nat) (hs : s.length = 8) (hr : rest.length < 64) (hc : count ≤ 140737488355328) : Den Tryd.prog G 74 [.agg (s.map wD), .sl (rest.map bD), .int .i64 (count : Int)] (.w (.c (.fr 1 ((finK s rest count).map bD)))) := by
  refine den_walk Tryd.func74 cf_fin rfl rfl ?_
  have e3 : (119 - (rest.length : Int)).tmod 64 = (((119 - rest.length) % 64 : Nat) : Int) := by
    rw [show (119 - (rest.length : Int)) = ((119 - rest.length : Nat) : Int) by omega]; rfl
  simp only [sf_fin, putAll, wx, wy, wz, stV, seval, IntWalk.iteOmega, IntWalk.toNatUp, reduceCtorEq, hs, e3]
  have hz : (119 - rest.length) % 64 ≤ 64 := by omega
  refine st_call (put_in G 0 ((119 - rest.length) % 64) hz) rfl (.inl rfl) ?_
  simp only [wx, wy, wz, stV, seval, IntWalk.iteOmega, IntWalk.toNatUp, reduceCtorEq]
  refine st_call (put_in G (count * 8) 8 (by decide)) ?_ (.inl rfl) ?_
  · simp only [wx, wy, wz, stV, seval, IntWalk.iteOmega, IntWalk.toNatUp, reduceCtorEq]
  obtain ⟨hp1, hp2⟩ := padK_len rest count hr
  have hp : [rest, [128], putL 0 ((119 - rest.length) % 64), putL (count * 8) 8].flatten = padK rest count := by
    rw [putL_zero]; simp [padK]
  have hj := join_c G [rest, [128], putL 0 ((119 - rest.length) % 64), putL (count * 8) 8] (by simp) (by rw [hp, hp1]; omega)
  rw [hp] at hj
  simp only [wx, wy, wz, stV, seval, IntWalk.iteOmega, IntWalk.toNatUp, reduceCtorEq]
  refine st_call hj rfl (.inl rfl) ?_
  simp only [wx, wy, wz, stV, seval, IntWalk.iteOmega, IntWalk.toNatUp, reduceCtorEq]
  refine st_call (blocks_c G hG s (padK rest count) hs (by rw [hp1]; omega)) rfl (.inl rfl) ?_
  have hw : (foldB s (padK rest count) ((padK rest count).length / 64)).length = 8 := foldB_len hs _ _
  have hf : finK s rest count = wordsB (foldB s (padK rest count) ((padK rest count).length / 64)) := rfl
  rw [hf]
  generalize foldB s (padK rest count) ((padK rest count).length / 64) = ws at hw
  simp only [wx, wy, wz, stV, seval, IntWalk.iteOmega, IntWalk.toNatUp, reduceCtorEq, hs, hw]
  refine loop_st (finSt ws) (fun k => 8 - k) (fun k => k ≤ 8) 0 (Nat.zero_le _) ?_ ?_
  · refine ent_l (fun _ => 280) ?_ ?_ rfl rfl <;> simp only [wx, wex, wez, stV, seval, IntWalk.iteOmega, IntWalk.toNatUp, reduceCtorEq, wordsB]
  · intro k hk
    by_cases hlt : k < 8
    · have hw1 : (ws.getD k 0).toNat < 4294967296 := word_lt _
      have hwl := wordsB_len (ws.take k)
      rw [List.length_take] at hwl
      simp only [lp_fin_0, finSt, wx, wy, wz, stV, seval, IntWalk.iteOmega, IntWalk.toNatUp, reduceCtorEq, get_words (show k < ws.length by omega)]
      refine st_call (put_in G (ws.getD k 0).toNat 4 (by decide)) ?_ (.inl rfl) ?_
      · simp only [wx, wy, wz, stV, seval, IntWalk.iteOmega, IntWalk.toNatUp, reduceCtorEq]
      simp only [wx, wy, wz, stV, seval, IntWalk.iteOmega, IntWalk.toNatUp, reduceCtorEq, srcV, wordsB_take ws k (by omega), putL_length]
      refine lop_next (k + 1) (by omega) (by omega) (ent_l (fun _ => 352) ?_ ?_ rfl rfl) <;> simp only [wx, wex, wez, stV, seval, IntWalk.iteOmega, IntWalk.toNatUp, reduceCtorEq]
    · obtain rfl : k = 8 := by omega
      have : ws.take 8 = ws := List.take_of_length_le (by omega)
      simp only [lp_fin_0, finSt, wx, wy, wz, stV, seval, IntWalk.iteOmega, IntWalk.toNatUp, reduceCtorEq, this]
      exact ret_own (id := 1) (n := (wordsB ws).length) (s := 1) (by simp only [wx, stV, seval, IntWalk.iteOmega, IntWalk.toNatUp, reduceCtorEq]) (by simp only [wx, stV, seval, IntWalk.iteOmega, IntWalk.toNatUp, reduceCtorEq]) (by rw [List.length_map])

def sf_sum : SFn := ⟨1, 16,
  .seq (.reg [⟨(some 2), .mv (.k (.c .nil)), none⟩])
  (.seq (.reg [⟨(some 6), .load (.ag 8) (.g 0), none⟩,
    ⟨(some 7), .mv (.t 0), none⟩,
    ⟨(some 8), .call 71 [(.t 6), (.t 7)] none, none⟩,
    ⟨(some 5), .mv (.t 8), none⟩,
    ⟨(some 9), .extract (.t 5) 0, none⟩,
    ⟨(some 10), .extract (.t 5) 1, none⟩,
    ⟨(some 3), .allocArr [(.int .u32 0), (.int .u32 0), (.int .u32 0), (.int .u32 0), (.int .u32 0), (.int .u32 0), (.int .u32 0), (.int .u32 0)], none⟩,
    ⟨none, .store (.ag 8) (.t 3) (.t 9), none⟩,
    ⟨(some 4), .mv (.t 10), none⟩])
  (.seq (.reg [⟨(some 11), .load (.ag 8) (.t 3), none⟩,
    ⟨(some 12), .mv (.t 4), none⟩,
    ⟨(some 13), .mv (.t 0), none⟩,
    ⟨(some 14), .len (.t 13), none⟩,
    ⟨(some 15), .call 74 [(.t 11), (.t 12), (.t 14)] (some (0, 1)), none⟩,
    ⟨(some 2), .mv (.t 15), none⟩])
  (.ret))),
  [(2, none)]⟩
theorem cf_sum : compFn Tryd.prog { own := [15], comp := [], frz := [], nils := [] } Tryd.f42 = some sf_sum := by kernel_rfl
set_option maxHeartbeats 1600000 in
theorem sum_c (G : Glob) (hF : G.at 0 = some (.ra (firstK.map wD))) (hG : G.at 1 = some (.ra (constK.map wD))) (b : List UInt8) (hb : b.length ≤ 140737488355328) : Den Tryd.prog G 42 [.sl (b.map bD)] (.w (.c (.fr 1 ((sumK b).map bD)))) := by
  refine den_walk Tryd.func42 cf_sum rfl rfl ?_
  have eg := @ev_g G 0 _ hF
  have hl : (foldB firstK b (b.length / 64)).length = 8 := foldB_len firstK_len _ _
  have h8 : firstK.length = 8 := firstK_len
  simp only [sf_sum, putAll, wx, wy, wz, stV, seval, IntWalk.iteOmega, IntWalk.toNatUp, reduceCtorEq, eg, h8]
  refine st_call (blocks_c G hG firstK b firstK_len hb) rfl (.inl rfl) ?_
  simp only [wx, wy, wz, stV, seval, IntWalk.iteOmega, IntWalk.toNatUp, reduceCtorEq, hl]
  refine st_call (fin_c G hG _ (b.drop (64 * (b.length / 64))) b.length hl (by rw [List.length_drop]; omega) hb) ?_ (.inl rfl) ?_
  · simp only [wx, wy, wz, stV, seval, IntWalk.iteOmega, IntWalk.toNatUp, reduceCtorEq]
  simp only [wx, wy, wz, stV, seval, IntWalk.iteOmega, IntWalk.toNatUp, reduceCtorEq]
  exact ret_own (id := 120) (n := (finK (foldB firstK b (b.length / 64)) (b.drop (64 * (b.length / 64))) b.length).length) (s := 1) (by simp only [wx, stV, seval, IntWalk.iteOmega, IntWalk.toNatUp, reduceCtorEq]) (by simp only [wx, stV, seval, IntWalk.iteOmega, IntWalk.toNatUp, reduceCtorEq] <;> rfl) (by rw [List.length_map]; rfl)
def sf_short : SFn := ⟨1, 8,
  .seq (.reg [⟨(some 2), .mv (.k (.c .nil)), none⟩])
  (.seq (.reg [⟨(some 3), .mv (.t 0), none⟩,
    ⟨(some 4), .call 42 [(.t 3)] none, none⟩,
    ⟨(some 5), .slice 1 (.t 4) none (some (.k (.c (.d (.int .i64 16))))) none, none⟩,
    ⟨(some 6), .bldSl false 1 1 (.sl []) [(0, (.t 5))], none⟩,
    ⟨(some 7), .call 43 [(.t 6)] (some (0, 1)), none⟩,
    ⟨(some 2), .mv (.t 7), none⟩])
  (.ret)),
  [(2, none)]⟩
theorem cf_short : compFn Tryd.prog { own := [7], comp := [], frz := [], nils := [] } Tryd.f95 = some sf_short := by kernel_rfl
set_option maxHeartbeats 1600000 in
theorem short_c (G : Glob) (hF : G.at 0 = some (.ra (firstK.map wD))) (hG : G.at 1 = some (.ra (constK.map wD))) (b : List UInt8) (hb : b.length ≤ 140737488355328) : Den Tryd.prog G 95 [.sl (b.map bD)] (.w (.c (.fr 1 ((shortK b).map bD)))) := by
  refine den_walk Tryd.func95 cf_short rfl rfl ?_
  have hl := sumK_len b
  simp only [sf_short, putAll, wx, wy, wz, stV, seval, IntWalk.iteOmega, IntWalk.toNatUp, reduceCtorEq]
  refine st_call (sum_c G hF hG b hb) rfl (.inl rfl) ?_
  simp only [wx, wy, wz, stV, seval, IntWalk.iteOmega, IntWalk.toNatUp, reduceCtorEq, hl]
  have hj := join_c G [shortK b] (by simp) (by simp [shortK_len])
  have hf : [shortK b].flatten = shortK b := by simp
  rw [hf] at hj
  refine st_call hj ?_ (.inl rfl) ?_
  · simp only [wx, wy, wz, stV, seval, IntWalk.iteOmega, IntWalk.toNatUp, reduceCtorEq, shortK]
  simp only [wx, wy, wz, stV, seval, IntWalk.iteOmega, IntWalk.toNatUp, reduceCtorEq]
  exact ret_own (id := 56) (n := (shortK b).length) (s := 1) (by simp only [wx, stV, seval, IntWalk.iteOmega, IntWalk.toNatUp, reduceCtorEq]) (by simp only [wx, stV, seval, IntWalk.iteOmega, IntWalk.toNatUp, reduceCtorEq]) (by rw [List.length_map])
def chSt (b : List UInt8) (M : Int) (i : Nat) : St := ⟨ofL [(0, .w (.c (.d (.sl ((chainK b i).map bD))))), (9, .w (.c (.d (.int .i64 M)))), (10, .w (.c (.d (.int .i64 (i : Int)))))], hL [], uL []⟩
theorem chainK_len (b : List UInt8) (hb : b.length ≤ 140737488355328) : ∀ n, (chainK b n).length ≤ 140737488355328
  | 0 => hb
  | n + 1 => by rw [chainK, shortK_len]; decide
def lp_chain_0 : SCode :=
  .seq (.reg [⟨(some 11), .bin .lss (.t 10) (.t 9), none⟩])
  (.seq (.cond (.t 11) (.skip)
   (.exit 0))
  (.seq (.block 1 (.reg [⟨(some 12), .mv (.t 0), none⟩,
     ⟨(some 13), .call 95 [(.t 12)] none, none⟩,
     ⟨(some 0), .mv (.t 13), none⟩]))
  (.reg [⟨(some 14), .bin .add (.t 10) (.k (.c (.d (.int .i64 1)))), none⟩,
    ⟨(some 10), .mv (.t 14), none⟩])))
def sf_chain : SFn := ⟨2, 16,
  .seq (.reg [⟨(some 4), .mv (.k (.c .nil)), none⟩])
  (.seq (.reg [⟨(some 5), .mv (.t 0), none⟩,
    ⟨(some 6), .bldFz 1 1 (.sl []) [(0, (.t 5))], none⟩,
    ⟨(some 7), .call 43 [(.t 6)] none, none⟩,
    ⟨(some 0), .mv (.t 7), none⟩])
  (.seq (.seq (.reg [⟨(some 8), .mv (.t 1), none⟩,
    ⟨(some 9), .min [(.t 8), (.k (.c (.d (.int .i64 65536))))], none⟩,
    ⟨(some 10), .mv (.k (.c (.d (.int .i64 0)))), none⟩])
  (.block 0 (.loop lp_chain_0)))
  (.seq (.reg [⟨(some 15), .mv (.t 0), none⟩,
    ⟨(some 4), .mv (.t 15), none⟩])
  (.ret)))),
  [(4, none)]⟩
theorem cf_chain : compFn Tryd.prog { own := [], comp := [], frz := [6], nils := [] } Tryd.f94 = some sf_chain := by kernel_rfl
set_option maxHeartbeats 1600000 in
theorem chain_l (G : Glob) (hF : G.at 0 = some (.ra (firstK.map wD))) (hG : G.at 1 = some (.ra (constK.map wD))) (b : List UInt8) (hb : b.length ≤ 140737488355328) (M : Int) (hM : M ≤ 65536) (Q : AX → St → Prop) (σ : St) (he : Ent σ (chSt b M 0)) (hq : ∀ f, f 0 = .w (.c (.d (.sl ((chainK b M.toNat).map bD)))) → Q (.ex 0) ⟨f, hN, uN⟩) : awp Tryd.prog G (.loop lp_chain_0) Q σ := by
  refine loop_st (chSt b M) (fun i => M.toNat - i) (fun i => i ≤ M.toNat) 0 (Nat.zero_le _) he ?_
  intro i hi
  by_cases hlt : (i : Int) < M
  · simp only [lp_chain_0, chSt, wx, wy, wz, stV, seval, IntWalk.iteOmega, IntWalk.toNatUp, reduceCtorEq]
    refine st_call (short_c G hF hG (chainK b i) (chainK_len b hb i)) rfl (.inl rfl) ?_
    simp only [wx, wy, wz, stV, seval, IntWalk.iteOmega, IntWalk.toNatUp, reduceCtorEq]
    refine lop_next (i + 1) (by omega) (by omega) (ent_l id ?_ ?_ rfl rfl) <;> simp only [wx, wex, wez, stV, seval, IntWalk.iteOmega, IntWalk.toNatUp, reduceCtorEq, chainK]
  · obtain rfl : i = M.toNat := by omega
    simp only [lp_chain_0, chSt, wx, wy, wz, stV, seval, IntWalk.iteOmega, IntWalk.toNatUp, reduceCtorEq]
    exact hq _ (by simp only [wx, wy, wz, stV, seval, IntWalk.iteOmega, IntWalk.toNatUp, reduceCtorEq])
set_option maxHeartbeats 1600000 in
theorem chain_c (G : Glob) (hF : G.at 0 = some (.ra (firstK.map wD))) (hG : G.at 1 = some (.ra (constK.map wD))) (b : List UInt8) (hb : b.length ≤ 140737488355328) (n : Int) : Den Tryd.prog G 94 [.sl (b.map bD), .int .i64 n] (.w (.c (.d (.sl ((chainK b (min n 65536).toNat).map bD))))) := by
  refine den_walk Tryd.func94 cf_chain rfl rfl ?_
  have hj := join_c G [b] (by simp) (by simpa using hb)
  have hf : [b].flatten = b := by simp
  rw [hf] at hj
  simp only [sf_chain, putAll, wx, wy, wz, stV, seval, IntWalk.iteOmega, IntWalk.toNatUp, reduceCtorEq]
  refine st_call hj rfl (.inl rfl) ?_
  by_cases hc : (65536 : Int) < n
  · have hm : (min n 65536).toNat = (65536 : Int).toNat := by omega
    rw [hm]
    simp only [wx, wy, wz, stV, seval, IntWalk.iteOmega, IntWalk.toNatUp, reduceCtorEq, List.foldl_cons, List.foldl_nil]
    refine chain_l G hF hG b hb 65536 (by omega) _ _ (ent_l id ?_ ?_ rfl rfl) fun f hf => ?_
    · simp only [wx, wex, wez, stV, seval, IntWalk.iteOmega, IntWalk.toNatUp, reduceCtorEq, chainK]
    · simp only [wx, wex, wez, stV, seval, IntWalk.iteOmega, IntWalk.toNatUp, reduceCtorEq]
    · simp only [wx, wy, wz, stV, seval, IntWalk.iteOmega, IntWalk.toNatUp, reduceCtorEq, hf]
      exact ret_d1 (by simp only [wx, wy, wz, stV, seval, IntWalk.iteOmega, IntWalk.toNatUp, reduceCtorEq])
  · have hm : (min n 65536).toNat = n.toNat := by omega
    rw [hm]
    simp only [wx, wy, wz, stV, seval, IntWalk.iteOmega, IntWalk.toNatUp, reduceCtorEq, List.foldl_cons, List.foldl_nil]
    refine chain_l G hF hG b hb n (by omega) _ _ (ent_l id ?_ ?_ rfl rfl) fun f hf => ?_
    · simp only [wx, wex, wez, stV, seval, IntWalk.iteOmega, IntWalk.toNatUp, reduceCtorEq, chainK]
    · simp only [wx, wex, wez, stV, seval, IntWalk.iteOmega, IntWalk.toNatUp, reduceCtorEq]
    · simp only [wx, wy, wz, stV, seval, IntWalk.iteOmega, IntWalk.toNatUp, reduceCtorEq, hf]
      exact ret_d1 (by simp only [wx, wy, wz, stV, seval, IntWalk.iteOmega, IntWalk.toNatUp, reduceCtorEq])
end Go.Proofs.YtjgkchmdhicmpaaDoor
set_option linter.unusedVariables false
set_option linter.unusedSimpArgs false
namespace Go.Proofs.YtjgkchmdhicmpaaDoor
open Go.RowKit

/-! ### Numbers in lanes of 64 bits -/
def pk (f : Nat → Nat) : Nat → Nat
  | 0 => 0
  | L + 1 => 2 ^ (64 * L) * f L + pk f L
theorem pk_lt {f : Nat → Nat} (hf : ∀ s, f s < 2 ^ 64) : ∀ L, pk f L < 2 ^ (64 * L)
  | 0 => by simp [pk]
  | L + 1 => by
    have ih := pk_lt hf L
    have h := hf L
    have e : 2 ^ (64 * (L + 1)) = 2 ^ (64 * L) * 2 ^ 64 := by rw [← Nat.pow_add]; congr 1
    have : 2 ^ (64 * L) * f L + 2 ^ (64 * L) ≤ 2 ^ (64 * L) * 2 ^ 64 := by
      rw [← Nat.mul_succ]; exact Nat.mul_le_mul_left _ h
    rw [pk, e]; omega
theorem pk_bit {f : Nat → Nat} (hf : ∀ s, f s < 2 ^ 64) : ∀ (L j : Nat), (pk f L).testBit j = (decide (j / 64 < L) && (f (j / 64)).testBit (j % 64))
  | 0, j => by simp [pk]
  | L + 1, j => by
    rw [pk, Nat.testBit_two_pow_mul_add _ (pk_lt hf L)]
    by_cases h : j < 64 * L
    · rw [if_pos h, pk_bit hf L j]
      rw [decide_eq_true (show j / 64 < L by omega), decide_eq_true (show j / 64 < L + 1 by omega)]
    · rw [if_neg h]
      by_cases h2 : j / 64 = L
      · rw [h2, decide_eq_true (Nat.lt_succ_self L), Bool.true_and]
        congr 1; omega
      · rw [decide_eq_false (show ¬ j / 64 < L + 1 by omega), Bool.false_and]
        refine Nat.testBit_lt_two_pow (Nat.lt_of_lt_of_le (hf L) (Nat.pow_le_pow_right (by decide) (by omega)))
theorem pk_congr {f g : Nat → Nat} : ∀ {L : Nat}, (∀ s, s < L → f s = g s) → pk f L = pk g L
  | 0, _ => rfl
  | L + 1, h => by rw [pk, pk, h L (Nat.lt_succ_self L), pk_congr fun s hs => h s (by omega)]
theorem pk_add (f g : Nat → Nat) : ∀ L, Nat.add (pk f L) (pk g L) = pk (fun s => Nat.add (f s) (g s)) L
  | 0 => rfl
  | L + 1 => by
    have ih := pk_add f g L
    show (2 ^ (64 * L) * f L + pk f L) + (2 ^ (64 * L) * g L + pk g L) = 2 ^ (64 * L) * (f L + g L) + pk _ L
    rw [← ih, Nat.mul_add]
    show _ = _ + (pk f L + pk g L)
    omega
theorem pk_mul (f : Nat → Nat) (c : Nat) : ∀ L, Nat.mul (pk f L) c = pk (fun s => Nat.mul (f s) c) L
  | 0 => Nat.zero_mul c
  | L + 1 => by
    have ih := pk_mul f c L
    show (2 ^ (64 * L) * f L + pk f L) * c = 2 ^ (64 * L) * (f L * c) + pk _ L
    rw [← ih, Nat.add_mul, Nat.mul_assoc]; rfl
theorem pk_mul' (f : Nat → Nat) (c L : Nat) : Nat.mul c (pk f L) = pk (fun s => Nat.mul c (f s)) L := by
  show c * pk f L = _
  rw [Nat.mul_comm]
  refine (pk_mul f c L).trans (pk_congr fun s _ => Nat.mul_comm _ _)
theorem xor_lt64 {a b : Nat} (ha : a < 2 ^ 64) (hb : b < 2 ^ 64) : Nat.xor a b < 2 ^ 64 := Nat.xor_lt_two_pow ha hb
theorem and_lt64 {a b : Nat} (ha : a < 2 ^ 64) : Nat.land a b < 2 ^ 64 := Nat.lt_of_le_of_lt Nat.and_le_left ha
theorem pk_xor {f g : Nat → Nat} (hf : ∀ s, f s < 2 ^ 64) (hg : ∀ s, g s < 2 ^ 64) (L : Nat) : Nat.xor (pk f L) (pk g L) = pk (fun s => Nat.xor (f s) (g s)) L := by
  show pk f L ^^^ pk g L = _
  refine Nat.eq_of_testBit_eq fun j => ?_
  rw [Nat.testBit_xor, pk_bit hf, pk_bit hg, pk_bit (fun s => xor_lt64 (hf s) (hg s))]
  show _ = (_ && (f (j / 64) ^^^ g (j / 64)).testBit _)
  rw [Nat.testBit_xor]
  cases decide (j / 64 < L) <;> simp
theorem pk_and {f g : Nat → Nat} (hf : ∀ s, f s < 2 ^ 64) (hg : ∀ s, g s < 2 ^ 64) (L : Nat) : Nat.land (pk f L) (pk g L) = pk (fun s => Nat.land (f s) (g s)) L := by
  show pk f L &&& pk g L = _
  refine Nat.eq_of_testBit_eq fun j => ?_
  rw [Nat.testBit_and, pk_bit hf, pk_bit hg, pk_bit (fun s => and_lt64 (hf s))]
  show _ = (_ && (f (j / 64) &&& g (j / 64)).testBit _)
  rw [Nat.testBit_and]
  cases decide (j / 64 < L) <;> simp
def M32 : Nat := 4294967295
theorem M32_bit (j : Nat) : M32.testBit j = decide (j < 32) := Nat.testBit_two_pow_sub_one 32 j
theorem m64 (s : Nat) : (fun _ : Nat => M32) s < 2 ^ 64 := by show M32 < _; decide
/-- Three moves to the right. -/
def sh3 (m x y : Nat) (a b c : Nat) : Nat := Nat.land (Nat.xor (Nat.xor (Nat.shiftRight x a) (Nat.shiftRight x b)) (Nat.shiftRight y c)) m
theorem sh3_bit (m x y a b c j : Nat) : (sh3 m x y a b c).testBit j = ((((x.testBit (a + j)) ^^ (x.testBit (b + j))) ^^ (y.testBit (c + j))) && m.testBit j) := by
  show (((x >>> a ^^^ x >>> b) ^^^ y >>> c) &&& m).testBit j = _
  simp only [Nat.testBit_and, Nat.testBit_xor, Nat.testBit_shiftRight]
theorem sh3_lt (x y a b c : Nat) : sh3 M32 x y a b c < 2 ^ 32 := Nat.lt_of_le_of_lt Nat.and_le_right (by decide)
theorem sh3_pk {f g : Nat → Nat} (hf : ∀ s, f s < 2 ^ 64) (hg : ∀ s, g s < 2 ^ 64) {a b c : Nat} (ha : a ≤ 32) (hb : b ≤ 32) (hc : c ≤ 32) (L : Nat) : sh3 (pk (fun _ => M32) L) (pk f L) (pk g L) a b c = pk (fun s => sh3 M32 (f s) (g s) a b c) L := by
  refine Nat.eq_of_testBit_eq fun j => ?_
  rw [sh3_bit, pk_bit hf, pk_bit hf, pk_bit hg, pk_bit m64, pk_bit (fun s => Nat.lt_trans (sh3_lt _ _ _ _ _) (by decide)), sh3_bit, M32_bit]
  by_cases h : j % 64 < 32
  · rw [show (a + j) / 64 = j / 64 by omega, show (b + j) / 64 = j / 64 by omega, show (c + j) / 64 = j / 64 by omega, show (a + j) % 64 = a + j % 64 by omega, show (b + j) % 64 = b + j % 64 by omega, show (c + j) % 64 = c + j % 64 by omega]
    cases decide (j / 64 < L) <;> simp
  · rw [decide_eq_false h]; simp
/-! ### The functions of SHA-256 -/
def dupN (x : Nat) : Nat := Nat.mul x 4294967297
def bEN (m x : Nat) : Nat := sh3 m (dupN x) (dupN x) 6 11 25
def bAN (m x : Nat) : Nat := sh3 m (dupN x) (dupN x) 2 13 22
def sAN (m x : Nat) : Nat := sh3 m (dupN x) x 7 18 3
def sBN (m x : Nat) : Nat := sh3 m (dupN x) x 17 19 10
def chN (e f g : Nat) : Nat := Nat.xor g (Nat.land e (Nat.xor f g))
def mjN (a b c : Nat) : Nat := Nat.xor (Nat.land a (Nat.xor b c)) (Nat.land b c)
theorem dup_bit {x : Nat} (hx : x < 2 ^ 32) (j : Nat) : (dupN x).testBit j = if j < 32 then x.testBit j else x.testBit (j - 32) := by
  have e : dupN x = 2 ^ 32 * x + x := by show x * 4294967297 = _; omega
  rw [e, Nat.testBit_two_pow_mul_add _ hx]
theorem hi_bit {x : Nat} (hx : x < 2 ^ 32) {j : Nat} (h : 32 ≤ j) : x.testBit j = false := Nat.testBit_lt_two_pow (Nat.lt_of_lt_of_le hx (Nat.pow_le_pow_right (by decide) h))
theorem rot_bit (x : UInt32) {r : Nat} (h0 : 0 < r) (h : r < 32) {j : Nat} (hj : j < 32) : (rotW x r).toNat.testBit j = (dupN x.toNat).testBit (r + j) := by
  have hx : x.toNat < 2 ^ 32 := x.toNat_lt
  rw [dup_bit hx]
  unfold rotW orW shrW shlW
  rw [UInt32.toNat_or, UInt32.toNat_ofNat', UInt32.toNat_ofNat', Nat.testBit_or, Nat.testBit_mod_two_pow, Nat.testBit_mod_two_pow, decide_eq_true hj, Bool.true_and, Bool.true_and, Nat.testBit_div_two_pow, Nat.mul_comm, Nat.testBit_two_pow_mul]
  by_cases hr : r + j < 32
  · rw [if_pos hr, decide_eq_false (show ¬ j ≥ 32 - r by omega), Nat.add_comm]; simp
  · rw [if_neg hr, decide_eq_true (show j ≥ 32 - r by omega), Bool.true_and, hi_bit hx (by omega), Bool.false_or]
    congr 1; omega
theorem shr_bit (x : UInt32) {r j : Nat} (hj : j < 32) : (shrW x r).toNat.testBit j = x.toNat.testBit (r + j) := by
  unfold shrW
  rw [UInt32.toNat_ofNat', Nat.testBit_mod_two_pow, decide_eq_true hj, Bool.true_and, Nat.testBit_div_two_pow, Nat.add_comm]
theorem bit_eq {x : Nat} {y : UInt32} (h : ∀ j, j < 32 → x.testBit j = y.toNat.testBit j) (hx : x < 2 ^ 32) : x = y.toNat := by
  refine Nat.eq_of_testBit_eq fun j => ?_
  by_cases hj : j < 32
  · exact h j hj
  · rw [hi_bit hx (by omega), hi_bit y.toNat_lt (by omega)]
theorem bEN_w (x : UInt32) : bEN M32 x.toNat = (bigE x).toNat := by
  refine bit_eq (fun j hj => ?_) (sh3_lt _ _ _ _ _)
  unfold bEN bigE xorW
  rw [sh3_bit, UInt32.toNat_xor, UInt32.toNat_xor, Nat.testBit_xor, Nat.testBit_xor, rot_bit x (by decide) (by decide) hj, rot_bit x (by decide) (by decide) hj, rot_bit x (by decide) (by decide) hj, M32_bit, decide_eq_true hj, Bool.and_true]
theorem bAN_w (x : UInt32) : bAN M32 x.toNat = (bigA x).toNat := by
  refine bit_eq (fun j hj => ?_) (sh3_lt _ _ _ _ _)
  unfold bAN bigA xorW
  rw [sh3_bit, UInt32.toNat_xor, UInt32.toNat_xor, Nat.testBit_xor, Nat.testBit_xor, rot_bit x (by decide) (by decide) hj, rot_bit x (by decide) (by decide) hj, rot_bit x (by decide) (by decide) hj, M32_bit, decide_eq_true hj, Bool.and_true]
theorem sAN_w (x : UInt32) : sAN M32 x.toNat = (smallA x).toNat := by
  refine bit_eq (fun j hj => ?_) (sh3_lt _ _ _ _ _)
  unfold sAN smallA xorW
  rw [sh3_bit, UInt32.toNat_xor, UInt32.toNat_xor, Nat.testBit_xor, Nat.testBit_xor, rot_bit x (by decide) (by decide) hj, rot_bit x (by decide) (by decide) hj, shr_bit x hj, M32_bit, decide_eq_true hj, Bool.and_true]
theorem sBN_w (x : UInt32) : sBN M32 x.toNat = (smallB x).toNat := by
  refine bit_eq (fun j hj => ?_) (sh3_lt _ _ _ _ _)
  unfold sBN smallB xorW
  rw [sh3_bit, UInt32.toNat_xor, UInt32.toNat_xor, Nat.testBit_xor, Nat.testBit_xor, rot_bit x (by decide) (by decide) hj, rot_bit x (by decide) (by decide) hj, shr_bit x hj, M32_bit, decide_eq_true hj, Bool.and_true]
theorem not_bit (x : UInt32) {j : Nat} (hj : j < 32) : (notW x).toNat.testBit j = !x.toNat.testBit j := by
  have h := x.toNat_lt
  unfold notW
  rw [UInt32.toNat_ofNat_of_lt' (by simp [UInt32.size]; omega), show 4294967295 - x.toNat = 2 ^ 32 - (x.toNat + 1) by omega, Nat.testBit_two_pow_sub_succ h, decide_eq_true hj, Bool.true_and]
theorem chN_w (e f g : UInt32) : chN e.toNat f.toNat g.toNat = (chW e f g).toNat := by
  have he : e.toNat < 2 ^ 32 := e.toNat_lt
  have hf : f.toNat < 2 ^ 32 := f.toNat_lt
  have hg : g.toNat < 2 ^ 32 := g.toNat_lt
  refine bit_eq (fun j hj => ?_) (Nat.xor_lt_two_pow hg (Nat.lt_of_le_of_lt Nat.and_le_left he))
  show (g.toNat ^^^ (e.toNat &&& (f.toNat ^^^ g.toNat))).testBit j = _
  unfold chW xorW andW
  rw [UInt32.toNat_xor, UInt32.toNat_and, UInt32.toNat_and]
  simp only [Nat.testBit_xor, Nat.testBit_and, not_bit e hj]
  cases e.toNat.testBit j <;> cases f.toNat.testBit j <;> cases g.toNat.testBit j <;> rfl
theorem mjN_w (a b c : UInt32) : mjN a.toNat b.toNat c.toNat = (majW a b c).toNat := by
  have ha : a.toNat < 2 ^ 32 := a.toNat_lt
  have hb : b.toNat < 2 ^ 32 := b.toNat_lt
  refine bit_eq (fun j hj => ?_) (Nat.xor_lt_two_pow (Nat.lt_of_le_of_lt Nat.and_le_left ha) (Nat.lt_of_le_of_lt Nat.and_le_left hb))
  show ((a.toNat &&& (b.toNat ^^^ c.toNat)) ^^^ (b.toNat &&& c.toNat)).testBit j = _
  unfold majW xorW andW
  simp only [UInt32.toNat_xor, UInt32.toNat_and, Nat.testBit_xor, Nat.testBit_and]
  cases a.toNat.testBit j <;> cases b.toNat.testBit j <;> cases c.toNat.testBit j <;> rfl

/-! ### Rounds in lanes -/
structure E8 where
  (a b c d e f g h : Nat)
def kN : List Nat := [0x428a2f98,0x71374491,0xb5c0fbcf,0xe9b5dba5,0x3956c25b,0x59f111f1,0x923f82a4,0xab1c5ed5,0xd807aa98,0x12835b01,0x243185be,0x550c7dc3,0x72be5d74,0x80deb1fe,0x9bdc06a7,0xc19bf174,0xe49b69c1,0xefbe4786,0x0fc19dc6,0x240ca1cc,0x2de92c6f,0x4a7484aa,0x5cb0a9dc,0x76f988da,0x983e5152,0xa831c66d,0xb00327c8,0xbf597fc7,0xc6e00bf3,0xd5a79147,0x06ca6351,0x14292967,0x27b70a85,0x2e1b2138,0x4d2c6dfc,0x53380d13,0x650a7354,0x766a0abb,0x81c2c92e,0x92722c85,0xa2bfe8a1,0xa81a664b,0xc24b8b70,0xc76c51a3,0xd192e819,0xd6990624,0xf40e3585,0x106aa070,0x19a4c116,0x1e376c08,0x2748774c,0x34b0bcb5,0x391c0cb3,0x4ed8aa4a,0x5b9cca4f,0x682e6ff3,0x748f82ee,0x78a5636f,0x84c87814,0x8cc70208,0x90befffa,0xa4506ceb,0xbef9a3f7,0xc67178f2]
theorem kN_eq : kN = constK.map UInt32.toNat := by decide
noncomputable def rndG (T : Nat → Nat → Nat → Nat → Nat → Nat → Nat) (A : Nat → Nat → Nat → Nat → Nat) (E : Nat → Nat → Nat) (N : Nat → Nat → Nat → Nat → Nat) (ks : List Nat) : Nat → Nat → Nat → Nat → Nat → Nat → Nat → Nat → Nat → Nat → Nat → Nat → Nat → Nat → Nat → Nat → Nat → Nat → Nat → Nat → Nat → Nat → Nat → Nat → E8 :=
  @List.rec Nat (fun _ => Nat → Nat → Nat → Nat → Nat → Nat → Nat → Nat → Nat → Nat → Nat → Nat → Nat → Nat → Nat → Nat → Nat → Nat → Nat → Nat → Nat → Nat → Nat → Nat → E8)
    (fun a b c d e f g h _ _ _ _ _ _ _ _ _ _ _ _ _ _ _ _ => E8.mk a b c d e f g h)
    (fun k _ ih a b c d e f g h w0 w1 w2 w3 w4 w5 w6 w7 w8 w9 w10 w11 w12 w13 w14 w15 => (fun t1 => ih (A t1 a b c) a b c (E d t1) e f g w1 w2 w3 w4 w5 w6 w7 w8 w9 w10 w11 w12 w13 w14 w15 (N w0 w1 w9 w14)) (T k h w0 e f g)) ks
section
variable (T : Nat → Nat → Nat → Nat → Nat → Nat → Nat) (A : Nat → Nat → Nat → Nat → Nat) (E : Nat → Nat → Nat) (N : Nat → Nat → Nat → Nat → Nat) (a b c d e f g h w0 w1 w2 w3 w4 w5 w6 w7 w8 w9 w10 w11 w12 w13 w14 w15 : Nat)
theorem rndG_nil : rndG T A E N [] a b c d e f g h w0 w1 w2 w3 w4 w5 w6 w7 w8 w9 w10 w11 w12 w13 w14 w15 = E8.mk a b c d e f g h := rfl
theorem rndG_cons (k : Nat) (ks : List Nat) : rndG T A E N (k :: ks) a b c d e f g h w0 w1 w2 w3 w4 w5 w6 w7 w8 w9 w10 w11 w12 w13 w14 w15 = rndG T A E N ks (A (T k h w0 e f g) a b c) a b c (E d (T k h w0 e f g)) e f g w1 w2 w3 w4 w5 w6 w7 w8 w9 w10 w11 w12 w13 w14 w15 (N w0 w1 w9 w14) := rfl
end
def TN (one m k h w e f g : Nat) : Nat := Nat.add (Nat.add h (Nat.add w (Nat.mul k one))) (Nat.add (bEN m e) (chN e f g))
def AN (m t a b c : Nat) : Nat := Nat.land (Nat.add t (Nat.add (bAN m a) (mjN a b c))) m
def EN (m d t : Nat) : Nat := Nat.land (Nat.add d t) m
def NN (m w0 w1 w9 w14 : Nat) : Nat := Nat.land (Nat.add (Nat.add w0 (sAN m w1)) (Nat.add w9 (sBN m w14))) m
noncomputable def addG (P : Nat → Nat → Nat) (s t : E8) : E8 :=
  E8.rec (fun a b c d e f g h => E8.rec (fun a' b' c' d' e' f' g' h' => E8.mk (P a a') (P b b') (P c c') (P d d') (P e e') (P f f') (P g g') (P h h')) t) s
theorem addG_mk (P : Nat → Nat → Nat) (a b c d e f g h a' b' c' d' e' f' g' h' : Nat) : addG P (E8.mk a b c d e f g h) (E8.mk a' b' c' d' e' f' g' h') = E8.mk (P a a') (P b b') (P c c') (P d d') (P e e') (P f f') (P g g') (P h h') := rfl
noncomputable def rndS (T : Nat → Nat → Nat → Nat → Nat → Nat → Nat) (A : Nat → Nat → Nat → Nat → Nat) (E : Nat → Nat → Nat) (N : Nat → Nat → Nat → Nat → Nat) (ks : List Nat) (s : E8) (w0 w1 w2 w3 w4 w5 w6 w7 w8 w9 w10 w11 w12 w13 w14 w15 : Nat) : E8 :=
  E8.rec (fun a b c d e f g h => rndG T A E N ks a b c d e f g h w0 w1 w2 w3 w4 w5 w6 w7 w8 w9 w10 w11 w12 w13 w14 w15) s
theorem rndS_mk (T : Nat → Nat → Nat → Nat → Nat → Nat → Nat) (A : Nat → Nat → Nat → Nat → Nat) (E : Nat → Nat → Nat) (N : Nat → Nat → Nat → Nat → Nat) (ks : List Nat) (a b c d e f g h w0 w1 w2 w3 w4 w5 w6 w7 w8 w9 w10 w11 w12 w13 w14 w15 : Nat) : rndS T A E N ks (E8.mk a b c d e f g h) w0 w1 w2 w3 w4 w5 w6 w7 w8 w9 w10 w11 w12 w13 w14 w15 = rndG T A E N ks a b c d e f g h w0 w1 w2 w3 w4 w5 w6 w7 w8 w9 w10 w11 w12 w13 w14 w15 := rfl
/-- A block. -/
noncomputable def blkN (one m : Nat) (s : E8) (w0 w1 w2 w3 w4 w5 w6 w7 w8 w9 w10 w11 w12 w13 w14 w15 : Nat) : E8 := addG (EN m) s (rndS (TN one m) (AN m) (EN m) (NN m) kN s w0 w1 w2 w3 w4 w5 w6 w7 w8 w9 w10 w11 w12 w13 w14 w15)


def pw (x : Nat → UInt32) (L : Nat) : Nat := pk (fun s => (x s).toNat) L
abbrev oneL (L : Nat) : Nat := pk (fun _ => 1) L
abbrev mskL (L : Nat) : Nat := pk (fun _ => M32) L
theorem w64 (x : UInt32) : x.toNat < 2 ^ 64 := Nat.lt_trans x.toNat_lt (by decide)
theorem dup64 (x : UInt32) : dupN x.toNat < 2 ^ 64 := by
  have := x.toNat_lt
  show x.toNat * 4294967297 < _
  omega
theorem dup_pw (x : Nat → UInt32) (L : Nat) : dupN (pw x L) = pk (fun s => dupN (x s).toNat) L := pk_mul _ _ _
theorem bEN_pw (x : Nat → UInt32) (L : Nat) : bEN (mskL L) (pw x L) = pw (fun s => bigE (x s)) L := by
  unfold bEN
  rw [dup_pw, sh3_pk (fun s => dup64 _) (fun s => dup64 _) (by decide) (by decide) (by decide)]
  exact pk_congr fun s _ => bEN_w (x s)
theorem bAN_pw (x : Nat → UInt32) (L : Nat) : bAN (mskL L) (pw x L) = pw (fun s => bigA (x s)) L := by
  unfold bAN
  rw [dup_pw, sh3_pk (fun s => dup64 _) (fun s => dup64 _) (by decide) (by decide) (by decide)]
  exact pk_congr fun s _ => bAN_w (x s)
theorem sAN_pw (x : Nat → UInt32) (L : Nat) : sAN (mskL L) (pw x L) = pw (fun s => smallA (x s)) L := by
  unfold sAN
  rw [dup_pw]
  unfold pw
  rw [sh3_pk (fun s => dup64 _) (fun s => w64 _) (by decide) (by decide) (by decide)]
  exact pk_congr fun s _ => sAN_w (x s)
theorem sBN_pw (x : Nat → UInt32) (L : Nat) : sBN (mskL L) (pw x L) = pw (fun s => smallB (x s)) L := by
  unfold sBN
  rw [dup_pw]
  unfold pw
  rw [sh3_pk (fun s => dup64 _) (fun s => w64 _) (by decide) (by decide) (by decide)]
  exact pk_congr fun s _ => sBN_w (x s)
theorem chN_pw (e f g : Nat → UInt32) (L : Nat) : chN (pw e L) (pw f L) (pw g L) = pw (fun s => chW (e s) (f s) (g s)) L := by
  unfold chN pw
  rw [pk_xor (fun s => w64 _) (fun s => w64 _), pk_and (fun s => w64 _) (fun s => xor_lt64 (w64 _) (w64 _)), pk_xor (fun s => w64 _) (fun s => and_lt64 (w64 _))]
  exact pk_congr fun s _ => chN_w (e s) (f s) (g s)
theorem mjN_pw (a b c : Nat → UInt32) (L : Nat) : mjN (pw a L) (pw b L) (pw c L) = pw (fun s => majW (a s) (b s) (c s)) L := by
  unfold mjN pw
  rw [pk_xor (fun s => w64 _) (fun s => w64 _), pk_and (fun s => w64 _) (fun s => xor_lt64 (w64 _) (w64 _)), pk_and (fun s => w64 _) (fun s => w64 _), pk_xor (fun s => and_lt64 (w64 _)) (fun s => and_lt64 (w64 _))]
  exact pk_congr fun s _ => mjN_w (a s) (b s) (c s)
theorem land_mod (x : Nat) : Nat.land x M32 = x % 4294967296 := Nat.and_two_pow_sub_one_eq_mod x 32
theorem msk_pk {f : Nat → Nat} (hf : ∀ s, f s < 2 ^ 64) (L : Nat) : Nat.land (pk f L) (mskL L) = pk (fun s => f s % 4294967296) L := by
  rw [pk_and hf m64]
  exact pk_congr fun s _ => land_mod (f s)
def t1W (S : Eight) (k w : UInt32) : Nat := (S.h.toNat + (w.toNat + k.toNat)) + ((bigE S.e).toNat + (chW S.e S.f S.g).toNat)
theorem t1_pw (S : Nat → Eight) (k : UInt32) (w : Nat → UInt32) (L : Nat) : TN (oneL L) (mskL L) k.toNat (pw (fun s => (S s).h) L) (pw w L) (pw (fun s => (S s).e) L) (pw (fun s => (S s).f) L) (pw (fun s => (S s).g) L) = pk (fun s => t1W (S s) k (w s)) L := by
  unfold TN
  rw [bEN_pw, chN_pw, pk_mul']
  unfold pw
  rw [pk_add, pk_add, pk_add, pk_add]
  refine pk_congr fun s _ => ?_
  show ((S s).h.toNat + ((w s).toNat + k.toNat * 1)) + _ = _
  rw [Nat.mul_one]; rfl
theorem t1_lt (S : Eight) (k w : UInt32) : t1W S k w < 21474836480 := by
  have h1 := S.h.toNat_lt
  have h2 := w.toNat_lt
  have h3 := k.toNat_lt
  have h4 := (bigE S.e).toNat_lt
  have h5 := (chW S.e S.f S.g).toNat_lt
  unfold t1W
  omega
theorem stp_a (S : Eight) (k w : UInt32) : (t1W S k w + ((bigA S.a).toNat + (majW S.a S.b S.c).toNat)) % 4294967296 = (S.step k w).a.toNat := by
  show _ = (addW (addW (addW (addW (addW S.h (bigE S.e)) (chW S.e S.f S.g)) k) w) (addW (bigA S.a) (majW S.a S.b S.c))).toNat
  unfold t1W addW
  simp only [UInt32.toNat_add]
  omega
theorem stp_e (S : Eight) (k w : UInt32) : (S.d.toNat + t1W S k w) % 4294967296 = (S.step k w).e.toNat := by
  show _ = (addW S.d (addW (addW (addW (addW S.h (bigE S.e)) (chW S.e S.f S.g)) k) w)).toNat
  unfold t1W addW
  simp only [UInt32.toNat_add]
  omega
theorem newA_pw (S : Nat → Eight) (k : UInt32) (w : Nat → UInt32) (L : Nat) : AN (mskL L) (pk (fun s => t1W (S s) k (w s)) L) (pw (fun s => (S s).a) L) (pw (fun s => (S s).b) L) (pw (fun s => (S s).c) L) = pw (fun s => ((S s).step k (w s)).a) L := by
  unfold AN
  rw [bAN_pw, mjN_pw]
  unfold pw
  rw [pk_add, pk_add, msk_pk]
  · exact pk_congr fun s _ => stp_a (S s) k (w s)
  · intro s
    have h1 := t1_lt (S s) k (w s)
    have h2 := (bigA (S s).a).toNat_lt
    have h3 := (majW (S s).a (S s).b (S s).c).toNat_lt
    show t1W (S s) k (w s) + ((bigA (S s).a).toNat + (majW (S s).a (S s).b (S s).c).toNat) < _
    omega
theorem newE_pw (S : Nat → Eight) (k : UInt32) (w : Nat → UInt32) (L : Nat) : EN (mskL L) (pw (fun s => (S s).d) L) (pk (fun s => t1W (S s) k (w s)) L) = pw (fun s => ((S s).step k (w s)).e) L := by
  unfold EN pw
  rw [pk_add, msk_pk]
  · exact pk_congr fun s _ => stp_e (S s) k (w s)
  · intro s
    have h1 := t1_lt (S s) k (w s)
    have h2 := (S s).d.toNat_lt
    show (S s).d.toNat + t1W (S s) k (w s) < _
    omega
def recW (w0 w1 w9 w14 : UInt32) : UInt32 := addW (addW (addW (smallB w14) w9) (smallA w1)) w0
theorem rec_w (w0 w1 w9 w14 : UInt32) : ((w0.toNat + (smallA w1).toNat) + (w9.toNat + (smallB w14).toNat)) % 4294967296 = (recW w0 w1 w9 w14).toNat := by
  unfold recW addW
  simp only [UInt32.toNat_add]
  omega
theorem newW_pw (w0 w1 w9 w14 : Nat → UInt32) (L : Nat) : NN (mskL L) (pw w0 L) (pw w1 L) (pw w9 L) (pw w14 L) = pw (fun s => recW (w0 s) (w1 s) (w9 s) (w14 s)) L := by
  unfold NN
  rw [sAN_pw, sBN_pw]
  unfold pw
  rw [pk_add, pk_add, pk_add, msk_pk]
  · exact pk_congr fun s _ => rec_w _ _ _ _
  · intro s
    have h1 := (w0 s).toNat_lt
    have h2 := (smallA (w1 s)).toNat_lt
    have h3 := (w9 s).toNat_lt
    have h4 := (smallB (w14 s)).toNat_lt
    show ((w0 s).toNat + (smallA (w1 s)).toNat) + ((w9 s).toNat + (smallB (w14 s)).toNat) < _
    omega
def stepsW : Eight → List UInt32 → (Nat → UInt32) → Eight
  | S, [], _ => S
  | S, k :: ks, w => stepsW (S.step k (w 0)) ks (fun t => w (t + 1))
theorem rnd_pw (L : Nat) : ∀ (ks : List UInt32) (S : Nat → Eight) (W : Nat → Nat → UInt32), (∀ t s, W (t + 16) s = recW (W t s) (W (t + 1) s) (W (t + 9) s) (W (t + 14) s)) →
    rndG (TN (oneL L) (mskL L)) (AN (mskL L)) (EN (mskL L)) (NN (mskL L)) (ks.map UInt32.toNat) (pw (fun s => (S s).a) L) (pw (fun s => (S s).b) L) (pw (fun s => (S s).c) L) (pw (fun s => (S s).d) L) (pw (fun s => (S s).e) L) (pw (fun s => (S s).f) L) (pw (fun s => (S s).g) L) (pw (fun s => (S s).h) L) (pw (W 0) L) (pw (W 1) L) (pw (W 2) L) (pw (W 3) L) (pw (W 4) L) (pw (W 5) L) (pw (W 6) L) (pw (W 7) L) (pw (W 8) L) (pw (W 9) L) (pw (W 10) L) (pw (W 11) L) (pw (W 12) L) (pw (W 13) L) (pw (W 14) L) (pw (W 15) L) = E8.mk (pw (fun s => (stepsW (S s) ks (fun t => W t s)).a) L) (pw (fun s => (stepsW (S s) ks (fun t => W t s)).b) L) (pw (fun s => (stepsW (S s) ks (fun t => W t s)).c) L) (pw (fun s => (stepsW (S s) ks (fun t => W t s)).d) L) (pw (fun s => (stepsW (S s) ks (fun t => W t s)).e) L) (pw (fun s => (stepsW (S s) ks (fun t => W t s)).f) L) (pw (fun s => (stepsW (S s) ks (fun t => W t s)).g) L) (pw (fun s => (stepsW (S s) ks (fun t => W t s)).h) L)
  | [], _, _, _ => rfl
  | k :: ks, S, W, hW => by
    have e0 := t1_pw S k (W 0) L
    have e1 := newA_pw S k (W 0) L
    have e2 := newE_pw S k (W 0) L
    have e3 := newW_pw (W 0) (W 1) (W 9) (W 14) L
    have e4 : (fun s => recW (W 0 s) (W 1 s) (W 9 s) (W 14 s)) = W 16 := funext fun s => (hW 0 s).symm
    rw [e4] at e3
    have ih := rnd_pw L ks (fun s => (S s).step k (W 0 s)) (fun t => W (t + 1)) (fun t s => hW (t + 1) s)
    rw [List.map_cons, rndG_cons, e0, e1, e2, e3]
    exact ih


/-! ### A block in lanes is a block -/
theorem stepsW_snoc (k : UInt32) : ∀ (ks : List UInt32) (S : Eight) (w : Nat → UInt32), stepsW S (ks ++ [k]) w = (stepsW S ks w).step k (w ks.length)
  | [], _, _ => rfl
  | _ :: ks, S, w => stepsW_snoc k ks (S.step _ (w 0)) (fun t => w (t + 1))
theorem stepsW_congr : ∀ (ks : List UInt32) (S : Eight) (w v : Nat → UInt32), (∀ t, t < ks.length → w t = v t) → stepsW S ks w = stepsW S ks v
  | [], _, _, _, _ => rfl
  | k :: ks, S, w, v, h => by
    rw [stepsW, stepsW, h 0 (by simp)]
    exact stepsW_congr ks _ _ _ fun t ht => h (t + 1) (by simpa using ht)
theorem rounds_steps (S : Eight) (ks w : List UInt32) : ∀ n, n ≤ ks.length → S.rounds ks w n = stepsW S (ks.take n) (fun t => w.getD t 0)
  | 0, _ => rfl
  | n + 1, h => by
    rw [Eight.rounds, rounds_steps S ks w n (by omega), List.take_succ_eq_append_getElem (by omega), stepsW_snoc, List.length_take, Nat.min_eq_left (by omega), List.getD_eq_getElem?_getD, List.getElem?_eq_getElem (by omega)]
    rfl
theorem schd_len (b : List UInt8) : ∀ n, (schedN b n).length = 16 + n
  | 0 => by unfold schedN sched16; simp
  | n + 1 => by rw [schedN, List.length_append, schd_len b n]; rfl
theorem sched_pre (b : List UInt8) {j : Nat} : ∀ (n d : Nat), j < 16 + n → (schedN b (n + d)).getD j 0 = (schedN b n).getD j 0
  | _, 0, _ => rfl
  | n, d + 1, h => by
    rw [← Nat.add_assoc, schedN, List.getD_eq_getElem?_getD, List.getElem?_append_left (by rw [schd_len]; omega), ← List.getD_eq_getElem?_getD, sched_pre b n d h]
theorem sched_any (b : List UInt8) {j m n : Nat} (h1 : j < 16 + m) (h2 : j < 16 + n) : (schedN b m).getD j 0 = (schedN b n).getD j 0 := by
  rcases Nat.le_total m n with h | h
  · obtain ⟨d, rfl⟩ := Nat.exists_eq_add_of_le h
    exact (sched_pre b m d h1).symm
  · obtain ⟨d, rfl⟩ := Nat.exists_eq_add_of_le h
    exact sched_pre b n d h2
def wS (b : List UInt8) (t : Nat) : UInt32 := (schedN b t).getD t 0
theorem wS_rec (b : List UInt8) (t : Nat) : wS b (t + 16) = recW (wS b t) (wS b (t + 1)) (wS b (t + 9)) (wS b (t + 14)) := by
  have e : schedN b (t + 1) = schedN b t ++ [nextW (schedN b t) (16 + t)] := rfl
  have key : (schedN b (t + 1)).getD (t + 16) 0 = nextW (schedN b t) (16 + t) := by
    rw [e, List.getD_eq_getElem?_getD, List.getElem?_append_right (by rw [schd_len]; omega), schd_len, show t + 16 - (16 + t) = 0 by omega]; rfl
  unfold wS
  rw [sched_any b (show t + 16 < 16 + (t + 16) by omega) (show t + 16 < 16 + (t + 1) by omega), key]
  unfold nextW recW
  rw [show 16 + t - 2 = t + 14 by omega, show 16 + t - 7 = t + 9 by omega, show 16 + t - 15 = t + 1 by omega, show 16 + t - 16 = t by omega]
  rw [sched_any b (show t + 14 < 16 + t by omega) (show t + 14 < 16 + (t + 14) by omega), sched_any b (show t + 9 < 16 + t by omega) (show t + 9 < 16 + (t + 9) by omega), sched_any b (show t + 1 < 16 + t by omega) (show t + 1 < 16 + (t + 1) by omega)]
theorem wS_lo (b : List UInt8) {t : Nat} (h : t < 16) : wS b t = wordAt b t := by
  unfold wS
  rw [sched_any b (show t < 16 + t by omega) (show t < 16 + 0 by omega)]
  unfold schedN sched16
  rw [List.getD_eq_getElem?_getD, List.getElem?_map, List.getElem?_range h]; rfl
theorem block_steps (h : List UInt32) (b : List UInt8) : (Eight.of h).rounds constK (sched b) 64 = stepsW (Eight.of h) constK (wS b) := by
  rw [rounds_steps _ _ _ 64 (by rw [constK_len]; omega)]
  have e : constK.take 64 = constK := List.take_of_length_le (by rw [constK_len]; omega)
  rw [e]
  refine stepsW_congr _ _ _ _ fun t ht => ?_
  rw [constK_len] at ht
  show (schedN b 48).getD t 0 = (schedN b t).getD t 0
  exact sched_any b (by omega) (by omega)
/-- Eight words in lanes. -/
def e8H (H : Nat → List UInt32) (L : Nat) : E8 := E8.mk (pw (fun s => (H s).getD 0 0) L) (pw (fun s => (H s).getD 1 0) L) (pw (fun s => (H s).getD 2 0) L) (pw (fun s => (H s).getD 3 0) L) (pw (fun s => (H s).getD 4 0) L) (pw (fun s => (H s).getD 5 0) L) (pw (fun s => (H s).getD 6 0) L) (pw (fun s => (H s).getD 7 0) L)
theorem sum_pw (x y : Nat → UInt32) (L : Nat) : EN (mskL L) (pw x L) (pw y L) = pw (fun s => addW (x s) (y s)) L := by
  unfold EN pw
  rw [pk_add, msk_pk]
  · refine pk_congr fun s _ => ?_
    unfold addW
    rw [UInt32.toNat_add]; rfl
  · intro s
    have h1 := (x s).toNat_lt
    have h2 := (y s).toNat_lt
    show (x s).toNat + (y s).toNat < _
    omega
theorem blk_pw (H : Nat → List UInt32) (b : Nat → List UInt8) (L : Nat) : blkN (oneL L) (mskL L) (e8H H L) (pw (fun s => wordAt (b s) 0) L) (pw (fun s => wordAt (b s) 1) L) (pw (fun s => wordAt (b s) 2) L) (pw (fun s => wordAt (b s) 3) L) (pw (fun s => wordAt (b s) 4) L) (pw (fun s => wordAt (b s) 5) L) (pw (fun s => wordAt (b s) 6) L) (pw (fun s => wordAt (b s) 7) L) (pw (fun s => wordAt (b s) 8) L) (pw (fun s => wordAt (b s) 9) L) (pw (fun s => wordAt (b s) 10) L) (pw (fun s => wordAt (b s) 11) L) (pw (fun s => wordAt (b s) 12) L) (pw (fun s => wordAt (b s) 13) L) (pw (fun s => wordAt (b s) 14) L) (pw (fun s => wordAt (b s) 15) L) = e8H (fun s => blockK (H s) (b s)) L := by
  have hw : ∀ t, t < 16 → (fun s => wordAt (b s) t) = (fun s => wS (b s) t) := fun t ht => funext fun s => (wS_lo (b s) ht).symm
  rw [hw 0 (by decide), hw 1 (by decide), hw 2 (by decide), hw 3 (by decide), hw 4 (by decide), hw 5 (by decide), hw 6 (by decide), hw 7 (by decide), hw 8 (by decide), hw 9 (by decide), hw 10 (by decide), hw 11 (by decide), hw 12 (by decide), hw 13 (by decide), hw 14 (by decide), hw 15 (by decide)]
  have hr := rnd_pw L constK (fun s => Eight.of (H s)) (fun t s => wS (b s) t) (fun t s => wS_rec (b s) t)
  unfold blkN e8H
  rw [rndS_mk, kN_eq]
  refine (congrArg (addG (EN (mskL L)) _) hr).trans ?_
  rw [addG_mk]
  simp only [sum_pw]
  have hb : ∀ s, blockK (H s) (b s) = (stepsW (Eight.of (H s)) constK (fun t => wS (b s) t)).sum (H s) := fun s => by
    unfold blockK; rw [block_steps]
  simp only [hb]
  rfl
end Go.Proofs.YtjgkchmdhicmpaaDoor
set_option linter.unusedVariables false
set_option linter.unusedSimpArgs false
namespace Go.Proofs.YtjgkchmdhicmpaaDoor
open Go.RowKit


/-! ### Bytes as one number -/
def numB (b : List UInt8) : Nat := b.foldl (fun a x => a * 256 + x.toNat) 0
theorem numB_snoc (b : List UInt8) (x : UInt8) : numB (b ++ [x]) = numB b * 256 + x.toNat := by unfold numB; rw [List.foldl_append]; rfl
theorem numB_go (c : List UInt8) : ∀ a, c.foldl (fun a x => a * 256 + x.toNat) a = a * 256 ^ c.length + numB c := by
  induction c with
  | nil => intro a; simp [numB]
  | cons x c ih =>
    intro a
    have h1 := ih (a * 256 + x.toNat)
    have h2 := ih (0 * 256 + x.toNat)
    show c.foldl _ (a * 256 + x.toNat) = _
    have h3 : numB (x :: c) = c.foldl (fun a x => a * 256 + x.toNat) (0 * 256 + x.toNat) := rfl
    rw [h1, h3, h2, List.length_cons, Nat.pow_succ, Nat.add_mul, Nat.mul_assoc, Nat.mul_comm 256, Nat.zero_mul, Nat.zero_add]
    omega
theorem numB_app (a b : List UInt8) : numB (a ++ b) = numB a * 256 ^ b.length + numB b := by
  show (a ++ b).foldl _ 0 = _
  rw [List.foldl_append]
  exact numB_go b _
theorem numB_lt : ∀ b : List UInt8, numB b < 256 ^ b.length := by
  intro b
  induction b with
  | nil => simp [numB]
  | cons x b ih =>
    have h : numB ([x] ++ b) = numB [x] * 256 ^ b.length + numB b := numB_app [x] b
    have h1 : numB [x] = x.toNat := by simp [numB]
    have hx := x.toNat_lt
    have h2 : x.toNat * 256 ^ b.length + 256 ^ b.length ≤ 256 * 256 ^ b.length := by
      rw [← Nat.succ_mul]; exact Nat.mul_le_mul_right _ hx
    show numB ([x] ++ b) < _
    rw [h, h1, List.length_cons, Nat.pow_succ, Nat.mul_comm _ 256]
    omega
theorem numB_cons0 (b : List UInt8) : numB (0 :: b) = numB b := by
  have h := numB_app [0] b
  have h1 : numB [(0 : UInt8)] = 0 := rfl
  rw [h1, Nat.zero_mul, Nat.zero_add] at h
  exact h
theorem numB_put (v : Nat) : ∀ n, numB (putL v n) = v % 256 ^ n
  | 0 => by simp [putL, numB, Nat.mod_one]
  | n + 1 => by
    have e : putL v (n + 1) = putL (v / 256) n ++ [UInt8.ofNat v] := by
      unfold putL
      rw [List.range_succ, List.map_append]
      congr 1
      · apply List.map_congr_left
        intro i hi
        have hi := List.mem_range.1 hi
        rw [show n + 1 - 1 - i = (n - 1 - i) + 1 by omega, Nat.pow_succ, Nat.mul_comm, Nat.div_div_eq_div_mul]
      · simp
    rw [e, numB_snoc, numB_put (v / 256) n, UInt8.toNat_ofNat', show 256 ^ (n + 1) = 256 * 256 ^ n from Nat.pow_succ', Nat.mod_mul]
    omega
theorem numB_rep : ∀ n, numB (List.replicate n 0) = 0
  | 0 => rfl
  | n + 1 => by rw [List.replicate_succ, numB_cons0, numB_rep n]
theorem numB_take (b : List UInt8) (n : Nat) : numB (b.take n) = numB b / 256 ^ (b.length - n) := by
  have h1 := numB_app (b.take n) (b.drop n)
  have h2 := numB_lt (b.drop n)
  rw [List.take_append_drop] at h1
  rw [List.length_drop] at h1 h2
  rw [h1, Nat.mul_comm, Nat.mul_add_div (Nat.pow_pos (by decide)), Nat.div_eq_of_lt h2, Nat.add_zero]
theorem numB_drop (b : List UInt8) (n : Nat) : numB (b.drop n) = numB b % 256 ^ (b.length - n) := by
  have h1 := numB_app (b.take n) (b.drop n)
  have h2 := numB_lt (b.drop n)
  rw [List.take_append_drop] at h1
  rw [List.length_drop] at h1 h2
  rw [h1, Nat.mul_comm, Nat.mul_add_mod, Nat.mod_eq_of_lt h2]
theorem numB_mid (b : List UInt8) {i n : Nat} (h : i + n ≤ b.length) : numB ((b.drop i).take n) = numB b / 256 ^ (b.length - i - n) % 256 ^ n := by
  rw [numB_take, numB_drop, List.length_drop]
  have e : 256 ^ (b.length - i) = 256 ^ (b.length - i - n) * 256 ^ n := by rw [← Nat.pow_add]; congr 1; omega
  rw [e, Nat.mod_mul_right_div_self]
theorem word_num {b : List UInt8} {t : Nat} (h : 4 * t + 4 ≤ b.length) : (wordAt b t).toNat = numB ((b.drop (4 * t)).take 4) := by
  rw [wordAt_nat]
  have e : (b.drop (4 * t)).take 4 = [b.getD (4 * t) 0, b.getD (4 * t + 1) 0, b.getD (4 * t + 2) 0, b.getD (4 * t + 3) 0] := by
    apply List.ext_getElem?
    intro j
    rw [List.getElem?_take, List.getElem?_drop]
    have g : ∀ i, i < b.length → b[i]? = some (b.getD i 0) := fun i hi => by rw [List.getElem?_eq_getElem hi, List.getD_eq_getElem?_getD, List.getElem?_eq_getElem hi]; rfl
    by_cases h4 : j < 4
    · rw [if_pos h4, g _ (by omega)]
      have : j = 0 ∨ j = 1 ∨ j = 2 ∨ j = 3 := by omega
      rcases this with rfl | rfl | rfl | rfl <;> rfl
    · rw [if_neg h4, List.getElem?_eq_none (by simp; omega)]
  rw [e]
  simp [numB]

/-! ### One lane: the hash of a number -/
theorem pk_one (f : Nat → Nat) : pk f 1 = f 0 := by simp [pk]
def wqN (Q r : Nat) : Nat := Nat.land (Nat.shiftRight Q r) M32
noncomputable def numQ (Q r : Nat) (s : E8) : E8 := blkN 1 M32 s (wqN Q (Nat.add r 480)) (wqN Q (Nat.add r 448)) (wqN Q (Nat.add r 416)) (wqN Q (Nat.add r 384)) (wqN Q (Nat.add r 352)) (wqN Q (Nat.add r 320)) (wqN Q (Nat.add r 288)) (wqN Q (Nat.add r 256)) (wqN Q (Nat.add r 224)) (wqN Q (Nat.add r 192)) (wqN Q (Nat.add r 160)) (wqN Q (Nat.add r 128)) (wqN Q (Nat.add r 96)) (wqN Q (Nat.add r 64)) (wqN Q (Nat.add r 32)) (wqN Q (Nat.add r 0))
noncomputable def itG (F : Nat → E8 → E8) (n : Nat) : E8 → E8 := @Nat.rec (fun _ => E8 → E8) (fun s => s) (fun k ih s => ih (F k s)) n
theorem itG_0 (F : Nat → E8 → E8) (s : E8) : itG F 0 s = s := rfl
theorem itG_succ (F : Nat → E8 → E8) (n : Nat) (s : E8) : itG F (n + 1) s = itG F n (F n s) := rfl
noncomputable def shaF (Q k : Nat) (s : E8) : E8 := numQ Q (Nat.mul 512 k) s
noncomputable def shaG (Q : Nat) (n : Nat) (s : E8) : E8 := itG (shaF Q) n s
def hN0 : E8 := E8.mk 0x6a09e667 0xbb67ae85 0x3c6ef372 0xa54ff53a 0x510e527f 0x9b05688c 0x1f83d9ab 0x5be0cd19
noncomputable def outN (s : E8) : Nat := E8.rec (fun a b c d e f g h => Nat.add (Nat.mul (Nat.add (Nat.mul (Nat.add (Nat.mul (Nat.add (Nat.mul (Nat.add (Nat.mul (Nat.add (Nat.mul (Nat.add (Nat.mul a 4294967296) b) 4294967296) c) 4294967296) d) 4294967296) e) 4294967296) f) 4294967296) g) 4294967296) h) s
def padV (n V : Nat) : Nat := Nat.add (Nat.mul (Nat.add (Nat.mul V 256) 128) (Nat.pow 256 (Nat.sub (Nat.mul 64 (Nat.add (Nat.div (Nat.add n 8) 64) 1)) (Nat.add n 1)))) (Nat.mul 8 n)
/-- The hash of n bytes. -/
noncomputable def shaN (n V : Nat) : Nat := outN (shaG (padV n V) (Nat.add (Nat.div (Nat.add n 8) 64) 1) hN0)
/-- Eight words, as numbers. -/
def e8W (h : List UInt32) : E8 := E8.mk (h.getD 0 0).toNat (h.getD 1 0).toNat (h.getD 2 0).toNat (h.getD 3 0).toNat (h.getD 4 0).toNat (h.getD 5 0).toNat (h.getD 6 0).toNat (h.getD 7 0).toNat
theorem hN0_eq : hN0 = e8W firstK := rfl
theorem blk_one (h : List UInt32) (b : List UInt8) : blkN 1 M32 (e8W h) (wordAt b 0).toNat (wordAt b 1).toNat (wordAt b 2).toNat (wordAt b 3).toNat (wordAt b 4).toNat (wordAt b 5).toNat (wordAt b 6).toNat (wordAt b 7).toNat (wordAt b 8).toNat (wordAt b 9).toNat (wordAt b 10).toNat (wordAt b 11).toNat (wordAt b 12).toNat (wordAt b 13).toNat (wordAt b 14).toNat (wordAt b 15).toNat = e8W (blockK h b) := by
  have h1 := blk_pw (fun _ => h) (fun _ => b) 1
  simp only [oneL, mskL, e8H, pw, pk_one] at h1
  exact h1
theorem wq_word {p : List UInt8} {k n j : Nat} (hp : p.length = 64 * n) (hk : k < n) (hj : j < 16) : wqN (numB p) (512 * k + (480 - 32 * j)) = (wordAt ((p.drop (64 * (n - 1 - k))).take 64) j).toNat := by
  have hl : ((p.drop (64 * (n - 1 - k))).take 64).length = 64 := by rw [List.length_take, List.length_drop]; omega
  rw [word_num (by omega), List.drop_take, List.drop_drop, List.take_take, Nat.min_eq_left (by omega), numB_mid p (by omega)]
  show Nat.land (numB p >>> (512 * k + (480 - 32 * j))) M32 = _
  rw [land_mod, Nat.shiftRight_eq_div_pow]
  have e : (256 : Nat) ^ (p.length - (64 * (n - 1 - k) + 4 * j) - 4) = 2 ^ (512 * k + (480 - 32 * j)) := by
    rw [show (256 : Nat) = 2 ^ 8 from rfl, ← Nat.pow_mul]
    congr 1; omega
  rw [e]
theorem numQ_eq {p : List UInt8} {k n : Nat} (hp : p.length = 64 * n) (hk : k < n) (h : List UInt32) : numQ (numB p) (512 * k) (e8W h) = e8W (blockK h ((p.drop (64 * (n - 1 - k))).take 64)) := by
  rw [← blk_one]
  have g := fun j hj => wq_word (j := j) hp hk hj
  have g0 := g 0 (by decide)
  have g1 := g 1 (by decide)
  have g2 := g 2 (by decide)
  have g3 := g 3 (by decide)
  have g4 := g 4 (by decide)
  have g5 := g 5 (by decide)
  have g6 := g 6 (by decide)
  have g7 := g 7 (by decide)
  have g8 := g 8 (by decide)
  have g9 := g 9 (by decide)
  have g10 := g 10 (by decide)
  have g11 := g 11 (by decide)
  have g12 := g 12 (by decide)
  have g13 := g 13 (by decide)
  have g14 := g 14 (by decide)
  have g15 := g 15 (by decide)
  rw [← g0, ← g1, ← g2, ← g3, ← g4, ← g5, ← g6, ← g7, ← g8, ← g9, ← g10, ← g11, ← g12, ← g13, ← g14, ← g15]
  rfl
theorem shaG_eq {p : List UInt8} {n : Nat} (hp : p.length = 64 * n) : ∀ k, k ≤ n → shaG (numB p) k (e8W (foldB firstK p (n - k))) = e8W (foldB firstK p n)
  | 0, _ => itG_0 _ _
  | k + 1, h => by
    have e : foldB firstK p (n - k) = blockK (foldB firstK p (n - (k + 1))) ((p.drop (64 * (n - 1 - k))).take 64) := by
      rw [show n - k = (n - (k + 1)) + 1 by omega, foldB, show n - (k + 1) = n - 1 - k by omega]
    have ih := shaG_eq hp k (by omega)
    have hb : shaF (numB p) k (e8W (foldB firstK p (n - (k + 1)))) = e8W (foldB firstK p (n - k)) := by
      rw [e, ← numQ_eq hp (by omega)]
      unfold shaF
      rw [show Nat.mul 512 k = 512 * k from rfl]
    unfold shaG at ih ⊢
    rw [itG_succ, hb, ih]
theorem foldB_pre (h : List UInt32) (b c : List UInt8) : ∀ n, 64 * n ≤ b.length → foldB h (b ++ c) n = foldB h b n
  | 0, _ => rfl
  | n + 1, hn => by
    rw [foldB, foldB, foldB_pre h b c n (by omega), List.drop_append_of_le_length (by omega), List.take_append_of_le_length (by rw [List.length_drop]; omega)]
theorem foldB_more (h : List UInt32) (p : List UInt8) (q : Nat) : ∀ m, foldB (foldB h p q) (p.drop (64 * q)) m = foldB h p (q + m)
  | 0 => rfl
  | m + 1 => by
    rw [← Nat.add_assoc, foldB, foldB, foldB_more h p q m, List.drop_drop, Nat.mul_add]
/-- The bytes behind a message. -/
def tailK (n : Nat) : List UInt8 := [128] ++ List.replicate ((119 - n % 64) % 64) 0 ++ putL (n * 8) 8
theorem tailK_len (n : Nat) : n + (tailK n).length = 64 * ((n + 8) / 64 + 1) := by
  unfold tailK
  simp only [List.length_append, List.length_replicate, putL_length, List.length_singleton]
  omega
theorem sum_fold (b : List UInt8) : sumK b = wordsB (foldB firstK (b ++ tailK b.length) ((b.length + 8) / 64 + 1)) := by
  have hl := tailK_len b.length
  have hd : 64 * (b.length / 64) ≤ b.length := by omega
  have hp : padK (b.drop (64 * (b.length / 64))) b.length = (b ++ tailK b.length).drop (64 * (b.length / 64)) := by
    unfold padK tailK
    rw [List.drop_append_of_le_length hd, List.length_drop, show b.length - 64 * (b.length / 64) = b.length % 64 by omega]
    simp only [List.append_assoc]
  unfold sumK finK
  rw [hp, ← foldB_pre firstK b (tailK b.length) _ hd, foldB_more, List.length_drop, List.length_append, hl]
  congr 2; omega
theorem pad_num (b : List UInt8) (h : b.length < 2305843009213693952) : numB (b ++ tailK b.length) = padV b.length (numB b) := by
  have hl := tailK_len b.length
  have h1 : (tailK b.length).length = 1 + (119 - b.length % 64) % 64 + 8 := by
    unfold tailK
    simp only [List.length_append, List.length_replicate, putL_length, List.length_singleton]
  have e : b ++ tailK b.length = (b ++ [128]) ++ List.replicate ((119 - b.length % 64) % 64) 0 ++ putL (b.length * 8) 8 := by
    unfold tailK; simp only [List.append_assoc]
  have hm : b.length * 8 % 256 ^ 8 = b.length * 8 := Nat.mod_eq_of_lt (by omega)
  rw [e, numB_app, numB_app, numB_snoc, numB_rep, numB_put, putL_length, List.length_replicate, hm, Nat.add_zero]
  show _ = (numB b * 256 + 128) * 256 ^ (64 * ((b.length + 8) / 64 + 1) - (b.length + 1)) + 8 * b.length
  rw [Nat.mul_assoc, ← Nat.pow_add, show (119 - b.length % 64) % 64 + 8 = 64 * ((b.length + 8) / 64 + 1) - (b.length + 1) by omega, Nat.mul_comm b.length 8]
  rfl
theorem out_num {h : List UInt32} (hh : h.length = 8) : outN (e8W h) = numB (wordsB h) := by
  match h, hh with
  | [a, b, c, d, e, f, g, i], _ =>
    have w : ∀ x : UInt32, numB (putL x.toNat 4) = x.toNat := fun x => by
      rw [numB_put]; exact Nat.mod_eq_of_lt x.toNat_lt
    have e1 : wordsB [a, b, c, d, e, f, g, i] = ((((((putL a.toNat 4 ++ putL b.toNat 4) ++ putL c.toNat 4) ++ putL d.toNat 4) ++ putL e.toNat 4) ++ putL f.toNat 4) ++ putL g.toNat 4) ++ putL i.toNat 4 := by
      unfold wordsB; simp
    rw [e1]
    simp only [numB_app, w, putL_length]
    rfl
/-- The number of a hash. -/
theorem sha_num (b : List UInt8) (h : b.length < 2305843009213693952) : shaN b.length (numB b) = numB (sumK b) := by
  have hl := tailK_len b.length
  have hp : (b ++ tailK b.length).length = 64 * ((b.length + 8) / 64 + 1) := by rw [List.length_append]; exact hl
  have hg := shaG_eq hp _ (Nat.le_refl _)
  rw [Nat.sub_self, pad_num b h] at hg
  rw [sum_fold, ← out_num (foldB_len firstK_len _ _), ← hg]
  rfl
end Go.Proofs.YtjgkchmdhicmpaaDoor
set_option linter.unusedVariables false
set_option linter.unusedSimpArgs false
namespace Go.Proofs.YtjgkchmdhicmpaaDoor
open Go.RowKit

theorem rep_snoc {α : Type} (a : α) (j : Nat) : List.replicate j a ++ [a] = List.replicate (j + 1) a := by rw [List.replicate_succ']
theorem sum_rep (n : Nat) : ((List.replicate n (0 : UInt8)).map UInt8.toNat).sum = 0 := by induction n with
  | zero => rfl
  | succ n ih => rw [List.replicate_succ, List.map_cons, List.sum_cons, ih]; rfl
def rf1St (h : List UInt32) (rest : List UInt8) (count : Nat) (j : Nat) : St := ⟨ofL [(0, .w (.c (.d (.sl (h.map wD))))), (2, .w (.c (.d (.int .i64 (count : Int))))), (7, .w (.c (.d (.sl (constK.map wD))))), (8, .w (.c (.own 1 1 0 (rest ++ [128] ++ List.replicate j 0).length)))], hL [(1, .row 1 ((rest ++ [128] ++ List.replicate j 0).map bD))], uL [1]⟩
def rf2St (h : List UInt32) (p : List UInt8) (n : Nat) : St := ⟨ofL [(0, .w (.c (.d (.sl ((foldB h p n).map wD))))), (7, .w (.c (.d (.sl (constK.map wD))))), (8, .w (.c (.own 1 1 0 p.length))), (9, .w (.c (.d (.int .i64 ((64 * n : Nat) : Int)))))], hL [(1, .row 1 (p.map bD))], uL [1]⟩
def rf3St (ws : List UInt32) (k : Nat) : St := ⟨ofL [(0, .w (.c (.d (.sl (ws.map wD))))), (10, .w (.c (.own 1 1 0 (wordsB (ws.take k)).length))), (11, .w (.c (.d (.int .i64 (k : Int)))))], hL [(1, .row 1 ((wordsB (ws.take k)).map bD))], uL [1]⟩
theorem get_ws {ws : List UInt32} {k : Nat} (h : k < ws.length) : (ws.map wD)[k]? = some (wD (ws.getD k 0)) := by
  simp [h]
theorem b0_is : D.int .u8 0 = bD 0 := rfl
theorem b128_is : D.int .u8 128 = bD 128 := rfl
theorem app_c (l : List UInt8) (a : UInt8) : l.map bD ++ [bD a] = (l ++ [a]).map bD := by simp
def lp_rfin_0 : SCode :=
  .seq (.seq (.reg [⟨(some 18), .mv (.t 8), none⟩,
    ⟨(some 19), .len (.t 18), none⟩,
    ⟨(some 20), .bin .rem (.t 19) (.k (.c (.d (.int .i64 64)))), none⟩,
    ⟨(some 21), .bin .neq (.t 20) (.k (.c (.d (.int .i64 56)))), none⟩])
  (.cond (.t 21) (.skip)
   (.exit 0)))
  (.block 1 (.reg [⟨(some 22), .mv (.t 8), none⟩,
     ⟨(some 23), .bldSl false 1 1 (.int .u8 0) [(0, (.k (.c (.d (.int .u8 0)))))], none⟩,
     ⟨(some 24), .app false 1 1 (.t 22) (.t 23), none⟩,
     ⟨(some 8), .mv (.t 24), none⟩]))
def lp_rfin_1 : SCode :=
  .seq (.seq (.reg [⟨(some 31), .mv (.t 9), none⟩,
    ⟨(some 32), .mv (.t 8), none⟩,
    ⟨(some 33), .len (.t 32), none⟩,
    ⟨(some 34), .bin .lss (.t 31) (.t 33), none⟩])
  (.cond (.t 34) (.skip)
   (.exit 2)))
  (.seq (.block 3 (.reg [⟨(some 37), .mv (.t 0), none⟩,
     ⟨(some 38), .mv (.t 7), none⟩,
     ⟨(some 39), .mv (.t 8), none⟩,
     ⟨(some 40), .mv (.t 9), none⟩,
     ⟨(some 41), .mv (.t 9), none⟩,
     ⟨(some 42), .bin .add (.t 41) (.k (.c (.d (.int .i64 64)))), none⟩,
     ⟨(some 43), .slice 1 (.t 39) (some (.t 40)) (some (.t 42)) none, none⟩,
     ⟨(some 44), .call 101 [(.t 37), (.t 38), (.t 43)] none, none⟩,
     ⟨(some 0), .mv (.t 44), none⟩]))
  (.reg [⟨(some 35), .mv (.t 9), none⟩,
    ⟨(some 36), .bin .add (.t 35) (.k (.c (.d (.int .i64 64)))), none⟩,
    ⟨(some 9), .mv (.t 36), none⟩]))
def lp_rfin_2 : SCode :=
  .seq (.seq (.reg [⟨(some 46), .mv (.t 11), none⟩,
    ⟨(some 47), .bin .lss (.t 46) (.k (.c (.d (.int .i64 8)))), none⟩])
  (.cond (.t 47) (.skip)
   (.exit 4)))
  (.seq (.block 5 (.reg [⟨(some 50), .mv (.t 10), none⟩,
     ⟨(some 51), .mv (.t 0), none⟩,
     ⟨(some 52), .mv (.t 11), none⟩,
     ⟨(some 53), .idxSl 1 (.t 51) (.t 52), none⟩,
     ⟨(some 54), .load .sc (.t 53), none⟩,
     ⟨(some 55), .conv .u64 (.t 54), none⟩,
     ⟨(some 56), .call 51 [(.t 55), (.k (.c (.d (.int .i64 4))))] none, none⟩,
     ⟨(some 57), .app false 1 1 (.t 50) (.t 56), none⟩,
     ⟨(some 10), .mv (.t 57), none⟩]))
  (.reg [⟨(some 48), .mv (.t 11), none⟩,
    ⟨(some 49), .bin .add (.t 48) (.k (.c (.d (.int .i64 1)))), none⟩,
    ⟨(some 11), .mv (.t 49), none⟩]))
def sf_rfin : SFn := ⟨3, 59,
  .seq (.reg [⟨(some 6), .mv (.k (.c .nil)), none⟩])
  (.seq (.reg [⟨(some 12), .call 100 [] none, none⟩,
    ⟨(some 7), .mv (.t 12), none⟩])
  (.seq (.reg [⟨(some 13), .mv (.t 1), none⟩,
    ⟨(some 14), .bldSl false 1 1 (.sl []) [(0, (.t 13))], none⟩,
    ⟨(some 15), .call 41 [(.t 14)] (some (0, 1)), none⟩,
    ⟨(some 16), .bldSl false 1 1 (.int .u8 0) [(0, (.k (.c (.d (.int .u8 128)))))], none⟩,
    ⟨(some 17), .app false 1 1 (.t 15) (.t 16), none⟩,
    ⟨(some 8), .mv (.t 17), none⟩])
  (.seq (.block 0 (.loop lp_rfin_0))
  (.seq (.reg [⟨(some 25), .mv (.t 8), none⟩,
    ⟨(some 26), .mv (.t 2), none⟩,
    ⟨(some 27), .conv .u64 (.t 26), none⟩,
    ⟨(some 28), .bin .mul (.t 27) (.k (.c (.d (.int .u64 8)))), none⟩,
    ⟨(some 29), .call 51 [(.t 28), (.k (.c (.d (.int .i64 8))))] none, none⟩,
    ⟨(some 30), .app false 1 1 (.t 25) (.t 29), none⟩,
    ⟨(some 8), .mv (.t 30), none⟩])
  (.seq (.seq (.reg [⟨(some 9), .mv (.k (.c (.d (.int .i64 0)))), none⟩])
  (.block 2 (.loop lp_rfin_1)))
  (.seq (.reg [⟨(some 45), .bldSl true 0 1 (.int .u8 0) [], none⟩,
    ⟨(some 10), .mv (.t 45), none⟩])
  (.seq (.seq (.reg [⟨(some 11), .mv (.k (.c (.d (.int .i64 0)))), none⟩])
  (.block 4 (.loop lp_rfin_2)))
  (.seq (.reg [⟨(some 58), .mv (.t 10), none⟩,
    ⟨(some 6), .mv (.t 58), none⟩])
  (.ret))))))))),
  [(6, none)]⟩
theorem cf_rfin : compFn Tryd.prog { own := [15, 45], comp := [], frz := [], nils := [] } Tryd.f102 = some sf_rfin := by kernel_rfl
set_option maxHeartbeats 1600000 in
theorem rfin_c (G : Glob) (s : List UInt32) (rest : List UInt8) (count : Nat) (hs : s.length = 8) (hr : rest.length < 64) (hc : count ≤ 140737488355328) : Den Tryd.prog G 102 [.sl (s.map wD), .sl (rest.map bD), .int .i64 (count : Int)] (.w (.c (.fr 1 ((finK s rest count).map bD)))) := by
  refine den_walk Tryd.func102 cf_rfin rfl rfl ?_
  have hj := rjoin_c G [rest] (by simp) (by simp; omega)
  have hf : [rest].flatten = rest := by simp
  rw [hf] at hj
  obtain ⟨hp1, hp2⟩ := padK_len rest count hr
  simp only [sf_rfin, putAll, wx, wy, wz, stV, seval, IntWalk.iteOmega, IntWalk.toNatUp, reduceCtorEq]
  refine st_call (rcon_c G) rfl (.inl rfl) ?_
  simp only [wx, wy, wz, stV, seval, IntWalk.iteOmega, IntWalk.toNatUp, reduceCtorEq]
  refine st_call hj rfl (.inl rfl) ?_
  simp only [wx, wy, wz, stV, seval, IntWalk.iteOmega, IntWalk.toNatUp, reduceCtorEq, srcV, b128_is, app_c]
  refine loop_st (rf1St s rest count) (fun j => (119 - rest.length) % 64 - j) (fun j => j ≤ (119 - rest.length) % 64) 0 (Nat.zero_le _) ?_ ?_
  · refine ent_l (fun _ => 136) ?_ ?_ rfl rfl <;> simp only [wx, wex, wez, stV, seval, IntWalk.iteOmega, IntWalk.toNatUp, reduceCtorEq]
  · intro j hj
    have hl : (rest ++ [128] ++ List.replicate j 0).length = rest.length + 1 + j := by simp; omega
    have ht : ((rest ++ [128] ++ List.replicate j 0).length : Int).tmod 64 = (((rest.length + 1 + j) % 64 : Nat) : Int) := by rw [hl]; rfl
    by_cases hlt : j < (119 - rest.length) % 64
    · have e1 : rest ++ [128] ++ List.replicate j 0 ++ [0] = rest ++ [128] ++ List.replicate (j + 1) 0 := by
        rw [List.append_assoc, rep_snoc]
      generalize hx : rest ++ [128] ++ List.replicate j 0 = x at *
      simp only [lp_rfin_0, rf1St, hx, wx, wy, wz, stV, seval, IntWalk.iteOmega, IntWalk.toNatUp, reduceCtorEq, ht, srcV, b0_is, app_c, e1]
      refine lop_next (j + 1) (by omega) (by omega) (ent_l (fun _ => 192) ?_ ?_ rfl rfl) <;> simp only [wx, wex, wez, stV, seval, IntWalk.iteOmega, IntWalk.toNatUp, reduceCtorEq]
    · obtain rfl : j = (119 - rest.length) % 64 := by omega
      generalize hx : rest ++ [128] ++ List.replicate ((119 - rest.length) % 64) 0 = x at *
      simp only [lp_rfin_0, rf1St, hx, wx, wy, wz, stV, seval, IntWalk.iteOmega, IntWalk.toNatUp, reduceCtorEq, ht]
      refine st_call (rput_in G (count * 8) 8 (by decide)) ?_ (.inl rfl) ?_
      · simp only [wx, wy, wz, stV, seval, IntWalk.iteOmega, IntWalk.toNatUp, reduceCtorEq]
      have hx2 : x ++ putL (count * 8) 8 = padK rest count := by rw [← hx]; rfl
      simp only [wx, wy, wz, stV, seval, IntWalk.iteOmega, IntWalk.toNatUp, reduceCtorEq, srcV, app_map, hx2, putL_length]
      refine loop_st (rf2St s (padK rest count)) (fun n => (padK rest count).length / 64 - n) (fun n => n ≤ (padK rest count).length / 64) 0 (Nat.zero_le _) ?_ ?_
      · refine ent_l (fun _ => 240) ?_ ?_ rfl rfl <;> simp only [wx, wex, wez, stV, seval, IntWalk.iteOmega, IntWalk.toNatUp, reduceCtorEq, foldB]
      · generalize hpk : padK rest count = p at *
        intro n hn
        have hl8 := foldB_len hs p n
        by_cases hlt : n < p.length / 64
        · have h2 : ((p.drop (64 * n)).take 64).length = 64 := by rw [List.length_take, List.length_drop]; omega
          have e1 : 64 * n + 64 - 64 * n = 64 := by omega
          simp only [lp_rfin_1, rf2St, wx, wy, wz, stV, seval, IntWalk.iteOmega, IntWalk.toNatUp, reduceCtorEq]
          refine st_call (rblock_c G (foldB s p n) ((p.drop (64 * n)).take 64) hl8 h2) ?_ (.inr (fl_w _ _)) ?_
          · simp only [wx, wy, wz, stV, seval, IntWalk.iteOmega, IntWalk.toNatUp, reduceCtorEq, obSl, e1]
          simp only [wx, wy, wz, stV, seval, IntWalk.iteOmega, IntWalk.toNatUp, reduceCtorEq]
          have e2 : 64 * (n : Int) + 64 = 64 * ((n : Int) + 1) := by omega
          refine lop_next (n + 1) (by omega) (by omega) (ent_l id ?_ ?_ rfl rfl) <;> simp only [wx, wex, wez, stV, seval, IntWalk.iteOmega, IntWalk.toNatUp, reduceCtorEq, foldB, e2]
        · obtain rfl : n = p.length / 64 := by omega
          have hfk : finK s rest count = wordsB (foldB s p (p.length / 64)) := by unfold finK; rw [hpk]
          rw [hfk]
          simp only [rf2St]
          generalize foldB s p (p.length / 64) = ws at hl8
          have h64 : ¬ ((64 * (p.length / 64) : Nat) : Int) < (p.length : Int) := by omega
          simp only [lp_rfin_1, wx, wy, wz, stV, seval, IntWalk.iteOmega, IntWalk.toNatUp, reduceCtorEq, h64]
          refine loop_st (rf3St ws) (fun k => 8 - k) (fun k => k ≤ 8) 0 (Nat.zero_le _) ?_ ?_
          · refine ent_l (fun _ => 360) ?_ ?_ rfl rfl <;> simp only [wx, wex, wez, stV, seval, IntWalk.iteOmega, IntWalk.toNatUp, reduceCtorEq, wordsB]
          · intro k hk
            by_cases hlt : k < 8
            · have hw1 : (ws.getD k 0).toNat < 4294967296 := word_lt _
              have hwl := wordsB_len (ws.take k)
              rw [List.length_take] at hwl
              simp only [lp_rfin_2, rf3St, wx, wy, wz, stV, seval, IntWalk.iteOmega, IntWalk.toNatUp, reduceCtorEq, get_ws (show k < ws.length by omega)]
              refine st_call (rput_in G (ws.getD k 0).toNat 4 (by decide)) ?_ (.inl rfl) ?_
              · simp only [wx, wy, wz, stV, seval, IntWalk.iteOmega, IntWalk.toNatUp, reduceCtorEq]
              simp only [wx, wy, wz, stV, seval, IntWalk.iteOmega, IntWalk.toNatUp, reduceCtorEq, srcV, wordsB_take ws k (by omega), putL_length]
              refine lop_next (k + 1) (by omega) (by omega) (ent_l (fun _ => 456) ?_ ?_ rfl rfl) <;> simp only [wx, wex, wez, stV, seval, IntWalk.iteOmega, IntWalk.toNatUp, reduceCtorEq]
            · obtain rfl : k = 8 := by omega
              have : ws.take 8 = ws := List.take_of_length_le (by omega)
              simp only [lp_rfin_2, rf3St, wx, wy, wz, stV, seval, IntWalk.iteOmega, IntWalk.toNatUp, reduceCtorEq, this]
              exact ret_own (id := 1) (n := (wordsB ws).length) (s := 1) (by simp only [wx, stV, seval, IntWalk.iteOmega, IntWalk.toNatUp, reduceCtorEq]) (by simp only [wx, stV, seval, IntWalk.iteOmega, IntWalk.toNatUp, reduceCtorEq]) (by rw [List.length_map])

def rsSt (b : List UInt8) (n : Nat) : St := ⟨ofL [(0, .w (.c (.d (.sl (b.map bD))))), (3, .w (.c (.d (.sl ((foldB firstK b n).map wD))))), (4, .w (.c (.d (.sl (constK.map wD))))), (5, .w (.c (.d (.int .i64 ((64 * (b.length / 64) : Nat) : Int))))), (6, .w (.c (.d (.int .i64 ((64 * n : Nat) : Int)))))], hL [], uL []⟩
def lp_rsum_0 : SCode :=
  .seq (.seq (.reg [⟨(some 13), .mv (.t 6), none⟩,
    ⟨(some 14), .mv (.t 5), none⟩,
    ⟨(some 15), .bin .lss (.t 13) (.t 14), none⟩])
  (.cond (.t 15) (.skip)
   (.exit 0)))
  (.seq (.block 1 (.reg [⟨(some 18), .mv (.t 3), none⟩,
     ⟨(some 19), .mv (.t 4), none⟩,
     ⟨(some 20), .mv (.t 0), none⟩,
     ⟨(some 21), .mv (.t 6), none⟩,
     ⟨(some 22), .mv (.t 6), none⟩,
     ⟨(some 23), .bin .add (.t 22) (.k (.c (.d (.int .i64 64)))), none⟩,
     ⟨(some 24), .slice 1 (.t 20) (some (.t 21)) (some (.t 23)) none, none⟩,
     ⟨(some 25), .call 101 [(.t 18), (.t 19), (.t 24)] none, none⟩,
     ⟨(some 3), .mv (.t 25), none⟩]))
  (.reg [⟨(some 16), .mv (.t 6), none⟩,
    ⟨(some 17), .bin .add (.t 16) (.k (.c (.d (.int .i64 64)))), none⟩,
    ⟨(some 6), .mv (.t 17), none⟩]))
def sf_rsum : SFn := ⟨1, 33,
  .seq (.reg [⟨(some 2), .mv (.k (.c .nil)), none⟩])
  (.seq (.reg [⟨(some 7), .call 99 [] none, none⟩,
    ⟨(some 8), .call 100 [] none, none⟩,
    ⟨(some 3), .mv (.t 7), none⟩,
    ⟨(some 4), .mv (.t 8), none⟩])
  (.seq (.reg [⟨(some 9), .mv (.t 0), none⟩,
    ⟨(some 10), .len (.t 9), none⟩,
    ⟨(some 11), .bin .quo (.t 10) (.k (.c (.d (.int .i64 64)))), none⟩,
    ⟨(some 12), .bin .mul (.t 11) (.k (.c (.d (.int .i64 64)))), none⟩,
    ⟨(some 5), .mv (.t 12), none⟩])
  (.seq (.seq (.reg [⟨(some 6), .mv (.k (.c (.d (.int .i64 0)))), none⟩])
  (.block 0 (.loop lp_rsum_0)))
  (.seq (.reg [⟨(some 26), .mv (.t 3), none⟩,
    ⟨(some 27), .mv (.t 0), none⟩,
    ⟨(some 28), .mv (.t 5), none⟩,
    ⟨(some 29), .slice 1 (.t 27) (some (.t 28)) none none, none⟩,
    ⟨(some 30), .mv (.t 0), none⟩,
    ⟨(some 31), .len (.t 30), none⟩,
    ⟨(some 32), .call 102 [(.t 26), (.t 29), (.t 31)] (some (0, 1)), none⟩,
    ⟨(some 2), .mv (.t 32), none⟩])
  (.ret))))),
  [(2, none)]⟩
theorem cf_rsum : compFn Tryd.prog { own := [32], comp := [], frz := [], nils := [] } Tryd.f61 = some sf_rsum := by kernel_rfl
set_option maxHeartbeats 1600000 in
theorem rsum_c (G : Glob) (b : List UInt8) (hb : b.length ≤ 140737488355328) : Den Tryd.prog G 61 [.sl (b.map bD)] (.w (.c (.fr 1 ((sumK b).map bD)))) := by
  refine den_walk Tryd.func61 cf_rsum rfl rfl ?_
  have e1 : (b.length : Int).tdiv 64 = ((b.length / 64 : Nat) : Int) := rfl
  have e2 : ((b.length / 64 : Nat) : Int) * 64 = ((64 * (b.length / 64) : Nat) : Int) := by omega
  have e3 : IntKind.i64.wrap ((64 * (b.length / 64) : Nat) : Int) = ((64 * (b.length / 64) : Nat) : Int) := IntWalk.i64_in _ (by omega)
  have e4 : IntKind.i64.wrap ((b.length / 64 : Nat) : Int) = ((b.length / 64 : Nat) : Int) := IntWalk.i64_in _ (by omega)
  simp only [sf_rsum, putAll, wx, wy, stV, seval, IntWalk.iteOmega, IntWalk.toNatUp, reduceCtorEq]
  refine st_call (rfst_c G) rfl (.inl rfl) ?_
  simp only [wx, wy, stV, seval, IntWalk.iteOmega, IntWalk.toNatUp, reduceCtorEq]
  refine st_call (rcon_c G) rfl (.inl rfl) ?_
  simp only [wx, wy, stV, seval, IntWalk.iteOmega, IntWalk.toNatUp, reduceCtorEq, e1, e2, e3, e4]
  refine loop_st (rsSt b) (fun n => b.length / 64 - n) (fun n => n ≤ b.length / 64) 0 (Nat.zero_le _) ?_ ?_
  · refine ent_l id ?_ ?_ rfl rfl <;> simp only [wx, wex, stV, seval, IntWalk.iteOmega, IntWalk.toNatUp, reduceCtorEq, foldB]
  · intro n hn
    have hl8 := foldB_len firstK_len b n
    by_cases hlt : n < b.length / 64
    · have h2 : ((b.drop (64 * n)).take 64).length = 64 := by rw [List.length_take, List.length_drop]; omega
      have e1 : 64 * n + 64 - 64 * n = 64 := by omega
      have e5 : IntKind.i64.wrap (((64 * n : Nat) : Int) + 64) = ((64 * (n + 1) : Nat) : Int) := by rw [IntWalk.i64_in _ (by omega)]; omega
      have e6 : 64 * (n + 1) - 64 * n = 64 := by omega
      simp only [lp_rsum_0, rsSt, wx, wy, stV, seval, IntWalk.iteOmega, IntWalk.toNatUp, reduceCtorEq, e1, e5, e6]
      refine st_call (rblock_c G (foldB firstK b n) ((b.drop (64 * n)).take 64) hl8 h2) ?_ (.inl rfl) ?_
      · simp only [wx, wy, stV, seval, IntWalk.iteOmega, IntWalk.toNatUp, reduceCtorEq]
      simp only [wx, wy, stV, seval, IntWalk.iteOmega, IntWalk.toNatUp, reduceCtorEq, e5]
      refine lop_next (n + 1) (by omega) (by omega) (ent_l id ?_ ?_ rfl rfl) <;> simp only [wx, wex, stV, seval, IntWalk.iteOmega, IntWalk.toNatUp, reduceCtorEq, foldB]
    · obtain rfl : n = b.length / 64 := by omega
      have e1 : List.take (b.length - 64 * (b.length / 64)) (b.drop (64 * (b.length / 64))) = b.drop (64 * (b.length / 64)) := List.take_of_length_le (by rw [List.length_drop]; exact Nat.le_refl _)
      simp only [lp_rsum_0, rsSt, wx, wy, stV, seval, IntWalk.iteOmega, IntWalk.toNatUp, reduceCtorEq, e1]
      refine st_call (rfin_c G (foldB firstK b (b.length / 64)) (b.drop (64 * (b.length / 64))) b.length hl8 (by rw [List.length_drop]; omega) hb) ?_ (.inl rfl) ?_
      · simp only [wx, wy, stV, seval, IntWalk.iteOmega, IntWalk.toNatUp, reduceCtorEq]
      simp only [wx, wy, stV, seval, IntWalk.iteOmega, IntWalk.toNatUp, reduceCtorEq]
      exact ret_own (id := 256) (n := (finK (foldB firstK b (b.length / 64)) (b.drop (64 * (b.length / 64))) b.length).length) (s := 1) (by simp only [wx, stV, seval, IntWalk.iteOmega, IntWalk.toNatUp, reduceCtorEq]) (by simp only [wx, stV, seval, IntWalk.iteOmega, IntWalk.toNatUp, reduceCtorEq] <;> rfl) (by rw [List.length_map]; rfl)
def sf_rshort : SFn := ⟨1, 6,
  .seq (.reg [⟨(some 2), .mv (.k (.c .nil)), none⟩])
  (.seq (.reg [⟨(some 3), .mv (.t 0), none⟩,
    ⟨(some 4), .call 61 [(.t 3)] none, none⟩,
    ⟨(some 5), .slice 1 (.t 4) none (some (.k (.c (.d (.int .i64 16))))) none, none⟩,
    ⟨(some 2), .mv (.t 5), none⟩])
  (.ret)),
  [(2, none)]⟩
theorem cf_rshort : compFn Tryd.prog { own := [], comp := [], frz := [], nils := [] } Tryd.f87 = some sf_rshort := by kernel_rfl
set_option maxHeartbeats 1600000 in
theorem rshort_c (G : Glob) (b : List UInt8) (hb : b.length ≤ 140737488355328) : Den Tryd.prog G 87 [.sl (b.map bD)] (.w (.c (.d (.sl ((shortK b).map bD))))) := by
  refine den_walk Tryd.func87 cf_rshort rfl rfl ?_
  have hl := sumK_len b
  simp only [sf_rshort, putAll, wx, wy, wz, stV, seval, IntWalk.iteOmega, IntWalk.toNatUp, reduceCtorEq]
  refine st_call (rsum_c G b hb) rfl (.inl rfl) ?_
  simp only [wx, wy, wz, stV, seval, IntWalk.iteOmega, IntWalk.toNatUp, reduceCtorEq, hl]
  exact ret_d1 (by simp only [wx, wy, wz, stV, seval, IntWalk.iteOmega, IntWalk.toNatUp, reduceCtorEq, shortK])
def rchSt (b : List UInt8) (M : Int) (i : Nat) : St := ⟨ofL [(1, .w (.c (.d (.int .i64 M)))), (5, .w (.c (.d (.sl ((chainK b i).map bD))))), (6, .w (.c (.d (.int .i64 (i : Int)))))], hL [], uL []⟩
def lp_rchain_0 : SCode :=
  .seq (.seq (.reg [⟨(some 10), .mv (.t 6), none⟩,
    ⟨(some 11), .mv (.t 1), none⟩,
    ⟨(some 12), .bin .lss (.t 10) (.t 11), none⟩,
    ⟨(some 13), .mv (.t 12), none⟩,
    ⟨(some 14), .mv (.t 6), (some (13, true))⟩,
    ⟨(some 15), .bin .lss (.t 14) (.k (.c (.d (.int .i64 65536)))), (some (13, true))⟩,
    ⟨(some 16), .pick (.t 13) (.t 15) (.k (.c (.d (.bool false)))), none⟩])
  (.cond (.t 16) (.skip)
   (.exit 0)))
  (.seq (.block 1 (.reg [⟨(some 19), .mv (.t 5), none⟩,
     ⟨(some 20), .call 87 [(.t 19)] none, none⟩,
     ⟨(some 5), .mv (.t 20), none⟩]))
  (.reg [⟨(some 17), .mv (.t 6), none⟩,
    ⟨(some 18), .bin .add (.t 17) (.k (.c (.d (.int .i64 1)))), none⟩,
    ⟨(some 6), .mv (.t 18), none⟩]))
def sf_rchain : SFn := ⟨2, 22,
  .seq (.reg [⟨(some 4), .mv (.k (.c .nil)), none⟩])
  (.seq (.reg [⟨(some 7), .mv (.t 0), none⟩,
    ⟨(some 8), .bldSl false 1 1 (.sl []) [(0, (.t 7))], none⟩,
    ⟨(some 9), .call 41 [(.t 8)] none, none⟩,
    ⟨(some 5), .mv (.t 9), none⟩])
  (.seq (.seq (.reg [⟨(some 6), .mv (.k (.c (.d (.int .i64 0)))), none⟩])
  (.block 0 (.loop lp_rchain_0)))
  (.seq (.reg [⟨(some 21), .mv (.t 5), none⟩,
    ⟨(some 4), .mv (.t 21), none⟩])
  (.ret)))),
  [(4, none)]⟩
theorem cf_rchain : compFn Tryd.prog { own := [], comp := [], frz := [], nils := [] } Tryd.f86 = some sf_rchain := by kernel_rfl
set_option maxHeartbeats 1600000 in
theorem rchain_c (G : Glob) (b : List UInt8) (hb : b.length ≤ 140737488355328) (n : Int) : Den Tryd.prog G 86 [.sl (b.map bD), .int .i64 n] (.w (.c (.d (.sl ((chainK b (min n 65536).toNat).map bD))))) := by
  refine den_walk Tryd.func86 cf_rchain rfl rfl ?_
  have hj := rjoin_c G [b] (by simp) (by simpa using hb)
  have hf : [b].flatten = b := by simp
  rw [hf] at hj
  simp only [sf_rchain, putAll, wx, wy, wz, stV, seval, IntWalk.iteOmega, IntWalk.toNatUp, reduceCtorEq]
  refine st_call hj rfl (.inl rfl) ?_
  simp only [wx, wy, wz, stV, seval, IntWalk.iteOmega, IntWalk.toNatUp, reduceCtorEq]
  refine loop_st (rchSt b n) (fun i => (min n 65536).toNat - i) (fun i => i ≤ (min n 65536).toNat) 0 (Nat.zero_le _) ?_ ?_
  · refine ent_l id ?_ ?_ rfl rfl <;> simp only [wx, wex, wez, stV, seval, IntWalk.iteOmega, IntWalk.toNatUp, reduceCtorEq, chainK]
  · intro i hi
    by_cases hlt : (i : Int) < n
    · by_cases hlt2 : i < 65536
      · simp only [lp_rchain_0, rchSt, wx, wy, wz, stV, seval, IntWalk.iteOmega, IntWalk.toNatUp, reduceCtorEq]
        refine st_call (rshort_c G (chainK b i) (chainK_len b hb i)) rfl (.inl rfl) ?_
        simp only [wx, wy, wz, stV, seval, IntWalk.iteOmega, IntWalk.toNatUp, reduceCtorEq]
        refine lop_next (i + 1) (by omega) (by omega) (ent_l id ?_ ?_ rfl rfl) <;> simp only [wx, wex, wez, stV, seval, IntWalk.iteOmega, IntWalk.toNatUp, reduceCtorEq, chainK]
      · obtain rfl : i = (min n 65536).toNat := by omega
        simp only [lp_rchain_0, rchSt, wx, wy, wz, stV, seval, IntWalk.iteOmega, IntWalk.toNatUp, reduceCtorEq]
        exact ret_d1 (by simp only [wx, wy, wz, stV, seval, IntWalk.iteOmega, IntWalk.toNatUp, reduceCtorEq])
    · obtain rfl : i = (min n 65536).toNat := by omega
      simp only [lp_rchain_0, rchSt, wx, wy, wz, stV, seval, IntWalk.iteOmega, IntWalk.toNatUp, reduceCtorEq]
      exact ret_d1 (by simp only [wx, wy, wz, stV, seval, IntWalk.iteOmega, IntWalk.toNatUp, reduceCtorEq])
end Go.Proofs.YtjgkchmdhicmpaaDoor
set_option linter.unusedVariables false
set_option linter.unusedSimpArgs false
namespace Go.Proofs.YtjgkchmdhicmpaaDoor
open Go.RowKit

/-! ### Digits -/
def halfN (b : List UInt8) : List Nat := b.flatMap fun x => [x.toNat / 16, x.toNat % 16]
def lackN (d : List Nat) : Nat := (d.map fun x => 15 - x).sum
def digN (b : List UInt8) : List Nat := halfN b ++ [lackN (halfN b) / 256, lackN (halfN b) / 16 % 16, lackN (halfN b) % 16]
def digA (b : List UInt8) (i : Nat) : Nat := (digN b).getD i 0
theorem halfN_len (b : List UInt8) : (halfN b).length = 2 * b.length := by
  induction b with
  | nil => rfl
  | cons x b ih =>
    have : halfN (x :: b) = [x.toNat / 16, x.toNat % 16] ++ halfN b := rfl
    rw [this, List.length_append, ih]; simp; omega
theorem halfN_le {b : List UInt8} : ∀ x ∈ halfN b, x ≤ 15 := by
  intro x hx
  unfold halfN at hx
  obtain ⟨y, _, hy⟩ := List.mem_flatMap.1 hx
  have := y.toNat_lt
  simp only [List.mem_cons, List.not_mem_nil, or_false] at hy
  rcases hy with rfl | rfl <;> omega
theorem halfN_inj : ∀ {a b : List UInt8}, a.length = b.length → halfN a = halfN b → a = b
  | [], [], _, _ => rfl
  | [], _ :: _, h, _ => by simp at h
  | _ :: _, [], h, _ => by simp at h
  | x :: a, y :: b, h, e => by
    have e1 : halfN (x :: a) = x.toNat / 16 :: x.toNat % 16 :: halfN a := rfl
    have e2 : halfN (y :: b) = y.toNat / 16 :: y.toNat % 16 :: halfN b := rfl
    rw [e1, e2] at e
    simp only [List.cons.injEq] at e
    obtain ⟨h1, h2, h3⟩ := e
    have hxy : x = y := UInt8.toNat_inj.1 (by omega)
    rw [hxy, halfN_inj (by simpa using h) h3]
theorem halfN_snoc (b : List UInt8) (x : UInt8) : halfN (b ++ [x]) = halfN b ++ [x.toNat / 16, x.toNat % 16] := by unfold halfN; rw [List.flatMap_append]; rfl
theorem lackN_app (a b : List Nat) : lackN (a ++ b) = lackN a + lackN b := by unfold lackN; rw [List.map_append, List.sum_append]
theorem lackN_le : ∀ (d : List Nat), lackN d ≤ 15 * d.length
  | [] => Nat.le_refl _
  | x :: d => by
    have h := lackN_le d
    have e : lackN (x :: d) = (15 - x) + lackN d := by unfold lackN; rw [List.map_cons, List.sum_cons]
    rw [e, List.length_cons]; omega
theorem digN_len (b : List UInt8) : (digN b).length = 2 * b.length + 3 := by unfold digN; rw [List.length_append, halfN_len]; rfl
theorem digN_le {b : List UInt8} (h : b.length = 16) : ∀ x ∈ digN b, x ≤ 15 := by
  intro x hx
  have h1 := lackN_le (halfN b)
  rw [halfN_len, h] at h1
  unfold digN at hx
  rcases List.mem_append.1 hx with hx | hx
  · exact halfN_le x hx
  · simp only [List.mem_cons, List.not_mem_nil, or_false] at hx
    rcases hx with rfl | rfl | rfl <;> omega
theorem digA_le {b : List UInt8} (h : b.length = 16) (i : Nat) : digA b i ≤ 15 := by
  unfold digA
  by_cases hi : i < (digN b).length
  · rw [List.getD_eq_getElem?_getD, List.getElem?_eq_getElem hi]
    exact digN_le h _ (List.getElem_mem hi)
  · rw [List.getD_eq_getElem?_getD, List.getElem?_eq_none (by omega)]; exact Nat.zero_le _
theorem digA_lo {b : List UInt8} {i : Nat} (hi : i < 2 * b.length) : digA b i = (halfN b).getD i 0 := by
  unfold digA digN
  rw [List.getD_eq_getElem?_getD, List.getD_eq_getElem?_getD, List.getElem?_append_left (by rw [halfN_len]; exact hi)]
theorem digA_hi {b : List UInt8} (h : b.length = 16) : digA b 32 = lackN (halfN b) / 256 ∧ digA b 33 = lackN (halfN b) / 16 % 16 ∧ digA b 34 = lackN (halfN b) % 16 := by
  have hl : (halfN b).length = 32 := by rw [halfN_len, h]
  unfold digA digN
  refine ⟨?_, ?_, ?_⟩ <;> (rw [List.getD_eq_getElem?_getD, List.getElem?_append_right (by omega), hl]; rfl)
theorem lackN_mono : ∀ {a b : List Nat}, a.length = b.length → (∀ i, i < a.length → b.getD i 0 ≤ a.getD i 0) → (∀ x ∈ a, x ≤ 15) → lackN a ≤ lackN b ∧ (lackN a = lackN b → a = b)
  | [], [], _, _, _ => ⟨Nat.le_refl _, fun _ => rfl⟩
  | [], _ :: _, h, _, _ => by simp at h
  | _ :: _, [], h, _, _ => by simp at h
  | x :: a, y :: b, h, hle, hb => by
    have ih := lackN_mono (a := a) (b := b) (by simpa using h) (fun i hi => by simpa using hle (i + 1) (by simpa using hi)) (fun z hz => hb z (List.mem_cons_of_mem _ hz))
    have h0 : y ≤ x := by simpa using hle 0 (by simp)
    have hx := hb x List.mem_cons_self
    have e1 : lackN (x :: a) = (15 - x) + lackN a := by unfold lackN; rw [List.map_cons, List.sum_cons]
    have e2 : lackN (y :: b) = (15 - y) + lackN b := by unfold lackN; rw [List.map_cons, List.sum_cons]
    rw [e1, e2]
    refine ⟨by omega, fun he => ?_⟩
    have h1 : lackN a = lackN b := by omega
    rw [ih.2 h1, show x = y by omega]
/-- Of two different digests each one has a digit that is less. -/
theorem dig_less {a b : List UInt8} (ha : a.length = 16) (hb : b.length = 16) (h : a ≠ b) : ∃ i, i < 35 ∧ digA a i < digA b i := by
  refine Classical.byContradiction fun hn => ?_
  have hle : ∀ i, i < 35 → digA b i ≤ digA a i := fun i hi => Nat.le_of_not_lt fun hlt => hn ⟨i, hi, hlt⟩
  have la : (halfN a).length = 32 := by rw [halfN_len, ha]
  have lb : (halfN b).length = 32 := by rw [halfN_len, hb]
  obtain ⟨m1, m2⟩ := lackN_mono (a := halfN a) (b := halfN b) (by omega) (fun i hi => by
    have := hle i (by omega)
    rwa [digA_lo (by omega), digA_lo (by omega)] at this) halfN_le
  obtain ⟨p1, p2, p3⟩ := digA_hi ha
  obtain ⟨q1, q2, q3⟩ := digA_hi hb
  have h1 := hle 32 (by decide)
  have h2 := hle 33 (by decide)
  have h3 := hle 34 (by decide)
  have b1 := lackN_le (halfN a)
  have b2 := lackN_le (halfN b)
  rw [p1, q1] at h1
  rw [p2, q2] at h2
  rw [p3, q3] at h3
  rw [la] at b1
  rw [lb] at b2
  exact h (halfN_inj (by omega) (m2 (by omega)))
/-- The digits say the sum. -/
theorem dig_sum {b : List UInt8} (h : b.length = 16) : lackN (halfN b) = 256 * digA b 32 + 16 * digA b 33 + digA b 34 := by
  obtain ⟨p1, p2, p3⟩ := digA_hi h
  have b1 := lackN_le (halfN b)
  rw [halfN_len, h] at b1
  rw [p1, p2, p3]; omega
theorem lackN_take {d : List Nat} {i : Nat} (h : i < d.length) : lackN (d.take (i + 1)) = lackN (d.take i) + (15 - d.getD i 0) := by
  have e : d.take (i + 1) = d.take i ++ [d.getD i 0] := by
    rw [List.take_succ_eq_append_getElem h, List.getD_eq_getElem?_getD, List.getElem?_eq_getElem h]; rfl
  rw [e, lackN_app]
  simp [lackN]
/-! ### Chains -/
theorem chainK_add (b : List UInt8) (m : Nat) : ∀ n, chainK (chainK b m) n = chainK b (m + n)
  | 0 => rfl
  | n + 1 => by rw [chainK, chainK_add b m n]; rfl
def secM (seed : List UInt8) (index : Nat) (c : Nat) : List UInt8 := shortK (seed ++ putL index 4 ++ [UInt8.ofNat c])
def endsM (f : Nat → List UInt8) (n : Nat) : List UInt8 := (List.range n).flatMap f
theorem endsM_succ (f : Nat → List UInt8) (n : Nat) : endsM f (n + 1) = endsM f n ++ f n := by unfold endsM; rw [List.range_succ, List.flatMap_append]; simp
theorem endsM_len {f : Nat → List UInt8} (h : ∀ i, (f i).length = 16) : ∀ n, (endsM f n).length = 16 * n
  | 0 => rfl
  | n + 1 => by rw [endsM_succ, List.length_append, endsM_len h n, h]; omega
theorem endsM_congr {f g : Nat → List UInt8} : ∀ {n : Nat}, (∀ i, i < n → f i = g i) → endsM f n = endsM g n
  | 0, _ => rfl
  | n + 1, h => by rw [endsM_succ, endsM_succ, endsM_congr (fun i hi => h i (by omega)), h n (by omega)]
def pubM (seed : List UInt8) (index : Nat) : List UInt8 := shortK (endsM (fun c => chainK (secM seed index c) 15) 35)
def sigN (seed : List UInt8) (index : Nat) (digest : List UInt8) (n : Nat) : List (List UInt8) := (List.range n).map fun c => chainK (secM seed index c) (digA digest c)
def sigM (seed : List UInt8) (index : Nat) (digest : List UInt8) : List (List UInt8) := sigN seed index digest 35
def recM (digest : List UInt8) (s : List (List UInt8)) : List UInt8 := shortK (endsM (fun c => chainK (s.getD c []) (15 - digA digest c)) 35)
theorem secM_len (seed : List UInt8) (index c : Nat) : (secM seed index c).length = 16 := shortK_len _
theorem chain16 {b : List UInt8} (h : b.length = 16) : ∀ n, (chainK b n).length = 16
  | 0 => h
  | n + 1 => shortK_len _
theorem sigN_len (seed : List UInt8) (index : Nat) (digest : List UInt8) (n : Nat) : (sigN seed index digest n).length = n := by unfold sigN; rw [List.length_map, List.length_range]
theorem sigN_succ (seed : List UInt8) (index : Nat) (digest : List UInt8) (n : Nat) : sigN seed index digest n ++ [chainK (secM seed index n) (digA digest n)] = sigN seed index digest (n + 1) := by unfold sigN; rw [List.range_succ, List.map_append]; rfl
theorem sig_get (seed : List UInt8) (index : Nat) (digest : List UInt8) {c : Nat} (h : c < 35) : (sigM seed index digest).getD c [] = chainK (secM seed index c) (digA digest c) := by
  unfold sigM sigN
  rw [List.getD_eq_getElem?_getD, List.getElem?_map, List.getElem?_range h]; rfl
theorem sig_mem {seed : List UInt8} {index : Nat} {digest : List UInt8} : ∀ x ∈ sigM seed index digest, x.length = 16 := by
  intro x hx
  unfold sigM sigN at hx
  obtain ⟨c, _, rfl⟩ := List.mem_map.1 hx
  exact chain16 (secM_len _ _ _) _
/-- A signature gives the public key back. -/
theorem rec_sig (seed : List UInt8) (index : Nat) {digest : List UInt8} (h : digest.length = 16) : recM digest (sigM seed index digest) = pubM seed index := by
  unfold recM pubM
  congr 1
  refine endsM_congr fun c hc => ?_
  have := digA_le h c
  rw [sig_get _ _ _ hc, chainK_add, show digA digest c + (15 - digA digest c) = 15 by omega]
end Go.Proofs.YtjgkchmdhicmpaaDoor
set_option linter.unusedVariables false
set_option linter.unusedSimpArgs false
namespace Go.Proofs.YtjgkchmdhicmpaaDoor
open Go.RowKit

/-- A number first, and then what is made of it. -/
noncomputable def seqN {α : Type} (n : Nat) (k : Nat → α) : α := @Nat.rec (fun _ => α) (k 0) (fun m _ => k (Nat.succ m)) n
theorem seqN_eq {α : Type} (n : Nat) (k : Nat → α) : seqN n k = k n := by cases n <;> rfl
noncomputable def shoN (n V : Nat) : Nat := Nat.shiftRight (shaN n V) 128
theorem sho_num (b : List UInt8) (h : b.length < 2305843009213693952) : shoN b.length (numB b) = numB (shortK b) := by
  unfold shoN shortK
  rw [sha_num b h, numB_take, sumK_len]
  show numB (sumK b) >>> 128 = _
  rw [Nat.shiftRight_eq_div_pow]
noncomputable def chnN (n : Nat) : Nat → Nat := @Nat.rec (fun _ => Nat → Nat) (fun v => v) (fun _ ih v => seqN (shoN 16 v) ih) n
theorem chnN_succ (n v : Nat) : chnN (n + 1) v = chnN n (shoN 16 v) := seqN_eq _ _
theorem chainK_first (b : List UInt8) : ∀ n, chainK b (n + 1) = chainK (shortK b) n
  | 0 => rfl
  | n + 1 => by rw [chainK, chainK_first b n]; rfl
theorem chn_num : ∀ (n : Nat) (b : List UInt8), b.length = 16 → chnN n (numB b) = numB (chainK b n)
  | 0, _, _ => rfl
  | n + 1, b, h => by
    have hs := sho_num b (by omega)
    rw [h] at hs
    rw [chnN_succ, hs, chn_num n (shortK b) (shortK_len b), chainK_first]
noncomputable def secQ (S i c : Nat) : Nat := shoN 37 (Nat.add (Nat.mul (Nat.add (Nat.mul S 4294967296) i) 256) c)
theorem sec_num {seed : List UInt8} (h : seed.length = 32) {i c : Nat} (hi : i < 4294967296) (hc : c < 256) : secQ (numB seed) i c = numB (secM seed i c) := by
  have hl : (seed ++ putL i 4 ++ [UInt8.ofNat c]).length = 37 := by simp [putL_length, h]
  have hs := sho_num (seed ++ putL i 4 ++ [UInt8.ofNat c]) (by omega)
  have hn : numB (seed ++ putL i 4 ++ [UInt8.ofNat c]) = (numB seed * 4294967296 + i) * 256 + c := by
    rw [numB_snoc, numB_app, numB_put, putL_length, UInt8.toNat_ofNat', Nat.mod_eq_of_lt (show i < 256 ^ 4 by omega), Nat.mod_eq_of_lt (show c < 2 ^ 8 by omega)]
  rw [hl, hn] at hs
  exact hs
noncomputable def endsQ (f : Nat → Nat) (n : Nat) : Nat := @Nat.rec (fun _ => Nat) 0 (fun k ih => seqN (f k) fun v => Nat.add (Nat.mul ih 340282366920938463463374607431768211456) v) n
theorem endsQ_succ (f : Nat → Nat) (n : Nat) : endsQ f (n + 1) = Nat.add (Nat.mul (endsQ f n) 340282366920938463463374607431768211456) (f n) := seqN_eq _ _
theorem ends_num {f : Nat → List UInt8} {g : Nat → Nat} : ∀ {n : Nat}, (∀ i, i < n → (f i).length = 16 ∧ g i = numB (f i)) → endsQ g n = numB (endsM f n)
  | 0, _ => rfl
  | n + 1, h => by
    obtain ⟨h1, h2⟩ := h n (by omega)
    rw [endsQ_succ, endsM_succ, numB_app, h1, ends_num (fun i hi => h i (by omega)), h2]; rfl
noncomputable def pubQ (S i : Nat) : Nat := shoN 560 (endsQ (fun c => chnN 15 (secQ S i c)) 35)
theorem ends16 {f : Nat → List UInt8} : ∀ {n : Nat}, (∀ i, i < n → (f i).length = 16) → (endsM f n).length = 16 * n
  | 0, _ => rfl
  | n + 1, h => by rw [endsM_succ, List.length_append, ends16 (fun i hi => h i (by omega)), h n (by omega)]; omega
theorem pub_num {seed : List UInt8} (h : seed.length = 32) {i : Nat} (hi : i < 4294967296) : pubQ (numB seed) i = numB (pubM seed i) := by
  have hl : (endsM (fun c => chainK (secM seed i c) 15) 35).length = 560 := ends16 fun c _ => chain16 (secM_len _ _ _) _
  have hs := sho_num (endsM (fun c => chainK (secM seed i c) 15) 35) (by omega)
  have he := ends_num (f := fun c => chainK (secM seed i c) 15) (g := fun c => chnN 15 (secQ (numB seed) i c)) (n := 35) fun c hc => ⟨chain16 (secM_len _ _ _) _, by
    show chnN 15 (secQ (numB seed) i c) = _
    rw [sec_num h hi (by omega), chn_num _ _ (secM_len _ _ _)]⟩
  rw [hl, ← he] at hs
  exact hs
/-! ### Digits -/
def nibQ (D c : Nat) : Nat := if c % 2 = 0 then D / 256 ^ (15 - c / 2) % 256 / 16 else D / 256 ^ (15 - c / 2) % 256 % 16
theorem half_get : ∀ (b : List UInt8) (c : Nat), c < 2 * b.length → (halfN b).getD c 0 = if c % 2 = 0 then (b.getD (c / 2) 0).toNat / 16 else (b.getD (c / 2) 0).toNat % 16
  | [], _, h => by simp at h
  | x :: b, 0, _ => rfl
  | x :: b, 1, _ => rfl
  | x :: b, c + 2, h => by
    have e : halfN (x :: b) = x.toNat / 16 :: x.toNat % 16 :: halfN b := rfl
    rw [e, show (c + 2) % 2 = c % 2 by omega, show (c + 2) / 2 = c / 2 + 1 by omega]
    exact half_get b c (by simp at h; omega)
theorem byte_num {b : List UInt8} {i : Nat} (h : i < b.length) : numB b / 256 ^ (b.length - i - 1) % 256 = (b.getD i 0).toNat := by
  have h1 := numB_mid b (i := i) (n := 1) (by omega)
  have h2 : (b.drop i).take 1 = [b.getD i 0] := by
    rw [List.drop_eq_getElem_cons h, List.getD_eq_getElem?_getD, List.getElem?_eq_getElem h]; rfl
  rw [h2, Nat.pow_one] at h1
  rw [← h1]
  simp [numB]
theorem nib_num {d : List UInt8} (h : d.length = 16) {c : Nat} (hc : c < 32) : nibQ (numB d) c = (halfN d).getD c 0 := by
  have hb := byte_num (b := d) (i := c / 2) (by omega)
  rw [h, show 16 - c / 2 - 1 = 15 - c / 2 by omega] at hb
  rw [half_get d c (by omega)]
  unfold nibQ
  rw [hb]
noncomputable def lackQ (D n : Nat) : Nat := @Nat.rec (fun _ => Nat) 0 (fun k ih => Nat.add ih (Nat.sub 15 (nibQ D k))) n
theorem lackQ_succ (D n : Nat) : lackQ D (n + 1) = Nat.add (lackQ D n) (Nat.sub 15 (nibQ D n)) := rfl
theorem lack_num {d : List UInt8} (h : d.length = 16) : ∀ n, n ≤ 32 → lackQ (numB d) n = lackN ((halfN d).take n)
  | 0, _ => rfl
  | n + 1, hn => by
    have hl := halfN_len d
    rw [lackQ_succ, lack_num h n (by omega), lackN_take (by omega), nib_num h (by omega)]; rfl
noncomputable def digQ (D c : Nat) : Nat := if c < 32 then nibQ D c else if c = 32 then lackQ D 32 / 256 else if c = 33 then lackQ D 32 / 16 % 16 else lackQ D 32 % 16
theorem dig_num {d : List UInt8} (h : d.length = 16) {c : Nat} (hc : c < 35) : digQ (numB d) c = digA d c := by
  have hl := halfN_len d
  have hk := lack_num h 32 (Nat.le_refl _)
  rw [List.take_of_length_le (by omega)] at hk
  obtain ⟨p1, p2, p3⟩ := digA_hi h
  unfold digQ
  by_cases h1 : c < 32
  · rw [if_pos h1, nib_num h h1, digA_lo (by omega)]
  · rw [if_neg h1, hk]
    have : c = 32 ∨ c = 33 ∨ c = 34 := by omega
    rcases this with rfl | rfl | rfl
    · rw [if_pos rfl, p1]
    · rw [if_neg (by decide), if_pos rfl, p2]
    · rw [if_neg (by decide), if_neg (by decide), p3]
/-- What a signature of one digest gives back for another one. -/
noncomputable def recQ (S i D E : Nat) : Nat := shoN 560 (endsQ (fun c => seqN (digQ D c) fun x => seqN (digQ E c) fun y => chnN (Nat.add x (Nat.sub 15 y)) (secQ S i c)) 35)
theorem rec_num {seed d e : List UInt8} (h : seed.length = 32) {i : Nat} (hi : i < 4294967296) (hd : d.length = 16) (he : e.length = 16) : recQ (numB seed) i (numB d) (numB e) = numB (recM e (sigM seed i d)) := by
  have h16 : ∀ c, c < 35 → (chainK ((sigM seed i d).getD c []) (15 - digA e c)).length = 16 := fun c hc => by
    rw [sig_get _ _ _ hc]; exact chain16 (chain16 (secM_len _ _ _) _) _
  have hl : (endsM (fun c => chainK ((sigM seed i d).getD c []) (15 - digA e c)) 35).length = 560 := ends16 h16
  have hs := sho_num (endsM (fun c => chainK ((sigM seed i d).getD c []) (15 - digA e c)) 35) (by omega)
  have hn := ends_num (f := fun c => chainK ((sigM seed i d).getD c []) (15 - digA e c)) (g := fun c => seqN (digQ (numB d) c) fun x => seqN (digQ (numB e) c) fun y => chnN (Nat.add x (Nat.sub 15 y)) (secQ (numB seed) i c)) (n := 35) fun c hc => ⟨h16 c hc, by
    show (seqN (digQ (numB d) c) fun x => seqN (digQ (numB e) c) fun y => chnN (Nat.add x (Nat.sub 15 y)) (secQ (numB seed) i c)) = _
    rw [seqN_eq, seqN_eq, dig_num hd hc, dig_num he hc, sec_num h hi (by omega), sig_get _ _ _ hc, chainK_add]
    exact chn_num _ _ (secM_len _ _ _)⟩
  rw [hl, ← hn] at hs
  exact hs
end Go.Proofs.YtjgkchmdhicmpaaDoor
set_option linter.unusedVariables false
set_option linter.unusedSimpArgs false
namespace Go.Proofs.YtjgkchmdhicmpaaDoor
open Go.RowKit

/-- A computation. -/
abbrev hsD (ws : List UInt32) (rest : List UInt8) (count : Int) : D := .agg [.sl (ws.map wD), .sl (rest.map bD), .int .i64 count]
def validK (ws : List UInt32) (rest : List UInt8) (count : Int) : Bool := decide (ws.length = 8 ∧ 0 ≤ count ∧ count ≤ 1099511627776 ∧ (rest.length : Int) = count % 64)
def sf_valid : SFn := ⟨1, 26,
  .seq (.reg [⟨(some 1), .box .roBox (.t 0), none⟩,
    ⟨(some 2), .mv (.k (.c (.d (.bool false)))), none⟩])
  (.seq (.reg [⟨(some 3), .fieldAddr 0 (.t 1), none⟩,
    ⟨(some 4), .load .sc (.t 3), none⟩,
    ⟨(some 5), .len (.t 4), none⟩,
    ⟨(some 6), .bin .eql (.t 5) (.k (.c (.d (.int .i64 8)))), none⟩,
    ⟨(some 7), .mv (.t 6), none⟩,
    ⟨(some 8), .fieldAddr 2 (.t 1), (some (7, true))⟩,
    ⟨(some 9), .load .sc (.t 8), (some (7, true))⟩,
    ⟨(some 10), .bin .geq (.t 9) (.k (.c (.d (.int .i64 0)))), (some (7, true))⟩,
    ⟨(some 11), .pick (.t 7) (.t 10) (.k (.c (.d (.bool false)))), none⟩,
    ⟨(some 12), .mv (.t 11), none⟩,
    ⟨(some 13), .fieldAddr 2 (.t 1), (some (12, true))⟩,
    ⟨(some 14), .load .sc (.t 13), (some (12, true))⟩,
    ⟨(some 15), .bin .leq (.t 14) (.k (.c (.d (.int .i64 1099511627776)))), (some (12, true))⟩,
    ⟨(some 16), .pick (.t 12) (.t 15) (.k (.c (.d (.bool false)))), none⟩,
    ⟨(some 17), .mv (.t 16), none⟩,
    ⟨(some 18), .fieldAddr 1 (.t 1), (some (17, true))⟩,
    ⟨(some 19), .load .sc (.t 18), (some (17, true))⟩,
    ⟨(some 20), .len (.t 19), (some (17, true))⟩,
    ⟨(some 21), .fieldAddr 2 (.t 1), (some (17, true))⟩,
    ⟨(some 22), .load .sc (.t 21), (some (17, true))⟩,
    ⟨(some 23), .bin .rem (.t 22) (.k (.c (.d (.int .i64 64)))), (some (17, true))⟩,
    ⟨(some 24), .bin .eql (.t 20) (.t 23), (some (17, true))⟩,
    ⟨(some 25), .pick (.t 17) (.t 24) (.k (.c (.d (.bool false)))), none⟩,
    ⟨(some 2), .mv (.t 25), none⟩])
  (.ret)),
  [(2, none)]⟩
theorem cf_valid : compFn Tryd.prog { own := [], comp := [], frz := [], nils := [] } Tryd.f70 = some sf_valid := by kernel_rfl
set_option maxHeartbeats 1600000 in
theorem valid_c (G : Glob) (ws : List UInt32) (rest : List UInt8) (count : Int) : Den Tryd.prog G 70 [hsD ws rest count] (.w (.c (.d (.bool (validK ws rest count))))) := by
  refine den_walk Tryd.func70 cf_valid rfl rfl ?_
  by_cases h1 : ws.length = 8
  · by_cases h2 : 0 ≤ count
    · have ht : count.tmod 64 = count % 64 := Int.tmod_eq_emod_of_nonneg h2
      by_cases h3 : count ≤ 1099511627776
      · by_cases h4 : (rest.length : Int) = count % 64
        · have hv : validK ws rest count = true := by simp only [validK, decide_eq_true_eq]; exact ⟨h1, h2, h3, h4⟩
          simp only [sf_valid, putAll, wx, wy, wz, stV, seval, IntWalk.iteOmega, IntWalk.toNatUp, reduceCtorEq, ht, h4]
          exact ret_d1 (by simp only [wx, wy, wz, stV, seval, IntWalk.iteOmega, IntWalk.toNatUp, reduceCtorEq, hv])
        · have hv : validK ws rest count = false := by simp only [validK, decide_eq_false_iff_not]; exact fun h => h4 h.2.2.2
          simp only [sf_valid, putAll, wx, wy, wz, stV, seval, IntWalk.iteOmega, IntWalk.toNatUp, reduceCtorEq, ht, h4]
          exact ret_d1 (by simp only [wx, wy, wz, stV, seval, IntWalk.iteOmega, IntWalk.toNatUp, reduceCtorEq, hv])
      · have hv : validK ws rest count = false := by simp only [validK, decide_eq_false_iff_not]; exact fun h => h3 h.2.2.1
        simp only [sf_valid, putAll, wx, wy, wz, stV, seval, IntWalk.iteOmega, IntWalk.toNatUp, reduceCtorEq, ht]
        exact ret_d1 (by simp only [wx, wy, wz, stV, seval, IntWalk.iteOmega, IntWalk.toNatUp, reduceCtorEq, hv])
    · have hv : validK ws rest count = false := by simp only [validK, decide_eq_false_iff_not]; exact fun h => h2 h.2.1
      simp only [sf_valid, putAll, wx, wy, wz, stV, seval, IntWalk.iteOmega, IntWalk.toNatUp, reduceCtorEq]
      exact ret_d1 (by simp only [wx, wy, wz, stV, seval, IntWalk.iteOmega, IntWalk.toNatUp, reduceCtorEq, hv])
  · have hv : validK ws rest count = false := by simp only [validK, decide_eq_false_iff_not]; exact fun h => h1 h.1
    simp only [sf_valid, putAll, wx, wy, wz, stV, seval, IntWalk.iteOmega, IntWalk.toNatUp, reduceCtorEq, h1]
    exact ret_d1 (by simp only [wx, wy, wz, stV, seval, IntWalk.iteOmega, IntWalk.toNatUp, reduceCtorEq, hv])
def sf_state : SFn := ⟨3, 13,
  .seq (.reg [⟨(some 3), .box .ownArr (.t 0), none⟩,
    ⟨(some 6), .alloc [.nil, .nil, (.d (.int .i64 0))], none⟩])
  (.seq (.reg [⟨(some 7), .sliceArr 1 8 (.t 3) none none, none⟩,
    ⟨(some 8), .mv (.t 1), none⟩,
    ⟨(some 9), .bldSl false 1 1 (.sl []) [(0, (.t 8))], none⟩,
    ⟨(some 10), .call 43 [(.t 9)] (some (0, 1)), none⟩,
    ⟨(some 11), .mv (.t 2), none⟩,
    ⟨(some 12), .build [.nil, .nil, (.d (.int .i64 0))] [(0, 1, (.t 7)), (1, 1, (.t 10)), (2, 1, (.t 11))], none⟩,
    ⟨none, .store (.ag 3) (.t 6) (.t 12), none⟩])
  (.ret)),
  [(6, (some (.ag 3)))]⟩
theorem cf_state : compFn Tryd.prog { own := [3, 10], comp := [], frz := [], nils := [] } Tryd.f73 = some sf_state := by kernel_rfl
set_option maxHeartbeats 1600000 in
theorem state_c (G : Glob) (ws : List UInt32) (rest : List UInt8) (count : Int) (hw : ws.length = 8) (hr : rest.length ≤ 140737488355328) : Den Tryd.prog G 73 [.agg (ws.map wD), .sl (rest.map bD), .int .i64 count] (.w (.c (.d (hsD ws rest count)))) := by
  refine den_walk Tryd.func73 cf_state rfl rfl ?_
  have hj := join_c G [rest] (by simp) (by simpa using hr)
  have hf : [rest].flatten = rest := by simp
  rw [hf] at hj
  have e8 : ws.take 8 = ws := List.take_of_length_le (by omega)
  simp only [sf_state, putAll, wx, wy, wz, stV, seval, IntWalk.iteOmega, IntWalk.toNatUp, reduceCtorEq, hw]
  refine st_call hj rfl (.inl rfl) ?_
  simp only [wx, wy, wz, stV, seval, IntWalk.iteOmega, IntWalk.toNatUp, reduceCtorEq]
  exact ret_d1 (by simp only [wx, wy, wz, stV, seval, IntWalk.iteOmega, IntWalk.toNatUp, reduceCtorEq, toDs, toD, obSl, hw, e8])
def sf_wof : SFn := ⟨1, 9,
  .seq (.reg [⟨(some 1), .box .roBox (.t 0), none⟩,
    ⟨(some 2), .allocArr [(.int .u32 0), (.int .u32 0), (.int .u32 0), (.int .u32 0), (.int .u32 0), (.int .u32 0), (.int .u32 0), (.int .u32 0)], none⟩])
  (.seq (.reg [⟨(some 3), .allocArr [(.int .u32 0), (.int .u32 0), (.int .u32 0), (.int .u32 0), (.int .u32 0), (.int .u32 0), (.int .u32 0), (.int .u32 0)], none⟩])
  (.seq (.reg [⟨(some 4), .sliceArr 1 8 (.t 3) none none, none⟩,
    ⟨(some 5), .fieldAddr 0 (.t 1), none⟩,
    ⟨(some 6), .load .sc (.t 5), none⟩,
    ⟨(some 7), .copy 1 (.t 4) (.t 6), none⟩])
  (.seq (.reg [⟨(some 8), .load (.ag 8) (.t 3), none⟩,
    ⟨none, .store (.ag 8) (.t 2) (.t 8), none⟩])
  (.ret)))),
  [(2, (some (.ag 8)))]⟩
theorem cf_wof : compFn Tryd.prog { own := [], comp := [], frz := [], nils := [] } Tryd.f72 = some sf_wof := by kernel_rfl
set_option maxHeartbeats 1600000 in
theorem wof_c (G : Glob) (ws : List UInt32) (rest : List UInt8) (count : Int) (hw : ws.length = 8) : Den Tryd.prog G 72 [hsD ws rest count] (.w (.c (.d (.agg (ws.map wD))))) := by
  refine den_walk Tryd.func72 cf_wof rfl rfl ?_
  obtain ⟨h0, h1, h2, h3, h4, h5, h6, h7, rfl⟩ := eight hw
  simp only [sf_wof, putAll, wx, wy, wz, stV, seval, IntWalk.iteOmega, IntWalk.toNatUp, reduceCtorEq]
  exact ret_d1 (by simp only [wx, wy, wz, stV, seval, IntWalk.iteOmega, IntWalk.toNatUp, reduceCtorEq])
def sf_beg : SFn := ⟨0, 3,
  .seq (.reg [⟨(some 0), .alloc [.nil, .nil, (.d (.int .i64 0))], none⟩])
  (.seq (.reg [⟨(some 1), .load (.ag 8) (.g 0), none⟩,
    ⟨(some 2), .call 73 [(.t 1), (.k (.c .nil)), (.k (.c (.d (.int .i64 0))))] none, none⟩,
    ⟨none, .store (.ag 3) (.t 0) (.t 2), none⟩])
  (.ret)),
  [(0, (some (.ag 3)))]⟩
theorem cf_beg : compFn Tryd.prog { own := [], comp := [], frz := [], nils := [] } Tryd.f37 = some sf_beg := by kernel_rfl
set_option maxHeartbeats 1600000 in
theorem beg_c (G : Glob) (hF : G.at 0 = some (.ra (firstK.map wD))) : Den Tryd.prog G 37 [] (.w (.c (.d (hsD firstK [] 0)))) := by
  refine den_walk Tryd.func37 cf_beg rfl rfl ?_
  have eg := @ev_g G 0 _ hF
  have h8 : firstK.length = 8 := firstK_len
  simp only [sf_beg, putAll, wx, wy, wz, stV, seval, IntWalk.iteOmega, IntWalk.toNatUp, reduceCtorEq, eg, h8]
  refine st_call (state_c G firstK [] 0 firstK_len (by simp)) rfl (.inl rfl) ?_
  simp only [wx, wy, wz, stV, seval, IntWalk.iteOmega, IntWalk.toNatUp, reduceCtorEq]
  exact ret_d1 (by simp only [wx, wy, wz, stV, seval, IntWalk.iteOmega, IntWalk.toNatUp, reduceCtorEq, toDs, toD] <;> rfl)
/-- What More answers: the computation, and the error. -/
def moreK (ws : List UInt32) (rest : List UInt8) (count : Int) (b : List UInt8) : (List UInt32 × List UInt8 × Int) × Int :=
  if validK ws rest count = true then if (b.length : Int) ≤ 1099511627776 - count then ((foldB ws (rest ++ b) ((rest ++ b).length / 64), (rest ++ b).drop (64 * ((rest ++ b).length / 64)), count + b.length), 0) else (([], [], 0), 2) else (([], [], 0), 3)
theorem validK_is {ws : List UInt32} {rest : List UInt8} {count : Int} (h : validK ws rest count = true) : ws.length = 8 ∧ 0 ≤ count ∧ count ≤ 1099511627776 ∧ (rest.length : Int) = count % 64 := by
  simpa only [validK, decide_eq_true_eq] using h
abbrev mrD (p : (List UInt32 × List UInt8 × Int) × Int) : V := .tup [.c (.d (hsD p.1.1 p.1.2.1 p.1.2.2)), .c (.d (.int .i64 p.2))]
theorem moreK_bad {ws : List UInt32} {rest : List UInt8} {count : Int} {b : List UInt8} (h : validK ws rest count = false) : moreK ws rest count b = (([], [], 0), 3) := by simp [moreK, h]
theorem moreK_long {ws : List UInt32} {rest : List UInt8} {count : Int} {b : List UInt8} (h : validK ws rest count = true) (h2 : ¬ (b.length : Int) ≤ 1099511627776 - count) : moreK ws rest count b = (([], [], 0), 2) := by
  unfold moreK; rw [if_pos h, if_neg h2]
theorem moreK_ok {ws : List UInt32} {rest : List UInt8} {count : Int} {b : List UInt8} (h : validK ws rest count = true) (h2 : (b.length : Int) ≤ 1099511627776 - count) : moreK ws rest count b = ((foldB ws (rest ++ b) ((rest ++ b).length / 64), (rest ++ b).drop (64 * ((rest ++ b).length / 64)), count + b.length), 0) := by
  unfold moreK; rw [if_pos h, if_pos h2]
def sf_more : SFn := ⟨2, 38,
  .seq (.reg [⟨(some 2), .box .roBox (.t 0), none⟩,
    ⟨(some 4), .alloc [.nil, .nil, (.d (.int .i64 0))], none⟩,
    ⟨(some 5), .mv (.k (.c (.d (.int .i64 0)))), none⟩])
  (.seq (.seq (.reg [⟨(some 8), .load (.ag 3) (.t 2), none⟩,
    ⟨(some 9), .call 70 [(.t 8)] none, none⟩,
    ⟨(some 10), .un .not (.t 9), none⟩])
  (.cond (.t 10) (.seq (.reg [⟨(some 11), .build [.nil, .nil, (.d (.int .i64 0))] [], none⟩,
     ⟨none, .store (.ag 3) (.t 4) (.t 11), none⟩,
     ⟨(some 5), .mv (.k (.c (.d (.int .i64 3)))), none⟩])
   (.ret))
   (.skip)))
  (.seq (.seq (.reg [⟨(some 12), .mv (.t 1), none⟩,
    ⟨(some 13), .len (.t 12), none⟩,
    ⟨(some 14), .fieldAddr 2 (.t 2), none⟩,
    ⟨(some 15), .load .sc (.t 14), none⟩,
    ⟨(some 16), .bin .sub (.k (.c (.d (.int .i64 1099511627776)))) (.t 15), none⟩,
    ⟨(some 17), .bin .gtr (.t 13) (.t 16), none⟩])
  (.cond (.t 17) (.seq (.reg [⟨(some 18), .build [.nil, .nil, (.d (.int .i64 0))] [], none⟩,
     ⟨none, .store (.ag 3) (.t 4) (.t 18), none⟩,
     ⟨(some 5), .mv (.k (.c (.d (.int .i64 2)))), none⟩])
   (.ret))
   (.skip)))
  (.seq (.reg [⟨(some 20), .load (.ag 3) (.t 2), none⟩,
    ⟨(some 21), .call 72 [(.t 20)] none, none⟩,
    ⟨(some 22), .fieldAddr 1 (.t 2), none⟩,
    ⟨(some 23), .load .sc (.t 22), none⟩,
    ⟨(some 24), .mv (.t 1), none⟩,
    ⟨(some 25), .bldSl false 2 1 (.sl []) [(0, (.t 23)), (1, (.t 24))], none⟩,
    ⟨(some 26), .call 43 [(.t 25)] none, none⟩,
    ⟨(some 27), .call 71 [(.t 21), (.t 26)] none, none⟩,
    ⟨(some 19), .mv (.t 27), none⟩,
    ⟨(some 28), .extract (.t 19) 0, none⟩,
    ⟨(some 29), .extract (.t 19) 1, none⟩,
    ⟨(some 6), .allocArr [(.int .u32 0), (.int .u32 0), (.int .u32 0), (.int .u32 0), (.int .u32 0), (.int .u32 0), (.int .u32 0), (.int .u32 0)], none⟩,
    ⟨none, .store (.ag 8) (.t 6) (.t 28), none⟩,
    ⟨(some 7), .mv (.t 29), none⟩])
  (.seq (.reg [⟨(some 30), .load (.ag 8) (.t 6), none⟩,
    ⟨(some 31), .mv (.t 7), none⟩,
    ⟨(some 32), .fieldAddr 2 (.t 2), none⟩,
    ⟨(some 33), .load .sc (.t 32), none⟩,
    ⟨(some 34), .mv (.t 1), none⟩,
    ⟨(some 35), .len (.t 34), none⟩,
    ⟨(some 36), .bin .add (.t 33) (.t 35), none⟩,
    ⟨(some 37), .call 73 [(.t 30), (.t 31), (.t 36)] none, none⟩,
    ⟨none, .store (.ag 3) (.t 4) (.t 37), none⟩,
    ⟨(some 5), .mv (.k (.c (.d (.int .i64 0)))), none⟩])
  (.ret))))),
  [(4, (some (.ag 3))), (5, none)]⟩
theorem cf_more : compFn Tryd.prog { own := [], comp := [], frz := [], nils := [] } Tryd.f36 = some sf_more := by kernel_rfl
set_option maxHeartbeats 1600000 in
theorem more_c (G : Glob) (hG : G.at 1 = some (.ra (constK.map wD))) (ws : List UInt32) (rest : List UInt8) (count : Int) (b : List UInt8) : Den Tryd.prog G 36 [hsD ws rest count, .sl (b.map bD)] (mrD (moreK ws rest count b)) := by
  refine den_walk Tryd.func36 cf_more rfl rfl ?_
  cases hv : validK ws rest count with
  | false =>
    rw [moreK_bad hv]
    have hc := valid_c G ws rest count
    rw [hv] at hc
    simp only [sf_more, putAll, wx, wy, wz, stV, seval, IntWalk.iteOmega, IntWalk.toNatUp, reduceCtorEq]
    refine st_call hc rfl (.inl rfl) ?_
    simp only [wx, wy, wz, stV, seval, IntWalk.iteOmega, IntWalk.toNatUp, reduceCtorEq]
    exact ret_d2 (by simp only [wx, wy, wz, stV, seval, IntWalk.iteOmega, IntWalk.toNatUp, reduceCtorEq, toDs, toD] <;> rfl) (by simp only [wx, wy, wz, stV, seval, IntWalk.iteOmega, IntWalk.toNatUp, reduceCtorEq])
  | true =>
    obtain ⟨h1, h2, h3, h4⟩ := validK_is hv
    have hc := valid_c G ws rest count
    rw [hv] at hc
    by_cases hb : (b.length : Int) ≤ 1099511627776 - count
    · rw [moreK_ok hv hb]
      have hj := join_c G [rest, b] (by simp) (by simp; omega)
      have hf : [rest, b].flatten = rest ++ b := by simp
      rw [hf] at hj
      have hall : (rest ++ b).length = rest.length + b.length := List.length_append
      generalize rest ++ b = al at *
      have hl := foldB_len h1 al (al.length / 64)
      simp only [sf_more, putAll, wx, wy, wz, stV, seval, IntWalk.iteOmega, IntWalk.toNatUp, reduceCtorEq]
      refine st_call hc rfl (.inl rfl) ?_
      simp only [wx, wy, wz, stV, seval, IntWalk.iteOmega, IntWalk.toNatUp, reduceCtorEq]
      refine st_call (wof_c G ws rest count h1) rfl (.inl rfl) ?_
      simp only [wx, wy, wz, stV, seval, IntWalk.iteOmega, IntWalk.toNatUp, reduceCtorEq]
      refine st_call hj rfl (.inl rfl) ?_
      simp only [wx, wy, wz, stV, seval, IntWalk.iteOmega, IntWalk.toNatUp, reduceCtorEq]
      refine st_call (blocks_c G hG ws al h1 (by omega)) rfl (.inl rfl) ?_
      have hdl : (al.drop (64 * (al.length / 64))).length ≤ 140737488355328 := by rw [List.length_drop]; omega
      generalize foldB ws al (al.length / 64) = vs at *
      generalize al.drop (64 * (al.length / 64)) = re at *
      simp only [wx, wy, wz, stV, seval, IntWalk.iteOmega, IntWalk.toNatUp, reduceCtorEq, hl]
      refine st_call (state_c G vs re (count + b.length) hl hdl) ?_ (.inl rfl) ?_
      · simp only [wx, wy, wz, stV, seval, IntWalk.iteOmega, IntWalk.toNatUp, reduceCtorEq]
      simp only [wx, wy, wz, stV, seval, IntWalk.iteOmega, IntWalk.toNatUp, reduceCtorEq]
      exact ret_d2 (by simp only [wx, wy, wz, stV, seval, IntWalk.iteOmega, IntWalk.toNatUp, reduceCtorEq, toDs, toD]) (by simp only [wx, wy, wz, stV, seval, IntWalk.iteOmega, IntWalk.toNatUp, reduceCtorEq])
    · rw [moreK_long hv hb]
      simp only [sf_more, putAll, wx, wy, wz, stV, seval, IntWalk.iteOmega, IntWalk.toNatUp, reduceCtorEq]
      refine st_call hc rfl (.inl rfl) ?_
      simp only [wx, wy, wz, stV, seval, IntWalk.iteOmega, IntWalk.toNatUp, reduceCtorEq]
      exact ret_d2 (by simp only [wx, wy, wz, stV, seval, IntWalk.iteOmega, IntWalk.toNatUp, reduceCtorEq, toDs, toD] <;> rfl) (by simp only [wx, wy, wz, stV, seval, IntWalk.iteOmega, IntWalk.toNatUp, reduceCtorEq])
def endK (ws : List UInt32) (rest : List UInt8) (count : Int) : List UInt8 × Int := if validK ws rest count = true then (finK ws rest count.toNat, 0) else ([], 3)
theorem endK_bad {ws : List UInt32} {rest : List UInt8} {count : Int} (h : validK ws rest count = false) : endK ws rest count = ([], 3) := by simp [endK, h]
theorem endK_ok {ws : List UInt32} {rest : List UInt8} {count : Int} (h : validK ws rest count = true) : endK ws rest count = (finK ws rest count.toNat, 0) := by simp [endK, h]
abbrev enD (p : List UInt8 × Int) : V := .tup [.c (.d (.sl (p.1.map bD))), .c (.d (.int .i64 p.2))]
def sf_end : SFn := ⟨1, 14,
  .seq (.reg [⟨(some 1), .box .roBox (.t 0), none⟩,
    ⟨(some 2), .mv (.k (.c .nil)), none⟩,
    ⟨(some 3), .mv (.k (.c (.d (.int .i64 0)))), none⟩])
  (.seq (.seq (.reg [⟨(some 4), .load (.ag 3) (.t 1), none⟩,
    ⟨(some 5), .call 70 [(.t 4)] none, none⟩,
    ⟨(some 6), .un .not (.t 5), none⟩])
  (.cond (.t 6) (.seq (.reg [⟨(some 2), .mv (.k (.c .nil)), none⟩,
     ⟨(some 3), .mv (.k (.c (.d (.int .i64 3)))), none⟩])
   (.ret))
   (.skip)))
  (.seq (.reg [⟨(some 7), .load (.ag 3) (.t 1), none⟩,
    ⟨(some 8), .call 72 [(.t 7)] none, none⟩,
    ⟨(some 9), .fieldAddr 1 (.t 1), none⟩,
    ⟨(some 10), .load .sc (.t 9), none⟩,
    ⟨(some 11), .fieldAddr 2 (.t 1), none⟩,
    ⟨(some 12), .load .sc (.t 11), none⟩,
    ⟨(some 13), .call 74 [(.t 8), (.t 10), (.t 12)] none, none⟩,
    ⟨(some 2), .mv (.t 13), none⟩,
    ⟨(some 3), .mv (.k (.c (.d (.int .i64 0)))), none⟩])
  (.ret))),
  [(2, none), (3, none)]⟩
theorem cf_end : compFn Tryd.prog { own := [], comp := [], frz := [], nils := [] } Tryd.f38 = some sf_end := by kernel_rfl
set_option maxHeartbeats 1600000 in
theorem end_c (G : Glob) (hG : G.at 1 = some (.ra (constK.map wD))) (ws : List UInt32) (rest : List UInt8) (count : Int) : Den Tryd.prog G 38 [hsD ws rest count] (enD (endK ws rest count)) := by
  refine den_walk Tryd.func38 cf_end rfl rfl ?_
  cases hv : validK ws rest count with
  | false =>
    rw [endK_bad hv]
    have hc := valid_c G ws rest count
    rw [hv] at hc
    simp only [sf_end, putAll, wx, wy, wz, stV, seval, IntWalk.iteOmega, IntWalk.toNatUp, reduceCtorEq]
    refine st_call hc rfl (.inl rfl) ?_
    simp only [wx, wy, wz, stV, seval, IntWalk.iteOmega, IntWalk.toNatUp, reduceCtorEq]
    exact ret_d2 (by simp only [wx, wy, wz, stV, seval, IntWalk.iteOmega, IntWalk.toNatUp, reduceCtorEq, toDs, toD]) (by simp only [wx, wy, wz, stV, seval, IntWalk.iteOmega, IntWalk.toNatUp, reduceCtorEq])
  | true =>
    obtain ⟨h1, h2, h3, h4⟩ := validK_is hv
    have hc := valid_c G ws rest count
    rw [hv] at hc
    rw [endK_ok hv]
    obtain ⟨count, rfl⟩ := Int.eq_ofNat_of_zero_le h2
    simp only [sf_end, putAll, wx, wy, wz, stV, seval, IntWalk.iteOmega, IntWalk.toNatUp, reduceCtorEq]
    refine st_call hc rfl (.inl rfl) ?_
    simp only [wx, wy, wz, stV, seval, IntWalk.iteOmega, IntWalk.toNatUp, reduceCtorEq]
    refine st_call (wof_c G ws rest count h1) rfl (.inl rfl) ?_
    simp only [wx, wy, wz, stV, seval, IntWalk.iteOmega, IntWalk.toNatUp, reduceCtorEq]
    refine st_call (fin_c G hG ws rest count h1 (by omega) (by omega)) rfl (.inl rfl) ?_
    simp only [wx, wy, wz, stV, seval, IntWalk.iteOmega, IntWalk.toNatUp, reduceCtorEq]
    exact ret_d2 (by simp only [wx, wy, wz, stV, seval, IntWalk.iteOmega, IntWalk.toNatUp, reduceCtorEq, toDs, toD]) (by simp only [wx, wy, wz, stV, seval, IntWalk.iteOmega, IntWalk.toNatUp, reduceCtorEq])

def rmSt (ws : List UInt32) (al : List UInt8) (c : Int) : Nat → St
  | 0 => ⟨ofL [(4, .w (.c (.ptr 1 1 0 0))), (6, .w (.c (.d (.sl (al.map bD))))), (7, .w (.c (.ptr 2 1 0 0))), (8, .w (.c (.d (.sl (constK.map wD))))), (9, .w (.c (.d (.int .i64 0))))],
      hL [(1, .box [.nil, .nil, .d (.int .i64 0)]), (2, .box [.own 3 1 0 ws.length, .nil, .d (.int .i64 c)]), (3, .row 1 (ws.map wD))], uL [1, 2, 3]⟩
  | n + 1 => ⟨ofL [(4, .w (.c (.ptr 1 1 0 0))), (6, .w (.c (.d (.sl (al.map bD))))), (7, .w (.c (.ptr 2 1 0 0))), (8, .w (.c (.d (.sl (constK.map wD))))), (9, .w (.c (.d (.int .i64 ((64 * (n + 1) : Nat) : Int)))))],
      hL [(1, .box [.nil, .nil, .d (.int .i64 0)]), (2, .box [.d (.sl ((foldB ws al (n + 1)).map wD)), .nil, .d (.int .i64 c)])], uL [1, 2]⟩

theorem take_eq_succ {α : Type} [DecidableEq α] {l m : List α} (h : l.length = m.length) {i : Nat} (hi : i < l.length) (ht : l.take i = m.take i) : l.take (i + 1) = m.take (i + 1) ↔ l[i] = m[i] := by
  rw [List.take_succ_eq_append_getElem hi, List.take_succ_eq_append_getElem (show i < m.length by omega), ht]
  constructor
  · intro e
    have := List.append_cancel_left e
    simpa using this
  · intro e
    rw [e]
def sameH (ws vs : List UInt32) (r s : List UInt8) (c d : Int) : Bool := decide (ws = vs ∧ c = d ∧ r = s)
def rssSt (ws vs : List UInt32) (r s : List UInt8) (c d : Int) (i : Nat) : St := ⟨ofL [(2, .w (.c (.rp [.sl (ws.map wD), .sl (r.map bD), .int .i64 c]))), (3, .w (.c (.rp [.sl (vs.map wD), .sl (s.map bD), .int .i64 d]))), (5, .w (.c (.d (.int .i64 (i : Int)))))], hL [], uL []⟩
end Go.Proofs.YtjgkchmdhicmpaaDoor
set_option linter.unusedVariables false
set_option linter.unusedSimpArgs false
namespace Go.Proofs.YtjgkchmdhicmpaaDoor
open Go.RowKit

def withinN (v m : Int) : Int := if m < 1 then 0 else v % m
theorem withinN_range (v m : Int) (h : 1 ≤ m) : 0 ≤ withinN v m ∧ withinN v m < m := by
  unfold withinN
  rw [if_neg (by omega)]
  exact ⟨Int.emod_nonneg _ (by omega), Int.emod_lt_of_pos _ (by omega)⟩
theorem tmod_neg {v m : Int} (hm : 0 < m) (h : v.tmod m < 0) : v.tmod m + m = v % m := by
  have h1 := Int.emod_add_mul_ediv v m
  have h2 := Int.tmod_add_mul_tdiv v m
  have h3 := Int.emod_nonneg v (show m ≠ 0 by omega)
  have h4 := Int.emod_lt_of_pos v hm
  have h5 := Int.lt_tmod_of_pos v hm
  have e : m * (v.tdiv m - v / m) = v % m - v.tmod m := by rw [Int.mul_sub]; omega
  have k1 : v.tdiv m - v / m = 1 := by
    rcases Int.lt_trichotomy (v.tdiv m - v / m) 1 with hlt | heq | hgt
    · exfalso
      have : v.tdiv m - v / m ≤ 0 := by omega
      have := Int.mul_le_mul_of_nonneg_left this (show 0 ≤ m by omega)
      omega
    · exact heq
    · exfalso
      have : 2 ≤ v.tdiv m - v / m := by omega
      have := Int.mul_le_mul_of_nonneg_left this (show 0 ≤ m by omega)
      omega
  rw [k1] at e
  omega
theorem tmod_pos {v m : Int} (hm : 0 < m) (h : 0 ≤ v.tmod m) : v.tmod m = v % m := by
  have h1 := Int.emod_add_mul_ediv v m
  have h2 := Int.tmod_add_mul_tdiv v m
  have h3 := Int.emod_nonneg v (show m ≠ 0 by omega)
  have h4 := Int.emod_lt_of_pos v hm
  have h5 := Int.tmod_lt_of_pos v hm
  have e : m * (v.tdiv m - v / m) = v % m - v.tmod m := by rw [Int.mul_sub]; omega
  have k1 : v.tdiv m - v / m = 0 := by
    rcases Int.lt_trichotomy (v.tdiv m - v / m) 0 with hlt | heq | hgt
    · exfalso
      have : v.tdiv m - v / m ≤ -1 := by omega
      have := Int.mul_le_mul_of_nonneg_left this (show 0 ≤ m by omega)
      omega
    · exact heq
    · exfalso
      have : 1 ≤ v.tdiv m - v / m := by omega
      have := Int.mul_le_mul_of_nonneg_left this (show 0 ≤ m by omega)
      omega
  rw [k1] at e
  omega
def sf_within : SFn := ⟨2, 16,
  .seq (.reg [⟨(some 4), .mv (.k (.c (.d (.int .i64 0)))), none⟩])
  (.seq (.seq (.reg [⟨(some 5), .mv (.t 1), none⟩,
    ⟨(some 6), .bin .lss (.t 5) (.k (.c (.d (.int .i64 1)))), none⟩])
  (.cond (.t 6) (.seq (.reg [⟨(some 4), .mv (.k (.c (.d (.int .i64 0)))), none⟩])
   (.ret))
   (.skip)))
  (.seq (.reg [⟨(some 7), .mv (.t 0), none⟩,
    ⟨(some 8), .mv (.t 1), none⟩,
    ⟨(some 9), .bin .rem (.t 7) (.t 8), none⟩,
    ⟨(some 0), .mv (.t 9), none⟩])
  (.seq (.seq (.reg [⟨(some 10), .mv (.t 0), none⟩,
    ⟨(some 11), .bin .lss (.t 10) (.k (.c (.d (.int .i64 0)))), none⟩])
  (.cond (.t 11) (.reg [⟨(some 12), .mv (.t 0), none⟩,
     ⟨(some 13), .mv (.t 1), none⟩,
     ⟨(some 14), .bin .add (.t 12) (.t 13), none⟩,
     ⟨(some 0), .mv (.t 14), none⟩])
   (.skip)))
  (.seq (.reg [⟨(some 15), .mv (.t 0), none⟩,
    ⟨(some 4), .mv (.t 15), none⟩])
  (.ret))))),
  [(4, none)]⟩
theorem cf_within : compFn Tryd.prog { own := [], comp := [], frz := [], nils := [] } Tryd.f24 = some sf_within := by kernel_rfl
theorem within_c (G : Glob) (v m : Int) (hm : m ≤ 9223372036854775807) : Den Tryd.prog G 24 [.int .i64 v, .int .i64 m] (.w (.c (.d (.int .i64 (withinN v m))))) := by
  refine den_walk Tryd.func24 cf_within rfl rfl ?_
  unfold withinN
  by_cases h : m < 1
  · rw [if_pos h]
    simp only [sf_within, putAll, wx, wy, wz, stV, seval, IntWalk.iteOmega, IntWalk.toNatUp, reduceCtorEq]
    exact ret_d1 (by simp only [wx, wy, wz, stV, seval, IntWalk.iteOmega, IntWalk.toNatUp, reduceCtorEq])
  · rw [if_neg h]
    have hne : ¬ m = 0 := by omega
    have h4 := Int.tmod_lt_of_pos v (show 0 < m by omega)
    by_cases hn : v.tmod m < 0
    · have e := tmod_neg (by omega) hn
      have h3 := Int.emod_lt_of_pos v (show 0 < m by omega)
      have h5 := Int.emod_nonneg v (show m ≠ 0 by omega)
      simp only [sf_within, putAll, wx, wy, wz, stV, seval, IntWalk.iteOmega, IntWalk.toNatUp, reduceCtorEq, hne]
      exact ret_d1 (by simp only [wx, wy, wz, stV, seval, IntWalk.iteOmega, IntWalk.toNatUp, reduceCtorEq, e])
    · have e := tmod_pos (v := v) (show 0 < m by omega) (by omega)
      simp only [sf_within, putAll, wx, wy, wz, stV, seval, IntWalk.iteOmega, IntWalk.toNatUp, reduceCtorEq, hne]
      exact ret_d1 (by simp only [wx, wy, wz, stV, seval, IntWalk.iteOmega, IntWalk.toNatUp, reduceCtorEq, e])

/-! ### Bytes of a number -/
def hashAt (s i : Nat) : List UInt8 := sumK (putL s 8 ++ putL i 4)
def bytesN (s : Nat) (k : Nat) : List UInt8 := ((List.range k).map (hashAt s)).flatten
theorem bytesN_succ (s k : Nat) : bytesN s k ++ hashAt s k = bytesN s (k + 1) := by simp [bytesN, List.range_succ]
theorem bytesN_len (s : Nat) : ∀ k, (bytesN s k).length = 32 * k
  | 0 => rfl
  | k + 1 => by rw [← bytesN_succ, List.length_append, bytesN_len s k]; unfold hashAt; rw [sumK_len]; omega
def bytesK (seed n : Int) : List UInt8 := (bytesN (seed % 18446744073709551616).toNat ((n.toNat + 31) / 32)).take n.toNat
theorem bytesK_len (seed n : Int) : (bytesK seed n).length = n.toNat := by
  unfold bytesK; rw [List.length_take, bytesN_len]; omega
def byLSt (seed n : Int) (s : Nat) (k : Nat) : St := ⟨ofL [(0, .w (.c (.d (.int .i64 seed)))), (1, .w (.c (.d (.int .i64 n)))), (5, .w (.c (.own 1 1 0 (bytesN s k).length))), (6, .w (.c (.d (.int .i64 (k : Int)))))], hL [(1, .row 1 ((bytesN s k).map bD))], uL [1]⟩
def lp_wbytes_0 : SCode :=
  .seq (.seq (.reg [⟨(some 8), .mv (.t 5), none⟩,
    ⟨(some 9), .len (.t 8), none⟩,
    ⟨(some 10), .mv (.t 1), none⟩,
    ⟨(some 11), .bin .lss (.t 9) (.t 10), none⟩])
  (.cond (.t 11) (.skip)
   (.exit 0)))
  (.seq (.block 1 (.reg [⟨(some 14), .mv (.t 5), none⟩,
     ⟨(some 15), .mv (.t 0), none⟩,
     ⟨(some 16), .conv .u64 (.t 15), none⟩,
     ⟨(some 17), .call 51 [(.t 16), (.k (.c (.d (.int .i64 8))))] none, none⟩,
     ⟨(some 18), .mv (.t 6), none⟩,
     ⟨(some 19), .conv .u64 (.t 18), none⟩,
     ⟨(some 20), .call 51 [(.t 19), (.k (.c (.d (.int .i64 4))))] none, none⟩,
     ⟨(some 21), .bldSl false 2 1 (.sl []) [(0, (.t 17)), (1, (.t 20))], none⟩,
     ⟨(some 22), .call 41 [(.t 21)] none, none⟩,
     ⟨(some 23), .call 61 [(.t 22)] none, none⟩,
     ⟨(some 24), .app false 1 1 (.t 14) (.t 23), none⟩,
     ⟨(some 5), .mv (.t 24), none⟩]))
  (.reg [⟨(some 12), .mv (.t 6), none⟩,
    ⟨(some 13), .bin .add (.t 12) (.k (.c (.d (.int .i64 1)))), none⟩,
    ⟨(some 6), .mv (.t 13), none⟩]))
def sf_wbytes : SFn := ⟨2, 29,
  .seq (.reg [⟨(some 4), .mv (.k (.c .nil)), none⟩])
  (.seq (.reg [⟨(some 7), .bldSl true 0 1 (.int .u8 0) [], none⟩,
    ⟨(some 5), .mv (.t 7), none⟩])
  (.seq (.seq (.reg [⟨(some 6), .mv (.k (.c (.d (.int .i64 0)))), none⟩])
  (.block 0 (.loop lp_wbytes_0)))
  (.seq (.reg [⟨(some 25), .mv (.t 5), none⟩,
    ⟨(some 26), .mv (.t 1), none⟩,
    ⟨(some 27), .max [(.t 26), (.k (.c (.d (.int .i64 0))))], none⟩,
    ⟨(some 28), .slice 1 (.t 25) none (some (.t 27)) none, none⟩,
    ⟨(some 4), .mv (.t 28), none⟩])
  (.ret)))),
  [(4, none)]⟩
theorem cf_wbytes : compFn Tryd.prog { own := [7], comp := [], frz := [], nils := [] } Tryd.f27 = some sf_wbytes := by kernel_rfl
set_option maxHeartbeats 1600000 in
theorem wbytes_f (G : Glob) (seed n : Int) (hn : n ≤ 1099511627776) : Den Tryd.prog G 27 [.int .i64 seed, .int .i64 n] (.w (.c (.fr 1 ((bytesK seed n).map bD)))) := by
  refine den_walk Tryd.func27 cf_wbytes rfl rfl ?_
  obtain ⟨s, hs⟩ : ∃ s : Nat, (seed % 18446744073709551616).toNat = s := ⟨_, rfl⟩
  have hw : IntKind.u64.wrap seed = (s : Int) := by rw [IntKind.wrap_u64, ← hs]; omega
  have hs2 : s < 18446744073709551616 := by omega
  have hK : bytesK seed n = (bytesN s ((n.toNat + 31) / 32)).take n.toNat := by unfold bytesK; rw [hs]
  rw [hK]
  simp only [sf_wbytes, putAll, wx, wy, wz, stV, seval, IntWalk.iteOmega, IntWalk.toNatUp, reduceCtorEq]
  refine loop_st (byLSt seed n s) (fun k => (n.toNat + 31) / 32 - k) (fun k => k ≤ (n.toNat + 31) / 32) 0 (Nat.zero_le _) ?_ ?_
  · refine ent_l (fun _ => 56) ?_ ?_ rfl rfl <;> simp only [wx, wex, wez, stV, seval, IntWalk.iteOmega, IntWalk.toNatUp, reduceCtorEq] <;> rfl
  · intro k hk
    have hl := bytesN_len s k
    by_cases hlt : k < (n.toNat + 31) / 32
    · have hc : ((bytesN s k).length : Int) < n := by omega
      have hj := rjoin_c G [putL s 8, putL k 4] (by simp) (by simp [putL_length])
      have hf : [putL s 8, putL k 4].flatten = putL s 8 ++ putL k 4 := by simp
      rw [hf] at hj
      have hb := bytesN_succ s k
      have hk2 : IntKind.u64.wrap (k : Int) = (k : Int) := u64_in _ (by omega) (by omega)
      simp only [lp_wbytes_0, byLSt, wx, wy, stV, seval, IntWalk.iteOmega, IntWalk.toNatUp, reduceCtorEq, hw, hk2]
      refine st_call (rput_in G s 8 (by decide)) rfl (.inl rfl) ?_
      simp only [wx, wy, stV, seval, IntWalk.iteOmega, IntWalk.toNatUp, reduceCtorEq, hw, hk2]
      refine st_call (rput_in G k 4 (by decide)) rfl (.inl rfl) ?_
      simp only [wx, wy, stV, seval, IntWalk.iteOmega, IntWalk.toNatUp, reduceCtorEq]
      refine st_call hj rfl (.inl rfl) ?_
      simp only [wx, wy, stV, seval, IntWalk.iteOmega, IntWalk.toNatUp, reduceCtorEq]
      refine st_call (rsum_c G (putL s 8 ++ putL k 4) (by simp [putL_length])) rfl (.inl rfl) ?_
      have hh : (sumK (putL s 8 ++ putL k 4)).length = 32 := sumK_len _
      have hb' : bytesN s k ++ sumK (putL s 8 ++ putL k 4) = bytesN s (k + 1) := hb
      simp only [wx, wy, wz, stV, seval, IntWalk.iteOmega, IntWalk.toNatUp, reduceCtorEq, srcV, app_map, hb', hh]
      refine lop_next (k + 1) (by omega) (by omega) (ent_l (fun _ => 192) ?_ ?_ rfl rfl) <;> simp only [wx, wex, wez, stV, seval, IntWalk.iteOmega, IntWalk.toNatUp, reduceCtorEq]
    · obtain rfl : k = (n.toNat + 31) / 32 := by omega
      have hc : ¬ ((bytesN s ((n.toNat + 31) / 32)).length : Int) < n := by omega
      by_cases h0 : n < 0
      · have e0 : n.toNat = 0 := by omega
        simp only [lp_wbytes_0, byLSt, wx, wy, wz, stV, seval, IntWalk.iteOmega, IntWalk.toNatUp, reduceCtorEq, hc, List.foldl_cons, List.foldl_nil]
        rw [e0, List.map_take]
        exact ret_ownN (id := 1) (s := 1) (by simp only [wx, stV, seval, IntWalk.iteOmega, IntWalk.toNatUp, reduceCtorEq]) (by simp only [wx, stV, seval, IntWalk.iteOmega, IntWalk.toNatUp, reduceCtorEq]) (Nat.zero_le _)
      · simp only [lp_wbytes_0, byLSt, wx, wy, wz, stV, seval, IntWalk.iteOmega, IntWalk.toNatUp, reduceCtorEq, hc, List.foldl_cons, List.foldl_nil]
        rw [List.map_take]
        exact ret_ownN (id := 1) (s := 1) (by simp only [wx, stV, seval, IntWalk.iteOmega, IntWalk.toNatUp, reduceCtorEq]) (by simp only [wx, stV, seval, IntWalk.iteOmega, IntWalk.toNatUp, reduceCtorEq]) (by rw [List.length_map, bytesN_len]; omega)
theorem wbytes_c (G : Glob) (seed n : Int) (hn : n ≤ 1099511627776) : Den Tryd.prog G 27 [.int .i64 seed, .int .i64 n] (.w (.c (.d (.sl ((bytesK seed n).map bD))))) := den_ro (wbytes_f G seed n hn)

/-! ### The sanity check -/
theorem abc_hex : hexL (sumK [97, 98, 99]) = [98, 97, 55, 56, 49, 54, 98, 102, 56, 102, 48, 49, 99, 102, 101, 97, 52, 49, 52, 49, 52, 48, 100, 101, 53, 100, 97, 101, 50, 50, 50, 51, 98, 48, 48, 51, 54, 49, 97, 51, 57, 54, 49, 55, 55, 97, 57, 99, 98, 52, 49, 48, 102, 102, 54, 49, 102, 50, 48, 48, 49, 53, 97, 100] := by decide +kernel
end Go.Proofs.YtjgkchmdhicmpaaDoor
set_option linter.unusedVariables false
set_option linter.unusedSimpArgs false
namespace Go.Proofs.YtjgkchmdhicmpaaDoor
open Go.RowKit
theorem fl_by (s : Nat) (l : List UInt8) (k : IntKind) (n : Int) : V.flat (.tup [.c (.fr s (l.map bD)), .c (.d (.int k n))]) = true := by
  have := fl_b s l
  simp only [V.flat, W.flat, List.all_cons, List.all_nil, Bool.and_true] at this ⊢
  rw [this]; rfl
def sf_beq : SFn := ⟨2, 10,
  .seq (.reg [⟨(some 4), .mv (.k (.c (.d (.bool false)))), none⟩])
  (.seq (.reg [⟨(some 5), .mv (.t 0), none⟩,
    ⟨(some 6), .b2s (.t 5), none⟩,
    ⟨(some 7), .mv (.t 1), none⟩,
    ⟨(some 8), .b2s (.t 7), none⟩,
    ⟨(some 9), .bin .eql (.t 6) (.t 8), none⟩,
    ⟨(some 4), .mv (.t 9), none⟩])
  (.ret)),
  [(4, none)]⟩
theorem cf_beq : compFn Tryd.prog { own := [], comp := [], frz := [], nils := [] } Tryd.f107 = some sf_beq := by kernel_rfl
theorem beq_c (G : Glob) (l m : List UInt8) : Den Tryd.prog G 107 [.sl (l.map bD), .sl (m.map bD)] (.w (.c (.d (.bool (l == m))))) := by
  refine den_walk Tryd.func107 cf_beq rfl rfl ?_
  simp only [sf_beq, putAll, wx, stV, seval, IntWalk.iteOmega, IntWalk.toNatUp, reduceCtorEq, ofBs_map, binS_same]
  exact ret_d (by simp only [wx, stV, seval, IntWalk.iteOmega, IntWalk.toNatUp, reduceCtorEq])
def sf_same : SFn := ⟨2, 8,
  .seq (.reg [⟨(some 4), .mv (.k (.c (.d (.bool false)))), none⟩])
  (.seq (.reg [⟨(some 5), .mv (.t 0), none⟩,
    ⟨(some 6), .mv (.t 1), none⟩,
    ⟨(some 7), .call 107 [(.t 5), (.t 6)] none, none⟩,
    ⟨(some 4), .mv (.t 7), none⟩])
  (.ret)),
  [(4, none)]⟩
theorem cf_same : compFn Tryd.prog { own := [], comp := [], frz := [], nils := [] } Tryd.f67 = some sf_same := by kernel_rfl
theorem same_c (G : Glob) (l m : List UInt8) : Den Tryd.prog G 67 [.sl (l.map bD), .sl (m.map bD)] (.w (.c (.d (.bool (l == m))))) := by
  refine den_walk Tryd.func67 cf_same rfl rfl ?_
  simp only [sf_same, putAll, wx, wy, wz, stV, seval, IntWalk.iteOmega, IntWalk.toNatUp, reduceCtorEq]
  refine st_call (beq_c G l m) rfl (.inl rfl) ?_
  simp only [wx, wy, wz, stV, seval, IntWalk.iteOmega, IntWalk.toNatUp, reduceCtorEq]
  exact ret_d1 (by simp only [wx, wy, wz, stV, seval, IntWalk.iteOmega, IntWalk.toNatUp, reduceCtorEq])
end Go.Proofs.YtjgkchmdhicmpaaDoor
