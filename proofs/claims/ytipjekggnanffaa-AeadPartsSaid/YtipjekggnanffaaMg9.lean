/- Texts of one's own, merged: from: Layer 1 on data: Put, Get, Same, Join, Hex: what they return. Own work. -/
import Derived.Test.YtipjekggnanffaaProg
import Derived.Test.YtipjekggnanffaaMg6
set_option linter.unusedVariables false
set_option linter.unusedSimpArgs false
namespace Go.Proofs.Ytipjekggnanffaa
open Go.RowKit

/-! ### Stores of bytes and words -/
theorem stO_bs {l : List UInt8} {i : Nat} {x : D} (hi : i < l.length) (hx : x.one = true) : stO .sc (.c (.d x)) i 0 (.row 1 (l.map bD)) = some (.row 1 ((l.map bD).set i x)) := by
  simp [stO, get_map, List.getElem?_eq_getElem hi, bD, pureW, hx]
theorem stO_ws {l : List UInt32} {i : Nat} {x : D} (hi : i < l.length) (hx : x.one = true) : stO .sc (.c (.d x)) i 0 (.row 1 (l.map wD)) = some (.row 1 ((l.map wD).set i x)) := by
  simp [stO, get_map, List.getElem?_eq_getElem hi, wD, pureW, hx]
theorem set_bs (l : List UInt8) (i : Nat) (x : UInt8) : (l.map bD).set i (bD x) = (l.set i x).map bD := set_map bD l i x
theorem set_ws (l : List UInt32) (i : Nat) (x : UInt32) : (l.map wD).set i (wD x) = (l.set i x).map wD := set_map wD l i x
theorem rep_b (n : Nat) : List.replicate n (D.int .u8 0) = (List.replicate n (0 : UInt8)).map bD := by simp [bD]
theorem rep_w (n : Nat) : List.replicate n (D.int .u32 0) = (List.replicate n (0 : UInt32)).map wD := by simp [wD]

/-! ### Put -/
def putL (v n : Nat) : List UInt8 := (List.range n).map fun i => UInt8.ofNat (v / 256 ^ (n - 1 - i))
def putS (v n m : Nat) : List UInt8 := List.replicate m 0 ++ (putL v n).drop m
def putN (v : Nat) (n : Int) : List UInt8 := if 0 ≤ n ∧ n ≤ 64 then putL v n.toNat else []
theorem putL_length (v n : Nat) : (putL v n).length = n := by simp [putL]
theorem putS_length (v n m : Nat) (h : m ≤ n) : (putS v n m).length = n := by simp [putS, putL_length]; omega
theorem putS_zero (v n : Nat) : putS v n 0 = putL v n := by simp [putS]
theorem putS_full (v n : Nat) : putS v n n = List.replicate n 0 := by simp [putS, putL_length]
theorem putS_step (v n i : Nat) (h : i + 1 ≤ n) : putS v n i = (putS v n (i + 1)).set i (UInt8.ofNat (v / 256 ^ (n - (i + 1)))) := by
  apply List.ext_getElem?
  intro j
  rw [List.getElem?_set]
  have hl : i < (putL v n).length := by rw [putL_length]; omega
  by_cases hj : i = j
  · subst hj
    rw [if_pos rfl, if_pos (by rw [putS_length _ _ _ h]; omega)]
    simp only [putS, List.getElem?_append, List.length_replicate, Nat.lt_irrefl, if_false, Nat.sub_self, List.getElem?_drop, Nat.add_zero]
    rw [List.getElem?_eq_getElem hl]
    simp [putL, Nat.sub_sub, Nat.add_comm 1 i]
  · rw [if_neg hj]
    simp only [putS, List.getElem?_append, List.length_replicate, List.getElem?_replicate, List.getElem?_drop]
    by_cases h1 : j < i
    · rw [if_pos h1, if_pos h1, if_pos (by omega), if_pos (by omega)]
    · rw [if_neg h1, if_neg (by omega)]
      congr 1; omega
theorem byte_of (v : Nat) : D.int .u8 (IntKind.u8.wrap (v : Int)) = bD (UInt8.ofNat v) := by
  rw [IntKind.wrap_u8]
  simp [bD]
def putSt (v n m : Nat) : St := ⟨ofL [(0, .w (.c (.d (.int .u64 ((v / 256 ^ (n - m) : Nat) : Int))))), (5, .w (.c (.own 1 1 0 n))), (6, .w (.c (.d (.int .i64 ((m : Int) - 1)))))], hL [(1, .row 1 ((putS v n m).map bD))], uL [1]⟩

def lp_put_0 : SCode :=
  .seq (.seq (.reg [⟨(some 17), .mv (.t 6), none⟩,
    ⟨(some 18), .bin .geq (.t 17) (.k (.c (.d (.int .i64 0)))), none⟩])
  (.cond (.t 18) (.skip)
   (.exit 0)))
  (.seq (.block 1 (.seq (.reg [⟨(some 21), .mv (.t 5), none⟩,
     ⟨(some 22), .mv (.t 6), none⟩,
     ⟨(some 23), .mv (.t 0), none⟩,
     ⟨(some 24), .conv .u8 (.t 23), none⟩,
     ⟨(some 25), .idxSl 1 (.t 21) (.t 22), none⟩,
     ⟨none, .store .sc (.t 25) (.t 24), none⟩])
   (.reg [⟨(some 26), .mv (.t 0), none⟩,
     ⟨(some 27), .bin .shr (.t 26) (.k (.c (.d (.int .u64 8)))), none⟩,
     ⟨(some 0), .mv (.t 27), none⟩])))
  (.reg [⟨(some 19), .mv (.t 6), none⟩,
    ⟨(some 20), .bin .sub (.t 19) (.k (.c (.d (.int .i64 1)))), none⟩,
    ⟨(some 6), .mv (.t 20), none⟩]))
def sf_put : SFn := ⟨2, 29,
  .seq (.reg [⟨(some 4), .mv (.k (.c .nil)), none⟩])
  (.seq (.seq (.reg [⟨(some 7), .mv (.t 1), none⟩,
    ⟨(some 8), .bin .lss (.t 7) (.k (.c (.d (.int .i64 0)))), none⟩,
    ⟨(some 9), .mv (.t 8), none⟩,
    ⟨(some 10), .mv (.t 1), (some (9, false))⟩,
    ⟨(some 11), .bin .gtr (.t 10) (.k (.c (.d (.int .i64 64)))), (some (9, false))⟩,
    ⟨(some 12), .pick (.t 9) (.k (.c (.d (.bool true)))) (.t 11), none⟩])
  (.cond (.t 12) (.seq (.reg [⟨(some 4), .mv (.k (.c .nil)), none⟩])
   (.ret))
   (.skip)))
  (.seq (.reg [⟨(some 13), .mv (.t 1), none⟩,
    ⟨(some 14), .make 1 1 (.int .u8 0) (.t 13) (.t 13), none⟩,
    ⟨(some 5), .mv (.t 14), none⟩])
  (.seq (.seq (.reg [⟨(some 15), .mv (.t 1), none⟩,
    ⟨(some 16), .bin .sub (.t 15) (.k (.c (.d (.int .i64 1)))), none⟩,
    ⟨(some 6), .mv (.t 16), none⟩])
  (.block 0 (.loop lp_put_0)))
  (.seq (.reg [⟨(some 28), .mv (.t 5), none⟩,
    ⟨(some 4), .mv (.t 28), none⟩])
  (.ret))))),
  [(4, none)]⟩
theorem cf_put : compFn Try.prog { own := [], comp := [], frz := [], nils := [] } Try.f58 = some sf_put := by kernel_rfl
set_option maxHeartbeats 400000 in
theorem put_in (G : Glob) (v n : Nat) (hn : n ≤ 64) : Den Try.prog G 58 [.int .u64 v, .int .i64 n] (.w (.c (.fr 1 ((putL v n).map bD)))) := by
  refine den_walk Try.func58 cf_put rfl rfl ?_
  have e1 : IntKind.i64.wrap ((n : Int) - 1) = (n : Int) - 1 := IntWalk.i64_in _ (by omega)
  simp only [sf_put, putAll, wx, stV, seval, IntWalk.iteOmega, IntWalk.toNatUp, reduceCtorEq, e1]
  refine loop_st (putSt v n) (fun m => m) (fun m => m ≤ n) n (Nat.le_refl _) ?_ ?_
  · refine ent_l (fun _ => 112) ?_ ?_ rfl rfl <;> simp only [wx, wex, stV, seval, IntWalk.iteOmega, IntWalk.toNatUp, reduceCtorEq, putS_full, rep_b, Nat.sub_self, Nat.pow_zero, Nat.div_one]
  · intro m hm
    rcases Nat.eq_zero_or_pos m with rfl | hpos
    · simp only [lp_put_0, putSt, wx, stV, seval, IntWalk.iteOmega, IntWalk.toNatUp, reduceCtorEq, putS_zero]
      refine ret_own (id := 1) (n := n) (s := 1) ?_ ?_ ?_ <;> simp only [wx, stV, seval, IntWalk.iteOmega, IntWalk.toNatUp, reduceCtorEq, putL_length]
    · obtain ⟨i, rfl⟩ : ∃ i, m = i + 1 := ⟨m - 1, by omega⟩
      have e2 : ((i + 1 : Nat) : Int) - 1 = (i : Int) := by omega
      have hlt : i < (putS v n (i + 1)).length := by rw [putS_length _ _ _ hm]; omega
      have e3 : IntKind.i64.wrap ((i : Int) - 1) = (i : Int) - 1 := IntWalk.i64_in _ (by omega)
      simp only [lp_put_0, putSt, wx, stV, seval, IntWalk.iteOmega, IntWalk.toNatUp, reduceCtorEq, e2, e3, Nat.zero_add, Nat.add_zero, byte_of, stO_bs hlt (one_b _), set_bs, ← putS_step _ _ _ hm, IntKind.bits]
      refine lop_next i (by omega) (by omega) (ent_l id ?_ ?_ rfl rfl) <;> simp only [wx, wex, stV, seval, IntWalk.iteOmega, IntWalk.toNatUp, reduceCtorEq]
      have e4 : v / 256 ^ (n - (i + 1)) / 256 = v / 256 ^ (n - i) := by
        rw [show n - i = n - (i + 1) + 1 by omega, Nat.pow_succ, ← Nat.div_div_eq_div_mul]
      simpa using congrArg (Nat.cast : Nat → Int) e4
theorem put_c (G : Glob) (v : Nat) (n : Int) : Den Try.prog G 58 [.int .u64 v, .int .i64 n] (.w (.c (.fr 1 ((putN v n).map bD)))) := by
  unfold putN
  by_cases h : 0 ≤ n ∧ n ≤ 64
  · rw [if_pos h]
    obtain ⟨n, rfl⟩ := Int.eq_ofNat_of_zero_le h.1
    exact put_in G v n (by omega)
  · rw [if_neg h]
    refine den_walk Try.func58 cf_put rfl rfl ?_
    by_cases h0 : n < 0
    · simp only [sf_put, putAll, wx, stV, seval, IntWalk.iteOmega, IntWalk.toNatUp, reduceCtorEq]
      exact ret_nil (by simp [wx, stV, seval, IntWalk.iteOmega, IntWalk.toNatUp, reduceCtorEq])
    · have h1 : 64 < n := by omega
      simp only [sf_put, putAll, wx, stV, seval, IntWalk.iteOmega, IntWalk.toNatUp, reduceCtorEq]
      exact ret_nil (by simp [wx, stV, seval, IntWalk.iteOmega, IntWalk.toNatUp, reduceCtorEq])
def lp_rput_0 : SCode :=
  .seq (.seq (.reg [⟨(some 17), .mv (.t 6), none⟩,
    ⟨(some 18), .bin .geq (.t 17) (.k (.c (.d (.int .i64 0)))), none⟩])
  (.cond (.t 18) (.skip)
   (.exit 0)))
  (.seq (.block 1 (.seq (.reg [⟨(some 21), .mv (.t 5), none⟩,
     ⟨(some 22), .mv (.t 6), none⟩,
     ⟨(some 23), .mv (.t 0), none⟩,
     ⟨(some 24), .conv .u8 (.t 23), none⟩,
     ⟨(some 25), .idxSl 1 (.t 21) (.t 22), none⟩,
     ⟨none, .store .sc (.t 25) (.t 24), none⟩])
   (.reg [⟨(some 26), .mv (.t 0), none⟩,
     ⟨(some 27), .bin .shr (.t 26) (.k (.c (.d (.int .u64 8)))), none⟩,
     ⟨(some 0), .mv (.t 27), none⟩])))
  (.reg [⟨(some 19), .mv (.t 6), none⟩,
    ⟨(some 20), .bin .sub (.t 19) (.k (.c (.d (.int .i64 1)))), none⟩,
    ⟨(some 6), .mv (.t 20), none⟩]))
def sf_rput : SFn := ⟨2, 29,
  .seq (.reg [⟨(some 4), .mv (.k (.c .nil)), none⟩])
  (.seq (.seq (.reg [⟨(some 7), .mv (.t 1), none⟩,
    ⟨(some 8), .bin .lss (.t 7) (.k (.c (.d (.int .i64 0)))), none⟩,
    ⟨(some 9), .mv (.t 8), none⟩,
    ⟨(some 10), .mv (.t 1), (some (9, false))⟩,
    ⟨(some 11), .bin .gtr (.t 10) (.k (.c (.d (.int .i64 64)))), (some (9, false))⟩,
    ⟨(some 12), .pick (.t 9) (.k (.c (.d (.bool true)))) (.t 11), none⟩])
  (.cond (.t 12) (.seq (.reg [⟨(some 4), .mv (.k (.c .nil)), none⟩])
   (.ret))
   (.skip)))
  (.seq (.reg [⟨(some 13), .mv (.t 1), none⟩,
    ⟨(some 14), .make 1 1 (.int .u8 0) (.t 13) (.t 13), none⟩,
    ⟨(some 5), .mv (.t 14), none⟩])
  (.seq (.seq (.reg [⟨(some 15), .mv (.t 1), none⟩,
    ⟨(some 16), .bin .sub (.t 15) (.k (.c (.d (.int .i64 1)))), none⟩,
    ⟨(some 6), .mv (.t 16), none⟩])
  (.block 0 (.loop lp_rput_0)))
  (.seq (.reg [⟨(some 28), .mv (.t 5), none⟩,
    ⟨(some 4), .mv (.t 28), none⟩])
  (.ret))))),
  [(4, none)]⟩
theorem cf_rput : compFn Try.prog { own := [], comp := [], frz := [], nils := [] } Try.f41 = some sf_rput := by kernel_rfl
set_option maxHeartbeats 400000 in
theorem rput_in (G : Glob) (v n : Nat) (hn : n ≤ 64) : Den Try.prog G 41 [.int .u64 v, .int .i64 n] (.w (.c (.fr 1 ((putL v n).map bD)))) := by
  refine den_walk Try.func41 cf_rput rfl rfl ?_
  have e1 : IntKind.i64.wrap ((n : Int) - 1) = (n : Int) - 1 := IntWalk.i64_in _ (by omega)
  simp only [sf_rput, putAll, wx, stV, seval, IntWalk.iteOmega, IntWalk.toNatUp, reduceCtorEq, e1]
  refine loop_st (putSt v n) (fun m => m) (fun m => m ≤ n) n (Nat.le_refl _) ?_ ?_
  · refine ent_l (fun _ => 112) ?_ ?_ rfl rfl <;> simp only [wx, wex, stV, seval, IntWalk.iteOmega, IntWalk.toNatUp, reduceCtorEq, putS_full, rep_b, Nat.sub_self, Nat.pow_zero, Nat.div_one]
  · intro m hm
    rcases Nat.eq_zero_or_pos m with rfl | hpos
    · simp only [lp_rput_0, putSt, wx, stV, seval, IntWalk.iteOmega, IntWalk.toNatUp, reduceCtorEq, putS_zero]
      refine ret_own (id := 1) (n := n) (s := 1) ?_ ?_ ?_ <;> simp only [wx, stV, seval, IntWalk.iteOmega, IntWalk.toNatUp, reduceCtorEq, putL_length]
    · obtain ⟨i, rfl⟩ : ∃ i, m = i + 1 := ⟨m - 1, by omega⟩
      have e2 : ((i + 1 : Nat) : Int) - 1 = (i : Int) := by omega
      have hlt : i < (putS v n (i + 1)).length := by rw [putS_length _ _ _ hm]; omega
      have e3 : IntKind.i64.wrap ((i : Int) - 1) = (i : Int) - 1 := IntWalk.i64_in _ (by omega)
      simp only [lp_rput_0, putSt, wx, stV, seval, IntWalk.iteOmega, IntWalk.toNatUp, reduceCtorEq, e2, e3, Nat.zero_add, Nat.add_zero, byte_of, stO_bs hlt (one_b _), set_bs, ← putS_step _ _ _ hm, IntKind.bits]
      refine lop_next i (by omega) (by omega) (ent_l id ?_ ?_ rfl rfl) <;> simp only [wx, wex, stV, seval, IntWalk.iteOmega, IntWalk.toNatUp, reduceCtorEq]
      have e4 : v / 256 ^ (n - (i + 1)) / 256 = v / 256 ^ (n - i) := by
        rw [show n - i = n - (i + 1) + 1 by omega, Nat.pow_succ, ← Nat.div_div_eq_div_mul]
      simpa using congrArg (Nat.cast : Nat → Int) e4
theorem rput_c (G : Glob) (v : Nat) (n : Int) : Den Try.prog G 41 [.int .u64 v, .int .i64 n] (.w (.c (.fr 1 ((putN v n).map bD)))) := by
  unfold putN
  by_cases h : 0 ≤ n ∧ n ≤ 64
  · rw [if_pos h]
    obtain ⟨n, rfl⟩ := Int.eq_ofNat_of_zero_le h.1
    exact rput_in G v n (by omega)
  · rw [if_neg h]
    refine den_walk Try.func41 cf_rput rfl rfl ?_
    by_cases h0 : n < 0
    · simp only [sf_rput, putAll, wx, stV, seval, IntWalk.iteOmega, IntWalk.toNatUp, reduceCtorEq]
      exact ret_nil (by simp [wx, stV, seval, IntWalk.iteOmega, IntWalk.toNatUp, reduceCtorEq])
    · have h1 : 64 < n := by omega
      simp only [sf_rput, putAll, wx, stV, seval, IntWalk.iteOmega, IntWalk.toNatUp, reduceCtorEq]
      exact ret_nil (by simp [wx, stV, seval, IntWalk.iteOmega, IntWalk.toNatUp, reduceCtorEq])

/-! ### Same -/
theorem toList_mk (l : List UInt8) : (⟨l.toArray⟩ : ByteArray).toList = l := Go.ByteArray.toList_mk l
theorem binS_same (l m : List UInt8) : binS .eql ⟨l.toArray⟩ ⟨m.toArray⟩ = some (.bool (l == m)) := by
  simp only [binS, toList_mk]
def sf_rsame : SFn := ⟨2, 10,
  .seq (.reg [⟨(some 4), .mv (.k (.c (.d (.bool false)))), none⟩])
  (.seq (.reg [⟨(some 5), .mv (.t 0), none⟩,
    ⟨(some 6), .b2s (.t 5), none⟩,
    ⟨(some 7), .mv (.t 1), none⟩,
    ⟨(some 8), .b2s (.t 7), none⟩,
    ⟨(some 9), .bin .eql (.t 6) (.t 8), none⟩,
    ⟨(some 4), .mv (.t 9), none⟩])
  (.ret)),
  [(4, none)]⟩
theorem cf_rsame : compFn Try.prog { own := [], comp := [], frz := [], nils := [] } Try.f15 = some sf_rsame := by kernel_rfl
theorem rsame_c (G : Glob) (l m : List UInt8) : Den Try.prog G 15 [.sl (l.map bD), .sl (m.map bD)] (.w (.c (.d (.bool (l == m))))) := by
  refine den_walk Try.func15 cf_rsame rfl rfl ?_
  simp only [sf_rsame, putAll, wx, stV, seval, IntWalk.iteOmega, IntWalk.toNatUp, reduceCtorEq, ofBs_map, binS_same]
  exact ret_d (by simp only [wx, stV, seval, IntWalk.iteOmega, IntWalk.toNatUp, reduceCtorEq])

/-! ### Join -/
def lD (ls : List (List UInt8)) : D := .sl (ls.map fun l => .sl (l.map bD))
theorem sl_cells (es : List D) : D.cells (.sl es) = [.sl es] := rfl
theorem allSz_ls (ls : List (List UInt8)) : allSz 1 (ls.map fun l => D.sl (l.map bD)) = true := allSz_map _ (fun _ => rfl) ls
def rjoinSt (ls : List (List UInt8)) (i : Nat) : St := ⟨ofL [(0, .w (.c (.d (.sl (ls.map fun l => D.sl (l.map bD)))))), (3, .w (.c (.own 1 1 0 ((ls.take i).flatten).length))), (4, .w (.c (.d (.int .i64 (i : Int)))))], hL [(1, .row 1 (((ls.take i).flatten).map bD))], uL [1]⟩
theorem take_flat {α : Type} (ls : List (List α)) (i : Nat) (h : i < ls.length) : (ls.take (i + 1)).flatten = (ls.take i).flatten ++ ls[i] := by
  rw [List.take_succ_eq_append_getElem h, List.flatten_append]; simp
theorem flat_le {α : Type} (ls : List (List α)) (i : Nat) (h : i < ls.length) : (ls.take i).flatten.length + ls[i].length ≤ ls.flatten.length := by
  have h1 := take_flat ls i h
  have h2 : ls.flatten = (ls.take (i + 1)).flatten ++ (ls.drop (i + 1)).flatten := by rw [← List.flatten_append, List.take_append_drop]
  have h3 := congrArg List.length h2
  rw [List.length_append, h1, List.length_append] at h3
  omega
def lp_rjoin_0 : SCode :=
  .seq (.seq (.reg [⟨(some 6), .mv (.t 4), none⟩,
    ⟨(some 7), .mv (.t 0), none⟩,
    ⟨(some 8), .len (.t 7), none⟩,
    ⟨(some 9), .bin .lss (.t 6) (.t 8), none⟩])
  (.cond (.t 9) (.skip)
   (.exit 0)))
  (.seq (.block 1 (.reg [⟨(some 12), .mv (.t 3), none⟩,
     ⟨(some 13), .mv (.t 0), none⟩,
     ⟨(some 14), .mv (.t 4), none⟩,
     ⟨(some 15), .idxSl 1 (.t 13) (.t 14), none⟩,
     ⟨(some 16), .load .sc (.t 15), none⟩,
     ⟨(some 17), .app false 1 1 (.t 12) (.t 16), none⟩,
     ⟨(some 3), .mv (.t 17), none⟩]))
  (.reg [⟨(some 10), .mv (.t 4), none⟩,
    ⟨(some 11), .bin .add (.t 10) (.k (.c (.d (.int .i64 1)))), none⟩,
    ⟨(some 4), .mv (.t 11), none⟩]))
def sf_rjoin : SFn := ⟨1, 19,
  .seq (.reg [⟨(some 2), .mv (.k (.c .nil)), none⟩])
  (.seq (.reg [⟨(some 5), .bldSl true 0 1 (.int .u8 0) [], none⟩,
    ⟨(some 3), .mv (.t 5), none⟩])
  (.seq (.seq (.reg [⟨(some 4), .mv (.k (.c (.d (.int .i64 0)))), none⟩])
  (.block 0 (.loop lp_rjoin_0)))
  (.seq (.reg [⟨(some 18), .mv (.t 3), none⟩,
    ⟨(some 2), .mv (.t 18), none⟩])
  (.ret)))),
  [(2, none)]⟩
theorem cf_rjoin : compFn Try.prog { own := [5], comp := [], frz := [], nils := [] } Try.f19 = some sf_rjoin := by kernel_rfl
set_option maxHeartbeats 400000 in
theorem rjoin_c (G : Glob) (ls : List (List UInt8)) (hl : ls.length ≤ 9223372036854775807) (hf : ls.flatten.length ≤ 140737488355328) : Den Try.prog G 19 [.sl (ls.map fun l => D.sl (l.map bD))] (.w (.c (.fr 1 (ls.flatten.map bD)))) := by
  refine den_walk Try.func19 cf_rjoin rfl rfl ?_
  simp only [sf_rjoin, putAll, wx, stV, seval, IntWalk.iteOmega, IntWalk.toNatUp, reduceCtorEq]
  refine loop_st (rjoinSt ls) (fun i => ls.length - i) (fun i => i ≤ ls.length) 0 (Nat.zero_le _) ?_ ?_
  · refine ent_l (fun _ => 40) ?_ ?_ rfl rfl <;> simp only [wx, wex, stV, seval, IntWalk.iteOmega, IntWalk.toNatUp, reduceCtorEq]
  · intro i hi
    by_cases hlt : i < ls.length
    · have e2 : ls[i]? = some ls[i] := List.getElem?_eq_getElem hlt
      have e4 : IntKind.i64.wrap ((i : Int) + 1) = ((i + 1 : Nat) : Int) := by rw [IntWalk.i64_in _ (by omega)]; rfl
      have h5 := flat_le ls i hlt
      simp only [lp_rjoin_0, rjoinSt, wx, stV, seval, IntWalk.iteOmega, IntWalk.toNatUp, reduceCtorEq, get_map, e2, e4, Nat.mul_one, srcV]
      refine lop_next (i + 1) (by omega) (by omega) (ent_l (fun _ => 136) ?_ ?_ rfl rfl) <;> simp only [wx, wex, stV, seval, IntWalk.iteOmega, IntWalk.toNatUp, reduceCtorEq, take_flat ls i hlt]
    · have : ls.take i = ls := List.take_of_length_le (by omega)
      simp only [lp_rjoin_0, rjoinSt, wx, stV, seval, IntWalk.iteOmega, IntWalk.toNatUp, reduceCtorEq, this]
      refine ret_own (id := 1) (n := ls.flatten.length) (s := 1) ?_ ?_ ?_ <;> simp only [wx, stV, seval, IntWalk.iteOmega, IntWalk.toNatUp, reduceCtorEq]

def joinSt1 (ls : List (List UInt8)) (i : Nat) : St := ⟨ofL [(0, .w (.c (.d (.sl (ls.map fun l => D.sl (l.map bD)))))), (3, .w (.c (.d (.int .i64 (((ls.take i).flatten).length : Int))))), (9, .w (.c (.d (.sl (ls.map fun l => D.sl (l.map bD)))))), (10, .w (.c (.d (.int .i64 (ls.length : Int))))), (11, .w (.c (.d (.int .i64 (i : Int)))))], hL [], uL []⟩
def joinSt2 (ls : List (List UInt8)) (i : Nat) : St := ⟨ofL [(6, .w (.c (.own 1 1 0 ((ls.take i).flatten).length))), (22, .w (.c (.d (.sl (ls.map fun l => D.sl (l.map bD)))))), (23, .w (.c (.d (.int .i64 (ls.length : Int))))), (24, .w (.c (.d (.int .i64 (i : Int)))))], hL [(1, .row 1 (((ls.take i).flatten).map bD))], uL [1]⟩
def lp_join_0 : SCode :=
  .seq (.reg [⟨(some 12), .bin .lss (.t 11) (.t 10), none⟩])
  (.seq (.cond (.t 12) (.skip)
   (.exit 0))
  (.seq (.block 1 (.seq (.reg [⟨(some 13), .idxSl 1 (.t 9) (.t 11), none⟩,
     ⟨(some 14), .load .sc (.t 13), none⟩,
     ⟨(some 5), .mv (.t 14), none⟩])
   (.reg [⟨(some 15), .mv (.t 3), none⟩,
     ⟨(some 16), .mv (.t 5), none⟩,
     ⟨(some 17), .len (.t 16), none⟩,
     ⟨(some 18), .bin .add (.t 15) (.t 17), none⟩,
     ⟨(some 3), .mv (.t 18), none⟩])))
  (.reg [⟨(some 19), .bin .add (.t 11) (.k (.c (.d (.int .i64 1)))), none⟩,
    ⟨(some 11), .mv (.t 19), none⟩])))
def lp_join_1 : SCode :=
  .seq (.reg [⟨(some 25), .bin .lss (.t 24) (.t 23), none⟩])
  (.seq (.cond (.t 25) (.skip)
   (.exit 2))
  (.seq (.block 3 (.seq (.reg [⟨(some 26), .idxSl 1 (.t 22) (.t 24), none⟩,
     ⟨(some 27), .load .sc (.t 26), none⟩,
     ⟨(some 8), .mv (.t 27), none⟩])
   (.reg [⟨(some 28), .mv (.t 6), none⟩,
     ⟨(some 29), .mv (.t 8), none⟩,
     ⟨(some 30), .app false 1 1 (.t 28) (.t 29), none⟩,
     ⟨(some 6), .mv (.t 30), none⟩])))
  (.reg [⟨(some 31), .bin .add (.t 24) (.k (.c (.d (.int .i64 1)))), none⟩,
    ⟨(some 24), .mv (.t 31), none⟩])))
def sf_join : SFn := ⟨1, 33,
  .seq (.reg [⟨(some 2), .mv (.k (.c .nil)), none⟩])
  (.seq (.reg [⟨(some 3), .mv (.k (.c (.d (.int .i64 0)))), none⟩])
  (.seq (.seq (.reg [⟨(some 9), .mv (.t 0), none⟩,
    ⟨(some 10), .len (.t 9), none⟩,
    ⟨(some 11), .mv (.k (.c (.d (.int .i64 0)))), none⟩])
  (.block 0 (.loop lp_join_0)))
  (.seq (.reg [⟨(some 20), .mv (.t 3), none⟩,
    ⟨(some 21), .make 1 1 (.int .u8 0) (.k (.c (.d (.int .i64 0)))) (.t 20), none⟩,
    ⟨(some 6), .mv (.t 21), none⟩])
  (.seq (.seq (.reg [⟨(some 22), .mv (.t 0), none⟩,
    ⟨(some 23), .len (.t 22), none⟩,
    ⟨(some 24), .mv (.k (.c (.d (.int .i64 0)))), none⟩])
  (.block 2 (.loop lp_join_1)))
  (.seq (.reg [⟨(some 32), .mv (.t 6), none⟩,
    ⟨(some 2), .mv (.t 32), none⟩])
  (.ret)))))),
  [(2, none)]⟩
theorem cf_join : compFn Try.prog { own := [], comp := [], frz := [], nils := [] } Try.f29 = some sf_join := by kernel_rfl
set_option maxHeartbeats 400000 in
theorem join_c (G : Glob) (ls : List (List UInt8)) (hl : ls.length ≤ 9223372036854775807) (hf : ls.flatten.length ≤ 140737488355328) : Den Try.prog G 29 [.sl (ls.map fun l => D.sl (l.map bD))] (.w (.c (.fr 1 (ls.flatten.map bD)))) := by
  refine den_walk Try.func29 cf_join rfl rfl ?_
  simp only [sf_join, putAll, wx, stV, seval, IntWalk.iteOmega, IntWalk.toNatUp, reduceCtorEq]
  refine loop_st (joinSt1 ls) (fun i => ls.length - i) (fun i => i ≤ ls.length) 0 (Nat.zero_le _) ?_ ?_
  · refine ent_l id ?_ ?_ rfl rfl <;> simp only [wx, wex, stV, seval, IntWalk.iteOmega, IntWalk.toNatUp, reduceCtorEq]
  · intro i hi
    by_cases hlt : i < ls.length
    · have e2 : ls[i]? = some ls[i] := List.getElem?_eq_getElem hlt
      have e4 : IntKind.i64.wrap ((i : Int) + 1) = ((i + 1 : Nat) : Int) := by rw [IntWalk.i64_in _ (by omega)]; rfl
      have h5 := flat_le ls i hlt
      have e5 : IntKind.i64.wrap (((ls.take i).flatten.length : Int) + (ls[i].length : Int)) = (((ls.take (i + 1)).flatten.length : Nat) : Int) := by
        rw [take_flat ls i hlt, List.length_append, IntWalk.i64_in _ (by omega)]; rfl
      simp only [lp_join_0, joinSt1, wx, stV, seval, IntWalk.iteOmega, IntWalk.toNatUp, reduceCtorEq, get_map, e2, e4, e5]
      refine lop_next (i + 1) (by omega) (by omega) (ent_l id ?_ ?_ rfl rfl) <;> simp only [wx, wex, stV, seval, IntWalk.iteOmega, IntWalk.toNatUp, reduceCtorEq]
    · have : ls.take i = ls := List.take_of_length_le (by omega)
      simp only [lp_join_0, joinSt1, wx, stV, seval, IntWalk.iteOmega, IntWalk.toNatUp, reduceCtorEq, this, Nat.mul_one]
      refine loop_st (joinSt2 ls) (fun i => ls.length - i) (fun i => i ≤ ls.length) 0 (Nat.zero_le _) ?_ ?_
      · refine ent_l (fun _ => 168) ?_ ?_ rfl rfl <;> simp only [wx, wex, stV, seval, IntWalk.iteOmega, IntWalk.toNatUp, reduceCtorEq]
      · intro i hi
        by_cases hlt : i < ls.length
        · have e2 : ls[i]? = some ls[i] := List.getElem?_eq_getElem hlt
          have e4 : IntKind.i64.wrap ((i : Int) + 1) = ((i + 1 : Nat) : Int) := by rw [IntWalk.i64_in _ (by omega)]; rfl
          have h5 := flat_le ls i hlt
          simp only [lp_join_1, joinSt2, wx, stV, seval, IntWalk.iteOmega, IntWalk.toNatUp, reduceCtorEq, get_map, e2, e4, Nat.mul_one, srcV]
          refine lop_next (i + 1) (by omega) (by omega) (ent_l (fun _ => 240) ?_ ?_ rfl rfl) <;> simp only [wx, wex, stV, seval, IntWalk.iteOmega, IntWalk.toNatUp, reduceCtorEq, take_flat ls i hlt]
        · have : ls.take i = ls := List.take_of_length_le (by omega)
          simp only [lp_join_1, joinSt2, wx, stV, seval, IntWalk.iteOmega, IntWalk.toNatUp, reduceCtorEq, this]
          refine ret_own (id := 1) (n := ls.flatten.length) (s := 1) ?_ ?_ ?_ <;> simp only [wx, stV, seval, IntWalk.iteOmega, IntWalk.toNatUp, reduceCtorEq]

/-! ### Get -/
def getN (l : List UInt8) : Nat := l.foldl (fun a x => (a * 256 + x.toNat) % 18446744073709551616) 0
theorem getN_lt (l : List UInt8) : getN l < 18446744073709551616 := by
  unfold getN
  rcases List.eq_nil_or_concat l with rfl | ⟨a, x, rfl⟩
  · simp
  · simp only [List.concat_eq_append, List.foldl_append, List.foldl_cons, List.foldl_nil]; omega
theorem u64_in (n : Int) (h₀ : 0 ≤ n) (h₁ : n < 2 ^ 64) : IntKind.u64.wrap n = n := by rw [IntKind.wrap_u64]; omega
theorem getN_snoc (a : List UInt8) (x : UInt8) : bits .or .u64 (IntKind.u64.wrap ((getN a : Int) * 256)) (x.toNat : Int) = (getN (a ++ [x]) : Int) := by
  have hx : x.toNat < 256 := x.toNat_lt
  have h1 := bits_join .u64 64 (by decide) u64_in 8 (IntKind.u64.wrap ((getN a : Int) * 256)) (x.toNat : Int)
    (by rw [IntKind.wrap_u64]; omega) (by rw [IntKind.wrap_u64]; omega) (by rw [IntKind.wrap_u64]; omega) (by omega) (by omega) (by omega)
  rw [h1, IntKind.wrap_u64]
  simp only [getN, List.foldl_append, List.foldl_cons, List.foldl_nil]
  omega
theorem getN_take (l : List UInt8) (j : Nat) (h : j < l.length) : bits .or .u64 (IntKind.u64.wrap ((getN (l.take j) : Int) * 256)) (l[j].toNat : Int) = (getN (l.take (j + 1)) : Int) := by
  rw [getN_snoc, List.take_succ_eq_append_getElem h]
theorem getN_app (a b : List UInt8) : getN (a ++ b) = (getN a * 256 ^ b.length + getN b) % 18446744073709551616 := by
  have key : ∀ (n : Nat) (b : List UInt8), b.length = n → getN (a ++ b) = (getN a * 256 ^ n + getN b) % 18446744073709551616 := by
    intro n
    induction n with
    | zero =>
      intro b hb
      have : b = [] := List.eq_nil_of_length_eq_zero hb
      subst this
      have h0 : getN [] = 0 := rfl
      rw [List.append_nil, Nat.pow_zero, h0]
      have := getN_lt a
      omega
    | succ n ih =>
      intro b hb
      rcases List.eq_nil_or_concat b with rfl | ⟨c, x, rfl⟩
      · simp at hb
      · rw [List.concat_eq_append] at hb ⊢
        rw [← List.append_assoc]
        have h1 : ∀ l : List UInt8, getN (l ++ [x]) = (getN l * 256 + x.toNat) % 18446744073709551616 := fun l => by simp [getN]
        rw [h1, h1, ih c (by simpa using hb), Nat.pow_succ]
        generalize getN a = p
        generalize getN c = q
        generalize 256 ^ n = r
        have e : p * (r * 256) = p * r * 256 := by rw [Nat.mul_assoc]
        rw [e]
        generalize p * r = z
        omega
  exact key _ b rfl
theorem getN_tail (l : List UInt8) (h : 8 < l.length) : getN (l.drop (l.length - 8)) = getN l := by
  have h1 := getN_app (l.take (l.length - 8)) (l.drop (l.length - 8))
  rw [List.take_append_drop] at h1
  have h2 : (l.drop (l.length - 8)).length = 8 := by rw [List.length_drop]; omega
  rw [h2] at h1
  have h3 := getN_lt (l.drop (l.length - 8))
  rw [h1]
  have : (256 : Nat) ^ 8 = 18446744073709551616 := by decide
  rw [this]
  omega
def getSt (l : List UInt8) (i : Nat) : St := ⟨ofL [(3, .w (.c (.d (.int .u64 (getN (l.take i)))))), (14, .w (.c (.d (.sl (l.map bD))))), (15, .w (.c (.d (.int .i64 (l.length : Int))))), (16, .w (.c (.d (.int .i64 (i : Int)))))], hL [], uL []⟩

/-! ### Hex -/
def hexD (n : Nat) : UInt8 := if n < 10 then UInt8.ofNat (48 + n) else UInt8.ofNat (87 + n)
def hexL (l : List UInt8) : List UInt8 := l.flatMap fun b => [hexD (b.toNat / 16), hexD (b.toNat % 16)]
theorem hex_size : (⟨#[48, 49, 50, 51, 52, 53, 54, 55, 56, 57, 97, 98, 99, 100, 101, 102]⟩ : ByteArray).size = 16 := rfl
theorem hex_get (j : Nat) (h : j < 16) : (⟨#[48, 49, 50, 51, 52, 53, 54, 55, 56, 57, 97, 98, 99, 100, 101, 102]⟩ : ByteArray).data.toList[j]? = some (hexD j) := by
  have : ∀ j : Fin 16, (⟨#[48, 49, 50, 51, 52, 53, 54, 55, 56, 57, 97, 98, 99, 100, 101, 102]⟩ : ByteArray).data.toList[j.val]? = some (hexD j.val) := by decide
  exact this ⟨j, h⟩
theorem app_b1 (l : List UInt8) (a : UInt8) : l.map bD ++ [bD a] = (l ++ [a]).map bD := by simp
theorem app_b2 (l : List UInt8) (a b : UInt8) : l.map bD ++ [bD a, bD b] = (l ++ [a, b]).map bD := by simp
theorem hexL_len (l : List UInt8) : (hexL l).length = 2 * l.length := by
  induction l with
  | nil => rfl
  | cons b l ih =>
    have : hexL (b :: l) = [hexD (b.toNat / 16), hexD (b.toNat % 16)] ++ hexL l := rfl
    rw [this, List.length_append, ih]; simp; omega
theorem hexL_snoc (l : List UInt8) (i : Nat) (h : i < l.length) : hexL (l.take i) ++ [hexD (l[i].toNat / 16), hexD (l[i].toNat % 16)] = hexL (l.take (i + 1)) := by
  rw [List.take_succ_eq_append_getElem h]
  unfold hexL
  rw [List.flatMap_append]
  rfl
def hexSt (l : List UInt8) (i : Nat) : St := ⟨ofL [(3, .w (.c (.own 1 1 0 (hexL (l.take i)).length))), (10, .w (.c (.d (.sl (l.map bD))))), (11, .w (.c (.d (.int .i64 (l.length : Int))))), (12, .w (.c (.d (.int .i64 (i : Int)))))], hL [(1, .row 1 ((hexL (l.take i)).map bD))], uL [1]⟩
def lp_hex_0 : SCode :=
  .seq (.reg [⟨(some 13), .bin .lss (.t 12) (.t 11), none⟩])
  (.seq (.cond (.t 13) (.skip)
   (.exit 0))
  (.seq (.block 1 (.seq (.reg [⟨(some 14), .idxSl 1 (.t 10) (.t 12), none⟩,
     ⟨(some 15), .load .sc (.t 14), none⟩,
     ⟨(some 5), .mv (.t 15), none⟩])
   (.reg [⟨(some 16), .mv (.t 3), none⟩,
     ⟨(some 17), .mv (.t 5), none⟩,
     ⟨(some 18), .bin .shr (.t 17) (.k (.c (.d (.int .u64 4)))), none⟩,
     ⟨(some 19), .idxStr (.k (.c (.d (.str ⟨#[48, 49, 50, 51, 52, 53, 54, 55, 56, 57, 97, 98, 99, 100, 101, 102]⟩)))) (.t 18), none⟩,
     ⟨(some 20), .mv (.t 5), none⟩,
     ⟨(some 21), .bin .and (.t 20) (.k (.c (.d (.int .u8 15)))), none⟩,
     ⟨(some 22), .idxStr (.k (.c (.d (.str ⟨#[48, 49, 50, 51, 52, 53, 54, 55, 56, 57, 97, 98, 99, 100, 101, 102]⟩)))) (.t 21), none⟩,
     ⟨(some 23), .bldSl false 2 1 (.int .u8 0) [(0, (.t 19)), (1, (.t 22))], none⟩,
     ⟨(some 24), .app false 1 1 (.t 16) (.t 23), none⟩,
     ⟨(some 3), .mv (.t 24), none⟩])))
  (.reg [⟨(some 25), .bin .add (.t 12) (.k (.c (.d (.int .i64 1)))), none⟩,
    ⟨(some 12), .mv (.t 25), none⟩])))
def sf_hex : SFn := ⟨1, 28,
  .seq (.reg [⟨(some 2), .mv (.k (.c (.d (.str ⟨#[]⟩)))), none⟩])
  (.seq (.reg [⟨(some 6), .mv (.t 0), none⟩,
    ⟨(some 7), .len (.t 6), none⟩,
    ⟨(some 8), .bin .mul (.k (.c (.d (.int .i64 2)))) (.t 7), none⟩,
    ⟨(some 9), .make 1 1 (.int .u8 0) (.k (.c (.d (.int .i64 0)))) (.t 8), none⟩,
    ⟨(some 3), .mv (.t 9), none⟩])
  (.seq (.seq (.reg [⟨(some 10), .mv (.t 0), none⟩,
    ⟨(some 11), .len (.t 10), none⟩,
    ⟨(some 12), .mv (.k (.c (.d (.int .i64 0)))), none⟩])
  (.block 0 (.loop lp_hex_0)))
  (.seq (.reg [⟨(some 26), .mv (.t 3), none⟩,
    ⟨(some 27), .b2s (.t 26), none⟩,
    ⟨(some 2), .mv (.t 27), none⟩])
  (.ret)))),
  [(2, none)]⟩
theorem cf_hex : compFn Try.prog { own := [], comp := [], frz := [], nils := [] } Try.f24 = some sf_hex := by kernel_rfl
set_option maxHeartbeats 400000 in
theorem hex_c (G : Glob) (l : List UInt8) (hl : l.length ≤ 1099511627776) : Den Try.prog G 24 [.sl (l.map bD)] (.w (.c (.d (.str ⟨(hexL l).toArray⟩)))) := by
  refine den_walk Try.func24 cf_hex rfl rfl ?_
  have e0 : IntKind.i64.wrap (2 * (l.length : Int)) = 2 * (l.length : Int) := IntWalk.i64_in _ (by omega)
  simp only [sf_hex, putAll, wx, stV, seval, IntWalk.iteOmega, IntWalk.toNatUp, reduceCtorEq, e0]
  refine loop_st (hexSt l) (fun i => l.length - i) (fun i => i ≤ l.length) 0 (Nat.zero_le _) ?_ ?_
  · refine ent_l (fun _ => 72) ?_ ?_ rfl rfl <;> simp only [wx, wex, stV, seval, IntWalk.iteOmega, IntWalk.toNatUp, reduceCtorEq] <;> rfl
  · intro i hi
    by_cases hlt : i < l.length
    · have hb := l[i].toNat_lt
      have e2 : l[i]? = some l[i] := List.getElem?_eq_getElem hlt
      have e4 : IntKind.i64.wrap ((i : Int) + 1) = ((i + 1 : Nat) : Int) := by rw [IntWalk.i64_in _ (by omega)]; rfl
      have e5 : bits .and .u8 (l[i].toNat : Int) 15 = ((l[i].toNat % 16 : Nat) : Int) := u8_and15 _ (by omega) (by omega)
      have e6 : (l[i].toNat : Int) / 16 = ((l[i].toNat / 16 : Nat) : Int) := rfl
      have e7 : (hexL (l.take i)).length = 2 * i := by rw [hexL_len, List.length_take]; omega
      have e8 : (hexL (l.take (i + 1))).length = 2 * i + 2 := by rw [hexL_len, List.length_take]; omega
      have g1 : l[i].toNat / 16 < 16 := by omega
      have g2 : l[i].toNat % 16 < 16 := by omega
      simp only [lp_hex_0, hexSt, wx, stV, seval, IntWalk.iteOmega, IntWalk.toNatUp, reduceCtorEq, get_map, e2, IntKind.bits, e4, e5, e6, hex_size, hex_get _ g1, hex_get _ g2, srcV, List.replicate, app_b2, hexL_snoc l i hlt]
      refine lop_next (i + 1) (by omega) (by omega) (ent_l (fun _ => 192) ?_ ?_ rfl rfl) <;> simp only [wx, wex, stV, seval, IntWalk.iteOmega, IntWalk.toNatUp, reduceCtorEq]
    · have : l.take i = l := List.take_of_length_le (by omega)
      simp only [lp_hex_0, hexSt, wx, stV, seval, IntWalk.iteOmega, IntWalk.toNatUp, reduceCtorEq, this, ofBs_map]
      exact ret_d (by simp only [wx, stV, seval, IntWalk.iteOmega, IntWalk.toNatUp, reduceCtorEq])
end Go.Proofs.Ytipjekggnanffaa
set_option linter.unusedVariables false
set_option linter.unusedSimpArgs false
namespace Go.Proofs.Ytipjekggnanffaa
open Go.RowKit

def firstK : List UInt32 := [0x6a09e667, 0xbb67ae85, 0x3c6ef372, 0xa54ff53a, 0x510e527f, 0x9b05688c, 0x1f83d9ab, 0x5be0cd19]
def constK : List UInt32 := [
  0x428a2f98, 0x71374491, 0xb5c0fbcf, 0xe9b5dba5, 0x3956c25b, 0x59f111f1, 0x923f82a4, 0xab1c5ed5,
  0xd807aa98, 0x12835b01, 0x243185be, 0x550c7dc3, 0x72be5d74, 0x80deb1fe, 0x9bdc06a7, 0xc19bf174,
  0xe49b69c1, 0xefbe4786, 0x0fc19dc6, 0x240ca1cc, 0x2de92c6f, 0x4a7484aa, 0x5cb0a9dc, 0x76f988da,
  0x983e5152, 0xa831c66d, 0xb00327c8, 0xbf597fc7, 0xc6e00bf3, 0xd5a79147, 0x06ca6351, 0x14292967,
  0x27b70a85, 0x2e1b2138, 0x4d2c6dfc, 0x53380d13, 0x650a7354, 0x766a0abb, 0x81c2c92e, 0x92722c85,
  0xa2bfe8a1, 0xa81a664b, 0xc24b8b70, 0xc76c51a3, 0xd192e819, 0xd6990624, 0xf40e3585, 0x106aa070,
  0x19a4c116, 0x1e376c08, 0x2748774c, 0x34b0bcb5, 0x391c0cb3, 0x4ed8aa4a, 0x5b9cca4f, 0x682e6ff3,
  0x748f82ee, 0x78a5636f, 0x84c87814, 0x8cc70208, 0x90befffa, 0xa4506ceb, 0xbef9a3f7, 0xc67178f2]
theorem firstK_len : firstK.length = 8 := rfl
theorem constK_len : constK.length = 64 := rfl

/-! ### A block -/
def wordAt (b : List UInt8) (t : Nat) : UInt32 :=
  orW (orW (orW (shlW (byteW (b.getD (4 * t) 0)) 24) (shlW (byteW (b.getD (4 * t + 1) 0)) 16)) (shlW (byteW (b.getD (4 * t + 2) 0)) 8)) (byteW (b.getD (4 * t + 3) 0))
def smallA (x : UInt32) : UInt32 := xorW (xorW (rotW x 7) (rotW x 18)) (shrW x 3)
def smallB (y : UInt32) : UInt32 := xorW (xorW (rotW y 17) (rotW y 19)) (shrW y 10)
def nextW (s : List UInt32) (t : Nat) : UInt32 :=
  addW (addW (addW (smallB (s.getD (t - 2) 0)) (s.getD (t - 7) 0)) (smallA (s.getD (t - 15) 0))) (s.getD (t - 16) 0)
def sched16 (b : List UInt8) (n : Nat) : List UInt32 := (List.range n).map (wordAt b)
/-- The schedule, n words behind the first 16. -/
def schedN (b : List UInt8) : Nat → List UInt32
  | 0 => sched16 b 16
  | n + 1 => schedN b n ++ [nextW (schedN b n) (16 + n)]
def sched (b : List UInt8) : List UInt32 := schedN b 48
theorem sched_at (b : List UInt8) (m : Nat) (h : m = 48) : sched b = schedN b m := by rw [h]; rfl
def bigE (e : UInt32) : UInt32 := xorW (xorW (rotW e 6) (rotW e 11)) (rotW e 25)
def bigA (a : UInt32) : UInt32 := xorW (xorW (rotW a 2) (rotW a 13)) (rotW a 22)
def chW (e f g : UInt32) : UInt32 := xorW (andW e f) (andW (notW e) g)
def majW (a b c : UInt32) : UInt32 := xorW (xorW (andW a b) (andW a c)) (andW b c)
structure Eight where
  (a b c d e f g h : UInt32)
def Eight.step (s : Eight) (k w : UInt32) : Eight :=
  let t1 := addW (addW (addW (addW s.h (bigE s.e)) (chW s.e s.f s.g)) k) w
  let t2 := addW (bigA s.a) (majW s.a s.b s.c)
  ⟨addW t1 t2, s.a, s.b, s.c, addW s.d t1, s.e, s.f, s.g⟩
def Eight.of (h : List UInt32) : Eight := ⟨h.getD 0 0, h.getD 1 0, h.getD 2 0, h.getD 3 0, h.getD 4 0, h.getD 5 0, h.getD 6 0, h.getD 7 0⟩
def Eight.rounds (s : Eight) (k w : List UInt32) : Nat → Eight
  | 0 => s
  | n + 1 => (s.rounds k w n).step (k.getD n 0) (w.getD n 0)
def Eight.sum (s : Eight) (h : List UInt32) : List UInt32 :=
  [addW (h.getD 0 0) s.a, addW (h.getD 1 0) s.b, addW (h.getD 2 0) s.c, addW (h.getD 3 0) s.d, addW (h.getD 4 0) s.e, addW (h.getD 5 0) s.f, addW (h.getD 6 0) s.g, addW (h.getD 7 0) s.h]
def blockK (h : List UInt32) (b : List UInt8) : List UInt32 := ((Eight.of h).rounds constK (sched b) 64).sum h
theorem blockK_len (h : List UInt32) (b : List UInt8) : (blockK h b).length = 8 := rfl

/-- "abc", padded, as one block: the hash that the standard gives. -/
def abcBlock : List UInt8 := [97, 98, 99, 128] ++ List.replicate 52 0 ++ [0, 0, 0, 0, 0, 0, 0, 24]
theorem abc_hash : blockK firstK abcBlock = [0xba7816bf, 0x8f01cfea, 0x414140de, 0x5dae2223, 0xb00361a3, 0x96177a9c, 0xb410ff61, 0xf20015ad] := by
  decide +kernel
end Go.Proofs.Ytipjekggnanffaa
set_option linter.unusedVariables false
set_option linter.unusedSimpArgs false
namespace Go.Proofs.Ytipjekggnanffaa
open Go.RowKit

theorem orW_comm (x y : UInt32) : orW x y = orW y x := UInt32.or_comm x y
def sf_rturn : SFn := ⟨2, 15,
  .seq (.reg [⟨(some 4), .mv (.k (.c (.d (.int .u32 0)))), none⟩])
  (.seq (.reg [⟨(some 5), .mv (.t 0), none⟩,
    ⟨(some 6), .mv (.t 1), none⟩,
    ⟨(some 7), .conv .u64 (.t 6), none⟩,
    ⟨(some 8), .bin .shr (.t 5) (.t 7), none⟩,
    ⟨(some 9), .mv (.t 0), none⟩,
    ⟨(some 10), .mv (.t 1), none⟩,
    ⟨(some 11), .bin .sub (.k (.c (.d (.int .i64 32)))) (.t 10), none⟩,
    ⟨(some 12), .conv .u64 (.t 11), none⟩,
    ⟨(some 13), .bin .shl (.t 9) (.t 12), none⟩,
    ⟨(some 14), .bin .or (.t 8) (.t 13), none⟩,
    ⟨(some 4), .mv (.t 14), none⟩])
  (.ret)),
  [(4, none)]⟩
theorem cf_rturn : compFn Try.prog { own := [], comp := [], frz := [], nils := [] } Try.f79 = some sf_rturn := by kernel_rfl
theorem rturn_c (G : Glob) (x : UInt32) (n : Nat) (h0 : 0 < n) (hn : n < 32) : Den Try.prog G 79 [wD x, .int .i64 n] (.w (.c (.d (wD (rotW x n))))) := by
  refine den_walk Try.func79 cf_rturn rfl rfl ?_
  have e1 : IntKind.u64.wrap (n : Int) = (n : Int) := IntWalk.u64_in _ (by omega)
  have e2 : IntKind.i64.wrap (32 - (n : Int)) = ((32 - n : Nat) : Int) := by rw [IntWalk.i64_in _ (by omega)]; omega
  have e3 : IntKind.u64.wrap ((32 - n : Nat) : Int) = ((32 - n : Nat) : Int) := IntWalk.u64_in _ (by omega)
  simp only [sf_rturn, putAll, wx, stV, seval, IntWalk.iteOmega, IntWalk.toNatUp, reduceCtorEq, e1, e2, e3]
  exact ret_d (by simp only [wx, stV, seval, IntWalk.iteOmega, IntWalk.toNatUp, reduceCtorEq] <;> rfl)
def sf_rfst : SFn := ⟨0, 2,
  .seq (.reg [⟨(some 0), .mv (.k (.c .nil)), none⟩])
  (.seq (.reg [⟨(some 1), .bldSl true 8 1 (.int .u32 0) [(0, (.k (.c (.d (.int .u32 1779033703))))), (1, (.k (.c (.d (.int .u32 3144134277))))), (2, (.k (.c (.d (.int .u32 1013904242))))), (3, (.k (.c (.d (.int .u32 2773480762))))), (4, (.k (.c (.d (.int .u32 1359893119))))), (5, (.k (.c (.d (.int .u32 2600822924))))), (6, (.k (.c (.d (.int .u32 528734635))))), (7, (.k (.c (.d (.int .u32 1541459225)))))], none⟩,
    ⟨(some 0), .mv (.t 1), none⟩])
  (.ret)),
  [(0, none)]⟩
theorem cf_rfst : compFn Try.prog { own := [1], comp := [], frz := [], nils := [] } Try.f67 = some sf_rfst := by kernel_rfl
theorem rfst_c (G : Glob) : Den Try.prog G 67 [] (.w (.c (.fr 1 (firstK.map wD)))) := by
  refine den_walk Try.func67 cf_rfst rfl rfl ?_
  simp only [sf_rfst, putAll, sx]
  refine optK_mk (.w (.c (.own 8 1 0 8)), upd hN 8 (some (.row 1 (firstK.map wD))), upd uN 8 true) (by kernel_rfl) ?_
  simp only [wx, stV, seval, IntWalk.iteOmega, IntWalk.toNatUp, reduceCtorEq]
  exact ret_own (id := 8) (n := 8) (s := 1) (by simp only [wx, stV, seval, IntWalk.iteOmega, IntWalk.toNatUp, reduceCtorEq]) (by simp only [wx, stV, seval, IntWalk.iteOmega, IntWalk.toNatUp, reduceCtorEq]) rfl
def sf_rcon : SFn := ⟨0, 2,
  .seq (.reg [⟨(some 0), .mv (.k (.c .nil)), none⟩])
  (.seq (.reg [⟨(some 1), .bldSl true 64 1 (.int .u32 0) [(0, (.k (.c (.d (.int .u32 1116352408))))), (1, (.k (.c (.d (.int .u32 1899447441))))), (2, (.k (.c (.d (.int .u32 3049323471))))), (3, (.k (.c (.d (.int .u32 3921009573))))), (4, (.k (.c (.d (.int .u32 961987163))))), (5, (.k (.c (.d (.int .u32 1508970993))))), (6, (.k (.c (.d (.int .u32 2453635748))))), (7, (.k (.c (.d (.int .u32 2870763221))))), (8, (.k (.c (.d (.int .u32 3624381080))))), (9, (.k (.c (.d (.int .u32 310598401))))), (10, (.k (.c (.d (.int .u32 607225278))))), (11, (.k (.c (.d (.int .u32 1426881987))))), (12, (.k (.c (.d (.int .u32 1925078388))))), (13, (.k (.c (.d (.int .u32 2162078206))))), (14, (.k (.c (.d (.int .u32 2614888103))))), (15, (.k (.c (.d (.int .u32 3248222580))))), (16, (.k (.c (.d (.int .u32 3835390401))))), (17, (.k (.c (.d (.int .u32 4022224774))))), (18, (.k (.c (.d (.int .u32 264347078))))), (19, (.k (.c (.d (.int .u32 604807628))))), (20, (.k (.c (.d (.int .u32 770255983))))), (21, (.k (.c (.d (.int .u32 1249150122))))), (22, (.k (.c (.d (.int .u32 1555081692))))), (23, (.k (.c (.d (.int .u32 1996064986))))), (24, (.k (.c (.d (.int .u32 2554220882))))), (25, (.k (.c (.d (.int .u32 2821834349))))), (26, (.k (.c (.d (.int .u32 2952996808))))), (27, (.k (.c (.d (.int .u32 3210313671))))), (28, (.k (.c (.d (.int .u32 3336571891))))), (29, (.k (.c (.d (.int .u32 3584528711))))), (30, (.k (.c (.d (.int .u32 113926993))))), (31, (.k (.c (.d (.int .u32 338241895))))), (32, (.k (.c (.d (.int .u32 666307205))))), (33, (.k (.c (.d (.int .u32 773529912))))), (34, (.k (.c (.d (.int .u32 1294757372))))), (35, (.k (.c (.d (.int .u32 1396182291))))), (36, (.k (.c (.d (.int .u32 1695183700))))), (37, (.k (.c (.d (.int .u32 1986661051))))), (38, (.k (.c (.d (.int .u32 2177026350))))), (39, (.k (.c (.d (.int .u32 2456956037))))), (40, (.k (.c (.d (.int .u32 2730485921))))), (41, (.k (.c (.d (.int .u32 2820302411))))), (42, (.k (.c (.d (.int .u32 3259730800))))), (43, (.k (.c (.d (.int .u32 3345764771))))), (44, (.k (.c (.d (.int .u32 3516065817))))), (45, (.k (.c (.d (.int .u32 3600352804))))), (46, (.k (.c (.d (.int .u32 4094571909))))), (47, (.k (.c (.d (.int .u32 275423344))))), (48, (.k (.c (.d (.int .u32 430227734))))), (49, (.k (.c (.d (.int .u32 506948616))))), (50, (.k (.c (.d (.int .u32 659060556))))), (51, (.k (.c (.d (.int .u32 883997877))))), (52, (.k (.c (.d (.int .u32 958139571))))), (53, (.k (.c (.d (.int .u32 1322822218))))), (54, (.k (.c (.d (.int .u32 1537002063))))), (55, (.k (.c (.d (.int .u32 1747873779))))), (56, (.k (.c (.d (.int .u32 1955562222))))), (57, (.k (.c (.d (.int .u32 2024104815))))), (58, (.k (.c (.d (.int .u32 2227730452))))), (59, (.k (.c (.d (.int .u32 2361852424))))), (60, (.k (.c (.d (.int .u32 2428436474))))), (61, (.k (.c (.d (.int .u32 2756734187))))), (62, (.k (.c (.d (.int .u32 3204031479))))), (63, (.k (.c (.d (.int .u32 3329325298)))))], none⟩,
    ⟨(some 0), .mv (.t 1), none⟩])
  (.ret)),
  [(0, none)]⟩
theorem cf_rcon : compFn Try.prog { own := [1], comp := [], frz := [], nils := [] } Try.f68 = some sf_rcon := by kernel_rfl
theorem rcon_c (G : Glob) : Den Try.prog G 68 [] (.w (.c (.fr 1 (constK.map wD)))) := by
  refine den_walk Try.func68 cf_rcon rfl rfl ?_
  simp only [sf_rcon, putAll, sx]
  refine optK_mk (.w (.c (.own 8 1 0 64)), upd hN 8 (some (.row 1 (constK.map wD))), upd uN 8 true) (by kernel_rfl) ?_
  simp only [wx, stV, seval, IntWalk.iteOmega, IntWalk.toNatUp, reduceCtorEq]
  exact ret_own (id := 8) (n := 64) (s := 1) (by simp only [wx, stV, seval, IntWalk.iteOmega, IntWalk.toNatUp, reduceCtorEq]) (by simp only [wx, stV, seval, IntWalk.iteOmega, IntWalk.toNatUp, reduceCtorEq]) rfl
end Go.Proofs.Ytipjekggnanffaa
set_option linter.unusedVariables false
set_option linter.unusedSimpArgs false
namespace Go.Proofs.Ytipjekggnanffaa
open Go.RowKit

theorem byteW_nat' (b : UInt8) : (byteW b).toNat = b.toNat := by have := byteW_nat b; omega
theorem shlW_byte (b : UInt8) (n : Nat) (hn : n ≤ 24) : (shlW (byteW b) n).toNat = 2 ^ n * b.toNat := by
  have hb := b.toNat_lt
  have h : (2 : Nat) ^ n ≤ 2 ^ 24 := Nat.pow_le_pow_right (by decide) hn
  have h2 : 2 ^ n * b.toNat ≤ 2 ^ 24 * 255 := Nat.mul_le_mul h (by omega)
  unfold shlW
  rw [byteW_nat', UInt32.toNat_ofNat_of_lt' (by rw [Nat.mul_comm]; simp only [UInt32.size]; omega), Nat.mul_comm]
theorem orW_nat (x y : UInt32) : (orW x y).toNat = x.toNat ||| y.toNat := UInt32.toNat_or x y
theorem wordAt_nat (b : List UInt8) (t : Nat) : (wordAt b t).toNat = ((((b.getD (4 * t) 0).toNat * 256 + (b.getD (4 * t + 1) 0).toNat) * 256 + (b.getD (4 * t + 2) 0).toNat) * 256 + (b.getD (4 * t + 3) 0).toNat) := by
  unfold wordAt
  generalize b.getD (4 * t) 0 = p
  generalize b.getD (4 * t + 1) 0 = q
  generalize b.getD (4 * t + 2) 0 = r
  generalize b.getD (4 * t + 3) 0 = s
  have hp := p.toNat_lt
  have hq := q.toNat_lt
  have hr := r.toNat_lt
  have hs := s.toNat_lt
  rw [orW_nat, orW_nat, orW_nat, shlW_byte _ _ (by decide), shlW_byte _ _ (by decide), shlW_byte _ _ (by decide), byteW_nat']
  have e1 := Nat.two_pow_add_eq_or_of_lt (i := 24) (b := 2 ^ 16 * q.toNat) (by omega) p.toNat
  rw [← e1]
  have e2 := Nat.two_pow_add_eq_or_of_lt (i := 16) (b := 2 ^ 8 * r.toNat) (by omega) (2 ^ 8 * p.toNat + q.toNat)
  have e3 : 2 ^ 24 * p.toNat + 2 ^ 16 * q.toNat = 2 ^ 16 * (2 ^ 8 * p.toNat + q.toNat) := by omega
  rw [e3, ← e2]
  have e4 := Nat.two_pow_add_eq_or_of_lt (i := 8) (b := s.toNat) (by omega) (2 ^ 8 * (2 ^ 8 * p.toNat + q.toNat) + r.toNat)
  have e5 : 2 ^ 16 * (2 ^ 8 * p.toNat + q.toNat) + 2 ^ 8 * r.toNat = 2 ^ 8 * (2 ^ 8 * (2 ^ 8 * p.toNat + q.toNat) + r.toNat) := by omega
  rw [e5, ← e4]
  omega
theorem four (b : List UInt8) (t : Nat) (h : 4 * t + 4 ≤ b.length) : (b.drop (4 * t)).take 4 = [b.getD (4 * t) 0, b.getD (4 * t + 1) 0, b.getD (4 * t + 2) 0, b.getD (4 * t + 3) 0] := by
  apply List.ext_getElem?
  intro j
  rw [List.getElem?_take, List.getElem?_drop]
  rcases j with _ | _ | _ | _ | j
  · simp [List.getD, List.getElem?_eq_getElem (show 4 * t < b.length by omega)]
  · simp [List.getD, List.getElem?_eq_getElem (show 4 * t + 1 < b.length by omega)]
  · simp [List.getD, List.getElem?_eq_getElem (show 4 * t + 2 < b.length by omega)]
  · simp [List.getD, List.getElem?_eq_getElem (show 4 * t + 3 < b.length by omega)]
  · rw [if_neg (by omega)]
    rfl
theorem getW (b : List UInt8) (t : Nat) (h : 4 * t + 4 ≤ b.length) : D.int .u32 (IntKind.u32.wrap (getN ((b.drop (4 * t)).take 4) : Int)) = wD (wordAt b t) := by
  have h1 := wordAt_nat b t
  rw [four b t h]
  unfold wD
  rw [h1]
  generalize b.getD (4 * t) 0 = p
  generalize b.getD (4 * t + 1) 0 = q
  generalize b.getD (4 * t + 2) 0 = r
  generalize b.getD (4 * t + 3) 0 = s
  have hp := p.toNat_lt
  have hq := q.toNat_lt
  have hr := r.toNat_lt
  have hs := s.toNat_lt
  have e : getN [p, q, r, s] = (((p.toNat * 256 + q.toNat) * 256 + r.toNat) * 256 + s.toNat) := by
    simp only [getN, List.foldl_cons, List.foldl_nil]
    omega
  rw [e, IntWalk.u32_in _ (by omega)]
theorem sched16_len (b : List UInt8) (n : Nat) : (sched16 b n).length = n := by simp [sched16]
theorem schedN_len (b : List UInt8) : ∀ n, (schedN b n).length = 16 + n
  | 0 => by simp [schedN, sched16_len]
  | n + 1 => by rw [schedN, List.length_append, schedN_len b n]; simp; omega
theorem set_next {α : Type} (l : List α) (z x : α) (n : Nat) (h : 0 < n) : (l ++ List.replicate n z).set l.length x = (l ++ [x]) ++ List.replicate (n - 1) z := by
  obtain ⟨k, rfl⟩ : ∃ k, n = k + 1 := ⟨n - 1, by omega⟩
  rw [List.set_append_right _ _ (Nat.le_refl _), Nat.sub_self, List.replicate_succ, List.set_cons_zero]
  simp
theorem get_of {l : List UInt32} {r : List UInt32} {i : Nat} (h : i < l.length) : (l ++ r)[i]? = some (l.getD i 0) := by
  rw [List.getElem?_append_left h]
  simp [h]
def spSt1 (b : List UInt8) (t : Nat) : St := ⟨ofL [(0, .w (.c (.d (.sl (b.map bD))))), (2, .w (.c (.pa 1 1))), (3, .w (.c (.pa 2 1))), (10, .w (.c (.d (.int .i64 (t : Int)))))], hL [(1, .row 1 ((List.replicate 64 (0 : UInt32)).map wD)), (2, .row 1 ((sched16 b t ++ List.replicate (64 - t) 0).map wD))], uL [1, 2]⟩
def spSt2 (b : List UInt8) (n : Nat) : St := ⟨ofL [(2, .w (.c (.pa 1 1))), (3, .w (.c (.pa 2 1))), (5, .w (.c (.d (.int .i64 ((16 + n : Nat) : Int)))))], hL [(1, .row 1 ((List.replicate 64 (0 : UInt32)).map wD)), (2, .row 1 ((schedN b n ++ List.replicate (48 - n) 0).map wD))], uL [1, 2]⟩
end Go.Proofs.Ytipjekggnanffaa
set_option linter.unusedVariables false
set_option linter.unusedSimpArgs false
namespace Go.Proofs.Ytipjekggnanffaa
open Go.RowKit

theorem ev_g {G : Glob} {n : Nat} {c : C} (h : G.at n = some c) (f : Nat → V) : ev G f (.g n) = .w (.c c) := by simp [ev, h]
theorem getD_some {l : List UInt32} {i : Nat} (h : i < l.length) : l[i]? = some (l.getD i 0) := by simp [h]
theorem eight {l : List UInt32} (h : l.length = 8) : ∃ a b c d e f g i, l = [a, b, c, d, e, f, g, i] := by
  match l, h with
  | [a, b, c, d, e, f, g, i], _ => exact ⟨a, b, c, d, e, f, g, i, rfl⟩
def Eight.list (s : Eight) : List UInt32 := [s.a, s.b, s.c, s.d, s.e, s.f, s.g, s.h]
theorem step_a (s : Eight) (k w : UInt32) : (s.step k w).a = addW (addW (addW (addW (addW s.h (bigE s.e)) (chW s.e s.f s.g)) k) w) (addW (bigA s.a) (majW s.a s.b s.c)) := rfl
theorem step_b (s : Eight) (k w : UInt32) : (s.step k w).b = s.a := rfl
theorem step_c (s : Eight) (k w : UInt32) : (s.step k w).c = s.b := rfl
theorem step_d (s : Eight) (k w : UInt32) : (s.step k w).d = s.c := rfl
theorem step_e (s : Eight) (k w : UInt32) : (s.step k w).e = addW s.d (addW (addW (addW (addW s.h (bigE s.e)) (chW s.e s.f s.g)) k) w) := rfl
theorem step_f (s : Eight) (k w : UInt32) : (s.step k w).f = s.e := rfl
theorem step_g (s : Eight) (k w : UInt32) : (s.step k w).g = s.f := rfl
theorem step_h (s : Eight) (k w : UInt32) : (s.step k w).h = s.g := rfl
theorem rounds_at (s : Eight) (k w : List UInt32) (n m : Nat) (h : n = m) : s.rounds k w n = s.rounds k w m := by rw [h]

def blSt1 (h : List UInt32) (b : List UInt8) (s : Eight) (n : Nat) : St := ⟨ofL [(2, .w (.c (.pa 1 1))), (4, .w (.c (.pa 2 1))), (5, .w (.c (.pa 3 1))), (6, .w (.c (.d (wD s.a)))), (7, .w (.c (.d (wD s.b)))), (8, .w (.c (.d (wD s.c)))), (9, .w (.c (.d (wD s.d)))), (10, .w (.c (.d (wD s.e)))), (11, .w (.c (.d (wD s.f)))), (12, .w (.c (.d (wD s.g)))), (13, .w (.c (.d (wD s.h)))), (37, .w (.c (.d (.int .i64 (n : Int)))))],
  hL [(1, .row 1 (h.map wD)), (2, .row 1 ((List.replicate 8 (0 : UInt32)).map wD)), (3, .row 1 ((sched b).map wD))], uL [1, 2, 3]⟩
def blR1 (h : List UInt32) (b : List UInt8) (n : Nat) : St := blSt1 h b ((Eight.of h).rounds constK (sched b) n) n
def sumTo (s : Eight) (h : List UInt32) (k : Nat) : List UInt32 := (s.sum h).take k ++ h.drop k
def blSt2 (h : List UInt32) (s : Eight) (n : Nat) : St := ⟨ofL [(2, .w (.c (.pa 1 1))), (4, .w (.c (.pa 2 1))), (108, .w (.c (.d (.agg (s.list.map wD))))), (109, .w (.c (.d (.int .i64 (n : Int)))))],
  hL [(1, .row 1 ((sumTo s h n).map wD)), (2, .row 1 ((List.replicate 8 (0 : UInt32)).map wD))], uL [1, 2]⟩

theorem getD_someB {l : List UInt8} {i : Nat} (h : i < l.length) : l[i]? = some (l.getD i 0) := by simp [h]
def rbSt1 (h k : List UInt32) (b : List UInt8) (t : Nat) : St := ⟨ofL [(0, .w (.c (.d (.sl (h.map wD))))), (1, .w (.c (.d (.sl (k.map wD))))), (2, .w (.c (.d (.sl (b.map bD))))), (7, .w (.c (.pa 1 1))), (8, .w (.c (.d (.int .i64 (t : Int)))))],
  hL [(1, .row 1 ((sched16 b t ++ List.replicate (64 - t) 0).map wD))], uL [1]⟩
def rbSt2 (h k : List UInt32) (b : List UInt8) (n : Nat) : St := ⟨ofL [(0, .w (.c (.d (.sl (h.map wD))))), (1, .w (.c (.d (.sl (k.map wD))))), (7, .w (.c (.pa 1 1))), (9, .w (.c (.d (.int .i64 ((16 + n : Nat) : Int)))))],
  hL [(1, .row 1 ((schedN b n ++ List.replicate (48 - n) 0).map wD))], uL [1]⟩
def rbSt3 (h : List UInt32) (b : List UInt8) (s : Eight) (n : Nat) : St := ⟨ofL [(0, .w (.c (.d (.sl (h.map wD))))), (1, .w (.c (.d (.sl (constK.map wD))))), (7, .w (.c (.pa 1 1))), (12, .w (.c (.d (wD s.a)))), (13, .w (.c (.d (wD s.b)))), (14, .w (.c (.d (wD s.c)))), (15, .w (.c (.d (wD s.d)))), (16, .w (.c (.d (wD s.e)))), (17, .w (.c (.d (wD s.f)))), (18, .w (.c (.d (wD s.g)))), (19, .w (.c (.d (wD s.h)))), (20, .w (.c (.d (.int .i64 (n : Int)))))],
  hL [(1, .row 1 ((sched b).map wD))], uL [1]⟩
def rbR3 (h : List UInt32) (b : List UInt8) (n : Nat) : St := rbSt3 h b ((Eight.of h).rounds constK (sched b) n) n
def lp_rblock_0 : SCode :=
  .seq (.seq (.reg [⟨(some 23), .mv (.t 8), none⟩,
    ⟨(some 24), .bin .lss (.t 23) (.k (.c (.d (.int .i64 16)))), none⟩])
  (.cond (.t 24) (.skip)
   (.exit 0)))
  (.seq (.block 1 (.reg [⟨(some 27), .mv (.t 8), none⟩,
     ⟨(some 28), .mv (.t 2), none⟩,
     ⟨(some 29), .mv (.t 8), none⟩,
     ⟨(some 30), .bin .mul (.k (.c (.d (.int .i64 4)))) (.t 29), none⟩,
     ⟨(some 31), .idxSl 1 (.t 28) (.t 30), none⟩,
     ⟨(some 32), .load .sc (.t 31), none⟩,
     ⟨(some 33), .conv .u32 (.t 32), none⟩,
     ⟨(some 34), .bin .shl (.t 33) (.k (.c (.d (.int .u64 24)))), none⟩,
     ⟨(some 35), .mv (.t 2), none⟩,
     ⟨(some 36), .mv (.t 8), none⟩,
     ⟨(some 37), .bin .mul (.k (.c (.d (.int .i64 4)))) (.t 36), none⟩,
     ⟨(some 38), .bin .add (.t 37) (.k (.c (.d (.int .i64 1)))), none⟩,
     ⟨(some 39), .idxSl 1 (.t 35) (.t 38), none⟩,
     ⟨(some 40), .load .sc (.t 39), none⟩,
     ⟨(some 41), .conv .u32 (.t 40), none⟩,
     ⟨(some 42), .bin .shl (.t 41) (.k (.c (.d (.int .u64 16)))), none⟩,
     ⟨(some 43), .bin .or (.t 34) (.t 42), none⟩,
     ⟨(some 44), .mv (.t 2), none⟩,
     ⟨(some 45), .mv (.t 8), none⟩,
     ⟨(some 46), .bin .mul (.k (.c (.d (.int .i64 4)))) (.t 45), none⟩,
     ⟨(some 47), .bin .add (.t 46) (.k (.c (.d (.int .i64 2)))), none⟩,
     ⟨(some 48), .idxSl 1 (.t 44) (.t 47), none⟩,
     ⟨(some 49), .load .sc (.t 48), none⟩,
     ⟨(some 50), .conv .u32 (.t 49), none⟩,
     ⟨(some 51), .bin .shl (.t 50) (.k (.c (.d (.int .u64 8)))), none⟩,
     ⟨(some 52), .bin .or (.t 43) (.t 51), none⟩,
     ⟨(some 53), .mv (.t 2), none⟩,
     ⟨(some 54), .mv (.t 8), none⟩,
     ⟨(some 55), .bin .mul (.k (.c (.d (.int .i64 4)))) (.t 54), none⟩,
     ⟨(some 56), .bin .add (.t 55) (.k (.c (.d (.int .i64 3)))), none⟩,
     ⟨(some 57), .idxSl 1 (.t 53) (.t 56), none⟩,
     ⟨(some 58), .load .sc (.t 57), none⟩,
     ⟨(some 59), .conv .u32 (.t 58), none⟩,
     ⟨(some 60), .bin .or (.t 52) (.t 59), none⟩,
     ⟨(some 61), .idxPa 1 64 (.t 7) (.t 27), none⟩,
     ⟨none, .store .sc (.t 61) (.t 60), none⟩]))
  (.reg [⟨(some 25), .mv (.t 8), none⟩,
    ⟨(some 26), .bin .add (.t 25) (.k (.c (.d (.int .i64 1)))), none⟩,
    ⟨(some 8), .mv (.t 26), none⟩]))
def lp_rblock_1 : SCode :=
  .seq (.seq (.reg [⟨(some 62), .mv (.t 9), none⟩,
    ⟨(some 63), .bin .lss (.t 62) (.k (.c (.d (.int .i64 64)))), none⟩])
  (.cond (.t 63) (.skip)
   (.exit 2)))
  (.seq (.block 3 (.seq (.reg [⟨(some 66), .mv (.t 9), none⟩,
     ⟨(some 67), .bin .sub (.t 66) (.k (.c (.d (.int .i64 15)))), none⟩,
     ⟨(some 68), .idxPa 1 64 (.t 7) (.t 67), none⟩,
     ⟨(some 69), .load .sc (.t 68), none⟩,
     ⟨(some 70), .mv (.t 9), none⟩,
     ⟨(some 71), .bin .sub (.t 70) (.k (.c (.d (.int .i64 2)))), none⟩,
     ⟨(some 72), .idxPa 1 64 (.t 7) (.t 71), none⟩,
     ⟨(some 73), .load .sc (.t 72), none⟩,
     ⟨(some 10), .mv (.t 69), none⟩,
     ⟨(some 11), .mv (.t 73), none⟩])
   (.reg [⟨(some 74), .mv (.t 9), none⟩,
     ⟨(some 75), .mv (.t 11), none⟩,
     ⟨(some 76), .call 79 [(.t 75), (.k (.c (.d (.int .i64 17))))] none, none⟩,
     ⟨(some 77), .mv (.t 11), none⟩,
     ⟨(some 78), .call 79 [(.t 77), (.k (.c (.d (.int .i64 19))))] none, none⟩,
     ⟨(some 79), .bin .xor (.t 76) (.t 78), none⟩,
     ⟨(some 80), .mv (.t 11), none⟩,
     ⟨(some 81), .bin .shr (.t 80) (.k (.c (.d (.int .u64 10)))), none⟩,
     ⟨(some 82), .bin .xor (.t 79) (.t 81), none⟩,
     ⟨(some 83), .mv (.t 9), none⟩,
     ⟨(some 84), .bin .sub (.t 83) (.k (.c (.d (.int .i64 7)))), none⟩,
     ⟨(some 85), .idxPa 1 64 (.t 7) (.t 84), none⟩,
     ⟨(some 86), .load .sc (.t 85), none⟩,
     ⟨(some 87), .bin .add (.t 82) (.t 86), none⟩,
     ⟨(some 88), .mv (.t 10), none⟩,
     ⟨(some 89), .call 79 [(.t 88), (.k (.c (.d (.int .i64 7))))] none, none⟩,
     ⟨(some 90), .mv (.t 10), none⟩,
     ⟨(some 91), .call 79 [(.t 90), (.k (.c (.d (.int .i64 18))))] none, none⟩,
     ⟨(some 92), .bin .xor (.t 89) (.t 91), none⟩,
     ⟨(some 93), .mv (.t 10), none⟩,
     ⟨(some 94), .bin .shr (.t 93) (.k (.c (.d (.int .u64 3)))), none⟩,
     ⟨(some 95), .bin .xor (.t 92) (.t 94), none⟩,
     ⟨(some 96), .bin .add (.t 87) (.t 95), none⟩,
     ⟨(some 97), .mv (.t 9), none⟩,
     ⟨(some 98), .bin .sub (.t 97) (.k (.c (.d (.int .i64 16)))), none⟩,
     ⟨(some 99), .idxPa 1 64 (.t 7) (.t 98), none⟩,
     ⟨(some 100), .load .sc (.t 99), none⟩,
     ⟨(some 101), .bin .add (.t 96) (.t 100), none⟩,
     ⟨(some 102), .idxPa 1 64 (.t 7) (.t 74), none⟩,
     ⟨none, .store .sc (.t 102) (.t 101), none⟩])))
  (.reg [⟨(some 64), .mv (.t 9), none⟩,
    ⟨(some 65), .bin .add (.t 64) (.k (.c (.d (.int .i64 1)))), none⟩,
    ⟨(some 9), .mv (.t 65), none⟩]))
def lp_rblock_2 : SCode :=
  .seq (.seq (.reg [⟨(some 127), .mv (.t 20), none⟩,
    ⟨(some 128), .bin .lss (.t 127) (.k (.c (.d (.int .i64 64)))), none⟩])
  (.cond (.t 128) (.skip)
   (.exit 4)))
  (.seq (.block 5 (.seq (.reg [⟨(some 131), .mv (.t 19), none⟩,
     ⟨(some 132), .mv (.t 16), none⟩,
     ⟨(some 133), .call 79 [(.t 132), (.k (.c (.d (.int .i64 6))))] none, none⟩,
     ⟨(some 134), .mv (.t 16), none⟩,
     ⟨(some 135), .call 79 [(.t 134), (.k (.c (.d (.int .i64 11))))] none, none⟩,
     ⟨(some 136), .bin .xor (.t 133) (.t 135), none⟩,
     ⟨(some 137), .mv (.t 16), none⟩,
     ⟨(some 138), .call 79 [(.t 137), (.k (.c (.d (.int .i64 25))))] none, none⟩,
     ⟨(some 139), .bin .xor (.t 136) (.t 138), none⟩,
     ⟨(some 140), .bin .add (.t 131) (.t 139), none⟩,
     ⟨(some 141), .mv (.t 16), none⟩,
     ⟨(some 142), .mv (.t 17), none⟩,
     ⟨(some 143), .bin .and (.t 141) (.t 142), none⟩,
     ⟨(some 144), .mv (.t 16), none⟩,
     ⟨(some 145), .un .xor (.t 144), none⟩,
     ⟨(some 146), .mv (.t 18), none⟩,
     ⟨(some 147), .bin .and (.t 145) (.t 146), none⟩,
     ⟨(some 148), .bin .xor (.t 143) (.t 147), none⟩,
     ⟨(some 149), .bin .add (.t 140) (.t 148), none⟩,
     ⟨(some 150), .mv (.t 1), none⟩,
     ⟨(some 151), .mv (.t 20), none⟩,
     ⟨(some 152), .idxSl 1 (.t 150) (.t 151), none⟩,
     ⟨(some 153), .load .sc (.t 152), none⟩,
     ⟨(some 154), .bin .add (.t 149) (.t 153), none⟩,
     ⟨(some 155), .mv (.t 20), none⟩,
     ⟨(some 156), .idxPa 1 64 (.t 7) (.t 155), none⟩,
     ⟨(some 157), .load .sc (.t 156), none⟩,
     ⟨(some 158), .bin .add (.t 154) (.t 157), none⟩,
     ⟨(some 21), .mv (.t 158), none⟩])
   (.seq (.reg [⟨(some 159), .mv (.t 12), none⟩,
     ⟨(some 160), .call 79 [(.t 159), (.k (.c (.d (.int .i64 2))))] none, none⟩,
     ⟨(some 161), .mv (.t 12), none⟩,
     ⟨(some 162), .call 79 [(.t 161), (.k (.c (.d (.int .i64 13))))] none, none⟩,
     ⟨(some 163), .bin .xor (.t 160) (.t 162), none⟩,
     ⟨(some 164), .mv (.t 12), none⟩,
     ⟨(some 165), .call 79 [(.t 164), (.k (.c (.d (.int .i64 22))))] none, none⟩,
     ⟨(some 166), .bin .xor (.t 163) (.t 165), none⟩,
     ⟨(some 167), .mv (.t 12), none⟩,
     ⟨(some 168), .mv (.t 13), none⟩,
     ⟨(some 169), .bin .and (.t 167) (.t 168), none⟩,
     ⟨(some 170), .mv (.t 12), none⟩,
     ⟨(some 171), .mv (.t 14), none⟩,
     ⟨(some 172), .bin .and (.t 170) (.t 171), none⟩,
     ⟨(some 173), .bin .xor (.t 169) (.t 172), none⟩,
     ⟨(some 174), .mv (.t 13), none⟩,
     ⟨(some 175), .mv (.t 14), none⟩,
     ⟨(some 176), .bin .and (.t 174) (.t 175), none⟩,
     ⟨(some 177), .bin .xor (.t 173) (.t 176), none⟩,
     ⟨(some 178), .bin .add (.t 166) (.t 177), none⟩,
     ⟨(some 22), .mv (.t 178), none⟩])
   (.reg [⟨(some 179), .mv (.t 21), none⟩,
     ⟨(some 180), .mv (.t 22), none⟩,
     ⟨(some 181), .bin .add (.t 179) (.t 180), none⟩,
     ⟨(some 182), .mv (.t 12), none⟩,
     ⟨(some 183), .mv (.t 13), none⟩,
     ⟨(some 184), .mv (.t 14), none⟩,
     ⟨(some 185), .mv (.t 15), none⟩,
     ⟨(some 186), .mv (.t 21), none⟩,
     ⟨(some 187), .bin .add (.t 185) (.t 186), none⟩,
     ⟨(some 188), .mv (.t 16), none⟩,
     ⟨(some 189), .mv (.t 17), none⟩,
     ⟨(some 190), .mv (.t 18), none⟩,
     ⟨(some 12), .mv (.t 181), none⟩,
     ⟨(some 13), .mv (.t 182), none⟩,
     ⟨(some 14), .mv (.t 183), none⟩,
     ⟨(some 15), .mv (.t 184), none⟩,
     ⟨(some 16), .mv (.t 187), none⟩,
     ⟨(some 17), .mv (.t 188), none⟩,
     ⟨(some 18), .mv (.t 189), none⟩,
     ⟨(some 19), .mv (.t 190), none⟩]))))
  (.reg [⟨(some 129), .mv (.t 20), none⟩,
    ⟨(some 130), .bin .add (.t 129) (.k (.c (.d (.int .i64 1)))), none⟩,
    ⟨(some 20), .mv (.t 130), none⟩]))
def sf_rblock : SFn := ⟨3, 232,
  .seq (.reg [⟨(some 6), .mv (.k (.c .nil)), none⟩])
  (.seq (.reg [⟨(some 7), .allocArr [(.int .u32 0), (.int .u32 0), (.int .u32 0), (.int .u32 0), (.int .u32 0), (.int .u32 0), (.int .u32 0), (.int .u32 0), (.int .u32 0), (.int .u32 0), (.int .u32 0), (.int .u32 0), (.int .u32 0), (.int .u32 0), (.int .u32 0), (.int .u32 0), (.int .u32 0), (.int .u32 0), (.int .u32 0), (.int .u32 0), (.int .u32 0), (.int .u32 0), (.int .u32 0), (.int .u32 0), (.int .u32 0), (.int .u32 0), (.int .u32 0), (.int .u32 0), (.int .u32 0), (.int .u32 0), (.int .u32 0), (.int .u32 0), (.int .u32 0), (.int .u32 0), (.int .u32 0), (.int .u32 0), (.int .u32 0), (.int .u32 0), (.int .u32 0), (.int .u32 0), (.int .u32 0), (.int .u32 0), (.int .u32 0), (.int .u32 0), (.int .u32 0), (.int .u32 0), (.int .u32 0), (.int .u32 0), (.int .u32 0), (.int .u32 0), (.int .u32 0), (.int .u32 0), (.int .u32 0), (.int .u32 0), (.int .u32 0), (.int .u32 0), (.int .u32 0), (.int .u32 0), (.int .u32 0), (.int .u32 0), (.int .u32 0), (.int .u32 0), (.int .u32 0), (.int .u32 0)], none⟩])
  (.seq (.seq (.reg [⟨(some 8), .mv (.k (.c (.d (.int .i64 0)))), none⟩])
  (.block 0 (.loop lp_rblock_0)))
  (.seq (.seq (.reg [⟨(some 9), .mv (.k (.c (.d (.int .i64 16)))), none⟩])
  (.block 2 (.loop lp_rblock_1)))
  (.seq (.reg [⟨(some 103), .mv (.t 0), none⟩,
    ⟨(some 104), .idxSl 1 (.t 103) (.k (.c (.d (.int .i64 0)))), none⟩,
    ⟨(some 105), .load .sc (.t 104), none⟩,
    ⟨(some 106), .mv (.t 0), none⟩,
    ⟨(some 107), .idxSl 1 (.t 106) (.k (.c (.d (.int .i64 1)))), none⟩,
    ⟨(some 108), .load .sc (.t 107), none⟩,
    ⟨(some 109), .mv (.t 0), none⟩,
    ⟨(some 110), .idxSl 1 (.t 109) (.k (.c (.d (.int .i64 2)))), none⟩,
    ⟨(some 111), .load .sc (.t 110), none⟩,
    ⟨(some 112), .mv (.t 0), none⟩,
    ⟨(some 113), .idxSl 1 (.t 112) (.k (.c (.d (.int .i64 3)))), none⟩,
    ⟨(some 114), .load .sc (.t 113), none⟩,
    ⟨(some 115), .mv (.t 0), none⟩,
    ⟨(some 116), .idxSl 1 (.t 115) (.k (.c (.d (.int .i64 4)))), none⟩,
    ⟨(some 117), .load .sc (.t 116), none⟩,
    ⟨(some 118), .mv (.t 0), none⟩,
    ⟨(some 119), .idxSl 1 (.t 118) (.k (.c (.d (.int .i64 5)))), none⟩,
    ⟨(some 120), .load .sc (.t 119), none⟩,
    ⟨(some 121), .mv (.t 0), none⟩,
    ⟨(some 122), .idxSl 1 (.t 121) (.k (.c (.d (.int .i64 6)))), none⟩,
    ⟨(some 123), .load .sc (.t 122), none⟩,
    ⟨(some 124), .mv (.t 0), none⟩,
    ⟨(some 125), .idxSl 1 (.t 124) (.k (.c (.d (.int .i64 7)))), none⟩,
    ⟨(some 126), .load .sc (.t 125), none⟩,
    ⟨(some 12), .mv (.t 105), none⟩,
    ⟨(some 13), .mv (.t 108), none⟩,
    ⟨(some 14), .mv (.t 111), none⟩,
    ⟨(some 15), .mv (.t 114), none⟩,
    ⟨(some 16), .mv (.t 117), none⟩,
    ⟨(some 17), .mv (.t 120), none⟩,
    ⟨(some 18), .mv (.t 123), none⟩,
    ⟨(some 19), .mv (.t 126), none⟩])
  (.seq (.seq (.reg [⟨(some 20), .mv (.k (.c (.d (.int .i64 0)))), none⟩])
  (.block 4 (.loop lp_rblock_2)))
  (.seq (.reg [⟨(some 191), .mv (.t 0), none⟩,
    ⟨(some 192), .idxSl 1 (.t 191) (.k (.c (.d (.int .i64 0)))), none⟩,
    ⟨(some 193), .load .sc (.t 192), none⟩,
    ⟨(some 194), .mv (.t 12), none⟩,
    ⟨(some 195), .bin .add (.t 193) (.t 194), none⟩,
    ⟨(some 196), .mv (.t 0), none⟩,
    ⟨(some 197), .idxSl 1 (.t 196) (.k (.c (.d (.int .i64 1)))), none⟩,
    ⟨(some 198), .load .sc (.t 197), none⟩,
    ⟨(some 199), .mv (.t 13), none⟩,
    ⟨(some 200), .bin .add (.t 198) (.t 199), none⟩,
    ⟨(some 201), .mv (.t 0), none⟩,
    ⟨(some 202), .idxSl 1 (.t 201) (.k (.c (.d (.int .i64 2)))), none⟩,
    ⟨(some 203), .load .sc (.t 202), none⟩,
    ⟨(some 204), .mv (.t 14), none⟩,
    ⟨(some 205), .bin .add (.t 203) (.t 204), none⟩,
    ⟨(some 206), .mv (.t 0), none⟩,
    ⟨(some 207), .idxSl 1 (.t 206) (.k (.c (.d (.int .i64 3)))), none⟩,
    ⟨(some 208), .load .sc (.t 207), none⟩,
    ⟨(some 209), .mv (.t 15), none⟩,
    ⟨(some 210), .bin .add (.t 208) (.t 209), none⟩,
    ⟨(some 211), .mv (.t 0), none⟩,
    ⟨(some 212), .idxSl 1 (.t 211) (.k (.c (.d (.int .i64 4)))), none⟩,
    ⟨(some 213), .load .sc (.t 212), none⟩,
    ⟨(some 214), .mv (.t 16), none⟩,
    ⟨(some 215), .bin .add (.t 213) (.t 214), none⟩,
    ⟨(some 216), .mv (.t 0), none⟩,
    ⟨(some 217), .idxSl 1 (.t 216) (.k (.c (.d (.int .i64 5)))), none⟩,
    ⟨(some 218), .load .sc (.t 217), none⟩,
    ⟨(some 219), .mv (.t 17), none⟩,
    ⟨(some 220), .bin .add (.t 218) (.t 219), none⟩,
    ⟨(some 221), .mv (.t 0), none⟩,
    ⟨(some 222), .idxSl 1 (.t 221) (.k (.c (.d (.int .i64 6)))), none⟩,
    ⟨(some 223), .load .sc (.t 222), none⟩,
    ⟨(some 224), .mv (.t 18), none⟩,
    ⟨(some 225), .bin .add (.t 223) (.t 224), none⟩,
    ⟨(some 226), .mv (.t 0), none⟩,
    ⟨(some 227), .idxSl 1 (.t 226) (.k (.c (.d (.int .i64 7)))), none⟩,
    ⟨(some 228), .load .sc (.t 227), none⟩,
    ⟨(some 229), .mv (.t 19), none⟩,
    ⟨(some 230), .bin .add (.t 228) (.t 229), none⟩,
    ⟨(some 231), .bldSl true 8 1 (.int .u32 0) [(0, (.t 195)), (1, (.t 200)), (2, (.t 205)), (3, (.t 210)), (4, (.t 215)), (5, (.t 220)), (6, (.t 225)), (7, (.t 230))], none⟩,
    ⟨(some 6), .mv (.t 231), none⟩])
  (.ret))))))),
  [(6, none)]⟩
theorem cf_rblock : compFn Try.prog { own := [231], comp := [], frz := [], nils := [] } Try.f69 = some sf_rblock := by kernel_rfl
set_option maxHeartbeats 1600000 in
theorem rblock_c (G : Glob) (h : List UInt32) (b : List UInt8) (hh : h.length = 8) (hb : b.length = 64) : Den Try.prog G 69 [.sl (h.map wD), .sl (constK.map wD), .sl (b.map bD)] (.w (.c (.fr 1 ((blockK h b).map wD)))) := by
  refine den_walk Try.func69 cf_rblock rfl rfl ?_
  have hsl : (sched b).length = 64 := schedN_len b 48
  have hcl : constK.length = 64 := constK_len
  simp only [sf_rblock, putAll, wx, stV, seval, IntWalk.iteOmega, IntWalk.toNatUp, reduceCtorEq]
  refine loop_st (rbSt1 h constK b) (fun t => 16 - t) (fun t => t ≤ 16) 0 (Nat.zero_le _) ?_ ?_
  · refine ent_l (fun _ => 56) ?_ ?_ rfl rfl <;> simp only [wx, wex, stV, seval, IntWalk.iteOmega, IntWalk.toNatUp, reduceCtorEq]
    rfl
  · intro t ht
    by_cases hlt : t < 16
    · have e0 : IntKind.i64.wrap (4 * (t : Int)) = ((4 * t : Nat) : Int) := by rw [IntWalk.i64_in _ (by omega)]; omega
      have e1 : IntKind.i64.wrap (((4 * t : Nat) : Int) + 1) = ((4 * t + 1 : Nat) : Int) := by rw [IntWalk.i64_in _ (by omega)]; omega
      have e2 : IntKind.i64.wrap (((4 * t : Nat) : Int) + 2) = ((4 * t + 2 : Nat) : Int) := by rw [IntWalk.i64_in _ (by omega)]; omega
      have e3 : IntKind.i64.wrap (((4 * t : Nat) : Int) + 3) = ((4 * t + 3 : Nat) : Int) := by rw [IntWalk.i64_in _ (by omega)]; omega
      have e4 : IntKind.i64.wrap ((t : Int) + 1) = ((t + 1 : Nat) : Int) := by rw [IntWalk.i64_in _ (by omega)]; omega
      have g : ∀ k, k < 64 → (b.map bD)[k]? = some (bD (b.getD k 0)) := fun k hk => by rw [get_map, getD_someB (by omega)]; rfl
      have g0 := g (4 * t) (by omega)
      have g1 := g (4 * t + 1) (by omega)
      have g2 := g (4 * t + 2) (by omega)
      have g3 := g (4 * t + 3) (by omega)
      have h1 : t < (sched16 b t ++ List.replicate (64 - t) 0).length := by rw [List.length_append, sched16_len, List.length_replicate]; omega
      have h2 := set_next (sched16 b t) 0 (wordAt b t) (64 - t) (by omega)
      rw [sched16_len] at h2
      have h3 : sched16 b t ++ [wordAt b t] = sched16 b (t + 1) := by simp [sched16, List.range_succ]
      have h4 : 64 - t - 1 = 64 - (t + 1) := by omega
      rw [h3, h4] at h2
      simp only [wordAt] at h2
      have m24 : min (24 : Int).toNat 32 = 24 := by decide
      have m16 : min (16 : Int).toNat 32 = 16 := by decide
      have m8 : min (8 : Int).toNat 32 = 8 := by decide
      simp only [lp_rblock_0, rbSt1, wx, stV, seval, IntWalk.iteOmega, IntWalk.toNatUp, reduceCtorEq, e0, e1, e2, e3, e4, g0, g1, g2, g3, Nat.zero_add, stO_ws h1 (one_w _), set_ws, h2]
      refine lop_next (t + 1) (by omega) (by omega) (ent_l id ?_ ?_ rfl rfl) <;> simp only [wx, wex, stV, seval, IntWalk.iteOmega, IntWalk.toNatUp, reduceCtorEq]
    · obtain rfl : t = 16 := by omega
      simp only [lp_rblock_0, rbSt1, wx, stV, seval, IntWalk.iteOmega, IntWalk.toNatUp, reduceCtorEq]
      refine loop_st (rbSt2 h constK b) (fun n => 48 - n) (fun n => n ≤ 48) 0 (Nat.zero_le _) ?_ ?_
      · have h0 : sched16 b 16 = schedN b 0 := rfl
        refine ent_l id ?_ ?_ rfl rfl <;> simp only [wx, wex, stV, seval, IntWalk.iteOmega, IntWalk.toNatUp, reduceCtorEq, h0]
      · intro n hn
        by_cases hlt : n < 48
        · have hl := schedN_len b n
          have w1 : ∀ k : Nat, k ≤ 16 → IntKind.i64.wrap (((16 + n : Nat) : Int) - (k : Int)) = ((16 + n - k : Nat) : Int) := fun k hk => by rw [IntWalk.i64_in _ (by omega)]; omega
          have e15 : IntKind.i64.wrap (((16 + n : Nat) : Int) - 15) = ((16 + n - 15 : Nat) : Int) := w1 15 (by decide)
          have e2 : IntKind.i64.wrap (((16 + n : Nat) : Int) - 2) = ((16 + n - 2 : Nat) : Int) := w1 2 (by decide)
          have e7 : IntKind.i64.wrap (((16 + n : Nat) : Int) - 7) = ((16 + n - 7 : Nat) : Int) := w1 7 (by decide)
          have e16 : IntKind.i64.wrap (((16 + n : Nat) : Int) - 16) = ((16 + n - 16 : Nat) : Int) := w1 16 (by decide)
          have e0 : IntKind.i64.wrap (((16 + n : Nat) : Int) + 1) = ((16 + (n + 1) : Nat) : Int) := by rw [IntWalk.i64_in _ (by omega)]; omega
          have g : ∀ k, k < 16 + n → ((schedN b n ++ List.replicate (48 - n) 0).map wD)[k]? = some (wD ((schedN b n).getD k 0)) := fun k hk => by
            rw [List.getElem?_map, get_of (by omega)]; rfl
          have g15 := g (16 + n - 15) (by omega)
          have g2 := g (16 + n - 2) (by omega)
          have g7 := g (16 + n - 7) (by omega)
          have g16 := g (16 + n - 16) (by omega)
          simp only [lp_rblock_1, rbSt2, wx, stV, seval, IntWalk.iteOmega, IntWalk.toNatUp, reduceCtorEq, e15, e2, e7, e16, e0, g15, g2, g7, g16]
          refine st_call (rturn_c G _ 17 (by decide) (by decide)) rfl (.inr rfl) ?_
          simp only [wx, stV, seval, IntWalk.iteOmega, IntWalk.toNatUp, reduceCtorEq]
          refine st_call (rturn_c G _ 19 (by decide) (by decide)) rfl (.inr rfl) ?_
          simp only [wx, stV, seval, IntWalk.iteOmega, IntWalk.toNatUp, reduceCtorEq, e15, e2, e7, e16, e0, g15, g2, g7, g16]
          refine st_call (rturn_c G _ 7 (by decide) (by decide)) rfl (.inr rfl) ?_
          simp only [wx, stV, seval, IntWalk.iteOmega, IntWalk.toNatUp, reduceCtorEq]
          refine st_call (rturn_c G _ 18 (by decide) (by decide)) rfl (.inr rfl) ?_
          have h1 : 16 + n < (schedN b n ++ List.replicate (48 - n) 0).length := by rw [List.length_append, hl, List.length_replicate]; omega
          have h2 := set_next (schedN b n) 0 (nextW (schedN b n) (16 + n)) (48 - n) (by omega)
          rw [hl] at h2
          have h4 : 48 - n - 1 = 48 - (n + 1) := by omega
          have h3 : schedN b n ++ [nextW (schedN b n) (16 + n)] = schedN b (n + 1) := rfl
          rw [h3, h4] at h2
          simp only [nextW, smallA, smallB] at h2
          simp only [wx, stV, seval, IntWalk.iteOmega, IntWalk.toNatUp, reduceCtorEq, e15, e2, e7, e16, e0, g15, g2, g7, g16, stO_ws h1 (one_w _), set_ws, h2]
          refine lop_next (n + 1) (by omega) (by omega) (ent_l id ?_ ?_ rfl rfl) <;> simp only [wx, wex, stV, seval, IntWalk.iteOmega, IntWalk.toNatUp, reduceCtorEq]
        · have hn48 : n = 48 := by omega
          have h0 : 48 - n = 0 := by omega
          obtain ⟨h0', h1, h2, h3, h4, h5, h6, h7, rfl⟩ := eight hh
          simp only [lp_rblock_1, rbSt2, wx, stV, seval, IntWalk.iteOmega, IntWalk.toNatUp, reduceCtorEq, h0, List.append_nil, List.replicate_zero, ← sched_at b n hn48]
          refine loop_st (rbR3 [h0', h1, h2, h3, h4, h5, h6, h7] b) (fun n => 64 - n) (fun n => n ≤ 64) 0 (Nat.zero_le _) ?_ ?_
          · refine ent_l id ?_ ?_ rfl rfl <;> simp only [rbR3, rbSt3, wx, wex, stV, seval, IntWalk.iteOmega, IntWalk.toNatUp, reduceCtorEq]
            exact ⟨rfl, rfl, rfl, rfl, rfl, rfl, rfl, rfl⟩
          · clear hn hlt hn48 h0
            intro n hn
            by_cases hlt : n < 64
            · have e1 : IntKind.i64.wrap ((n : Int) + 1) = ((n + 1 : Nat) : Int) := by rw [IntWalk.i64_in _ (by omega)]; rfl
              have g1 : (constK.map wD)[n]? = some (wD (constK.getD n 0)) := by rw [get_map, getD_some (by omega)]; rfl
              have g2 : ((sched b).map wD)[n]? = some (wD ((sched b).getD n 0)) := by rw [get_map, getD_some (by omega)]; rfl
              have hr : (Eight.of [h0', h1, h2, h3, h4, h5, h6, h7]).rounds constK (sched b) (n + 1) = ((Eight.of [h0', h1, h2, h3, h4, h5, h6, h7]).rounds constK (sched b) n).step (constK.getD n 0) ((sched b).getD n 0) := rfl
              generalize hs : (Eight.of [h0', h1, h2, h3, h4, h5, h6, h7]).rounds constK (sched b) n = s at hr
              simp only [lp_rblock_2, rbR3, rbSt3, hs, wx, stV, seval, IntWalk.iteOmega, IntWalk.toNatUp, reduceCtorEq, hcl, hsl, g1, g2, e1]
              refine st_call (rturn_c G _ 6 (by decide) (by decide)) rfl (.inr rfl) ?_
              simp only [wx, stV, seval, IntWalk.iteOmega, IntWalk.toNatUp, reduceCtorEq]
              refine st_call (rturn_c G _ 11 (by decide) (by decide)) rfl (.inr rfl) ?_
              simp only [wx, stV, seval, IntWalk.iteOmega, IntWalk.toNatUp, reduceCtorEq]
              refine st_call (rturn_c G _ 25 (by decide) (by decide)) rfl (.inr rfl) ?_
              simp only [wx, stV, seval, IntWalk.iteOmega, IntWalk.toNatUp, reduceCtorEq, g1, g2, hcl, hsl]
              refine st_call (rturn_c G _ 2 (by decide) (by decide)) rfl (.inr rfl) ?_
              simp only [wx, stV, seval, IntWalk.iteOmega, IntWalk.toNatUp, reduceCtorEq]
              refine st_call (rturn_c G _ 13 (by decide) (by decide)) rfl (.inr rfl) ?_
              simp only [wx, stV, seval, IntWalk.iteOmega, IntWalk.toNatUp, reduceCtorEq]
              refine st_call (rturn_c G _ 22 (by decide) (by decide)) rfl (.inr rfl) ?_
              simp only [wx, stV, seval, IntWalk.iteOmega, IntWalk.toNatUp, reduceCtorEq, e1]
              refine lop_next (n + 1) (by omega) (by omega) ?_
              rw [rbR3, hr]
              refine (ent_l id ?_ ?_ rfl rfl) <;> simp only [wx, wex, stV, seval, IntWalk.iteOmega, IntWalk.toNatUp, reduceCtorEq, step_a, step_b, step_c, step_d, step_e, step_f, step_g, step_h]
              exact ⟨rfl, rfl⟩
            · obtain rfl : n = 64 := by omega
              have hK : blockK [h0', h1, h2, h3, h4, h5, h6, h7] b = ((Eight.of [h0', h1, h2, h3, h4, h5, h6, h7]).rounds constK (sched b) 64).sum [h0', h1, h2, h3, h4, h5, h6, h7] := rfl
              rw [hK]
              simp only [rbR3]
              generalize (Eight.of [h0', h1, h2, h3, h4, h5, h6, h7]).rounds constK (sched b) 64 = s
              have e8 : s.sum [h0', h1, h2, h3, h4, h5, h6, h7] = [addW h0' s.a, addW h1 s.b, addW h2 s.c, addW h3 s.d, addW h4 s.e, addW h5 s.f, addW h6 s.g, addW h7 s.h] := rfl
              simp only [lp_rblock_2, rbSt3, e8, wx, stV, seval, IntWalk.iteOmega, IntWalk.toNatUp, reduceCtorEq]
              exact ret_own (id := 1848) (n := 8) (s := 1) (by simp only [wx, stV, seval, IntWalk.iteOmega, IntWalk.toNatUp, reduceCtorEq]) (by simp only [wx, stV, seval, IntWalk.iteOmega, IntWalk.toNatUp, reduceCtorEq] <;> rfl) rfl
end Go.Proofs.Ytipjekggnanffaa
set_option linter.unusedVariables false
set_option linter.unusedSimpArgs false
namespace Go.Proofs.Ytipjekggnanffaa
open Go.RowKit

/-! ### SHA-256 of bytes -/
def foldB (h : List UInt32) (b : List UInt8) : Nat → List UInt32
  | 0 => h
  | n + 1 => blockK (foldB h b n) ((b.drop (64 * n)).take 64)
theorem foldB_len {h : List UInt32} (hh : h.length = 8) (b : List UInt8) : ∀ n, (foldB h b n).length = 8
  | 0 => hh
  | n + 1 => blockK_len _ _
def padK (rest : List UInt8) (count : Nat) : List UInt8 := rest ++ [128] ++ List.replicate ((119 - rest.length) % 64) 0 ++ putL (count * 8) 8
def wordsB (ws : List UInt32) : List UInt8 := ws.flatMap fun w => putL w.toNat 4
def finK (s : List UInt32) (rest : List UInt8) (count : Nat) : List UInt8 := wordsB (foldB s (padK rest count) ((padK rest count).length / 64))
def sumK (b : List UInt8) : List UInt8 := finK (foldB firstK b (b.length / 64)) (b.drop (64 * (b.length / 64))) b.length
def shortK (b : List UInt8) : List UInt8 := (sumK b).take 16
def chainK (b : List UInt8) : Nat → List UInt8
  | 0 => b
  | n + 1 => shortK (chainK b n)
theorem wordsB_len : ∀ ws : List UInt32, (wordsB ws).length = 4 * ws.length
  | [] => rfl
  | w :: ws => by
    have : wordsB (w :: ws) = putL w.toNat 4 ++ wordsB ws := rfl
    rw [this, List.length_append, putL_length, wordsB_len ws, List.length_cons]; omega
theorem finK_len {s : List UInt32} (hs : s.length = 8) (rest : List UInt8) (count : Nat) : (finK s rest count).length = 32 := by
  unfold finK
  rw [wordsB_len, foldB_len hs]
theorem sumK_len (b : List UInt8) : (sumK b).length = 32 := finK_len (foldB_len firstK_len _ _) _ _
theorem shortK_len (b : List UInt8) : (shortK b).length = 16 := by unfold shortK; rw [List.length_take, sumK_len]; rfl
theorem putL_zero (n : Nat) : putL 0 n = List.replicate n 0 := by
  unfold putL
  apply List.ext_getElem?
  intro i
  simp only [List.getElem?_map, List.getElem?_replicate, List.getElem?_range]
  by_cases h : i < n
  · simp [h, List.getElem?_range]
  · simp [h, List.getElem?_range]
theorem padK_len (rest : List UInt8) (count : Nat) (h : rest.length < 64) : (padK rest count).length = rest.length + 9 + (119 - rest.length) % 64 ∧ (padK rest count).length % 64 = 0 := by
  have : (padK rest count).length = rest.length + 9 + (119 - rest.length) % 64 := by simp [padK, putL_length]; omega
  exact ⟨this, by omega⟩
theorem wordsB_take (ws : List UInt32) (k : Nat) (h : k < ws.length) : wordsB (ws.take k) ++ putL (ws.getD k 0).toNat 4 = wordsB (ws.take (k + 1)) := by
  rw [List.take_succ_eq_append_getElem h]
  unfold wordsB
  rw [List.flatMap_append]
  simp [h]
theorem get_words {ws : List UInt32} {k : Nat} (h : k < ws.length) : ((ws.map wD).map C.d)[k]? = some (.d (wD (ws.getD k 0))) := by
  simp [h]
theorem drop_take_drop (b : List UInt8) (n : Nat) : (b.drop (64 * n)).drop 64 = b.drop (64 * (n + 1)) := by rw [List.drop_drop, Nat.mul_succ]

def bksSt (s : List UInt32) (b : List UInt8) (n : Nat) : St := ⟨ofL [(1, .w (.c (.d (.sl ((b.drop (64 * n)).map bD))))), (2, .w (.c (.pa 1 1))), (4, .w (.c (.pa 2 1))), (5, .w (.c .nil))], hL [(1, .row 1 ((foldB s b n).map wD)), (2, .row 1 ((List.replicate 8 (0 : UInt32)).map wD))], uL [1, 2]⟩

def finSt (ws : List UInt32) (k : Nat) : St := ⟨ofL [(9, .w (.c (.own 1 1 0 (wordsB (ws.take k)).length))), (36, .w (.c (.d (.agg (ws.map wD))))), (37, .w (.c (.d (.int .i64 (k : Int)))))], hL [(1, .row 1 ((wordsB (ws.take k)).map bD))], uL [1]⟩

def chSt (b : List UInt8) (M : Int) (i : Nat) : St := ⟨ofL [(0, .w (.c (.d (.sl ((chainK b i).map bD))))), (9, .w (.c (.d (.int .i64 M)))), (10, .w (.c (.d (.int .i64 (i : Int)))))], hL [], uL []⟩
theorem chainK_len (b : List UInt8) (hb : b.length ≤ 140737488355328) : ∀ n, (chainK b n).length ≤ 140737488355328
  | 0 => hb
  | n + 1 => by rw [chainK, shortK_len]; decide
end Go.Proofs.Ytipjekggnanffaa
set_option linter.unusedVariables false
set_option linter.unusedSimpArgs false
namespace Go.Proofs.Ytipjekggnanffaa
open Go.RowKit

theorem rep_snoc {α : Type} (a : α) (j : Nat) : List.replicate j a ++ [a] = List.replicate (j + 1) a := by rw [List.replicate_succ']
theorem sum_rep (n : Nat) : ((List.replicate n (0 : UInt8)).map UInt8.toNat).sum = 0 := by induction n with
  | zero => rfl
  | succ n ih => rw [List.replicate_succ, List.map_cons, List.sum_cons, ih]; rfl
def rf1St (h : List UInt32) (rest : List UInt8) (count : Nat) (j : Nat) : St := ⟨ofL [(0, .w (.c (.d (.sl (h.map wD))))), (2, .w (.c (.d (.int .i64 (count : Int))))), (7, .w (.c (.d (.sl (constK.map wD))))), (8, .w (.c (.own 1 1 0 (rest ++ [128] ++ List.replicate j 0).length)))], hL [(1, .row 1 ((rest ++ [128] ++ List.replicate j 0).map bD))], uL [1]⟩
def rf2St (h : List UInt32) (p : List UInt8) (n : Nat) : St := ⟨ofL [(0, .w (.c (.d (.sl ((foldB h p n).map wD))))), (7, .w (.c (.d (.sl (constK.map wD))))), (8, .w (.c (.own 1 1 0 p.length))), (9, .w (.c (.d (.int .i64 ((64 * n : Nat) : Int)))))], hL [(1, .row 1 (p.map bD))], uL [1]⟩
def rf3St (ws : List UInt32) (k : Nat) : St := ⟨ofL [(0, .w (.c (.d (.sl (ws.map wD))))), (10, .w (.c (.own 1 1 0 (wordsB (ws.take k)).length))), (11, .w (.c (.d (.int .i64 (k : Int)))))], hL [(1, .row 1 ((wordsB (ws.take k)).map bD))], uL [1]⟩
theorem get_ws {ws : List UInt32} {k : Nat} (h : k < ws.length) : (ws.map wD)[k]? = some (wD (ws.getD k 0)) := by
  simp [h]
theorem b0_is : D.int .u8 0 = bD 0 := rfl
theorem b128_is : D.int .u8 128 = bD 128 := rfl
theorem app_c (l : List UInt8) (a : UInt8) : l.map bD ++ [bD a] = (l ++ [a]).map bD := by simp
def lp_rfin_0 : SCode :=
  .seq (.seq (.reg [⟨(some 18), .mv (.t 8), none⟩,
    ⟨(some 19), .len (.t 18), none⟩,
    ⟨(some 20), .bin .rem (.t 19) (.k (.c (.d (.int .i64 64)))), none⟩,
    ⟨(some 21), .bin .neq (.t 20) (.k (.c (.d (.int .i64 56)))), none⟩])
  (.cond (.t 21) (.skip)
   (.exit 0)))
  (.block 1 (.reg [⟨(some 22), .mv (.t 8), none⟩,
     ⟨(some 23), .bldSl false 1 1 (.int .u8 0) [(0, (.k (.c (.d (.int .u8 0)))))], none⟩,
     ⟨(some 24), .app false 1 1 (.t 22) (.t 23), none⟩,
     ⟨(some 8), .mv (.t 24), none⟩]))
def lp_rfin_1 : SCode :=
  .seq (.seq (.reg [⟨(some 31), .mv (.t 9), none⟩,
    ⟨(some 32), .mv (.t 8), none⟩,
    ⟨(some 33), .len (.t 32), none⟩,
    ⟨(some 34), .bin .lss (.t 31) (.t 33), none⟩])
  (.cond (.t 34) (.skip)
   (.exit 2)))
  (.seq (.block 3 (.reg [⟨(some 37), .mv (.t 0), none⟩,
     ⟨(some 38), .mv (.t 7), none⟩,
     ⟨(some 39), .mv (.t 8), none⟩,
     ⟨(some 40), .mv (.t 9), none⟩,
     ⟨(some 41), .mv (.t 9), none⟩,
     ⟨(some 42), .bin .add (.t 41) (.k (.c (.d (.int .i64 64)))), none⟩,
     ⟨(some 43), .slice 1 (.t 39) (some (.t 40)) (some (.t 42)) none, none⟩,
     ⟨(some 44), .call 69 [(.t 37), (.t 38), (.t 43)] none, none⟩,
     ⟨(some 0), .mv (.t 44), none⟩]))
  (.reg [⟨(some 35), .mv (.t 9), none⟩,
    ⟨(some 36), .bin .add (.t 35) (.k (.c (.d (.int .i64 64)))), none⟩,
    ⟨(some 9), .mv (.t 36), none⟩]))
def lp_rfin_2 : SCode :=
  .seq (.seq (.reg [⟨(some 46), .mv (.t 11), none⟩,
    ⟨(some 47), .bin .lss (.t 46) (.k (.c (.d (.int .i64 8)))), none⟩])
  (.cond (.t 47) (.skip)
   (.exit 4)))
  (.seq (.block 5 (.reg [⟨(some 50), .mv (.t 10), none⟩,
     ⟨(some 51), .mv (.t 0), none⟩,
     ⟨(some 52), .mv (.t 11), none⟩,
     ⟨(some 53), .idxSl 1 (.t 51) (.t 52), none⟩,
     ⟨(some 54), .load .sc (.t 53), none⟩,
     ⟨(some 55), .conv .u64 (.t 54), none⟩,
     ⟨(some 56), .call 41 [(.t 55), (.k (.c (.d (.int .i64 4))))] none, none⟩,
     ⟨(some 57), .app false 1 1 (.t 50) (.t 56), none⟩,
     ⟨(some 10), .mv (.t 57), none⟩]))
  (.reg [⟨(some 48), .mv (.t 11), none⟩,
    ⟨(some 49), .bin .add (.t 48) (.k (.c (.d (.int .i64 1)))), none⟩,
    ⟨(some 11), .mv (.t 49), none⟩]))
def sf_rfin : SFn := ⟨3, 59,
  .seq (.reg [⟨(some 6), .mv (.k (.c .nil)), none⟩])
  (.seq (.reg [⟨(some 12), .call 68 [] none, none⟩,
    ⟨(some 7), .mv (.t 12), none⟩])
  (.seq (.reg [⟨(some 13), .mv (.t 1), none⟩,
    ⟨(some 14), .bldSl false 1 1 (.sl []) [(0, (.t 13))], none⟩,
    ⟨(some 15), .call 19 [(.t 14)] (some (0, 1)), none⟩,
    ⟨(some 16), .bldSl false 1 1 (.int .u8 0) [(0, (.k (.c (.d (.int .u8 128)))))], none⟩,
    ⟨(some 17), .app false 1 1 (.t 15) (.t 16), none⟩,
    ⟨(some 8), .mv (.t 17), none⟩])
  (.seq (.block 0 (.loop lp_rfin_0))
  (.seq (.reg [⟨(some 25), .mv (.t 8), none⟩,
    ⟨(some 26), .mv (.t 2), none⟩,
    ⟨(some 27), .conv .u64 (.t 26), none⟩,
    ⟨(some 28), .bin .mul (.t 27) (.k (.c (.d (.int .u64 8)))), none⟩,
    ⟨(some 29), .call 41 [(.t 28), (.k (.c (.d (.int .i64 8))))] none, none⟩,
    ⟨(some 30), .app false 1 1 (.t 25) (.t 29), none⟩,
    ⟨(some 8), .mv (.t 30), none⟩])
  (.seq (.seq (.reg [⟨(some 9), .mv (.k (.c (.d (.int .i64 0)))), none⟩])
  (.block 2 (.loop lp_rfin_1)))
  (.seq (.reg [⟨(some 45), .bldSl true 0 1 (.int .u8 0) [], none⟩,
    ⟨(some 10), .mv (.t 45), none⟩])
  (.seq (.seq (.reg [⟨(some 11), .mv (.k (.c (.d (.int .i64 0)))), none⟩])
  (.block 4 (.loop lp_rfin_2)))
  (.seq (.reg [⟨(some 58), .mv (.t 10), none⟩,
    ⟨(some 6), .mv (.t 58), none⟩])
  (.ret))))))))),
  [(6, none)]⟩
theorem cf_rfin : compFn Try.prog { own := [15, 45], comp := [], frz := [], nils := [] } Try.f70 = some sf_rfin := by kernel_rfl
set_option maxHeartbeats 1600000 in
theorem rfin_c (G : Glob) (s : List UInt32) (rest : List UInt8) (count : Nat) (hs : s.length = 8) (hr : rest.length < 64) (hc : count ≤ 140737488355328) : Den Try.prog G 70 [.sl (s.map wD), .sl (rest.map bD), .int .i64 (count : Int)] (.w (.c (.fr 1 ((finK s rest count).map bD)))) := by
  refine den_walk Try.func70 cf_rfin rfl rfl ?_
  have hj := rjoin_c G [rest] (by simp) (by simp; omega)
  have hf : [rest].flatten = rest := by simp
  rw [hf] at hj
  obtain ⟨hp1, hp2⟩ := padK_len rest count hr
  simp only [sf_rfin, putAll, wx, wy, wz, stV, seval, IntWalk.iteOmega, IntWalk.toNatUp, reduceCtorEq]
  refine st_call (rcon_c G) rfl (.inl rfl) ?_
  simp only [wx, wy, wz, stV, seval, IntWalk.iteOmega, IntWalk.toNatUp, reduceCtorEq]
  refine st_call hj rfl (.inl rfl) ?_
  simp only [wx, wy, wz, stV, seval, IntWalk.iteOmega, IntWalk.toNatUp, reduceCtorEq, srcV, b128_is, app_c]
  refine loop_st (rf1St s rest count) (fun j => (119 - rest.length) % 64 - j) (fun j => j ≤ (119 - rest.length) % 64) 0 (Nat.zero_le _) ?_ ?_
  · refine ent_l (fun _ => 136) ?_ ?_ rfl rfl <;> simp only [wx, wex, wez, stV, seval, IntWalk.iteOmega, IntWalk.toNatUp, reduceCtorEq]
  · intro j hj
    have hl : (rest ++ [128] ++ List.replicate j 0).length = rest.length + 1 + j := by simp; omega
    have ht : ((rest ++ [128] ++ List.replicate j 0).length : Int).tmod 64 = (((rest.length + 1 + j) % 64 : Nat) : Int) := by rw [hl]; rfl
    by_cases hlt : j < (119 - rest.length) % 64
    · have e1 : rest ++ [128] ++ List.replicate j 0 ++ [0] = rest ++ [128] ++ List.replicate (j + 1) 0 := by
        rw [List.append_assoc, rep_snoc]
      generalize hx : rest ++ [128] ++ List.replicate j 0 = x at *
      simp only [lp_rfin_0, rf1St, hx, wx, wy, wz, stV, seval, IntWalk.iteOmega, IntWalk.toNatUp, reduceCtorEq, ht, srcV, b0_is, app_c, e1]
      refine lop_next (j + 1) (by omega) (by omega) (ent_l (fun _ => 192) ?_ ?_ rfl rfl) <;> simp only [wx, wex, wez, stV, seval, IntWalk.iteOmega, IntWalk.toNatUp, reduceCtorEq]
    · obtain rfl : j = (119 - rest.length) % 64 := by omega
      generalize hx : rest ++ [128] ++ List.replicate ((119 - rest.length) % 64) 0 = x at *
      simp only [lp_rfin_0, rf1St, hx, wx, wy, wz, stV, seval, IntWalk.iteOmega, IntWalk.toNatUp, reduceCtorEq, ht]
      refine st_call (rput_in G (count * 8) 8 (by decide)) ?_ (.inl rfl) ?_
      · simp only [wx, wy, wz, stV, seval, IntWalk.iteOmega, IntWalk.toNatUp, reduceCtorEq]
      have hx2 : x ++ putL (count * 8) 8 = padK rest count := by rw [← hx]; rfl
      simp only [wx, wy, wz, stV, seval, IntWalk.iteOmega, IntWalk.toNatUp, reduceCtorEq, srcV, app_map, hx2, putL_length]
      refine loop_st (rf2St s (padK rest count)) (fun n => (padK rest count).length / 64 - n) (fun n => n ≤ (padK rest count).length / 64) 0 (Nat.zero_le _) ?_ ?_
      · refine ent_l (fun _ => 240) ?_ ?_ rfl rfl <;> simp only [wx, wex, wez, stV, seval, IntWalk.iteOmega, IntWalk.toNatUp, reduceCtorEq, foldB]
      · generalize hpk : padK rest count = p at *
        intro n hn
        have hl8 := foldB_len hs p n
        by_cases hlt : n < p.length / 64
        · have h2 : ((p.drop (64 * n)).take 64).length = 64 := by rw [List.length_take, List.length_drop]; omega
          have e1 : 64 * n + 64 - 64 * n = 64 := by omega
          simp only [lp_rfin_1, rf2St, wx, wy, wz, stV, seval, IntWalk.iteOmega, IntWalk.toNatUp, reduceCtorEq]
          refine st_call (rblock_c G (foldB s p n) ((p.drop (64 * n)).take 64) hl8 h2) ?_ (.inr (fl_w _ _)) ?_
          · simp only [wx, wy, wz, stV, seval, IntWalk.iteOmega, IntWalk.toNatUp, reduceCtorEq, obSl, e1]
          simp only [wx, wy, wz, stV, seval, IntWalk.iteOmega, IntWalk.toNatUp, reduceCtorEq]
          have e2 : 64 * (n : Int) + 64 = 64 * ((n : Int) + 1) := by omega
          refine lop_next (n + 1) (by omega) (by omega) (ent_l id ?_ ?_ rfl rfl) <;> simp only [wx, wex, wez, stV, seval, IntWalk.iteOmega, IntWalk.toNatUp, reduceCtorEq, foldB, e2]
        · obtain rfl : n = p.length / 64 := by omega
          have hfk : finK s rest count = wordsB (foldB s p (p.length / 64)) := by unfold finK; rw [hpk]
          rw [hfk]
          simp only [rf2St]
          generalize foldB s p (p.length / 64) = ws at hl8
          have h64 : ¬ ((64 * (p.length / 64) : Nat) : Int) < (p.length : Int) := by omega
          simp only [lp_rfin_1, wx, wy, wz, stV, seval, IntWalk.iteOmega, IntWalk.toNatUp, reduceCtorEq, h64]
          refine loop_st (rf3St ws) (fun k => 8 - k) (fun k => k ≤ 8) 0 (Nat.zero_le _) ?_ ?_
          · refine ent_l (fun _ => 360) ?_ ?_ rfl rfl <;> simp only [wx, wex, wez, stV, seval, IntWalk.iteOmega, IntWalk.toNatUp, reduceCtorEq, wordsB]
          · intro k hk
            by_cases hlt : k < 8
            · have hw1 : (ws.getD k 0).toNat < 4294967296 := word_lt _
              have hwl := wordsB_len (ws.take k)
              rw [List.length_take] at hwl
              simp only [lp_rfin_2, rf3St, wx, wy, wz, stV, seval, IntWalk.iteOmega, IntWalk.toNatUp, reduceCtorEq, get_ws (show k < ws.length by omega)]
              refine st_call (rput_in G (ws.getD k 0).toNat 4 (by decide)) ?_ (.inl rfl) ?_
              · simp only [wx, wy, wz, stV, seval, IntWalk.iteOmega, IntWalk.toNatUp, reduceCtorEq]
              simp only [wx, wy, wz, stV, seval, IntWalk.iteOmega, IntWalk.toNatUp, reduceCtorEq, srcV, wordsB_take ws k (by omega), putL_length]
              refine lop_next (k + 1) (by omega) (by omega) (ent_l (fun _ => 456) ?_ ?_ rfl rfl) <;> simp only [wx, wex, wez, stV, seval, IntWalk.iteOmega, IntWalk.toNatUp, reduceCtorEq]
            · obtain rfl : k = 8 := by omega
              have : ws.take 8 = ws := List.take_of_length_le (by omega)
              simp only [lp_rfin_2, rf3St, wx, wy, wz, stV, seval, IntWalk.iteOmega, IntWalk.toNatUp, reduceCtorEq, this]
              exact ret_own (id := 1) (n := (wordsB ws).length) (s := 1) (by simp only [wx, stV, seval, IntWalk.iteOmega, IntWalk.toNatUp, reduceCtorEq]) (by simp only [wx, stV, seval, IntWalk.iteOmega, IntWalk.toNatUp, reduceCtorEq]) (by rw [List.length_map])

def rsSt (b : List UInt8) (n : Nat) : St := ⟨ofL [(0, .w (.c (.d (.sl (b.map bD))))), (3, .w (.c (.d (.sl ((foldB firstK b n).map wD))))), (4, .w (.c (.d (.sl (constK.map wD))))), (5, .w (.c (.d (.int .i64 ((64 * (b.length / 64) : Nat) : Int))))), (6, .w (.c (.d (.int .i64 ((64 * n : Nat) : Int)))))], hL [], uL []⟩
def lp_rsum_0 : SCode :=
  .seq (.seq (.reg [⟨(some 13), .mv (.t 6), none⟩,
    ⟨(some 14), .mv (.t 5), none⟩,
    ⟨(some 15), .bin .lss (.t 13) (.t 14), none⟩])
  (.cond (.t 15) (.skip)
   (.exit 0)))
  (.seq (.block 1 (.reg [⟨(some 18), .mv (.t 3), none⟩,
     ⟨(some 19), .mv (.t 4), none⟩,
     ⟨(some 20), .mv (.t 0), none⟩,
     ⟨(some 21), .mv (.t 6), none⟩,
     ⟨(some 22), .mv (.t 6), none⟩,
     ⟨(some 23), .bin .add (.t 22) (.k (.c (.d (.int .i64 64)))), none⟩,
     ⟨(some 24), .slice 1 (.t 20) (some (.t 21)) (some (.t 23)) none, none⟩,
     ⟨(some 25), .call 69 [(.t 18), (.t 19), (.t 24)] none, none⟩,
     ⟨(some 3), .mv (.t 25), none⟩]))
  (.reg [⟨(some 16), .mv (.t 6), none⟩,
    ⟨(some 17), .bin .add (.t 16) (.k (.c (.d (.int .i64 64)))), none⟩,
    ⟨(some 6), .mv (.t 17), none⟩]))
def sf_rsum : SFn := ⟨1, 33,
  .seq (.reg [⟨(some 2), .mv (.k (.c .nil)), none⟩])
  (.seq (.reg [⟨(some 7), .call 67 [] none, none⟩,
    ⟨(some 8), .call 68 [] none, none⟩,
    ⟨(some 3), .mv (.t 7), none⟩,
    ⟨(some 4), .mv (.t 8), none⟩])
  (.seq (.reg [⟨(some 9), .mv (.t 0), none⟩,
    ⟨(some 10), .len (.t 9), none⟩,
    ⟨(some 11), .bin .quo (.t 10) (.k (.c (.d (.int .i64 64)))), none⟩,
    ⟨(some 12), .bin .mul (.t 11) (.k (.c (.d (.int .i64 64)))), none⟩,
    ⟨(some 5), .mv (.t 12), none⟩])
  (.seq (.seq (.reg [⟨(some 6), .mv (.k (.c (.d (.int .i64 0)))), none⟩])
  (.block 0 (.loop lp_rsum_0)))
  (.seq (.reg [⟨(some 26), .mv (.t 3), none⟩,
    ⟨(some 27), .mv (.t 0), none⟩,
    ⟨(some 28), .mv (.t 5), none⟩,
    ⟨(some 29), .slice 1 (.t 27) (some (.t 28)) none none, none⟩,
    ⟨(some 30), .mv (.t 0), none⟩,
    ⟨(some 31), .len (.t 30), none⟩,
    ⟨(some 32), .call 70 [(.t 26), (.t 29), (.t 31)] (some (0, 1)), none⟩,
    ⟨(some 2), .mv (.t 32), none⟩])
  (.ret))))),
  [(2, none)]⟩
theorem cf_rsum : compFn Try.prog { own := [32], comp := [], frz := [], nils := [] } Try.f40 = some sf_rsum := by kernel_rfl
set_option maxHeartbeats 1600000 in
theorem rsum_c (G : Glob) (b : List UInt8) (hb : b.length ≤ 140737488355328) : Den Try.prog G 40 [.sl (b.map bD)] (.w (.c (.fr 1 ((sumK b).map bD)))) := by
  refine den_walk Try.func40 cf_rsum rfl rfl ?_
  have e1 : (b.length : Int).tdiv 64 = ((b.length / 64 : Nat) : Int) := rfl
  have e2 : ((b.length / 64 : Nat) : Int) * 64 = ((64 * (b.length / 64) : Nat) : Int) := by omega
  have e3 : IntKind.i64.wrap ((64 * (b.length / 64) : Nat) : Int) = ((64 * (b.length / 64) : Nat) : Int) := IntWalk.i64_in _ (by omega)
  have e4 : IntKind.i64.wrap ((b.length / 64 : Nat) : Int) = ((b.length / 64 : Nat) : Int) := IntWalk.i64_in _ (by omega)
  simp only [sf_rsum, putAll, wx, wy, stV, seval, IntWalk.iteOmega, IntWalk.toNatUp, reduceCtorEq]
  refine st_call (rfst_c G) rfl (.inl rfl) ?_
  simp only [wx, wy, stV, seval, IntWalk.iteOmega, IntWalk.toNatUp, reduceCtorEq]
  refine st_call (rcon_c G) rfl (.inl rfl) ?_
  simp only [wx, wy, stV, seval, IntWalk.iteOmega, IntWalk.toNatUp, reduceCtorEq, e1, e2, e3, e4]
  refine loop_st (rsSt b) (fun n => b.length / 64 - n) (fun n => n ≤ b.length / 64) 0 (Nat.zero_le _) ?_ ?_
  · refine ent_l id ?_ ?_ rfl rfl <;> simp only [wx, wex, stV, seval, IntWalk.iteOmega, IntWalk.toNatUp, reduceCtorEq, foldB]
  · intro n hn
    have hl8 := foldB_len firstK_len b n
    by_cases hlt : n < b.length / 64
    · have h2 : ((b.drop (64 * n)).take 64).length = 64 := by rw [List.length_take, List.length_drop]; omega
      have e1 : 64 * n + 64 - 64 * n = 64 := by omega
      have e5 : IntKind.i64.wrap (((64 * n : Nat) : Int) + 64) = ((64 * (n + 1) : Nat) : Int) := by rw [IntWalk.i64_in _ (by omega)]; omega
      have e6 : 64 * (n + 1) - 64 * n = 64 := by omega
      simp only [lp_rsum_0, rsSt, wx, wy, stV, seval, IntWalk.iteOmega, IntWalk.toNatUp, reduceCtorEq, e1, e5, e6]
      refine st_call (rblock_c G (foldB firstK b n) ((b.drop (64 * n)).take 64) hl8 h2) ?_ (.inl rfl) ?_
      · simp only [wx, wy, stV, seval, IntWalk.iteOmega, IntWalk.toNatUp, reduceCtorEq]
      simp only [wx, wy, stV, seval, IntWalk.iteOmega, IntWalk.toNatUp, reduceCtorEq, e5]
      refine lop_next (n + 1) (by omega) (by omega) (ent_l id ?_ ?_ rfl rfl) <;> simp only [wx, wex, stV, seval, IntWalk.iteOmega, IntWalk.toNatUp, reduceCtorEq, foldB]
    · obtain rfl : n = b.length / 64 := by omega
      have e1 : List.take (b.length - 64 * (b.length / 64)) (b.drop (64 * (b.length / 64))) = b.drop (64 * (b.length / 64)) := List.take_of_length_le (by rw [List.length_drop]; exact Nat.le_refl _)
      simp only [lp_rsum_0, rsSt, wx, wy, stV, seval, IntWalk.iteOmega, IntWalk.toNatUp, reduceCtorEq, e1]
      refine st_call (rfin_c G (foldB firstK b (b.length / 64)) (b.drop (64 * (b.length / 64))) b.length hl8 (by rw [List.length_drop]; omega) hb) ?_ (.inl rfl) ?_
      · simp only [wx, wy, stV, seval, IntWalk.iteOmega, IntWalk.toNatUp, reduceCtorEq]
      simp only [wx, wy, stV, seval, IntWalk.iteOmega, IntWalk.toNatUp, reduceCtorEq]
      exact ret_own (id := 256) (n := (finK (foldB firstK b (b.length / 64)) (b.drop (64 * (b.length / 64))) b.length).length) (s := 1) (by simp only [wx, stV, seval, IntWalk.iteOmega, IntWalk.toNatUp, reduceCtorEq]) (by simp only [wx, stV, seval, IntWalk.iteOmega, IntWalk.toNatUp, reduceCtorEq] <;> rfl) (by rw [List.length_map]; rfl)
def rchSt (b : List UInt8) (M : Int) (i : Nat) : St := ⟨ofL [(1, .w (.c (.d (.int .i64 M)))), (5, .w (.c (.d (.sl ((chainK b i).map bD))))), (6, .w (.c (.d (.int .i64 (i : Int)))))], hL [], uL []⟩
end Go.Proofs.Ytipjekggnanffaa
set_option linter.unusedVariables false
set_option linter.unusedSimpArgs false
namespace Go.Proofs.Ytipjekggnanffaa
open Go.RowKit

/-- A computation. -/
abbrev hsD (ws : List UInt32) (rest : List UInt8) (count : Int) : D := .agg [.sl (ws.map wD), .sl (rest.map bD), .int .i64 count]
def validK (ws : List UInt32) (rest : List UInt8) (count : Int) : Bool := decide (ws.length = 8 ∧ 0 ≤ count ∧ count ≤ 1099511627776 ∧ (rest.length : Int) = count % 64)
/-- What More answers: the computation, and the error. -/
def moreK (ws : List UInt32) (rest : List UInt8) (count : Int) (b : List UInt8) : (List UInt32 × List UInt8 × Int) × Int :=
  if validK ws rest count = true then if (b.length : Int) ≤ 1099511627776 - count then ((foldB ws (rest ++ b) ((rest ++ b).length / 64), (rest ++ b).drop (64 * ((rest ++ b).length / 64)), count + b.length), 0) else (([], [], 0), 2) else (([], [], 0), 3)
theorem validK_is {ws : List UInt32} {rest : List UInt8} {count : Int} (h : validK ws rest count = true) : ws.length = 8 ∧ 0 ≤ count ∧ count ≤ 1099511627776 ∧ (rest.length : Int) = count % 64 := by
  simpa only [validK, decide_eq_true_eq] using h
abbrev mrD (p : (List UInt32 × List UInt8 × Int) × Int) : V := .tup [.c (.d (hsD p.1.1 p.1.2.1 p.1.2.2)), .c (.d (.int .i64 p.2))]
theorem moreK_bad {ws : List UInt32} {rest : List UInt8} {count : Int} {b : List UInt8} (h : validK ws rest count = false) : moreK ws rest count b = (([], [], 0), 3) := by simp [moreK, h]
theorem moreK_long {ws : List UInt32} {rest : List UInt8} {count : Int} {b : List UInt8} (h : validK ws rest count = true) (h2 : ¬ (b.length : Int) ≤ 1099511627776 - count) : moreK ws rest count b = (([], [], 0), 2) := by
  unfold moreK; rw [if_pos h, if_neg h2]
theorem moreK_ok {ws : List UInt32} {rest : List UInt8} {count : Int} {b : List UInt8} (h : validK ws rest count = true) (h2 : (b.length : Int) ≤ 1099511627776 - count) : moreK ws rest count b = ((foldB ws (rest ++ b) ((rest ++ b).length / 64), (rest ++ b).drop (64 * ((rest ++ b).length / 64)), count + b.length), 0) := by
  unfold moreK; rw [if_pos h, if_pos h2]
def endK (ws : List UInt32) (rest : List UInt8) (count : Int) : List UInt8 × Int := if validK ws rest count = true then (finK ws rest count.toNat, 0) else ([], 3)
theorem endK_bad {ws : List UInt32} {rest : List UInt8} {count : Int} (h : validK ws rest count = false) : endK ws rest count = ([], 3) := by simp [endK, h]
theorem endK_ok {ws : List UInt32} {rest : List UInt8} {count : Int} (h : validK ws rest count = true) : endK ws rest count = (finK ws rest count.toNat, 0) := by simp [endK, h]
abbrev enD (p : List UInt8 × Int) : V := .tup [.c (.d (.sl (p.1.map bD))), .c (.d (.int .i64 p.2))]

def rmSt (ws : List UInt32) (al : List UInt8) (c : Int) : Nat → St
  | 0 => ⟨ofL [(4, .w (.c (.ptr 1 1 0 0))), (6, .w (.c (.d (.sl (al.map bD))))), (7, .w (.c (.ptr 2 1 0 0))), (8, .w (.c (.d (.sl (constK.map wD))))), (9, .w (.c (.d (.int .i64 0))))],
      hL [(1, .box [.nil, .nil, .d (.int .i64 0)]), (2, .box [.own 3 1 0 ws.length, .nil, .d (.int .i64 c)]), (3, .row 1 (ws.map wD))], uL [1, 2, 3]⟩
  | n + 1 => ⟨ofL [(4, .w (.c (.ptr 1 1 0 0))), (6, .w (.c (.d (.sl (al.map bD))))), (7, .w (.c (.ptr 2 1 0 0))), (8, .w (.c (.d (.sl (constK.map wD))))), (9, .w (.c (.d (.int .i64 ((64 * (n + 1) : Nat) : Int)))))],
      hL [(1, .box [.nil, .nil, .d (.int .i64 0)]), (2, .box [.d (.sl ((foldB ws al (n + 1)).map wD)), .nil, .d (.int .i64 c)])], uL [1, 2]⟩

theorem take_eq_succ {α : Type} [DecidableEq α] {l m : List α} (h : l.length = m.length) {i : Nat} (hi : i < l.length) (ht : l.take i = m.take i) : l.take (i + 1) = m.take (i + 1) ↔ l[i] = m[i] := by
  rw [List.take_succ_eq_append_getElem hi, List.take_succ_eq_append_getElem (show i < m.length by omega), ht]
  constructor
  · intro e
    have := List.append_cancel_left e
    simpa using this
  · intro e
    rw [e]
def sameH (ws vs : List UInt32) (r s : List UInt8) (c d : Int) : Bool := decide (ws = vs ∧ c = d ∧ r = s)
def rssSt (ws vs : List UInt32) (r s : List UInt8) (c d : Int) (i : Nat) : St := ⟨ofL [(2, .w (.c (.rp [.sl (ws.map wD), .sl (r.map bD), .int .i64 c]))), (3, .w (.c (.rp [.sl (vs.map wD), .sl (s.map bD), .int .i64 d]))), (5, .w (.c (.d (.int .i64 (i : Int)))))], hL [], uL []⟩
end Go.Proofs.Ytipjekggnanffaa
set_option linter.unusedVariables false
set_option linter.unusedSimpArgs false
namespace Go.Proofs.Ytipjekggnanffaa
open Go.RowKit

def withinN (v m : Int) : Int := if m < 1 then 0 else v % m
theorem withinN_range (v m : Int) (h : 1 ≤ m) : 0 ≤ withinN v m ∧ withinN v m < m := by
  unfold withinN
  rw [if_neg (by omega)]
  exact ⟨Int.emod_nonneg _ (by omega), Int.emod_lt_of_pos _ (by omega)⟩
theorem tmod_neg {v m : Int} (hm : 0 < m) (h : v.tmod m < 0) : v.tmod m + m = v % m := by
  have h1 := Int.emod_add_mul_ediv v m
  have h2 := Int.tmod_add_mul_tdiv v m
  have h3 := Int.emod_nonneg v (show m ≠ 0 by omega)
  have h4 := Int.emod_lt_of_pos v hm
  have h5 := Int.lt_tmod_of_pos v hm
  have e : m * (v.tdiv m - v / m) = v % m - v.tmod m := by rw [Int.mul_sub]; omega
  have k1 : v.tdiv m - v / m = 1 := by
    rcases Int.lt_trichotomy (v.tdiv m - v / m) 1 with hlt | heq | hgt
    · exfalso
      have : v.tdiv m - v / m ≤ 0 := by omega
      have := Int.mul_le_mul_of_nonneg_left this (show 0 ≤ m by omega)
      omega
    · exact heq
    · exfalso
      have : 2 ≤ v.tdiv m - v / m := by omega
      have := Int.mul_le_mul_of_nonneg_left this (show 0 ≤ m by omega)
      omega
  rw [k1] at e
  omega
theorem tmod_pos {v m : Int} (hm : 0 < m) (h : 0 ≤ v.tmod m) : v.tmod m = v % m := by
  have h1 := Int.emod_add_mul_ediv v m
  have h2 := Int.tmod_add_mul_tdiv v m
  have h3 := Int.emod_nonneg v (show m ≠ 0 by omega)
  have h4 := Int.emod_lt_of_pos v hm
  have h5 := Int.tmod_lt_of_pos v hm
  have e : m * (v.tdiv m - v / m) = v % m - v.tmod m := by rw [Int.mul_sub]; omega
  have k1 : v.tdiv m - v / m = 0 := by
    rcases Int.lt_trichotomy (v.tdiv m - v / m) 0 with hlt | heq | hgt
    · exfalso
      have : v.tdiv m - v / m ≤ -1 := by omega
      have := Int.mul_le_mul_of_nonneg_left this (show 0 ≤ m by omega)
      omega
    · exact heq
    · exfalso
      have : 1 ≤ v.tdiv m - v / m := by omega
      have := Int.mul_le_mul_of_nonneg_left this (show 0 ≤ m by omega)
      omega
  rw [k1] at e
  omega
def sf_within : SFn := ⟨2, 16,
  .seq (.reg [⟨(some 4), .mv (.k (.c (.d (.int .i64 0)))), none⟩])
  (.seq (.seq (.reg [⟨(some 5), .mv (.t 1), none⟩,
    ⟨(some 6), .bin .lss (.t 5) (.k (.c (.d (.int .i64 1)))), none⟩])
  (.cond (.t 6) (.seq (.reg [⟨(some 4), .mv (.k (.c (.d (.int .i64 0)))), none⟩])
   (.ret))
   (.skip)))
  (.seq (.reg [⟨(some 7), .mv (.t 0), none⟩,
    ⟨(some 8), .mv (.t 1), none⟩,
    ⟨(some 9), .bin .rem (.t 7) (.t 8), none⟩,
    ⟨(some 0), .mv (.t 9), none⟩])
  (.seq (.seq (.reg [⟨(some 10), .mv (.t 0), none⟩,
    ⟨(some 11), .bin .lss (.t 10) (.k (.c (.d (.int .i64 0)))), none⟩])
  (.cond (.t 11) (.reg [⟨(some 12), .mv (.t 0), none⟩,
     ⟨(some 13), .mv (.t 1), none⟩,
     ⟨(some 14), .bin .add (.t 12) (.t 13), none⟩,
     ⟨(some 0), .mv (.t 14), none⟩])
   (.skip)))
  (.seq (.reg [⟨(some 15), .mv (.t 0), none⟩,
    ⟨(some 4), .mv (.t 15), none⟩])
  (.ret))))),
  [(4, none)]⟩
theorem cf_within : compFn Try.prog { own := [], comp := [], frz := [], nils := [] } Try.f17 = some sf_within := by kernel_rfl
theorem within_c (G : Glob) (v m : Int) (hm : m ≤ 9223372036854775807) : Den Try.prog G 17 [.int .i64 v, .int .i64 m] (.w (.c (.d (.int .i64 (withinN v m))))) := by
  refine den_walk Try.func17 cf_within rfl rfl ?_
  unfold withinN
  by_cases h : m < 1
  · rw [if_pos h]
    simp only [sf_within, putAll, wx, wy, wz, stV, seval, IntWalk.iteOmega, IntWalk.toNatUp, reduceCtorEq]
    exact ret_d1 (by simp only [wx, wy, wz, stV, seval, IntWalk.iteOmega, IntWalk.toNatUp, reduceCtorEq])
  · rw [if_neg h]
    have hne : ¬ m = 0 := by omega
    have h4 := Int.tmod_lt_of_pos v (show 0 < m by omega)
    by_cases hn : v.tmod m < 0
    · have e := tmod_neg (by omega) hn
      have h3 := Int.emod_lt_of_pos v (show 0 < m by omega)
      have h5 := Int.emod_nonneg v (show m ≠ 0 by omega)
      simp only [sf_within, putAll, wx, wy, wz, stV, seval, IntWalk.iteOmega, IntWalk.toNatUp, reduceCtorEq, hne]
      exact ret_d1 (by simp only [wx, wy, wz, stV, seval, IntWalk.iteOmega, IntWalk.toNatUp, reduceCtorEq, e])
    · have e := tmod_pos (v := v) (show 0 < m by omega) (by omega)
      simp only [sf_within, putAll, wx, wy, wz, stV, seval, IntWalk.iteOmega, IntWalk.toNatUp, reduceCtorEq, hne]
      exact ret_d1 (by simp only [wx, wy, wz, stV, seval, IntWalk.iteOmega, IntWalk.toNatUp, reduceCtorEq, e])

/-! ### Bytes of a number -/
def hashAt (s i : Nat) : List UInt8 := sumK (putL s 8 ++ putL i 4)
def bytesN (s : Nat) (k : Nat) : List UInt8 := ((List.range k).map (hashAt s)).flatten
theorem bytesN_succ (s k : Nat) : bytesN s k ++ hashAt s k = bytesN s (k + 1) := by simp [bytesN, List.range_succ]
theorem bytesN_len (s : Nat) : ∀ k, (bytesN s k).length = 32 * k
  | 0 => rfl
  | k + 1 => by rw [← bytesN_succ, List.length_append, bytesN_len s k]; unfold hashAt; rw [sumK_len]; omega
def bytesK (seed n : Int) : List UInt8 := (bytesN (seed % 18446744073709551616).toNat ((n.toNat + 31) / 32)).take n.toNat
theorem bytesK_len (seed n : Int) : (bytesK seed n).length = n.toNat := by
  unfold bytesK; rw [List.length_take, bytesN_len]; omega
def byLSt (seed n : Int) (s : Nat) (k : Nat) : St := ⟨ofL [(0, .w (.c (.d (.int .i64 seed)))), (1, .w (.c (.d (.int .i64 n)))), (5, .w (.c (.own 1 1 0 (bytesN s k).length))), (6, .w (.c (.d (.int .i64 (k : Int)))))], hL [(1, .row 1 ((bytesN s k).map bD))], uL [1]⟩
def lp_wbytes_0 : SCode :=
  .seq (.seq (.reg [⟨(some 8), .mv (.t 5), none⟩,
    ⟨(some 9), .len (.t 8), none⟩,
    ⟨(some 10), .mv (.t 1), none⟩,
    ⟨(some 11), .bin .lss (.t 9) (.t 10), none⟩])
  (.cond (.t 11) (.skip)
   (.exit 0)))
  (.seq (.block 1 (.reg [⟨(some 14), .mv (.t 5), none⟩,
     ⟨(some 15), .mv (.t 0), none⟩,
     ⟨(some 16), .conv .u64 (.t 15), none⟩,
     ⟨(some 17), .call 41 [(.t 16), (.k (.c (.d (.int .i64 8))))] none, none⟩,
     ⟨(some 18), .mv (.t 6), none⟩,
     ⟨(some 19), .conv .u64 (.t 18), none⟩,
     ⟨(some 20), .call 41 [(.t 19), (.k (.c (.d (.int .i64 4))))] none, none⟩,
     ⟨(some 21), .bldSl false 2 1 (.sl []) [(0, (.t 17)), (1, (.t 20))], none⟩,
     ⟨(some 22), .call 19 [(.t 21)] none, none⟩,
     ⟨(some 23), .call 40 [(.t 22)] none, none⟩,
     ⟨(some 24), .app false 1 1 (.t 14) (.t 23), none⟩,
     ⟨(some 5), .mv (.t 24), none⟩]))
  (.reg [⟨(some 12), .mv (.t 6), none⟩,
    ⟨(some 13), .bin .add (.t 12) (.k (.c (.d (.int .i64 1)))), none⟩,
    ⟨(some 6), .mv (.t 13), none⟩]))
def sf_wbytes : SFn := ⟨2, 29,
  .seq (.reg [⟨(some 4), .mv (.k (.c .nil)), none⟩])
  (.seq (.reg [⟨(some 7), .bldSl true 0 1 (.int .u8 0) [], none⟩,
    ⟨(some 5), .mv (.t 7), none⟩])
  (.seq (.seq (.reg [⟨(some 6), .mv (.k (.c (.d (.int .i64 0)))), none⟩])
  (.block 0 (.loop lp_wbytes_0)))
  (.seq (.reg [⟨(some 25), .mv (.t 5), none⟩,
    ⟨(some 26), .mv (.t 1), none⟩,
    ⟨(some 27), .max [(.t 26), (.k (.c (.d (.int .i64 0))))], none⟩,
    ⟨(some 28), .slice 1 (.t 25) none (some (.t 27)) none, none⟩,
    ⟨(some 4), .mv (.t 28), none⟩])
  (.ret)))),
  [(4, none)]⟩
theorem cf_wbytes : compFn Try.prog { own := [7], comp := [], frz := [], nils := [] } Try.f21 = some sf_wbytes := by kernel_rfl
set_option maxHeartbeats 1600000 in
theorem wbytes_f (G : Glob) (seed n : Int) (hn : n ≤ 1099511627776) : Den Try.prog G 21 [.int .i64 seed, .int .i64 n] (.w (.c (.fr 1 ((bytesK seed n).map bD)))) := by
  refine den_walk Try.func21 cf_wbytes rfl rfl ?_
  obtain ⟨s, hs⟩ : ∃ s : Nat, (seed % 18446744073709551616).toNat = s := ⟨_, rfl⟩
  have hw : IntKind.u64.wrap seed = (s : Int) := by rw [IntKind.wrap_u64, ← hs]; omega
  have hs2 : s < 18446744073709551616 := by omega
  have hK : bytesK seed n = (bytesN s ((n.toNat + 31) / 32)).take n.toNat := by unfold bytesK; rw [hs]
  rw [hK]
  simp only [sf_wbytes, putAll, wx, wy, wz, stV, seval, IntWalk.iteOmega, IntWalk.toNatUp, reduceCtorEq]
  refine loop_st (byLSt seed n s) (fun k => (n.toNat + 31) / 32 - k) (fun k => k ≤ (n.toNat + 31) / 32) 0 (Nat.zero_le _) ?_ ?_
  · refine ent_l (fun _ => 56) ?_ ?_ rfl rfl <;> simp only [wx, wex, wez, stV, seval, IntWalk.iteOmega, IntWalk.toNatUp, reduceCtorEq] <;> rfl
  · intro k hk
    have hl := bytesN_len s k
    by_cases hlt : k < (n.toNat + 31) / 32
    · have hc : ((bytesN s k).length : Int) < n := by omega
      have hj := rjoin_c G [putL s 8, putL k 4] (by simp) (by simp [putL_length])
      have hf : [putL s 8, putL k 4].flatten = putL s 8 ++ putL k 4 := by simp
      rw [hf] at hj
      have hb := bytesN_succ s k
      have hk2 : IntKind.u64.wrap (k : Int) = (k : Int) := u64_in _ (by omega) (by omega)
      simp only [lp_wbytes_0, byLSt, wx, wy, stV, seval, IntWalk.iteOmega, IntWalk.toNatUp, reduceCtorEq, hw, hk2]
      refine st_call (rput_in G s 8 (by decide)) rfl (.inl rfl) ?_
      simp only [wx, wy, stV, seval, IntWalk.iteOmega, IntWalk.toNatUp, reduceCtorEq, hw, hk2]
      refine st_call (rput_in G k 4 (by decide)) rfl (.inl rfl) ?_
      simp only [wx, wy, stV, seval, IntWalk.iteOmega, IntWalk.toNatUp, reduceCtorEq]
      refine st_call hj rfl (.inl rfl) ?_
      simp only [wx, wy, stV, seval, IntWalk.iteOmega, IntWalk.toNatUp, reduceCtorEq]
      refine st_call (rsum_c G (putL s 8 ++ putL k 4) (by simp [putL_length])) rfl (.inl rfl) ?_
      have hh : (sumK (putL s 8 ++ putL k 4)).length = 32 := sumK_len _
      have hb' : bytesN s k ++ sumK (putL s 8 ++ putL k 4) = bytesN s (k + 1) := hb
      simp only [wx, wy, wz, stV, seval, IntWalk.iteOmega, IntWalk.toNatUp, reduceCtorEq, srcV, app_map, hb', hh]
      refine lop_next (k + 1) (by omega) (by omega) (ent_l (fun _ => 192) ?_ ?_ rfl rfl) <;> simp only [wx, wex, wez, stV, seval, IntWalk.iteOmega, IntWalk.toNatUp, reduceCtorEq]
    · obtain rfl : k = (n.toNat + 31) / 32 := by omega
      have hc : ¬ ((bytesN s ((n.toNat + 31) / 32)).length : Int) < n := by omega
      by_cases h0 : n < 0
      · have e0 : n.toNat = 0 := by omega
        simp only [lp_wbytes_0, byLSt, wx, wy, wz, stV, seval, IntWalk.iteOmega, IntWalk.toNatUp, reduceCtorEq, hc, List.foldl_cons, List.foldl_nil]
        rw [e0, List.map_take]
        exact ret_ownN (id := 1) (s := 1) (by simp only [wx, stV, seval, IntWalk.iteOmega, IntWalk.toNatUp, reduceCtorEq]) (by simp only [wx, stV, seval, IntWalk.iteOmega, IntWalk.toNatUp, reduceCtorEq]) (Nat.zero_le _)
      · simp only [lp_wbytes_0, byLSt, wx, wy, wz, stV, seval, IntWalk.iteOmega, IntWalk.toNatUp, reduceCtorEq, hc, List.foldl_cons, List.foldl_nil]
        rw [List.map_take]
        exact ret_ownN (id := 1) (s := 1) (by simp only [wx, stV, seval, IntWalk.iteOmega, IntWalk.toNatUp, reduceCtorEq]) (by simp only [wx, stV, seval, IntWalk.iteOmega, IntWalk.toNatUp, reduceCtorEq]) (by rw [List.length_map, bytesN_len]; omega)
theorem wbytes_c (G : Glob) (seed n : Int) (hn : n ≤ 1099511627776) : Den Try.prog G 21 [.int .i64 seed, .int .i64 n] (.w (.c (.d (.sl ((bytesK seed n).map bD))))) := den_ro (wbytes_f G seed n hn)

/-! ### The sanity check -/
theorem abc_hex : hexL (sumK [97, 98, 99]) = [98, 97, 55, 56, 49, 54, 98, 102, 56, 102, 48, 49, 99, 102, 101, 97, 52, 49, 52, 49, 52, 48, 100, 101, 53, 100, 97, 101, 50, 50, 50, 51, 98, 48, 48, 51, 54, 49, 97, 51, 57, 54, 49, 55, 55, 97, 57, 99, 98, 52, 49, 48, 102, 102, 54, 49, 102, 50, 48, 48, 49, 53, 97, 100] := by decide +kernel
end Go.Proofs.Ytipjekggnanffaa
set_option linter.unusedVariables false
set_option linter.unusedSimpArgs false
namespace Go.Proofs.Ytipjekggnanffaa
open Go.RowKit

/-! ### Hexadecimal digits read -/
def isDig (c : UInt8) : Bool := (decide (48 ≤ c.toNat) && decide (c.toNat ≤ 57)) || (decide (97 ≤ c.toNat) && decide (c.toNat ≤ 102))
def digV (c : UInt8) : UInt8 := if 48 ≤ c.toNat ∧ c.toNat ≤ 57 then UInt8.ofNat (c.toNat - 48) else if 97 ≤ c.toNat ∧ c.toNat ≤ 102 then UInt8.ofNat (c.toNat - 87) else 0
theorem bD_ofNat {i : Nat} (h : i < 256) : bD (UInt8.ofNat i) = .int .u8 (i : Int) := by
  unfold bD; rw [UInt8.toNat_ofNat_of_lt' (by simpa [UInt8.size] using h)]
theorem dig_a {c : UInt8} (h : 48 ≤ c.toNat ∧ c.toNat ≤ 57) : isDig c = true ∧ D.int .u8 ((c.toNat : Int) - 48) = bD (digV c) := by
  refine ⟨by simp [isDig, h.1, h.2], ?_⟩
  unfold digV
  rw [if_pos h, bD_ofNat (by omega)]
  congr 1; omega
theorem dig_b {c : UInt8} (h : 97 ≤ c.toNat ∧ c.toNat ≤ 102) : isDig c = true ∧ D.int .u8 ((c.toNat : Int) - 97 + 10) = bD (digV c) := by
  refine ⟨by simp [isDig, h.1, h.2], ?_⟩
  unfold digV
  rw [if_neg (by omega), if_pos h, bD_ofNat (by omega)]
  congr 1; omega
theorem dig_n {c : UInt8} (h1 : ¬ (48 ≤ c.toNat ∧ c.toNat ≤ 57)) (h2 : ¬ (97 ≤ c.toNat ∧ c.toNat ≤ 102)) : isDig c = false ∧ D.int .u8 0 = bD (digV c) := by
  refine ⟨?_, ?_⟩
  · unfold isDig
    rw [Bool.or_eq_false_iff]
    constructor
    · rw [← Bool.decide_and]; exact decide_eq_false h1
    · rw [← Bool.decide_and]; exact decide_eq_false h2
  · unfold digV; rw [if_neg h1, if_neg h2]; rfl
def sf_dig : SFn := ⟨1, 23,
  .seq (.reg [⟨(some 2), .mv (.k (.c (.d (.int .u8 0)))), none⟩,
    ⟨(some 3), .mv (.k (.c (.d (.bool false)))), none⟩])
  (.seq (.block 0 (.seq (.reg [⟨(some 5), .mv (.t 0), none⟩,
     ⟨(some 6), .bin .geq (.t 5) (.k (.c (.d (.int .u8 48)))), none⟩,
     ⟨(some 7), .mv (.t 6), none⟩,
     ⟨(some 8), .mv (.t 0), (some (7, true))⟩,
     ⟨(some 9), .bin .leq (.t 8) (.k (.c (.d (.int .u8 57)))), (some (7, true))⟩,
     ⟨(some 10), .pick (.t 7) (.t 9) (.k (.c (.d (.bool false)))), none⟩,
     ⟨(some 4), .mv (.t 10), none⟩])
   (.cond (.t 4) (.seq (.reg [⟨(some 11), .mv (.t 0), none⟩,
      ⟨(some 12), .bin .sub (.t 11) (.k (.c (.d (.int .u8 48)))), none⟩,
      ⟨(some 2), .mv (.t 12), none⟩,
      ⟨(some 3), .mv (.k (.c (.d (.bool true)))), none⟩])
    (.ret))
    (.seq (.reg [⟨(some 14), .mv (.t 0), none⟩,
      ⟨(some 15), .bin .geq (.t 14) (.k (.c (.d (.int .u8 97)))), none⟩,
      ⟨(some 16), .mv (.t 15), none⟩,
      ⟨(some 17), .mv (.t 0), (some (16, true))⟩,
      ⟨(some 18), .bin .leq (.t 17) (.k (.c (.d (.int .u8 102)))), (some (16, true))⟩,
      ⟨(some 19), .pick (.t 16) (.t 18) (.k (.c (.d (.bool false)))), none⟩,
      ⟨(some 13), .mv (.t 19), none⟩])
    (.cond (.t 13) (.seq (.reg [⟨(some 20), .mv (.t 0), none⟩,
       ⟨(some 21), .bin .sub (.t 20) (.k (.c (.d (.int .u8 97)))), none⟩,
       ⟨(some 22), .bin .add (.t 21) (.k (.c (.d (.int .u8 10)))), none⟩,
       ⟨(some 2), .mv (.t 22), none⟩,
       ⟨(some 3), .mv (.k (.c (.d (.bool true)))), none⟩])
     (.ret))
     (.skip))))))
  (.seq (.reg [⟨(some 2), .mv (.k (.c (.d (.int .u8 0)))), none⟩,
    ⟨(some 3), .mv (.k (.c (.d (.bool false)))), none⟩])
  (.ret))),
  [(2, none), (3, none)]⟩
theorem cf_dig : compFn Try.prog { own := [], comp := [], frz := [], nils := [] } Try.f42 = some sf_dig := by kernel_rfl
set_option maxHeartbeats 1600000 in
theorem dig_c (G : Glob) (c : UInt8) : Den Try.prog G 42 [bD c] (.tup [.c (.d (bD (digV c))), .c (.d (.bool (isDig c)))]) := by
  refine den_walk Try.func42 cf_dig rfl rfl ?_
  have hc := byte_lt c
  by_cases h1 : 48 ≤ c.toNat ∧ c.toNat ≤ 57
  · obtain ⟨e1, e2⟩ := dig_a h1
    rw [e1, ← e2]
    simp only [sf_dig, putAll, wx, wy, wz, stV, seval, IntWalk.iteOmega, IntWalk.toNatUp, reduceCtorEq]
    exact ret_d2 (by simp only [wx, wy, wz, stV, seval, IntWalk.iteOmega, IntWalk.toNatUp, reduceCtorEq]) (by simp only [wx, wy, wz, stV, seval, IntWalk.iteOmega, IntWalk.toNatUp, reduceCtorEq])
  · by_cases h2 : 97 ≤ c.toNat ∧ c.toNat ≤ 102
    · obtain ⟨e1, e2⟩ := dig_b h2
      rw [e1, ← e2]
      simp only [sf_dig, putAll, wx, wy, wz, stV, seval, IntWalk.iteOmega, IntWalk.toNatUp, reduceCtorEq]
      exact ret_d2 (by simp only [wx, wy, wz, stV, seval, IntWalk.iteOmega, IntWalk.toNatUp, reduceCtorEq]) (by simp only [wx, wy, wz, stV, seval, IntWalk.iteOmega, IntWalk.toNatUp, reduceCtorEq])
    · obtain ⟨e1, e2⟩ := dig_n h1 h2
      rw [e1, ← e2]
      by_cases g1 : 48 ≤ c.toNat
      · by_cases g2 : 97 ≤ c.toNat
        · simp only [sf_dig, putAll, wx, wy, wz, stV, seval, IntWalk.iteOmega, IntWalk.toNatUp, reduceCtorEq]
          exact ret_d2 (by simp only [wx, wy, wz, stV, seval, IntWalk.iteOmega, IntWalk.toNatUp, reduceCtorEq]) (by simp only [wx, wy, wz, stV, seval, IntWalk.iteOmega, IntWalk.toNatUp, reduceCtorEq])
        · simp only [sf_dig, putAll, wx, wy, wz, stV, seval, IntWalk.iteOmega, IntWalk.toNatUp, reduceCtorEq]
          exact ret_d2 (by simp only [wx, wy, wz, stV, seval, IntWalk.iteOmega, IntWalk.toNatUp, reduceCtorEq]) (by simp only [wx, wy, wz, stV, seval, IntWalk.iteOmega, IntWalk.toNatUp, reduceCtorEq])
      · simp only [sf_dig, putAll, wx, wy, wz, stV, seval, IntWalk.iteOmega, IntWalk.toNatUp, reduceCtorEq]
        exact ret_d2 (by simp only [wx, wy, wz, stV, seval, IntWalk.iteOmega, IntWalk.toNatUp, reduceCtorEq]) (by simp only [wx, wy, wz, stV, seval, IntWalk.iteOmega, IntWalk.toNatUp, reduceCtorEq])
def hexV (l : List UInt8) (j : Nat) : UInt8 := orB (shlB (digV (l.getD (2 * j) 0)) 4) (digV (l.getD (2 * j + 1) 0))
def hexO (l : List UInt8) (j : Nat) : Bool := isDig (l.getD (2 * j) 0) && isDig (l.getD (2 * j + 1) 0)
def unhP (l : List UInt8) (j : Nat) : List UInt8 := (List.range j).map (hexV l)
def unhO (l : List UInt8) : Bool := decide (l.length % 2 = 0) && (List.range (l.length / 2)).all (hexO l)
def unhL (l : List UInt8) : List UInt8 := if unhO l = true then unhP l (l.length / 2) else []
theorem unhP_len (l : List UInt8) (j : Nat) : (unhP l j).length = j := by unfold unhP; rw [List.length_map, List.length_range]
theorem unhP_step (l : List UInt8) (j : Nat) : unhP l j ++ [hexV l j] = unhP l (j + 1) := by unfold unhP; rw [List.range_succ, List.map_append]; rfl
def unhSt (s : ByteArray) (j : Nat) : St := ⟨ofL [(0, .w (.c (.d (.str s)))), (4, .w (.c (.own 1 1 0 j))), (5, .w (.c (.d (.int .i64 ((2 * j : Nat) : Int)))))], hL [(1, .row 1 ((unhP s.data.toList j).map bD))], uL [1]⟩
def lp_unhex_0 : SCode :=
  .seq (.seq (.reg [⟨(some 18), .mv (.t 5), none⟩,
    ⟨(some 19), .mv (.t 0), none⟩,
    ⟨(some 20), .lenStr (.t 19), none⟩,
    ⟨(some 21), .bin .lss (.t 18) (.t 20), none⟩])
  (.cond (.t 21) (.skip)
   (.exit 0)))
  (.seq (.block 1 (.seq (.reg [⟨(some 25), .mv (.t 0), none⟩,
     ⟨(some 26), .mv (.t 5), none⟩,
     ⟨(some 27), .idxStr (.t 25) (.t 26), none⟩,
     ⟨(some 28), .call 42 [(.t 27)] none, none⟩,
     ⟨(some 24), .mv (.t 28), none⟩,
     ⟨(some 29), .extract (.t 24) 0, none⟩,
     ⟨(some 30), .extract (.t 24) 1, none⟩,
     ⟨(some 6), .mv (.t 29), none⟩,
     ⟨(some 7), .mv (.t 30), none⟩])
   (.seq (.reg [⟨(some 32), .mv (.t 0), none⟩,
     ⟨(some 33), .mv (.t 5), none⟩,
     ⟨(some 34), .bin .add (.t 33) (.k (.c (.d (.int .i64 1)))), none⟩,
     ⟨(some 35), .idxStr (.t 32) (.t 34), none⟩,
     ⟨(some 36), .call 42 [(.t 35)] none, none⟩,
     ⟨(some 31), .mv (.t 36), none⟩,
     ⟨(some 37), .extract (.t 31) 0, none⟩,
     ⟨(some 38), .extract (.t 31) 1, none⟩,
     ⟨(some 8), .mv (.t 37), none⟩,
     ⟨(some 9), .mv (.t 38), none⟩])
   (.seq (.seq (.reg [⟨(some 39), .mv (.t 7), none⟩,
     ⟨(some 40), .un .not (.t 39), none⟩,
     ⟨(some 41), .mv (.t 40), none⟩,
     ⟨(some 42), .mv (.t 9), (some (41, false))⟩,
     ⟨(some 43), .un .not (.t 42), (some (41, false))⟩,
     ⟨(some 44), .pick (.t 41) (.k (.c (.d (.bool true)))) (.t 43), none⟩])
   (.cond (.t 44) (.seq (.reg [⟨(some 2), .mv (.k (.c .nil)), none⟩,
      ⟨(some 3), .mv (.k (.c (.d (.bool false)))), none⟩])
    (.ret))
    (.skip)))
   (.reg [⟨(some 45), .mv (.t 4), none⟩,
     ⟨(some 46), .mv (.t 6), none⟩,
     ⟨(some 47), .bin .shl (.t 46) (.k (.c (.d (.int .u64 4)))), none⟩,
     ⟨(some 48), .mv (.t 8), none⟩,
     ⟨(some 49), .bin .or (.t 47) (.t 48), none⟩,
     ⟨(some 50), .bldSl false 1 1 (.int .u8 0) [(0, (.t 49))], none⟩,
     ⟨(some 51), .app false 1 1 (.t 45) (.t 50), none⟩,
     ⟨(some 4), .mv (.t 51), none⟩])))))
  (.reg [⟨(some 22), .mv (.t 5), none⟩,
    ⟨(some 23), .bin .add (.t 22) (.k (.c (.d (.int .i64 2)))), none⟩,
    ⟨(some 5), .mv (.t 23), none⟩]))
def sf_unhex : SFn := ⟨1, 53,
  .seq (.reg [⟨(some 2), .mv (.k (.c .nil)), none⟩,
    ⟨(some 3), .mv (.k (.c (.d (.bool false)))), none⟩])
  (.seq (.seq (.reg [⟨(some 10), .mv (.t 0), none⟩,
    ⟨(some 11), .lenStr (.t 10), none⟩,
    ⟨(some 12), .bin .rem (.t 11) (.k (.c (.d (.int .i64 2)))), none⟩,
    ⟨(some 13), .bin .neq (.t 12) (.k (.c (.d (.int .i64 0)))), none⟩])
  (.cond (.t 13) (.seq (.reg [⟨(some 2), .mv (.k (.c .nil)), none⟩,
     ⟨(some 3), .mv (.k (.c (.d (.bool false)))), none⟩])
   (.ret))
   (.skip)))
  (.seq (.reg [⟨(some 14), .mv (.t 0), none⟩,
    ⟨(some 15), .lenStr (.t 14), none⟩,
    ⟨(some 16), .bin .quo (.t 15) (.k (.c (.d (.int .i64 2)))), none⟩,
    ⟨(some 17), .make 1 1 (.int .u8 0) (.k (.c (.d (.int .i64 0)))) (.t 16), none⟩,
    ⟨(some 4), .mv (.t 17), none⟩])
  (.seq (.seq (.reg [⟨(some 5), .mv (.k (.c (.d (.int .i64 0)))), none⟩])
  (.block 0 (.loop lp_unhex_0)))
  (.seq (.reg [⟨(some 52), .mv (.t 4), none⟩,
    ⟨(some 2), .mv (.t 52), none⟩,
    ⟨(some 3), .mv (.k (.c (.d (.bool true)))), none⟩])
  (.ret))))),
  [(2, none), (3, none)]⟩
theorem cf_unhex : compFn Try.prog { own := [], comp := [], frz := [], nils := [] } Try.f23 = some sf_unhex := by kernel_rfl
set_option maxHeartbeats 3200000 in
theorem unhex_c (G : Glob) (s : ByteArray) (hs : s.size ≤ 140737488355328) : Den Try.prog G 23 [.str s] (.tup [.c (.d (.sl ((unhL s.data.toList).map bD))), .c (.d (.bool (unhO s.data.toList)))]) := by
  refine den_walk Try.func23 cf_unhex rfl rfl ?_
  have hl : s.data.toList.length = s.size := rfl
  have t1 : Int.tmod (s.size : Int) 2 = ((s.size % 2 : Nat) : Int) := rfl
  have t2 : Int.tdiv (s.size : Int) 2 = ((s.size / 2 : Nat) : Int) := rfl
  by_cases hodd : s.size % 2 = 0
  · simp only [sf_unhex, putAll, wx, wy, wz, stV, seval, IntWalk.iteOmega, IntWalk.toNatUp, reduceCtorEq, t1, t2]
    refine loop_st (unhSt s) (fun j => s.size / 2 - j) (fun j => j ≤ s.size / 2 ∧ ∀ i, i < j → hexO s.data.toList i = true) 0 ⟨Nat.zero_le _, fun i hi => by omega⟩ ?_ ?_
    · refine ent_l (fun i => 136) ?_ ?_ rfl rfl <;> simp only [wx, wex, wez, stV, seval, IntWalk.iteOmega, IntWalk.toNatUp, reduceCtorEq] <;> rfl
    · rintro j ⟨hj, hok⟩
      have hn := unhP_len s.data.toList j
      by_cases hlt : j < s.size / 2
      · have g1 : s.data.toList[2 * j]? = some (s.data.toList.getD (2 * j) 0) := by rw [List.getD_eq_getElem?_getD, List.getElem?_eq_getElem (by omega)]; rfl
        have g2 : s.data.toList[2 * j + 1]? = some (s.data.toList.getD (2 * j + 1) 0) := by rw [List.getD_eq_getElem?_getD, List.getElem?_eq_getElem (by omega)]; rfl
        have hstep := unhP_step s.data.toList j
        have hO : hexO s.data.toList j = (isDig (s.data.toList.getD (2 * j) 0) && isDig (s.data.toList.getD (2 * j + 1) 0)) := rfl
        have hV : hexV s.data.toList j = orB (shlB (digV (s.data.toList.getD (2 * j) 0)) 4) (digV (s.data.toList.getD (2 * j + 1) 0)) := rfl
        have hbad : hexO s.data.toList j = false → unhO s.data.toList = false := fun hb => by
          unfold unhO
          rw [Bool.and_eq_false_iff]; right
          rw [List.all_eq_false]
          exact ⟨j, List.mem_range.2 (by omega), by rw [hb]; simp⟩
        generalize s.data.toList.getD (2 * j) 0 = a at *
        generalize s.data.toList.getD (2 * j + 1) 0 = b at *
        have x1 := bl_shl (digV a) .u64 4 4 rfl (by decide)
        have x2 := binV_orB (shlB (digV a) 4) (digV b)
        cases ha : isDig a
        · have hf : unhO s.data.toList = false := hbad (by rw [hO, ha]; rfl)
          have e2 : unhL s.data.toList = [] := by unfold unhL; rw [hf]; rfl
          simp only [lp_unhex_0, unhSt, wx, wy, wz, stV, seval, IntWalk.iteOmega, IntWalk.toNatUp, reduceCtorEq, g1, hf, e2]
          refine st_call (dig_c G a) rfl (.inl rfl) ?_
          simp only [g2, ha, wx, wy, wz, stV, seval, IntWalk.iteOmega, IntWalk.toNatUp, reduceCtorEq]
          refine st_call (dig_c G b) rfl (.inl rfl) ?_
          simp only [ha, wx, wy, wz, stV, seval, IntWalk.iteOmega, IntWalk.toNatUp, reduceCtorEq]
          exact ret_d2 (by simp only [wx, wy, wz, stV, seval, IntWalk.iteOmega, IntWalk.toNatUp, reduceCtorEq]) (by simp only [wx, wy, wz, stV, seval, IntWalk.iteOmega, IntWalk.toNatUp, reduceCtorEq])
        · cases hb : isDig b
          · have hf : unhO s.data.toList = false := hbad (by rw [hO, ha, hb]; rfl)
            have e2 : unhL s.data.toList = [] := by unfold unhL; rw [hf]; rfl
            simp only [lp_unhex_0, unhSt, wx, wy, wz, stV, seval, IntWalk.iteOmega, IntWalk.toNatUp, reduceCtorEq, g1, hf, e2]
            refine st_call (dig_c G a) rfl (.inl rfl) ?_
            simp only [g2, ha, wx, wy, wz, stV, seval, IntWalk.iteOmega, IntWalk.toNatUp, reduceCtorEq]
            refine st_call (dig_c G b) rfl (.inl rfl) ?_
            simp only [ha, hb, wx, wy, wz, stV, seval, IntWalk.iteOmega, IntWalk.toNatUp, reduceCtorEq]
            exact ret_d2 (by simp only [wx, wy, wz, stV, seval, IntWalk.iteOmega, IntWalk.toNatUp, reduceCtorEq]) (by simp only [wx, wy, wz, stV, seval, IntWalk.iteOmega, IntWalk.toNatUp, reduceCtorEq])
          · have hT : hexO s.data.toList j = true := by rw [hO, ha, hb]; rfl
            rw [hV] at hstep
            have hok2 : ∀ i, i < j + 1 → hexO s.data.toList i = true := fun i hi => by
              rcases Nat.lt_or_ge i j with h | h
              · exact hok i h
              · rw [show i = j by omega]; exact hT
            simp only [lp_unhex_0, unhSt, wx, wy, wz, stV, seval, IntWalk.iteOmega, IntWalk.toNatUp, reduceCtorEq, g1]
            refine st_call (dig_c G a) rfl (.inl rfl) ?_
            simp only [g2, ha, wx, wy, wz, stV, seval, IntWalk.iteOmega, IntWalk.toNatUp, reduceCtorEq]
            refine st_call (dig_c G b) rfl (.inl rfl) ?_
            simp only [ha, hb, x1, x2, srcV, wx, wy, wz, stV, seval, IntWalk.iteOmega, IntWalk.toNatUp, reduceCtorEq]
            refine lop_next (j + 1) (by omega) ⟨by omega, hok2⟩ (ent_l (fun i => 408) ?_ ?_ rfl rfl) <;> simp only [wx, wex, wez, stV, seval, IntWalk.iteOmega, IntWalk.toNatUp, reduceCtorEq]
            · rw [hn, show (2 * (j : Int) + 2) = 2 * ((j : Int) + 1) by omega]; exact ⟨rfl, rfl⟩
            · rw [← hstep, List.map_append]; rfl
      · obtain rfl : j = s.size / 2 := by omega
        have hT : unhO s.data.toList = true := by
          unfold unhO
          rw [Bool.and_eq_true]
          exact ⟨decide_eq_true (by rw [hl]; exact hodd), List.all_eq_true.2 fun i hi => hok i (List.mem_range.1 hi)⟩
        have e2 : unhL s.data.toList = unhP s.data.toList (s.size / 2) := by unfold unhL; rw [hT]; rfl
        have ht : (unhP s.data.toList (s.size / 2)).take (s.size / 2) = unhP s.data.toList (s.size / 2) := List.take_of_length_le (by omega)
        simp only [lp_unhex_0, unhSt, wx, wy, wz, stV, seval, IntWalk.iteOmega, IntWalk.toNatUp, reduceCtorEq, hT, e2]
        exact ret_d2 (by simp only [wx, wy, wz, stV, seval, IntWalk.iteOmega, IntWalk.toNatUp, reduceCtorEq, len_map, hn, take_map, ht]) (by simp only [wx, wy, wz, stV, seval, IntWalk.iteOmega, IntWalk.toNatUp, reduceCtorEq])
  · have e : unhO s.data.toList = false := by
      unfold unhO; rw [Bool.and_eq_false_iff]; left; exact decide_eq_false (by rw [hl]; exact hodd)
    have e2 : unhL s.data.toList = [] := by unfold unhL; rw [e]; rfl
    have hm : s.size % 2 < 2 := Nat.mod_lt _ (by decide)
    simp only [sf_unhex, putAll, wx, wy, wz, stV, seval, IntWalk.iteOmega, IntWalk.toNatUp, reduceCtorEq, t1, e, e2]
    exact ret_d2 (by simp only [wx, wy, wz, stV, seval, IntWalk.iteOmega, IntWalk.toNatUp, reduceCtorEq]) (by simp only [wx, wy, wz, stV, seval, IntWalk.iteOmega, IntWalk.toNatUp, reduceCtorEq])

/-! ### Lists of bytes that are the same -/
def slistB (l : List UInt8) : D := .sl (l.map bD)
def slsSt (a b : List (List UInt8)) (i : Nat) : St := ⟨ofL [(0, .w (.c (.d (.sl (a.map slistB))))), (1, .w (.c (.d (.sl (b.map slistB))))), (5, .w (.c (.d (.int .i64 (i : Int)))))], hL [], uL []⟩
end Go.Proofs.Ytipjekggnanffaa
set_option linter.unusedVariables false
set_option linter.unusedSimpArgs false
namespace Go.Proofs.Ytipjekggnanffaa
open Go.RowKit

def chgI (b : List UInt8) (at' : Int) : Nat := (withinN at' b.length).toNat
def chgB (by' : Int) : UInt8 := UInt8.ofNat (1 + (withinN by' 255).toNat)
def changedL (b : List UInt8) (at' by' : Int) : List UInt8 := b.set (chgI b at') (xorB (b.getD (chgI b at') 0) (chgB by'))
theorem changedL_len (b : List UInt8) (at' by' : Int) : (changedL b at' by').length = b.length := List.length_set
theorem chgB_ne (by' : Int) : chgB by' ≠ 0 := by
  have h := withinN_range by' 255 (by decide)
  intro e
  have := congrArg UInt8.toNat e
  unfold chgB at this
  rw [UInt8.toNat_ofNat_of_lt' (by simp [UInt8.size]; omega)] at this
  simp at this
theorem chgI_lt {b : List UInt8} (h : 0 < b.length) (at' : Int) : chgI b at' < b.length := by
  have := withinN_range at' b.length (by omega)
  unfold chgI; omega
theorem changedL_ne {b : List UInt8} (h : 0 < b.length) (at' by' : Int) : changedL b at' by' ≠ b := by
  intro e
  have hi := chgI_lt h at'
  have h1 := congrArg (fun l : List UInt8 => l.getD (chgI b at') 0) e
  simp only [changedL, List.getD_eq_getElem?_getD, List.getElem?_set_self hi, Option.getD_some] at h1
  apply chgB_ne by'
  generalize b[chgI b at']?.getD 0 = x at h1
  generalize chgB by' = y at h1
  have : xorB x (xorB x y) = xorB x x := by rw [h1]
  have e1 : xorB x (xorB x y) = y := by unfold xorB; rw [← UInt8.xor_assoc, UInt8.xor_self, UInt8.zero_xor]
  have e2 : xorB x x = 0 := by unfold xorB; exact UInt8.xor_self
  rw [← e1, this, e2]
def sf_chg : SFn := ⟨3, 25,
  .seq (.reg [⟨(some 6), .mv (.k (.c .nil)), none⟩])
  (.seq (.reg [⟨(some 8), .mv (.t 0), none⟩,
    ⟨(some 9), .bldSl false 1 1 (.sl []) [(0, (.t 8))], none⟩,
    ⟨(some 10), .call 19 [(.t 9)] (some (0, 1)), none⟩,
    ⟨(some 7), .mv (.t 10), none⟩])
  (.seq (.reg [⟨(some 11), .mv (.t 7), none⟩,
    ⟨(some 12), .mv (.t 1), none⟩,
    ⟨(some 13), .mv (.t 7), none⟩,
    ⟨(some 14), .len (.t 13), none⟩,
    ⟨(some 15), .call 17 [(.t 12), (.t 14)] none, none⟩,
    ⟨(some 16), .idxSl 1 (.t 11) (.t 15), none⟩,
    ⟨(some 17), .load .sc (.t 16), none⟩,
    ⟨(some 18), .mv (.t 2), none⟩,
    ⟨(some 19), .call 17 [(.t 18), (.k (.c (.d (.int .i64 255))))] none, none⟩,
    ⟨(some 20), .bin .add (.k (.c (.d (.int .i64 1)))) (.t 19), none⟩,
    ⟨(some 21), .conv .u8 (.t 20), none⟩,
    ⟨(some 22), .bin .xor (.t 17) (.t 21), none⟩,
    ⟨(some 23), .idxSl 1 (.t 11) (.t 15), none⟩,
    ⟨none, .store .sc (.t 23) (.t 22), none⟩])
  (.seq (.reg [⟨(some 24), .mv (.t 7), none⟩,
    ⟨(some 6), .mv (.t 24), none⟩])
  (.ret)))),
  [(6, none)]⟩
theorem cf_chg : compFn Try.prog { own := [10], comp := [], frz := [], nils := [] } Try.f22 = some sf_chg := by kernel_rfl
set_option maxHeartbeats 1600000 in
theorem chg_c (G : Glob) (b : List UInt8) (at' by' : Int) (h : 0 < b.length) (hb : b.length ≤ 140737488355328) : Den Try.prog G 22 [.sl (b.map bD), .int .i64 at', .int .i64 by'] (.w (.c (.fr 1 ((changedL b at' by').map bD)))) := by
  refine den_walk Try.func22 cf_chg rfl rfl ?_
  have hj := rjoin_c G [b] (by simp) (by simp; omega)
  have hf : [b].flatten = b := by simp
  rw [hf] at hj
  have hw := withinN_range at' b.length (by omega)
  have hw2 := withinN_range by' 255 (by decide)
  have hi := chgI_lt h at'
  have ei : ((chgI b at' : Nat) : Int) = withinN at' b.length := by unfold chgI; omega
  have eb : bD (chgB by') = .int .u8 (1 + withinN by' 255) := by
    unfold chgB
    rw [bD_ofNat (by omega)]
    congr 1; omega
  have g1 : b[chgI b at']? = some (b.getD (chgI b at') 0) := by rw [List.getD_eq_getElem?_getD, List.getElem?_eq_getElem hi]; rfl
  have x1 := binV_xorB (b.getD (chgI b at') 0) (chgB by')
  rw [eb] at x1
  have hs : b.set (chgI b at') (xorB (b.getD (chgI b at') 0) (chgB by')) = changedL b at' by' := rfl
  have e1 := within_c G at' b.length (by omega)
  have e2 := within_c G by' 255 (by decide)
  rw [← ei] at e1 hw
  generalize withinN by' 255 = y at *
  generalize chgI b at' = i at *
  simp only [sf_chg, putAll, wx, wy, wz, stV, seval, IntWalk.iteOmega, IntWalk.toNatUp, reduceCtorEq]
  refine st_call (hj) rfl (.inl rfl) ?_
  simp only [wx, wy, wz, stV, seval, IntWalk.iteOmega, IntWalk.toNatUp, reduceCtorEq]
  refine st_call (e1) rfl (.inl rfl) ?_
  simp only [get_map, g1, wx, wy, wz, stV, seval, IntWalk.iteOmega, IntWalk.toNatUp, reduceCtorEq]
  refine st_call (e2) rfl (.inl rfl) ?_
  simp only [x1, stO_bs hi (one_b _), set_bs, hs, wx, wy, wz, stV, seval, IntWalk.iteOmega, IntWalk.toNatUp, reduceCtorEq]
  exact ret_own (id := 80) (n := b.length) (s := 1) (by simp only [wx, stV, seval, IntWalk.iteOmega, IntWalk.toNatUp, reduceCtorEq]) (by simp only [wx, stV, seval, IntWalk.iteOmega, IntWalk.toNatUp, reduceCtorEq]) (by simp [changedL_len])
def sf_wkey : SFn := ⟨1, 5,
  .seq (.reg [⟨(some 2), .mv (.k (.c .nil)), none⟩])
  (.seq (.reg [⟨(some 3), .mv (.t 0), none⟩,
    ⟨(some 4), .call 21 [(.t 3), (.k (.c (.d (.int .i64 32))))] none, none⟩,
    ⟨(some 2), .mv (.t 4), none⟩])
  (.ret)),
  [(2, none)]⟩
theorem cf_wkey : compFn Try.prog { own := [], comp := [], frz := [], nils := [] } Try.f16 = some sf_wkey := by kernel_rfl
theorem wkey_c (G : Glob) (seed : Int) : Den Try.prog G 16 [.int .i64 seed] (.w (.c (.d (.sl ((bytesK seed 32).map bD))))) := by
  refine den_walk Try.func16 cf_wkey rfl rfl ?_
  simp only [sf_wkey, putAll, wx, wy, wz, stV, seval, IntWalk.iteOmega, IntWalk.toNatUp, reduceCtorEq]
  refine st_call (wbytes_c G seed 32 (by decide)) rfl (.inl rfl) ?_
  simp only [wx, wy, wz, stV, seval, IntWalk.iteOmega, IntWalk.toNatUp, reduceCtorEq]
  exact ret_d1 (by simp only [wx, wy, wz, stV, seval, IntWalk.iteOmega, IntWalk.toNatUp, reduceCtorEq])
end Go.Proofs.Ytipjekggnanffaa
set_option linter.unusedVariables false
set_option linter.unusedSimpArgs false
namespace Go.Proofs.Ytipjekggnanffaa
open Go.RowKit

theorem low_bit (y : UInt8) (i : Nat) : (andB (shrB y i) 1 == 1) = bitB y i := by
  have h : (andB (shrB y i) 1).toNat = y.toNat / 2 ^ i % 2 := by
    have h2 : y.toNat / 2 ^ i < 256 := Nat.lt_of_le_of_lt (Nat.div_le_self _ _) (byte_lt y)
    unfold andB shrB
    rw [UInt8.toNat_and, UInt8.toNat_ofNat_of_lt' (by simpa [UInt8.size] using h2)]
    exact Nat.and_one_is_mod _
  unfold bitB
  rw [Nat.testBit_eq_decide_div_mod_eq, Bool.eq_iff_iff, beq_iff_eq, decide_eq_true_iff, ← UInt8.toNat_inj, h]
  rfl
theorem shrB_shrB (y : UInt8) (i : Nat) : shrB (shrB y i) 1 = shrB y (i + 1) := by
  have h2 : y.toNat / 2 ^ i < 256 := Nat.lt_of_le_of_lt (Nat.div_le_self _ _) (byte_lt y)
  unfold shrB
  rw [UInt8.toNat_ofNat_of_lt' (by simpa [UInt8.size] using h2), Nat.div_div_eq_div_mul, Nat.pow_one, Nat.pow_succ]
theorem shrB_zero (y : UInt8) : shrB y 0 = y := by
  unfold shrB; simp
theorem tm_end (x y : UInt8) : ∀ n, ∀ i, shrB y i = 0 → tmN x y (i + n) = tmN x y i
  | 0, _, _ => rfl
  | n + 1, i, h => by
    have hb : bitB y i = false := by rw [← low_bit, h]; rfl
    have h1 : tmN x y (i + 1) = tmN x y i := by rw [tmN, hb]; exact xorB_zero _
    have h2 : shrB y (i + 1) = 0 := by rw [← shrB_shrB, h]; rfl
    rw [show i + (n + 1) = i + 1 + n by omega, tm_end x y n (i + 1) h2, h1]
theorem shr8 (y : UInt8) : shrB y 8 = 0 := by
  unfold shrB
  rw [Nat.div_eq_of_lt (by have := byte_lt y; omega)]; rfl
theorem tm_step (x y : UInt8) (i : Nat) : xorB (tmN x y i) (selB (bitB y i) (xtN x i)) = tmN x y (i + 1) := rfl
theorem pos_ne {x : UInt8} (h : x ≠ 0) : 0 < x.toNat := by
  rcases Nat.eq_zero_or_pos x.toNat with e | e
  · exact absurd (UInt8.toNat_inj.1 e) h
  · exact e
theorem xt_cases (x : UInt8) : xtB x = if shrB x 7 == 1 then xorB (shlB x 1) 27 else shlB x 1 := by
  have := all_b (p := fun x => xtB x == if shrB x 7 == 1 then xorB (shlB x 1) 27 else shlB x 1) (by decide +kernel) x
  simpa using this
theorem xt_two (x : UInt8) : timesK x 2 = xtB x := by
  have := all_b (p := fun x => timesK x 2 == xtB x) (by decide +kernel) x
  simpa using this

def sf_dbl : SFn := ⟨1, 11,
  .seq (.reg [⟨(some 2), .mv (.k (.c (.d (.int .u8 0)))), none⟩])
  (.seq (.seq (.reg [⟨(some 3), .mv (.t 0), none⟩,
    ⟨(some 4), .bin .shr (.t 3) (.k (.c (.d (.int .u64 7)))), none⟩,
    ⟨(some 5), .bin .eql (.t 4) (.k (.c (.d (.int .u8 1)))), none⟩])
  (.cond (.t 5) (.seq (.reg [⟨(some 6), .mv (.t 0), none⟩,
     ⟨(some 7), .bin .shl (.t 6) (.k (.c (.d (.int .u64 1)))), none⟩,
     ⟨(some 8), .bin .xor (.t 7) (.k (.c (.d (.int .u8 27)))), none⟩,
     ⟨(some 2), .mv (.t 8), none⟩])
   (.ret))
   (.skip)))
  (.seq (.reg [⟨(some 9), .mv (.t 0), none⟩,
    ⟨(some 10), .bin .shl (.t 9) (.k (.c (.d (.int .u64 1)))), none⟩,
    ⟨(some 2), .mv (.t 10), none⟩])
  (.ret))),
  [(2, none)]⟩
theorem cf_dbl : compFn Try.prog { own := [], comp := [], frz := [], nils := [] } Try.f62 = some sf_dbl := by kernel_rfl
theorem dbl_c (G : Glob) (x : UInt8) : Den Try.prog G 62 [bD x] (.w (.c (.d (bD (xtB x))))) := by
  refine den_walk Try.func62 cf_dbl rfl rfl ?_
  have h1 := bl_shr x .u64 7 7 rfl (by decide)
  have h2 := bl_eql (shrB x 7) 1 1 rfl
  have h3 := bl_shl x .u64 1 1 rfl (by decide)
  have h4 := bl_xor (shlB x 1) 27 27 rfl
  rw [xt_cases]
  cases h5 : shrB x 7 == 1
  · rw [h5] at h2
    simp only [sf_dbl, putAll, h1, h2, h3, h4, wx, wy, wz, stV, seval, IntWalk.iteOmega, IntWalk.toNatUp, reduceCtorEq, if_false, Bool.false_eq_true]
    exact ret_d1 (by simp only [wx, wy, wz, stV, seval, IntWalk.iteOmega, IntWalk.toNatUp, reduceCtorEq])
  · rw [h5] at h2
    simp only [sf_dbl, putAll, h1, h2, h3, h4, wx, wy, wz, stV, seval, IntWalk.iteOmega, IntWalk.toNatUp, reduceCtorEq, if_true]
    exact ret_d1 (by simp only [wx, wy, wz, stV, seval, IntWalk.iteOmega, IntWalk.toNatUp, reduceCtorEq])
/-! ### Times -/
theorem xtN_zero (x : UInt8) : xtN x 0 = x := rfl
theorem tmN_zero (x y : UInt8) : tmN x y 0 = 0 := rfl
def timSt (x y : UInt8) (i : Nat) : St := ⟨ofL [(0, .w (.c (.d (bD (xtN x i))))), (1, .w (.c (.d (bD (shrB y i))))), (5, .w (.c (.d (bD (tmN x y i)))))], hL [], uL []⟩
def boxT : List UInt8 := [99, 124, 119, 123, 242, 107, 111, 197, 48, 1, 103, 43, 254, 215, 171, 118, 202, 130, 201, 125, 250, 89, 71, 240, 173, 212, 162, 175, 156, 164, 114, 192, 183, 253, 147, 38, 54, 63, 247, 204, 52, 165, 229, 241, 113, 216, 49, 21, 4, 199, 35, 195, 24, 150, 5, 154, 7, 18, 128, 226, 235, 39, 178, 117, 9, 131, 44, 26, 27, 110, 90, 160, 82, 59, 214, 179, 41, 227, 47, 132, 83, 209, 0, 237, 32, 252, 177, 91, 106, 203, 190, 57, 74, 76, 88, 207, 208, 239, 170, 251, 67, 77, 51, 133, 69, 249, 2, 127, 80, 60, 159, 168, 81, 163, 64, 143, 146, 157, 56, 245, 188, 182, 218, 33, 16, 255, 243, 210, 205, 12, 19, 236, 95, 151, 68, 23, 196, 167, 126, 61, 100, 93, 25, 115, 96, 129, 79, 220, 34, 42, 144, 136, 70, 238, 184, 20, 222, 94, 11, 219, 224, 50, 58, 10, 73, 6, 36, 92, 194, 211, 172, 98, 145, 149, 228, 121, 231, 200, 55, 109, 141, 213, 78, 169, 108, 86, 244, 234, 101, 122, 174, 8, 186, 120, 37, 46, 28, 166, 180, 198, 232, 221, 116, 31, 75, 189, 139, 138, 112, 62, 181, 102, 72, 3, 246, 14, 97, 53, 87, 185, 134, 193, 29, 158, 225, 248, 152, 17, 105, 217, 142, 148, 155, 30, 135, 233, 206, 85, 40, 223, 140, 161, 137, 13, 191, 230, 66, 104, 65, 153, 45, 15, 176, 84, 187, 22]
theorem boxT_eq : boxT = boxL := by decide +kernel
def timS2 (x y : UInt8) (i : Nat) : St := ⟨ofL [(0, .w (.c (.d (bD (xtN x i))))), (1, .w (.c (.d (bD (shrB y i))))), (5, .w (.c (.d (bD (tmN x y i))))), (6, .w (.c (.d (.int .i64 (i : Int)))))], hL [], uL []⟩
theorem xt_high (x : UInt8) : xtB x = if andB x 128 != 0 then xorB (shlB x 1) 27 else shlB x 1 := by
  have := all_b (p := fun x => xtB x == if andB x 128 != 0 then xorB (shlB x 1) 27 else shlB x 1) (by decide +kernel) x
  simpa using this
def lp_rtim_0 : SCode :=
  .seq (.seq (.reg [⟨(some 8), .mv (.t 6), none⟩,
    ⟨(some 9), .bin .lss (.t 8) (.k (.c (.d (.int .i64 8)))), none⟩])
  (.cond (.t 9) (.skip)
   (.exit 0)))
  (.seq (.block 1 (.seq (.seq (.reg [⟨(some 12), .mv (.t 1), none⟩,
     ⟨(some 13), .bin .and (.t 12) (.k (.c (.d (.int .u8 1)))), none⟩,
     ⟨(some 14), .bin .eql (.t 13) (.k (.c (.d (.int .u8 1)))), none⟩])
   (.cond (.t 14) (.reg [⟨(some 15), .mv (.t 5), none⟩,
      ⟨(some 16), .mv (.t 0), none⟩,
      ⟨(some 17), .bin .xor (.t 15) (.t 16), none⟩,
      ⟨(some 5), .mv (.t 17), none⟩])
    (.skip)))
   (.seq (.reg [⟨(some 18), .mv (.t 0), none⟩,
     ⟨(some 19), .bin .and (.t 18) (.k (.c (.d (.int .u8 128)))), none⟩,
     ⟨(some 7), .mv (.t 19), none⟩])
   (.seq (.reg [⟨(some 20), .mv (.t 0), none⟩,
     ⟨(some 21), .bin .shl (.t 20) (.k (.c (.d (.int .u64 1)))), none⟩,
     ⟨(some 0), .mv (.t 21), none⟩])
   (.seq (.seq (.reg [⟨(some 22), .mv (.t 7), none⟩,
     ⟨(some 23), .bin .neq (.t 22) (.k (.c (.d (.int .u8 0)))), none⟩])
   (.cond (.t 23) (.reg [⟨(some 24), .mv (.t 0), none⟩,
      ⟨(some 25), .bin .xor (.t 24) (.k (.c (.d (.int .u8 27)))), none⟩,
      ⟨(some 0), .mv (.t 25), none⟩])
    (.skip)))
   (.reg [⟨(some 26), .mv (.t 1), none⟩,
     ⟨(some 27), .bin .shr (.t 26) (.k (.c (.d (.int .u64 1)))), none⟩,
     ⟨(some 1), .mv (.t 27), none⟩]))))))
  (.reg [⟨(some 10), .mv (.t 6), none⟩,
    ⟨(some 11), .bin .add (.t 10) (.k (.c (.d (.int .i64 1)))), none⟩,
    ⟨(some 6), .mv (.t 11), none⟩]))
def sf_rtim : SFn := ⟨2, 29,
  .seq (.reg [⟨(some 4), .mv (.k (.c (.d (.int .u8 0)))), none⟩])
  (.seq (.reg [⟨(some 5), .mv (.k (.c (.d (.int .u8 0)))), none⟩])
  (.seq (.seq (.reg [⟨(some 6), .mv (.k (.c (.d (.int .i64 0)))), none⟩])
  (.block 0 (.loop lp_rtim_0)))
  (.seq (.reg [⟨(some 28), .mv (.t 5), none⟩,
    ⟨(some 4), .mv (.t 28), none⟩])
  (.ret)))),
  [(4, none)]⟩
theorem cf_rtim : compFn Try.prog { own := [], comp := [], frz := [], nils := [] } Try.f74 = some sf_rtim := by kernel_rfl
set_option maxHeartbeats 1600000 in
theorem rtim_c (G : Glob) (x y : UInt8) : Den Try.prog G 74 [bD x, bD y] (.w (.c (.d (bD (timesK x y))))) := by
  refine den_walk Try.func74 cf_rtim rfl rfl ?_
  simp only [sf_rtim, putAll, wx, wy, wz, stV, seval, IntWalk.iteOmega, IntWalk.toNatUp, reduceCtorEq]
  refine loop_st (timS2 x y) (fun i => 8 - i) (fun i => i ≤ 8) 0 (Nat.zero_le _) ?_ ?_
  · refine ent_l (fun _ => 0) ?_ ?_ rfl rfl <;> simp only [wx, wex, wez, stV, seval, IntWalk.iteOmega, IntWalk.toNatUp, reduceCtorEq, shrB_zero, xtN_zero, tmN_zero] <;> rfl
  · intro i hi
    by_cases hlt : i < 8
    · have h1 := bl_and (shrB y i) 1 1 rfl
      have h2 := bl_eql (andB (shrB y i) 1) 1 1 rfl
      have h3 := bl_shr (shrB y i) .u64 1 1 rfl (by decide)
      have h4 := binV_xorB (tmN x y i) (xtN x i)
      have h5 := tm_step x y i
      rw [shrB_shrB] at h3
      rw [low_bit] at h2
      have h7 : xtB (xtN x i) = xtN x (i + 1) := rfl
      rw [xt_high] at h7
      have g1 := bl_and (xtN x i) 128 128 rfl
      have g2 := bl_neq (andB (xtN x i) 128) 0 0 rfl
      have g3 := bl_shl (xtN x i) .u64 1 1 rfl (by decide)
      have g4 := bl_xor (shlB (xtN x i) 1) 27 27 rfl
      cases hb : bitB y i <;> cases hh : andB (xtN x i) 128 != 0 <;> rw [hb] at h2 h5 <;> rw [hh] at g2 h7
      · have h8 : tmN x y i = tmN x y (i + 1) := by rw [← h5]; exact (xorB_zero _).symm
        simp only [if_false, Bool.false_eq_true] at h7
        simp only [lp_rtim_0, timS2, h1, h2, h3, h4, g1, g2, g3, wx, wy, wz, stV, seval, IntWalk.iteOmega, IntWalk.toNatUp, reduceCtorEq, h7]
        refine lop_next (i + 1) (by omega) (by omega) (ent_l (fun _ => 0) ?_ ?_ rfl rfl) <;> simp only [wx, wex, wez, stV, seval, IntWalk.iteOmega, IntWalk.toNatUp, reduceCtorEq, h8]
      · have h8 : tmN x y i = tmN x y (i + 1) := by rw [← h5]; exact (xorB_zero _).symm
        simp only [if_true] at h7
        simp only [lp_rtim_0, timS2, h1, h2, h3, h4, g1, g2, g3, g4, wx, wy, wz, stV, seval, IntWalk.iteOmega, IntWalk.toNatUp, reduceCtorEq, h7]
        refine lop_next (i + 1) (by omega) (by omega) (ent_l (fun _ => 0) ?_ ?_ rfl rfl) <;> simp only [wx, wex, wez, stV, seval, IntWalk.iteOmega, IntWalk.toNatUp, reduceCtorEq, h8]
      · have h8 : xorB (tmN x y i) (xtN x i) = tmN x y (i + 1) := h5
        simp only [if_false, Bool.false_eq_true] at h7
        simp only [lp_rtim_0, timS2, h1, h2, h3, h4, g1, g2, g3, wx, wy, wz, stV, seval, IntWalk.iteOmega, IntWalk.toNatUp, reduceCtorEq, h7]
        refine lop_next (i + 1) (by omega) (by omega) (ent_l (fun _ => 0) ?_ ?_ rfl rfl) <;> simp only [wx, wex, wez, stV, seval, IntWalk.iteOmega, IntWalk.toNatUp, reduceCtorEq, h8]
      · have h8 : xorB (tmN x y i) (xtN x i) = tmN x y (i + 1) := h5
        simp only [if_true] at h7
        simp only [lp_rtim_0, timS2, h1, h2, h3, h4, g1, g2, g3, g4, wx, wy, wz, stV, seval, IntWalk.iteOmega, IntWalk.toNatUp, reduceCtorEq, h7]
        refine lop_next (i + 1) (by omega) (by omega) (ent_l (fun _ => 0) ?_ ?_ rfl rfl) <;> simp only [wx, wex, wez, stV, seval, IntWalk.iteOmega, IntWalk.toNatUp, reduceCtorEq, h8]
    · obtain rfl : i = 8 := by omega
      have e : timesK x y = tmN x y 8 := rfl
      simp only [lp_rtim_0, timS2, wx, wy, wz, stV, seval, IntWalk.iteOmega, IntWalk.toNatUp, reduceCtorEq, e]
      exact ret_d1 (by simp only [wx, wy, wz, stV, seval, IntWalk.iteOmega, IntWalk.toNatUp, reduceCtorEq])
/-! ### Rotations, the affine part -/
def sf_rleft : SFn := ⟨2, 15,
  .seq (.reg [⟨(some 4), .mv (.k (.c (.d (.int .u8 0)))), none⟩])
  (.seq (.reg [⟨(some 5), .mv (.t 0), none⟩,
    ⟨(some 6), .mv (.t 1), none⟩,
    ⟨(some 7), .conv .u64 (.t 6), none⟩,
    ⟨(some 8), .bin .shl (.t 5) (.t 7), none⟩,
    ⟨(some 9), .mv (.t 0), none⟩,
    ⟨(some 10), .mv (.t 1), none⟩,
    ⟨(some 11), .bin .sub (.k (.c (.d (.int .i64 8)))) (.t 10), none⟩,
    ⟨(some 12), .conv .u64 (.t 11), none⟩,
    ⟨(some 13), .bin .shr (.t 9) (.t 12), none⟩,
    ⟨(some 14), .bin .or (.t 8) (.t 13), none⟩,
    ⟨(some 4), .mv (.t 14), none⟩])
  (.ret)),
  [(4, none)]⟩
theorem cf_rleft : compFn Try.prog { own := [], comp := [], frz := [], nils := [] } Try.f80 = some sf_rleft := by kernel_rfl
theorem rleft_c (G : Glob) (x : UInt8) (j : Nat) (h1 : 1 ≤ j) (h2 : j ≤ 4) : Den Try.prog G 80 [bD x, .int .i64 (j : Int)] (.w (.c (.d (bD (leftB x j))))) := by
  refine den_walk Try.func80 cf_rleft rfl rfl ?_
  have g1 := bl_shl x .u64 j (j : Int) rfl (by omega)
  have g2 := bl_shr x .u64 (8 - j) (8 - (j : Int)) (by omega) (by omega)
  have g3 := binV_orB (shlB x j) (shrB x (8 - j))
  have e : leftB x j = orB (shlB x j) (shrB x (8 - j)) := rfl
  simp only [sf_rleft, putAll, wx, wy, wz, stV, seval, IntWalk.iteOmega, IntWalk.toNatUp, reduceCtorEq, g1, g2, g3, e]
  exact ret_d1 (by simp only [wx, wy, wz, stV, seval, IntWalk.iteOmega, IntWalk.toNatUp, reduceCtorEq])
theorem aff_eq (y : UInt8) : xorB (xorB (xorB (xorB (xorB y (leftB y 1)) (leftB y 2)) (leftB y 3)) (leftB y 4)) 99 = affB y := rfl
/-! ### The table -/
set_option maxRecDepth 100000 in
theorem box_size : ByteArray.size ⟨#[99, 124, 119, 123, 242, 107, 111, 197, 48, 1, 103, 43, 254, 215, 171, 118, 202, 130, 201, 125, 250, 89, 71, 240, 173, 212, 162, 175, 156, 164, 114, 192, 183, 253, 147, 38, 54, 63, 247, 204, 52, 165, 229, 241, 113, 216, 49, 21, 4, 199, 35, 195, 24, 150, 5, 154, 7, 18, 128, 226, 235, 39, 178, 117, 9, 131, 44, 26, 27, 110, 90, 160, 82, 59, 214, 179, 41, 227, 47, 132, 83, 209, 0, 237, 32, 252, 177, 91, 106, 203, 190, 57, 74, 76, 88, 207, 208, 239, 170, 251, 67, 77, 51, 133, 69, 249, 2, 127, 80, 60, 159, 168, 81, 163, 64, 143, 146, 157, 56, 245, 188, 182, 218, 33, 16, 255, 243, 210, 205, 12, 19, 236, 95, 151, 68, 23, 196, 167, 126, 61, 100, 93, 25, 115, 96, 129, 79, 220, 34, 42, 144, 136, 70, 238, 184, 20, 222, 94, 11, 219, 224, 50, 58, 10, 73, 6, 36, 92, 194, 211, 172, 98, 145, 149, 228, 121, 231, 200, 55, 109, 141, 213, 78, 169, 108, 86, 244, 234, 101, 122, 174, 8, 186, 120, 37, 46, 28, 166, 180, 198, 232, 221, 116, 31, 75, 189, 139, 138, 112, 62, 181, 102, 72, 3, 246, 14, 97, 53, 87, 185, 134, 193, 29, 158, 225, 248, 152, 17, 105, 217, 142, 148, 155, 30, 135, 233, 206, 85, 40, 223, 140, 161, 137, 13, 191, 230, 66, 104, 65, 153, 45, 15, 176, 84, 187, 22]⟩ = 256 := rfl
set_option maxRecDepth 100000 in
theorem box_at (x : UInt8) : (ByteArray.data ⟨#[99, 124, 119, 123, 242, 107, 111, 197, 48, 1, 103, 43, 254, 215, 171, 118, 202, 130, 201, 125, 250, 89, 71, 240, 173, 212, 162, 175, 156, 164, 114, 192, 183, 253, 147, 38, 54, 63, 247, 204, 52, 165, 229, 241, 113, 216, 49, 21, 4, 199, 35, 195, 24, 150, 5, 154, 7, 18, 128, 226, 235, 39, 178, 117, 9, 131, 44, 26, 27, 110, 90, 160, 82, 59, 214, 179, 41, 227, 47, 132, 83, 209, 0, 237, 32, 252, 177, 91, 106, 203, 190, 57, 74, 76, 88, 207, 208, 239, 170, 251, 67, 77, 51, 133, 69, 249, 2, 127, 80, 60, 159, 168, 81, 163, 64, 143, 146, 157, 56, 245, 188, 182, 218, 33, 16, 255, 243, 210, 205, 12, 19, 236, 95, 151, 68, 23, 196, 167, 126, 61, 100, 93, 25, 115, 96, 129, 79, 220, 34, 42, 144, 136, 70, 238, 184, 20, 222, 94, 11, 219, 224, 50, 58, 10, 73, 6, 36, 92, 194, 211, 172, 98, 145, 149, 228, 121, 231, 200, 55, 109, 141, 213, 78, 169, 108, 86, 244, 234, 101, 122, 174, 8, 186, 120, 37, 46, 28, 166, 180, 198, 232, 221, 116, 31, 75, 189, 139, 138, 112, 62, 181, 102, 72, 3, 246, 14, 97, 53, 87, 185, 134, 193, 29, 158, 225, 248, 152, 17, 105, 217, 142, 148, 155, 30, 135, 233, 206, 85, 40, 223, 140, 161, 137, 13, 191, 230, 66, 104, 65, 153, 45, 15, 176, 84, 187, 22]⟩).toList[x.toNat]? = some (subK x) := by
  have e : (ByteArray.data ⟨#[99, 124, 119, 123, 242, 107, 111, 197, 48, 1, 103, 43, 254, 215, 171, 118, 202, 130, 201, 125, 250, 89, 71, 240, 173, 212, 162, 175, 156, 164, 114, 192, 183, 253, 147, 38, 54, 63, 247, 204, 52, 165, 229, 241, 113, 216, 49, 21, 4, 199, 35, 195, 24, 150, 5, 154, 7, 18, 128, 226, 235, 39, 178, 117, 9, 131, 44, 26, 27, 110, 90, 160, 82, 59, 214, 179, 41, 227, 47, 132, 83, 209, 0, 237, 32, 252, 177, 91, 106, 203, 190, 57, 74, 76, 88, 207, 208, 239, 170, 251, 67, 77, 51, 133, 69, 249, 2, 127, 80, 60, 159, 168, 81, 163, 64, 143, 146, 157, 56, 245, 188, 182, 218, 33, 16, 255, 243, 210, 205, 12, 19, 236, 95, 151, 68, 23, 196, 167, 126, 61, 100, 93, 25, 115, 96, 129, 79, 220, 34, 42, 144, 136, 70, 238, 184, 20, 222, 94, 11, 219, 224, 50, 58, 10, 73, 6, 36, 92, 194, 211, 172, 98, 145, 149, 228, 121, 231, 200, 55, 109, 141, 213, 78, 169, 108, 86, 244, 234, 101, 122, 174, 8, 186, 120, 37, 46, 28, 166, 180, 198, 232, 221, 116, 31, 75, 189, 139, 138, 112, 62, 181, 102, 72, 3, 246, 14, 97, 53, 87, 185, 134, 193, 29, 158, 225, 248, 152, 17, 105, 217, 142, 148, 155, 30, 135, 233, 206, 85, 40, 223, 140, 161, 137, 13, 191, 230, 66, 104, 65, 153, 45, 15, 176, 84, 187, 22]⟩).toList = boxT := rfl
  rw [e, boxT_eq]; exact boxL_get x
set_option maxRecDepth 100000
def sf_sub : SFn := ⟨1, 5,
  .seq (.reg [⟨(some 2), .mv (.k (.c (.d (.int .u8 0)))), none⟩])
  (.seq (.reg [⟨(some 3), .mv (.t 0), none⟩,
    ⟨(some 4), .idxStr (.k (.c (.d (.str ⟨#[99, 124, 119, 123, 242, 107, 111, 197, 48, 1, 103, 43, 254, 215, 171, 118, 202, 130, 201, 125, 250, 89, 71, 240, 173, 212, 162, 175, 156, 164, 114, 192, 183, 253, 147, 38, 54, 63, 247, 204, 52, 165, 229, 241, 113, 216, 49, 21, 4, 199, 35, 195, 24, 150, 5, 154, 7, 18, 128, 226, 235, 39, 178, 117, 9, 131, 44, 26, 27, 110, 90, 160, 82, 59, 214, 179, 41, 227, 47, 132, 83, 209, 0, 237, 32, 252, 177, 91, 106, 203, 190, 57, 74, 76, 88, 207, 208, 239, 170, 251, 67, 77, 51, 133, 69, 249, 2, 127, 80, 60, 159, 168, 81, 163, 64, 143, 146, 157, 56, 245, 188, 182, 218, 33, 16, 255, 243, 210, 205, 12, 19, 236, 95, 151, 68, 23, 196, 167, 126, 61, 100, 93, 25, 115, 96, 129, 79, 220, 34, 42, 144, 136, 70, 238, 184, 20, 222, 94, 11, 219, 224, 50, 58, 10, 73, 6, 36, 92, 194, 211, 172, 98, 145, 149, 228, 121, 231, 200, 55, 109, 141, 213, 78, 169, 108, 86, 244, 234, 101, 122, 174, 8, 186, 120, 37, 46, 28, 166, 180, 198, 232, 221, 116, 31, 75, 189, 139, 138, 112, 62, 181, 102, 72, 3, 246, 14, 97, 53, 87, 185, 134, 193, 29, 158, 225, 248, 152, 17, 105, 217, 142, 148, 155, 30, 135, 233, 206, 85, 40, 223, 140, 161, 137, 13, 191, 230, 66, 104, 65, 153, 45, 15, 176, 84, 187, 22]⟩)))) (.t 3), none⟩,
    ⟨(some 2), .mv (.t 4), none⟩])
  (.ret)),
  [(2, none)]⟩
theorem cf_sub : compFn Try.prog { own := [], comp := [], frz := [], nils := [] } Try.f78 = some sf_sub := by kernel_rfl
theorem sub_c (G : Glob) (x : UInt8) : Den Try.prog G 78 [bD x] (.w (.c (.d (bD (subK x))))) := by
  refine den_walk Try.func78 cf_sub rfl rfl ?_
  have h := byte_lt x
  have e := box_at x
  simp only [sf_sub, putAll, wx, wy, wz, stV, seval, IntWalk.iteOmega, IntWalk.toNatUp, reduceCtorEq, box_size, e]
  exact ret_d1 (by simp only [wx, wy, wz, stV, seval, IntWalk.iteOmega, IntWalk.toNatUp, reduceCtorEq])
def powSt (x : UInt8) (i : Nat) : St := ⟨ofL [(0, .w (.c (.d (bD x)))), (3, .w (.c (.d (bD (powB x i))))), (4, .w (.c (.d (.int .i64 (i : Int)))))], hL [], uL []⟩
theorem pow_step (x : UInt8) (i : Nat) : timesK (powB x i) x = powB x (i + 1) := rfl
end Go.Proofs.Ytipjekggnanffaa
set_option linter.unusedVariables false
set_option linter.unusedSimpArgs false
namespace Go.Proofs.Ytipjekggnanffaa
open Go.RowKit

/-! ### A list that is filled in, place by place -/
def upL (f : Nat → UInt8) (l : List UInt8) (i : Nat) : List UInt8 := (List.range i).map f ++ l.drop i
theorem upL_len (f : Nat → UInt8) (l : List UInt8) {i : Nat} (h : i ≤ l.length) : (upL f l i).length = l.length := by
  unfold upL; rw [List.length_append, List.length_map, List.length_range, List.length_drop]; omega
theorem upL_zero (f : Nat → UInt8) (l : List UInt8) : upL f l 0 = l := by simp [upL]
theorem upL_full (f : Nat → UInt8) (l : List UInt8) {i : Nat} (h : l.length ≤ i) : upL f l i = (List.range i).map f := by
  unfold upL; rw [List.drop_eq_nil_of_le h, List.append_nil]
theorem upL_get (f : Nat → UInt8) (l : List UInt8) {i j : Nat} (hj : i ≤ j) : (upL f l i)[j]? = l[j]? := by
  unfold upL
  rw [List.getElem?_append_right (by simpa using hj), List.getElem?_drop, List.length_map, List.length_range, show i + (j - i) = j by omega]
theorem upL_done (f : Nat → UInt8) (l : List UInt8) {i j : Nat} (hj : j < i) : (upL f l i)[j]? = some (f j) := by
  unfold upL
  rw [List.getElem?_append_left (by simpa using hj)]
  simp [hj]
theorem upL_step (f : Nat → UInt8) (l : List UInt8) {i : Nat} (h : i < l.length) : (upL f l i).set i (f i) = upL f l (i + 1) := by
  unfold upL
  rw [List.set_append_right _ _ (by simp), List.length_map, List.length_range, Nat.sub_self, List.drop_eq_getElem_cons h, List.set_cons_zero, List.range_succ, List.map_append, List.append_assoc]
  rfl
theorem get_lt {l : List UInt8} {j : Nat} (h : j < l.length) : l[j]? = some (l.getD j 0) := by
  rw [List.getD_eq_getElem?_getD, List.getElem?_eq_getElem h]; rfl
theorem map_get {l : List UInt8} {j : Nat} (h : j < l.length) : (l.map bD)[j]? = some (bD (l.getD j 0)) := by rw [get_map, get_lt h]; rfl

/-! ### The reference's table -/
def tabN : Nat → List UInt8
  | 0 => (repL 256 0).set 0 99
  | n + 1 => (tabN n).set (powB 3 n).toNat (affB (powB 246 n))
theorem tabN_len : ∀ n, (tabN n).length = 256
  | 0 => by rw [tabN, List.length_set, repL_len]
  | n + 1 => by rw [tabN, List.length_set, tabN_len n]
set_option maxRecDepth 100000 in
theorem tab_box : tabN 255 = boxL := by decide +kernel
theorem pow0 (x : UInt8) : powB x 0 = 1 := rfl
theorem bD1 : bD 1 = .int .u8 1 := rfl
def boxSt (i : Nat) : St := ⟨ofL [(0, .w (.c (.pa 2 1))), (1, .w (.c (.pa 1 1))), (2, .w (.c (.d (bD (powB 3 i))))), (3, .w (.c (.d (bD (powB 246 i))))), (4, .w (.c (.d (.int .i64 (i : Int)))))], hL [(1, .row 1 ((tabN i).map bD)), (2, .row 1 ((repL 256 (0 : UInt8)).map bD))], uL [1, 2]⟩
def lp_rbox_0 : SCode :=
  .seq (.seq (.reg [⟨(some 6), .mv (.t 4), none⟩,
    ⟨(some 7), .bin .lss (.t 6) (.k (.c (.d (.int .i64 255)))), none⟩])
  (.cond (.t 7) (.skip)
   (.exit 0)))
  (.seq (.block 1 (.seq (.reg [⟨(some 10), .mv (.t 2), none⟩,
     ⟨(some 11), .mv (.t 3), none⟩,
     ⟨(some 12), .mv (.t 3), none⟩,
     ⟨(some 13), .call 80 [(.t 12), (.k (.c (.d (.int .i64 1))))] none, none⟩,
     ⟨(some 14), .bin .xor (.t 11) (.t 13), none⟩,
     ⟨(some 15), .mv (.t 3), none⟩,
     ⟨(some 16), .call 80 [(.t 15), (.k (.c (.d (.int .i64 2))))] none, none⟩,
     ⟨(some 17), .bin .xor (.t 14) (.t 16), none⟩,
     ⟨(some 18), .mv (.t 3), none⟩,
     ⟨(some 19), .call 80 [(.t 18), (.k (.c (.d (.int .i64 3))))] none, none⟩,
     ⟨(some 20), .bin .xor (.t 17) (.t 19), none⟩,
     ⟨(some 21), .mv (.t 3), none⟩,
     ⟨(some 22), .call 80 [(.t 21), (.k (.c (.d (.int .i64 4))))] none, none⟩,
     ⟨(some 23), .bin .xor (.t 20) (.t 22), none⟩,
     ⟨(some 24), .bin .xor (.t 23) (.k (.c (.d (.int .u8 99)))), none⟩,
     ⟨(some 25), .idxPa 1 256 (.t 1) (.t 10), none⟩,
     ⟨none, .store .sc (.t 25) (.t 24), none⟩])
   (.reg [⟨(some 26), .mv (.t 2), none⟩,
     ⟨(some 27), .call 74 [(.t 26), (.k (.c (.d (.int .u8 3))))] none, none⟩,
     ⟨(some 28), .mv (.t 3), none⟩,
     ⟨(some 29), .call 74 [(.t 28), (.k (.c (.d (.int .u8 246))))] none, none⟩,
     ⟨(some 2), .mv (.t 27), none⟩,
     ⟨(some 3), .mv (.t 29), none⟩])))
  (.reg [⟨(some 8), .mv (.t 4), none⟩,
    ⟨(some 9), .bin .add (.t 8) (.k (.c (.d (.int .i64 1)))), none⟩,
    ⟨(some 4), .mv (.t 9), none⟩]))
def sf_rbox : SFn := ⟨0, 31,
  .seq (.reg [⟨(some 0), .allocArr (repL 256 (.int .u8 0)), none⟩])
  (.seq (.reg [⟨(some 1), .allocArr (repL 256 (.int .u8 0)), none⟩])
  (.seq (.reg [⟨(some 5), .idxPa 1 256 (.t 1) (.k (.c (.d (.int .i64 0)))), none⟩,
    ⟨none, .store .sc (.t 5) (.k (.c (.d (.int .u8 99)))), none⟩])
  (.seq (.reg [⟨(some 2), .mv (.k (.c (.d (.int .u8 1)))), none⟩,
    ⟨(some 3), .mv (.k (.c (.d (.int .u8 1)))), none⟩])
  (.seq (.seq (.reg [⟨(some 4), .mv (.k (.c (.d (.int .i64 0)))), none⟩])
  (.block 0 (.loop lp_rbox_0)))
  (.seq (.reg [⟨(some 30), .load (.ag 256) (.t 1), none⟩,
    ⟨none, .store (.ag 256) (.t 0) (.t 30), none⟩])
  (.ret)))))),
  [(0, (some (.ag 256)))]⟩
theorem cf_rbox : compFn Try.prog { own := [], comp := [], frz := [], nils := [] } Try.f73 = some sf_rbox := by kernel_rfl
set_option maxHeartbeats 1600000 in
theorem rbox_c (G : Glob) : Den Try.prog G 73 [] (.w (.c (.d (.agg (boxL.map bD))))) := by
  refine den_walk Try.func73 cf_rbox rfl rfl ?_
  have e0 : ((repL 256 (0 : UInt8)).map bD).set 0 (.int .u8 99) = (tabN 0).map bD := set_map bD _ 0 99
  have e1 : 0 < (repL 256 (0 : UInt8)).length := by rw [repL_len]; decide
  have e2 := repL_get (n := 256) (i := 0) (0 : UInt8) (by decide)
  simp only [sf_rbox, putAll, wx, wy, wz, stV, seval, IntWalk.iteOmega, IntWalk.toNatUp, reduceCtorEq, repL_bD, e0, e1, e2, get_map, repL_len]
  refine loop_st boxSt (fun i => 255 - i) (fun i => i ≤ 255) 0 (Nat.zero_le _) ?_ ?_
  · refine ent_l (fun i => if i = 1 then 8 else 0) ?_ ?_ rfl rfl <;> simp only [wx, wex, wez, stV, seval, IntWalk.iteOmega, IntWalk.toNatUp, reduceCtorEq, pow0, bD1]
  · intro i hi
    have hl := tabN_len i
    by_cases hlt : i < 255
    · have hp := byte_lt (powB 3 i)
      have h3 : (powB 3 i).toNat < (tabN i).length := by omega
      have hs : (tabN i).set (powB 3 i).toNat (affB (powB 246 i)) = tabN (i + 1) := rfl
      have p3 : timesK (powB 3 i) 3 = powB 3 (i + 1) := rfl
      have p4 : timesK (powB 246 i) 246 = powB 246 (i + 1) := rfl
      have hset : ((tabN i).map bD).set (powB 3 i).toNat (bD (affB (powB 246 i))) = (tabN (i + 1)).map bD := by rw [set_map, hs]
      simp only [lp_rbox_0, boxSt, wx, wy, wz, stV, seval, IntWalk.iteOmega, IntWalk.toNatUp, reduceCtorEq]
      generalize powB 246 i = y at *
      rw [← aff_eq] at hset
      have g1 := binV_xorB y (leftB y 1)
      have g2 := binV_xorB (xorB y (leftB y 1)) (leftB y 2)
      have g3 := binV_xorB (xorB (xorB y (leftB y 1)) (leftB y 2)) (leftB y 3)
      have g4 := binV_xorB (xorB (xorB (xorB y (leftB y 1)) (leftB y 2)) (leftB y 3)) (leftB y 4)
      have g5 := bl_xor (xorB (xorB (xorB (xorB y (leftB y 1)) (leftB y 2)) (leftB y 3)) (leftB y 4)) 99 99 rfl
      refine st_call (rleft_c G y 1 (by decide) (by decide)) rfl (.inl rfl) ?_
      simp only [g1, wx, wy, wz, stV, seval, IntWalk.iteOmega, IntWalk.toNatUp, reduceCtorEq]
      refine st_call (rleft_c G y 2 (by decide) (by decide)) rfl (.inl rfl) ?_
      simp only [g2, wx, wy, wz, stV, seval, IntWalk.iteOmega, IntWalk.toNatUp, reduceCtorEq]
      refine st_call (rleft_c G y 3 (by decide) (by decide)) rfl (.inl rfl) ?_
      simp only [g3, wx, wy, wz, stV, seval, IntWalk.iteOmega, IntWalk.toNatUp, reduceCtorEq]
      refine st_call (rleft_c G y 4 (by decide) (by decide)) rfl (.inl rfl) ?_
      simp only [g4, g5, hl, get_map, stO_bs h3 (one_b _), hset, wx, wy, wz, stV, seval, IntWalk.iteOmega, IntWalk.toNatUp, reduceCtorEq]
      refine st_call (rtim_c G (powB 3 i) 3) rfl (.inl rfl) ?_
      simp only [p3, wx, wy, wz, stV, seval, IntWalk.iteOmega, IntWalk.toNatUp, reduceCtorEq]
      refine st_call (rtim_c G y 246) rfl (.inl rfl) ?_
      simp only [p4, wx, wy, wz, stV, seval, IntWalk.iteOmega, IntWalk.toNatUp, reduceCtorEq]
      refine lop_next (i + 1) (by omega) (by omega) (ent_l (fun i => i) ?_ ?_ rfl rfl) <;> simp only [wx, wex, wez, stV, seval, IntWalk.iteOmega, IntWalk.toNatUp, reduceCtorEq]
    · obtain rfl : i = 255 := by omega
      rw [tab_box] at hl
      simp only [lp_rbox_0, boxSt, tab_box, wx, wy, wz, stV, seval, IntWalk.iteOmega, IntWalk.toNatUp, reduceCtorEq, hl, flat_bs, repL_len]
      exact ret_d1 (by simp only [wx, wy, wz, stV, seval, IntWalk.iteOmega, IntWalk.toNatUp, reduceCtorEq])
end Go.Proofs.Ytipjekggnanffaa
set_option linter.unusedVariables false
set_option linter.unusedSimpArgs false
namespace Go.Proofs.Ytipjekggnanffaa
open Go.RowKit

def addL (s k : List UInt8) : List UInt8 := toL (addF (ofB16 s) (ofB16 k))
def subL (s : List UInt8) : List UInt8 := toL (shiftF (ofB16 s))
def mixL (s : List UInt8) : List UInt8 := toL (mixF (ofB16 s))
theorem addL_len (s k : List UInt8) : (addL s k).length = 16 := toL_len _
theorem subL_len (s : List UInt8) : (subL s).length = 16 := toL_len _
theorem mixL_len (s : List UInt8) : (mixL s).length = 16 := toL_len _
theorem of_toL (f : B16) : sameF (ofB16 (toL f)) f := fun j hj => by
  unfold ofB16; rw [List.getD_eq_getElem?_getD, toL_get f hj]; rfl
theorem addL_toL (f g : B16) : addL (toL f) (toL g) = toL (addF f g) := toL_congr fun j hj => by
  unfold addF; rw [of_toL f j hj, of_toL g j hj]
theorem subL_toL (f : B16) : subL (toL f) = toL (shiftF f) := toL_congr fun j hj => by
  unfold shiftF; rw [of_toL f _ (by omega)]
theorem mixL_toL (f : B16) : mixL (toL f) = toL (mixF f) := toL_congr fun j hj => by
  unfold mixF; rw [of_toL f _ (by omega), of_toL f _ (by omega), of_toL f _ (by omega), of_toL f _ (by omega)]
theorem z16 : [D.int .u8 0, .int .u8 0, .int .u8 0, .int .u8 0, .int .u8 0, .int .u8 0, .int .u8 0, .int .u8 0, .int .u8 0, .int .u8 0, .int .u8 0, .int .u8 0, .int .u8 0, .int .u8 0, .int .u8 0, .int .u8 0] = (repL 16 (0 : UInt8)).map bD := rfl
theorem toL_upL (f : B16) {l : List UInt8} (h : l.length = 16) : upL f l 16 = toL f := upL_full f l (by omega)

theorem tmodN (a b : Nat) : Int.tmod (a : Int) (b : Int) = ((a % b : Nat) : Int) := rfl
def comSt (s k : List UInt8) (i : Nat) : St := ⟨ofL [(2, .w (.c (.pa 1 1))), (4, .w (.c (.pa 2 1))), (7, .w (.c (.d (.agg (k.map bD))))), (8, .w (.c (.d (.int .i64 (i : Int)))))], hL [(1, .row 1 ((upL (addF (ofB16 s) (ofB16 k)) s i).map bD)), (2, .row 1 ((repL 16 (0 : UInt8)).map bD))], uL [1, 2]⟩
def lp_com_0 : SCode :=
  .seq (.reg [⟨(some 9), .bin .lss (.t 8) (.k (.c (.d (.int .i64 16)))), none⟩])
  (.seq (.cond (.t 9) (.skip)
   (.exit 0))
  (.seq (.block 1 (.seq (.reg [⟨(some 10), .mv (.t 8), none⟩,
     ⟨(some 11), .idxArr 1 16 .sc (.t 7) (.t 8), none⟩,
     ⟨(some 5), .mv (.t 10), none⟩,
     ⟨(some 6), .mv (.t 11), none⟩])
   (.reg [⟨(some 12), .mv (.t 5), none⟩,
     ⟨(some 13), .idxPa 1 16 (.t 2) (.t 12), none⟩,
     ⟨(some 14), .load .sc (.t 13), none⟩,
     ⟨(some 15), .mv (.t 6), none⟩,
     ⟨(some 16), .bin .xor (.t 14) (.t 15), none⟩,
     ⟨(some 17), .idxPa 1 16 (.t 2) (.t 12), none⟩,
     ⟨none, .store .sc (.t 17) (.t 16), none⟩])))
  (.reg [⟨(some 18), .bin .add (.t 8) (.k (.c (.d (.int .i64 1)))), none⟩,
    ⟨(some 8), .mv (.t 18), none⟩])))
def sf_com : SFn := ⟨2, 20,
  .seq (.reg [⟨(some 2), .box .ownArr (.t 0), none⟩,
    ⟨(some 3), .box .roArr (.t 1), none⟩,
    ⟨(some 4), .allocArr [(.int .u8 0), (.int .u8 0), (.int .u8 0), (.int .u8 0), (.int .u8 0), (.int .u8 0), (.int .u8 0), (.int .u8 0), (.int .u8 0), (.int .u8 0), (.int .u8 0), (.int .u8 0), (.int .u8 0), (.int .u8 0), (.int .u8 0), (.int .u8 0)], none⟩])
  (.seq (.seq (.reg [⟨(some 7), .load (.ag 16) (.t 3), none⟩,
    ⟨(some 8), .mv (.k (.c (.d (.int .i64 0)))), none⟩])
  (.block 0 (.loop lp_com_0)))
  (.seq (.reg [⟨(some 19), .load (.ag 16) (.t 2), none⟩,
    ⟨none, .store (.ag 16) (.t 4) (.t 19), none⟩])
  (.ret))),
  [(4, (some (.ag 16)))]⟩
theorem cf_com : compFn Try.prog { own := [2], comp := [], frz := [], nils := [] } Try.f64 = some sf_com := by kernel_rfl
set_option maxHeartbeats 1600000 in
theorem com_c (G : Glob) (s k : List UInt8) (hs : s.length = 16) (hk : k.length = 16) : Den Try.prog G 64 [.agg (s.map bD), .agg (k.map bD)] (.w (.c (.d (.agg ((addL s k).map bD))))) := by
  refine den_walk Try.func64 cf_com rfl rfl ?_
  simp only [sf_com, putAll, wx, wy, wz, stV, seval, IntWalk.iteOmega, IntWalk.toNatUp, reduceCtorEq, z16, flat_bs, hk]
  refine loop_st (comSt s k) (fun i => 16 - i) (fun i => i ≤ 16) 0 (Nat.zero_le _) ?_ ?_
  · refine ent_l (fun i => if i = 1 then 16 else 32) ?_ ?_ rfl rfl <;> simp only [wx, wex, wez, stV, seval, IntWalk.iteOmega, IntWalk.toNatUp, reduceCtorEq, upL_zero]
  · intro i hi
    have hl : (upL (addF (ofB16 s) (ofB16 k)) s i).length = 16 := by rw [upL_len _ _ (by omega)]; exact hs
    by_cases hlt : i < 16
    · have g1 : k[i]? = some (k.getD i 0) := get_lt (by omega)
      have g2 : (upL (addF (ofB16 s) (ofB16 k)) s i)[i]? = some (s.getD i 0) := by rw [upL_get _ _ (Nat.le_refl i)]; exact get_lt (by omega)
      have h3 : i < (upL (addF (ofB16 s) (ofB16 k)) s i).length := by omega
      have h4 := binV_xorB (s.getD i 0) (k.getD i 0)
      have h5 : (upL (addF (ofB16 s) (ofB16 k)) s i).set i (xorB (s.getD i 0) (k.getD i 0)) = upL (addF (ofB16 s) (ofB16 k)) s (i + 1) := upL_step (addF (ofB16 s) (ofB16 k)) s (by omega)
      simp only [lp_com_0, comSt, wx, wy, wz, stV, seval, IntWalk.iteOmega, IntWalk.toNatUp, reduceCtorEq, get_map, g1, g2, h4, stO_bs h3 (one_b _), set_bs, h5]
      refine lop_next (i + 1) (by omega) (by omega) (ent_l (fun i => i) ?_ ?_ rfl rfl) <;> simp only [wx, wex, wez, stV, seval, IntWalk.iteOmega, IntWalk.toNatUp, reduceCtorEq]
    · obtain rfl : i = 16 := by omega
      have e : upL (addF (ofB16 s) (ofB16 k)) s 16 = addL s k := toL_upL _ hs
      have e2 := addL_len s k
      simp only [lp_com_0, comSt, e, wx, wy, wz, stV, seval, IntWalk.iteOmega, IntWalk.toNatUp, reduceCtorEq, e2, flat_bs, repL_len]
      exact ret_d1 (by simp only [wx, wy, wz, stV, seval, IntWalk.iteOmega, IntWalk.toNatUp, reduceCtorEq])
def repSt (s : List UInt8) (i : Nat) : St := ⟨ofL [(1, .w (.c (.ra (s.map bD)))), (2, .w (.c (.pa 2 1))), (3, .w (.c (.pa 1 1))), (6, .w (.c (.d (.int .i64 (i : Int)))))], hL [(1, .row 1 ((upL (shiftF (ofB16 s)) (repL 16 (0 : UInt8)) i).map bD)), (2, .row 1 ((repL 16 (0 : UInt8)).map bD))], uL [1, 2]⟩
def lp_repl_0 : SCode :=
  .seq (.reg [⟨(some 7), .bin .lss (.t 6) (.k (.c (.d (.int .i64 16)))), none⟩])
  (.seq (.cond (.t 7) (.skip)
   (.exit 0))
  (.seq (.block 1 (.seq (.reg [⟨(some 8), .mv (.t 6), none⟩,
     ⟨(some 4), .mv (.t 8), none⟩])
   (.seq (.reg [⟨(some 9), .mv (.t 4), none⟩,
     ⟨(some 10), .bin .rem (.t 9) (.k (.c (.d (.int .i64 4)))), none⟩,
     ⟨(some 5), .mv (.t 10), none⟩])
   (.reg [⟨(some 11), .mv (.t 4), none⟩,
     ⟨(some 12), .mv (.t 4), none⟩,
     ⟨(some 13), .mv (.t 5), none⟩,
     ⟨(some 14), .bin .mul (.t 13) (.k (.c (.d (.int .i64 4)))), none⟩,
     ⟨(some 15), .bin .add (.t 12) (.t 14), none⟩,
     ⟨(some 16), .bin .rem (.t 15) (.k (.c (.d (.int .i64 16)))), none⟩,
     ⟨(some 17), .idxPa 1 16 (.t 1) (.t 16), none⟩,
     ⟨(some 18), .load .sc (.t 17), none⟩,
     ⟨(some 19), .call 78 [(.t 18)] none, none⟩,
     ⟨(some 20), .idxPa 1 16 (.t 3) (.t 11), none⟩,
     ⟨none, .store .sc (.t 20) (.t 19), none⟩]))))
  (.reg [⟨(some 21), .bin .add (.t 6) (.k (.c (.d (.int .i64 1)))), none⟩,
    ⟨(some 6), .mv (.t 21), none⟩])))
def sf_repl : SFn := ⟨1, 23,
  .seq (.reg [⟨(some 1), .box .roArr (.t 0), none⟩,
    ⟨(some 2), .allocArr [(.int .u8 0), (.int .u8 0), (.int .u8 0), (.int .u8 0), (.int .u8 0), (.int .u8 0), (.int .u8 0), (.int .u8 0), (.int .u8 0), (.int .u8 0), (.int .u8 0), (.int .u8 0), (.int .u8 0), (.int .u8 0), (.int .u8 0), (.int .u8 0)], none⟩])
  (.seq (.reg [⟨(some 3), .allocArr [(.int .u8 0), (.int .u8 0), (.int .u8 0), (.int .u8 0), (.int .u8 0), (.int .u8 0), (.int .u8 0), (.int .u8 0), (.int .u8 0), (.int .u8 0), (.int .u8 0), (.int .u8 0), (.int .u8 0), (.int .u8 0), (.int .u8 0), (.int .u8 0)], none⟩])
  (.seq (.seq (.reg [⟨(some 6), .mv (.k (.c (.d (.int .i64 0)))), none⟩])
  (.block 0 (.loop lp_repl_0)))
  (.seq (.reg [⟨(some 22), .load (.ag 16) (.t 3), none⟩,
    ⟨none, .store (.ag 16) (.t 2) (.t 22), none⟩])
  (.ret)))),
  [(2, (some (.ag 16)))]⟩
theorem cf_repl : compFn Try.prog { own := [], comp := [], frz := [], nils := [] } Try.f66 = some sf_repl := by kernel_rfl
set_option maxHeartbeats 1600000 in
theorem repl_c (G : Glob) (s : List UInt8) (hs : s.length = 16) : Den Try.prog G 66 [.agg (s.map bD)] (.w (.c (.d (.agg ((subL s).map bD))))) := by
  refine den_walk Try.func66 cf_repl rfl rfl ?_
  simp only [sf_repl, putAll, wx, wy, wz, stV, seval, IntWalk.iteOmega, IntWalk.toNatUp, reduceCtorEq, z16]
  refine loop_st (repSt s) (fun i => 16 - i) (fun i => i ≤ 16) 0 (Nat.zero_le _) ?_ ?_
  · refine ent_l (fun i => if i = 1 then 24 else 16) ?_ ?_ rfl rfl <;> simp only [wx, wex, wez, stV, seval, IntWalk.iteOmega, IntWalk.toNatUp, reduceCtorEq, upL_zero]
  · intro i hi
    have hl : (upL (shiftF (ofB16 s)) (repL 16 (0 : UInt8)) i).length = 16 := by rw [upL_len _ _ (by rw [repL_len]; omega), repL_len]
    by_cases hlt : i < 16
    · have hm : (i + i % 4 * 4) % 16 = i % 4 + 4 * ((i / 4 + i % 4) % 4) := by omega
      have hm2 : (i + i % 4 * 4) % 16 < 16 := by omega
      have g1 : s[(i + i % 4 * 4) % 16]? = some (ofB16 s (i % 4 + 4 * ((i / 4 + i % 4) % 4))) := by rw [← hm]; exact get_lt (by omega)
      have h3 : i < (upL (shiftF (ofB16 s)) (repL 16 (0 : UInt8)) i).length := by omega
      have h5 : (upL (shiftF (ofB16 s)) (repL 16 (0 : UInt8)) i).set i (subK (ofB16 s (i % 4 + 4 * ((i / 4 + i % 4) % 4)))) = upL (shiftF (ofB16 s)) (repL 16 (0 : UInt8)) (i + 1) := upL_step (shiftF (ofB16 s)) _ (by rw [repL_len]; omega)
      have t1 : Int.tmod (i : Int) 4 = ((i % 4 : Nat) : Int) := tmodN i 4
      have t2 : Int.tmod ((i : Int) + ((i % 4 : Nat) : Int) * 4) 16 = (((i + i % 4 * 4) % 16 : Nat) : Int) := tmodN (i + i % 4 * 4) 16
      have hb : (i % 4 : Nat) < 4 := Nat.mod_lt _ (by decide)
      generalize hq : i % 4 = q at *
      generalize hp : (i + q * 4) % 16 = p at *
      simp only [lp_repl_0, repSt, wx, wy, wz, stV, seval, IntWalk.iteOmega, IntWalk.toNatUp, reduceCtorEq, get_map, t1, t2, g1]
      refine st_call (sub_c G (ofB16 s (q + 4 * ((i / 4 + q) % 4)))) rfl (.inl rfl) ?_
      simp only [stO_bs h3 (one_b _), set_bs, h5, get_map, hl, wx, wy, wz, stV, seval, IntWalk.iteOmega, IntWalk.toNatUp, reduceCtorEq]
      refine lop_next (i + 1) (by omega) (by omega) (ent_l (fun i => i) ?_ ?_ rfl rfl) <;> simp only [wx, wex, wez, stV, seval, IntWalk.iteOmega, IntWalk.toNatUp, reduceCtorEq]
    · obtain rfl : i = 16 := by omega
      have e : upL (shiftF (ofB16 s)) (repL 16 (0 : UInt8)) 16 = subL s := toL_upL _ (repL_len _ _)
      have e2 := subL_len s
      simp only [lp_repl_0, repSt, e, wx, wy, wz, stV, seval, IntWalk.iteOmega, IntWalk.toNatUp, reduceCtorEq, e2, flat_bs, repL_len]
      exact ret_d1 (by simp only [wx, wy, wz, stV, seval, IntWalk.iteOmega, IntWalk.toNatUp, reduceCtorEq])
theorem mix_eq (a b c d : UInt8) : xorB (xorB (xorB (xtB (xorB a b)) b) c) d = mix4 a b c d := by
  unfold mix4 twB
  rw [xtB_lin a b, xt_two, xt_two]
def mixcSt (s : List UInt8) (i : Nat) : St := ⟨ofL [(1, .w (.c (.ra (s.map bD)))), (2, .w (.c (.pa 2 1))), (3, .w (.c (.pa 1 1))), (8, .w (.c (.d (.int .i64 (i : Int)))))], hL [(1, .row 1 ((upL (mixF (ofB16 s)) (repL 16 (0 : UInt8)) i).map bD)), (2, .row 1 ((repL 16 (0 : UInt8)).map bD))], uL [1, 2]⟩
def lp_mixd_0 : SCode :=
  .seq (.reg [⟨(some 9), .bin .lss (.t 8) (.k (.c (.d (.int .i64 16)))), none⟩])
  (.seq (.cond (.t 9) (.skip)
   (.exit 0))
  (.seq (.block 1 (.seq (.reg [⟨(some 10), .mv (.t 8), none⟩,
     ⟨(some 4), .mv (.t 10), none⟩])
   (.seq (.reg [⟨(some 11), .mv (.t 4), none⟩,
     ⟨(some 12), .bin .rem (.t 11) (.k (.c (.d (.int .i64 4)))), none⟩,
     ⟨(some 5), .mv (.t 12), none⟩])
   (.seq (.reg [⟨(some 13), .mv (.t 4), none⟩,
     ⟨(some 14), .mv (.t 5), none⟩,
     ⟨(some 15), .bin .sub (.t 13) (.t 14), none⟩,
     ⟨(some 16), .mv (.t 4), none⟩,
     ⟨(some 17), .mv (.t 5), none⟩,
     ⟨(some 18), .bin .sub (.t 16) (.t 17), none⟩,
     ⟨(some 19), .bin .add (.t 18) (.k (.c (.d (.int .i64 4)))), none⟩,
     ⟨(some 20), .sliceArr 1 16 (.t 1) (some (.t 15)) (some (.t 19)), none⟩,
     ⟨(some 6), .mv (.t 20), none⟩])
   (.seq (.reg [⟨(some 21), .mv (.t 6), none⟩,
     ⟨(some 22), .mv (.t 5), none⟩,
     ⟨(some 23), .bin .add (.t 22) (.k (.c (.d (.int .i64 1)))), none⟩,
     ⟨(some 24), .bin .rem (.t 23) (.k (.c (.d (.int .i64 4)))), none⟩,
     ⟨(some 25), .idxSl 1 (.t 21) (.t 24), none⟩,
     ⟨(some 26), .load .sc (.t 25), none⟩,
     ⟨(some 7), .mv (.t 26), none⟩])
   (.reg [⟨(some 27), .mv (.t 4), none⟩,
     ⟨(some 28), .mv (.t 4), none⟩,
     ⟨(some 29), .idxPa 1 16 (.t 1) (.t 28), none⟩,
     ⟨(some 30), .load .sc (.t 29), none⟩,
     ⟨(some 31), .mv (.t 7), none⟩,
     ⟨(some 32), .bin .xor (.t 30) (.t 31), none⟩,
     ⟨(some 33), .call 62 [(.t 32)] none, none⟩,
     ⟨(some 34), .mv (.t 7), none⟩,
     ⟨(some 35), .bin .xor (.t 33) (.t 34), none⟩,
     ⟨(some 36), .mv (.t 6), none⟩,
     ⟨(some 37), .mv (.t 5), none⟩,
     ⟨(some 38), .bin .add (.t 37) (.k (.c (.d (.int .i64 2)))), none⟩,
     ⟨(some 39), .bin .rem (.t 38) (.k (.c (.d (.int .i64 4)))), none⟩,
     ⟨(some 40), .idxSl 1 (.t 36) (.t 39), none⟩,
     ⟨(some 41), .load .sc (.t 40), none⟩,
     ⟨(some 42), .bin .xor (.t 35) (.t 41), none⟩,
     ⟨(some 43), .mv (.t 6), none⟩,
     ⟨(some 44), .mv (.t 5), none⟩,
     ⟨(some 45), .bin .add (.t 44) (.k (.c (.d (.int .i64 3)))), none⟩,
     ⟨(some 46), .bin .rem (.t 45) (.k (.c (.d (.int .i64 4)))), none⟩,
     ⟨(some 47), .idxSl 1 (.t 43) (.t 46), none⟩,
     ⟨(some 48), .load .sc (.t 47), none⟩,
     ⟨(some 49), .bin .xor (.t 42) (.t 48), none⟩,
     ⟨(some 50), .idxPa 1 16 (.t 3) (.t 27), none⟩,
     ⟨none, .store .sc (.t 50) (.t 49), none⟩]))))))
  (.reg [⟨(some 51), .bin .add (.t 8) (.k (.c (.d (.int .i64 1)))), none⟩,
    ⟨(some 8), .mv (.t 51), none⟩])))
def sf_mixd : SFn := ⟨1, 53,
  .seq (.reg [⟨(some 1), .box .roArr (.t 0), none⟩,
    ⟨(some 2), .allocArr [(.int .u8 0), (.int .u8 0), (.int .u8 0), (.int .u8 0), (.int .u8 0), (.int .u8 0), (.int .u8 0), (.int .u8 0), (.int .u8 0), (.int .u8 0), (.int .u8 0), (.int .u8 0), (.int .u8 0), (.int .u8 0), (.int .u8 0), (.int .u8 0)], none⟩])
  (.seq (.reg [⟨(some 3), .allocArr [(.int .u8 0), (.int .u8 0), (.int .u8 0), (.int .u8 0), (.int .u8 0), (.int .u8 0), (.int .u8 0), (.int .u8 0), (.int .u8 0), (.int .u8 0), (.int .u8 0), (.int .u8 0), (.int .u8 0), (.int .u8 0), (.int .u8 0), (.int .u8 0)], none⟩])
  (.seq (.seq (.reg [⟨(some 8), .mv (.k (.c (.d (.int .i64 0)))), none⟩])
  (.block 0 (.loop lp_mixd_0)))
  (.seq (.reg [⟨(some 52), .load (.ag 16) (.t 3), none⟩,
    ⟨none, .store (.ag 16) (.t 2) (.t 52), none⟩])
  (.ret)))),
  [(2, (some (.ag 16)))]⟩
theorem cf_mixd : compFn Try.prog { own := [], comp := [], frz := [], nils := [] } Try.f65 = some sf_mixd := by kernel_rfl
set_option maxHeartbeats 1600000 in
theorem mixd_c (G : Glob) (s : List UInt8) (hs : s.length = 16) : Den Try.prog G 65 [.agg (s.map bD)] (.w (.c (.d (.agg ((mixL s).map bD))))) := by
  refine den_walk Try.func65 cf_mixd rfl rfl ?_
  simp only [sf_mixd, putAll, wx, wy, wz, stV, seval, IntWalk.iteOmega, IntWalk.toNatUp, reduceCtorEq, z16]
  refine loop_st (mixcSt s) (fun i => 16 - i) (fun i => i ≤ 16) 0 (Nat.zero_le _) ?_ ?_
  · refine ent_l (fun i => if i = 1 then 24 else 16) ?_ ?_ rfl rfl <;> simp only [wx, wex, wez, stV, seval, IntWalk.iteOmega, IntWalk.toNatUp, reduceCtorEq, upL_zero]
  · intro i hi
    have hl : (upL (mixF (ofB16 s)) (repL 16 (0 : UInt8)) i).length = 16 := by rw [upL_len _ _ (by rw [repL_len]; omega), repL_len]
    by_cases hlt : i < 16
    · have h3 : i < (upL (mixF (ofB16 s)) (repL 16 (0 : UInt8)) i).length := by omega
      have h5 : (upL (mixF (ofB16 s)) (repL 16 (0 : UInt8)) i).set i (mixF (ofB16 s) i) = upL (mixF (ofB16 s)) (repL 16 (0 : UInt8)) (i + 1) := upL_step (mixF (ofB16 s)) _ (by rw [repL_len]; omega)
      have g0 : s[i]? = some (ofB16 s i) := get_lt (by omega)
      obtain ⟨q, r, hr, rfl⟩ : ∃ q r, r < 4 ∧ i = 4 * q + r := ⟨i / 4, i % 4, Nat.mod_lt _ (by decide), by omega⟩
      have hq : q < 4 := by omega
      have col : ∀ j, j < 4 → ((s.drop (4 * q)).take 4)[j]? = some (ofB16 s (4 * q + j)) := fun j hj => by
        rw [List.getElem?_take, if_pos hj, List.getElem?_drop]; exact get_lt (by omega)
      have g1 := col ((r + 1) % 4) (Nat.mod_lt _ (by decide))
      have g2 := col ((r + 2) % 4) (Nat.mod_lt _ (by decide))
      have g3 := col ((r + 3) % 4) (Nat.mod_lt _ (by decide))
      have t0 : Int.tmod (4 * (q : Int) + (r : Int)) 4 = (r : Int) := by
        show Int.tmod ((4 * q + r : Nat) : Int) ((4 : Nat) : Int) = _
        rw [tmodN]; congr 1; omega
      have t1 : Int.tmod ((r : Int) + 1) 4 = (((r + 1) % 4 : Nat) : Int) := tmodN (r + 1) 4
      have t2 : Int.tmod ((r : Int) + 2) 4 = (((r + 2) % 4 : Nat) : Int) := tmodN (r + 2) 4
      have t3 : Int.tmod ((r : Int) + 3) 4 = (((r + 3) % 4 : Nat) : Int) := tmodN (r + 3) 4
      have b1 : (r + 1) % 4 < 4 := Nat.mod_lt _ (by decide)
      have b2 : (r + 2) % 4 < 4 := Nat.mod_lt _ (by decide)
      have b3 : (r + 3) % 4 < 4 := Nat.mod_lt _ (by decide)
      have em : mixF (ofB16 s) (4 * q + r) = mix4 (ofB16 s (4 * q + r)) (ofB16 s (4 * q + (r + 1) % 4)) (ofB16 s (4 * q + (r + 2) % 4)) (ofB16 s (4 * q + (r + 3) % 4)) := by
        unfold mixF
        rw [show (4 * q + r) / 4 = q by omega, show (4 * q + r) % 4 = r by omega]
      rw [em, ← mix_eq] at h5
      have s1 : 4 * q + r - r = 4 * q := by omega
      have s2 : 4 * q + 4 - 4 * q = 4 := by omega
      have s3 : ((s.drop (4 * q)).take 4).length = 4 := by rw [List.length_take, List.length_drop]; omega
      generalize (r + 1) % 4 = r1 at *
      generalize (r + 2) % 4 = r2 at *
      generalize (r + 3) % 4 = r3 at *
      generalize ofB16 s (4 * q + r) = a at *
      generalize ofB16 s (4 * q + r1) = b at *
      generalize ofB16 s (4 * q + r2) = c at *
      generalize ofB16 s (4 * q + r3) = d at *
      have x1 := binV_xorB a b
      have x2 := binV_xorB (xtB (xorB a b)) b
      have x3 := binV_xorB (xorB (xtB (xorB a b)) b) c
      have x4 := binV_xorB (xorB (xorB (xtB (xorB a b)) b) c) d
      simp only [lp_mixd_0, mixcSt, wx, wy, wz, stV, seval, IntWalk.iteOmega, IntWalk.toNatUp, reduceCtorEq, get_map, t0, t1, t2, t3, g0, g1, g2, g3, s1, s2, s3, x1]
      refine st_call (dbl_c G (xorB a b)) rfl (.inl rfl) ?_
      simp only [get_map, t0, t1, t2, t3, g0, g1, g2, g3, s1, s2, s3, x2, x3, x4, stO_bs h3 (one_b _), set_bs, h5, hl, wx, wy, wz, stV, seval, IntWalk.iteOmega, IntWalk.toNatUp, reduceCtorEq]
      refine lop_next (4 * q + r + 1) (by omega) (by omega) (ent_l (fun i => i) ?_ ?_ rfl rfl) <;> simp only [wx, wex, wez, stV, seval, IntWalk.iteOmega, IntWalk.toNatUp, reduceCtorEq]
    · obtain rfl : i = 16 := by omega
      have e : upL (mixF (ofB16 s)) (repL 16 (0 : UInt8)) 16 = mixL s := toL_upL _ (repL_len _ _)
      have e2 := mixL_len s
      simp only [lp_mixd_0, mixcSt, e, wx, wy, wz, stV, seval, IntWalk.iteOmega, IntWalk.toNatUp, reduceCtorEq, e2, flat_bs, repL_len]
      exact ret_d1 (by simp only [wx, wy, wz, stV, seval, IntWalk.iteOmega, IntWalk.toNatUp, reduceCtorEq])
end Go.Proofs.Ytipjekggnanffaa
set_option linter.unusedVariables false
set_option linter.unusedSimpArgs false
namespace Go.Proofs.Ytipjekggnanffaa
open Go.RowKit

/-! ### A round key out of the one before it -/
def wV0 (l : List UInt8) (c : UInt8) (j : Nat) : UInt8 := if j = 0 then xorB (subK (l.getD 13 0)) c else if j = 1 then subK (l.getD 14 0) else if j = 2 then subK (l.getD 15 0) else subK (l.getD 12 0)
def wV (l : List UInt8) (c : UInt8) : Nat → Nat → UInt8
  | 0, j => wV0 l c j
  | n + 1, j => if j = n % 4 then xorB (l.getD n 0) (wV l c n (n % 4)) else wV l c n j
def folF (l : List UInt8) (c : UInt8) (n : Nat) : UInt8 := xorB (l.getD n 0) (wV l c n (n % 4))
def folL (l : List UInt8) (c : UInt8) : List UInt8 := toL (folF l c)
theorem folL_len (l : List UInt8) (c : UInt8) : (folL l c).length = 16 := toL_len _
def wL (l : List UInt8) (c : UInt8) (i : Nat) : List UInt8 := (List.range 4).map (wV l c i)
theorem wL_len (l : List UInt8) (c : UInt8) (i : Nat) : (wL l c i).length = 4 := by simp [wL]
theorem wL_get (l : List UInt8) (c : UInt8) (i : Nat) {j : Nat} (h : j < 4) : (wL l c i)[j]? = some (wV l c i j) := by simp [wL, h]
theorem wL_step (l : List UInt8) (c : UInt8) (i : Nat) : (wL l c i).set (i % 4) (folF l c i) = wL l c (i + 1) := by
  apply List.ext_getElem?
  intro j
  by_cases hj : j < 4
  · rw [wL_get _ _ _ hj, List.getElem?_set]
    by_cases e : i % 4 = j
    · rw [if_pos e, if_pos (by rw [wL_len]; omega), wV, if_pos e.symm]; rfl
    · rw [if_neg e, wL_get _ _ _ hj, wV, if_neg (fun h => e h.symm)]
  · rw [List.getElem?_eq_none (by rw [List.length_set, wL_len]; omega), List.getElem?_eq_none (by rw [wL_len]; omega)]
theorem wL_zero (l : List UInt8) (c : UInt8) : [xorB (subK (l.getD 13 0)) c, subK (l.getD 14 0), subK (l.getD 15 0), subK (l.getD 12 0)] = wL l c 0 := rfl
def folSt (l : List UInt8) (c : UInt8) (i : Nat) : St := ⟨ofL [(2, .w (.c (.pa 1 1))), (4, .w (.c (.pa 2 1))), (5, .w (.c (.pa 3 1))), (22, .w (.c (.d (.int .i64 (i : Int)))))], hL [(1, .row 1 ((upL (folF l c) l i).map bD)), (2, .row 1 ((repL 16 (0 : UInt8)).map bD)), (3, .row 1 ((wL l c i).map bD))], uL [1, 2, 3]⟩
def lp_fol_0 : SCode :=
  .seq (.reg [⟨(some 23), .bin .lss (.t 22) (.k (.c (.d (.int .i64 16)))), none⟩])
  (.seq (.cond (.t 23) (.skip)
   (.exit 0))
  (.seq (.block 1 (.seq (.reg [⟨(some 24), .mv (.t 22), none⟩,
     ⟨(some 6), .mv (.t 24), none⟩])
   (.seq (.reg [⟨(some 25), .mv (.t 6), none⟩,
     ⟨(some 26), .idxPa 1 16 (.t 2) (.t 25), none⟩,
     ⟨(some 27), .load .sc (.t 26), none⟩,
     ⟨(some 28), .mv (.t 6), none⟩,
     ⟨(some 29), .bin .rem (.t 28) (.k (.c (.d (.int .i64 4)))), none⟩,
     ⟨(some 30), .idxPa 1 4 (.t 5) (.t 29), none⟩,
     ⟨(some 31), .load .sc (.t 30), none⟩,
     ⟨(some 32), .bin .xor (.t 27) (.t 31), none⟩,
     ⟨(some 33), .idxPa 1 16 (.t 2) (.t 25), none⟩,
     ⟨none, .store .sc (.t 33) (.t 32), none⟩])
   (.reg [⟨(some 34), .mv (.t 6), none⟩,
     ⟨(some 35), .bin .rem (.t 34) (.k (.c (.d (.int .i64 4)))), none⟩,
     ⟨(some 36), .mv (.t 6), none⟩,
     ⟨(some 37), .idxPa 1 16 (.t 2) (.t 36), none⟩,
     ⟨(some 38), .load .sc (.t 37), none⟩,
     ⟨(some 39), .idxPa 1 4 (.t 5) (.t 35), none⟩,
     ⟨none, .store .sc (.t 39) (.t 38), none⟩]))))
  (.reg [⟨(some 40), .bin .add (.t 22) (.k (.c (.d (.int .i64 1)))), none⟩,
    ⟨(some 22), .mv (.t 40), none⟩])))
def sf_fol : SFn := ⟨2, 42,
  .seq (.reg [⟨(some 2), .box .ownArr (.t 0), none⟩,
    ⟨(some 4), .allocArr [(.int .u8 0), (.int .u8 0), (.int .u8 0), (.int .u8 0), (.int .u8 0), (.int .u8 0), (.int .u8 0), (.int .u8 0), (.int .u8 0), (.int .u8 0), (.int .u8 0), (.int .u8 0), (.int .u8 0), (.int .u8 0), (.int .u8 0), (.int .u8 0)], none⟩])
  (.seq (.reg [⟨(some 7), .idxPa 1 16 (.t 2) (.k (.c (.d (.int .i64 13)))), none⟩,
    ⟨(some 8), .load .sc (.t 7), none⟩,
    ⟨(some 9), .call 78 [(.t 8)] none, none⟩,
    ⟨(some 10), .mv (.t 1), none⟩,
    ⟨(some 11), .bin .xor (.t 9) (.t 10), none⟩,
    ⟨(some 12), .idxPa 1 16 (.t 2) (.k (.c (.d (.int .i64 14)))), none⟩,
    ⟨(some 13), .load .sc (.t 12), none⟩,
    ⟨(some 14), .call 78 [(.t 13)] none, none⟩,
    ⟨(some 15), .idxPa 1 16 (.t 2) (.k (.c (.d (.int .i64 15)))), none⟩,
    ⟨(some 16), .load .sc (.t 15), none⟩,
    ⟨(some 17), .call 78 [(.t 16)] none, none⟩,
    ⟨(some 18), .idxPa 1 16 (.t 2) (.k (.c (.d (.int .i64 12)))), none⟩,
    ⟨(some 19), .load .sc (.t 18), none⟩,
    ⟨(some 20), .call 78 [(.t 19)] none, none⟩,
    ⟨(some 21), .build [(.d (.int .u8 0)), (.d (.int .u8 0)), (.d (.int .u8 0)), (.d (.int .u8 0))] [(0, 1, (.t 11)), (1, 1, (.t 14)), (2, 1, (.t 17)), (3, 1, (.t 20))], none⟩,
    ⟨(some 5), .allocArr [(.int .u8 0), (.int .u8 0), (.int .u8 0), (.int .u8 0)], none⟩,
    ⟨none, .store (.ag 4) (.t 5) (.t 21), none⟩])
  (.seq (.seq (.reg [⟨(some 22), .mv (.k (.c (.d (.int .i64 0)))), none⟩])
  (.block 0 (.loop lp_fol_0)))
  (.seq (.reg [⟨(some 41), .load (.ag 16) (.t 2), none⟩,
    ⟨none, .store (.ag 16) (.t 4) (.t 41), none⟩])
  (.ret)))),
  [(4, (some (.ag 16)))]⟩
theorem cf_fol : compFn Try.prog { own := [2], comp := [], frz := [], nils := [] } Try.f61 = some sf_fol := by kernel_rfl
set_option maxHeartbeats 3200000 in
theorem fol_c (G : Glob) (l : List UInt8) (c : UInt8) (hl : l.length = 16) : Den Try.prog G 61 [.agg (l.map bD), bD c] (.w (.c (.d (.agg ((folL l c).map bD))))) := by
  refine den_walk Try.func61 cf_fol rfl rfl ?_
  have a13 : l[13]? = some (l.getD 13 0) := get_lt (by omega)
  have a14 : l[14]? = some (l.getD 14 0) := get_lt (by omega)
  have a15 : l[15]? = some (l.getD 15 0) := get_lt (by omega)
  have a12 : l[12]? = some (l.getD 12 0) := get_lt (by omega)
  have x0 := binV_xorB (subK (l.getD 13 0)) c
  have w0 := congrArg (List.map bD) (wL_zero l c)
  have wl := wL_len l c 0
  simp only [List.map_cons, List.map_nil] at w0
  simp only [sf_fol, putAll, wx, wy, wz, stV, seval, IntWalk.iteOmega, IntWalk.toNatUp, reduceCtorEq, z16, hl, get_map, a13]
  refine st_call (sub_c G (l.getD 13 0)) rfl (.inl rfl) ?_
  simp only [x0, get_map, a14, hl, wx, wy, wz, stV, seval, IntWalk.iteOmega, IntWalk.toNatUp, reduceCtorEq]
  refine st_call (sub_c G (l.getD 14 0)) rfl (.inl rfl) ?_
  simp only [get_map, a15, hl, wx, wy, wz, stV, seval, IntWalk.iteOmega, IntWalk.toNatUp, reduceCtorEq]
  refine st_call (sub_c G (l.getD 15 0)) rfl (.inl rfl) ?_
  simp only [get_map, a12, hl, wx, wy, wz, stV, seval, IntWalk.iteOmega, IntWalk.toNatUp, reduceCtorEq]
  refine st_call (sub_c G (l.getD 12 0)) rfl (.inl rfl) ?_
  simp only [w0, wx, wy, wz, stV, seval, IntWalk.iteOmega, IntWalk.toNatUp, reduceCtorEq]
  refine loop_st (folSt l c) (fun i => 16 - i) (fun i => i ≤ 16) 0 (Nat.zero_le _) ?_ ?_
  · refine ent_l (fun i => if i = 1 then 16 else if i = 2 then 32 else 40) ?_ ?_ rfl rfl <;> simp only [wx, wex, wez, stV, seval, IntWalk.iteOmega, IntWalk.toNatUp, reduceCtorEq, upL_zero]
  · intro i hi
    have hu : (upL (folF l c) l i).length = 16 := by rw [upL_len _ _ (by omega)]; exact hl
    by_cases hlt : i < 16
    · have hm : i % 4 < 4 := Nat.mod_lt _ (by decide)
      have t1 : Int.tmod (i : Int) 4 = ((i % 4 : Nat) : Int) := tmodN i 4
      have g1 : (upL (folF l c) l i)[i]? = some (l.getD i 0) := by rw [upL_get _ _ (Nat.le_refl i)]; exact get_lt (by omega)
      have g2 := wL_get l c i hm
      have x1 := binV_xorB (l.getD i 0) (wV l c i (i % 4))
      have h3 : i < (upL (folF l c) l i).length := by omega
      have h4 : i % 4 < (wL l c i).length := by rw [wL_len]; exact hm
      have h5 : (upL (folF l c) l i).set i (folF l c i) = upL (folF l c) l (i + 1) := upL_step (folF l c) l (by omega)
      have h6 := wL_step l c i
      have g3 : (upL (folF l c) l (i + 1))[i]? = some (folF l c i) := upL_done _ _ (Nat.lt_succ_self i)
      have hf : xorB (l.getD i 0) (wV l c i (i % 4)) = folF l c i := rfl
      have hwl := wL_len l c i
      have hu2 : (upL (folF l c) l (i + 1)).length = 16 := by rw [upL_len _ _ (by omega)]; exact hl
      generalize hq : i % 4 = q at *
      simp only [lp_fol_0, folSt, wx, wy, wz, stV, seval, IntWalk.iteOmega, IntWalk.toNatUp, reduceCtorEq, get_map, t1, g1, g2, x1, hf, stO_bs h3 (one_b _), stO_bs h4 (one_b _), set_bs, h5, h6, g3, hu, hu2, hwl]
      refine lop_next (i + 1) (by omega) (by omega) (ent_l (fun i => i) ?_ ?_ rfl rfl) <;> simp only [wx, wex, wez, stV, seval, IntWalk.iteOmega, IntWalk.toNatUp, reduceCtorEq]
    · obtain rfl : i = 16 := by omega
      have e : upL (folF l c) l 16 = folL l c := toL_upL _ hl
      have e2 := folL_len l c
      simp only [lp_fol_0, folSt, e, wx, wy, wz, stV, seval, IntWalk.iteOmega, IntWalk.toNatUp, reduceCtorEq, e2, flat_bs, repL_len]
      exact ret_d1 (by simp only [wx, wy, wz, stV, seval, IntWalk.iteOmega, IntWalk.toNatUp, reduceCtorEq])
/-! ### .. is what the words are -/
theorem getD_app {P Q : List UInt8} {k n : Nat} (h : P.length = n) : (P ++ Q).getD (n + k) 0 = Q.getD k 0 := by
  rw [List.getD_eq_getElem?_getD, List.getD_eq_getElem?_getD, List.getElem?_append_right (by omega), h, Nat.add_sub_cancel_left]
theorem drop_app {P Q : List UInt8} {k n : Nat} (h : P.length = n) : (P ++ Q).drop (n + k) = Q.drop k := by
  rw [← h, List.drop_append, List.drop_eq_nil_of_le (by omega), List.nil_append, Nat.add_sub_cancel_left]
theorem nextK_app {P Q : List UInt8} {n : Nat} (h : P.length = 4 * n) : nextK (P ++ Q) n = (List.range 4).map fun k => xorB (Q.getD k 0) ((turnW (Q.drop 12) n).getD k 0) := by
  unfold nextK
  refine List.map_congr_left fun k _ => ?_
  rw [getD_app h, show 12 + 4 * n = 4 * n + 12 by omega, drop_app h]
theorem fol16 (b0 b1 b2 b3 b4 b5 b6 b7 b8 b9 b10 b11 b12 b13 b14 b15 c : UInt8) : ∃ f0 f1 f2 f3,
    f0 = xorB b0 (xorB (subK b13) c) ∧ f1 = xorB b1 (subK b14) ∧ f2 = xorB b2 (subK b15) ∧ f3 = xorB b3 (subK b12) ∧
    folL [b0, b1, b2, b3, b4, b5, b6, b7, b8, b9, b10, b11, b12, b13, b14, b15] c =
      [f0, f1, f2, f3, xorB b4 f0, xorB b5 f1, xorB b6 f2, xorB b7 f3, xorB b8 (xorB b4 f0), xorB b9 (xorB b5 f1), xorB b10 (xorB b6 f2), xorB b11 (xorB b7 f3),
       xorB b12 (xorB b8 (xorB b4 f0)), xorB b13 (xorB b9 (xorB b5 f1)), xorB b14 (xorB b10 (xorB b6 f2)), xorB b15 (xorB b11 (xorB b7 f3))] :=
  ⟨_, _, _, _, rfl, rfl, rfl, rfl, rfl⟩
theorem four_map (f : Nat → UInt8) : (List.range 4).map f = [f 0, f 1, f 2, f 3] := rfl
theorem rk_block {P : List UInt8} {r : Nat} (hP : P.length = 16 * r) (b0 b1 b2 b3 b4 b5 b6 b7 b8 b9 b10 b11 b12 b13 b14 b15 : UInt8) (key : List UInt8)
    (h : rkN key (4 * r) = P ++ [b0, b1, b2, b3, b4, b5, b6, b7, b8, b9, b10, b11, b12, b13, b14, b15]) :
    rkN key (4 * (r + 1)) = rkN key (4 * r) ++ folL [b0, b1, b2, b3, b4, b5, b6, b7, b8, b9, b10, b11, b12, b13, b14, b15] (conK r) := by
  obtain ⟨f0, f1, f2, f3, e0, e1, e2, e3, ef⟩ := fol16 b0 b1 b2 b3 b4 b5 b6 b7 b8 b9 b10 b11 b12 b13 b14 b15 (conK r)
  have m0 : 4 * r % 4 = 0 := by omega
  have m1 : (4 * r + 1) % 4 ≠ 0 := by omega
  have m2 : (4 * r + 2) % 4 ≠ 0 := by omega
  have m3 : (4 * r + 3) % 4 ≠ 0 := by omega
  have d0 : 4 * r / 4 = r := by omega
  have n0 : nextK (rkN key (4 * r)) (4 * r) = [f0, f1, f2, f3] := by
    rw [h, nextK_app (by omega), four_map]
    unfold turnW
    rw [if_pos m0, d0, e0, e1, e2, e3]; rfl
  have s1 : rkN key (4 * r + 1) = (P ++ [b0, b1, b2, b3]) ++ [b4, b5, b6, b7, b8, b9, b10, b11, b12, b13, b14, b15, f0, f1, f2, f3] := by
    rw [rkN, n0, h]; simp
  have n1 : nextK (rkN key (4 * r + 1)) (4 * r + 1) = [xorB b4 f0, xorB b5 f1, xorB b6 f2, xorB b7 f3] := by
    rw [s1, nextK_app (by simp; omega), four_map]
    unfold turnW
    rw [if_neg m1]; rfl
  have s2 : rkN key (4 * r + 2) = (P ++ [b0, b1, b2, b3, b4, b5, b6, b7]) ++ [b8, b9, b10, b11, b12, b13, b14, b15, f0, f1, f2, f3, xorB b4 f0, xorB b5 f1, xorB b6 f2, xorB b7 f3] := by
    rw [show 4 * r + 2 = (4 * r + 1) + 1 from rfl, rkN, n1, s1]; simp
  have n2 : nextK (rkN key (4 * r + 2)) (4 * r + 2) = [xorB b8 (xorB b4 f0), xorB b9 (xorB b5 f1), xorB b10 (xorB b6 f2), xorB b11 (xorB b7 f3)] := by
    rw [s2, nextK_app (by simp; omega), four_map]
    unfold turnW
    rw [if_neg m2]; rfl
  have s3 : rkN key (4 * r + 3) = (P ++ [b0, b1, b2, b3, b4, b5, b6, b7, b8, b9, b10, b11]) ++ [b12, b13, b14, b15, f0, f1, f2, f3, xorB b4 f0, xorB b5 f1, xorB b6 f2, xorB b7 f3, xorB b8 (xorB b4 f0), xorB b9 (xorB b5 f1), xorB b10 (xorB b6 f2), xorB b11 (xorB b7 f3)] := by
    rw [show 4 * r + 3 = (4 * r + 2) + 1 from rfl, rkN, n2, s2]; simp
  have n3 : nextK (rkN key (4 * r + 3)) (4 * r + 3) = [xorB b12 (xorB b8 (xorB b4 f0)), xorB b13 (xorB b9 (xorB b5 f1)), xorB b14 (xorB b10 (xorB b6 f2)), xorB b15 (xorB b11 (xorB b7 f3))] := by
    rw [s3, nextK_app (by simp; omega), four_map]
    unfold turnW
    rw [if_neg m3]; rfl
  rw [show 4 * (r + 1) = (4 * r + 3) + 1 by omega, rkN, n3, s3, ef, h]
  simp
/-- The r-th round key. -/
def kb (key : List UInt8) (r : Nat) : List UInt8 := (rkN key (4 * r)).drop (16 * r)
theorem kb_len {key : List UInt8} (h : key.length = 16) (r : Nat) : (kb key r).length = 16 := by
  unfold kb; rw [List.length_drop, rkN_len h]; omega
theorem list16 {l : List UInt8} (h : l.length = 16) : ∃ b0 b1 b2 b3 b4 b5 b6 b7 b8 b9 b10 b11 b12 b13 b14 b15, l = [b0, b1, b2, b3, b4, b5, b6, b7, b8, b9, b10, b11, b12, b13, b14, b15] := by
  rcases l with _ | ⟨b0, l⟩ <;> simp at h
  rcases l with _ | ⟨b1, l⟩ <;> simp at h
  rcases l with _ | ⟨b2, l⟩ <;> simp at h
  rcases l with _ | ⟨b3, l⟩ <;> simp at h
  rcases l with _ | ⟨b4, l⟩ <;> simp at h
  rcases l with _ | ⟨b5, l⟩ <;> simp at h
  rcases l with _ | ⟨b6, l⟩ <;> simp at h
  rcases l with _ | ⟨b7, l⟩ <;> simp at h
  rcases l with _ | ⟨b8, l⟩ <;> simp at h
  rcases l with _ | ⟨b9, l⟩ <;> simp at h
  rcases l with _ | ⟨b10, l⟩ <;> simp at h
  rcases l with _ | ⟨b11, l⟩ <;> simp at h
  rcases l with _ | ⟨b12, l⟩ <;> simp at h
  rcases l with _ | ⟨b13, l⟩ <;> simp at h
  rcases l with _ | ⟨b14, l⟩ <;> simp at h
  rcases l with _ | ⟨b15, l⟩ <;> simp at h
  subst h
  exact ⟨_, _, _, _, _, _, _, _, _, _, _, _, _, _, _, _, rfl⟩
theorem rk_next {key : List UInt8} (h : key.length = 16) (r : Nat) : rkN key (4 * (r + 1)) = rkN key (4 * r) ++ folL (kb key r) (conK r) := by
  obtain ⟨b0, b1, b2, b3, b4, b5, b6, b7, b8, b9, b10, b11, b12, b13, b14, b15, e⟩ := list16 (kb_len h r)
  rw [e]
  refine rk_block (P := (rkN key (4 * r)).take (16 * r)) ?_ _ _ _ _ _ _ _ _ _ _ _ _ _ _ _ _ key ?_
  · rw [List.length_take, rkN_len h]; omega
  · rw [← e]; exact (List.take_append_drop _ _).symm
theorem kb_next {key : List UInt8} (h : key.length = 16) (r : Nat) : kb key (r + 1) = folL (kb key r) (conK r) := by
  show (rkN key (4 * (r + 1))).drop (16 * (r + 1)) = _
  rw [rk_next h, List.drop_append, List.drop_eq_nil_of_le (by rw [rkN_len h]; omega), List.nil_append, rkN_len h]
  rw [show 16 * (r + 1) - (16 + 4 * (4 * r)) = 0 by omega]; rfl
theorem rk_pre {key : List UInt8} (m : Nat) : ∀ n, rkN key m <+: rkN key (m + n)
  | 0 => List.prefix_refl _
  | n + 1 => (rk_pre m n).trans (by rw [← Nat.add_assoc, rkN]; exact List.prefix_append _ _)
/-- .. as part of all of them. -/
theorem kb_part {key : List UInt8} (h : key.length = 16) {r : Nat} (hr : r ≤ 10) : ((rkK key).drop (16 * r)).take 16 = kb key r := by
  obtain ⟨t, ht⟩ := rk_pre (key := key) (4 * r) (40 - 4 * r)
  rw [show 4 * r + (40 - 4 * r) = 40 by omega] at ht
  have hl : (kb key r).length = 16 := kb_len h r
  unfold rkK
  rw [← ht, List.drop_append_of_le_length (by rw [rkN_len h]; omega)]
  exact List.take_left' hl
theorem kb_toL {key : List UInt8} (h : key.length = 16) {r : Nat} (hr : r ≤ 10) : toL (keyF (rkK key) r) = kb key r := by
  rw [← kb_part h hr]
  apply List.ext_getElem?
  intro j
  by_cases hj : j < 16
  · rw [toL_get _ hj, List.getElem?_take, if_pos hj, List.getElem?_drop]
    exact (get_lt (by rw [rkK_len h]; omega)).symm
  · rw [List.getElem?_eq_none (by rw [toL_len]; omega), List.getElem?_eq_none (by rw [List.length_take]; omega)]
/-- The keys behind i rounds. -/
def rkP (key : List UInt8) (i : Nat) : List UInt8 := rkN key (4 * i) ++ repL (160 - 16 * i) 0
theorem rkP_len {key : List UInt8} (h : key.length = 16) {i : Nat} (hi : i ≤ 10) : (rkP key i).length = 176 := by
  unfold rkP; rw [List.length_append, rkN_len h, repL_len]; omega
theorem rkP_zero {key : List UInt8} (h : key.length = 16) : setR (repL 176 (0 : UInt8)) 0 key = rkP key 0 := by
  unfold setR rkP repL
  rw [List.take_zero, List.nil_append, List.drop_replicate, h]; rfl
theorem rkP_part {key : List UInt8} (h : key.length = 16) {i : Nat} (hi : i ≤ 10) : ((rkP key i).drop (i * 16)).take 16 = kb key i := by
  unfold rkP
  rw [Nat.mul_comm, List.drop_append_of_le_length (by rw [rkN_len h]; omega)]
  exact List.take_left' (kb_len h i)
theorem rkP_step {key : List UInt8} (h : key.length = 16) {i : Nat} (hi : i < 10) : setR (rkP key i) ((i + 1) * 16) (folL (kb key i) (conK i)) = rkP key (i + 1) := by
  have hl : (rkN key (4 * i)).length = (i + 1) * 16 := by rw [rkN_len h]; omega
  unfold setR rkP
  rw [rk_next h, List.take_append_of_le_length (by omega), List.take_of_length_le (by omega), folL_len, List.drop_append, List.drop_eq_nil_of_le (by omega), List.nil_append, hl]
  congr 1
  unfold repL
  rw [List.drop_replicate]
  congr 1
  omega
theorem rkP_full (key : List UInt8) : rkP key 10 = rkK key := by
  unfold rkP repL rkK; rw [show 160 - 16 * 10 = 0 from rfl, List.replicate_zero, List.append_nil]
end Go.Proofs.Ytipjekggnanffaa
set_option linter.unusedVariables false
set_option linter.unusedSimpArgs false
namespace Go.Proofs.Ytipjekggnanffaa
open Go.RowKit

def expdSt (key : List UInt8) (i : Nat) : St := ⟨ofL [(2, .w (.c (.ptr 2 1 0 0))), (3, .w (.c (.ptr 1 1 0 0))), (4, .w (.c (.d (bD (conK i))))), (5, .w (.c (.d (.int .i64 ((i + 1 : Nat) : Int)))))], hL [(1, .box ((rkP key i).map bC)), (2, .box ((repL 176 (0 : UInt8)).map bC))], uL [1, 2]⟩
theorem con0 : conK 0 = 1 := rfl
def lp_expd_0 : SCode :=
  .seq (.seq (.reg [⟨(some 10), .mv (.t 5), none⟩,
    ⟨(some 11), .bin .leq (.t 10) (.k (.c (.d (.int .i64 10)))), none⟩])
  (.cond (.t 11) (.skip)
   (.exit 0)))
  (.seq (.block 1 (.seq (.reg [⟨(some 14), .mv (.t 5), none⟩,
     ⟨(some 15), .mv (.t 5), none⟩,
     ⟨(some 16), .bin .sub (.t 15) (.k (.c (.d (.int .i64 1)))), none⟩,
     ⟨(some 17), .idxPa 16 11 (.t 3) (.t 16), none⟩,
     ⟨(some 18), .load (.ag 16) (.t 17), none⟩,
     ⟨(some 19), .mv (.t 4), none⟩,
     ⟨(some 20), .call 61 [(.t 18), (.t 19)] none, none⟩,
     ⟨(some 21), .idxPa 16 11 (.t 3) (.t 14), none⟩,
     ⟨none, .store (.ag 16) (.t 21) (.t 20), none⟩])
   (.reg [⟨(some 22), .mv (.t 4), none⟩,
     ⟨(some 23), .call 62 [(.t 22)] none, none⟩,
     ⟨(some 4), .mv (.t 23), none⟩])))
  (.reg [⟨(some 12), .mv (.t 5), none⟩,
    ⟨(some 13), .bin .add (.t 12) (.k (.c (.d (.int .i64 1)))), none⟩,
    ⟨(some 5), .mv (.t 13), none⟩]))
def sf_expd : SFn := ⟨1, 25,
  .seq (.reg [⟨(some 2), .alloc (repL 176 (.d (.int .u8 0))), none⟩])
  (.seq (.reg [⟨(some 3), .alloc (repL 176 (.d (.int .u8 0))), none⟩])
  (.seq (.reg [⟨(some 6), .idxPa 16 11 (.t 3) (.k (.c (.d (.int .i64 0)))), none⟩,
    ⟨(some 7), .sliceArr 1 16 (.t 6) none none, none⟩,
    ⟨(some 8), .mv (.t 0), none⟩,
    ⟨(some 9), .copy 1 (.t 7) (.t 8), none⟩])
  (.seq (.reg [⟨(some 4), .mv (.k (.c (.d (.int .u8 1)))), none⟩])
  (.seq (.seq (.reg [⟨(some 5), .mv (.k (.c (.d (.int .i64 1)))), none⟩])
  (.block 0 (.loop lp_expd_0)))
  (.seq (.reg [⟨(some 24), .load (.ag 176) (.t 3), none⟩,
    ⟨none, .store (.ag 176) (.t 2) (.t 24), none⟩])
  (.ret)))))),
  [(2, (some (.ag 176)))]⟩
theorem cf_expd : compFn Try.prog { own := [], comp := [], frz := [], nils := [] } Try.f36 = some sf_expd := by kernel_rfl
set_option maxHeartbeats 3200000 in
theorem expd_c (G : Glob) (key : List UInt8) (h : key.length = 16) : Den Try.prog G 36 [.sl (key.map bD)] (.w (.c (.d (.agg ((rkK key).map bD))))) := by
  refine den_walk Try.func36 cf_expd rfl rfl ?_
  have ht : key.take 16 = key := List.take_of_length_le (by omega)
  have h0 : key ++ List.drop key.length (repL 176 (0 : UInt8)) = rkP key 0 := by rw [← rkP_zero h]; simp [setR]
  have hid := ids_bC (rkP key 0)
  have hid2 := ids_bC (repL 176 (0 : UInt8))
  simp only [sf_expd, putAll, wx, wy, wz, stV, seval, IntWalk.iteOmega, IntWalk.toNatUp, reduceCtorEq, repL_bC, len_map, repL_len, take_map, ht, flat_bs, map_C, setR_map, h0]
  refine loop_st (expdSt key) (fun i => 10 - i) (fun i => i ≤ 10) 0 (Nat.zero_le _) ?_ ?_
  · refine ent_l (fun i => if i = 1 then 24 else 16) ?_ ?_ rfl (by simp [V.ids, W.ids, C.ids, Ob.ids, ids_bC]) <;> simp only [wx, wex, wez, stV, seval, IntWalk.iteOmega, IntWalk.toNatUp, reduceCtorEq, con0, bD1, ren_bC, ids_bC]
  · intro i hi
    have hl := rkP_len h hi
    by_cases hlt : i < 10
    · have g1 := rkP_part h hi
      have h5 : List.take ((i + 1) * 16) (rkP key i) ++ folL (kb key i) (conK i) ++ List.drop ((i + 1) * 16 + 16) (rkP key i) = rkP key (i + 1) := by
        rw [← rkP_step h hlt]; unfold setR; rw [folL_len]
      have hf := folL_len (kb key i) (conK i)
      have hx : xtB (conK i) = conK (i + 1) := rfl
      have s1 : ((i : Int) + 1 - 1).toNat = i := by omega
      simp only [lp_expd_0, expdSt, wx, wy, wz, stV, seval, IntWalk.iteOmega, IntWalk.toNatUp, reduceCtorEq, len_map, hl, take_map, drop_map, g1, allD_bs]
      refine st_call (fol_c G (kb key i) (conK i) (kb_len h i)) rfl (.inl rfl) ?_
      simp only [len_map, hl, map_C, hf, take_map, drop_map, app_map, h5, wx, wy, wz, stV, seval, IntWalk.iteOmega, IntWalk.toNatUp, reduceCtorEq]
      refine st_call (dbl_c G (conK i)) rfl (.inl rfl) ?_
      simp only [hx, wx, wy, wz, stV, seval, IntWalk.iteOmega, IntWalk.toNatUp, reduceCtorEq]
      refine lop_next (i + 1) (by omega) (by omega) (ent_l (fun i => i) ?_ ?_ rfl (by simp [V.ids, W.ids, C.ids, Ob.ids, ids_bC])) <;> simp only [wx, wex, wez, stV, seval, IntWalk.iteOmega, IntWalk.toNatUp, reduceCtorEq, ren_bC, ids_bC]
    · obtain rfl : i = 10 := by omega
      have e := rkP_full key
      have e2 := rkK_len h
      rw [e] at hl
      have t1 : (rkK key).take 176 = rkK key := List.take_of_length_le (by omega)
      have t2 : List.drop 176 (repL 176 (0 : UInt8)) = [] := List.drop_eq_nil_of_le (by rw [repL_len]; omega)
      have t3 : rkK key ++ List.drop (rkK key).length (repL 176 (0 : UInt8)) = rkK key := by rw [e2, t2, List.append_nil]
      simp only [lp_expd_0, expdSt, e, wx, wy, wz, stV, seval, IntWalk.iteOmega, IntWalk.toNatUp, reduceCtorEq, len_map, hl, e2, t1, t2, t3, allD_bs, map_C, repL_len, take_map, drop_map, app_map, List.append_nil]
      exact ret_d1 (by simp only [wx, wy, wz, stV, seval, IntWalk.iteOmega, IntWalk.toNatUp, reduceCtorEq, len_map, hl, e2, t1, t2, t3, allD_bs, map_C, repL_len, take_map, drop_map, app_map, List.append_nil])
theorem allDn_bs (l : List UInt8) : allDn ((l.map bD).map C.d) = some (l.map bD) := by
  induction l with
  | nil => rfl
  | cons x l ih =>
    show allDn (C.d (bD x) :: (l.map bD).map C.d) = _
    simp only [allDn, ih, List.map_cons, Option.map_some]
/-! ### A block -/
theorem addL_enc (rk b : List UInt8) (hb : b.length = 16) : addL b (toL (keyF rk 0)) = toL (encF (keyF rk) (ofB16 b) 0) := by
  have := addL_toL (ofB16 b) (keyF rk 0)
  rw [toL_of hb] at this
  exact this
theorem rnd_enc (rk b : List UInt8) {n : Nat} (h : n + 1 < 10) : addL (mixL (subL (toL (encF (keyF rk) (ofB16 b) n)))) (toL (keyF rk (n + 1))) = toL (encF (keyF rk) (ofB16 b) (n + 1)) := by
  rw [subL_toL, mixL_toL, addL_toL]
  show _ = toL (roundF _ _ _)
  unfold roundF
  rw [if_pos h]
theorem last_enc (rk b : List UInt8) : addL (subL (toL (encF (keyF rk) (ofB16 b) 9))) (toL (keyF rk 10)) = encK rk b := by
  rw [subL_toL, addL_toL]
  rfl
def encSt (rk b : List UInt8) (i : Nat) : St := ⟨ofL [(2, .w (.c (.rp (rk.map bD)))), (4, .w (.c (.pa 2 1))), (5, .w (.c (.pa 1 1))), (6, .w (.c (.d (.int .i64 ((i + 1 : Nat) : Int)))))], hL [(1, .row 1 ((toL (encF (keyF rk) (ofB16 b) i)).map bD)), (2, .row 1 ((repL 16 (0 : UInt8)).map bD))], uL [1, 2]⟩
def lp_encd_0 : SCode :=
  .seq (.seq (.reg [⟨(some 14), .mv (.t 6), none⟩,
    ⟨(some 15), .bin .lss (.t 14) (.k (.c (.d (.int .i64 10)))), none⟩])
  (.cond (.t 15) (.skip)
   (.exit 0)))
  (.seq (.block 1 (.reg [⟨(some 18), .load (.ag 16) (.t 5), none⟩,
     ⟨(some 19), .call 66 [(.t 18)] none, none⟩,
     ⟨(some 20), .call 65 [(.t 19)] none, none⟩,
     ⟨(some 21), .mv (.t 6), none⟩,
     ⟨(some 22), .idxPa 16 11 (.t 2) (.t 21), none⟩,
     ⟨(some 23), .load (.ag 16) (.t 22), none⟩,
     ⟨(some 24), .call 64 [(.t 20), (.t 23)] none, none⟩,
     ⟨none, .store (.ag 16) (.t 5) (.t 24), none⟩]))
  (.reg [⟨(some 16), .mv (.t 6), none⟩,
    ⟨(some 17), .bin .add (.t 16) (.k (.c (.d (.int .i64 1)))), none⟩,
    ⟨(some 6), .mv (.t 17), none⟩]))
def sf_encd : SFn := ⟨2, 30,
  .seq (.reg [⟨(some 2), .box .roBox (.t 0), none⟩,
    ⟨(some 4), .allocArr [(.int .u8 0), (.int .u8 0), (.int .u8 0), (.int .u8 0), (.int .u8 0), (.int .u8 0), (.int .u8 0), (.int .u8 0), (.int .u8 0), (.int .u8 0), (.int .u8 0), (.int .u8 0), (.int .u8 0), (.int .u8 0), (.int .u8 0), (.int .u8 0)], none⟩])
  (.seq (.reg [⟨(some 5), .allocArr [(.int .u8 0), (.int .u8 0), (.int .u8 0), (.int .u8 0), (.int .u8 0), (.int .u8 0), (.int .u8 0), (.int .u8 0), (.int .u8 0), (.int .u8 0), (.int .u8 0), (.int .u8 0), (.int .u8 0), (.int .u8 0), (.int .u8 0), (.int .u8 0)], none⟩])
  (.seq (.reg [⟨(some 7), .sliceArr 1 16 (.t 5) none none, none⟩,
    ⟨(some 8), .mv (.t 1), none⟩,
    ⟨(some 9), .copy 1 (.t 7) (.t 8), none⟩])
  (.seq (.reg [⟨(some 10), .load (.ag 16) (.t 5), none⟩,
    ⟨(some 11), .idxPa 16 11 (.t 2) (.k (.c (.d (.int .i64 0)))), none⟩,
    ⟨(some 12), .load (.ag 16) (.t 11), none⟩,
    ⟨(some 13), .call 64 [(.t 10), (.t 12)] none, none⟩,
    ⟨none, .store (.ag 16) (.t 5) (.t 13), none⟩])
  (.seq (.seq (.reg [⟨(some 6), .mv (.k (.c (.d (.int .i64 1)))), none⟩])
  (.block 0 (.loop lp_encd_0)))
  (.seq (.reg [⟨(some 25), .load (.ag 16) (.t 5), none⟩,
    ⟨(some 26), .call 66 [(.t 25)] none, none⟩,
    ⟨(some 27), .idxPa 16 11 (.t 2) (.k (.c (.d (.int .i64 10)))), none⟩,
    ⟨(some 28), .load (.ag 16) (.t 27), none⟩,
    ⟨(some 29), .call 64 [(.t 26), (.t 28)] none, none⟩,
    ⟨none, .store (.ag 16) (.t 4) (.t 29), none⟩])
  (.ret)))))),
  [(4, (some (.ag 16)))]⟩
theorem cf_encd : compFn Try.prog { own := [], comp := [], frz := [], nils := [] } Try.f38 = some sf_encd := by kernel_rfl
set_option maxHeartbeats 3200000 in
theorem encd_c (G : Glob) (rk b : List UInt8) (hk : rk.length = 176) (hb : b.length = 16) : Den Try.prog G 38 [.agg (rk.map bD), .sl (b.map bD)] (.w (.c (.d (.agg ((encK rk b).map bD))))) := by
  refine den_walk Try.func38 cf_encd rfl rfl ?_
  have ht : b.take 16 = b := List.take_of_length_le (by omega)
  have key : ∀ r, r ≤ 10 → (rk.drop (16 * r)).take 16 = toL (keyF rk r) := fun r hr => by
    apply List.ext_getElem?
    intro j
    by_cases hj : j < 16
    · rw [toL_get _ hj, List.getElem?_take, if_pos hj, List.getElem?_drop]; exact get_lt (by omega)
    · rw [List.getElem?_eq_none (by rw [List.length_take]; omega), List.getElem?_eq_none (by rw [toL_len]; omega)]
  have d1 : b ++ List.drop b.length (repL 16 (0 : UInt8)) = b := by rw [hb, List.drop_eq_nil_of_le (by rw [repL_len]; omega), List.append_nil]
  have d2 : List.drop 16 (repL 16 (0 : UInt8)) = [] := List.drop_eq_nil_of_le (by rw [repL_len]; omega)
  have k0 := key 0 (by decide)
  have l0 : (toL (keyF rk 0)).length = 16 := toL_len _
  have t0 : (toL (keyF rk 0)).take 16 = toL (keyF rk 0) := List.take_of_length_le (by rw [toL_len]; omega)
  have a0 := addL_enc rk b hb
  have la := toL_len (encF (keyF rk) (ofB16 b) 0)
  simp only [Nat.mul_zero, List.drop_zero] at k0
  simp only [sf_encd, putAll, wx, wy, wz, stV, seval, IntWalk.iteOmega, IntWalk.toNatUp, reduceCtorEq, z16, allDn_bs, repL_len, take_map, ht, drop_map, app_map, d1, d2, k0, flat_bs, hb, l0, t0, List.append_nil, List.length_nil]
  refine st_call (com_c G b (toL (keyF rk 0)) hb l0) rfl (.inl rfl) ?_
  simp only [a0, la, repL_len, wx, wy, wz, stV, seval, IntWalk.iteOmega, IntWalk.toNatUp, reduceCtorEq]
  refine loop_st (encSt rk b) (fun i => 9 - i) (fun i => i ≤ 9) 0 (Nat.zero_le _) ?_ ?_
  · refine ent_l (fun i => if i = 1 then 40 else 32) ?_ ?_ rfl rfl <;> simp only [wx, wex, wez, stV, seval, IntWalk.iteOmega, IntWalk.toNatUp, reduceCtorEq]
  · intro i hi
    have le := toL_len (encF (keyF rk) (ofB16 b) i)
    have hr : i + 1 ≤ 10 := by omega
    have k1 := key (i + 1) hr
    rw [Nat.mul_comm] at k1
    have l1 : (toL (keyF rk (i + 1))).length = 16 := toL_len _
    have t1 : (toL (keyF rk (i + 1))).take 16 = toL (keyF rk (i + 1)) := List.take_of_length_le (by rw [toL_len]; omega)
    by_cases hlt : i < 9
    · have h5 := rnd_enc rk b (n := i) (by omega)
      have le2 := toL_len (encF (keyF rk) (ofB16 b) (i + 1))
      simp only [lp_encd_0, encSt, wx, wy, wz, stV, seval, IntWalk.iteOmega, IntWalk.toNatUp, reduceCtorEq, le, flat_bs]
      refine st_call (repl_c G (toL (encF (keyF rk) (ofB16 b) i)) le) rfl (.inl rfl) ?_
      simp only [wx, wy, wz, stV, seval, IntWalk.iteOmega, IntWalk.toNatUp, reduceCtorEq]
      refine st_call (mixd_c G _ (subL_len _)) rfl (.inl rfl) ?_
      simp only [take_map, drop_map, k1, l1, t1, wx, wy, wz, stV, seval, IntWalk.iteOmega, IntWalk.toNatUp, reduceCtorEq]
      refine st_call (com_c G _ _ (mixL_len _) l1) rfl (.inl rfl) ?_
      simp only [h5, le2, le, wx, wy, wz, stV, seval, IntWalk.iteOmega, IntWalk.toNatUp, reduceCtorEq]
      refine lop_next (i + 1) (by omega) (by omega) (ent_l (fun i => i) ?_ ?_ rfl rfl) <;> simp only [wx, wex, wez, stV, seval, IntWalk.iteOmega, IntWalk.toNatUp, reduceCtorEq]
    · obtain rfl : i = 9 := by omega
      have h5 := last_enc rk b
      have le2 := encK_len rk b
      simp only [lp_encd_0, encSt, wx, wy, wz, stV, seval, IntWalk.iteOmega, IntWalk.toNatUp, reduceCtorEq, le, flat_bs]
      refine st_call (repl_c G (toL (encF (keyF rk) (ofB16 b) 9)) le) rfl (.inl rfl) ?_
      simp only [take_map, drop_map, k1, l1, t1, wx, wy, wz, stV, seval, IntWalk.iteOmega, IntWalk.toNatUp, reduceCtorEq]
      refine st_call (com_c G _ _ (subL_len _) l1) rfl (.inl rfl) ?_
      simp only [h5, le2, repL_len, wx, wy, wz, stV, seval, IntWalk.iteOmega, IntWalk.toNatUp, reduceCtorEq]
      exact ret_d1 (by simp only [wx, wy, wz, stV, seval, IntWalk.iteOmega, IntWalk.toNatUp, reduceCtorEq, le2, flat_bs])
end Go.Proofs.Ytipjekggnanffaa
set_option linter.unusedVariables false
set_option linter.unusedSimpArgs false
namespace Go.Proofs.Ytipjekggnanffaa
open Go.RowKit

/-! ### A machine's cells -/
def mB (a b c : List UInt8) : List UInt8 := a ++ b ++ c
theorem mB_getA {a b c : List UInt8} (ha : a.length = 176) (_ : b.length = 256) {j : Nat} (h : j < 176) : (mB a b c)[j]? = a[j]? := by
  unfold mB; rw [List.append_assoc, List.getElem?_append_left (by omega)]
theorem mB_getB {a b c : List UInt8} (ha : a.length = 176) (hb : b.length = 256) {j : Nat} (h : j < 256) : (mB a b c)[176 + j]? = b[j]? := by
  unfold mB; rw [List.append_assoc, List.getElem?_append_right (by omega), ha, Nat.add_sub_cancel_left, List.getElem?_append_left (by omega)]
theorem mB_getC {a b c : List UInt8} (ha : a.length = 176) (hb : b.length = 256) (j : Nat) : (mB a b c)[432 + j]? = c[j]? := by
  unfold mB; rw [List.getElem?_append_right (by rw [List.length_append]; omega), List.length_append, ha, hb, Nat.add_sub_cancel_left]
theorem mB_setA {a b c : List UInt8} (ha : a.length = 176) (_ : b.length = 256) {j : Nat} (h : j < 176) (x : UInt8) : (mB a b c).set j x = mB (a.set j x) b c := by
  unfold mB; rw [List.append_assoc, List.append_assoc, List.set_append_left _ _ (by omega)]
theorem mB_setC {a b c : List UInt8} (ha : a.length = 176) (hb : b.length = 256) (j : Nat) (x : UInt8) : (mB a b c).set (432 + j) x = mB a b (c.set j x) := by
  unfold mB; rw [List.set_append_right _ _ (by rw [List.length_append]; omega), List.length_append, ha, hb, Nat.add_sub_cancel_left]
theorem mB_len {a b c : List UInt8} (ha : a.length = 176) (hb : b.length = 256) (hc : c.length = 256) : (mB a b c).length = 688 := by unfold mB; rw [List.length_append, List.length_append, ha, hb, hc]
def twF (i : Nat) : UInt8 := twB (UInt8.ofNat i)
def twL : List UInt8 := (List.range 256).map twF
theorem twL_len : twL.length = 256 := by unfold twL; rw [List.length_map, List.length_range]
theorem twL_get (x : UInt8) : twL[x.toNat]? = some (twB x) := by
  have h := byte_lt x
  unfold twL
  rw [List.getElem?_map, List.getElem?_range h]
  show some (twB (UInt8.ofNat x.toNat)) = _
  rw [UInt8.ofNat_toNat]
/-- What the reference makes of a key. -/
def macM4 (key : List UInt8) : List UInt8 := mB (rkK key) boxL twL
theorem bD_nat {i : Nat} (h : i < 256) : bD (UInt8.ofNat i) = .int .u8 (i : Int) := by
  unfold bD; rw [UInt8.toNat_ofNat_of_lt' (by simpa [UInt8.size] using h)]
/-- .. before the words, and behind n of them and k bytes. -/
def prepA (i : Nat) : List UInt8 := mB (repL 176 0) boxL (upL twF (repL 256 0) i)
theorem prepA_len {i : Nat} (h : i ≤ 256) : (prepA i).length = 688 := mB_len (repL_len _ _) boxL_len (by rw [upL_len _ _ (by rw [repL_len]; omega), repL_len])
def rkQ (key : List UInt8) (n k : Nat) : List UInt8 := rkN key n ++ (nextK (rkN key n) n).take k ++ repL (160 - 4 * n - k) 0
def prepB (key : List UInt8) (n k : Nat) : List UInt8 := mB (rkQ key n k) boxL twL
theorem rkQ_len {key : List UInt8} (h : key.length = 16) {n k : Nat} (hk : k ≤ 4) (hn : 4 * n + k ≤ 160) : (rkQ key n k).length = 176 := by
  unfold rkQ; rw [List.length_append, List.length_append, rkN_len h, List.length_take, nextK_len, repL_len]; omega
theorem rkQ_old {key : List UInt8} (h : key.length = 16) {n k j : Nat} (hj : j < 16 + 4 * n) : (rkQ key n k)[j]? = some ((rkN key n).getD j 0) := by
  unfold rkQ
  rw [List.append_assoc, List.getElem?_append_left (by rw [rkN_len h]; exact hj)]
  exact get_lt (by rw [rkN_len h]; exact hj)
theorem nextK_get (l : List UInt8) (n : Nat) {k : Nat} (hk : k < 4) : (nextK l n)[k]? = some (xorB (l.getD (4 * n + k) 0) ((turnW (l.drop (12 + 4 * n)) n).getD k 0)) := by
  unfold nextK; rw [List.getElem?_map, List.getElem?_range hk]; rfl
theorem rkQ_step {key : List UInt8} (h : key.length = 16) {n k : Nat} (hk : k < 4) (hn : 4 * n + k < 160) :
    (rkQ key n k).set (16 + 4 * n + k) (xorB ((rkN key n).getD (4 * n + k) 0) ((turnW ((rkN key n).drop (12 + 4 * n)) n).getD k 0)) = rkQ key n (k + 1) := by
  have hl : (rkN key n ++ (nextK (rkN key n) n).take k).length = 16 + 4 * n + k := by rw [List.length_append, rkN_len h, List.length_take, nextK_len]; omega
  unfold rkQ
  rw [List.set_append_right _ _ (by omega), hl, Nat.sub_self]
  obtain ⟨m, hm⟩ : ∃ m, 160 - 4 * n - k = m + 1 := ⟨160 - 4 * n - k - 1, by omega⟩
  rw [show 160 - 4 * n - (k + 1) = m by omega, hm]
  unfold repL
  rw [List.replicate_succ, List.set_cons_zero, List.take_add_one, nextK_get _ _ hk]
  simp
theorem rkQ_next (key : List UInt8) (n : Nat) : rkQ key n 4 = rkQ key (n + 1) 0 := by
  unfold rkQ
  rw [List.take_zero, List.append_nil, rkN, List.take_of_length_le (by rw [nextK_len]; omega), show 160 - 4 * n - 4 = 160 - 4 * (n + 1) - 0 by omega]
theorem rkQ_full (key : List UInt8) : rkQ key 40 0 = rkK key := by
  unfold rkQ repL rkK; rw [show 160 - 4 * 40 - 0 = 0 from rfl, List.replicate_zero, List.append_nil, List.take_zero, List.append_nil]
theorem prepB_len {key : List UInt8} (h : key.length = 16) {n k : Nat} (hk : k ≤ 4) (hn : 4 * n + k ≤ 160) : (prepB key n k).length = 688 := mB_len (rkQ_len h hk hn) boxL_len twL_len

theorem tsd {l : List UInt8} {j : Nat} (x : UInt8) (h : j < l.length) : List.take j l ++ [x] ++ List.drop (j + 1) l = l.set j x := by
  rw [List.set_eq_take_append_cons_drop, if_pos h, List.append_assoc]; rfl
theorem bC_d (x : UInt8) : bC x = C.d (bD x) := rfl
theorem cat3 (a b : List UInt8) (x : UInt8) : a.map bC ++ [C.d (bD x)] ++ b.map bC = (a ++ [x] ++ b).map bC := by rw [List.map_append, List.map_append]; rfl
def pr2St (key : List UInt8) (n : Nat) : St := ⟨ofL [(2, .w (.c (.ptr 2 1 0 0))), (3, .w (.c (.ptr 1 1 0 0))), (5, .w (.c (.d (bD (conK ((n + 3) / 4)))))), (6, .w (.c (.d (.int .i64 ((16 + 4 * n : Nat) : Int)))))], hL [(1, .box ((prepB key n 0).map bC)), (2, .box ((repL 688 (0 : UInt8)).map bC))], uL [1, 2]⟩
def turL (key : List UInt8) (n : Nat) : List UInt8 := turnW ((rkN key n).drop (12 + 4 * n)) n
theorem turL_len (key : List UInt8) (n : Nat) : (turL key n).length = 4 := by unfold turL turnW; split <;> rfl
def pr1St (key : List UInt8) (n k : Nat) : St := ⟨ofL [(2, .w (.c (.ptr 2 1 0 0))), (3, .w (.c (.ptr 1 1 0 0))), (5, .w (.c (.d (bD (conK ((n + 4) / 4)))))), (6, .w (.c (.d (.int .i64 ((16 + 4 * n : Nat) : Int))))), (7, .w (.c (.pa 3 1))), (8, .w (.c (.d (.int .i64 (k : Int)))))], hL [(1, .box ((prepB key n k).map bC)), (2, .box ((repL 688 (0 : UInt8)).map bC)), (3, .row 1 ((turL key n).map bD))], uL [1, 2, 3]⟩
def pr0St (key : List UInt8) (i : Nat) : St := ⟨ofL [(0, .w (.c (.d (.sl (key.map bD))))), (2, .w (.c (.ptr 2 1 0 0))), (3, .w (.c (.ptr 1 1 0 0))), (4, .w (.c (.d (.int .i64 (i : Int)))))], hL [(1, .box ((prepA i).map bC)), (2, .box ((repL 688 (0 : UInt8)).map bC))], uL [1, 2]⟩
def lp_prep_0 : SCode :=
  .seq (.seq (.reg [⟨(some 11), .mv (.t 4), none⟩,
    ⟨(some 12), .bin .lss (.t 11) (.k (.c (.d (.int .i64 256)))), none⟩])
  (.cond (.t 12) (.skip)
   (.exit 0)))
  (.seq (.block 1 (.reg [⟨(some 15), .mv (.t 4), none⟩,
     ⟨(some 16), .mv (.t 4), none⟩,
     ⟨(some 17), .conv .u8 (.t 16), none⟩,
     ⟨(some 18), .call 74 [(.t 17), (.k (.c (.d (.int .u8 2))))] none, none⟩,
     ⟨(some 19), .fieldAddr 432 (.t 3), none⟩,
     ⟨(some 20), .idxPa 1 256 (.t 19) (.t 15), none⟩,
     ⟨none, .store .sc (.t 20) (.t 18), none⟩]))
  (.reg [⟨(some 13), .mv (.t 4), none⟩,
    ⟨(some 14), .bin .add (.t 13) (.k (.c (.d (.int .i64 1)))), none⟩,
    ⟨(some 4), .mv (.t 14), none⟩]))
def lp_prep_1 : SCode :=
  .seq (.seq (.reg [⟨(some 78), .mv (.t 8), none⟩,
    ⟨(some 79), .bin .lss (.t 78) (.k (.c (.d (.int .i64 4)))), none⟩])
  (.cond (.t 79) (.skip)
   (.exit 4)))
  (.seq (.block 5 (.reg [⟨(some 82), .mv (.t 6), none⟩,
     ⟨(some 83), .mv (.t 8), none⟩,
     ⟨(some 84), .bin .add (.t 82) (.t 83), none⟩,
     ⟨(some 85), .mv (.t 6), none⟩,
     ⟨(some 86), .bin .sub (.t 85) (.k (.c (.d (.int .i64 16)))), none⟩,
     ⟨(some 87), .mv (.t 8), none⟩,
     ⟨(some 88), .bin .add (.t 86) (.t 87), none⟩,
     ⟨(some 89), .fieldAddr 0 (.t 3), none⟩,
     ⟨(some 90), .idxPa 1 176 (.t 89) (.t 88), none⟩,
     ⟨(some 91), .load .sc (.t 90), none⟩,
     ⟨(some 92), .mv (.t 8), none⟩,
     ⟨(some 93), .idxPa 1 4 (.t 7) (.t 92), none⟩,
     ⟨(some 94), .load .sc (.t 93), none⟩,
     ⟨(some 95), .bin .xor (.t 91) (.t 94), none⟩,
     ⟨(some 96), .fieldAddr 0 (.t 3), none⟩,
     ⟨(some 97), .idxPa 1 176 (.t 96) (.t 84), none⟩,
     ⟨none, .store .sc (.t 97) (.t 95), none⟩]))
  (.reg [⟨(some 80), .mv (.t 8), none⟩,
    ⟨(some 81), .bin .add (.t 80) (.k (.c (.d (.int .i64 1)))), none⟩,
    ⟨(some 8), .mv (.t 81), none⟩]))
def lp_prep_2 : SCode :=
  .seq (.seq (.reg [⟨(some 25), .mv (.t 6), none⟩,
    ⟨(some 26), .bin .lss (.t 25) (.k (.c (.d (.int .i64 176)))), none⟩])
  (.cond (.t 26) (.skip)
   (.exit 2)))
  (.seq (.block 3 (.seq (.reg [⟨(some 29), .mv (.t 6), none⟩,
     ⟨(some 30), .bin .sub (.t 29) (.k (.c (.d (.int .i64 4)))), none⟩,
     ⟨(some 31), .fieldAddr 0 (.t 3), none⟩,
     ⟨(some 32), .idxPa 1 176 (.t 31) (.t 30), none⟩,
     ⟨(some 33), .load .sc (.t 32), none⟩,
     ⟨(some 34), .mv (.t 6), none⟩,
     ⟨(some 35), .bin .sub (.t 34) (.k (.c (.d (.int .i64 3)))), none⟩,
     ⟨(some 36), .fieldAddr 0 (.t 3), none⟩,
     ⟨(some 37), .idxPa 1 176 (.t 36) (.t 35), none⟩,
     ⟨(some 38), .load .sc (.t 37), none⟩,
     ⟨(some 39), .mv (.t 6), none⟩,
     ⟨(some 40), .bin .sub (.t 39) (.k (.c (.d (.int .i64 2)))), none⟩,
     ⟨(some 41), .fieldAddr 0 (.t 3), none⟩,
     ⟨(some 42), .idxPa 1 176 (.t 41) (.t 40), none⟩,
     ⟨(some 43), .load .sc (.t 42), none⟩,
     ⟨(some 44), .mv (.t 6), none⟩,
     ⟨(some 45), .bin .sub (.t 44) (.k (.c (.d (.int .i64 1)))), none⟩,
     ⟨(some 46), .fieldAddr 0 (.t 3), none⟩,
     ⟨(some 47), .idxPa 1 176 (.t 46) (.t 45), none⟩,
     ⟨(some 48), .load .sc (.t 47), none⟩,
     ⟨(some 49), .build [(.d (.int .u8 0)), (.d (.int .u8 0)), (.d (.int .u8 0)), (.d (.int .u8 0))] [(0, 1, (.t 33)), (1, 1, (.t 38)), (2, 1, (.t 43)), (3, 1, (.t 48))], none⟩,
     ⟨(some 7), .allocArr [(.int .u8 0), (.int .u8 0), (.int .u8 0), (.int .u8 0)], none⟩,
     ⟨none, .store (.ag 4) (.t 7) (.t 49), none⟩])
   (.seq (.seq (.reg [⟨(some 50), .mv (.t 6), none⟩,
     ⟨(some 51), .bin .rem (.t 50) (.k (.c (.d (.int .i64 16)))), none⟩,
     ⟨(some 52), .bin .eql (.t 51) (.k (.c (.d (.int .i64 0)))), none⟩])
   (.cond (.t 52) (.seq (.reg [⟨(some 53), .idxPa 1 4 (.t 7) (.k (.c (.d (.int .i64 1)))), none⟩,
      ⟨(some 54), .load .sc (.t 53), none⟩,
      ⟨(some 55), .fieldAddr 176 (.t 3), none⟩,
      ⟨(some 56), .idxPa 1 256 (.t 55) (.t 54), none⟩,
      ⟨(some 57), .load .sc (.t 56), none⟩,
      ⟨(some 58), .mv (.t 5), none⟩,
      ⟨(some 59), .bin .xor (.t 57) (.t 58), none⟩,
      ⟨(some 60), .idxPa 1 4 (.t 7) (.k (.c (.d (.int .i64 2)))), none⟩,
      ⟨(some 61), .load .sc (.t 60), none⟩,
      ⟨(some 62), .fieldAddr 176 (.t 3), none⟩,
      ⟨(some 63), .idxPa 1 256 (.t 62) (.t 61), none⟩,
      ⟨(some 64), .load .sc (.t 63), none⟩,
      ⟨(some 65), .idxPa 1 4 (.t 7) (.k (.c (.d (.int .i64 3)))), none⟩,
      ⟨(some 66), .load .sc (.t 65), none⟩,
      ⟨(some 67), .fieldAddr 176 (.t 3), none⟩,
      ⟨(some 68), .idxPa 1 256 (.t 67) (.t 66), none⟩,
      ⟨(some 69), .load .sc (.t 68), none⟩,
      ⟨(some 70), .idxPa 1 4 (.t 7) (.k (.c (.d (.int .i64 0)))), none⟩,
      ⟨(some 71), .load .sc (.t 70), none⟩,
      ⟨(some 72), .fieldAddr 176 (.t 3), none⟩,
      ⟨(some 73), .idxPa 1 256 (.t 72) (.t 71), none⟩,
      ⟨(some 74), .load .sc (.t 73), none⟩,
      ⟨(some 75), .build [(.d (.int .u8 0)), (.d (.int .u8 0)), (.d (.int .u8 0)), (.d (.int .u8 0))] [(0, 1, (.t 59)), (1, 1, (.t 64)), (2, 1, (.t 69)), (3, 1, (.t 74))], none⟩,
      ⟨none, .store (.ag 4) (.t 7) (.t 75), none⟩])
    (.reg [⟨(some 76), .mv (.t 5), none⟩,
      ⟨(some 77), .call 74 [(.t 76), (.k (.c (.d (.int .u8 2))))] none, none⟩,
      ⟨(some 5), .mv (.t 77), none⟩]))
    (.skip)))
   (.seq (.reg [⟨(some 8), .mv (.k (.c (.d (.int .i64 0)))), none⟩])
   (.block 4 (.loop lp_prep_1))))))
  (.reg [⟨(some 27), .mv (.t 6), none⟩,
    ⟨(some 28), .bin .add (.t 27) (.k (.c (.d (.int .i64 4)))), none⟩,
    ⟨(some 6), .mv (.t 28), none⟩]))
def sf_prep : SFn := ⟨1, 99,
  .seq (.reg [⟨(some 2), .alloc (repL 688 (.d (.int .u8 0))), none⟩])
  (.seq (.reg [⟨(some 9), .call 73 [] none, none⟩,
    ⟨(some 10), .build (repL 688 (.d (.int .u8 0))) [(176, 256, (.t 9))], none⟩,
    ⟨(some 3), .alloc (repL 688 (.d (.int .u8 0))), none⟩,
    ⟨none, .store (.ag 688) (.t 3) (.t 10), none⟩])
  (.seq (.seq (.reg [⟨(some 4), .mv (.k (.c (.d (.int .i64 0)))), none⟩])
  (.block 0 (.loop lp_prep_0)))
  (.seq (.reg [⟨(some 21), .fieldAddr 0 (.t 3), none⟩,
    ⟨(some 22), .sliceArr 1 176 (.t 21) none none, none⟩,
    ⟨(some 23), .mv (.t 0), none⟩,
    ⟨(some 24), .copy 1 (.t 22) (.t 23), none⟩])
  (.seq (.reg [⟨(some 5), .mv (.k (.c (.d (.int .u8 1)))), none⟩])
  (.seq (.seq (.reg [⟨(some 6), .mv (.k (.c (.d (.int .i64 16)))), none⟩])
  (.block 2 (.loop lp_prep_2)))
  (.seq (.reg [⟨(some 98), .load (.ag 688) (.t 3), none⟩,
    ⟨none, .store (.ag 688) (.t 2) (.t 98), none⟩])
  (.ret))))))),
  [(2, (some (.ag 688)))]⟩
theorem cf_prep : compFn Try.prog { own := [], comp := [], frz := [], nils := [] } Try.f46 = some sf_prep := by kernel_rfl
set_option maxRecDepth 20000 in
set_option maxHeartbeats 6400000 in
theorem prep_c (G : Glob) (key : List UInt8) (h : key.length = 16) : Den Try.prog G 46 [.sl (key.map bD)] (.w (.c (.d (.agg ((macM4 key).map bD))))) := by
  refine den_walk Try.func46 cf_prep rfl rfl ?_
  simp only [sf_prep, putAll, wx, wy, wz, stV, seval, IntWalk.iteOmega, IntWalk.toNatUp, reduceCtorEq]
  have q0 : List.take 176 (repL 688 (0 : UInt8)) ++ boxL ++ List.drop 432 (repL 688 (0 : UInt8)) = prepA 0 := by
    unfold prepA mB; rw [upL_zero]; unfold repL; rw [List.take_replicate, List.drop_replicate]; rfl
  have r1 : (List.take 176 (repL 688 (0 : UInt8))).length = 176 := by rw [List.length_take, repL_len]; rfl
  have r2 : (List.drop 432 (repL 688 (0 : UInt8))).length = 256 := by rw [List.length_drop, repL_len]
  have r4 : List.drop 688 (repL 688 (0 : UInt8)) = [] := List.drop_eq_nil_of_le (by rw [repL_len]; omega)
  have q0l := prepA_len (Nat.zero_le 256)
  refine st_call (rbox_c G) rfl (.inl rfl) ?_
  simp only [repL_bC, len_map, repL_len, boxL_len, take_map, drop_map, map_C, app_map, allD_bs, r1, r2, r4, q0, q0l, List.append_nil, wx, wy, wz, stV, seval, IntWalk.iteOmega, IntWalk.toNatUp, reduceCtorEq]
  -- the table of twice
  refine loop_st (pr0St key) (fun i => 256 - i) (fun i => i ≤ 256) 0 (Nat.zero_le _) ?_ ?_
  · refine ent_l (fun i => if i = 1 then 24 else 16) ?_ ?_ rfl (by simp [V.ids, W.ids, C.ids, Ob.ids, ids_bC]) <;> simp only [wx, wex, wez, stV, seval, IntWalk.iteOmega, IntWalk.toNatUp, reduceCtorEq, ren_bC, ids_bC]
  · intro i hi
    have hl := prepA_len hi
    by_cases hlt : i < 256
    · have h1 : UInt8.ofNat i * 1 = UInt8.ofNat i := by simp
      have hc := rtim_c G (UInt8.ofNat i) 2
      rw [bD_nat hlt] at hc
      have hs : List.take (432 + i) (prepA i) ++ [timesK (UInt8.ofNat i) 2] ++ List.drop (432 + i + 1) (prepA i) = prepA (i + 1) := by
        rw [tsd _ (by omega)]
        unfold prepA
        rw [mB_setC (repL_len _ _) boxL_len]
        congr 1
        exact upL_step twF _ (by rw [repL_len]; exact hlt)
      simp only [lp_prep_0, pr0St, wx, wy, wz, stV, seval, IntWalk.iteOmega, IntWalk.toNatUp, reduceCtorEq]
      refine st_call (hc) rfl (.inl rfl) ?_
      simp only [len_map, hl, take_map, drop_map, cat3, hs, wx, wy, wz, stV, seval, IntWalk.iteOmega, IntWalk.toNatUp, reduceCtorEq]
      refine lop_next (i + 1) (by omega) (by omega) (ent_l (fun i => i) ?_ ?_ rfl (by simp [V.ids, W.ids, C.ids, Ob.ids, ids_bC])) <;> simp only [wx, wex, wez, stV, seval, IntWalk.iteOmega, IntWalk.toNatUp, reduceCtorEq, ren_bC, ids_bC]
    · obtain rfl : i = 256 := by omega
      have ht : key.take 176 = key := List.take_of_length_le (by omega)
      have e0 : key ++ List.drop 16 (prepA 256) = prepB key 0 0 := by
        unfold prepA prepB mB rkQ
        rw [upL_full _ _ (by rw [repL_len]; omega), List.append_assoc, List.drop_append_of_le_length (by rw [repL_len]; decide)]
        unfold repL
        rw [List.drop_replicate, List.take_zero, List.append_nil]
        show key ++ (_ ++ _) = key ++ _ ++ _ ++ _
        simp only [List.append_assoc]
        rfl
      simp only [lp_prep_0, pr0St, wx, wy, wz, stV, seval, IntWalk.iteOmega, IntWalk.toNatUp, reduceCtorEq, len_map, hl, h, ht, flat_bs, map_C, take_map, drop_map, app_map, e0]
      -- the words
      have hp0 := prepB_len h (n := 0) (k := 0) (by decide) (by decide)
      refine loop_st (pr2St key) (fun n => 40 - n) (fun n => n ≤ 40) 0 (Nat.zero_le _) ?_ ?_
      · refine ent_l (fun i => i) ?_ ?_ rfl (by simp [V.ids, W.ids, C.ids, Ob.ids, ids_bC]) <;> simp only [wx, wex, wez, stV, seval, IntWalk.iteOmega, IntWalk.toNatUp, reduceCtorEq, ren_bC, ids_bC, con0, bD1]
      · intro n hn
        have hl2 := prepB_len h (n := n) (k := 0) (by decide) (by omega)
        by_cases hlt2 : n < 40
        · have old : ∀ j, j < 16 + 4 * n → (prepB key n 0)[j]? = some ((rkN key n).getD j 0) := fun j hj => by
            unfold prepB
            rw [mB_getA (rkQ_len h (by decide) (by omega)) boxL_len (by omega), rkQ_old h hj]
          have o0 := old (12 + 4 * n) (by omega)
          have o1 := old (13 + 4 * n) (by omega)
          have o2 := old (14 + 4 * n) (by omega)
          have o3 := old (15 + 4 * n) (by omega)
          have e0 : 16 + 4 * n - 4 = 12 + 4 * n := by omega
          have e1 : 16 + 4 * n - 3 = 13 + 4 * n := by omega
          have e2 : 16 + 4 * n - 2 = 14 + 4 * n := by omega
          have e3 : 16 + 4 * n - 1 = 15 + 4 * n := by omega
          have htl0 := turL_len key n
          have tm : Int.tmod (16 + 4 * (n : Int)) 16 = (((16 + 4 * n) % 16 : Nat) : Int) := tmodN (16 + 4 * n) 16
          by_cases hm : n % 4 = 0
          · have m16 : (16 + 4 * n) % 16 = 0 := by omega
            rw [m16] at tm
            have ecn : (n + 3) / 4 = n / 4 := by omega
            have box : ∀ x : UInt8, (prepB key n 0)[176 + x.toNat]? = some (subK x) := fun x => by
              unfold prepB
              rw [mB_getB (rkQ_len h (by decide) (by omega)) boxL_len (byte_lt x)]; exact boxL_get x
            have hT : [bD (xorB (subK ((rkN key n).getD (13 + 4 * n) 0)) (conK (n / 4))), bD (subK ((rkN key n).getD (14 + 4 * n) 0)), bD (subK ((rkN key n).getD (15 + 4 * n) 0)), bD (subK ((rkN key n).getD (12 + 4 * n) 0))] = (turL key n).map bD := by
              unfold turL turnW
              rw [if_pos hm]
              have g : ∀ j, ((rkN key n).drop (12 + 4 * n)).getD j 0 = (rkN key n).getD (12 + 4 * n + j) 0 := fun j => by simp [List.getD_eq_getElem?_getD]
              simp only [g, List.map_cons, List.map_nil]
              rw [show 12 + 4 * n + 1 = 13 + 4 * n by omega, show 12 + 4 * n + 2 = 14 + 4 * n by omega, show 12 + 4 * n + 3 = 15 + 4 * n by omega]
              rfl
            have l0 := byte_lt ((rkN key n).getD (12 + 4 * n) 0)
            have l1 := byte_lt ((rkN key n).getD (13 + 4 * n) 0)
            have l2 := byte_lt ((rkN key n).getD (14 + 4 * n) 0)
            have l3 := byte_lt ((rkN key n).getD (15 + 4 * n) 0)
            have b0 := box ((rkN key n).getD (12 + 4 * n) 0)
            have b1 := box ((rkN key n).getD (13 + 4 * n) 0)
            have b2 := box ((rkN key n).getD (14 + 4 * n) 0)
            have b3 := box ((rkN key n).getD (15 + 4 * n) 0)
            have x0 := binV_xorB (subK ((rkN key n).getD (13 + 4 * n) 0)) (conK (n / 4))
            have cs := conK_step (n / 4)
            have ec4 : (n + 4) / 4 = n / 4 + 1 := by omega
            simp only [lp_prep_2, pr2St, ecn, wx, wy, wz, stV, seval, IntWalk.iteOmega, IntWalk.toNatUp, reduceCtorEq, len_map, hl2, get_map, e0, e1, e2, e3, o0, o1, o2, o3, bC_d, tm, b0, b1, b2, b3, x0, hT, htl0]
            refine st_call (rtim_c G (conK (n / 4)) 2) rfl (.inl rfl) ?_
            simp only [cs, wx, wy, wz, stV, seval, IntWalk.iteOmega, IntWalk.toNatUp, reduceCtorEq]
            refine loop_st (pr1St key n) (fun k => 4 - k) (fun k => k ≤ 4) 0 (Nat.zero_le _) ?_ ?_
            · refine ent_l (fun i => if i = 3 then 56 else i) ?_ ?_ rfl (by simp [V.ids, W.ids, C.ids, Ob.ids, ids_bC]) <;> simp only [wx, wex, wez, stV, seval, IntWalk.iteOmega, IntWalk.toNatUp, reduceCtorEq, ren_bC, ids_bC, ec4]
            · intro k hk
              have hl3 := prepB_len h (n := n) (k := k) hk (by omega)
              have htl := turL_len key n
              by_cases hlt3 : k < 4
              · have p1 : (prepB key n k)[4 * n + k]? = some ((rkN key n).getD (4 * n + k) 0) := by
                  unfold prepB
                  rw [mB_getA (rkQ_len h hk (by omega)) boxL_len (by omega), rkQ_old h (by omega)]
                have p2 : (turL key n)[k]? = some ((turL key n).getD k 0) := get_lt (by omega)
                have x1 := binV_xorB ((rkN key n).getD (4 * n + k) 0) ((turL key n).getD k 0)
                have e4 : 16 + 4 * n - 16 + k = 4 * n + k := by omega
                have hs : List.take (16 + 4 * n + k) (prepB key n k) ++ [xorB ((rkN key n).getD (4 * n + k) 0) ((turL key n).getD k 0)] ++ List.drop (16 + 4 * n + k + 1) (prepB key n k) = prepB key n (k + 1) := by
                  rw [tsd _ (by omega)]
                  unfold prepB
                  rw [mB_setA (rkQ_len h hk (by omega)) boxL_len (by omega)]
                  congr 1
                  exact rkQ_step h hlt3 (by omega)
                simp only [lp_prep_1, pr1St, wx, wy, wz, stV, seval, IntWalk.iteOmega, IntWalk.toNatUp, reduceCtorEq, len_map, hl3, htl, get_map, e4, p1, p2, bC_d, x1, take_map, drop_map, cat3, hs]
                refine lop_next (k + 1) (by omega) (by omega) (ent_l (fun i => i) ?_ ?_ rfl (by simp [V.ids, W.ids, C.ids, Ob.ids, ids_bC])) <;> simp only [wx, wex, wez, stV, seval, IntWalk.iteOmega, IntWalk.toNatUp, reduceCtorEq, ren_bC, ids_bC]
              · obtain rfl : k = 4 := by omega
                have e5 : prepB key n 4 = prepB key (n + 1) 0 := by unfold prepB; rw [rkQ_next]
                have e6 : (n + 4) / 4 = (n + 1 + 3) / 4 := by omega
                simp only [lp_prep_1, pr1St, e5, e6, wx, wy, wz, stV, seval, IntWalk.iteOmega, IntWalk.toNatUp, reduceCtorEq]
                refine lop_next (n + 1) (by omega) (by omega) (ent_l (fun i => i) ?_ ?_ rfl (by simp [V.ids, W.ids, C.ids, Ob.ids, ids_bC])) <;> simp only [wx, wex, wez, stV, seval, IntWalk.iteOmega, IntWalk.toNatUp, reduceCtorEq, ren_bC, ids_bC]
                all_goals rw [show (16 + 4 * (n : Int) + 4) = 16 + 4 * ((n : Int) + 1) by omega]
          · have m16 : (16 + 4 * n) % 16 ≠ 0 := by omega
            have hb16 : (16 + 4 * n) % 16 < 16 := Nat.mod_lt _ (by decide)
            generalize (16 + 4 * n) % 16 = z at *
            have hT : [bD ((rkN key n).getD (12 + 4 * n) 0), bD ((rkN key n).getD (13 + 4 * n) 0), bD ((rkN key n).getD (14 + 4 * n) 0), bD ((rkN key n).getD (15 + 4 * n) 0)] = (turL key n).map bD := by
              unfold turL turnW
              rw [if_neg hm]
              have g : ∀ j, ((rkN key n).drop (12 + 4 * n)).getD j 0 = (rkN key n).getD (12 + 4 * n + j) 0 := fun j => by simp [List.getD_eq_getElem?_getD]
              simp only [g, List.map_cons, List.map_nil]
              rw [show 12 + 4 * n + 1 = 13 + 4 * n by omega, show 12 + 4 * n + 2 = 14 + 4 * n by omega, show 12 + 4 * n + 3 = 15 + 4 * n by omega]
              rfl
            have ecn : (n + 3) / 4 = (n + 4) / 4 := by omega
            simp only [lp_prep_2, pr2St, ecn, wx, wy, wz, stV, seval, IntWalk.iteOmega, IntWalk.toNatUp, reduceCtorEq, len_map, hl2, get_map, e0, e1, e2, e3, o0, o1, o2, o3, bC_d, tm, hT, htl0]
            refine loop_st (pr1St key n) (fun k => 4 - k) (fun k => k ≤ 4) 0 (Nat.zero_le _) ?_ ?_
            · refine ent_l (fun i => if i = 3 then 56 else i) ?_ ?_ rfl (by simp [V.ids, W.ids, C.ids, Ob.ids, ids_bC]) <;> simp only [wx, wex, wez, stV, seval, IntWalk.iteOmega, IntWalk.toNatUp, reduceCtorEq, ren_bC, ids_bC]
            · intro k hk
              have hl3 := prepB_len h (n := n) (k := k) hk (by omega)
              have htl := turL_len key n
              by_cases hlt3 : k < 4
              · have p1 : (prepB key n k)[4 * n + k]? = some ((rkN key n).getD (4 * n + k) 0) := by
                  unfold prepB
                  rw [mB_getA (rkQ_len h hk (by omega)) boxL_len (by omega), rkQ_old h (by omega)]
                have p2 : (turL key n)[k]? = some ((turL key n).getD k 0) := get_lt (by omega)
                have x1 := binV_xorB ((rkN key n).getD (4 * n + k) 0) ((turL key n).getD k 0)
                have e4 : 16 + 4 * n - 16 + k = 4 * n + k := by omega
                have hs : List.take (16 + 4 * n + k) (prepB key n k) ++ [xorB ((rkN key n).getD (4 * n + k) 0) ((turL key n).getD k 0)] ++ List.drop (16 + 4 * n + k + 1) (prepB key n k) = prepB key n (k + 1) := by
                  rw [tsd _ (by omega)]
                  unfold prepB
                  rw [mB_setA (rkQ_len h hk (by omega)) boxL_len (by omega)]
                  congr 1
                  exact rkQ_step h hlt3 (by omega)
                simp only [lp_prep_1, pr1St, wx, wy, wz, stV, seval, IntWalk.iteOmega, IntWalk.toNatUp, reduceCtorEq, len_map, hl3, htl, get_map, e4, p1, p2, bC_d, x1, take_map, drop_map, cat3, hs]
                refine lop_next (k + 1) (by omega) (by omega) (ent_l (fun i => i) ?_ ?_ rfl (by simp [V.ids, W.ids, C.ids, Ob.ids, ids_bC])) <;> simp only [wx, wex, wez, stV, seval, IntWalk.iteOmega, IntWalk.toNatUp, reduceCtorEq, ren_bC, ids_bC]
              · obtain rfl : k = 4 := by omega
                have e5 : prepB key n 4 = prepB key (n + 1) 0 := by unfold prepB; rw [rkQ_next]
                have e6 : (n + 4) / 4 = (n + 1 + 3) / 4 := by omega
                simp only [lp_prep_1, pr1St, e5, e6, wx, wy, wz, stV, seval, IntWalk.iteOmega, IntWalk.toNatUp, reduceCtorEq]
                refine lop_next (n + 1) (by omega) (by omega) (ent_l (fun i => i) ?_ ?_ rfl (by simp [V.ids, W.ids, C.ids, Ob.ids, ids_bC])) <;> simp only [wx, wex, wez, stV, seval, IntWalk.iteOmega, IntWalk.toNatUp, reduceCtorEq, ren_bC, ids_bC]
                all_goals rw [show (16 + 4 * (n : Int) + 4) = 16 + 4 * ((n : Int) + 1) by omega]
        · obtain rfl : n = 40 := by omega
          have e : prepB key 40 0 = macM4 key := by unfold prepB macM4; rw [rkQ_full]
          rw [e] at hl2
          have u1 : List.take 688 (macM4 key) = macM4 key := List.take_of_length_le (by omega)
          have r4 : List.drop 688 (repL 688 (0 : UInt8)) = [] := List.drop_eq_nil_of_le (by rw [repL_len]; omega)
          have r5 : macM4 key ++ List.drop (macM4 key).length (repL 688 (0 : UInt8)) = macM4 key := by rw [hl2, r4, List.append_nil]
          simp only [lp_prep_2, pr2St, e, wx, wy, wz, stV, seval, IntWalk.iteOmega, IntWalk.toNatUp, reduceCtorEq, len_map, hl2, u1, r4, r5, allD_bs, map_C, repL_len, take_map, drop_map, app_map, List.append_nil]
          exact ret_d1 (by simp only [wx, wy, wz, stV, seval, IntWalk.iteOmega, IntWalk.toNatUp, reduceCtorEq, len_map, hl2, u1, r4, r5, allD_bs, map_C, repL_len, take_map, drop_map, app_map, List.append_nil])
end Go.Proofs.Ytipjekggnanffaa
set_option linter.unusedVariables false
set_option linter.unusedSimpArgs false
namespace Go.Proofs.Ytipjekggnanffaa
open Go.RowKit

theorem macM4_len {key : List UInt8} (h : key.length = 16) : (macM4 key).length = 688 := mB_len (rkK_len h) boxL_len twL_len
def en0St (key b : List UInt8) (i : Nat) : St := ⟨ofL [(1, .w (.c (.d (.sl (b.map bD))))), (2, .w (.c (.rp ((macM4 key).map bD)))), (5, .w (.c (.pa 1 1))), (6, .w (.c (.d (.int .i64 (i : Int)))))], hL [(1, .row 1 ((upL (addF (ofB16 b) (keyF (rkK key) 0)) (repL 16 (0 : UInt8)) i).map bD))], uL [1]⟩
/-- Behind n rounds. -/
def en5St (key b : List UInt8) (n : Nat) : St := ⟨ofL [(2, .w (.c (.rp ((macM4 key).map bD)))), (5, .w (.c (.pa 1 1))), (7, .w (.c (.d (.int .i64 ((n + 1 : Nat) : Int)))))], hL [(1, .row 1 ((toL (encF (keyF (rkK key)) (ofB16 b) n)).map bD))], uL [1]⟩
/-- A round: the bytes replaced, the rows rotated. -/
def en2St (key s : List UInt8) (n c : Nat) : St := ⟨ofL [(2, .w (.c (.rp ((macM4 key).map bD)))), (5, .w (.c (.pa 1 1))), (7, .w (.c (.d (.int .i64 ((n + 1 : Nat) : Int))))), (8, .w (.c (.pa 2 1))), (9, .w (.c (.d (.int .i64 (c : Int)))))], hL [(1, .row 1 (s.map bD)), (2, .row 1 ((upL (shiftF (ofB16 s)) (repL 16 (0 : UInt8)) (4 * c)).map bD))], uL [1, 2]⟩
def en1St (key s : List UInt8) (n c r : Nat) : St := ⟨ofL [(2, .w (.c (.rp ((macM4 key).map bD)))), (5, .w (.c (.pa 1 1))), (7, .w (.c (.d (.int .i64 ((n + 1 : Nat) : Int))))), (8, .w (.c (.pa 2 1))), (9, .w (.c (.d (.int .i64 (c : Int))))), (10, .w (.c (.d (.int .i64 (r : Int)))))], hL [(1, .row 1 (s.map bD)), (2, .row 1 ((upL (shiftF (ofB16 s)) (repL 16 (0 : UInt8)) (4 * c + r)).map bD))], uL [1, 2]⟩
/-- .. the columns, and the round key. -/
def rndF (key s : List UInt8) (n : Nat) : B16 := roundF (keyF (rkK key)) (ofB16 s) (n + 1)
def en4St (key s : List UInt8) (n c : Nat) : St := ⟨ofL [(2, .w (.c (.rp ((macM4 key).map bD)))), (5, .w (.c (.pa 1 1))), (7, .w (.c (.d (.int .i64 ((n + 1 : Nat) : Int))))), (8, .w (.c (.pa 2 1))), (11, .w (.c (.d (.int .i64 (c : Int)))))], hL [(1, .row 1 ((upL (rndF key s n) s (4 * c)).map bD)), (2, .row 1 ((subL s).map bD))], uL [1, 2]⟩
def en3St (key s : List UInt8) (n c r : Nat) : St := ⟨ofL [(2, .w (.c (.rp ((macM4 key).map bD)))), (5, .w (.c (.pa 1 1))), (7, .w (.c (.d (.int .i64 ((n + 1 : Nat) : Int))))), (8, .w (.c (.pa 2 1))), (11, .w (.c (.d (.int .i64 (c : Int))))), (12, .w (.c (.pa 3 1))), (13, .w (.c (.d (.int .i64 (r : Int)))))], hL [(1, .row 1 ((upL (rndF key s n) s (4 * c + r)).map bD)), (2, .row 1 ((subL s).map bD)), (3, .row 1 ((((subL s).drop (4 * c)).take 4).map bD))], uL [1, 2, 3]⟩
theorem rnd_toL (k : Nat → B16) (f : B16) (n : Nat) : toL (roundF k (ofB16 (toL f)) (n + 1)) = toL (roundF k f (n + 1)) := toL_congr fun j hj => by
  unfold roundF
  split
  · unfold addF mixF shiftF
    rw [of_toL f _ (by omega), of_toL f _ (by omega), of_toL f _ (by omega), of_toL f _ (by omega)]
  · unfold addF shiftF
    rw [of_toL f _ (by omega)]
def lp_renc_0 : SCode :=
  .seq (.seq (.reg [⟨(some 15), .mv (.t 6), none⟩,
    ⟨(some 16), .bin .lss (.t 15) (.k (.c (.d (.int .i64 16)))), none⟩])
  (.cond (.t 16) (.skip)
   (.exit 0)))
  (.seq (.block 1 (.reg [⟨(some 19), .mv (.t 6), none⟩,
     ⟨(some 20), .mv (.t 1), none⟩,
     ⟨(some 21), .mv (.t 6), none⟩,
     ⟨(some 22), .idxSl 1 (.t 20) (.t 21), none⟩,
     ⟨(some 23), .load .sc (.t 22), none⟩,
     ⟨(some 24), .mv (.t 6), none⟩,
     ⟨(some 25), .fieldAddr 0 (.t 2), none⟩,
     ⟨(some 26), .idxPa 1 176 (.t 25) (.t 24), none⟩,
     ⟨(some 27), .load .sc (.t 26), none⟩,
     ⟨(some 28), .bin .xor (.t 23) (.t 27), none⟩,
     ⟨(some 29), .idxPa 1 16 (.t 5) (.t 19), none⟩,
     ⟨none, .store .sc (.t 29) (.t 28), none⟩]))
  (.reg [⟨(some 17), .mv (.t 6), none⟩,
    ⟨(some 18), .bin .add (.t 17) (.k (.c (.d (.int .i64 1)))), none⟩,
    ⟨(some 6), .mv (.t 18), none⟩]))
def lp_renc_1 : SCode :=
  .seq (.seq (.reg [⟨(some 38), .mv (.t 10), none⟩,
    ⟨(some 39), .bin .lss (.t 38) (.k (.c (.d (.int .i64 4)))), none⟩])
  (.cond (.t 39) (.skip)
   (.exit 6)))
  (.seq (.block 7 (.reg [⟨(some 42), .mv (.t 10), none⟩,
     ⟨(some 43), .mv (.t 9), none⟩,
     ⟨(some 44), .bin .mul (.k (.c (.d (.int .i64 4)))) (.t 43), none⟩,
     ⟨(some 45), .bin .add (.t 42) (.t 44), none⟩,
     ⟨(some 46), .mv (.t 10), none⟩,
     ⟨(some 47), .mv (.t 9), none⟩,
     ⟨(some 48), .mv (.t 10), none⟩,
     ⟨(some 49), .bin .add (.t 47) (.t 48), none⟩,
     ⟨(some 50), .bin .rem (.t 49) (.k (.c (.d (.int .i64 4)))), none⟩,
     ⟨(some 51), .bin .mul (.k (.c (.d (.int .i64 4)))) (.t 50), none⟩,
     ⟨(some 52), .bin .add (.t 46) (.t 51), none⟩,
     ⟨(some 53), .idxPa 1 16 (.t 5) (.t 52), none⟩,
     ⟨(some 54), .load .sc (.t 53), none⟩,
     ⟨(some 55), .fieldAddr 176 (.t 2), none⟩,
     ⟨(some 56), .idxPa 1 256 (.t 55) (.t 54), none⟩,
     ⟨(some 57), .load .sc (.t 56), none⟩,
     ⟨(some 58), .idxPa 1 16 (.t 8) (.t 45), none⟩,
     ⟨none, .store .sc (.t 58) (.t 57), none⟩]))
  (.reg [⟨(some 40), .mv (.t 10), none⟩,
    ⟨(some 41), .bin .add (.t 40) (.k (.c (.d (.int .i64 1)))), none⟩,
    ⟨(some 10), .mv (.t 41), none⟩]))
def lp_renc_2 : SCode :=
  .seq (.seq (.reg [⟨(some 34), .mv (.t 9), none⟩,
    ⟨(some 35), .bin .lss (.t 34) (.k (.c (.d (.int .i64 4)))), none⟩])
  (.cond (.t 35) (.skip)
   (.exit 4)))
  (.seq (.block 5 (.seq (.reg [⟨(some 10), .mv (.k (.c (.d (.int .i64 0)))), none⟩])
   (.block 6 (.loop lp_renc_1))))
  (.reg [⟨(some 36), .mv (.t 9), none⟩,
    ⟨(some 37), .bin .add (.t 36) (.k (.c (.d (.int .i64 1)))), none⟩,
    ⟨(some 9), .mv (.t 37), none⟩]))
def lp_renc_3 : SCode :=
  .seq (.seq (.reg [⟨(some 83), .mv (.t 13), none⟩,
    ⟨(some 84), .bin .lss (.t 83) (.k (.c (.d (.int .i64 4)))), none⟩])
  (.cond (.t 84) (.skip)
   (.exit 10)))
  (.seq (.block 11 (.seq (.reg [⟨(some 87), .mv (.t 13), none⟩,
     ⟨(some 88), .idxPa 1 4 (.t 12) (.t 87), none⟩,
     ⟨(some 89), .load .sc (.t 88), none⟩,
     ⟨(some 14), .mv (.t 89), none⟩])
   (.seq (.seq (.reg [⟨(some 90), .mv (.t 7), none⟩,
     ⟨(some 91), .bin .lss (.t 90) (.k (.c (.d (.int .i64 10)))), none⟩])
   (.cond (.t 91) (.reg [⟨(some 92), .mv (.t 13), none⟩,
      ⟨(some 93), .idxPa 1 4 (.t 12) (.t 92), none⟩,
      ⟨(some 94), .load .sc (.t 93), none⟩,
      ⟨(some 95), .fieldAddr 432 (.t 2), none⟩,
      ⟨(some 96), .idxPa 1 256 (.t 95) (.t 94), none⟩,
      ⟨(some 97), .load .sc (.t 96), none⟩,
      ⟨(some 98), .mv (.t 13), none⟩,
      ⟨(some 99), .bin .add (.t 98) (.k (.c (.d (.int .i64 1)))), none⟩,
      ⟨(some 100), .bin .rem (.t 99) (.k (.c (.d (.int .i64 4)))), none⟩,
      ⟨(some 101), .idxPa 1 4 (.t 12) (.t 100), none⟩,
      ⟨(some 102), .load .sc (.t 101), none⟩,
      ⟨(some 103), .fieldAddr 432 (.t 2), none⟩,
      ⟨(some 104), .idxPa 1 256 (.t 103) (.t 102), none⟩,
      ⟨(some 105), .load .sc (.t 104), none⟩,
      ⟨(some 106), .bin .xor (.t 97) (.t 105), none⟩,
      ⟨(some 107), .mv (.t 13), none⟩,
      ⟨(some 108), .bin .add (.t 107) (.k (.c (.d (.int .i64 1)))), none⟩,
      ⟨(some 109), .bin .rem (.t 108) (.k (.c (.d (.int .i64 4)))), none⟩,
      ⟨(some 110), .idxPa 1 4 (.t 12) (.t 109), none⟩,
      ⟨(some 111), .load .sc (.t 110), none⟩,
      ⟨(some 112), .bin .xor (.t 106) (.t 111), none⟩,
      ⟨(some 113), .mv (.t 13), none⟩,
      ⟨(some 114), .bin .add (.t 113) (.k (.c (.d (.int .i64 2)))), none⟩,
      ⟨(some 115), .bin .rem (.t 114) (.k (.c (.d (.int .i64 4)))), none⟩,
      ⟨(some 116), .idxPa 1 4 (.t 12) (.t 115), none⟩,
      ⟨(some 117), .load .sc (.t 116), none⟩,
      ⟨(some 118), .bin .xor (.t 112) (.t 117), none⟩,
      ⟨(some 119), .mv (.t 13), none⟩,
      ⟨(some 120), .bin .add (.t 119) (.k (.c (.d (.int .i64 3)))), none⟩,
      ⟨(some 121), .bin .rem (.t 120) (.k (.c (.d (.int .i64 4)))), none⟩,
      ⟨(some 122), .idxPa 1 4 (.t 12) (.t 121), none⟩,
      ⟨(some 123), .load .sc (.t 122), none⟩,
      ⟨(some 124), .bin .xor (.t 118) (.t 123), none⟩,
      ⟨(some 14), .mv (.t 124), none⟩])
    (.skip)))
   (.reg [⟨(some 125), .mv (.t 13), none⟩,
     ⟨(some 126), .mv (.t 11), none⟩,
     ⟨(some 127), .bin .mul (.k (.c (.d (.int .i64 4)))) (.t 126), none⟩,
     ⟨(some 128), .bin .add (.t 125) (.t 127), none⟩,
     ⟨(some 129), .mv (.t 14), none⟩,
     ⟨(some 130), .mv (.t 7), none⟩,
     ⟨(some 131), .bin .mul (.k (.c (.d (.int .i64 16)))) (.t 130), none⟩,
     ⟨(some 132), .mv (.t 13), none⟩,
     ⟨(some 133), .bin .add (.t 131) (.t 132), none⟩,
     ⟨(some 134), .mv (.t 11), none⟩,
     ⟨(some 135), .bin .mul (.k (.c (.d (.int .i64 4)))) (.t 134), none⟩,
     ⟨(some 136), .bin .add (.t 133) (.t 135), none⟩,
     ⟨(some 137), .fieldAddr 0 (.t 2), none⟩,
     ⟨(some 138), .idxPa 1 176 (.t 137) (.t 136), none⟩,
     ⟨(some 139), .load .sc (.t 138), none⟩,
     ⟨(some 140), .bin .xor (.t 129) (.t 139), none⟩,
     ⟨(some 141), .idxPa 1 16 (.t 5) (.t 128), none⟩,
     ⟨none, .store .sc (.t 141) (.t 140), none⟩]))))
  (.reg [⟨(some 85), .mv (.t 13), none⟩,
    ⟨(some 86), .bin .add (.t 85) (.k (.c (.d (.int .i64 1)))), none⟩,
    ⟨(some 13), .mv (.t 86), none⟩]))
def lp_renc_4 : SCode :=
  .seq (.seq (.reg [⟨(some 59), .mv (.t 11), none⟩,
    ⟨(some 60), .bin .lss (.t 59) (.k (.c (.d (.int .i64 4)))), none⟩])
  (.cond (.t 60) (.skip)
   (.exit 8)))
  (.seq (.block 9 (.seq (.reg [⟨(some 63), .mv (.t 11), none⟩,
     ⟨(some 64), .bin .mul (.k (.c (.d (.int .i64 4)))) (.t 63), none⟩,
     ⟨(some 65), .idxPa 1 16 (.t 8) (.t 64), none⟩,
     ⟨(some 66), .load .sc (.t 65), none⟩,
     ⟨(some 67), .mv (.t 11), none⟩,
     ⟨(some 68), .bin .mul (.k (.c (.d (.int .i64 4)))) (.t 67), none⟩,
     ⟨(some 69), .bin .add (.t 68) (.k (.c (.d (.int .i64 1)))), none⟩,
     ⟨(some 70), .idxPa 1 16 (.t 8) (.t 69), none⟩,
     ⟨(some 71), .load .sc (.t 70), none⟩,
     ⟨(some 72), .mv (.t 11), none⟩,
     ⟨(some 73), .bin .mul (.k (.c (.d (.int .i64 4)))) (.t 72), none⟩,
     ⟨(some 74), .bin .add (.t 73) (.k (.c (.d (.int .i64 2)))), none⟩,
     ⟨(some 75), .idxPa 1 16 (.t 8) (.t 74), none⟩,
     ⟨(some 76), .load .sc (.t 75), none⟩,
     ⟨(some 77), .mv (.t 11), none⟩,
     ⟨(some 78), .bin .mul (.k (.c (.d (.int .i64 4)))) (.t 77), none⟩,
     ⟨(some 79), .bin .add (.t 78) (.k (.c (.d (.int .i64 3)))), none⟩,
     ⟨(some 80), .idxPa 1 16 (.t 8) (.t 79), none⟩,
     ⟨(some 81), .load .sc (.t 80), none⟩,
     ⟨(some 82), .build [(.d (.int .u8 0)), (.d (.int .u8 0)), (.d (.int .u8 0)), (.d (.int .u8 0))] [(0, 1, (.t 66)), (1, 1, (.t 71)), (2, 1, (.t 76)), (3, 1, (.t 81))], none⟩,
     ⟨(some 12), .allocArr [(.int .u8 0), (.int .u8 0), (.int .u8 0), (.int .u8 0)], none⟩,
     ⟨none, .store (.ag 4) (.t 12) (.t 82), none⟩])
   (.seq (.reg [⟨(some 13), .mv (.k (.c (.d (.int .i64 0)))), none⟩])
   (.block 10 (.loop lp_renc_3)))))
  (.reg [⟨(some 61), .mv (.t 11), none⟩,
    ⟨(some 62), .bin .add (.t 61) (.k (.c (.d (.int .i64 1)))), none⟩,
    ⟨(some 11), .mv (.t 62), none⟩]))
def lp_renc_5 : SCode :=
  .seq (.seq (.reg [⟨(some 30), .mv (.t 7), none⟩,
    ⟨(some 31), .bin .leq (.t 30) (.k (.c (.d (.int .i64 10)))), none⟩])
  (.cond (.t 31) (.skip)
   (.exit 2)))
  (.seq (.block 3 (.seq (.reg [⟨(some 8), .allocArr [(.int .u8 0), (.int .u8 0), (.int .u8 0), (.int .u8 0), (.int .u8 0), (.int .u8 0), (.int .u8 0), (.int .u8 0), (.int .u8 0), (.int .u8 0), (.int .u8 0), (.int .u8 0), (.int .u8 0), (.int .u8 0), (.int .u8 0), (.int .u8 0)], none⟩])
   (.seq (.seq (.reg [⟨(some 9), .mv (.k (.c (.d (.int .i64 0)))), none⟩])
   (.block 4 (.loop lp_renc_2)))
   (.seq (.reg [⟨(some 11), .mv (.k (.c (.d (.int .i64 0)))), none⟩])
   (.block 8 (.loop lp_renc_4))))))
  (.reg [⟨(some 32), .mv (.t 7), none⟩,
    ⟨(some 33), .bin .add (.t 32) (.k (.c (.d (.int .i64 1)))), none⟩,
    ⟨(some 7), .mv (.t 33), none⟩]))
def sf_renc : SFn := ⟨2, 145,
  .seq (.reg [⟨(some 2), .box .roBox (.t 0), none⟩,
    ⟨(some 4), .mv (.k (.c .nil)), none⟩])
  (.seq (.reg [⟨(some 5), .allocArr [(.int .u8 0), (.int .u8 0), (.int .u8 0), (.int .u8 0), (.int .u8 0), (.int .u8 0), (.int .u8 0), (.int .u8 0), (.int .u8 0), (.int .u8 0), (.int .u8 0), (.int .u8 0), (.int .u8 0), (.int .u8 0), (.int .u8 0), (.int .u8 0)], none⟩])
  (.seq (.seq (.reg [⟨(some 6), .mv (.k (.c (.d (.int .i64 0)))), none⟩])
  (.block 0 (.loop lp_renc_0)))
  (.seq (.seq (.reg [⟨(some 7), .mv (.k (.c (.d (.int .i64 1)))), none⟩])
  (.block 2 (.loop lp_renc_5)))
  (.seq (.reg [⟨(some 142), .bldSl false 0 1 (.int .u8 0) [], none⟩,
    ⟨(some 143), .sliceArr 1 16 (.t 5) none none, none⟩,
    ⟨(some 144), .appN false 1 1 (.t 142) (.t 143), none⟩,
    ⟨(some 4), .mv (.t 144), none⟩])
  (.ret))))),
  [(4, none)]⟩
theorem cf_renc : compFn Try.prog { own := [], comp := [], frz := [], nils := [144] } Try.f52 = some sf_renc := by kernel_rfl
set_option maxRecDepth 20000 in
set_option maxHeartbeats 6400000 in
theorem renc_c (G : Glob) (key b : List UInt8) (h : key.length = 16) (hb : b.length = 16) : Den Try.prog G 52 [.agg ((macM4 key).map bD), .sl (b.map bD)] (.w (.c (.fr 1 ((blockC key b).map bD)))) := by
  refine den_walk Try.func52 cf_renc rfl rfl ?_
  have hM := macM4_len h
  have hrk := rkK_len h
  have kat : ∀ j, j < 176 → (((macM4 key).drop j).take 1)[0]? = some ((rkK key).getD j 0) := fun j hj => by
    rw [List.getElem?_take, if_pos (by decide), List.getElem?_drop]
    unfold macM4
    rw [mB_getA hrk boxL_len (by omega), get_lt (by omega)]; rfl
  have bat : ∀ x : UInt8, ((((macM4 key).drop 176).drop x.toNat).take 1)[0]? = some (subK x) := fun x => by
    rw [List.getElem?_take, if_pos (by decide), List.getElem?_drop, List.getElem?_drop]
    unfold macM4
    rw [Nat.add_zero, mB_getB hrk boxL_len (byte_lt x)]; exact boxL_get x
  have tat : ∀ x : UInt8, ((((macM4 key).drop 432).drop x.toNat).take 1)[0]? = some (twB x) := fun x => by
    rw [List.getElem?_take, if_pos (by decide), List.getElem?_drop, List.getElem?_drop]
    unfold macM4
    rw [Nat.add_zero, mB_getC hrk boxL_len]; exact twL_get x
  simp only [sf_renc, putAll, wx, wy, wz, stV, seval, IntWalk.iteOmega, IntWalk.toNatUp, reduceCtorEq, z16, allDn_bs]
  refine loop_st (en0St key b) (fun i => 16 - i) (fun i => i ≤ 16) 0 (Nat.zero_le _) ?_ ?_
  · refine ent_l (fun i => 40) ?_ ?_ rfl rfl <;> simp only [wx, wex, wez, stV, seval, IntWalk.iteOmega, IntWalk.toNatUp, reduceCtorEq, upL_zero]
  · intro i hi
    have hl : (upL (addF (ofB16 b) (keyF (rkK key) 0)) (repL 16 (0 : UInt8)) i).length = 16 := by rw [upL_len _ _ (by rw [repL_len]; omega), repL_len]
    by_cases hlt : i < 16
    · have g1 : b[i]? = some (b.getD i 0) := get_lt (by omega)
      have g2 := kat i (by omega)
      have x1 := binV_xorB (b.getD i 0) ((rkK key).getD i 0)
      have h3 : i < (upL (addF (ofB16 b) (keyF (rkK key) 0)) (repL 16 (0 : UInt8)) i).length := by omega
      have h5 : (upL (addF (ofB16 b) (keyF (rkK key) 0)) (repL 16 (0 : UInt8)) i).set i (xorB (b.getD i 0) ((rkK key).getD i 0)) = upL (addF (ofB16 b) (keyF (rkK key) 0)) (repL 16 (0 : UInt8)) (i + 1) := by
        rw [← upL_step (addF (ofB16 b) (keyF (rkK key) 0)) (repL 16 (0 : UInt8)) (by rw [repL_len]; omega)]
        unfold addF keyF ofB16
        rw [Nat.mul_zero, Nat.zero_add]
      simp only [lp_renc_0, en0St, wx, wy, wz, stV, seval, IntWalk.iteOmega, IntWalk.toNatUp, reduceCtorEq, len_map, hM, get_map, take_map, drop_map, g1, g2, x1, stO_bs h3 (one_b _), set_bs, h5, hl]
      refine lop_next (i + 1) (by omega) (by omega) (ent_l (fun i => i) ?_ ?_ rfl rfl) <;> simp only [wx, wex, wez, stV, seval, IntWalk.iteOmega, IntWalk.toNatUp, reduceCtorEq]
    · obtain rfl : i = 16 := by omega
      have e : upL (addF (ofB16 b) (keyF (rkK key) 0)) (repL 16 (0 : UInt8)) 16 = toL (encF (keyF (rkK key)) (ofB16 b) 0) := toL_upL _ (repL_len _ _)
      simp only [lp_renc_0, en0St, e, wx, wy, wz, stV, seval, IntWalk.iteOmega, IntWalk.toNatUp, reduceCtorEq]
      refine loop_st (en5St key b) (fun n => 10 - n) (fun n => n ≤ 10) 0 (Nat.zero_le _) ?_ ?_
      · refine ent_l (fun i => i) ?_ ?_ rfl rfl <;> simp only [wx, wex, wez, stV, seval, IntWalk.iteOmega, IntWalk.toNatUp, reduceCtorEq]
      · intro n hn
        by_cases hlt2 : n < 10
        · simp only [lp_renc_5, en5St, wx, wy, wz, stV, seval, IntWalk.iteOmega, IntWalk.toNatUp, reduceCtorEq, z16]
          have hs : (toL (encF (keyF (rkK key)) (ofB16 b) n)).length = 16 := toL_len _
          have hnext : toL (rndF key (toL (encF (keyF (rkK key)) (ofB16 b) n)) n) = toL (encF (keyF (rkK key)) (ofB16 b) (n + 1)) := rnd_toL _ _ _
          generalize toL (encF (keyF (rkK key)) (ofB16 b) n) = s at *
          refine loop_st (en2St key s n) (fun c => 4 - c) (fun c => c ≤ 4) 0 (Nat.zero_le _) ?_ ?_
          · refine ent_l (fun i => if i = 1 then 1 else 64) ?_ ?_ rfl rfl <;> simp only [wx, wex, wez, stV, seval, IntWalk.iteOmega, IntWalk.toNatUp, reduceCtorEq, upL_zero]
          · intro c hc
            by_cases hlt3 : c < 4
            · simp only [lp_renc_2, en2St, wx, wy, wz, stV, seval, IntWalk.iteOmega, IntWalk.toNatUp, reduceCtorEq]
              refine loop_st (en1St key s n c) (fun r => 4 - r) (fun r => r ≤ 4) 0 (Nat.zero_le _) ?_ ?_
              · refine ent_l (fun i => i) ?_ ?_ rfl rfl <;> simp only [wx, wex, wez, stV, seval, IntWalk.iteOmega, IntWalk.toNatUp, reduceCtorEq, Nat.add_zero]
              · intro r hr
                by_cases hlt4 : r < 4
                · have hl : (upL (shiftF (ofB16 s)) (repL 16 (0 : UInt8)) (4 * c + r)).length = 16 := by rw [upL_len _ _ (by rw [repL_len]; omega), repL_len]
                  have t1 : Int.tmod ((c : Int) + (r : Int)) 4 = (((c + r) % 4 : Nat) : Int) := tmodN (c + r) 4
                  have hm : (c + r) % 4 < 4 := Nat.mod_lt _ (by decide)
                  have g1 : s[r + 4 * ((c + r) % 4)]? = some (ofB16 s (r + 4 * ((c + r) % 4))) := get_lt (by omega)
                  have eidx : r + 4 * c = 4 * c + r := by omega
                  have h3 : 4 * c + r < (upL (shiftF (ofB16 s)) (repL 16 (0 : UInt8)) (4 * c + r)).length := by omega
                  have hsh : shiftF (ofB16 s) (4 * c + r) = subK (ofB16 s (r + 4 * ((c + r) % 4))) := by
                    unfold shiftF
                    rw [show (4 * c + r) % 4 = r by omega, show (4 * c + r) / 4 = c by omega]
                  have h5 := upL_step (shiftF (ofB16 s)) (repL 16 (0 : UInt8)) (i := 4 * c + r) (by rw [repL_len]; omega)
                  rw [hsh] at h5
                  have b1 := bat (ofB16 s (r + 4 * ((c + r) % 4)))
                  have hx := byte_lt (ofB16 s (r + 4 * ((c + r) % 4)))
                  generalize (c + r) % 4 = q at *
                  generalize ofB16 s (r + 4 * q) = x at *
                  simp only [lp_renc_1, en1St, wx, wy, wz, stV, seval, IntWalk.iteOmega, IntWalk.toNatUp, reduceCtorEq, t1, hs, get_map, g1, take_map, drop_map, b1, eidx, stO_bs h3 (one_b _), set_bs, h5, hl]
                  refine lop_next (r + 1) (by omega) (by omega) (ent_l (fun i => i) ?_ ?_ rfl rfl) <;> simp only [wx, wex, wez, stV, seval, IntWalk.iteOmega, IntWalk.toNatUp, reduceCtorEq, Nat.add_assoc]
                · obtain rfl : r = 4 := by omega
                  have e4 : 4 * c + 4 = 4 * (c + 1) := by omega
                  simp only [lp_renc_1, en1St, e4, wx, wy, wz, stV, seval, IntWalk.iteOmega, IntWalk.toNatUp, reduceCtorEq]
                  refine lop_next (c + 1) (by omega) (by omega) (ent_l (fun i => i) ?_ ?_ rfl rfl) <;> simp only [wx, wex, wez, stV, seval, IntWalk.iteOmega, IntWalk.toNatUp, reduceCtorEq]
            · obtain rfl : c = 4 := by omega
              have e : upL (shiftF (ofB16 s)) (repL 16 (0 : UInt8)) (4 * 4) = subL s := toL_upL _ (repL_len _ _)
              simp only [lp_renc_2, en2St, e, wx, wy, wz, stV, seval, IntWalk.iteOmega, IntWalk.toNatUp, reduceCtorEq]
              refine loop_st (en4St key s n) (fun c => 4 - c) (fun c => c ≤ 4) 0 (Nat.zero_le _) ?_ ?_
              · refine ent_l (fun i => i) ?_ ?_ rfl rfl <;> simp only [wx, wex, wez, stV, seval, IntWalk.iteOmega, IntWalk.toNatUp, reduceCtorEq, upL_zero, Nat.mul_zero]
              · intro c hc
                have hsl := subL_len s
                have sat : ∀ j, j < 16 → (subL s)[j]? = some (shiftF (ofB16 s) j) := fun j hj => toL_get _ hj
                by_cases hlt3 : c < 4
                · have a0 := sat (4 * c) (by omega)
                  have a1 := sat (4 * c + 1) (by omega)
                  have a2 := sat (4 * c + 2) (by omega)
                  have a3 := sat (4 * c + 3) (by omega)
                  have hcol : ∀ j, j < 4 → (((subL s).drop (4 * c)).take 4)[j]? = some (shiftF (ofB16 s) (4 * c + j)) := fun j hj => by
                    rw [List.getElem?_take, if_pos hj, List.getElem?_drop]; exact sat _ (by omega)
                  have hcl : (((subL s).drop (4 * c)).take 4).length = 4 := by rw [List.length_take, List.length_drop]; omega
                  have hA : [bD (shiftF (ofB16 s) (4 * c)), bD (shiftF (ofB16 s) (4 * c + 1)), bD (shiftF (ofB16 s) (4 * c + 2)), bD (shiftF (ofB16 s) (4 * c + 3))] = (((subL s).drop (4 * c)).take 4).map bD := by
                    have : ((subL s).drop (4 * c)).take 4 = [shiftF (ofB16 s) (4 * c), shiftF (ofB16 s) (4 * c + 1), shiftF (ofB16 s) (4 * c + 2), shiftF (ofB16 s) (4 * c + 3)] := by
                      apply List.ext_getElem?
                      intro j
                      rcases Nat.lt_or_ge j 4 with hj | hj
                      · rw [hcol j hj]
                        rcases j with _ | _ | _ | _ | j <;> first | rfl | omega
                      · rw [List.getElem?_eq_none (by omega), List.getElem?_eq_none (by simpa using hj)]
                    rw [this]; rfl
                  simp only [lp_renc_4, en4St, wx, wy, wz, stV, seval, IntWalk.iteOmega, IntWalk.toNatUp, reduceCtorEq, get_map, hsl, a0, a1, a2, a3, bC_d, hA, hcl]
                  refine loop_st (en3St key s n c) (fun r => 4 - r) (fun r => r ≤ 4) 0 (Nat.zero_le _) ?_ ?_
                  · refine ent_l (fun i => if i = 3 then 96 else i) ?_ ?_ rfl rfl <;> simp only [wx, wex, wez, stV, seval, IntWalk.iteOmega, IntWalk.toNatUp, reduceCtorEq, Nat.add_zero]
                  · intro r hr
                    by_cases hlt4 : r < 4
                    · have hl : (upL (rndF key s n) s (4 * c + r)).length = 16 := by rw [upL_len _ _ (by omega)]; exact hs
                      have t1 : Int.tmod ((r : Int) + 1) 4 = (((r + 1) % 4 : Nat) : Int) := tmodN (r + 1) 4
                      have t2 : Int.tmod ((r : Int) + 2) 4 = (((r + 2) % 4 : Nat) : Int) := tmodN (r + 2) 4
                      have t3 : Int.tmod ((r : Int) + 3) 4 = (((r + 3) % 4 : Nat) : Int) := tmodN (r + 3) 4
                      have b1 : (r + 1) % 4 < 4 := Nat.mod_lt _ (by decide)
                      have b2 : (r + 2) % 4 < 4 := Nat.mod_lt _ (by decide)
                      have b3 : (r + 3) % 4 < 4 := Nat.mod_lt _ (by decide)
                      have c0 := hcol r hlt4
                      have c1 := hcol _ b1
                      have c2 := hcol _ b2
                      have c3 := hcol _ b3
                      have hk := kat (16 * (n + 1) + r + 4 * c) (by omega)
                      have eidx : r + 4 * c = 4 * c + r := by omega
                      have h3 : 4 * c + r < (upL (rndF key s n) s (4 * c + r)).length := by omega
                      have h5 := upL_step (rndF key s n) s (i := 4 * c + r) (by omega)
                      by_cases hn9 : n + 1 < 10
                      · have hr2 : rndF key s n (4 * c + r) = xorB (mix4 (shiftF (ofB16 s) (4 * c + r)) (shiftF (ofB16 s) (4 * c + (r + 1) % 4)) (shiftF (ofB16 s) (4 * c + (r + 2) % 4)) (shiftF (ofB16 s) (4 * c + (r + 3) % 4))) ((rkK key).getD (16 * (n + 1) + r + 4 * c) 0) := by
                          unfold rndF roundF
                          rw [if_pos hn9]
                          unfold addF mixF keyF
                          rw [show (4 * c + r) / 4 = c by omega, show (4 * c + r) % 4 = r by omega, show 16 * (n + 1) + (4 * c + r) = 16 * (n + 1) + r + 4 * c by omega]
                        rw [hr2] at h5
                        unfold mix4 at h5
                        have w0 := tat (shiftF (ofB16 s) (4 * c + r))
                        have w1 := tat (shiftF (ofB16 s) (4 * c + (r + 1) % 4))
                        have l0 := byte_lt (shiftF (ofB16 s) (4 * c + r))
                        have l1 := byte_lt (shiftF (ofB16 s) (4 * c + (r + 1) % 4))
                        generalize (r + 1) % 4 = r1 at *
                        generalize (r + 2) % 4 = r2 at *
                        generalize (r + 3) % 4 = r3 at *
                        generalize shiftF (ofB16 s) (4 * c + r) = y0 at *
                        generalize shiftF (ofB16 s) (4 * c + r1) = y1 at *
                        generalize shiftF (ofB16 s) (4 * c + r2) = y2 at *
                        generalize shiftF (ofB16 s) (4 * c + r3) = y3 at *
                        generalize (rkK key).getD (16 * (n + 1) + r + 4 * c) 0 = kk at *
                        have x1 := binV_xorB (twB y0) (twB y1)
                        have x2 := binV_xorB (xorB (twB y0) (twB y1)) y1
                        have x3 := binV_xorB (xorB (xorB (twB y0) (twB y1)) y1) y2
                        have x4 := binV_xorB (xorB (xorB (xorB (twB y0) (twB y1)) y1) y2) y3
                        have x5 := binV_xorB (xorB (xorB (xorB (xorB (twB y0) (twB y1)) y1) y2) y3) kk
                        simp only [lp_renc_3, en3St, wx, wy, wz, stV, seval, IntWalk.iteOmega, IntWalk.toNatUp, reduceCtorEq, t1, t2, t3, get_map, hcl, c0, c1, c2, c3, take_map, drop_map, w0, w1, x1, x2, x3, x4, hk, x5, eidx, stO_bs h3 (one_b _), set_bs, h5, hl]
                        refine lop_next (r + 1) (by omega) (by omega) (ent_l (fun i => i) ?_ ?_ rfl rfl) <;> simp only [wx, wex, wez, stV, seval, IntWalk.iteOmega, IntWalk.toNatUp, reduceCtorEq, Nat.add_assoc]
                      · have hr2 : rndF key s n (4 * c + r) = xorB (shiftF (ofB16 s) (4 * c + r)) ((rkK key).getD (16 * (n + 1) + r + 4 * c) 0) := by
                          unfold rndF roundF
                          rw [if_neg hn9]
                          unfold addF keyF
                          rw [show 16 * (n + 1) + (4 * c + r) = 16 * (n + 1) + r + 4 * c by omega]
                        rw [hr2] at h5
                        generalize shiftF (ofB16 s) (4 * c + r) = y0 at *
                        generalize (rkK key).getD (16 * (n + 1) + r + 4 * c) 0 = kk at *
                        have x5 := binV_xorB y0 kk
                        simp only [lp_renc_3, en3St, wx, wy, wz, stV, seval, IntWalk.iteOmega, IntWalk.toNatUp, reduceCtorEq, get_map, hcl, c0, take_map, drop_map, hk, x5, eidx, stO_bs h3 (one_b _), set_bs, h5, hl]
                        refine lop_next (r + 1) (by omega) (by omega) (ent_l (fun i => i) ?_ ?_ rfl rfl) <;> simp only [wx, wex, wez, stV, seval, IntWalk.iteOmega, IntWalk.toNatUp, reduceCtorEq, Nat.add_assoc]
                    · obtain rfl : r = 4 := by omega
                      have e4 : 4 * c + 4 = 4 * (c + 1) := by omega
                      simp only [lp_renc_3, en3St, e4, wx, wy, wz, stV, seval, IntWalk.iteOmega, IntWalk.toNatUp, reduceCtorEq]
                      refine lop_next (c + 1) (by omega) (by omega) (ent_l (fun i => i) ?_ ?_ rfl rfl) <;> simp only [wx, wex, wez, stV, seval, IntWalk.iteOmega, IntWalk.toNatUp, reduceCtorEq]
                · obtain rfl : c = 4 := by omega
                  have e : upL (rndF key s n) s (4 * 4) = toL (rndF key s n) := toL_upL _ hs
                  simp only [lp_renc_4, en4St, e, hnext, wx, wy, wz, stV, seval, IntWalk.iteOmega, IntWalk.toNatUp, reduceCtorEq]
                  refine lop_next (n + 1) (by omega) (by omega) (ent_l (fun i => i) ?_ ?_ rfl rfl) <;> simp only [wx, wex, wez, stV, seval, IntWalk.iteOmega, IntWalk.toNatUp, reduceCtorEq]
        · obtain rfl : n = 10 := by omega
          have e : toL (encF (keyF (rkK key)) (ofB16 b) 10) = blockC key b := rfl
          have hl : (blockC key b).length = 16 := encK_len _ _
          have ht : (blockC key b).take 16 = blockC key b := List.take_of_length_le (by omega)
          simp only [lp_renc_5, en5St, e, wx, wy, wz, stV, seval, IntWalk.iteOmega, IntWalk.toNatUp, reduceCtorEq, hl, len_map, take_map, ht]
          exact ret_f1 (by simp only [St.put, toFr, wx, wy, wz, stV, seval, IntWalk.iteOmega, IntWalk.toNatUp, reduceCtorEq, hl, ht, len_map])
end Go.Proofs.Ytipjekggnanffaa
