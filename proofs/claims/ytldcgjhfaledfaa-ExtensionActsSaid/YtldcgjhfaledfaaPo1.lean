/- Layer 1 on data: Put, Get, Same, Join, Hex: what they return. Own work. -/
import Derived.Test.YtldcgjhfaledfaaProg
import Derived.Test.YtldcgjhfaledfaaAlW
set_option linter.unusedVariables false
set_option linter.unusedSimpArgs false
namespace Go.Proofs.Ytldcgjhfaledfaa
open Go.RowKit

/-! ### Stores of bytes and words -/
theorem stO_bs {l : List UInt8} {i : Nat} {x : D} (hi : i < l.length) (hx : x.one = true) : stO .sc (.c (.d x)) i 0 (.row 1 (l.map bD)) = some (.row 1 ((l.map bD).set i x)) := by
  simp [stO, get_map, List.getElem?_eq_getElem hi, bD, pureW, hx]
theorem stO_ws {l : List UInt32} {i : Nat} {x : D} (hi : i < l.length) (hx : x.one = true) : stO .sc (.c (.d x)) i 0 (.row 1 (l.map wD)) = some (.row 1 ((l.map wD).set i x)) := by
  simp [stO, get_map, List.getElem?_eq_getElem hi, wD, pureW, hx]
theorem set_bs (l : List UInt8) (i : Nat) (x : UInt8) : (l.map bD).set i (bD x) = (l.set i x).map bD := set_map bD l i x
theorem set_ws (l : List UInt32) (i : Nat) (x : UInt32) : (l.map wD).set i (wD x) = (l.set i x).map wD := set_map wD l i x
theorem rep_b (n : Nat) : List.replicate n (D.int .u8 0) = (List.replicate n (0 : UInt8)).map bD := by simp [bD]
theorem rep_w (n : Nat) : List.replicate n (D.int .u32 0) = (List.replicate n (0 : UInt32)).map wD := by simp [wD]

/-! ### Put -/
def putL (v n : Nat) : List UInt8 := (List.range n).map fun i => UInt8.ofNat (v / 256 ^ (n - 1 - i))
def putS (v n m : Nat) : List UInt8 := List.replicate m 0 ++ (putL v n).drop m
def putN (v : Nat) (n : Int) : List UInt8 := if 0 ≤ n ∧ n ≤ 64 then putL v n.toNat else []
theorem putL_length (v n : Nat) : (putL v n).length = n := by simp [putL]
theorem putS_length (v n m : Nat) (h : m ≤ n) : (putS v n m).length = n := by simp [putS, putL_length]; omega
theorem putS_zero (v n : Nat) : putS v n 0 = putL v n := by simp [putS]
theorem putS_full (v n : Nat) : putS v n n = List.replicate n 0 := by simp [putS, putL_length]
theorem putS_step (v n i : Nat) (h : i + 1 ≤ n) : putS v n i = (putS v n (i + 1)).set i (UInt8.ofNat (v / 256 ^ (n - (i + 1)))) := by
  apply List.ext_getElem?
  intro j
  rw [List.getElem?_set]
  have hl : i < (putL v n).length := by rw [putL_length]; omega
  by_cases hj : i = j
  · subst hj
    rw [if_pos rfl, if_pos (by rw [putS_length _ _ _ h]; omega)]
    simp only [putS, List.getElem?_append, List.length_replicate, Nat.lt_irrefl, if_false, Nat.sub_self, List.getElem?_drop, Nat.add_zero]
    rw [List.getElem?_eq_getElem hl]
    simp [putL, Nat.sub_sub, Nat.add_comm 1 i]
  · rw [if_neg hj]
    simp only [putS, List.getElem?_append, List.length_replicate, List.getElem?_replicate, List.getElem?_drop]
    by_cases h1 : j < i
    · rw [if_pos h1, if_pos h1, if_pos (by omega), if_pos (by omega)]
    · rw [if_neg h1, if_neg (by omega)]
      congr 1; omega
theorem byte_of (v : Nat) : D.int .u8 (IntKind.u8.wrap (v : Int)) = bD (UInt8.ofNat v) := by
  rw [IntKind.wrap_u8]
  simp [bD]
def putSt (v n m : Nat) : St := ⟨ofL [(0, .w (.c (.d (.int .u64 ((v / 256 ^ (n - m) : Nat) : Int))))), (5, .w (.c (.own 1 1 0 n))), (6, .w (.c (.d (.int .i64 ((m : Int) - 1)))))], hL [(1, .row 1 ((putS v n m).map bD))], uL [1]⟩

def lp_put_0 : SCode :=
  .seq (.seq (.reg [⟨(some 17), .mv (.t 6), none⟩,
    ⟨(some 18), .bin .geq (.t 17) (.k (.c (.d (.int .i64 0)))), none⟩])
  (.cond (.t 18) (.skip)
   (.exit 0)))
  (.seq (.block 1 (.seq (.reg [⟨(some 21), .mv (.t 5), none⟩,
     ⟨(some 22), .mv (.t 6), none⟩,
     ⟨(some 23), .mv (.t 0), none⟩,
     ⟨(some 24), .conv .u8 (.t 23), none⟩,
     ⟨(some 25), .idxSl 1 (.t 21) (.t 22), none⟩,
     ⟨none, .store .sc (.t 25) (.t 24), none⟩])
   (.reg [⟨(some 26), .mv (.t 0), none⟩,
     ⟨(some 27), .bin .shr (.t 26) (.k (.c (.d (.int .u64 8)))), none⟩,
     ⟨(some 0), .mv (.t 27), none⟩])))
  (.reg [⟨(some 19), .mv (.t 6), none⟩,
    ⟨(some 20), .bin .sub (.t 19) (.k (.c (.d (.int .i64 1)))), none⟩,
    ⟨(some 6), .mv (.t 20), none⟩]))
def sf_put : SFn := ⟨2, 29,
  .seq (.reg [⟨(some 4), .mv (.k (.c .nil)), none⟩])
  (.seq (.seq (.reg [⟨(some 7), .mv (.t 1), none⟩,
    ⟨(some 8), .bin .lss (.t 7) (.k (.c (.d (.int .i64 0)))), none⟩,
    ⟨(some 9), .mv (.t 8), none⟩,
    ⟨(some 10), .mv (.t 1), (some (9, false))⟩,
    ⟨(some 11), .bin .gtr (.t 10) (.k (.c (.d (.int .i64 64)))), (some (9, false))⟩,
    ⟨(some 12), .pick (.t 9) (.k (.c (.d (.bool true)))) (.t 11), none⟩])
  (.cond (.t 12) (.seq (.reg [⟨(some 4), .mv (.k (.c .nil)), none⟩])
   (.ret))
   (.skip)))
  (.seq (.reg [⟨(some 13), .mv (.t 1), none⟩,
    ⟨(some 14), .make 1 1 (.int .u8 0) (.t 13) (.t 13), none⟩,
    ⟨(some 5), .mv (.t 14), none⟩])
  (.seq (.seq (.reg [⟨(some 15), .mv (.t 1), none⟩,
    ⟨(some 16), .bin .sub (.t 15) (.k (.c (.d (.int .i64 1)))), none⟩,
    ⟨(some 6), .mv (.t 16), none⟩])
  (.block 0 (.loop lp_put_0)))
  (.seq (.reg [⟨(some 28), .mv (.t 5), none⟩,
    ⟨(some 4), .mv (.t 28), none⟩])
  (.ret))))),
  [(4, none)]⟩
theorem cf_put : compFn Try.prog { own := [], comp := [], frz := [], nils := [] } Try.f40 = some sf_put := by kernel_rfl
set_option maxHeartbeats 400000 in
theorem put_in (G : Glob) (v n : Nat) (hn : n ≤ 64) : Den Try.prog G 40 [.int .u64 v, .int .i64 n] (.w (.c (.fr 1 ((putL v n).map bD)))) := by
  refine den_walk Try.func40 cf_put rfl rfl ?_
  have e1 : IntKind.i64.wrap ((n : Int) - 1) = (n : Int) - 1 := IntWalk.i64_in _ (by omega)
  simp only [sf_put, putAll, wx, stV, seval, IntWalk.iteOmega, IntWalk.toNatUp, reduceCtorEq, e1]
  refine loop_st (putSt v n) (fun m => m) (fun m => m ≤ n) n (Nat.le_refl _) ?_ ?_
  · refine ent_l (fun _ => 112) ?_ ?_ rfl rfl <;> simp only [wx, wex, stV, seval, IntWalk.iteOmega, IntWalk.toNatUp, reduceCtorEq, putS_full, rep_b, Nat.sub_self, Nat.pow_zero, Nat.div_one]
  · intro m hm
    rcases Nat.eq_zero_or_pos m with rfl | hpos
    · simp only [lp_put_0, putSt, wx, stV, seval, IntWalk.iteOmega, IntWalk.toNatUp, reduceCtorEq, putS_zero]
      refine ret_own (id := 1) (n := n) (s := 1) ?_ ?_ ?_ <;> simp only [wx, stV, seval, IntWalk.iteOmega, IntWalk.toNatUp, reduceCtorEq, putL_length]
    · obtain ⟨i, rfl⟩ : ∃ i, m = i + 1 := ⟨m - 1, by omega⟩
      have e2 : ((i + 1 : Nat) : Int) - 1 = (i : Int) := by omega
      have hlt : i < (putS v n (i + 1)).length := by rw [putS_length _ _ _ hm]; omega
      have e3 : IntKind.i64.wrap ((i : Int) - 1) = (i : Int) - 1 := IntWalk.i64_in _ (by omega)
      simp only [lp_put_0, putSt, wx, stV, seval, IntWalk.iteOmega, IntWalk.toNatUp, reduceCtorEq, e2, e3, Nat.zero_add, Nat.add_zero, byte_of, stO_bs hlt (one_b _), set_bs, ← putS_step _ _ _ hm, IntKind.bits]
      refine lop_next i (by omega) (by omega) (ent_l id ?_ ?_ rfl rfl) <;> simp only [wx, wex, stV, seval, IntWalk.iteOmega, IntWalk.toNatUp, reduceCtorEq]
      have e4 : v / 256 ^ (n - (i + 1)) / 256 = v / 256 ^ (n - i) := by
        rw [show n - i = n - (i + 1) + 1 by omega, Nat.pow_succ, ← Nat.div_div_eq_div_mul]
      simpa using congrArg (Nat.cast : Nat → Int) e4
theorem put_c (G : Glob) (v : Nat) (n : Int) : Den Try.prog G 40 [.int .u64 v, .int .i64 n] (.w (.c (.fr 1 ((putN v n).map bD)))) := by
  unfold putN
  by_cases h : 0 ≤ n ∧ n ≤ 64
  · rw [if_pos h]
    obtain ⟨n, rfl⟩ := Int.eq_ofNat_of_zero_le h.1
    exact put_in G v n (by omega)
  · rw [if_neg h]
    refine den_walk Try.func40 cf_put rfl rfl ?_
    by_cases h0 : n < 0
    · simp only [sf_put, putAll, wx, stV, seval, IntWalk.iteOmega, IntWalk.toNatUp, reduceCtorEq]
      exact ret_nil (by simp [wx, stV, seval, IntWalk.iteOmega, IntWalk.toNatUp, reduceCtorEq])
    · have h1 : 64 < n := by omega
      simp only [sf_put, putAll, wx, stV, seval, IntWalk.iteOmega, IntWalk.toNatUp, reduceCtorEq]
      exact ret_nil (by simp [wx, stV, seval, IntWalk.iteOmega, IntWalk.toNatUp, reduceCtorEq])
def lp_rput_0 : SCode :=
  .seq (.seq (.reg [⟨(some 17), .mv (.t 6), none⟩,
    ⟨(some 18), .bin .geq (.t 17) (.k (.c (.d (.int .i64 0)))), none⟩])
  (.cond (.t 18) (.skip)
   (.exit 0)))
  (.seq (.block 1 (.seq (.reg [⟨(some 21), .mv (.t 5), none⟩,
     ⟨(some 22), .mv (.t 6), none⟩,
     ⟨(some 23), .mv (.t 0), none⟩,
     ⟨(some 24), .conv .u8 (.t 23), none⟩,
     ⟨(some 25), .idxSl 1 (.t 21) (.t 22), none⟩,
     ⟨none, .store .sc (.t 25) (.t 24), none⟩])
   (.reg [⟨(some 26), .mv (.t 0), none⟩,
     ⟨(some 27), .bin .shr (.t 26) (.k (.c (.d (.int .u64 8)))), none⟩,
     ⟨(some 0), .mv (.t 27), none⟩])))
  (.reg [⟨(some 19), .mv (.t 6), none⟩,
    ⟨(some 20), .bin .sub (.t 19) (.k (.c (.d (.int .i64 1)))), none⟩,
    ⟨(some 6), .mv (.t 20), none⟩]))
def sf_rput : SFn := ⟨2, 29,
  .seq (.reg [⟨(some 4), .mv (.k (.c .nil)), none⟩])
  (.seq (.seq (.reg [⟨(some 7), .mv (.t 1), none⟩,
    ⟨(some 8), .bin .lss (.t 7) (.k (.c (.d (.int .i64 0)))), none⟩,
    ⟨(some 9), .mv (.t 8), none⟩,
    ⟨(some 10), .mv (.t 1), (some (9, false))⟩,
    ⟨(some 11), .bin .gtr (.t 10) (.k (.c (.d (.int .i64 64)))), (some (9, false))⟩,
    ⟨(some 12), .pick (.t 9) (.k (.c (.d (.bool true)))) (.t 11), none⟩])
  (.cond (.t 12) (.seq (.reg [⟨(some 4), .mv (.k (.c .nil)), none⟩])
   (.ret))
   (.skip)))
  (.seq (.reg [⟨(some 13), .mv (.t 1), none⟩,
    ⟨(some 14), .make 1 1 (.int .u8 0) (.t 13) (.t 13), none⟩,
    ⟨(some 5), .mv (.t 14), none⟩])
  (.seq (.seq (.reg [⟨(some 15), .mv (.t 1), none⟩,
    ⟨(some 16), .bin .sub (.t 15) (.k (.c (.d (.int .i64 1)))), none⟩,
    ⟨(some 6), .mv (.t 16), none⟩])
  (.block 0 (.loop lp_rput_0)))
  (.seq (.reg [⟨(some 28), .mv (.t 5), none⟩,
    ⟨(some 4), .mv (.t 28), none⟩])
  (.ret))))),
  [(4, none)]⟩
theorem cf_rput : compFn Try.prog { own := [], comp := [], frz := [], nils := [] } Try.f30 = some sf_rput := by kernel_rfl
set_option maxHeartbeats 400000 in
theorem rput_in (G : Glob) (v n : Nat) (hn : n ≤ 64) : Den Try.prog G 30 [.int .u64 v, .int .i64 n] (.w (.c (.fr 1 ((putL v n).map bD)))) := by
  refine den_walk Try.func30 cf_rput rfl rfl ?_
  have e1 : IntKind.i64.wrap ((n : Int) - 1) = (n : Int) - 1 := IntWalk.i64_in _ (by omega)
  simp only [sf_rput, putAll, wx, stV, seval, IntWalk.iteOmega, IntWalk.toNatUp, reduceCtorEq, e1]
  refine loop_st (putSt v n) (fun m => m) (fun m => m ≤ n) n (Nat.le_refl _) ?_ ?_
  · refine ent_l (fun _ => 112) ?_ ?_ rfl rfl <;> simp only [wx, wex, stV, seval, IntWalk.iteOmega, IntWalk.toNatUp, reduceCtorEq, putS_full, rep_b, Nat.sub_self, Nat.pow_zero, Nat.div_one]
  · intro m hm
    rcases Nat.eq_zero_or_pos m with rfl | hpos
    · simp only [lp_rput_0, putSt, wx, stV, seval, IntWalk.iteOmega, IntWalk.toNatUp, reduceCtorEq, putS_zero]
      refine ret_own (id := 1) (n := n) (s := 1) ?_ ?_ ?_ <;> simp only [wx, stV, seval, IntWalk.iteOmega, IntWalk.toNatUp, reduceCtorEq, putL_length]
    · obtain ⟨i, rfl⟩ : ∃ i, m = i + 1 := ⟨m - 1, by omega⟩
      have e2 : ((i + 1 : Nat) : Int) - 1 = (i : Int) := by omega
      have hlt : i < (putS v n (i + 1)).length := by rw [putS_length _ _ _ hm]; omega
      have e3 : IntKind.i64.wrap ((i : Int) - 1) = (i : Int) - 1 := IntWalk.i64_in _ (by omega)
      simp only [lp_rput_0, putSt, wx, stV, seval, IntWalk.iteOmega, IntWalk.toNatUp, reduceCtorEq, e2, e3, Nat.zero_add, Nat.add_zero, byte_of, stO_bs hlt (one_b _), set_bs, ← putS_step _ _ _ hm, IntKind.bits]
      refine lop_next i (by omega) (by omega) (ent_l id ?_ ?_ rfl rfl) <;> simp only [wx, wex, stV, seval, IntWalk.iteOmega, IntWalk.toNatUp, reduceCtorEq]
      have e4 : v / 256 ^ (n - (i + 1)) / 256 = v / 256 ^ (n - i) := by
        rw [show n - i = n - (i + 1) + 1 by omega, Nat.pow_succ, ← Nat.div_div_eq_div_mul]
      simpa using congrArg (Nat.cast : Nat → Int) e4
theorem rput_c (G : Glob) (v : Nat) (n : Int) : Den Try.prog G 30 [.int .u64 v, .int .i64 n] (.w (.c (.fr 1 ((putN v n).map bD)))) := by
  unfold putN
  by_cases h : 0 ≤ n ∧ n ≤ 64
  · rw [if_pos h]
    obtain ⟨n, rfl⟩ := Int.eq_ofNat_of_zero_le h.1
    exact rput_in G v n (by omega)
  · rw [if_neg h]
    refine den_walk Try.func30 cf_rput rfl rfl ?_
    by_cases h0 : n < 0
    · simp only [sf_rput, putAll, wx, stV, seval, IntWalk.iteOmega, IntWalk.toNatUp, reduceCtorEq]
      exact ret_nil (by simp [wx, stV, seval, IntWalk.iteOmega, IntWalk.toNatUp, reduceCtorEq])
    · have h1 : 64 < n := by omega
      simp only [sf_rput, putAll, wx, stV, seval, IntWalk.iteOmega, IntWalk.toNatUp, reduceCtorEq]
      exact ret_nil (by simp [wx, stV, seval, IntWalk.iteOmega, IntWalk.toNatUp, reduceCtorEq])

/-! ### Same -/
theorem toList_mk (l : List UInt8) : (⟨l.toArray⟩ : ByteArray).toList = l := Go.ByteArray.toList_mk l
theorem binS_same (l m : List UInt8) : binS .eql ⟨l.toArray⟩ ⟨m.toArray⟩ = some (.bool (l == m)) := by
  simp only [binS, toList_mk]
def sf_rsame : SFn := ⟨2, 10,
  .seq (.reg [⟨(some 4), .mv (.k (.c (.d (.bool false)))), none⟩])
  (.seq (.reg [⟨(some 5), .mv (.t 0), none⟩,
    ⟨(some 6), .b2s (.t 5), none⟩,
    ⟨(some 7), .mv (.t 1), none⟩,
    ⟨(some 8), .b2s (.t 7), none⟩,
    ⟨(some 9), .bin .eql (.t 6) (.t 8), none⟩,
    ⟨(some 4), .mv (.t 9), none⟩])
  (.ret)),
  [(4, none)]⟩
theorem cf_rsame : compFn Try.prog { own := [], comp := [], frz := [], nils := [] } Try.f17 = some sf_rsame := by kernel_rfl
theorem rsame_c (G : Glob) (l m : List UInt8) : Den Try.prog G 17 [.sl (l.map bD), .sl (m.map bD)] (.w (.c (.d (.bool (l == m))))) := by
  refine den_walk Try.func17 cf_rsame rfl rfl ?_
  simp only [sf_rsame, putAll, wx, stV, seval, IntWalk.iteOmega, IntWalk.toNatUp, reduceCtorEq, ofBs_map, binS_same]
  exact ret_d (by simp only [wx, stV, seval, IntWalk.iteOmega, IntWalk.toNatUp, reduceCtorEq])

/-! ### Join -/
def lD (ls : List (List UInt8)) : D := .sl (ls.map fun l => .sl (l.map bD))
theorem sl_cells (es : List D) : D.cells (.sl es) = [.sl es] := rfl
theorem allSz_ls (ls : List (List UInt8)) : allSz 1 (ls.map fun l => D.sl (l.map bD)) = true := allSz_map _ (fun _ => rfl) ls
def rjoinSt (ls : List (List UInt8)) (i : Nat) : St := ⟨ofL [(0, .w (.c (.d (.sl (ls.map fun l => D.sl (l.map bD)))))), (3, .w (.c (.own 1 1 0 ((ls.take i).flatten).length))), (4, .w (.c (.d (.int .i64 (i : Int)))))], hL [(1, .row 1 (((ls.take i).flatten).map bD))], uL [1]⟩
theorem take_flat {α : Type} (ls : List (List α)) (i : Nat) (h : i < ls.length) : (ls.take (i + 1)).flatten = (ls.take i).flatten ++ ls[i] := by
  rw [List.take_succ_eq_append_getElem h, List.flatten_append]; simp
theorem flat_le {α : Type} (ls : List (List α)) (i : Nat) (h : i < ls.length) : (ls.take i).flatten.length + ls[i].length ≤ ls.flatten.length := by
  have h1 := take_flat ls i h
  have h2 : ls.flatten = (ls.take (i + 1)).flatten ++ (ls.drop (i + 1)).flatten := by rw [← List.flatten_append, List.take_append_drop]
  have h3 := congrArg List.length h2
  rw [List.length_append, h1, List.length_append] at h3
  omega
def lp_rjoin_0 : SCode :=
  .seq (.seq (.reg [⟨(some 6), .mv (.t 4), none⟩,
    ⟨(some 7), .mv (.t 0), none⟩,
    ⟨(some 8), .len (.t 7), none⟩,
    ⟨(some 9), .bin .lss (.t 6) (.t 8), none⟩])
  (.cond (.t 9) (.skip)
   (.exit 0)))
  (.seq (.block 1 (.reg [⟨(some 12), .mv (.t 3), none⟩,
     ⟨(some 13), .mv (.t 0), none⟩,
     ⟨(some 14), .mv (.t 4), none⟩,
     ⟨(some 15), .idxSl 1 (.t 13) (.t 14), none⟩,
     ⟨(some 16), .load .sc (.t 15), none⟩,
     ⟨(some 17), .app false 1 1 (.t 12) (.t 16), none⟩,
     ⟨(some 3), .mv (.t 17), none⟩]))
  (.reg [⟨(some 10), .mv (.t 4), none⟩,
    ⟨(some 11), .bin .add (.t 10) (.k (.c (.d (.int .i64 1)))), none⟩,
    ⟨(some 4), .mv (.t 11), none⟩]))
def sf_rjoin : SFn := ⟨1, 19,
  .seq (.reg [⟨(some 2), .mv (.k (.c .nil)), none⟩])
  (.seq (.reg [⟨(some 5), .bldSl true 0 1 (.int .u8 0) [], none⟩,
    ⟨(some 3), .mv (.t 5), none⟩])
  (.seq (.seq (.reg [⟨(some 4), .mv (.k (.c (.d (.int .i64 0)))), none⟩])
  (.block 0 (.loop lp_rjoin_0)))
  (.seq (.reg [⟨(some 18), .mv (.t 3), none⟩,
    ⟨(some 2), .mv (.t 18), none⟩])
  (.ret)))),
  [(2, none)]⟩
theorem cf_rjoin : compFn Try.prog { own := [5], comp := [], frz := [], nils := [] } Try.f25 = some sf_rjoin := by kernel_rfl
set_option maxHeartbeats 400000 in
theorem rjoin_c (G : Glob) (ls : List (List UInt8)) (hl : ls.length ≤ 9223372036854775807) (hf : ls.flatten.length ≤ 140737488355328) : Den Try.prog G 25 [.sl (ls.map fun l => D.sl (l.map bD))] (.w (.c (.fr 1 (ls.flatten.map bD)))) := by
  refine den_walk Try.func25 cf_rjoin rfl rfl ?_
  simp only [sf_rjoin, putAll, wx, stV, seval, IntWalk.iteOmega, IntWalk.toNatUp, reduceCtorEq]
  refine loop_st (rjoinSt ls) (fun i => ls.length - i) (fun i => i ≤ ls.length) 0 (Nat.zero_le _) ?_ ?_
  · refine ent_l (fun _ => 40) ?_ ?_ rfl rfl <;> simp only [wx, wex, stV, seval, IntWalk.iteOmega, IntWalk.toNatUp, reduceCtorEq]
  · intro i hi
    by_cases hlt : i < ls.length
    · have e2 : ls[i]? = some ls[i] := List.getElem?_eq_getElem hlt
      have e4 : IntKind.i64.wrap ((i : Int) + 1) = ((i + 1 : Nat) : Int) := by rw [IntWalk.i64_in _ (by omega)]; rfl
      have h5 := flat_le ls i hlt
      simp only [lp_rjoin_0, rjoinSt, wx, stV, seval, IntWalk.iteOmega, IntWalk.toNatUp, reduceCtorEq, get_map, e2, e4, Nat.mul_one, srcV]
      refine lop_next (i + 1) (by omega) (by omega) (ent_l (fun _ => 136) ?_ ?_ rfl rfl) <;> simp only [wx, wex, stV, seval, IntWalk.iteOmega, IntWalk.toNatUp, reduceCtorEq, take_flat ls i hlt]
    · have : ls.take i = ls := List.take_of_length_le (by omega)
      simp only [lp_rjoin_0, rjoinSt, wx, stV, seval, IntWalk.iteOmega, IntWalk.toNatUp, reduceCtorEq, this]
      refine ret_own (id := 1) (n := ls.flatten.length) (s := 1) ?_ ?_ ?_ <;> simp only [wx, stV, seval, IntWalk.iteOmega, IntWalk.toNatUp, reduceCtorEq]

def joinSt1 (ls : List (List UInt8)) (i : Nat) : St := ⟨ofL [(0, .w (.c (.d (.sl (ls.map fun l => D.sl (l.map bD)))))), (3, .w (.c (.d (.int .i64 (((ls.take i).flatten).length : Int))))), (9, .w (.c (.d (.sl (ls.map fun l => D.sl (l.map bD)))))), (10, .w (.c (.d (.int .i64 (ls.length : Int))))), (11, .w (.c (.d (.int .i64 (i : Int)))))], hL [], uL []⟩
def joinSt2 (ls : List (List UInt8)) (i : Nat) : St := ⟨ofL [(6, .w (.c (.own 1 1 0 ((ls.take i).flatten).length))), (22, .w (.c (.d (.sl (ls.map fun l => D.sl (l.map bD)))))), (23, .w (.c (.d (.int .i64 (ls.length : Int))))), (24, .w (.c (.d (.int .i64 (i : Int)))))], hL [(1, .row 1 (((ls.take i).flatten).map bD))], uL [1]⟩
def lp_join_0 : SCode :=
  .seq (.reg [⟨(some 12), .bin .lss (.t 11) (.t 10), none⟩])
  (.seq (.cond (.t 12) (.skip)
   (.exit 0))
  (.seq (.block 1 (.seq (.reg [⟨(some 13), .idxSl 1 (.t 9) (.t 11), none⟩,
     ⟨(some 14), .load .sc (.t 13), none⟩,
     ⟨(some 5), .mv (.t 14), none⟩])
   (.reg [⟨(some 15), .mv (.t 3), none⟩,
     ⟨(some 16), .mv (.t 5), none⟩,
     ⟨(some 17), .len (.t 16), none⟩,
     ⟨(some 18), .bin .add (.t 15) (.t 17), none⟩,
     ⟨(some 3), .mv (.t 18), none⟩])))
  (.reg [⟨(some 19), .bin .add (.t 11) (.k (.c (.d (.int .i64 1)))), none⟩,
    ⟨(some 11), .mv (.t 19), none⟩])))
def lp_join_1 : SCode :=
  .seq (.reg [⟨(some 25), .bin .lss (.t 24) (.t 23), none⟩])
  (.seq (.cond (.t 25) (.skip)
   (.exit 2))
  (.seq (.block 3 (.seq (.reg [⟨(some 26), .idxSl 1 (.t 22) (.t 24), none⟩,
     ⟨(some 27), .load .sc (.t 26), none⟩,
     ⟨(some 8), .mv (.t 27), none⟩])
   (.reg [⟨(some 28), .mv (.t 6), none⟩,
     ⟨(some 29), .mv (.t 8), none⟩,
     ⟨(some 30), .app false 1 1 (.t 28) (.t 29), none⟩,
     ⟨(some 6), .mv (.t 30), none⟩])))
  (.reg [⟨(some 31), .bin .add (.t 24) (.k (.c (.d (.int .i64 1)))), none⟩,
    ⟨(some 24), .mv (.t 31), none⟩])))
def sf_join : SFn := ⟨1, 33,
  .seq (.reg [⟨(some 2), .mv (.k (.c .nil)), none⟩])
  (.seq (.reg [⟨(some 3), .mv (.k (.c (.d (.int .i64 0)))), none⟩])
  (.seq (.seq (.reg [⟨(some 9), .mv (.t 0), none⟩,
    ⟨(some 10), .len (.t 9), none⟩,
    ⟨(some 11), .mv (.k (.c (.d (.int .i64 0)))), none⟩])
  (.block 0 (.loop lp_join_0)))
  (.seq (.reg [⟨(some 20), .mv (.t 3), none⟩,
    ⟨(some 21), .make 1 1 (.int .u8 0) (.k (.c (.d (.int .i64 0)))) (.t 20), none⟩,
    ⟨(some 6), .mv (.t 21), none⟩])
  (.seq (.seq (.reg [⟨(some 22), .mv (.t 0), none⟩,
    ⟨(some 23), .len (.t 22), none⟩,
    ⟨(some 24), .mv (.k (.c (.d (.int .i64 0)))), none⟩])
  (.block 2 (.loop lp_join_1)))
  (.seq (.reg [⟨(some 32), .mv (.t 6), none⟩,
    ⟨(some 2), .mv (.t 32), none⟩])
  (.ret)))))),
  [(2, none)]⟩
theorem cf_join : compFn Try.prog { own := [], comp := [], frz := [], nils := [] } Try.f34 = some sf_join := by kernel_rfl
set_option maxHeartbeats 400000 in
theorem join_c (G : Glob) (ls : List (List UInt8)) (hl : ls.length ≤ 9223372036854775807) (hf : ls.flatten.length ≤ 140737488355328) : Den Try.prog G 34 [.sl (ls.map fun l => D.sl (l.map bD))] (.w (.c (.fr 1 (ls.flatten.map bD)))) := by
  refine den_walk Try.func34 cf_join rfl rfl ?_
  simp only [sf_join, putAll, wx, stV, seval, IntWalk.iteOmega, IntWalk.toNatUp, reduceCtorEq]
  refine loop_st (joinSt1 ls) (fun i => ls.length - i) (fun i => i ≤ ls.length) 0 (Nat.zero_le _) ?_ ?_
  · refine ent_l id ?_ ?_ rfl rfl <;> simp only [wx, wex, stV, seval, IntWalk.iteOmega, IntWalk.toNatUp, reduceCtorEq]
  · intro i hi
    by_cases hlt : i < ls.length
    · have e2 : ls[i]? = some ls[i] := List.getElem?_eq_getElem hlt
      have e4 : IntKind.i64.wrap ((i : Int) + 1) = ((i + 1 : Nat) : Int) := by rw [IntWalk.i64_in _ (by omega)]; rfl
      have h5 := flat_le ls i hlt
      have e5 : IntKind.i64.wrap (((ls.take i).flatten.length : Int) + (ls[i].length : Int)) = (((ls.take (i + 1)).flatten.length : Nat) : Int) := by
        rw [take_flat ls i hlt, List.length_append, IntWalk.i64_in _ (by omega)]; rfl
      simp only [lp_join_0, joinSt1, wx, stV, seval, IntWalk.iteOmega, IntWalk.toNatUp, reduceCtorEq, get_map, e2, e4, e5]
      refine lop_next (i + 1) (by omega) (by omega) (ent_l id ?_ ?_ rfl rfl) <;> simp only [wx, wex, stV, seval, IntWalk.iteOmega, IntWalk.toNatUp, reduceCtorEq]
    · have : ls.take i = ls := List.take_of_length_le (by omega)
      simp only [lp_join_0, joinSt1, wx, stV, seval, IntWalk.iteOmega, IntWalk.toNatUp, reduceCtorEq, this, Nat.mul_one]
      refine loop_st (joinSt2 ls) (fun i => ls.length - i) (fun i => i ≤ ls.length) 0 (Nat.zero_le _) ?_ ?_
      · refine ent_l (fun _ => 168) ?_ ?_ rfl rfl <;> simp only [wx, wex, stV, seval, IntWalk.iteOmega, IntWalk.toNatUp, reduceCtorEq]
      · intro i hi
        by_cases hlt : i < ls.length
        · have e2 : ls[i]? = some ls[i] := List.getElem?_eq_getElem hlt
          have e4 : IntKind.i64.wrap ((i : Int) + 1) = ((i + 1 : Nat) : Int) := by rw [IntWalk.i64_in _ (by omega)]; rfl
          have h5 := flat_le ls i hlt
          simp only [lp_join_1, joinSt2, wx, stV, seval, IntWalk.iteOmega, IntWalk.toNatUp, reduceCtorEq, get_map, e2, e4, Nat.mul_one, srcV]
          refine lop_next (i + 1) (by omega) (by omega) (ent_l (fun _ => 240) ?_ ?_ rfl rfl) <;> simp only [wx, wex, stV, seval, IntWalk.iteOmega, IntWalk.toNatUp, reduceCtorEq, take_flat ls i hlt]
        · have : ls.take i = ls := List.take_of_length_le (by omega)
          simp only [lp_join_1, joinSt2, wx, stV, seval, IntWalk.iteOmega, IntWalk.toNatUp, reduceCtorEq, this]
          refine ret_own (id := 1) (n := ls.flatten.length) (s := 1) ?_ ?_ ?_ <;> simp only [wx, stV, seval, IntWalk.iteOmega, IntWalk.toNatUp, reduceCtorEq]

/-! ### Get -/
def getN (l : List UInt8) : Nat := l.foldl (fun a x => (a * 256 + x.toNat) % 18446744073709551616) 0
theorem getN_lt (l : List UInt8) : getN l < 18446744073709551616 := by
  unfold getN
  rcases List.eq_nil_or_concat l with rfl | ⟨a, x, rfl⟩
  · simp
  · simp only [List.concat_eq_append, List.foldl_append, List.foldl_cons, List.foldl_nil]; omega
theorem u64_in (n : Int) (h₀ : 0 ≤ n) (h₁ : n < 2 ^ 64) : IntKind.u64.wrap n = n := by rw [IntKind.wrap_u64]; omega
theorem getN_snoc (a : List UInt8) (x : UInt8) : bits .or .u64 (IntKind.u64.wrap ((getN a : Int) * 256)) (x.toNat : Int) = (getN (a ++ [x]) : Int) := by
  have hx : x.toNat < 256 := x.toNat_lt
  have h1 := bits_join .u64 64 (by decide) u64_in 8 (IntKind.u64.wrap ((getN a : Int) * 256)) (x.toNat : Int)
    (by rw [IntKind.wrap_u64]; omega) (by rw [IntKind.wrap_u64]; omega) (by rw [IntKind.wrap_u64]; omega) (by omega) (by omega) (by omega)
  rw [h1, IntKind.wrap_u64]
  simp only [getN, List.foldl_append, List.foldl_cons, List.foldl_nil]
  omega
theorem getN_take (l : List UInt8) (j : Nat) (h : j < l.length) : bits .or .u64 (IntKind.u64.wrap ((getN (l.take j) : Int) * 256)) (l[j].toNat : Int) = (getN (l.take (j + 1)) : Int) := by
  rw [getN_snoc, List.take_succ_eq_append_getElem h]
theorem getN_app (a b : List UInt8) : getN (a ++ b) = (getN a * 256 ^ b.length + getN b) % 18446744073709551616 := by
  have key : ∀ (n : Nat) (b : List UInt8), b.length = n → getN (a ++ b) = (getN a * 256 ^ n + getN b) % 18446744073709551616 := by
    intro n
    induction n with
    | zero =>
      intro b hb
      have : b = [] := List.eq_nil_of_length_eq_zero hb
      subst this
      have h0 : getN [] = 0 := rfl
      rw [List.append_nil, Nat.pow_zero, h0]
      have := getN_lt a
      omega
    | succ n ih =>
      intro b hb
      rcases List.eq_nil_or_concat b with rfl | ⟨c, x, rfl⟩
      · simp at hb
      · rw [List.concat_eq_append] at hb ⊢
        rw [← List.append_assoc]
        have h1 : ∀ l : List UInt8, getN (l ++ [x]) = (getN l * 256 + x.toNat) % 18446744073709551616 := fun l => by simp [getN]
        rw [h1, h1, ih c (by simpa using hb), Nat.pow_succ]
        generalize getN a = p
        generalize getN c = q
        generalize 256 ^ n = r
        have e : p * (r * 256) = p * r * 256 := by rw [Nat.mul_assoc]
        rw [e]
        generalize p * r = z
        omega
  exact key _ b rfl
theorem getN_tail (l : List UInt8) (h : 8 < l.length) : getN (l.drop (l.length - 8)) = getN l := by
  have h1 := getN_app (l.take (l.length - 8)) (l.drop (l.length - 8))
  rw [List.take_append_drop] at h1
  have h2 : (l.drop (l.length - 8)).length = 8 := by rw [List.length_drop]; omega
  rw [h2] at h1
  have h3 := getN_lt (l.drop (l.length - 8))
  rw [h1]
  have : (256 : Nat) ^ 8 = 18446744073709551616 := by decide
  rw [this]
  omega
def getSt (l : List UInt8) (i : Nat) : St := ⟨ofL [(3, .w (.c (.d (.int .u64 (getN (l.take i)))))), (14, .w (.c (.d (.sl (l.map bD))))), (15, .w (.c (.d (.int .i64 (l.length : Int))))), (16, .w (.c (.d (.int .i64 (i : Int)))))], hL [], uL []⟩
def lp_get_0 : SCode :=
  .seq (.reg [⟨(some 17), .bin .lss (.t 16) (.t 15), none⟩])
  (.seq (.cond (.t 17) (.skip)
   (.exit 0))
  (.seq (.block 1 (.seq (.reg [⟨(some 18), .idxSl 1 (.t 14) (.t 16), none⟩,
     ⟨(some 19), .load .sc (.t 18), none⟩,
     ⟨(some 5), .mv (.t 19), none⟩])
   (.reg [⟨(some 20), .mv (.t 3), none⟩,
     ⟨(some 21), .bin .shl (.t 20) (.k (.c (.d (.int .u64 8)))), none⟩,
     ⟨(some 22), .mv (.t 5), none⟩,
     ⟨(some 23), .conv .u64 (.t 22), none⟩,
     ⟨(some 24), .bin .or (.t 21) (.t 23), none⟩,
     ⟨(some 3), .mv (.t 24), none⟩])))
  (.reg [⟨(some 25), .bin .add (.t 16) (.k (.c (.d (.int .i64 1)))), none⟩,
    ⟨(some 16), .mv (.t 25), none⟩])))
def sf_get : SFn := ⟨1, 27,
  .seq (.reg [⟨(some 2), .mv (.k (.c (.d (.int .u64 0)))), none⟩])
  (.seq (.seq (.reg [⟨(some 6), .mv (.t 0), none⟩,
    ⟨(some 7), .len (.t 6), none⟩,
    ⟨(some 8), .bin .gtr (.t 7) (.k (.c (.d (.int .i64 8)))), none⟩])
  (.cond (.t 8) (.reg [⟨(some 9), .mv (.t 0), none⟩,
     ⟨(some 10), .mv (.t 0), none⟩,
     ⟨(some 11), .len (.t 10), none⟩,
     ⟨(some 12), .bin .sub (.t 11) (.k (.c (.d (.int .i64 8)))), none⟩,
     ⟨(some 13), .slice 1 (.t 9) (some (.t 12)) none none, none⟩,
     ⟨(some 0), .mv (.t 13), none⟩])
   (.skip)))
  (.seq (.reg [⟨(some 3), .mv (.k (.c (.d (.int .u64 0)))), none⟩])
  (.seq (.seq (.reg [⟨(some 14), .mv (.t 0), none⟩,
    ⟨(some 15), .len (.t 14), none⟩,
    ⟨(some 16), .mv (.k (.c (.d (.int .i64 0)))), none⟩])
  (.block 0 (.loop lp_get_0)))
  (.seq (.reg [⟨(some 26), .mv (.t 3), none⟩,
    ⟨(some 2), .mv (.t 26), none⟩])
  (.ret))))),
  [(2, none)]⟩
theorem cf_get : compFn Try.prog { own := [], comp := [], frz := [], nils := [] } Try.f33 = some sf_get := by kernel_rfl
set_option maxHeartbeats 400000 in
theorem get_l (G : Glob) (Q : AX → St → Prop) (l : List UInt8) (hl : l.length ≤ 8) (σ : St) (he : Ent σ (getSt l 0)) (hq : ∀ f, f 3 = .w (.c (.d (.int .u64 (getN l)))) → Q (.ex 0) ⟨f, hN, uN⟩) : awp Try.prog G (.loop lp_get_0) Q σ := by
  refine loop_st (getSt l) (fun i => l.length - i) (fun i => i ≤ l.length) 0 (Nat.zero_le _) he ?_
  intro i hi
  by_cases hlt : i < l.length
  · have hb := l[i].toNat_lt
    have e2 : l[i]? = some l[i] := List.getElem?_eq_getElem hlt
    have e3 : IntKind.u64.wrap (l[i].toNat : Int) = (l[i].toNat : Int) := u64_in _ (by omega) (by omega)
    have e4 : IntKind.i64.wrap ((i : Int) + 1) = ((i + 1 : Nat) : Int) := by rw [IntWalk.i64_in _ (by omega)]; rfl
    have e5 := getN_take l i hlt
    simp only [lp_get_0, getSt, wx, stV, seval, IntWalk.iteOmega, IntWalk.toNatUp, reduceCtorEq, get_map, e2, IntKind.bits, e3, e4]
    refine lop_next (i + 1) (by omega) (by omega) (ent_l id ?_ ?_ rfl rfl) <;> simp only [wx, wex, stV, seval, IntWalk.iteOmega, IntWalk.toNatUp, reduceCtorEq, ← e5]
  · have : l.take i = l := List.take_of_length_le (by omega)
    simp only [lp_get_0, getSt, wx, stV, seval, IntWalk.iteOmega, IntWalk.toNatUp, reduceCtorEq, this]
    exact hq _ (by simp only [wx, stV, seval, IntWalk.iteOmega, IntWalk.toNatUp, reduceCtorEq])
theorem get_c (G : Glob) (l : List UInt8) (hl : l.length ≤ 9223372036854775807) : Den Try.prog G 33 [.sl (l.map bD)] (.w (.c (.d (.int .u64 (getN l))))) := by
  refine den_walk Try.func33 cf_get rfl rfl ?_
  by_cases h8 : 8 < l.length
  · have e0 : IntKind.i64.wrap ((l.length : Int) - 8) = ((l.length - 8 : Nat) : Int) := by rw [IntWalk.i64_in _ (by omega)]; omega
    have e1 : (l.drop (l.length - 8)).take (l.length - (l.length - 8)) = l.drop (l.length - 8) := List.take_of_length_le (by rw [List.length_drop]; omega)
    simp only [sf_get, putAll, wx, stV, seval, IntWalk.iteOmega, IntWalk.toNatUp, reduceCtorEq, e0, e1]
    refine get_l G _ (l.drop (l.length - 8)) (by rw [List.length_drop]; omega) _ ?_ fun f hf => ?_
    · refine ent_l id ?_ ?_ rfl rfl <;> simp only [wx, wex, stV, seval, IntWalk.iteOmega, IntWalk.toNatUp, reduceCtorEq] <;> rfl
    · rw [getN_tail l h8] at hf
      simp only [wx, stV, seval, IntWalk.iteOmega, IntWalk.toNatUp, reduceCtorEq, hf]
      exact ret_d (by simp only [wx, stV, seval, IntWalk.iteOmega, IntWalk.toNatUp, reduceCtorEq])
  · simp only [sf_get, putAll, wx, stV, seval, IntWalk.iteOmega, IntWalk.toNatUp, reduceCtorEq]
    refine get_l G _ l (by omega) _ ?_ fun f hf => ?_
    · refine ent_l id ?_ ?_ rfl rfl <;> simp only [wx, wex, stV, seval, IntWalk.iteOmega, IntWalk.toNatUp, reduceCtorEq] <;> rfl
    · simp only [wx, stV, seval, IntWalk.iteOmega, IntWalk.toNatUp, reduceCtorEq, hf]
      exact ret_d (by simp only [wx, stV, seval, IntWalk.iteOmega, IntWalk.toNatUp, reduceCtorEq])

/-! ### Hex -/
def hexD (n : Nat) : UInt8 := if n < 10 then UInt8.ofNat (48 + n) else UInt8.ofNat (87 + n)
def hexL (l : List UInt8) : List UInt8 := l.flatMap fun b => [hexD (b.toNat / 16), hexD (b.toNat % 16)]
theorem hex_size : (⟨#[48, 49, 50, 51, 52, 53, 54, 55, 56, 57, 97, 98, 99, 100, 101, 102]⟩ : ByteArray).size = 16 := rfl
theorem hex_get (j : Nat) (h : j < 16) : (⟨#[48, 49, 50, 51, 52, 53, 54, 55, 56, 57, 97, 98, 99, 100, 101, 102]⟩ : ByteArray).data.toList[j]? = some (hexD j) := by
  have : ∀ j : Fin 16, (⟨#[48, 49, 50, 51, 52, 53, 54, 55, 56, 57, 97, 98, 99, 100, 101, 102]⟩ : ByteArray).data.toList[j.val]? = some (hexD j.val) := by decide
  exact this ⟨j, h⟩
theorem app_b1 (l : List UInt8) (a : UInt8) : l.map bD ++ [bD a] = (l ++ [a]).map bD := by simp
theorem app_b2 (l : List UInt8) (a b : UInt8) : l.map bD ++ [bD a, bD b] = (l ++ [a, b]).map bD := by simp
theorem hexL_len (l : List UInt8) : (hexL l).length = 2 * l.length := by
  induction l with
  | nil => rfl
  | cons b l ih =>
    have : hexL (b :: l) = [hexD (b.toNat / 16), hexD (b.toNat % 16)] ++ hexL l := rfl
    rw [this, List.length_append, ih]; simp; omega
theorem hexL_snoc (l : List UInt8) (i : Nat) (h : i < l.length) : hexL (l.take i) ++ [hexD (l[i].toNat / 16), hexD (l[i].toNat % 16)] = hexL (l.take (i + 1)) := by
  rw [List.take_succ_eq_append_getElem h]
  unfold hexL
  rw [List.flatMap_append]
  rfl
def hexSt (l : List UInt8) (i : Nat) : St := ⟨ofL [(3, .w (.c (.own 1 1 0 (hexL (l.take i)).length))), (10, .w (.c (.d (.sl (l.map bD))))), (11, .w (.c (.d (.int .i64 (l.length : Int))))), (12, .w (.c (.d (.int .i64 (i : Int)))))], hL [(1, .row 1 ((hexL (l.take i)).map bD))], uL [1]⟩
def lp_hex_0 : SCode :=
  .seq (.reg [⟨(some 13), .bin .lss (.t 12) (.t 11), none⟩])
  (.seq (.cond (.t 13) (.skip)
   (.exit 0))
  (.seq (.block 1 (.seq (.reg [⟨(some 14), .idxSl 1 (.t 10) (.t 12), none⟩,
     ⟨(some 15), .load .sc (.t 14), none⟩,
     ⟨(some 5), .mv (.t 15), none⟩])
   (.reg [⟨(some 16), .mv (.t 3), none⟩,
     ⟨(some 17), .mv (.t 5), none⟩,
     ⟨(some 18), .bin .shr (.t 17) (.k (.c (.d (.int .u64 4)))), none⟩,
     ⟨(some 19), .idxStr (.k (.c (.d (.str ⟨#[48, 49, 50, 51, 52, 53, 54, 55, 56, 57, 97, 98, 99, 100, 101, 102]⟩)))) (.t 18), none⟩,
     ⟨(some 20), .mv (.t 5), none⟩,
     ⟨(some 21), .bin .and (.t 20) (.k (.c (.d (.int .u8 15)))), none⟩,
     ⟨(some 22), .idxStr (.k (.c (.d (.str ⟨#[48, 49, 50, 51, 52, 53, 54, 55, 56, 57, 97, 98, 99, 100, 101, 102]⟩)))) (.t 21), none⟩,
     ⟨(some 23), .bldSl false 2 1 (.int .u8 0) [(0, (.t 19)), (1, (.t 22))], none⟩,
     ⟨(some 24), .app false 1 1 (.t 16) (.t 23), none⟩,
     ⟨(some 3), .mv (.t 24), none⟩])))
  (.reg [⟨(some 25), .bin .add (.t 12) (.k (.c (.d (.int .i64 1)))), none⟩,
    ⟨(some 12), .mv (.t 25), none⟩])))
def sf_hex : SFn := ⟨1, 28,
  .seq (.reg [⟨(some 2), .mv (.k (.c (.d (.str ⟨#[]⟩)))), none⟩])
  (.seq (.reg [⟨(some 6), .mv (.t 0), none⟩,
    ⟨(some 7), .len (.t 6), none⟩,
    ⟨(some 8), .bin .mul (.k (.c (.d (.int .i64 2)))) (.t 7), none⟩,
    ⟨(some 9), .make 1 1 (.int .u8 0) (.k (.c (.d (.int .i64 0)))) (.t 8), none⟩,
    ⟨(some 3), .mv (.t 9), none⟩])
  (.seq (.seq (.reg [⟨(some 10), .mv (.t 0), none⟩,
    ⟨(some 11), .len (.t 10), none⟩,
    ⟨(some 12), .mv (.k (.c (.d (.int .i64 0)))), none⟩])
  (.block 0 (.loop lp_hex_0)))
  (.seq (.reg [⟨(some 26), .mv (.t 3), none⟩,
    ⟨(some 27), .b2s (.t 26), none⟩,
    ⟨(some 2), .mv (.t 27), none⟩])
  (.ret)))),
  [(2, none)]⟩
theorem cf_hex : compFn Try.prog { own := [], comp := [], frz := [], nils := [] } Try.f27 = some sf_hex := by kernel_rfl
set_option maxHeartbeats 400000 in
theorem hex_c (G : Glob) (l : List UInt8) (hl : l.length ≤ 1099511627776) : Den Try.prog G 27 [.sl (l.map bD)] (.w (.c (.d (.str ⟨(hexL l).toArray⟩)))) := by
  refine den_walk Try.func27 cf_hex rfl rfl ?_
  have e0 : IntKind.i64.wrap (2 * (l.length : Int)) = 2 * (l.length : Int) := IntWalk.i64_in _ (by omega)
  simp only [sf_hex, putAll, wx, stV, seval, IntWalk.iteOmega, IntWalk.toNatUp, reduceCtorEq, e0]
  refine loop_st (hexSt l) (fun i => l.length - i) (fun i => i ≤ l.length) 0 (Nat.zero_le _) ?_ ?_
  · refine ent_l (fun _ => 72) ?_ ?_ rfl rfl <;> simp only [wx, wex, stV, seval, IntWalk.iteOmega, IntWalk.toNatUp, reduceCtorEq] <;> rfl
  · intro i hi
    by_cases hlt : i < l.length
    · have hb := l[i].toNat_lt
      have e2 : l[i]? = some l[i] := List.getElem?_eq_getElem hlt
      have e4 : IntKind.i64.wrap ((i : Int) + 1) = ((i + 1 : Nat) : Int) := by rw [IntWalk.i64_in _ (by omega)]; rfl
      have e5 : bits .and .u8 (l[i].toNat : Int) 15 = ((l[i].toNat % 16 : Nat) : Int) := u8_and15 _ (by omega) (by omega)
      have e6 : (l[i].toNat : Int) / 16 = ((l[i].toNat / 16 : Nat) : Int) := rfl
      have e7 : (hexL (l.take i)).length = 2 * i := by rw [hexL_len, List.length_take]; omega
      have e8 : (hexL (l.take (i + 1))).length = 2 * i + 2 := by rw [hexL_len, List.length_take]; omega
      have g1 : l[i].toNat / 16 < 16 := by omega
      have g2 : l[i].toNat % 16 < 16 := by omega
      simp only [lp_hex_0, hexSt, wx, stV, seval, IntWalk.iteOmega, IntWalk.toNatUp, reduceCtorEq, get_map, e2, IntKind.bits, e4, e5, e6, hex_size, hex_get _ g1, hex_get _ g2, srcV, List.replicate, app_b2, hexL_snoc l i hlt]
      refine lop_next (i + 1) (by omega) (by omega) (ent_l (fun _ => 192) ?_ ?_ rfl rfl) <;> simp only [wx, wex, stV, seval, IntWalk.iteOmega, IntWalk.toNatUp, reduceCtorEq]
    · have : l.take i = l := List.take_of_length_le (by omega)
      simp only [lp_hex_0, hexSt, wx, stV, seval, IntWalk.iteOmega, IntWalk.toNatUp, reduceCtorEq, this, ofBs_map]
      exact ret_d (by simp only [wx, stV, seval, IntWalk.iteOmega, IntWalk.toNatUp, reduceCtorEq])
end Go.Proofs.Ytldcgjhfaledfaa
