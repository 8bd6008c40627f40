/- Layer 4 on data: the reference's table; places of a list that is filled in. Own work. -/
import Derived.Test.YtnadfnnkdnakhaaPc3
set_option linter.unusedVariables false
set_option linter.unusedSimpArgs false
namespace Go.Proofs.Ytnadfnnkdnakhaa
open Go.RowKit

/-! ### A list that is filled in, place by place -/
def upL (f : Nat → UInt8) (l : List UInt8) (i : Nat) : List UInt8 := (List.range i).map f ++ l.drop i
theorem upL_len (f : Nat → UInt8) (l : List UInt8) {i : Nat} (h : i ≤ l.length) : (upL f l i).length = l.length := by
  unfold upL; rw [List.length_append, List.length_map, List.length_range, List.length_drop]; omega
theorem upL_zero (f : Nat → UInt8) (l : List UInt8) : upL f l 0 = l := by simp [upL]
theorem upL_full (f : Nat → UInt8) (l : List UInt8) {i : Nat} (h : l.length ≤ i) : upL f l i = (List.range i).map f := by
  unfold upL; rw [List.drop_eq_nil_of_le h, List.append_nil]
theorem upL_get (f : Nat → UInt8) (l : List UInt8) {i j : Nat} (hj : i ≤ j) : (upL f l i)[j]? = l[j]? := by
  unfold upL
  rw [List.getElem?_append_right (by simpa using hj), List.getElem?_drop, List.length_map, List.length_range, show i + (j - i) = j by omega]
theorem upL_done (f : Nat → UInt8) (l : List UInt8) {i j : Nat} (hj : j < i) : (upL f l i)[j]? = some (f j) := by
  unfold upL
  rw [List.getElem?_append_left (by simpa using hj)]
  simp [hj]
theorem upL_step (f : Nat → UInt8) (l : List UInt8) {i : Nat} (h : i < l.length) : (upL f l i).set i (f i) = upL f l (i + 1) := by
  unfold upL
  rw [List.set_append_right _ _ (by simp), List.length_map, List.length_range, Nat.sub_self, List.drop_eq_getElem_cons h, List.set_cons_zero, List.range_succ, List.map_append, List.append_assoc]
  rfl
theorem get_lt {l : List UInt8} {j : Nat} (h : j < l.length) : l[j]? = some (l.getD j 0) := by
  rw [List.getD_eq_getElem?_getD, List.getElem?_eq_getElem h]; rfl
theorem map_get {l : List UInt8} {j : Nat} (h : j < l.length) : (l.map bD)[j]? = some (bD (l.getD j 0)) := by rw [get_map, get_lt h]; rfl

/-! ### The reference's table -/
def tabN : Nat → List UInt8
  | 0 => (repL 256 0).set 0 99
  | n + 1 => (tabN n).set (powB 3 n).toNat (affB (powB 246 n))
theorem tabN_len : ∀ n, (tabN n).length = 256
  | 0 => by rw [tabN, List.length_set, repL_len]
  | n + 1 => by rw [tabN, List.length_set, tabN_len n]
set_option maxRecDepth 100000 in
theorem tab_box : tabN 255 = boxL := by decide +kernel
theorem pow0 (x : UInt8) : powB x 0 = 1 := rfl
theorem bD1 : bD 1 = .int .u8 1 := rfl
def boxSt (i : Nat) : St := ⟨ofL [(0, .w (.c (.pa 2 1))), (1, .w (.c (.pa 1 1))), (2, .w (.c (.d (bD (powB 3 i))))), (3, .w (.c (.d (bD (powB 246 i))))), (4, .w (.c (.d (.int .i64 (i : Int)))))], hL [(1, .row 1 ((tabN i).map bD)), (2, .row 1 ((repL 256 (0 : UInt8)).map bD))], uL [1, 2]⟩
def lp_rbox_0 : SCode :=
  .seq (.seq (.reg [⟨(some 6), .mv (.t 4), none⟩,
    ⟨(some 7), .bin .lss (.t 6) (.k (.c (.d (.int .i64 255)))), none⟩])
  (.cond (.t 7) (.skip)
   (.exit 0)))
  (.seq (.block 1 (.seq (.reg [⟨(some 10), .mv (.t 2), none⟩,
     ⟨(some 11), .mv (.t 3), none⟩,
     ⟨(some 12), .mv (.t 3), none⟩,
     ⟨(some 13), .call 53 [(.t 12), (.k (.c (.d (.int .i64 1))))] none, none⟩,
     ⟨(some 14), .bin .xor (.t 11) (.t 13), none⟩,
     ⟨(some 15), .mv (.t 3), none⟩,
     ⟨(some 16), .call 53 [(.t 15), (.k (.c (.d (.int .i64 2))))] none, none⟩,
     ⟨(some 17), .bin .xor (.t 14) (.t 16), none⟩,
     ⟨(some 18), .mv (.t 3), none⟩,
     ⟨(some 19), .call 53 [(.t 18), (.k (.c (.d (.int .i64 3))))] none, none⟩,
     ⟨(some 20), .bin .xor (.t 17) (.t 19), none⟩,
     ⟨(some 21), .mv (.t 3), none⟩,
     ⟨(some 22), .call 53 [(.t 21), (.k (.c (.d (.int .i64 4))))] none, none⟩,
     ⟨(some 23), .bin .xor (.t 20) (.t 22), none⟩,
     ⟨(some 24), .bin .xor (.t 23) (.k (.c (.d (.int .u8 99)))), none⟩,
     ⟨(some 25), .idxPa 1 256 (.t 1) (.t 10), none⟩,
     ⟨none, .store .sc (.t 25) (.t 24), none⟩])
   (.reg [⟨(some 26), .mv (.t 2), none⟩,
     ⟨(some 27), .call 38 [(.t 26), (.k (.c (.d (.int .u8 3))))] none, none⟩,
     ⟨(some 28), .mv (.t 3), none⟩,
     ⟨(some 29), .call 38 [(.t 28), (.k (.c (.d (.int .u8 246))))] none, none⟩,
     ⟨(some 2), .mv (.t 27), none⟩,
     ⟨(some 3), .mv (.t 29), none⟩])))
  (.reg [⟨(some 8), .mv (.t 4), none⟩,
    ⟨(some 9), .bin .add (.t 8) (.k (.c (.d (.int .i64 1)))), none⟩,
    ⟨(some 4), .mv (.t 9), none⟩]))
def sf_rbox : SFn := ⟨0, 31,
  .seq (.reg [⟨(some 0), .allocArr (repL 256 (.int .u8 0)), none⟩])
  (.seq (.reg [⟨(some 1), .allocArr (repL 256 (.int .u8 0)), none⟩])
  (.seq (.reg [⟨(some 5), .idxPa 1 256 (.t 1) (.k (.c (.d (.int .i64 0)))), none⟩,
    ⟨none, .store .sc (.t 5) (.k (.c (.d (.int .u8 99)))), none⟩])
  (.seq (.reg [⟨(some 2), .mv (.k (.c (.d (.int .u8 1)))), none⟩,
    ⟨(some 3), .mv (.k (.c (.d (.int .u8 1)))), none⟩])
  (.seq (.seq (.reg [⟨(some 4), .mv (.k (.c (.d (.int .i64 0)))), none⟩])
  (.block 0 (.loop lp_rbox_0)))
  (.seq (.reg [⟨(some 30), .load (.ag 256) (.t 1), none⟩,
    ⟨none, .store (.ag 256) (.t 0) (.t 30), none⟩])
  (.ret)))))),
  [(0, (some (.ag 256)))]⟩
theorem cf_rbox : compFn Try.prog { own := [], comp := [], frz := [], nils := [] } Try.f37 = some sf_rbox := by kernel_rfl
set_option maxHeartbeats 1600000 in
theorem rbox_c (G : Glob) : Den Try.prog G 37 [] (.w (.c (.d (.agg (boxL.map bD))))) := by
  refine den_walk Try.func37 cf_rbox rfl rfl ?_
  have e0 : ((repL 256 (0 : UInt8)).map bD).set 0 (.int .u8 99) = (tabN 0).map bD := set_map bD _ 0 99
  have e1 : 0 < (repL 256 (0 : UInt8)).length := by rw [repL_len]; decide
  have e2 := repL_get (n := 256) (i := 0) (0 : UInt8) (by decide)
  simp only [sf_rbox, putAll, wx, wy, wz, stV, seval, IntWalk.iteOmega, IntWalk.toNatUp, reduceCtorEq, repL_bD, e0, e1, e2, get_map, repL_len]
  refine loop_st boxSt (fun i => 255 - i) (fun i => i ≤ 255) 0 (Nat.zero_le _) ?_ ?_
  · refine ent_l (fun i => if i = 1 then 8 else 0) ?_ ?_ rfl rfl <;> simp only [wx, wex, wez, stV, seval, IntWalk.iteOmega, IntWalk.toNatUp, reduceCtorEq, pow0, bD1]
  · intro i hi
    have hl := tabN_len i
    by_cases hlt : i < 255
    · have hp := byte_lt (powB 3 i)
      have h3 : (powB 3 i).toNat < (tabN i).length := by omega
      have hs : (tabN i).set (powB 3 i).toNat (affB (powB 246 i)) = tabN (i + 1) := rfl
      have p3 : timesK (powB 3 i) 3 = powB 3 (i + 1) := rfl
      have p4 : timesK (powB 246 i) 246 = powB 246 (i + 1) := rfl
      have hset : ((tabN i).map bD).set (powB 3 i).toNat (bD (affB (powB 246 i))) = (tabN (i + 1)).map bD := by rw [set_map, hs]
      simp only [lp_rbox_0, boxSt, wx, wy, wz, stV, seval, IntWalk.iteOmega, IntWalk.toNatUp, reduceCtorEq]
      generalize powB 246 i = y at *
      rw [← aff_eq] at hset
      have g1 := binV_xorB y (leftB y 1)
      have g2 := binV_xorB (xorB y (leftB y 1)) (leftB y 2)
      have g3 := binV_xorB (xorB (xorB y (leftB y 1)) (leftB y 2)) (leftB y 3)
      have g4 := binV_xorB (xorB (xorB (xorB y (leftB y 1)) (leftB y 2)) (leftB y 3)) (leftB y 4)
      have g5 := bl_xor (xorB (xorB (xorB (xorB y (leftB y 1)) (leftB y 2)) (leftB y 3)) (leftB y 4)) 99 99 rfl
      refine st_call (rleft_c G y 1 (by decide) (by decide)) rfl (.inl rfl) ?_
      simp only [g1, wx, wy, wz, stV, seval, IntWalk.iteOmega, IntWalk.toNatUp, reduceCtorEq]
      refine st_call (rleft_c G y 2 (by decide) (by decide)) rfl (.inl rfl) ?_
      simp only [g2, wx, wy, wz, stV, seval, IntWalk.iteOmega, IntWalk.toNatUp, reduceCtorEq]
      refine st_call (rleft_c G y 3 (by decide) (by decide)) rfl (.inl rfl) ?_
      simp only [g3, wx, wy, wz, stV, seval, IntWalk.iteOmega, IntWalk.toNatUp, reduceCtorEq]
      refine st_call (rleft_c G y 4 (by decide) (by decide)) rfl (.inl rfl) ?_
      simp only [g4, g5, hl, get_map, stO_bs h3 (one_b _), hset, wx, wy, wz, stV, seval, IntWalk.iteOmega, IntWalk.toNatUp, reduceCtorEq]
      refine st_call (rtim_c G (powB 3 i) 3) rfl (.inl rfl) ?_
      simp only [p3, wx, wy, wz, stV, seval, IntWalk.iteOmega, IntWalk.toNatUp, reduceCtorEq]
      refine st_call (rtim_c G y 246) rfl (.inl rfl) ?_
      simp only [p4, wx, wy, wz, stV, seval, IntWalk.iteOmega, IntWalk.toNatUp, reduceCtorEq]
      refine lop_next (i + 1) (by omega) (by omega) (ent_l (fun i => i) ?_ ?_ rfl rfl) <;> simp only [wx, wex, wez, stV, seval, IntWalk.iteOmega, IntWalk.toNatUp, reduceCtorEq]
    · obtain rfl : i = 255 := by omega
      rw [tab_box] at hl
      simp only [lp_rbox_0, boxSt, tab_box, wx, wy, wz, stV, seval, IntWalk.iteOmega, IntWalk.toNatUp, reduceCtorEq, hl, flat_bs, repL_len]
      exact ret_d1 (by simp only [wx, wy, wz, stV, seval, IntWalk.iteOmega, IntWalk.toNatUp, reduceCtorEq])
end Go.Proofs.Ytnadfnnkdnakhaa
