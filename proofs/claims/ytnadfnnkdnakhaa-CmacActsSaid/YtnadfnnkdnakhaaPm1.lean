/- Layer 5 on data: Double, lists combined. Own work. -/
import Derived.Test.YtnadfnnkdnakhaaPcA
import Derived.Test.YtnadfnnkdnakhaaPm0
import Derived.Test.YtnadfnnkdnakhaaPo3
set_option linter.unusedVariables false
set_option linter.unusedSimpArgs false
namespace Go.Proofs.Ytnadfnnkdnakhaa
open Go.RowKit

/-! ### Double -/
/-- Shifted, without the reduction. -/
def dG (b : List UInt8) (j : Nat) : UInt8 := if j < 15 then orB (shlB (b.getD j 0) 1) (shrB (b.getD (j + 1) 0) 7) else shlB (b.getD j 0) 1
def dGL (b : List UInt8) : List UInt8 := (List.range 16).map (dG b)
theorem dGL_len (b : List UInt8) : (dGL b).length = 16 := by simp [dGL]
theorem dGL_get (b : List UInt8) {j : Nat} (h : j < 16) : (dGL b)[j]? = some (dG b j) := by simp [dGL, h]
def redB (b : List UInt8) : UInt8 := selB (bitB (b.getD 0 0) 7) 135
theorem dblL_set {b : List UInt8} (h : b.length = 16) : (dGL b).set 15 (xorB (dG b 15) (redB b)) = dblL b := by
  unfold dblL
  rw [if_pos h]
  apply List.ext_getElem?
  intro j
  rw [List.getElem?_set]
  by_cases hj : j < 16
  · rw [toL_get _ hj]
    have hd : ∀ k, ofB16 b k = b.getD k 0 := fun _ => rfl
    by_cases h15 : 15 = j
    · subst h15
      rw [if_pos rfl, if_pos (by rw [dGL_len]; decide)]
      simp only [dG, dblF, hd, redB, Nat.lt_irrefl, if_false, if_true, xorB_zero]
    · rw [if_neg h15, dGL_get _ hj]
      have : j < 15 := by omega
      simp only [dG, dblF, hd, if_pos this, if_neg (show ¬ j = 15 by omega), xorB_zero, or_low]
  · rw [if_neg (by omega), List.getElem?_eq_none (by rw [dGL_len]; omega), List.getElem?_eq_none (by rw [toL_len]; omega)]
theorem redB_mul (b : List UInt8) : binV .mul (.w (.c (.d (bD (shrB (b.getD 0 0) 7))))) (.w (.c (.d (.int .u8 135)))) = some (bD (redB b)) := by
  have key := all_b (p := fun x => (shrB x 7).toNat * 135 % 256 == (selB (bitB x 7) 135).toNat) (by decide +kernel) (b.getD 0 0)
  rw [beq_iff_eq] at key
  show binI .mul .u8 _ .u8 _ = _
  rw [binI_mul, IntKind.wrap_u8]
  unfold redB bD
  rw [← key]
  congr 2
theorem redB_eq (b : List UInt8) : (shrB (b.getD 0 0) 7 == 1) = bitB (b.getD 0 0) 7 := by
  have key := all_b (p := fun x => (shrB x 7 == 1) == bitB x 7) (by decide +kernel) (b.getD 0 0)
  rw [beq_iff_eq] at key
  exact key
theorem orB_zero (x : UInt8) : orB x 0 = x := by
  have key := all_b (p := fun x => orB x 0 == x) (by decide +kernel) x
  rw [beq_iff_eq] at key
  exact key
theorem bD0 : bD 0 = .int .u8 0 := rfl
def cyB (b : List UInt8) (m : Nat) : UInt8 := if m < 16 then shrB (b.getD m 0) 7 else 0
theorem cyB_step (b : List UInt8) {q : Nat} (h : q < 16) : orB (shlB (b.getD q 0) 1) (cyB b (q + 1)) = dG b q := by
  unfold cyB dG
  by_cases h2 : q < 15
  · rw [if_pos (by omega), if_pos h2]
  · rw [if_neg (by omega), if_neg h2, orB_zero]
theorem cyB_at (b : List UInt8) {q : Nat} (h : q < 16) : shrB (b.getD q 0) 7 = cyB b q := (if_pos h).symm
/-- From the end on: the places from m on are done. -/
def dnL (l : List UInt8) (m : Nat) : List UInt8 := List.replicate m 0 ++ l.drop m
theorem dnL_len {l : List UInt8} {m : Nat} (h : m ≤ l.length) : (dnL l m).length = l.length := by
  unfold dnL; rw [List.length_append, List.length_replicate, List.length_drop]; omega
theorem dnL_zero (l : List UInt8) : dnL l 0 = l := by simp [dnL]
theorem dnL_full {l : List UInt8} {m : Nat} (h : l.length = m) : dnL l m = List.replicate m 0 := by
  unfold dnL; rw [List.drop_eq_nil_of_le (by omega), List.append_nil]
theorem dnL_step {l : List UInt8} {q : Nat} (h : q < l.length) : (dnL l (q + 1)).set q (l.getD q 0) = dnL l q := by
  unfold dnL
  rw [List.replicate_succ', List.append_assoc, List.set_append_right _ _ (by simp), List.length_replicate, Nat.sub_self, List.drop_eq_getElem_cons h, List.getD_eq_getElem?_getD, List.getElem?_eq_getElem h]
  rfl
def dbSt (b : List UInt8) (m : Nat) : St := ⟨ofL [(0, .w (.c (.d (.sl (b.map bD))))), (3, .w (.c (.own 1 1 0 16))), (4, .w (.c (.d (bD (cyB b m))))), (5, .w (.c (.d (.int .i64 ((m : Int) - 1)))))], hL [(1, .row 1 ((dnL (dGL b) m).map bD))], uL [1]⟩
theorem dblL_no {b : List UInt8} (h : b.length ≠ 16) : dblL b = [] := if_neg h
def lp_dbb_0 : SCode :=
  .seq (.seq (.reg [⟨(some 10), .mv (.t 5), none⟩,
    ⟨(some 11), .bin .geq (.t 10) (.k (.c (.d (.int .i64 0)))), none⟩])
  (.cond (.t 11) (.skip)
   (.exit 0)))
  (.seq (.block 1 (.seq (.reg [⟨(some 14), .mv (.t 3), none⟩,
     ⟨(some 15), .mv (.t 5), none⟩,
     ⟨(some 16), .mv (.t 0), none⟩,
     ⟨(some 17), .mv (.t 5), none⟩,
     ⟨(some 18), .idxSl 1 (.t 16) (.t 17), none⟩,
     ⟨(some 19), .load .sc (.t 18), none⟩,
     ⟨(some 20), .bin .shl (.t 19) (.k (.c (.d (.int .u64 1)))), none⟩,
     ⟨(some 21), .mv (.t 4), none⟩,
     ⟨(some 22), .bin .or (.t 20) (.t 21), none⟩,
     ⟨(some 23), .idxSl 1 (.t 14) (.t 15), none⟩,
     ⟨none, .store .sc (.t 23) (.t 22), none⟩])
   (.reg [⟨(some 24), .mv (.t 0), none⟩,
     ⟨(some 25), .mv (.t 5), none⟩,
     ⟨(some 26), .idxSl 1 (.t 24) (.t 25), none⟩,
     ⟨(some 27), .load .sc (.t 26), none⟩,
     ⟨(some 28), .bin .shr (.t 27) (.k (.c (.d (.int .u64 7)))), none⟩,
     ⟨(some 4), .mv (.t 28), none⟩])))
  (.reg [⟨(some 12), .mv (.t 5), none⟩,
    ⟨(some 13), .bin .sub (.t 12) (.k (.c (.d (.int .i64 1)))), none⟩,
    ⟨(some 5), .mv (.t 13), none⟩]))
def sf_dbb : SFn := ⟨1, 37,
  .seq (.reg [⟨(some 2), .mv (.k (.c .nil)), none⟩])
  (.seq (.seq (.reg [⟨(some 6), .mv (.t 0), none⟩,
    ⟨(some 7), .len (.t 6), none⟩,
    ⟨(some 8), .bin .neq (.t 7) (.k (.c (.d (.int .i64 16)))), none⟩])
  (.cond (.t 8) (.seq (.reg [⟨(some 2), .mv (.k (.c .nil)), none⟩])
   (.ret))
   (.skip)))
  (.seq (.reg [⟨(some 9), .make 1 1 (.int .u8 0) (.k (.c (.d (.int .i64 16)))) (.k (.c (.d (.int .i64 16)))), none⟩,
    ⟨(some 3), .mv (.t 9), none⟩])
  (.seq (.reg [⟨(some 4), .mv (.k (.c (.d (.int .u8 0)))), none⟩])
  (.seq (.seq (.reg [⟨(some 5), .mv (.k (.c (.d (.int .i64 15)))), none⟩])
  (.block 0 (.loop lp_dbb_0)))
  (.seq (.reg [⟨(some 29), .mv (.t 3), none⟩,
    ⟨(some 30), .idxSl 1 (.t 29) (.k (.c (.d (.int .i64 15)))), none⟩,
    ⟨(some 31), .load .sc (.t 30), none⟩,
    ⟨(some 32), .mv (.t 4), none⟩,
    ⟨(some 33), .bin .mul (.t 32) (.k (.c (.d (.int .u8 135)))), none⟩,
    ⟨(some 34), .bin .xor (.t 31) (.t 33), none⟩,
    ⟨(some 35), .idxSl 1 (.t 29) (.k (.c (.d (.int .i64 15)))), none⟩,
    ⟨none, .store .sc (.t 35) (.t 34), none⟩])
  (.seq (.reg [⟨(some 36), .mv (.t 3), none⟩,
    ⟨(some 2), .mv (.t 36), none⟩])
  (.ret))))))),
  [(2, none)]⟩
theorem cf_dbb : compFn Try.prog { own := [], comp := [], frz := [], nils := [] } Try.f15 = some sf_dbb := by kernel_rfl
set_option maxHeartbeats 1600000 in
theorem dbb_c (G : Glob) (b : List UInt8) (hb : b.length ≤ 9223372036854775807) : Den Try.prog G 15 [.sl (b.map bD)] (.w (.c (.fr 1 ((dblL b).map bD)))) := by
  refine den_walk Try.func15 cf_dbb rfl rfl ?_
  by_cases h : b.length = 16
  · have hd := dblL_set h
    have hl := dGL_len b
    simp only [sf_dbb, putAll, wx, wy, wz, stV, seval, IntWalk.iteOmega, IntWalk.toNatUp, reduceCtorEq, h, z16]
    refine loop_st (dbSt b) (fun m => m) (fun m => m ≤ 16) 16 (Nat.le_refl _) ?_ ?_
    · have e1 : dnL (dGL b) 16 = repL 16 0 := dnL_full hl
      have e2 : cyB b 16 = 0 := rfl
      refine ent_l (fun i => 72) ?_ ?_ rfl rfl <;> simp only [wx, wex, wez, stV, seval, IntWalk.iteOmega, IntWalk.toNatUp, reduceCtorEq, e1, e2, bD0]
    · intro m hm
      rcases m with _ | q
      · have e0 := dnL_zero (dGL b)
        have c0 : cyB b 0 = shrB (b.getD 0 0) 7 := rfl
        have x1 := redB_mul b
        have g1 := dGL_get b (j := 15) (by decide)
        have x2 := binV_xorB (dG b 15) (redB b)
        have h3 : 15 < (dGL b).length := by omega
        have hdl : (dblL b).length = 16 := dblL_len h
        simp only [lp_dbb_0, dbSt, e0, c0, Int.natCast_zero, Int.zero_sub, wx, wy, wz, stV, seval, IntWalk.iteOmega, IntWalk.toNatUp, reduceCtorEq, get_map, g1, x1, x2, stO_bs h3 (one_b _), set_bs, hd]
        exact ret_own (id := 1) (n := 16) (s := 1) (by simp only [wx, stV, seval, IntWalk.iteOmega, IntWalk.toNatUp, reduceCtorEq]) (by simp only [wx, stV, seval, IntWalk.iteOmega, IntWalk.toNatUp, reduceCtorEq]) (by simp [hdl])
      · have hq : q < 16 := by omega
        have g1 : b[q]? = some (b.getD q 0) := get_lt (by omega)
        have hl1 := dnL_len (l := dGL b) (m := q + 1) (by omega)
        have h3 : q < (dnL (dGL b) (q + 1)).length := by omega
        have x1 := bl_shl (b.getD q 0) .u64 1 1 rfl (by decide)
        have x2 := binV_orB (shlB (b.getD q 0) 1) (cyB b (q + 1))
        have x3 := bl_shr (b.getD q 0) .u64 7 7 rfl (by decide)
        have c1 := cyB_step b hq
        have c2 := cyB_at b hq
        have hs := dnL_step (l := dGL b) (q := q) (by omega)
        have hg : (dGL b).getD q 0 = dG b q := by rw [List.getD_eq_getElem?_getD, dGL_get b hq]; rfl
        rw [hg] at hs
        have sub : ((q : Int) + 1 - 1) = (q : Int) := by omega
        simp only [lp_dbb_0, dbSt, wx, wy, wz, stV, seval, IntWalk.iteOmega, IntWalk.toNatUp, reduceCtorEq, sub, get_map, g1, x1, x2, x3, c1, c2, h, stO_bs h3 (one_b _), set_bs, hs]
        refine lop_next q (by omega) (by omega) (ent_l (fun i => i) ?_ ?_ rfl rfl) <;> simp only [wx, wex, wez, stV, seval, IntWalk.iteOmega, IntWalk.toNatUp, reduceCtorEq]
  · rw [dblL_no h]
    simp only [sf_dbb, putAll, wx, wy, wz, stV, seval, IntWalk.iteOmega, IntWalk.toNatUp, reduceCtorEq]
    exact ret_f1 (by simp only [wx, wy, wz, stV, seval, IntWalk.iteOmega, IntWalk.toNatUp, reduceCtorEq])
def rdbSt (b : List UInt8) (i : Nat) : St := ⟨ofL [(0, .w (.c (.d (.sl (b.map bD))))), (3, .w (.c (.own 1 1 0 16))), (4, .w (.c (.d (.int .i64 (i : Int)))))], hL [(1, .row 1 ((upL (dG b) (repL 16 0) i).map bD))], uL [1]⟩
def lp_rdbb_0 : SCode :=
  .seq (.seq (.reg [⟨(some 9), .mv (.t 4), none⟩,
    ⟨(some 10), .bin .lss (.t 9) (.k (.c (.d (.int .i64 16)))), none⟩])
  (.cond (.t 10) (.skip)
   (.exit 0)))
  (.seq (.block 1 (.seq (.reg [⟨(some 13), .mv (.t 3), none⟩,
     ⟨(some 14), .mv (.t 4), none⟩,
     ⟨(some 15), .mv (.t 0), none⟩,
     ⟨(some 16), .mv (.t 4), none⟩,
     ⟨(some 17), .idxSl 1 (.t 15) (.t 16), none⟩,
     ⟨(some 18), .load .sc (.t 17), none⟩,
     ⟨(some 19), .bin .shl (.t 18) (.k (.c (.d (.int .u64 1)))), none⟩,
     ⟨(some 20), .idxSl 1 (.t 13) (.t 14), none⟩,
     ⟨none, .store .sc (.t 20) (.t 19), none⟩])
   (.seq (.reg [⟨(some 21), .mv (.t 4), none⟩,
     ⟨(some 22), .bin .lss (.t 21) (.k (.c (.d (.int .i64 15)))), none⟩])
   (.cond (.t 22) (.reg [⟨(some 23), .mv (.t 3), none⟩,
      ⟨(some 24), .mv (.t 4), none⟩,
      ⟨(some 25), .mv (.t 3), none⟩,
      ⟨(some 26), .mv (.t 4), none⟩,
      ⟨(some 27), .idxSl 1 (.t 25) (.t 26), none⟩,
      ⟨(some 28), .load .sc (.t 27), none⟩,
      ⟨(some 29), .mv (.t 0), none⟩,
      ⟨(some 30), .mv (.t 4), none⟩,
      ⟨(some 31), .bin .add (.t 30) (.k (.c (.d (.int .i64 1)))), none⟩,
      ⟨(some 32), .idxSl 1 (.t 29) (.t 31), none⟩,
      ⟨(some 33), .load .sc (.t 32), none⟩,
      ⟨(some 34), .bin .shr (.t 33) (.k (.c (.d (.int .u64 7)))), none⟩,
      ⟨(some 35), .bin .or (.t 28) (.t 34), none⟩,
      ⟨(some 36), .idxSl 1 (.t 23) (.t 24), none⟩,
      ⟨none, .store .sc (.t 36) (.t 35), none⟩])
    (.skip)))))
  (.reg [⟨(some 11), .mv (.t 4), none⟩,
    ⟨(some 12), .bin .add (.t 11) (.k (.c (.d (.int .i64 1)))), none⟩,
    ⟨(some 4), .mv (.t 12), none⟩]))
def sf_rdbb : SFn := ⟨1, 49,
  .seq (.reg [⟨(some 2), .mv (.k (.c .nil)), none⟩])
  (.seq (.seq (.reg [⟨(some 5), .mv (.t 0), none⟩,
    ⟨(some 6), .len (.t 5), none⟩,
    ⟨(some 7), .bin .neq (.t 6) (.k (.c (.d (.int .i64 16)))), none⟩])
  (.cond (.t 7) (.seq (.reg [⟨(some 2), .mv (.k (.c .nil)), none⟩])
   (.ret))
   (.skip)))
  (.seq (.reg [⟨(some 8), .make 1 1 (.int .u8 0) (.k (.c (.d (.int .i64 16)))) (.k (.c (.d (.int .i64 16)))), none⟩,
    ⟨(some 3), .mv (.t 8), none⟩])
  (.seq (.seq (.reg [⟨(some 4), .mv (.k (.c (.d (.int .i64 0)))), none⟩])
  (.block 0 (.loop lp_rdbb_0)))
  (.seq (.seq (.reg [⟨(some 37), .mv (.t 0), none⟩,
    ⟨(some 38), .idxSl 1 (.t 37) (.k (.c (.d (.int .i64 0)))), none⟩,
    ⟨(some 39), .load .sc (.t 38), none⟩,
    ⟨(some 40), .bin .shr (.t 39) (.k (.c (.d (.int .u64 7)))), none⟩,
    ⟨(some 41), .bin .eql (.t 40) (.k (.c (.d (.int .u8 1)))), none⟩])
  (.cond (.t 41) (.reg [⟨(some 42), .mv (.t 3), none⟩,
     ⟨(some 43), .mv (.t 3), none⟩,
     ⟨(some 44), .idxSl 1 (.t 43) (.k (.c (.d (.int .i64 15)))), none⟩,
     ⟨(some 45), .load .sc (.t 44), none⟩,
     ⟨(some 46), .bin .xor (.t 45) (.k (.c (.d (.int .u8 135)))), none⟩,
     ⟨(some 47), .idxSl 1 (.t 42) (.k (.c (.d (.int .i64 15)))), none⟩,
     ⟨none, .store .sc (.t 47) (.t 46), none⟩])
   (.skip)))
  (.seq (.reg [⟨(some 48), .mv (.t 3), none⟩,
    ⟨(some 2), .mv (.t 48), none⟩])
  (.ret)))))),
  [(2, none)]⟩
theorem cf_rdbb : compFn Try.prog { own := [], comp := [], frz := [], nils := [] } Try.f16 = some sf_rdbb := by kernel_rfl
set_option maxHeartbeats 1600000 in
theorem rdbb_c (G : Glob) (b : List UInt8) (hb : b.length ≤ 9223372036854775807) : Den Try.prog G 16 [.sl (b.map bD)] (.w (.c (.fr 1 ((dblL b).map bD)))) := by
  refine den_walk Try.func16 cf_rdbb rfl rfl ?_
  by_cases h : b.length = 16
  · have hd := dblL_set h
    have hl := dGL_len b
    have zl : (repL 16 (0 : UInt8)).length = 16 := repL_len _ _
    simp only [sf_rdbb, putAll, wx, wy, wz, stV, seval, IntWalk.iteOmega, IntWalk.toNatUp, reduceCtorEq, h, z16]
    refine loop_st (rdbSt b) (fun i => 16 - i) (fun i => i ≤ 16) 0 (Nat.zero_le _) ?_ ?_
    · have e1 := upL_zero (dG b) (repL 16 0)
      refine ent_l (fun i => 64) ?_ ?_ rfl rfl <;> simp only [wx, wex, wez, stV, seval, IntWalk.iteOmega, IntWalk.toNatUp, reduceCtorEq, e1]
    · intro i hi
      by_cases hlt : i < 16
      · have g1 : b[i]? = some (b.getD i 0) := get_lt (by omega)
        have hl1 := upL_len (dG b) (repL 16 0) (i := i) (by omega)
        have h3 : i < (upL (dG b) (repL 16 0) i).length := by omega
        have x1 := bl_shl (b.getD i 0) .u64 1 1 rfl (by decide)
        have hs := upL_step (dG b) (repL 16 0) (i := i) (by omega)
        by_cases h15 : i < 15
        · have g2 : b[i + 1]? = some (b.getD (i + 1) 0) := get_lt (by omega)
          have x2 := bl_shr (b.getD (i + 1) 0) .u64 7 7 rfl (by decide)
          have x3 := binV_orB (shlB (b.getD i 0) 1) (shrB (b.getD (i + 1) 0) 7)
          have hdg : orB (shlB (b.getD i 0) 1) (shrB (b.getD (i + 1) 0) 7) = dG b i := (if_pos h15).symm
          have h4 : i < ((upL (dG b) (repL 16 0) i).set i (shlB (b.getD i 0) 1)).length := by rw [List.length_set]; omega
          have g3 : ((upL (dG b) (repL 16 0) i).set i (shlB (b.getD i 0) 1))[i]? = some (shlB (b.getD i 0) 1) := List.getElem?_set_self (by omega)
          have hs2 : ((upL (dG b) (repL 16 0) i).set i (shlB (b.getD i 0) 1)).set i (dG b i) = upL (dG b) (repL 16 0) (i + 1) := by rw [List.set_set, hs]
          simp only [lp_rdbb_0, rdbSt, wx, wy, wz, stV, seval, IntWalk.iteOmega, IntWalk.toNatUp, reduceCtorEq, get_map, g1, x1, h, stO_bs h3 (one_b _), set_bs, g3, g2, x2, x3, stO_bs h4 (one_b _), hdg, hs2]
          refine lop_next (i + 1) (by omega) (by omega) (ent_l (fun i => i) ?_ ?_ rfl rfl) <;> simp only [wx, wex, wez, stV, seval, IntWalk.iteOmega, IntWalk.toNatUp, reduceCtorEq]
        · have hdg : shlB (b.getD i 0) 1 = dG b i := (if_neg h15).symm
          rw [hdg] at x1
          simp only [lp_rdbb_0, rdbSt, wx, wy, wz, stV, seval, IntWalk.iteOmega, IntWalk.toNatUp, reduceCtorEq, get_map, g1, x1, h, stO_bs h3 (one_b _), set_bs, hs]
          refine lop_next (i + 1) (by omega) (by omega) (ent_l (fun i => i) ?_ ?_ rfl rfl) <;> simp only [wx, wex, wez, stV, seval, IntWalk.iteOmega, IntWalk.toNatUp, reduceCtorEq]
      · obtain rfl : i = 16 := by omega
        have e1 : upL (dG b) (repL 16 0) 16 = dGL b := upL_full _ _ (by rw [repL_len]; decide)
        have g0 : b[0]? = some (b.getD 0 0) := get_lt (by omega)
        have x1 := bl_shr (b.getD 0 0) .u64 7 7 rfl (by decide)
        have x2 := bl_eql (shrB (b.getD 0 0) 7) 1 1 rfl
        have hr := redB_eq b
        rw [hr] at x2
        have g1 := dGL_get b (j := 15) (by decide)
        have h3 : 15 < (dGL b).length := by omega
        have hdl : (dblL b).length = 16 := dblL_len h
        have hrb : redB b = selB (bitB (b.getD 0 0) 7) 135 := rfl
        cases hb7 : bitB (b.getD 0 0) 7
        · rw [hb7] at x2 hrb
          rw [hrb, show selB false 135 = 0 from rfl, xorB_zero] at hd
          have hs : (dGL b).set 15 (dG b 15) = dGL b := by
            apply List.ext_getElem?
            intro j
            rw [List.getElem?_set]
            by_cases hj : 15 = j
            · subst hj
              rw [if_pos rfl, if_pos h3, g1]
            · rw [if_neg hj]
          rw [hs] at hd
          simp only [lp_rdbb_0, rdbSt, e1, wx, wy, wz, stV, seval, IntWalk.iteOmega, IntWalk.toNatUp, reduceCtorEq, get_map, g0, x1, x2, h, hd]
          exact ret_own (id := 1) (n := 16) (s := 1) (by simp only [wx, stV, seval, IntWalk.iteOmega, IntWalk.toNatUp, reduceCtorEq]) (by simp only [wx, stV, seval, IntWalk.iteOmega, IntWalk.toNatUp, reduceCtorEq]) (by simp [hdl])
        · rw [hb7] at x2 hrb
          rw [hrb, show selB true 135 = 135 from rfl] at hd
          have x3 := bl_xor (dG b 15) 135 135 rfl
          simp only [lp_rdbb_0, rdbSt, e1, wx, wy, wz, stV, seval, IntWalk.iteOmega, IntWalk.toNatUp, reduceCtorEq, get_map, g0, x1, x2, h, g1, x3, stO_bs h3 (one_b _), set_bs, hd]
          exact ret_own (id := 1) (n := 16) (s := 1) (by simp only [wx, stV, seval, IntWalk.iteOmega, IntWalk.toNatUp, reduceCtorEq]) (by simp only [wx, stV, seval, IntWalk.iteOmega, IntWalk.toNatUp, reduceCtorEq]) (by simp [hdl])
  · rw [dblL_no h]
    simp only [sf_rdbb, putAll, wx, wy, wz, stV, seval, IntWalk.iteOmega, IntWalk.toNatUp, reduceCtorEq]
    exact ret_f1 (by simp only [wx, wy, wz, stV, seval, IntWalk.iteOmega, IntWalk.toNatUp, reduceCtorEq])
/-! ### Lists combined -/
def xrF (a b : List UInt8) (j : Nat) : UInt8 := xorB (a.getD j 0) (b.getD j 0)
theorem xorP_up {a b : List UInt8} {n : Nat} (ha : a.length = n) (hb : b.length = n) : (List.range n).map (xrF a b) = xorP a b := by
  apply List.ext_getElem?
  intro j
  by_cases hj : j < n
  · have := xorP_get a b j (by omega) (by omega)
    have hl : j < (xorP a b).length := by rw [xorP_len]; omega
    rw [get_lt hl, this]
    simp [hj, xrF]
  · rw [List.getElem?_eq_none (by simpa using hj), List.getElem?_eq_none (by rw [xorP_len]; omega)]
def cmbSt (a b : List UInt8) (i : Nat) : St := ⟨ofL [(0, .w (.c (.d (.sl (a.map bD))))), (1, .w (.c (.d (.sl (b.map bD))))), (5, .w (.c (.own 1 1 0 16))), (9, .w (.c (.d (.int .i64 16)))), (10, .w (.c (.d (.int .i64 (i : Int)))))], hL [(1, .row 1 ((upL (xrF a b) (repL 16 0) i).map bD))], uL [1]⟩
def lp_cmb_0 : SCode :=
  .seq (.reg [⟨(some 11), .bin .lss (.t 10) (.t 9), none⟩])
  (.seq (.cond (.t 11) (.skip)
   (.exit 0))
  (.seq (.block 1 (.seq (.reg [⟨(some 12), .mv (.t 10), none⟩,
     ⟨(some 6), .mv (.t 12), none⟩])
   (.reg [⟨(some 13), .mv (.t 5), none⟩,
     ⟨(some 14), .mv (.t 6), none⟩,
     ⟨(some 15), .mv (.t 0), none⟩,
     ⟨(some 16), .mv (.t 6), none⟩,
     ⟨(some 17), .idxSl 1 (.t 15) (.t 16), none⟩,
     ⟨(some 18), .load .sc (.t 17), none⟩,
     ⟨(some 19), .mv (.t 1), none⟩,
     ⟨(some 20), .mv (.t 6), none⟩,
     ⟨(some 21), .idxSl 1 (.t 19) (.t 20), none⟩,
     ⟨(some 22), .load .sc (.t 21), none⟩,
     ⟨(some 23), .bin .xor (.t 18) (.t 22), none⟩,
     ⟨(some 24), .idxSl 1 (.t 13) (.t 14), none⟩,
     ⟨none, .store .sc (.t 24) (.t 23), none⟩])))
  (.reg [⟨(some 25), .bin .add (.t 10) (.k (.c (.d (.int .i64 1)))), none⟩,
    ⟨(some 10), .mv (.t 25), none⟩])))
def sf_cmb : SFn := ⟨2, 27,
  .seq (.reg [⟨(some 4), .mv (.k (.c .nil)), none⟩])
  (.seq (.reg [⟨(some 7), .make 1 1 (.int .u8 0) (.k (.c (.d (.int .i64 16)))) (.k (.c (.d (.int .i64 16)))), none⟩,
    ⟨(some 5), .mv (.t 7), none⟩])
  (.seq (.seq (.reg [⟨(some 8), .mv (.t 5), none⟩,
    ⟨(some 9), .len (.t 8), none⟩,
    ⟨(some 10), .mv (.k (.c (.d (.int .i64 0)))), none⟩])
  (.block 0 (.loop lp_cmb_0)))
  (.seq (.reg [⟨(some 26), .mv (.t 5), none⟩,
    ⟨(some 4), .mv (.t 26), none⟩])
  (.ret)))),
  [(4, none)]⟩
theorem cf_cmb : compFn Try.prog { own := [], comp := [], frz := [], nils := [] } Try.f40 = some sf_cmb := by kernel_rfl
set_option maxHeartbeats 1600000 in
theorem cmb_c (G : Glob) (a b : List UInt8) (ha : a.length = 16) (hb : b.length = 16) : Den Try.prog G 40 [.sl (a.map bD), .sl (b.map bD)] (.w (.c (.fr 1 ((xorP a b).map bD)))) := by
  refine den_walk Try.func40 cf_cmb rfl rfl ?_
  have zl : (repL 16 (0 : UInt8)).length = 16 := repL_len _ _
  simp only [sf_cmb, putAll, wx, wy, wz, stV, seval, IntWalk.iteOmega, IntWalk.toNatUp, reduceCtorEq, z16]
  refine loop_st (cmbSt a b) (fun i => 16 - i) (fun i => i ≤ 16) 0 (Nat.zero_le _) ?_ ?_
  · have e1 := upL_zero (xrF a b) (repL 16 0)
    refine ent_l (fun i => 56) ?_ ?_ rfl rfl <;> simp only [wx, wex, wez, stV, seval, IntWalk.iteOmega, IntWalk.toNatUp, reduceCtorEq, e1]
  · intro i hi
    by_cases hlt : i < 16
    · have g1 : a[i]? = some (a.getD i 0) := get_lt (by omega)
      have g2 : b[i]? = some (b.getD i 0) := get_lt (by omega)
      have hl1 := upL_len (xrF a b) (repL 16 0) (i := i) (by omega)
      have h3 : i < (upL (xrF a b) (repL 16 0) i).length := by omega
      have x1 := binV_xorB (a.getD i 0) (b.getD i 0)
      have hx : xorB (a.getD i 0) (b.getD i 0) = xrF a b i := rfl
      have hs := upL_step (xrF a b) (repL 16 0) (i := i) (by omega)
      simp only [lp_cmb_0, cmbSt, wx, wy, wz, stV, seval, IntWalk.iteOmega, IntWalk.toNatUp, reduceCtorEq, get_map, g1, g2, x1, ha, hb, stO_bs h3 (one_b _), set_bs, hx, hs]
      refine lop_next (i + 1) (by omega) (by omega) (ent_l (fun i => i) ?_ ?_ rfl rfl) <;> simp only [wx, wex, wez, stV, seval, IntWalk.iteOmega, IntWalk.toNatUp, reduceCtorEq]
    · obtain rfl : i = 16 := by omega
      have e1 : upL (xrF a b) (repL 16 0) 16 = xorP a b := by rw [upL_full _ _ (by rw [repL_len]; decide), xorP_up ha hb]
      have hl : (xorP a b).length = 16 := by rw [xorP_len]; exact ha
      simp only [lp_cmb_0, cmbSt, e1, wx, wy, wz, stV, seval, IntWalk.iteOmega, IntWalk.toNatUp, reduceCtorEq]
      exact ret_own (id := 1) (n := 16) (s := 1) (by simp only [wx, stV, seval, IntWalk.iteOmega, IntWalk.toNatUp, reduceCtorEq]) (by simp only [wx, stV, seval, IntWalk.iteOmega, IntWalk.toNatUp, reduceCtorEq]) (by simp [hl])
/-- The first i places combined. -/
def xorI (a b : List UInt8) (i : Nat) : List UInt8 := xorP a (b.take i)
theorem xorI_len (a b : List UInt8) (i : Nat) : (xorI a b i).length = a.length := xorP_len _ _
theorem xorI_at : ∀ (a b : List UInt8) (i : Nat), i < b.length → (xorI a b i)[i]? = a[i]?
  | [], _, _, _ => by simp [xorI, xorP]
  | x :: a, b, 0, _ => by simp [xorI, xorP_nil]
  | x :: a, [], i + 1, h => by simp at h
  | x :: a, y :: b, i + 1, h => by
    show (xorI a b i)[i]? = a[i]?
    exact xorI_at a b i (by simpa using h)
theorem xorI_step : ∀ (a b : List UInt8) (i : Nat), i < a.length → i < b.length → (xorI a b i).set i (xorB (a.getD i 0) (b.getD i 0)) = xorI a b (i + 1)
  | [], _, _, h, _ => by simp at h
  | x :: a, [], _, _, h => by simp at h
  | x :: a, y :: b, 0, _, _ => by simp [xorI, xorP_nil, xorP]
  | x :: a, y :: b, i + 1, h, g => by
    show xorB x y :: (xorI a b i).set i _ = xorB x y :: xorI a b (i + 1)
    rw [← xorI_step a b i (by simpa using h) (by simpa using g)]
    rfl
theorem xorI_end : ∀ (a b : List UInt8) (i : Nat), min a.length b.length ≤ i → xorI a b i = xorP a b
  | [], _, _, _ => by simp [xorI, xorP]
  | x :: a, [], i, _ => by simp [xorI]
  | x :: a, y :: b, 0, h => by simp at h
  | x :: a, y :: b, i + 1, h => by
    show xorB x y :: xorI a b i = xorB x y :: xorP a b
    rw [xorI_end a b i (by simp at h; omega)]
def rxrSt (a b : List UInt8) (i : Nat) : St := ⟨ofL [(1, .w (.c (.d (.sl (b.map bD))))), (5, .w (.c (.own 1 1 0 a.length))), (6, .w (.c (.d (.int .i64 (i : Int)))))], hL [(1, .row 1 ((xorI a b i).map bD))], uL [1]⟩
def lp_rxor_0 : SCode :=
  .seq (.seq (.reg [⟨(some 10), .mv (.t 6), none⟩,
    ⟨(some 11), .mv (.t 5), none⟩,
    ⟨(some 12), .len (.t 11), none⟩,
    ⟨(some 13), .bin .lss (.t 10) (.t 12), none⟩,
    ⟨(some 14), .mv (.t 13), none⟩,
    ⟨(some 15), .mv (.t 6), (some (14, true))⟩,
    ⟨(some 16), .mv (.t 1), (some (14, true))⟩,
    ⟨(some 17), .len (.t 16), (some (14, true))⟩,
    ⟨(some 18), .bin .lss (.t 15) (.t 17), (some (14, true))⟩,
    ⟨(some 19), .pick (.t 14) (.t 18) (.k (.c (.d (.bool false)))), none⟩])
  (.cond (.t 19) (.skip)
   (.exit 0)))
  (.seq (.block 1 (.reg [⟨(some 22), .mv (.t 5), none⟩,
     ⟨(some 23), .mv (.t 6), none⟩,
     ⟨(some 24), .mv (.t 5), none⟩,
     ⟨(some 25), .mv (.t 6), none⟩,
     ⟨(some 26), .idxSl 1 (.t 24) (.t 25), none⟩,
     ⟨(some 27), .load .sc (.t 26), none⟩,
     ⟨(some 28), .mv (.t 1), none⟩,
     ⟨(some 29), .mv (.t 6), none⟩,
     ⟨(some 30), .idxSl 1 (.t 28) (.t 29), none⟩,
     ⟨(some 31), .load .sc (.t 30), none⟩,
     ⟨(some 32), .bin .xor (.t 27) (.t 31), none⟩,
     ⟨(some 33), .idxSl 1 (.t 22) (.t 23), none⟩,
     ⟨none, .store .sc (.t 33) (.t 32), none⟩]))
  (.reg [⟨(some 20), .mv (.t 6), none⟩,
    ⟨(some 21), .bin .add (.t 20) (.k (.c (.d (.int .i64 1)))), none⟩,
    ⟨(some 6), .mv (.t 21), none⟩]))
def sf_rxor : SFn := ⟨2, 35,
  .seq (.reg [⟨(some 4), .mv (.k (.c .nil)), none⟩])
  (.seq (.reg [⟨(some 7), .mv (.t 0), none⟩,
    ⟨(some 8), .bldSl false 1 1 (.sl []) [(0, (.t 7))], none⟩,
    ⟨(some 9), .call 30 [(.t 8)] (some (0, 1)), none⟩,
    ⟨(some 5), .mv (.t 9), none⟩])
  (.seq (.seq (.reg [⟨(some 6), .mv (.k (.c (.d (.int .i64 0)))), none⟩])
  (.block 0 (.loop lp_rxor_0)))
  (.seq (.reg [⟨(some 34), .mv (.t 5), none⟩,
    ⟨(some 4), .mv (.t 34), none⟩])
  (.ret)))),
  [(4, none)]⟩
theorem cf_rxor : compFn Try.prog { own := [9], comp := [], frz := [], nils := [] } Try.f20 = some sf_rxor := by kernel_rfl
set_option maxHeartbeats 1600000 in
theorem rxor_c (G : Glob) (a b : List UInt8) (ha : a.length ≤ 140737488355328) (hb : b.length ≤ 9223372036854775807) : Den Try.prog G 20 [.sl (a.map bD), .sl (b.map bD)] (.w (.c (.fr 1 ((xorP a b).map bD)))) := by
  refine den_walk Try.func20 cf_rxor rfl rfl ?_
  have hj := rjoin_c G [a] (by simp) (by simp; omega)
  have hf : [a].flatten = a := by simp
  rw [hf] at hj
  simp only [sf_rxor, putAll, wx, wy, wz, stV, seval, IntWalk.iteOmega, IntWalk.toNatUp, reduceCtorEq]
  refine st_call (hj) rfl (.inl rfl) ?_
  simp only [wx, wy, wz, stV, seval, IntWalk.iteOmega, IntWalk.toNatUp, reduceCtorEq]
  obtain ⟨M, hM⟩ : ∃ M, M = min a.length b.length := ⟨_, rfl⟩
  refine loop_st (rxrSt a b) (fun i => M - i) (fun i => i ≤ M) 0 (Nat.zero_le _) ?_ ?_
  · have e1 : xorI a b 0 = a := by simp [xorI, xorP_nil]
    refine ent_l (fun i => 72) ?_ ?_ rfl rfl <;> simp only [wx, wex, wez, stV, seval, IntWalk.iteOmega, IntWalk.toNatUp, reduceCtorEq, e1]
  · intro i hi
    have hl := xorI_len a b i
    by_cases h1 : i < a.length
    · by_cases h2 : i < b.length
      · have g1 : a[i]? = some (a.getD i 0) := get_lt (by omega)
        have g2 : b[i]? = some (b.getD i 0) := get_lt (by omega)
        have g3 := xorI_at a b i h2
        rw [g1] at g3
        have h3 : i < (xorI a b i).length := by omega
        have x1 := binV_xorB (a.getD i 0) (b.getD i 0)
        have hs := xorI_step a b i h1 h2
        simp only [lp_rxor_0, rxrSt, wx, wy, wz, stV, seval, IntWalk.iteOmega, IntWalk.toNatUp, reduceCtorEq, get_map, g3, g2, x1, hl, stO_bs h3 (one_b _), set_bs, hs]
        refine lop_next (i + 1) (by omega) (by omega) (ent_l (fun i => i) ?_ ?_ rfl rfl) <;> simp only [wx, wex, wez, stV, seval, IntWalk.iteOmega, IntWalk.toNatUp, reduceCtorEq]
      · have e1 := xorI_end a b i (by omega)
        rw [e1] at hl
        simp only [lp_rxor_0, rxrSt, e1, wx, wy, wz, stV, seval, IntWalk.iteOmega, IntWalk.toNatUp, reduceCtorEq]
        exact ret_own (id := 1) (n := a.length) (s := 1) (by simp only [wx, stV, seval, IntWalk.iteOmega, IntWalk.toNatUp, reduceCtorEq]) (by simp only [wx, stV, seval, IntWalk.iteOmega, IntWalk.toNatUp, reduceCtorEq]) (by simp [hl])
    · have e1 := xorI_end a b i (by omega)
      rw [e1] at hl
      simp only [lp_rxor_0, rxrSt, e1, wx, wy, wz, stV, seval, IntWalk.iteOmega, IntWalk.toNatUp, reduceCtorEq]
      exact ret_own (id := 1) (n := a.length) (s := 1) (by simp only [wx, stV, seval, IntWalk.iteOmega, IntWalk.toNatUp, reduceCtorEq]) (by simp only [wx, stV, seval, IntWalk.iteOmega, IntWalk.toNatUp, reduceCtorEq]) (by simp [hl])
end Go.Proofs.Ytnadfnnkdnakhaa
