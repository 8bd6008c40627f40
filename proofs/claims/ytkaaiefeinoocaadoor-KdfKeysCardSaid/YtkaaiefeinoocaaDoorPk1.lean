/- Layer 3 on data: Mac in both codes. Own work. -/
import Derived.Test.YtkaaiefeinoocaaDoorPk0
set_option linter.unusedVariables false
set_option linter.unusedSimpArgs false
namespace Go.Proofs.YtkaaiefeinoocaaDoor
open Go.RowKit

/-! ### The program: a key's block, and a block with a mask -/
theorem app_fill {k : List UInt8} (l : List D) (hl : l = List.replicate 64 (D.int .u8 0)) : k.map bD ++ l.drop k.length = (fillK k).map bD := by
  subst hl
  unfold fillK
  rw [List.drop_replicate, List.map_append, rep_b]
theorem len_fill {k : List UInt8} (hk : k.length ≤ 64) (l : List D) (hl : l = List.replicate 64 (D.int .u8 0)) : k.length + (l.drop k.length).length = 64 := by
  subst hl
  rw [List.drop_replicate, List.length_replicate]; omega
def sf_blkof : SFn := ⟨1, 13,
  .seq (.reg [⟨(some 2), .allocArr [(.int .u8 0), (.int .u8 0), (.int .u8 0), (.int .u8 0), (.int .u8 0), (.int .u8 0), (.int .u8 0), (.int .u8 0), (.int .u8 0), (.int .u8 0), (.int .u8 0), (.int .u8 0), (.int .u8 0), (.int .u8 0), (.int .u8 0), (.int .u8 0), (.int .u8 0), (.int .u8 0), (.int .u8 0), (.int .u8 0), (.int .u8 0), (.int .u8 0), (.int .u8 0), (.int .u8 0), (.int .u8 0), (.int .u8 0), (.int .u8 0), (.int .u8 0), (.int .u8 0), (.int .u8 0), (.int .u8 0), (.int .u8 0), (.int .u8 0), (.int .u8 0), (.int .u8 0), (.int .u8 0), (.int .u8 0), (.int .u8 0), (.int .u8 0), (.int .u8 0), (.int .u8 0), (.int .u8 0), (.int .u8 0), (.int .u8 0), (.int .u8 0), (.int .u8 0), (.int .u8 0), (.int .u8 0), (.int .u8 0), (.int .u8 0), (.int .u8 0), (.int .u8 0), (.int .u8 0), (.int .u8 0), (.int .u8 0), (.int .u8 0), (.int .u8 0), (.int .u8 0), (.int .u8 0), (.int .u8 0), (.int .u8 0), (.int .u8 0), (.int .u8 0), (.int .u8 0)], none⟩])
  (.seq (.seq (.reg [⟨(some 4), .mv (.t 0), none⟩,
    ⟨(some 5), .len (.t 4), none⟩,
    ⟨(some 6), .bin .gtr (.t 5) (.k (.c (.d (.int .i64 64)))), none⟩])
  (.cond (.t 6) (.reg [⟨(some 7), .mv (.t 0), none⟩,
     ⟨(some 8), .call 28 [(.t 7)] none, none⟩,
     ⟨(some 0), .mv (.t 8), none⟩])
   (.skip)))
  (.seq (.reg [⟨(some 3), .allocArr [(.int .u8 0), (.int .u8 0), (.int .u8 0), (.int .u8 0), (.int .u8 0), (.int .u8 0), (.int .u8 0), (.int .u8 0), (.int .u8 0), (.int .u8 0), (.int .u8 0), (.int .u8 0), (.int .u8 0), (.int .u8 0), (.int .u8 0), (.int .u8 0), (.int .u8 0), (.int .u8 0), (.int .u8 0), (.int .u8 0), (.int .u8 0), (.int .u8 0), (.int .u8 0), (.int .u8 0), (.int .u8 0), (.int .u8 0), (.int .u8 0), (.int .u8 0), (.int .u8 0), (.int .u8 0), (.int .u8 0), (.int .u8 0), (.int .u8 0), (.int .u8 0), (.int .u8 0), (.int .u8 0), (.int .u8 0), (.int .u8 0), (.int .u8 0), (.int .u8 0), (.int .u8 0), (.int .u8 0), (.int .u8 0), (.int .u8 0), (.int .u8 0), (.int .u8 0), (.int .u8 0), (.int .u8 0), (.int .u8 0), (.int .u8 0), (.int .u8 0), (.int .u8 0), (.int .u8 0), (.int .u8 0), (.int .u8 0), (.int .u8 0), (.int .u8 0), (.int .u8 0), (.int .u8 0), (.int .u8 0), (.int .u8 0), (.int .u8 0), (.int .u8 0), (.int .u8 0)], none⟩])
  (.seq (.reg [⟨(some 9), .sliceArr 1 64 (.t 3) none none, none⟩,
    ⟨(some 10), .mv (.t 0), none⟩,
    ⟨(some 11), .copy 1 (.t 9) (.t 10), none⟩])
  (.seq (.reg [⟨(some 12), .load (.ag 64) (.t 3), none⟩,
    ⟨none, .store (.ag 64) (.t 2) (.t 12), none⟩])
  (.ret))))),
  [(2, (some (.ag 64)))]⟩
theorem cf_blkof : compFn Tryd.prog { own := [], comp := [], frz := [], nils := [] } Tryd.f27 = some sf_blkof := by kernel_rfl
set_option maxHeartbeats 1600000 in
theorem blkof_c (G : Glob) (hF : G.at 0 = some (.ra (firstK.map wD))) (hG : G.at 1 = some (.ra (constK.map wD))) (key : List UInt8) (hb : key.length ≤ 140737488355328) : Den Tryd.prog G 27 [.sl (key.map bD)] (.w (.c (.d (.agg ((blkK key).map bD))))) := by
  refine den_walk Tryd.func27 cf_blkof rfl rfl ?_
  by_cases h : 64 < key.length
  · have e : blkK key = fillK (sumK key) := by unfold blkK keyK; rw [if_pos h]
    have hl := sumK_len key
    rw [e]
    simp only [sf_blkof, putAll, wx, wy, wz, stV, seval, IntWalk.iteOmega, IntWalk.toNatUp, reduceCtorEq]
    refine st_call (sum_c G hF hG key hb) rfl (.inl rfl) ?_
    simp only [wx, wy, wz, stV, seval, IntWalk.iteOmega, IntWalk.toNatUp, reduceCtorEq]
    generalize sumK key = s at *
    have z := app_fill (k := s)
    have z2 := len_fill (k := s) (by omega)
    have ht : s.take 64 = s := List.take_of_length_le (by omega)
    have hf : (fillK s).length = 64 := fillK_len (by omega)
    simp only [wx, wy, wz, stV, seval, IntWalk.iteOmega, IntWalk.toNatUp, reduceCtorEq, ht, z, z2, hf]
    exact ret_d1 (by simp only [wx, wy, wz, stV, seval, IntWalk.iteOmega, IntWalk.toNatUp, reduceCtorEq, hf])
  · have e : blkK key = fillK key := by unfold blkK keyK; rw [if_neg h]
    rw [e]
    have z := app_fill (k := key)
    have z2 := len_fill (k := key) (by omega)
    have ht : key.take 64 = key := List.take_of_length_le (by omega)
    have hf : (fillK key).length = 64 := fillK_len (by omega)
    simp only [sf_blkof, putAll, wx, wy, wz, stV, seval, IntWalk.iteOmega, IntWalk.toNatUp, reduceCtorEq, ht, z, z2, hf]
    exact ret_d1 (by simp only [wx, wy, wz, stV, seval, IntWalk.iteOmega, IntWalk.toNatUp, reduceCtorEq, hf])

def maskL (l : List UInt8) (m : UInt8) (i : Nat) : List UInt8 := (l.take i).map (fun b => xorB b m) ++ l.drop i
theorem maskL_len (l : List UInt8) (m : UInt8) (i : Nat) : (maskL l m i).length = l.length := by
  unfold maskL; rw [List.length_append, List.length_map, ← List.length_append, List.take_append_drop]
theorem maskL_get (l : List UInt8) (m : UInt8) (i : Nat) (h : i < l.length) : (maskL l m i)[i]? = some l[i] := by
  unfold maskL
  rw [List.getElem?_append_right (by rw [List.length_map, List.length_take]; omega), List.getElem?_drop, List.length_map, List.length_take]
  rw [show i + (i - min i l.length) = i by omega, List.getElem?_eq_getElem h]
theorem maskL_step (l : List UInt8) (m : UInt8) (i : Nat) (h : i < l.length) : (maskL l m i).set i (xorB l[i] m) = maskL l m (i + 1) := by
  unfold maskL
  rw [List.set_append_right _ _ (by rw [List.length_map, List.length_take]; omega), List.length_map, List.length_take, show i - min i l.length = 0 by omega, List.drop_eq_getElem_cons h, List.set_cons_zero, List.take_succ_eq_append_getElem h, List.map_append, List.append_assoc]
  rfl
theorem maskL_zero (l : List UInt8) (m : UInt8) : maskL l m 0 = l := by simp [maskL]
theorem maskL_full (l : List UInt8) (m : UInt8) (i : Nat) (h : l.length ≤ i) : maskL l m i = l.map fun b => xorB b m := by
  unfold maskL
  rw [List.take_of_length_le h, List.drop_eq_nil_of_le h, List.append_nil]
def maskSt (l : List UInt8) (m : UInt8) (i : Nat) : St := ⟨ofL [(1, .w (.c (.d (bD m)))), (2, .w (.c (.pa 1 1))), (6, .w (.c (.d (.int .i64 (i : Int)))))], hL [(1, .row 1 ((maskL l m i).map bD))], uL [1]⟩
def lp_masked_0 : SCode :=
  .seq (.reg [⟨(some 7), .bin .lss (.t 6) (.k (.c (.d (.int .i64 64)))), none⟩])
  (.seq (.cond (.t 7) (.skip)
   (.exit 0))
  (.seq (.block 1 (.seq (.reg [⟨(some 8), .mv (.t 6), none⟩,
     ⟨(some 5), .mv (.t 8), none⟩])
   (.reg [⟨(some 9), .mv (.t 5), none⟩,
     ⟨(some 10), .idxPa 1 64 (.t 2) (.t 9), none⟩,
     ⟨(some 11), .load .sc (.t 10), none⟩,
     ⟨(some 12), .mv (.t 1), none⟩,
     ⟨(some 13), .bin .xor (.t 11) (.t 12), none⟩,
     ⟨(some 14), .idxPa 1 64 (.t 2) (.t 9), none⟩,
     ⟨none, .store .sc (.t 14) (.t 13), none⟩])))
  (.reg [⟨(some 15), .bin .add (.t 6) (.k (.c (.d (.int .i64 1)))), none⟩,
    ⟨(some 6), .mv (.t 15), none⟩])))
def sf_masked : SFn := ⟨2, 17,
  .seq (.reg [⟨(some 2), .box .ownArr (.t 0), none⟩,
    ⟨(some 4), .mv (.k (.c .nil)), none⟩])
  (.seq (.seq (.reg [⟨(some 6), .mv (.k (.c (.d (.int .i64 0)))), none⟩])
  (.block 0 (.loop lp_masked_0)))
  (.seq (.reg [⟨(some 16), .sliceArr 1 64 (.t 2) none none, none⟩,
    ⟨(some 4), .mv (.t 16), none⟩])
  (.ret))),
  [(4, none)]⟩
theorem cf_masked : compFn Tryd.prog { own := [2], comp := [], frz := [], nils := [] } Tryd.f29 = some sf_masked := by kernel_rfl
set_option maxHeartbeats 1600000 in
theorem masked_c (G : Glob) (l : List UInt8) (hl : l.length = 64) (m : UInt8) : Den Tryd.prog G 29 [.agg (l.map bD), bD m] (.w (.c (.fr 1 ((l.map fun b => xorB b m).map bD)))) := by
  refine den_walk Tryd.func29 cf_masked rfl rfl ?_
  simp only [sf_masked, putAll, wx, wy, wz, stV, seval, IntWalk.iteOmega, IntWalk.toNatUp, reduceCtorEq]
  refine loop_st (maskSt l m) (fun i => 64 - i) (fun i => i ≤ 64) 0 (Nat.zero_le _) ?_ ?_
  · refine ent_l (fun _ => 16) ?_ ?_ rfl rfl <;> simp only [wx, wex, wez, stV, seval, IntWalk.iteOmega, IntWalk.toNatUp, reduceCtorEq, maskL_zero]
  · intro i hi
    have hm := maskL_len l m i
    by_cases hlt : i < 64
    · have h1 := maskL_get l m i (by omega)
      have h2 := maskL_step l m i (by omega)
      have h3 : i < (maskL l m i).length := by omega
      simp only [lp_masked_0, maskSt, wx, wy, wz, stV, seval, IntWalk.iteOmega, IntWalk.toNatUp, reduceCtorEq, get_map, h1, binV_xorB, stO_bs h3 (one_b _), set_bs, h2]
      refine lop_next (i + 1) (by omega) (by omega) (ent_l (fun _ => 1) ?_ ?_ rfl rfl) <;> simp only [wx, wex, wez, stV, seval, IntWalk.iteOmega, IntWalk.toNatUp, reduceCtorEq]
    · obtain rfl : i = 64 := by omega
      have h1 := maskL_full l m 64 (by omega)
      simp only [lp_masked_0, maskSt, wx, wy, wz, stV, seval, IntWalk.iteOmega, IntWalk.toNatUp, reduceCtorEq, h1, hl]
      exact ret_own (id := 1) (n := 64) (s := 1) (by simp only [wx, stV, seval, IntWalk.iteOmega, IntWalk.toNatUp, reduceCtorEq]) (by simp only [wx, stV, seval, IntWalk.iteOmega, IntWalk.toNatUp, reduceCtorEq]) (by simp [hl])
def sf_mac : SFn := ⟨2, 21,
  .seq (.reg [⟨(some 4), .mv (.k (.c .nil)), none⟩])
  (.seq (.reg [⟨(some 7), .mv (.t 0), none⟩,
    ⟨(some 8), .call 27 [(.t 7)] none, none⟩,
    ⟨(some 5), .allocArr [(.int .u8 0), (.int .u8 0), (.int .u8 0), (.int .u8 0), (.int .u8 0), (.int .u8 0), (.int .u8 0), (.int .u8 0), (.int .u8 0), (.int .u8 0), (.int .u8 0), (.int .u8 0), (.int .u8 0), (.int .u8 0), (.int .u8 0), (.int .u8 0), (.int .u8 0), (.int .u8 0), (.int .u8 0), (.int .u8 0), (.int .u8 0), (.int .u8 0), (.int .u8 0), (.int .u8 0), (.int .u8 0), (.int .u8 0), (.int .u8 0), (.int .u8 0), (.int .u8 0), (.int .u8 0), (.int .u8 0), (.int .u8 0), (.int .u8 0), (.int .u8 0), (.int .u8 0), (.int .u8 0), (.int .u8 0), (.int .u8 0), (.int .u8 0), (.int .u8 0), (.int .u8 0), (.int .u8 0), (.int .u8 0), (.int .u8 0), (.int .u8 0), (.int .u8 0), (.int .u8 0), (.int .u8 0), (.int .u8 0), (.int .u8 0), (.int .u8 0), (.int .u8 0), (.int .u8 0), (.int .u8 0), (.int .u8 0), (.int .u8 0), (.int .u8 0), (.int .u8 0), (.int .u8 0), (.int .u8 0), (.int .u8 0), (.int .u8 0), (.int .u8 0), (.int .u8 0)], none⟩,
    ⟨none, .store (.ag 64) (.t 5) (.t 8), none⟩])
  (.seq (.reg [⟨(some 9), .load (.ag 64) (.t 5), none⟩,
    ⟨(some 10), .call 29 [(.t 9), (.k (.c (.d (.int .u8 54))))] none, none⟩,
    ⟨(some 11), .mv (.t 1), none⟩,
    ⟨(some 12), .bldSl false 2 1 (.sl []) [(0, (.t 10)), (1, (.t 11))], none⟩,
    ⟨(some 13), .call 25 [(.t 12)] none, none⟩,
    ⟨(some 14), .call 28 [(.t 13)] none, none⟩,
    ⟨(some 6), .mv (.t 14), none⟩])
  (.seq (.reg [⟨(some 15), .load (.ag 64) (.t 5), none⟩,
    ⟨(some 16), .call 29 [(.t 15), (.k (.c (.d (.int .u8 92))))] none, none⟩,
    ⟨(some 17), .mv (.t 6), none⟩,
    ⟨(some 18), .bldSl false 2 1 (.sl []) [(0, (.t 16)), (1, (.t 17))], none⟩,
    ⟨(some 19), .call 25 [(.t 18)] none, none⟩,
    ⟨(some 20), .call 28 [(.t 19)] (some (0, 1)), none⟩,
    ⟨(some 4), .mv (.t 20), none⟩])
  (.ret)))),
  [(4, none)]⟩
theorem cf_mac : compFn Tryd.prog { own := [20], comp := [], frz := [], nils := [] } Tryd.f14 = some sf_mac := by kernel_rfl
set_option maxHeartbeats 1600000 in
theorem mac_c (G : Glob) (hF : G.at 0 = some (.ra (firstK.map wD))) (hG : G.at 1 = some (.ra (constK.map wD))) (key b : List UInt8) (hk : key.length ≤ 140737488355328) (hb : b.length ≤ 70368744177664) : Den Tryd.prog G 14 [.sl (key.map bD), .sl (b.map bD)] (.w (.c (.fr 1 ((macK key b).map bD)))) := by
  refine den_walk Tryd.func14 cf_mac rfl rfl ?_
  have h1 := join_c G [mixK key 54, b] (by simp) (by simp [mixK_len]; omega)
  have h2 := join_c G [mixK key 92, sumK (mixK key 54 ++ b)] (by simp) (by simp [mixK_len, sumK_len])
  have f1 : [mixK key 54, b].flatten = mixK key 54 ++ b := by simp
  have f2 : [mixK key 92, sumK (mixK key 54 ++ b)].flatten = mixK key 92 ++ sumK (mixK key 54 ++ b) := by simp
  rw [f1] at h1
  rw [f2] at h2
  have hl := blkK_len key
  have hm1 : (mixK key 54 ++ b).length ≤ 140737488355328 := by rw [List.length_append, mixK_len]; omega
  have hm2 : (mixK key 92 ++ sumK (mixK key 54 ++ b)).length ≤ 140737488355328 := by rw [List.length_append, mixK_len, sumK_len]; decide
  have hs := sumK_len (mixK key 92 ++ sumK (mixK key 54 ++ b))
  have hmac : macK key b = sumK (mixK key 92 ++ sumK (mixK key 54 ++ b)) := rfl
  rw [hmac]
  simp only [sf_mac, putAll, wx, wy, wz, stV, seval, IntWalk.iteOmega, IntWalk.toNatUp, reduceCtorEq]
  refine st_call (blkof_c G hF hG key hk) rfl (.inl rfl) ?_
  simp only [wx, wy, wz, stV, seval, IntWalk.iteOmega, IntWalk.toNatUp, reduceCtorEq]
  refine st_call (masked_c G (blkK key) hl 54) rfl (.inl rfl) ?_
  simp only [wx, wy, wz, stV, seval, IntWalk.iteOmega, IntWalk.toNatUp, reduceCtorEq]
  refine st_call (h1) rfl (.inl rfl) ?_
  simp only [wx, wy, wz, stV, seval, IntWalk.iteOmega, IntWalk.toNatUp, reduceCtorEq]
  refine st_call (sum_c G hF hG _ hm1) rfl (.inl rfl) ?_
  simp only [wx, wy, wz, stV, seval, IntWalk.iteOmega, IntWalk.toNatUp, reduceCtorEq]
  refine st_call (masked_c G (blkK key) hl 92) rfl (.inl rfl) ?_
  simp only [wx, wy, wz, stV, seval, IntWalk.iteOmega, IntWalk.toNatUp, reduceCtorEq]
  refine st_call (h2) rfl (.inl rfl) ?_
  simp only [wx, wy, wz, stV, seval, IntWalk.iteOmega, IntWalk.toNatUp, reduceCtorEq]
  refine st_call (sum_c G hF hG _ hm2) rfl (.inl rfl) ?_
  simp only [wx, wy, wz, stV, seval, IntWalk.iteOmega, IntWalk.toNatUp, reduceCtorEq]
  exact ret_f1 (by simp only [wx, wy, wz, stV, seval, IntWalk.iteOmega, IntWalk.toNatUp, reduceCtorEq])

/-! ### The reference -/
def mixS (k : List UInt8) (x : UInt8) (i : Nat) : List UInt8 := ((fillK k).take i).map (fun b => xorB b x) ++ List.replicate (64 - i) 0
theorem mixS_len {k : List UInt8} (hk : k.length ≤ 64) (x : UInt8) (i : Nat) (hi : i ≤ 64) : (mixS k x i).length = 64 := by
  unfold mixS
  rw [List.length_append, List.length_map, List.length_take, fillK_len hk, List.length_replicate]; omega
theorem mixS_get {k : List UInt8} (hk : k.length ≤ 64) (x : UInt8) (i : Nat) (hi : i < 64) : (mixS k x i)[i]? = some 0 := by
  unfold mixS
  rw [List.getElem?_append_right (by rw [List.length_map, List.length_take]; omega), List.length_map, List.length_take, fillK_len hk, List.getElem?_replicate, if_pos (by omega)]
theorem mixS_step {k : List UInt8} (hk : k.length ≤ 64) (x a : UInt8) (i : Nat) (hi : i < 64) (ha : (fillK k)[i]? = some a) : (mixS k x i).set i (xorB a x) = mixS k x (i + 1) := by
  have h := set_next (((fillK k).take i).map (fun b => xorB b x)) 0 (xorB a x) (64 - i) (by omega)
  have hl : (((fillK k).take i).map (fun b => xorB b x)).length = i := by rw [List.length_map, List.length_take, fillK_len hk]; omega
  rw [hl] at h
  unfold mixS
  rw [h, List.take_add_one, ha, List.map_append]
  rfl
theorem fill_lo (k : List UInt8) (i : Nat) (h : i < k.length) : (fillK k)[i]? = some k[i] := by
  unfold fillK
  rw [List.getElem?_append_left h, List.getElem?_eq_getElem h]
theorem fill_hi (k : List UInt8) (i : Nat) (h : k.length ≤ i) (h2 : i < 64) : (fillK k)[i]? = some 0 := by
  unfold fillK
  rw [List.getElem?_append_right h, List.getElem?_replicate, if_pos (by omega)]
theorem mixS_zero (k : List UInt8) (x : UInt8) : mixS k x 0 = List.replicate 64 0 := by simp [mixS]
theorem mixS_full {k : List UInt8} (hk : k.length ≤ 64) (x : UInt8) : mixS k x 64 = (fillK k).map fun b => xorB b x := by
  unfold mixS
  rw [List.take_of_length_le (by rw [fillK_len hk]; exact Nat.le_refl _), Nat.sub_self, List.replicate_zero, List.append_nil]
def mixSt (k : List UInt8) (x : UInt8) (i : Nat) : St := ⟨ofL [(0, .w (.c (.d (.sl (k.map bD))))), (1, .w (.c (.d (bD x)))), (5, .w (.c (.own 1 1 0 64))), (6, .w (.c (.d (.int .i64 (i : Int)))))], hL [(1, .row 1 ((mixS k x i).map bD))], uL [1]⟩
def lp_mixed_0 : SCode :=
  .seq (.seq (.reg [⟨(some 13), .mv (.t 6), none⟩,
    ⟨(some 14), .bin .lss (.t 13) (.k (.c (.d (.int .i64 64)))), none⟩])
  (.cond (.t 14) (.skip)
   (.exit 0)))
  (.seq (.block 1 (.seq (.seq (.reg [⟨(some 17), .mv (.t 6), none⟩,
     ⟨(some 18), .mv (.t 0), none⟩,
     ⟨(some 19), .len (.t 18), none⟩,
     ⟨(some 20), .bin .lss (.t 17) (.t 19), none⟩])
   (.cond (.t 20) (.reg [⟨(some 21), .mv (.t 5), none⟩,
      ⟨(some 22), .mv (.t 6), none⟩,
      ⟨(some 23), .mv (.t 0), none⟩,
      ⟨(some 24), .mv (.t 6), none⟩,
      ⟨(some 25), .idxSl 1 (.t 23) (.t 24), none⟩,
      ⟨(some 26), .load .sc (.t 25), none⟩,
      ⟨(some 27), .idxSl 1 (.t 21) (.t 22), none⟩,
      ⟨none, .store .sc (.t 27) (.t 26), none⟩])
    (.skip)))
   (.reg [⟨(some 28), .mv (.t 5), none⟩,
     ⟨(some 29), .mv (.t 6), none⟩,
     ⟨(some 30), .mv (.t 5), none⟩,
     ⟨(some 31), .mv (.t 6), none⟩,
     ⟨(some 32), .idxSl 1 (.t 30) (.t 31), none⟩,
     ⟨(some 33), .load .sc (.t 32), none⟩,
     ⟨(some 34), .mv (.t 1), none⟩,
     ⟨(some 35), .bin .xor (.t 33) (.t 34), none⟩,
     ⟨(some 36), .idxSl 1 (.t 28) (.t 29), none⟩,
     ⟨none, .store .sc (.t 36) (.t 35), none⟩])))
  (.reg [⟨(some 15), .mv (.t 6), none⟩,
    ⟨(some 16), .bin .add (.t 15) (.k (.c (.d (.int .i64 1)))), none⟩,
    ⟨(some 6), .mv (.t 16), none⟩]))
def sf_mixed : SFn := ⟨2, 38,
  .seq (.reg [⟨(some 4), .mv (.k (.c .nil)), none⟩])
  (.seq (.seq (.reg [⟨(some 7), .mv (.t 0), none⟩,
    ⟨(some 8), .len (.t 7), none⟩,
    ⟨(some 9), .bin .gtr (.t 8) (.k (.c (.d (.int .i64 64)))), none⟩])
  (.cond (.t 9) (.reg [⟨(some 10), .mv (.t 0), none⟩,
     ⟨(some 11), .call 30 [(.t 10)] none, none⟩,
     ⟨(some 0), .mv (.t 11), none⟩])
   (.skip)))
  (.seq (.reg [⟨(some 12), .make 1 1 (.int .u8 0) (.k (.c (.d (.int .i64 64)))) (.k (.c (.d (.int .i64 64)))), none⟩,
    ⟨(some 5), .mv (.t 12), none⟩])
  (.seq (.seq (.reg [⟨(some 6), .mv (.k (.c (.d (.int .i64 0)))), none⟩])
  (.block 0 (.loop lp_mixed_0)))
  (.seq (.reg [⟨(some 37), .mv (.t 5), none⟩,
    ⟨(some 4), .mv (.t 37), none⟩])
  (.ret))))),
  [(4, none)]⟩
theorem cf_mixed : compFn Tryd.prog { own := [], comp := [], frz := [], nils := [] } Tryd.f31 = some sf_mixed := by kernel_rfl
set_option maxHeartbeats 1600000 in
theorem mixed_l (G : Glob) (k : List UInt8) (hk : k.length ≤ 64) (x : UInt8) (Q : AX → St → Prop) (σ : St) (he : Ent σ (mixSt k x 0)) (hq : ∀ f, f 5 = .w (.c (.own 1 1 0 64)) → Q (.ex 0) ⟨f, hL [(1, .row 1 (((fillK k).map fun b => xorB b x).map bD))], uL [1]⟩) : awp Tryd.prog G (.loop lp_mixed_0) Q σ := by
  refine loop_st (mixSt k x) (fun i => 64 - i) (fun i => i ≤ 64) 0 (Nat.zero_le _) he ?_
  intro i hi
  have hl := mixS_len hk x i hi
  by_cases hlt : i < 64
  · have h1 := mixS_get hk x i hlt
    have h3 : i < (mixS k x i).length := by omega
    by_cases hkl : i < k.length
    · have h2 := mixS_step hk x k[i] i hlt (fill_lo k i hkl)
      have e2 : k[i]? = some k[i] := List.getElem?_eq_getElem hkl
      have h4 : ((mixS k x i).set i k[i])[i]? = some k[i] := by rw [List.getElem?_set_self h3]
      have h5 : i < ((mixS k x i).set i k[i]).length := by rw [List.length_set]; exact h3
      simp only [lp_mixed_0, mixSt, wx, wy, wz, stV, seval, IntWalk.iteOmega, IntWalk.toNatUp, reduceCtorEq, get_map, h1, e2, stO_bs h3 (one_b _), set_bs, h4, stO_bs h5 (one_b _), List.set_set, h2]
      refine lop_next (i + 1) (by omega) (by omega) (ent_l (fun _ => 1) ?_ ?_ rfl rfl) <;> simp only [wx, wex, wez, stV, seval, IntWalk.iteOmega, IntWalk.toNatUp, reduceCtorEq]
    · have h2 := mixS_step hk x 0 i hlt (fill_hi k i (by omega) hlt)
      simp only [lp_mixed_0, mixSt, wx, wy, wz, stV, seval, IntWalk.iteOmega, IntWalk.toNatUp, reduceCtorEq, get_map, h1, stO_bs h3 (one_b _), set_bs, h2]
      refine lop_next (i + 1) (by omega) (by omega) (ent_l (fun _ => 1) ?_ ?_ rfl rfl) <;> simp only [wx, wex, wez, stV, seval, IntWalk.iteOmega, IntWalk.toNatUp, reduceCtorEq]
  · obtain rfl : i = 64 := by omega
    simp only [lp_mixed_0, mixSt, wx, wy, wz, stV, seval, IntWalk.iteOmega, IntWalk.toNatUp, reduceCtorEq, mixS_full hk x]
    exact hq _ (by simp only [wx, wy, wz, stV, seval, IntWalk.iteOmega, IntWalk.toNatUp, reduceCtorEq])
set_option maxHeartbeats 1600000 in
theorem mixed_c (G : Glob) (key : List UInt8) (hb : key.length ≤ 140737488355328) (x : UInt8) : Den Tryd.prog G 31 [.sl (key.map bD), bD x] (.w (.c (.fr 1 ((mixK key x).map bD)))) := by
  refine den_walk Tryd.func31 cf_mixed rfl rfl ?_
  by_cases h : 64 < key.length
  · have e : mixK key x = (fillK (sumK key)).map fun b => xorB b x := by unfold mixK blkK keyK; rw [if_pos h]
    have hl := sumK_len key
    rw [e]
    simp only [sf_mixed, putAll, wx, wy, wz, stV, seval, IntWalk.iteOmega, IntWalk.toNatUp, reduceCtorEq]
    refine st_call (rsum_c G key hb) rfl (.inl rfl) ?_
    simp only [wx, wy, wz, stV, seval, IntWalk.iteOmega, IntWalk.toNatUp, reduceCtorEq]
    generalize sumK key = s at *
    refine mixed_l G s (by omega) x _ _ (ent_l (fun _ => 96) ?_ ?_ rfl rfl) fun f hf => ?_
    · simp only [wx, wex, wez, stV, seval, IntWalk.iteOmega, IntWalk.toNatUp, reduceCtorEq]
    · simp only [wx, wex, wez, stV, seval, IntWalk.iteOmega, IntWalk.toNatUp, reduceCtorEq, mixS_zero]
      rfl
    · simp only [wx, wy, wz, stV, seval, IntWalk.iteOmega, IntWalk.toNatUp, reduceCtorEq, hf]
      exact ret_own (id := 1) (n := 64) (s := 1) (by simp only [wx, stV, seval, IntWalk.iteOmega, IntWalk.toNatUp, reduceCtorEq, hf]) (by simp only [wx, stV, seval, IntWalk.iteOmega, IntWalk.toNatUp, reduceCtorEq]) (by rw [List.length_map, List.length_map, fillK_len (by omega)])
  · have e : mixK key x = (fillK key).map fun b => xorB b x := by unfold mixK blkK keyK; rw [if_neg h]
    rw [e]
    simp only [sf_mixed, putAll, wx, wy, wz, stV, seval, IntWalk.iteOmega, IntWalk.toNatUp, reduceCtorEq]
    refine mixed_l G key (by omega) x _ _ (ent_l (fun _ => 96) ?_ ?_ rfl rfl) fun f hf => ?_
    · simp only [wx, wex, wez, stV, seval, IntWalk.iteOmega, IntWalk.toNatUp, reduceCtorEq]
    · simp only [wx, wex, wez, stV, seval, IntWalk.iteOmega, IntWalk.toNatUp, reduceCtorEq, mixS_zero]
      rfl
    · simp only [wx, wy, wz, stV, seval, IntWalk.iteOmega, IntWalk.toNatUp, reduceCtorEq, hf]
      exact ret_own (id := 1) (n := 64) (s := 1) (by simp only [wx, stV, seval, IntWalk.iteOmega, IntWalk.toNatUp, reduceCtorEq, hf]) (by simp only [wx, stV, seval, IntWalk.iteOmega, IntWalk.toNatUp, reduceCtorEq]) (by rw [List.length_map, List.length_map, fillK_len (by omega)])
end Go.Proofs.YtkaaiefeinoocaaDoor
