/- Layer 4 on data: all round keys, a block, in the program. Own work. -/
import Derived.Test.YtnadfnnkdnakhaaPc6
set_option linter.unusedVariables false
set_option linter.unusedSimpArgs false
namespace Go.Proofs.Ytnadfnnkdnakhaa
open Go.RowKit

def expdSt (key : List UInt8) (i : Nat) : St := ⟨ofL [(2, .w (.c (.ptr 2 1 0 0))), (3, .w (.c (.ptr 1 1 0 0))), (4, .w (.c (.d (bD (conK i))))), (5, .w (.c (.d (.int .i64 ((i + 1 : Nat) : Int)))))], hL [(1, .box ((rkP key i).map bC)), (2, .box ((repL 176 (0 : UInt8)).map bC))], uL [1, 2]⟩
theorem con0 : conK 0 = 1 := rfl
def lp_expd_0 : SCode :=
  .seq (.seq (.reg [⟨(some 10), .mv (.t 5), none⟩,
    ⟨(some 11), .bin .leq (.t 10) (.k (.c (.d (.int .i64 10)))), none⟩])
  (.cond (.t 11) (.skip)
   (.exit 0)))
  (.seq (.block 1 (.seq (.reg [⟨(some 14), .mv (.t 5), none⟩,
     ⟨(some 15), .mv (.t 5), none⟩,
     ⟨(some 16), .bin .sub (.t 15) (.k (.c (.d (.int .i64 1)))), none⟩,
     ⟨(some 17), .idxPa 16 11 (.t 3) (.t 16), none⟩,
     ⟨(some 18), .load (.ag 16) (.t 17), none⟩,
     ⟨(some 19), .mv (.t 4), none⟩,
     ⟨(some 20), .call 51 [(.t 18), (.t 19)] none, none⟩,
     ⟨(some 21), .idxPa 16 11 (.t 3) (.t 14), none⟩,
     ⟨none, .store (.ag 16) (.t 21) (.t 20), none⟩])
   (.reg [⟨(some 22), .mv (.t 4), none⟩,
     ⟨(some 23), .call 52 [(.t 22)] none, none⟩,
     ⟨(some 4), .mv (.t 23), none⟩])))
  (.reg [⟨(some 12), .mv (.t 5), none⟩,
    ⟨(some 13), .bin .add (.t 12) (.k (.c (.d (.int .i64 1)))), none⟩,
    ⟨(some 5), .mv (.t 13), none⟩]))
def sf_expd : SFn := ⟨1, 25,
  .seq (.reg [⟨(some 2), .alloc (repL 176 (.d (.int .u8 0))), none⟩])
  (.seq (.reg [⟨(some 3), .alloc (repL 176 (.d (.int .u8 0))), none⟩])
  (.seq (.reg [⟨(some 6), .idxPa 16 11 (.t 3) (.k (.c (.d (.int .i64 0)))), none⟩,
    ⟨(some 7), .sliceArr 1 16 (.t 6) none none, none⟩,
    ⟨(some 8), .mv (.t 0), none⟩,
    ⟨(some 9), .copy 1 (.t 7) (.t 8), none⟩])
  (.seq (.reg [⟨(some 4), .mv (.k (.c (.d (.int .u8 1)))), none⟩])
  (.seq (.seq (.reg [⟨(some 5), .mv (.k (.c (.d (.int .i64 1)))), none⟩])
  (.block 0 (.loop lp_expd_0)))
  (.seq (.reg [⟨(some 24), .load (.ag 176) (.t 3), none⟩,
    ⟨none, .store (.ag 176) (.t 2) (.t 24), none⟩])
  (.ret)))))),
  [(2, (some (.ag 176)))]⟩
theorem cf_expd : compFn Try.prog { own := [], comp := [], frz := [], nils := [] } Try.f35 = some sf_expd := by kernel_rfl
set_option maxHeartbeats 3200000 in
theorem expd_c (G : Glob) (key : List UInt8) (h : key.length = 16) : Den Try.prog G 35 [.sl (key.map bD)] (.w (.c (.d (.agg ((rkK key).map bD))))) := by
  refine den_walk Try.func35 cf_expd rfl rfl ?_
  have ht : key.take 16 = key := List.take_of_length_le (by omega)
  have h0 : key ++ List.drop key.length (repL 176 (0 : UInt8)) = rkP key 0 := by rw [← rkP_zero h]; simp [setR]
  have hid := ids_bC (rkP key 0)
  have hid2 := ids_bC (repL 176 (0 : UInt8))
  simp only [sf_expd, putAll, wx, wy, wz, stV, seval, IntWalk.iteOmega, IntWalk.toNatUp, reduceCtorEq, repL_bC, len_map, repL_len, take_map, ht, flat_bs, map_C, setR_map, h0]
  refine loop_st (expdSt key) (fun i => 10 - i) (fun i => i ≤ 10) 0 (Nat.zero_le _) ?_ ?_
  · refine ent_l (fun i => if i = 1 then 24 else 16) ?_ ?_ rfl (by simp [V.ids, W.ids, C.ids, Ob.ids, ids_bC]) <;> simp only [wx, wex, wez, stV, seval, IntWalk.iteOmega, IntWalk.toNatUp, reduceCtorEq, con0, bD1, ren_bC, ids_bC]
  · intro i hi
    have hl := rkP_len h hi
    by_cases hlt : i < 10
    · have g1 := rkP_part h hi
      have h5 : List.take ((i + 1) * 16) (rkP key i) ++ folL (kb key i) (conK i) ++ List.drop ((i + 1) * 16 + 16) (rkP key i) = rkP key (i + 1) := by
        rw [← rkP_step h hlt]; unfold setR; rw [folL_len]
      have hf := folL_len (kb key i) (conK i)
      have hx : xtB (conK i) = conK (i + 1) := rfl
      have s1 : ((i : Int) + 1 - 1).toNat = i := by omega
      simp only [lp_expd_0, expdSt, wx, wy, wz, stV, seval, IntWalk.iteOmega, IntWalk.toNatUp, reduceCtorEq, len_map, hl, take_map, drop_map, g1, allD_bs]
      refine st_call (fol_c G (kb key i) (conK i) (kb_len h i)) rfl (.inl rfl) ?_
      simp only [len_map, hl, map_C, hf, take_map, drop_map, app_map, h5, wx, wy, wz, stV, seval, IntWalk.iteOmega, IntWalk.toNatUp, reduceCtorEq]
      refine st_call (dbl_c G (conK i)) rfl (.inl rfl) ?_
      simp only [hx, wx, wy, wz, stV, seval, IntWalk.iteOmega, IntWalk.toNatUp, reduceCtorEq]
      refine lop_next (i + 1) (by omega) (by omega) (ent_l (fun i => i) ?_ ?_ rfl (by simp [V.ids, W.ids, C.ids, Ob.ids, ids_bC])) <;> simp only [wx, wex, wez, stV, seval, IntWalk.iteOmega, IntWalk.toNatUp, reduceCtorEq, ren_bC, ids_bC]
    · obtain rfl : i = 10 := by omega
      have e := rkP_full key
      have e2 := rkK_len h
      rw [e] at hl
      have t1 : (rkK key).take 176 = rkK key := List.take_of_length_le (by omega)
      have t2 : List.drop 176 (repL 176 (0 : UInt8)) = [] := List.drop_eq_nil_of_le (by rw [repL_len]; omega)
      have t3 : rkK key ++ List.drop (rkK key).length (repL 176 (0 : UInt8)) = rkK key := by rw [e2, t2, List.append_nil]
      simp only [lp_expd_0, expdSt, e, wx, wy, wz, stV, seval, IntWalk.iteOmega, IntWalk.toNatUp, reduceCtorEq, len_map, hl, e2, t1, t2, t3, allD_bs, map_C, repL_len, take_map, drop_map, app_map, List.append_nil]
      exact ret_d1 (by simp only [wx, wy, wz, stV, seval, IntWalk.iteOmega, IntWalk.toNatUp, reduceCtorEq, len_map, hl, e2, t1, t2, t3, allD_bs, map_C, repL_len, take_map, drop_map, app_map, List.append_nil])
theorem allDn_bs (l : List UInt8) : allDn ((l.map bD).map C.d) = some (l.map bD) := by
  induction l with
  | nil => rfl
  | cons x l ih =>
    show allDn (C.d (bD x) :: (l.map bD).map C.d) = _
    simp only [allDn, ih, List.map_cons, Option.map_some]
/-! ### A block -/
theorem addL_enc (rk b : List UInt8) (hb : b.length = 16) : addL b (toL (keyF rk 0)) = toL (encF (keyF rk) (ofB16 b) 0) := by
  have := addL_toL (ofB16 b) (keyF rk 0)
  rw [toL_of hb] at this
  exact this
theorem rnd_enc (rk b : List UInt8) {n : Nat} (h : n + 1 < 10) : addL (mixL (subL (toL (encF (keyF rk) (ofB16 b) n)))) (toL (keyF rk (n + 1))) = toL (encF (keyF rk) (ofB16 b) (n + 1)) := by
  rw [subL_toL, mixL_toL, addL_toL]
  show _ = toL (roundF _ _ _)
  unfold roundF
  rw [if_pos h]
theorem last_enc (rk b : List UInt8) : addL (subL (toL (encF (keyF rk) (ofB16 b) 9))) (toL (keyF rk 10)) = encK rk b := by
  rw [subL_toL, addL_toL]
  rfl
def encSt (rk b : List UInt8) (i : Nat) : St := ⟨ofL [(2, .w (.c (.rp (rk.map bD)))), (4, .w (.c (.pa 2 1))), (5, .w (.c (.pa 1 1))), (6, .w (.c (.d (.int .i64 ((i + 1 : Nat) : Int)))))], hL [(1, .row 1 ((toL (encF (keyF rk) (ofB16 b) i)).map bD)), (2, .row 1 ((repL 16 (0 : UInt8)).map bD))], uL [1, 2]⟩
def lp_encd_0 : SCode :=
  .seq (.seq (.reg [⟨(some 14), .mv (.t 6), none⟩,
    ⟨(some 15), .bin .lss (.t 14) (.k (.c (.d (.int .i64 10)))), none⟩])
  (.cond (.t 15) (.skip)
   (.exit 0)))
  (.seq (.block 1 (.reg [⟨(some 18), .load (.ag 16) (.t 5), none⟩,
     ⟨(some 19), .call 50 [(.t 18)] none, none⟩,
     ⟨(some 20), .call 49 [(.t 19)] none, none⟩,
     ⟨(some 21), .mv (.t 6), none⟩,
     ⟨(some 22), .idxPa 16 11 (.t 2) (.t 21), none⟩,
     ⟨(some 23), .load (.ag 16) (.t 22), none⟩,
     ⟨(some 24), .call 48 [(.t 20), (.t 23)] none, none⟩,
     ⟨none, .store (.ag 16) (.t 5) (.t 24), none⟩]))
  (.reg [⟨(some 16), .mv (.t 6), none⟩,
    ⟨(some 17), .bin .add (.t 16) (.k (.c (.d (.int .i64 1)))), none⟩,
    ⟨(some 6), .mv (.t 17), none⟩]))
def sf_encd : SFn := ⟨2, 30,
  .seq (.reg [⟨(some 2), .box .roBox (.t 0), none⟩,
    ⟨(some 4), .allocArr [(.int .u8 0), (.int .u8 0), (.int .u8 0), (.int .u8 0), (.int .u8 0), (.int .u8 0), (.int .u8 0), (.int .u8 0), (.int .u8 0), (.int .u8 0), (.int .u8 0), (.int .u8 0), (.int .u8 0), (.int .u8 0), (.int .u8 0), (.int .u8 0)], none⟩])
  (.seq (.reg [⟨(some 5), .allocArr [(.int .u8 0), (.int .u8 0), (.int .u8 0), (.int .u8 0), (.int .u8 0), (.int .u8 0), (.int .u8 0), (.int .u8 0), (.int .u8 0), (.int .u8 0), (.int .u8 0), (.int .u8 0), (.int .u8 0), (.int .u8 0), (.int .u8 0), (.int .u8 0)], none⟩])
  (.seq (.reg [⟨(some 7), .sliceArr 1 16 (.t 5) none none, none⟩,
    ⟨(some 8), .mv (.t 1), none⟩,
    ⟨(some 9), .copy 1 (.t 7) (.t 8), none⟩])
  (.seq (.reg [⟨(some 10), .load (.ag 16) (.t 5), none⟩,
    ⟨(some 11), .idxPa 16 11 (.t 2) (.k (.c (.d (.int .i64 0)))), none⟩,
    ⟨(some 12), .load (.ag 16) (.t 11), none⟩,
    ⟨(some 13), .call 48 [(.t 10), (.t 12)] none, none⟩,
    ⟨none, .store (.ag 16) (.t 5) (.t 13), none⟩])
  (.seq (.seq (.reg [⟨(some 6), .mv (.k (.c (.d (.int .i64 1)))), none⟩])
  (.block 0 (.loop lp_encd_0)))
  (.seq (.reg [⟨(some 25), .load (.ag 16) (.t 5), none⟩,
    ⟨(some 26), .call 50 [(.t 25)] none, none⟩,
    ⟨(some 27), .idxPa 16 11 (.t 2) (.k (.c (.d (.int .i64 10)))), none⟩,
    ⟨(some 28), .load (.ag 16) (.t 27), none⟩,
    ⟨(some 29), .call 48 [(.t 26), (.t 28)] none, none⟩,
    ⟨none, .store (.ag 16) (.t 4) (.t 29), none⟩])
  (.ret)))))),
  [(4, (some (.ag 16)))]⟩
theorem cf_encd : compFn Try.prog { own := [], comp := [], frz := [], nils := [] } Try.f34 = some sf_encd := by kernel_rfl
set_option maxHeartbeats 3200000 in
theorem encd_c (G : Glob) (rk b : List UInt8) (hk : rk.length = 176) (hb : b.length = 16) : Den Try.prog G 34 [.agg (rk.map bD), .sl (b.map bD)] (.w (.c (.d (.agg ((encK rk b).map bD))))) := by
  refine den_walk Try.func34 cf_encd rfl rfl ?_
  have ht : b.take 16 = b := List.take_of_length_le (by omega)
  have key : ∀ r, r ≤ 10 → (rk.drop (16 * r)).take 16 = toL (keyF rk r) := fun r hr => by
    apply List.ext_getElem?
    intro j
    by_cases hj : j < 16
    · rw [toL_get _ hj, List.getElem?_take, if_pos hj, List.getElem?_drop]; exact get_lt (by omega)
    · rw [List.getElem?_eq_none (by rw [List.length_take]; omega), List.getElem?_eq_none (by rw [toL_len]; omega)]
  have d1 : b ++ List.drop b.length (repL 16 (0 : UInt8)) = b := by rw [hb, List.drop_eq_nil_of_le (by rw [repL_len]; omega), List.append_nil]
  have d2 : List.drop 16 (repL 16 (0 : UInt8)) = [] := List.drop_eq_nil_of_le (by rw [repL_len]; omega)
  have k0 := key 0 (by decide)
  have l0 : (toL (keyF rk 0)).length = 16 := toL_len _
  have t0 : (toL (keyF rk 0)).take 16 = toL (keyF rk 0) := List.take_of_length_le (by rw [toL_len]; omega)
  have a0 := addL_enc rk b hb
  have la := toL_len (encF (keyF rk) (ofB16 b) 0)
  simp only [Nat.mul_zero, List.drop_zero] at k0
  simp only [sf_encd, putAll, wx, wy, wz, stV, seval, IntWalk.iteOmega, IntWalk.toNatUp, reduceCtorEq, z16, allDn_bs, repL_len, take_map, ht, drop_map, app_map, d1, d2, k0, flat_bs, hb, l0, t0, List.append_nil, List.length_nil]
  refine st_call (com_c G b (toL (keyF rk 0)) hb l0) rfl (.inl rfl) ?_
  simp only [a0, la, repL_len, wx, wy, wz, stV, seval, IntWalk.iteOmega, IntWalk.toNatUp, reduceCtorEq]
  refine loop_st (encSt rk b) (fun i => 9 - i) (fun i => i ≤ 9) 0 (Nat.zero_le _) ?_ ?_
  · refine ent_l (fun i => if i = 1 then 40 else 32) ?_ ?_ rfl rfl <;> simp only [wx, wex, wez, stV, seval, IntWalk.iteOmega, IntWalk.toNatUp, reduceCtorEq]
  · intro i hi
    have le := toL_len (encF (keyF rk) (ofB16 b) i)
    have hr : i + 1 ≤ 10 := by omega
    have k1 := key (i + 1) hr
    rw [Nat.mul_comm] at k1
    have l1 : (toL (keyF rk (i + 1))).length = 16 := toL_len _
    have t1 : (toL (keyF rk (i + 1))).take 16 = toL (keyF rk (i + 1)) := List.take_of_length_le (by rw [toL_len]; omega)
    by_cases hlt : i < 9
    · have h5 := rnd_enc rk b (n := i) (by omega)
      have le2 := toL_len (encF (keyF rk) (ofB16 b) (i + 1))
      simp only [lp_encd_0, encSt, wx, wy, wz, stV, seval, IntWalk.iteOmega, IntWalk.toNatUp, reduceCtorEq, le, flat_bs]
      refine st_call (repl_c G (toL (encF (keyF rk) (ofB16 b) i)) le) rfl (.inl rfl) ?_
      simp only [wx, wy, wz, stV, seval, IntWalk.iteOmega, IntWalk.toNatUp, reduceCtorEq]
      refine st_call (mixd_c G _ (subL_len _)) rfl (.inl rfl) ?_
      simp only [take_map, drop_map, k1, l1, t1, wx, wy, wz, stV, seval, IntWalk.iteOmega, IntWalk.toNatUp, reduceCtorEq]
      refine st_call (com_c G _ _ (mixL_len _) l1) rfl (.inl rfl) ?_
      simp only [h5, le2, le, wx, wy, wz, stV, seval, IntWalk.iteOmega, IntWalk.toNatUp, reduceCtorEq]
      refine lop_next (i + 1) (by omega) (by omega) (ent_l (fun i => i) ?_ ?_ rfl rfl) <;> simp only [wx, wex, wez, stV, seval, IntWalk.iteOmega, IntWalk.toNatUp, reduceCtorEq]
    · obtain rfl : i = 9 := by omega
      have h5 := last_enc rk b
      have le2 := encK_len rk b
      simp only [lp_encd_0, encSt, wx, wy, wz, stV, seval, IntWalk.iteOmega, IntWalk.toNatUp, reduceCtorEq, le, flat_bs]
      refine st_call (repl_c G (toL (encF (keyF rk) (ofB16 b) 9)) le) rfl (.inl rfl) ?_
      simp only [take_map, drop_map, k1, l1, t1, wx, wy, wz, stV, seval, IntWalk.iteOmega, IntWalk.toNatUp, reduceCtorEq]
      refine st_call (com_c G _ _ (subL_len _) l1) rfl (.inl rfl) ?_
      simp only [h5, le2, repL_len, wx, wy, wz, stV, seval, IntWalk.iteOmega, IntWalk.toNatUp, reduceCtorEq]
      exact ret_d1 (by simp only [wx, wy, wz, stV, seval, IntWalk.iteOmega, IntWalk.toNatUp, reduceCtorEq, le2, flat_bs])
end Go.Proofs.Ytnadfnnkdnakhaa
