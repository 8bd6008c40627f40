/- Layer 4 on data: the rounds of the program. Own work. -/
import Derived.Test.YtnadfnnkdnakhaaPc4
set_option linter.unusedVariables false
set_option linter.unusedSimpArgs false
namespace Go.Proofs.Ytnadfnnkdnakhaa
open Go.RowKit

def addL (s k : List UInt8) : List UInt8 := toL (addF (ofB16 s) (ofB16 k))
def subL (s : List UInt8) : List UInt8 := toL (shiftF (ofB16 s))
def mixL (s : List UInt8) : List UInt8 := toL (mixF (ofB16 s))
theorem addL_len (s k : List UInt8) : (addL s k).length = 16 := toL_len _
theorem subL_len (s : List UInt8) : (subL s).length = 16 := toL_len _
theorem mixL_len (s : List UInt8) : (mixL s).length = 16 := toL_len _
theorem of_toL (f : B16) : sameF (ofB16 (toL f)) f := fun j hj => by
  unfold ofB16; rw [List.getD_eq_getElem?_getD, toL_get f hj]; rfl
theorem addL_toL (f g : B16) : addL (toL f) (toL g) = toL (addF f g) := toL_congr fun j hj => by
  unfold addF; rw [of_toL f j hj, of_toL g j hj]
theorem subL_toL (f : B16) : subL (toL f) = toL (shiftF f) := toL_congr fun j hj => by
  unfold shiftF; rw [of_toL f _ (by omega)]
theorem mixL_toL (f : B16) : mixL (toL f) = toL (mixF f) := toL_congr fun j hj => by
  unfold mixF; rw [of_toL f _ (by omega), of_toL f _ (by omega), of_toL f _ (by omega), of_toL f _ (by omega)]
theorem z16 : [D.int .u8 0, .int .u8 0, .int .u8 0, .int .u8 0, .int .u8 0, .int .u8 0, .int .u8 0, .int .u8 0, .int .u8 0, .int .u8 0, .int .u8 0, .int .u8 0, .int .u8 0, .int .u8 0, .int .u8 0, .int .u8 0] = (repL 16 (0 : UInt8)).map bD := rfl
theorem toL_upL (f : B16) {l : List UInt8} (h : l.length = 16) : upL f l 16 = toL f := upL_full f l (by omega)

theorem tmodN (a b : Nat) : Int.tmod (a : Int) (b : Int) = ((a % b : Nat) : Int) := rfl
def comSt (s k : List UInt8) (i : Nat) : St := ⟨ofL [(2, .w (.c (.pa 1 1))), (4, .w (.c (.pa 2 1))), (7, .w (.c (.d (.agg (k.map bD))))), (8, .w (.c (.d (.int .i64 (i : Int)))))], hL [(1, .row 1 ((upL (addF (ofB16 s) (ofB16 k)) s i).map bD)), (2, .row 1 ((repL 16 (0 : UInt8)).map bD))], uL [1, 2]⟩
def lp_com_0 : SCode :=
  .seq (.reg [⟨(some 9), .bin .lss (.t 8) (.k (.c (.d (.int .i64 16)))), none⟩])
  (.seq (.cond (.t 9) (.skip)
   (.exit 0))
  (.seq (.block 1 (.seq (.reg [⟨(some 10), .mv (.t 8), none⟩,
     ⟨(some 11), .idxArr 1 16 .sc (.t 7) (.t 8), none⟩,
     ⟨(some 5), .mv (.t 10), none⟩,
     ⟨(some 6), .mv (.t 11), none⟩])
   (.reg [⟨(some 12), .mv (.t 5), none⟩,
     ⟨(some 13), .idxPa 1 16 (.t 2) (.t 12), none⟩,
     ⟨(some 14), .load .sc (.t 13), none⟩,
     ⟨(some 15), .mv (.t 6), none⟩,
     ⟨(some 16), .bin .xor (.t 14) (.t 15), none⟩,
     ⟨(some 17), .idxPa 1 16 (.t 2) (.t 12), none⟩,
     ⟨none, .store .sc (.t 17) (.t 16), none⟩])))
  (.reg [⟨(some 18), .bin .add (.t 8) (.k (.c (.d (.int .i64 1)))), none⟩,
    ⟨(some 8), .mv (.t 18), none⟩])))
def sf_com : SFn := ⟨2, 20,
  .seq (.reg [⟨(some 2), .box .ownArr (.t 0), none⟩,
    ⟨(some 3), .box .roArr (.t 1), none⟩,
    ⟨(some 4), .allocArr [(.int .u8 0), (.int .u8 0), (.int .u8 0), (.int .u8 0), (.int .u8 0), (.int .u8 0), (.int .u8 0), (.int .u8 0), (.int .u8 0), (.int .u8 0), (.int .u8 0), (.int .u8 0), (.int .u8 0), (.int .u8 0), (.int .u8 0), (.int .u8 0)], none⟩])
  (.seq (.seq (.reg [⟨(some 7), .load (.ag 16) (.t 3), none⟩,
    ⟨(some 8), .mv (.k (.c (.d (.int .i64 0)))), none⟩])
  (.block 0 (.loop lp_com_0)))
  (.seq (.reg [⟨(some 19), .load (.ag 16) (.t 2), none⟩,
    ⟨none, .store (.ag 16) (.t 4) (.t 19), none⟩])
  (.ret))),
  [(4, (some (.ag 16)))]⟩
theorem cf_com : compFn Try.prog { own := [2], comp := [], frz := [], nils := [] } Try.f48 = some sf_com := by kernel_rfl
set_option maxHeartbeats 1600000 in
theorem com_c (G : Glob) (s k : List UInt8) (hs : s.length = 16) (hk : k.length = 16) : Den Try.prog G 48 [.agg (s.map bD), .agg (k.map bD)] (.w (.c (.d (.agg ((addL s k).map bD))))) := by
  refine den_walk Try.func48 cf_com rfl rfl ?_
  simp only [sf_com, putAll, wx, wy, wz, stV, seval, IntWalk.iteOmega, IntWalk.toNatUp, reduceCtorEq, z16, flat_bs, hk]
  refine loop_st (comSt s k) (fun i => 16 - i) (fun i => i ≤ 16) 0 (Nat.zero_le _) ?_ ?_
  · refine ent_l (fun i => if i = 1 then 16 else 32) ?_ ?_ rfl rfl <;> simp only [wx, wex, wez, stV, seval, IntWalk.iteOmega, IntWalk.toNatUp, reduceCtorEq, upL_zero]
  · intro i hi
    have hl : (upL (addF (ofB16 s) (ofB16 k)) s i).length = 16 := by rw [upL_len _ _ (by omega)]; exact hs
    by_cases hlt : i < 16
    · have g1 : k[i]? = some (k.getD i 0) := get_lt (by omega)
      have g2 : (upL (addF (ofB16 s) (ofB16 k)) s i)[i]? = some (s.getD i 0) := by rw [upL_get _ _ (Nat.le_refl i)]; exact get_lt (by omega)
      have h3 : i < (upL (addF (ofB16 s) (ofB16 k)) s i).length := by omega
      have h4 := binV_xorB (s.getD i 0) (k.getD i 0)
      have h5 : (upL (addF (ofB16 s) (ofB16 k)) s i).set i (xorB (s.getD i 0) (k.getD i 0)) = upL (addF (ofB16 s) (ofB16 k)) s (i + 1) := upL_step (addF (ofB16 s) (ofB16 k)) s (by omega)
      simp only [lp_com_0, comSt, wx, wy, wz, stV, seval, IntWalk.iteOmega, IntWalk.toNatUp, reduceCtorEq, get_map, g1, g2, h4, stO_bs h3 (one_b _), set_bs, h5]
      refine lop_next (i + 1) (by omega) (by omega) (ent_l (fun i => i) ?_ ?_ rfl rfl) <;> simp only [wx, wex, wez, stV, seval, IntWalk.iteOmega, IntWalk.toNatUp, reduceCtorEq]
    · obtain rfl : i = 16 := by omega
      have e : upL (addF (ofB16 s) (ofB16 k)) s 16 = addL s k := toL_upL _ hs
      have e2 := addL_len s k
      simp only [lp_com_0, comSt, e, wx, wy, wz, stV, seval, IntWalk.iteOmega, IntWalk.toNatUp, reduceCtorEq, e2, flat_bs, repL_len]
      exact ret_d1 (by simp only [wx, wy, wz, stV, seval, IntWalk.iteOmega, IntWalk.toNatUp, reduceCtorEq])
def repSt (s : List UInt8) (i : Nat) : St := ⟨ofL [(1, .w (.c (.ra (s.map bD)))), (2, .w (.c (.pa 2 1))), (3, .w (.c (.pa 1 1))), (6, .w (.c (.d (.int .i64 (i : Int)))))], hL [(1, .row 1 ((upL (shiftF (ofB16 s)) (repL 16 (0 : UInt8)) i).map bD)), (2, .row 1 ((repL 16 (0 : UInt8)).map bD))], uL [1, 2]⟩
def lp_repl_0 : SCode :=
  .seq (.reg [⟨(some 7), .bin .lss (.t 6) (.k (.c (.d (.int .i64 16)))), none⟩])
  (.seq (.cond (.t 7) (.skip)
   (.exit 0))
  (.seq (.block 1 (.seq (.reg [⟨(some 8), .mv (.t 6), none⟩,
     ⟨(some 4), .mv (.t 8), none⟩])
   (.seq (.reg [⟨(some 9), .mv (.t 4), none⟩,
     ⟨(some 10), .bin .rem (.t 9) (.k (.c (.d (.int .i64 4)))), none⟩,
     ⟨(some 5), .mv (.t 10), none⟩])
   (.reg [⟨(some 11), .mv (.t 4), none⟩,
     ⟨(some 12), .mv (.t 4), none⟩,
     ⟨(some 13), .mv (.t 5), none⟩,
     ⟨(some 14), .bin .mul (.t 13) (.k (.c (.d (.int .i64 4)))), none⟩,
     ⟨(some 15), .bin .add (.t 12) (.t 14), none⟩,
     ⟨(some 16), .bin .rem (.t 15) (.k (.c (.d (.int .i64 16)))), none⟩,
     ⟨(some 17), .idxPa 1 16 (.t 1) (.t 16), none⟩,
     ⟨(some 18), .load .sc (.t 17), none⟩,
     ⟨(some 19), .call 57 [(.t 18)] none, none⟩,
     ⟨(some 20), .idxPa 1 16 (.t 3) (.t 11), none⟩,
     ⟨none, .store .sc (.t 20) (.t 19), none⟩]))))
  (.reg [⟨(some 21), .bin .add (.t 6) (.k (.c (.d (.int .i64 1)))), none⟩,
    ⟨(some 6), .mv (.t 21), none⟩])))
def sf_repl : SFn := ⟨1, 23,
  .seq (.reg [⟨(some 1), .box .roArr (.t 0), none⟩,
    ⟨(some 2), .allocArr [(.int .u8 0), (.int .u8 0), (.int .u8 0), (.int .u8 0), (.int .u8 0), (.int .u8 0), (.int .u8 0), (.int .u8 0), (.int .u8 0), (.int .u8 0), (.int .u8 0), (.int .u8 0), (.int .u8 0), (.int .u8 0), (.int .u8 0), (.int .u8 0)], none⟩])
  (.seq (.reg [⟨(some 3), .allocArr [(.int .u8 0), (.int .u8 0), (.int .u8 0), (.int .u8 0), (.int .u8 0), (.int .u8 0), (.int .u8 0), (.int .u8 0), (.int .u8 0), (.int .u8 0), (.int .u8 0), (.int .u8 0), (.int .u8 0), (.int .u8 0), (.int .u8 0), (.int .u8 0)], none⟩])
  (.seq (.seq (.reg [⟨(some 6), .mv (.k (.c (.d (.int .i64 0)))), none⟩])
  (.block 0 (.loop lp_repl_0)))
  (.seq (.reg [⟨(some 22), .load (.ag 16) (.t 3), none⟩,
    ⟨none, .store (.ag 16) (.t 2) (.t 22), none⟩])
  (.ret)))),
  [(2, (some (.ag 16)))]⟩
theorem cf_repl : compFn Try.prog { own := [], comp := [], frz := [], nils := [] } Try.f50 = some sf_repl := by kernel_rfl
set_option maxHeartbeats 1600000 in
theorem repl_c (G : Glob) (s : List UInt8) (hs : s.length = 16) : Den Try.prog G 50 [.agg (s.map bD)] (.w (.c (.d (.agg ((subL s).map bD))))) := by
  refine den_walk Try.func50 cf_repl rfl rfl ?_
  simp only [sf_repl, putAll, wx, wy, wz, stV, seval, IntWalk.iteOmega, IntWalk.toNatUp, reduceCtorEq, z16]
  refine loop_st (repSt s) (fun i => 16 - i) (fun i => i ≤ 16) 0 (Nat.zero_le _) ?_ ?_
  · refine ent_l (fun i => if i = 1 then 24 else 16) ?_ ?_ rfl rfl <;> simp only [wx, wex, wez, stV, seval, IntWalk.iteOmega, IntWalk.toNatUp, reduceCtorEq, upL_zero]
  · intro i hi
    have hl : (upL (shiftF (ofB16 s)) (repL 16 (0 : UInt8)) i).length = 16 := by rw [upL_len _ _ (by rw [repL_len]; omega), repL_len]
    by_cases hlt : i < 16
    · have hm : (i + i % 4 * 4) % 16 = i % 4 + 4 * ((i / 4 + i % 4) % 4) := by omega
      have hm2 : (i + i % 4 * 4) % 16 < 16 := by omega
      have g1 : s[(i + i % 4 * 4) % 16]? = some (ofB16 s (i % 4 + 4 * ((i / 4 + i % 4) % 4))) := by rw [← hm]; exact get_lt (by omega)
      have h3 : i < (upL (shiftF (ofB16 s)) (repL 16 (0 : UInt8)) i).length := by omega
      have h5 : (upL (shiftF (ofB16 s)) (repL 16 (0 : UInt8)) i).set i (subK (ofB16 s (i % 4 + 4 * ((i / 4 + i % 4) % 4)))) = upL (shiftF (ofB16 s)) (repL 16 (0 : UInt8)) (i + 1) := upL_step (shiftF (ofB16 s)) _ (by rw [repL_len]; omega)
      have t1 : Int.tmod (i : Int) 4 = ((i % 4 : Nat) : Int) := tmodN i 4
      have t2 : Int.tmod ((i : Int) + ((i % 4 : Nat) : Int) * 4) 16 = (((i + i % 4 * 4) % 16 : Nat) : Int) := tmodN (i + i % 4 * 4) 16
      have hb : (i % 4 : Nat) < 4 := Nat.mod_lt _ (by decide)
      generalize hq : i % 4 = q at *
      generalize hp : (i + q * 4) % 16 = p at *
      simp only [lp_repl_0, repSt, wx, wy, wz, stV, seval, IntWalk.iteOmega, IntWalk.toNatUp, reduceCtorEq, get_map, t1, t2, g1]
      refine st_call (sub_c G (ofB16 s (q + 4 * ((i / 4 + q) % 4)))) rfl (.inl rfl) ?_
      simp only [stO_bs h3 (one_b _), set_bs, h5, get_map, hl, wx, wy, wz, stV, seval, IntWalk.iteOmega, IntWalk.toNatUp, reduceCtorEq]
      refine lop_next (i + 1) (by omega) (by omega) (ent_l (fun i => i) ?_ ?_ rfl rfl) <;> simp only [wx, wex, wez, stV, seval, IntWalk.iteOmega, IntWalk.toNatUp, reduceCtorEq]
    · obtain rfl : i = 16 := by omega
      have e : upL (shiftF (ofB16 s)) (repL 16 (0 : UInt8)) 16 = subL s := toL_upL _ (repL_len _ _)
      have e2 := subL_len s
      simp only [lp_repl_0, repSt, e, wx, wy, wz, stV, seval, IntWalk.iteOmega, IntWalk.toNatUp, reduceCtorEq, e2, flat_bs, repL_len]
      exact ret_d1 (by simp only [wx, wy, wz, stV, seval, IntWalk.iteOmega, IntWalk.toNatUp, reduceCtorEq])
theorem mix_eq (a b c d : UInt8) : xorB (xorB (xorB (xtB (xorB a b)) b) c) d = mix4 a b c d := by
  unfold mix4 twB
  rw [xtB_lin a b, xt_two, xt_two]
def mixcSt (s : List UInt8) (i : Nat) : St := ⟨ofL [(1, .w (.c (.ra (s.map bD)))), (2, .w (.c (.pa 2 1))), (3, .w (.c (.pa 1 1))), (8, .w (.c (.d (.int .i64 (i : Int)))))], hL [(1, .row 1 ((upL (mixF (ofB16 s)) (repL 16 (0 : UInt8)) i).map bD)), (2, .row 1 ((repL 16 (0 : UInt8)).map bD))], uL [1, 2]⟩
def lp_mixd_0 : SCode :=
  .seq (.reg [⟨(some 9), .bin .lss (.t 8) (.k (.c (.d (.int .i64 16)))), none⟩])
  (.seq (.cond (.t 9) (.skip)
   (.exit 0))
  (.seq (.block 1 (.seq (.reg [⟨(some 10), .mv (.t 8), none⟩,
     ⟨(some 4), .mv (.t 10), none⟩])
   (.seq (.reg [⟨(some 11), .mv (.t 4), none⟩,
     ⟨(some 12), .bin .rem (.t 11) (.k (.c (.d (.int .i64 4)))), none⟩,
     ⟨(some 5), .mv (.t 12), none⟩])
   (.seq (.reg [⟨(some 13), .mv (.t 4), none⟩,
     ⟨(some 14), .mv (.t 5), none⟩,
     ⟨(some 15), .bin .sub (.t 13) (.t 14), none⟩,
     ⟨(some 16), .mv (.t 4), none⟩,
     ⟨(some 17), .mv (.t 5), none⟩,
     ⟨(some 18), .bin .sub (.t 16) (.t 17), none⟩,
     ⟨(some 19), .bin .add (.t 18) (.k (.c (.d (.int .i64 4)))), none⟩,
     ⟨(some 20), .sliceArr 1 16 (.t 1) (some (.t 15)) (some (.t 19)), none⟩,
     ⟨(some 6), .mv (.t 20), none⟩])
   (.seq (.reg [⟨(some 21), .mv (.t 6), none⟩,
     ⟨(some 22), .mv (.t 5), none⟩,
     ⟨(some 23), .bin .add (.t 22) (.k (.c (.d (.int .i64 1)))), none⟩,
     ⟨(some 24), .bin .rem (.t 23) (.k (.c (.d (.int .i64 4)))), none⟩,
     ⟨(some 25), .idxSl 1 (.t 21) (.t 24), none⟩,
     ⟨(some 26), .load .sc (.t 25), none⟩,
     ⟨(some 7), .mv (.t 26), none⟩])
   (.reg [⟨(some 27), .mv (.t 4), none⟩,
     ⟨(some 28), .mv (.t 4), none⟩,
     ⟨(some 29), .idxPa 1 16 (.t 1) (.t 28), none⟩,
     ⟨(some 30), .load .sc (.t 29), none⟩,
     ⟨(some 31), .mv (.t 7), none⟩,
     ⟨(some 32), .bin .xor (.t 30) (.t 31), none⟩,
     ⟨(some 33), .call 52 [(.t 32)] none, none⟩,
     ⟨(some 34), .mv (.t 7), none⟩,
     ⟨(some 35), .bin .xor (.t 33) (.t 34), none⟩,
     ⟨(some 36), .mv (.t 6), none⟩,
     ⟨(some 37), .mv (.t 5), none⟩,
     ⟨(some 38), .bin .add (.t 37) (.k (.c (.d (.int .i64 2)))), none⟩,
     ⟨(some 39), .bin .rem (.t 38) (.k (.c (.d (.int .i64 4)))), none⟩,
     ⟨(some 40), .idxSl 1 (.t 36) (.t 39), none⟩,
     ⟨(some 41), .load .sc (.t 40), none⟩,
     ⟨(some 42), .bin .xor (.t 35) (.t 41), none⟩,
     ⟨(some 43), .mv (.t 6), none⟩,
     ⟨(some 44), .mv (.t 5), none⟩,
     ⟨(some 45), .bin .add (.t 44) (.k (.c (.d (.int .i64 3)))), none⟩,
     ⟨(some 46), .bin .rem (.t 45) (.k (.c (.d (.int .i64 4)))), none⟩,
     ⟨(some 47), .idxSl 1 (.t 43) (.t 46), none⟩,
     ⟨(some 48), .load .sc (.t 47), none⟩,
     ⟨(some 49), .bin .xor (.t 42) (.t 48), none⟩,
     ⟨(some 50), .idxPa 1 16 (.t 3) (.t 27), none⟩,
     ⟨none, .store .sc (.t 50) (.t 49), none⟩]))))))
  (.reg [⟨(some 51), .bin .add (.t 8) (.k (.c (.d (.int .i64 1)))), none⟩,
    ⟨(some 8), .mv (.t 51), none⟩])))
def sf_mixd : SFn := ⟨1, 53,
  .seq (.reg [⟨(some 1), .box .roArr (.t 0), none⟩,
    ⟨(some 2), .allocArr [(.int .u8 0), (.int .u8 0), (.int .u8 0), (.int .u8 0), (.int .u8 0), (.int .u8 0), (.int .u8 0), (.int .u8 0), (.int .u8 0), (.int .u8 0), (.int .u8 0), (.int .u8 0), (.int .u8 0), (.int .u8 0), (.int .u8 0), (.int .u8 0)], none⟩])
  (.seq (.reg [⟨(some 3), .allocArr [(.int .u8 0), (.int .u8 0), (.int .u8 0), (.int .u8 0), (.int .u8 0), (.int .u8 0), (.int .u8 0), (.int .u8 0), (.int .u8 0), (.int .u8 0), (.int .u8 0), (.int .u8 0), (.int .u8 0), (.int .u8 0), (.int .u8 0), (.int .u8 0)], none⟩])
  (.seq (.seq (.reg [⟨(some 8), .mv (.k (.c (.d (.int .i64 0)))), none⟩])
  (.block 0 (.loop lp_mixd_0)))
  (.seq (.reg [⟨(some 52), .load (.ag 16) (.t 3), none⟩,
    ⟨none, .store (.ag 16) (.t 2) (.t 52), none⟩])
  (.ret)))),
  [(2, (some (.ag 16)))]⟩
theorem cf_mixd : compFn Try.prog { own := [], comp := [], frz := [], nils := [] } Try.f49 = some sf_mixd := by kernel_rfl
set_option maxHeartbeats 1600000 in
theorem mixd_c (G : Glob) (s : List UInt8) (hs : s.length = 16) : Den Try.prog G 49 [.agg (s.map bD)] (.w (.c (.d (.agg ((mixL s).map bD))))) := by
  refine den_walk Try.func49 cf_mixd rfl rfl ?_
  simp only [sf_mixd, putAll, wx, wy, wz, stV, seval, IntWalk.iteOmega, IntWalk.toNatUp, reduceCtorEq, z16]
  refine loop_st (mixcSt s) (fun i => 16 - i) (fun i => i ≤ 16) 0 (Nat.zero_le _) ?_ ?_
  · refine ent_l (fun i => if i = 1 then 24 else 16) ?_ ?_ rfl rfl <;> simp only [wx, wex, wez, stV, seval, IntWalk.iteOmega, IntWalk.toNatUp, reduceCtorEq, upL_zero]
  · intro i hi
    have hl : (upL (mixF (ofB16 s)) (repL 16 (0 : UInt8)) i).length = 16 := by rw [upL_len _ _ (by rw [repL_len]; omega), repL_len]
    by_cases hlt : i < 16
    · have h3 : i < (upL (mixF (ofB16 s)) (repL 16 (0 : UInt8)) i).length := by omega
      have h5 : (upL (mixF (ofB16 s)) (repL 16 (0 : UInt8)) i).set i (mixF (ofB16 s) i) = upL (mixF (ofB16 s)) (repL 16 (0 : UInt8)) (i + 1) := upL_step (mixF (ofB16 s)) _ (by rw [repL_len]; omega)
      have g0 : s[i]? = some (ofB16 s i) := get_lt (by omega)
      obtain ⟨q, r, hr, rfl⟩ : ∃ q r, r < 4 ∧ i = 4 * q + r := ⟨i / 4, i % 4, Nat.mod_lt _ (by decide), by omega⟩
      have hq : q < 4 := by omega
      have col : ∀ j, j < 4 → ((s.drop (4 * q)).take 4)[j]? = some (ofB16 s (4 * q + j)) := fun j hj => by
        rw [List.getElem?_take, if_pos hj, List.getElem?_drop]; exact get_lt (by omega)
      have g1 := col ((r + 1) % 4) (Nat.mod_lt _ (by decide))
      have g2 := col ((r + 2) % 4) (Nat.mod_lt _ (by decide))
      have g3 := col ((r + 3) % 4) (Nat.mod_lt _ (by decide))
      have t0 : Int.tmod (4 * (q : Int) + (r : Int)) 4 = (r : Int) := by
        show Int.tmod ((4 * q + r : Nat) : Int) ((4 : Nat) : Int) = _
        rw [tmodN]; congr 1; omega
      have t1 : Int.tmod ((r : Int) + 1) 4 = (((r + 1) % 4 : Nat) : Int) := tmodN (r + 1) 4
      have t2 : Int.tmod ((r : Int) + 2) 4 = (((r + 2) % 4 : Nat) : Int) := tmodN (r + 2) 4
      have t3 : Int.tmod ((r : Int) + 3) 4 = (((r + 3) % 4 : Nat) : Int) := tmodN (r + 3) 4
      have b1 : (r + 1) % 4 < 4 := Nat.mod_lt _ (by decide)
      have b2 : (r + 2) % 4 < 4 := Nat.mod_lt _ (by decide)
      have b3 : (r + 3) % 4 < 4 := Nat.mod_lt _ (by decide)
      have em : mixF (ofB16 s) (4 * q + r) = mix4 (ofB16 s (4 * q + r)) (ofB16 s (4 * q + (r + 1) % 4)) (ofB16 s (4 * q + (r + 2) % 4)) (ofB16 s (4 * q + (r + 3) % 4)) := by
        unfold mixF
        rw [show (4 * q + r) / 4 = q by omega, show (4 * q + r) % 4 = r by omega]
      rw [em, ← mix_eq] at h5
      have s1 : 4 * q + r - r = 4 * q := by omega
      have s2 : 4 * q + 4 - 4 * q = 4 := by omega
      have s3 : ((s.drop (4 * q)).take 4).length = 4 := by rw [List.length_take, List.length_drop]; omega
      generalize (r + 1) % 4 = r1 at *
      generalize (r + 2) % 4 = r2 at *
      generalize (r + 3) % 4 = r3 at *
      generalize ofB16 s (4 * q + r) = a at *
      generalize ofB16 s (4 * q + r1) = b at *
      generalize ofB16 s (4 * q + r2) = c at *
      generalize ofB16 s (4 * q + r3) = d at *
      have x1 := binV_xorB a b
      have x2 := binV_xorB (xtB (xorB a b)) b
      have x3 := binV_xorB (xorB (xtB (xorB a b)) b) c
      have x4 := binV_xorB (xorB (xorB (xtB (xorB a b)) b) c) d
      simp only [lp_mixd_0, mixcSt, wx, wy, wz, stV, seval, IntWalk.iteOmega, IntWalk.toNatUp, reduceCtorEq, get_map, t0, t1, t2, t3, g0, g1, g2, g3, s1, s2, s3, x1]
      refine st_call (dbl_c G (xorB a b)) rfl (.inl rfl) ?_
      simp only [get_map, t0, t1, t2, t3, g0, g1, g2, g3, s1, s2, s3, x2, x3, x4, stO_bs h3 (one_b _), set_bs, h5, hl, wx, wy, wz, stV, seval, IntWalk.iteOmega, IntWalk.toNatUp, reduceCtorEq]
      refine lop_next (4 * q + r + 1) (by omega) (by omega) (ent_l (fun i => i) ?_ ?_ rfl rfl) <;> simp only [wx, wex, wez, stV, seval, IntWalk.iteOmega, IntWalk.toNatUp, reduceCtorEq]
    · obtain rfl : i = 16 := by omega
      have e : upL (mixF (ofB16 s)) (repL 16 (0 : UInt8)) 16 = mixL s := toL_upL _ (repL_len _ _)
      have e2 := mixL_len s
      simp only [lp_mixd_0, mixcSt, e, wx, wy, wz, stV, seval, IntWalk.iteOmega, IntWalk.toNatUp, reduceCtorEq, e2, flat_bs, repL_len]
      exact ret_d1 (by simp only [wx, wy, wz, stV, seval, IntWalk.iteOmega, IntWalk.toNatUp, reduceCtorEq])
end Go.Proofs.Ytnadfnnkdnakhaa
