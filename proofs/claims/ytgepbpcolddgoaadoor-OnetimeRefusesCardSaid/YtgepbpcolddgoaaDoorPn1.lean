/- Layer 8 on data: digits, the errors of keys, secrets, in both codes. Own work. -/
import Derived.Test.YtgepbpcolddgoaaDoorPn0
import Derived.Test.YtgepbpcolddgoaaDoorPh7
import Derived.Test.YtgepbpcolddgoaaDoorPo4
set_option linter.unusedVariables false
set_option linter.unusedSimpArgs false
namespace Go.Proofs.YtgepbpcolddgoaaDoor
open Go.RowKit

abbrev iD (n : Nat) : D := .int .i64 (n : Int)
theorem allSz_i (l : List Nat) : allSz 1 (l.map iD) = true := allSz_map _ (fun _ => rfl) l
theorem fl_iy (s : Nat) (l : List Nat) (k : IntKind) (n : Int) : V.flat (.tup [.c (.fr s (l.map iD)), .c (.d (.int k n))]) = true := by
  simp only [V.flat, W.flat, C.flat, List.all_cons, List.all_nil, Bool.and_true, List.all_map, Bool.and_eq_true, List.all_eq_true]
  exact ⟨fun x _ => rfl, rfl⟩
theorem getI {l : List Nat} {j : Nat} (h : j < l.length) : (l.map iD)[j]? = some (.int .i64 ((l.getD j 0 : Nat) : Int)) := by
  rw [List.getElem?_map, List.getElem?_eq_getElem h, List.getD_eq_getElem?_getD, List.getElem?_eq_getElem h]; rfl
theorem half_i (b : List UInt8) {j : Nat} (h : j < b.length) : (halfN (b.take j)).map iD ++ [.int .i64 ((b[j].toNat / 16 : Nat) : Int), .int .i64 ((b[j].toNat % 16 : Nat) : Int)] = (halfN (b.take (j + 1))).map iD := by
  rw [List.take_succ_eq_append_getElem h, halfN_snoc, List.map_append]; rfl
theorem half_0 (b : List UInt8) (h : 0 < b.length) : [D.int .i64 ((b[0].toNat / 16 : Nat) : Int), .int .i64 ((b[0].toNat % 16 : Nat) : Int)] = (halfN (b.take 1)).map iD := by
  rw [← half_i b h]; rfl
def hvV : Nat → V
  | 0 => .w (.c .nil)
  | j + 1 => .w (.c (.own 1 1 0 (2 * (j + 1))))
def hvH (b : List UInt8) : Nat → List (Nat × Ob)
  | 0 => []
  | j + 1 => [(1, .row 1 ((halfN (b.take (j + 1))).map iD))]
def hvSt (b : List UInt8) (j : Nat) : St := ⟨ofL [(3, hvV j), (6, .w (.c (.d (.sl (b.map bD))))), (7, .w (.c (.d (.int .i64 (b.length : Int))))), (8, .w (.c (.d (.int .i64 (j : Int)))))], hL (hvH b j), uL [1]⟩
def lp_halv_0 : SCode :=
  .seq (.reg [⟨(some 9), .bin .lss (.t 8) (.t 7), none⟩])
  (.seq (.cond (.t 9) (.skip)
   (.exit 0))
  (.seq (.block 1 (.seq (.reg [⟨(some 10), .idxSl 1 (.t 6) (.t 8), none⟩,
     ⟨(some 11), .load .sc (.t 10), none⟩,
     ⟨(some 5), .mv (.t 11), none⟩])
   (.reg [⟨(some 12), .mv (.t 3), none⟩,
     ⟨(some 13), .mv (.t 5), none⟩,
     ⟨(some 14), .bin .shr (.t 13) (.k (.c (.d (.int .u64 4)))), none⟩,
     ⟨(some 15), .conv .i64 (.t 14), none⟩,
     ⟨(some 16), .mv (.t 5), none⟩,
     ⟨(some 17), .bin .and (.t 16) (.k (.c (.d (.int .u8 15)))), none⟩,
     ⟨(some 18), .conv .i64 (.t 17), none⟩,
     ⟨(some 19), .bldSl false 2 1 (.int .i64 0) [(0, (.t 15)), (1, (.t 18))], none⟩,
     ⟨(some 20), .app false 1 8 (.t 12) (.t 19), none⟩,
     ⟨(some 3), .mv (.t 20), none⟩])))
  (.reg [⟨(some 21), .bin .add (.t 8) (.k (.c (.d (.int .i64 1)))), none⟩,
    ⟨(some 8), .mv (.t 21), none⟩])))
def sf_halv : SFn := ⟨1, 23,
  .seq (.reg [⟨(some 2), .mv (.k (.c .nil)), none⟩])
  (.seq (.reg [⟨(some 3), .mv (.k (.c .nil)), none⟩])
  (.seq (.seq (.reg [⟨(some 6), .mv (.t 0), none⟩,
    ⟨(some 7), .len (.t 6), none⟩,
    ⟨(some 8), .mv (.k (.c (.d (.int .i64 0)))), none⟩])
  (.block 0 (.loop lp_halv_0)))
  (.seq (.reg [⟨(some 22), .mv (.t 3), none⟩,
    ⟨(some 2), .mv (.t 22), none⟩])
  (.ret)))),
  [(2, none)]⟩
theorem cf_halv : compFn Tryd.prog { own := [], comp := [], frz := [], nils := [] } Tryd.f27 = some sf_halv := by kernel_rfl
set_option maxHeartbeats 1600000 in
theorem halv_f (G : Glob) (b : List UInt8) (hb : b.length ≤ 1000000) : Den Tryd.prog G 27 [.sl (b.map bD)] (.w (.c (.fr 1 ((halfN b).map iD)))) := by
  refine den_walk Tryd.func27 cf_halv rfl rfl ?_
  simp only [sf_halv, putAll, wx, wy, wz, stV, seval, IntWalk.iteOmega, IntWalk.toNatUp, reduceCtorEq]
  refine loop_st (hvSt b) (fun i => b.length - i) (fun i => i ≤ b.length) 0 (Nat.zero_le _) ?_ ?_
  · refine ent_l (fun i => i) ?_ ?_ rfl rfl <;> simp only [wx, wex, wez, stV, seval, IntWalk.iteOmega, IntWalk.toNatUp, reduceCtorEq, hvV, hvH]
  · intro i hi
    by_cases hlt : i < b.length
    · have hb8 := b[i].toNat_lt
      have e2 : b[i]? = some b[i] := List.getElem?_eq_getElem hlt
      have e5 : bits .and .u8 (b[i].toNat : Int) 15 = ((b[i].toNat % 16 : Nat) : Int) := u8_and15 _ (by omega) (by omega)
      have e6 : (b[i].toNat : Int) / 16 = ((b[i].toNat / 16 : Nat) : Int) := rfl
      rcases i with _ | i
      · have h0 := half_0 b hlt
        have hl : (halfN (b.take 1)).length = 2 := by rw [halfN_len, List.length_take]; omega
        simp only [lp_halv_0, hvSt, hvV, hvH, wx, wy, wz, stV, seval, IntWalk.iteOmega, IntWalk.toNatUp, reduceCtorEq, get_map, e2, IntKind.bits, e5, e6, srcV, List.replicate, h0, allSz_i, hl]
        refine lop_next (0 + 1) (by omega) (by omega) (ent_l (fun _ => 160) ?_ ?_ rfl rfl) <;> simp only [wx, wex, wez, stV, seval, IntWalk.iteOmega, IntWalk.toNatUp, reduceCtorEq, hvV, hvH, hl]
      · have h0 := half_i b hlt
        have hl : (halfN (b.take (i + 1))).length = 2 * (i + 1) := by rw [halfN_len, List.length_take]; omega
        have hl2 : (halfN (b.take (i + 1 + 1))).length = 2 * (i + 1 + 1) := by rw [halfN_len, List.length_take]; omega
        simp only [lp_halv_0, hvSt, hvV, hvH, wx, wy, wz, stV, seval, IntWalk.iteOmega, IntWalk.toNatUp, reduceCtorEq, get_map, e2, IntKind.bits, e5, e6, srcV, List.replicate, h0, allSz_i, hl, hl2]
        refine lop_next (i + 1 + 1) (by omega) (by omega) (ent_l (fun _ => 160) ?_ ?_ rfl rfl) <;> simp only [wx, wex, wez, stV, seval, IntWalk.iteOmega, IntWalk.toNatUp, reduceCtorEq, hvV, hvH, hl2]
    · obtain rfl : i = b.length := by omega
      have ht : b.take b.length = b := List.take_length
      rcases hbl : b.length with _ | n
      · obtain rfl : b = [] := List.length_eq_zero_iff.1 hbl
        simp only [lp_halv_0, hvSt, hvV, hvH, wx, wy, wz, stV, seval, IntWalk.iteOmega, IntWalk.toNatUp, reduceCtorEq, hbl]
        exact ret_f1 (by simp only [wx, wy, wz, stV, seval, IntWalk.iteOmega, IntWalk.toNatUp, reduceCtorEq, halfN])
      · have hl := halfN_len b
        rw [hbl] at ht
        simp only [lp_halv_0, hvSt, hvV, hvH, wx, wy, wz, stV, seval, IntWalk.iteOmega, IntWalk.toNatUp, reduceCtorEq, hbl, ht]
        exact ret_f1 (by simp only [wx, wy, wz, stV, seval, IntWalk.iteOmega, IntWalk.toNatUp, reduceCtorEq, hl, hbl])
theorem half_put {s : Nat} (h : s ≤ 480) : halfN (putL s 2) = [0, s / 256, s / 16 % 16, s % 16] := by
  have e : putL s 2 = [UInt8.ofNat (s / 256), UInt8.ofNat (s / 1)] := rfl
  have e1 : (UInt8.ofNat (s / 256)).toNat = s / 256 := by rw [UInt8.toNat_ofNat']; omega
  have e2 : (UInt8.ofNat (s / 1)).toNat = s % 256 := by rw [UInt8.toNat_ofNat', Nat.div_one]
  have e3 : halfN [UInt8.ofNat (s / 256), UInt8.ofNat (s / 1)] = [(UInt8.ofNat (s / 256)).toNat / 16, (UInt8.ofNat (s / 256)).toNat % 16, (UInt8.ofNat (s / 1)).toNat / 16, (UInt8.ofNat (s / 1)).toNat % 16] := rfl
  rw [e, e3, e1, e2]
  congr 1
  · omega
  congr 1
  · omega
  congr 1
  · omega
  congr 1
  omega
def dgtE (b : List UInt8) : Int := if b.length = 16 then 0 else 3
def dgtV (b : List UInt8) : List Nat := if b.length = 16 then digN b else []
theorem dig_ok {b : List UInt8} (h : b.length = 16) : dgtE b = 0 ∧ dgtV b = digN b := ⟨if_pos h, if_pos h⟩
theorem dig_no {b : List UInt8} (h : ¬ b.length = 16) : dgtE b = 3 ∧ dgtV b = [] := ⟨if_neg h, if_neg h⟩
theorem digN_map (b : List UInt8) : (digN b).map iD = (halfN b).map iD ++ [iD (lackN (halfN b) / 256), iD (lackN (halfN b) / 16 % 16), iD (lackN (halfN b) % 16)] := by unfold digN; rw [List.map_append]; rfl
def dgSt (l : List Nat) (j : Nat) : St := ⟨ofL [(4, .w (.c (.own 1 1 0 32))), (5, .w (.c (.d (.int .i64 ((lackN (l.take j) : Nat) : Int))))), (13, .w (.c (.own 1 1 0 32))), (14, .w (.c (.d (.int .i64 32)))), (15, .w (.c (.d (.int .i64 (j : Int)))))], hL [(1, .row 1 (l.map iD))], uL [1]⟩
def lp_dgs_0 : SCode :=
  .seq (.reg [⟨(some 16), .bin .lss (.t 15) (.t 14), none⟩])
  (.seq (.cond (.t 16) (.skip)
   (.exit 0))
  (.seq (.block 1 (.seq (.reg [⟨(some 17), .idxSl 1 (.t 13) (.t 15), none⟩,
     ⟨(some 18), .load .sc (.t 17), none⟩,
     ⟨(some 7), .mv (.t 18), none⟩])
   (.reg [⟨(some 19), .mv (.t 5), none⟩,
     ⟨(some 20), .mv (.t 7), none⟩,
     ⟨(some 21), .bin .sub (.k (.c (.d (.int .i64 15)))) (.t 20), none⟩,
     ⟨(some 22), .bin .add (.t 19) (.t 21), none⟩,
     ⟨(some 5), .mv (.t 22), none⟩])))
  (.reg [⟨(some 23), .bin .add (.t 15) (.k (.c (.d (.int .i64 1)))), none⟩,
    ⟨(some 15), .mv (.t 23), none⟩])))
def sf_dgs : SFn := ⟨1, 31,
  .seq (.reg [⟨(some 2), .mv (.k (.c .nil)), none⟩,
    ⟨(some 3), .mv (.k (.c (.d (.int .i64 0)))), none⟩])
  (.seq (.seq (.reg [⟨(some 8), .mv (.t 0), none⟩,
    ⟨(some 9), .len (.t 8), none⟩,
    ⟨(some 10), .bin .neq (.t 9) (.k (.c (.d (.int .i64 16)))), none⟩])
  (.cond (.t 10) (.seq (.reg [⟨(some 2), .mv (.k (.c .nil)), none⟩,
     ⟨(some 3), .mv (.k (.c (.d (.int .i64 3)))), none⟩])
   (.ret))
   (.skip)))
  (.seq (.reg [⟨(some 11), .mv (.t 0), none⟩,
    ⟨(some 12), .call 27 [(.t 11)] (some (0, 1)), none⟩,
    ⟨(some 4), .mv (.t 12), none⟩])
  (.seq (.reg [⟨(some 5), .mv (.k (.c (.d (.int .i64 0)))), none⟩])
  (.seq (.seq (.reg [⟨(some 13), .mv (.t 4), none⟩,
    ⟨(some 14), .len (.t 13), none⟩,
    ⟨(some 15), .mv (.k (.c (.d (.int .i64 0)))), none⟩])
  (.block 0 (.loop lp_dgs_0)))
  (.seq (.reg [⟨(some 24), .mv (.t 4), none⟩,
    ⟨(some 25), .mv (.t 5), none⟩,
    ⟨(some 26), .conv .u64 (.t 25), none⟩,
    ⟨(some 27), .call 28 [(.t 26), (.k (.c (.d (.int .i64 2))))] none, none⟩,
    ⟨(some 28), .call 27 [(.t 27)] none, none⟩,
    ⟨(some 29), .slice 1 (.t 28) (some (.k (.c (.d (.int .i64 1))))) none none, none⟩,
    ⟨(some 30), .app false 1 8 (.t 24) (.t 29), none⟩,
    ⟨(some 2), .mv (.t 30), none⟩,
    ⟨(some 3), .mv (.k (.c (.d (.int .i64 0)))), none⟩])
  (.ret)))))),
  [(2, none), (3, none)]⟩
theorem cf_dgs : compFn Tryd.prog { own := [12], comp := [], frz := [], nils := [] } Tryd.f9 = some sf_dgs := by kernel_rfl
set_option maxHeartbeats 1600000 in
theorem dgs_f (G : Glob) (b : List UInt8) (hb : b.length ≤ 9223372036854775807) : Den Tryd.prog G 9 [.sl (b.map bD)] (.tup [.c (.fr 1 ((dgtV b).map iD)), .c (.d (.int .i64 (dgtE b)))]) := by
  refine den_walk Tryd.func9 cf_dgs rfl rfl ?_
  by_cases h : b.length = 16
  · obtain ⟨hE, hV⟩ := dig_ok h
    have hl : (halfN b).length = 32 := by rw [halfN_len, h]
    have hle := halfN_le (b := b)
    have hh := halv_f G b (by omega)
    have hs := lackN_le (halfN b)
    have hm := digN_map b
    rw [hE, hV]
    generalize halfN b = l at *
    simp only [sf_dgs, putAll, wx, wy, wz, stV, seval, IntWalk.iteOmega, IntWalk.toNatUp, reduceCtorEq, h]
    refine st_call (hh) rfl (.inl rfl) ?_
    simp only [hl, wx, wy, wz, stV, seval, IntWalk.iteOmega, IntWalk.toNatUp, reduceCtorEq]
    refine loop_st (dgSt l) (fun j => 32 - j) (fun j => j ≤ 32) 0 (Nat.zero_le _) ?_ ?_
    · refine ent_l (fun _ => 96) ?_ ?_ rfl rfl <;> simp only [wx, wex, wez, stV, seval, IntWalk.iteOmega, IntWalk.toNatUp, reduceCtorEq, lackN, List.sum_nil]
    · intro j hj
      have hsj : lackN (l.take j) ≤ 15 * j := by
        have := lackN_le (l.take j)
        rw [List.length_take] at this
        omega
      by_cases hlt : j < 32
      · have g1 := getI (l := l) (j := j) (by omega)
        have hx : l.getD j 0 ≤ 15 := by
          rw [List.getD_eq_getElem?_getD, List.getElem?_eq_getElem (by omega : j < l.length)]
          exact hle _ (List.getElem_mem _)
        have e : ((lackN (l.take (j + 1)) : Nat) : Int) = (lackN (l.take j) : Int) + (15 - ((l.getD j 0 : Nat) : Int)) := by
          rw [lackN_take (by omega : j < l.length)]; omega
        simp only [lp_dgs_0, dgSt, wx, wy, wz, stV, seval, IntWalk.iteOmega, IntWalk.toNatUp, reduceCtorEq, g1]
        refine lop_next (j + 1) (by omega) (by omega) (ent_l (fun i => i) ?_ ?_ rfl rfl) <;> simp only [wx, wex, wez, stV, seval, IntWalk.iteOmega, IntWalk.toNatUp, reduceCtorEq, e]
      · obtain rfl : j = 32 := by omega
        have ht : l.take 32 = l := List.take_of_length_le (by omega)
        rw [ht] at hsj
        have hp := put_in G (lackN l) 2 (by decide)
        have hq := halv_f G (putL (lackN l) 2) (by rw [putL_length]; decide)
        rw [half_put (by omega)] at hq
        have hw : IntKind.u64.wrap (lackN l : Int) = (lackN l : Int) := by rw [IntKind.wrap_u64]; omega
        simp only [lp_dgs_0, dgSt, wx, wy, wz, stV, seval, IntWalk.iteOmega, IntWalk.toNatUp, reduceCtorEq, ht, hw]
        refine st_call (hp) rfl (.inl rfl) ?_
        simp only [wx, wy, wz, stV, seval, IntWalk.iteOmega, IntWalk.toNatUp, reduceCtorEq]
        refine st_call (hq) rfl (.inl rfl) ?_
        simp only [srcV, List.map_cons, List.map_nil, hl, allSz_i, wx, wy, wz, stV, seval, IntWalk.iteOmega, IntWalk.toNatUp, reduceCtorEq]
        exact ret_f2 (by simp only [wx, wy, wz, stV, seval, IntWalk.iteOmega, IntWalk.toNatUp, reduceCtorEq, hm]) (by simp only [wx, wy, wz, stV, seval, IntWalk.iteOmega, IntWalk.toNatUp, reduceCtorEq])
  · obtain ⟨hE, hV⟩ := dig_no h
    rw [hE, hV]
    simp only [sf_dgs, putAll, wx, wy, wz, stV, seval, IntWalk.iteOmega, IntWalk.toNatUp, reduceCtorEq]
    exact ret_f2 (by simp only [wx, wy, wz, stV, seval, IntWalk.iteOmega, IntWalk.toNatUp, reduceCtorEq]) (by simp only [wx, wy, wz, stV, seval, IntWalk.iteOmega, IntWalk.toNatUp, reduceCtorEq])
theorem den_ro2N {P : Program} {G : Glob} {F : FuncId} {args : List D} {l : List Nat} {y : D} (h : Den P G F args (.tup [.c (.fr 1 (l.map iD)), .c (.d y)])) : Den P G F args (.tup [.c (.d (.sl (l.map iD))), .c (.d y)]) := den_ro2 h
/-! ### The reference's digits -/
def rdSt (b : List UInt8) (j : Nat) : St := ⟨ofL [(0, .w (.c (.d (.sl (b.map bD))))), (4, hvV j), (5, .w (.c (.d (.int .i64 ((lackN (halfN (b.take j)) : Nat) : Int))))), (6, .w (.c (.d (.int .i64 (j : Int)))))], hL (hvH b j), uL [1]⟩
theorem lack_half (b : List UInt8) {j : Nat} (h : j < b.length) : ((lackN (halfN (b.take (j + 1))) : Nat) : Int) = (lackN (halfN (b.take j)) : Int) + 15 - ((b[j].toNat / 16 : Nat) : Int) + 15 - ((b[j].toNat % 16 : Nat) : Int) := by
  have hb := b[j].toNat_lt
  rw [List.take_succ_eq_append_getElem h, halfN_snoc, lackN_app]
  have e : lackN [b[j].toNat / 16, b[j].toNat % 16] = (15 - b[j].toNat / 16) + (15 - b[j].toNat % 16) := by simp [lackN]
  rw [e]; omega
def lp_rdgs_0 : SCode :=
  .seq (.seq (.reg [⟨(some 12), .mv (.t 6), none⟩,
    ⟨(some 13), .mv (.t 0), none⟩,
    ⟨(some 14), .len (.t 13), none⟩,
    ⟨(some 15), .bin .lss (.t 12) (.t 14), none⟩])
  (.cond (.t 15) (.skip)
   (.exit 0)))
  (.seq (.block 1 (.seq (.reg [⟨(some 18), .mv (.t 0), none⟩,
     ⟨(some 19), .mv (.t 6), none⟩,
     ⟨(some 20), .idxSl 1 (.t 18) (.t 19), none⟩,
     ⟨(some 21), .load .sc (.t 20), none⟩,
     ⟨(some 22), .bin .shr (.t 21) (.k (.c (.d (.int .u64 4)))), none⟩,
     ⟨(some 23), .conv .i64 (.t 22), none⟩,
     ⟨(some 24), .mv (.t 0), none⟩,
     ⟨(some 25), .mv (.t 6), none⟩,
     ⟨(some 26), .idxSl 1 (.t 24) (.t 25), none⟩,
     ⟨(some 27), .load .sc (.t 26), none⟩,
     ⟨(some 28), .bin .and (.t 27) (.k (.c (.d (.int .u8 15)))), none⟩,
     ⟨(some 29), .conv .i64 (.t 28), none⟩,
     ⟨(some 7), .mv (.t 23), none⟩,
     ⟨(some 8), .mv (.t 29), none⟩])
   (.seq (.reg [⟨(some 30), .mv (.t 4), none⟩,
     ⟨(some 31), .mv (.t 7), none⟩,
     ⟨(some 32), .mv (.t 8), none⟩,
     ⟨(some 33), .bldSl false 2 1 (.int .i64 0) [(0, (.t 31)), (1, (.t 32))], none⟩,
     ⟨(some 34), .app false 1 8 (.t 30) (.t 33), none⟩,
     ⟨(some 4), .mv (.t 34), none⟩])
   (.reg [⟨(some 35), .mv (.t 5), none⟩,
     ⟨(some 36), .bin .add (.t 35) (.k (.c (.d (.int .i64 15)))), none⟩,
     ⟨(some 37), .mv (.t 7), none⟩,
     ⟨(some 38), .bin .sub (.t 36) (.t 37), none⟩,
     ⟨(some 39), .bin .add (.t 38) (.k (.c (.d (.int .i64 15)))), none⟩,
     ⟨(some 40), .mv (.t 8), none⟩,
     ⟨(some 41), .bin .sub (.t 39) (.t 40), none⟩,
     ⟨(some 5), .mv (.t 41), none⟩]))))
  (.reg [⟨(some 16), .mv (.t 6), none⟩,
    ⟨(some 17), .bin .add (.t 16) (.k (.c (.d (.int .i64 1)))), none⟩,
    ⟨(some 6), .mv (.t 17), none⟩]))
def sf_rdgs : SFn := ⟨1, 52,
  .seq (.reg [⟨(some 2), .mv (.k (.c .nil)), none⟩,
    ⟨(some 3), .mv (.k (.c (.d (.int .i64 0)))), none⟩])
  (.seq (.seq (.reg [⟨(some 9), .mv (.t 0), none⟩,
    ⟨(some 10), .len (.t 9), none⟩,
    ⟨(some 11), .bin .neq (.t 10) (.k (.c (.d (.int .i64 16)))), none⟩])
  (.cond (.t 11) (.seq (.reg [⟨(some 2), .mv (.k (.c .nil)), none⟩,
     ⟨(some 3), .mv (.k (.c (.d (.int .i64 3)))), none⟩])
   (.ret))
   (.skip)))
  (.seq (.reg [⟨(some 4), .mv (.k (.c .nil)), none⟩])
  (.seq (.reg [⟨(some 5), .mv (.k (.c (.d (.int .i64 0)))), none⟩])
  (.seq (.seq (.reg [⟨(some 6), .mv (.k (.c (.d (.int .i64 0)))), none⟩])
  (.block 0 (.loop lp_rdgs_0)))
  (.seq (.reg [⟨(some 42), .mv (.t 4), none⟩,
    ⟨(some 43), .mv (.t 5), none⟩,
    ⟨(some 44), .bin .quo (.t 43) (.k (.c (.d (.int .i64 256)))), none⟩,
    ⟨(some 45), .mv (.t 5), none⟩,
    ⟨(some 46), .bin .quo (.t 45) (.k (.c (.d (.int .i64 16)))), none⟩,
    ⟨(some 47), .bin .rem (.t 46) (.k (.c (.d (.int .i64 16)))), none⟩,
    ⟨(some 48), .mv (.t 5), none⟩,
    ⟨(some 49), .bin .rem (.t 48) (.k (.c (.d (.int .i64 16)))), none⟩,
    ⟨(some 50), .bldSl false 3 1 (.int .i64 0) [(0, (.t 44)), (1, (.t 47)), (2, (.t 49))], none⟩,
    ⟨(some 51), .app false 1 8 (.t 42) (.t 50), none⟩,
    ⟨(some 2), .mv (.t 51), none⟩,
    ⟨(some 3), .mv (.k (.c (.d (.int .i64 0)))), none⟩])
  (.ret)))))),
  [(2, none), (3, none)]⟩
theorem cf_rdgs : compFn Tryd.prog { own := [], comp := [], frz := [], nils := [] } Tryd.f10 = some sf_rdgs := by kernel_rfl
set_option maxHeartbeats 3200000 in
theorem rdgs_f (G : Glob) (b : List UInt8) (hb : b.length ≤ 9223372036854775807) : Den Tryd.prog G 10 [.sl (b.map bD)] (.tup [.c (.fr 1 ((dgtV b).map iD)), .c (.d (.int .i64 (dgtE b)))]) := by
  refine den_walk Tryd.func10 cf_rdgs rfl rfl ?_
  by_cases h : b.length = 16
  · obtain ⟨hE, hV⟩ := dig_ok h
    rw [hE, hV]
    simp only [sf_rdgs, putAll, wx, wy, wz, stV, seval, IntWalk.iteOmega, IntWalk.toNatUp, reduceCtorEq, h]
    refine loop_st (rdSt b) (fun j => 16 - j) (fun j => j ≤ 16) 0 (Nat.zero_le _) ?_ ?_
    · refine ent_l (fun i => i) ?_ ?_ rfl rfl <;> simp only [wx, wex, wez, stV, seval, IntWalk.iteOmega, IntWalk.toNatUp, reduceCtorEq, hvV, hvH, halfN, lackN, List.map_nil, List.sum_nil]
    · intro i hi
      have hs := lackN_le (halfN (b.take i))
      rw [halfN_len, List.length_take] at hs
      by_cases hlt : i < 16
      · have hb8 := b[i].toNat_lt
        have hlt' : i < b.length := by omega
        have e2 : b[i]? = some b[i] := List.getElem?_eq_getElem hlt'
        have e5 : bits .and .u8 (b[i].toNat : Int) 15 = ((b[i].toNat % 16 : Nat) : Int) := u8_and15 _ (by omega) (by omega)
        have e6 : (b[i].toNat : Int) / 16 = ((b[i].toNat / 16 : Nat) : Int) := rfl
        have e7 := lack_half b hlt'
        have q1 : b[i].toNat / 16 < 16 := by omega
        have q2 : b[i].toNat % 16 < 16 := by omega
        rcases i with _ | i
        · have h0 := half_0 b hlt'
          have hl : (halfN (b.take 1)).length = 2 := by rw [halfN_len, List.length_take]; omega
          have z0 : lackN (halfN []) = 0 := rfl
          have z1 : lackN (halfN (b.take 0)) = 0 := rfl
          simp only [Nat.zero_add, z1] at e7
          generalize b[0].toNat / 16 = x at *
          generalize b[0].toNat % 16 = y at *
          simp only [lp_rdgs_0, rdSt, hvV, hvH, wx, wy, wz, stV, seval, IntWalk.iteOmega, IntWalk.toNatUp, reduceCtorEq, h, get_map, e2, IntKind.bits, e5, e6, srcV, List.replicate, h0, allSz_i, hl, z0]
          refine lop_next (0 + 1) (by omega) (by omega) (ent_l (fun _ => 272) ?_ ?_ rfl rfl) <;> simp only [wx, wex, wez, stV, seval, IntWalk.iteOmega, IntWalk.toNatUp, reduceCtorEq, hvV, hvH, hl, e7]
        · have h0 := half_i b hlt'
          have hl : (halfN (b.take (i + 1))).length = 2 * (i + 1) := by rw [halfN_len, List.length_take]; omega
          have hl2 : (halfN (b.take (i + 1 + 1))).length = 2 * (i + 1 + 1) := by rw [halfN_len, List.length_take]; omega
          generalize b[i + 1].toNat / 16 = x at *
          generalize b[i + 1].toNat % 16 = y at *
          simp only [lp_rdgs_0, rdSt, hvV, hvH, wx, wy, wz, stV, seval, IntWalk.iteOmega, IntWalk.toNatUp, reduceCtorEq, h, get_map, e2, IntKind.bits, e5, e6, srcV, List.replicate, h0, allSz_i, hl, hl2]
          refine lop_next (i + 1 + 1) (by omega) (by omega) (ent_l (fun _ => 272) ?_ ?_ rfl rfl) <;> simp only [wx, wex, wez, stV, seval, IntWalk.iteOmega, IntWalk.toNatUp, reduceCtorEq, hvV, hvH, hl2, e7]
      · obtain rfl : i = 16 := by omega
        have ht : b.take 16 = b := List.take_of_length_le (by omega)
        have hl : (halfN b).length = 32 := by rw [halfN_len, h]
        have hm := digN_map b
        rw [ht] at hs
        have d1 : (lackN (halfN b) : Int).tdiv 256 = ((lackN (halfN b) / 256 : Nat) : Int) := rfl
        have d2 : (lackN (halfN b) : Int).tdiv 16 = ((lackN (halfN b) / 16 : Nat) : Int) := rfl
        have d3 : ((lackN (halfN b) / 16 : Nat) : Int).tmod 16 = ((lackN (halfN b) / 16 % 16 : Nat) : Int) := rfl
        have d4 : (lackN (halfN b) : Int).tmod 16 = ((lackN (halfN b) % 16 : Nat) : Int) := rfl
        simp only [lp_rdgs_0, rdSt, hvV, hvH, wx, wy, wz, stV, seval, IntWalk.iteOmega, IntWalk.toNatUp, reduceCtorEq, ht, h, d1, d2, d3, d4, srcV, allSz_i, hl]
        exact ret_f2 (by simp only [wx, wy, wz, stV, seval, IntWalk.iteOmega, IntWalk.toNatUp, reduceCtorEq, hm]) (by simp only [wx, wy, wz, stV, seval, IntWalk.iteOmega, IntWalk.toNatUp, reduceCtorEq])
  · obtain ⟨hE, hV⟩ := dig_no h
    rw [hE, hV]
    simp only [sf_rdgs, putAll, wx, wy, wz, stV, seval, IntWalk.iteOmega, IntWalk.toNatUp, reduceCtorEq]
    exact ret_f2 (by simp only [wx, wy, wz, stV, seval, IntWalk.iteOmega, IntWalk.toNatUp, reduceCtorEq]) (by simp only [wx, wy, wz, stV, seval, IntWalk.iteOmega, IntWalk.toNatUp, reduceCtorEq])
theorem dgs_c (G : Glob) (b : List UInt8) (hb : b.length ≤ 9223372036854775807) : Den Tryd.prog G 9 [.sl (b.map bD)] (.tup [.c (.d (.sl ((dgtV b).map iD))), .c (.d (.int .i64 (dgtE b)))]) := den_ro2N (dgs_f G b hb)
theorem rdgs_c (G : Glob) (b : List UInt8) (hb : b.length ≤ 9223372036854775807) : Den Tryd.prog G 10 [.sl (b.map bD)] (.tup [.c (.d (.sl ((dgtV b).map iD))), .c (.d (.int .i64 (dgtE b)))]) := den_ro2N (rdgs_f G b hb)
/-! ### Errors, secrets -/
def chkE (seed : List UInt8) (index : Int) : Int := if ¬ seed.length = 32 then 5 else if index < 0 ∨ 2147483647 < index then 4 else 0
def sf_ochk : SFn := ⟨2, 14,
  .seq (.reg [⟨(some 4), .mv (.k (.c (.d (.int .i64 0)))), none⟩])
  (.seq (.seq (.reg [⟨(some 5), .mv (.t 0), none⟩,
    ⟨(some 6), .len (.t 5), none⟩,
    ⟨(some 7), .bin .neq (.t 6) (.k (.c (.d (.int .i64 32)))), none⟩])
  (.cond (.t 7) (.seq (.reg [⟨(some 4), .mv (.k (.c (.d (.int .i64 5)))), none⟩])
   (.ret))
   (.skip)))
  (.seq (.seq (.reg [⟨(some 8), .mv (.t 1), none⟩,
    ⟨(some 9), .bin .lss (.t 8) (.k (.c (.d (.int .i64 0)))), none⟩,
    ⟨(some 10), .mv (.t 9), none⟩,
    ⟨(some 11), .mv (.t 1), (some (10, false))⟩,
    ⟨(some 12), .bin .gtr (.t 11) (.k (.c (.d (.int .i64 2147483647)))), (some (10, false))⟩,
    ⟨(some 13), .pick (.t 10) (.k (.c (.d (.bool true)))) (.t 12), none⟩])
  (.cond (.t 13) (.seq (.reg [⟨(some 4), .mv (.k (.c (.d (.int .i64 4)))), none⟩])
   (.ret))
   (.skip)))
  (.seq (.reg [⟨(some 4), .mv (.k (.c (.d (.int .i64 0)))), none⟩])
  (.ret)))),
  [(4, none)]⟩
theorem cf_ochk : compFn Tryd.prog { own := [], comp := [], frz := [], nils := [] } Tryd.f29 = some sf_ochk := by kernel_rfl
theorem ochk_c (G : Glob) (seed : List UInt8) (index : Int) : Den Tryd.prog G 29 [.sl (seed.map bD), .int .i64 index] (.w (.c (.d (.int .i64 (chkE seed index))))) := by
  refine den_walk Tryd.func29 cf_ochk rfl rfl ?_
  unfold chkE
  by_cases h : seed.length = 32
  · rw [if_neg (by omega)]
    by_cases h1 : index < 0
    · rw [if_pos (.inl h1)]
      simp only [sf_ochk, putAll, wx, wy, wz, stV, seval, IntWalk.iteOmega, IntWalk.toNatUp, reduceCtorEq, h]
      exact ret_d1 (by simp only [wx, wy, wz, stV, seval, IntWalk.iteOmega, IntWalk.toNatUp, reduceCtorEq])
    · by_cases h2 : 2147483647 < index
      · rw [if_pos (.inr h2)]
        simp only [sf_ochk, putAll, wx, wy, wz, stV, seval, IntWalk.iteOmega, IntWalk.toNatUp, reduceCtorEq, h]
        exact ret_d1 (by simp only [wx, wy, wz, stV, seval, IntWalk.iteOmega, IntWalk.toNatUp, reduceCtorEq])
      · rw [if_neg (by omega)]
        simp only [sf_ochk, putAll, wx, wy, wz, stV, seval, IntWalk.iteOmega, IntWalk.toNatUp, reduceCtorEq, h]
        exact ret_d1 (by simp only [wx, wy, wz, stV, seval, IntWalk.iteOmega, IntWalk.toNatUp, reduceCtorEq])
  · rw [if_pos h]
    simp only [sf_ochk, putAll, wx, wy, wz, stV, seval, IntWalk.iteOmega, IntWalk.toNatUp, reduceCtorEq]
    exact ret_d1 (by simp only [wx, wy, wz, stV, seval, IntWalk.iteOmega, IntWalk.toNatUp, reduceCtorEq])
def sf_rochk : SFn := ⟨2, 14,
  .seq (.reg [⟨(some 4), .mv (.k (.c (.d (.int .i64 0)))), none⟩])
  (.seq (.seq (.reg [⟨(some 5), .mv (.t 0), none⟩,
    ⟨(some 6), .len (.t 5), none⟩,
    ⟨(some 7), .bin .neq (.t 6) (.k (.c (.d (.int .i64 32)))), none⟩])
  (.cond (.t 7) (.seq (.reg [⟨(some 4), .mv (.k (.c (.d (.int .i64 5)))), none⟩])
   (.ret))
   (.skip)))
  (.seq (.seq (.reg [⟨(some 8), .mv (.t 1), none⟩,
    ⟨(some 9), .bin .lss (.t 8) (.k (.c (.d (.int .i64 0)))), none⟩,
    ⟨(some 10), .mv (.t 9), none⟩,
    ⟨(some 11), .mv (.t 1), (some (10, false))⟩,
    ⟨(some 12), .bin .gtr (.t 11) (.k (.c (.d (.int .i64 2147483647)))), (some (10, false))⟩,
    ⟨(some 13), .pick (.t 10) (.k (.c (.d (.bool true)))) (.t 12), none⟩])
  (.cond (.t 13) (.seq (.reg [⟨(some 4), .mv (.k (.c (.d (.int .i64 4)))), none⟩])
   (.ret))
   (.skip)))
  (.seq (.reg [⟨(some 4), .mv (.k (.c (.d (.int .i64 0)))), none⟩])
  (.ret)))),
  [(4, none)]⟩
theorem cf_rochk : compFn Tryd.prog { own := [], comp := [], frz := [], nils := [] } Tryd.f31 = some sf_rochk := by kernel_rfl
theorem rochk_c (G : Glob) (seed : List UInt8) (index : Int) : Den Tryd.prog G 31 [.sl (seed.map bD), .int .i64 index] (.w (.c (.d (.int .i64 (chkE seed index))))) := by
  refine den_walk Tryd.func31 cf_rochk rfl rfl ?_
  unfold chkE
  by_cases h : seed.length = 32
  · rw [if_neg (by omega)]
    by_cases h1 : index < 0
    · rw [if_pos (.inl h1)]
      simp only [sf_rochk, putAll, wx, wy, wz, stV, seval, IntWalk.iteOmega, IntWalk.toNatUp, reduceCtorEq, h]
      exact ret_d1 (by simp only [wx, wy, wz, stV, seval, IntWalk.iteOmega, IntWalk.toNatUp, reduceCtorEq])
    · by_cases h2 : 2147483647 < index
      · rw [if_pos (.inr h2)]
        simp only [sf_rochk, putAll, wx, wy, wz, stV, seval, IntWalk.iteOmega, IntWalk.toNatUp, reduceCtorEq, h]
        exact ret_d1 (by simp only [wx, wy, wz, stV, seval, IntWalk.iteOmega, IntWalk.toNatUp, reduceCtorEq])
      · rw [if_neg (by omega)]
        simp only [sf_rochk, putAll, wx, wy, wz, stV, seval, IntWalk.iteOmega, IntWalk.toNatUp, reduceCtorEq, h]
        exact ret_d1 (by simp only [wx, wy, wz, stV, seval, IntWalk.iteOmega, IntWalk.toNatUp, reduceCtorEq])
  · rw [if_pos h]
    simp only [sf_rochk, putAll, wx, wy, wz, stV, seval, IntWalk.iteOmega, IntWalk.toNatUp, reduceCtorEq]
    exact ret_d1 (by simp only [wx, wy, wz, stV, seval, IntWalk.iteOmega, IntWalk.toNatUp, reduceCtorEq])
theorem chkE_ok {seed : List UInt8} {index : Int} (h : chkE seed index = 0) : seed.length = 32 ∧ 0 ≤ index ∧ index ≤ 2147483647 := by
  unfold chkE at h
  split at h
  · cases h
  · split at h
    · cases h
    · omega
def secE (seed : List UInt8) (index chain : Int) : Int := if chkE seed index = 0 then (if chain < 0 ∨ 35 ≤ chain then 4 else 0) else chkE seed index
def secV (seed : List UInt8) (index chain : Int) : List UInt8 := if secE seed index chain = 0 then secM seed index.toNat chain.toNat else []
theorem putL_1 (c : Nat) : putL c 1 = [UInt8.ofNat c] := by
  show [UInt8.ofNat (c / 1)] = _
  rw [Nat.div_one]
theorem sec_join (seed : List UInt8) (i c : Nat) : [seed, putL i 4, putL c 1].flatten = seed ++ putL i 4 ++ [UInt8.ofNat c] := by rw [putL_1]; simp
def sf_sec0 : SFn := ⟨3, 17,
  .seq (.reg [⟨(some 6), .mv (.k (.c .nil)), none⟩])
  (.seq (.reg [⟨(some 7), .mv (.t 0), none⟩,
    ⟨(some 8), .mv (.t 1), none⟩,
    ⟨(some 9), .conv .u64 (.t 8), none⟩,
    ⟨(some 10), .call 28 [(.t 9), (.k (.c (.d (.int .i64 4))))] none, none⟩,
    ⟨(some 11), .mv (.t 2), none⟩,
    ⟨(some 12), .conv .u64 (.t 11), none⟩,
    ⟨(some 13), .call 28 [(.t 12), (.k (.c (.d (.int .i64 1))))] none, none⟩,
    ⟨(some 14), .bldSl false 3 1 (.sl []) [(0, (.t 7)), (1, (.t 10)), (2, (.t 13))], none⟩,
    ⟨(some 15), .call 39 [(.t 14)] none, none⟩,
    ⟨(some 16), .call 37 [(.t 15)] (some (0, 1)), none⟩,
    ⟨(some 6), .mv (.t 16), none⟩])
  (.ret)),
  [(6, none)]⟩
theorem cf_sec0 : compFn Tryd.prog { own := [16], comp := [], frz := [], nils := [] } Tryd.f30 = some sf_sec0 := by kernel_rfl
set_option maxHeartbeats 1600000 in
theorem sec0_f (G : Glob) (hF : G.at 0 = some (.ra (firstK.map wD))) (hG : G.at 1 = some (.ra (constK.map wD))) (seed : List UInt8) (i c : Nat) (hs : seed.length = 32) (hi : i ≤ 2147483647) (hc : c < 35) : Den Tryd.prog G 30 [.sl (seed.map bD), .int .i64 (i : Int), .int .i64 (c : Int)] (.w (.c (.fr 1 ((secM seed i c).map bD)))) := by
  refine den_walk Tryd.func30 cf_sec0 rfl rfl ?_
  have p1 := put_in G i 4 (by decide)
  have p2 := put_in G c 1 (by decide)
  have hj := join_c G [seed, putL i 4, putL c 1] (by simp) (by simp [putL_length]; omega)
  rw [sec_join] at hj
  have hh := short_c G hF hG (seed ++ putL i 4 ++ [UInt8.ofNat c]) (by simp [putL_length]; omega)
  have hm : shortK (seed ++ putL i 4 ++ [UInt8.ofNat c]) = secM seed i c := rfl
  rw [hm] at hh
  generalize seed ++ putL i 4 ++ [UInt8.ofNat c] = z at *
  have w1 : IntKind.u64.wrap (i : Int) = (i : Int) := by rw [IntKind.wrap_u64]; omega
  have w2 : IntKind.u64.wrap (c : Int) = (c : Int) := by rw [IntKind.wrap_u64]; omega
  simp only [sf_sec0, putAll, wx, wy, wz, stV, seval, IntWalk.iteOmega, IntWalk.toNatUp, reduceCtorEq, w1, w2]
  refine st_call (p1) rfl (.inl rfl) ?_
  simp only [w2, wx, wy, wz, stV, seval, IntWalk.iteOmega, IntWalk.toNatUp, reduceCtorEq]
  refine st_call (p2) rfl (.inl rfl) ?_
  simp only [wx, wy, wz, stV, seval, IntWalk.iteOmega, IntWalk.toNatUp, reduceCtorEq]
  refine st_call (hj) rfl (.inl rfl) ?_
  simp only [wx, wy, wz, stV, seval, IntWalk.iteOmega, IntWalk.toNatUp, reduceCtorEq]
  refine st_call (hh) rfl (.inl rfl) ?_
  simp only [wx, wy, wz, stV, seval, IntWalk.iteOmega, IntWalk.toNatUp, reduceCtorEq]
  exact ret_f1 (by simp only [wx, wy, wz, stV, seval, IntWalk.iteOmega, IntWalk.toNatUp, reduceCtorEq])
theorem sec0_c (G : Glob) (hF : G.at 0 = some (.ra (firstK.map wD))) (hG : G.at 1 = some (.ra (constK.map wD))) (seed : List UInt8) (i c : Nat) (hs : seed.length = 32) (hi : i ≤ 2147483647) (hc : c < 35) : Den Tryd.prog G 30 [.sl (seed.map bD), .int .i64 (i : Int), .int .i64 (c : Int)] (.w (.c (.d (.sl ((secM seed i c).map bD))))) := den_ro (sec0_f G hF hG seed i c hs hi hc)
def sf_sec : SFn := ⟨3, 25,
  .seq (.reg [⟨(some 6), .mv (.k (.c .nil)), none⟩,
    ⟨(some 7), .mv (.k (.c (.d (.int .i64 0)))), none⟩])
  (.seq (.seq (.reg [⟨(some 9), .mv (.t 0), none⟩,
    ⟨(some 10), .mv (.t 1), none⟩,
    ⟨(some 11), .call 29 [(.t 9), (.t 10)] none, none⟩,
    ⟨(some 8), .mv (.t 11), none⟩])
  (.seq (.reg [⟨(some 12), .mv (.t 8), none⟩,
    ⟨(some 13), .bin .neq (.t 12) (.k (.c (.d (.int .i64 0)))), none⟩])
  (.cond (.t 13) (.seq (.reg [⟨(some 14), .mv (.t 8), none⟩,
     ⟨(some 6), .mv (.k (.c .nil)), none⟩,
     ⟨(some 7), .mv (.t 14), none⟩])
   (.ret))
   (.skip))))
  (.seq (.seq (.reg [⟨(some 15), .mv (.t 2), none⟩,
    ⟨(some 16), .bin .lss (.t 15) (.k (.c (.d (.int .i64 0)))), none⟩,
    ⟨(some 17), .mv (.t 16), none⟩,
    ⟨(some 18), .mv (.t 2), (some (17, false))⟩,
    ⟨(some 19), .bin .geq (.t 18) (.k (.c (.d (.int .i64 35)))), (some (17, false))⟩,
    ⟨(some 20), .pick (.t 17) (.k (.c (.d (.bool true)))) (.t 19), none⟩])
  (.cond (.t 20) (.seq (.reg [⟨(some 6), .mv (.k (.c .nil)), none⟩,
     ⟨(some 7), .mv (.k (.c (.d (.int .i64 4)))), none⟩])
   (.ret))
   (.skip)))
  (.seq (.reg [⟨(some 21), .mv (.t 0), none⟩,
    ⟨(some 22), .mv (.t 1), none⟩,
    ⟨(some 23), .mv (.t 2), none⟩,
    ⟨(some 24), .call 30 [(.t 21), (.t 22), (.t 23)] (some (0, 1)), none⟩,
    ⟨(some 6), .mv (.t 24), none⟩,
    ⟨(some 7), .mv (.k (.c (.d (.int .i64 0)))), none⟩])
  (.ret)))),
  [(6, none), (7, none)]⟩
theorem cf_sec : compFn Tryd.prog { own := [24], comp := [], frz := [], nils := [] } Tryd.f11 = some sf_sec := by kernel_rfl
set_option maxHeartbeats 1600000 in
theorem sec_f (G : Glob) (hF : G.at 0 = some (.ra (firstK.map wD))) (hG : G.at 1 = some (.ra (constK.map wD))) (seed : List UInt8) (index chain : Int) : Den Tryd.prog G 11 [.sl (seed.map bD), .int .i64 index, .int .i64 chain] (.tup [.c (.fr 1 ((secV seed index chain).map bD)), .c (.d (.int .i64 (secE seed index chain)))]) := by
  refine den_walk Tryd.func11 cf_sec rfl rfl ?_
  have hk := ochk_c G seed index
  by_cases h : chkE seed index = 0
  · obtain ⟨k1, k2, k3⟩ := chkE_ok h
    rw [h] at hk
    by_cases h1 : chain < 0
    · have hE : secE seed index chain = 4 := by unfold secE; rw [if_pos h, if_pos (.inl h1)]
      have hV : secV seed index chain = [] := if_neg (by rw [hE]; decide)
      rw [hE, hV]
      simp only [sf_sec, putAll, wx, wy, wz, stV, seval, IntWalk.iteOmega, IntWalk.toNatUp, reduceCtorEq]
      refine st_call (hk) rfl (.inl rfl) ?_
      simp only [wx, wy, wz, stV, seval, IntWalk.iteOmega, IntWalk.toNatUp, reduceCtorEq]
      exact ret_f2 (by simp only [wx, wy, wz, stV, seval, IntWalk.iteOmega, IntWalk.toNatUp, reduceCtorEq]) (by simp only [wx, wy, wz, stV, seval, IntWalk.iteOmega, IntWalk.toNatUp, reduceCtorEq])
    · by_cases h2 : 35 ≤ chain
      · have hE : secE seed index chain = 4 := by unfold secE; rw [if_pos h, if_pos (.inr h2)]
        have hV : secV seed index chain = [] := if_neg (by rw [hE]; decide)
        rw [hE, hV]
        simp only [sf_sec, putAll, wx, wy, wz, stV, seval, IntWalk.iteOmega, IntWalk.toNatUp, reduceCtorEq]
        refine st_call (hk) rfl (.inl rfl) ?_
        simp only [wx, wy, wz, stV, seval, IntWalk.iteOmega, IntWalk.toNatUp, reduceCtorEq]
        exact ret_f2 (by simp only [wx, wy, wz, stV, seval, IntWalk.iteOmega, IntWalk.toNatUp, reduceCtorEq]) (by simp only [wx, wy, wz, stV, seval, IntWalk.iteOmega, IntWalk.toNatUp, reduceCtorEq])
      · have hE : secE seed index chain = 0 := by unfold secE; rw [if_pos h, if_neg (by omega)]
        have hV : secV seed index chain = secM seed index.toNat chain.toNat := if_pos hE
        rw [hE, hV]
        obtain ⟨i, rfl⟩ := Int.eq_ofNat_of_zero_le k2
        obtain ⟨c, rfl⟩ := Int.eq_ofNat_of_zero_le (by omega : 0 ≤ chain)
        have e1 : ((i : Int).toNat) = i := rfl
        have e2 : ((c : Int).toNat) = c := rfl
        rw [e1, e2]
        simp only [sf_sec, putAll, wx, wy, wz, stV, seval, IntWalk.iteOmega, IntWalk.toNatUp, reduceCtorEq]
        refine st_call (hk) rfl (.inl rfl) ?_
        simp only [wx, wy, wz, stV, seval, IntWalk.iteOmega, IntWalk.toNatUp, reduceCtorEq]
        refine st_call (sec0_f G hF hG seed i c k1 (by omega) (by omega)) rfl (.inl rfl) ?_
        simp only [wx, wy, wz, stV, seval, IntWalk.iteOmega, IntWalk.toNatUp, reduceCtorEq]
        exact ret_f2 (by simp only [wx, wy, wz, stV, seval, IntWalk.iteOmega, IntWalk.toNatUp, reduceCtorEq]) (by simp only [wx, wy, wz, stV, seval, IntWalk.iteOmega, IntWalk.toNatUp, reduceCtorEq])
  · have hE : secE seed index chain = chkE seed index := if_neg h
    have hV : secV seed index chain = [] := if_neg (by rw [hE]; exact h)
    rw [hE, hV]
    generalize chkE seed index = e at *
    simp only [sf_sec, putAll, wx, wy, wz, stV, seval, IntWalk.iteOmega, IntWalk.toNatUp, reduceCtorEq]
    refine st_call (hk) rfl (.inl rfl) ?_
    simp only [wx, wy, wz, stV, seval, IntWalk.iteOmega, IntWalk.toNatUp, reduceCtorEq]
    exact ret_f2 (by simp only [wx, wy, wz, stV, seval, IntWalk.iteOmega, IntWalk.toNatUp, reduceCtorEq]) (by simp only [wx, wy, wz, stV, seval, IntWalk.iteOmega, IntWalk.toNatUp, reduceCtorEq])
def sf_rshF : SFn := ⟨1, 6,
  .seq (.reg [⟨(some 2), .mv (.k (.c .nil)), none⟩])
  (.seq (.reg [⟨(some 3), .mv (.t 0), none⟩,
    ⟨(some 4), .call 38 [(.t 3)] (some (0, 1)), none⟩,
    ⟨(some 5), .slice 1 (.t 4) none (some (.k (.c (.d (.int .i64 16))))) none, none⟩,
    ⟨(some 2), .mv (.t 5), none⟩])
  (.ret)),
  [(2, none)]⟩
theorem cf_rshF : compFn Tryd.prog { own := [4], comp := [], frz := [], nils := [] } Tryd.f32 = some sf_rshF := by kernel_rfl
set_option maxHeartbeats 1600000 in
theorem rshF_f (G : Glob) (b : List UInt8) (hb : b.length ≤ 140737488355328) : Den Tryd.prog G 32 [.sl (b.map bD)] (.w (.c (.fr 1 ((shortK b).map bD)))) := by
  refine den_walk Tryd.func32 cf_rshF rfl rfl ?_
  have hl := sumK_len b
  have hs : (shortK b).map bD = ((sumK b).map bD).take 16 := by unfold shortK; rw [List.map_take]
  simp only [sf_rshF, putAll, wx, wy, wz, stV, seval, IntWalk.iteOmega, IntWalk.toNatUp, reduceCtorEq]
  refine st_call (rsum_c G b hb) rfl (.inl rfl) ?_
  simp only [wx, wy, wz, stV, seval, IntWalk.iteOmega, IntWalk.toNatUp, reduceCtorEq, hl]
  rw [hs]
  exact ret_ownN (id := 32) (n := 16) (s := 1) (by simp only [wx, stV, seval, IntWalk.iteOmega, IntWalk.toNatUp, reduceCtorEq]) (by simp only [wx, stV, seval, IntWalk.iteOmega, IntWalk.toNatUp, reduceCtorEq]) (by rw [List.length_map]; omega)
def sf_rsec : SFn := ⟨3, 31,
  .seq (.reg [⟨(some 6), .mv (.k (.c .nil)), none⟩,
    ⟨(some 7), .mv (.k (.c (.d (.int .i64 0)))), none⟩])
  (.seq (.seq (.reg [⟨(some 9), .mv (.t 0), none⟩,
    ⟨(some 10), .mv (.t 1), none⟩,
    ⟨(some 11), .call 31 [(.t 9), (.t 10)] none, none⟩,
    ⟨(some 8), .mv (.t 11), none⟩])
  (.seq (.reg [⟨(some 12), .mv (.t 8), none⟩,
    ⟨(some 13), .bin .neq (.t 12) (.k (.c (.d (.int .i64 0)))), none⟩])
  (.cond (.t 13) (.seq (.reg [⟨(some 14), .mv (.t 8), none⟩,
     ⟨(some 6), .mv (.k (.c .nil)), none⟩,
     ⟨(some 7), .mv (.t 14), none⟩])
   (.ret))
   (.skip))))
  (.seq (.seq (.reg [⟨(some 15), .mv (.t 2), none⟩,
    ⟨(some 16), .bin .lss (.t 15) (.k (.c (.d (.int .i64 0)))), none⟩,
    ⟨(some 17), .mv (.t 16), none⟩,
    ⟨(some 18), .mv (.t 2), (some (17, false))⟩,
    ⟨(some 19), .bin .geq (.t 18) (.k (.c (.d (.int .i64 35)))), (some (17, false))⟩,
    ⟨(some 20), .pick (.t 17) (.k (.c (.d (.bool true)))) (.t 19), none⟩])
  (.cond (.t 20) (.seq (.reg [⟨(some 6), .mv (.k (.c .nil)), none⟩,
     ⟨(some 7), .mv (.k (.c (.d (.int .i64 4)))), none⟩])
   (.ret))
   (.skip)))
  (.seq (.reg [⟨(some 21), .mv (.t 0), none⟩,
    ⟨(some 22), .mv (.t 1), none⟩,
    ⟨(some 23), .conv .u64 (.t 22), none⟩,
    ⟨(some 24), .call 34 [(.t 23), (.k (.c (.d (.int .i64 4))))] none, none⟩,
    ⟨(some 25), .mv (.t 2), none⟩,
    ⟨(some 26), .conv .u8 (.t 25), none⟩,
    ⟨(some 27), .bldSl false 1 1 (.int .u8 0) [(0, (.t 26))], none⟩,
    ⟨(some 28), .bldSl false 3 1 (.sl []) [(0, (.t 21)), (1, (.t 24)), (2, (.t 27))], none⟩,
    ⟨(some 29), .call 33 [(.t 28)] none, none⟩,
    ⟨(some 30), .call 32 [(.t 29)] (some (0, 1)), none⟩,
    ⟨(some 6), .mv (.t 30), none⟩,
    ⟨(some 7), .mv (.k (.c (.d (.int .i64 0)))), none⟩])
  (.ret)))),
  [(6, none), (7, none)]⟩
theorem cf_rsec : compFn Tryd.prog { own := [30], comp := [], frz := [], nils := [] } Tryd.f12 = some sf_rsec := by kernel_rfl
set_option maxHeartbeats 1600000 in
theorem rsec_f (G : Glob) (seed : List UInt8) (index chain : Int) : Den Tryd.prog G 12 [.sl (seed.map bD), .int .i64 index, .int .i64 chain] (.tup [.c (.fr 1 ((secV seed index chain).map bD)), .c (.d (.int .i64 (secE seed index chain)))]) := by
  refine den_walk Tryd.func12 cf_rsec rfl rfl ?_
  have hk := rochk_c G seed index
  by_cases h : chkE seed index = 0
  · obtain ⟨k1, k2, k3⟩ := chkE_ok h
    rw [h] at hk
    by_cases h1 : chain < 0
    · have hE : secE seed index chain = 4 := by unfold secE; rw [if_pos h, if_pos (.inl h1)]
      have hV : secV seed index chain = [] := if_neg (by rw [hE]; decide)
      rw [hE, hV]
      simp only [sf_rsec, putAll, wx, wy, wz, stV, seval, IntWalk.iteOmega, IntWalk.toNatUp, reduceCtorEq]
      refine st_call (hk) rfl (.inl rfl) ?_
      simp only [wx, wy, wz, stV, seval, IntWalk.iteOmega, IntWalk.toNatUp, reduceCtorEq]
      exact ret_f2 (by simp only [wx, wy, wz, stV, seval, IntWalk.iteOmega, IntWalk.toNatUp, reduceCtorEq]) (by simp only [wx, wy, wz, stV, seval, IntWalk.iteOmega, IntWalk.toNatUp, reduceCtorEq])
    · by_cases h2 : 35 ≤ chain
      · have hE : secE seed index chain = 4 := by unfold secE; rw [if_pos h, if_pos (.inr h2)]
        have hV : secV seed index chain = [] := if_neg (by rw [hE]; decide)
        rw [hE, hV]
        simp only [sf_rsec, putAll, wx, wy, wz, stV, seval, IntWalk.iteOmega, IntWalk.toNatUp, reduceCtorEq]
        refine st_call (hk) rfl (.inl rfl) ?_
        simp only [wx, wy, wz, stV, seval, IntWalk.iteOmega, IntWalk.toNatUp, reduceCtorEq]
        exact ret_f2 (by simp only [wx, wy, wz, stV, seval, IntWalk.iteOmega, IntWalk.toNatUp, reduceCtorEq]) (by simp only [wx, wy, wz, stV, seval, IntWalk.iteOmega, IntWalk.toNatUp, reduceCtorEq])
      · have hE : secE seed index chain = 0 := by unfold secE; rw [if_pos h, if_neg (by omega)]
        have hV : secV seed index chain = secM seed index.toNat chain.toNat := if_pos hE
        rw [hE, hV]
        obtain ⟨i, rfl⟩ := Int.eq_ofNat_of_zero_le k2
        obtain ⟨c, rfl⟩ := Int.eq_ofNat_of_zero_le (by omega : 0 ≤ chain)
        have e1 : ((i : Int).toNat) = i := rfl
        have e2 : ((c : Int).toNat) = c := rfl
        rw [e1, e2]
        have p1 := rput_in G i 4 (by decide)
        have hj := rjoin_c G [seed, putL i 4, [UInt8.ofNat c]] (by simp) (by simp [putL_length]; omega)
        have hf : [seed, putL i 4, [UInt8.ofNat c]].flatten = seed ++ putL i 4 ++ [UInt8.ofNat c] := by simp
        rw [hf] at hj
        have hh := rshF_f G (seed ++ putL i 4 ++ [UInt8.ofNat c]) (by simp [putL_length]; omega)
        have hm : shortK (seed ++ putL i 4 ++ [UInt8.ofNat c]) = secM seed i c := rfl
        rw [hm] at hh
        have hbo := byte_of c
        have w1 : IntKind.u64.wrap (i : Int) = (i : Int) := by rw [IntKind.wrap_u64]; omega
        have w2 : IntKind.u8.wrap (c : Int) = (c : Int) := by rw [IntKind.wrap_u8]; omega
        rw [w2] at hbo
        simp only [List.map_cons, List.map_nil] at hj
        rw [← hbo] at hj
        generalize seed ++ putL i 4 ++ [UInt8.ofNat c] = z at *
        simp only [sf_rsec, putAll, wx, wy, wz, stV, seval, IntWalk.iteOmega, IntWalk.toNatUp, reduceCtorEq, w1]
        refine st_call (hk) rfl (.inl rfl) ?_
        simp only [w1, wx, wy, wz, stV, seval, IntWalk.iteOmega, IntWalk.toNatUp, reduceCtorEq]
        refine st_call (p1) rfl (.inl rfl) ?_
        simp only [wx, wy, wz, stV, seval, IntWalk.iteOmega, IntWalk.toNatUp, reduceCtorEq]
        refine st_call (hj) rfl (.inl rfl) ?_
        simp only [wx, wy, wz, stV, seval, IntWalk.iteOmega, IntWalk.toNatUp, reduceCtorEq]
        refine st_call (hh) rfl (.inl rfl) ?_
        simp only [wx, wy, wz, stV, seval, IntWalk.iteOmega, IntWalk.toNatUp, reduceCtorEq]
        exact ret_f2 (by simp only [wx, wy, wz, stV, seval, IntWalk.iteOmega, IntWalk.toNatUp, reduceCtorEq]) (by simp only [wx, wy, wz, stV, seval, IntWalk.iteOmega, IntWalk.toNatUp, reduceCtorEq])
  · have hE : secE seed index chain = chkE seed index := if_neg h
    have hV : secV seed index chain = [] := if_neg (by rw [hE]; exact h)
    rw [hE, hV]
    generalize chkE seed index = e at *
    simp only [sf_rsec, putAll, wx, wy, wz, stV, seval, IntWalk.iteOmega, IntWalk.toNatUp, reduceCtorEq]
    refine st_call (hk) rfl (.inl rfl) ?_
    simp only [wx, wy, wz, stV, seval, IntWalk.iteOmega, IntWalk.toNatUp, reduceCtorEq]
    exact ret_f2 (by simp only [wx, wy, wz, stV, seval, IntWalk.iteOmega, IntWalk.toNatUp, reduceCtorEq]) (by simp only [wx, wy, wz, stV, seval, IntWalk.iteOmega, IntWalk.toNatUp, reduceCtorEq])
theorem sec_c (G : Glob) (hF : G.at 0 = some (.ra (firstK.map wD))) (hG : G.at 1 = some (.ra (constK.map wD))) (seed : List UInt8) (index chain : Int) : Den Tryd.prog G 11 [.sl (seed.map bD), .int .i64 index, .int .i64 chain] (.tup [.c (.d (.sl ((secV seed index chain).map bD))), .c (.d (.int .i64 (secE seed index chain)))]) := den_ro2 (sec_f G hF hG seed index chain)
theorem rsec_c (G : Glob) (seed : List UInt8) (index chain : Int) : Den Tryd.prog G 12 [.sl (seed.map bD), .int .i64 index, .int .i64 chain] (.tup [.c (.d (.sl ((secV seed index chain).map bD))), .c (.d (.int .i64 (secE seed index chain)))]) := den_ro2 (rsec_f G seed index chain)
end Go.Proofs.YtgepbpcolddgoaaDoor
