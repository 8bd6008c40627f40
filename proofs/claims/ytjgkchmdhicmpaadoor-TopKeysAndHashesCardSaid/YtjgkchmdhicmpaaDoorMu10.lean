/- Texts of one's own, merged: from: Layer 8 on data: digits, the errors of keys, secrets, in both codes. Own work. -/
import Derived.Test.YtjgkchmdhicmpaaDoorMu9
set_option linter.unusedVariables false
set_option linter.unusedSimpArgs false
namespace Go.Proofs.YtjgkchmdhicmpaaDoor
open Go.RowKit

abbrev iD (n : Nat) : D := .int .i64 (n : Int)
theorem allSz_i (l : List Nat) : allSz 1 (l.map iD) = true := allSz_map _ (fun _ => rfl) l
theorem fl_iy (s : Nat) (l : List Nat) (k : IntKind) (n : Int) : V.flat (.tup [.c (.fr s (l.map iD)), .c (.d (.int k n))]) = true := by
  simp only [V.flat, W.flat, C.flat, List.all_cons, List.all_nil, Bool.and_true, List.all_map, Bool.and_eq_true, List.all_eq_true]
  exact ⟨fun x _ => rfl, rfl⟩
theorem getI {l : List Nat} {j : Nat} (h : j < l.length) : (l.map iD)[j]? = some (.int .i64 ((l.getD j 0 : Nat) : Int)) := by
  rw [List.getElem?_map, List.getElem?_eq_getElem h, List.getD_eq_getElem?_getD, List.getElem?_eq_getElem h]; rfl
theorem half_i (b : List UInt8) {j : Nat} (h : j < b.length) : (halfN (b.take j)).map iD ++ [.int .i64 ((b[j].toNat / 16 : Nat) : Int), .int .i64 ((b[j].toNat % 16 : Nat) : Int)] = (halfN (b.take (j + 1))).map iD := by
  rw [List.take_succ_eq_append_getElem h, halfN_snoc, List.map_append]; rfl
theorem half_0 (b : List UInt8) (h : 0 < b.length) : [D.int .i64 ((b[0].toNat / 16 : Nat) : Int), .int .i64 ((b[0].toNat % 16 : Nat) : Int)] = (halfN (b.take 1)).map iD := by
  rw [← half_i b h]; rfl
def hvV : Nat → V
  | 0 => .w (.c .nil)
  | j + 1 => .w (.c (.own 1 1 0 (2 * (j + 1))))
def hvH (b : List UInt8) : Nat → List (Nat × Ob)
  | 0 => []
  | j + 1 => [(1, .row 1 ((halfN (b.take (j + 1))).map iD))]
def hvSt (b : List UInt8) (j : Nat) : St := ⟨ofL [(3, hvV j), (6, .w (.c (.d (.sl (b.map bD))))), (7, .w (.c (.d (.int .i64 (b.length : Int))))), (8, .w (.c (.d (.int .i64 (j : Int)))))], hL (hvH b j), uL [1]⟩
def lp_halv_0 : SCode :=
  .seq (.reg [⟨(some 9), .bin .lss (.t 8) (.t 7), none⟩])
  (.seq (.cond (.t 9) (.skip)
   (.exit 0))
  (.seq (.block 1 (.seq (.reg [⟨(some 10), .idxSl 1 (.t 6) (.t 8), none⟩,
     ⟨(some 11), .load .sc (.t 10), none⟩,
     ⟨(some 5), .mv (.t 11), none⟩])
   (.reg [⟨(some 12), .mv (.t 3), none⟩,
     ⟨(some 13), .mv (.t 5), none⟩,
     ⟨(some 14), .bin .shr (.t 13) (.k (.c (.d (.int .u64 4)))), none⟩,
     ⟨(some 15), .conv .i64 (.t 14), none⟩,
     ⟨(some 16), .mv (.t 5), none⟩,
     ⟨(some 17), .bin .and (.t 16) (.k (.c (.d (.int .u8 15)))), none⟩,
     ⟨(some 18), .conv .i64 (.t 17), none⟩,
     ⟨(some 19), .bldSl false 2 1 (.int .i64 0) [(0, (.t 15)), (1, (.t 18))], none⟩,
     ⟨(some 20), .app false 1 8 (.t 12) (.t 19), none⟩,
     ⟨(some 3), .mv (.t 20), none⟩])))
  (.reg [⟨(some 21), .bin .add (.t 8) (.k (.c (.d (.int .i64 1)))), none⟩,
    ⟨(some 8), .mv (.t 21), none⟩])))
def sf_halv : SFn := ⟨1, 23,
  .seq (.reg [⟨(some 2), .mv (.k (.c .nil)), none⟩])
  (.seq (.reg [⟨(some 3), .mv (.k (.c .nil)), none⟩])
  (.seq (.seq (.reg [⟨(some 6), .mv (.t 0), none⟩,
    ⟨(some 7), .len (.t 6), none⟩,
    ⟨(some 8), .mv (.k (.c (.d (.int .i64 0)))), none⟩])
  (.block 0 (.loop lp_halv_0)))
  (.seq (.reg [⟨(some 22), .mv (.t 3), none⟩,
    ⟨(some 2), .mv (.t 22), none⟩])
  (.ret)))),
  [(2, none)]⟩
theorem cf_halv : compFn Tryd.prog { own := [], comp := [], frz := [], nils := [] } Tryd.f118 = some sf_halv := by kernel_rfl
set_option maxHeartbeats 1600000 in
theorem halv_f (G : Glob) (b : List UInt8) (hb : b.length ≤ 1000000) : Den Tryd.prog G 118 [.sl (b.map bD)] (.w (.c (.fr 1 ((halfN b).map iD)))) := by
  refine den_walk Tryd.func118 cf_halv rfl rfl ?_
  simp only [sf_halv, putAll, wx, wy, wz, stV, seval, IntWalk.iteOmega, IntWalk.toNatUp, reduceCtorEq]
  refine loop_st (hvSt b) (fun i => b.length - i) (fun i => i ≤ b.length) 0 (Nat.zero_le _) ?_ ?_
  · refine ent_l (fun i => i) ?_ ?_ rfl rfl <;> simp only [wx, wex, wez, stV, seval, IntWalk.iteOmega, IntWalk.toNatUp, reduceCtorEq, hvV, hvH]
  · intro i hi
    by_cases hlt : i < b.length
    · have hb8 := b[i].toNat_lt
      have e2 : b[i]? = some b[i] := List.getElem?_eq_getElem hlt
      have e5 : bits .and .u8 (b[i].toNat : Int) 15 = ((b[i].toNat % 16 : Nat) : Int) := u8_and15 _ (by omega) (by omega)
      have e6 : (b[i].toNat : Int) / 16 = ((b[i].toNat / 16 : Nat) : Int) := rfl
      rcases i with _ | i
      · have h0 := half_0 b hlt
        have hl : (halfN (b.take 1)).length = 2 := by rw [halfN_len, List.length_take]; omega
        simp only [lp_halv_0, hvSt, hvV, hvH, wx, wy, wz, stV, seval, IntWalk.iteOmega, IntWalk.toNatUp, reduceCtorEq, get_map, e2, IntKind.bits, e5, e6, srcV, List.replicate, h0, allSz_i, hl]
        refine lop_next (0 + 1) (by omega) (by omega) (ent_l (fun _ => 160) ?_ ?_ rfl rfl) <;> simp only [wx, wex, wez, stV, seval, IntWalk.iteOmega, IntWalk.toNatUp, reduceCtorEq, hvV, hvH, hl]
      · have h0 := half_i b hlt
        have hl : (halfN (b.take (i + 1))).length = 2 * (i + 1) := by rw [halfN_len, List.length_take]; omega
        have hl2 : (halfN (b.take (i + 1 + 1))).length = 2 * (i + 1 + 1) := by rw [halfN_len, List.length_take]; omega
        simp only [lp_halv_0, hvSt, hvV, hvH, wx, wy, wz, stV, seval, IntWalk.iteOmega, IntWalk.toNatUp, reduceCtorEq, get_map, e2, IntKind.bits, e5, e6, srcV, List.replicate, h0, allSz_i, hl, hl2]
        refine lop_next (i + 1 + 1) (by omega) (by omega) (ent_l (fun _ => 160) ?_ ?_ rfl rfl) <;> simp only [wx, wex, wez, stV, seval, IntWalk.iteOmega, IntWalk.toNatUp, reduceCtorEq, hvV, hvH, hl2]
    · obtain rfl : i = b.length := by omega
      have ht : b.take b.length = b := List.take_length
      rcases hbl : b.length with _ | n
      · obtain rfl : b = [] := List.length_eq_zero_iff.1 hbl
        simp only [lp_halv_0, hvSt, hvV, hvH, wx, wy, wz, stV, seval, IntWalk.iteOmega, IntWalk.toNatUp, reduceCtorEq, hbl]
        exact ret_f1 (by simp only [wx, wy, wz, stV, seval, IntWalk.iteOmega, IntWalk.toNatUp, reduceCtorEq, halfN])
      · have hl := halfN_len b
        rw [hbl] at ht
        simp only [lp_halv_0, hvSt, hvV, hvH, wx, wy, wz, stV, seval, IntWalk.iteOmega, IntWalk.toNatUp, reduceCtorEq, hbl, ht]
        exact ret_f1 (by simp only [wx, wy, wz, stV, seval, IntWalk.iteOmega, IntWalk.toNatUp, reduceCtorEq, hl, hbl])
theorem half_put {s : Nat} (h : s ≤ 480) : halfN (putL s 2) = [0, s / 256, s / 16 % 16, s % 16] := by
  have e : putL s 2 = [UInt8.ofNat (s / 256), UInt8.ofNat (s / 1)] := rfl
  have e1 : (UInt8.ofNat (s / 256)).toNat = s / 256 := by rw [UInt8.toNat_ofNat']; omega
  have e2 : (UInt8.ofNat (s / 1)).toNat = s % 256 := by rw [UInt8.toNat_ofNat', Nat.div_one]
  have e3 : halfN [UInt8.ofNat (s / 256), UInt8.ofNat (s / 1)] = [(UInt8.ofNat (s / 256)).toNat / 16, (UInt8.ofNat (s / 256)).toNat % 16, (UInt8.ofNat (s / 1)).toNat / 16, (UInt8.ofNat (s / 1)).toNat % 16] := rfl
  rw [e, e3, e1, e2]
  congr 1
  · omega
  congr 1
  · omega
  congr 1
  · omega
  congr 1
  omega
def dgtE (b : List UInt8) : Int := if b.length = 16 then 0 else 3
def dgtV (b : List UInt8) : List Nat := if b.length = 16 then digN b else []
theorem dig_ok {b : List UInt8} (h : b.length = 16) : dgtE b = 0 ∧ dgtV b = digN b := ⟨if_pos h, if_pos h⟩
theorem dig_no {b : List UInt8} (h : ¬ b.length = 16) : dgtE b = 3 ∧ dgtV b = [] := ⟨if_neg h, if_neg h⟩
theorem digN_map (b : List UInt8) : (digN b).map iD = (halfN b).map iD ++ [iD (lackN (halfN b) / 256), iD (lackN (halfN b) / 16 % 16), iD (lackN (halfN b) % 16)] := by unfold digN; rw [List.map_append]; rfl
def dgSt (l : List Nat) (j : Nat) : St := ⟨ofL [(4, .w (.c (.own 1 1 0 32))), (5, .w (.c (.d (.int .i64 ((lackN (l.take j) : Nat) : Int))))), (13, .w (.c (.own 1 1 0 32))), (14, .w (.c (.d (.int .i64 32)))), (15, .w (.c (.d (.int .i64 (j : Int)))))], hL [(1, .row 1 (l.map iD))], uL [1]⟩
def lp_dgs_0 : SCode :=
  .seq (.reg [⟨(some 16), .bin .lss (.t 15) (.t 14), none⟩])
  (.seq (.cond (.t 16) (.skip)
   (.exit 0))
  (.seq (.block 1 (.seq (.reg [⟨(some 17), .idxSl 1 (.t 13) (.t 15), none⟩,
     ⟨(some 18), .load .sc (.t 17), none⟩,
     ⟨(some 7), .mv (.t 18), none⟩])
   (.reg [⟨(some 19), .mv (.t 5), none⟩,
     ⟨(some 20), .mv (.t 7), none⟩,
     ⟨(some 21), .bin .sub (.k (.c (.d (.int .i64 15)))) (.t 20), none⟩,
     ⟨(some 22), .bin .add (.t 19) (.t 21), none⟩,
     ⟨(some 5), .mv (.t 22), none⟩])))
  (.reg [⟨(some 23), .bin .add (.t 15) (.k (.c (.d (.int .i64 1)))), none⟩,
    ⟨(some 15), .mv (.t 23), none⟩])))
def sf_dgs : SFn := ⟨1, 31,
  .seq (.reg [⟨(some 2), .mv (.k (.c .nil)), none⟩,
    ⟨(some 3), .mv (.k (.c (.d (.int .i64 0)))), none⟩])
  (.seq (.seq (.reg [⟨(some 8), .mv (.t 0), none⟩,
    ⟨(some 9), .len (.t 8), none⟩,
    ⟨(some 10), .bin .neq (.t 9) (.k (.c (.d (.int .i64 16)))), none⟩])
  (.cond (.t 10) (.seq (.reg [⟨(some 2), .mv (.k (.c .nil)), none⟩,
     ⟨(some 3), .mv (.k (.c (.d (.int .i64 3)))), none⟩])
   (.ret))
   (.skip)))
  (.seq (.reg [⟨(some 11), .mv (.t 0), none⟩,
    ⟨(some 12), .call 118 [(.t 11)] (some (0, 1)), none⟩,
    ⟨(some 4), .mv (.t 12), none⟩])
  (.seq (.reg [⟨(some 5), .mv (.k (.c (.d (.int .i64 0)))), none⟩])
  (.seq (.seq (.reg [⟨(some 13), .mv (.t 4), none⟩,
    ⟨(some 14), .len (.t 13), none⟩,
    ⟨(some 15), .mv (.k (.c (.d (.int .i64 0)))), none⟩])
  (.block 0 (.loop lp_dgs_0)))
  (.seq (.reg [⟨(some 24), .mv (.t 4), none⟩,
    ⟨(some 25), .mv (.t 5), none⟩,
    ⟨(some 26), .conv .u64 (.t 25), none⟩,
    ⟨(some 27), .call 75 [(.t 26), (.k (.c (.d (.int .i64 2))))] none, none⟩,
    ⟨(some 28), .call 118 [(.t 27)] none, none⟩,
    ⟨(some 29), .slice 1 (.t 28) (some (.k (.c (.d (.int .i64 1))))) none none, none⟩,
    ⟨(some 30), .app false 1 8 (.t 24) (.t 29), none⟩,
    ⟨(some 2), .mv (.t 30), none⟩,
    ⟨(some 3), .mv (.k (.c (.d (.int .i64 0)))), none⟩])
  (.ret)))))),
  [(2, none), (3, none)]⟩
theorem cf_dgs : compFn Tryd.prog { own := [12], comp := [], frz := [], nils := [] } Tryd.f92 = some sf_dgs := by kernel_rfl
set_option maxHeartbeats 1600000 in
theorem dgs_f (G : Glob) (b : List UInt8) (hb : b.length ≤ 9223372036854775807) : Den Tryd.prog G 92 [.sl (b.map bD)] (.tup [.c (.fr 1 ((dgtV b).map iD)), .c (.d (.int .i64 (dgtE b)))]) := by
  refine den_walk Tryd.func92 cf_dgs rfl rfl ?_
  by_cases h : b.length = 16
  · obtain ⟨hE, hV⟩ := dig_ok h
    have hl : (halfN b).length = 32 := by rw [halfN_len, h]
    have hle := halfN_le (b := b)
    have hh := halv_f G b (by omega)
    have hs := lackN_le (halfN b)
    have hm := digN_map b
    rw [hE, hV]
    generalize halfN b = l at *
    simp only [sf_dgs, putAll, wx, wy, wz, stV, seval, IntWalk.iteOmega, IntWalk.toNatUp, reduceCtorEq, h]
    refine st_call (hh) rfl (.inl rfl) ?_
    simp only [hl, wx, wy, wz, stV, seval, IntWalk.iteOmega, IntWalk.toNatUp, reduceCtorEq]
    refine loop_st (dgSt l) (fun j => 32 - j) (fun j => j ≤ 32) 0 (Nat.zero_le _) ?_ ?_
    · refine ent_l (fun _ => 96) ?_ ?_ rfl rfl <;> simp only [wx, wex, wez, stV, seval, IntWalk.iteOmega, IntWalk.toNatUp, reduceCtorEq, lackN, List.sum_nil]
    · intro j hj
      have hsj : lackN (l.take j) ≤ 15 * j := by
        have := lackN_le (l.take j)
        rw [List.length_take] at this
        omega
      by_cases hlt : j < 32
      · have g1 := getI (l := l) (j := j) (by omega)
        have hx : l.getD j 0 ≤ 15 := by
          rw [List.getD_eq_getElem?_getD, List.getElem?_eq_getElem (by omega : j < l.length)]
          exact hle _ (List.getElem_mem _)
        have e : ((lackN (l.take (j + 1)) : Nat) : Int) = (lackN (l.take j) : Int) + (15 - ((l.getD j 0 : Nat) : Int)) := by
          rw [lackN_take (by omega : j < l.length)]; omega
        simp only [lp_dgs_0, dgSt, wx, wy, wz, stV, seval, IntWalk.iteOmega, IntWalk.toNatUp, reduceCtorEq, g1]
        refine lop_next (j + 1) (by omega) (by omega) (ent_l (fun i => i) ?_ ?_ rfl rfl) <;> simp only [wx, wex, wez, stV, seval, IntWalk.iteOmega, IntWalk.toNatUp, reduceCtorEq, e]
      · obtain rfl : j = 32 := by omega
        have ht : l.take 32 = l := List.take_of_length_le (by omega)
        rw [ht] at hsj
        have hp := put_in G (lackN l) 2 (by decide)
        have hq := halv_f G (putL (lackN l) 2) (by rw [putL_length]; decide)
        rw [half_put (by omega)] at hq
        have hw : IntKind.u64.wrap (lackN l : Int) = (lackN l : Int) := by rw [IntKind.wrap_u64]; omega
        simp only [lp_dgs_0, dgSt, wx, wy, wz, stV, seval, IntWalk.iteOmega, IntWalk.toNatUp, reduceCtorEq, ht, hw]
        refine st_call (hp) rfl (.inl rfl) ?_
        simp only [wx, wy, wz, stV, seval, IntWalk.iteOmega, IntWalk.toNatUp, reduceCtorEq]
        refine st_call (hq) rfl (.inl rfl) ?_
        simp only [srcV, List.map_cons, List.map_nil, hl, allSz_i, wx, wy, wz, stV, seval, IntWalk.iteOmega, IntWalk.toNatUp, reduceCtorEq]
        exact ret_f2 (by simp only [wx, wy, wz, stV, seval, IntWalk.iteOmega, IntWalk.toNatUp, reduceCtorEq, hm]) (by simp only [wx, wy, wz, stV, seval, IntWalk.iteOmega, IntWalk.toNatUp, reduceCtorEq])
  · obtain ⟨hE, hV⟩ := dig_no h
    rw [hE, hV]
    simp only [sf_dgs, putAll, wx, wy, wz, stV, seval, IntWalk.iteOmega, IntWalk.toNatUp, reduceCtorEq]
    exact ret_f2 (by simp only [wx, wy, wz, stV, seval, IntWalk.iteOmega, IntWalk.toNatUp, reduceCtorEq]) (by simp only [wx, wy, wz, stV, seval, IntWalk.iteOmega, IntWalk.toNatUp, reduceCtorEq])
theorem den_ro2N {P : Program} {G : Glob} {F : FuncId} {args : List D} {l : List Nat} {y : D} (h : Den P G F args (.tup [.c (.fr 1 (l.map iD)), .c (.d y)])) : Den P G F args (.tup [.c (.d (.sl (l.map iD))), .c (.d y)]) := den_ro2 h
/-! ### The reference's digits -/
def rdSt (b : List UInt8) (j : Nat) : St := ⟨ofL [(0, .w (.c (.d (.sl (b.map bD))))), (4, hvV j), (5, .w (.c (.d (.int .i64 ((lackN (halfN (b.take j)) : Nat) : Int))))), (6, .w (.c (.d (.int .i64 (j : Int)))))], hL (hvH b j), uL [1]⟩
theorem lack_half (b : List UInt8) {j : Nat} (h : j < b.length) : ((lackN (halfN (b.take (j + 1))) : Nat) : Int) = (lackN (halfN (b.take j)) : Int) + 15 - ((b[j].toNat / 16 : Nat) : Int) + 15 - ((b[j].toNat % 16 : Nat) : Int) := by
  have hb := b[j].toNat_lt
  rw [List.take_succ_eq_append_getElem h, halfN_snoc, lackN_app]
  have e : lackN [b[j].toNat / 16, b[j].toNat % 16] = (15 - b[j].toNat / 16) + (15 - b[j].toNat % 16) := by simp [lackN]
  rw [e]; omega
def lp_rdgs_0 : SCode :=
  .seq (.seq (.reg [⟨(some 12), .mv (.t 6), none⟩,
    ⟨(some 13), .mv (.t 0), none⟩,
    ⟨(some 14), .len (.t 13), none⟩,
    ⟨(some 15), .bin .lss (.t 12) (.t 14), none⟩])
  (.cond (.t 15) (.skip)
   (.exit 0)))
  (.seq (.block 1 (.seq (.reg [⟨(some 18), .mv (.t 0), none⟩,
     ⟨(some 19), .mv (.t 6), none⟩,
     ⟨(some 20), .idxSl 1 (.t 18) (.t 19), none⟩,
     ⟨(some 21), .load .sc (.t 20), none⟩,
     ⟨(some 22), .bin .shr (.t 21) (.k (.c (.d (.int .u64 4)))), none⟩,
     ⟨(some 23), .conv .i64 (.t 22), none⟩,
     ⟨(some 24), .mv (.t 0), none⟩,
     ⟨(some 25), .mv (.t 6), none⟩,
     ⟨(some 26), .idxSl 1 (.t 24) (.t 25), none⟩,
     ⟨(some 27), .load .sc (.t 26), none⟩,
     ⟨(some 28), .bin .and (.t 27) (.k (.c (.d (.int .u8 15)))), none⟩,
     ⟨(some 29), .conv .i64 (.t 28), none⟩,
     ⟨(some 7), .mv (.t 23), none⟩,
     ⟨(some 8), .mv (.t 29), none⟩])
   (.seq (.reg [⟨(some 30), .mv (.t 4), none⟩,
     ⟨(some 31), .mv (.t 7), none⟩,
     ⟨(some 32), .mv (.t 8), none⟩,
     ⟨(some 33), .bldSl false 2 1 (.int .i64 0) [(0, (.t 31)), (1, (.t 32))], none⟩,
     ⟨(some 34), .app false 1 8 (.t 30) (.t 33), none⟩,
     ⟨(some 4), .mv (.t 34), none⟩])
   (.reg [⟨(some 35), .mv (.t 5), none⟩,
     ⟨(some 36), .bin .add (.t 35) (.k (.c (.d (.int .i64 15)))), none⟩,
     ⟨(some 37), .mv (.t 7), none⟩,
     ⟨(some 38), .bin .sub (.t 36) (.t 37), none⟩,
     ⟨(some 39), .bin .add (.t 38) (.k (.c (.d (.int .i64 15)))), none⟩,
     ⟨(some 40), .mv (.t 8), none⟩,
     ⟨(some 41), .bin .sub (.t 39) (.t 40), none⟩,
     ⟨(some 5), .mv (.t 41), none⟩]))))
  (.reg [⟨(some 16), .mv (.t 6), none⟩,
    ⟨(some 17), .bin .add (.t 16) (.k (.c (.d (.int .i64 1)))), none⟩,
    ⟨(some 6), .mv (.t 17), none⟩]))
def sf_rdgs : SFn := ⟨1, 52,
  .seq (.reg [⟨(some 2), .mv (.k (.c .nil)), none⟩,
    ⟨(some 3), .mv (.k (.c (.d (.int .i64 0)))), none⟩])
  (.seq (.seq (.reg [⟨(some 9), .mv (.t 0), none⟩,
    ⟨(some 10), .len (.t 9), none⟩,
    ⟨(some 11), .bin .neq (.t 10) (.k (.c (.d (.int .i64 16)))), none⟩])
  (.cond (.t 11) (.seq (.reg [⟨(some 2), .mv (.k (.c .nil)), none⟩,
     ⟨(some 3), .mv (.k (.c (.d (.int .i64 3)))), none⟩])
   (.ret))
   (.skip)))
  (.seq (.reg [⟨(some 4), .mv (.k (.c .nil)), none⟩])
  (.seq (.reg [⟨(some 5), .mv (.k (.c (.d (.int .i64 0)))), none⟩])
  (.seq (.seq (.reg [⟨(some 6), .mv (.k (.c (.d (.int .i64 0)))), none⟩])
  (.block 0 (.loop lp_rdgs_0)))
  (.seq (.reg [⟨(some 42), .mv (.t 4), none⟩,
    ⟨(some 43), .mv (.t 5), none⟩,
    ⟨(some 44), .bin .quo (.t 43) (.k (.c (.d (.int .i64 256)))), none⟩,
    ⟨(some 45), .mv (.t 5), none⟩,
    ⟨(some 46), .bin .quo (.t 45) (.k (.c (.d (.int .i64 16)))), none⟩,
    ⟨(some 47), .bin .rem (.t 46) (.k (.c (.d (.int .i64 16)))), none⟩,
    ⟨(some 48), .mv (.t 5), none⟩,
    ⟨(some 49), .bin .rem (.t 48) (.k (.c (.d (.int .i64 16)))), none⟩,
    ⟨(some 50), .bldSl false 3 1 (.int .i64 0) [(0, (.t 44)), (1, (.t 47)), (2, (.t 49))], none⟩,
    ⟨(some 51), .app false 1 8 (.t 42) (.t 50), none⟩,
    ⟨(some 2), .mv (.t 51), none⟩,
    ⟨(some 3), .mv (.k (.c (.d (.int .i64 0)))), none⟩])
  (.ret)))))),
  [(2, none), (3, none)]⟩
theorem cf_rdgs : compFn Tryd.prog { own := [], comp := [], frz := [], nils := [] } Tryd.f84 = some sf_rdgs := by kernel_rfl
set_option maxHeartbeats 3200000 in
theorem rdgs_f (G : Glob) (b : List UInt8) (hb : b.length ≤ 9223372036854775807) : Den Tryd.prog G 84 [.sl (b.map bD)] (.tup [.c (.fr 1 ((dgtV b).map iD)), .c (.d (.int .i64 (dgtE b)))]) := by
  refine den_walk Tryd.func84 cf_rdgs rfl rfl ?_
  by_cases h : b.length = 16
  · obtain ⟨hE, hV⟩ := dig_ok h
    rw [hE, hV]
    simp only [sf_rdgs, putAll, wx, wy, wz, stV, seval, IntWalk.iteOmega, IntWalk.toNatUp, reduceCtorEq, h]
    refine loop_st (rdSt b) (fun j => 16 - j) (fun j => j ≤ 16) 0 (Nat.zero_le _) ?_ ?_
    · refine ent_l (fun i => i) ?_ ?_ rfl rfl <;> simp only [wx, wex, wez, stV, seval, IntWalk.iteOmega, IntWalk.toNatUp, reduceCtorEq, hvV, hvH, halfN, lackN, List.map_nil, List.sum_nil]
    · intro i hi
      have hs := lackN_le (halfN (b.take i))
      rw [halfN_len, List.length_take] at hs
      by_cases hlt : i < 16
      · have hb8 := b[i].toNat_lt
        have hlt' : i < b.length := by omega
        have e2 : b[i]? = some b[i] := List.getElem?_eq_getElem hlt'
        have e5 : bits .and .u8 (b[i].toNat : Int) 15 = ((b[i].toNat % 16 : Nat) : Int) := u8_and15 _ (by omega) (by omega)
        have e6 : (b[i].toNat : Int) / 16 = ((b[i].toNat / 16 : Nat) : Int) := rfl
        have e7 := lack_half b hlt'
        have q1 : b[i].toNat / 16 < 16 := by omega
        have q2 : b[i].toNat % 16 < 16 := by omega
        rcases i with _ | i
        · have h0 := half_0 b hlt'
          have hl : (halfN (b.take 1)).length = 2 := by rw [halfN_len, List.length_take]; omega
          have z0 : lackN (halfN []) = 0 := rfl
          have z1 : lackN (halfN (b.take 0)) = 0 := rfl
          simp only [Nat.zero_add, z1] at e7
          generalize b[0].toNat / 16 = x at *
          generalize b[0].toNat % 16 = y at *
          simp only [lp_rdgs_0, rdSt, hvV, hvH, wx, wy, wz, stV, seval, IntWalk.iteOmega, IntWalk.toNatUp, reduceCtorEq, h, get_map, e2, IntKind.bits, e5, e6, srcV, List.replicate, h0, allSz_i, hl, z0]
          refine lop_next (0 + 1) (by omega) (by omega) (ent_l (fun _ => 272) ?_ ?_ rfl rfl) <;> simp only [wx, wex, wez, stV, seval, IntWalk.iteOmega, IntWalk.toNatUp, reduceCtorEq, hvV, hvH, hl, e7]
        · have h0 := half_i b hlt'
          have hl : (halfN (b.take (i + 1))).length = 2 * (i + 1) := by rw [halfN_len, List.length_take]; omega
          have hl2 : (halfN (b.take (i + 1 + 1))).length = 2 * (i + 1 + 1) := by rw [halfN_len, List.length_take]; omega
          generalize b[i + 1].toNat / 16 = x at *
          generalize b[i + 1].toNat % 16 = y at *
          simp only [lp_rdgs_0, rdSt, hvV, hvH, wx, wy, wz, stV, seval, IntWalk.iteOmega, IntWalk.toNatUp, reduceCtorEq, h, get_map, e2, IntKind.bits, e5, e6, srcV, List.replicate, h0, allSz_i, hl, hl2]
          refine lop_next (i + 1 + 1) (by omega) (by omega) (ent_l (fun _ => 272) ?_ ?_ rfl rfl) <;> simp only [wx, wex, wez, stV, seval, IntWalk.iteOmega, IntWalk.toNatUp, reduceCtorEq, hvV, hvH, hl2, e7]
      · obtain rfl : i = 16 := by omega
        have ht : b.take 16 = b := List.take_of_length_le (by omega)
        have hl : (halfN b).length = 32 := by rw [halfN_len, h]
        have hm := digN_map b
        rw [ht] at hs
        have d1 : (lackN (halfN b) : Int).tdiv 256 = ((lackN (halfN b) / 256 : Nat) : Int) := rfl
        have d2 : (lackN (halfN b) : Int).tdiv 16 = ((lackN (halfN b) / 16 : Nat) : Int) := rfl
        have d3 : ((lackN (halfN b) / 16 : Nat) : Int).tmod 16 = ((lackN (halfN b) / 16 % 16 : Nat) : Int) := rfl
        have d4 : (lackN (halfN b) : Int).tmod 16 = ((lackN (halfN b) % 16 : Nat) : Int) := rfl
        simp only [lp_rdgs_0, rdSt, hvV, hvH, wx, wy, wz, stV, seval, IntWalk.iteOmega, IntWalk.toNatUp, reduceCtorEq, ht, h, d1, d2, d3, d4, srcV, allSz_i, hl]
        exact ret_f2 (by simp only [wx, wy, wz, stV, seval, IntWalk.iteOmega, IntWalk.toNatUp, reduceCtorEq, hm]) (by simp only [wx, wy, wz, stV, seval, IntWalk.iteOmega, IntWalk.toNatUp, reduceCtorEq])
  · obtain ⟨hE, hV⟩ := dig_no h
    rw [hE, hV]
    simp only [sf_rdgs, putAll, wx, wy, wz, stV, seval, IntWalk.iteOmega, IntWalk.toNatUp, reduceCtorEq]
    exact ret_f2 (by simp only [wx, wy, wz, stV, seval, IntWalk.iteOmega, IntWalk.toNatUp, reduceCtorEq]) (by simp only [wx, wy, wz, stV, seval, IntWalk.iteOmega, IntWalk.toNatUp, reduceCtorEq])
theorem dgs_c (G : Glob) (b : List UInt8) (hb : b.length ≤ 9223372036854775807) : Den Tryd.prog G 92 [.sl (b.map bD)] (.tup [.c (.d (.sl ((dgtV b).map iD))), .c (.d (.int .i64 (dgtE b)))]) := den_ro2N (dgs_f G b hb)
theorem rdgs_c (G : Glob) (b : List UInt8) (hb : b.length ≤ 9223372036854775807) : Den Tryd.prog G 84 [.sl (b.map bD)] (.tup [.c (.d (.sl ((dgtV b).map iD))), .c (.d (.int .i64 (dgtE b)))]) := den_ro2N (rdgs_f G b hb)
/-! ### Errors, secrets -/
def chkE (seed : List UInt8) (index : Int) : Int := if ¬ seed.length = 32 then 5 else if index < 0 ∨ 2147483647 < index then 4 else 0
def sf_ochk : SFn := ⟨2, 14,
  .seq (.reg [⟨(some 4), .mv (.k (.c (.d (.int .i64 0)))), none⟩])
  (.seq (.seq (.reg [⟨(some 5), .mv (.t 0), none⟩,
    ⟨(some 6), .len (.t 5), none⟩,
    ⟨(some 7), .bin .neq (.t 6) (.k (.c (.d (.int .i64 32)))), none⟩])
  (.cond (.t 7) (.seq (.reg [⟨(some 4), .mv (.k (.c (.d (.int .i64 5)))), none⟩])
   (.ret))
   (.skip)))
  (.seq (.seq (.reg [⟨(some 8), .mv (.t 1), none⟩,
    ⟨(some 9), .bin .lss (.t 8) (.k (.c (.d (.int .i64 0)))), none⟩,
    ⟨(some 10), .mv (.t 9), none⟩,
    ⟨(some 11), .mv (.t 1), (some (10, false))⟩,
    ⟨(some 12), .bin .gtr (.t 11) (.k (.c (.d (.int .i64 2147483647)))), (some (10, false))⟩,
    ⟨(some 13), .pick (.t 10) (.k (.c (.d (.bool true)))) (.t 12), none⟩])
  (.cond (.t 13) (.seq (.reg [⟨(some 4), .mv (.k (.c (.d (.int .i64 4)))), none⟩])
   (.ret))
   (.skip)))
  (.seq (.reg [⟨(some 4), .mv (.k (.c (.d (.int .i64 0)))), none⟩])
  (.ret)))),
  [(4, none)]⟩
theorem cf_ochk : compFn Tryd.prog { own := [], comp := [], frz := [], nils := [] } Tryd.f110 = some sf_ochk := by kernel_rfl
theorem ochk_c (G : Glob) (seed : List UInt8) (index : Int) : Den Tryd.prog G 110 [.sl (seed.map bD), .int .i64 index] (.w (.c (.d (.int .i64 (chkE seed index))))) := by
  refine den_walk Tryd.func110 cf_ochk rfl rfl ?_
  unfold chkE
  by_cases h : seed.length = 32
  · rw [if_neg (by omega)]
    by_cases h1 : index < 0
    · rw [if_pos (.inl h1)]
      simp only [sf_ochk, putAll, wx, wy, wz, stV, seval, IntWalk.iteOmega, IntWalk.toNatUp, reduceCtorEq, h]
      exact ret_d1 (by simp only [wx, wy, wz, stV, seval, IntWalk.iteOmega, IntWalk.toNatUp, reduceCtorEq])
    · by_cases h2 : 2147483647 < index
      · rw [if_pos (.inr h2)]
        simp only [sf_ochk, putAll, wx, wy, wz, stV, seval, IntWalk.iteOmega, IntWalk.toNatUp, reduceCtorEq, h]
        exact ret_d1 (by simp only [wx, wy, wz, stV, seval, IntWalk.iteOmega, IntWalk.toNatUp, reduceCtorEq])
      · rw [if_neg (by omega)]
        simp only [sf_ochk, putAll, wx, wy, wz, stV, seval, IntWalk.iteOmega, IntWalk.toNatUp, reduceCtorEq, h]
        exact ret_d1 (by simp only [wx, wy, wz, stV, seval, IntWalk.iteOmega, IntWalk.toNatUp, reduceCtorEq])
  · rw [if_pos h]
    simp only [sf_ochk, putAll, wx, wy, wz, stV, seval, IntWalk.iteOmega, IntWalk.toNatUp, reduceCtorEq]
    exact ret_d1 (by simp only [wx, wy, wz, stV, seval, IntWalk.iteOmega, IntWalk.toNatUp, reduceCtorEq])
def sf_rochk : SFn := ⟨2, 14,
  .seq (.reg [⟨(some 4), .mv (.k (.c (.d (.int .i64 0)))), none⟩])
  (.seq (.seq (.reg [⟨(some 5), .mv (.t 0), none⟩,
    ⟨(some 6), .len (.t 5), none⟩,
    ⟨(some 7), .bin .neq (.t 6) (.k (.c (.d (.int .i64 32)))), none⟩])
  (.cond (.t 7) (.seq (.reg [⟨(some 4), .mv (.k (.c (.d (.int .i64 5)))), none⟩])
   (.ret))
   (.skip)))
  (.seq (.seq (.reg [⟨(some 8), .mv (.t 1), none⟩,
    ⟨(some 9), .bin .lss (.t 8) (.k (.c (.d (.int .i64 0)))), none⟩,
    ⟨(some 10), .mv (.t 9), none⟩,
    ⟨(some 11), .mv (.t 1), (some (10, false))⟩,
    ⟨(some 12), .bin .gtr (.t 11) (.k (.c (.d (.int .i64 2147483647)))), (some (10, false))⟩,
    ⟨(some 13), .pick (.t 10) (.k (.c (.d (.bool true)))) (.t 12), none⟩])
  (.cond (.t 13) (.seq (.reg [⟨(some 4), .mv (.k (.c (.d (.int .i64 4)))), none⟩])
   (.ret))
   (.skip)))
  (.seq (.reg [⟨(some 4), .mv (.k (.c (.d (.int .i64 0)))), none⟩])
  (.ret)))),
  [(4, none)]⟩
theorem cf_rochk : compFn Tryd.prog { own := [], comp := [], frz := [], nils := [] } Tryd.f83 = some sf_rochk := by kernel_rfl
theorem rochk_c (G : Glob) (seed : List UInt8) (index : Int) : Den Tryd.prog G 83 [.sl (seed.map bD), .int .i64 index] (.w (.c (.d (.int .i64 (chkE seed index))))) := by
  refine den_walk Tryd.func83 cf_rochk rfl rfl ?_
  unfold chkE
  by_cases h : seed.length = 32
  · rw [if_neg (by omega)]
    by_cases h1 : index < 0
    · rw [if_pos (.inl h1)]
      simp only [sf_rochk, putAll, wx, wy, wz, stV, seval, IntWalk.iteOmega, IntWalk.toNatUp, reduceCtorEq, h]
      exact ret_d1 (by simp only [wx, wy, wz, stV, seval, IntWalk.iteOmega, IntWalk.toNatUp, reduceCtorEq])
    · by_cases h2 : 2147483647 < index
      · rw [if_pos (.inr h2)]
        simp only [sf_rochk, putAll, wx, wy, wz, stV, seval, IntWalk.iteOmega, IntWalk.toNatUp, reduceCtorEq, h]
        exact ret_d1 (by simp only [wx, wy, wz, stV, seval, IntWalk.iteOmega, IntWalk.toNatUp, reduceCtorEq])
      · rw [if_neg (by omega)]
        simp only [sf_rochk, putAll, wx, wy, wz, stV, seval, IntWalk.iteOmega, IntWalk.toNatUp, reduceCtorEq, h]
        exact ret_d1 (by simp only [wx, wy, wz, stV, seval, IntWalk.iteOmega, IntWalk.toNatUp, reduceCtorEq])
  · rw [if_pos h]
    simp only [sf_rochk, putAll, wx, wy, wz, stV, seval, IntWalk.iteOmega, IntWalk.toNatUp, reduceCtorEq]
    exact ret_d1 (by simp only [wx, wy, wz, stV, seval, IntWalk.iteOmega, IntWalk.toNatUp, reduceCtorEq])
theorem chkE_ok {seed : List UInt8} {index : Int} (h : chkE seed index = 0) : seed.length = 32 ∧ 0 ≤ index ∧ index ≤ 2147483647 := by
  unfold chkE at h
  split at h
  · cases h
  · split at h
    · cases h
    · omega
def secE (seed : List UInt8) (index chain : Int) : Int := if chkE seed index = 0 then (if chain < 0 ∨ 35 ≤ chain then 4 else 0) else chkE seed index
def secV (seed : List UInt8) (index chain : Int) : List UInt8 := if secE seed index chain = 0 then secM seed index.toNat chain.toNat else []
theorem putL_1 (c : Nat) : putL c 1 = [UInt8.ofNat c] := by
  show [UInt8.ofNat (c / 1)] = _
  rw [Nat.div_one]
theorem sec_join (seed : List UInt8) (i c : Nat) : [seed, putL i 4, putL c 1].flatten = seed ++ putL i 4 ++ [UInt8.ofNat c] := by rw [putL_1]; simp
def sf_sec0 : SFn := ⟨3, 17,
  .seq (.reg [⟨(some 6), .mv (.k (.c .nil)), none⟩])
  (.seq (.reg [⟨(some 7), .mv (.t 0), none⟩,
    ⟨(some 8), .mv (.t 1), none⟩,
    ⟨(some 9), .conv .u64 (.t 8), none⟩,
    ⟨(some 10), .call 75 [(.t 9), (.k (.c (.d (.int .i64 4))))] none, none⟩,
    ⟨(some 11), .mv (.t 2), none⟩,
    ⟨(some 12), .conv .u64 (.t 11), none⟩,
    ⟨(some 13), .call 75 [(.t 12), (.k (.c (.d (.int .i64 1))))] none, none⟩,
    ⟨(some 14), .bldSl false 3 1 (.sl []) [(0, (.t 7)), (1, (.t 10)), (2, (.t 13))], none⟩,
    ⟨(some 15), .call 43 [(.t 14)] none, none⟩,
    ⟨(some 16), .call 95 [(.t 15)] (some (0, 1)), none⟩,
    ⟨(some 6), .mv (.t 16), none⟩])
  (.ret)),
  [(6, none)]⟩
theorem cf_sec0 : compFn Tryd.prog { own := [16], comp := [], frz := [], nils := [] } Tryd.f111 = some sf_sec0 := by kernel_rfl
set_option maxHeartbeats 1600000 in
theorem sec0_f (G : Glob) (hF : G.at 0 = some (.ra (firstK.map wD))) (hG : G.at 1 = some (.ra (constK.map wD))) (seed : List UInt8) (i c : Nat) (hs : seed.length = 32) (hi : i ≤ 2147483647) (hc : c < 35) : Den Tryd.prog G 111 [.sl (seed.map bD), .int .i64 (i : Int), .int .i64 (c : Int)] (.w (.c (.fr 1 ((secM seed i c).map bD)))) := by
  refine den_walk Tryd.func111 cf_sec0 rfl rfl ?_
  have p1 := put_in G i 4 (by decide)
  have p2 := put_in G c 1 (by decide)
  have hj := join_c G [seed, putL i 4, putL c 1] (by simp) (by simp [putL_length]; omega)
  rw [sec_join] at hj
  have hh := short_c G hF hG (seed ++ putL i 4 ++ [UInt8.ofNat c]) (by simp [putL_length]; omega)
  have hm : shortK (seed ++ putL i 4 ++ [UInt8.ofNat c]) = secM seed i c := rfl
  rw [hm] at hh
  generalize seed ++ putL i 4 ++ [UInt8.ofNat c] = z at *
  have w1 : IntKind.u64.wrap (i : Int) = (i : Int) := by rw [IntKind.wrap_u64]; omega
  have w2 : IntKind.u64.wrap (c : Int) = (c : Int) := by rw [IntKind.wrap_u64]; omega
  simp only [sf_sec0, putAll, wx, wy, wz, stV, seval, IntWalk.iteOmega, IntWalk.toNatUp, reduceCtorEq, w1, w2]
  refine st_call (p1) rfl (.inl rfl) ?_
  simp only [w2, wx, wy, wz, stV, seval, IntWalk.iteOmega, IntWalk.toNatUp, reduceCtorEq]
  refine st_call (p2) rfl (.inl rfl) ?_
  simp only [wx, wy, wz, stV, seval, IntWalk.iteOmega, IntWalk.toNatUp, reduceCtorEq]
  refine st_call (hj) rfl (.inl rfl) ?_
  simp only [wx, wy, wz, stV, seval, IntWalk.iteOmega, IntWalk.toNatUp, reduceCtorEq]
  refine st_call (hh) rfl (.inl rfl) ?_
  simp only [wx, wy, wz, stV, seval, IntWalk.iteOmega, IntWalk.toNatUp, reduceCtorEq]
  exact ret_f1 (by simp only [wx, wy, wz, stV, seval, IntWalk.iteOmega, IntWalk.toNatUp, reduceCtorEq])
theorem sec0_c (G : Glob) (hF : G.at 0 = some (.ra (firstK.map wD))) (hG : G.at 1 = some (.ra (constK.map wD))) (seed : List UInt8) (i c : Nat) (hs : seed.length = 32) (hi : i ≤ 2147483647) (hc : c < 35) : Den Tryd.prog G 111 [.sl (seed.map bD), .int .i64 (i : Int), .int .i64 (c : Int)] (.w (.c (.d (.sl ((secM seed i c).map bD))))) := den_ro (sec0_f G hF hG seed i c hs hi hc)
def sf_rshF : SFn := ⟨1, 6,
  .seq (.reg [⟨(some 2), .mv (.k (.c .nil)), none⟩])
  (.seq (.reg [⟨(some 3), .mv (.t 0), none⟩,
    ⟨(some 4), .call 61 [(.t 3)] (some (0, 1)), none⟩,
    ⟨(some 5), .slice 1 (.t 4) none (some (.k (.c (.d (.int .i64 16))))) none, none⟩,
    ⟨(some 2), .mv (.t 5), none⟩])
  (.ret)),
  [(2, none)]⟩
theorem cf_rshF : compFn Tryd.prog { own := [4], comp := [], frz := [], nils := [] } Tryd.f87 = some sf_rshF := by kernel_rfl
set_option maxHeartbeats 1600000 in
theorem rshF_f (G : Glob) (b : List UInt8) (hb : b.length ≤ 140737488355328) : Den Tryd.prog G 87 [.sl (b.map bD)] (.w (.c (.fr 1 ((shortK b).map bD)))) := by
  refine den_walk Tryd.func87 cf_rshF rfl rfl ?_
  have hl := sumK_len b
  have hs : (shortK b).map bD = ((sumK b).map bD).take 16 := by unfold shortK; rw [List.map_take]
  simp only [sf_rshF, putAll, wx, wy, wz, stV, seval, IntWalk.iteOmega, IntWalk.toNatUp, reduceCtorEq]
  refine st_call (rsum_c G b hb) rfl (.inl rfl) ?_
  simp only [wx, wy, wz, stV, seval, IntWalk.iteOmega, IntWalk.toNatUp, reduceCtorEq, hl]
  rw [hs]
  exact ret_ownN (id := 32) (n := 16) (s := 1) (by simp only [wx, stV, seval, IntWalk.iteOmega, IntWalk.toNatUp, reduceCtorEq]) (by simp only [wx, stV, seval, IntWalk.iteOmega, IntWalk.toNatUp, reduceCtorEq]) (by rw [List.length_map]; omega)
def sf_rsec : SFn := ⟨3, 31,
  .seq (.reg [⟨(some 6), .mv (.k (.c .nil)), none⟩,
    ⟨(some 7), .mv (.k (.c (.d (.int .i64 0)))), none⟩])
  (.seq (.seq (.reg [⟨(some 9), .mv (.t 0), none⟩,
    ⟨(some 10), .mv (.t 1), none⟩,
    ⟨(some 11), .call 83 [(.t 9), (.t 10)] none, none⟩,
    ⟨(some 8), .mv (.t 11), none⟩])
  (.seq (.reg [⟨(some 12), .mv (.t 8), none⟩,
    ⟨(some 13), .bin .neq (.t 12) (.k (.c (.d (.int .i64 0)))), none⟩])
  (.cond (.t 13) (.seq (.reg [⟨(some 14), .mv (.t 8), none⟩,
     ⟨(some 6), .mv (.k (.c .nil)), none⟩,
     ⟨(some 7), .mv (.t 14), none⟩])
   (.ret))
   (.skip))))
  (.seq (.seq (.reg [⟨(some 15), .mv (.t 2), none⟩,
    ⟨(some 16), .bin .lss (.t 15) (.k (.c (.d (.int .i64 0)))), none⟩,
    ⟨(some 17), .mv (.t 16), none⟩,
    ⟨(some 18), .mv (.t 2), (some (17, false))⟩,
    ⟨(some 19), .bin .geq (.t 18) (.k (.c (.d (.int .i64 35)))), (some (17, false))⟩,
    ⟨(some 20), .pick (.t 17) (.k (.c (.d (.bool true)))) (.t 19), none⟩])
  (.cond (.t 20) (.seq (.reg [⟨(some 6), .mv (.k (.c .nil)), none⟩,
     ⟨(some 7), .mv (.k (.c (.d (.int .i64 4)))), none⟩])
   (.ret))
   (.skip)))
  (.seq (.reg [⟨(some 21), .mv (.t 0), none⟩,
    ⟨(some 22), .mv (.t 1), none⟩,
    ⟨(some 23), .conv .u64 (.t 22), none⟩,
    ⟨(some 24), .call 51 [(.t 23), (.k (.c (.d (.int .i64 4))))] none, none⟩,
    ⟨(some 25), .mv (.t 2), none⟩,
    ⟨(some 26), .conv .u8 (.t 25), none⟩,
    ⟨(some 27), .bldSl false 1 1 (.int .u8 0) [(0, (.t 26))], none⟩,
    ⟨(some 28), .bldSl false 3 1 (.sl []) [(0, (.t 21)), (1, (.t 24)), (2, (.t 27))], none⟩,
    ⟨(some 29), .call 41 [(.t 28)] none, none⟩,
    ⟨(some 30), .call 87 [(.t 29)] (some (0, 1)), none⟩,
    ⟨(some 6), .mv (.t 30), none⟩,
    ⟨(some 7), .mv (.k (.c (.d (.int .i64 0)))), none⟩])
  (.ret)))),
  [(6, none), (7, none)]⟩
theorem cf_rsec : compFn Tryd.prog { own := [30], comp := [], frz := [], nils := [] } Tryd.f85 = some sf_rsec := by kernel_rfl
set_option maxHeartbeats 1600000 in
theorem rsec_f (G : Glob) (seed : List UInt8) (index chain : Int) : Den Tryd.prog G 85 [.sl (seed.map bD), .int .i64 index, .int .i64 chain] (.tup [.c (.fr 1 ((secV seed index chain).map bD)), .c (.d (.int .i64 (secE seed index chain)))]) := by
  refine den_walk Tryd.func85 cf_rsec rfl rfl ?_
  have hk := rochk_c G seed index
  by_cases h : chkE seed index = 0
  · obtain ⟨k1, k2, k3⟩ := chkE_ok h
    rw [h] at hk
    by_cases h1 : chain < 0
    · have hE : secE seed index chain = 4 := by unfold secE; rw [if_pos h, if_pos (.inl h1)]
      have hV : secV seed index chain = [] := if_neg (by rw [hE]; decide)
      rw [hE, hV]
      simp only [sf_rsec, putAll, wx, wy, wz, stV, seval, IntWalk.iteOmega, IntWalk.toNatUp, reduceCtorEq]
      refine st_call (hk) rfl (.inl rfl) ?_
      simp only [wx, wy, wz, stV, seval, IntWalk.iteOmega, IntWalk.toNatUp, reduceCtorEq]
      exact ret_f2 (by simp only [wx, wy, wz, stV, seval, IntWalk.iteOmega, IntWalk.toNatUp, reduceCtorEq]) (by simp only [wx, wy, wz, stV, seval, IntWalk.iteOmega, IntWalk.toNatUp, reduceCtorEq])
    · by_cases h2 : 35 ≤ chain
      · have hE : secE seed index chain = 4 := by unfold secE; rw [if_pos h, if_pos (.inr h2)]
        have hV : secV seed index chain = [] := if_neg (by rw [hE]; decide)
        rw [hE, hV]
        simp only [sf_rsec, putAll, wx, wy, wz, stV, seval, IntWalk.iteOmega, IntWalk.toNatUp, reduceCtorEq]
        refine st_call (hk) rfl (.inl rfl) ?_
        simp only [wx, wy, wz, stV, seval, IntWalk.iteOmega, IntWalk.toNatUp, reduceCtorEq]
        exact ret_f2 (by simp only [wx, wy, wz, stV, seval, IntWalk.iteOmega, IntWalk.toNatUp, reduceCtorEq]) (by simp only [wx, wy, wz, stV, seval, IntWalk.iteOmega, IntWalk.toNatUp, reduceCtorEq])
      · have hE : secE seed index chain = 0 := by unfold secE; rw [if_pos h, if_neg (by omega)]
        have hV : secV seed index chain = secM seed index.toNat chain.toNat := if_pos hE
        rw [hE, hV]
        obtain ⟨i, rfl⟩ := Int.eq_ofNat_of_zero_le k2
        obtain ⟨c, rfl⟩ := Int.eq_ofNat_of_zero_le (by omega : 0 ≤ chain)
        have e1 : ((i : Int).toNat) = i := rfl
        have e2 : ((c : Int).toNat) = c := rfl
        rw [e1, e2]
        have p1 := rput_in G i 4 (by decide)
        have hj := rjoin_c G [seed, putL i 4, [UInt8.ofNat c]] (by simp) (by simp [putL_length]; omega)
        have hf : [seed, putL i 4, [UInt8.ofNat c]].flatten = seed ++ putL i 4 ++ [UInt8.ofNat c] := by simp
        rw [hf] at hj
        have hh := rshF_f G (seed ++ putL i 4 ++ [UInt8.ofNat c]) (by simp [putL_length]; omega)
        have hm : shortK (seed ++ putL i 4 ++ [UInt8.ofNat c]) = secM seed i c := rfl
        rw [hm] at hh
        have hbo := byte_of c
        have w1 : IntKind.u64.wrap (i : Int) = (i : Int) := by rw [IntKind.wrap_u64]; omega
        have w2 : IntKind.u8.wrap (c : Int) = (c : Int) := by rw [IntKind.wrap_u8]; omega
        rw [w2] at hbo
        simp only [List.map_cons, List.map_nil] at hj
        rw [← hbo] at hj
        generalize seed ++ putL i 4 ++ [UInt8.ofNat c] = z at *
        simp only [sf_rsec, putAll, wx, wy, wz, stV, seval, IntWalk.iteOmega, IntWalk.toNatUp, reduceCtorEq, w1]
        refine st_call (hk) rfl (.inl rfl) ?_
        simp only [w1, wx, wy, wz, stV, seval, IntWalk.iteOmega, IntWalk.toNatUp, reduceCtorEq]
        refine st_call (p1) rfl (.inl rfl) ?_
        simp only [wx, wy, wz, stV, seval, IntWalk.iteOmega, IntWalk.toNatUp, reduceCtorEq]
        refine st_call (hj) rfl (.inl rfl) ?_
        simp only [wx, wy, wz, stV, seval, IntWalk.iteOmega, IntWalk.toNatUp, reduceCtorEq]
        refine st_call (hh) rfl (.inl rfl) ?_
        simp only [wx, wy, wz, stV, seval, IntWalk.iteOmega, IntWalk.toNatUp, reduceCtorEq]
        exact ret_f2 (by simp only [wx, wy, wz, stV, seval, IntWalk.iteOmega, IntWalk.toNatUp, reduceCtorEq]) (by simp only [wx, wy, wz, stV, seval, IntWalk.iteOmega, IntWalk.toNatUp, reduceCtorEq])
  · have hE : secE seed index chain = chkE seed index := if_neg h
    have hV : secV seed index chain = [] := if_neg (by rw [hE]; exact h)
    rw [hE, hV]
    generalize chkE seed index = e at *
    simp only [sf_rsec, putAll, wx, wy, wz, stV, seval, IntWalk.iteOmega, IntWalk.toNatUp, reduceCtorEq]
    refine st_call (hk) rfl (.inl rfl) ?_
    simp only [wx, wy, wz, stV, seval, IntWalk.iteOmega, IntWalk.toNatUp, reduceCtorEq]
    exact ret_f2 (by simp only [wx, wy, wz, stV, seval, IntWalk.iteOmega, IntWalk.toNatUp, reduceCtorEq]) (by simp only [wx, wy, wz, stV, seval, IntWalk.iteOmega, IntWalk.toNatUp, reduceCtorEq])
theorem rsec_c (G : Glob) (seed : List UInt8) (index chain : Int) : Den Tryd.prog G 85 [.sl (seed.map bD), .int .i64 index, .int .i64 chain] (.tup [.c (.d (.sl ((secV seed index chain).map bD))), .c (.d (.int .i64 (secE seed index chain)))]) := den_ro2 (rsec_f G seed index chain)
end Go.Proofs.YtjgkchmdhicmpaaDoor
set_option linter.unusedVariables false
set_option linter.unusedSimpArgs false
namespace Go.Proofs.YtjgkchmdhicmpaaDoor
open Go.RowKit

/-! ### Hexadecimal digits read -/
def isDig (c : UInt8) : Bool := (decide (48 ≤ c.toNat) && decide (c.toNat ≤ 57)) || (decide (97 ≤ c.toNat) && decide (c.toNat ≤ 102))
def digV (c : UInt8) : UInt8 := if 48 ≤ c.toNat ∧ c.toNat ≤ 57 then UInt8.ofNat (c.toNat - 48) else if 97 ≤ c.toNat ∧ c.toNat ≤ 102 then UInt8.ofNat (c.toNat - 87) else 0
theorem bD_ofNat {i : Nat} (h : i < 256) : bD (UInt8.ofNat i) = .int .u8 (i : Int) := by
  unfold bD; rw [UInt8.toNat_ofNat_of_lt' (by simpa [UInt8.size] using h)]
theorem dig_a {c : UInt8} (h : 48 ≤ c.toNat ∧ c.toNat ≤ 57) : isDig c = true ∧ D.int .u8 ((c.toNat : Int) - 48) = bD (digV c) := by
  refine ⟨by simp [isDig, h.1, h.2], ?_⟩
  unfold digV
  rw [if_pos h, bD_ofNat (by omega)]
  congr 1; omega
theorem dig_b {c : UInt8} (h : 97 ≤ c.toNat ∧ c.toNat ≤ 102) : isDig c = true ∧ D.int .u8 ((c.toNat : Int) - 97 + 10) = bD (digV c) := by
  refine ⟨by simp [isDig, h.1, h.2], ?_⟩
  unfold digV
  rw [if_neg (by omega), if_pos h, bD_ofNat (by omega)]
  congr 1; omega
theorem dig_n {c : UInt8} (h1 : ¬ (48 ≤ c.toNat ∧ c.toNat ≤ 57)) (h2 : ¬ (97 ≤ c.toNat ∧ c.toNat ≤ 102)) : isDig c = false ∧ D.int .u8 0 = bD (digV c) := by
  refine ⟨?_, ?_⟩
  · unfold isDig
    rw [Bool.or_eq_false_iff]
    constructor
    · rw [← Bool.decide_and]; exact decide_eq_false h1
    · rw [← Bool.decide_and]; exact decide_eq_false h2
  · unfold digV; rw [if_neg h1, if_neg h2]; rfl
def hexV (l : List UInt8) (j : Nat) : UInt8 := orB (shlB (digV (l.getD (2 * j) 0)) 4) (digV (l.getD (2 * j + 1) 0))
def hexO (l : List UInt8) (j : Nat) : Bool := isDig (l.getD (2 * j) 0) && isDig (l.getD (2 * j + 1) 0)
def unhP (l : List UInt8) (j : Nat) : List UInt8 := (List.range j).map (hexV l)
def unhO (l : List UInt8) : Bool := decide (l.length % 2 = 0) && (List.range (l.length / 2)).all (hexO l)
def unhL (l : List UInt8) : List UInt8 := if unhO l = true then unhP l (l.length / 2) else []
theorem unhP_len (l : List UInt8) (j : Nat) : (unhP l j).length = j := by unfold unhP; rw [List.length_map, List.length_range]
theorem unhP_step (l : List UInt8) (j : Nat) : unhP l j ++ [hexV l j] = unhP l (j + 1) := by unfold unhP; rw [List.range_succ, List.map_append]; rfl
def unhSt (s : ByteArray) (j : Nat) : St := ⟨ofL [(0, .w (.c (.d (.str s)))), (4, .w (.c (.own 1 1 0 j))), (5, .w (.c (.d (.int .i64 ((2 * j : Nat) : Int)))))], hL [(1, .row 1 ((unhP s.data.toList j).map bD))], uL [1]⟩

/-! ### Lists of bytes that are the same -/
def slistB (l : List UInt8) : D := .sl (l.map bD)
def slsSt (a b : List (List UInt8)) (i : Nat) : St := ⟨ofL [(0, .w (.c (.d (.sl (a.map slistB))))), (1, .w (.c (.d (.sl (b.map slistB))))), (5, .w (.c (.d (.int .i64 (i : Int)))))], hL [], uL []⟩
end Go.Proofs.YtjgkchmdhicmpaaDoor
set_option linter.unusedVariables false
set_option linter.unusedSimpArgs false
namespace Go.Proofs.YtjgkchmdhicmpaaDoor
open Go.RowKit

def leafM (b : List UInt8) : List UInt8 := sumK (0 :: b)
def nodeM (l r : List UInt8) : List UInt8 := sumK (1 :: (l ++ r))
/-! ### The greatest power of two below a number -/
def splitN (n : Nat) : Nat := 2 ^ Nat.log2 (n - 1)
theorem split_eq {n j : Nat} (h1 : 2 ^ j < n) (h2 : n ≤ 2 ^ (j + 1)) : splitN n = 2 ^ j := by
  have : Nat.log2 (n - 1) = j := by
    have hp := Nat.two_pow_pos j
    rw [Nat.log2_eq_iff (by omega)]
    omega
  unfold splitN; rw [this]
theorem split_pos (n : Nat) : 1 ≤ splitN n := Nat.two_pow_pos _
theorem split_lt {n : Nat} (h : 2 ≤ n) : splitN n < n := by
  have := Nat.log2_self_le (n := n - 1) (by omega)
  unfold splitN; omega
theorem split_le {n : Nat} (h : 2 ≤ n) : n ≤ 2 * splitN n := by
  have := Nat.lt_log2_self (n := n - 1)
  unfold splitN; rw [Nat.pow_succ] at this; omega
/-- A number between the first part and the whole is divided at the same place. -/
theorem split_mid {n m : Nat} (h : 2 ≤ n) (h1 : splitN n < m) (h2 : m ≤ n) : splitN m = splitN n := by
  have := split_le h
  unfold splitN at h1 this ⊢
  exact split_eq h1 (by rw [Nat.pow_succ]; omega)
/-! ### Roots, paths -/
def rootM (l : List (List UInt8)) : List UInt8 :=
  if l.length = 0 then sumK [] else if l.length = 1 then leafM (l.getD 0 []) else nodeM (rootM (l.take (splitN l.length))) (rootM (l.drop (splitN l.length)))
termination_by l.length
decreasing_by
  · have := split_lt (n := l.length) (by omega); rw [List.length_take]; omega
  · have := split_pos l.length; rw [List.length_drop]; omega
theorem root_0 {l : List (List UInt8)} (h : l.length = 0) : rootM l = sumK [] := by rw [rootM, if_pos h]
theorem root_1 {l : List (List UInt8)} (h : l.length = 1) : rootM l = leafM (l.getD 0 []) := by rw [rootM, if_neg (by omega), if_pos h]
theorem root_2 {l : List (List UInt8)} (h : 2 ≤ l.length) : rootM l = nodeM (rootM (l.take (splitN l.length))) (rootM (l.drop (splitN l.length))) := by rw [rootM, if_neg (by omega), if_neg (by omega)]
def pathM (l : List (List UInt8)) (i : Nat) : List (List UInt8) :=
  if l.length ≤ 1 then [] else if i < splitN l.length then pathM (l.take (splitN l.length)) i ++ [rootM (l.drop (splitN l.length))] else pathM (l.drop (splitN l.length)) (i - splitN l.length) ++ [rootM (l.take (splitN l.length))]
termination_by l.length
decreasing_by
  · have := split_lt (n := l.length) (by omega); rw [List.length_take]; omega
  · have := split_pos l.length; rw [List.length_drop]; omega
theorem path_1 {l : List (List UInt8)} (h : l.length ≤ 1) (i : Nat) : pathM l i = [] := by rw [pathM, if_pos h]
theorem path_lo {l : List (List UInt8)} (h : 2 ≤ l.length) {i : Nat} (hi : i < splitN l.length) : pathM l i = pathM (l.take (splitN l.length)) i ++ [rootM (l.drop (splitN l.length))] := by rw [pathM, if_neg (by omega), if_pos hi]
theorem path_hi {l : List (List UInt8)} (h : 2 ≤ l.length) {i : Nat} (hi : ¬ i < splitN l.length) : pathM l i = pathM (l.drop (splitN l.length)) (i - splitN l.length) ++ [rootM (l.take (splitN l.length))] := by rw [pathM, if_neg (by omega), if_neg hi]
def depthM (n i : Nat) : Nat := if n ≤ 1 then 0 else if i < splitN n then depthM (splitN n) i + 1 else depthM (n - splitN n) (i - splitN n) + 1
termination_by n
decreasing_by
  · exact split_lt (by omega)
  · have := split_pos n; omega
theorem depth_1 {n : Nat} (h : n ≤ 1) (i : Nat) : depthM n i = 0 := by rw [depthM, if_pos h]
theorem depth_lo {n i : Nat} (h : 2 ≤ n) (hi : i < splitN n) : depthM n i = depthM (splitN n) i + 1 := by rw [depthM, if_neg (by omega), if_pos hi]
theorem depth_hi {n i : Nat} (h : 2 ≤ n) (hi : ¬ i < splitN n) : depthM n i = depthM (n - splitN n) (i - splitN n) + 1 := by rw [depthM, if_neg (by omega), if_neg hi]
def climbM (n i : Nat) (leaf : List UInt8) (p : List (List UInt8)) : List UInt8 :=
  if n ≤ 1 then leafM leaf else if i < splitN n then nodeM (climbM (splitN n) i leaf p) (p.getD (depthM (splitN n) i) []) else nodeM (p.getD (depthM (n - splitN n) (i - splitN n)) []) (climbM (n - splitN n) (i - splitN n) leaf p)
termination_by n
decreasing_by
  · exact split_lt (by omega)
  · have := split_pos n; omega
theorem climb_1 {n : Nat} (h : n ≤ 1) (i : Nat) (leaf : List UInt8) (p : List (List UInt8)) : climbM n i leaf p = leafM leaf := by rw [climbM, if_pos h]
theorem climb_lo {n i : Nat} (h : 2 ≤ n) (hi : i < splitN n) (leaf : List UInt8) (p : List (List UInt8)) : climbM n i leaf p = nodeM (climbM (splitN n) i leaf p) (p.getD (depthM (splitN n) i) []) := by rw [climbM, if_neg (by omega), if_pos hi]
theorem climb_hi {n i : Nat} (h : 2 ≤ n) (hi : ¬ i < splitN n) (leaf : List UInt8) (p : List (List UInt8)) : climbM n i leaf p = nodeM (p.getD (depthM (n - splitN n) (i - splitN n)) []) (climbM (n - splitN n) (i - splitN n) leaf p) := by rw [climbM, if_neg (by omega), if_neg hi]
theorem getD_app {p q : List (List UInt8)} {j : Nat} (h : j < p.length) : (p ++ q).getD j [] = p.getD j [] := by
  rw [List.getD_eq_getElem?_getD, List.getD_eq_getElem?_getD, List.getElem?_append_left h]
theorem getD_end {p : List (List UInt8)} {x : List UInt8} {j : Nat} (h : p.length = j) : (p ++ [x]).getD j [] = x := by
  rw [List.getD_eq_getElem?_getD, List.getElem?_append_right (by omega), h, Nat.sub_self]; rfl
/-- Only so many elements count. -/
theorem climb_app (leaf : List UInt8) (p q : List (List UInt8)) : ∀ (n i : Nat), depthM n i ≤ p.length → climbM n i leaf (p ++ q) = climbM n i leaf p := by
  intro n
  induction n using Nat.strongRecOn with
  | _ n ih =>
    intro i hd
    by_cases h : 2 ≤ n
    · by_cases hi : i < splitN n
      · rw [depth_lo h hi] at hd
        rw [climb_lo h hi, climb_lo h hi, ih _ (split_lt h) i (by omega), getD_app (by omega)]
      · rw [depth_hi h hi] at hd
        have := split_pos n
        rw [climb_hi h hi, climb_hi h hi, ih _ (by omega) _ (by omega), getD_app (by omega)]
    · rw [climb_1 (by omega), climb_1 (by omega)]
theorem path_len : ∀ (n : Nat) (l : List (List UInt8)) (i : Nat), l.length = n → i < n → (pathM l i).length = depthM n i := by
  intro n
  induction n using Nat.strongRecOn with
  | _ n ih =>
    intro l i hl hi
    subst hl
    by_cases h : 2 ≤ l.length
    · have h1 := split_pos l.length
      have h2 := split_lt h
      by_cases hk : i < splitN l.length
      · rw [path_lo h hk, depth_lo h hk, List.length_append, ih _ h2 _ i (by rw [List.length_take]; omega) hk]; rfl
      · rw [path_hi h hk, depth_hi h hk, List.length_append, ih _ (by omega) _ _ List.length_drop (by omega)]; rfl
    · rw [path_1 (by omega), depth_1 (by omega)]; rfl
/-- A path leads to the root. -/
theorem climb_path : ∀ (n : Nat) (l : List (List UInt8)) (i : Nat), l.length = n → i < n → climbM n i (l.getD i []) (pathM l i) = rootM l := by
  intro n
  induction n using Nat.strongRecOn with
  | _ n ih =>
    intro l i hl hi
    subst hl
    by_cases h : 2 ≤ l.length
    · have h1 := split_pos l.length
      have h2 := split_lt h
      by_cases hk : i < splitN l.length
      · have hl1 : (l.take (splitN l.length)).length = splitN l.length := by rw [List.length_take]; omega
        have e1 := path_len _ _ i hl1 hk
        have e2 := ih _ h2 _ i hl1 hk
        have e3 : (l.take (splitN l.length)).getD i [] = l.getD i [] := by rw [List.getD_eq_getElem?_getD, List.getD_eq_getElem?_getD, List.getElem?_take, if_pos hk]
        rw [e3] at e2
        rw [path_lo h hk, climb_lo h hk, root_2 h, climb_app _ _ _ _ _ (by omega), e2, getD_end e1]
      · have hl1 : (l.drop (splitN l.length)).length = l.length - splitN l.length := List.length_drop
        have e1 := path_len _ _ (i - splitN l.length) hl1 (by omega)
        have e2 := ih _ (by omega) _ (i - splitN l.length) hl1 (by omega)
        have e3 : (l.drop (splitN l.length)).getD (i - splitN l.length) [] = l.getD i [] := by rw [List.getD_eq_getElem?_getD, List.getD_eq_getElem?_getD, List.getElem?_drop, show splitN l.length + (i - splitN l.length) = i by omega]
        rw [e3] at e2
        rw [path_hi h hk, climb_hi h hk, root_2 h, climb_app _ _ _ _ _ (by omega), e2, getD_end e1]
    · rw [path_1 (by omega), climb_1 (by omega), root_1 (by omega), show i = 0 by omega]
/-! ### How deep -/
def levN (n : Nat) : Nat := if n ≤ 1 then 0 else Nat.log2 (n - 1) + 1
theorem lev_pow (j : Nat) : levN (2 ^ j) = j := by
  unfold levN
  have hp := Nat.two_pow_pos j
  cases j with
  | zero => rfl
  | succ j =>
    have h2 : 2 ^ (j + 1) = 2 * 2 ^ j := by rw [Nat.pow_succ]; omega
    have hp := Nat.two_pow_pos j
    rw [if_neg (by omega)]
    have : Nat.log2 (2 ^ (j + 1) - 1) = j := by
      rw [Nat.log2_eq_iff (by omega)]
      omega
    rw [this]
theorem lev_split {n : Nat} (h : 2 ≤ n) : levN n = levN (splitN n) + 1 := by
  unfold splitN
  rw [lev_pow]
  unfold levN
  rw [if_neg (by omega)]
theorem lev_le (n : Nat) : n ≤ 2 ^ levN n := by
  unfold levN
  split
  · simpa using ‹_›
  · have := Nat.lt_log2_self (n := n - 1); omega
theorem lev_mono {m n : Nat} (h : m ≤ n) : levN m ≤ levN n := by
  unfold levN
  split
  · exact Nat.zero_le _
  · rw [if_neg (by omega)]
    have h1 := Nat.log2_self_le (n := m - 1) (by omega)
    have h2 := Nat.lt_log2_self (n := n - 1)
    have : 2 ^ Nat.log2 (m - 1) < 2 ^ (Nat.log2 (n - 1) + 1) := by omega
    have := (Nat.pow_lt_pow_iff_right (by decide)).1 this
    omega
theorem depth_lev : ∀ (n i : Nat), depthM n i ≤ levN n := by
  intro n
  induction n using Nat.strongRecOn with
  | _ n ih =>
    intro i
    by_cases h : 2 ≤ n
    · have h1 := split_pos n
      have h2 := split_le h
      rw [lev_split h]
      by_cases hi : i < splitN n
      · have := ih _ (split_lt h) i
        rw [depth_lo h hi]; omega
      · have h3 := ih _ (show n - splitN n < n by omega) (i - splitN n)
        have h4 := lev_mono (show n - splitN n ≤ splitN n by omega)
        rw [depth_hi h hi]; omega
    · rw [depth_1 (by omega)]; exact Nat.zero_le _
theorem depth_0 : ∀ (n : Nat), depthM n 0 = levN n := by
  intro n
  induction n using Nat.strongRecOn with
  | _ n ih =>
    by_cases h : 2 ≤ n
    · rw [depth_lo h (split_pos n), lev_split h, ih _ (split_lt h)]
    · rw [depth_1 (by omega)]; unfold levN; rw [if_pos (by omega)]
theorem depth_last (j : Nat) : depthM (2 ^ j) (2 ^ j - 1) = j := by
  induction j with
  | zero => exact depth_1 (by decide) _
  | succ j ih =>
    have hp := Nat.two_pow_pos j
    have h2 : 2 ^ (j + 1) = 2 * 2 ^ j := by rw [Nat.pow_succ]; omega
    have hs : splitN (2 ^ (j + 1)) = 2 ^ j := split_eq (by omega) (Nat.le_refl _)
    rw [depth_hi (by omega) (by omega), hs, show 2 ^ (j + 1) - 2 ^ j = 2 ^ j by omega, show 2 ^ (j + 1) - 1 - 2 ^ j = 2 ^ j - 1 by omega, ih]
/-- The last path ends at the root of the full part. -/
theorem path_last {l : List (List UInt8)} (h : 2 ≤ l.length) : ∃ q, pathM l (l.length - 1) = q ++ [rootM (l.take (splitN l.length))] := by
  have := split_lt h
  exact ⟨_, path_hi h (by omega)⟩
/-! ### Growth -/
def proofM (m : Nat) (l : List (List UInt8)) (whole : Bool) : List (List UInt8) :=
  if l.length ≤ m then (if whole then [] else [rootM l]) else if l.length ≤ 1 then [] else if m ≤ splitN l.length then proofM m (l.take (splitN l.length)) whole ++ [rootM (l.drop (splitN l.length))] else proofM (m - splitN l.length) (l.drop (splitN l.length)) false ++ [rootM (l.take (splitN l.length))]
termination_by l.length
decreasing_by
  · have := split_lt (n := l.length) (by omega); rw [List.length_take]; omega
  · have := split_pos l.length; rw [List.length_drop]; omega
theorem proof_all {m : Nat} {l : List (List UInt8)} (h : m = l.length) (whole : Bool) : proofM m l whole = if whole then [] else [rootM l] := by rw [proofM, if_pos (by omega)]
theorem proof_lo {m : Nat} {l : List (List UInt8)} (h0 : 1 ≤ m) (h : m < l.length) (hk : m ≤ splitN l.length) (whole : Bool) : proofM m l whole = proofM m (l.take (splitN l.length)) whole ++ [rootM (l.drop (splitN l.length))] := by
  rw [proofM, if_neg (by omega), if_neg (by omega), if_pos hk]
theorem proof_hi {m : Nat} {l : List (List UInt8)} (h0 : 1 ≤ m) (h : m < l.length) (hk : ¬ m ≤ splitN l.length) (whole : Bool) : proofM m l whole = proofM (m - splitN l.length) (l.drop (splitN l.length)) false ++ [rootM (l.take (splitN l.length))] := by
  rw [proofM, if_neg (by omega), if_neg (by omega), if_neg hk]
def plenM (m n : Nat) (whole : Bool) : Nat := if n ≤ m then (if whole then 0 else 1) else if n ≤ 1 then 0 else if m ≤ splitN n then plenM m (splitN n) whole + 1 else plenM (m - splitN n) (n - splitN n) false + 1
termination_by n
decreasing_by
  · exact split_lt (by omega)
  · have := split_pos n; omega
theorem plen_all {m n : Nat} (h : m = n) (whole : Bool) : plenM m n whole = if whole then 0 else 1 := by rw [plenM, if_pos (by omega)]
theorem plen_lo {m n : Nat} (h0 : 1 ≤ m) (h : m < n) (hk : m ≤ splitN n) (whole : Bool) : plenM m n whole = plenM m (splitN n) whole + 1 := by rw [plenM, if_neg (by omega), if_neg (by omega), if_pos hk]
theorem plen_hi {m n : Nat} (h0 : 1 ≤ m) (h : m < n) (hk : ¬ m ≤ splitN n) (whole : Bool) : plenM m n whole = plenM (m - splitN n) (n - splitN n) false + 1 := by rw [plenM, if_neg (by omega), if_neg (by omega), if_neg hk]
/-- Both roots that a proof gives. -/
def grownM (m n : Nat) (whole : Bool) (old : List UInt8) (p : List (List UInt8)) : List UInt8 × List UInt8 :=
  if n ≤ m then (if whole then (old, old) else (p.getD 0 [], p.getD 0 [])) else if n ≤ 1 then ([], []) else if m ≤ splitN n then ((grownM m (splitN n) whole old p).1, nodeM (grownM m (splitN n) whole old p).2 (p.getD (plenM m (splitN n) whole) [])) else (nodeM (p.getD (plenM (m - splitN n) (n - splitN n) false) []) (grownM (m - splitN n) (n - splitN n) false old p).1, nodeM (p.getD (plenM (m - splitN n) (n - splitN n) false) []) (grownM (m - splitN n) (n - splitN n) false old p).2)
termination_by n
decreasing_by
  all_goals first | (have := split_pos n; omega) | exact split_lt (by omega)
theorem grown_all {m n : Nat} (h : m = n) (whole : Bool) (old : List UInt8) (p : List (List UInt8)) : grownM m n whole old p = if whole then (old, old) else (p.getD 0 [], p.getD 0 []) := by rw [grownM, if_pos (by omega)]
theorem grown_lo {m n : Nat} (h0 : 1 ≤ m) (h : m < n) (hk : m ≤ splitN n) (whole : Bool) (old : List UInt8) (p : List (List UInt8)) : grownM m n whole old p = ((grownM m (splitN n) whole old p).1, nodeM (grownM m (splitN n) whole old p).2 (p.getD (plenM m (splitN n) whole) [])) := by rw [grownM, if_neg (by omega), if_neg (by omega), if_pos hk]
theorem grown_hi {m n : Nat} (h0 : 1 ≤ m) (h : m < n) (hk : ¬ m ≤ splitN n) (whole : Bool) (old : List UInt8) (p : List (List UInt8)) : grownM m n whole old p = (nodeM (p.getD (plenM (m - splitN n) (n - splitN n) false) []) (grownM (m - splitN n) (n - splitN n) false old p).1, nodeM (p.getD (plenM (m - splitN n) (n - splitN n) false) []) (grownM (m - splitN n) (n - splitN n) false old p).2) := by rw [grownM, if_neg (by omega), if_neg (by omega), if_neg hk]
theorem plen_pos : ∀ (n m : Nat), 1 ≤ m → m ≤ n → 1 ≤ plenM m n false := by
  intro n m h0 h
  by_cases hm : m = n
  · rw [plen_all hm]; decide
  · by_cases hk : m ≤ splitN n
    · rw [plen_lo h0 (by omega) hk]; omega
    · rw [plen_hi h0 (by omega) hk]; omega
theorem grown_app (old : List UInt8) (p q : List (List UInt8)) : ∀ (n m : Nat) (whole : Bool), 1 ≤ m → m ≤ n → plenM m n whole ≤ p.length → grownM m n whole old (p ++ q) = grownM m n whole old p := by
  intro n
  induction n using Nat.strongRecOn with
  | _ n ih =>
    intro m whole h0 h hd
    by_cases hm : m = n
    · rw [plen_all hm] at hd
      rw [grown_all hm, grown_all hm]
      cases whole
      · simp only [Bool.false_eq_true, if_false] at hd ⊢
        rw [getD_app (by omega)]
      · rfl
    · have h1 := split_pos n
      have h2 := split_lt (n := n) (by omega)
      by_cases hk : m ≤ splitN n
      · rw [plen_lo h0 (by omega) hk] at hd
        rw [grown_lo h0 (by omega) hk, grown_lo h0 (by omega) hk, ih _ h2 m whole h0 hk (by omega), getD_app (by omega)]
      · rw [plen_hi h0 (by omega) hk] at hd
        rw [grown_hi h0 (by omega) hk, grown_hi h0 (by omega) hk, ih _ (by omega) _ false (by omega) (by omega) (by omega), getD_app (by omega)]
theorem proof_len : ∀ (n : Nat) (l : List (List UInt8)) (m : Nat) (whole : Bool), l.length = n → 1 ≤ m → m ≤ n → (proofM m l whole).length = plenM m n whole := by
  intro n
  induction n using Nat.strongRecOn with
  | _ n ih =>
    intro l m whole hl h0 h
    subst hl
    by_cases hm : m = l.length
    · rw [proof_all hm, plen_all hm]
      cases whole <;> rfl
    · have h1 := split_pos l.length
      have h2 := split_lt (n := l.length) (by omega)
      by_cases hk : m ≤ splitN l.length
      · rw [proof_lo h0 (by omega) hk, plen_lo h0 (by omega) hk, List.length_append, ih _ h2 _ m whole (by rw [List.length_take]; omega) h0 hk]; rfl
      · rw [proof_hi h0 (by omega) hk, plen_hi h0 (by omega) hk, List.length_append, ih _ (by omega) _ _ false List.length_drop (by omega) (by omega)]; rfl
/-- A proof gives both roots. -/
theorem grown_proof : ∀ (n : Nat) (l : List (List UInt8)) (m : Nat) (whole : Bool) (old : List UInt8), l.length = n → 1 ≤ m → m ≤ n → (whole = true → old = rootM (l.take m)) → grownM m n whole old (proofM m l whole) = (rootM (l.take m), rootM l) := by
  intro n
  induction n using Nat.strongRecOn with
  | _ n ih =>
    intro l m whole old hl h0 h ho
    subst hl
    by_cases hm : m = l.length
    · rw [proof_all hm, grown_all hm]
      have ht : l.take m = l := List.take_of_length_le (by omega)
      rw [ht] at ho ⊢
      cases whole
      · rfl
      · rw [ho rfl]; rfl
    · have h1 := split_pos l.length
      have h2 := split_lt (n := l.length) (by omega)
      by_cases hk : m ≤ splitN l.length
      · have hl1 : (l.take (splitN l.length)).length = splitN l.length := by rw [List.length_take]; omega
        have ht : (l.take (splitN l.length)).take m = l.take m := by rw [List.take_take, Nat.min_eq_left hk]
        have e1 := ih _ h2 _ m whole old hl1 h0 hk (by rw [ht]; exact ho)
        have e2 := proof_len _ _ m whole hl1 h0 hk
        rw [ht] at e1
        rw [proof_lo h0 (by omega) hk, grown_lo h0 (by omega) hk, grown_app _ _ _ _ _ _ h0 hk (by omega), e1, getD_end e2, ← root_2 (by omega)]
      · have hl1 : (l.drop (splitN l.length)).length = l.length - splitN l.length := List.length_drop
        have e1 := ih _ (by omega) _ (m - splitN l.length) false old hl1 (by omega) (by omega) (by intro h; cases h)
        have e2 := proof_len _ _ (m - splitN l.length) false hl1 (by omega) (by omega)
        have hml : (l.take m).length = m := by rw [List.length_take]; omega
        have hs : splitN m = splitN l.length := split_mid (by omega) (by omega) (by omega)
        have hr : rootM (l.take m) = nodeM (rootM (l.take (splitN l.length))) (rootM ((l.drop (splitN l.length)).take (m - splitN l.length))) := by
          rw [root_2 (l := l.take m) (by omega), hml, hs, List.take_take, Nat.min_eq_left (by omega), List.drop_take]
        rw [proof_hi h0 (by omega) hk, grown_hi h0 (by omega) hk, grown_app _ _ _ _ _ _ (by omega) (by omega) (by omega), e1, getD_end e2, hr, ← root_2 (by omega)]
end Go.Proofs.YtjgkchmdhicmpaaDoor
set_option linter.unusedVariables false
set_option linter.unusedSimpArgs false
namespace Go.Proofs.YtjgkchmdhicmpaaDoor
open Go.RowKit

/-! ### The way up from a tree of s leaves with leaf i -/
def wayM (n i s : Nat) : List Bool := if n ≤ s then [] else if n ≤ 1 then [] else if i < splitN n then wayM (splitN n) i s ++ [false] else wayM (n - splitN n) (i - splitN n) s ++ [true]
termination_by n
decreasing_by
  · exact split_lt (by omega)
  · have := split_pos n; omega
theorem way_0 {n s : Nat} (h : n ≤ s) (i : Nat) : wayM n i s = [] := by rw [wayM, if_pos h]
theorem way_lo {n i s : Nat} (h0 : 1 ≤ s) (h : s < n) (hi : i < splitN n) : wayM n i s = wayM (splitN n) i s ++ [false] := by rw [wayM, if_neg (by omega), if_neg (by omega), if_pos hi]
theorem way_hi {n i s : Nat} (h0 : 1 ≤ s) (h : s < n) (hi : ¬ i < splitN n) : wayM n i s = wayM (n - splitN n) (i - splitN n) s ++ [true] := by rw [wayM, if_neg (by omega), if_neg (by omega), if_neg hi]
def othM (l : List (List UInt8)) (i s : Nat) : List (List UInt8) :=
  if l.length ≤ s then [] else if l.length ≤ 1 then [] else if i < splitN l.length then othM (l.take (splitN l.length)) i s ++ [rootM (l.drop (splitN l.length))] else othM (l.drop (splitN l.length)) (i - splitN l.length) s ++ [rootM (l.take (splitN l.length))]
termination_by l.length
decreasing_by
  · have := split_lt (n := l.length) (by omega); rw [List.length_take]; omega
  · have := split_pos l.length; rw [List.length_drop]; omega
theorem oth_0 {l : List (List UInt8)} {s : Nat} (h : l.length ≤ s) (i : Nat) : othM l i s = [] := by rw [othM, if_pos h]
theorem oth_lo {l : List (List UInt8)} {i s : Nat} (h0 : 1 ≤ s) (h : s < l.length) (hi : i < splitN l.length) : othM l i s = othM (l.take (splitN l.length)) i s ++ [rootM (l.drop (splitN l.length))] := by rw [othM, if_neg (by omega), if_neg (by omega), if_pos hi]
theorem oth_hi {l : List (List UInt8)} {i s : Nat} (h0 : 1 ≤ s) (h : s < l.length) (hi : ¬ i < splitN l.length) : othM l i s = othM (l.drop (splitN l.length)) (i - splitN l.length) s ++ [rootM (l.take (splitN l.length))] := by rw [othM, if_neg (by omega), if_neg (by omega), if_neg hi]
theorem way_len1 : ∀ (n i : Nat), (wayM n i 1).length = depthM n i := by
  intro n
  induction n using Nat.strongRecOn with
  | _ n ih =>
    intro i
    by_cases h : 2 ≤ n
    · have h1 := split_pos n
      by_cases hi : i < splitN n
      · rw [way_lo (by decide) (by omega) hi, depth_lo h hi, List.length_append, ih _ (split_lt h)]; rfl
      · rw [way_hi (by decide) (by omega) hi, depth_hi h hi, List.length_append, ih _ (by omega)]; rfl
    · rw [way_0 (by omega), depth_1 (by omega)]; rfl
theorem oth_path : ∀ (n : Nat) (l : List (List UInt8)) (i : Nat), l.length = n → othM l i 1 = pathM l i := by
  intro n
  induction n using Nat.strongRecOn with
  | _ n ih =>
    intro l i hl
    subst hl
    by_cases h : 2 ≤ l.length
    · have h1 := split_pos l.length
      have h2 := split_lt h
      by_cases hi : i < splitN l.length
      · rw [oth_lo (by decide) (by omega) hi, path_lo h hi, ih _ h2 _ i (by rw [List.length_take]; omega)]
      · rw [oth_hi (by decide) (by omega) hi, path_hi h hi, ih _ (by omega) _ _ List.length_drop]
    · rw [oth_0 (by omega), path_1 (by omega)]
theorem way_le : ∀ (n i s : Nat), (wayM n i s).length ≤ n := by
  intro n
  induction n using Nat.strongRecOn with
  | _ n ih =>
    intro i s
    by_cases h : n ≤ s
    · rw [way_0 h]; exact Nat.zero_le _
    · rw [wayM, if_neg h]
      by_cases h1 : n ≤ 1
      · rw [if_pos h1]; exact Nat.zero_le _
      · have h2 := split_lt (n := n) (by omega)
        have h3 := split_pos n
        rw [if_neg h1]
        split
        · have := ih _ h2 i s
          rw [List.length_append, List.length_singleton]; omega
        · have := ih (n - splitN n) (by omega) (i - splitN n) s
          rw [List.length_append, List.length_singleton]; omega
theorem oth_le : ∀ (n : Nat) (l : List (List UInt8)) (i s : Nat), l.length = n → (othM l i s).length ≤ n := by
  intro n
  induction n using Nat.strongRecOn with
  | _ n ih =>
    intro l i s hl
    subst hl
    by_cases h : l.length ≤ s
    · rw [oth_0 h]; exact Nat.zero_le _
    · rw [othM, if_neg h]
      by_cases h1 : l.length ≤ 1
      · rw [if_pos h1]; exact Nat.zero_le _
      · have h2 := split_lt (n := l.length) (by omega)
        have h3 := split_pos l.length
        rw [if_neg h1]
        split
        · have := ih _ h2 (l.take (splitN l.length)) i s (by rw [List.length_take]; omega)
          rw [List.length_append, List.length_singleton]; omega
        · have := ih (l.length - splitN l.length) (by omega) (l.drop (splitN l.length)) (i - splitN l.length) s List.length_drop
          rw [List.length_append, List.length_singleton]; omega
/-! ### The least power of two in a sum -/
def lowF : Nat → Nat → Nat
  | 0, _ => 1
  | f + 1, m => if m % 2 = 1 then 1 else 2 * lowF f (m / 2)
def lowN (m : Nat) : Nat := lowF 64 m
theorem lowF_le : ∀ (f m : Nat), 1 ≤ m → 1 ≤ lowF f m ∧ lowF f m ≤ m
  | 0, m, h => ⟨Nat.le_refl _, h⟩
  | f + 1, m, h => by
    unfold lowF
    split
    · omega
    · have := lowF_le f (m / 2) (by omega)
      omega
theorem low_le {m : Nat} (h : 1 ≤ m) : 1 ≤ lowN m ∧ lowN m ≤ m := lowF_le 64 m h
theorem lowF_pow : ∀ (j f : Nat), j ≤ f → lowF f (2 ^ j) = 2 ^ j
  | 0, 0, _ => rfl
  | 0, f + 1, _ => rfl
  | j + 1, 0, h => by omega
  | j + 1, f + 1, h => by
    have e : 2 ^ (j + 1) = 2 * 2 ^ j := by rw [Nat.pow_succ]; omega
    unfold lowF
    rw [if_neg (by omega), show 2 ^ (j + 1) / 2 = 2 ^ j by omega, lowF_pow j f (by omega)]
    omega
theorem low_pow {j : Nat} (h : j ≤ 64) : lowN (2 ^ j) = 2 ^ j := lowF_pow j 64 h
theorem lowF_sub : ∀ (j f m : Nat), 2 ^ j < m → m < 2 * 2 ^ j → lowF f (m - 2 ^ j) = lowF f m
  | _, 0, _, _, _ => rfl
  | 0, f + 1, m, h1, h2 => by simp at h1 h2; omega
  | j + 1, f + 1, m, h1, h2 => by
    have e : 2 ^ (j + 1) = 2 * 2 ^ j := by rw [Nat.pow_succ]; omega
    rw [lowF, lowF]
    by_cases ho : m % 2 = 1
    · rw [if_pos (by omega), if_pos ho]
    · rw [if_neg (by omega), if_neg ho, show (m - 2 ^ (j + 1)) / 2 = m / 2 - 2 ^ j by omega, lowF_sub j f (m / 2) (by omega) (by omega)]
theorem low_sub {n m : Nat} (hn : 2 ≤ n) (h : m < n) (hk : splitN n < m) : lowN (m - splitN n) = lowN m := by
  have := split_le hn
  unfold splitN at hk this ⊢
  exact lowF_sub _ _ _ hk (by omega)
theorem low_split {n : Nat} (h2 : 2 ≤ n) (h : n ≤ 1024) : lowN (splitN n) = splitN n := by
  have h1 := split_lt h2
  unfold splitN at h1 ⊢
  refine low_pow ?_
  have h3 : 2 ^ Nat.log2 (n - 1) < 2 ^ 10 := by omega
  have := (Nat.pow_lt_pow_iff_right (by decide)).1 h3
  omega
theorem split_split {n : Nat} (h : 2 ≤ splitN n) : splitN n = 2 * splitN (splitN n) := by
  unfold splitN at h ⊢
  generalize Nat.log2 (n - 1) = j at h ⊢
  cases j with
  | zero => simp at h
  | succ j =>
    have e : 2 ^ (j + 1) = 2 * 2 ^ j := by rw [Nat.pow_succ]; omega
    have := Nat.two_pow_pos j
    have h2 := split_eq (n := 2 ^ (j + 1)) (j := j) (by omega) (Nat.le_refl _)
    unfold splitN at h2
    rw [h2, e]
theorem low_bits : ∀ m : Fin 1025, 1 ≤ m.val → bits .and .i64 (m.val : Int) (-(m.val : Int)) = (lowN m.val : Int) := by decide +kernel
/-! ### Proofs of growth by both codes -/
def lastT (l : List (List UInt8)) (m : Nat) : List (List UInt8) := (l.drop (m - lowN m)).take (lowN m)
/-- Half way: the tree of m leaves is a tree of its own, or there are more leaves. -/
def Whole (m n : Nat) : Prop := m < n ∨ (m = n ∧ lowN m = m)
theorem proof_oth : ∀ (n : Nat) (l : List (List UInt8)) (m : Nat) (whole : Bool), l.length = n → n ≤ 1024 → 1 ≤ m → Whole m n → proofM m l whole = (if whole = true ∧ lowN m = m then othM l (m - 1) (lowN m) else rootM (lastT l m) :: othM l (m - 1) (lowN m)) := by
  intro n
  induction n using Nat.strongRecOn with
  | _ n ih =>
    intro l m whole hl hn h0 hw
    subst hl
    obtain ⟨q1, q2⟩ := low_le h0
    rcases hw with h | ⟨h, hp⟩
    · have h1 := split_pos l.length
      have h2 := split_lt (n := l.length) (by omega)
      by_cases hk : m ≤ splitN l.length
      · have hl1 : (l.take (splitN l.length)).length = splitN l.length := by rw [List.length_take]; omega
        have hW : Whole m (splitN l.length) := by
          rcases Nat.lt_or_ge m (splitN l.length) with h3 | h3
          · exact .inl h3
          · obtain rfl : m = splitN l.length := by omega
            exact .inr ⟨rfl, low_split (by omega) hn⟩
        have e1 := ih _ h2 _ m whole hl1 (by omega) h0 hW
        have e2 : lastT (l.take (splitN l.length)) m = lastT l m := by
          unfold lastT
          rw [List.drop_take, List.take_take]
          congr 1; omega
        rw [e2] at e1
        rw [proof_lo h0 h hk, e1, oth_lo (l := l) (i := m - 1) q1 (by omega) (by omega)]
        split <;> rfl
      · have hl1 : (l.drop (splitN l.length)).length = l.length - splitN l.length := List.length_drop
        have h4 := split_le (n := l.length) (by omega)
        have e0 := low_sub (n := l.length) (m := m) (by omega) h (by omega)
        obtain ⟨q3, q4⟩ := low_le (m := m - splitN l.length) (by omega)
        have e1 := ih _ (by omega) _ (m - splitN l.length) false hl1 (by omega) (by omega) (.inl (by omega))
        have e2 : lastT (l.drop (splitN l.length)) (m - splitN l.length) = lastT l m := by
          unfold lastT
          rw [e0, List.drop_drop, show splitN l.length + (m - splitN l.length - lowN m) = m - lowN m by omega]
        rw [e2, e0, if_neg (by simp)] at e1
        rw [proof_hi h0 h hk, e1, oth_hi (l := l) (i := m - 1) q1 (by omega) (by omega), if_neg (by omega), show m - 1 - splitN l.length = m - splitN l.length - 1 by omega]
        rfl
    · subst h
      have ht : lastT l l.length = l := by unfold lastT; rw [hp, Nat.sub_self, List.drop_zero]; exact List.take_of_length_le (Nat.le_refl _)
      rw [proof_all rfl, oth_0 (by omega), ht]
      cases whole <;> simp [hp]
/-- The elements of a path, used up from below. -/
def clF (t : List UInt8) (p : List (List UInt8)) (w : List Bool) : Nat → List UInt8
  | 0 => t
  | j + 1 => if w.getD j false = true then nodeM (p.getD j []) (clF t p w j) else nodeM (clF t p w j) (p.getD j [])
theorem getB_app {w v : List Bool} {j : Nat} (h : j < w.length) : (w ++ v).getD j false = w.getD j false := by
  rw [List.getD_eq_getElem?_getD, List.getD_eq_getElem?_getD, List.getElem?_append_left h]
theorem getB_end {w : List Bool} {x : Bool} : (w ++ [x]).getD w.length false = x := by
  rw [List.getD_eq_getElem?_getD, List.getElem?_append_right (Nat.le_refl _), Nat.sub_self]; rfl
theorem clF_app (t : List UInt8) (p : List (List UInt8)) (w v : List Bool) : ∀ j, j ≤ w.length → clF t p (w ++ v) j = clF t p w j
  | 0, _ => rfl
  | j + 1, h => by rw [clF, clF, clF_app t p w v j (by omega), getB_app (by omega)]
theorem climb_cl (leaf : List UInt8) (p : List (List UInt8)) : ∀ (n i : Nat), climbM n i leaf p = clF (leafM leaf) p (wayM n i 1) (wayM n i 1).length := by
  intro n
  induction n using Nat.strongRecOn with
  | _ n ih =>
    intro i
    by_cases h : 2 ≤ n
    · have h1 := split_pos n
      by_cases hi : i < splitN n
      · rw [climb_lo h hi, way_lo (by decide) (by omega) hi, List.length_append, List.length_singleton, clF, clF_app _ _ _ _ _ (Nat.le_refl _), getB_end, ih _ (split_lt h), if_neg (by simp), way_len1]
      · rw [climb_hi h hi, way_hi (by decide) (by omega) hi, List.length_append, List.length_singleton, clF, clF_app _ _ _ _ _ (Nat.le_refl _), getB_end, ih _ (by omega), if_pos rfl, way_len1]
    · rw [climb_1 (by omega), way_0 (by omega)]; rfl
def grF (c : List UInt8) (p : List (List UInt8)) (w : List Bool) : Nat → List UInt8 × List UInt8
  | 0 => (c, c)
  | j + 1 => if w.getD j false = true then (nodeM (p.getD j []) (grF c p w j).1, nodeM (p.getD j []) (grF c p w j).2) else ((grF c p w j).1, nodeM (grF c p w j).2 (p.getD j []))
theorem grF_app (c : List UInt8) (p : List (List UInt8)) (w v : List Bool) : ∀ j, j ≤ w.length → grF c p (w ++ v) j = grF c p w j
  | 0, _ => rfl
  | j + 1, h => by rw [grF, grF, grF_app c p w v j (by omega), getB_app (by omega)]
theorem getD_drop1 (p : List (List UInt8)) (j : Nat) : (p.drop 1).getD j [] = p.getD (j + 1) [] := by
  rw [List.getD_eq_getElem?_getD, List.getD_eq_getElem?_getD, List.getElem?_drop, Nat.add_comm]
/-- What a proof gives, by the elements from below. -/
theorem grown_gr (old : List UInt8) (p : List (List UInt8)) : ∀ (n m : Nat) (whole : Bool), n ≤ 1024 → 1 ≤ m → Whole m n →
    (whole = true ∧ lowN m = m → plenM m n whole = (wayM n (m - 1) (lowN m)).length ∧ grownM m n whole old p = grF old p (wayM n (m - 1) (lowN m)) (wayM n (m - 1) (lowN m)).length) ∧
    (¬ (whole = true ∧ lowN m = m) → plenM m n whole = (wayM n (m - 1) (lowN m)).length + 1 ∧ grownM m n whole old p = grF (p.getD 0 []) (p.drop 1) (wayM n (m - 1) (lowN m)) (wayM n (m - 1) (lowN m)).length) := by
  intro n
  induction n using Nat.strongRecOn with
  | _ n ih =>
    intro m whole hn h0 hw
    obtain ⟨q1, q2⟩ := low_le h0
    rcases hw with h | ⟨h, hp⟩
    · have h1 := split_pos n
      have h2 := split_lt (n := n) (by omega)
      by_cases hk : m ≤ splitN n
      · have hW : Whole m (splitN n) := by
          rcases Nat.lt_or_ge m (splitN n) with h3 | h3
          · exact .inl h3
          · obtain rfl : m = splitN n := by omega
            exact .inr ⟨rfl, low_split (by omega) hn⟩
        obtain ⟨e1, e2⟩ := ih _ h2 m whole (by omega) h0 hW
        rw [plen_lo h0 h hk, grown_lo h0 h hk, way_lo (i := m - 1) q1 (by omega) (by omega), List.length_append, List.length_singleton]
        refine ⟨fun hc => ?_, fun hc => ?_⟩
        · obtain ⟨e3, e4⟩ := e1 hc
          refine ⟨by omega, ?_⟩
          rw [grF, grF_app _ _ _ _ _ (Nat.le_refl _), getB_end, if_neg (by simp), e3, e4]
        · obtain ⟨e3, e4⟩ := e2 hc
          refine ⟨by omega, ?_⟩
          rw [grF, grF_app _ _ _ _ _ (Nat.le_refl _), getB_end, if_neg (by simp), e3, e4, getD_drop1]
      · have h4 := split_le (n := n) (by omega)
        have e0 := low_sub (n := n) (m := m) (by omega) h (by omega)
        obtain ⟨q3, q4⟩ := low_le (m := m - splitN n) (by omega)
        obtain ⟨e1, e2⟩ := ih (n - splitN n) (by omega) (m - splitN n) false (by omega) (by omega) (.inl (by omega))
        obtain ⟨e3, e4⟩ := e2 (by simp)
        rw [e0] at e3 e4
        rw [plen_hi h0 h hk, grown_hi h0 h hk, way_hi (i := m - 1) q1 (by omega) (by omega), List.length_append, List.length_singleton, show m - 1 - splitN n = m - splitN n - 1 by omega]
        refine ⟨fun hc => by omega, fun _ => ⟨by omega, ?_⟩⟩
        rw [grF, grF_app _ _ _ _ _ (Nat.le_refl _), getB_end, if_pos rfl, e3, e4, getD_drop1]
    · subst h
      rw [plen_all rfl, grown_all rfl, way_0 (by omega)]
      refine ⟨fun hc => ?_, fun hc => ?_⟩
      · rw [hc.1]; exact ⟨rfl, rfl⟩
      · have : whole = false := by cases whole <;> simp_all
        subst this
        exact ⟨rfl, rfl⟩
theorem plen_le : ∀ (n m : Nat) (whole : Bool), 1 ≤ m → m ≤ n → plenM m n whole ≤ n := by
  intro n
  induction n using Nat.strongRecOn with
  | _ n ih =>
    intro m whole h0 h
    by_cases hm : m = n
    · rw [plen_all hm]; split <;> omega
    · have h1 := split_pos n
      have h2 := split_lt (n := n) (by omega)
      by_cases hk : m ≤ splitN n
      · have := ih _ h2 m whole h0 hk
        rw [plen_lo h0 (by omega) hk]; omega
      · have := ih (n - splitN n) (by omega) (m - splitN n) false (by omega) (by omega)
        rw [plen_hi h0 (by omega) hk]; omega
theorem leafM_len (b : List UInt8) : (leafM b).length = 32 := sumK_len _
theorem nodeM_len (l r : List UInt8) : (nodeM l r).length = 32 := sumK_len _
theorem rootM_len (l : List (List UInt8)) : (rootM l).length = 32 := by
  rw [rootM]
  split
  · exact sumK_len _
  · split
    · exact leafM_len _
    · exact nodeM_len _ _
end Go.Proofs.YtjgkchmdhicmpaaDoor
set_option linter.unusedVariables false
set_option linter.unusedSimpArgs false
namespace Go.Proofs.YtjgkchmdhicmpaaDoor
open Go.RowKit

def chgI (b : List UInt8) (at' : Int) : Nat := (withinN at' b.length).toNat
def chgB (by' : Int) : UInt8 := UInt8.ofNat (1 + (withinN by' 255).toNat)
def changedL (b : List UInt8) (at' by' : Int) : List UInt8 := b.set (chgI b at') (xorB (b.getD (chgI b at') 0) (chgB by'))
theorem changedL_len (b : List UInt8) (at' by' : Int) : (changedL b at' by').length = b.length := List.length_set
theorem chgB_ne (by' : Int) : chgB by' ≠ 0 := by
  have h := withinN_range by' 255 (by decide)
  intro e
  have := congrArg UInt8.toNat e
  unfold chgB at this
  rw [UInt8.toNat_ofNat_of_lt' (by simp [UInt8.size]; omega)] at this
  simp at this
theorem chgI_lt {b : List UInt8} (h : 0 < b.length) (at' : Int) : chgI b at' < b.length := by
  have := withinN_range at' b.length (by omega)
  unfold chgI; omega
theorem changedL_ne {b : List UInt8} (h : 0 < b.length) (at' by' : Int) : changedL b at' by' ≠ b := by
  intro e
  have hi := chgI_lt h at'
  have h1 := congrArg (fun l : List UInt8 => l.getD (chgI b at') 0) e
  simp only [changedL, List.getD_eq_getElem?_getD, List.getElem?_set_self hi, Option.getD_some] at h1
  apply chgB_ne by'
  generalize b[chgI b at']?.getD 0 = x at h1
  generalize chgB by' = y at h1
  have : xorB x (xorB x y) = xorB x x := by rw [h1]
  have e1 : xorB x (xorB x y) = y := by unfold xorB; rw [← UInt8.xor_assoc, UInt8.xor_self, UInt8.zero_xor]
  have e2 : xorB x x = 0 := by unfold xorB; exact UInt8.xor_self
  rw [← e1, this, e2]
def sf_chg : SFn := ⟨3, 25,
  .seq (.reg [⟨(some 6), .mv (.k (.c .nil)), none⟩])
  (.seq (.reg [⟨(some 8), .mv (.t 0), none⟩,
    ⟨(some 9), .bldSl false 1 1 (.sl []) [(0, (.t 8))], none⟩,
    ⟨(some 10), .call 41 [(.t 9)] (some (0, 1)), none⟩,
    ⟨(some 7), .mv (.t 10), none⟩])
  (.seq (.reg [⟨(some 11), .mv (.t 7), none⟩,
    ⟨(some 12), .mv (.t 1), none⟩,
    ⟨(some 13), .mv (.t 7), none⟩,
    ⟨(some 14), .len (.t 13), none⟩,
    ⟨(some 15), .call 24 [(.t 12), (.t 14)] none, none⟩,
    ⟨(some 16), .idxSl 1 (.t 11) (.t 15), none⟩,
    ⟨(some 17), .load .sc (.t 16), none⟩,
    ⟨(some 18), .mv (.t 2), none⟩,
    ⟨(some 19), .call 24 [(.t 18), (.k (.c (.d (.int .i64 255))))] none, none⟩,
    ⟨(some 20), .bin .add (.k (.c (.d (.int .i64 1)))) (.t 19), none⟩,
    ⟨(some 21), .conv .u8 (.t 20), none⟩,
    ⟨(some 22), .bin .xor (.t 17) (.t 21), none⟩,
    ⟨(some 23), .idxSl 1 (.t 11) (.t 15), none⟩,
    ⟨none, .store .sc (.t 23) (.t 22), none⟩])
  (.seq (.reg [⟨(some 24), .mv (.t 7), none⟩,
    ⟨(some 6), .mv (.t 24), none⟩])
  (.ret)))),
  [(6, none)]⟩
theorem cf_chg : compFn Tryd.prog { own := [10], comp := [], frz := [], nils := [] } Tryd.f29 = some sf_chg := by kernel_rfl
set_option maxHeartbeats 1600000 in
theorem chg_c (G : Glob) (b : List UInt8) (at' by' : Int) (h : 0 < b.length) (hb : b.length ≤ 140737488355328) : Den Tryd.prog G 29 [.sl (b.map bD), .int .i64 at', .int .i64 by'] (.w (.c (.fr 1 ((changedL b at' by').map bD)))) := by
  refine den_walk Tryd.func29 cf_chg rfl rfl ?_
  have hj := rjoin_c G [b] (by simp) (by simp; omega)
  have hf : [b].flatten = b := by simp
  rw [hf] at hj
  have hw := withinN_range at' b.length (by omega)
  have hw2 := withinN_range by' 255 (by decide)
  have hi := chgI_lt h at'
  have ei : ((chgI b at' : Nat) : Int) = withinN at' b.length := by unfold chgI; omega
  have eb : bD (chgB by') = .int .u8 (1 + withinN by' 255) := by
    unfold chgB
    rw [bD_ofNat (by omega)]
    congr 1; omega
  have g1 : b[chgI b at']? = some (b.getD (chgI b at') 0) := by rw [List.getD_eq_getElem?_getD, List.getElem?_eq_getElem hi]; rfl
  have x1 := binV_xorB (b.getD (chgI b at') 0) (chgB by')
  rw [eb] at x1
  have hs : b.set (chgI b at') (xorB (b.getD (chgI b at') 0) (chgB by')) = changedL b at' by' := rfl
  have e1 := within_c G at' b.length (by omega)
  have e2 := within_c G by' 255 (by decide)
  rw [← ei] at e1 hw
  generalize withinN by' 255 = y at *
  generalize chgI b at' = i at *
  simp only [sf_chg, putAll, wx, wy, wz, stV, seval, IntWalk.iteOmega, IntWalk.toNatUp, reduceCtorEq]
  refine st_call (hj) rfl (.inl rfl) ?_
  simp only [wx, wy, wz, stV, seval, IntWalk.iteOmega, IntWalk.toNatUp, reduceCtorEq]
  refine st_call (e1) rfl (.inl rfl) ?_
  simp only [get_map, g1, wx, wy, wz, stV, seval, IntWalk.iteOmega, IntWalk.toNatUp, reduceCtorEq]
  refine st_call (e2) rfl (.inl rfl) ?_
  simp only [x1, stO_bs hi (one_b _), set_bs, hs, wx, wy, wz, stV, seval, IntWalk.iteOmega, IntWalk.toNatUp, reduceCtorEq]
  exact ret_own (id := 80) (n := b.length) (s := 1) (by simp only [wx, stV, seval, IntWalk.iteOmega, IntWalk.toNatUp, reduceCtorEq]) (by simp only [wx, stV, seval, IntWalk.iteOmega, IntWalk.toNatUp, reduceCtorEq]) (by simp [changedL_len])
def sf_wkey : SFn := ⟨1, 5,
  .seq (.reg [⟨(some 2), .mv (.k (.c .nil)), none⟩])
  (.seq (.reg [⟨(some 3), .mv (.t 0), none⟩,
    ⟨(some 4), .call 27 [(.t 3), (.k (.c (.d (.int .i64 32))))] none, none⟩,
    ⟨(some 2), .mv (.t 4), none⟩])
  (.ret)),
  [(2, none)]⟩
theorem cf_wkey : compFn Tryd.prog { own := [], comp := [], frz := [], nils := [] } Tryd.f25 = some sf_wkey := by kernel_rfl
theorem wkey_c (G : Glob) (seed : Int) : Den Tryd.prog G 25 [.int .i64 seed] (.w (.c (.d (.sl ((bytesK seed 32).map bD))))) := by
  refine den_walk Tryd.func25 cf_wkey rfl rfl ?_
  simp only [sf_wkey, putAll, wx, wy, wz, stV, seval, IntWalk.iteOmega, IntWalk.toNatUp, reduceCtorEq]
  refine st_call (wbytes_c G seed 32 (by decide)) rfl (.inl rfl) ?_
  simp only [wx, wy, wz, stV, seval, IntWalk.iteOmega, IntWalk.toNatUp, reduceCtorEq]
  exact ret_d1 (by simp only [wx, wy, wz, stV, seval, IntWalk.iteOmega, IntWalk.toNatUp, reduceCtorEq])
end Go.Proofs.YtjgkchmdhicmpaaDoor
set_option linter.unusedVariables false
set_option linter.unusedSimpArgs false
namespace Go.Proofs.YtjgkchmdhicmpaaDoor
open Go.RowKit

def keyK (key : List UInt8) : List UInt8 := if 64 < key.length then sumK key else key
/-- A list with zeros up to 64. -/
def fillK (k : List UInt8) : List UInt8 := k ++ List.replicate (64 - k.length) 0
def blkK (key : List UInt8) : List UInt8 := fillK (keyK key)
def mixK (key : List UInt8) (x : UInt8) : List UInt8 := (blkK key).map fun b => xorB b x
def macK (key b : List UInt8) : List UInt8 := sumK (mixK key 92 ++ sumK (mixK key 54 ++ b))
def partK (key info : List UInt8) : Nat → List UInt8
  | 0 => []
  | i + 1 => macK key (partK key info i ++ info ++ [UInt8.ofNat (i + 1)])
def allK (key info : List UInt8) : Nat → List UInt8
  | 0 => []
  | i + 1 => allK key info i ++ partK key info (i + 1)
def expK (key info : List UInt8) (n : Nat) : List UInt8 := (allK key info ((n + 31) / 32)).take n
def labK (p n c : List UInt8) : List UInt8 := p ++ [0] ++ n ++ [0] ++ sumK c
theorem keyK_len (key : List UInt8) : (keyK key).length ≤ 64 := by
  unfold keyK; split
  · rw [sumK_len]; decide
  · omega
theorem fillK_len {k : List UInt8} (h : k.length ≤ 64) : (fillK k).length = 64 := by
  simp [fillK]; omega
theorem blkK_len (key : List UInt8) : (blkK key).length = 64 := fillK_len (keyK_len key)
theorem mixK_len (key : List UInt8) (x : UInt8) : (mixK key x).length = 64 := by
  rw [mixK, List.length_map, blkK_len]
theorem macK_len (key b : List UInt8) : (macK key b).length = 32 := sumK_len _
theorem partK_len (key info : List UInt8) : ∀ i, (partK key info i).length ≤ 32
  | 0 => by simp [partK]
  | i + 1 => by rw [partK, macK_len]; exact Nat.le_refl _
theorem allK_len (key info : List UInt8) : ∀ i, (allK key info i).length = 32 * i
  | 0 => rfl
  | i + 1 => by rw [allK, List.length_append, allK_len key info i, partK, macK_len]; omega
theorem allK_take (key info : List UInt8) (i : Nat) : ∀ j m, m ≤ 32 * i → (allK key info (i + j)).take m = (allK key info i).take m
  | 0, _, _ => rfl
  | j + 1, m, h => by
    rw [← Nat.add_assoc, allK, List.take_append_of_le_length (by rw [allK_len]; omega), allK_take key info i j m h]
theorem expK_len (key info : List UInt8) (n : Nat) : (expK key info n).length = n := by
  rw [expK, List.length_take, allK_len]; omega
/-- Fewer bytes are the beginning of more of them. -/
theorem expK_take (key info : List UInt8) (n m : Nat) (h : m ≤ n) : (expK key info n).take m = expK key info m := by
  obtain ⟨j, hj⟩ : ∃ j, (n + 31) / 32 = (m + 31) / 32 + j := ⟨(n + 31) / 32 - (m + 31) / 32, by omega⟩
  unfold expK
  rw [List.take_take, Nat.min_eq_left h, hj, allK_take key info _ j m (by omega)]
/-- Zeros behind a shorter key do not matter. -/
theorem macK_zeros (key b : List UInt8) (k : Nat) (h : key.length + k ≤ 64) : macK (key ++ List.replicate k 0) b = macK key b := by
  have : blkK (key ++ List.replicate k 0) = blkK key := by
    unfold blkK keyK
    rw [if_neg (by simp; omega), if_neg (by omega)]
    unfold fillK
    rw [List.append_assoc, List.length_append, List.length_replicate, List.replicate_append_replicate]
    congr 2; omega
  unfold macK mixK
  rw [this]
theorem labK_len (p n c : List UInt8) : (labK p n c).length = p.length + n.length + 34 := by
  simp [labK, sumK_len]; omega
/-- Where a list without zeros ends, is seen. -/
theorem ends_eq {a c x y : List UInt8} (ha : ∀ z ∈ a, z ≠ 0) (hc : ∀ z ∈ c, z ≠ 0) (h : a ++ 0 :: x = c ++ 0 :: y) : a = c ∧ x = y := by
  induction a generalizing c with
  | nil =>
    cases c with
    | nil => simpa using h
    | cons z c =>
      simp only [List.nil_append, List.cons_append, List.cons.injEq] at h
      exact absurd h.1.symm (hc z (List.mem_cons_self ..))
  | cons w a ih =>
    cases c with
    | nil =>
      simp only [List.nil_append, List.cons_append, List.cons.injEq] at h
      exact absurd h.1 (ha w (List.mem_cons_self ..))
    | cons z c =>
      simp only [List.cons_append, List.cons.injEq] at h
      obtain ⟨h1, h2⟩ := h
      obtain ⟨h3, h4⟩ := ih (fun z hz => ha z (List.mem_cons_of_mem _ hz)) (fun z hz => hc z (List.mem_cons_of_mem _ hz)) h2
      exact ⟨by rw [h1, h3], h4⟩
theorem labK_eq {a b c d x : List UInt8} (ha : ∀ z ∈ a, z ≠ 0) (hb : ∀ z ∈ b, z ≠ 0) (hc : ∀ z ∈ c, z ≠ 0) (hd : ∀ z ∈ d, z ≠ 0) : (labK a b x == labK c d x) = (a == c && b == d) := by
  rw [Bool.eq_iff_iff]
  simp only [beq_iff_eq, Bool.and_eq_true]
  constructor
  · intro h
    simp only [labK, List.append_assoc, List.cons_append, List.nil_append] at h
    obtain ⟨h1, h2⟩ := ends_eq ha hc h
    exact ⟨h1, (ends_eq hb hd h2).1⟩
  · rintro ⟨rfl, rfl⟩; rfl
end Go.Proofs.YtjgkchmdhicmpaaDoor
set_option linter.unusedVariables false
set_option linter.unusedSimpArgs false
namespace Go.Proofs.YtjgkchmdhicmpaaDoor
open Go.RowKit

/-! ### The program: a key's block, and a block with a mask -/
theorem app_fill {k : List UInt8} (l : List D) (hl : l = List.replicate 64 (D.int .u8 0)) : k.map bD ++ l.drop k.length = (fillK k).map bD := by
  subst hl
  unfold fillK
  rw [List.drop_replicate, List.map_append, rep_b]
theorem len_fill {k : List UInt8} (hk : k.length ≤ 64) (l : List D) (hl : l = List.replicate 64 (D.int .u8 0)) : k.length + (l.drop k.length).length = 64 := by
  subst hl
  rw [List.drop_replicate, List.length_replicate]; omega
def sf_blkof : SFn := ⟨1, 13,
  .seq (.reg [⟨(some 2), .allocArr [(.int .u8 0), (.int .u8 0), (.int .u8 0), (.int .u8 0), (.int .u8 0), (.int .u8 0), (.int .u8 0), (.int .u8 0), (.int .u8 0), (.int .u8 0), (.int .u8 0), (.int .u8 0), (.int .u8 0), (.int .u8 0), (.int .u8 0), (.int .u8 0), (.int .u8 0), (.int .u8 0), (.int .u8 0), (.int .u8 0), (.int .u8 0), (.int .u8 0), (.int .u8 0), (.int .u8 0), (.int .u8 0), (.int .u8 0), (.int .u8 0), (.int .u8 0), (.int .u8 0), (.int .u8 0), (.int .u8 0), (.int .u8 0), (.int .u8 0), (.int .u8 0), (.int .u8 0), (.int .u8 0), (.int .u8 0), (.int .u8 0), (.int .u8 0), (.int .u8 0), (.int .u8 0), (.int .u8 0), (.int .u8 0), (.int .u8 0), (.int .u8 0), (.int .u8 0), (.int .u8 0), (.int .u8 0), (.int .u8 0), (.int .u8 0), (.int .u8 0), (.int .u8 0), (.int .u8 0), (.int .u8 0), (.int .u8 0), (.int .u8 0), (.int .u8 0), (.int .u8 0), (.int .u8 0), (.int .u8 0), (.int .u8 0), (.int .u8 0), (.int .u8 0), (.int .u8 0)], none⟩])
  (.seq (.seq (.reg [⟨(some 4), .mv (.t 0), none⟩,
    ⟨(some 5), .len (.t 4), none⟩,
    ⟨(some 6), .bin .gtr (.t 5) (.k (.c (.d (.int .i64 64)))), none⟩])
  (.cond (.t 6) (.reg [⟨(some 7), .mv (.t 0), none⟩,
     ⟨(some 8), .call 42 [(.t 7)] none, none⟩,
     ⟨(some 0), .mv (.t 8), none⟩])
   (.skip)))
  (.seq (.reg [⟨(some 3), .allocArr [(.int .u8 0), (.int .u8 0), (.int .u8 0), (.int .u8 0), (.int .u8 0), (.int .u8 0), (.int .u8 0), (.int .u8 0), (.int .u8 0), (.int .u8 0), (.int .u8 0), (.int .u8 0), (.int .u8 0), (.int .u8 0), (.int .u8 0), (.int .u8 0), (.int .u8 0), (.int .u8 0), (.int .u8 0), (.int .u8 0), (.int .u8 0), (.int .u8 0), (.int .u8 0), (.int .u8 0), (.int .u8 0), (.int .u8 0), (.int .u8 0), (.int .u8 0), (.int .u8 0), (.int .u8 0), (.int .u8 0), (.int .u8 0), (.int .u8 0), (.int .u8 0), (.int .u8 0), (.int .u8 0), (.int .u8 0), (.int .u8 0), (.int .u8 0), (.int .u8 0), (.int .u8 0), (.int .u8 0), (.int .u8 0), (.int .u8 0), (.int .u8 0), (.int .u8 0), (.int .u8 0), (.int .u8 0), (.int .u8 0), (.int .u8 0), (.int .u8 0), (.int .u8 0), (.int .u8 0), (.int .u8 0), (.int .u8 0), (.int .u8 0), (.int .u8 0), (.int .u8 0), (.int .u8 0), (.int .u8 0), (.int .u8 0), (.int .u8 0), (.int .u8 0), (.int .u8 0)], none⟩])
  (.seq (.reg [⟨(some 9), .sliceArr 1 64 (.t 3) none none, none⟩,
    ⟨(some 10), .mv (.t 0), none⟩,
    ⟨(some 11), .copy 1 (.t 9) (.t 10), none⟩])
  (.seq (.reg [⟨(some 12), .load (.ag 64) (.t 3), none⟩,
    ⟨none, .store (.ag 64) (.t 2) (.t 12), none⟩])
  (.ret))))),
  [(2, (some (.ag 64)))]⟩
theorem cf_blkof : compFn Tryd.prog { own := [], comp := [], frz := [], nils := [] } Tryd.f76 = some sf_blkof := by kernel_rfl
set_option maxHeartbeats 1600000 in
theorem blkof_c (G : Glob) (hF : G.at 0 = some (.ra (firstK.map wD))) (hG : G.at 1 = some (.ra (constK.map wD))) (key : List UInt8) (hb : key.length ≤ 140737488355328) : Den Tryd.prog G 76 [.sl (key.map bD)] (.w (.c (.d (.agg ((blkK key).map bD))))) := by
  refine den_walk Tryd.func76 cf_blkof rfl rfl ?_
  by_cases h : 64 < key.length
  · have e : blkK key = fillK (sumK key) := by unfold blkK keyK; rw [if_pos h]
    have hl := sumK_len key
    rw [e]
    simp only [sf_blkof, putAll, wx, wy, wz, stV, seval, IntWalk.iteOmega, IntWalk.toNatUp, reduceCtorEq]
    refine st_call (sum_c G hF hG key hb) rfl (.inl rfl) ?_
    simp only [wx, wy, wz, stV, seval, IntWalk.iteOmega, IntWalk.toNatUp, reduceCtorEq]
    generalize sumK key = s at *
    have z := app_fill (k := s)
    have z2 := len_fill (k := s) (by omega)
    have ht : s.take 64 = s := List.take_of_length_le (by omega)
    have hf : (fillK s).length = 64 := fillK_len (by omega)
    simp only [wx, wy, wz, stV, seval, IntWalk.iteOmega, IntWalk.toNatUp, reduceCtorEq, ht, z, z2, hf]
    exact ret_d1 (by simp only [wx, wy, wz, stV, seval, IntWalk.iteOmega, IntWalk.toNatUp, reduceCtorEq, hf])
  · have e : blkK key = fillK key := by unfold blkK keyK; rw [if_neg h]
    rw [e]
    have z := app_fill (k := key)
    have z2 := len_fill (k := key) (by omega)
    have ht : key.take 64 = key := List.take_of_length_le (by omega)
    have hf : (fillK key).length = 64 := fillK_len (by omega)
    simp only [sf_blkof, putAll, wx, wy, wz, stV, seval, IntWalk.iteOmega, IntWalk.toNatUp, reduceCtorEq, ht, z, z2, hf]
    exact ret_d1 (by simp only [wx, wy, wz, stV, seval, IntWalk.iteOmega, IntWalk.toNatUp, reduceCtorEq, hf])

def maskL (l : List UInt8) (m : UInt8) (i : Nat) : List UInt8 := (l.take i).map (fun b => xorB b m) ++ l.drop i
theorem maskL_len (l : List UInt8) (m : UInt8) (i : Nat) : (maskL l m i).length = l.length := by
  unfold maskL; rw [List.length_append, List.length_map, ← List.length_append, List.take_append_drop]
theorem maskL_get (l : List UInt8) (m : UInt8) (i : Nat) (h : i < l.length) : (maskL l m i)[i]? = some l[i] := by
  unfold maskL
  rw [List.getElem?_append_right (by rw [List.length_map, List.length_take]; omega), List.getElem?_drop, List.length_map, List.length_take]
  rw [show i + (i - min i l.length) = i by omega, List.getElem?_eq_getElem h]
theorem maskL_step (l : List UInt8) (m : UInt8) (i : Nat) (h : i < l.length) : (maskL l m i).set i (xorB l[i] m) = maskL l m (i + 1) := by
  unfold maskL
  rw [List.set_append_right _ _ (by rw [List.length_map, List.length_take]; omega), List.length_map, List.length_take, show i - min i l.length = 0 by omega, List.drop_eq_getElem_cons h, List.set_cons_zero, List.take_succ_eq_append_getElem h, List.map_append, List.append_assoc]
  rfl
theorem maskL_zero (l : List UInt8) (m : UInt8) : maskL l m 0 = l := by simp [maskL]
theorem maskL_full (l : List UInt8) (m : UInt8) (i : Nat) (h : l.length ≤ i) : maskL l m i = l.map fun b => xorB b m := by
  unfold maskL
  rw [List.take_of_length_le h, List.drop_eq_nil_of_le h, List.append_nil]
def maskSt (l : List UInt8) (m : UInt8) (i : Nat) : St := ⟨ofL [(1, .w (.c (.d (bD m)))), (2, .w (.c (.pa 1 1))), (6, .w (.c (.d (.int .i64 (i : Int)))))], hL [(1, .row 1 ((maskL l m i).map bD))], uL [1]⟩
def lp_masked_0 : SCode :=
  .seq (.reg [⟨(some 7), .bin .lss (.t 6) (.k (.c (.d (.int .i64 64)))), none⟩])
  (.seq (.cond (.t 7) (.skip)
   (.exit 0))
  (.seq (.block 1 (.seq (.reg [⟨(some 8), .mv (.t 6), none⟩,
     ⟨(some 5), .mv (.t 8), none⟩])
   (.reg [⟨(some 9), .mv (.t 5), none⟩,
     ⟨(some 10), .idxPa 1 64 (.t 2) (.t 9), none⟩,
     ⟨(some 11), .load .sc (.t 10), none⟩,
     ⟨(some 12), .mv (.t 1), none⟩,
     ⟨(some 13), .bin .xor (.t 11) (.t 12), none⟩,
     ⟨(some 14), .idxPa 1 64 (.t 2) (.t 9), none⟩,
     ⟨none, .store .sc (.t 14) (.t 13), none⟩])))
  (.reg [⟨(some 15), .bin .add (.t 6) (.k (.c (.d (.int .i64 1)))), none⟩,
    ⟨(some 6), .mv (.t 15), none⟩])))
def sf_masked : SFn := ⟨2, 17,
  .seq (.reg [⟨(some 2), .box .ownArr (.t 0), none⟩,
    ⟨(some 4), .mv (.k (.c .nil)), none⟩])
  (.seq (.seq (.reg [⟨(some 6), .mv (.k (.c (.d (.int .i64 0)))), none⟩])
  (.block 0 (.loop lp_masked_0)))
  (.seq (.reg [⟨(some 16), .sliceArr 1 64 (.t 2) none none, none⟩,
    ⟨(some 4), .mv (.t 16), none⟩])
  (.ret))),
  [(4, none)]⟩
theorem cf_masked : compFn Tryd.prog { own := [2], comp := [], frz := [], nils := [] } Tryd.f77 = some sf_masked := by kernel_rfl
set_option maxHeartbeats 1600000 in
theorem masked_c (G : Glob) (l : List UInt8) (hl : l.length = 64) (m : UInt8) : Den Tryd.prog G 77 [.agg (l.map bD), bD m] (.w (.c (.fr 1 ((l.map fun b => xorB b m).map bD)))) := by
  refine den_walk Tryd.func77 cf_masked rfl rfl ?_
  simp only [sf_masked, putAll, wx, wy, wz, stV, seval, IntWalk.iteOmega, IntWalk.toNatUp, reduceCtorEq]
  refine loop_st (maskSt l m) (fun i => 64 - i) (fun i => i ≤ 64) 0 (Nat.zero_le _) ?_ ?_
  · refine ent_l (fun _ => 16) ?_ ?_ rfl rfl <;> simp only [wx, wex, wez, stV, seval, IntWalk.iteOmega, IntWalk.toNatUp, reduceCtorEq, maskL_zero]
  · intro i hi
    have hm := maskL_len l m i
    by_cases hlt : i < 64
    · have h1 := maskL_get l m i (by omega)
      have h2 := maskL_step l m i (by omega)
      have h3 : i < (maskL l m i).length := by omega
      simp only [lp_masked_0, maskSt, wx, wy, wz, stV, seval, IntWalk.iteOmega, IntWalk.toNatUp, reduceCtorEq, get_map, h1, binV_xorB, stO_bs h3 (one_b _), set_bs, h2]
      refine lop_next (i + 1) (by omega) (by omega) (ent_l (fun _ => 1) ?_ ?_ rfl rfl) <;> simp only [wx, wex, wez, stV, seval, IntWalk.iteOmega, IntWalk.toNatUp, reduceCtorEq]
    · obtain rfl : i = 64 := by omega
      have h1 := maskL_full l m 64 (by omega)
      simp only [lp_masked_0, maskSt, wx, wy, wz, stV, seval, IntWalk.iteOmega, IntWalk.toNatUp, reduceCtorEq, h1, hl]
      exact ret_own (id := 1) (n := 64) (s := 1) (by simp only [wx, stV, seval, IntWalk.iteOmega, IntWalk.toNatUp, reduceCtorEq]) (by simp only [wx, stV, seval, IntWalk.iteOmega, IntWalk.toNatUp, reduceCtorEq]) (by simp [hl])
def sf_mac : SFn := ⟨2, 21,
  .seq (.reg [⟨(some 4), .mv (.k (.c .nil)), none⟩])
  (.seq (.reg [⟨(some 7), .mv (.t 0), none⟩,
    ⟨(some 8), .call 76 [(.t 7)] none, none⟩,
    ⟨(some 5), .allocArr [(.int .u8 0), (.int .u8 0), (.int .u8 0), (.int .u8 0), (.int .u8 0), (.int .u8 0), (.int .u8 0), (.int .u8 0), (.int .u8 0), (.int .u8 0), (.int .u8 0), (.int .u8 0), (.int .u8 0), (.int .u8 0), (.int .u8 0), (.int .u8 0), (.int .u8 0), (.int .u8 0), (.int .u8 0), (.int .u8 0), (.int .u8 0), (.int .u8 0), (.int .u8 0), (.int .u8 0), (.int .u8 0), (.int .u8 0), (.int .u8 0), (.int .u8 0), (.int .u8 0), (.int .u8 0), (.int .u8 0), (.int .u8 0), (.int .u8 0), (.int .u8 0), (.int .u8 0), (.int .u8 0), (.int .u8 0), (.int .u8 0), (.int .u8 0), (.int .u8 0), (.int .u8 0), (.int .u8 0), (.int .u8 0), (.int .u8 0), (.int .u8 0), (.int .u8 0), (.int .u8 0), (.int .u8 0), (.int .u8 0), (.int .u8 0), (.int .u8 0), (.int .u8 0), (.int .u8 0), (.int .u8 0), (.int .u8 0), (.int .u8 0), (.int .u8 0), (.int .u8 0), (.int .u8 0), (.int .u8 0), (.int .u8 0), (.int .u8 0), (.int .u8 0), (.int .u8 0)], none⟩,
    ⟨none, .store (.ag 64) (.t 5) (.t 8), none⟩])
  (.seq (.reg [⟨(some 9), .load (.ag 64) (.t 5), none⟩,
    ⟨(some 10), .call 77 [(.t 9), (.k (.c (.d (.int .u8 54))))] none, none⟩,
    ⟨(some 11), .mv (.t 1), none⟩,
    ⟨(some 12), .bldSl false 2 1 (.sl []) [(0, (.t 10)), (1, (.t 11))], none⟩,
    ⟨(some 13), .call 43 [(.t 12)] none, none⟩,
    ⟨(some 14), .call 42 [(.t 13)] none, none⟩,
    ⟨(some 6), .mv (.t 14), none⟩])
  (.seq (.reg [⟨(some 15), .load (.ag 64) (.t 5), none⟩,
    ⟨(some 16), .call 77 [(.t 15), (.k (.c (.d (.int .u8 92))))] none, none⟩,
    ⟨(some 17), .mv (.t 6), none⟩,
    ⟨(some 18), .bldSl false 2 1 (.sl []) [(0, (.t 16)), (1, (.t 17))], none⟩,
    ⟨(some 19), .call 43 [(.t 18)] none, none⟩,
    ⟨(some 20), .call 42 [(.t 19)] (some (0, 1)), none⟩,
    ⟨(some 4), .mv (.t 20), none⟩])
  (.ret)))),
  [(4, none)]⟩
theorem cf_mac : compFn Tryd.prog { own := [20], comp := [], frz := [], nils := [] } Tryd.f40 = some sf_mac := by kernel_rfl
set_option maxHeartbeats 1600000 in
theorem mac_c (G : Glob) (hF : G.at 0 = some (.ra (firstK.map wD))) (hG : G.at 1 = some (.ra (constK.map wD))) (key b : List UInt8) (hk : key.length ≤ 140737488355328) (hb : b.length ≤ 70368744177664) : Den Tryd.prog G 40 [.sl (key.map bD), .sl (b.map bD)] (.w (.c (.fr 1 ((macK key b).map bD)))) := by
  refine den_walk Tryd.func40 cf_mac rfl rfl ?_
  have h1 := join_c G [mixK key 54, b] (by simp) (by simp [mixK_len]; omega)
  have h2 := join_c G [mixK key 92, sumK (mixK key 54 ++ b)] (by simp) (by simp [mixK_len, sumK_len])
  have f1 : [mixK key 54, b].flatten = mixK key 54 ++ b := by simp
  have f2 : [mixK key 92, sumK (mixK key 54 ++ b)].flatten = mixK key 92 ++ sumK (mixK key 54 ++ b) := by simp
  rw [f1] at h1
  rw [f2] at h2
  have hl := blkK_len key
  have hm1 : (mixK key 54 ++ b).length ≤ 140737488355328 := by rw [List.length_append, mixK_len]; omega
  have hm2 : (mixK key 92 ++ sumK (mixK key 54 ++ b)).length ≤ 140737488355328 := by rw [List.length_append, mixK_len, sumK_len]; decide
  have hs := sumK_len (mixK key 92 ++ sumK (mixK key 54 ++ b))
  have hmac : macK key b = sumK (mixK key 92 ++ sumK (mixK key 54 ++ b)) := rfl
  rw [hmac]
  simp only [sf_mac, putAll, wx, wy, wz, stV, seval, IntWalk.iteOmega, IntWalk.toNatUp, reduceCtorEq]
  refine st_call (blkof_c G hF hG key hk) rfl (.inl rfl) ?_
  simp only [wx, wy, wz, stV, seval, IntWalk.iteOmega, IntWalk.toNatUp, reduceCtorEq]
  refine st_call (masked_c G (blkK key) hl 54) rfl (.inl rfl) ?_
  simp only [wx, wy, wz, stV, seval, IntWalk.iteOmega, IntWalk.toNatUp, reduceCtorEq]
  refine st_call (h1) rfl (.inl rfl) ?_
  simp only [wx, wy, wz, stV, seval, IntWalk.iteOmega, IntWalk.toNatUp, reduceCtorEq]
  refine st_call (sum_c G hF hG _ hm1) rfl (.inl rfl) ?_
  simp only [wx, wy, wz, stV, seval, IntWalk.iteOmega, IntWalk.toNatUp, reduceCtorEq]
  refine st_call (masked_c G (blkK key) hl 92) rfl (.inl rfl) ?_
  simp only [wx, wy, wz, stV, seval, IntWalk.iteOmega, IntWalk.toNatUp, reduceCtorEq]
  refine st_call (h2) rfl (.inl rfl) ?_
  simp only [wx, wy, wz, stV, seval, IntWalk.iteOmega, IntWalk.toNatUp, reduceCtorEq]
  refine st_call (sum_c G hF hG _ hm2) rfl (.inl rfl) ?_
  simp only [wx, wy, wz, stV, seval, IntWalk.iteOmega, IntWalk.toNatUp, reduceCtorEq]
  exact ret_f1 (by simp only [wx, wy, wz, stV, seval, IntWalk.iteOmega, IntWalk.toNatUp, reduceCtorEq])

/-! ### The reference -/
def mixS (k : List UInt8) (x : UInt8) (i : Nat) : List UInt8 := ((fillK k).take i).map (fun b => xorB b x) ++ List.replicate (64 - i) 0
theorem mixS_len {k : List UInt8} (hk : k.length ≤ 64) (x : UInt8) (i : Nat) (hi : i ≤ 64) : (mixS k x i).length = 64 := by
  unfold mixS
  rw [List.length_append, List.length_map, List.length_take, fillK_len hk, List.length_replicate]; omega
theorem mixS_get {k : List UInt8} (hk : k.length ≤ 64) (x : UInt8) (i : Nat) (hi : i < 64) : (mixS k x i)[i]? = some 0 := by
  unfold mixS
  rw [List.getElem?_append_right (by rw [List.length_map, List.length_take]; omega), List.length_map, List.length_take, fillK_len hk, List.getElem?_replicate, if_pos (by omega)]
theorem mixS_step {k : List UInt8} (hk : k.length ≤ 64) (x a : UInt8) (i : Nat) (hi : i < 64) (ha : (fillK k)[i]? = some a) : (mixS k x i).set i (xorB a x) = mixS k x (i + 1) := by
  have h := set_next (((fillK k).take i).map (fun b => xorB b x)) 0 (xorB a x) (64 - i) (by omega)
  have hl : (((fillK k).take i).map (fun b => xorB b x)).length = i := by rw [List.length_map, List.length_take, fillK_len hk]; omega
  rw [hl] at h
  unfold mixS
  rw [h, List.take_add_one, ha, List.map_append]
  rfl
theorem fill_lo (k : List UInt8) (i : Nat) (h : i < k.length) : (fillK k)[i]? = some k[i] := by
  unfold fillK
  rw [List.getElem?_append_left h, List.getElem?_eq_getElem h]
theorem fill_hi (k : List UInt8) (i : Nat) (h : k.length ≤ i) (h2 : i < 64) : (fillK k)[i]? = some 0 := by
  unfold fillK
  rw [List.getElem?_append_right h, List.getElem?_replicate, if_pos (by omega)]
theorem mixS_zero (k : List UInt8) (x : UInt8) : mixS k x 0 = List.replicate 64 0 := by simp [mixS]
theorem mixS_full {k : List UInt8} (hk : k.length ≤ 64) (x : UInt8) : mixS k x 64 = (fillK k).map fun b => xorB b x := by
  unfold mixS
  rw [List.take_of_length_le (by rw [fillK_len hk]; exact Nat.le_refl _), Nat.sub_self, List.replicate_zero, List.append_nil]
def mixSt (k : List UInt8) (x : UInt8) (i : Nat) : St := ⟨ofL [(0, .w (.c (.d (.sl (k.map bD))))), (1, .w (.c (.d (bD x)))), (5, .w (.c (.own 1 1 0 64))), (6, .w (.c (.d (.int .i64 (i : Int)))))], hL [(1, .row 1 ((mixS k x i).map bD))], uL [1]⟩
end Go.Proofs.YtjgkchmdhicmpaaDoor
set_option linter.unusedVariables false
set_option linter.unusedSimpArgs false
namespace Go.Proofs.YtjgkchmdhicmpaaDoor
open Go.RowKit


/-! ### Expand -/
/-- What Expand returns, with the error's number. -/
def expE (n : Int) : Int := if 0 ≤ n ∧ n ≤ 8160 then 0 else 4
def expL (key info : List UInt8) (n : Int) : List UInt8 := if 0 ≤ n ∧ n ≤ 8160 then expK key info n.toNat else []
theorem expE_in {n : Int} (h : 0 ≤ n ∧ n ≤ 8160) : expE n = 0 := if_pos h
theorem expL_in (key info : List UInt8) {n : Int} (h : 0 ≤ n ∧ n ≤ 8160) : expL key info n = expK key info n.toNat := if_pos h
theorem expE_out {n : Int} (h : ¬ (0 ≤ n ∧ n ≤ 8160)) : expE n = 4 := if_neg h
theorem expL_out (key info : List UInt8) {n : Int} (h : ¬ (0 ≤ n ∧ n ≤ 8160)) : expL key info n = [] := if_neg h
/-- The program's list behind i parts: never more than n bytes. -/
def cutA (key info : List UInt8) (n i : Nat) : List UInt8 := (allK key info i).take n
theorem cutA_len (key info : List UInt8) (n i : Nat) : (cutA key info n i).length = min n (32 * i) := by
  unfold cutA; rw [List.length_take, allK_len]
theorem cutA_step (key info : List UInt8) (n i : Nat) (h : 32 * i ≤ n) : cutA key info n i ++ (partK key info (i + 1)).take (n - 32 * i) = cutA key info n (i + 1) := by
  unfold cutA
  rw [allK, List.take_append, allK_len]
theorem part_next (key info : List UInt8) (i : Nat) : macK key (partK key info i ++ info ++ [UInt8.ofNat (i + 1)]) = partK key info (i + 1) := rfl
theorem put1 (v : Nat) : putL v 1 = [UInt8.ofNat v] := by simp [putL]
def partV (key info : List UInt8) : Nat → V
  | 0 => .w (.c .nil)
  | i + 1 => .w (.c (.d (.sl ((partK key info (i + 1)).map bD))))
theorem min_two (a b : Nat) : List.foldl (fun x y : Int => if y < x then y else x) (a : Int) [(b : Int)] = ((min a b : Nat) : Int) := by
  simp only [List.foldl_cons, List.foldl_nil]
  split <;> omega
def expSt (key info : List UInt8) (n i : Nat) : St := ⟨ofL [(0, .w (.c (.d (.sl (key.map bD))))), (1, .w (.c (.d (.sl (info.map bD))))), (2, .w (.c (.d (.int .i64 (n : Int))))), (8, .w (.c (.own 1 1 0 (cutA key info n i).length))), (9, partV key info i), (10, .w (.c (.d (.int .u64 ((i + 1 : Nat) : Int)))))], hL [(1, .row 1 ((cutA key info n i).map bD))], uL [1]⟩
def lp_exp_0 : SCode :=
  .seq (.seq (.reg [⟨(some 19), .mv (.t 8), none⟩,
    ⟨(some 20), .len (.t 19), none⟩,
    ⟨(some 21), .mv (.t 2), none⟩,
    ⟨(some 22), .bin .lss (.t 20) (.t 21), none⟩])
  (.cond (.t 22) (.skip)
   (.exit 0)))
  (.seq (.block 1 (.seq (.reg [⟨(some 25), .mv (.t 0), none⟩,
     ⟨(some 26), .mv (.t 9), none⟩,
     ⟨(some 27), .mv (.t 1), none⟩,
     ⟨(some 28), .mv (.t 10), none⟩,
     ⟨(some 29), .call 75 [(.t 28), (.k (.c (.d (.int .i64 1))))] none, none⟩,
     ⟨(some 30), .bldSl false 3 1 (.sl []) [(0, (.t 26)), (1, (.t 27)), (2, (.t 29))], none⟩,
     ⟨(some 31), .call 43 [(.t 30)] none, none⟩,
     ⟨(some 32), .call 40 [(.t 25), (.t 31)] none, none⟩,
     ⟨(some 9), .mv (.t 32), none⟩])
   (.reg [⟨(some 33), .mv (.t 8), none⟩,
     ⟨(some 34), .mv (.t 9), none⟩,
     ⟨(some 35), .mv (.t 9), none⟩,
     ⟨(some 36), .len (.t 35), none⟩,
     ⟨(some 37), .mv (.t 2), none⟩,
     ⟨(some 38), .mv (.t 8), none⟩,
     ⟨(some 39), .len (.t 38), none⟩,
     ⟨(some 40), .bin .sub (.t 37) (.t 39), none⟩,
     ⟨(some 41), .min [(.t 36), (.t 40)], none⟩,
     ⟨(some 42), .slice 1 (.t 34) none (some (.t 41)) none, none⟩,
     ⟨(some 43), .app false 1 1 (.t 33) (.t 42), none⟩,
     ⟨(some 8), .mv (.t 43), none⟩])))
  (.reg [⟨(some 23), .mv (.t 10), none⟩,
    ⟨(some 24), .bin .add (.t 23) (.k (.c (.d (.int .u64 1)))), none⟩,
    ⟨(some 10), .mv (.t 24), none⟩]))
def sf_exp : SFn := ⟨3, 45,
  .seq (.reg [⟨(some 6), .mv (.k (.c .nil)), none⟩,
    ⟨(some 7), .mv (.k (.c (.d (.int .i64 0)))), none⟩])
  (.seq (.seq (.reg [⟨(some 11), .mv (.t 2), none⟩,
    ⟨(some 12), .bin .lss (.t 11) (.k (.c (.d (.int .i64 0)))), none⟩,
    ⟨(some 13), .mv (.t 12), none⟩,
    ⟨(some 14), .mv (.t 2), (some (13, false))⟩,
    ⟨(some 15), .bin .gtr (.t 14) (.k (.c (.d (.int .i64 8160)))), (some (13, false))⟩,
    ⟨(some 16), .pick (.t 13) (.k (.c (.d (.bool true)))) (.t 15), none⟩])
  (.cond (.t 16) (.seq (.reg [⟨(some 6), .mv (.k (.c .nil)), none⟩,
     ⟨(some 7), .mv (.k (.c (.d (.int .i64 4)))), none⟩])
   (.ret))
   (.skip)))
  (.seq (.reg [⟨(some 17), .mv (.t 2), none⟩,
    ⟨(some 18), .make 1 1 (.int .u8 0) (.k (.c (.d (.int .i64 0)))) (.t 17), none⟩,
    ⟨(some 8), .mv (.t 18), none⟩])
  (.seq (.reg [⟨(some 9), .mv (.k (.c .nil)), none⟩])
  (.seq (.seq (.reg [⟨(some 10), .mv (.k (.c (.d (.int .u64 1)))), none⟩])
  (.block 0 (.loop lp_exp_0)))
  (.seq (.reg [⟨(some 44), .mv (.t 8), none⟩,
    ⟨(some 6), .mv (.t 44), none⟩,
    ⟨(some 7), .mv (.k (.c (.d (.int .i64 0)))), none⟩])
  (.ret)))))),
  [(6, none), (7, none)]⟩
theorem cf_exp : compFn Tryd.prog { own := [], comp := [], frz := [], nils := [] } Tryd.f39 = some sf_exp := by kernel_rfl
set_option maxHeartbeats 1600000 in
theorem exp_c (G : Glob) (hF : G.at 0 = some (.ra (firstK.map wD))) (hG : G.at 1 = some (.ra (constK.map wD))) (key info : List UInt8) (hk : key.length ≤ 140737488355328) (hb : info.length ≤ 35184372088832) (n : Int) (hn1 : -9223372036854775808 ≤ n) (hn2 : n ≤ 9223372036854775807) : Den Tryd.prog G 39 [.sl (key.map bD), .sl (info.map bD), .int .i64 n] (.tup [.c (.d (.sl ((expL key info n).map bD))), .c (.d (.int .i64 (expE n)))]) := by
  refine den_walk Tryd.func39 cf_exp rfl rfl ?_
  by_cases h0 : n < 0
  · have hc : ¬ (0 ≤ n ∧ n ≤ 8160) := by omega
    rw [expE_out hc, expL_out key info hc]
    simp only [sf_exp, putAll, wx, wy, wz, stV, seval, IntWalk.iteOmega, IntWalk.toNatUp, reduceCtorEq]
    exact ret_d2 (by simp only [wx, wy, wz, stV, seval, IntWalk.iteOmega, IntWalk.toNatUp, reduceCtorEq]) (by simp only [wx, wy, wz, stV, seval, IntWalk.iteOmega, IntWalk.toNatUp, reduceCtorEq])
  · by_cases h1 : 8160 < n
    · have hc : ¬ (0 ≤ n ∧ n ≤ 8160) := by omega
      rw [expE_out hc, expL_out key info hc]
      simp only [sf_exp, putAll, wx, wy, wz, stV, seval, IntWalk.iteOmega, IntWalk.toNatUp, reduceCtorEq]
      exact ret_d2 (by simp only [wx, wy, wz, stV, seval, IntWalk.iteOmega, IntWalk.toNatUp, reduceCtorEq]) (by simp only [wx, wy, wz, stV, seval, IntWalk.iteOmega, IntWalk.toNatUp, reduceCtorEq])
    · have hc : 0 ≤ n ∧ n ≤ 8160 := by omega
      rw [expE_in hc, expL_in key info hc]
      obtain ⟨m, rfl⟩ := Int.eq_ofNat_of_zero_le hc.1
      rw [Int.toNat_natCast]
      simp only [sf_exp, putAll, wx, wy, wz, stV, seval, IntWalk.iteOmega, IntWalk.toNatUp, reduceCtorEq]
      refine loop_st (expSt key info m) (fun i => (m + 31) / 32 - i) (fun i => i ≤ (m + 31) / 32) 0 (Nat.zero_le _) ?_ ?_
      · refine ent_l (fun _ => 144) ?_ ?_ rfl rfl <;> simp only [wx, wex, wez, stV, seval, IntWalk.iteOmega, IntWalk.toNatUp, reduceCtorEq, cutA, allK, partV]
      · intro i hi
        have hl := cutA_len key info m i
        have hp := partK_len key info i
        by_cases hlt : i < (m + 31) / 32
        · have h32 : 32 * i ≤ m := by omega
          have hl : (cutA key info m i).length = 32 * i := by omega
          have hj := join_c G [partK key info i, info, putL (i + 1) 1] (by simp) (by simp [putL_length]; omega)
          have hf : [partK key info i, info, putL (i + 1) 1].flatten = partK key info i ++ info ++ [UInt8.ofNat (i + 1)] := by simp [put1]
          rw [hf] at hj
          have hm := mac_c G hF hG key (partK key info i ++ info ++ [UInt8.ofNat (i + 1)]) hk (by simp; omega)
          rw [part_next] at hm
          have hl2 : (partK key info (i + 1)).length = 32 := macK_len _ _
          have hs := cutA_step key info m i h32
          have hs2 := cutA_len key info m (i + 1)
          have hmin := min_two 32 (m - 32 * i)
          rw [show ((m - 32 * i : Nat) : Int) = (m : Int) - 32 * (i : Int) by omega] at hmin
          have hs' : cutA key info m i ++ (partK key info (i + 1)).take (min 32 (m - 32 * i)) = cutA key info m (i + 1) := by
            rw [← hs]; congr 1
            rw [Nat.min_comm, ← List.take_take, List.take_of_length_le (l := partK key info (i + 1)) (by omega)]
          have hlt2 : ((cutA key info m i).length : Int) < (m : Int) := by omega
          have hmm : min 32 (m - 32 * i) ≤ 32 := by omega
          have hml : ((partK key info (i + 1)).take (min 32 (m - 32 * i))).length = min 32 (m - 32 * i) := by rw [List.length_take, hl2]; omega
          have hcl : (cutA key info m (i + 1)).length = 32 * i + min 32 (m - 32 * i) := by omega
          generalize hq : min 32 (m - 32 * i) = q at *
          rcases i with _ | i
          · simp only [Int.cast_ofNat_Int, Int.natCast_add, Int.natCast_one, Int.natCast_zero, Int.mul_zero, Int.sub_zero, Nat.mul_zero, Nat.zero_add] at hmin hl hl2 hs' hml hcl
            simp only [lp_exp_0, expSt, partV, wx, wy, wz, stV, seval, IntWalk.iteOmega, IntWalk.toNatUp, reduceCtorEq]
            refine st_call (put_in G (0 + 1) 1 (by decide)) rfl (.inl rfl) ?_
            simp only [wx, wy, wz, stV, seval, IntWalk.iteOmega, IntWalk.toNatUp, reduceCtorEq]
            refine st_call (hj) rfl (.inl rfl) ?_
            simp only [wx, wy, wz, stV, seval, IntWalk.iteOmega, IntWalk.toNatUp, reduceCtorEq]
            refine st_call (hm) rfl (.inl rfl) ?_
            simp only [wx, wy, wz, stV, seval, IntWalk.iteOmega, IntWalk.toNatUp, reduceCtorEq]
            simp only [wx, wy, wz, stV, seval, IntWalk.iteOmega, IntWalk.toNatUp, reduceCtorEq, hl2, hl, hmin, hml, hs', srcV, Int.sub_zero]
            refine lop_next (0 + 1) (by omega) (by omega) (ent_l (fun _ => 344) ?_ ?_ rfl rfl) <;> simp only [wx, wex, wez, stV, seval, IntWalk.iteOmega, IntWalk.toNatUp, reduceCtorEq, partV, hcl]
          · simp only [Int.cast_ofNat_Int, Int.natCast_add, Int.natCast_one, Int.natCast_zero] at hmin
            simp only [lp_exp_0, expSt, partV, wx, wy, wz, stV, seval, IntWalk.iteOmega, IntWalk.toNatUp, reduceCtorEq]
            refine st_call (put_in G (i + 1 + 1) 1 (by decide)) rfl (.inl rfl) ?_
            simp only [wx, wy, wz, stV, seval, IntWalk.iteOmega, IntWalk.toNatUp, reduceCtorEq]
            refine st_call (hj) rfl (.inl rfl) ?_
            simp only [wx, wy, wz, stV, seval, IntWalk.iteOmega, IntWalk.toNatUp, reduceCtorEq]
            refine st_call (hm) rfl (.inl rfl) ?_
            simp only [wx, wy, wz, stV, seval, IntWalk.iteOmega, IntWalk.toNatUp, reduceCtorEq]
            simp only [wx, wy, wz, stV, seval, IntWalk.iteOmega, IntWalk.toNatUp, reduceCtorEq, hl2, hl, hmin, hml, hs', srcV]
            refine lop_next (i + 1 + 1) (by omega) (by omega) (ent_l (fun _ => 344) ?_ ?_ rfl rfl) <;> simp only [wx, wex, wez, stV, seval, IntWalk.iteOmega, IntWalk.toNatUp, reduceCtorEq, partV, hcl]
        · obtain rfl : i = (m + 31) / 32 := by omega
          have hlt2 : ¬ ((cutA key info m ((m + 31) / 32)).length : Int) < (m : Int) := by omega
          have he : cutA key info m ((m + 31) / 32) = expK key info m := rfl
          rw [he] at hlt2
          simp only [lp_exp_0, expSt, wx, wy, wz, stV, seval, IntWalk.iteOmega, IntWalk.toNatUp, reduceCtorEq, he]
          exact ret_d2 (by simp only [wx, wy, wz, stV, seval, IntWalk.iteOmega, IntWalk.toNatUp, reduceCtorEq]) (by simp only [wx, wy, wz, stV, seval, IntWalk.iteOmega, IntWalk.toNatUp, reduceCtorEq])
def rexpSt (key info : List UInt8) (n i : Nat) : St := ⟨ofL [(0, .w (.c (.d (.sl (key.map bD))))), (1, .w (.c (.d (.sl (info.map bD))))), (2, .w (.c (.d (.int .i64 (n : Int))))), (8, .w (.c (.own 1 1 0 (allK key info i).length))), (9, partV key info i), (10, .w (.c (.d (.int .i64 ((i + 1 : Nat) : Int)))))], hL [(1, .row 1 ((allK key info i).map bD))], uL [1]⟩
/-! ### Derive -/
/-! ### Label -/
/-! ### A byte 0 in a text -/
def zerosK (s : List UInt8) : Bool := s.any (· == 0)
def zeroSt (s : ByteArray) (i : Nat) : St := ⟨ofL [(0, .w (.c (.d (.str s)))), (3, .w (.c (.d (.int .i64 (i : Int)))))], hL [], uL []⟩
theorem any_at {s : List UInt8} {i : Nat} (h : i < s.length) (h0 : s[i] = 0) : zerosK s = true := by
  unfold zerosK
  rw [List.any_eq_true]
  exact ⟨s[i], List.getElem_mem h, by simp [h0]⟩
theorem none_of {s : List UInt8} (h : ∀ j (hj : j < s.length), s[j] ≠ 0) : zerosK s = false := by
  unfold zerosK
  rw [List.any_eq_false]
  intro x hx
  obtain ⟨j, hj, rfl⟩ := List.getElem_of_mem hx
  simpa using h j hj
theorem zerosK_all {s : List UInt8} (h : zerosK s = false) : ∀ z ∈ s, z ≠ 0 := by
  unfold zerosK at h
  rw [List.any_eq_false] at h
  intro z hz
  simpa using h z hz
/-! ### The sanity check -/
theorem jefe_hex : hexL (macK [74, 101, 102, 101] [119, 104, 97, 116, 32, 100, 111, 32, 121, 97, 32, 119, 97, 110, 116, 32, 102, 111, 114, 32, 110, 111, 116, 104, 105, 110, 103, 63]) = [53, 98, 100, 99, 99, 49, 52, 54, 98, 102, 54, 48, 55, 53, 52, 101, 54, 97, 48, 52, 50, 52, 50, 54, 48, 56, 57, 53, 55, 53, 99, 55, 53, 97, 48, 48, 51, 102, 48, 56, 57, 100, 50, 55, 51, 57, 56, 51, 57, 100, 101, 99, 53, 56, 98, 57, 54, 52, 101, 99, 51, 56, 52, 51] := by decide +kernel
end Go.Proofs.YtjgkchmdhicmpaaDoor
set_option linter.unusedVariables false
set_option linter.unusedSimpArgs false
namespace Go.Proofs.YtjgkchmdhicmpaaDoor
open Go.RowKit

theorem foldB_add (h : List UInt32) (y : List UInt8) (n : Nat) : ∀ m, foldB h y (n + m) = foldB (foldB h y n) (y.drop (64 * n)) m
  | 0 => rfl
  | m + 1 => by
    rw [← Nat.add_assoc, foldB, foldB, foldB_add h y n m, List.drop_drop, ← Nat.mul_add]
theorem foldB_app (h : List UInt32) (x b : List UInt8) : ∀ n, 64 * n ≤ x.length → foldB h (x ++ b) n = foldB h x n
  | 0, _ => rfl
  | n + 1, hn => by
    rw [foldB, foldB, foldB_app h x b n (by omega), List.drop_append_of_le_length (by omega), List.take_append_of_le_length (by rw [List.length_drop]; omega)]
/-- The computation behind the bytes x. -/
def wK (x : List UInt8) : List UInt32 := foldB firstK x (x.length / 64)
def rK (x : List UInt8) : List UInt8 := x.drop (64 * (x.length / 64))
theorem wK_len (x : List UInt8) : (wK x).length = 8 := foldB_len firstK_len _ _
theorem rK_len (x : List UInt8) : (rK x).length = x.length % 64 := by unfold rK; rw [List.length_drop]; omega
theorem validK_at (x : List UInt8) (h : x.length ≤ 1099511627776) : validK (wK x) (rK x) x.length = true := by
  simp only [validK, decide_eq_true_eq]
  have := rK_len x
  exact ⟨wK_len x, by omega, by omega, by omega⟩
theorem moreK_at (x b : List UInt8) (h : x.length + b.length ≤ 1099511627776) : moreK (wK x) (rK x) x.length b = ((wK (x ++ b), rK (x ++ b), ((x ++ b).length : Int)), 0) := by
  rw [moreK_ok (validK_at x (by omega)) (by omega)]
  have hr := rK_len x
  have hn : (x ++ b).length / 64 = x.length / 64 + (rK x ++ b).length / 64 := by
    rw [List.length_append, List.length_append, hr]; omega
  have hd : (x ++ b).drop (64 * (x.length / 64)) = rK x ++ b := by
    unfold rK; rw [List.drop_append_of_le_length (by omega)]
  have e1 : foldB (wK x) (rK x ++ b) ((rK x ++ b).length / 64) = wK (x ++ b) := by
    unfold wK
    rw [hn, foldB_add, hd, foldB_app firstK x b _ (by omega)]
  have e2 : (rK x ++ b).drop (64 * ((rK x ++ b).length / 64)) = rK (x ++ b) := by
    have : rK (x ++ b) = (x ++ b).drop (64 * (x.length / 64 + (rK x ++ b).length / 64)) := by rw [← hn]; rfl
    rw [this, Nat.mul_add, ← List.drop_drop, hd]
  rw [e1, e2, List.length_append]
  simp
theorem endK_at (x : List UInt8) (h : x.length ≤ 1099511627776) : endK (wK x) (rK x) x.length = (sumK x, 0) := by
  rw [endK_ok (validK_at x h)]
  rfl
theorem wK_nil : wK [] = firstK := rfl
theorem rK_nil : rK [] = [] := rfl
theorem chainH_add (b : List UInt8) (n : Nat) : ∀ m, chainK (chainK b n) m = chainK b (n + m)
  | 0 => rfl
  | m + 1 => by rw [chainK, chainH_add b n m, ← Nat.add_assoc, chainK]
theorem sameH_refl (w : List UInt32) (r : List UInt8) (c : Int) : sameH w w r r c c = true := by simp [sameH]
abbrev stD (x : List UInt8) : D := hsD (wK x) (rK x) (x.length : Int)
theorem more_at (G : Glob) (hG : G.at 1 = some (.ra (constK.map wD))) (x b y : List UInt8) (e : x ++ b = y) (h : y.length ≤ 1099511627776) : Den Tryd.prog G 36 [stD x, .sl (b.map bD)] (.tup [.c (.d (stD y)), .c (.d (.int .i64 0))]) := by
  subst e
  rw [List.length_append] at h
  have := more_c G hG (wK x) (rK x) x.length b
  rw [moreK_at x b h] at this
  exact this
theorem end_at (G : Glob) (hG : G.at 1 = some (.ra (constK.map wD))) (x : List UInt8) (h : x.length ≤ 1099511627776) : Den Tryd.prog G 38 [stD x] (.tup [.c (.d (.sl ((sumK x).map bD))), .c (.d (.int .i64 0))]) := by
  have := end_c G hG (wK x) (rK x) x.length
  rw [endK_at x h] at this
  exact this
theorem beg_at (G : Glob) (hF : G.at 0 = some (.ra (firstK.map wD))) : Den Tryd.prog G 37 [] (.w (.c (.d (stD [])))) := beg_c G hF
theorem valid_at (G : Glob) (x : List UInt8) (h : x.length ≤ 1099511627776) : Den Tryd.prog G 70 [stD x] (.w (.c (.d (.bool true)))) := by
  have := valid_c G (wK x) (rK x) x.length
  rw [validK_at x h] at this
  exact this
theorem same_self (l : List UInt8) : (l == l) = true := by simp
end Go.Proofs.YtjgkchmdhicmpaaDoor
