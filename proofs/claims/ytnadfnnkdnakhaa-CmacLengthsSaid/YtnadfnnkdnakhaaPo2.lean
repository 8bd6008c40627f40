/- Layer 1 on data: Unhex; lists that are the same; bytes of which one is changed. Own work. -/
import Derived.Test.YtnadfnnkdnakhaaPo1
set_option linter.unusedVariables false
set_option linter.unusedSimpArgs false
namespace Go.Proofs.Ytnadfnnkdnakhaa
open Go.RowKit

/-! ### Hexadecimal digits read -/
def isDig (c : UInt8) : Bool := (decide (48 ≤ c.toNat) && decide (c.toNat ≤ 57)) || (decide (97 ≤ c.toNat) && decide (c.toNat ≤ 102))
def digV (c : UInt8) : UInt8 := if 48 ≤ c.toNat ∧ c.toNat ≤ 57 then UInt8.ofNat (c.toNat - 48) else if 97 ≤ c.toNat ∧ c.toNat ≤ 102 then UInt8.ofNat (c.toNat - 87) else 0
theorem bD_ofNat {i : Nat} (h : i < 256) : bD (UInt8.ofNat i) = .int .u8 (i : Int) := by
  unfold bD; rw [UInt8.toNat_ofNat_of_lt' (by simpa [UInt8.size] using h)]
theorem dig_a {c : UInt8} (h : 48 ≤ c.toNat ∧ c.toNat ≤ 57) : isDig c = true ∧ D.int .u8 ((c.toNat : Int) - 48) = bD (digV c) := by
  refine ⟨by simp [isDig, h.1, h.2], ?_⟩
  unfold digV
  rw [if_pos h, bD_ofNat (by omega)]
  congr 1; omega
theorem dig_b {c : UInt8} (h : 97 ≤ c.toNat ∧ c.toNat ≤ 102) : isDig c = true ∧ D.int .u8 ((c.toNat : Int) - 97 + 10) = bD (digV c) := by
  refine ⟨by simp [isDig, h.1, h.2], ?_⟩
  unfold digV
  rw [if_neg (by omega), if_pos h, bD_ofNat (by omega)]
  congr 1; omega
theorem dig_n {c : UInt8} (h1 : ¬ (48 ≤ c.toNat ∧ c.toNat ≤ 57)) (h2 : ¬ (97 ≤ c.toNat ∧ c.toNat ≤ 102)) : isDig c = false ∧ D.int .u8 0 = bD (digV c) := by
  refine ⟨?_, ?_⟩
  · unfold isDig
    rw [Bool.or_eq_false_iff]
    constructor
    · rw [← Bool.decide_and]; exact decide_eq_false h1
    · rw [← Bool.decide_and]; exact decide_eq_false h2
  · unfold digV; rw [if_neg h1, if_neg h2]; rfl
def sf_dig : SFn := ⟨1, 23,
  .seq (.reg [⟨(some 2), .mv (.k (.c (.d (.int .u8 0)))), none⟩,
    ⟨(some 3), .mv (.k (.c (.d (.bool false)))), none⟩])
  (.seq (.block 0 (.seq (.reg [⟨(some 5), .mv (.t 0), none⟩,
     ⟨(some 6), .bin .geq (.t 5) (.k (.c (.d (.int .u8 48)))), none⟩,
     ⟨(some 7), .mv (.t 6), none⟩,
     ⟨(some 8), .mv (.t 0), (some (7, true))⟩,
     ⟨(some 9), .bin .leq (.t 8) (.k (.c (.d (.int .u8 57)))), (some (7, true))⟩,
     ⟨(some 10), .pick (.t 7) (.t 9) (.k (.c (.d (.bool false)))), none⟩,
     ⟨(some 4), .mv (.t 10), none⟩])
   (.cond (.t 4) (.seq (.reg [⟨(some 11), .mv (.t 0), none⟩,
      ⟨(some 12), .bin .sub (.t 11) (.k (.c (.d (.int .u8 48)))), none⟩,
      ⟨(some 2), .mv (.t 12), none⟩,
      ⟨(some 3), .mv (.k (.c (.d (.bool true)))), none⟩])
    (.ret))
    (.seq (.reg [⟨(some 14), .mv (.t 0), none⟩,
      ⟨(some 15), .bin .geq (.t 14) (.k (.c (.d (.int .u8 97)))), none⟩,
      ⟨(some 16), .mv (.t 15), none⟩,
      ⟨(some 17), .mv (.t 0), (some (16, true))⟩,
      ⟨(some 18), .bin .leq (.t 17) (.k (.c (.d (.int .u8 102)))), (some (16, true))⟩,
      ⟨(some 19), .pick (.t 16) (.t 18) (.k (.c (.d (.bool false)))), none⟩,
      ⟨(some 13), .mv (.t 19), none⟩])
    (.cond (.t 13) (.seq (.reg [⟨(some 20), .mv (.t 0), none⟩,
       ⟨(some 21), .bin .sub (.t 20) (.k (.c (.d (.int .u8 97)))), none⟩,
       ⟨(some 22), .bin .add (.t 21) (.k (.c (.d (.int .u8 10)))), none⟩,
       ⟨(some 2), .mv (.t 22), none⟩,
       ⟨(some 3), .mv (.k (.c (.d (.bool true)))), none⟩])
     (.ret))
     (.skip))))))
  (.seq (.reg [⟨(some 2), .mv (.k (.c (.d (.int .u8 0)))), none⟩,
    ⟨(some 3), .mv (.k (.c (.d (.bool false)))), none⟩])
  (.ret))),
  [(2, none), (3, none)]⟩
theorem cf_dig : compFn Try.prog { own := [], comp := [], frz := [], nils := [] } Try.f36 = some sf_dig := by kernel_rfl
set_option maxHeartbeats 1600000 in
theorem dig_c (G : Glob) (c : UInt8) : Den Try.prog G 36 [bD c] (.tup [.c (.d (bD (digV c))), .c (.d (.bool (isDig c)))]) := by
  refine den_walk Try.func36 cf_dig rfl rfl ?_
  have hc := byte_lt c
  by_cases h1 : 48 ≤ c.toNat ∧ c.toNat ≤ 57
  · obtain ⟨e1, e2⟩ := dig_a h1
    rw [e1, ← e2]
    simp only [sf_dig, putAll, wx, wy, wz, stV, seval, IntWalk.iteOmega, IntWalk.toNatUp, reduceCtorEq]
    exact ret_d2 (by simp only [wx, wy, wz, stV, seval, IntWalk.iteOmega, IntWalk.toNatUp, reduceCtorEq]) (by simp only [wx, wy, wz, stV, seval, IntWalk.iteOmega, IntWalk.toNatUp, reduceCtorEq])
  · by_cases h2 : 97 ≤ c.toNat ∧ c.toNat ≤ 102
    · obtain ⟨e1, e2⟩ := dig_b h2
      rw [e1, ← e2]
      simp only [sf_dig, putAll, wx, wy, wz, stV, seval, IntWalk.iteOmega, IntWalk.toNatUp, reduceCtorEq]
      exact ret_d2 (by simp only [wx, wy, wz, stV, seval, IntWalk.iteOmega, IntWalk.toNatUp, reduceCtorEq]) (by simp only [wx, wy, wz, stV, seval, IntWalk.iteOmega, IntWalk.toNatUp, reduceCtorEq])
    · obtain ⟨e1, e2⟩ := dig_n h1 h2
      rw [e1, ← e2]
      by_cases g1 : 48 ≤ c.toNat
      · by_cases g2 : 97 ≤ c.toNat
        · simp only [sf_dig, putAll, wx, wy, wz, stV, seval, IntWalk.iteOmega, IntWalk.toNatUp, reduceCtorEq]
          exact ret_d2 (by simp only [wx, wy, wz, stV, seval, IntWalk.iteOmega, IntWalk.toNatUp, reduceCtorEq]) (by simp only [wx, wy, wz, stV, seval, IntWalk.iteOmega, IntWalk.toNatUp, reduceCtorEq])
        · simp only [sf_dig, putAll, wx, wy, wz, stV, seval, IntWalk.iteOmega, IntWalk.toNatUp, reduceCtorEq]
          exact ret_d2 (by simp only [wx, wy, wz, stV, seval, IntWalk.iteOmega, IntWalk.toNatUp, reduceCtorEq]) (by simp only [wx, wy, wz, stV, seval, IntWalk.iteOmega, IntWalk.toNatUp, reduceCtorEq])
      · simp only [sf_dig, putAll, wx, wy, wz, stV, seval, IntWalk.iteOmega, IntWalk.toNatUp, reduceCtorEq]
        exact ret_d2 (by simp only [wx, wy, wz, stV, seval, IntWalk.iteOmega, IntWalk.toNatUp, reduceCtorEq]) (by simp only [wx, wy, wz, stV, seval, IntWalk.iteOmega, IntWalk.toNatUp, reduceCtorEq])
def hexV (l : List UInt8) (j : Nat) : UInt8 := orB (shlB (digV (l.getD (2 * j) 0)) 4) (digV (l.getD (2 * j + 1) 0))
def hexO (l : List UInt8) (j : Nat) : Bool := isDig (l.getD (2 * j) 0) && isDig (l.getD (2 * j + 1) 0)
def unhP (l : List UInt8) (j : Nat) : List UInt8 := (List.range j).map (hexV l)
def unhO (l : List UInt8) : Bool := decide (l.length % 2 = 0) && (List.range (l.length / 2)).all (hexO l)
def unhL (l : List UInt8) : List UInt8 := if unhO l = true then unhP l (l.length / 2) else []
theorem unhP_len (l : List UInt8) (j : Nat) : (unhP l j).length = j := by unfold unhP; rw [List.length_map, List.length_range]
theorem unhP_step (l : List UInt8) (j : Nat) : unhP l j ++ [hexV l j] = unhP l (j + 1) := by unfold unhP; rw [List.range_succ, List.map_append]; rfl
def unhSt (s : ByteArray) (j : Nat) : St := ⟨ofL [(0, .w (.c (.d (.str s)))), (4, .w (.c (.own 1 1 0 j))), (5, .w (.c (.d (.int .i64 ((2 * j : Nat) : Int)))))], hL [(1, .row 1 ((unhP s.data.toList j).map bD))], uL [1]⟩
def lp_unhex_0 : SCode :=
  .seq (.seq (.reg [⟨(some 18), .mv (.t 5), none⟩,
    ⟨(some 19), .mv (.t 0), none⟩,
    ⟨(some 20), .lenStr (.t 19), none⟩,
    ⟨(some 21), .bin .lss (.t 18) (.t 20), none⟩])
  (.cond (.t 21) (.skip)
   (.exit 0)))
  (.seq (.block 1 (.seq (.reg [⟨(some 25), .mv (.t 0), none⟩,
     ⟨(some 26), .mv (.t 5), none⟩,
     ⟨(some 27), .idxStr (.t 25) (.t 26), none⟩,
     ⟨(some 28), .call 36 [(.t 27)] none, none⟩,
     ⟨(some 24), .mv (.t 28), none⟩,
     ⟨(some 29), .extract (.t 24) 0, none⟩,
     ⟨(some 30), .extract (.t 24) 1, none⟩,
     ⟨(some 6), .mv (.t 29), none⟩,
     ⟨(some 7), .mv (.t 30), none⟩])
   (.seq (.reg [⟨(some 32), .mv (.t 0), none⟩,
     ⟨(some 33), .mv (.t 5), none⟩,
     ⟨(some 34), .bin .add (.t 33) (.k (.c (.d (.int .i64 1)))), none⟩,
     ⟨(some 35), .idxStr (.t 32) (.t 34), none⟩,
     ⟨(some 36), .call 36 [(.t 35)] none, none⟩,
     ⟨(some 31), .mv (.t 36), none⟩,
     ⟨(some 37), .extract (.t 31) 0, none⟩,
     ⟨(some 38), .extract (.t 31) 1, none⟩,
     ⟨(some 8), .mv (.t 37), none⟩,
     ⟨(some 9), .mv (.t 38), none⟩])
   (.seq (.seq (.reg [⟨(some 39), .mv (.t 7), none⟩,
     ⟨(some 40), .un .not (.t 39), none⟩,
     ⟨(some 41), .mv (.t 40), none⟩,
     ⟨(some 42), .mv (.t 9), (some (41, false))⟩,
     ⟨(some 43), .un .not (.t 42), (some (41, false))⟩,
     ⟨(some 44), .pick (.t 41) (.k (.c (.d (.bool true)))) (.t 43), none⟩])
   (.cond (.t 44) (.seq (.reg [⟨(some 2), .mv (.k (.c .nil)), none⟩,
      ⟨(some 3), .mv (.k (.c (.d (.bool false)))), none⟩])
    (.ret))
    (.skip)))
   (.reg [⟨(some 45), .mv (.t 4), none⟩,
     ⟨(some 46), .mv (.t 6), none⟩,
     ⟨(some 47), .bin .shl (.t 46) (.k (.c (.d (.int .u64 4)))), none⟩,
     ⟨(some 48), .mv (.t 8), none⟩,
     ⟨(some 49), .bin .or (.t 47) (.t 48), none⟩,
     ⟨(some 50), .bldSl false 1 1 (.int .u8 0) [(0, (.t 49))], none⟩,
     ⟨(some 51), .app false 1 1 (.t 45) (.t 50), none⟩,
     ⟨(some 4), .mv (.t 51), none⟩])))))
  (.reg [⟨(some 22), .mv (.t 5), none⟩,
    ⟨(some 23), .bin .add (.t 22) (.k (.c (.d (.int .i64 2)))), none⟩,
    ⟨(some 5), .mv (.t 23), none⟩]))
def sf_unhex : SFn := ⟨1, 53,
  .seq (.reg [⟨(some 2), .mv (.k (.c .nil)), none⟩,
    ⟨(some 3), .mv (.k (.c (.d (.bool false)))), none⟩])
  (.seq (.seq (.reg [⟨(some 10), .mv (.t 0), none⟩,
    ⟨(some 11), .lenStr (.t 10), none⟩,
    ⟨(some 12), .bin .rem (.t 11) (.k (.c (.d (.int .i64 2)))), none⟩,
    ⟨(some 13), .bin .neq (.t 12) (.k (.c (.d (.int .i64 0)))), none⟩])
  (.cond (.t 13) (.seq (.reg [⟨(some 2), .mv (.k (.c .nil)), none⟩,
     ⟨(some 3), .mv (.k (.c (.d (.bool false)))), none⟩])
   (.ret))
   (.skip)))
  (.seq (.reg [⟨(some 14), .mv (.t 0), none⟩,
    ⟨(some 15), .lenStr (.t 14), none⟩,
    ⟨(some 16), .bin .quo (.t 15) (.k (.c (.d (.int .i64 2)))), none⟩,
    ⟨(some 17), .make 1 1 (.int .u8 0) (.k (.c (.d (.int .i64 0)))) (.t 16), none⟩,
    ⟨(some 4), .mv (.t 17), none⟩])
  (.seq (.seq (.reg [⟨(some 5), .mv (.k (.c (.d (.int .i64 0)))), none⟩])
  (.block 0 (.loop lp_unhex_0)))
  (.seq (.reg [⟨(some 52), .mv (.t 4), none⟩,
    ⟨(some 2), .mv (.t 52), none⟩,
    ⟨(some 3), .mv (.k (.c (.d (.bool true)))), none⟩])
  (.ret))))),
  [(2, none), (3, none)]⟩
theorem cf_unhex : compFn Try.prog { own := [], comp := [], frz := [], nils := [] } Try.f22 = some sf_unhex := by kernel_rfl
set_option maxHeartbeats 3200000 in
theorem unhex_c (G : Glob) (s : ByteArray) (hs : s.size ≤ 140737488355328) : Den Try.prog G 22 [.str s] (.tup [.c (.d (.sl ((unhL s.data.toList).map bD))), .c (.d (.bool (unhO s.data.toList)))]) := by
  refine den_walk Try.func22 cf_unhex rfl rfl ?_
  have hl : s.data.toList.length = s.size := rfl
  have t1 : Int.tmod (s.size : Int) 2 = ((s.size % 2 : Nat) : Int) := rfl
  have t2 : Int.tdiv (s.size : Int) 2 = ((s.size / 2 : Nat) : Int) := rfl
  by_cases hodd : s.size % 2 = 0
  · simp only [sf_unhex, putAll, wx, wy, wz, stV, seval, IntWalk.iteOmega, IntWalk.toNatUp, reduceCtorEq, t1, t2]
    refine loop_st (unhSt s) (fun j => s.size / 2 - j) (fun j => j ≤ s.size / 2 ∧ ∀ i, i < j → hexO s.data.toList i = true) 0 ⟨Nat.zero_le _, fun i hi => by omega⟩ ?_ ?_
    · refine ent_l (fun i => 136) ?_ ?_ rfl rfl <;> simp only [wx, wex, wez, stV, seval, IntWalk.iteOmega, IntWalk.toNatUp, reduceCtorEq] <;> rfl
    · rintro j ⟨hj, hok⟩
      have hn := unhP_len s.data.toList j
      by_cases hlt : j < s.size / 2
      · have g1 : s.data.toList[2 * j]? = some (s.data.toList.getD (2 * j) 0) := by rw [List.getD_eq_getElem?_getD, List.getElem?_eq_getElem (by omega)]; rfl
        have g2 : s.data.toList[2 * j + 1]? = some (s.data.toList.getD (2 * j + 1) 0) := by rw [List.getD_eq_getElem?_getD, List.getElem?_eq_getElem (by omega)]; rfl
        have hstep := unhP_step s.data.toList j
        have hO : hexO s.data.toList j = (isDig (s.data.toList.getD (2 * j) 0) && isDig (s.data.toList.getD (2 * j + 1) 0)) := rfl
        have hV : hexV s.data.toList j = orB (shlB (digV (s.data.toList.getD (2 * j) 0)) 4) (digV (s.data.toList.getD (2 * j + 1) 0)) := rfl
        have hbad : hexO s.data.toList j = false → unhO s.data.toList = false := fun hb => by
          unfold unhO
          rw [Bool.and_eq_false_iff]; right
          rw [List.all_eq_false]
          exact ⟨j, List.mem_range.2 (by omega), by rw [hb]; simp⟩
        generalize s.data.toList.getD (2 * j) 0 = a at *
        generalize s.data.toList.getD (2 * j + 1) 0 = b at *
        have x1 := bl_shl (digV a) .u64 4 4 rfl (by decide)
        have x2 := binV_orB (shlB (digV a) 4) (digV b)
        cases ha : isDig a
        · have hf : unhO s.data.toList = false := hbad (by rw [hO, ha]; rfl)
          have e2 : unhL s.data.toList = [] := by unfold unhL; rw [hf]; rfl
          simp only [lp_unhex_0, unhSt, wx, wy, wz, stV, seval, IntWalk.iteOmega, IntWalk.toNatUp, reduceCtorEq, g1, hf, e2]
          refine st_call (dig_c G a) rfl (.inl rfl) ?_
          simp only [g2, ha, wx, wy, wz, stV, seval, IntWalk.iteOmega, IntWalk.toNatUp, reduceCtorEq]
          refine st_call (dig_c G b) rfl (.inl rfl) ?_
          simp only [ha, wx, wy, wz, stV, seval, IntWalk.iteOmega, IntWalk.toNatUp, reduceCtorEq]
          exact ret_d2 (by simp only [wx, wy, wz, stV, seval, IntWalk.iteOmega, IntWalk.toNatUp, reduceCtorEq]) (by simp only [wx, wy, wz, stV, seval, IntWalk.iteOmega, IntWalk.toNatUp, reduceCtorEq])
        · cases hb : isDig b
          · have hf : unhO s.data.toList = false := hbad (by rw [hO, ha, hb]; rfl)
            have e2 : unhL s.data.toList = [] := by unfold unhL; rw [hf]; rfl
            simp only [lp_unhex_0, unhSt, wx, wy, wz, stV, seval, IntWalk.iteOmega, IntWalk.toNatUp, reduceCtorEq, g1, hf, e2]
            refine st_call (dig_c G a) rfl (.inl rfl) ?_
            simp only [g2, ha, wx, wy, wz, stV, seval, IntWalk.iteOmega, IntWalk.toNatUp, reduceCtorEq]
            refine st_call (dig_c G b) rfl (.inl rfl) ?_
            simp only [ha, hb, wx, wy, wz, stV, seval, IntWalk.iteOmega, IntWalk.toNatUp, reduceCtorEq]
            exact ret_d2 (by simp only [wx, wy, wz, stV, seval, IntWalk.iteOmega, IntWalk.toNatUp, reduceCtorEq]) (by simp only [wx, wy, wz, stV, seval, IntWalk.iteOmega, IntWalk.toNatUp, reduceCtorEq])
          · have hT : hexO s.data.toList j = true := by rw [hO, ha, hb]; rfl
            rw [hV] at hstep
            have hok2 : ∀ i, i < j + 1 → hexO s.data.toList i = true := fun i hi => by
              rcases Nat.lt_or_ge i j with h | h
              · exact hok i h
              · rw [show i = j by omega]; exact hT
            simp only [lp_unhex_0, unhSt, wx, wy, wz, stV, seval, IntWalk.iteOmega, IntWalk.toNatUp, reduceCtorEq, g1]
            refine st_call (dig_c G a) rfl (.inl rfl) ?_
            simp only [g2, ha, wx, wy, wz, stV, seval, IntWalk.iteOmega, IntWalk.toNatUp, reduceCtorEq]
            refine st_call (dig_c G b) rfl (.inl rfl) ?_
            simp only [ha, hb, x1, x2, srcV, wx, wy, wz, stV, seval, IntWalk.iteOmega, IntWalk.toNatUp, reduceCtorEq]
            refine lop_next (j + 1) (by omega) ⟨by omega, hok2⟩ (ent_l (fun i => 408) ?_ ?_ rfl rfl) <;> simp only [wx, wex, wez, stV, seval, IntWalk.iteOmega, IntWalk.toNatUp, reduceCtorEq]
            · rw [hn, show (2 * (j : Int) + 2) = 2 * ((j : Int) + 1) by omega]; exact ⟨rfl, rfl⟩
            · rw [← hstep, List.map_append]; rfl
      · obtain rfl : j = s.size / 2 := by omega
        have hT : unhO s.data.toList = true := by
          unfold unhO
          rw [Bool.and_eq_true]
          exact ⟨decide_eq_true (by rw [hl]; exact hodd), List.all_eq_true.2 fun i hi => hok i (List.mem_range.1 hi)⟩
        have e2 : unhL s.data.toList = unhP s.data.toList (s.size / 2) := by unfold unhL; rw [hT]; rfl
        have ht : (unhP s.data.toList (s.size / 2)).take (s.size / 2) = unhP s.data.toList (s.size / 2) := List.take_of_length_le (by omega)
        simp only [lp_unhex_0, unhSt, wx, wy, wz, stV, seval, IntWalk.iteOmega, IntWalk.toNatUp, reduceCtorEq, hT, e2]
        exact ret_d2 (by simp only [wx, wy, wz, stV, seval, IntWalk.iteOmega, IntWalk.toNatUp, reduceCtorEq, len_map, hn, take_map, ht]) (by simp only [wx, wy, wz, stV, seval, IntWalk.iteOmega, IntWalk.toNatUp, reduceCtorEq])
  · have e : unhO s.data.toList = false := by
      unfold unhO; rw [Bool.and_eq_false_iff]; left; exact decide_eq_false (by rw [hl]; exact hodd)
    have e2 : unhL s.data.toList = [] := by unfold unhL; rw [e]; rfl
    have hm : s.size % 2 < 2 := Nat.mod_lt _ (by decide)
    simp only [sf_unhex, putAll, wx, wy, wz, stV, seval, IntWalk.iteOmega, IntWalk.toNatUp, reduceCtorEq, t1, e, e2]
    exact ret_d2 (by simp only [wx, wy, wz, stV, seval, IntWalk.iteOmega, IntWalk.toNatUp, reduceCtorEq]) (by simp only [wx, wy, wz, stV, seval, IntWalk.iteOmega, IntWalk.toNatUp, reduceCtorEq])

/-! ### Lists of bytes that are the same -/
def slistB (l : List UInt8) : D := .sl (l.map bD)
def slsSt (a b : List (List UInt8)) (i : Nat) : St := ⟨ofL [(0, .w (.c (.d (.sl (a.map slistB))))), (1, .w (.c (.d (.sl (b.map slistB))))), (5, .w (.c (.d (.int .i64 (i : Int)))))], hL [], uL []⟩
end Go.Proofs.Ytnadfnnkdnakhaa
