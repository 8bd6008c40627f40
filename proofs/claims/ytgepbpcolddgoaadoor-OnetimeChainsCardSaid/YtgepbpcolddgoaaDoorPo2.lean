/- Layer 1 on data: Unhex; lists that are the same; bytes of which one is changed. Own work. -/
import Derived.Test.YtgepbpcolddgoaaDoorPo1
set_option linter.unusedVariables false
set_option linter.unusedSimpArgs false
namespace Go.Proofs.YtgepbpcolddgoaaDoor
open Go.RowKit

/-! ### Hexadecimal digits read -/
def isDig (c : UInt8) : Bool := (decide (48 ≤ c.toNat) && decide (c.toNat ≤ 57)) || (decide (97 ≤ c.toNat) && decide (c.toNat ≤ 102))
def digV (c : UInt8) : UInt8 := if 48 ≤ c.toNat ∧ c.toNat ≤ 57 then UInt8.ofNat (c.toNat - 48) else if 97 ≤ c.toNat ∧ c.toNat ≤ 102 then UInt8.ofNat (c.toNat - 87) else 0
theorem bD_ofNat {i : Nat} (h : i < 256) : bD (UInt8.ofNat i) = .int .u8 (i : Int) := by
  unfold bD; rw [UInt8.toNat_ofNat_of_lt' (by simpa [UInt8.size] using h)]
theorem dig_a {c : UInt8} (h : 48 ≤ c.toNat ∧ c.toNat ≤ 57) : isDig c = true ∧ D.int .u8 ((c.toNat : Int) - 48) = bD (digV c) := by
  refine ⟨by simp [isDig, h.1, h.2], ?_⟩
  unfold digV
  rw [if_pos h, bD_ofNat (by omega)]
  congr 1; omega
theorem dig_b {c : UInt8} (h : 97 ≤ c.toNat ∧ c.toNat ≤ 102) : isDig c = true ∧ D.int .u8 ((c.toNat : Int) - 97 + 10) = bD (digV c) := by
  refine ⟨by simp [isDig, h.1, h.2], ?_⟩
  unfold digV
  rw [if_neg (by omega), if_pos h, bD_ofNat (by omega)]
  congr 1; omega
theorem dig_n {c : UInt8} (h1 : ¬ (48 ≤ c.toNat ∧ c.toNat ≤ 57)) (h2 : ¬ (97 ≤ c.toNat ∧ c.toNat ≤ 102)) : isDig c = false ∧ D.int .u8 0 = bD (digV c) := by
  refine ⟨?_, ?_⟩
  · unfold isDig
    rw [Bool.or_eq_false_iff]
    constructor
    · rw [← Bool.decide_and]; exact decide_eq_false h1
    · rw [← Bool.decide_and]; exact decide_eq_false h2
  · unfold digV; rw [if_neg h1, if_neg h2]; rfl
def hexV (l : List UInt8) (j : Nat) : UInt8 := orB (shlB (digV (l.getD (2 * j) 0)) 4) (digV (l.getD (2 * j + 1) 0))
def hexO (l : List UInt8) (j : Nat) : Bool := isDig (l.getD (2 * j) 0) && isDig (l.getD (2 * j + 1) 0)
def unhP (l : List UInt8) (j : Nat) : List UInt8 := (List.range j).map (hexV l)
def unhO (l : List UInt8) : Bool := decide (l.length % 2 = 0) && (List.range (l.length / 2)).all (hexO l)
def unhL (l : List UInt8) : List UInt8 := if unhO l = true then unhP l (l.length / 2) else []
theorem unhP_len (l : List UInt8) (j : Nat) : (unhP l j).length = j := by unfold unhP; rw [List.length_map, List.length_range]
theorem unhP_step (l : List UInt8) (j : Nat) : unhP l j ++ [hexV l j] = unhP l (j + 1) := by unfold unhP; rw [List.range_succ, List.map_append]; rfl
def unhSt (s : ByteArray) (j : Nat) : St := ⟨ofL [(0, .w (.c (.d (.str s)))), (4, .w (.c (.own 1 1 0 j))), (5, .w (.c (.d (.int .i64 ((2 * j : Nat) : Int)))))], hL [(1, .row 1 ((unhP s.data.toList j).map bD))], uL [1]⟩

/-! ### Lists of bytes that are the same -/
def slistB (l : List UInt8) : D := .sl (l.map bD)
def slsSt (a b : List (List UInt8)) (i : Nat) : St := ⟨ofL [(0, .w (.c (.d (.sl (a.map slistB))))), (1, .w (.c (.d (.sl (b.map slistB))))), (5, .w (.c (.d (.int .i64 (i : Int)))))], hL [], uL []⟩
def lp_sls_0 : SCode :=
  .seq (.seq (.reg [⟨(some 11), .mv (.t 5), none⟩,
    ⟨(some 12), .mv (.t 0), none⟩,
    ⟨(some 13), .len (.t 12), none⟩,
    ⟨(some 14), .bin .lss (.t 11) (.t 13), none⟩])
  (.cond (.t 14) (.skip)
   (.exit 0)))
  (.seq (.block 1 (.seq (.reg [⟨(some 17), .mv (.t 0), none⟩,
     ⟨(some 18), .mv (.t 5), none⟩,
     ⟨(some 19), .idxSl 1 (.t 17) (.t 18), none⟩,
     ⟨(some 20), .load .sc (.t 19), none⟩,
     ⟨(some 21), .mv (.t 1), none⟩,
     ⟨(some 22), .mv (.t 5), none⟩,
     ⟨(some 23), .idxSl 1 (.t 21) (.t 22), none⟩,
     ⟨(some 24), .load .sc (.t 23), none⟩,
     ⟨(some 25), .call 18 [(.t 20), (.t 24)] none, none⟩,
     ⟨(some 26), .un .not (.t 25), none⟩])
   (.cond (.t 26) (.seq (.reg [⟨(some 4), .mv (.k (.c (.d (.bool false)))), none⟩])
    (.ret))
    (.skip))))
  (.reg [⟨(some 15), .mv (.t 5), none⟩,
    ⟨(some 16), .bin .add (.t 15) (.k (.c (.d (.int .i64 1)))), none⟩,
    ⟨(some 5), .mv (.t 16), none⟩]))
def sf_sls : SFn := ⟨2, 27,
  .seq (.reg [⟨(some 4), .mv (.k (.c (.d (.bool false)))), none⟩])
  (.seq (.seq (.reg [⟨(some 6), .mv (.t 0), none⟩,
    ⟨(some 7), .len (.t 6), none⟩,
    ⟨(some 8), .mv (.t 1), none⟩,
    ⟨(some 9), .len (.t 8), none⟩,
    ⟨(some 10), .bin .neq (.t 7) (.t 9), none⟩])
  (.cond (.t 10) (.seq (.reg [⟨(some 4), .mv (.k (.c (.d (.bool false)))), none⟩])
   (.ret))
   (.skip)))
  (.seq (.seq (.reg [⟨(some 5), .mv (.k (.c (.d (.int .i64 0)))), none⟩])
  (.block 0 (.loop lp_sls_0)))
  (.seq (.reg [⟨(some 4), .mv (.k (.c (.d (.bool true)))), none⟩])
  (.ret)))),
  [(4, none)]⟩
theorem cf_sls : compFn Tryd.prog { own := [], comp := [], frz := [], nils := [] } Tryd.f19 = some sf_sls := by kernel_rfl
set_option maxHeartbeats 1600000 in
theorem sls_c (G : Glob) (a b : List (List UInt8)) (ha : a.length ≤ 140737488355328) (hb : b.length ≤ 140737488355328) : Den Tryd.prog G 19 [.sl (a.map slistB), .sl (b.map slistB)] (.w (.c (.d (.bool (a == b))))) := by
  refine den_walk Tryd.func19 cf_sls rfl rfl ?_
  by_cases hlen : a.length = b.length
  · have hz : ∀ l : List UInt8, (slistB l).cells = [slistB l] := fun _ => rfl
    simp only [sf_sls, putAll, wx, wy, wz, stV, seval, IntWalk.iteOmega, IntWalk.toNatUp, reduceCtorEq]
    refine loop_st (slsSt a b) (fun i => a.length - i) (fun i => i ≤ a.length ∧ a.take i = b.take i) 0 ⟨Nat.zero_le _, rfl⟩ ?_ ?_
    · refine ent_l (fun i => 0) ?_ ?_ rfl rfl <;> simp only [wx, wex, wez, stV, seval, IntWalk.iteOmega, IntWalk.toNatUp, reduceCtorEq] <;> rfl
    · rintro i ⟨hi, hpre⟩
      by_cases hlt : i < a.length
      · have g1 : a[i]? = some a[i] := List.getElem?_eq_getElem hlt
        have g2 : b[i]? = some (b[i]'(by omega)) := List.getElem?_eq_getElem (by omega)
        have hx : ∀ x y : List UInt8, a[i]? = some x → b[i]? = some y → (a = b → x = y) := fun x y h1 h2 e => by subst e; rw [h1] at h2; exact Option.some.inj h2
        have hx1 := hx _ _ g1 g2
        have hstep : a[i] = b[i]'(by omega) → a.take (i + 1) = b.take (i + 1) := fun e => by
          rw [List.take_add_one, List.take_add_one, g1, g2, hpre, e]
        generalize a[i] = x at *
        generalize b[i]'(by omega) = y at *
        have hrs := rsame_c G x y
        cases hxy : x == y
        · have hne : (a == b) = false := by
            rw [beq_eq_false_iff_ne]; intro e
            have := hx1 e
            subst this
            simp at hxy
          simp only [lp_sls_0, slsSt, wx, wy, wz, stV, seval, IntWalk.iteOmega, IntWalk.toNatUp, reduceCtorEq, get_map, g1, g2, hz, hne]
          refine st_call (hrs) rfl (.inl rfl) ?_
          simp only [hxy, wx, wy, wz, stV, seval, IntWalk.iteOmega, IntWalk.toNatUp, reduceCtorEq]
          exact ret_d1 (by simp only [wx, wy, wz, stV, seval, IntWalk.iteOmega, IntWalk.toNatUp, reduceCtorEq])
        · have hxy' : x = y := by simpa using hxy
          simp only [lp_sls_0, slsSt, wx, wy, wz, stV, seval, IntWalk.iteOmega, IntWalk.toNatUp, reduceCtorEq, get_map, g1, g2, hz]
          refine st_call (hrs) rfl (.inl rfl) ?_
          simp only [hxy, wx, wy, wz, stV, seval, IntWalk.iteOmega, IntWalk.toNatUp, reduceCtorEq]
          refine lop_next (i + 1) (by omega) ⟨by omega, hstep hxy'⟩ (ent_l (fun _ => 0) ?_ ?_ rfl rfl) <;> simp only [wx, wex, wez, stV, seval, IntWalk.iteOmega, IntWalk.toNatUp, reduceCtorEq]
      · obtain rfl : i = a.length := by omega
        have e : (a == b) = true := by
          rw [beq_iff_eq]
          rw [List.take_of_length_le (Nat.le_refl _), List.take_of_length_le (by omega)] at hpre
          exact hpre
        simp only [lp_sls_0, slsSt, wx, wy, wz, stV, seval, IntWalk.iteOmega, IntWalk.toNatUp, reduceCtorEq, e]
        exact ret_d1 (by simp only [wx, wy, wz, stV, seval, IntWalk.iteOmega, IntWalk.toNatUp, reduceCtorEq])
  · have hne : (a == b) = false := by rw [beq_eq_false_iff_ne]; intro e; subst e; exact hlen rfl
    simp only [sf_sls, putAll, wx, wy, wz, stV, seval, IntWalk.iteOmega, IntWalk.toNatUp, reduceCtorEq, hne]
    exact ret_d1 (by simp only [wx, wy, wz, stV, seval, IntWalk.iteOmega, IntWalk.toNatUp, reduceCtorEq])
end Go.Proofs.YtgepbpcolddgoaaDoor
