/- Layer 4 on data: counters, keys, blocks, in both codes. Own work. -/
import Derived.Test.YtnadfnnkdnakhaaPc9
set_option linter.unusedVariables false
set_option linter.unusedSimpArgs false
namespace Go.Proofs.Ytnadfnnkdnakhaa
open Go.RowKit

/-! ### The next counter -/
theorem incL_app : ∀ a b : List UInt8, incL (a ++ b) = if (incL b).2 then ((incL a).1 ++ (incL b).1, (incL a).2) else (a ++ (incL b).1, false)
  | [], b => by
    show incL b = if (incL b).2 then ([] ++ (incL b).1, true) else ([] ++ (incL b).1, false)
    rcases incL b with ⟨s, _ | _⟩ <;> rfl
  | x :: a, b => by
    have ih := incL_app a b
    simp only [List.cons_append, incL, ih]
    cases h : (incL b).2
    · simp
    · simp only [if_true]
      cases h2 : (incL a).2 <;> simp
/-- The last j bytes are counted up; the counter carries over. -/
def carry (c : List UInt8) (m : Nat) : Prop := (incL (c.drop m)).2 = true
def cntL (c : List UInt8) (m : Nat) : List UInt8 := c.take m ++ (incL (c.drop m)).1
theorem cntL_len (c : List UInt8) (m : Nat) : (cntL c m).length = c.length := by
  unfold cntL; rw [List.length_append, incL_len, ← List.length_append, List.take_append_drop]
theorem cntL_start (c : List UInt8) : cntL c c.length = c := by unfold cntL; simp [incL]
theorem carry_start (c : List UInt8) : carry c c.length := by unfold carry; simp [incL]
theorem cntL_zero (c : List UInt8) : cntL c 0 = nextC c := by unfold cntL nextC; simp
theorem cnt_get {c : List UInt8} {m : Nat} (h : m < c.length) : (cntL c (m + 1))[m]? = some (c.getD m 0) := by
  unfold cntL
  rw [List.getElem?_append_left (by rw [List.length_take]; omega), List.getElem?_take, if_pos (by omega)]
  exact get_lt h
theorem drop_cons {c : List UInt8} {m : Nat} (h : m < c.length) : c.drop m = c.getD m 0 :: c.drop (m + 1) := by
  rw [List.drop_eq_getElem_cons h, List.getD_eq_getElem?_getD, List.getElem?_eq_getElem h]; rfl
theorem cnt_set {c : List UInt8} {m : Nat} (h : m < c.length) (hc : carry c (m + 1)) : (cntL c (m + 1)).set m (c.getD m 0 + 1) = cntL c m := by
  have e : (incL (c.drop m)).1 = (c.getD m 0 + 1) :: (incL (c.drop (m + 1))).1 := by
    rw [drop_cons h]
    unfold carry at hc
    simp only [incL, hc, if_true]
  have e2 : c.take (m + 1) = c.take m ++ [c.getD m 0] := by
    rw [List.take_add_one, get_lt h]; rfl
  unfold cntL
  rw [e, e2, List.append_assoc, List.set_append_right _ _ (by rw [List.length_take]; omega), List.length_take, show m - min m c.length = 0 by omega]
  rfl
theorem carry_step {c : List UInt8} {m : Nat} (h : m < c.length) (hc : carry c (m + 1)) : (incL (c.drop m)).2 = (c.getD m 0 + 1 == 0) := by
  rw [drop_cons h]
  unfold carry at hc
  simp only [incL, hc, if_true]
theorem cnt_end {c : List UInt8} {m : Nat} (h : (incL (c.drop m)).2 = false) : cntL c m = nextC c := by
  have := incL_app (c.take m) (c.drop m)
  rw [List.take_append_drop, h] at this
  unfold nextC cntL
  rw [this]; rfl
theorem bl_add (x c : UInt8) (n : Int) (h : n = (c.toNat : Int)) : binV .add (.w (.c (.d (bD x)))) (.w (.c (.d (.int .u8 n)))) = some (bD (x + c)) := by
  subst h
  show binI .add .u8 (x.toNat : Int) .u8 (c.toNat : Int) = _
  rw [binI_add, IntKind.wrap_u8]
  show some (D.int .u8 (((x.toNat : Int) + (c.toNat : Int)) % 256)) = _
  have : ((x.toNat : Int) + (c.toNat : Int)) % 256 = ((x + c).toNat : Int) := by
    rw [UInt8.toNat_add]; simp
  rw [this]; rfl
/-- What Next returns: nothing of bytes of another number. -/
def nexV (c : List UInt8) : List UInt8 := if c.length = 16 then nextC c else []
def nxSt (c : List UInt8) (m : Nat) : St := ⟨ofL [(3, .w (.c (.own 1 1 0 16))), (4, .w (.c (.d (.int .i64 ((m : Int) - 1)))))], hL [(1, .row 1 ((cntL c m).map bD))], uL [1]⟩
/-! ### Block -/
/-- The error's number of Block (and of Stream, of a short message). -/
def blkE (key b : List UInt8) : Int := if key.length ≠ 16 then 5 else if b.length ≠ 16 then 3 else 0
def blkV (key b : List UInt8) : List UInt8 := if key.length = 16 ∧ b.length = 16 then blockC key b else []
def sf_blk : SFn := ⟨2, 18,
  .seq (.reg [⟨(some 4), .mv (.k (.c .nil)), none⟩,
    ⟨(some 5), .mv (.k (.c (.d (.int .i64 0)))), none⟩])
  (.seq (.seq (.reg [⟨(some 7), .mv (.t 0), none⟩,
    ⟨(some 8), .len (.t 7), none⟩,
    ⟨(some 9), .bin .neq (.t 8) (.k (.c (.d (.int .i64 16)))), none⟩])
  (.cond (.t 9) (.seq (.reg [⟨(some 4), .mv (.k (.c .nil)), none⟩,
     ⟨(some 5), .mv (.k (.c (.d (.int .i64 5)))), none⟩])
   (.ret))
   (.skip)))
  (.seq (.seq (.reg [⟨(some 10), .mv (.t 1), none⟩,
    ⟨(some 11), .len (.t 10), none⟩,
    ⟨(some 12), .bin .neq (.t 11) (.k (.c (.d (.int .i64 16)))), none⟩])
  (.cond (.t 12) (.seq (.reg [⟨(some 4), .mv (.k (.c .nil)), none⟩,
     ⟨(some 5), .mv (.k (.c (.d (.int .i64 3)))), none⟩])
   (.ret))
   (.skip)))
  (.seq (.reg [⟨(some 13), .mv (.t 0), none⟩,
    ⟨(some 14), .call 35 [(.t 13)] none, none⟩,
    ⟨(some 15), .mv (.t 1), none⟩,
    ⟨(some 16), .call 34 [(.t 14), (.t 15)] none, none⟩,
    ⟨(some 6), .allocArr [(.int .u8 0), (.int .u8 0), (.int .u8 0), (.int .u8 0), (.int .u8 0), (.int .u8 0), (.int .u8 0), (.int .u8 0), (.int .u8 0), (.int .u8 0), (.int .u8 0), (.int .u8 0), (.int .u8 0), (.int .u8 0), (.int .u8 0), (.int .u8 0)], none⟩,
    ⟨none, .store (.ag 16) (.t 6) (.t 16), none⟩])
  (.seq (.reg [⟨(some 17), .sliceArr 1 16 (.t 6) none none, none⟩,
    ⟨(some 4), .mv (.t 17), none⟩,
    ⟨(some 5), .mv (.k (.c (.d (.int .i64 0)))), none⟩])
  (.ret))))),
  [(4, none), (5, none)]⟩
theorem cf_blk : compFn Try.prog { own := [], comp := [], frz := [], nils := [] } Try.f19 = some sf_blk := by kernel_rfl
set_option maxHeartbeats 1600000 in
theorem blk_f (G : Glob) (key b : List UInt8) (hk : key.length ≤ 9223372036854775807) (hb : b.length ≤ 9223372036854775807) : Den Try.prog G 19 [.sl (key.map bD), .sl (b.map bD)] (.tup [.c (.fr 1 ((blkV key b).map bD)), .c (.d (.int .i64 (blkE key b)))]) := by
  refine den_walk Try.func19 cf_blk rfl rfl ?_
  unfold blkV blkE
  by_cases h : key.length = 16
  · by_cases h2 : b.length = 16
    · have hr := rkK_len h
      have hl : (blockC key b).length = 16 := encK_len _ _
      have ht : (blockC key b).take 16 = blockC key b := List.take_of_length_le (by omega)
      rw [if_pos ⟨h, h2⟩, if_neg (by simp [h]), if_neg (by simp [h2])]
      simp only [sf_blk, putAll, wx, wy, wz, stV, seval, IntWalk.iteOmega, IntWalk.toNatUp, reduceCtorEq, h, h2, z16]
      refine st_call (expd_c G key h) rfl (.inl rfl) ?_
      simp only [wx, wy, wz, stV, seval, IntWalk.iteOmega, IntWalk.toNatUp, reduceCtorEq]
      refine st_call (encd_c G (rkK key) b hr h2) rfl (.inl rfl) ?_
      simp only [encK_len, repL_len, hl, wx, wy, wz, stV, seval, IntWalk.iteOmega, IntWalk.toNatUp, reduceCtorEq]
      exact ret_f2 (by simp only [wx, wy, wz, stV, seval, IntWalk.iteOmega, IntWalk.toNatUp, reduceCtorEq, toFr, encK_len, hl, len_map]; rfl) (by simp only [wx, wy, wz, stV, seval, IntWalk.iteOmega, IntWalk.toNatUp, reduceCtorEq])
    · rw [if_neg (fun k => h2 k.2), if_neg (by simp [h]), if_pos h2]
      simp only [sf_blk, putAll, wx, wy, wz, stV, seval, IntWalk.iteOmega, IntWalk.toNatUp, reduceCtorEq, h]
      exact ret_f2 (by simp only [wx, wy, wz, stV, seval, IntWalk.iteOmega, IntWalk.toNatUp, reduceCtorEq]) (by simp only [wx, wy, wz, stV, seval, IntWalk.iteOmega, IntWalk.toNatUp, reduceCtorEq])
  · rw [if_neg (fun k => h k.1), if_pos h]
    simp only [sf_blk, putAll, wx, wy, wz, stV, seval, IntWalk.iteOmega, IntWalk.toNatUp, reduceCtorEq]
    exact ret_f2 (by simp only [wx, wy, wz, stV, seval, IntWalk.iteOmega, IntWalk.toNatUp, reduceCtorEq]) (by simp only [wx, wy, wz, stV, seval, IntWalk.iteOmega, IntWalk.toNatUp, reduceCtorEq])
theorem blk_c (G : Glob) (key b : List UInt8) (hk : key.length ≤ 9223372036854775807) (hb : b.length ≤ 9223372036854775807) : Den Try.prog G 19 [.sl (key.map bD), .sl (b.map bD)] (.tup [.c (.d (.sl ((blkV key b).map bD))), .c (.d (.int .i64 (blkE key b)))]) := den_ro2 (blk_f G key b hk hb)
/-! ### Keys -/
def keyE (key : List UInt8) : Int := if key.length ≠ 16 then 5 else 0
def kbs (key : List UInt8) (i : Nat) : List (List UInt8) := (List.range i).map (kb key)
def keyV (key : List UInt8) : List (List UInt8) := if key.length = 16 then kbs key 11 else []
theorem kbs_len (key : List UInt8) (i : Nat) : (kbs key i).length = i := by unfold kbs; rw [List.length_map, List.length_range]
theorem kbs_step (key : List UInt8) (i : Nat) : kbs key i ++ [kb key i] = kbs key (i + 1) := by unfold kbs; rw [List.range_succ, List.map_append]; rfl
def slB (l : List UInt8) : D := .sl (l.map bD)
theorem slB_f : (fun l : List UInt8 => D.sl (l.map bD)) = slB := rfl
theorem sl_B (l : List UInt8) : D.sl (l.map bD) = slB l := rfl
theorem kbs_app (key : List UInt8) (i : Nat) : (kbs key i).map slB ++ [slB (kb key i)] = (kbs key (i + 1)).map slB := by rw [← kbs_step, List.map_append]; rfl
def keySt (key : List UInt8) (i : Nat) : St := ⟨ofL [(4, .w (.c (.own 1 1 0 i))), (12, .w (.c (.d (.agg ((rkK key).map bD))))), (13, .w (.c (.d (.int .i64 (i : Int)))))], hL [(1, .row 1 ((kbs key i).map slB))], uL [1]⟩
theorem mac_part {key : List UInt8} (h : key.length = 16) {n : Nat} (hn : n ≤ 10) : ((macM4 key).drop (16 * n)).take 16 = kb key n := by
  have hr := rkK_len h
  rw [← kb_part h hn]
  unfold macM4 mB
  rw [List.append_assoc, List.drop_append_of_le_length (by omega), List.take_append_of_le_length (by rw [List.length_drop]; omega)]
def rkySt (key : List UInt8) : Nat → St
  | 0 => ⟨ofL [(4, .w (.c (.ptr 2 1 0 0))), (5, .w (.c .nil)), (6, .w (.c (.d (.int .i64 0))))], hL [(2, .box ((macM4 key).map bC))], uL [2]⟩
  | n + 1 => ⟨ofL [(4, .w (.c (.ptr 2 1 0 0))), (5, .w (.c (.own 1 1 0 (n + 1)))), (6, .w (.c (.d (.int .i64 ((16 * (n + 1) : Nat) : Int)))))], hL [(1, .row 1 ((kbs key (n + 1)).map slB)), (2, .box ((macM4 key).map bC))], uL [1, 2]⟩
end Go.Proofs.Ytnadfnnkdnakhaa
