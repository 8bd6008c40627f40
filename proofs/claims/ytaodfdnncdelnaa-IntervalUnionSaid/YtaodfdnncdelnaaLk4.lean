/- The laws of layer 11: what Union and Common mean. Own work. -/
import Derived.Test.YtaodfdnncdelnaaAlV
import Derived.Test.YtaodfdnncdelnaaLk2
set_option linter.unusedVariables false
set_option linter.unusedSimpArgs false
namespace Go.Proofs.Ytaodfdnncdelnaa
open Go.RowKit

theorem fl_sb (p : Spn) (b : Bool) : V.flat (.tup [.c (.d (spD p)), .c (.d (.bool b))]) = true := rfl
theorem getZ {l : List Int} {j : Nat} (h : j < l.length) : l[j]? = some (l.getD j 0) := by
  rw [List.getD_eq_getElem?_getD, List.getElem?_eq_getElem h]; rfl
def spnE (l : List Int) (k : Nat) : Spn := (withinN (l.getD (2 * k) 0) 2000 - 1000, withinN (l.getD (2 * k) 0) 2000 - 1000 + withinN ((l.getD (2 * k + 1) 0).tdiv 4) 500)
def spnN (l : List Int) (j : Nat) : List Spn := (List.range j).map (spnE l)
theorem spnN_succ (l : List Int) (j : Nat) : spnN l (j + 1) = spnN l j ++ [spnE l j] := by
  unfold spnN; rw [List.range_succ, List.map_append]; rfl
theorem spnN_len (l : List Int) (j : Nat) : (spnN l j).length = j := by unfold spnN; rw [List.length_map, List.length_range]
theorem spnN_in {l : List Int} {j : Nat} {p : Spn} (h : p ∈ spnN l j) : -1000 ≤ p.1 ∧ p.1 ≤ p.2 ∧ p.2 ≤ 1498 := by
  obtain ⟨k, _, rfl⟩ := List.mem_map.1 h
  have := wsp_ok (l.getD (2 * k) 0) ((l.getD (2 * k + 1) 0).tdiv 4)
  unfold spnE
  dsimp only
  omega
theorem small_ok {p : Spn} (h : -1000 ≤ p.1 ∧ p.1 ≤ p.2 ∧ p.2 ≤ 1498) : okP p = true := decide_eq_true ⟨by omega, by omega, by omega⟩
def hS (T : Int) (p : Spn) : Bool := hldB p.1 p.2 T
theorem hS_iff {T : Int} {p : Spn} (h : okP p = true) : hS T p = true ↔ inS T p := by
  unfold hS hldB inS
  have : okP (p.1, p.2) = true := h
  rw [this, Bool.true_and, decide_eq_true_iff]
def kunA (l : List Int) (t : Int) (j : Nat) : St := ⟨ofL [(0, .w (.c (.d (.sl (l.map zD))))), (1, .w (.c (.d (.int .i64 t)))), (5, .w (.c (.own 1 2 0 j))), (6, .w (.c (.d (.int .i64 ((2 * j : Nat) : Int)))))], hL [(1, .row 2 ((spnN l j).map spD))], uL [1]⟩
def oneN (T : Int) (S : List Spn) (i : Nat) : Bool := (S.take i).any (hS T)
def allN (T : Int) (S : List Spn) (i : Nat) : Bool := decide (0 < S.length) && (S.take i).all (hS T)
theorem oneN_succ {T : Int} {S : List Spn} {i : Nat} (h : i < S.length) : oneN T S (i + 1) = (oneN T S i || hS T (S.getD i (0, 0))) := by
  unfold oneN; rw [takeS h, List.any_append]; simp
theorem allN_succ {T : Int} {S : List Spn} {i : Nat} (h : i < S.length) : allN T S (i + 1) = (allN T S i && hS T (S.getD i (0, 0))) := by
  unfold allN; rw [takeS h, List.all_append]; simp [Bool.and_assoc]
def kunB (T : Int) (S U : List Spn) (c : Spn) (ok : Bool) (i : Nat) : St := ⟨ofL [(1, .w (.c (.d (.int .i64 T)))), (5, .w (.c (.own 1 2 0 S.length))), (7, .w (.c (.d (.sl (U.map spD))))), (8, .w (.c (.d (.int .i64 0)))), (9, .w (.c (.ptr 3 1 0 0))), (10, .w (.c (.d (.bool ok)))), (11, .w (.c (.d (.bool (oneN T S i))))), (12, .w (.c (.d (.bool (allN T S i))))), (13, .w (.c (.d (.bool false)))), (14, .w (.c (.d (.int .i64 (i : Int)))))],
  hL [(1, .row 2 (S.map spD)), (3, .box [.d (.int .i64 c.1), .d (.int .i64 c.2)])], uL [1, 3]⟩
def kunC (T : Int) (S U : List Spn) (c : Spn) (ok : Bool) (i : Nat) : St := ⟨ofL [(1, .w (.c (.d (.int .i64 T)))), (7, .w (.c (.d (.sl (U.map spD))))), (8, .w (.c (.d (.int .i64 0)))), (9, .w (.c (.ptr 3 1 0 0))), (10, .w (.c (.d (.bool ok)))), (11, .w (.c (.d (.bool (oneN T S S.length))))), (12, .w (.c (.d (.bool (allN T S S.length))))), (13, .w (.c (.d (.bool (oneN T U i))))), (15, .w (.c (.d (.int .i64 (i : Int)))))],
  hL [(3, .box [.d (.int .i64 c.1), .d (.int .i64 c.2)])], uL [3]⟩
theorem any_in {T : Int} {S : List Spn} (h : ∀ p ∈ S, okP p = true) : oneN T S S.length = true ↔ inU T S := by
  unfold oneN
  rw [List.take_length, List.any_eq_true]
  constructor
  · rintro ⟨p, hp, k⟩
    exact ⟨p, hp, (hS_iff (h p hp)).1 k⟩
  · rintro ⟨p, hp, k⟩
    exact ⟨p, hp, (hS_iff (h p hp)).2 k⟩
theorem all_in {T : Int} {S : List Spn} (h : ∀ p ∈ S, okP p = true) : allN T S S.length = true ↔ S ≠ [] ∧ ∀ p ∈ S, inS T p := by
  unfold allN
  rw [List.take_length, Bool.and_eq_true, List.all_eq_true, decide_eq_true_iff, List.length_pos_iff]
  constructor
  · rintro ⟨a, b⟩
    exact ⟨a, fun p hp => (hS_iff (h p hp)).1 (b p hp)⟩
  · rintro ⟨a, b⟩
    exact ⟨a, fun p hp => (hS_iff (h p hp)).2 (b p hp)⟩
theorem bool_iff {a b : Bool} (h : a = true ↔ b = true) : a = b := by cases a <;> cases b <;> simp_all
theorem norm_gap : ∀ {u : List Spn}, normU u → ∀ i, 0 < i → i < u.length → (u.getD (i - 1) (0, 0)).2 + 2 ≤ (u.getD i (0, 0)).1
  | p :: r, h, i, h0, hi => by
    obtain ⟨j, rfl⟩ : ∃ j, i = j + 1 := ⟨i - 1, by omega⟩
    have hj : j < r.length := by simpa using hi
    rw [Nat.add_sub_cancel]
    cases j with
    | zero => exact h.2.1 _ (getS_mem hj)
    | succ j => exact norm_gap h.2.2 (j + 1) (by omega) hj
def lp_kuni_0 : SCode :=
  .seq (.seq (.reg [⟨(some 16), .mv (.t 6), none⟩,
    ⟨(some 17), .bin .add (.t 16) (.k (.c (.d (.int .i64 1)))), none⟩,
    ⟨(some 18), .mv (.t 0), none⟩,
    ⟨(some 19), .len (.t 18), none⟩,
    ⟨(some 20), .bin .lss (.t 17) (.t 19), none⟩,
    ⟨(some 21), .mv (.t 20), none⟩,
    ⟨(some 22), .mv (.t 6), (some (21, true))⟩,
    ⟨(some 23), .bin .lss (.t 22) (.k (.c (.d (.int .i64 40)))), (some (21, true))⟩,
    ⟨(some 24), .pick (.t 21) (.t 23) (.k (.c (.d (.bool false)))), none⟩])
  (.cond (.t 24) (.skip)
   (.exit 0)))
  (.seq (.block 1 (.reg [⟨(some 27), .mv (.t 5), none⟩,
     ⟨(some 28), .mv (.t 0), none⟩,
     ⟨(some 29), .mv (.t 6), none⟩,
     ⟨(some 30), .idxSl 1 (.t 28) (.t 29), none⟩,
     ⟨(some 31), .load .sc (.t 30), none⟩,
     ⟨(some 32), .mv (.t 0), none⟩,
     ⟨(some 33), .mv (.t 6), none⟩,
     ⟨(some 34), .bin .add (.t 33) (.k (.c (.d (.int .i64 1)))), none⟩,
     ⟨(some 35), .idxSl 1 (.t 32) (.t 34), none⟩,
     ⟨(some 36), .load .sc (.t 35), none⟩,
     ⟨(some 37), .bin .quo (.t 36) (.k (.c (.d (.int .i64 4)))), none⟩,
     ⟨(some 38), .call 37 [(.t 31), (.t 37)] none, none⟩,
     ⟨(some 39), .bldSl false 1 2 (.agg [(.int .i64 0), (.int .i64 0)]) [(0, (.t 38))], none⟩,
     ⟨(some 40), .app false 2 16 (.t 27) (.t 39), none⟩,
     ⟨(some 5), .mv (.t 40), none⟩]))
  (.reg [⟨(some 25), .mv (.t 6), none⟩,
    ⟨(some 26), .bin .add (.t 25) (.k (.c (.d (.int .i64 2)))), none⟩,
    ⟨(some 6), .mv (.t 26), none⟩]))
def lp_kuni_1 : SCode :=
  .seq (.seq (.reg [⟨(some 57), .mv (.t 14), none⟩,
    ⟨(some 58), .mv (.t 5), none⟩,
    ⟨(some 59), .len (.t 58), none⟩,
    ⟨(some 60), .bin .lss (.t 57) (.t 59), none⟩])
  (.cond (.t 60) (.skip)
   (.exit 2)))
  (.seq (.block 3 (.seq (.reg [⟨(some 63), .mv (.t 11), none⟩,
     ⟨(some 64), .mv (.t 63), none⟩,
     ⟨(some 65), .mv (.t 5), (some (64, false))⟩,
     ⟨(some 66), .mv (.t 14), (some (64, false))⟩,
     ⟨(some 67), .idxSl 2 (.t 65) (.t 66), (some (64, false))⟩,
     ⟨(some 68), .load (.ag 2) (.t 67), (some (64, false))⟩,
     ⟨(some 69), .mv (.t 1), (some (64, false))⟩,
     ⟨(some 70), .call 25 [(.t 68), (.t 69)] none, (some (64, false))⟩,
     ⟨(some 71), .pick (.t 64) (.k (.c (.d (.bool true)))) (.t 70), none⟩,
     ⟨(some 11), .mv (.t 71), none⟩])
   (.reg [⟨(some 72), .mv (.t 12), none⟩,
     ⟨(some 73), .mv (.t 72), none⟩,
     ⟨(some 74), .mv (.t 5), (some (73, true))⟩,
     ⟨(some 75), .mv (.t 14), (some (73, true))⟩,
     ⟨(some 76), .idxSl 2 (.t 74) (.t 75), (some (73, true))⟩,
     ⟨(some 77), .load (.ag 2) (.t 76), (some (73, true))⟩,
     ⟨(some 78), .mv (.t 1), (some (73, true))⟩,
     ⟨(some 79), .call 25 [(.t 77), (.t 78)] none, (some (73, true))⟩,
     ⟨(some 80), .pick (.t 73) (.t 79) (.k (.c (.d (.bool false)))), none⟩,
     ⟨(some 12), .mv (.t 80), none⟩])))
  (.reg [⟨(some 61), .mv (.t 14), none⟩,
    ⟨(some 62), .bin .add (.t 61) (.k (.c (.d (.int .i64 1)))), none⟩,
    ⟨(some 14), .mv (.t 62), none⟩]))
def lp_kuni_2 : SCode :=
  .seq (.seq (.reg [⟨(some 81), .mv (.t 15), none⟩,
    ⟨(some 82), .mv (.t 7), none⟩,
    ⟨(some 83), .len (.t 82), none⟩,
    ⟨(some 84), .bin .lss (.t 81) (.t 83), none⟩])
  (.cond (.t 84) (.skip)
   (.exit 4)))
  (.seq (.block 5 (.seq (.reg [⟨(some 87), .mv (.t 13), none⟩,
     ⟨(some 88), .mv (.t 87), none⟩,
     ⟨(some 89), .mv (.t 7), (some (88, false))⟩,
     ⟨(some 90), .mv (.t 15), (some (88, false))⟩,
     ⟨(some 91), .idxSl 2 (.t 89) (.t 90), (some (88, false))⟩,
     ⟨(some 92), .load (.ag 2) (.t 91), (some (88, false))⟩,
     ⟨(some 93), .mv (.t 1), (some (88, false))⟩,
     ⟨(some 94), .call 25 [(.t 92), (.t 93)] none, (some (88, false))⟩,
     ⟨(some 95), .pick (.t 88) (.k (.c (.d (.bool true)))) (.t 94), none⟩,
     ⟨(some 13), .mv (.t 95), none⟩])
   (.seq (.reg [⟨(some 96), .mv (.t 7), none⟩,
     ⟨(some 97), .mv (.t 15), none⟩,
     ⟨(some 98), .idxSl 2 (.t 96) (.t 97), none⟩,
     ⟨(some 99), .load (.ag 2) (.t 98), none⟩,
     ⟨(some 100), .call 23 [(.t 99)] none, none⟩,
     ⟨(some 101), .un .not (.t 100), none⟩,
     ⟨(some 102), .mv (.t 101), none⟩,
     ⟨(some 103), .mv (.t 15), (some (102, false))⟩,
     ⟨(some 104), .bin .gtr (.t 103) (.k (.c (.d (.int .i64 0)))), (some (102, false))⟩,
     ⟨(some 105), .mv (.t 104), (some (102, false))⟩,
     ⟨(some 106), .mv (.t 7), (some (105, true))⟩,
     ⟨(some 107), .mv (.t 15), (some (105, true))⟩,
     ⟨(some 108), .idxSl 2 (.t 106) (.t 107), (some (105, true))⟩,
     ⟨(some 109), .fieldAddr 0 (.t 108), (some (105, true))⟩,
     ⟨(some 110), .load .sc (.t 109), (some (105, true))⟩,
     ⟨(some 111), .mv (.t 7), (some (105, true))⟩,
     ⟨(some 112), .mv (.t 15), (some (105, true))⟩,
     ⟨(some 113), .bin .sub (.t 112) (.k (.c (.d (.int .i64 1)))), (some (105, true))⟩,
     ⟨(some 114), .idxSl 2 (.t 111) (.t 113), (some (105, true))⟩,
     ⟨(some 115), .fieldAddr 1 (.t 114), (some (105, true))⟩,
     ⟨(some 116), .load .sc (.t 115), (some (105, true))⟩,
     ⟨(some 117), .bin .add (.t 116) (.k (.c (.d (.int .i64 2)))), (some (105, true))⟩,
     ⟨(some 118), .bin .lss (.t 110) (.t 117), (some (105, true))⟩,
     ⟨(some 119), .pick (.t 105) (.t 118) (.k (.c (.d (.bool false)))), (some (102, false))⟩,
     ⟨(some 120), .pick (.t 102) (.k (.c (.d (.bool true)))) (.t 119), none⟩])
   (.cond (.t 120) (.seq (.reg [⟨(some 4), .mv (.k (.c (.d (.bool false)))), none⟩])
    (.ret))
    (.skip)))))
  (.reg [⟨(some 85), .mv (.t 15), none⟩,
    ⟨(some 86), .bin .add (.t 85) (.k (.c (.d (.int .i64 1)))), none⟩,
    ⟨(some 15), .mv (.t 86), none⟩]))
def sf_kuni : SFn := ⟨2, 141,
  .seq (.reg [⟨(some 4), .mv (.k (.c (.d (.bool false)))), none⟩])
  (.seq (.reg [⟨(some 5), .nilOwn 2, none⟩])
  (.seq (.seq (.reg [⟨(some 6), .mv (.k (.c (.d (.int .i64 0)))), none⟩])
  (.block 0 (.loop lp_kuni_0)))
  (.seq (.reg [⟨(some 41), .mv (.t 1), none⟩,
    ⟨(some 42), .call 38 [(.t 41), (.k (.c (.d (.int .i64 2400))))] none, none⟩,
    ⟨(some 43), .bin .sub (.t 42) (.k (.c (.d (.int .i64 1100)))), none⟩,
    ⟨(some 1), .mv (.t 43), none⟩])
  (.seq (.reg [⟨(some 45), .mv (.t 5), none⟩,
    ⟨(some 46), .call 34 [(.t 45)] none, none⟩,
    ⟨(some 44), .mv (.t 46), none⟩,
    ⟨(some 47), .extract (.t 44) 0, none⟩,
    ⟨(some 48), .extract (.t 44) 1, none⟩,
    ⟨(some 7), .mv (.t 47), none⟩,
    ⟨(some 8), .mv (.t 48), none⟩])
  (.seq (.reg [⟨(some 50), .mv (.t 5), none⟩,
    ⟨(some 51), .call 32 [(.t 50)] none, none⟩,
    ⟨(some 49), .mv (.t 51), none⟩,
    ⟨(some 52), .extract (.t 49) 0, none⟩,
    ⟨(some 53), .extract (.t 49) 1, none⟩,
    ⟨(some 9), .alloc [(.d (.int .i64 0)), (.d (.int .i64 0))], none⟩,
    ⟨none, .store (.ag 2) (.t 9) (.t 52), none⟩,
    ⟨(some 10), .mv (.t 53), none⟩])
  (.seq (.reg [⟨(some 54), .mv (.t 5), none⟩,
    ⟨(some 55), .len (.t 54), none⟩,
    ⟨(some 56), .bin .gtr (.t 55) (.k (.c (.d (.int .i64 0)))), none⟩,
    ⟨(some 11), .mv (.k (.c (.d (.bool false)))), none⟩,
    ⟨(some 12), .mv (.t 56), none⟩,
    ⟨(some 13), .mv (.k (.c (.d (.bool false)))), none⟩])
  (.seq (.seq (.reg [⟨(some 14), .mv (.k (.c (.d (.int .i64 0)))), none⟩])
  (.block 2 (.loop lp_kuni_1)))
  (.seq (.seq (.reg [⟨(some 15), .mv (.k (.c (.d (.int .i64 0)))), none⟩])
  (.block 4 (.loop lp_kuni_2)))
  (.seq (.reg [⟨(some 121), .call 21 [] none, none⟩,
    ⟨(some 122), .mv (.t 121), none⟩,
    ⟨(some 123), .mv (.t 8), (some (122, true))⟩,
    ⟨(some 124), .bin .eql (.t 123) (.k (.c (.d (.int .i64 0)))), (some (122, true))⟩,
    ⟨(some 125), .pick (.t 122) (.t 124) (.k (.c (.d (.bool false)))), none⟩,
    ⟨(some 126), .mv (.t 125), none⟩,
    ⟨(some 127), .mv (.t 13), (some (126, true))⟩,
    ⟨(some 128), .mv (.t 11), (some (126, true))⟩,
    ⟨(some 129), .eqB false (.t 127) (.t 128), (some (126, true))⟩,
    ⟨(some 130), .pick (.t 126) (.t 129) (.k (.c (.d (.bool false)))), none⟩,
    ⟨(some 131), .mv (.t 130), none⟩,
    ⟨(some 132), .mv (.t 10), (some (131, true))⟩,
    ⟨(some 133), .mv (.t 132), (some (131, true))⟩,
    ⟨(some 134), .load (.ag 2) (.t 9), (some (133, true))⟩,
    ⟨(some 135), .mv (.t 1), (some (133, true))⟩,
    ⟨(some 136), .call 25 [(.t 134), (.t 135)] none, (some (133, true))⟩,
    ⟨(some 137), .pick (.t 133) (.t 136) (.k (.c (.d (.bool false)))), (some (131, true))⟩,
    ⟨(some 138), .mv (.t 12), (some (131, true))⟩,
    ⟨(some 139), .eqB false (.t 137) (.t 138), (some (131, true))⟩,
    ⟨(some 140), .pick (.t 131) (.t 139) (.k (.c (.d (.bool false)))), none⟩,
    ⟨(some 4), .mv (.t 140), none⟩])
  (.ret)))))))))),
  [(4, none)]⟩
theorem cf_kuni : compFn Try.prog { own := [5], comp := [], frz := [], nils := [] } Try.f6 = some sf_kuni := by kernel_rfl
set_option maxHeartbeats 3200000 in
theorem kuni_c (G : Glob) (l : List Int) (hl1 : l.length ≤ maxLen) (hl2 : ∀ n ∈ l, fitI n) (t : Int) (ht1 : -9223372036854775808 ≤ t) (ht2 : t ≤ 9223372036854775807) : Den Try.prog G 6 [.sl (l.map zD), .int .i64 t] (.w (.c (.d (.bool true)))) := by
  refine den_walk Try.func6 cf_kuni rfl rfl ?_
  have hm : maxLen = 9223372036854775807 := rfl
  simp only [sf_kuni, putAll, wx, wy, wz, stV, seval, IntWalk.iteOmega, IntWalk.toNatUp, reduceCtorEq]
  refine loop_st (kunA l t) (fun j => 20 - j) (fun j => j ≤ 20 ∧ 2 * j ≤ l.length) 0 ⟨by omega, by omega⟩ ?_ ?_
  · have e0 : spnN l 0 = [] := rfl
    refine ent_l (fun _ => 40) ?_ ?_ rfl rfl <;> simp only [wx, wex, wez, stV, seval, IntWalk.iteOmega, IntWalk.toNatUp, reduceCtorEq, e0]
  · rintro j ⟨hj1, hj2⟩
    by_cases hc : 2 * j + 1 < l.length ∧ 2 * j < 40
    · obtain ⟨hc1, hc2⟩ := hc
      have g1 := getZ (l := l) (j := 2 * j) (by omega)
      have g2 := getZ (l := l) (j := 2 * j + 1) hc1
      have m1 : l.getD (2 * j) 0 ∈ l := by rw [List.getD_eq_getElem?_getD, List.getElem?_eq_getElem (by omega)]; exact List.getElem_mem _
      have m2 : l.getD (2 * j + 1) 0 ∈ l := by rw [List.getD_eq_getElem?_getD, List.getElem?_eq_getElem hc1]; exact List.getElem_mem _
      have b1 := hl2 _ m1
      have b2 := hl2 _ m2
      unfold fitI at b1 b2
      have cw := wspan_c G (l.getD (2 * j) 0) ((l.getD (2 * j + 1) 0).tdiv 4)
      have hs := spnN_succ l j
      have hs2 : ((spnN l j) ++ [spnE l j]).map spD = (spnN l j).map spD ++ [spD (spnE l j)] := List.map_append
      have hs3 := spnN_len l j
      have hsE : spD (spnE l j) = .agg [.int .i64 (withinN (l.getD (2 * j) 0) 2000 - 1000), .int .i64 (withinN (l.getD (2 * j) 0) 2000 - 1000 + withinN ((l.getD (2 * j + 1) 0).tdiv 4) 500)] := rfl
      rw [hsE] at hs2
      have tq : -9223372036854775808 ≤ (l.getD (2 * j + 1) 0).tdiv 4 ∧ (l.getD (2 * j + 1) 0).tdiv 4 ≤ 9223372036854775807 := by
        obtain ⟨f1, f2, f3, f4, f5⟩ := tdiv_facts (l.getD (2 * j + 1) 0) (b := 4) (by decide)
        omega
      generalize l.getD (2 * j) 0 = A at *
      generalize l.getD (2 * j + 1) 0 = B at *
      have e2j : 2 * (j : Int) + 2 = 2 * ((j : Int) + 1) := by omega
      simp only [lp_kuni_0, kunA, wx, wy, wz, stV, seval, IntWalk.iteOmega, IntWalk.toNatUp, reduceCtorEq, get_map, g1, g2, zD]
      refine st_call (cw) rfl (.inl rfl) ?_
      simp only [srcV, hs3, wx, wy, wz, stV, seval, IntWalk.iteOmega, IntWalk.toNatUp, reduceCtorEq]
      refine lop_next (j + 1) (by omega) ⟨by omega, by omega⟩ (ent_l (fun _ => 320) ?_ ?_ rfl rfl) <;> simp only [kunA, wx, wex, wez, stV, seval, IntWalk.iteOmega, IntWalk.toNatUp, reduceCtorEq, hs, hs2, e2j]
    · have hS0 := spnN_len l j
      have hSin : ∀ p ∈ spnN l j, -1000 ≤ p.1 ∧ p.1 ≤ p.2 ∧ p.2 ≤ 1498 := fun p hp => spnN_in hp
      generalize hSS : spnN l j = S at *
      have hSok : ∀ p ∈ S, okP p = true := fun p hp => small_ok (hSin p hp)
      have haO : allOk S = true := by unfold allOk; rw [List.all_eq_true]; exact hSok
      have hw := withinN_range t 2400 (by decide)
      have cw := within_c G t 2400 (by decide)
      generalize withinN t 2400 = W at *
      obtain ⟨T, hT⟩ : ∃ T, W - 1100 = T := ⟨_, rfl⟩
      have cu := iuni11_f G S (by omega)
      have cc := icom_c G S (by omega)
      have eE : uniEr S = 0 := by unfold uniEr; rw [if_pos haO, if_pos (by omega)]
      have eL : uniLs S = unionL S := if_pos ⟨haO, by omega⟩
      rw [eE, eL] at cu
      obtain ⟨n1, n2, n3⟩ := union_ok (l := S) (fun p hp => (hSin p hp).2.1)
      have hUin : ∀ p ∈ unionL S, -1000 ≤ p.1 ∧ p.1 ≤ p.2 ∧ p.2 ≤ 1498 := by
        intro p hp
        have hle := norm_mem n1 p hp
        obtain ⟨q1, hq1, a1, a2⟩ := (n2 p.1).1 ⟨p, hp, Int.le_refl _, hle⟩
        obtain ⟨q2, hq2, b1, b2⟩ := (n2 p.2).1 ⟨p, hp, hle, Int.le_refl _⟩
        have := hSin q1 hq1
        have := hSin q2 hq2
        omega
      have hUok : ∀ p ∈ unionL S, okP p = true := fun p hp => small_ok (hUin p hp)
      have hone : oneN T (unionL S) (unionL S).length = oneN T S S.length := bool_iff (by rw [any_in hUok, any_in hSok, n2])
      have hgap := norm_gap n1
      have hall : ((comL S).isSome && hS T (cmV (comL S))) = allN T S S.length := by
        apply bool_iff
        rw [all_in hSok, Bool.and_eq_true]
        cases hc : comL S with
        | none =>
          constructor
          · rintro ⟨h, _⟩; cases h
          · rintro ⟨h1, h2⟩
            have := com_ex h1 hSok h2
            rw [hc] at this; cases this
        | some c =>
          obtain ⟨s1, s2, s3, s4⟩ := com_some hc
          show (true = true ∧ hS T c = true) ↔ _
          rw [hS_iff s3, s4]
          exact ⟨fun h => ⟨s1, h.2⟩, fun h => ⟨rfl, h.2⟩⟩
      generalize hcV : cmV (comL S) = C at *
      generalize hcK : (comL S).isSome = ok at *
      generalize unionL S = U at *
      have hexit : ∀ (X : Prop), ¬ (2 * j + 1 < l.length ∧ 2 * j < 40) → True := fun _ _ => trivial
      have hUl : U.length ≤ 20 := by omega
      have hsd : spD C = .agg [.int .i64 C.1, .int .i64 C.2] := rfl
      subst hS0
      have hgt0 : ((S.length : Int) > 0) = (0 < S.length) := by
        apply propext; omega
      have hd0 : (if (S.length : Int) > 0 then true else false) = decide (0 < S.length) := by
        by_cases h : 0 < S.length
        · rw [decide_eq_true h, if_pos (by omega)]
        · rw [decide_eq_false h, if_neg (by omega)]
      have hcc : 2 * S.length + 1 < l.length ∧ 40 ≤ 2 * S.length ∨ l.length ≤ 2 * S.length + 1 ∧ 2 * S.length ≤ l.length := by omega
      rcases hcc with ⟨hc1, hc2⟩ | ⟨hc1, hc2⟩
      all_goals
        simp only [lp_kuni_0, kunA, wx, wy, wz, stV, seval, IntWalk.iteOmega, IntWalk.toNatUp, reduceCtorEq, hSS]
        refine st_call (cw) rfl (.inl rfl) ?_
        simp only [hT, wx, wy, wz, stV, seval, IntWalk.iteOmega, IntWalk.toNatUp, reduceCtorEq]
        refine st_call cu (by simp only [wx, wy, wz, stV, seval, IntWalk.iteOmega, IntWalk.toNatUp, reduceCtorEq]) (.inr (fl_sp _ _ _ _)) ?_
        simp only [wx, wy, wz, stV, seval, IntWalk.iteOmega, IntWalk.toNatUp, reduceCtorEq]
        refine st_call cc (by simp only [wx, wy, wz, stV, seval, IntWalk.iteOmega, IntWalk.toNatUp, reduceCtorEq]) (.inr (fl_sb _ _)) ?_
        simp only [wx, wy, wz, stV, seval, IntWalk.iteOmega, IntWalk.toNatUp, reduceCtorEq, hsd]
        refine loop_st (kunB T S U C ok) (fun i => S.length - i) (fun i => i ≤ S.length) 0 (Nat.zero_le _) ?_ ?_
        · have e1 : oneN T S 0 = false := rfl
          have e2 : allN T S 0 = if (S.length : Int) > 0 then true else false := by rw [hd0]; unfold allN; rw [List.take_zero]; simp
          refine ent_l (fun i => if i = 1 then 1 else 72) ?_ ?_ rfl rfl <;> simp only [wx, wex, wez, stV, seval, IntWalk.iteOmega, IntWalk.toNatUp, reduceCtorEq, e1, e2]
        · intro i hi
          by_cases hlt : i < S.length
          · have g := getS hlt
            have f1 := oneN_succ (T := T) hlt
            have f2 := allN_succ (T := T) hlt
            have ch := rhld_c G (S.getD i (0, 0)).1 (S.getD i (0, 0)).2 T
            have eh : hldB (S.getD i (0, 0)).1 (S.getD i (0, 0)).2 T = hS T (S.getD i (0, 0)) := rfl
            rw [eh] at ch
            have hsp : spD (S.getD i (0, 0)) = .agg [.int .i64 (S.getD i (0, 0)).1, .int .i64 (S.getD i (0, 0)).2] := rfl
            cases ho : oneN T S i <;> cases ha : allN T S i <;> rw [ho] at f1 <;> rw [ha] at f2
            · rw [Bool.false_or] at f1
              rw [Bool.false_and] at f2
              simp only [lp_kuni_1, kunB, wx, wy, wz, stV, seval, IntWalk.iteOmega, IntWalk.toNatUp, reduceCtorEq, get_map, g, hsp, ho, ha]
              refine st_call (ch) rfl (.inl rfl) ?_
              simp only [wx, wy, wz, stV, seval, IntWalk.iteOmega, IntWalk.toNatUp, reduceCtorEq]
              refine lop_next (i + 1) (by omega) (by omega) (ent_l (fun i => i) ?_ ?_ rfl rfl) <;> simp only [wx, wex, wez, stV, seval, IntWalk.iteOmega, IntWalk.toNatUp, reduceCtorEq, f1, f2]
            · rw [Bool.false_or] at f1
              rw [Bool.true_and] at f2
              simp only [lp_kuni_1, kunB, wx, wy, wz, stV, seval, IntWalk.iteOmega, IntWalk.toNatUp, reduceCtorEq, get_map, g, hsp, ho, ha]
              refine st_call (ch) rfl (.inl rfl) ?_
              simp only [get_map, g, hsp, wx, wy, wz, stV, seval, IntWalk.iteOmega, IntWalk.toNatUp, reduceCtorEq]
              refine st_call (ch) rfl (.inl rfl) ?_
              simp only [wx, wy, wz, stV, seval, IntWalk.iteOmega, IntWalk.toNatUp, reduceCtorEq]
              refine lop_next (i + 1) (by omega) (by omega) (ent_l (fun i => i) ?_ ?_ rfl rfl) <;> simp only [wx, wex, wez, stV, seval, IntWalk.iteOmega, IntWalk.toNatUp, reduceCtorEq, f1, f2]
            · rw [Bool.true_or] at f1
              rw [Bool.false_and] at f2
              simp only [lp_kuni_1, kunB, wx, wy, wz, stV, seval, IntWalk.iteOmega, IntWalk.toNatUp, reduceCtorEq, get_map, g, hsp, ho, ha]
              refine lop_next (i + 1) (by omega) (by omega) (ent_l (fun i => i) ?_ ?_ rfl rfl) <;> simp only [wx, wex, wez, stV, seval, IntWalk.iteOmega, IntWalk.toNatUp, reduceCtorEq, f1, f2]
            · rw [Bool.true_or] at f1
              rw [Bool.true_and] at f2
              simp only [lp_kuni_1, kunB, wx, wy, wz, stV, seval, IntWalk.iteOmega, IntWalk.toNatUp, reduceCtorEq, get_map, g, hsp, ho, ha]
              refine st_call (ch) rfl (.inl rfl) ?_
              simp only [wx, wy, wz, stV, seval, IntWalk.iteOmega, IntWalk.toNatUp, reduceCtorEq]
              refine lop_next (i + 1) (by omega) (by omega) (ent_l (fun i => i) ?_ ?_ rfl rfl) <;> simp only [wx, wex, wez, stV, seval, IntWalk.iteOmega, IntWalk.toNatUp, reduceCtorEq, f1, f2]
          · have hi2 : i = S.length := by omega
            simp only [lp_kuni_1, kunB, wx, wy, wz, stV, seval, IntWalk.iteOmega, IntWalk.toNatUp, reduceCtorEq, hi2]
            refine loop_st (kunC T S U C ok) (fun i => U.length - i) (fun i => i ≤ U.length) 0 (Nat.zero_le _) ?_ ?_
            · have e1 : oneN T U 0 = false := rfl
              refine ent_l (fun i => i) ?_ ?_ rfl rfl <;> simp only [wx, wex, wez, stV, seval, IntWalk.iteOmega, IntWalk.toNatUp, reduceCtorEq, e1]
            · intro n hn
              by_cases hlt2 : n < U.length
              · have g := getS hlt2
                have f1 := oneN_succ (T := T) hlt2
                have ch := rhld_c G (U.getD n (0, 0)).1 (U.getD n (0, 0)).2 T
                have eh : hldB (U.getD n (0, 0)).1 (U.getD n (0, 0)).2 T = hS T (U.getD n (0, 0)) := rfl
                rw [eh] at ch
                have cv := rsv_c G (U.getD n (0, 0)).1 (U.getD n (0, 0)).2
                have ev : okP ((U.getD n (0, 0)).1, (U.getD n (0, 0)).2) = true := hUok _ (getS_mem hlt2)
                rw [ev] at cv
                have hsp : spD (U.getD n (0, 0)) = .agg [.int .i64 (U.getD n (0, 0)).1, .int .i64 (U.getD n (0, 0)).2] := rfl
                have hb1 := hUin _ (getS_mem hlt2)
                by_cases h0 : 0 < n
                · have hg := hgap n h0 hlt2
                  have g2 := getS (l := U) (j := n - 1) (by omega)
                  have hb2 := hUin _ (getS_mem (l := U) (j := n - 1) (by omega))
                  have hsp2 : spD (U.getD (n - 1) (0, 0)) = .agg [.int .i64 (U.getD (n - 1) (0, 0)).1, .int .i64 (U.getD (n - 1) (0, 0)).2] := rfl
                  have hn1 : ((n : Int) - 1).toNat = n - 1 := by omega
                  have hgt : ((n : Int) > 0) = True := eq_true (by omega)
                  cases ho : oneN T U n <;> rw [ho] at f1
                  · rw [Bool.false_or] at f1
                    simp only [lp_kuni_2, kunC, wx, wy, wz, stV, seval, IntWalk.iteOmega, IntWalk.toNatUp, reduceCtorEq, get_map, g, hsp, ho]
                    refine st_call (ch) rfl (.inl rfl) ?_
                    simp only [get_map, g, hsp, wx, wy, wz, stV, seval, IntWalk.iteOmega, IntWalk.toNatUp, reduceCtorEq]
                    refine st_call (cv) rfl (.inl rfl) ?_
                    simp only [get_map, g, g2, hsp, hsp2, hgt, hn1, wx, wy, wz, stV, seval, IntWalk.iteOmega, IntWalk.toNatUp, reduceCtorEq]
                    refine lop_next (n + 1) (by omega) (by omega) (ent_l (fun i => i) ?_ ?_ rfl rfl) <;> simp only [wx, wex, wez, stV, seval, IntWalk.iteOmega, IntWalk.toNatUp, reduceCtorEq, f1]
                  · rw [Bool.true_or] at f1
                    simp only [lp_kuni_2, kunC, wx, wy, wz, stV, seval, IntWalk.iteOmega, IntWalk.toNatUp, reduceCtorEq, get_map, g, hsp, ho]
                    refine st_call (cv) rfl (.inl rfl) ?_
                    simp only [get_map, g, g2, hsp, hsp2, hgt, hn1, wx, wy, wz, stV, seval, IntWalk.iteOmega, IntWalk.toNatUp, reduceCtorEq]
                    refine lop_next (n + 1) (by omega) (by omega) (ent_l (fun i => i) ?_ ?_ rfl rfl) <;> simp only [wx, wex, wez, stV, seval, IntWalk.iteOmega, IntWalk.toNatUp, reduceCtorEq, f1]
                · obtain rfl : n = 0 := by omega
                  have hgt : ((0 : Int) > 0) = False := eq_false (by decide)
                  have ho : oneN T U 0 = false := rfl
                  rw [ho, Bool.false_or] at f1
                  simp only [lp_kuni_2, kunC, wx, wy, wz, stV, seval, IntWalk.iteOmega, IntWalk.toNatUp, reduceCtorEq, get_map, g, hsp, ho]
                  refine st_call (ch) rfl (.inl rfl) ?_
                  simp only [get_map, g, hsp, wx, wy, wz, stV, seval, IntWalk.iteOmega, IntWalk.toNatUp, reduceCtorEq]
                  refine st_call (cv) rfl (.inl rfl) ?_
                  simp only [hgt, wx, wy, wz, stV, seval, IntWalk.iteOmega, IntWalk.toNatUp, reduceCtorEq]
                  refine lop_next 1 (by omega) (by omega) (ent_l (fun i => i) ?_ ?_ rfl rfl) <;> simp only [wx, wex, wez, stV, seval, IntWalk.iteOmega, IntWalk.toNatUp, reduceCtorEq, f1]
              · have hnU : n = U.length := by omega
                have cC := rhld_c G C.1 C.2 T
                have eC : hldB C.1 C.2 T = hS T C := rfl
                rw [eC] at cC
                cases hk : ok <;> rw [hk] at hall
                · rw [Bool.false_and] at hall
                  simp only [lp_kuni_2, kunC, wx, wy, wz, stV, seval, IntWalk.iteOmega, IntWalk.toNatUp, reduceCtorEq, hnU, hone, ← hall, hk]
                  refine st_call (known11_c G) rfl (.inl rfl) ?_
                  simp only [wx, wy, wz, stV, seval, IntWalk.iteOmega, IntWalk.toNatUp, reduceCtorEq]
                  exact ret_d1 (by simp only [wx, wy, wz, stV, seval, IntWalk.iteOmega, IntWalk.toNatUp, reduceCtorEq])
                · rw [Bool.true_and] at hall
                  simp only [lp_kuni_2, kunC, wx, wy, wz, stV, seval, IntWalk.iteOmega, IntWalk.toNatUp, reduceCtorEq, hnU, hone, ← hall, hk]
                  refine st_call (known11_c G) rfl (.inl rfl) ?_
                  simp only [wx, wy, wz, stV, seval, IntWalk.iteOmega, IntWalk.toNatUp, reduceCtorEq]
                  refine st_call (cC) rfl (.inl rfl) ?_
                  simp only [wx, wy, wz, stV, seval, IntWalk.iteOmega, IntWalk.toNatUp, reduceCtorEq]
                  exact ret_d1 (by simp only [wx, wy, wz, stV, seval, IntWalk.iteOmega, IntWalk.toNatUp, reduceCtorEq])
end Go.Proofs.Ytaodfdnncdelnaa
