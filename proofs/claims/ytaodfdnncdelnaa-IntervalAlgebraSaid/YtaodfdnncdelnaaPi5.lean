/- Layer 11 on data: the reference's Union. Own work. -/
import Derived.Test.YtaodfdnncdelnaaPi4
set_option linter.unusedVariables false
set_option linter.unusedSimpArgs false
namespace Go.Proofs.Ytaodfdnncdelnaa
open Go.RowKit

/-! ### Are all valid? -/
def allOk (l : List Spn) : Bool := l.all okP
def unaSt (l : List Spn) (i : Nat) : St := ⟨ofL [(0, .w (.c (.d (.sl (l.map spD))))), (4, .w (.c (.d (.int .i64 (i : Int)))))], hL [], uL []⟩
theorem allOk_f {l : List Spn} {i : Nat} (h : i < l.length) (hv : okP (l.getD i (0, 0)) = false) : allOk l = false := by
  unfold allOk
  rw [List.all_eq_false]
  exact ⟨l.getD i (0, 0), getS_mem h, by rw [hv]; simp⟩
theorem allOk_take {l : List Spn} {i : Nat} (h : i < l.length) : allOk (l.take (i + 1)) = (allOk (l.take i) && okP (l.getD i (0, 0))) := by
  unfold allOk
  rw [takeS h, List.all_append]
  simp
def uniEr (l : List Spn) : Int := if allOk l = true then (if l.length ≤ 64 then 0 else 8) else 3
def uniLs (l : List Spn) : List Spn := if allOk l = true ∧ l.length ≤ 64 then unionL l else []
/-! ### The least -/
def unbSt (out : List Spn) (r : List Spn) (i : Nat) : St := ⟨ofL [(5, .w (.c (.d (.sl (r.map spD))))), (6, .w (.c (.own 1 2 0 out.length))), (7, .w (.c (.d (.int .i64 (leastN r i : Int))))), (8, .w (.c (.d (.int .i64 (i : Int)))))],
  hL [(1, .row 2 (out.map spD))], uL [1]⟩
/-! ### A pass -/
def scnN (r : List Spn) (h : Int) (i : Nat) : Pas := (r.take i).foldl scanS ⟨h, false, []⟩
theorem scnN_succ {r : List Spn} {h : Int} {i : Nat} (hi : i < r.length) : scnN r h (i + 1) = scanS (scnN r h i) (r.getD i (0, 0)) := by
  unfold scnN
  rw [takeS hi, List.foldl_append]; rfl
theorem scnN_all (r : List Spn) (h : Int) : scnN r h r.length = scanU r h := by
  unfold scnN scanU
  rw [List.take_length]
def uncSt (out : List Spn) (lo : Int) (r : List Spn) (h : Int) (i : Nat) : St := ⟨ofL [(5, .w (.c (.d (.sl (r.map spD))))), (6, .w (.c (.own 1 2 0 out.length))), (9, .w (.c (.ptr 2 1 0 0))), (10, .w (.c (.d (.bool (scnN r h i).again)))), (11, .w (.c (.own 3 2 0 (scnN r h i).left.length))), (12, .w (.c (.d (.int .i64 (i : Int)))))],
  hL [(1, .row 2 (out.map spD)), (2, .box [.d (.int .i64 lo), .d (.int .i64 (scnN r h i).hi)]), (3, .row 2 ((scnN r h i).left.map spD))], uL [1, 2, 3]⟩
/-! ### Passes -/
def undSt (out : List Spn) (lo h : Int) (r : List Spn) (k : Nat) : St := ⟨ofL [(5, .w (.c (.d (.sl ((passN h r k).left.map spD))))), (6, .w (.c (.own 1 2 0 out.length))), (9, .w (.c (.ptr 2 1 0 0))), (10, .w (.c (.d (.bool (passN h r k).again))))],
  hL [(1, .row 2 (out.map spD)), (2, .box [.d (.int .i64 lo), .d (.int .i64 (passN h r k).hi)])], uL [1, 2]⟩
/-! ### Spans taken -/
def uneSt (l : List Spn) (k : Nat) : St := ⟨ofL [(5, .w (.c (.d (.sl ((unjN l k).rest.map spD))))), (6, .w (.c (.own 1 2 0 (unjN l k).out.length)))], hL [(1, .row 2 ((unjN l k).out.map spD))], uL [1]⟩
theorem allOk_le {l : List Spn} (h : allOk l = true) : ∀ p ∈ l, -1152921504606846976 ≤ p.1 ∧ p.2 ≤ 1152921504606846976 ∧ p.1 ≤ p.2 := by
  unfold allOk at h
  rw [List.all_eq_true] at h
  exact fun p hp => okP_t (h p hp)
theorem scn_in {L M h : Int} {r : List Spn} (h1 : L ≤ h) (h2 : h ≤ M) (hr : ∀ p ∈ r, L ≤ p.1 ∧ p.1 ≤ p.2 ∧ p.2 ≤ M) (i : Nat) : L ≤ (scnN r h i).hi ∧ (scnN r h i).hi ≤ M ∧ (scnN r h i).left.length ≤ r.length := by
  have hr' : ∀ p ∈ r.take i, L ≤ p.1 ∧ p.1 ≤ p.2 := fun p hp => ⟨(hr p (List.mem_of_mem_take hp)).1, (hr p (List.mem_of_mem_take hp)).2.1⟩
  obtain ⟨a1, a2, _, _, _, a6⟩ := scan_spec L (r.take i) ⟨h, false, []⟩ h1 hr'
  have e : (r.take i).foldl scanS ⟨h, false, []⟩ = scnN r h i := rfl
  rw [e] at a1 a2 a6
  dsimp only at a1
  have hlo : L ≤ (scnN r h i).hi := Int.le_trans h1 a1
  refine ⟨hlo, ?_, ?_⟩
  · rcases (a6 _).1 (.inl ⟨hlo, Int.le_refl _⟩) with k | k | ⟨p, hp, k⟩
    · exact Int.le_trans k.2 h2
    · exact absurd k (inU_nil _)
    · exact Int.le_trans k.2 (hr p (List.mem_of_mem_take hp)).2.2
  · rw [List.length_take] at a2
    simp only [List.length_nil] at a2
    omega
theorem pas_in {L M h : Int} {r : List Spn} (h1 : L ≤ h) (h2 : h ≤ M) (hr : ∀ p ∈ r, L ≤ p.1 ∧ p.1 ≤ p.2 ∧ p.2 ≤ M) (k : Nat) : L ≤ (passN h r k).hi ∧ (passN h r k).hi ≤ M ∧ (passN h r k).left.length ≤ r.length ∧ (∀ p ∈ (passN h r k).left, L ≤ p.1 ∧ p.1 ≤ p.2 ∧ p.2 ≤ M) := by
  have ko := passN_ok h1 (fun p hp => ⟨(hr p hp).1, (hr p hp).2.1⟩) k
  refine ⟨ko.lo, ?_, ko.len, fun p hp => hr p (ko.mem p hp)⟩
  rcases (ko.cov _).1 (.inl ⟨ko.lo, Int.le_refl _⟩) with k | ⟨p, hp, k⟩
  · exact Int.le_trans k.2 h2
  · exact Int.le_trans k.2 (hr p hp).2.2
theorem scn_pass (h : Int) (r : List Spn) (k : Nat) : scnN (passN h r k).left (passN h r k).hi (passN h r k).left.length = passN h r (k + 1) := scnN_all _ _
theorem scanS_j {s : Pas} {p : Spn} (h : p.1 ≤ s.hi + 1) : scanS s p = ⟨max s.hi p.2, s.again || decide (p.2 > s.hi), s.left⟩ := if_pos h
theorem scanS_n {s : Pas} {p : Spn} (h : ¬ p.1 ≤ s.hi + 1) : scanS s p = ⟨s.hi, s.again, s.left ++ [p]⟩ := if_neg h
def lp_runi11_0 : SCode :=
  .seq (.seq (.reg [⟨(some 13), .mv (.t 4), none⟩,
    ⟨(some 14), .mv (.t 0), none⟩,
    ⟨(some 15), .len (.t 14), none⟩,
    ⟨(some 16), .bin .lss (.t 13) (.t 15), none⟩])
  (.cond (.t 16) (.skip)
   (.exit 0)))
  (.seq (.block 1 (.seq (.reg [⟨(some 19), .mv (.t 0), none⟩,
     ⟨(some 20), .mv (.t 4), none⟩,
     ⟨(some 21), .idxSl 2 (.t 19) (.t 20), none⟩,
     ⟨(some 22), .load (.ag 2) (.t 21), none⟩,
     ⟨(some 23), .call 23 [(.t 22)] none, none⟩,
     ⟨(some 24), .un .not (.t 23), none⟩])
   (.cond (.t 24) (.seq (.reg [⟨(some 2), .mv (.k (.c .nil)), none⟩,
      ⟨(some 3), .mv (.k (.c (.d (.int .i64 3)))), none⟩])
    (.ret))
    (.skip))))
  (.reg [⟨(some 17), .mv (.t 4), none⟩,
    ⟨(some 18), .bin .add (.t 17) (.k (.c (.d (.int .i64 1)))), none⟩,
    ⟨(some 4), .mv (.t 18), none⟩]))
def lp_runi11_1 : SCode :=
  .seq (.seq (.reg [⟨(some 34), .mv (.t 8), none⟩,
    ⟨(some 35), .mv (.t 5), none⟩,
    ⟨(some 36), .len (.t 35), none⟩,
    ⟨(some 37), .bin .lss (.t 34) (.t 36), none⟩])
  (.cond (.t 37) (.skip)
   (.exit 4)))
  (.seq (.block 5 (.seq (.reg [⟨(some 40), .mv (.t 5), none⟩,
     ⟨(some 41), .mv (.t 8), none⟩,
     ⟨(some 42), .idxSl 2 (.t 40) (.t 41), none⟩,
     ⟨(some 43), .fieldAddr 0 (.t 42), none⟩,
     ⟨(some 44), .load .sc (.t 43), none⟩,
     ⟨(some 45), .mv (.t 5), none⟩,
     ⟨(some 46), .mv (.t 7), none⟩,
     ⟨(some 47), .idxSl 2 (.t 45) (.t 46), none⟩,
     ⟨(some 48), .fieldAddr 0 (.t 47), none⟩,
     ⟨(some 49), .load .sc (.t 48), none⟩,
     ⟨(some 50), .bin .lss (.t 44) (.t 49), none⟩])
   (.cond (.t 50) (.reg [⟨(some 51), .mv (.t 8), none⟩,
      ⟨(some 7), .mv (.t 51), none⟩])
    (.skip))))
  (.reg [⟨(some 38), .mv (.t 8), none⟩,
    ⟨(some 39), .bin .add (.t 38) (.k (.c (.d (.int .i64 1)))), none⟩,
    ⟨(some 8), .mv (.t 39), none⟩]))
def lp_runi11_2 : SCode :=
  .seq (.seq (.reg [⟨(some 57), .mv (.t 12), none⟩,
    ⟨(some 58), .mv (.t 5), none⟩,
    ⟨(some 59), .len (.t 58), none⟩,
    ⟨(some 60), .bin .lss (.t 57) (.t 59), none⟩])
  (.cond (.t 60) (.skip)
   (.exit 8)))
  (.seq (.block 9 (.seq (.reg [⟨(some 63), .mv (.t 5), none⟩,
     ⟨(some 64), .mv (.t 12), none⟩,
     ⟨(some 65), .idxSl 2 (.t 63) (.t 64), none⟩,
     ⟨(some 66), .fieldAddr 0 (.t 65), none⟩,
     ⟨(some 67), .load .sc (.t 66), none⟩,
     ⟨(some 68), .fieldAddr 1 (.t 9), none⟩,
     ⟨(some 69), .load .sc (.t 68), none⟩,
     ⟨(some 70), .bin .add (.t 69) (.k (.c (.d (.int .i64 1)))), none⟩,
     ⟨(some 71), .bin .leq (.t 67) (.t 70), none⟩])
   (.cond (.t 71) (.seq (.reg [⟨(some 72), .mv (.t 10), none⟩,
      ⟨(some 73), .mv (.t 72), none⟩,
      ⟨(some 74), .mv (.t 5), (some (73, false))⟩,
      ⟨(some 75), .mv (.t 12), (some (73, false))⟩,
      ⟨(some 76), .idxSl 2 (.t 74) (.t 75), (some (73, false))⟩,
      ⟨(some 77), .fieldAddr 1 (.t 76), (some (73, false))⟩,
      ⟨(some 78), .load .sc (.t 77), (some (73, false))⟩,
      ⟨(some 79), .fieldAddr 1 (.t 9), (some (73, false))⟩,
      ⟨(some 80), .load .sc (.t 79), (some (73, false))⟩,
      ⟨(some 81), .bin .gtr (.t 78) (.t 80), (some (73, false))⟩,
      ⟨(some 82), .pick (.t 73) (.k (.c (.d (.bool true)))) (.t 81), none⟩,
      ⟨(some 10), .mv (.t 82), none⟩])
    (.reg [⟨(some 83), .fieldAddr 1 (.t 9), none⟩,
      ⟨(some 84), .load .sc (.t 83), none⟩,
      ⟨(some 85), .mv (.t 5), none⟩,
      ⟨(some 86), .mv (.t 12), none⟩,
      ⟨(some 87), .idxSl 2 (.t 85) (.t 86), none⟩,
      ⟨(some 88), .fieldAddr 1 (.t 87), none⟩,
      ⟨(some 89), .load .sc (.t 88), none⟩,
      ⟨(some 90), .max [(.t 84), (.t 89)], none⟩,
      ⟨(some 91), .fieldAddr 1 (.t 9), none⟩,
      ⟨none, .store .sc (.t 91) (.t 90), none⟩]))
    (.reg [⟨(some 92), .mv (.t 11), none⟩,
      ⟨(some 93), .mv (.t 5), none⟩,
      ⟨(some 94), .mv (.t 12), none⟩,
      ⟨(some 95), .idxSl 2 (.t 93) (.t 94), none⟩,
      ⟨(some 96), .load (.ag 2) (.t 95), none⟩,
      ⟨(some 97), .bldSl false 1 2 (.agg [(.int .i64 0), (.int .i64 0)]) [(0, (.t 96))], none⟩,
      ⟨(some 98), .app false 2 16 (.t 92) (.t 97), none⟩,
      ⟨(some 11), .mv (.t 98), none⟩]))))
  (.reg [⟨(some 61), .mv (.t 12), none⟩,
    ⟨(some 62), .bin .add (.t 61) (.k (.c (.d (.int .i64 1)))), none⟩,
    ⟨(some 12), .mv (.t 62), none⟩]))
def lp_runi11_3 : SCode :=
  .seq (.seq (.reg [⟨(some 56), .mv (.t 10), none⟩])
  (.cond (.t 56) (.skip)
   (.exit 6)))
  (.block 7 (.seq (.reg [⟨(some 10), .mv (.k (.c (.d (.bool false)))), none⟩])
   (.seq (.reg [⟨(some 11), .nilOwn 2, none⟩])
   (.seq (.seq (.reg [⟨(some 12), .mv (.k (.c (.d (.int .i64 0)))), none⟩])
   (.block 8 (.loop lp_runi11_2)))
   (.reg [⟨(some 99), .mv (.t 11), none⟩,
     ⟨(some 5), .frz (.t 99), none⟩])))))
def lp_runi11_4 : SCode :=
  .seq (.seq (.reg [⟨(some 31), .mv (.t 5), none⟩,
    ⟨(some 32), .len (.t 31), none⟩,
    ⟨(some 33), .bin .gtr (.t 32) (.k (.c (.d (.int .i64 0)))), none⟩])
  (.cond (.t 33) (.skip)
   (.exit 2)))
  (.block 3 (.seq (.reg [⟨(some 7), .mv (.k (.c (.d (.int .i64 0)))), none⟩])
   (.seq (.seq (.reg [⟨(some 8), .mv (.k (.c (.d (.int .i64 1)))), none⟩])
   (.block 4 (.loop lp_runi11_1)))
   (.seq (.reg [⟨(some 52), .mv (.t 5), none⟩,
     ⟨(some 53), .mv (.t 7), none⟩,
     ⟨(some 54), .idxSl 2 (.t 52) (.t 53), none⟩,
     ⟨(some 55), .load (.ag 2) (.t 54), none⟩,
     ⟨(some 9), .alloc [(.d (.int .i64 0)), (.d (.int .i64 0))], none⟩,
     ⟨none, .store (.ag 2) (.t 9) (.t 55), none⟩])
   (.seq (.seq (.reg [⟨(some 10), .mv (.k (.c (.d (.bool true)))), none⟩])
   (.block 6 (.loop lp_runi11_3)))
   (.reg [⟨(some 100), .mv (.t 6), none⟩,
     ⟨(some 101), .load (.ag 2) (.t 9), none⟩,
     ⟨(some 102), .bldSl false 1 2 (.agg [(.int .i64 0), (.int .i64 0)]) [(0, (.t 101))], none⟩,
     ⟨(some 103), .app false 2 16 (.t 100) (.t 102), none⟩,
     ⟨(some 6), .mv (.t 103), none⟩]))))))
def sf_runi11 : SFn := ⟨1, 105,
  .seq (.reg [⟨(some 2), .mv (.k (.c .nil)), none⟩,
    ⟨(some 3), .mv (.k (.c (.d (.int .i64 0)))), none⟩])
  (.seq (.seq (.reg [⟨(some 4), .mv (.k (.c (.d (.int .i64 0)))), none⟩])
  (.block 0 (.loop lp_runi11_0)))
  (.seq (.seq (.reg [⟨(some 25), .mv (.t 0), none⟩,
    ⟨(some 26), .len (.t 25), none⟩,
    ⟨(some 27), .bin .gtr (.t 26) (.k (.c (.d (.int .i64 64)))), none⟩])
  (.cond (.t 27) (.seq (.reg [⟨(some 2), .mv (.k (.c .nil)), none⟩,
     ⟨(some 3), .mv (.k (.c (.d (.int .i64 8)))), none⟩])
   (.ret))
   (.skip)))
  (.seq (.reg [⟨(some 28), .bldSl false 0 2 (.agg [(.int .i64 0), (.int .i64 0)]) [], none⟩,
    ⟨(some 29), .mv (.t 0), none⟩,
    ⟨(some 30), .appN false 2 16 (.t 28) (.t 29), none⟩,
    ⟨(some 5), .frz (.t 30), none⟩])
  (.seq (.reg [⟨(some 6), .nilOwn 2, none⟩])
  (.seq (.block 2 (.loop lp_runi11_4))
  (.seq (.reg [⟨(some 104), .mv (.t 6), none⟩,
    ⟨(some 2), .mv (.t 104), none⟩,
    ⟨(some 3), .mv (.k (.c (.d (.int .i64 0)))), none⟩])
  (.ret))))))),
  [(2, none), (3, none)]⟩
theorem cf_runi11 : compFn Try.prog { own := [6, 11], comp := [], frz := [5], nils := [30] } Try.f35 = some sf_runi11 := by kernel_rfl
set_option maxHeartbeats 3200000 in
theorem runi11_c (G : Glob) (l : List Spn) (hl : l.length ≤ 9223372036854775807) : Den Try.prog G 35 [.sl (l.map spD)] (.tup [.c (.fr 2 ((uniLs l).map spD)), .c (.d (.int .i64 (uniEr l)))]) := by
  refine den_walk Try.func35 cf_runi11 rfl rfl ?_
  simp only [sf_runi11, putAll, wx, wy, wz, stV, seval, IntWalk.iteOmega, IntWalk.toNatUp, reduceCtorEq]
  refine loop_st (unaSt l) (fun i => l.length - i) (fun i => i ≤ l.length ∧ allOk (l.take i) = true) 0 ⟨Nat.zero_le _, rfl⟩ ?_ ?_
  · refine ent_l (fun i => i) ?_ ?_ rfl rfl <;> simp only [wx, wex, wez, stV, seval, IntWalk.iteOmega, IntWalk.toNatUp, reduceCtorEq]
  · rintro i ⟨hi, hok⟩
    by_cases hlt : i < l.length
    · have g := getS hlt
      have c := rsv_c G (l.getD i (0, 0)).1 (l.getD i (0, 0)).2
      have ht := allOk_take hlt
      rw [hok, Bool.true_and] at ht
      cases hv : okP (l.getD i (0, 0))
      · have hv' : okP ((l.getD i (0, 0)).1, (l.getD i (0, 0)).2) = false := hv
        rw [hv'] at c
        have ha := allOk_f hlt hv
        have e1 : uniEr l = 3 := if_neg (by rw [ha]; simp)
        have e2 : uniLs l = [] := if_neg (by rw [ha]; simp)
        rw [e1, e2]
        simp only [lp_runi11_0, unaSt, wx, wy, wz, stV, seval, IntWalk.iteOmega, IntWalk.toNatUp, reduceCtorEq, get_map, g, spD]
        refine st_call (c) rfl (.inl rfl) ?_
        simp only [wx, wy, wz, stV, seval, IntWalk.iteOmega, IntWalk.toNatUp, reduceCtorEq]
        exact ret_f2 (by simp only [wx, wy, wz, stV, seval, IntWalk.iteOmega, IntWalk.toNatUp, reduceCtorEq]) (by simp only [wx, wy, wz, stV, seval, IntWalk.iteOmega, IntWalk.toNatUp, reduceCtorEq])
      · have hv' : okP ((l.getD i (0, 0)).1, (l.getD i (0, 0)).2) = true := hv
        rw [hv'] at c
        rw [hv] at ht
        simp only [lp_runi11_0, unaSt, wx, wy, wz, stV, seval, IntWalk.iteOmega, IntWalk.toNatUp, reduceCtorEq, get_map, g, spD]
        refine st_call (c) rfl (.inl rfl) ?_
        simp only [wx, wy, wz, stV, seval, IntWalk.iteOmega, IntWalk.toNatUp, reduceCtorEq]
        refine lop_next (i + 1) (by omega) ⟨by omega, ht⟩ (ent_l (fun i => i) ?_ ?_ rfl rfl) <;> simp only [wx, wex, wez, stV, seval, IntWalk.iteOmega, IntWalk.toNatUp, reduceCtorEq]
    · have hil : l.take i = l := List.take_of_length_le (by omega)
      rw [hil] at hok
      have hr := allOk_le hok
      by_cases hb : l.length ≤ 64
      · have hb' : ((l.length : Int) > 64) = False := eq_false (by omega)
        have e1 : uniEr l = 0 := by unfold uniEr; rw [if_pos hok, if_pos hb]
        have e2 : uniLs l = unionL l := if_pos ⟨hok, hb⟩
        rw [e1, e2]
        have asz := allSz_sp l
        have hlen : l.length * 16 ≤ 140737488355328 := by omega
        simp only [lp_runi11_0, unaSt, wx, wy, wz, stV, seval, IntWalk.iteOmega, IntWalk.toNatUp, reduceCtorEq, hb', srcV, asz]
        have hV : ∀ p ∈ l, p.1 ≤ p.2 := fun p hp => (hr p hp).2.2
        obtain ⟨u1, u2⟩ := union_k hV
        refine loop_st (uneSt l) (fun k => (unjN l k).rest.length) (fun k => k ≤ unionK l) 0 (Nat.zero_le _) ?_ ?_
        · have e0 : (unjN l 0).rest = l := rfl
          have e00 : (unjN l 0).out = [] := rfl
          refine ent_l (fun _ => 48) ?_ ?_ rfl rfl <;> simp only [wx, wex, wez, stV, seval, IntWalk.iteOmega, IntWalk.toNatUp, reduceCtorEq, e0, e00]
        · intro k hk
          have ko := unjN_ok hV k (fun i hi => u2 i (by omega))
          have kl := ko.len
          by_cases hke : k < unionK l
          · have hne := u2 k hke
            obtain ⟨le1, le2, le3⟩ := least_ok hne
            have hR : ∀ p ∈ (unjN l k).rest, (leastP (unjN l k).rest).1 ≤ p.1 ∧ p.1 ≤ p.2 ∧ p.2 ≤ 1152921504606846976 := fun p hp => ⟨le3 p hp, ko.ok p hp, (hr p (ko.mem p hp)).2.1⟩
            have hP := hR _ le2
            have hPl := (hr _ (ko.mem _ le2)).1
            obtain ⟨j1, j2, j3⟩ := join_ok hP.2.1 (fun q hq => ⟨(hR q hq).1, (hR q hq).2.1⟩)
            have hnext : unjN l (k + 1) = unjS (unjN l k) := rfl
            have hdec := (unj_ok ko hne).2
            rw [← hnext] at hdec
            have ho1 : (unjN l (k + 1)).out = (unjN l k).out ++ [((leastP (unjN l k).rest).1, (joinP (leastP (unjN l k).rest) (unjN l k).rest).hi)] := rfl
            have hr1 : (unjN l (k + 1)).rest = (joinP (leastP (unjN l k).rest) (unjN l k).rest).left := rfl
            have hRl : (unjN l k).rest.length ≤ 64 := by omega
            have hOl : (unjN l k).out.length ≤ 64 := by omega
            have hR0 : 0 < (unjN l k).rest.length := List.length_pos_iff.2 hne
            have hgt : (((unjN l k).rest.length : Int) > 0) = True := eq_true (by omega)
            have ePl : leastP (unjN l k).rest = (unjN l k).rest.getD (leastI (unjN l k).rest) (0, 0) := rfl
            have eu : uneSt l k = ⟨ofL [(5, .w (.c (.d (.sl ((unjN l k).rest.map spD))))), (6, .w (.c (.own 1 2 0 (unjN l k).out.length)))], hL [(1, .row 2 ((unjN l k).out.map spD))], uL [1]⟩ := rfl
            have en : (unjN l (k + 1)).rest.length < (unjN l k).rest.length := hdec
            rw [eu]
            generalize hQQ : (unjN l k).rest = R at *
            generalize hOO : (unjN l k).out = O at *
            simp only [lp_runi11_4, wx, wy, wz, stV, seval, IntWalk.iteOmega, IntWalk.toNatUp, reduceCtorEq, hgt]
            refine loop_st (unbSt O R) (fun i => R.length - i) (fun i => 1 ≤ i ∧ i ≤ R.length) 1 ⟨Nat.le_refl _, hR0⟩ ?_ ?_
            · have e1 : leastN R 1 = 0 := by unfold leastN leastS; split <;> rfl
              refine ent_l (fun i => i) ?_ ?_ rfl rfl <;> simp only [wx, wex, wez, stV, seval, IntWalk.iteOmega, IntWalk.toNatUp, reduceCtorEq, e1]
            · rintro i ⟨hi0, hi⟩
              have hln := leastN_le R i
              by_cases hlt : i < R.length
              · have g1 := getS hlt
                have g2 := getS (l := R) (j := leastN R i) (by omega)
                have hs : leastN R (i + 1) = leastS R (leastN R i) i := rfl
                unfold leastS at hs
                by_cases hc : (R.getD i (0, 0)).1 < (R.getD (leastN R i) (0, 0)).1
                · rw [if_pos hc] at hs
                  have hln2 : (leastN R i : Int) < (R.length : Int) := by omega
                  simp only [lp_runi11_1, unbSt, wx, wy, wz, stV, seval, IntWalk.iteOmega, IntWalk.toNatUp, reduceCtorEq, get_map, g1, g2, spD]
                  refine lop_next (i + 1) (by omega) ⟨by omega, by omega⟩ (ent_l (fun i => i) ?_ ?_ rfl rfl) <;> simp only [wx, wex, wez, stV, seval, IntWalk.iteOmega, IntWalk.toNatUp, reduceCtorEq, hs]
                · rw [if_neg hc] at hs
                  have hln2 : (leastN R i : Int) < (R.length : Int) := by omega
                  simp only [lp_runi11_1, unbSt, wx, wy, wz, stV, seval, IntWalk.iteOmega, IntWalk.toNatUp, reduceCtorEq, get_map, g1, g2, spD]
                  refine lop_next (i + 1) (by omega) ⟨by omega, by omega⟩ (ent_l (fun i => i) ?_ ?_ rfl rfl) <;> simp only [wx, wex, wez, stV, seval, IntWalk.iteOmega, IntWalk.toNatUp, reduceCtorEq, hs]
              · have hil : i = R.length := by omega
                have hle : leastN R i = leastI R := by rw [hil]; rfl
                have g1 := getS (l := R) (j := leastI R) le1
                rw [← ePl] at g1
                have hli : (leastI R : Int) < (R.length : Int) := by omega
                simp only [lp_runi11_1, unbSt, wx, wy, wz, stV, seval, IntWalk.iteOmega, IntWalk.toNatUp, reduceCtorEq, hle, get_map, g1, spD]
                obtain ⟨P1, P2⟩ : ∃ P1 P2, (leastP R).1 = P1 ∧ (leastP R).2 = P2 := ⟨_, _, rfl, rfl⟩
                have hJ : joinP (leastP R) R = passN (leastP R).2 R (joinE (leastP R) R) := rfl
                have hm := pass_ok (L := (leastP R).1) (h := (leastP R).2) (rest := R) hP.2.1 (fun q hq => ⟨(hR q hq).1, (hR q hq).2.1⟩)
                have hpn := passN_ok (L := (leastP R).1) (h := (leastP R).2) (rest := R) hP.2.1 (fun q hq => ⟨(hR q hq).1, (hR q hq).2.1⟩)
                refine loop_st (undSt O (leastP R).1 (leastP R).2 R) (fun m => passM (passN (leastP R).2 R m)) (fun m => m ≤ joinE (leastP R) R) 0 (Nat.zero_le _) ?_ ?_
                · have e1 : (passN (leastP R).2 R 0).left = R := rfl
                  have e2 : (passN (leastP R).2 R 0).hi = (leastP R).2 := rfl
                  have e3 : (passN (leastP R).2 R 0).again = true := rfl
                  refine ent_l (fun i => if i = 1 then 1 else 72) ?_ ?_ rfl rfl <;> simp only [wx, wex, wez, stV, seval, IntWalk.iteOmega, IntWalk.toNatUp, reduceCtorEq, e1, e2, e3]
                · intro m hmE
                  obtain ⟨q1, q2, q3, q4⟩ := pas_in hP.2.1 hP.2.2 hR m
                  have hnx : passN (leastP R).2 R (m + 1) = passS (passN (leastP R).2 R m) := rfl
                  have hsa := scn_pass (leastP R).2 R m
                  by_cases hme : m < joinE (leastP R) R
                  · have hag := j3 m hme
                    have hdm := (hm _ (hpn m)).2.1 hag
                    rw [← hnx] at hdm
                    have eud : undSt O (leastP R).1 (leastP R).2 R m = ⟨ofL [(5, .w (.c (.d (.sl ((passN (leastP R).2 R m).left.map spD))))), (6, .w (.c (.own 1 2 0 O.length))), (9, .w (.c (.ptr 2 1 0 0))), (10, .w (.c (.d (.bool (passN (leastP R).2 R m).again))))],
                      hL [(1, .row 2 (O.map spD)), (2, .box [.d (.int .i64 (leastP R).1), .d (.int .i64 (passN (leastP R).2 R m).hi)])], uL [1, 2]⟩ := rfl
                    rw [eud]
                    generalize hAA : (passN (leastP R).2 R m).left = A at *
                    generalize hHH : (passN (leastP R).2 R m).hi = Hh at *
                    simp only [lp_runi11_3, wx, wy, wz, stV, seval, IntWalk.iteOmega, IntWalk.toNatUp, reduceCtorEq, hag]
                    refine loop_st (uncSt O (leastP R).1 A Hh) (fun i => A.length - i) (fun i => i ≤ A.length) 0 (Nat.zero_le _) ?_ ?_
                    · have e1 : (scnN A Hh 0).again = false := rfl
                      have e2 : (scnN A Hh 0).left = [] := rfl
                      have e3 : (scnN A Hh 0).hi = Hh := rfl
                      refine ent_l (fun i => if i = 1 then 1 else if i = 2 then 2 else 88) ?_ ?_ rfl rfl <;> simp only [wx, wex, wez, stV, seval, IntWalk.iteOmega, IntWalk.toNatUp, reduceCtorEq, e1, e2, e3]
                    · intro n hn
                      obtain ⟨s1, s2, s3⟩ := scn_in q1 q2 q4 n
                      by_cases hnl : n < A.length
                      · have ga := getS hnl
                        have hsu := scnN_succ (h := Hh) hnl
                        have hq := q4 _ (getS_mem hnl)
                        by_cases hj : (A.getD n (0, 0)).1 ≤ (scnN A Hh n).hi + 1
                        · rw [scanS_j hj] at hsu
                          have f1 : (scnN A Hh (n + 1)).hi = max (scnN A Hh n).hi (A.getD n (0, 0)).2 := by rw [hsu]
                          have f2 : (scnN A Hh (n + 1)).again = ((scnN A Hh n).again || decide ((A.getD n (0, 0)).2 > (scnN A Hh n).hi)) := by rw [hsu]
                          have f3 : (scnN A Hh (n + 1)).left = (scnN A Hh n).left := by rw [hsu]
                          have gd := getS hnl
                          have fs : spD (A.getD n (0, 0)) = .agg [.int .i64 (A.getD n (0, 0)).1, .int .i64 (A.getD n (0, 0)).2] := rfl
                          generalize hXX : A.getD n (0, 0) = X at *
                          have h1d : (scnN A Hh n).left.length ≤ 64 := by omega
                          by_cases hgt : X.2 > (scnN A Hh n).hi
                          · rw [decide_eq_true hgt, Bool.or_true] at f2
                            cases hag2 : (scnN A Hh n).again
                            · simp only [lp_runi11_2, uncSt, wx, wy, wz, stV, seval, IntWalk.iteOmega, IntWalk.toNatUp, reduceCtorEq, get_map, ga, fs, hag2, eq_true hgt, max2]
                              refine lop_next (n + 1) (by omega) (by omega) (ent_l (fun i => i) ?_ ?_ rfl rfl) <;> simp only [wx, wex, wez, stV, seval, IntWalk.iteOmega, IntWalk.toNatUp, reduceCtorEq, f1, f2, f3]
                            · simp only [lp_runi11_2, uncSt, wx, wy, wz, stV, seval, IntWalk.iteOmega, IntWalk.toNatUp, reduceCtorEq, get_map, ga, fs, hag2, eq_true hgt, max2]
                              refine lop_next (n + 1) (by omega) (by omega) (ent_l (fun i => i) ?_ ?_ rfl rfl) <;> simp only [wx, wex, wez, stV, seval, IntWalk.iteOmega, IntWalk.toNatUp, reduceCtorEq, f1, f2, f3]
                          · rw [decide_eq_false hgt, Bool.or_false] at f2
                            cases hag2 : (scnN A Hh n).again <;> rw [hag2] at f2
                            · simp only [lp_runi11_2, uncSt, wx, wy, wz, stV, seval, IntWalk.iteOmega, IntWalk.toNatUp, reduceCtorEq, get_map, ga, fs, hag2, eq_false hgt, max2]
                              refine lop_next (n + 1) (by omega) (by omega) (ent_l (fun i => i) ?_ ?_ rfl rfl) <;> simp only [wx, wex, wez, stV, seval, IntWalk.iteOmega, IntWalk.toNatUp, reduceCtorEq, f1, f2, f3]
                            · simp only [lp_runi11_2, uncSt, wx, wy, wz, stV, seval, IntWalk.iteOmega, IntWalk.toNatUp, reduceCtorEq, get_map, ga, fs, hag2, eq_false hgt, max2]
                              refine lop_next (n + 1) (by omega) (by omega) (ent_l (fun i => i) ?_ ?_ rfl rfl) <;> simp only [wx, wex, wez, stV, seval, IntWalk.iteOmega, IntWalk.toNatUp, reduceCtorEq, f1, f2, f3]
                        · rw [scanS_n hj] at hsu
                          have f1 : (scnN A Hh (n + 1)).hi = (scnN A Hh n).hi := by rw [hsu]
                          have f2 : (scnN A Hh (n + 1)).again = (scnN A Hh n).again := by rw [hsu]
                          have f3 : (scnN A Hh (n + 1)).left = (scnN A Hh n).left ++ [A.getD n (0, 0)] := by rw [hsu]
                          have f4 : ((scnN A Hh n).left ++ [A.getD n (0, 0)]).map spD = (scnN A Hh n).left.map spD ++ [spD (A.getD n (0, 0))] := List.map_append
                          have f5 : ((scnN A Hh n).left ++ [A.getD n (0, 0)]).length = (scnN A Hh n).left.length + 1 := List.length_append
                          have hj' : (scnN A Hh n).hi + 1 < (A.getD n (0, 0)).1 := by omega
                          have fs : spD (A.getD n (0, 0)) = .agg [.int .i64 (A.getD n (0, 0)).1, .int .i64 (A.getD n (0, 0)).2] := rfl
                          rw [fs] at f4
                          generalize hXX : A.getD n (0, 0) = X at *
                          have h1d : (scnN A Hh n).left.length ≤ 64 := by omega
                          simp only [lp_runi11_2, uncSt, wx, wy, wz, stV, seval, IntWalk.iteOmega, IntWalk.toNatUp, reduceCtorEq, get_map, ga, fs, srcV]
                          refine lop_next (n + 1) (by omega) (by omega) (ent_l (fun i => if i = 3 then 784 else i) ?_ ?_ rfl rfl) <;> simp only [wx, wex, wez, stV, seval, IntWalk.iteOmega, IntWalk.toNatUp, reduceCtorEq, f1, f2, f3, f4, f5]
                      · have hnA : n = A.length := by omega
                        have f0 : scnN A Hh n = passN (leastP R).2 R (m + 1) := by rw [hnA]; exact hsa
                        have as2 := allSz_sp (passN (leastP R).2 R (m + 1)).left
                        simp only [lp_runi11_2, uncSt, wx, wy, wz, stV, seval, IntWalk.iteOmega, IntWalk.toNatUp, reduceCtorEq, f0]
                        refine lop_next (m + 1) (by omega) (by omega) (ent_l (fun i => i) ?_ ?_ rfl rfl) <;> simp only [wx, wex, wez, stV, seval, IntWalk.iteOmega, IntWalk.toNatUp, reduceCtorEq]
                  · have hmE2 : m = joinE (leastP R) R := by omega
                    have hag := j2
                    rw [hJ, ← hmE2] at hag
                    rw [hJ, ← hmE2] at ho1 hr1
                    have f4 : (O ++ [((leastP R).1, (passN (leastP R).2 R m).hi)]).map spD = O.map spD ++ [.agg [.int .i64 (leastP R).1, .int .i64 (passN (leastP R).2 R m).hi]] := List.map_append
                    have f5 : (O ++ [((leastP R).1, (passN (leastP R).2 R m).hi)]).length = O.length + 1 := List.length_append
                    simp only [lp_runi11_3, undSt, wx, wy, wz, stV, seval, IntWalk.iteOmega, IntWalk.toNatUp, reduceCtorEq, hag, srcV]
                    refine lop_next (k + 1) (by have := congrArg List.length hQQ; omega) (by omega) (ent_l (fun _ => 824) ?_ ?_ rfl rfl) <;> simp only [uneSt, wx, wex, wez, stV, seval, IntWalk.iteOmega, IntWalk.toNatUp, reduceCtorEq, ho1, hr1, f4, f5]
          · have hkE : k = unionK l := by omega
            have e1 : (unjN l k).rest = [] := by rw [hkE]; exact u1
            have e2 : (unjN l k).out = unionL l := by rw [hkE]; rfl
            simp only [lp_runi11_4, uneSt, wx, wy, wz, stV, seval, IntWalk.iteOmega, IntWalk.toNatUp, reduceCtorEq, e1, e2]
            exact ret_f2 (by simp only [wx, wy, wz, stV, seval, IntWalk.iteOmega, IntWalk.toNatUp, reduceCtorEq]) (by simp only [wx, wy, wz, stV, seval, IntWalk.iteOmega, IntWalk.toNatUp, reduceCtorEq])
      · have hb' : ((l.length : Int) > 64) = True := eq_true (by omega)
        have e1 : uniEr l = 8 := by unfold uniEr; rw [if_pos hok, if_neg hb]
        have e2 : uniLs l = [] := if_neg (fun h => hb h.2)
        rw [e1, e2]
        simp only [lp_runi11_0, unaSt, wx, wy, wz, stV, seval, IntWalk.iteOmega, IntWalk.toNatUp, reduceCtorEq, hb']
        exact ret_f2 (by simp only [wx, wy, wz, stV, seval, IntWalk.iteOmega, IntWalk.toNatUp, reduceCtorEq]) (by simp only [wx, wy, wz, stV, seval, IntWalk.iteOmega, IntWalk.toNatUp, reduceCtorEq])
end Go.Proofs.Ytaodfdnncdelnaa
