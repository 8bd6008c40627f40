/- Layer 12 on data: the program: what UTC shows. Own work. -/
import Derived.Test.YtibpaciljnfpmaaPl3
set_option linter.unusedVariables false
set_option linter.unusedSimpArgs false
namespace Go.Proofs.Ytibpaciljnfpmaa
open Go.RowKit

def utcS (f : Int) (l : List Lp) (t : Int) : Int := if utcB f l t = true then (shwN f l (t / 1048576)).1 else 0
def utcL (f : Int) (l : List Lp) (t : Int) : Bool := utcB f l t && (shwN f l (t / 1048576)).2
def utcK (f : Int) (l : List Lp) (t : Int) : Int := if utcB f l t = true then t % 1048576 else 0
theorem shw_drop {f n : Int} {l : List Lp} {i : Nat} (hi : i < l.length) (e : shwN (lastO f l i) (l.drop i) n = shwN f l n) :
    (n = (lpG l i).1 + (lpG l i).2 - 1 ∧ (lpG l i).2 > lastO f l i → shwN f l n = ((lpG l i).1 - 1, true)) ∧
    (¬ (n = (lpG l i).1 + (lpG l i).2 - 1 ∧ (lpG l i).2 > lastO f l i) → (n < (lpG l i).1 + (lpG l i).2 → shwN f l n = (n - lastO f l i, false)) ∧ (¬ n < (lpG l i).1 + (lpG l i).2 → shwN (lastO f l (i + 1)) (l.drop (i + 1)) n = shwN f l n)) := by
  rw [drop_lp hi] at e
  refine ⟨fun h => ?_, fun h => ⟨fun h2 => ?_, fun h2 => ?_⟩⟩
  · rw [← e]; exact if_pos h
  · rw [← e]
    show (if _ then _ else _) = _
    rw [if_neg h, if_pos h2]
  · rw [← e]
    show _ = (if _ then _ else _)
    rw [if_neg h, if_neg h2]; rfl
theorem shw_end {f n : Int} {l : List Lp} {i : Nat} (hi : i = l.length) (e : shwN (lastO f l i) (l.drop i) n = shwN f l n) : shwN f l n = (n - lastO f l i, false) := by
  rw [← e, hi, List.drop_length]; rfl
def lsSt (l : List Lp) (f n : Int) (i : Nat) : St := ⟨ofL [(1, .w (.c (.d (.int .i64 n)))), (4, .w (.c (.ptr 1 1 0 0))), (5, .w (.c (.d (.int .i64 (lastO f l i))))), (12, .w (.c (.d (.sl (l.map spD))))), (13, .w (.c (.d (.int .i64 (l.length : Int))))), (14, .w (.c (.d (.int .i64 (i : Int)))))],
  hL [(1, .box [.d (.int .i64 0), .d (.bool false), .d (.int .i64 0)])], uL [1]⟩
def lp_lsw_0 : SCode :=
  .seq (.reg [⟨(some 15), .bin .lss (.t 14) (.t 13), none⟩])
  (.seq (.cond (.t 15) (.skip)
   (.exit 0))
  (.seq (.block 1 (.seq (.reg [⟨(some 16), .idxSl 2 (.t 12) (.t 14), none⟩,
     ⟨(some 17), .load (.ag 2) (.t 16), none⟩,
     ⟨(some 7), .alloc [(.d (.int .i64 0)), (.d (.int .i64 0))], none⟩,
     ⟨none, .store (.ag 2) (.t 7) (.t 17), none⟩])
   (.seq (.reg [⟨(some 18), .fieldAddr 0 (.t 7), none⟩,
     ⟨(some 19), .load .sc (.t 18), none⟩,
     ⟨(some 20), .fieldAddr 1 (.t 7), none⟩,
     ⟨(some 21), .load .sc (.t 20), none⟩,
     ⟨(some 22), .bin .add (.t 19) (.t 21), none⟩,
     ⟨(some 8), .mv (.t 22), none⟩])
   (.seq (.seq (.reg [⟨(some 23), .mv (.t 1), none⟩,
     ⟨(some 24), .mv (.t 8), none⟩,
     ⟨(some 25), .bin .sub (.t 24) (.k (.c (.d (.int .i64 1)))), none⟩,
     ⟨(some 26), .bin .eql (.t 23) (.t 25), none⟩,
     ⟨(some 27), .mv (.t 26), none⟩,
     ⟨(some 28), .fieldAddr 1 (.t 7), (some (27, true))⟩,
     ⟨(some 29), .load .sc (.t 28), (some (27, true))⟩,
     ⟨(some 30), .mv (.t 5), (some (27, true))⟩,
     ⟨(some 31), .bin .gtr (.t 29) (.t 30), (some (27, true))⟩,
     ⟨(some 32), .pick (.t 27) (.t 31) (.k (.c (.d (.bool false)))), none⟩])
   (.cond (.t 32) (.seq (.reg [⟨(some 33), .fieldAddr 0 (.t 7), none⟩,
      ⟨(some 34), .load .sc (.t 33), none⟩,
      ⟨(some 35), .bin .sub (.t 34) (.k (.c (.d (.int .i64 1)))), none⟩,
      ⟨(some 36), .build [(.d (.int .i64 0)), (.d (.bool false)), (.d (.int .i64 0))] [(0, 1, (.t 35)), (1, 1, (.k (.c (.d (.bool true)))))], none⟩,
      ⟨none, .store (.ag 3) (.t 4) (.t 36), none⟩])
    (.ret))
    (.skip)))
   (.seq (.seq (.reg [⟨(some 37), .mv (.t 1), none⟩,
     ⟨(some 38), .mv (.t 8), none⟩,
     ⟨(some 39), .bin .lss (.t 37) (.t 38), none⟩])
   (.cond (.t 39) (.exit 0)
    (.skip)))
   (.reg [⟨(some 40), .fieldAddr 1 (.t 7), none⟩,
     ⟨(some 41), .load .sc (.t 40), none⟩,
     ⟨(some 5), .mv (.t 41), none⟩]))))))
  (.reg [⟨(some 42), .bin .add (.t 14) (.k (.c (.d (.int .i64 1)))), none⟩,
    ⟨(some 14), .mv (.t 42), none⟩])))
def sf_lsw : SFn := ⟨2, 47,
  .seq (.reg [⟨(some 2), .box .roBox (.t 0), none⟩,
    ⟨(some 4), .alloc [(.d (.int .i64 0)), (.d (.bool false)), (.d (.int .i64 0))], none⟩])
  (.seq (.reg [⟨(some 9), .fieldAddr 0 (.t 2), none⟩,
    ⟨(some 10), .load .sc (.t 9), none⟩,
    ⟨(some 5), .mv (.t 10), none⟩])
  (.seq (.seq (.reg [⟨(some 11), .fieldAddr 1 (.t 2), none⟩,
    ⟨(some 12), .load .sc (.t 11), none⟩,
    ⟨(some 13), .len (.t 12), none⟩,
    ⟨(some 14), .mv (.k (.c (.d (.int .i64 0)))), none⟩])
  (.block 0 (.loop lp_lsw_0)))
  (.seq (.reg [⟨(some 43), .mv (.t 1), none⟩,
    ⟨(some 44), .mv (.t 5), none⟩,
    ⟨(some 45), .bin .sub (.t 43) (.t 44), none⟩,
    ⟨(some 46), .build [(.d (.int .i64 0)), (.d (.bool false)), (.d (.int .i64 0))] [(0, 1, (.t 45))], none⟩,
    ⟨none, .store (.ag 3) (.t 4) (.t 46), none⟩])
  (.ret)))),
  [(4, (some (.ag 3)))]⟩
theorem cf_lsw : compFn Try.prog { own := [], comp := [], frz := [], nils := [] } Try.f31 = some sf_lsw := by kernel_rfl
set_option maxHeartbeats 800000 in
theorem lsw_c (G : Glob) (f : Int) (l : List Lp) (n : Int) (hl : l.length ≤ 9223372036854775807) (h : okB f l = true) (h1 : -1000000000000000000 ≤ n) (h2 : n ≤ 1000000000000000000) : Den Try.prog G 31 [lpD f l, .int .i64 n] (.w (.c (.d (.agg [.int .i64 (shwN f l n).1, .bool (shwN f l n).2, .int .i64 0])))) := by
  refine den_walk Try.func31 cf_lsw rfl rfl ?_
  unfold lpD
  simp only [sf_lsw, putAll, wx, wy, wz, stV, seval, IntWalk.iteOmega, IntWalk.toNatUp, reduceCtorEq]
  refine loop_st (lsSt l f n) (fun i => l.length - i) (fun i => i ≤ l.length ∧ shwN (lastO f l i) (l.drop i) n = shwN f l n) 0 ⟨Nat.zero_le _, rfl⟩ ?_ ?_
  · have e2 : lastO f l 0 = f := rfl
    refine ent_l (fun _ => 32) ?_ ?_ rfl rfl <;> simp only [wx, wex, wez, stV, seval, IntWalk.iteOmega, IntWalk.toNatUp, reduceCtorEq, e2]
  · rintro i ⟨hi, hok⟩
    have bl := ok_last h hi
    by_cases hlt : i < l.length
    · have g := lpG_get hlt
      have be := ok_el h hlt
      obtain ⟨s1, s2⟩ := shw_drop hlt hok
      have n2 : lastO f l (i + 1) = (lpG l i).2 := rfl
      generalize lpG l i = X at *
      obtain ⟨A, O⟩ := X
      simp only at be s1 s2 n2
      generalize hL : lastO f l i = L at *
      by_cases c1 : n = A + O - 1
      · by_cases c2 : O > L
        · rw [s1 ⟨c1, c2⟩]
          simp only [lp_lsw_0, lsSt, wx, wy, wz, stV, seval, IntWalk.iteOmega, IntWalk.toNatUp, reduceCtorEq, get_map, g, spD, hL, c1, eq_true c2]
          exact ret_d1 (by simp only [wx, wy, wz, stV, seval, IntWalk.iteOmega, IntWalk.toNatUp, reduceCtorEq])
        · obtain ⟨s3, s4⟩ := s2 (fun k => c2 k.2)
          have c3 : n < A + O := by omega
          rw [s3 c3]
          subst c1
          simp only [lp_lsw_0, lsSt, wx, wy, wz, stV, seval, IntWalk.iteOmega, IntWalk.toNatUp, reduceCtorEq, get_map, g, spD, hL, eq_false c2, eq_true c3]
          exact ret_d1 (by simp only [wx, wy, wz, stV, seval, IntWalk.iteOmega, IntWalk.toNatUp, reduceCtorEq])
      · obtain ⟨s3, s4⟩ := s2 (fun k => c1 k.1)
        by_cases c3 : n < A + O
        · rw [s3 c3]
          simp only [lp_lsw_0, lsSt, wx, wy, wz, stV, seval, IntWalk.iteOmega, IntWalk.toNatUp, reduceCtorEq, get_map, g, spD, hL, c1, eq_true c3]
          exact ret_d1 (by simp only [wx, wy, wz, stV, seval, IntWalk.iteOmega, IntWalk.toNatUp, reduceCtorEq])
        · have e := s4 c3
          simp only [lp_lsw_0, lsSt, wx, wy, wz, stV, seval, IntWalk.iteOmega, IntWalk.toNatUp, reduceCtorEq, get_map, g, spD, hL, c1, eq_false c3]
          refine lop_next (i + 1) (by omega) ⟨by omega, e⟩ (ent_l (fun i => i) ?_ ?_ rfl rfl) <;> simp only [wx, wex, wez, stV, seval, IntWalk.iteOmega, IntWalk.toNatUp, reduceCtorEq, n2]
    · rw [shw_end (by omega) hok]
      simp only [lp_lsw_0, lsSt, wx, wy, wz, stV, seval, IntWalk.iteOmega, IntWalk.toNatUp, reduceCtorEq]
      exact ret_d1 (by simp only [wx, wy, wz, stV, seval, IntWalk.iteOmega, IntWalk.toNatUp, reduceCtorEq])
def sf_lutc : SFn := ⟨2, 24,
  .seq (.reg [⟨(some 2), .box .roBox (.t 0), none⟩,
    ⟨(some 4), .alloc [(.d (.int .i64 0)), (.d (.bool false)), (.d (.int .i64 0))], none⟩,
    ⟨(some 5), .mv (.k (.c (.d (.int .i64 0)))), none⟩])
  (.seq (.seq (.reg [⟨(some 7), .load (.ag 2) (.t 2), none⟩,
    ⟨(some 8), .call 30 [(.t 7)] none, none⟩,
    ⟨(some 9), .un .not (.t 8), none⟩])
  (.cond (.t 9) (.seq (.reg [⟨(some 10), .build [(.d (.int .i64 0)), (.d (.bool false)), (.d (.int .i64 0))] [], none⟩,
     ⟨none, .store (.ag 3) (.t 4) (.t 10), none⟩,
     ⟨(some 5), .mv (.k (.c (.d (.int .i64 3)))), none⟩])
   (.ret))
   (.skip)))
  (.seq (.reg [⟨(some 11), .load (.ag 2) (.t 2), none⟩,
    ⟨(some 12), .mv (.t 1), none⟩,
    ⟨(some 13), .call 32 [(.t 12)] none, none⟩,
    ⟨(some 14), .call 31 [(.t 11), (.t 13)] none, none⟩,
    ⟨(some 6), .alloc [(.d (.int .i64 0)), (.d (.bool false)), (.d (.int .i64 0))], none⟩,
    ⟨none, .store (.ag 3) (.t 6) (.t 14), none⟩])
  (.seq (.seq (.reg [⟨(some 15), .fieldAddr 0 (.t 6), none⟩,
    ⟨(some 16), .load .sc (.t 15), none⟩,
    ⟨(some 17), .call 33 [(.t 16)] none, none⟩,
    ⟨(some 18), .un .not (.t 17), none⟩])
  (.cond (.t 18) (.seq (.reg [⟨(some 19), .build [(.d (.int .i64 0)), (.d (.bool false)), (.d (.int .i64 0))] [], none⟩,
     ⟨none, .store (.ag 3) (.t 4) (.t 19), none⟩,
     ⟨(some 5), .mv (.k (.c (.d (.int .i64 9)))), none⟩])
   (.ret))
   (.skip)))
  (.seq (.reg [⟨(some 20), .mv (.t 1), none⟩,
    ⟨(some 21), .call 34 [(.t 20)] none, none⟩,
    ⟨(some 22), .fieldAddr 2 (.t 6), none⟩,
    ⟨none, .store .sc (.t 22) (.t 21), none⟩])
  (.seq (.reg [⟨(some 23), .load (.ag 3) (.t 6), none⟩,
    ⟨none, .store (.ag 3) (.t 4) (.t 23), none⟩,
    ⟨(some 5), .mv (.k (.c (.d (.int .i64 0)))), none⟩])
  (.ret)))))),
  [(4, (some (.ag 3))), (5, none)]⟩
theorem cf_lutc : compFn Try.prog { own := [], comp := [], frz := [], nils := [] } Try.f20 = some sf_lutc := by kernel_rfl
theorem lutc_c (G : Glob) (f : Int) (l : List Lp) (t : Int) (hl : l.length ≤ 9223372036854775807) (h1 : -9223372036854775808 ≤ t) (h2 : t ≤ 9223372036854775807) : Den Try.prog G 20 [lpD f l, .int .i64 t] (.tup [.c (.d (.agg [.int .i64 (utcS f l t), .bool (utcL f l t), .int .i64 (utcK f l t)])), .c (.d (.int .i64 (utcE f l t)))]) := by
  refine den_walk Try.func20 cf_lutc rfl rfl ?_
  have c1 := lvl_c G f l hl
  unfold lpD at c1 ⊢
  unfold utcS utcL utcK utcE utcB
  cases ho : okB f l
  · rw [ho] at c1
    simp only [sf_lutc, putAll, wx, wy, wz, stV, seval, IntWalk.iteOmega, IntWalk.toNatUp, reduceCtorEq]
    refine st_call (c1) rfl (.inl rfl) ?_
    simp only [wx, wy, wz, stV, seval, IntWalk.iteOmega, IntWalk.toNatUp, reduceCtorEq]
    exact ret_d2 (by simp only [wx, wy, wz, stV, seval, IntWalk.iteOmega, IntWalk.toNatUp, reduceCtorEq]) (by simp only [wx, wy, wz, stV, seval, IntWalk.iteOmega, IntWalk.toNatUp, reduceCtorEq])
  · rw [ho] at c1
    have c2 := lsw_c G f l (t / 1048576) hl ho (by omega) (by omega)
    have c3 := lkn_c G (shwN f l (t / 1048576)).1
    unfold lpD at c2
    cases hs : secIn (shwN f l (t / 1048576)).1
    · rw [hs] at c3
      simp only [sf_lutc, putAll, wx, wy, wz, stV, seval, IntWalk.iteOmega, IntWalk.toNatUp, reduceCtorEq]
      refine st_call (c1) rfl (.inl rfl) ?_
      simp only [wx, wy, wz, stV, seval, IntWalk.iteOmega, IntWalk.toNatUp, reduceCtorEq]
      refine st_call (snd_c G t) rfl (.inl rfl) ?_
      simp only [wx, wy, wz, stV, seval, IntWalk.iteOmega, IntWalk.toNatUp, reduceCtorEq]
      refine st_call (c2) rfl (.inl rfl) ?_
      simp only [wx, wy, wz, stV, seval, IntWalk.iteOmega, IntWalk.toNatUp, reduceCtorEq]
      refine st_call (c3) rfl (.inl rfl) ?_
      simp only [wx, wy, wz, stV, seval, IntWalk.iteOmega, IntWalk.toNatUp, reduceCtorEq]
      exact ret_d2 (by simp only [wx, wy, wz, stV, seval, IntWalk.iteOmega, IntWalk.toNatUp, reduceCtorEq]) (by simp only [wx, wy, wz, stV, seval, IntWalk.iteOmega, IntWalk.toNatUp, reduceCtorEq])
    · rw [hs] at c3
      simp only [sf_lutc, putAll, wx, wy, wz, stV, seval, IntWalk.iteOmega, IntWalk.toNatUp, reduceCtorEq]
      refine st_call (c1) rfl (.inl rfl) ?_
      simp only [wx, wy, wz, stV, seval, IntWalk.iteOmega, IntWalk.toNatUp, reduceCtorEq]
      refine st_call (snd_c G t) rfl (.inl rfl) ?_
      simp only [wx, wy, wz, stV, seval, IntWalk.iteOmega, IntWalk.toNatUp, reduceCtorEq]
      refine st_call (c2) rfl (.inl rfl) ?_
      simp only [wx, wy, wz, stV, seval, IntWalk.iteOmega, IntWalk.toNatUp, reduceCtorEq]
      refine st_call (c3) rfl (.inl rfl) ?_
      simp only [wx, wy, wz, stV, seval, IntWalk.iteOmega, IntWalk.toNatUp, reduceCtorEq]
      refine st_call (prt_c G t) rfl (.inl rfl) ?_
      simp only [wx, wy, wz, stV, seval, IntWalk.iteOmega, IntWalk.toNatUp, reduceCtorEq]
      exact ret_d2 (by simp only [wx, wy, wz, stV, seval, IntWalk.iteOmega, IntWalk.toNatUp, reduceCtorEq]) (by simp only [wx, wy, wz, stV, seval, IntWalk.iteOmega, IntWalk.toNatUp, reduceCtorEq])
end Go.Proofs.Ytibpaciljnfpmaa
