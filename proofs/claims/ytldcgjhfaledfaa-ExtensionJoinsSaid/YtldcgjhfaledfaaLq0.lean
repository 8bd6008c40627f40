/- The laws of layer 17: the sanity check; short fields; numbers that are the same. Own work. -/
import Derived.Test.YtldcgjhfaledfaaPf5
import Derived.Test.YtldcgjhfaledfaaPf6
set_option linter.unusedVariables false
set_option linter.unusedSimpArgs false
namespace Go.Proofs.Ytldcgjhfaledfaa
open Go.RowKit

def sf_known17 : SFn := ⟨0, 17,
  .seq (.reg [⟨(some 0), .mv (.k (.c (.d (.bool false)))), none⟩])
  (.seq (.reg [⟨(some 4), .bldSl false 1 1 (.int .u8 0) [(0, (.k (.c (.d (.int .u8 9)))))], none⟩,
    ⟨(some 5), .build [(.d (.int .i64 0)), .nil] [(0, 1, (.k (.c (.d (.int .i64 260))))), (1, 1, (.t 4))], none⟩,
    ⟨(some 6), .bldSl false 1 2 (.agg [(.int .i64 0), (.sl [])]) [(0, (.t 5))], none⟩,
    ⟨(some 7), .call 11 [(.t 6)] none, none⟩,
    ⟨(some 3), .mv (.t 7), none⟩,
    ⟨(some 8), .extract (.t 3) 0, none⟩,
    ⟨(some 9), .extract (.t 3) 1, none⟩,
    ⟨(some 1), .mv (.t 8), none⟩,
    ⟨(some 2), .mv (.t 9), none⟩])
  (.seq (.reg [⟨(some 10), .mv (.t 2), none⟩,
    ⟨(some 11), .bin .eql (.t 10) (.k (.c (.d (.int .i64 0)))), none⟩,
    ⟨(some 12), .mv (.t 11), none⟩,
    ⟨(some 13), .mv (.t 1), (some (12, true))⟩,
    ⟨(some 14), .call 27 [(.t 13)] none, (some (12, true))⟩,
    ⟨(some 15), .bin .eql (.t 14) (.k (.c (.d (.str ⟨#[48, 49, 48, 52, 48, 48, 49, 48, 48, 57, 48, 48, 48, 48, 48, 48, 48, 48, 48, 48, 48, 48, 48, 48, 48, 48, 48, 48, 48, 48, 48, 48]⟩)))), (some (12, true))⟩,
    ⟨(some 16), .pick (.t 12) (.t 15) (.k (.c (.d (.bool false)))), none⟩,
    ⟨(some 0), .mv (.t 16), none⟩])
  (.ret))),
  [(0, none)]⟩
theorem cf_known17 : compFn Try.prog { own := [], comp := [], frz := [], nils := [] } Try.f8 = some sf_known17 := by kernel_rfl
set_option maxHeartbeats 1600000 in
theorem known17_c (G : Glob) : Den Try.prog G 8 [] (.w (.c (.d (.bool true)))) := by
  refine den_walk Try.func8 cf_known17 rfl rfl ?_
  have c1 := xenc_c G [⟨260, [9]⟩] (by decide) (fun f hf => by obtain rfl := List.mem_singleton.1 hf; decide)
  have e0 : xeE [⟨260, [9]⟩] = 0 := by decide +kernel
  have e1 : xeB [⟨260, [9]⟩] = [1, 4, 0, 16, 9, 0, 0, 0, 0, 0, 0, 0, 0, 0, 0, 0] := by decide +kernel
  have c2 := hex_c G [1, 4, 0, 16, 9, 0, 0, 0, 0, 0, 0, 0, 0, 0, 0, 0] (by decide)
  rw [show hexL [1, 4, 0, 16, 9, 0, 0, 0, 0, 0, 0, 0, 0, 0, 0, 0] = [48, 49, 48, 52, 48, 48, 49, 48, 48, 57, 48, 48, 48, 48, 48, 48, 48, 48, 48, 48, 48, 48, 48, 48, 48, 48, 48, 48, 48, 48, 48, 48] by decide +kernel] at c2
  rw [e0, e1] at c1
  generalize ([1, 4, 0, 16, 9, 0, 0, 0, 0, 0, 0, 0, 0, 0, 0, 0] : List UInt8) = L at *
  simp only [List.map_cons, List.map_nil, fdD] at c1
  rw [show bD 9 = D.int .u8 9 from rfl] at c1
  have hs : (⟨([48, 49, 48, 52, 48, 48, 49, 48, 48, 57, 48, 48, 48, 48, 48, 48, 48, 48, 48, 48, 48, 48, 48, 48, 48, 48, 48, 48, 48, 48, 48, 48] : List UInt8).toArray⟩ : ByteArray) = ⟨#[48, 49, 48, 52, 48, 48, 49, 48, 48, 57, 48, 48, 48, 48, 48, 48, 48, 48, 48, 48, 48, 48, 48, 48, 48, 48, 48, 48, 48, 48, 48, 48]⟩ := rfl
  rw [hs] at c2
  simp only [sf_known17, putAll, wx, wy, wz, stV, seval, IntWalk.iteOmega, IntWalk.toNatUp, reduceCtorEq]
  refine st_call (c1) rfl (.inl rfl) ?_
  simp only [wx, wy, wz, stV, seval, IntWalk.iteOmega, IntWalk.toNatUp, reduceCtorEq]
  refine st_call (c2) rfl (.inl rfl) ?_
  simp only [wx, wy, wz, stV, seval, IntWalk.iteOmega, IntWalk.toNatUp, reduceCtorEq]
  exact ret_d1 (by simp only [wx, wy, wz, stV, seval, IntWalk.iteOmega, IntWalk.toNatUp, reduceCtorEq])
def liF (f : Fd) : Bool := !((decide (80 < f.da.length) && decide (f.da.length < 1200)) || decide (1300 < f.da.length))
def liB (l : List Fd) : Bool := decide (l.length ≤ 30) && l.all liF
theorem liB_t {l : List Fd} (h : liB l = true) : l.length ≤ 30 ∧ ∀ f ∈ l, f.da.length ≤ 1300 := by
  unfold liB at h
  rw [Bool.and_eq_true, List.all_eq_true] at h
  refine ⟨of_decide_eq_true h.1, fun f hf => ?_⟩
  have := h.2 f hf
  unfold liF at this
  simp at this
  omega
def lghSt (l : List Fd) (i : Nat) : St := ⟨ofL [(0, .w (.c (.d (.sl (l.map fdD))))), (3, .w (.c (.d (.int .i64 (i : Int)))))], hL [], uL []⟩
def lp_lgh17_0 : SCode :=
  .seq (.seq (.reg [⟨(some 7), .mv (.t 3), none⟩,
    ⟨(some 8), .mv (.t 0), none⟩,
    ⟨(some 9), .len (.t 8), none⟩,
    ⟨(some 10), .bin .lss (.t 7) (.t 9), none⟩])
  (.cond (.t 10) (.skip)
   (.exit 0)))
  (.seq (.block 1 (.seq (.reg [⟨(some 13), .mv (.t 0), none⟩,
     ⟨(some 14), .mv (.t 3), none⟩,
     ⟨(some 15), .idxSl 2 (.t 13) (.t 14), none⟩,
     ⟨(some 16), .fieldAddr 1 (.t 15), none⟩,
     ⟨(some 17), .load .sc (.t 16), none⟩,
     ⟨(some 18), .len (.t 17), none⟩,
     ⟨(some 19), .bin .gtr (.t 18) (.k (.c (.d (.int .i64 80)))), none⟩,
     ⟨(some 20), .mv (.t 19), none⟩,
     ⟨(some 21), .mv (.t 0), (some (20, true))⟩,
     ⟨(some 22), .mv (.t 3), (some (20, true))⟩,
     ⟨(some 23), .idxSl 2 (.t 21) (.t 22), (some (20, true))⟩,
     ⟨(some 24), .fieldAddr 1 (.t 23), (some (20, true))⟩,
     ⟨(some 25), .load .sc (.t 24), (some (20, true))⟩,
     ⟨(some 26), .len (.t 25), (some (20, true))⟩,
     ⟨(some 27), .bin .lss (.t 26) (.k (.c (.d (.int .i64 1200)))), (some (20, true))⟩,
     ⟨(some 28), .pick (.t 20) (.t 27) (.k (.c (.d (.bool false)))), none⟩,
     ⟨(some 29), .mv (.t 28), none⟩,
     ⟨(some 30), .mv (.t 0), (some (29, false))⟩,
     ⟨(some 31), .mv (.t 3), (some (29, false))⟩,
     ⟨(some 32), .idxSl 2 (.t 30) (.t 31), (some (29, false))⟩,
     ⟨(some 33), .fieldAddr 1 (.t 32), (some (29, false))⟩,
     ⟨(some 34), .load .sc (.t 33), (some (29, false))⟩,
     ⟨(some 35), .len (.t 34), (some (29, false))⟩,
     ⟨(some 36), .bin .gtr (.t 35) (.k (.c (.d (.int .i64 1300)))), (some (29, false))⟩,
     ⟨(some 37), .pick (.t 29) (.k (.c (.d (.bool true)))) (.t 36), none⟩])
   (.cond (.t 37) (.seq (.reg [⟨(some 2), .mv (.k (.c (.d (.bool false)))), none⟩])
    (.ret))
    (.skip))))
  (.reg [⟨(some 11), .mv (.t 3), none⟩,
    ⟨(some 12), .bin .add (.t 11) (.k (.c (.d (.int .i64 1)))), none⟩,
    ⟨(some 3), .mv (.t 12), none⟩]))
def sf_lgh17 : SFn := ⟨1, 38,
  .seq (.reg [⟨(some 2), .mv (.k (.c (.d (.bool false)))), none⟩])
  (.seq (.seq (.reg [⟨(some 4), .mv (.t 0), none⟩,
    ⟨(some 5), .len (.t 4), none⟩,
    ⟨(some 6), .bin .gtr (.t 5) (.k (.c (.d (.int .i64 30)))), none⟩])
  (.cond (.t 6) (.seq (.reg [⟨(some 2), .mv (.k (.c (.d (.bool false)))), none⟩])
   (.ret))
   (.skip)))
  (.seq (.seq (.reg [⟨(some 3), .mv (.k (.c (.d (.int .i64 0)))), none⟩])
  (.block 0 (.loop lp_lgh17_0)))
  (.seq (.reg [⟨(some 2), .mv (.k (.c (.d (.bool true)))), none⟩])
  (.ret)))),
  [(2, none)]⟩
theorem cf_lgh17 : compFn Try.prog { own := [], comp := [], frz := [], nils := [] } Try.f7 = some sf_lgh17 := by kernel_rfl
set_option maxHeartbeats 1600000 in
theorem lgh17_c (G : Glob) (l : List Fd) : Den Try.prog G 7 [.sl (l.map fdD)] (.w (.c (.d (.bool (liB l))))) := by
  refine den_walk Try.func7 cf_lgh17 rfl rfl ?_
  rcases Nat.lt_or_ge 30 l.length with h30 | h30
  · have e : liB l = false := by unfold liB; rw [decide_eq_false (by omega)]; rfl
    have g : ((l.length : Int) > 30) = True := eq_true (by omega)
    rw [e]
    simp only [sf_lgh17, putAll, wx, wy, wz, stV, seval, IntWalk.iteOmega, IntWalk.toNatUp, reduceCtorEq, g]
    exact ret_d1 (by simp only [wx, wy, wz, stV, seval, IntWalk.iteOmega, IntWalk.toNatUp, reduceCtorEq])
  · have g : ((l.length : Int) > 30) = False := eq_false (by omega)
    simp only [sf_lgh17, putAll, wx, wy, wz, stV, seval, IntWalk.iteOmega, IntWalk.toNatUp, reduceCtorEq, g]
    refine loop_st (lghSt l) (fun i => l.length - i) (fun i => i ≤ l.length ∧ ∀ f ∈ l.take i, liF f = true) 0 ⟨Nat.zero_le _, fun f hf => by cases hf⟩ ?_ ?_
    · refine ent_l (fun i => 0) ?_ ?_ rfl rfl <;> simp only [wx, wex, wez, stV, seval, IntWalk.iteOmega, IntWalk.toNatUp, reduceCtorEq]
    · rintro i ⟨hi, hpre⟩
      by_cases hlt : i < l.length
      · have gf := getF hlt
        have hm := getF_mem hlt
        have hbad : liF (l.getD i default) = false → liB l = false := fun e => by
          unfold liB
          rw [Bool.and_eq_false_iff]
          right
          rw [List.all_eq_false]
          exact ⟨_, hm, by rw [e]; decide⟩
        have hgood : liF (l.getD i default) = true → ∀ f ∈ l.take (i + 1), liF f = true := fun e f hf => by
          rw [take_snoc hlt, List.mem_append, List.mem_singleton] at hf
          rcases hf with hf | rfl
          · exact hpre f hf
          · exact e
        clear hm hpre
        generalize l.getD i default = x at *
        by_cases h80 : 80 < x.da.length
        · have g1 : ((x.da.length : Int) > 80) = True := eq_true (by omega)
          by_cases h12 : x.da.length < 1200
          · have g2 : (x.da.length : Int) < 1200 := by omega
            have e := hbad (by unfold liF; simp; omega)
            rw [e]
            clear hbad hgood
            simp only [lp_lgh17_0, lghSt, wx, wy, wz, stV, seval, IntWalk.iteOmega, IntWalk.toNatUp, reduceCtorEq, get_map, gf, fdD, g1]
            exact ret_d1 (by simp only [wx, wy, wz, stV, seval, IntWalk.iteOmega, IntWalk.toNatUp, reduceCtorEq])
          · have g2 : ((x.da.length : Int) < 1200) = False := eq_false (by omega)
            by_cases h13 : 1300 < x.da.length
            · have g3 : ((x.da.length : Int) > 1300) = True := eq_true (by omega)
              have e := hbad (by unfold liF; simp; omega)
              rw [e]
              clear hbad hgood
              simp only [lp_lgh17_0, lghSt, wx, wy, wz, stV, seval, IntWalk.iteOmega, IntWalk.toNatUp, reduceCtorEq, get_map, gf, fdD, g1, g2, g3]
              exact ret_d1 (by simp only [wx, wy, wz, stV, seval, IntWalk.iteOmega, IntWalk.toNatUp, reduceCtorEq])
            · have g3 : ((x.da.length : Int) > 1300) = False := eq_false (by omega)
              have e := hgood (by unfold liF; simp; omega)
              clear hbad hgood
              simp only [lp_lgh17_0, lghSt, wx, wy, wz, stV, seval, IntWalk.iteOmega, IntWalk.toNatUp, reduceCtorEq, get_map, gf, fdD, g1, g2, g3]
              refine lop_next (i + 1) (by omega) ⟨by omega, e⟩ (ent_l (fun _ => 0) ?_ ?_ rfl rfl) <;> simp only [wx, wex, wez, stV, seval, IntWalk.iteOmega, IntWalk.toNatUp, reduceCtorEq]
        · have g1 : ((x.da.length : Int) > 80) = False := eq_false (by omega)
          have g3 : ((x.da.length : Int) > 1300) = False := eq_false (by omega)
          have e := hgood (by unfold liF; simp; omega)
          clear hbad hgood
          simp only [lp_lgh17_0, lghSt, wx, wy, wz, stV, seval, IntWalk.iteOmega, IntWalk.toNatUp, reduceCtorEq, get_map, gf, fdD, g1, g3]
          refine lop_next (i + 1) (by omega) ⟨by omega, e⟩ (ent_l (fun _ => 0) ?_ ?_ rfl rfl) <;> simp only [wx, wex, wez, stV, seval, IntWalk.iteOmega, IntWalk.toNatUp, reduceCtorEq]
      · have e : liB l = true := by
          unfold liB
          rw [decide_eq_true h30, Bool.true_and, List.all_eq_true]
          rw [List.take_of_length_le (by omega)] at hpre
          exact hpre
        rw [e]
        simp only [lp_lgh17_0, lghSt, wx, wy, wz, stV, seval, IntWalk.iteOmega, IntWalk.toNatUp, reduceCtorEq]
        exact ret_d1 (by simp only [wx, wy, wz, stV, seval, IntWalk.iteOmega, IntWalk.toNatUp, reduceCtorEq])
def lisSt (a b : List Int) (i : Nat) : St := ⟨ofL [(0, .w (.c (.d (.sl (a.map zD))))), (1, .w (.c (.d (.sl (b.map zD))))), (5, .w (.c (.d (.int .i64 (i : Int)))))], hL [], uL []⟩
def lp_lis17_0 : SCode :=
  .seq (.seq (.reg [⟨(some 11), .mv (.t 5), none⟩,
    ⟨(some 12), .mv (.t 0), none⟩,
    ⟨(some 13), .len (.t 12), none⟩,
    ⟨(some 14), .bin .lss (.t 11) (.t 13), none⟩])
  (.cond (.t 14) (.skip)
   (.exit 0)))
  (.seq (.block 1 (.seq (.reg [⟨(some 17), .mv (.t 0), none⟩,
     ⟨(some 18), .mv (.t 5), none⟩,
     ⟨(some 19), .idxSl 1 (.t 17) (.t 18), none⟩,
     ⟨(some 20), .load .sc (.t 19), none⟩,
     ⟨(some 21), .mv (.t 1), none⟩,
     ⟨(some 22), .mv (.t 5), none⟩,
     ⟨(some 23), .idxSl 1 (.t 21) (.t 22), none⟩,
     ⟨(some 24), .load .sc (.t 23), none⟩,
     ⟨(some 25), .bin .neq (.t 20) (.t 24), none⟩])
   (.cond (.t 25) (.seq (.reg [⟨(some 4), .mv (.k (.c (.d (.bool false)))), none⟩])
    (.ret))
    (.skip))))
  (.reg [⟨(some 15), .mv (.t 5), none⟩,
    ⟨(some 16), .bin .add (.t 15) (.k (.c (.d (.int .i64 1)))), none⟩,
    ⟨(some 5), .mv (.t 16), none⟩]))
def sf_lis17 : SFn := ⟨2, 26,
  .seq (.reg [⟨(some 4), .mv (.k (.c (.d (.bool false)))), none⟩])
  (.seq (.seq (.reg [⟨(some 6), .mv (.t 0), none⟩,
    ⟨(some 7), .len (.t 6), none⟩,
    ⟨(some 8), .mv (.t 1), none⟩,
    ⟨(some 9), .len (.t 8), none⟩,
    ⟨(some 10), .bin .neq (.t 7) (.t 9), none⟩])
  (.cond (.t 10) (.seq (.reg [⟨(some 4), .mv (.k (.c (.d (.bool false)))), none⟩])
   (.ret))
   (.skip)))
  (.seq (.seq (.reg [⟨(some 5), .mv (.k (.c (.d (.int .i64 0)))), none⟩])
  (.block 0 (.loop lp_lis17_0)))
  (.seq (.reg [⟨(some 4), .mv (.k (.c (.d (.bool true)))), none⟩])
  (.ret)))),
  [(4, none)]⟩
theorem cf_lis17 : compFn Try.prog { own := [], comp := [], frz := [], nils := [] } Try.f19 = some sf_lis17 := by kernel_rfl
set_option maxHeartbeats 1600000 in
theorem lis17_c (G : Glob) (a : List Int) (ha : a.length ≤ 1000000) : Den Try.prog G 19 [.sl (a.map zD), .sl (a.map zD)] (.w (.c (.d (.bool true)))) := by
  refine den_walk Try.func19 cf_lis17 rfl rfl ?_
  simp only [sf_lis17, putAll, wx, wy, wz, stV, seval, IntWalk.iteOmega, IntWalk.toNatUp, reduceCtorEq]
  refine loop_st (lisSt a a) (fun i => a.length - i) (fun i => i ≤ a.length) 0 (Nat.zero_le _) ?_ ?_
  · refine ent_l (fun i => 0) ?_ ?_ rfl rfl <;> simp only [wx, wex, wez, stV, seval, IntWalk.iteOmega, IntWalk.toNatUp, reduceCtorEq]
  · intro i hi
    by_cases hlt : i < a.length
    · have g : a[i]? = some a[i] := List.getElem?_eq_getElem hlt
      generalize a[i] = x at *
      simp only [lp_lis17_0, lisSt, wx, wy, wz, stV, seval, IntWalk.iteOmega, IntWalk.toNatUp, reduceCtorEq, get_map, g, zD]
      refine lop_next (i + 1) (by omega) (by omega) (ent_l (fun _ => 0) ?_ ?_ rfl rfl) <;> simp only [wx, wex, wez, stV, seval, IntWalk.iteOmega, IntWalk.toNatUp, reduceCtorEq]
    · simp only [lp_lis17_0, lisSt, wx, wy, wz, stV, seval, IntWalk.iteOmega, IntWalk.toNatUp, reduceCtorEq]
      exact ret_d1 (by simp only [wx, wy, wz, stV, seval, IntWalk.iteOmega, IntWalk.toNatUp, reduceCtorEq])
end Go.Proofs.Ytldcgjhfaledfaa
