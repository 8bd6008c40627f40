/- Texts of one's own, merged: from: Package slices on data: Backward over structs of two numbers, which is ranged over (the kit's walk). Own work. -/
import Derived.RangeFuncBox
import Derived.RangeFuncLeaves
import Derived.Shelf.Abstract
import Derived.OwnWalkIn
import Derived.TacticsInMore
import Derived.LoopNIn
import Derived.LoopIn
import Derived.Test.YtjebhdadegfbdaaMg8
import Derived.Test.YtjebhdadegfbdaaMg9
import Derived.Test.YtjebhdadegfbdaaMg10
set_option linter.unusedVariables false
set_option linter.unusedSimpArgs false
namespace Go.Proofs.Ytjebhdadegfbdaa
open Go.RowKit
attribute [local go_sem] Oper.semAt_some

/-- What the rounds get: numbers and elements, from the last one on. -/
def bkR (l : List Lp) (k : Nat) : List D := [.int .i64 ((l.length - 1 - k : Nat) : Int), spD (lpG l (l.length - 1 - k))]
def bkL (l : List Lp) : List (List D) := (List.range l.length).map (bkR l)
theorem bkL_len (l : List Lp) : (bkL l).length = l.length := by unfold bkL; rw [List.length_map, List.length_range]
theorem bkL_get {l : List Lp} {k : Nat} (h : k < l.length) : (bkL l)[k]? = some (bkR l k) := by
  unfold bkL; rw [List.getElem?_map, List.getElem?_range h]; rfl
def sf_bkw : SFn := ⟨1, 4,
  .seq (.reg [⟨(some 1), .box .roBox (.t 0), none⟩,
    ⟨(some 2), .mv .u, none⟩])
  (.seq (.reg [⟨(some 3), .clos 97 [(.t 1)], none⟩,
    ⟨(some 2), .mv (.t 3), none⟩])
  (.ret)),
  [(2, none)]⟩
theorem cf_bkw : compFn Try.prog { own := [], comp := [], frz := [], nils := [] } Try.f86 = some sf_bkw := by kernel_rfl
theorem bkw_c (G : Glob) (l : List Lp) : Den Try.prog G 86 [.sl (l.map spD)] (.w (.c (.d (.fn 97 [.ref [.sl (l.map spD)]])))) := by
  refine den_walk Try.func86 cf_bkw rfl rfl ?_
  simp only [sf_bkw, putAll, wx, wy, wz, stV, seval, IntWalk.iteOmega, IntWalk.toNatUp, reduceCtorEq]
  exact ret_d1 (by simp only [wx, wy, wz, stV, seval, IntWalk.iteOmega, IntWalk.toNatUp, reduceCtorEq])
theorem roundB {n n' : Nat} {P : Program} {l : Nat} {f : FuncId} {tmps : Array Value} {assign body : Code} {w : World} {R : Ending → World → Prop} (h : RoundIn Fence.wide n P l f tmps assign body w R) : RoundIn Fence.wide n' P l f tmps assign body w R :=
  ⟨h.1, fun c cs _ => h.2 c cs (room_wide _)⟩
theorem bki_seq (G : Glob) (l : List Lp) (hl : l.length ≤ 140737488355328) : SeqD Try.prog G 97 [.ref [.sl (l.map spD)]] (bkL l) := by
  refine ⟨enters_of Try.func97 (by kernel_rfl) rfl, ?_⟩
  intro n w S lb hS hG hlb lab J Jx hkeep hgrow hxgrow hround h0
  obtain ⟨p, rfl, hp⟩ : ∃ p, lb = [p] ∧ Reads S w p (.ref [.sl (l.map spD)]) := by
    cases hlb with
    | cons h1 h2 => cases h2; exact ⟨_, rfl, h1⟩
  obtain ⟨ad, rfl, hcells⟩ := hp.cellsAt
  obtain ⟨sv, hSad, hcell, hsv⟩ := hcells 0 (by simp)
  simp only [List.getElem_cons_zero, Nat.add_zero] at hSad hcell hsv
  refine callsIn_of_wp Try.func97 rfl trivial ?_
  simp only [Try.ntmps97, List.size_toArray, List.length_cons, List.length_nil, Nat.reduceAdd, Nat.reduceSub, Array.replicate_succ, Array.replicate_zero, List.push_toArray, List.append_toArray, List.nil_append, List.cons_append]
  obtain ⟨ab, ao, asp⟩ := ad
  have hcellW : ∀ k W, J k W → W.cell? ⟨ab, ao, asp⟩ = some sv := fun k W hj => (hkeep k W hj).1.at hSad hcell
  have hcell0 := hcellW 0 w h0
  rcases hsv.row with ⟨rfl, hnil⟩ | ⟨av, cap, sz, rfl, hcap, hmax, hrow⟩
  · have hb0 : l = [] := by simpa using hnil
    subst hb0
    gi_wp2
    gi_loopw [3] (fun i wr => i = .int .i64 (-1) ∧ J 0 wr) (fun i _ => 0)
    case atStart => exact ⟨rfl, h0⟩
    case round =>
      obtain ⟨rfl, hJs⟩ := hrel
      have hc := hcellW 0 wr hJs
      gi_wp2
      go_end0
      exact ⟨⟨_, rfl⟩, .inl hJs⟩
  · have hlen : (l.map spD).length = l.length := List.length_map _
    rw [hlen] at hcap hcellW hcell0
    obtain ⟨vb, vo, vs⟩ := av
    gi_wp2
    gi_loopw [3] (fun i wr => ∃ k : Nat, k ≤ l.length ∧ i = .int .i64 (((l.length - k : Nat) : Int) - 1) ∧ J k wr) (fun i _ => (intOf i + 1).toNat)
    case atStart => exact ⟨0, by omega, rfl, h0⟩
    case round =>
      obtain ⟨k, hk, rfl, hJs⟩ := hrel
      have hc := hcellW k wr hJs
      by_cases hlt : k < l.length
      · obtain ⟨I, hI⟩ : ∃ I, l.length = k + 1 + I := ⟨l.length - 1 - k, by omega⟩
        have eI : ((l.length - k : Nat) : Int) - 1 = (I : Int) := by omega
        rw [eI]
        have eI2 : l.length - 1 - k = I := by omega
        obtain ⟨c1, c2⟩ := hrow I (by rw [hlen]; omega)
        have eg : (l.map spD)[I]'(by rw [hlen]; omega) = spD (lpG l I) := by
          rw [List.getElem_map]
          congr 1
          have := lpG_get (l := l) (i := I) (by omega)
          rw [List.getElem?_eq_getElem (by omega)] at this
          exact Option.some.inj this
        rw [eg] at c1 c2
        rw [spD_cells] at c1 c2
        obtain rfl : sz = 2 := c1.symm
        obtain ⟨v0, d0, d1, d2⟩ := c2 0 (by simp)
        obtain ⟨v1, e0, e1, e2⟩ := c2 1 (by simp)
        simp only [List.getElem_cons_zero, List.getElem_cons_succ, Nat.add_zero] at d0 d1 d2 e0 e1 e2
        cases d2
        cases e2
        have hvs : vs = none := cell_spot d1
        subst hvs
        have hget : (bkL l)[k]? = some (bkR l k) := bkL_get hlt
        unfold bkR at hget
        rw [eI2] at hget
        have w0 := (hkeep k wr hJs).1.at d0 d1
        have w1 := (hkeep k wr hJs).1.at e0 e1
        obtain ⟨fn, tmps, assign, body, hy, hR⟩ := hround k _ wr [.int .i64 (I : Int), .agg #[.int .i64 (lpG l I).1, .int .i64 (lpG l I).2]] hget hJs (by
          refine .cons (.int _ _) (.cons ?_ .nil)
          exact ⟨[.int .i64 (lpG l I).1, .int .i64 (lpG l I).2], rfl, .cons (.int _ _) (.cons (.int _ _) .nil)⟩)
        have hy : (Instr.yield lab #[.int .i64 (I : Int), .agg #[.int .i64 (lpG l I).1, .int .i64 (lpG l I).2]]).run Try.prog wr = .ok (.round lab fn tmps assign body) wr := hy
        have hI1 : k + 1 + I ≤ l.length := by omega
        have hI2 : l.length ≤ k + 1 + I := by omega
        clear eg hI eI2
        gi_wp2
        refine ⟨fun h => (by cases h), (roundB hR).mono ?_⟩
        rintro e W3 (⟨rfl, hJ3⟩ | ⟨rfl, hJx3⟩)
        · gi_wp2
          go_roundw
          case rel =>
            refine ⟨k + 1, hlt, ?_, hJ3⟩
            congr 1; omega
          case measure => simp [intOf]
        · gi_wp2
          refine bodyPost_ret (results_none rfl _ _ _) rfl ?_
          exact ⟨⟨_, rfl⟩, .inr hJx3⟩
      · gi_wp2
        go_end0
        have e : (bkL l).length = k := by
          rw [bkL_len]; omega
        rw [e]
        exact ⟨⟨_, rfl⟩, .inl hJs⟩
end Go.Proofs.Ytjebhdadegfbdaa
