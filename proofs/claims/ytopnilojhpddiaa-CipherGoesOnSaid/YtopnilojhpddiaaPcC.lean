/- Layer 4 on data: blocks, which is ranged over: by the kit's walk. Own work. -/
import Derived.RangeFuncBox
import Derived.RangeFuncLeaves
import Derived.Shelf.Abstract
import Derived.OwnWalkIn
import Derived.TacticsInMore
import Derived.LoopNIn
import Derived.LoopIn
import Derived.Test.YtopnilojhpddiaaPcB
set_option linter.unusedVariables false
set_option linter.unusedSimpArgs false
namespace Go.Proofs.Ytopnilojhpddiaa
open Go.RowKit
attribute [local go_sem] Oper.semAt_some

/-- A list in blocks. -/
def blockL (b : List UInt8) (i : Nat) : List UInt8 := (b.drop (16 * i)).take 16
def blocksL (b : List UInt8) : List (List UInt8) := (List.range ((b.length + 15) / 16)).map (blockL b)
theorem blocksL_len (b : List UInt8) : (blocksL b).length = (b.length + 15) / 16 := by unfold blocksL; rw [List.length_map, List.length_range]
theorem blocksL_get {b : List UInt8} {i : Nat} (h : 16 * i < b.length) : (blocksL b)[i]? = some (blockL b i) := by
  unfold blocksL; rw [List.getElem?_map, List.getElem?_range (by omega)]; rfl
def sf_blks : SFn := ⟨1, 4,
  .seq (.reg [⟨(some 1), .box .roBox (.t 0), none⟩,
    ⟨(some 2), .mv .u, none⟩])
  (.seq (.reg [⟨(some 3), .clos 45 [(.t 1)], none⟩,
    ⟨(some 2), .mv (.t 3), none⟩])
  (.ret)),
  [(2, none)]⟩
theorem cf_blks : compFn Try.prog { own := [], comp := [], frz := [], nils := [] } Try.f33 = some sf_blks := by kernel_rfl
theorem blks_c (G : Glob) (b : List UInt8) : Den Try.prog G 33 [.sl (b.map bD)] (.w (.c (.d (.fn 45 [.ref [.sl (b.map bD)]])))) := by
  refine den_walk Try.func33 cf_blks rfl rfl ?_
  simp only [sf_blks, putAll, wx, wy, wz, stV, seval, IntWalk.iteOmega, IntWalk.toNatUp, reduceCtorEq]
  exact ret_d1 (by simp only [wx, wy, wz, stV, seval, IntWalk.iteOmega, IntWalk.toNatUp, reduceCtorEq])
theorem roundW {n n' : Nat} {P : Program} {l : Nat} {f : FuncId} {tmps : Array Value} {assign body : Code} {w : World} {R : Ending → World → Prop} (h : RoundIn Fence.wide n P l f tmps assign body w R) : RoundIn Fence.wide n' P l f tmps assign body w R :=
  ⟨h.1, fun c cs _ => h.2 c cs (room_wide _)⟩
theorem reads_sub {S : Cells} {w : World} {vb vo : Nat} {b : List UInt8} (h : RowAt S w ⟨vb, vo, none⟩ 1 (b.map bD)) {i n c : Nat} (h1 : i + n ≤ b.length) (hn : n ≤ c) (hc : c ≤ maxLen) :
    Reads S w (.slice (some ((⟨vb, vo, none⟩ : Addr).add i)) n c) (.sl (((b.drop i).take n).map bD)) := by
  have hl : (((b.drop i).take n).map bD).length = n := by rw [List.length_map, List.length_take, List.length_drop]; omega
  have hrow : RowAt S w ((⟨vb, vo, none⟩ : Addr).add i) 1 (((b.drop i).take n).map bD) := by
    intro j hj
    have hj' : j < n := by omega
    have e : (((b.drop i).take n).map bD)[j] = (b.map bD)[i + j]'(by rw [List.length_map]; omega) := by simp
    rw [e]
    obtain ⟨k1, k2⟩ := h (i + j) (by rw [List.length_map]; omega)
    refine ⟨k1, ?_⟩
    rw [add_none]
    have : vo + (i + j) * 1 = vo + i + j * 1 := by omega
    simp only at k2 ⊢
    rw [this] at k2
    exact k2
  have := Reads.of_row (cap := c) hrow (by omega) hc
  rw [hl] at this
  exact this
theorem blki_seq (G : Glob) (b : List UInt8) (hb : b.length ≤ 140737488355328) : SeqD Try.prog G 45 [.ref [.sl (b.map bD)]] ((blocksL b).map fun l => [D.sl (l.map bD)]) := by
  refine ⟨enters_of Try.func45 (by kernel_rfl) rfl, ?_⟩
  intro n w S lb hS hG hlb l J Jx hkeep hgrow hxgrow hround h0
  obtain ⟨p, rfl, hp⟩ : ∃ p, lb = [p] ∧ Reads S w p (.ref [.sl (b.map bD)]) := by
    cases hlb with
    | cons h1 h2 => cases h2; exact ⟨_, rfl, h1⟩
  obtain ⟨ad, rfl, hcells⟩ := hp.cellsAt
  obtain ⟨sv, hSad, hcell, hsv⟩ := hcells 0 (by simp)
  simp only [List.getElem_cons_zero, Nat.add_zero] at hSad hcell hsv
  refine callsIn_of_wp Try.func45 rfl trivial ?_
  simp only [Try.ntmps45, List.size_toArray, List.length_cons, List.length_nil, Nat.reduceAdd, Nat.reduceSub, Array.replicate_succ, Array.replicate_zero, List.push_toArray, List.append_toArray, List.nil_append, List.cons_append]
  obtain ⟨ab, ao, asp⟩ := ad
  have hcellW : ∀ k W, J k W → W.cell? ⟨ab, ao, asp⟩ = some sv := fun k W hj => (hkeep k W hj).1.at hSad hcell
  have hcell0 := hcellW 0 w h0
  gi_wp2
  rcases hsv.row with ⟨rfl, hnil⟩ | ⟨av, cap, sz, rfl, hcap, hmax, hrow⟩
  · gi_loopw [3] (fun i wr => i = .int .i64 0 ∧ J 0 wr) (fun i _ => 0)
    case atStart => exact ⟨rfl, h0⟩
    case round =>
      obtain ⟨rfl, hJs⟩ := hrel
      have hc := hcellW 0 wr hJs
      gi_wp2
      go_end0
      have hb0 : b = [] := by simpa using hnil
      subst hb0
      exact ⟨⟨_, rfl⟩, .inl hJs⟩
  · have hlen : (b.map bD).length = b.length := List.length_map _
    rw [hlen] at hcap hcellW hcell0
    obtain ⟨vb, vo, vs⟩ := av
    gi_loopw [3] (fun i wr => ∃ k : Nat, 16 * k < b.length + 16 ∧ i = .int .i64 ((16 * k : Nat) : Int) ∧ J k wr) (fun i _ => b.length + 16 - (intOf i).toNat)
    case atStart => exact ⟨0, by omega, rfl, h0⟩
    case round =>
      obtain ⟨k, hk, rfl, hJs⟩ := hrel
      have hc := hcellW k wr hJs
      by_cases hlt : 16 * k < b.length
      · have hb1 : 0 < b.length := by omega
        obtain ⟨c1, c2⟩ := hrow 0 (by rw [hlen]; exact hb1)
        obtain rfl : sz = 1 := by rw [← c1, List.getElem_map]; rfl
        have hvs : vs = none := by
          obtain ⟨v, _, c3, _⟩ := c2 0 (by rw [List.getElem_map]; exact Nat.one_pos)
          exact cell_spot c3
        subst hvs
        have hrowW := hrow.keep (hkeep k wr hJs).1
        have hget : ((blocksL b).map fun l => [D.sl (l.map bD)])[k]? = some [D.sl ((blockL b k).map bD)] := by
          rw [List.getElem?_map, blocksL_get hlt]; rfl
        by_cases hfull : 16 * k + 16 ≤ b.length
        · obtain ⟨fn, tmps, assign, body, hy, hR⟩ := hround k _ wr [.slice (some ⟨vb, vo + 16 * k, none⟩) 16 (cap - 16 * k)] hget hJs (by
            rw [← add_none]
            exact .cons (reads_sub hrowW (by omega) (by omega) (by omega)) .nil)
          have hy : (Instr.yield l #[.slice (some ⟨vb, vo + 16 * k, none⟩) 16 (cap - 16 * k)]).run Try.prog wr = .ok (.round l fn tmps assign body) wr := hy
          gi_wp2
          refine ⟨fun h => (by cases h), (roundW hR).mono ?_⟩
          rintro e W3 (⟨rfl, hJ3⟩ | ⟨rfl, hJx3⟩)
          · gi_wp2
            go_roundw
            case rel => exact ⟨k + 1, by omega, by simp; omega, hJ3⟩
            case measure => simp [intOf]; omega
          · gi_wp2
            refine bodyPost_ret (results_none rfl _ _ _) rfl ?_
            exact ⟨⟨_, rfl⟩, .inr hJx3⟩
        · obtain ⟨fn, tmps, assign, body, hy, hR⟩ := hround k _ wr [.slice (some ⟨vb, vo + 16 * k, none⟩) (b.length - 16 * k) (cap - 16 * k)] hget hJs (by
            have e : blockL b k = (b.drop (16 * k)).take (b.length - 16 * k) := by
              unfold blockL
              rw [List.take_of_length_le (by rw [List.length_drop]; omega), List.take_of_length_le (by rw [List.length_drop]; omega)]
            rw [e, ← add_none]
            exact .cons (reads_sub hrowW (by omega) (by omega) (by omega)) .nil)
          have hy : (Instr.yield l #[.slice (some ⟨vb, vo + 16 * k, none⟩) (b.length - 16 * k) (cap - 16 * k)]).run Try.prog wr = .ok (.round l fn tmps assign body) wr := hy
          gi_wp2
          refine ⟨fun h => (by cases h), (roundW hR).mono ?_⟩
          rintro e W3 (⟨rfl, hJ3⟩ | ⟨rfl, hJx3⟩)
          · gi_wp2
            go_roundw
            case rel => exact ⟨k + 1, by omega, by simp; omega, hJ3⟩
            case measure => simp [intOf]; omega
          · gi_wp2
            refine bodyPost_ret (results_none rfl _ _ _) rfl ?_
            exact ⟨⟨_, rfl⟩, .inr hJx3⟩
      · gi_wp2
        go_end0
        have e : ((blocksL b).map fun l => [D.sl (l.map bD)]).length = k := by
          rw [List.length_map, blocksL_len]; omega
        rw [e]
        exact ⟨⟨_, rfl⟩, .inl hJs⟩
end Go.Proofs.Ytopnilojhpddiaa
